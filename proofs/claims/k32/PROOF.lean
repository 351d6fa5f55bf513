import PyProof.Rows.All
import Wide.All
import OpenK.AllK
import Wide.FinOn
import Lean
import PyProof.EqAt
import PyProof.EqKinds
import PyProof.TupleCall
import PyProof.ListMulRoad
import KE.KDictOf
import KE.KEqDict
import PyProof.DictTruth
import KE.LcSums
import PyProof.StrWalks
import PyProof.FString4
import KE.KTabLook
import PyProof.Rows.ZipGen
import PyProof.MaxThree
import PyProof.ConsumeWalk
import PySem.Challenge.RW_blamewise_k32_whole_each_by_its_rule
open PySem PySem.Spec PyProof.Rows
set_option compiler.extract_closed false
noncomputable section
local macro_rules|`($d:declaration)=>do let r:=d.raw;let k:=r[1].getKind;if (k==`Lean.Parser.Command.definition||k==`Lean.Parser.Command.abbrev)&&r[0][4].getNumArgs==0 then return r.setArg 0 (r[0].setArg 4 (Lean.mkNullNode #[Lean.mkNode `Lean.Parser.Command.noncomputable #[Lean.mkAtom "noncomputable"]])) else Lean.Macro.throwUnsupported
set_option hygiene false
local macro_rules|`($a<|>$b)=>`(A $a $b)
abbrev Fg:=PySem.W.Frag
abbrev NK:=List (Str×NameKind)
abbrev ZZ:=@if_pos
abbrev ZY:=@if_neg
abbrev ZX:=@absurd
abbrev ZW:=@decide_eq_true
abbrev ZV:=@decide_eq_false
abbrev ZU:=@beq_eq_false_iff_ne
abbrev ZT:=@beq_self_eq_true
abbrev ZS:=@congrArg
set_option Elab.async false
set_option linter.all false
set_option maxRecDepth 100000
set_option maxHeartbeats 8000000
set_option Elab.async false
set_option linter.all false
set_option maxRecDepth 100000
namespace L2
abbrev Key:=Sum Int Str
def im:Key→Value→Bool
 | .inl k,v=>Value.isInt k v
 | .inr x,v=>Value.isStrOf x v
def Bv (w:World):Key→Int
 | .inl k=>hashInt k
 | .inr x=>hashStr w x
theorem aH:∀ {k} {v},im k v=true→(∃ i t,k=Sum.inl i∧v=Value.int i t)∨(∃ x t,k=Sum.inr x∧v=Value.str x t)
 | .inl i,v,h=>by
   obtain ⟨t,e⟩:=Value.isInt_shape (k:=i) (v:=v) h
   exact .inl ⟨i,t,rfl,e⟩
 | .inr x,v,h=>by
   obtain ⟨t,e⟩:=Value.isStrOf_shape (x:=x) (v:=v) h
   exact .inr ⟨x,t,rfl,e⟩
theorem oI (i) (t):im (.inl i) (.int i t)=true:=by simp [im,Value.isInt]
theorem oJ (x) (t):im (.inr x) (.str x t)=true:=by simp [im,Value.isStrOf]
theorem wM (a b):decide ((Sum.inl a:Key)=Sum.inl b)=(a == b):=by
 by_cases e:a=b
 ·subst e;simp
 ·have h:¬ (Sum.inl a:Key)=Sum.inl b:=fun q=>e (Sum.inl.inj q)
  rw [ZV h]
  exact (ZU.mpr e).symm
theorem wR (a b):decide ((Sum.inr a:Key)=Sum.inr b)=decide (a=b):=by
 by_cases e:a=b
 ·subst e;simp
 ·have h:¬ (Sum.inr a:Key)=Sum.inr b:=fun q=>e (Sum.inr.inj q)
  rw [ZV h,ZV e]
theorem wP (a) (b):decide ((Sum.inl a:Key)=Sum.inr b)=false:=ZV (fun q=>nomatch q)
theorem wQ (a) (b):decide ((Sum.inr a:Key)=Sum.inl b)=false:=ZV (fun q=>nomatch q)
def ba (prog:Program) (w:World):PySem.KeyKind prog w Key where
 is:=im
 hash:=Bv w
 inj:=fun v a b ha hb=>by
  rcases aH ha with ⟨i,t,rfl,rfl⟩ | ⟨x,t,rfl,rfl⟩
  ·rcases aH hb with ⟨j,u,rfl,e⟩ | ⟨y,u,rfl,e⟩
   ·injection e with e1 _;rw [e1]
   ·exact nomatch e
  ·rcases aH hb with ⟨j,u,rfl,e⟩ | ⟨y,u,rfl,e⟩
   ·exact nomatch e
   ·injection e with e1 _;rw [e1]
 byValue:=fun k v h=>by
  rcases aH h with ⟨i,t,rfl,rfl⟩ | ⟨x,t,rfl,rfl⟩ <;> rfl
 pyHash:=fun hv h=>by
  rcases aH hv with ⟨i,t,rfl,rfl⟩ | ⟨x,t,rfl,rfl⟩
  ·exact wpAny_pyHash_int h
  ·exact wpAny_pyHash_str h
 eqBool:=fun hu hv h=>by
  rcases aH hu with ⟨i,t,rfl,rfl⟩ | ⟨x,t,rfl,rfl⟩
  ·rcases aH hv with ⟨j,u,rfl,rfl⟩ | ⟨y,u,rfl,rfl⟩
   ·rw [wM] at h;exact wpAny_eqBool_int h
   ·rw [wP] at h;exact SeqAt.EqAt.int_str i t y u _ _ _ _ h
  ·rcases aH hv with ⟨j,u,rfl,rfl⟩ | ⟨y,u,rfl,rfl⟩
   ·rw [wQ] at h;exact SeqAt.EqAt.str_int x t j u _ _ _ _ h
   ·rw [wR] at h;exact wpAny_eqBool_str h
 «strs»:=fun k x t v h=>by
  rcases aH h with ⟨i,u,rfl,e⟩ | ⟨y,u,rfl,e⟩
  ·exact nomatch e
  ·injection e with e1 _
   subst e1
   cases v <;> rfl
theorem ke (prog) (w) (i) (t):(ba prog w).is (.inl i) (.int i t)=true:=oI i t
theorem kf (prog) (w) (x) (t):(ba prog w).is (.inr x) (.str x t)=true:=oJ x t
end L2
namespace L2
structure Mod (K:Fg) (mg:Str→Option Value) (base:Heap):Prop where
 kin:K.In base
 glob:base.Ns mainGlobals mg
 blt:∃ mb,base.Ns builtinsNs mb∧∀ x:Str,x≠"__name__"→mb x=bootBuiltins x
 nolimit:base.NoLimit
def frs (l:List Env):List Addr:=l.filterMap (·.frame)
def Vis (sc:Scope) (x:Str):Prop:=sc.names.lookup x=some .local∨sc.names.lookup x=some .cell∨sc.names.lookup x=some .free
def Loc (sc:Scope) (x:Str):Prop:=sc.names.lookup x=some .local∨sc.names.lookup x=some .cell
def kM (env:Env) (h:Heap) (m:Str→Option Value) (x:Str) (u:Value):Prop:=
 (env.kindOf x=some .local∧m x=some u)∨((env.kindOf x=some .cell∨env.kindOf x=some .free)∧∃ c,env.cells.lookup x=some c∧h.IsCell c (some u))
section
variable {X:Cx} {pins:List (Addr×Obj)} {σ:List (Option V)} {H H':Hp} {s:Shared} {h':Heap}
theorem gj {N:List Str} (hN:N.Nodup) {i j:Nat} {x:Str} (a:N[i]? = some x) (b:N[j]? = some x):i=j:=by
 obtain ⟨h1,e1⟩:=List.getElem?_eq_some_iff.mp a
 obtain ⟨h2,e2⟩:=List.getElem?_eq_some_iff.mp b
 exact (List.getElem_inj hN).mp (e1.trans e2.symm)
end
theorem thn (h:wpAny M A t Q E s) (hQ:∀ a s,Q a s→Q' a s):wpAny M A t Q' E s:=wpAny_mono h hQ fun _ _ x=>x
end L2
namespace L2
theorem jQ (ho:s.heap.get? it=some o) (hc:o.cls = .type n) (hd:o.data = .fields vs)
 (hn:["enumerate","zip","dict_itemiterator","dict_reverseitemiterator","odict_iterator","itertools.zip_longest","itertools.pairwise"].contains n=false) (hQ:Q () s):wpAny M A (letOwnedTupleGo tg (.ref it) u) Q E s:=by
 unfold letOwnedTupleGo
 cases tg <;> first
  | exact wpAny_pure hQ
  | (cases u <;> first
   | exact wpAny_pure hQ
   | (refine wpAny_bind (wpAny_load ho ?_)
      rw [hc,hd]
      show wpAny M A (if (["enumerate","zip","dict_itemiterator","dict_reverseitemiterator","odict_iterator","itertools.zip_longest","itertools.pairwise"].contains n && vs[0]? == some (rawInt _))=true then _ else _) Q E s
      rw [ZY (by intro h;rw [hn,Bool.false_and] at h;cases h)]
      exact wpAny_pure hQ))
end L2
namespace L2
section
variable {X:Cx} {a b c:Expr} {ta tb tc:TE} {pos:Pos}
def vW (i j:Int):Prop:=(-(2 ^ 64)<i∧i<2 ^ 64)∨(-(2 ^ 64)<j∧j<2 ^ 64)
theorem vW.ok (h:vW i j):IntMulOk i j:=by
 rcases h with ⟨h1,h2⟩ | ⟨h1,h2⟩
 ·exact .of_left (intBits_le_64 h1 h2)
 ·exact .of_right (intBits_le_64 h1 h2)
end
section
variable {X:Cx} {a b c:Expr} {ta tb tc:TE} {pos:Pos}
theorem jd:(sizeLine:Nat)<2 ^ 63:=by rw [sizeLine_eq];decide
end
end L2
namespace L2
structure kN (h:Heap) (x dx C:Addr) (mA:Str→Option Value):Prop where
 obj:h.get? x=some (PySem.W.instObj C dx)
 ns:h.Ns1 dx mA
 ne:dx≠x
theorem iu {h:Heap} {dx:Addr} {mA:Str→Option Value} (n:h.Ns1 dx mA):∃ od,h.get? dx=some od∧∀ name,PySem.W.lookIn name od=some (mA name):=by
 obtain ⟨o,es,ep,ho,hd,hk,_,hm⟩:=n
 refine ⟨o,ho,fun name=>?_⟩
 have e:=hm name
 unfold nsFind findBy at e
 rw [← Array.find?_toList] at e
 unfold PySem.W.lookIn
 rw [hd]
 dsimp only
 split
 ·rename_i y q
  rw [q] at e
  exact ZS some e
 ·rename_i q
  rw [q] at e
  have a:es.toList.any (·.refKey)=false:=by
   rw [List.any_eq_false]
   intro y hy
   obtain ⟨z,t,hkey⟩:=hk y (Array.mem_toList_iff.mp hy)
   simp [DictEntry.refKey,hkey]
  have a':¬ es.toList.any (·.refKey)=true:=by rw [a];exact Bool.false_ne_true
  rw [ZY a']
  exact ZS some e
theorem kN.look (I:kN h x dx C mA):∃ od,PySem.W.InstAt h x (PySem.W.instObj C dx) C (some od)∧∀ name,PySem.W.lookIn name od=some (mA name):=
 let ⟨od,ho,hl⟩:=iu I.ns
 ⟨od,⟨I.obj,rfl,rfl,ho⟩,hl⟩
section
variable {prog:Program} {w:World} {A:Around} {E:Value→Shared→Prop} {s:Shared} {K:Fg} {x dx C f:Addr} {mA:Str→Option Value} {name:Str} {v:Value}
theorem sX (X:K.In s.heap) (I:kN s.heap x dx C mA) (hg:PySem.W.plainGet K C name=true) (hh:PySem.W.hasDictIn K C=true)
 (ha:PySem.W.findIn K (.ref C) name=some none) (hv:mA name=some v) (hv':PySem.W.handedIn v=true) (h:Q v { s with toks:=s.toks+1 }) :
 wpAny (model prog w) A (getAttr (.ref x) name expr) Q E s:=by
 obtain ⟨od,J,hl⟩:=I.look
 exact PySem.W.get_value X J (PySem.W.plainGet_of hg).1 (PySem.W.findObj_own hh ha rfl (by rw [hl,hv])) hv' h
theorem qg (X:K.In s.heap) (I:kN s.heap x dx C mA) (hg:PySem.W.plainGet K C name=true)
 (hf:PySem.W.findIn K (.ref C) name=some (some (.ref f))) (ht:PySem.W.isFn K (.ref f)=true) (hv:mA name=none) (h:Q (.ref f,[.ref x]) s) :
 wpAny (model prog w) A (getMethod (.ref x) name pl) Q E s:=by
 obtain ⟨od,J,hl⟩:=I.look
 exact PySem.W.method_fn X J (PySem.W.plainGet_of hg).1 (PySem.W.plainGet_of hg).2 hf (beq_iff_eq.mp ht) (by show (PySem.W.lookIn name od).map (·.isSome)=some false;rw [hl,hv];rfl) h
theorem uI (X:K.In s.heap) (I:kN s.heap x dx C mA)
 (hs:PySem.W.findIn K (.ref C) "__setattr__" = some (some (.builtin "object.__setattr__"))) (hp:PySem.W.plainOver K C=true) (ht:PySem.W.takerIn K C name=some none) (hh:PySem.W.hasDictIn K C=true)
 (hw:PySem.Within mA ns) (hsz:ns.length≤sizeLine)
 (h:∀ h',kN h' x dx C (fun y=>if y=name then some v else mA y)→Heap.SameBut dx s.heap h'→Q () { s with heap:=h',toks:=s.toks+2 }) :
 wpAny (model prog w) A (setAttr (.ref x) name v) Q E s:=by
 obtain ⟨od,J,hl⟩:=I.look
 refine PySem.W.set_plain X J hs (PySem.W.osa_open (s:={ s with toks:=s.toks+1 }) (r:=none) X J hp ht fun b=>?_)
 obtain ⟨cd,hc,hd'⟩:=PySem.W.any_some hh
 have hx:s.heap.get? x=some ⟨.ref C,some dx,.plain,#[]⟩:=I.obj
 refine wpAny_bind (wpAny_pure (wpAny_bind (wpAny_bind (wpAny_loadPart hx (wpAny_bind (PySem.W.Looks.here (s:={ s with toks:=s.toks+1 }) (PySem.W.looks_clsIn X hc) ?_))))))
 rw [hd']
 refine wpAny_pure (a:=some dx) (wpAny_bind (wpAny_pure (wpAny_bind ?_)))
 refine wpAny_nsSet1 (s:={ s with toks:=s.toks+1 }) I.ns fun h' hn2 hs2=>?_
 obtain ⟨oD,esD,epD,hoD,hdD,hcD⟩:=hn2.count (PySem.Within.cons name v hw)
 refine wpAny_bind (wpAny_lookBehind hoD (by rw [hdD];exact pastItsLine_dict (Nat.le_trans hcD (by rw [List.length_cons];omega))) ?_)
 exact wpAny_pure (h _ ⟨(hs2.2 _ (Ne.symm I.ne)).trans I.obj,hn2,I.ne⟩ hs2)
theorem rc (X:K.In s.heap) (hm:PySem.W.makesIn K C=true)
 (hi:PySem.W.findIn K (.ref C) "__init__" = some (some (.ref f))) (hf:PySem.W.typeIn K (.ref f)=some (.type "function"))
 (h:codeAny (model prog w) (A.under (.builtin "type.__call__" ⟨.ref C :: vs,kw⟩)) (.call (.ref f) ⟨.ref (s.heap.objs.size+1) :: vs,kw⟩) (PySem.W.InitBack (s.heap.objs.size+1) R)
  { s with heap:=(s.heap.push PySem.W.emptyDict).push (PySem.W.instObj C s.heap.objs.size) }) :
 codeAny (model prog w) A (.call (.ref C) ⟨vs,kw⟩) R s:=by
 obtain ⟨hh,g,d,t,os⟩:=s
 exact PySem.W.make_core (PySem.W.makes_of X hm) (PySem.W.looks_findIn X hi) (fun self=>PySem.W.bind_fn X self hf) (.inl rfl) h
end
structure Cls (K:Fg) (C:Addr):Prop where
 pg:PySem.W.plainGet K C Str.empty=true
 hd:PySem.W.hasDictIn K C=true
 po:PySem.W.plainOver K C=true
 sa:PySem.W.findIn K (.ref C) "__setattr__" = some (some (.builtin "object.__setattr__"))
theorem Cls.get {K:Fg} {C:Addr} (c:Cls K C) (f:Str):PySem.W.plainGet K C f=true:=c.pg
def cP (K:Fg) (C:Addr) (f:Str):Prop:=PySem.W.findIn K (.ref C) f=some none
theorem cP.taker {K:Fg} {C:Addr} {f:Str} (n:cP K C f):PySem.W.takerIn K C f=some none:=by
 unfold PySem.W.takerIn
 rw [show PySem.W.findIn K (.ref C) f=some none from n]
 rfl
structure yK (K:Fg) (C:Addr) (m:Str) (f:Addr):Prop where
 at_:PySem.W.findIn K (.ref C) m=some (some (.ref f))
 fn:PySem.W.isFn K (.ref f)=true
 kp:PySem.W.keepIn K (.ref f)=true
section
variable {X:Cx} {pins:List (Addr×Obj)} {σ:St} {H:Hp} {s:Shared} {a C dx:Addr} {fs:List (Str×V)} {f:Str} {v:V} {A:Around} {E:Value→Shared→Prop}
theorem sC (hb:attributeBase e f env (eval e env)=eval e env)
 (h:wpAny (model prog w) A (eval e env) (fun o s₁=>wpAny (model prog w) A (getAttr o f true) Q E s₁) E s):wpAny (model prog w) A (eval (.Attribute e f pos) env) Q E s:=
 Attribute_any_ h (by rw [arm_eval_Attribute,hb])
end
end L2
namespace L2
structure bg (k:Nat) (A:Around):Prop where
 hd:A.handled=none
 dp:A.depth+k+5<recursionLimit
 un:A.units+16 * k+200<cLine
theorem bg.mono (r:bg k A) (h:j≤k):bg j A:=⟨r.hd,by have:=r.dp;omega,by have:=r.un;omega⟩
theorem bg.deeper (r:bg (k+1) A) (env):bg k (A.deeper env):=
 ⟨r.hd,by have:=r.dp;show A.depth+1+k+5<_;omega,by have:=r.un;show A.units+3+16 * k+200<_;omega⟩
theorem lA {A:Around} {C:Addr} {us:List Value} {kw:List (Str×Value)}:(A.under (.builtin "type.__call__" ⟨.ref C :: us,kw⟩)).depth=A.depth+1:=by
 first | rfl | simp [Around.under,Code.weight,Code.isCreation,Code.isGuard,Code.isCaller,Code.frames,Code.isFrame,guardIds]
theorem lB {A:Around} {C:Addr} {us:List Value} {kw:List (Str×Value)}:(A.under (.builtin "type.__call__" ⟨.ref C :: us,kw⟩)).units=A.units+1:=by
 first | rfl | simp [Around.under,Code.cUnits,Code.frames,Code.isFrame]
theorem bg.make (r:bg (k+1) A) (C) (us) (kw):bg k (A.under (.builtin "type.__call__" ⟨.ref C :: us,kw⟩)):=
 ⟨r.hd,by have:=r.dp;rw [lA];omega,by have:=r.un;rw [lB];omega⟩
theorem bg.depth (r:bg k A):A.depth<recursionLimit:=by have:=r.dp;omega
def b6 (K:Fg) (fd:FuncData) (ps:List Str) (ds:List Value):Prop:=
 ∀ (s:Shared) (us:List Value),K.In s.heap→(us ++ ds).length=ps.length→BindsTo s fd ⟨us,[]⟩ (ps.zip (us ++ ds))
theorem b6.all {K:Fg} {fd:FuncData} {ps:List Str} (h:∀ us:List Value,us.length=ps.length→bindArgs fd ⟨us,[]⟩=pure (ps.zip us)):b6 K fd ps []:=fun s us _ hl=>by
 rw [List.append_nil] at hl ⊢
 exact .of_eq (h us hl)
section
variable {X:Cx} {CX:CXT} {k:Nat} {f C:Addr} {fd:FuncData} {ps:List Str} {sp:Sp} {dvs:List V} {ds:List Value} {E:XK} {x m:Str} {p pos apos:Pos} {e o:Expr} {es:List Expr} {ta:TE} {t:TA}
structure Mk (K:Fg) (C f:Addr):Prop where
 makes:PySem.W.makesIn K C=true
 init:PySem.W.findIn K (.ref C) "__init__" = some (some (.ref f))
 fn:PySem.W.isFn K (.ref f)=true
 kp:PySem.W.keepIn K (.ref C)=true
end
structure cZ (N P:List Str) (sc:Scope):Prop where
 kind:sc.kind = .function
 co:sc.isCoroutine=false
 gen:sc.isGenerator=false
 nd:N.Nodup
 pre:N.take P.length=P
 par:∀ x∈P,sc.names.lookup x=some .local∨sc.names.lookup x=some .cell
 nofree:∀ y∈sc.names,y.2≠.free
theorem hV {kindOf:Str→Option NameKind} {x:Str}:∀ {binds:List (Str×Value)} {m:Str→Option Value},(∀ v,(x,v) ∉ binds)→bindL kindOf binds m x=m x
 | [],_,_=>rfl
 | (n,v) :: r,m,h=>by
   unfold bindL
   rw [hV fun w hw=>h w (List.mem_cons_of_mem _ hw)]
   split
   ·have:x≠n:=by rintro rfl;exact h v List.mem_cons_self
    simp [this]
   ·rfl
theorem hO {kindOf:Str→Option NameKind} {x:Str}:∀ {binds:List (Str×Value)} {m:Str→Option Value},(∀ v,(x,v) ∉ binds)→bindC kindOf binds m x=m x
 | [],_,_=>rfl
 | (n,v) :: r,m,h=>by
   unfold bindC
   rw [hO fun w hw=>h w (List.mem_cons_of_mem _ hw)]
   split
   ·rfl
   ·have:x≠n:=by rintro rfl;exact h v List.mem_cons_self
    simp [this]
theorem hU {kindOf:Str→Option NameKind} {x:Str} {v:Value}:∀ {P:List Str} {vs:List Value} {i:Nat} {m:Str→Option Value},P.Nodup→P[i]? = some x→vs[i]? = some v→kindOf x=some .local →
 bindL kindOf (P.zip vs) m x=some v
 | [],_,_,_,_,h,_,_=>by simp at h
 | _ :: _,[],_,_,_,_,h,_=>by simp at h
 | p :: P,w :: vs,0,m,nd,h1,h2,hk=>by
   simp at h1 h2;subst h1;subst h2
   show bindL kindOf ((p,w) :: P.zip vs) m p=_
   unfold bindL
   rw [hV fun v hv=>(List.nodup_cons.mp nd).1 (List.of_mem_zip hv).1,ZZ hk]
   simp
 | p :: P,w :: vs,i+1,m,nd,h1,h2,hk=>by
   show bindL kindOf ((p,w) :: P.zip vs) m x=_
   unfold bindL
   exact hU (i:=i) (List.nodup_cons.mp nd).2 (by simpa using h1) (by simpa using h2) hk
theorem hJ {kindOf:Str→Option NameKind} {x:Str} {v:Value}:∀ {P:List Str} {vs:List Value} {i:Nat} {m:Str→Option Value},P.Nodup→P[i]? = some x→vs[i]? = some v→kindOf x≠some .local →
 bindC kindOf (P.zip vs) m x=some v
 | [],_,_,_,_,h,_,_=>by simp at h
 | _ :: _,[],_,_,_,_,h,_=>by simp at h
 | p :: P,w :: vs,0,m,nd,h1,h2,hk=>by
   simp at h1 h2;subst h1;subst h2
   show bindC kindOf ((p,w) :: P.zip vs) m p=_
   unfold bindC
   rw [hO fun v hv=>(List.nodup_cons.mp nd).1 (List.of_mem_zip hv).1,ZY hk]
   simp
 | p :: P,w :: vs,i+1,m,nd,h1,h2,hk=>by
   show bindC kindOf ((p,w) :: P.zip vs) m x=_
   unfold bindC
   exact hJ (i:=i) (List.nodup_cons.mp nd).2 (by simpa using h1) (by simpa using h2) hk
theorem jH {sc:Scope} {n:Nat} {x:Str} (h:sc.names.lookup x=some .cell):∃ c,(cellsFrom n sc.names []).lookup x=some c:=by
 have q:=PySem.W.cellsFrom_some sc.names n [] (.inl h)
 exact Option.isSome_iff_exists.mp q
end L2
namespace HT
open PySem PyProof.Rows
section
variable {prog:Program} {w:World} {A:Around} {E:Value→Shared→Prop} {s:Shared}
theorem cat_tup (ht:IsTup s.heap t vs.toArray) (hb:IsTup s.heap b ws.toArray) (hv:vs≠[])
 (h1:ws = []→Q (.ref t) s) (h2:ws≠[]→Q (.ref s.heap.objs.size) { s with heap:=s.heap.push { cls:=.type "tuple",data:=.seq (vs ++ ws).toArray } })
 (hsz:vs.length+ws.length≤sizeLine):wpAny (model prog w) A (binaryOp .Add (.ref t) (.ref b)) Q E s:=by
 obtain ⟨⟨cls,dd,data,sl⟩,ho,hc,n,hd⟩:=id ht
 obtain ⟨⟨cls2,dd2,data2,sl2⟩,ho2,hc2,n2,hd2⟩:=id hb
 simp only at hc hd hc2 hd2
 subst hc hd hc2 hd2
 have e:vs.toArray ++ ws.toArray=(vs ++ ws).toArray:=by simp
 by_cases hw:ws = []
 ·exact concat_meets ⟨_,ho,rfl⟩ ⟨_,ho2,rfl⟩ noFill_tuple_add seq_tuple_add PySem.F.slot_tuple_add PySem.F.entry_tuple_add (PySem.F.args_tuple_add_2 _ _)
   (tuple_addW1 t b vs.toArray ws.toArray n n2 dd dd2 sl sl2 (by simpa using hv) (by simp [hw])) ⟨ho,ho2,h1 hw⟩
 ·refine concat_meets ⟨_,ho,rfl⟩ ⟨_,ho2,rfl⟩ noFill_tuple_add seq_tuple_add PySem.F.slot_tuple_add PySem.F.entry_tuple_add (PySem.F.args_tuple_add_2 _ _)
   (tuple_addW2 t b vs.toArray ws.toArray n n2 dd dd2 sl sl2 (by simpa using hv) (by simpa using hw) (by rw [List.size_toArray,List.size_toArray];exact hsz)) ⟨ho,ho2,?_⟩
  rw [e]
  exact h2 hw
def sIx (n d:Nat):Option Int→Nat
 | none=>d
 | some v=>if v<0 then (v+(n:Int)).toNat else min v.toNat n
theorem yo (n d) (hd:d≤n) (o):sIx n d o≤n:=by
 cases o with
 | none=>exact hd
 | some v=>
   show (if v<0 then (v+(n:Int)).toNat else min v.toNat n)≤n
   by_cases hv:v<0
   ·rw [ZZ hv];omega
   ·rw [ZY hv];exact Nat.min_le_right _ _
theorem lW (v:Int) (n d:Nat):(if v<0 then max (v+(n:Int)) 0 else min v (n:Int))=((sIx n d (some v):Nat):Int):=by
 show (if v<0 then max (v+(n:Int)) 0 else min v (n:Int))=(((if v<0 then (v+(n:Int)).toNat else min v.toNat n):Nat):Int)
 by_cases hv:v<0
 ·simp only [ZZ hv];omega
 ·simp only [ZY hv];omega
theorem kP (lo hi:Option Int) (n:Nat):Builtin.Slice.sliceAdjust lo hi 1 (n:Int)=(((sIx n 0 lo:Nat):Int),((sIx n n hi:Nat):Int)):=by
 have h1:¬ ((1:Int)<0):=by omega
 unfold Builtin.Slice.sliceAdjust
 simp only [h1,if_false]
 refine Prod.ext ?_ ?_
 ·cases lo with
  | none=>rfl
  | some v=>exact lW v n 0
 ·cases hi with
  | none=>rfl
  | some v=>exact lW v n n
theorem lH (i j:Nat):Builtin.Slice.slicePlaces (i:Int) (j:Int) 1=j - i:=by
 unfold Builtin.Slice.slicePlaces
 have h1:(1:Int)>0:=by omega
 simp only [h1,if_true,Int.ediv_one]
 split <;> omega
theorem gy (p:IsPart v o) (h:Q o s):wpAny (model prog w) A (Builtin.Slice.slicePartIndex v) Q E s:=by
 cases p with
 | none=>exact slicePart_none h
 | int i t=>exact slicePart_int h
theorem cE {sl:Addr} {vl vu:Value} {lo hi:Option Int} {n:Nat} {Q:Int×Int×Nat→Shared→Prop} (hs:s.heap.IsSliceOf sl vl vu .none) (pl:IsPart vl lo) (pu:IsPart vu hi)
 (h:Q (((sIx n 0 lo:Nat):Int),1,sIx n n hi - sIx n 0 lo) s):wpAny (model prog w) A (Builtin.Slice.sliceApplied (.ref sl) (pure (n:Int))) Q E s:=by
 obtain ⟨os,hos,hcs,hds⟩:=id hs
 unfold Builtin.Slice.sliceApplied Builtin.Slice.sliceFields
 refine wpAny_bind (wpAny_bind (wpAny_field hos hds (x:=vl) rfl (wpAny_bind (wpAny_field hos hds (x:=vu) rfl (wpAny_bind (wpAny_field hos hds (x:=.none) rfl (wpAny_pure ?_)))))))
 refine wpAny_bind (slicePart_none ?_)
 show wpAny _ _ (if ((1:Int) == 0)=true then _ else _) _ _ s
 rw [ZY (by decide)]
 refine wpAny_bind (gy pl (wpAny_bind (gy pu (wpAny_bind (wpAny_pure ?_)))))
 show wpAny _ _ (match Builtin.Slice.sliceAdjust lo hi 1 (n:Int) with | (lo,hi)=>pure (lo,(1:Int),Builtin.Slice.slicePlaces lo hi 1)) _ _ s
 rw [kP lo hi n]
 show wpAny _ _ (pure (((sIx n 0 lo:Nat):Int),(1:Int),Builtin.Slice.slicePlaces ((sIx n 0 lo:Nat):Int) ((sIx n n hi:Nat):Int) 1)) _ _ s
 rw [lH]
 exact wpAny_pure h
theorem rH (xs:Array Value) (i k:Nat):((List.range k).filterMap fun (m:Nat)=>xs[((i:Int)+(m:Int) * 1).toNat]?).toArray=((xs.toList.drop i).take k).toArray:=by
 have e:(fun (m:Nat)=>xs[((i:Int)+(m:Int) * 1).toNat]?)=fun m=>xs[i+m]?:=by
  funext m
  have:((i:Int)+(m:Int) * 1).toNat=i+m:=by omega
  rw [this]
 rw [e]
 have:=pick_run xs i k
 rw [List.filterMap_map] at this
 have e2:((fun x=>xs[x]?) ∘ fun x=>i+x)=fun m=>xs[i+m]?:=rfl
 rw [e2] at this
 rw [this]
theorem getItem_tuple_cut {t sl:Addr} {items:Array Value} {vl vu:Value} {lo hi:Option Int} {Q:Value→Shared→Prop} (ht:IsTup s.heap t items) (hs:s.heap.IsSliceOf sl vl vu .none) (pl:IsPart vl lo) (pu:IsPart vu hi)
 (hw:¬ (sIx items.size 0 lo=0∧sIx items.size items.size hi=items.size))
 (h:Q (.ref s.heap.objs.size) { s with heap:=s.heap.push { cls:=.type "tuple",data:=.seq ((items.toList.drop (sIx items.size 0 lo)).take (sIx items.size items.size hi - sIx items.size 0 lo)).toArray } })
 (hsz:items.size≤sizeLine):wpAny (model prog w) A (getItem (.ref t) (.ref sl)) Q E s:=by
 have htake:sizeOk (.seq ((items.toList.drop (sIx items.size 0 lo)).take (sIx items.size items.size hi - sIx items.size 0 lo)).toArray):=by
  show ((items.toList.drop (sIx items.size 0 lo)).take (sIx items.size items.size hi - sIx items.size 0 lo)).toArray.size≤sizeLine
  rw [List.size_toArray,List.length_take,List.length_drop,Array.length_toList]
  omega
 have hj:sIx items.size items.size hi≤items.size:=yo _ _ (Nat.le_refl _) hi
 obtain ⟨os,hos,hcs,hds⟩:=id hs
 have hTs:s.TypeIs (.ref sl) "slice":=⟨os,hos,hcs⟩
 unfold getItem
 try with_reducible refine wpAny_holding ?_
 first | refine wpAny_bind (wpAny_pure ?_) | skip
 refine wpAny_bind (wpAny_sequenceKey ht.typeIs (by decide) ?_)
 refine wpAny_bind (wpAny_callSpecial?_slot (name:=Str.ofString "__getitem__") ht.typeIs PyProof.Rows.slot_tuple_getitem
  (wpAny_call_entry PyProof.Rows.slot_tuple_getitem ht.typeIs entry_tuple_getitem ?_ (args_tuple_getitem _ _)))
 show wpAny _ _ (Builtin.Tuple.tupleItemsOf (.ref t) >>= _) _ _ s
 refine wpAny_bind (tupleItemsOf_ ht ?_)
 refine wpAny_bind (wpAny_typeOf hTs ?_)
 rw [ZZ (by decide)]
 refine wpAny_bind (cE hs pl pu ?_)
 have hno:¬ ((((sIx items.size 0 lo:Nat):Int) == 0 && (1:Int) == 1 && (sIx items.size items.size hi - sIx items.size 0 lo) == items.size)=true):=by
  intro q
  rw [Bool.and_eq_true,Bool.and_eq_true] at q
  have q1:((sIx items.size 0 lo:Nat):Int)=0:=eq_of_beq q.1.1
  have q2:sIx items.size items.size hi - sIx items.size 0 lo=items.size:=eq_of_beq q.2
  exact hw ⟨by omega,by omega⟩
 show wpAny _ _ (if (((sIx items.size 0 lo:Nat):Int) == 0 && (1:Int) == 1 && (sIx items.size items.size hi - sIx items.size 0 lo) == items.size)=true then _ else _) _ _ s
 rw [ZY hno,rH]
 first
  | exact wpAny_bind (m:=Builtin.Tuple.tupleExact _) (wpAny_newObj_type (wpAny_pure ⟨_,rfl,wpAny_pure h⟩) htake)
  | exact wpAny_bind (m:=Builtin.Tuple.tupleExact _) (wpAny_newObj_type (wpAny_bind (wpAny_pure (wpAny_pure ⟨_,rfl,wpAny_pure h⟩))) htake)
  | exact wpAny_bind (wpAny_bind (m:=Builtin.Tuple.tupleExact _) (wpAny_newObj_type (wpAny_pure (wpAny_pure ⟨_,rfl,wpAny_pure h⟩)) htake))
  | exact wpAny_bind (wpAny_bind (m:=Builtin.Tuple.tupleExact _) (wpAny_newObj_type (wpAny_pure ⟨_,rfl,wpAny_pure h⟩) htake))
end
end HT
namespace L2
def ixN (n:Nat) (i:Int):Option Nat:=if 0≤i then (if i<n then some i.toNat else none) else if -(n:Int)≤i then some (i+n).toNat else none
def atI {α:Type} (xs:List α) (i:Int):Option α:=(ixN xs.length i).bind fun j=>xs[j]?
theorem ml (h:ixN n i=some j):seqIndex? i n=some j∧j<n∧-(n:Int)≤i∧i<n:=by
 unfold ixN at h
 by_cases h0:0≤i
 ·rw [ZZ h0] at h
  by_cases h1:i<n
  ·rw [ZZ h1] at h
   have e:i.toNat=j:=Option.some.inj h
   exact ⟨by rw [seqIndex_of h0 h1,e],by omega,by omega,h1⟩
  ·rw [ZY h1] at h;cases h
 ·rw [ZY h0] at h
  by_cases h1:-(n:Int)≤i
  ·rw [ZZ h1] at h
   have e:(i+n).toNat=j:=Option.some.inj h
   exact ⟨by rw [seqIndex_neg (by omega) h1,e],by omega,h1,by omega⟩
  ·rw [ZY h1] at h;cases h
theorem iJ (h:atI xs i=some v):∃ j,seqIndex? i xs.length=some j∧xs[j]? = some v∧j<xs.length∧-(xs.length:Int)≤i∧i<xs.length:=by
 unfold atI at h
 cases e:ixN xs.length i with
 | none=>rw [e] at h;cases h
 | some j=>
   rw [e] at h
   obtain ⟨h1,h2,h3,h4⟩:=ml e
   exact ⟨j,h1,h,h2,h3,h4⟩
theorem cI {α:Type} {xs:List α} {j:Nat} {v:α} (h:xs[j]? = some v):atI xs (j:Int)=some v:=by
 have hj:j<xs.length:=(List.getElem?_eq_some_iff.mp h).1
 have e:ixN xs.length (j:Int)=some j:=by
  unfold ixN
  rw [ZZ (by omega),ZZ (by omega)];simp
 unfold atI;rw [e];exact h
section
variable {X:Cx} {a b:Expr} {ta tb:TE} {pos:Pos}
theorem jx (lo hi) (n):(sliceBounds lo hi none n).1=((HT.sIx n 0 lo:Nat):Int)∧(sliceBounds lo hi none n).2.1=((HT.sIx n n hi:Nat):Int)∧(sliceBounds lo hi none n).2.2=1:=by
 refine ⟨?_,?_,rfl⟩
 ·cases lo with
  | none=>simp [sliceBounds,HT.sIx]
  | some i=>
    simp only [sliceBounds,HT.sIx,Option.getD_none,show (1:Int)>0 by decide,if_true]
    by_cases h:i<0
    ·simp only [h,if_true] <;> omega
    ·simp only [h,if_false] <;> omega
 ·cases hi with
  | none=>simp [sliceBounds,HT.sIx]
  | some i=>
    simp only [sliceBounds,HT.sIx,Option.getD_none,show (1:Int)>0 by decide,if_true]
    by_cases h:i<0
    ·simp only [h,if_true] <;> omega
    ·simp only [h,if_false] <;> omega
theorem gY (its:List Value) (lo hi:Option Int):slicePick its.toArray lo hi none=((its.drop (HT.sIx its.length 0 lo)).take (HT.sIx its.length its.length hi - HT.sIx its.length 0 lo)).toArray:=by
 obtain ⟨h1,h2,h3⟩:=jx lo hi its.toArray.size
 unfold slicePick
 rw [h1,h2,h3]
 simp only [sliceRange_one,pick_run,List.size_toArray] <;> rfl
variable {o e:Expr} {es:List Expr} {to:TE} {t:TA} {name:Str} {apos cpos:Pos} {T id:String} {r:V→List V→Hp→VK→Prop}
end
end L2
namespace Att
open PySem PySem.W PySem.Calls PyProof.Rows
theorem fe :∀ (ns) (vs),WellAll P h vs (ns.map WData.int)→IntsAre vs ns:=by
 intro ns
 induction ns with
 | nil=>
   intro vs w
   rw [List.map_nil] at w
   cases w
   exact .nil
 | cons n ns ih=>
   intro vs w
   rw [List.map_cons] at w
   cases w with
   | cons a b=>
     cases a
     exact .cons _ _ (ih _ b)
theorem o8 {l:OpenLaw} {n:Nat} (hn:l.most=some n) {P:Params} {h:Heap} {args:List WData} {vals:List Value}
 (hpre:l.row.toRowW.claim.pre args=true) (hwl:WellAll P h vals args) :
 ∃ a vs ns,vals = [Value.ref a]∧args = [WData.list (ns.map WData.int)]∧h.get? a=some { cls:=.type "list",data:=.seq vs.toArray }∧IntsAre vs ns∧ns.length≤n:=by
 have hsh:WShape.hasAll [] args [.list .int]=true:=(pre_splitW hpre).1
 have hc:l.pre.holds [] { args:=args }=true:=(pre_splitW hpre).2
 obtain ⟨d,r,rfl,h1,h2⟩:=hasAllW_cons hsh
 obtain rfl:=hasAllW_nil h2
 obtain ⟨xs,rfl,h3⟩:=hasW_list h1
 obtain ⟨ns,rfl⟩:=items_int h3
 have hlen:ns.length≤n:=by
  unfold OpenLaw.pre at hc
  have h4:(WTm.not (.lt (.lit (.int (n:Int))) (.len (.arg 0)))).holds [] { args:=[.list (ns.map .int)] }=true:=by
   have h4:=(holds_andW hc).1
   rw [hn] at h4
   exact h4
  have h5:=condW_of h4 (w_not (w_lt w_lit (w_len_list (w_arg rfl))))
  rw [List.length_map] at h5
  refine Nat.le_of_not_lt fun q=>?_
  have q':(n:Int)<((ns.length:Nat):Int):=by omega
  first
   | (rw [ZW q'] at h5;exact ZX h5 (by decide))
   | (simp at h5;omega)
 cases hwl with
 | cons w1 w2=>
   cases w2
   cases w1 with
   | list ho hall=>exact ⟨_,_,ns,rfl,rfl,ho,fe ns _ hall,hlen⟩
theorem oX (l:OpenLaw) (args:List WData):l.row.toRowW.claim.post args (.bool true) args=true:=
 postW_of (r:=l.row.toRowW) (X:=(true == true))
  (show WShape.has [] (.bool true) .bool=true by first | rfl | decide | simp [WShape.has,WShape.arms,WShape.armsAll])
  (show (WTm.eq .res (.lit (.bool true))).value [] { args:=args,res:=some (.bool true),after:=args }=some (.bool (true == true)) from w_eq_bool (w_res rfl) w_lit) rfl
theorem attach_call {l:OpenLaw} {n:Nat} {q:Program} {loose:List Str} {XP:(Str→Option Value)→Heap→Prop} {YP:World→Heap→Prop} {d:DefRec}
 (hn:l.most=some n) (hdf:d.params.defaults = [])
 (call:∀ (w:World) (s₀ s₁:Shared) (mg mb:Str→Option Value) (fa:Addr) (o:Obj) (pm cd doc:Value) (a:Addr) (vs:List Value) (ns:List Int),
  Ground q loose [] XP w s₀ mg mb s₁.heap→YP w s₁.heap →
  s₁.heap.get? fa=some o→o.data = .func (docDef d.name d.params d.body d.scope pm cd doc)→s₁.heap.CodeRec cd d.name→mg d.name=some (.ref fa) →
  s₁.heap.get? a=some { cls:=.type "list",data:=.seq vs.toArray }→IntsAre vs ns→ns.length≤n→s₁.gens = #[] →
  codeAny (model l.prog w) callerA (.call (.ref fa) ⟨[.ref a],[]⟩) (fun r s'=>r = .ok (.ret (.bool true))∧OldK s₁.heap s'.heap∧s'.os=s₁.os∧AllBare s'.gens) s₁) :
 WalkO q loose XP YP l.row.toRowW d [] (fun f vs=>PySem.call f vs):=by
 intro w s₀ s₁ mg mb G Y fa o pm cd doc dV kV ho hd hcd hD hmg hg args vals as hpre hlay hrd hwl hlo
 obtain rfl:dV = .none:=Dflts.none hD hdf
 obtain rfl:kV = .none:=Dflts.noKw hD
 obtain ⟨a,vs,ns,rfl,rfl,hobj,hints,hlen⟩:=o8 hn hpre hwl
 refine enter_call (codeAny_mono (call w s₀ s₁ mg mb fa o pm cd doc a vs ns G Y ho (fd_plain hd) hcd hmg hobj hints hlen hg) fun r s' hq=>?_)
 obtain ⟨rfl,h2,h3,h4⟩:=hq
 exact ⟨.inl ⟨.bool true,.bool true,[],rfl,fun _=>rfl,.bool true,oX l _,fun _=>⟨List.Pairwise.nil,fun _ hm=>(nomatch hm)⟩⟩,h2,h3,h4⟩
end Att
namespace L2
def bq (s:Stmt):Arguments:=match s with
 | .FunctionDef _ a _ _ _ _ _ _ _ _=>a
 | _=>{ posonlyargs:=[],args:=[],vararg:=none,kwonlyargs:=[],kw_defaults:=[],kwarg:=none,defaults:=[] }
def bY (s:Stmt):List Stmt:=match s with
 | .FunctionDef _ _ b _ _ _ _ _ _ _=>b
 | _=>[]
def au (s:Stmt):Scope:=match s with
 | .FunctionDef _ _ _ _ _ _ sc _ _ _=>sc
 | _=>{ kind:=.function,names:=[],isGenerator:=false,isCoroutine:=false }
structure Fun (K:Fg) (x qual:Str) (st:Stmt) (f:Addr) (fd:FuncData):Prop where
 ex:∃ (oc:Value) (od:Option Addr) (kV doc pm:Value) (an:Option Addr) (cdv ct:Value) (osl:Array (Option Value)),
  fd=PySem.W.fnOf x qual (bq st) (bY st) (au st) .none kV doc pm an cdv ct∧K.lookup f=some ⟨oc,od,.func fd,osl⟩∧PySem.W.codeIn K cdv qual=true
 kp:PySem.W.keepIn K (.ref f)=true
section
variable {P:Program} {w:World} {K:Fg} {mg:Str→Option Value} {base:Heap}
theorem Fun.binds {x qual:Str} {st:Stmt} {f:Addr} {fd:FuncData} {ps:List Str} (F:Fun K x qual st f fd)
 (h:∀ (kV doc pm:Value) (an:Option Addr) (cdv ct:Value) (us:List Value),us.length=ps.length→bindArgs (PySem.W.fnOf x qual (bq st) (bY st) (au st) .none kV doc pm an cdv ct) ⟨us,[]⟩=pure (ps.zip us)):b6 K fd ps []:=by
 obtain ⟨oc,od,kV,doc,pm,an,cdv,ct,osl,rfl,lk,hcd⟩:=F.ex
 exact .all (h kV doc pm an cdv ct)
theorem kW {x qual:Str} {st:Stmt} {f:Addr} {oc:Value} {od an:Option Addr} {osl:Array (Option Value)} {kV doc pm cdv ct:Value} (l:K.lookup f=some ⟨oc,od,.func (PySem.W.fnOf x qual (bq st) (bY st) (au st) .none kV doc pm an cdv ct),osl⟩)
 (c:PySem.W.codeIn K cdv qual=true) (k:PySem.W.keepIn K (.ref f)=true):Fun K x qual st f (PySem.W.fnOf x qual (bq st) (bY st) (au st) .none kV doc pm an cdv ct):=⟨⟨oc,od,kV,doc,pm,an,cdv,ct,osl,rfl,l,c⟩,k⟩
end
end L2
section
namespace L2.Bk
open PySem
inductive Dk where
 | non
 | int (i:Int)
 | bl (b:Bool)
 | str (x:Str)
 | tup (xs:List Dk)
def sumI:List Int→Int
 | []=>0
 | x :: r=>x+sumI r
end L2.Bk
namespace L2.Bw
def maxD (d:Int):List Int→Int
 | []=>d
 | x :: r=>r.foldl (fun a b=>if b>a then b else a) x
end L2.Bw
namespace L2.Ev
inductive D where
 | non | bl (b:Bool) | int (i:Int) | str (x:Str) | tup (l:List D) | lst (l:List D) | dic (k:List Key) (l:List D) | ins (c:Nat) (l:List D) | ref (n:Nat)
inductive O where
 | lst (l:List D) | dic (k:List Key) (l:List D) | ins (c:Nat) (l:List D)
inductive Op where
 | add | sub | mul | fdiv | mod | pow | shl | shr | band | bxor | eq | ne | lt | le | gt | ge | isin | notin | eq2
 deriving DecidableEq
inductive Bi where
 | len | tuple | list | all | max0 | sum | abs | str | int | range1 | range2 | zip2 | zip3 | enum | enum2 | rev | dict | max2 | min2 | isTup | isStr | isInt | isBool | isLst | isDic | isVal
 deriving DecidableEq
inductive E where
 | v (i:Nat) | c (d:D) | g (j:Nat) | op (o:Op) (a b:E) | isN (a:E) | isNN (a:E) | neg (a:E) | not (a:E) | and (a b:E) | or (a b:E) | ite (c a b:E)
 | chain (o p:Op) (a b c:E)
 | ix (a b:E) | sl (a lo hi:E) | fld (a:E) (f:Nat) | tup (es:E) | lst (es:E) | dic (es:E) | nil | cons (a es:E)
 | call (j:Nat) (es:E) | hcall (j:Nat) (es:E) | mth (c j:Nat) (a es:E) | new (j:Nat) (es:E) | bi (b:Bi) (es:E) | join (x:Str) (a:E) | get (a b c:E) | index (a b:E) | isX (a:E) (js:List Nat)
 | lc (t:List Nat) (one:Bool) (it elt cond:E)
 | tab (j:Nat) (e:E) | tabin (j:Nat) (e:E)
 | newl (es:E) | keep (kp:List Nat) (a:E) | sto (a:E) | fcall (own:Bool) (j:Nat) (es:E)
 | sl3 (a lo st:E) | tget (j:Nat) (e d:E) | newd (j:Nat) (es:E) | fmt (x:Str) (a:E) (y:Str) | dicc (ks:List Str) (es:E)
 | tand (a b:E) | tor (a b:E) | tnot (a:E) | tv (a:E) | it (b:Bi) (es:E) | itv (a:E)
inductive S where
 | skip | seq (a b:S) | set (i:Nat) (e:E) | setT (l:List Nat) (e:E) | setR (i:Nat) (es:E) | ret (e:E) | ifs (c:E) (a b:S) | drop (e:E)
 | app (i:Nat) (e:E) | ext (i:Nat) (e:E) | put (a b e:E) | fld (a:E) (f:Nat) (e:E) | aug (a:E) (f:Nat) (o:Op) (e:E) | fapp (a:E) (f:Nat) (e:E)
 | for_ (t:List Nat) (one:Bool) (it:E) (b:S) | whl (c:E) (b:S) | rais (j:Nat) (es:E) | try_ (a:S) (hs:S) | hand (j:Nat) (i:Option Nat) (b rest:S)
def fl:D→Bool
 | .non=>true | .bl _=>true | .int _=>true | .str _=>true | _=>false
def eqf:D→D→Bool
 | .non,.non=>true
 | .bl a,.bl b=>a == b
 | .bl a,.int b=>(if a then 1 else 0) == b
 | .int a,.int b=>a == b
 | .int a,.bl b=>a == (if b then 1 else 0)
 | .str a,.str b=>a == b
 | _,_=>false
def sh:D→Nat
 | .non=>0 | .bl _=>0 | .int _=>0 | .str _=>0 | .tup _=>1 | .lst _=>2 | _=>3
def eq0 (d e:D):Option Bool:=
 if sh d=3∨sh e=3 then none else if sh d=0∧sh e=0 then some (eqf d e) else if sh d=sh e then none else some false
def dD (f:D→D→Option Bool):List D→List D→Option Bool
 | d :: a,e :: b=>(match f d e with | none=>none | some x=>(dD f a b).map (x && ·))
 | _,_=>some true
def eqv:Nat→D→D→Option Bool
 | 0,d,e=>eq0 d e
 | n+1,.tup a,.tup b=>(dD (eqv n) a b).map (· && a.length == b.length)
 | n+1,.lst a,.lst b=>if a.length=b.length then dD (eqv n) a b else some false
 | _+1,d,e=>eq0 d e
end L2.Ev
namespace L2.Ev
structure Fn where
 np:Nat
 ns:Nat
 body:S
structure Cl where
 what:Nat
 at_:List Nat
 init:Nat
 me:List (Nat×Nat)
 sup:List Nat
 chk:List Nat:=[]
def toD:L2.Bk.Dk→D
 | .non=>.non
 | .int i=>.int i
 | .bl b=>.bl b
 | .str x=>.str x
 | .tup l=>.tup (toDs l)
where toDs:List L2.Bk.Dk→List D
 | []=>[]
 | d :: r=>toD d :: toDs r
structure Gm where
 gl:List L2.Bk.Dk
 tb:List (List (Str×L2.Bk.Dk))
 fn:List Fn
 cl:List Cl
structure Sta where
 env:List (Option D)
 ow:List Nat
 st:List O
inductive Out (α:Type) where
 | ok (a:α) (s:Sta) | exc (c:Nat) (l:List D) (s:Sta) | bad
inductive Res where
 | ok (d:D) (st:List O) | exc (c:Nat) (l:List D) (st:List O) | bad
inductive ar where
 | nx (s:Sta) | rt (d:D) (s:Sta) | exc (c:Nat) (l:List D) (s:Sta) | bad
def Out.bind {α β:Type} (x:Out α) (f:α→Sta→Out β):Out β:=match x with
 | .ok a s=>f a s
 | .exc c l s=>.exc c l s
 | .bad=>.bad
def Out.of {α:Type} (s:Sta):Option α→Out α
 | some a=>.ok a s
 | none=>.bad
def Out.go {α:Type} (x:Out α) (f:α→Sta→ar):ar:=match x with
 | .ok a s=>f a s
 | .exc c l s=>.exc c l s
 | .bad=>.bad
def ar.go (x:ar) (f:Sta→ar):ar:=match x with
 | .nx s=>f s
 | y=>y
def jV:D→Bool
 | .non=>true | _=>false
def un (s:Sta) (i:Nat):Sta:=⟨s.env,s.ow.filter (· != i),s.st⟩
def look (st:List O):D→D
 | .ref n=>(match st[n]? with | some (.lst l)=>.lst l | some (.dic k l)=>.dic k l | _=>.ref n)
 | d=>d
def bo:D→Option Key
 | .int i=>some (.inl i)
 | .str x=>some (.inr x)
 | _=>none
def bV:List Key→List D→Key→Option D
 | k :: ks,d :: ds,x=>if k=x then some d else bV ks ds x
 | _,_,_=>none
def gW:List Key→List D→Key→D→List D
 | k :: ks,d :: ds,x,e=>(if k=x then e else d) :: gW ks ds x e
 | _,ds,_,_=>ds
def bU (ks:List Key) (ds:List D) (x:Key) (e:D):List Key×List D:=if ks.any (fun k=>decide (k=x))=true then (ks,gW ks ds x e) else (ks ++ [x],ds ++ [e])
def inD (d:D):List D→Option Bool
 | []=>some false
 | e :: r=>match eqv 55 e d with | none=>none | some b=>(inD d r).map (b || ·)
def cN (n:Nat) (d:D):Option D:=if n≤100000 then some d else none
def opI (o:Op) (i j:Int):Option D:=match o with
 | .add=>some (.int (i+j))
 | .sub=>some (.int (i - j))
 | .mul=>if ((-(2 ^ 64)<i∧i<2 ^ 64)∨(-(2 ^ 64)<j∧j<2 ^ 64))∨(i.natAbs<2 ^ 400∧j.natAbs<2 ^ 400) then some (.int (i * j)) else none
 | .fdiv=>if 0<j∧j<2 ^ 200 then some (.int (i / j)) else none
 | .mod=>if 0<j then some (.int (i % j)) else none
 | .pow=>if 0≤j∧j≤1000000∧i.natAbs<2 ^ 64 then some (.int (i ^ j.toNat)) else none
 | .shl=>if 0≤j∧j≤1000000∧i.natAbs<2 ^ 64 then some (.int (i * 2 ^ j.toNat)) else none
 | .shr=>if 0≤j then some (.int (i / 2 ^ j.toNat)) else none
 | .band=>some (.int (Builtin.bitAnd i j))
 | .bxor=>some (.int (Builtin.bitXor i j))
 | .lt=>some (.bl (decide (i<j)))
 | .le=>some (.bl (decide (i≤j)))
 | .gt=>some (.bl (decide (j<i)))
 | .ge=>some (.bl (decide (j≤i)))
 | _=>none
def qr (ls:List Key) (es:List D):List Key→List D→Option Bool
 | k :: ks,d :: ds=>(match bV ls es k with | none=>some false | some e=>(match eqv 55 d e with | none=>none | some x=>(qr ls es ks ds).map (x && ·)))
 | _,_=>some true
def eqT (a b:D):Option Bool:=match a,b with
 | .dic ks ds,.dic ls es=>if ks.length=ls.length then qr ls es ks ds else some false
 | a,b=>eqv 55 a b
def zm:List D→List D→Bool
 | [],[]=>true
 | d :: l,e :: m=>eqT d e == some true && zm l m
 | _,_=>false
def Bp (a b:D):Option D:=match a,b with
 | .tup l,.tup m=>if zm l m then some (.bl true) else none
 | _,_=>none
def opD (o:Op) (a b:D):Option D:=match o with
 | .eq2=>Bp a b
 | .eq=>(eqT a b).map .bl
 | .ne=>(eqT a b).map fun x=>.bl (!x)
 | .isin=>(match b with | .str y=>(match a with | .str x=>some (.bl (Txt.contains y x)) | _=>none) | .lst l=>(inD a l).map .bl | .tup l=>(inD a l).map .bl | .dic ks ds=>(bo a).map fun k=>.bl (bV ks ds k).isSome | _=>none)
 | .notin=>(match b with | .lst l=>(inD a l).map fun x=>.bl (!x) | .tup l=>(inD a l).map fun x=>.bl (!x) | .dic ks ds=>(bo a).map fun k=>.bl (!(bV ks ds k).isSome) | _=>none)
 | _=>match a,b with
   | .int i,.int j=>opI o i j
   | .str x,.str y=>if o = .add then cN (x.length+y.length) (.str (x ++ y)) else none
   | .tup x,.tup y=>if o = .add then cN (x.length+y.length) (.tup (x ++ y)) else none
   | .lst x,.lst y=>if o = .add then cN (x.length+y.length) (.lst (x ++ y)) else none
   | _,_=>none
def uM:D→Option Bool
 | .bl b=>some b
 | .tup l=>some (!l.isEmpty)
 | .lst l=>some (!l.isEmpty)
 | .int i=>some (i != 0)
 | .non=>some false
 | _=>none
def ixD (a b:D):Option D:=match a,b with
 | .tup l,.int i=>atI l i
 | .lst l,.int i=>atI l i
 | .str x,.int i=>if x.length≤100000 then (atI x.cps.toList i).map fun c=>.str ⟨#[c]⟩ else none
 | .dic ks ds,k=>(bo k).bind fun k=>bV ks ds k
 | _,_=>none
def nZ (xs:List D) (lo hi:Option Int):List D:=(xs.drop (HT.sIx xs.length 0 lo)).take (HT.sIx xs.length xs.length hi - HT.sIx xs.length 0 lo)
def slO (a:D) (l h:Option Int):Option D:=match a with
 | .tup x=>some (.tup (nZ x l h))
 | .lst x=>some (.lst (nZ x l h))
 | .str x=>if x.length≤100000 then some (.str (Txt.slice x l h)) else none
 | _=>none
def Ak {α:Type} (xs:List α) (lo:Option Int) (st:Int):List α:=(sliceRange (sliceBounds lo none (some st) xs.length).1 (sliceBounds lo none (some st) xs.length).2.1 (sliceBounds lo none (some st) xs.length).2.2).filterMap (xs[·]?)
def o9 (a:D) (l st:Option Int):Option D:=match a,st with
 | .lst x,some k=>if k=0 then none else some (.lst (Ak x l k))
 | _,_=>none
def isDic:D→Bool
 | .dic _ _=>true
 | _=>false
def bG:E→Bool
 | .nil=>true
 | _=>false
def toI (d:D) (s:Sta):Out (Option Int):=match d with | .int i=>.ok (some i) s | _=>.bad
def eE:List D→Option (List Int)
 | []=>some []
 | .int i :: r=>(eE r).map (i :: ·)
 | _=>none
def uX:List D→Option (List Bool)
 | []=>some []
 | .bl i :: r=>(uX r).map (i :: ·)
 | _=>none
def eN:List D→Option (List Str)
 | []=>some []
 | .str i :: r=>(eN r).map (i :: ·)
 | _=>none
def iM (b:Bi) (x:D):Option D:=match b,x with
 | .len,.tup l=>some (.int l.length)
 | .len,.lst l=>some (.int l.length)
 | .len,.str x=>if x.length≤100000 then some (.int x.length) else none
 | .len,.dic k _=>if k.length≤100000 then some (.int k.length) else none
 | .tuple,.lst l=>some (.tup l)
 | .tuple,.tup l=>some (.tup l)
 | .list,.tup l=>some (.lst l)
 | .list,.lst l=>some (.lst l)
 | .rev,.lst l=>some (.lst l.reverse)
 | .all,.lst l=>(uX l).map fun bs=>.bl (bs.all id)
 | .sum,.lst l=>(eE l).map fun ns=>.int (L2.Bk.sumI ns)
 | .max2,.lst l=>(match eE l with | some (n :: r)=>some (.int (L2.Bw.maxD 0 (n :: r))) | _=>none)
 | .abs,.int i=>some (.int (if i<0 then -i else i))
 | .str,.int i=>if i.natAbs.log2<1920 then some (.str (Str.ofString (toString i))) else none
 | .int,.int i=>some (.int i)
 | .int,.bl k=>some (.int (if k then 1 else 0))
 | .int,.str x=>if x.length≤640 then (PySem.intText? x).map .int else none
 | .dict,.dic k l=>some (.dic k l)
 | .isTup,d=>(match d with | .tup _=>some (.bl true) | .ref _=>none | .ins _ _=>none | _=>some (.bl false))
 | .isStr,d=>(match d with | .str _=>some (.bl true) | .ref _=>none | .ins _ _=>none | _=>some (.bl false))
 | .isBool,d=>(match d with | .bl _=>some (.bl true) | .ref _=>none | .ins _ _=>none | _=>some (.bl false))
 | .isInt,d=>(match d with | .bl _=>some (.bl true) | .int _=>some (.bl true) | .ref _=>none | .ins _ _=>none | _=>some (.bl false))
 | .isLst,d=>(match d with | .lst _=>some (.bl true) | .ref _=>none | .ins _ _=>none | _=>some (.bl false))
 | .isDic,d=>(match d with | .dic _ _=>some (.bl true) | .ref _=>none | .ins _ _=>none | _=>some (.bl false))
 | .isVal,d=>(match d with | .lst _=>some (.bl true) | .int _=>some (.bl true) | .bl _=>some (.bl true) | .str _=>some (.bl true) | .ref _=>none | .ins _ _=>none | _=>some (.bl false))
 | _,_=>none
def vZ (b:Bi) (x y:D):Option D:=match b,x,y with
 | .max0,.lst l,.int d=>(eE l).map fun ns=>.int (L2.Bw.maxD d ns)
 | .max2,.int i,.int j=>some (.int (if j>i then j else i))
 | .min2,.int i,.int j=>some (.int (if j<i then j else i))
 | _,_,_=>none
def AN (b:Bi) (x y z:D):Option D:=match b,x,y,z with
 | .max2,.int i,.int j,.int k=>some (.int (if j>i then (if k>j then k else j) else if k>i then k else i))
 | _,_,_,_=>none
def biD (b:Bi) (ds:List D):Option D:=match ds with
 | [x]=>iM b x
 | [x,y]=>vZ b x y
 | [x,y,z]=>AN b x y z
 | _=>none
def qD:Key→D
 | .inl i=>.int i
 | .inr x=>.str x
def r9:D→Option (List D)
 | .lst l=>some l
 | .tup l=>some l
 | .dic ks _=>some (ks.map qD)
 | .str x=>if x.cps.all (· < 128)=true then some (x.cps.toList.map fun c=>.str ⟨#[c]⟩) else none
 | _=>none
def jt (lo:Int) (n:Nat):List D:=(List.range n).map fun (i:Nat)=>.int (lo+i)
def eP:List D→List D→List D
 | a :: r,b :: q=>.tup [a,b] :: eP r q
 | _,_=>[]
def cy:List D→List D→List D→List D
 | a :: r,b :: q,c :: p=>.tup [a,b,c] :: cy r q p
 | _,_,_=>[]
def bP:Int→List D→List D
 | i,a :: r=>.tup [.int i,a] :: bP (i+1) r
 | _,[]=>[]
def sqL:D→Option (List D)
 | .lst l=>some l
 | .tup l=>some l
 | _=>none
def wJ (b:Bi) (x:D):Option (List D):=match b,x with
 | .range1,.int j=>if -(2 ^ 62)≤j∧j<2 ^ 62 then some (jt 0 j.toNat) else none
 | .enum,.lst x=>some (bP 0 x)
 | _,_=>none
def Bs (b:Bi) (x y:D):Option (List D):=match b,x,y with
 | .range2,.int i,.int j=>if (-(2 ^ 62)≤i∧i<2 ^ 62∧-(2 ^ 62)≤j∧j<2 ^ 62) then some (jt i (j - i).toNat) else none
 | .zip2,x,y=>(match sqL x,sqL y with | some l,some m=>if l.length≤m.length then some (eP l m) else none | _,_=>none)
 | .enum2,.tup x,.int n=>if Builtin.SmallTypes.fitsIndex n=true∧0≤n then some (bP n x) else none
 | _,_,_=>none
def Bt (b:Bi) (x y z:D):Option (List D):=match b,x,y,z with
 | .zip3,x,y,z=>(match sqL x,sqL y,sqL z with | some l,some m,some n=>if l.length≤m.length∧l.length≤n.length then some (cy l m n) else none | _,_,_=>none)
 | _,_,_,_=>none
def itD (b:Bi) (ds:List D):Option (List D):=match ds with
 | [x]=>wJ b x
 | [x,y]=>Bs b x y
 | [x,y,z]=>Bt b x y z
 | _=>none
def pW (Γ:Gm) (st:List O) (d:D) (f:Nat):Option D:=match d with
 | .ins c l=>(Γ.cl[c]?).bind fun k=>l[k.at_.idxOf f]?
 | .ref n=>(match st[n]? with | some (.ins c l)=>(Γ.cl[c]?).bind fun k=>l[k.at_.idxOf f]? | _=>none)
 | _=>none
def aL (t:List Nat) (one:Bool) (d:D) (env:List (Option D)):Option (List (Option D)):=
 if one then (match t with | [i]=>some (env.set i (some d)) | _=>none)
 else (match d with
  | .tup l=>if l.length=t.length then some ((t.zip l).foldl (fun e p=>e.set p.1 (some p.2)) env) else none
  | .lst l=>if l.length=t.length then some ((t.zip l).foldl (fun e p=>e.set p.1 (some p.2)) env) else none
  | _=>none)
def noX {α:Type}:Out α→Out α
 | .exc _ _ _=>.bad
 | o=>o
def bh (f:D→Sta→Out (Option D)):List D→List D→Sta→Out D
 | [],acc,s=>.ok (.lst acc) s
 | d :: r,acc,s=>(f d s).bind fun o s'=>match o with
   | some e=>if acc.length<100000 then bh f r (acc ++ [e]) s' else .bad
   | none=>bh f r acc s'
mutual
noncomputable def noL:D→Bool
 | .lst _=>false
 | .tup l=>eH l
 | .dic _ l=>eH l
 | .ins _ l=>eH l
 | _=>true
noncomputable def eH:List D→Bool
 | []=>true
 | d :: r=>noL d && eH r
end
mutual
noncomputable def noR:D→Bool
 | .ref _=>false
 | .tup l=>aG l
 | .lst l=>aG l
 | .dic _ l=>aG l
 | .ins _ l=>aG l
 | _=>true
noncomputable def aG:List D→Bool
 | []=>true
 | d :: r=>noR d && aG r
end
def gV:O→Bool
 | .lst _=>false
 | .dic _ l=>eH l
 | .ins _ l=>eH l
def bI:E→List Nat
 | .cons (.v i) r=>i :: bI r
 | .cons _ r=>bI r
 | _=>[]
def isLst:Option (Option D)→Bool
 | some (some (.lst _))=>true
 | _=>false
def aft (es:E) (s:Sta) (d:D) (st:List O):Sta:=⟨s.env,s.ow.filter fun i=>!(bI es).contains i || (isLst s.env[i]? && (noL d && st.all gV)),st⟩
def drp (es:E) (s:Sta) (st:List O):Sta:=⟨s.env,s.ow.filter fun i=>!(bI es).contains i,st⟩
def pL:List D→Option (List Key×List D)
 | []=>some ([],[])
 | [_]=>none
 | k :: d :: r=>(bo k).bind fun k=>(pL r).bind fun p=>if p.1.contains k then none else some (k :: p.1,d :: p.2)
def tu:D→Bool
 | .tup _=>true
 | _=>false
def wE (x y:D):Option D:=match x,y with
 | .tup l,.str k=>(eN l).bind fun ss=>(ss.findIdx? (· == k)).map fun (j:Nat)=>.int j
 | _,_=>none
def vx (x:Str) (y:D):Option D:=match y with
 | .lst l=>(eN l).bind fun ss=>if x.length≤64∧(ss.map (·.length)).sum≤100000∧ss.length≤1000 then some (.str (Txt.join x ss)) else none
 | _=>none
def zv (x:Str) (v:D) (y:Str):Option D:=match v with
 | .str z=>if x.length≤1000∧z.length≤100000∧y.length≤1000 then some (.str (((Str.empty ++ x) ++ z) ++ y)) else none
 | _=>none
mutual
noncomputable def shD (k:Nat):D→D
 | .tup l=>.tup (gX k l)
 | .lst l=>.lst (gX k l)
 | .dic ks l=>.dic ks (gX k l)
 | .ins c l=>.ins c (gX k l)
 | .ref n=>.ref (k+n)
 | d=>d
noncomputable def gX (k:Nat):List D→List D
 | []=>[]
 | d :: r=>shD k d :: gX k r
end
def shO (k:Nat):O→O
 | .lst l=>.lst (gX k l)
 | .dic ks l=>.dic ks (gX k l)
 | .ins c l=>.ins c (gX k l)
def vR (Γ:Gm) (c:Nat):Bool:=match Γ.cl[c]? with | some k=>k.what == 2 | none=>false
def zH (Γ:Gm) (x:D) (js:List Nat):Option D:=match x with
 | .ins c _=>if (vR Γ c && js.all (vR Γ))=true then (Γ.cl[c]?).map fun k=>.bl (js.any fun j=>c == j || k.sup.contains j) else none
 | _=>none
def vk (ks:List Str) (l:List D):Option D:=if ks.length=l.length∧ks.Nodup∧ks.length≤15∧ks≠[] then some (.dic (ks.map .inr) l) else none
def qm (kp:List Nat) (env:List (Option D)):List (Option D):=env.mapIdx fun i d=>if kp.contains i then none else d
def hid (kp:List Nat) (s:Sta):Sta:=⟨qm kp s.env,s.ow.filter (fun i=>!kp.contains i),s.st⟩
def BI (x:D) (s:Sta):Out D:=match x with | .lst l=>.ok (.ref s.st.length) ⟨s.env,s.ow,s.st ++ [.lst l]⟩ | _=>.bad
section
variable (Γ:Gm) (cal cal1:Nat→List D→List O→Res)
def gG (es:E) (j:Nat) (ds:List D) (s:Sta):Out D:=match cal j ds s.st with
 | .ok d st=>.ok d (aft es s d st)
 | .exc c l st=>.exc c l (drp es s st)
 | .bad=>.bad
def sZ (j:Nat) (ds:List D) (s:Sta):Out D:=if aG ds then (match cal j ds [] with
 | .ok d st=>if noR d then .ok d s else .ok (shD s.st.length d) ⟨s.env,s.ow,s.st ++ st.map (shO s.st.length)⟩
 | .exc c l _=>if aG l then .exc c l s else .bad
 | .bad=>.bad) else .bad
def jW:D→Bool
 | .ref _=>true | _=>false
def sS (st:List O):D→Option D
 | .ref n=>(match st[n]? with | some (.lst l)=>if aG l then some (.lst l) else none | some (.dic k l)=>if aG l then some (.dic k l) else none | _=>none)
 | d=>if noR d then some d else none
def p6 (st:List O):List D→Option (List D)
 | []=>some []
 | d :: r=>(sS st d).bind fun e=>(p6 st r).map (e :: ·)
def oB (st:List O):D→Option D
 | .tup l=>(p6 st l).map .tup
 | d=>sS st d
def sR (own:Bool) (j:Nat) (ds:List D) (s:Sta):Out D:=if aG ds then (match cal j ds [] with
 | .ok d st=>if own && !jW d then .bad else .of s (oB st d)
 | .exc c l _=>if aG l then .exc c l s else .bad
 | .bad=>.bad) else .bad
mutual
noncomputable def ev (br:Bool):E→Sta→Out D
 | .v i,s=>(match s.env[i]? with | some (some d)=>.ok d (if br then s else un s i) | _=>.bad)
 | .c d,s=>.ok d s
 | .g j,s=>.of s (Γ.gl[j]?.map toD)
 | .op o a b,s=>(ev true a s).bind fun x s=>(ev true b s).bind fun y s=>.of s (opD o (look s.st x) (look s.st y))
 | .isN a,s=>(ev true a s).bind fun x s=>.ok (.bl (jV x)) s
 | .isNN a,s=>(ev true a s).bind fun x s=>.ok (.bl (!jV x)) s
 | .neg a,s=>(ev true a s).bind fun x s=>(match x with | .int i=>.ok (.int (-i)) s | _=>.bad)
 | .not a,s=>(ev true a s).bind fun x s=>(match x with | .bl b=>.ok (.bl (!b)) s | _=>.bad)
 | .and a b,s=>(ev false a s).bind fun x s=>(match x with | .bl true=>ev false b s | .bl false=>.ok (.bl false) s | _=>.bad)
 | .or a b,s=>(ev false a s).bind fun x s=>(match x with | .bl false=>ev false b s | .bl true=>.ok (.bl true) s | _=>.bad)
 | .ite c a b,s=>(ev true c s).bind fun x s=>(match x with | .bl true=>ev false a s | .bl false=>ev false b s | _=>.bad)
 | .chain o p a b c,s=>(ev true a s).bind fun x s=>(ev true b s).bind fun y s=>(match opD o (look s.st x) (look s.st y) with
   | some (.bl true)=>(ev true c s).bind fun z s=>.of s (opD p (look s.st y) (look s.st z))
   | some (.bl false)=>.ok (.bl false) s
   | _=>.bad)
 | .ix a b,s=>(ev true a s).bind fun x s=>(ev true b s).bind fun y s=>.of s (ixD (look s.st x) y)
 | .sl a lo hi,s=>(ev true a s).bind fun x s=>(if bG lo then .ok none s else (ev true lo s).bind toI).bind fun l s=>(if bG hi then .ok none s else (ev true hi s).bind toI).bind fun h s=>.of s (slO (look s.st x) l h)
 | .sl3 a lo st,s=>(ev true a s).bind fun x s=>(if bG lo then .ok none s else (ev true lo s).bind toI).bind fun l s=>(if bG st then .ok none s else (ev true st s).bind toI).bind fun z s=>.of s (o9 (look s.st x) l z)
 | .tget j e d,s=>(ev true e s).bind fun x s=>(ev false d s).bind fun z s=>(match Γ.tb[j]?,x with | some t,.str k=>.ok (((KTD.datumAt k t).map toD).getD z) s | _,_=>.bad)
 | .newd j es,s=>(evs false es s).bind fun l s=>.of s ((Γ.cl[j]?).bind fun k=>if k.what=1∧l.length=k.at_.length then some (D.ins j l) else none)
 | .fld a f,s=>(ev true a s).bind fun x s=>.of s (pW Γ s.st x f)
 | .tup es,s=>(evs false es s).bind fun l s=>if l.length≤100000 then .ok (.tup l) s else .bad
 | .lst es,s=>(evs false es s).bind fun l s=>if l.length≤100000 then .ok (.lst l) s else .bad
 | .newl es,s=>(evs false es s).bind fun l s=>if l.length≤100000 then .ok (.ref s.st.length) ⟨s.env,s.ow,s.st ++ [.lst l]⟩ else .bad
 | .keep kp a,s=>(noX (ev false a (hid (kp.filter s.ow.contains) s))).bind fun d s'=>.ok d ⟨s.env,s'.ow ++ kp.filter s.ow.contains,s'.st⟩
 | .sto a,s=>(ev false a s).bind BI
 | .fcall own j es,s=>(evs false es s).bind fun l s=>sR cal own j l s
 | .call j es,s=>(evs true es s).bind fun l s=>gG cal es j l s
 | .hcall j es,s=>(evs false es s).bind fun l s=>sZ cal j l s
 | .mth c j a es,s=>(ev true a s).bind fun x s=>(match x with
   | .ref p=>(match s.st[p]? with
     | some (.ins c' _)=>if c'=c then (evs true es s).bind fun l s=>gG cal es j (x :: l) s else .bad
     | _=>.bad)
   | _=>.bad)
 | .bi b es,s=>(evs true es s).bind fun l s=>.of s (biD b (l.map (look s.st)))
 | .tab j e,s=>(ev true e s).bind fun x s=>(match Γ.tb[j]?,x with | some t,.str k=>.of s ((KTD.datumAt k t).map toD) | _,_=>.bad)
 | .tabin j e,s=>(ev true e s).bind fun x s=>(match Γ.tb[j]?,x with | some t,.str k=>.ok (.bl (KTD.datumAt k t).isSome) s | _,_=>.bad)
 | .lc t one it elt cond,s=>(ev false it s).bind fun x s=>(match x with
   | .lst ds=>(bh (fun d s'=>(match aL t one d s'.env with
     | some env=>(noX (ev true cond ⟨env,[],s'.st⟩)).bind fun b s2=>(match b with
       | .bl true=>(noX (ev false elt s2)).bind fun e s3=>.ok (some e) ⟨s3.env,[],s3.st⟩
       | .bl false=>.ok none ⟨s2.env,[],s2.st⟩
       | _=>.bad)
     | none=>.bad)) ds [] ⟨List.replicate t.length none ++ s.env,[],s.st⟩).bind fun d s'=>.ok d ⟨s.env,[],s'.st⟩
   | _=>.bad)
 | .tand a b,s=>(ev true a s).bind fun x s=>(match x with | .bl true=>ev true b s | .bl false=>.ok (.bl false) s | _=>.bad)
 | .tor a b,s=>(ev true a s).bind fun x s=>(match x with | .bl true=>.ok (.bl true) s | .bl false=>ev true b s | _=>.bad)
 | .tnot a,s=>(ev true a s).bind fun x s=>(match x with | .bl b=>.ok (.bl (!b)) s | _=>.bad)
 | .tv a,s=>(ev true a s).bind fun x s=>.of s ((uM (look s.st x)).map .bl)
 | .it b es,s=>(evs false es s).bind fun l s=>.of s ((itD b l).map .lst)
 | .itv a,s=>(ev false a s).bind fun x s=>.of s ((r9 x).map .lst)
 | .dic es,s=>(evs false es s).bind fun l s=>.of s ((pL l).map fun p=>.dic p.1 p.2)
 | .get a b c,s=>(ev true a s).bind fun x s=>if isDic (look s.st x)=true then (ev true b s).bind fun y s=>(ev false c s).bind fun z s=>(match look s.st x,bo y with
   | .dic ks ds,some k=>.ok ((bV ks ds k).getD z) s
   | _,_=>.bad) else .bad
 | .index a b,s=>(ev true a s).bind fun x s=>if tu x=true then (ev true b s).bind fun y s=>.of s (wE x y) else .bad
 | .join x a,s=>(ev true a s).bind fun y s=>.of s (vx x (look s.st y))
 | .fmt x a y,s=>(ev true a s).bind fun v s=>.of s (zv x v y)
 | .dicc ks es,s=>(evs false es s).bind fun l s=>.of s (vk ks l)
 | .isX a js,s=>(ev true a s).bind fun x s=>.of s (zH Γ x js)
 | .new j es,s=>(evs true es s).bind fun l s=>(match Γ.cl[j]? with
   | some k=>if k.what=1 then (if l.length=k.at_.length then .ok (.ins j l) (drp es s s.st) else .bad)
     else if k.what=0 then (match cal1 k.init (.ref s.st.length :: l) (s.st ++ [.ins j []]) with
      | .ok .non st=>.ok (.ref s.st.length) (aft es s .non st)
      | _=>.bad)
     else .bad
   | none=>.bad)
 | _,_=>.bad
noncomputable def evs (br:Bool):E→Sta→Out (List D)
 | .nil,s=>.ok [] s
 | .cons a r,s=>(ev br a s).bind fun x s=>(evs br r s).bind fun l s=>.ok (x :: l) s
 | _,_=>.bad
end
end
end L2.Ev
namespace L2.Ev
def bf:E→Bool
 | .lst _=>true | .lc ..=>true | .bi .list _=>true | .bi .rev _=>true | .bi .dict _=>true | .dic _=>true | .keep _ a=>bf a | .fcall own _ _=>own | _=>false
def wH:D→Bool
 | .lst _=>true | .dic _ _=>true | _=>false
def lM (s:Sta) (i:Nat) (d:D) (f:Bool):Sta:=⟨s.env.set i (some d),if f && wH d then i :: s.ow.filter (· != i) else s.ow.filter (· != i),s.st⟩
def rR (l:List D) (i:Int) (d:D):Option (List D):=(ixN l.length i).map fun j=>l.set j d
def d5 (o:O) (k d:D):Option O:=match o with
 | .lst l=>(match k with | .int i=>(rR l i d).map .lst | _=>none)
 | .dic ks ds=>(bo k).bind fun k=>if ks.length<100000 then some (.dic (bU ks ds k d).1 (bU ks ds k d).2) else none
 | _=>none
def jq (o:D) (k d:D):Option D:=match o with
 | .lst l=>(match k with | .int i=>(rR l i d).map .lst | _=>none)
 | .dic ks ds=>(bo k).bind fun k=>if ks.length<100000 then some (.dic (bU ks ds k d).1 (bU ks ds k d).2) else none
 | _=>none
def fh (Γ:Gm) (o:O) (f:Nat) (d:D):Option O:=match o with
 | .ins c l=>(Γ.cl[c]?).bind fun k=>if k.at_.length<1000 then (if k.at_.idxOf f<l.length then some (.ins c (l.set (k.at_.idxOf f) d)) else if k.at_.idxOf f=l.length∧k.at_.idxOf f<k.at_.length then some (.ins c (l ++ [d])) else none) else none
 | _=>none
def rS:Option D→Bool
 | some (.int n)=>decide (0≤n) && decide (n<100000)
 | _=>false
def AB:D→Bool
 | .str x=>decide ((reprText x).length≤10000)
 | .int n=>decide (0≤n) && decide (n<100000)
 | _=>false
def eY (Γ:Gm) (j:Nat) (l:List D):Bool:=match Γ.cl[j]? with
 | some k=>if k.at_.isEmpty then l.all AB else l.length == k.at_.length && k.chk.all (fun i=>rS l[i]?) && decide (l.length≤1000) && !l.isEmpty
 | none=>false
def oj (Γ:Gm) (j:Nat) (l:List D):List D:=match Γ.cl[j]? with
 | some k=>if k.at_.isEmpty then [] else l
 | none=>l
def bc (f:D→Sta→ar):List D→Sta→ar
 | [],s=>.nx s
 | d :: r,s=>(f d s).go fun s=>bc f r s
def vS (c:Sta→Out D) (f:Sta→ar):Nat→Sta→ar
 | 0,_=>.bad
 | m+1,s=>(c s).go fun x s=>match x with | .bl true=>(f s).go fun s=>vS c f m s | .bl false=>.nx s | _=>.bad
def cO (Γ:Gm) (j c:Nat):Option Bool:=(Γ.cl[c]?).map fun k=>c == j || k.sup.contains j
section
variable (Γ:Gm) (cal cal1:Nat→List D→List O→Res)
def exS:S→Sta→ar
 | .skip,s=>.nx s
 | .seq a b,s=>(exS a s).go fun s=>exS b s
 | .set i e,s=>(ev Γ cal cal1 false e s).go fun d s=>.nx (lM s i d (bf e))
 | .setT l e,s=>(ev Γ cal cal1 false e s).go fun d s=>(match aL l false d s.env with | some env=>.nx ⟨env,s.ow.filter fun i=>!l.contains i,s.st⟩ | none=>.bad)
 | .setR i es,s=>(evs Γ cal cal1 false es s).go fun l s=>if l.length≤100000 then .nx ⟨s.env.set i (some (.ref s.st.length)),s.ow.filter (· != i),s.st ++ [.lst l]⟩ else .bad
 | .ret e,s=>(ev Γ cal cal1 false e s).go fun d s=>.rt d s
 | .ifs c a b,s=>(ev Γ cal cal1 true c s).go fun x s=>(match x with | .bl true=>exS a s | .bl false=>exS b s | _=>.bad)
 | .drop e,s=>(ev Γ cal cal1 false e s).go fun _ s=>.nx s
 | .app i e,s=>if s.ow.contains i && isLst s.env[i]? then (ev Γ cal cal1 false e s).go fun d s=>if s.ow.contains i then (match s.env[i]? with
  | some (some (.lst l))=>if l.length<100000 then .nx ⟨s.env.set i (some (.lst (l ++ [d]))),s.ow,s.st⟩ else .bad
  | _=>.bad) else .bad else .bad
 | .ext i e,s=>if s.ow.contains i && isLst s.env[i]? then (ev Γ cal cal1 false e s).go fun d s=>if s.ow.contains i then (match s.env[i]?,d with
  | some (some (.lst l)),.lst x=>if l.length+x.length≤100000 then .nx ⟨s.env.set i (some (.lst (l ++ x))),s.ow,s.st⟩ else .bad
  | _,_=>.bad) else .bad else .bad
 | .put (.v i) b e,s=>(ev Γ cal cal1 false e s).go fun d s=>(match s.env[i]? with
  | some (some x)=>(ev Γ cal cal1 true b s).go fun k s=>(match x with
    | .ref n=>(match (s.st[n]?).bind fun o=>d5 o k d with | some o=>.nx ⟨s.env,s.ow,s.st.set n o⟩ | none=>.bad)
    | x=>if s.ow.contains i then (match jq x k d with | some y=>.nx ⟨s.env.set i (some y),s.ow,s.st⟩ | none=>.bad) else .bad)
  | _=>.bad)
 | .put a b e,s=>(ev Γ cal cal1 false e s).go fun d s=>(ev Γ cal cal1 true a s).go fun x s=>(ev Γ cal cal1 true b s).go fun k s=>(match x with
  | .ref n=>(match (s.st[n]?).bind fun o=>d5 o k d with | some o=>.nx ⟨s.env,s.ow,s.st.set n o⟩ | none=>.bad)
  | _=>.bad)
 | .fld a f e,s=>(match e with
  | .lst .nil=>(ev Γ cal cal1 true a s).go fun x s=>(match x with
    | .ref n=>(match (s.st[n]?).bind fun o=>fh Γ o f (.ref s.st.length) with | some o=>.nx ⟨s.env,s.ow,(s.st ++ [O.lst []]).set n o⟩ | none=>.bad)
    | _=>.bad)
  | .dic .nil=>(ev Γ cal cal1 true a s).go fun x s=>(match x with
    | .ref n=>(match (s.st[n]?).bind fun o=>fh Γ o f (.ref s.st.length) with | some o=>.nx ⟨s.env,s.ow,(s.st ++ [O.dic [] []]).set n o⟩ | none=>.bad)
    | _=>.bad)
  | e=>(ev Γ cal cal1 false e s).go fun d s=>(ev Γ cal cal1 true a s).go fun x s=>(match x with
    | .ref n=>(match (s.st[n]?).bind fun o=>fh Γ o f d with | some o=>.nx ⟨s.env,s.ow,s.st.set n o⟩ | none=>.bad)
    | _=>.bad))
 | .aug a f o e,s=>(ev Γ cal cal1 true a s).go fun x s=>(match x with
  | .ref n=>(match pW Γ s.st x f with
    | some (.int i)=>(ev Γ cal cal1 false e s).go fun d s=>(match d with
      | .int j=>(match opI o i j,s.st[n]? with
        | some y,some ob=>(match fh Γ ob f y with | some ob=>.nx ⟨s.env,s.ow,s.st.set n ob⟩ | none=>.bad)
        | _,_=>.bad)
      | _=>.bad)
    | _=>.bad)
  | _=>.bad)
 | .fapp a f e,s=>(ev Γ cal cal1 true (.fld a f) s).go fun x s=>(ev Γ cal cal1 false e s).go fun d s=>(match x with
  | .ref n=>(match s.st[n]? with | some (.lst l)=>if l.length<100000 then .nx ⟨s.env,s.ow,s.st.set n (.lst (l ++ [d]))⟩ else .bad | _=>.bad)
  | _=>.bad)
 | .for_ t one it b,s=>(ev Γ cal cal1 false it s).go fun x s=>(match x with
  | .lst ds=>bc (fun d s=>match aL t one d s.env with | some env=>exS b ⟨env,s.ow.filter fun i=>!t.contains i,s.st⟩ | none=>.bad) ds s
  | _=>.bad)
 | .whl c b,s=>vS (ev Γ cal cal1 true c) (exS b) 100000 s
 | .rais j es,s=>(evs Γ cal cal1 false es s).go fun l s=>if eY Γ j l then .exc j (oj Γ j l) s else .bad
 | .try_ a hs,s=>(match exS a s with
  | .exc c l s'=>hnd hs c l s'
  | r=>r)
 | _,_=>.bad
where hnd:S→Nat→List D→Sta→ar
 | .hand j (some i) b r,c,l,s=>(match cO Γ j c with
  | some true=>(match exS b ⟨s.env.set i (some (.ins c l)),s.ow.filter (· != i),s.st⟩ with
    | .nx s=>.nx ⟨s.env.set i none,s.ow.filter (· != i),s.st⟩
    | .rt d s=>.rt d s
    | _=>.bad)
  | some false=>hnd r c l s
  | none=>.bad)
 | .hand j none b r,c,l,s=>(match cO Γ j c with
  | some true=>(match exS b s with | .nx s=>.nx s | .rt d s=>.rt d s | _=>.bad)
  | some false=>hnd r c l s
  | none=>.bad)
 | _,_,_,_=>.bad
end
def kA (Γ:Gm) (cal cal1:Nat→List D→List O→Res) (j:Nat) (ds:List D) (st:List O):Res:=match Γ.fn[j]? with
 | some f=>if ds.length=f.np then (match exS Γ cal cal1 f.body ⟨ds.map some ++ List.replicate (f.ns - f.np) none,[],st⟩ with
   | .nx s=>.ok .non s.st
   | .rt d s=>.ok d s.st
   | .exc c l s=>.exc c l s.st
   | .bad=>.bad) else .bad
 | none=>.bad
def pH (Γ:Gm):Nat→(Nat→List D→List O→Res)×(Nat→List D→List O→Res)
 | 0=>(fun _ _ _=>.bad,fun _ _ _=>.bad)
 | n+1=>(kA Γ (pH Γ n).1 (pH Γ n).2,(pH Γ n).1)
def ag (Γ:Gm) (n:Nat):Nat→List D→List O→Res:=(pH Γ n).1
def aK (Γ:Gm) (n:Nat):Nat→List D→List O→Res:=(pH Γ n).2
structure CI where
 ad:Addr
 nm:List Str
structure Wd where
 P:Program
 w:World
 ci:List CI
 what:List Nat
abbrev Hp:=Addr→Option Obj
abbrev Rs:=List (Addr×Addr)
def TpO (o:Obj) (l:List Value):Prop:=o.cls = .type "tuple"∧(∃ n,o.data = .seq l.toArray n)∧l.length≤sizeLine∧o.dict=none
def LsO (o:Obj) (l:List Value):Prop:=(∃ n,o={ cls:=.type "list",data:=.seq l.toArray n })∧l.length≤sizeLine
def DcO (W:Wd) (o:Obj) (l:List (Key×Value)):Prop:=∃ es ep,o.ExactDict∧o.data = .dict es ep∧KeysOf (ba W.P W.w) es∧Pairs (ba W.P W.w) es.toList l∧(l.map (·.1)).Nodup∧l.length≤sizeLine
def NsO (o:Obj) (l:List (Str×Value)):Prop:=∃ es ep,o.data = .dict es ep∧StrKeys es∧UniqKeys es∧∀ n,nsFind es n=l.lookup n
def InO (h:Hp) (a dx C:Addr) (l:List (Str×Value)):Prop:=h a=some (PySem.W.instObj C dx)∧dx≠a∧l.length≤1000∧∃ o,h dx=some o∧NsO o l
def ExO (h:Hp) (a C:Addr) (l:List (Str×Value)):Prop:=∃ o vs,h a=some o∧o.cls = .ref C∧o.data = .fields vs∧((l = []∧o.dict=none)∨∃ d od,o.dict=some d∧h d=some od∧NsO od l)
mutual
noncomputable def RD (W:Wd) (ρ:Rs) (G:Hp):D→Value→Prop
 | .non,v=>v = .none
 | .bl b,v=>v = .bool b
 | .int i,v=>∃ t,v = .int i t
 | .str x,v=>∃ t,v = .str x t
 | .tup ds,v=>∃ a o vs,v = .ref a∧G a=some o∧TpO o vs∧RDs W ρ G ds vs
 | .lst ds,v=>∃ a o vs,v = .ref a∧G a=some o∧LsO o vs∧RDs W ρ G ds vs
 | .dic ks ds,v=>∃ a o vs,v = .ref a∧(a == sysModules)=false∧G a=some o∧DcO W o (ks.zip vs)∧ks.length=ds.length∧RDs W ρ G ds vs
 | .ins c ds,v=>∃ a i vs,v = .ref a∧W.ci[c]? = some i∧ds.length≤i.nm.length∧((W.what[c]? = some 1∧∃ dx,InO G a dx i.ad (i.nm.zip vs))∨(W.what[c]? = some 2∧ExO G a i.ad (i.nm.zip vs)))∧RDs W ρ G ds vs
 | .ref n,v=>∃ p,ρ[n]? = some p∧v = .ref p.1
noncomputable def RDs (W:Wd) (ρ:Rs) (G:Hp):List D→List Value→Prop
 | [],vs=>vs = []
 | d :: ds,vs=>∃ v r,vs=v :: r∧RD W ρ G d v∧RDs W ρ G ds r
end
def Sub (G H:Hp):Prop:=∀ a o,G a=some o→H a=some o
theorem Sub.refl (G):Sub G G:=fun _ _ e=>e
theorem Sub.trans (h:Sub G H) (i:Sub H I):Sub G I:=fun a o e=>i a o (h a o e)
section
variable {W:Wd} {ρ ρ':Rs} {G G' H H':Hp}
theorem jo (h:ρ <+: ρ') {n:Nat} (e:ρ[n]? = some a):ρ'[n]? = some a:=by
 obtain ⟨t,rfl⟩:=h
 rw [List.getElem?_append_left (List.getElem?_eq_some_iff.mp e).1];exact e
theorem InO.sub (h:Sub G G'):InO G a dx C l→InO G' a dx C l:=fun ⟨x,n,z,o,e,r⟩=>⟨h _ _ x,n,z,o,h _ _ e,r⟩
theorem ExO.sub (h:Sub G G'):ExO G a C l→ExO G' a C l:=fun ⟨o,vs,e,c,d,r⟩=>⟨o,vs,h _ _ e,c,d,r.elim .inl fun ⟨d,od,q,e,r⟩=>.inr ⟨d,od,q,h _ _ e,r⟩⟩
mutual
theorem RD.mono (hp:ρ <+: ρ') (h:Sub G G'):∀ {d:D} {v},RD W ρ G d v→RD W ρ' G' d v
 | .non,_,e=>e
 | .bl _,_,e=>e
 | .int _,_,e=>e
 | .str _,_,e=>e
 | .tup _,_,⟨a,o,vs,e,t,q,r⟩=>⟨a,o,vs,e,h _ _ t,q,RDs.mono hp h r⟩
 | .lst _,_,⟨a,o,vs,e,t,q,r⟩=>⟨a,o,vs,e,h _ _ t,q,RDs.mono hp h r⟩
 | .dic _ _,_,⟨a,o,vs,e,m,t,q,l,r⟩=>⟨a,o,vs,e,m,h _ _ t,q,l,RDs.mono hp h r⟩
 | .ins _ _,_,⟨a,i,vs,e,hc,l,t,r⟩=>⟨a,i,vs,e,hc,l,t.elim (fun ⟨w,dx,q⟩=>.inl ⟨w,dx,q.sub h⟩) (fun ⟨w,q⟩=>.inr ⟨w,q.sub h⟩),RDs.mono hp h r⟩
 | .ref _,_,⟨a,e,q⟩=>⟨a,jo hp e,q⟩
theorem RDs.mono (hp:ρ <+: ρ') (h:Sub G G'):∀ {ds} {vs},RDs W ρ G ds vs→RDs W ρ' G' ds vs
 | [],_,e=>e
 | _ :: _,_,⟨v,r,e,t,q⟩=>⟨v,r,e,RD.mono hp h t,RDs.mono hp h q⟩
end
theorem RDs.cons (h:RD W ρ G d v) (t:RDs W ρ G ds vs):RDs W ρ G (d :: ds) (v :: vs):=⟨v,vs,rfl,h,t⟩
theorem jr:∀ {ds vs},RDs W ρ G ds vs↔Paired (RD W ρ G) ds vs
 | [],vs=>⟨fun h=>by cases (show vs = [] from h);exact .nil,fun h=>by cases h;exact rfl⟩
 | d :: ds,vs=>⟨fun ⟨v,r,e,h,t⟩=>e ▸ .cons h (jr.mp t),fun h=>by cases h with | cons h t=>exact .cons h (jr.mpr t)⟩
theorem RDs.len (h:RDs W ρ G ds vs):ds.length=vs.length:=(jr.mp h).length
theorem RDs.get:∀ {ds} {vs} {i:Nat} {d:D},RDs W ρ G ds vs→ds[i]? = some d→∃ v,vs[i]? = some v∧RD W ρ G d v
 | [],_,_,_,_,e=>by simp at e
 | d :: ds,vs,0,d',⟨v,r,e,h,_⟩,e'=>by subst e;simp at e';subst e';exact ⟨v,rfl,h⟩
 | d :: ds,vs,i+1,d',⟨v,r,e,_,t⟩,e'=>by
   subst e
   obtain ⟨u,h1,h2⟩:=RDs.get (i:=i) t (by simpa using e')
   exact ⟨u,by simpa using h1,h2⟩
theorem RDs.app:∀ {ds es} {vs us},RDs W ρ G ds vs→RDs W ρ G es us→RDs W ρ G (ds ++ es) (vs ++ us)
 | [],_,vs,_,h,t=>by cases (show vs = [] from h);exact t
 | d :: ds,es,vs,us,⟨v,r,e,h,t'⟩,t=>by subst e;exact .cons h (RDs.app t' t)
theorem RDs.drop:∀ {ds} {vs} (n),RDs W ρ G ds vs→RDs W ρ G (ds.drop n) (vs.drop n)
 | _,_,0,h=>h
 | [],vs,n+1,h=>by cases (show vs = [] from h);exact rfl
 | d :: ds,vs,n+1,⟨v,r,e,h,t⟩=>by subst e;exact RDs.drop n t
theorem RDs.take:∀ {ds} {vs} (n),RDs W ρ G ds vs→RDs W ρ G (ds.take n) (vs.take n)
 | _,_,0,_=>rfl
 | [],vs,n+1,h=>by cases (show vs = [] from h);exact rfl
 | d :: ds,vs,n+1,⟨v,r,e,h,t⟩=>by subst e;exact .cons h (RDs.take n t)
theorem RDs.set:∀ {ds} {vs} (n) {d} {v},RDs W ρ G ds vs→RD W ρ G d v→RDs W ρ G (ds.set n d) (vs.set n v)
 | [],vs,_,_,_,h,_=>by cases (show vs = [] from h);exact rfl
 | d :: ds,vs,0,_,_,⟨v,r,e,h,t⟩,q=>by subst e;exact .cons q t
 | d :: ds,vs,n+1,_,_,⟨v,r,e,h,t⟩,q=>by subst e;exact .cons h (RDs.set n t q)
theorem RDs.rev:∀ {ds} {vs},RDs W ρ G ds vs→RDs W ρ G ds.reverse vs.reverse
 | [],vs,h=>by cases (show vs = [] from h);exact rfl
 | d :: ds,vs,⟨v,r,e,h,t⟩=>by subst e;rw [List.reverse_cons,List.reverse_cons];exact (RDs.rev t).app (.cons h rfl)
end
def ObR (W:Wd) (ρ:Rs) (G h:Hp) (p:Addr×Addr):O→Prop
 | .lst ds=>∃ o vs,p.2=p.1∧h p.1=some o∧LsO o vs∧RDs W ρ G ds vs
 | .dic ks ds=>∃ o vs,p.2=p.1∧(p.1 == sysModules)=false∧h p.1=some o∧DcO W o (ks.zip vs)∧ks.length=ds.length∧RDs W ρ G ds vs
 | .ins c ds=>∃ i vs,W.ci[c]? = some i∧W.what[c]? = some 0∧ds.length≤i.nm.length∧InO h p.1 p.2 i.ad (i.nm.zip vs)∧RDs W ρ G ds vs
theorem ObR.mono (hp:ρ <+: ρ') (g:Sub G G') (k:∀ a,a=p.1∨a=p.2→∀ o,h a=some o→h' a=some o):∀ {o},ObR W ρ G h p o→ObR W ρ' G' h' p o
 | .lst _,⟨o,vs,z,e,q,r⟩=>⟨o,vs,z,k _ (.inl rfl) _ e,q,r.mono hp g⟩
 | .dic _ _,⟨o,vs,z,m,e,q,l,r⟩=>⟨o,vs,z,m,k _ (.inl rfl) _ e,q,l,r.mono hp g⟩
 | .ins _ _,⟨i,vs,c,w,l,⟨e,n,z,o,e2,q⟩,r⟩=>⟨i,vs,c,w,l,⟨k _ (.inl rfl) _ e,n,z,o,k _ (.inr rfl) _ e2,q⟩,r.mono hp g⟩
theorem ObR.th:∀ {o},ObR W ρ G h p o→(∃ o,h p.1=some o)∧∃ o,h p.2=some o
 | .lst _,⟨o,vs,z,e,_⟩=>⟨⟨o,e⟩,z ▸ ⟨o,e⟩⟩
 | .dic _ _,⟨o,vs,z,m,e,_⟩=>⟨⟨o,e⟩,z ▸ ⟨o,e⟩⟩
 | .ins _ _,⟨i,vs,c,w,l,⟨e,n,z,o,e2,q⟩,r⟩=>⟨⟨_,e⟩,⟨_,e2⟩⟩
def toO:D→Option O
 | .lst l=>some (.lst l)
 | .dic k l=>some (.dic k l)
 | _=>none
structure Cx where
 W:Wd
 K:Fg
 mg:Str→Option Value
 base:Heap
 os:OsState
 Γ:Gm
 cal:Nat→List D→List O→Res
 cal1:Nat→List D→List O→Res
 A:Around
 fr:List Env
 N:List Str
 env:Env
 calm:Bool
abbrev Cx.ev (X:Cx) (br:Bool) (e:E):Sta→Out D:=Ev.ev X.Γ X.cal X.cal1 br e
abbrev Cx.evs (X:Cx) (br:Bool) (e:E):Sta→Out (List D):=Ev.evs X.Γ X.cal X.cal1 br e
abbrev Cx.ex (X:Cx) (c:S):Sta→ar:=Ev.exS X.Γ X.cal X.cal1 c
abbrev Cx.M (X:Cx):Model:=model X.W.P X.W.w
structure Z where
 ρ:Rs
 G:Hp
 t:Sta
 σ:List (Option Value)
 s:Shared
abbrev Z.h (z:Z):Hp:=z.s.heap.get?
def Mu (ρ:Rs) (a:Addr):Prop:=∃ p∈ρ,a=p.1∨a=p.2
def Own (z:Z) (a:Addr):Prop:=∃ i∈z.t.ow,z.σ[i]? = some (some (.ref a))
def Lc (X:Cx) (a:Addr):Prop:=a=X.env.locals∨∃ x,X.env.cells.lookup x=some a
structure HR (X:Cx) (z:Z):Prop where
 md:Mod X.K X.mg X.base
 fm:X.A.frames=some X.fr
 hd:X.calm=true→X.A.handled=none
 bs:∀ b o,X.base.get? b=some o→z.G b=some o
 gh:Sub z.G z.h
 rl:z.ρ.length=z.t.st.length
 rn:∀ (i j:Nat) (p q:Addr×Addr) (a:Addr),z.ρ[i]? = some p→z.ρ[j]? = some q→(a=p.1∨a=p.2)→(a=q.1∨a=q.2)→i=j
 rg:∀ a,Mu z.ρ a→z.G a=none
 ob:∀ (n:Nat) (o:O) (p:Addr×Addr),z.t.st[n]? = some o→z.ρ[n]? = some p→ObR X.W z.ρ z.G z.h p o
 fu:z.s.heap.FunFrames X.base X.fr
 ff:∀ b∈frs X.fr,z.G b=none∧¬ Mu z.ρ b
 br:AllBare z.s.gens
 os:z.s.os=X.os
structure COk (X:Cx):Prop where
 un:X.A.units+200<cLine
 kd:X.env.scope.kind = .function
 gl:X.env.globals=mainGlobals
 bl:X.env.builtins=builtinsNs
 ci:∀ x y c,X.env.cells.lookup x=some c→X.env.cells.lookup y=some c→x=y
 ch:∀ x,(X.env.kindOf x=some .cell∨X.env.kindOf x=some .free)→∃ c,X.env.cells.lookup x=some c
def Fre (X:Cx) (z:Z) (a:Addr):Prop:=z.G a=none∧¬ Mu z.ρ a∧a ∉ frs X.fr∧¬ Lc X a
structure Rep (X:Cx) (z:Z):Prop extends HR X z where
 ok:COk X
 lo:∃ m,z.s.heap.Ns X.env.locals m∧∀ (i:Nat) (x:Str) (u:Value),X.N[i]? = some x→z.σ[i]? = some (some u)→Vis X.env.scope x→kM X.env z.s.heap m x u
 ce:∀ x c,X.env.cells.lookup x=some c→∃ v,z.s.heap.IsCell c v
 fl:∀ a,Lc X a→z.G a=none∧¬ Mu z.ρ a
 el:z.t.env.length=z.σ.length
 sl:z.σ.length=X.N.length
 en:∀ (i:Nat) (d:D),i ∉ z.t.ow→z.t.env[i]? = some (some d)→∃ u,z.σ[i]? = some (some u)∧RD X.W z.ρ z.G d u
 eo:∀ (i:Nat),i∈z.t.ow→∃ d a o,z.t.env[i]? = some (some d)∧z.σ[i]? = some (some (.ref a))∧toO d=some o∧ObR X.W z.ρ z.G z.h (a,a) o∧Fre X z a
 od:∀ (i j:Nat) (a:Addr),i∈z.t.ow→j∈z.t.ow→z.σ[i]? = some (some (.ref a))→z.σ[j]? = some (some (.ref a))→i=j
structure Stp (fr:List Env) (w:Addr→Prop) (z z':Z):Prop where
 pr:z.ρ <+: z'.ρ
 gg:Sub z.G z'.G
 gn:∀ a o,z'.G a=some o→z.G a=some o∨z.h a=none∨w a
 rn:∀ a,Mu z'.ρ a→Mu z.ρ a∨z.h a=none
 th:∀ a o,z.h a=some o→∃ o',z'.h a=some o'
 sm:∀ a o,z.h a=some o→¬ Mu z.ρ a→¬ w a→a ∉ frs fr→z'.h a=some o
 sl:∀ a o,z.h a=some o→¬ Mu z.ρ a→¬ w a→a∈frs fr→∃ sl,z'.h a=some { o with slots:=sl }
theorem Stp.no (x:Stp fr w z z') (e:z'.h a=none):z.h a=none:=by
 cases q:z.h a with
 | none=>rfl
 | some o=>obtain ⟨o',e'⟩:=x.th a o q;rw [e] at e';cases e'
theorem Stp.refl:Stp fr w z z:=⟨List.prefix_refl _,.refl _,fun _ _ e=>.inl e,fun _ h=>.inl h,fun _ o e=>⟨o,e⟩,fun _ _ e _ _ _=>e,fun _ o e _ _ _=>⟨o.slots,e⟩⟩
theorem Stp.trans (x:Stp fr w z z1) (y:Stp fr w1 z1 z2) (k:∀ a,w1 a→w a∨z.h a=none):Stp fr w z z2:=by
 have nm:∀ a o,z.h a=some o→¬ Mu z.ρ a→¬ Mu z1.ρ a:=fun a o e n m=>(x.rn a m).elim n fun q=>by rw [q] at e;cases e
 have nw:∀ a o,z.h a=some o→¬ w a→¬ w1 a:=fun a o e n m=>(k a m).elim n fun q=>by rw [q] at e;cases e
 refine ⟨x.pr.trans y.pr,x.gg.trans y.gg,fun a o e=>?_,fun a m=>?_,fun a o e=>?_,fun a o e n m f=>y.sm a o (x.sm a o e n m f) (nm a o e n) (nw a o e m) f,fun a o e n m f=>?_⟩
 ·rcases y.gn a o e with q | q | q
  ·exact x.gn a o q
  ·exact .inr (.inl (x.no q))
  ·exact .inr ((k a q).symm)
 ·rcases y.rn a m with q | q
  ·exact x.rn a q
  ·exact .inr (x.no q)
 ·obtain ⟨o1,e1⟩:=x.th a o e;exact y.th a o1 e1
 ·obtain ⟨sl,e1⟩:=x.sl a o e n m f
  obtain ⟨sl2,e2⟩:=y.sl a _ e1 (nm a o e n) (nw a o e m) f
  exact ⟨sl2,e2⟩
theorem Stp.mono (x:Stp fr w z z') (k:∀ a,w a→w' a):Stp fr w' z z':=⟨x.pr,x.gg,fun a o e=>(x.gn a o e).imp_right (·.imp_right (k a)),x.rn,x.th,fun a o e n m=>x.sm a o e n fun q=>m (k a q),fun a o e n m=>x.sl a o e n fun q=>m (k a q)⟩
structure Ee (X:Cx) (z z':Z):Prop where
 st:Stp X.fr (Own z) z z'
 sg:z'.σ=z.σ
 en:z'.t.env=z.t.env
 ow:∀ i∈z'.t.ow,i∈z.t.ow
theorem Ee.refl:Ee X z z:=⟨.refl,rfl,rfl,fun _ h=>h⟩
theorem Ee.own (x:Ee X z z'):Own z' a→Own z a:=fun ⟨i,m,e⟩=>⟨i,x.ow i m,x.sg ▸ e⟩
theorem Ee.trans (x:Ee X z z1) (y:Ee X z1 z2):Ee X z z2:=⟨x.st.trans y.st fun _ o=>.inl (x.own o),y.sg.trans x.sg,y.en.trans x.en,fun i m=>x.ow i (y.ow i m)⟩
def Pv (X:Cx) (z:Z) (a:Addr):Prop:=Own z a∨Lc X a
structure Go (X:Cx) (z z':Z):Prop where
 st:Stp X.fr (Pv X z) z z'
 ow:∀ a,Own z' a→Own z a∨z.h a=none
theorem Go.refl:Go X z z:=⟨.refl,fun _ o=>.inl o⟩
theorem Go.trans (x:Go X z z1) (y:Go X z1 z2):Go X z z2:=by
 refine ⟨x.st.trans y.st fun a o=>o.elim (fun q=>(x.ow a q).imp_left .inl) fun q=>.inl (.inr q),fun a o=>?_⟩
 rcases y.ow a o with q | q
 ·exact x.ow a q
 ·exact .inr (x.st.no q)
theorem Ee.go (x:Ee X z z'):Go X z z':=⟨x.st.mono fun _=>.inl,fun _ o=>.inl (x.own o)⟩
def RB (W:Wd) (z:Z) (d:D) (u:Value):Prop:=RD W z.ρ z.G d u∨∃ i∈z.t.ow,z.σ[i]? = some (some u)∧z.t.env[i]? = some (some d)
def RV (W:Wd) (br:Bool) (c:E) (z:Z) (d:D) (u:Value):Prop:=RD W z.ρ z.G d u∨(br=true∧∃ i,c = .v i∧i∈z.t.ow∧z.σ[i]? = some (some u)∧z.t.env[i]? = some (some d))
theorem RV.of (h:RD W z.ρ z.G d u):RV W br c z d u:=.inl h
theorem RV.rd (h:RV W false c z d u):RD W z.ρ z.G d u:=h.elim id fun ⟨z,_⟩=>nomatch z
theorem RV.rb (h:RV W br c z d u):RB W z d u:=h.elim .inl fun ⟨_,i,_,m,e⟩=>.inr ⟨i,m,e⟩
theorem RD.st (h:RD W z.ρ z.G d u) (x:Stp fr w z z'):RD W z'.ρ z'.G d u:=h.mono x.pr x.gg
theorem RV.st (h:RV X.W br c z d u) (x:Ee X z z') (I:Rep X z'):RV X.W br c z' d u:=by
 rcases h with h | ⟨b,i,hc,m,e1,e2⟩
 ·exact .inl (h.st x.st)
 ·by_cases q:i∈z'.t.ow
  ·exact .inr ⟨b,i,hc,q,x.sg ▸ e1,x.en ▸ e2⟩
  ·obtain ⟨u',e3,r⟩:=I.en i d q (x.en ▸ e2)
   rw [x.sg,e1] at e3;cases e3
   exact .inl r
theorem RB.st (h:RB X.W z d u) (x:Ee X z z') (I:Rep X z'):RB X.W z' d u:=by
 rcases h with h | ⟨i,m,e1,e2⟩
 ·exact .inl (h.st x.st)
 ·by_cases q:i∈z'.t.ow
  ·exact .inr ⟨i,q,x.sg ▸ e1,x.en ▸ e2⟩
  ·obtain ⟨u',e3,r⟩:=I.en i d q (x.en ▸ e2)
   rw [x.sg,e1] at e3;cases e3
   exact .inl r
def CR (W:Wd) (z:Z):D→Value→Prop
 | .lst ds,v=>∃ a o vs,v = .ref a∧z.h a=some o∧LsO o vs∧RDs W z.ρ z.G ds vs
 | .dic ks ds,v=>∃ a o vs,v = .ref a∧(a == sysModules)=false∧z.h a=some o∧DcO W o (ks.zip vs)∧ks.length=ds.length∧RDs W z.ρ z.G ds vs
 | d,v=>RD W z.ρ z.G d v
theorem CR.of (I:HR X z):∀ {d},RD X.W z.ρ z.G d u→CR X.W z d u
 | .non,h=>h
 | .bl _,h=>h
 | .int _,h=>h
 | .str _,h=>h
 | .ref _,h=>h
 | .ins _ _,h=>h
 | .tup _,h=>h
 | .lst _,⟨a,o,vs,e,g,r⟩=>⟨a,o,vs,e,I.gh _ _ g,r⟩
 | .dic _ _,⟨a,o,vs,e,m,g,r⟩=>⟨a,o,vs,e,m,I.gh _ _ g,r⟩
theorem CR.ob {d:D} (e:toO d=some o) (h:ObR W z.ρ z.G z.h (a,b) o):CR W z d (.ref a):=by
 cases d <;> cases e
 ·obtain ⟨o,vs,_,r⟩:=h;exact ⟨a,o,vs,rfl,r⟩
 ·obtain ⟨o,vs,_,r⟩:=h;exact ⟨a,o,vs,rfl,r⟩
theorem RB.cr0 (I:Rep X z) (h:RB X.W z d u):CR X.W z d u:=by
 rcases h with h | ⟨i,m,e1,e2⟩
 ·exact .of I.toHR h
 ·obtain ⟨d',a,o,e3,e4,e5,r,_⟩:=I.eo i m
  rw [e1] at e4;cases e4
  rw [e2] at e3;cases e3
  exact .ob e5 r
theorem RB.cr (I:Rep X z) (h:RB X.W z d u):CR X.W z (look z.t.st d) u:=by
 have c:=h.cr0 I
 cases d with
 | ref n=>
   obtain ⟨p,e,rfl⟩:=(show RD X.W z.ρ z.G (.ref n) u from c)
   show CR X.W z (match z.t.st[n]? with | some (.lst l)=>.lst l | some (.dic k l)=>.dic k l | _=>.ref n) _
   cases q:z.t.st[n]? with
   | none=>exact c
   | some o=>
     have r:=I.ob n o p q e
     cases o with
     | lst l=>exact .ob (d:=.lst l) rfl r
     | dic k l=>exact .ob (d:=.dic k l) rfl r
     | ins _ _=>exact c
 | _=>exact c
structure Gr (s s':Shared):Prop where
 os:s'.os=s.os
 gs:s'.gens=s.gens
 k:∀ b o,s.heap.get? b=some o→s'.heap.get? b=some o
theorem Gr.refl:Gr s s:=⟨rfl,rfl,fun _ _ e=>e⟩
theorem Gr.tok {s:Shared} {t:Nat}:Gr s { s with toks:=t }:=⟨rfl,rfl,fun _ _ e=>e⟩
theorem Gr.hp {s:Shared} {h:Heap} {t:Nat} (k:∀ b o,s.heap.get? b=some o→h.get? b=some o):Gr s { s with heap:=h,toks:=t }:=⟨rfl,rfl,k⟩
theorem Gr.push {s:Shared} {o:Obj} {t:Nat}:Gr s { s with heap:=s.heap.push o,toks:=t }:=.hp fun _ _ e=>Heap.get?_push_of_some _ e
structure Grw (z:Z) (G':Hp) (s':Shared):Prop where
 gr:Gr z.s s'
 gg:Sub z.G G'
 gh:Sub G' s'.heap.get?
 gn:∀ a o,G' a=some o→z.G a=some o∨z.h a=none
theorem nfu {h h':Heap} (x:h.FunFrames base l) (k:∀ b o,h.get? b=some o→h'.get? b=some o):h'.FunFrames base l:=x.of_keeps fun b o e _=>⟨o,k b o e,rfl⟩
theorem HR.th (I:HR X z) (m:Mu z.ρ a):∃ o,z.h a=some o:=by
 obtain ⟨p,hp,e⟩:=m
 obtain ⟨n,hn⟩:=List.mem_iff_getElem?.mp hp
 have lt:n<z.t.st.length:=by rw [← I.rl];exact (List.getElem?_eq_some_iff.mp hn).1
 obtain ⟨h1,h2⟩:=(I.ob n _ p (List.getElem?_eq_getElem lt) hn).th
 rcases e with rfl | rfl
 ·exact h1
 ·exact h2
theorem HR.fth (I:HR X z) (m:b∈frs X.fr):∃ o,z.h b=some o:=let ⟨_,o,e,_⟩:=I.fu.mem m;⟨o,e⟩
section
variable {X:Cx} {z:Z} {G':Hp} {s':Shared}
theorem HR.grow (I:HR X z) (g:Grw z G' s'):HR X { z with G:=G',s:=s' }:=by
 have nn:∀ {a:Addr},(∃ o,z.h a=some o)→z.G a=none→G' a=none:=fun {a} ⟨o,e⟩ n=>by
  cases q:G' a with
  | none=>rfl
  | some o'=>rcases g.gn a o' q with z | z;rw [n] at z;cases z;rw [z] at e;cases e
 exact ⟨I.md,I.fm,I.hd,fun b o e=>g.gg _ _ (I.bs b o e),g.gh,I.rl,I.rn,fun a m=>nn (I.th m) (I.rg a m),fun n o p h1 h2=>(I.ob n o p h1 h2).mono (List.prefix_refl _) g.gg fun a _ o e=>g.gr.k a o e,nfu I.fu g.gr.k,fun b m=>⟨nn (I.fth m) (I.ff b m).1,(I.ff b m).2⟩,by rw [g.gr.gs];exact I.br,g.gr.os.trans I.os⟩
theorem Rep.lth (I:Rep X z) (l:Lc X a):∃ o,z.h a=some o:=by
 rcases l with rfl | ⟨x,e⟩
 ·obtain ⟨m,⟨o,_,_,e,_⟩,_⟩:=I.lo;exact ⟨o,e⟩
 ·obtain ⟨v,o,e,_⟩:=I.ce x a e;exact ⟨o,e⟩
theorem Rep.oth (I:Rep X z) (o:Own z a):Fre X z a∧∃ o,z.h a=some o:=by
 obtain ⟨i,m,e⟩:=o
 obtain ⟨d,b,o,_,e2,_,r,f⟩:=I.eo i m
 rw [e] at e2;cases e2
 exact ⟨f,r.th.1⟩
theorem cV {h h':Heap} (k:∀ c v,env.cells.lookup x=some c→h.IsCell c v→h'.IsCell c v) (l:kM env h m x u):kM env h' m x u:=l.imp_right fun ⟨a,c,e,q⟩=>⟨a,c,e,k c _ e q⟩
theorem Rep.fre (I:Rep X z) (n:z.h a=none):Fre X z a∧¬ Own z a:=by
 have no:∀ {P:Prop},(P→∃ o,z.h a=some o)→¬ P:=fun k p=>by obtain ⟨o,e⟩:=k p;rw [n] at e;cases e
 refine ⟨⟨?_,no I.th,no I.fth,no I.lth⟩,no fun o=>(I.oth o).2⟩
 cases q:z.G a with
 | none=>rfl
 | some o=>have:=I.gh a o q;rw [n] at this;cases this
theorem vJ {h h':Heap} (sl:∀ b o,h.get? b=some o→∃ sl,h'.get? b=some { o with slots:=sl }) (n:h.Ns a m):h'.Ns a m:=let ⟨o,es,ep,e,r⟩:=n;let ⟨_,q⟩:=sl a o e;⟨_,es,ep,q,r⟩
theorem fj {h h':Heap} (sl:∀ b o,h.get? b=some o→∃ sl,h'.get? b=some { o with slots:=sl }) (n:h.IsCell c v):h'.IsCell c v:=let ⟨o,e,d⟩:=n;let ⟨_,q⟩:=sl c o e;⟨_,q,d⟩
theorem Rep.grw (I:Rep X z) (os:s'.os=z.s.os) (br:AllBare s'.gens) (k:∀ b o,z.h b=some o→b ∉ frs X.fr→s'.heap.get? b=some o) (sl:∀ b o,z.h b=some o→∃ sl,s'.heap.get? b=some { o with slots:=sl })
 (gg:Sub z.G G') (gh:Sub G' s'.heap.get?) (gn:∀ a o,G' a=some o→z.G a=some o∨(Fre X z a∧¬ Own z a)):Rep X { z with G:=G',s:=s' }:=by
 have nn:∀ {a:Addr},¬ (Fre X z a∧¬ Own z a)→z.G a=none→G' a=none:=fun {a} f n=>by
  cases q:G' a with
  | none=>rfl
  | some o'=>rcases gn a o' q with z | z;rw [n] at z;cases z;exact (f z).elim
 refine ⟨⟨I.md,I.fm,I.hd,fun b o e=>gg _ _ (I.bs b o e),gh,I.rl,I.rn,fun a m=>nn (fun f=>f.1.2.1 m) (I.rg a m),fun n o p h1 h2=>(I.ob n o p h1 h2).mono (List.prefix_refl _) gg fun a ha o e=>k a o e fun m=>(I.ff a m).2 ⟨p,List.mem_of_getElem? h2,ha⟩,I.fu.of_keeps fun b o e _=>let ⟨_,q⟩:=sl b o e;⟨_,q,rfl⟩,fun b m=>⟨nn (fun f=>f.1.2.2.1 m) (I.ff b m).1,(I.ff b m).2⟩,br,os.trans I.os⟩,I.ok,?_,fun x c e=>let ⟨v,q⟩:=I.ce x c e;⟨v,fj sl q⟩,fun a l=>⟨nn (fun f=>f.1.2.2.2 l) (I.fl a l).1,(I.fl a l).2⟩,I.el,I.sl,fun i d n e=>let ⟨u,q,r⟩:=I.en i d n e;⟨u,q,r.mono (List.prefix_refl _) gg⟩,fun i m=>?_,I.od⟩
 ·obtain ⟨m,hn,hl⟩:=I.lo
  exact ⟨m,vJ sl hn,fun i x u h1 h2 h3=>cV (fun c v _ q=>fj sl q) (hl i x u h1 h2 h3)⟩
 ·obtain ⟨d,a,o,h1,h2,h3,r,f⟩:=I.eo i m
  exact ⟨d,a,o,h1,h2,h3,r.mono (List.prefix_refl _) gg fun b hb o e=>k b o e (by rcases hb with rfl | rfl <;> exact f.2.2.1),nn (fun f=>f.2 ⟨i,m,h2⟩) f.1,f.2⟩
theorem Rep.grow (I:Rep X z) (g:Grw z G' s'):Rep X { z with G:=G',s:=s' }:=I.grw g.gr.os (by rw [g.gr.gs];exact I.br) (fun b o e _=>g.gr.k b o e) (fun b o e=>⟨o.slots,g.gr.k b o e⟩) g.gg g.gh fun a o e=>(g.gn a o e).imp_right I.fre
theorem Grw.stp (g:Grw z G' s'):Stp fr w z { z with G:=G',s:=s' }:=⟨List.prefix_refl _,g.gg,fun a o e=>(g.gn a o e).imp_right .inl,fun _ m=>.inl m,fun a o e=>⟨o,g.gr.k a o e⟩,fun a o e _ _ _=>g.gr.k a o e,fun a o e _ _ _=>⟨o.slots,g.gr.k a o e⟩⟩
theorem Grw.ee (g:Grw z G' s'):Ee X z { z with G:=G',s:=s' }:=⟨g.stp,rfl,rfl,fun _ h=>h⟩
end
def Z.up (z:Z) (s':Shared):Z:={ z with G:=fun a=>match z.h a with | none=>s'.heap.get? a | some _=>z.G a,s:=s' }
theorem jz {z:Z} {s':Shared} (n:z.h a=none):(z.up s').G a=s'.heap.get? a:=by show (match z.h a with | none=>s'.heap.get? a | some _=>z.G a)=_;rw [n]
theorem cL {z:Z} {s':Shared} (I:Sub z.G z.h) (g:Gr z.s s'):Grw z (z.up s').G s':=by
 refine ⟨g,fun a o e=>?_,fun a o e=>?_,fun a o e=>?_⟩
 ·show (match z.h a with | none=>s'.heap.get? a | some _=>z.G a)=_
  rw [I a o e];exact e
 ·revert e
  show (match z.h a with | none=>s'.heap.get? a | some _=>z.G a)=_→_
  cases q:z.h a with
  | none=>exact fun e=>e
  | some u=>exact fun e=>g.k a o (I a o e)
 ·cases q:z.h a with
  | none=>exact .inr rfl
  | some u=>
    revert e
    show (match z.h a with | none=>s'.heap.get? a | some _=>z.G a)=_→_
    rw [q];exact .inl
theorem aF {z:Z} {s':Shared} (I:Sub z.G z.h) (g:Gr z.s s'):Grw z z.G s':=⟨g,.refl _,fun a o e=>g.k a o (I a o e),fun _ _ e=>.inl e⟩
def jE (z:Z) (p:Nat→Bool) (a:Addr):Prop:=∃ i∈z.t.ow,p i=false∧z.σ[i]? = some (some (.ref a))
open Classical in
noncomputable def Z.rel (z:Z) (p:Nat→Bool):Z:={ z with t:=⟨z.t.env,z.t.ow.filter p,z.t.st⟩,G:=fun a=>if jE z p a then z.h a else z.G a }
theorem fy {z:Z} (h:jE z p a):(z.rel p).G a=z.h a:=ZZ h
theorem cY {z:Z} (h:¬ jE z p a):(z.rel p).G a=z.G a:=ZY h
theorem jm {d:D} (e:toO d=some o) (r:ObR W ρ G h (a,b) o) (g:Sub G G') (q:G' a=h a):RD W ρ G' d (.ref a):=by
 cases d <;> cases e
 ·obtain ⟨o,vs,_,e,l,t⟩:=r;exact ⟨a,o,vs,rfl,q.trans e,l,t.mono (List.prefix_refl _) g⟩
 ·obtain ⟨o,vs,_,m,e,l,n,t⟩:=r;exact ⟨a,o,vs,rfl,m,q.trans e,l,n,t.mono (List.prefix_refl _) g⟩
theorem Rep.rel (I:Rep X z) (p:Nat→Bool):Rep X (z.rel p)∧Ee X z (z.rel p):=by
 have own:∀ {a},jE z p a→Own z a:=fun ⟨i,m,_,e⟩=>⟨i,m,e⟩
 have gg:Sub z.G (z.rel p).G:=fun a o e=>by
  by_cases q:jE z p a
  ·rw [(I.oth (own q)).1.1] at e;cases e
  ·rw [cY q];exact e
 have nn:∀ {a},¬ Own z a→z.G a=none→(z.rel p).G a=none:=fun n g=>by rw [cY fun q=>n (own q)];exact g
 refine ⟨⟨⟨I.md,I.fm,I.hd,fun b o e=>gg _ _ (I.bs b o e),fun a o e=>?_,I.rl,I.rn,fun a m=>nn (fun q=>(I.oth q).1.2.1 m) (I.rg a m),fun n o p h1 h2=>(I.ob n o p h1 h2).mono (List.prefix_refl _) gg fun _ _ _ e=>e,I.fu,fun b m=>⟨nn (fun q=>(I.oth q).1.2.2.1 m) (I.ff b m).1,(I.ff b m).2⟩,I.br,I.os⟩,I.ok,I.lo,I.ce,fun a l=>⟨nn (fun q=>(I.oth q).1.2.2.2 l) (I.fl a l).1,(I.fl a l).2⟩,I.el,I.sl,fun i d n e=>?_,fun i m=>?_,fun i j a m1 m2=>I.od i j a (List.mem_filter.mp m1).1 (List.mem_filter.mp m2).1⟩,⟨⟨List.prefix_refl _,gg,fun a o e=>?_,fun _ m=>.inl m,fun a o e=>⟨o,e⟩,fun _ _ e _ _ _=>e,fun _ o e _ _ _=>⟨o.slots,e⟩⟩,rfl,rfl,fun i m=>(List.mem_filter.mp m).1⟩⟩
 ·by_cases q:jE z p a
  ·rw [fy q] at e;exact e
  ·rw [cY q] at e;exact I.gh a o e
 ·by_cases m:i∈z.t.ow
  ·have pf:p i=false:=by
    cases q:p i with
    | false=>rfl
    | true=>exact ZX (List.mem_filter.mpr ⟨m,q⟩) n
   obtain ⟨d',a,o,h1,h2,h3,r,f⟩:=I.eo i m
   rw [show z.t.env[i]? = some (some d) from e] at h1;cases h1
   exact ⟨_,h2,jm h3 r gg (fy ⟨i,m,pf,h2⟩)⟩
  ·obtain ⟨u,q,r⟩:=I.en i d m e
   exact ⟨u,q,r.mono (List.prefix_refl _) gg⟩
 ·obtain ⟨m1,m2⟩:=List.mem_filter.mp m
  obtain ⟨d',a,o,h1,h2,h3,r,f⟩:=I.eo i m1
  refine ⟨d',a,o,h1,h2,h3,r.mono (List.prefix_refl _) gg fun _ _ _ e=>e,?_,f.2⟩
  refine (cY fun ⟨j,mj,pj,ej⟩=>?_).trans f.1
  rw [I.od j i a mj m1 ej h2,m2] at pj;cases pj
 ·by_cases q:jE z p a
  ·exact .inr (.inr (own q))
  ·rw [cY q] at e;exact .inl e
def Tr (h:Heap) (a:Addr) (cls:Value) (dx:Option Addr) (T:Addr) (fl:Value):Prop:=
 ∃ oe vs oT ts,h.get? a=some oe∧(oe.cls=cls∧oe.dict=dx)∧oe.data = .fields vs∧vs[1]? = some (.ref T)∧T≠a∧h.get? T=some oT∧oT.data = .fields ts∧ts[3]? = some fl
def Rw (h:Heap) (a:Addr) (cls:Value) (dx:Option Addr):Prop:=∃ oe vs,h.get? a=some oe∧(oe.cls=cls∧oe.dict=dx)∧oe.data = .fields vs∧vs[1]? = some .none
def XR (W:Wd) (z:Z) (c:Nat) (l:List D) (cls:Value) (dx:Option Addr):Prop:=∃ i,W.ci[c]? = some i∧W.what[c]? = some 2∧cls = .ref i.ad∧l.length≤i.nm.length ∧
 ((l = []∧dx=none)∨∃ d od vs,dx=some d∧z.G d=some od∧NsO od (i.nm.zip vs)∧RDs W z.ρ z.G l vs)
def Nob (X:Cx) (z z':Z) (a:Addr):Prop:=z.h a=none∧Fre X z' a∧¬ Own z' a
def XO (X:Cx) (z z':Z) (c:Nat) (l:List D) (e:Value):Prop:=∃ a cls dx,e = .ref a∧XR X.W z' c l cls dx∧Nob X z z' a ∧
 (Rw z'.s.heap a cls dx∨∃ T fl,Tr z'.s.heap a cls dx T fl∧(fl = .none∨fl=rawInt X.env.locals)∧Nob X z z' T)
theorem XO.less (h:XO X z1 z' c l e) (k:∀ a,z1.h a=none→z.h a=none):XO X z z' c l e:=by
 obtain ⟨a,cls,dx,e,r,n,h⟩:=h
 exact ⟨a,cls,dx,e,r,⟨k a n.1,n.2⟩,h.imp_right fun ⟨T,fl,t,q,n⟩=>⟨T,fl,t,q,k T n.1,n.2⟩⟩
section
variable {α β γ δ:Type} {X:Cx}
def Pe (X:Cx) (z:Z) (o:Out α) (R:Z→α→β→Prop) (u:β) (s':Shared):Prop:=∃ z' d,z'.s=s'∧o = .ok d z'.t∧Ee X z z'∧Rep X z'∧R z' d u
def Px (X:Cx) (z:Z) (o:Out α) (x:Value) (s':Shared):Prop:=∃ z' c l,z'.s=s'∧o = .exc c l z'.t∧Ee X z z'∧Rep X z'∧XO X z z' c l x
abbrev Wp (X:Cx) (t:Sem β) (z:Z) (o:Out α) (R:Z→α→β→Prop):Prop:=wpAny X.M X.A t (Pe X z o R) (Px X z o) z.s
def Jg (X:Cx) (t:Sem β) (m:Sta→Out α) (R:Z→α→β→Prop):Prop:=∀ z,Rep X z→m z.t≠.bad→Wp X t z (m z.t) R
theorem Pe.less {z1:Z} {o:Out α} {R:Z→α→β→Prop} (x:Ee X z z1) (h:Pe X z1 o R u s'):Pe X z o R u s':=let ⟨z',d,e,q,y,r⟩:=h;⟨z',d,e,q,x.trans y,r⟩
theorem Px.less {z1:Z} {o:Out α} (x:Ee X z z1) (h:Px X z1 o u s'):Px X z o u s':=let ⟨z',c,l,e,q,y,r,n⟩:=h;⟨z',c,l,e,q,x.trans y,r,n.less fun _=>x.st.no⟩
theorem Px.map {o:Out α} {f:α→Sta→Out γ} (h:Px X z o u s'):Px X z (o.bind f) u s':=let ⟨z',c,l,e,q,r⟩:=h;⟨z',c,l,e,by rw [q];rfl,r⟩
theorem Wp.less {t:Sem β} {z1:Z} {o:Out α} {R:Z→α→β→Prop} (x:Ee X z z1) (h:Wp X t z1 o R):wpAny X.M X.A t (Pe X z o R) (Px X z o) z1.s:=wpAny_mono h (fun _ _ h=>h.less x) fun _ _ h=>h.less x
theorem Jg.go {t:Sem β} {m:Sta→Out α} {R:Z→α→β→Prop} {f:α→Sta→Out γ} {o:Out γ} {K:β→Shared→Prop} (h:Jg X t m R) (x:Ee X z z1) (I:Rep X z1) (e:o=(m z1.t).bind f) (nb:o≠.bad)
 (k:∀ z2 d u,Ee X z1 z2→Ee X z z2→Rep X z2→R z2 d u→o=f d z2.t→K u z2.s):wpAny X.M X.A t K (Px X z o) z1.s:=by
 subst e
 refine wpAny_mono (h z1 I fun q=>nb (by rw [q];rfl)) (fun u s' ⟨z2,d,e,q,y,I1,r⟩=>?_) fun u s' h=>(h.less x).map
 subst e;exact k z2 d u y (x.trans y) I1 r (by rw [q];rfl)
theorem Jg.at {t:Sem β} {m:Sta→Out α} {R:Z→α→β→Prop} {o:Out α} (h:Jg X t m R) (x:Ee X z z1) (I:Rep X z1) (e:o=m z1.t) (nb:o≠.bad):wpAny X.M X.A t (Pe X z o R) (Px X z o) z1.s:=by subst e;exact (h z1 I nb).less x
def Dn (X:Cx) (z:Z) (d:D) (u:Value) (s':Shared):Prop:=Gr z.s s'∧RD X.W z.ρ (z.up s').G d u
theorem Dn.pe (I:Rep X z) (h:Dn X z d u s'):Pe X z (.ok d z.t) (RV X.W br c) u s':=⟨z.up s',d,rfl,rfl,(cL I.gh h.1).ee,I.grow (cL I.gh h.1),.of h.2⟩
theorem Dn.flat {s':Shared} (g:Gr z.s s') (h:∀ G,RD X.W z.ρ G d u):Dn X z d u s':=⟨g,h _⟩
theorem Dn.old (I:Rep X z) {s':Shared} (g:Gr z.s s') (h:RD X.W z.ρ z.G d u):Dn X z d u s':=⟨g,h.mono (List.prefix_refl _) (cL I.gh g).gg⟩
theorem Dn.at (x:Ee X z0 z) (I:Rep X z) (e:o = .ok d z.t) (h:Dn X z d u s'):Pe X z0 o (RV X.W br c) u s':=e ▸ (h.pe I).less x
theorem cW {t:Sem Value} {o:Out D} (x:Ee X z0 z) (I:Rep X z) (e:o=Out.of z.t od) (nb:o≠.bad) (h:∀ d,od=some d→wpAny X.M X.A t (Dn X z d) (fun _ _=>False) z.s):wpAny X.M X.A t (Pe X z0 o (RV X.W br c)) (Px X z0 o) z.s:=by
 cases od with
 | none=>exact ZX e nb
 | some d=>exact wpAny_mono (h d rfl) (fun _ _ h=>h.at x I e) fun _ _ z=>z.elim
end
theorem big (h:n≤100000):n≤sizeLine:=Nat.le_trans h (by rw [sizeLine_eq];decide)
theorem jM:∀ {ds es} {b},dD f ds es=some b→(∀ j (h1:j<ds.length) (h2:j<es.length),∃ c,f ds[j] es[j]=some c)∧b=(List.range (min ds.length es.length)).all fun j=>(f (ds[j]?.getD .non) (es[j]?.getD .non)).getD false
 | [],es,b,h=>by cases h;exact ⟨fun j h=>ZX h (Nat.not_lt_zero _),by simp⟩
 | d :: ds,[],b,h=>by cases h;exact ⟨fun j _ h=>ZX h (Nat.not_lt_zero _),by simp⟩
 | d :: ds,e :: es,b,h=>by
   unfold dD at h
   cases q:f d e with
   | none=>rw [q] at h;cases h
   | some x=>
     rw [q] at h
     cases q2:dD f ds es with
     | none=>rw [q2] at h;cases h
     | some y=>
       rw [q2] at h
       cases h
       obtain ⟨i1,i2⟩:=jM q2
       refine ⟨fun j h1 h2=>?_,?_⟩
       ·cases j with
        | zero=>exact ⟨x,q⟩
        | succ j=>exact i1 j (Nat.lt_of_succ_lt_succ h1) (Nat.lt_of_succ_lt_succ h2)
       ·have m:min (d :: ds).length (e :: es).length=min ds.length es.length+1:=by simp only [List.length_cons];omega
        rw [m,List.range_succ_eq_map,List.all_cons,List.all_map,i2]
        simp only [List.getElem?_cons_zero,Option.getD_some,q]
        rfl
theorem yr (f:sh d=1):∃ l,d = .tup l:=by cases d <;> first | exact ⟨_,rfl⟩ | cases f
theorem yq (f:sh d=2):∃ l,d = .lst l:=by cases d <;> first | exact ⟨_,rfl⟩ | cases f
theorem vP (d:D):sh d<4:=by cases d <;> exact Nat.le_of_ble_eq_true rfl
theorem yu:∀ x y:Fin 4,¬ (x.1=3∨y.1=3)→¬ (x.1=0∧y.1=0)→¬ x.1=y.1→(x.1=0∧(y.1=1∨y.1=2))∨((x.1=1∨x.1=2)∧y.1=0)∨(x.1=1∧y.1=2)∨(x.1=2∧y.1=1):=by decide +kernel
theorem pQ (h:eq0 d e=some b):(sh d=0∧sh e=0∧b=eqf d e)∨(b=false∧((sh d=0∧(sh e=1∨sh e=2))∨((sh d=1∨sh d=2)∧sh e=0)∨(sh d=1∧sh e=2)∨(sh d=2∧sh e=1))):=by
 unfold eq0 at h
 split at h
 ·cases h
 ·rename_i h3
  split at h
  ·rename_i h0;cases h;exact .inl ⟨h0.1,h0.2,rfl⟩
  ·split at h
   ·cases h
   ·cases h
    refine .inr ⟨rfl,?_⟩
    rename_i h0 h1
    exact yu ⟨sh d,vP d⟩ ⟨sh e,vP e⟩ h3 h0 h1
theorem og (h:eqv (n+1) d e=some b):(∃ da db y,d = .tup da∧e = .tup db∧dD (eqv n) da db=some y∧b=(y && da.length == db.length)) ∨
 (∃ da db,d = .lst da∧e = .lst db∧((da.length=db.length∧dD (eqv n) da db=some b)∨(da.length≠db.length∧b=false)))∨eq0 d e=some b:=by
 cases d with
 | tup da=>cases e with
   | tup db=>
     obtain ⟨y,a,c⟩:=Option.map_eq_some_iff.mp (show (dD (eqv n) da db).map (· && da.length == db.length)=some b from h)
     exact .inl ⟨da,db,y,rfl,rfl,a,c.symm⟩
   | _=>exact .inr (.inr h)
 | lst da=>cases e with
   | lst db=>
     have h':(if da.length=db.length then dD (eqv n) da db else some false)=some b:=h
     split at h'
     ·rename_i z;exact .inr (.inl ⟨da,db,rfl,rfl,.inl ⟨z,h'⟩⟩)
     ·rename_i z;cases h';exact .inr (.inl ⟨da,db,rfl,rfl,.inr ⟨z,rfl⟩⟩)
   | _=>exact .inr (.inr h)
 | _=>exact .inr (.inr h)
open SeqAt
def E3 (A:Around) (s:Shared) (u v:Value) (b:Bool):Prop:=EqAt A s u v b∧RcAt A s u v b∧RcNeAt A s u v (!b)
theorem sM (f1:sh d=0) (f2:sh e=0) (h1:RD W ρ G d u) (h2:RD W ρ G e v):(u=v→eqf d e=true)∧∀ A s,E3 A s u v (eqf d e):=by
 cases d with
 | non=>
   cases (show u=Value.none from h1)
   cases e with
   | non=>cases (show v=Value.none from h2);exact ⟨fun _=>rfl,fun A s=>⟨.same _,.none_none,.none_none⟩⟩
   | bl b=>cases (show v=Value.bool b from h2);exact ⟨nofun,fun A s=>⟨.none_bool _,.none_bool _,.none_bool _⟩⟩
   | int b=>obtain ⟨t,rfl⟩:=(show ∃ t,v=Value.int b t from h2);exact ⟨nofun,fun A s=>⟨.none_int _ _,.none_int _ _,.none_int _ _⟩⟩
   | str b=>obtain ⟨t,rfl⟩:=(show ∃ t,v=Value.str b t from h2);exact ⟨nofun,fun A s=>⟨.none_str _ _,.none_str _ _,.none_str _ _⟩⟩
   | _=>cases f2
 | bl a=>
   cases (show u=Value.bool a from h1)
   cases e with
   | non=>cases (show v=Value.none from h2);exact ⟨nofun,fun A s=>⟨.bool_none _,.bool_none _,.bool_none _⟩⟩
   | bl b=>cases (show v=Value.bool b from h2);exact ⟨fun z=>by cases z;exact ZT a,fun A s=>⟨.bool_bool _ _,.bool_bool _ _,.bool_bool _ _⟩⟩
   | int b=>obtain ⟨t,rfl⟩:=(show ∃ t,v=Value.int b t from h2);exact ⟨nofun,fun A s=>⟨.bool_int _ _ _,.bool_int _ _ _,.bool_int _ _ _⟩⟩
   | str b=>obtain ⟨t,rfl⟩:=(show ∃ t,v=Value.str b t from h2);exact ⟨nofun,fun A s=>⟨.bool_str _ _ _,.bool_str _ _ _,.bool_str _ _ _⟩⟩
   | _=>cases f2
 | int a=>
   obtain ⟨t,rfl⟩:=(show ∃ t,u=Value.int a t from h1)
   cases e with
   | non=>cases (show v=Value.none from h2);exact ⟨nofun,fun A s=>⟨.int_none _ _,.int_none _ _,.int_none _ _⟩⟩
   | bl b=>cases (show v=Value.bool b from h2);exact ⟨nofun,fun A s=>⟨.int_bool _ _ _,.int_bool _ _ _,.int_bool _ _ _⟩⟩
   | int b=>obtain ⟨t,rfl⟩:=(show ∃ t,v=Value.int b t from h2);exact ⟨fun z=>by cases z;exact ZT a,fun A s=>⟨.int_int _ _ _ _,.int_int _ _ _ _,.int_int _ _ _ _⟩⟩
   | str b=>obtain ⟨t,rfl⟩:=(show ∃ t,v=Value.str b t from h2);exact ⟨nofun,fun A s=>⟨.int_str _ _ _ _,.int_str _ _ _ _,.int_str _ _ _ _⟩⟩
   | _=>cases f2
 | str a=>
   obtain ⟨t,rfl⟩:=(show ∃ t,u=Value.str a t from h1)
   cases e with
   | non=>cases (show v=Value.none from h2);exact ⟨nofun,fun A s=>⟨.str_none _ _,.str_none _ _,.str_none _ _⟩⟩
   | bl b=>cases (show v=Value.bool b from h2);exact ⟨nofun,fun A s=>⟨.str_bool _ _ _,.str_bool _ _ _,.str_bool _ _ _⟩⟩
   | int b=>obtain ⟨t,rfl⟩:=(show ∃ t,v=Value.int b t from h2);exact ⟨nofun,fun A s=>⟨.str_int _ _ _ _,.str_int _ _ _ _,.str_int _ _ _ _⟩⟩
   | str b=>obtain ⟨t,rfl⟩:=(show ∃ t,v=Value.str b t from h2);exact ⟨fun z=>by cases z;exact ZT a,fun A s=>⟨.str_str _ _ _ _,.str_str _ _ _ _,.str_str _ _ _ _⟩⟩
   | _=>cases f2
 | _=>cases f1
theorem iQ {s:Shared} (f:sh d=0) (h:RD W ρ G d u) (hu:A.units<cLine):(∀ b,u≠.ref b)∧∀ b its,(s.heap.IsTuple b its∨s.heap.IsList b its)→E3 A s u (.ref b) false∧E3 A s (.ref b) u false:=by
 cases d with
 | non=>cases (show u=Value.none from h);exact ⟨nofun,fun b its p=>p.elim (fun p=>⟨⟨.none_tuple p hu,.none_tuple p hu,.none_tuple p hu⟩,.tuple_none p hu,.tuple_none p hu,.tuple_none p hu⟩) fun p=>⟨⟨.none_list p hu,.none_list p hu,.none_list p hu⟩,.list_none p hu,.list_none p hu,.list_none p hu⟩⟩
 | bl k=>cases (show u=Value.bool k from h);exact ⟨nofun,fun b its p=>p.elim (fun p=>⟨⟨.bool_tuple k p hu,.bool_tuple k p hu,.bool_tuple k p hu⟩,.tuple_bool k p hu,.tuple_bool k p hu,.tuple_bool k p hu⟩) fun p=>⟨⟨.bool_list k p hu,.bool_list k p hu,.bool_list k p hu⟩,.list_bool k p hu,.list_bool k p hu,.list_bool k p hu⟩⟩
 | int k=>obtain ⟨t,rfl⟩:=(show ∃ t,u=Value.int k t from h);exact ⟨nofun,fun b its p=>p.elim (fun p=>⟨⟨.int_tuple k t p hu,.int_tuple k t p hu,.int_tuple k t p hu⟩,.tuple_int k t p hu,.tuple_int k t p hu,.tuple_int k t p hu⟩) fun p=>⟨⟨.int_list k t p hu,.int_list k t p hu,.int_list k t p hu⟩,.list_int k t p hu,.list_int k t p hu,.list_int k t p hu⟩⟩
 | str k=>obtain ⟨t,rfl⟩:=(show ∃ t,u=Value.str k t from h);exact ⟨nofun,fun b its p=>p.elim (fun p=>⟨⟨.str_tuple k t p hu,.str_tuple k t p hu,.str_tuple k t p hu⟩,.tuple_str k t p hu,.tuple_str k t p hu,.tuple_str k t p hu⟩) fun p=>⟨⟨.str_list k t p hu,.str_list k t p hu,.str_list k t p hu⟩,.list_str k t p hu,.list_str k t p hu,.list_str k t p hu⟩⟩
 | _=>cases f
theorem CR.fl (f:sh d=0) (h:CR W z d u):RD W z.ρ z.G d u:=by cases d <;> first | exact h | cases f
theorem tpt {h:Heap} (e:h.get? a=some o) (t:TpO o l):h.IsTuple a l.toArray:=⟨o,e,t.1,t.2.1⟩
theorem lsl {h:Heap} (e:h.get? a=some o) (t:LsO o l):h.IsList a l.toArray:=by obtain ⟨⟨n,rfl⟩,_⟩:=t;exact ⟨_,e,rfl,n,rfl⟩
theorem E3.refs (ne:l=b→k=true) (h:RcAt A s (.ref l) (.ref b) k) (h2:RcNeAt A s (.ref l) (.ref b) (!k)):E3 A s (.ref l) (.ref b) k:=by
 refine ⟨?_,h,h2⟩
 by_cases q:l=b
 ·subst q;rw [ne rfl];exact .same _
 ·exact .of_refs q h
theorem e3 (I:HR X z):∀ (n:Nat) {d e u v b},eqv n d e=some b→CR X.W z d u→CR X.W z e v→(u=v→b=true)∧∀ A,A.units+n+1<cLine→E3 A z.s u v b:=by
 have low:∀ {d e u v b},eq0 d e=some b→CR X.W z d u→CR X.W z e v→(u=v→b=true)∧∀ A,A.units<cLine→E3 A z.s u v b:=by
  intro d e u v b h h1 h2
  have it:∀ {d:D} {u:Value},(sh d=1∨sh d=2)→CR X.W z d u→∃ a its,u = .ref a∧((sh d=1∧z.s.heap.IsTuple a its)∨(sh d=2∧z.s.heap.IsList a its)):=fun {d u} f h=>by
   rcases f with f | f
   ·obtain ⟨l,rfl⟩:=yr f;obtain ⟨a,o,vs,rfl,e,t,_⟩:=h;exact ⟨a,_,rfl,.inl ⟨rfl,tpt (I.gh _ _ e) t⟩⟩
   ·obtain ⟨l,rfl⟩:=yq f;obtain ⟨a,o,vs,rfl,e,t,_⟩:=h;exact ⟨a,_,rfl,.inr ⟨rfl,lsl e t⟩⟩
  rcases pQ h with ⟨f1,f2,rfl⟩ | ⟨rfl,c⟩
  ·obtain ⟨p,q⟩:=sM f1 f2 (h1.fl f1) (h2.fl f2);exact ⟨p,fun A _=>q A _⟩
  ·rcases c with ⟨c1,c2⟩ | ⟨c1,c2⟩ | ⟨c1,c2⟩ | ⟨c1,c2⟩
   ·obtain ⟨a,its,rfl,w⟩:=it c2 h2
    have w:=w.imp And.right And.right
    exact ⟨fun q=>ZX q ((iQ (s:=z.s) (A:={ }) c1 (h1.fl c1) (by decide)).1 a),fun A hu=>((iQ c1 (h1.fl c1) hu).2 a its w).1⟩
   ·obtain ⟨a,its,rfl,w⟩:=it c1 h1
    have w:=w.imp And.right And.right
    exact ⟨fun q=>ZX q.symm ((iQ (s:=z.s) (A:={ }) c2 (h2.fl c2) (by decide)).1 a),fun A hu=>((iQ c2 (h2.fl c2) hu).2 a its w).2⟩
   ·obtain ⟨a,i1,rfl,w1⟩:=it (.inl c1) h1
    obtain ⟨b,i2,rfl,w2⟩:=it (.inr c2) h2
    have w1:=w1.resolve_right fun z=>by omega
    have w2:=w2.resolve_left fun z=>by omega
    exact ⟨fun q=>ZX (Value.ref.inj q).symm (ne_of_list_tuple w2.2 w1.2),fun A hu=>⟨.tuple_list w1.2 w2.2 hu,.tuple_list w1.2 w2.2 hu,.tuple_list w1.2 w2.2 hu⟩⟩
   ·obtain ⟨a,i1,rfl,w1⟩:=it (.inr c1) h1
    obtain ⟨b,i2,rfl,w2⟩:=it (.inl c2) h2
    have w1:=w1.resolve_left fun z=>by omega
    have w2:=w2.resolve_right fun z=>by omega
    exact ⟨fun q=>ZX (Value.ref.inj q) (ne_of_list_tuple w1.2 w2.2),fun A hu=>⟨.list_tuple w1.2 w2.2 hu,.list_tuple w1.2 w2.2 hu,.list_tuple w1.2 w2.2 hu⟩⟩
 intro n
 induction n with
 | zero=>intro d e u v b h h1 h2;obtain ⟨p,q⟩:=low h h1 h2;exact ⟨p,fun A hu=>q A (by omega)⟩
 | succ n ih=>
   intro d e u v b h h1 h2
   have items:∀ {da db:List D} {vs ws:List Value} {y:Bool},dD (eqv n) da db=some y→RDs X.W z.ρ z.G da vs→RDs X.W z.ρ z.G db ws→(vs=ws→y=true)∧∃ f:Nat→Bool,(List.range (min vs.toArray.size ws.toArray.size)).all f=y∧∀ A,A.units+n+1<cLine→∀ j (h1:j<vs.toArray.size) (h2:j<ws.toArray.size),EqAt A z.s vs.toArray[j] ws.toArray[j] (f j):=by
    intro da db vs ws y q r1 r2
    obtain ⟨q1,q2⟩:=jM q
    have l3:=r1.len
    have l4:=r2.len
    have one:∀ j (h1:j<vs.length) (h2:j<ws.length),∃ c,(eqv n (da[j]?.getD .non) (db[j]?.getD .non)).getD false=c∧(vs[j]=ws[j]→c=true)∧∀ A,A.units+n+1<cLine→EqAt A z.s vs[j] ws[j] c:=fun j h1 h2=>by
     have e1:=List.getElem?_eq_getElem (l:=da) (i:=j) (by omega)
     have e2:=List.getElem?_eq_getElem (l:=db) (i:=j) (by omega)
     obtain ⟨x1,f1,w1⟩:=r1.get e1
     obtain ⟨y1,f2,w2⟩:=r2.get e2
     rw [List.getElem?_eq_getElem h1] at f1;rw [List.getElem?_eq_getElem h2] at f2;cases f1;cases f2
     obtain ⟨c,hc⟩:=q1 j (by omega) (by omega)
     obtain ⟨p,q⟩:=ih hc (.of I w1) (.of I w2)
     exact ⟨c,by rw [e1,e2];simp only [Option.getD_some,hc],p,fun A hu=>(q A hu).1⟩
    refine ⟨fun q=>?_,fun j=>(eqv n (da[j]?.getD .non) (db[j]?.getD .non)).getD false,?_,fun A hu j h1 h2=>?_⟩
    ·subst q
     rw [q2,List.all_eq_true]
     intro j hj
     have hj:=List.mem_range.mp hj
     obtain ⟨c,e,p,_⟩:=one j (by omega) (by omega)
     rw [e];exact p rfl
    ·rw [q2,List.size_toArray,List.size_toArray,← l3,← l4]
    ·rw [List.size_toArray] at h1 h2
     obtain ⟨c,e,_,p⟩:=one j h1 h2
     show EqAt A z.s vs[j] ws[j] ((eqv n (da[j]?.getD .non) (db[j]?.getD .non)).getD false)
     rw [e];exact p A hu
   rcases og h with ⟨da,db,y,rfl,rfl,q,rfl⟩ | ⟨da,db,rfl,rfl,q⟩ | h
   ·obtain ⟨a,o,vs,rfl,t,to,r1⟩:=h1
    obtain ⟨a',o',ws,rfl,t',to',r2⟩:=h2
    obtain ⟨sm,f,val,its⟩:=items q r1 r2
    have l3:=r1.len
    have l4:=r2.len
    have same:a=a'→(y && da.length == db.length)=true:=fun z=>by
     subst z
     rw [t] at t';cases t'
     obtain ⟨n1,e1⟩:=to.2.1
     obtain ⟨n2,e2⟩:=to'.2.1
     rw [e1] at e2
     injection e2 with e2
     have e:vs=ws:=by simpa using ZS Array.toList e2
     rw [sm e,l3,l4,e];simp
    have lz:(vs.toArray.size == ws.toArray.size)=(da.length == db.length):=by rw [l3,l4];rfl
    refine ⟨fun z=>same (Value.ref.inj z),fun A hu=>.refs same ?_ ?_⟩
    ·rw [← val,← lz];exact .tuples (tpt (I.gh _ _ t) to) (tpt (I.gh _ _ t') to') (by omega) (its _ (show A.units+1+n+1<cLine by omega))
    ·rw [← val,← lz];exact .tuples (tpt (I.gh _ _ t) to) (tpt (I.gh _ _ t') to') (by omega) (its _ (show A.units+1+n+1<cLine by omega))
   ·obtain ⟨a,o,vs,rfl,t,to,r1⟩:=h1
    obtain ⟨a',o',ws,rfl,t',to',r2⟩:=h2
    have l3:=r1.len
    have l4:=r2.len
    have sv:a=a'→vs=ws:=fun z=>by
     subst z
     rw [t] at t';cases t'
     obtain ⟨⟨n1,rfl⟩,_⟩:=to
     obtain ⟨⟨n2,e2⟩,_⟩:=to'
     injection e2 with _ _ e2
     injection e2 with e2
     simpa using ZS Array.toList e2
    rcases q with ⟨hl,q⟩ | ⟨hl,rfl⟩
    ·obtain ⟨sm,f,val,its⟩:=items q r1 r2
     have m:min vs.toArray.size ws.toArray.size=vs.toArray.size:=by simp;omega
     rw [m] at val
     refine ⟨fun z=>sm (sv (Value.ref.inj z)),fun A hu=>.refs (fun z=>sm (sv z)) ?_ ?_⟩
     ·rw [← val];exact .lists (lsl t to) (lsl t' to') (by simp;omega) (by omega) (its _ (show A.units+1+n+1<cLine by omega))
     ·rw [← val];exact .lists (lsl t to) (lsl t' to') (by simp;omega) (by omega) (its _ (show A.units+1+n+1<cLine by omega))
    ·have ne:a=a'→false=true:=fun z=>by rw [sv z] at l3;omega
     exact ⟨fun z=>ne (Value.ref.inj z),fun A hu=>.refs ne (.lists_lengths (lsl t to) (lsl t' to') (by simp;omega) (by omega)) (.lists_lengths (lsl t to) (lsl t' to') (by simp;omega) (by omega))⟩
   ·obtain ⟨p,q⟩:=low h h1 h2;exact ⟨p,fun A hu=>q A (by omega)⟩
theorem mc:∀ {l} {b},inD d l=some b→(∀ j (h:j<l.length),∃ c,eqv 55 l[j] d=some c)∧b=l.any fun e=>(eqv 55 e d).getD false
 | [],b,h=>by cases h;exact ⟨fun j h=>ZX h (Nat.not_lt_zero _),rfl⟩
 | e :: r,b,h=>by
   unfold inD at h
   cases q:eqv 55 e d with
   | none=>rw [q] at h;cases h
   | some x=>
     rw [q] at h
     obtain ⟨y,q2,rfl⟩:=Option.map_eq_some_iff.mp h
     obtain ⟨i1,i2⟩:=mc q2
     refine ⟨fun j h=>?_,by rw [List.any_cons,q,i2];rfl⟩
     cases j with
     | zero=>exact ⟨x,q⟩
     | succ j=>exact i1 j (Nat.lt_of_succ_lt_succ h)
theorem dF (I:HR X z) (hu:A.units+57<cLine) (q:inD d l=some b) (r:RDs X.W z.ρ z.G l vs) (hd:CR X.W z d v):∃ e:Value→Bool,(∀ y,y∈vs.toArray→EqAt A z.s y v (e y))∧vs.toArray.any e=b:=by
 obtain ⟨q1,q2⟩:=mc q
 have l3:=r.len
 have eqs:∀ j (h1:j<vs.length) (h2:j<l.length),EqAt A z.s vs[j] v ((eqv 55 l[j] d).getD false):=fun j h1 h2=>by
  obtain ⟨x1,e1,w1⟩:=r.get (List.getElem?_eq_getElem h2)
  rw [List.getElem?_eq_getElem h1] at e1;cases e1
  obtain ⟨c,hc⟩:=q1 j h2
  rw [hc]
  exact ((e3 I 55 hc (.of I w1) hd).2 A (by omega)).1
 have cl:∀ y,Decidable (∃ j,∃ (h1:j<vs.length) (h2:j<l.length),vs[j]=y∧(eqv 55 l[j] d).getD false=true):=fun y=>Classical.propDecidable _
 refine ⟨fun y=>@decide _ (cl y),fun y hy=>?_,?_⟩
 ·rcases Classical.em (∃ j,∃ (h1:j<vs.length) (h2:j<l.length),vs[j]=y∧(eqv 55 l[j] d).getD false=true) with c | c
  ·obtain ⟨j,h1,h2,e,t⟩:=id c
   have w:=eqs j h1 h2
   rw [e,t] at w
   dsimp only
   rw [show @decide _ (cl y)=true from @ZW _ (cl y) c]
   exact w
  ·obtain ⟨j,h1,e⟩:=List.getElem_of_mem (by simpa using hy)
   have w:=eqs j h1 (by omega)
   have t:(eqv 55 l[j] d).getD false=false:=Bool.eq_false_iff.mpr fun t=>c ⟨j,h1,by omega,e,t⟩
   rw [t,e] at w
   dsimp only
   rw [show @decide _ (cl y)=false from @ZV _ (cl y) c]
   exact w
 ·rw [q2,List.any_toArray,Bool.eq_iff_iff,List.any_eq_true,List.any_eq_true]
  constructor
  ·rintro ⟨y,hy,t⟩
   obtain ⟨j,h1,h2,e,t⟩:=@of_decide_eq_true _ (cl _) t
   exact ⟨l[j],List.getElem_mem h2,t⟩
  ·rintro ⟨e,he,t⟩
   obtain ⟨j,h2,rfl⟩:=List.getElem_of_mem he
   exact ⟨vs[j]'(by omega),List.getElem_mem _,@ZW _ (cl _) ⟨j,by omega,h2,rfl,t⟩⟩
end L2.Ev
end
section
namespace HT
section
variable {prog:Program} {w:World} {A:Around} {E:Value→Shared→Prop} {s:Shared}
theorem getItem_tuple_all {lo hi:Option Int} {Q:Value→Shared→Prop} (ht:IsTup s.heap t items) (hs:s.heap.IsSliceOf sl vl vu .none) (pl:IsPart vl lo) (pu:IsPart vu hi)
 (hw:sIx items.size 0 lo=0∧sIx items.size items.size hi=items.size) (h:Q (.ref t) s):wpAny (model prog w) A (getItem (.ref t) (.ref sl)) Q E s:=by
 obtain ⟨os,hos,hcs,hds⟩:=id hs
 have hTs:s.TypeIs (.ref sl) "slice":=⟨os,hos,hcs⟩
 unfold getItem
 try with_reducible refine wpAny_holding ?_
 first | refine wpAny_bind (wpAny_pure ?_) | skip
 refine wpAny_bind (wpAny_sequenceKey ht.typeIs (by decide) ?_)
 refine wpAny_bind (wpAny_callSpecial?_slot (name:=Str.ofString "__getitem__") ht.typeIs PyProof.Rows.slot_tuple_getitem
  (wpAny_call_entry PyProof.Rows.slot_tuple_getitem ht.typeIs entry_tuple_getitem ?_ (args_tuple_getitem _ _)))
 show wpAny _ _ (Builtin.Tuple.tupleItemsOf (.ref t) >>= _) _ _ s
 refine wpAny_bind (tupleItemsOf_ ht ?_)
 refine wpAny_bind (wpAny_typeOf hTs ?_)
 rw [ZZ (by decide)]
 refine wpAny_bind (cE hs pl pu ?_)
 have hyes:(((sIx items.size 0 lo:Nat):Int) == 0 && (1:Int) == 1 && (sIx items.size items.size hi - sIx items.size 0 lo) == items.size)=true:=by
  rw [hw.1,hw.2]
  simp
 show wpAny _ _ (if (((sIx items.size 0 lo:Nat):Int) == 0 && (1:Int) == 1 && (sIx items.size items.size hi - sIx items.size 0 lo) == items.size)=true then _ else _) _ _ s
 rw [ZZ hyes]
 show wpAny _ _ (Builtin.Tuple.tupleIsExact (.ref t) >>= _) _ _ s
 refine wpAny_bind ?_
 unfold Builtin.Tuple.tupleIsExact
 refine wpAny_bind (wpAny_typeOf ht.typeIs (wpAny_pure ?_))
 rw [ZZ (by decide)]
 refine wpAny_bind (wpAny_rule ?_)
 first
  | exact wpAny_pure ⟨_,rfl,wpAny_pure h⟩
  | exact wpAny_bind (wpAny_pure (wpAny_pure ⟨_,rfl,wpAny_pure h⟩))
  | exact wpAny_bind (wpAny_bind (wpAny_pure (wpAny_pure ⟨_,rfl,wpAny_pure h⟩)))
end
end HT
namespace L2.Ev
abbrev NoE:Value→Shared→Prop:=fun _ _=>False
theorem bj {c:Prop} [Decidable c] {a d:α} (e:(if c then some a else none)=some d):c∧a=d:=by
 by_cases h:c
 ·rw [ZZ h] at e;exact ⟨h,Option.some.inj e⟩
 ·rw [ZY h] at e;cases e
section
variable {X:Cx} {z:Z}
theorem aI (z:Z):z.h z.s.heap.objs.size=none:=Heap.get?_none_of_le (Nat.le_refl _)
theorem Dn.tok {n:Nat} (h:∀ W ρ G,RD W ρ G d u):Dn X z d u { z.s with toks:=n }:=⟨.tok,h ..⟩
theorem Dn.tup (I:Rep X z) (r:RDs X.W z.ρ z.G l vs) (g:Gr z.s s') (n:z.h a=none) (e:s'.heap.get? a=some o) (t:TpO o vs):Dn X z (.tup l) (.ref a) s':=
 ⟨g,a,o,vs,rfl,(jz n).trans e,t,r.mono (List.prefix_refl _) (cL I.gh g).gg⟩
theorem rY (hz:vs.length≤sizeLine):TpO { cls:=.type "tuple",data:=.seq vs.toArray n } vs:=⟨rfl,⟨n,rfl⟩,hz,rfl⟩
theorem Dn.tupn (I:Rep X z) (r:RDs X.W z.ρ z.G l vs) (hz:vs.length≤sizeLine) {n t:Nat}:Dn X z (.tup l) (.ref z.s.heap.objs.size) { z.s with heap:=z.s.heap.push { cls:=.type "tuple",data:=.seq vs.toArray n },toks:=t }:=
 .tup I r .push (aI z) (Heap.get?_push_size _ rfl) (rY hz)
def Dw (X:Cx) (z:Z) (d:D) (u:Value) (s':Shared):Prop:=Gr z.s s'∧∃ a o,u = .ref a∧z.h a=none∧toO d=some o∧ObR X.W z.ρ z.G s'.heap.get? (a,a) o
theorem Dw.dn (I:Rep X z) (h:Dw X z d u s'):Dn X z d u s':=by
 obtain ⟨g,a,o,rfl,n,e,r⟩:=h
 exact ⟨g,jm e r (cL I.gh g).gg (jz n)⟩
def FV (X:Cx) (z0 z:Z) (d:D) (u:Value):Prop:=∃ a o,u = .ref a∧z0.h a=none∧toO d=some o∧ObR X.W z.ρ z.G z.h (a,a) o∧Fre X z a∧¬ Own z a
theorem Dw.pe (I:Rep X z) (h:Dw X z d u s'):Pe X z (.ok d z.t) (FV X z) u s':=by
 obtain ⟨g,a,o,rfl,n,e,r⟩:=h
 have f:=I.fre n
 exact ⟨{ z with s:=s' },d,rfl,rfl,(aF I.gh g).ee,I.grow (aF I.gh g),a,o,rfl,n,e,r,f⟩
theorem Dw.lst (r:RDs X.W z.ρ z.G l vs) (g:Gr z.s s') (n:z.h a=none) (e:s'.heap.get? a=some { cls:=.type "list",data:=.seq vs.toArray k }) (hz:vs.length≤sizeLine):Dw X z (.lst l) (.ref a) s':=⟨g,a,.lst l,rfl,n,rfl,_,vs,rfl,e,⟨⟨k,rfl⟩,hz⟩,r⟩
theorem Dw.lstn (r:RDs X.W z.ρ z.G l vs) (hz:vs.length≤sizeLine) {n t:Nat}:Dw X z (.lst l) (.ref z.s.heap.objs.size) { z.s with heap:=z.s.heap.push { cls:=.type "list",data:=.seq vs.toArray n },toks:=t }:=.lst r .push (aI z) (Heap.get?_push_size _ rfl) hz
def Op2 (X:Cx) (f:Value→Value→Sem Value) (g:D→D→Option D):Prop:=∀ z u v d1 d2 d,Rep X z→CR X.W z d1 u→CR X.W z d2 v→g d1 d2=some d→wpAny X.M X.A (f u v) (Dn X z d) NoE z.s
theorem zG (ho:o≠.add∧o≠.eq∧o≠.ne∧o≠.isin∧o≠.notin∧o≠.eq2) (e:opD o d1 d2=some d):∃ i j,d1 = .int i∧d2 = .int j∧opI o i j=some d:=by
 obtain ⟨n1,n2,n3,n4,n5,n6⟩:=ho
 unfold opD at e
 split at e
 ·exact ZX rfl n6
 ·exact ZX rfl n2
 ·exact ZX rfl n3
 ·exact ZX rfl n4
 ·exact ZX rfl n5
 ·split at e
  ·exact ⟨_,_,rfl,rfl,e⟩
  all_goals first | (cases e;done) | (rw [ZY n1] at e;cases e)
theorem kh {f:Value→Value→Sem Value} (ho:o≠.add∧o≠.eq∧o≠.ne∧o≠.isin∧o≠.notin∧o≠.eq2)
 (rule:∀ (i j:Int) (t u:Tok) (d:D) (s:Shared) (Q:Value→Shared→Prop),opI o i j=some d→(∀ (v:Value) (n:Nat),(∀ W ρ G,RD W ρ G d v)→Q v { s with toks:=n })→wpAny X.M X.A (f (.int i t) (.int j u)) Q NoE s):Op2 X f (opD o):=fun z u v d1 d2 d I h1 h2 e=>by
 obtain ⟨i,j,rfl,rfl,e2⟩:=zG ho e
 obtain ⟨t,rfl⟩:=h1
 obtain ⟨t',rfl⟩:=h2
 exact rule i j t t' d z.s _ e2 fun v n h=>.tok h
theorem yh:Op2 X (binaryOp .Sub) (opD .sub):=kh (by decide) fun _ _ _ _ _ _ _ e k=>by cases e;exact sub_int (k _ _ fun _ _ _=>⟨_,rfl⟩)
theorem yf:Op2 X (binaryOp .Mult) (opD .mul):=kh (by decide) fun _ _ _ _ _ _ _ e k=>by
 obtain ⟨c,rfl⟩:=bj e
 refine mul_int (k _ _ fun _ _ _=>⟨_,rfl⟩) ?_
 rcases c with h | ⟨h1,h2⟩
 ·exact vW.ok h
 ·exact mulOk_of_bits (m:=400) (n:=400) (intBits_le_iff.mpr h1) (intBits_le_iff.mpr h2) (by decide)
theorem uA:Op2 X (binaryOp .FloorDiv) (opD .fdiv):=kh (by decide) fun i j _ _ _ _ _ e k=>by
 obtain ⟨⟨h1,h2⟩,rfl⟩:=bj e
 refine floordiv_int (by omega) (by rw [Int.fdiv_eq_ediv_of_nonneg i (by omega)];exact k _ _ fun _ _ _=>⟨_,rfl⟩) (.inl (PyProof.noPylong_of_log2 ?_))
 have h:j.natAbs.log2<200:=(Nat.log2_lt (by omega)).2 (by omega)
 omega
theorem ye:Op2 X (binaryOp .Mod) (opD .mod):=kh (by decide) fun i j _ _ _ _ _ e k=>by
 obtain ⟨c,rfl⟩:=bj e
 exact mod_int' (by omega) (by rw [Int.fmod_eq_emod_of_nonneg i (by omega)];exact k _ _ fun _ _ _=>⟨_,rfl⟩)
theorem yg:Op2 X (binaryOp .Pow) (opD .pow):=kh (by decide) fun _ _ _ _ _ _ _ e k=>by
 obtain ⟨c,rfl⟩:=bj e;exact pow_int_small c.1 c.2.1 c.2.2 (k _ _ fun _ _ _=>⟨_,rfl⟩)
theorem Ah:Op2 X (compareOp .Lt) (opD .lt):=kh (by decide) fun _ _ _ _ _ s _ e k=>by cases e;exact lt_int (k _ s.toks fun _ _ _=>rfl)
theorem Af:Op2 X (compareOp .Gt) (opD .gt):=kh (by decide) fun _ _ _ _ _ s _ e k=>by cases e;exact gt_int (k _ s.toks fun _ _ _=>rfl)
theorem Ae:Op2 X (compareOp .GtE) (opD .ge):=kh (by decide) fun _ _ _ _ _ s _ e k=>by cases e;exact ge_int (k _ s.toks fun _ _ _=>rfl)
theorem yd:Op2 X (binaryOp .Add) (opD .add):=fun z u v d1 d2 d I h1 h2 e=>by
 have chk:∀ {n:Nat} {a:D},cN n a=some d→n≤sizeLine∧a=d:=fun e=>let ⟨c,q⟩:=bj e;⟨big c,q⟩
 cases d1 with
 | int i=>cases d2 with
   | int j=>cases e;obtain ⟨t,rfl⟩:=h1;obtain ⟨t',rfl⟩:=h2;exact add_int (.tok fun _ _ _=>⟨_,rfl⟩)
   | _=>cases e
 | str i=>cases d2 with
   | str j=>obtain ⟨hz,rfl⟩:=chk e;obtain ⟨t,rfl⟩:=h1;obtain ⟨t',rfl⟩:=h2;exact add_str (fun t' tk=>.tok fun _ _ _=>⟨_,rfl⟩) hz
   | _=>cases e
 | tup a=>cases d2 with
   | tup b=>
     obtain ⟨hz,rfl⟩:=chk e
     obtain ⟨p,o1,vs,rfl,e1,t1,r1⟩:=id h1
     obtain ⟨q,o2,ws,rfl,e2,t2,r2⟩:=id h2
     have l1:=r1.len
     have l2:=r2.len
     have k1:=tpt (I.gh _ _ e1) t1
     have k2:=tpt (I.gh _ _ e2) t2
     cases vs with
     | nil=>
       cases (show a = [] from List.length_eq_zero_iff.mp l1)
       obtain ⟨⟨cls,dd,data,sl⟩,ho,hc,n,hd⟩:=id k1
       obtain ⟨⟨cls2,dd2,data2,sl2⟩,ho2,hc2,n2,hd2⟩:=id k2
       simp only at hc hd hc2 hd2
       subst hc hd hc2 hd2
       exact concat_meets ⟨_,ho,rfl⟩ ⟨_,ho2,rfl⟩ noFill_tuple_add seq_tuple_add PySem.F.slot_tuple_add PySem.F.entry_tuple_add (PySem.F.args_tuple_add_2 _ _) (tuple_addW0 p q #[] ws.toArray n n2 dd dd2 sl sl2 rfl) ⟨ho,ho2,.old I .refl h2⟩
     | cons v0 vs=>
       refine HT.cat_tup k1 k2 (by simp) (fun w=>?_) (fun _=>.tupn I (r1.app r2) (by rw [List.length_append];omega)) (by omega)
       subst w
       cases (show b = [] from List.length_eq_zero_iff.mp l2)
       rw [List.append_nil]
       exact .old I .refl h1
   | _=>cases e
 | lst a=>cases d2 with
   | lst b=>
     obtain ⟨hz,rfl⟩:=chk e
     obtain ⟨p,o1,vs,rfl,e1,⟨⟨n1,rfl⟩,_⟩,r1⟩:=h1
     obtain ⟨q,o2,ws,rfl,e2,⟨⟨n2,rfl⟩,_⟩,r2⟩:=h2
     have l1:=r1.len
     have l2:=r2.len
     refine PySem.P.add_list e1 e2 ?_ (by rw [List.size_toArray,List.size_toArray];omega)
     rw [show vs.toArray ++ ws.toArray=(vs ++ ws).toArray by simp]
     exact (Dw.lstn (r1.app r2) (by rw [List.length_append];omega)).dn I
   | _=>cases e
 | _=>cases e
end
end L2.Ev
end
section
namespace L2.Ev
open PyProof.Rows.LSm
section
variable {X:Cx} {z:Z}
theorem eF (e:bo d=some k) (h:CR W z d u):(ba P w).is k u=true:=by
 cases d with
 | int i=>cases e;obtain ⟨t,rfl⟩:=h;exact ke P w i t
 | str i=>cases e;obtain ⟨t,rfl⟩:=h;exact kf P w i t
 | _=>cases e
theorem DcO.of {h:Heap} (e:h.get? a=some o) (d:DcO W o l):h.DictOf (ba W.P W.w) a l:=let ⟨es,ep,x,y,a,b,c,_⟩:=d;⟨o,es,ep,e,x,y,a,b,c⟩
theorem cG:∀ {ks} {ds} {vs} {k:Key},ks.length=ds.length→RDs W ρ G ds vs→match bV ks ds k with | some d=>∃ v,valueAt (ks.zip vs) k=some v∧RD W ρ G d v | none=>valueAt (ks.zip vs) k=none
 | [],[],vs,k,_,_=>rfl
 | [],_ :: _,_,_,h,_=>by cases h
 | _ :: _,[],_,_,h,_=>by cases h
 | q :: ks,e :: ds,vs,k,h,r=>by
   obtain ⟨v,ws,rfl,r1,r2⟩:=r
   have ih:=cG (k:=k) (Nat.succ.inj h) r2
   unfold bV
   by_cases c:q=k
   ·rw [ZZ c];exact ⟨v,by simp [valueAt,List.find?_cons,c],r1⟩
   ·rw [ZY c]
    have n:valueAt ((q :: ks).zip (v :: ws)) k=valueAt (ks.zip ws) k:=by simp [valueAt,List.find?_cons,c]
    rw [n];exact ih
theorem r6 (hl:ks.length=ds.length) (r:RDs W ρ G ds vs) (e:bV ks ds k=some d):∃ v,valueAt (ks.zip vs) k=some v∧RD W ρ G d v:=by have:=cG (k:=k) hl r;rw [e] at this;exact this
theorem r5 (hl:ks.length=ds.length) (r:RDs W ρ G ds vs):(valueAt (ks.zip vs) k).isSome=(bV ks ds k).isSome:=by
 have:=cG (k:=k) hl r
 cases q:bV ks ds k with
 | none=>rw [q] at this;rw [this];rfl
 | some d=>rw [q] at this;obtain ⟨v,e,_⟩:=this;rw [e];rfl
theorem ie (h:eqT a b=some r):(∃ ks ds ls es,a = .dic ks ds∧b = .dic ls es∧∃ x,(ks.length=ls.length→qr ls es ks ds=some x)∧r=(ks.length == ls.length && x))∨eqv 55 a b=some r:=by
 unfold eqT at h
 split at h
 ·rename_i ks ds ls es
  refine .inl ⟨ks,ds,ls,es,rfl,rfl,?_⟩
  split at h
  ·rename_i c;exact ⟨r,fun _=>h,by simp [c]⟩
  ·rename_i c;cases h;exact ⟨false,fun z=>ZX z c,by simp⟩
 ·exact .inr h
theorem iY {A:Around} (I:HR X z) (un:A.units+56<cLine) (hl2:ls.length=es.length) (r2:RDs X.W z.ρ z.G es ws):∀ {ks ds vs r},ks.length=ds.length→RDs X.W z.ρ z.G ds vs→qr ls es ks ds=some r→PySem.W.KeqHits A z.s (ls.zip ws) (ks.zip vs) r
 | [],ds,vs,r,_,_,h=>by cases h;exact .nil
 | k :: ks,[],vs,r,hl,_,h=>by cases hl
 | k :: ks,d :: ds,vs,r,hl,r1,h=>by
   obtain ⟨v,vs,rfl,h1,h2⟩:=r1
   unfold qr at h
   have q:=cG (k:=k) hl2 r2
   cases e:bV ls es k with
   | none=>rw [e] at h q;cases h;exact .miss q
   | some y=>
     rw [e] at h q
     obtain ⟨w,e1,e2⟩:=q
     dsimp only at h
     cases e3':eqv 55 d y with
     | none=>rw [e3'] at h;cases h
     | some x=>
       rw [e3'] at h
       obtain ⟨b,hb,rfl⟩:=Option.map_eq_some_iff.mp h
       exact .hit e1 (((e3 I 55 e3' (.of I h1) (.of I e2)).2 A (by omega)).1) (iY I un hl2 r2 (Nat.succ.inj hl) h2 hb)
theorem Ad:Op2 X (compareOp .Eq) (opD .eq):=fun z u v d1 d2 d I h1 h2 e=>by
 obtain ⟨b,q,rfl⟩:=Option.map_eq_some_iff.mp (show (eqT d1 d2).map D.bl=some d from e)
 rcases ie q with ⟨ks,ds,ls,es,rfl,rfl,x,q',rfl⟩ | q
 ·obtain ⟨a,o,vs,rfl,m,e1,c1,l1,r1⟩:=h1
  obtain ⟨a',o',ws,rfl,m',e2,c2,l2,r2⟩:=h2
  have n1:(ks.zip vs).length=ks.length:=by rw [List.length_zip,← r1.len,l1,Nat.min_self]
  have n2:(ls.zip ws).length=ls.length:=by rw [List.length_zip,← r2.len,l2,Nat.min_self]
  refine PySem.W.keq_eq m m' (c1.of e1) (c2.of e2) (by have:=I.ok.un;omega) (fun h=>iY I.toHR (by have:=I.ok.un;show X.A.units+1+56<_;omega) l2 r2 l1 r1 (q' (by rw [← n1,← n2];exact h))) (.tok fun _ _ _=>?_)
  rw [n1,n2];rfl
 ·exact ((e3 I.toHR 55 q h1 h2).2 X.A (by have:=I.ok.un;omega)).2.1 _ _ _ _ (.tok fun _ _ _=>rfl)
theorem Ai:Op2 X (compareOp .NotEq) (opD .ne):=fun z u v d1 d2 d I h1 h2 e=>by
 obtain ⟨b,q,rfl⟩:=Option.map_eq_some_iff.mp (show (eqT d1 d2).map (fun x=>D.bl (!x))=some d from e)
 rcases ie q with ⟨ks,ds,ls,es,rfl,rfl,x,q',rfl⟩ | q
 ·obtain ⟨a,o,vs,rfl,m,e1,c1,l1,r1⟩:=h1
  obtain ⟨a',o',ws,rfl,m',e2,c2,l2,r2⟩:=h2
  have n1:(ks.zip vs).length=ks.length:=by rw [List.length_zip,← r1.len,l1,Nat.min_self]
  have n2:(ls.zip ws).length=ls.length:=by rw [List.length_zip,← r2.len,l2,Nat.min_self]
  refine PySem.W.keq_ne m m' (c1.of e1) (c2.of e2) (by have:=I.ok.un;omega) (fun h=>iY I.toHR (by have:=I.ok.un;show X.A.units+1+56<_;omega) l2 r2 l1 r1 (q' (by rw [← n1,← n2];exact h))) (.tok fun _ _ _=>?_)
  rw [n1,n2];rfl
 ·exact ((e3 I.toHR 55 q h1 h2).2 X.A (by have:=I.ok.un;omega)).2.2 _ _ _ _ (.tok fun _ _ _=>rfl)
theorem Ag:Op2 X (compareOp .In) (opD .isin):=fun z u v d1 d2 d I h1 h2 e=>by
 have un:X.A.in1.units+57<cLine:=by have:=I.ok.un;show X.A.units+1+57<_;omega
 cases d2 with
 | str y=>cases d1 with
   | str x=>cases e;obtain ⟨t,rfl⟩:=h1;obtain ⟨t',rfl⟩:=h2;exact SB.contains (.tok fun _ _ _=>rfl)
   | _=>cases e
 | lst l=>
   obtain ⟨b,q,rfl⟩:=Option.map_eq_some_iff.mp (show (inD d1 l).map D.bl=some d from e)
   obtain ⟨a,o,vs,rfl,e1,t,r⟩:=h2
   obtain ⟨f,hf,rfl⟩:=dF I.toHR un q r h1
   exact SeqAt.in_listAt f (lsl e1 t) hf (.tok fun _ _ _=>rfl)
 | tup l=>
   obtain ⟨b,q,rfl⟩:=Option.map_eq_some_iff.mp (show (inD d1 l).map D.bl=some d from e)
   obtain ⟨a,o,vs,rfl,e1,t,r⟩:=h2
   obtain ⟨f,hf,rfl⟩:=dF I.toHR un q r h1
   exact SeqAt.in_tupleAt f (tpt (I.gh _ _ e1) t) hf (.tok fun _ _ _=>rfl)
 | dic ks l=>
   obtain ⟨k,q,rfl⟩:=Option.map_eq_some_iff.mp (show ((bo d1).map fun k=>D.bl (bV ks l k).isSome)=some d from e)
   obtain ⟨a,o,vs,rfl,m,e1,t,hl,r⟩:=h2
   exact wpAny_in_of (eF q h1) m (t.of e1).mapOf (by rw [r5 hl r];exact .tok fun _ _ _=>rfl)
 | _=>cases e
theorem rE:Op2 X (compareOp .NotIn) (opD .notin):=fun z u v d1 d2 d I h1 h2 e=>by
 have un:X.A.in1.units+57<cLine:=by have:=I.ok.un;show X.A.units+1+57<_;omega
 cases d2 with
 | lst l=>
   obtain ⟨b,q,rfl⟩:=Option.map_eq_some_iff.mp (show (inD d1 l).map (fun x=>D.bl (!x))=some d from e)
   obtain ⟨a,o,vs,rfl,e1,t,r⟩:=h2
   obtain ⟨f,hf,rfl⟩:=dF I.toHR un q r h1
   exact SeqAt.notIn_listAt f (lsl e1 t) hf (.tok fun _ _ _=>rfl)
 | tup l=>
   obtain ⟨b,q,rfl⟩:=Option.map_eq_some_iff.mp (show (inD d1 l).map (fun x=>D.bl (!x))=some d from e)
   obtain ⟨a,o,vs,rfl,e1,t,r⟩:=h2
   obtain ⟨f,hf,rfl⟩:=dF I.toHR un q r h1
   exact SeqAt.notIn_tupleAt f (tpt (I.gh _ _ e1) t) hf (.tok fun _ _ _=>rfl)
 | dic ks l=>
   obtain ⟨k,q,rfl⟩:=Option.map_eq_some_iff.mp (show ((bo d1).map fun k=>D.bl (!(bV ks l k).isSome))=some d from e)
   obtain ⟨a,o,vs,rfl,m,e1,t,hl,r⟩:=h2
   exact wpAny_notIn_of (eF q h1) m (t.of e1).mapOf (by rw [r5 hl r];exact .tok fun _ _ _=>rfl)
 | _=>cases e
def yJ (X:Cx) (z:Z) (u i:Value) (d:D):Prop:=∃ T id,typeLookup (.type T) "__getitem__" = pure (some (.builtin id))∧z.s.TypeIs u T∧wpAny X.M X.A (getItem u i) (Dn X z d) NoE z.s
theorem RDs.at (r:RDs W ρ G ds vs) (e:atI ds i=some d):∃ v,atI vs i=some v∧RD W ρ G d v:=by
 unfold atI at e ⊢
 rw [← r.len]
 cases q:ixN ds.length i with
 | none=>rw [q] at e;cases e
 | some j=>rw [q] at e;exact r.get e
theorem Bu {d1 d2:D} {u v:Value} (I:Rep X z) (h1:CR X.W z d1 u) (h2:CR X.W z d2 v) (e:ixD d1 d2=some d):yJ X z u v d:=by
 have hn:=jd
 cases d1 with
 | tup l=>cases d2 with
   | int i=>
     obtain ⟨a,o,vs,rfl,e1,t,r⟩:=h1
     obtain ⟨tk,rfl⟩:=h2
     obtain ⟨w,ew,rw'⟩:=r.at (show atI l i=some d from e)
     obtain ⟨j,g1,g2,g3,g4,g5⟩:=iJ ew
     have p:=tpt (I.gh _ _ e1) t
     have hz:=t.2.2
     exact ⟨_,_,slot_tuple_getitem.lookup,⟨_,I.gh _ _ e1,t.1⟩,getItem_tuple (j:=j) p (by omega) (by omega) g1 (by simpa using g2) (.old I .refl rw')⟩
   | _=>cases e
 | lst l=>cases d2 with
   | int i=>
     obtain ⟨a,o,vs,rfl,e1,t,r⟩:=h1
     obtain ⟨tk,rfl⟩:=h2
     obtain ⟨w,ew,rw'⟩:=r.at (show atI l i=some d from e)
     obtain ⟨j,g1,g2,g3,g4,g5⟩:=iJ ew
     have p:=lsl e1 t
     have hz:=t.2
     refine ⟨_,_,slot_list_getitem.lookup,p.typeIs,?_⟩
     by_cases h0:0≤i
     ·have hj:i.toNat=j:=by rw [seqIndex_of h0 g5] at g1;exact Option.some.inj g1
      exact wpAny_getItem_list p h0 (by omega) (by rw [hj];simpa using g2) (.old I .refl rw')
     ·have hj:(i+(vs.toArray.size:Int)).toNat=j:=by rw [seqIndex_neg (by omega) g4] at g1;exact Option.some.inj g1
      exact wpAny_getItem_list_neg p (by omega) g4 (by omega) (by rw [hj];simpa using g2) (.old I .refl rw')
   | _=>cases e
 | str y=>cases d2 with
   | int i=>
     obtain ⟨hz,e⟩:y.length≤100000∧(atI y.cps.toList i).map (fun c=>D.str ⟨#[c]⟩)=some d:=by
      unfold ixD at e;dsimp only at e;split at e
      ·rename_i c;exact ⟨c,e⟩
      ·cases e
     obtain ⟨c,q,rfl⟩:=Option.map_eq_some_iff.mp e
     obtain ⟨t,rfl⟩:=h1
     obtain ⟨t',rfl⟩:=h2
     obtain ⟨j,g1,g2,g3,g4,g5⟩:=iJ q
     have hl:y.cps.toList.length=y.length:=by simp [Str.length]
     rw [hl] at g1 g4 g5
     exact ⟨_,_,slot_str_getitem.lookup,typeIs_str _ y t,getItem_str (c:=c) (by
      have e1:decide (i < -(2 ^ 63:Int))=false:=ZV (by omega)
      have e2:decide (i≥2 ^ 63)=false:=ZV (by omega)
      rw [e1,e2,Bool.or_false]) (by rw [g1];simpa using g2) (.tok fun _ _ _=>⟨_,rfl⟩)⟩
   | _=>cases e
 | dic ks l=>
   have e':((bo d2).bind fun k=>bV ks l k)=some d:=by cases d2 <;> exact e
   obtain ⟨k,q,e'⟩:=Option.bind_eq_some_iff.mp e'
   obtain ⟨a,o,vs,rfl,m,e1,t,hl,r⟩:=h1
   obtain ⟨w,ew,rw'⟩:=r6 hl r e'
   exact ⟨_,_,PySem.F.slot_dict_getitem.lookup,(t.of e1).typeIs,wpAny_getItem_of (eF q h2) (t.of e1).mapOf ew (.old I .tok rw')⟩
 | _=>cases e
theorem RDs.cut (r:RDs W ρ G ds vs) (lo hi):RDs W ρ G (nZ ds lo hi) ((vs.drop (HT.sIx vs.length 0 lo)).take (HT.sIx vs.length vs.length hi - HT.sIx vs.length 0 lo)):=by
 unfold nZ
 rw [r.len]
 exact (r.drop _).take _
theorem BF {d1:D} {u vl vu:Value} {lo hi:Option Int} (I:Rep X z) (h1:CR X.W z d1 u) (hs:z.s.heap.IsSliceOf sl vl vu .none) (pl:IsPart vl lo) (pu:IsPart vu hi) (e:slO d1 lo hi=some d):yJ X z u (.ref sl) d:=by
 have cl:∀ (vs:List Value),((vs.drop (HT.sIx vs.length 0 lo)).take (HT.sIx vs.length vs.length hi - HT.sIx vs.length 0 lo)).length≤vs.length:=fun vs=>by rw [List.length_take,List.length_drop];omega
 cases d1 with
 | tup l=>
   cases e
   obtain ⟨a,o,vs,rfl,e1,t,r⟩:=id h1
   have p:=tpt (I.gh _ _ e1) t
   refine ⟨"tuple",_,slot_tuple_getitem.lookup,⟨_,I.gh _ _ e1,t.1⟩,?_⟩
   by_cases w:HT.sIx vs.length 0 lo=0∧HT.sIx vs.length vs.length hi=vs.length
   ·refine HT.getItem_tuple_all p hs pl pu w ?_
    have e:nZ l lo hi=l:=by
     unfold nZ
     rw [r.len,w.1,w.2,Nat.sub_zero,List.drop_zero,← r.len,List.take_length]
    rw [e]
    exact .old I .refl h1
   ·exact HT.getItem_tuple_cut p hs pl pu w (.tupn I (r.cut lo hi) (Nat.le_trans (cl vs) t.2.2.1)) t.2.2.1
 | lst l=>
   cases e
   obtain ⟨a,o,vs,rfl,e1,t,r⟩:=h1
   refine ⟨"list",_,slot_list_getitem.lookup,(lsl e1 t).typeIs,wpAny_getItem_list_slice (lsl e1 t) hs pl pu .none (by simp) ?_ (by rw [List.size_toArray];exact t.2)⟩
   rw [gY]
   exact (Dw.lstn (r.cut lo hi) (Nat.le_trans (cl vs) t.2)).dn I
 | str y=>
   obtain ⟨hz,rfl⟩:=bj (show (if y.length≤100000 then some (D.str (Txt.slice y lo hi)) else none)=some d from e)
   obtain ⟨t,rfl⟩:=h1
   have fin:Nat.le (Txt.slice y lo hi).length sizeLine∧∀ t' k,Dn X z (.str (Txt.slice y lo hi)) (.str (Txt.slice y lo hi) t') { z.s with toks:=k }:=⟨Nat.le_trans (Txt.slice_le y _ _) (big hz),fun t' k=>.tok fun _ _ _=>⟨t',rfl⟩⟩
   refine ⟨"str",_,PySem.F.slot_str_getitem.lookup,typeIs_str _ _ _,?_⟩
   cases pl <;> cases pu
   ·exact wpAny_getItem_str_slice (l:=none) (u:=none) (st:=none) hs rfl (post_val_or_str fin)
   ·exact wpAny_getItem_str_slice (l:=none) (u:=some (_,_)) (st:=none) hs rfl (post_val_or_str fin)
   ·exact wpAny_getItem_str_slice (l:=some (_,_)) (u:=none) (st:=none) hs rfl (post_val_or_str fin)
   ·exact wpAny_getItem_str_slice (l:=some (_,_)) (u:=some (_,_)) (st:=none) hs rfl (post_val_or_str fin)
 | _=>cases e
def Bi1 (X:Cx) (f:Value) (b:Bi):Prop:=∀ z u x d,Rep X z→CR X.W z x u→iM b x=some d→wpAny X.M X.A (call f [u]) (Dn X z d) NoE z.s
def sx (X:Cx) (f:Value) (b:Bi):Prop:=∀ z u x d,Rep X z→CR X.W z x u→iM b x=some d→wpAny X.M X.A (call f [u]) (Dw X z d) NoE z.s
theorem v8:Bi1 X (.builtin "len") .len:=fun z u x d I h e=>by
 have hn:=jd
 cases x with
 | tup l=>cases e;obtain ⟨a,o,vs,rfl,e1,t,r⟩:=h;have:=t.2.2;rw [r.len];exact len_tuple (tpt (I.gh _ _ e1) t) (by rw [List.size_toArray];omega) (.tok fun _ _ _=>⟨_,rfl⟩)
 | lst l=>cases e;obtain ⟨a,o,vs,rfl,e1,t,r⟩:=h;have:=t.2;rw [r.len];exact Calls.call_len_list (lsl e1 t) (by rw [List.size_toArray];omega) (.tok fun _ _ _=>⟨_,rfl⟩)
 | str y=>
   obtain ⟨hz,rfl⟩:=bj (show (if y.length≤100000 then some (D.int y.length) else none)=some d from e)
   obtain ⟨t,rfl⟩:=h;have:=big hz
   exact len_str (by omega) (.tok fun _ _ _=>⟨_,rfl⟩)
 | dic ks ds=>
   obtain ⟨hz,rfl⟩:=bj (show (if ks.length≤100000 then some (D.int ks.length) else none)=some d from e)
   obtain ⟨a,o,vs,rfl,m,e1,c1,l1,r1⟩:=h
   have n1:(ks.zip vs).length=ks.length:=by rw [List.length_zip,← r1.len,l1,Nat.min_self]
   have:=big hz
   refine call_len_dict m (c1.of e1) (by rw [n1];omega) ?_
   rw [n1]
   exact .tok fun _ _ _=>⟨_,rfl⟩
 | _=>cases e
theorem pD:Bi1 X (.type "tuple") .tuple:=fun z u x d I h e=>by
 cases x with
 | tup l=>cases e;obtain ⟨a,o,vs,rfl,e1,t,r⟩:=id h;exact call_tuple_same (tpt (I.gh _ _ e1) t) (.old I .refl h)
 | lst l=>
   cases e
   obtain ⟨a,o,vs,rfl,e1,t,r⟩:=h
   refine call_tuple_list (lsl e1 t) (fun h' kp=>?_) (by rw [List.size_toArray];exact t.2)
   have nn:z.h h'.objs.size=none:=by
    cases q:z.h h'.objs.size with
    | none=>rfl
    | some o=>exact ZX (Heap.lt_size (kp _ o q)) (Nat.lt_irrefl _)
   exact .tup I r (.hp (t:=z.s.toks) fun b o e=>Heap.get?_push_of_some _ (kp b o e)) nn (Heap.get?_push_size _ rfl) (rY t.2)
 | _=>cases e
theorem sG:sx X (.type "list") .list:=fun z u x d I h e=>by
 cases x with
 | tup l=>
   cases e
   obtain ⟨a,o,vs,rfl,e1,t,r⟩:=h
   obtain ⟨n,hd⟩:=t.2.1
   exact call_list_seq a (.inr rfl) (I.gh _ _ e1) t.1 hd (fun h' c' kp e=>.lst r (.hp (t:=z.s.toks) kp) (aI z) e t.2.2.1) (by rw [List.size_toArray];exact t.2.2.1)
 | lst l=>
   cases e
   obtain ⟨a,o,vs,rfl,e1,⟨⟨n,rfl⟩,hz⟩,r⟩:=h
   exact call_list_seq a (.inl rfl) e1 rfl rfl (fun h' c' kp e=>.lst r (.hp (t:=z.s.toks) kp) (aI z) e hz) (by rw [List.size_toArray];exact hz)
 | _=>cases e
theorem HR.sysm (I:HR X z):sysModules<z.s.heap.objs.size:=Nat.lt_trans (by decide) (I.md.glob.keeps fun b o e=>I.gh _ _ (I.bs b o e)).lt
theorem sF:sx X (.type "dict") .dict:=fun z u x d I h e=>by
 cases x with
 | dic ks l=>
   cases e
   obtain ⟨a,o,vs,rfl,m,e1,t,hl,r⟩:=h
   have hz:(ks.zip vs).length≤sizeLine:=by obtain ⟨_,_,_,_,_,_,_,q⟩:=t;exact q
   refine kt_call_dict (knd:=ba X.W.P X.W.w) m (t.of e1) hz fun h' hd' sb=>?_
   obtain ⟨o',es,ep,e2,x,y,a1,a2,a3⟩:=hd'
   exact ⟨.hp (t:=z.s.toks) fun b o e=>(sb.2 b (Nat.ne_of_lt (Heap.lt_size e))).trans (Heap.get?_push_of_some _ e),_,.dic ks l,rfl,aI z,rfl,o',vs,rfl,ZU.mpr (Nat.ne_of_gt I.sysm),e2,⟨es,ep,x,y,a1,a2,a3,hz⟩,hl,r⟩
 | _=>cases e
theorem v6:Bi1 X (.builtin "abs") .abs:=fun z u x d I h e=>by
 cases x with
 | int i=>cases e;obtain ⟨t,rfl⟩:=h;exact call_abs_int fun u tk=>.tok fun _ _ _=>⟨_,rfl⟩
 | _=>cases e
theorem v7:Bi1 X (.type "int") .int:=fun z u x d I h e=>by
 cases x with
 | int i=>cases e;obtain ⟨t,rfl⟩:=h;exact call_int_int (.tok fun _ _ _=>⟨_,rfl⟩)
 | bl i=>cases e;cases (show u=Value.bool i from h);exact call_int_bool (.tok fun _ _ _=>⟨_,rfl⟩)
 | str y=>
   obtain ⟨hz,e⟩:y.length≤640∧(PySem.intText? y).map D.int=some d:=by
    unfold iM at e;dsimp only at e;split at e
    ·rename_i c;exact ⟨c,e⟩
    ·cases e
   obtain ⟨n,q,rfl⟩:=Option.map_eq_some_iff.mp e
   obtain ⟨t,rfl⟩:=h
   exact PySem.W.KIN.call_text q hz (.tok fun _ _ _=>⟨_,rfl⟩)
 | _=>cases e
theorem kt:∀ {l ns vs},eE l=some ns→RDs W ρ G l vs→IntsAre vs ns
 | [],ns,vs,e,r=>by cases e;cases (show vs = [] from r);exact .nil
 | d :: l,ns,vs,e,r=>by
   cases d with
   | int b=>
     obtain ⟨cs,q,rfl⟩:=Option.map_eq_some_iff.mp (show (eE l).map (b :: ·)=some ns from e)
     obtain ⟨v,r',rfl,⟨t,rfl⟩,tl⟩:=r
     exact .cons b t (kt q tl)
   | _=>cases e
def Bi2 (X:Cx) (f:Value) (b:Bi):Prop:=∀ z u v x y d,Rep X z→CR X.W z x u→CR X.W z y v→vZ b x y=some d→wpAny X.M X.A (call f [u,v]) (Dn X z d) NoE z.s
def tyN:Bi→String
 | .isTup=>"tuple" | .isStr=>"str" | .isBool=>"bool" | .isInt=>"int" | .isDic=>"dict" | _=>"list"
theorem yO (hb:b = .isTup∨b = .isStr∨b = .isBool∨b = .isInt∨b = .isLst∨b = .isDic) {u:Value} (I:Rep X z) (h:CR X.W z x u) (e:iM b x=some d):wpAny X.M X.A (call (.builtin "isinstance") [u,.type (tyN b)]) (Dn X z d) NoE z.s:=by
 have kin:X.K.In z.s.heap:=I.md.kin.keeps fun b o e=>I.gh _ _ (I.bs b o e)
 have go:∀ {tn:String},iM b x=(PySem.W.kitOne [] (.type tn) (.type (tyN b))).map D.bl→(∀ v,PySem.W.kitOne [] (.type tn) (.type (tyN b))=some v→(∀ n,Dn X z (.bl v) (.bool v) { z.s with toks:=n })→wpAny X.M X.A (call (.builtin "isinstance") [u,.type (tyN b)]) (Dn X z (.bl v)) NoE z.s)→wpAny X.M X.A (call (.builtin "isinstance") [u,.type (tyN b)]) (Dn X z d) NoE z.s:=fun q k=>by
  rw [q] at e
  obtain ⟨v,e1,rfl⟩:=Option.map_eq_some_iff.mp e
  exact k v e1 fun n=>.tok fun _ _ _=>rfl
 cases x with
 | non=>cases (show u=Value.none from h);exact go (tn:="NoneType") (by rcases hb with rfl | rfl | rfl | rfl | rfl | rfl <;> kernel_rfl) fun v q k=>PySem.W.kia_one PySem.W.kitx_none kin True.intro q (fun z=>nomatch z) k
 | bl y=>cases (show u=Value.bool y from h);exact go (tn:="bool") (by rcases hb with rfl | rfl | rfl | rfl | rfl | rfl <;> kernel_rfl) fun v q k=>PySem.W.kia_one PySem.W.kitx_bool kin True.intro q (fun z=>nomatch z) k
 | int y=>obtain ⟨t,rfl⟩:=(show ∃ t,u=Value.int y t from h);exact go (tn:="int") (by rcases hb with rfl | rfl | rfl | rfl | rfl | rfl <;> kernel_rfl) fun v q k=>PySem.W.kia_one PySem.W.kitx_int kin True.intro q (fun z=>nomatch z) k
 | str y=>obtain ⟨t,rfl⟩:=(show ∃ t,u=Value.str y t from h);exact go (tn:="str") (by rcases hb with rfl | rfl | rfl | rfl | rfl | rfl <;> kernel_rfl) fun v q k=>PySem.W.kia_one PySem.W.kitx_str kin True.intro q (fun z=>nomatch z) k
 | tup l=>obtain ⟨a,o,vs,rfl,e1,t,r⟩:=h;exact go (tn:="tuple") (by rcases hb with rfl | rfl | rfl | rfl | rfl | rfl <;> kernel_rfl) fun v q k=>PySem.W.kia_one PySem.W.kitx_tuple kin ⟨o,I.gh _ _ e1,t.1⟩ q (fun z=>nomatch z) k
 | lst l=>obtain ⟨a,o,vs,rfl,e1,⟨⟨n,rfl⟩,_⟩,r⟩:=h;exact go (tn:="list") (by rcases hb with rfl | rfl | rfl | rfl | rfl | rfl <;> kernel_rfl) fun v q k=>PySem.W.kia_one PySem.W.kitx_list kin ⟨_,e1,rfl⟩ q (fun z=>nomatch z) k
 | dic ks l=>obtain ⟨a,o,vs,rfl,m,e1,⟨_,_,c,_⟩,hl,r⟩:=h;exact go (tn:="dict") (by rcases hb with rfl | rfl | rfl | rfl | rfl | rfl <;> kernel_rfl) fun v q k=>PySem.W.kia_one PySem.W.kitx_dict kin ⟨o,e1,c.1⟩ q (fun z=>nomatch z) k
 | _=>rcases hb with rfl | rfl | rfl | rfl | rfl | rfl <;> cases e
end
end L2.Ev
end
section
namespace L2.Ev
def toB (d:D) (s:Sta):Out Bool:=match d with | .bl b=>.ok b s | _=>.bad
def RT (_:Z) (b c:Bool):Prop:=c=b
def RVs (W:Wd) (br:Bool):E→Z→List D→List Value→Prop
 | .cons a r,z,d :: ds,u :: us=>RV W br a z d u∧RVs W br r z ds us
 | .nil,_,[],[]=>True
 | _,_,_,_=>False
def LE (X:Cx) (e:Expr) (c:E):Prop:=∀ br,Jg X (eval e X.env) (X.ev br c) (RV X.W br c)
def LF (X:Cx) (e:Expr) (c:E):Prop:=∀ z,Rep X z→X.ev false c z.t≠.bad→Wp X (eval e X.env) z (X.ev false c z.t) (FV X z)
def LT (X:Cx) (e:Expr) (c:E):Prop:=Jg X (isTrue e X.env (eval e X.env)) (fun t=>(X.ev true c t).bind toB) RT
def LW (X:Cx) (e:Expr) (c:E):Prop:=∀ wh,Jg X (isTrue e X.env wh) (fun t=>(X.ev true c t).bind toB) RT
def LA (X:Cx) (es:List Expr) (c:E):Prop:=∀ br pos,Jg X (spliced (backTo pos (starEach es X.env))) (X.evs br c) (RVs X.W br c)
theorem aw (x:Out α) (f:α→Sta→Out β) (g:β→Sta→Out γ):(x.bind f).bind g=x.bind fun a s=>(f a s).bind g:=by cases x <;> rfl
theorem Ap (h:RB X.W z (.bl b) u) (I:Rep X z):u = .bool b:=(h.cr0 I:RD X.W z.ρ z.G (.bl b) u)
section
variable {X:Cx} {z z0 z1:Z} {br:Bool}
theorem Rep.bk (I:HR X z):∀ b o,X.base.get? b=some o→z.s.heap.get? b=some o:=fun b o e=>I.gh _ _ (I.bs b o e)
theorem HR.kin (I:HR X z):X.K.In z.s.heap:=I.md.kin.keeps (Rep.bk I)
theorem cw {i:Nat} {x:Str} {Q:Value→Shared→Prop} {E:Value→Shared→Prop} (I:Rep X z) (hN:X.N[i]? = some x) (hv:Vis X.env.scope x) (e:z.σ[i]? = some (some u)) (q:Q u z.s) (hd:(x == ("__debug__":Str))=false) (hc:(x == ("__classdict__":Str))=false):wpAny X.M X.A (eval (.Name x pos) X.env) Q E z.s:=by
 obtain ⟨m,hn,hl⟩:=I.lo
 rcases hl i x u hN e hv with ⟨hk,hm⟩ | ⟨hk,c,hc',hcell⟩
 ·exact wpAny_Name (wpAny_loadName_local I.ok.kd hk hn hm q) hd
 ·rcases hk with hk | hk
  ·exact wpAny_Name (wpAny_loadName_cell I.ok.kd hk hc' hcell q) hd
  ·exact wpAny_Name (wpAny_loadName_free I.ok.kd hk hc' hcell q hc) hd
theorem Rep.slot {i:Nat} {d:D} (I:Rep X z) (e:z.t.env[i]? = some (some d)):∃ u,z.σ[i]? = some (some u)∧RB X.W z d u:=by
 by_cases m:i∈z.t.ow
 ·obtain ⟨d',a,o,h1,h2,_⟩:=I.eo i m
  exact ⟨_,h2,.inr ⟨i,m,h2,e⟩⟩
 ·obtain ⟨u,q,r⟩:=I.en i d m e
  exact ⟨u,q,.inl r⟩
theorem xh {i:Nat} {x:Str} (hN:X.N[i]? = some x) (hv:Vis X.env.scope x) (hd:(x == ("__debug__":Str))=false) (hc:(x == ("__classdict__":Str))=false):LE X (.Name x pos) (.v i):=fun br z I nb=>by
 have en:∃ d,z.t.env[i]? = some (some d):=by
  cases q:z.t.env[i]? with
  | none=>exact ZX (show X.ev br (.v i) z.t = .bad by show (match z.t.env[i]? with | some (some d)=>Out.ok d (if br then z.t else un z.t i) | _=>.bad)=_;rw [q]) nb
  | some o=>cases o with
    | none=>exact ZX (show X.ev br (.v i) z.t = .bad by show (match z.t.env[i]? with | some (some d)=>Out.ok d (if br then z.t else un z.t i) | _=>.bad)=_;rw [q]) nb
    | some d=>exact ⟨d,rfl⟩
 obtain ⟨d,q⟩:=en
 have e:X.ev br (.v i) z.t = .ok d (if br then z.t else un z.t i):=by show (match z.t.env[i]? with | some (some d)=>Out.ok d (if br then z.t else un z.t i) | _=>.bad)=_;rw [q]
 obtain ⟨u,q1,r⟩:=I.slot q
 rw [e]
 refine cw I hN hv q1 ?_ hd hc
 cases br with
 | true=>
   refine ⟨z,d,rfl,rfl,.refl,I,?_⟩
   by_cases m:i∈z.t.ow
   ·exact .inr ⟨rfl,i,rfl,m,q1,q⟩
   ·obtain ⟨u',q2,r2⟩:=I.en i d m q
    rw [q1] at q2;cases q2;exact .inl r2
 | false=>
   obtain ⟨I2,x2⟩:=I.rel (fun j=>j != i)
   refine ⟨z.rel fun j=>j != i,d,rfl,rfl,x2,I2,?_⟩
   obtain ⟨u',q2,r2⟩:=I2.en i d (fun m=>by simp [Z.rel] at m) q
   rw [show z.σ[i]? = some (some u') from q2] at q1;cases q1;exact .inl r2
theorem tH (h:∀ z,wpAny X.M X.A (eval e X.env) (Dn X z d) NoE z.s):LE X e (.c d):=fun br z I nb=>wpAny_mono (h z) (fun _ _ k=>k.pe I) fun _ _ z=>z.elim
theorem vg:LE X (.Constant .none j pos) (.c .non):=tH fun _=>Constant_none (.tok fun _ _ _=>rfl)
theorem ze:LE X (.Constant (.bool b) j pos) (.c (.bl b)):=tH fun _=>Constant_bool (.tok fun _ _ _=>rfl)
theorem vf:LE X (.Constant (.int i) j pos) (.c (.int i)):=tH fun _=>wpAny_Constant_int (.tok fun _ _ _=>⟨_,rfl⟩)
theorem vh:LE X (.Constant (.str x) j pos) (.c (.str x)):=tH fun _=>Calls.Constant_str (.tok fun _ _ _=>⟨_,rfl⟩)
def Gl (X:Cx) (x:Str):Prop:=X.env.kindOf x=some .globalImplicit
theorem bt {Q:Value→Shared→Prop} {E:Value→Shared→Prop} (I:Rep X z) (hg:Gl X x) (hm:X.mg x=some u) (h:Q u z.s) (hd:(x == ("__debug__":Str))=false):wpAny X.M X.A (eval (.Name x pos) X.env) Q E z.s:=
 Calls.Name_function_global I.ok.kd hg (Calls.loadGlobal_global (by rw [I.ok.gl];exact I.md.glob.keeps (Rep.bk I.toHR)) hm h) hd
theorem wU {Q:Value→Shared→Prop} {E:Value→Shared→Prop} (I:Rep X z) (hg:Gl X x) (hm:X.mg x=none) (hv:bootBuiltins x=some u) (h:Q u z.s) (hn:x≠"__name__") (hd:(x == ("__debug__":Str))=false):wpAny X.M X.A (eval (.Name x pos) X.env) Q E z.s:=by
 obtain ⟨mb,h1,h2⟩:=I.md.blt
 exact Calls.Name_function_global I.ok.kd hg (Calls.loadGlobal_builtin (by rw [I.ok.gl];exact I.md.glob.keeps (Rep.bk I.toHR)) hm (by rw [I.ok.bl];exact h1.keeps (Rep.bk I.toHR)) ((h2 x hn).trans hv) h) hd
def aY (K:Fg):L2.Bk.Dk→Value→Bool
 | .str x,v=>(match v with | .str y _=>decide (y=x) | _=>false)
 | .int i,v=>(match v with | .int j _=>decide (j=i) | _=>false)
 | .bl b,v=>(match v with | .bool c=>decide (c=b) | _=>false)
 | .non,v=>(match v with | .none=>true | _=>false)
 | .tup ds,v=>(match v with
   | .ref a=>(match K.lookup a with
     | some o=>o.cls == .type "tuple" && o.dict.isNone && (match o.data with | .seq its _=>decide (its.size≤1000) && lookDs K ds its.toList | _=>false)
     | none=>false)
   | _=>false)
where lookDs (K:Fg):List L2.Bk.Dk→List Value→Bool
 | [],vs=>vs.isEmpty
 | d :: ds,vs=>(match vs with | v :: r=>aY K d v && lookDs K ds r | []=>false)
mutual
theorem rP {K:Fg} {G:Hp} (k:∀ a o,K.lookup a=some o→G a=some o):∀ d v,aY K d v=true→RD W ρ G (toD d) v
 | .str x,v,h=>by cases v <;> simp only [aY] at h <;> first | cases h | exact ⟨_,by rw [of_decide_eq_true h]⟩
 | .int x,v,h=>by cases v <;> simp only [aY] at h <;> first | cases h | exact ⟨_,by rw [of_decide_eq_true h]⟩
 | .bl x,v,h=>by cases v <;> simp only [aY] at h <;> first | cases h | exact (by rw [of_decide_eq_true h];rfl)
 | .non,v,h=>by cases v <;> simp only [aY] at h <;> first | exact (rfl:RD W ρ G .non .none) | cases h
 | .tup ds,v,h=>by
   cases v with
   | ref a=>
     simp only [aY] at h
     cases q:K.lookup a with
     | none=>rw [q] at h;cases h
     | some o=>
       rw [q] at h
       dsimp only at h
       rw [Bool.and_eq_true] at h
       rw [Bool.and_eq_true] at h
       obtain ⟨⟨h1,h3⟩,h2⟩:=h
       cases qd:o.data with
       | seq its n=>
         rw [qd] at h2
         dsimp only at h2
         rw [Bool.and_eq_true] at h2
         have hz:its.size≤1000:=of_decide_eq_true h2.1
         exact ⟨a,o,its.toList,rfl,k a o q,⟨by simpa using h1,⟨n,by simpa using qd⟩,(by rw [Array.length_toList,sizeLine_eq];omega),by simpa using h3⟩,mW k ds _ h2.2⟩
       | _=>rw [qd] at h2;cases h2
   | _=>simp [aY] at h
theorem mW {K:Fg} {G:Hp} (k:∀ a o,K.lookup a=some o→G a=some o):∀ ds vs,aY.lookDs K ds vs=true→RDs W ρ G (toD.toDs ds) vs
 | [],vs,h=>by cases vs with
   | nil=>exact rfl
   | cons _ _=>simp [aY.lookDs] at h
 | d :: ds,vs,h=>by cases vs with
   | nil=>simp [aY.lookDs] at h
   | cons v r=>
     simp only [aY.lookDs,Bool.and_eq_true] at h
     exact .cons (rP k d v h.1) (mW k ds r h.2)
end
theorem HR.top (I:HR X z) (h:aY X.K d u=true):RD X.W z.ρ z.G (toD d) u:=rP (fun a o e=>I.bs a o (I.md.kin a o e)) d u h
theorem By {j:Nat} (hg:Gl X x) (hm:X.mg x=some u) (hd:(x == ("__debug__":Str))=false) (e:X.Γ.gl[j]? = some d) (h:aY X.K d u=true):LE X (.Name x pos) (.g j):=fun br z I nb=>by
 have q:X.ev br (.g j) z.t = .ok (toD d) z.t:=by show Out.of z.t (X.Γ.gl[j]?.map toD)=_;rw [e];rfl
 rw [q]
 exact bt I hg hm ⟨z,toD d,rfl,rfl,.refl,I,.of (I.toHR.top h)⟩ hd
theorem zR {o:Op} (ho:Op2 X (binaryOp op) (opD o)) (ha:LE X ea a) (hb:LE X eb b):LE X (.BinOp ea op eb pos) (.op o a b):=fun br z I nb=>
 wpAny_BinOp ((ha true).go .refl I rfl nb fun z1 x u y1 x1 I1 r1 e1=>(hb true).go x1 I1 e1 nb fun z2 y v y2 x2 I2 r2 e2=>cW x2 I2 e2 nb fun d q=>ho z2 u v _ _ d I2 ((r1.rb.st y2 I2).cr I2) (r2.rb.cr I2) q)
theorem wZ {o:Op} (ho:Op2 X (compareOp op) (opD o)) (ha:LE X ea a) (hb:LE X eb b) (hm:behindInMarks op eb=false):LE X (.Compare ea [op] [eb] pos) (.op o a b):=fun br z I nb=>
 wpAny_Compare1 ((ha true).go .refl I rfl nb fun z1 x u y1 x1 I1 r1 e1=>(hb true).go x1 I1 e1 nb fun z2 y v y2 x2 I2 r2 e2=>cW x2 I2 e2 nb fun d q=>ho z2 u v _ _ d I2 ((r1.rb.st y2 I2).cr I2) (r2.rb.cr I2) q) hm
theorem Dn.tru {o:Out Bool} {s':Shared} (x:Ee X z0 z) (I:Rep X z) (e:o=(Out.ok d z.t).bind toB) (nb:o≠.bad) (h:Dn X z d u s'):wpAny X.M X.A (truthy u) (Pe X z0 o RT) (Px X z0 o) s':=by
 cases d with
 | bl b=>
   cases (show u=Value.bool b from h.2)
   exact wpAny_truthy_bool ⟨z.up s',b,rfl,e,x.trans (cL I.gh h.1).ee,I.grow (cL I.gh h.1),rfl⟩
 | _=>exact ZX e nb
theorem xy {o:Op} (ho:Op2 X (compareOp op) (opD o)) (ha:LE X ea a) (hb:LE X eb b) (hm:behindInMarks op eb=false):LT X (.Compare ea [op] [eb] pos) (.op o a b):=fun z I nb=>
 wpAny_isTrue_Compare1 ((ha true).go .refl I (aw ..) nb fun z1 x u y1 x1 I1 r1 e1=>(hb true).go x1 I1 (e1.trans (aw ..)) nb fun z2 y v y2 x2 I2 r2 e2=>by
  cases q:opD o (look z2.t.st x) (look z2.t.st y) with
  | none=>rw [q] at e2;exact ZX e2 nb
  | some d=>rw [q] at e2;exact wpAny_mono (ho z2 u v _ _ d I2 ((r1.rb.st y2 I2).cr I2) (r2.rb.cr I2) q) (fun c s' k=>k.tru x2 I2 e2 nb) fun _ _ z=>z.elim) hm
theorem jl (I:Rep X z) (h:RB X.W z d u):(u == Value.none)=jV d:=by
 rcases h with h | ⟨i,m,e1,e2⟩
 ·cases d with
  | non=>cases (show u=_ from h);rfl
  | bl b=>cases (show u=_ from h);rfl
  | int b=>obtain ⟨t,rfl⟩:=h;rfl
  | str b=>obtain ⟨t,rfl⟩:=h;rfl
  | tup l=>obtain ⟨a,_,_,rfl,_⟩:=h;rfl
  | lst l=>obtain ⟨a,_,_,rfl,_⟩:=h;rfl
  | dic k l=>obtain ⟨a,_,_,rfl,_⟩:=h;rfl
  | ins c l=>obtain ⟨a,_,_,rfl,_⟩:=h;rfl
  | ref n=>obtain ⟨a,_,rfl⟩:=h;rfl
 ·obtain ⟨d',a,o,h1,h2,h3,_⟩:=I.eo i m
  rw [e1] at h2;cases h2
  rw [e2] at h1;cases h1
  cases d <;> first | rfl | cases h3
theorem c6 (b:Bool) {z:Z}:Dn X z (.bl b) (.bool b) z.s:=.tok (n:=z.s.toks) fun _ _ _=>rfl
theorem w8 (ha:LE X ea a) (h1:behindInMarks .Is (.Constant .none j pos')=false):LE X (.Compare ea [.Is] [.Constant .none j pos'] pos) (.isN a):=fun br z I nb=>
 wpAny_Compare1 ((ha true).go .refl I rfl nb fun z1 x u y1 x1 I1 r1 e1=>Constant_none (is_none_gen (by rw [jl I1 r1.rb];exact (c6 _).at x1 I1 e1))) h1
theorem tL (ha:LE X ea a) (h1:behindInMarks .IsNot (.Constant .none j pos')=false):LE X (.Compare ea [.IsNot] [.Constant .none j pos'] pos) (.isNN a):=fun br z I nb=>
 wpAny_Compare1 ((ha true).go .refl I rfl nb fun z1 x u y1 x1 I1 r1 e1=>Constant_none (isnot_none_gen (by rw [jl I1 r1.rb];exact (c6 _).at x1 I1 e1))) h1
theorem xz (ha:LE X ea a) (h1:behindInMarks .Is (.Constant .none j pos')=false):LT X (.Compare ea [.Is] [.Constant .none j pos'] pos) (.isN a):=fun z I nb=>
 wpAny_isTrue_Compare1 ((ha true).go .refl I (aw ..) nb fun z1 x u y1 x1 I1 r1 e1=>Constant_none (is_none_gen (by rw [jl I1 r1.rb];exact (c6 _).tru x1 I1 e1 nb))) h1
theorem ue (ha:LE X ea a) (h1:behindInMarks .IsNot (.Constant .none j pos')=false):LT X (.Compare ea [.IsNot] [.Constant .none j pos'] pos) (.isNN a):=fun z I nb=>
 wpAny_isTrue_Compare1 ((ha true).go .refl I (aw ..) nb fun z1 x u y1 x1 I1 r1 e1=>Constant_none (isnot_none_gen (by rw [jl I1 r1.rb];exact (c6 _).tru x1 I1 e1 nb))) h1
theorem xd (ha:LE X ea a):LE X (.UnaryOp .USub ea pos) (.neg a):=fun br z I nb=>
 UnaryOp_ ((ha true).go .refl I rfl nb fun z1 x u y1 x1 I1 r1 e1=>by
  cases x with
  | int i=>obtain ⟨t,rfl⟩:=(r1.rb.cr0 I1:CR X.W z1 (.int i) u);exact neg_int ((Dn.tok fun _ _ _=>⟨_,rfl⟩:Dn X z1 (.int (-i)) _ _).at x1 I1 e1)
  | _=>exact ZX e1 nb)
theorem xe (ha:LE X ea a):LE X (.UnaryOp .Not ea pos) (.not a):=fun br z I nb=>
 UnaryOp_ ((ha true).go .refl I rfl nb fun z1 x u y1 x1 I1 r1 e1=>by
  cases x with
  | bl b=>cases Ap r1.rb I1;exact not_of (wpAny_truthy_bool ((c6 _).at x1 I1 e1))
  | _=>exact ZX e1 nb)
theorem wV (ha:LE X ea a) (hb:LE X (.BoolOp .And (eb :: r) pos) b):LE X (.BoolOp .And (ea :: eb :: r) pos) (.and a b):=fun br z I nb=>
 BoolOp_and ((ha false).go .refl I rfl nb fun z1 x u y1 x1 I1 r1 e1=>by
  cases x with
  | bl c=>
    cases (show u=Value.bool c from r1.rd)
    refine wpAny_truthy_bool ?_
    cases c with
    | true=>exact wpAny_mono ((hb false).at x1 I1 e1 nb) (fun u s' ⟨z',d,e,q,y,I',r⟩=>⟨z',d,e,q,y,I',.of r.rd⟩) fun _ _ h=>h
    | false=>exact (c6 _).at x1 I1 e1
  | _=>exact ZX e1 nb)
theorem vF (h:LW X e c):LT X e c:=h _
theorem uh (ha:LT X ea a):LW X (.BoolOp .And [ea] pos) a:=fun wh z I nb=>isTrue_and (thn (ha z I nb) fun c s1 e=>by
 cases c with
 | true=>exact isTrue_and_nil e
 | false=>exact e)
theorem xC (ha:LT X ea a):LW X (.BoolOp .Or [ea] pos) a:=fun wh z I nb=>isTrue_or (thn (ha z I nb) fun c s1 e=>by
 cases c with
 | false=>exact isTrue_or_nil e
 | true=>exact e)
theorem RT.pe (x:Ee X z0 z) (I:Rep X z) (e:o = .ok b z.t):Pe X z0 o RT b z.s:=⟨z,b,rfl,e,x,I,rfl⟩
theorem tB (x:Out D) (f:Bool→Sta→Out β):(x.bind toB).bind f=x.bind fun d s=>match d with | .bl b=>f b s | _=>.bad:=by
 cases x with
 | ok d s=>cases d <;> rfl
 | _=>rfl
theorem xB (ha:LT X ea a) (hb:LW X (.BoolOp .And (eb :: r) pos) b):LW X (.BoolOp .And (ea :: eb :: r) pos) (.tand a b):=fun wh z I nb=>by
 have e:(X.ev true (.tand a b) z.t).bind toB=((X.ev true a z.t).bind toB).bind fun c s=>if c then (X.ev true b s).bind toB else .ok false s:=by
  rw [tB];show Out.bind (Out.bind _ _) _=_;rw [aw];congr 1;funext d s
  cases d <;> first | rfl | (rename_i c;cases c <;> rfl)
 refine isTrue_and (ha.go .refl I e nb fun z1 c u y1 x1 I1 r1 e1=>?_)
 cases (show u=c from r1)
 cases c with
 | true=>exact (hb wh).at x1 I1 e1 nb
 | false=>exact RT.pe x1 I1 e1
theorem zY (ha:LT X ea a) (hb:LW X (.BoolOp .Or (eb :: r) pos) b):LW X (.BoolOp .Or (ea :: eb :: r) pos) (.tor a b):=fun wh z I nb=>by
 have e:(X.ev true (.tor a b) z.t).bind toB=((X.ev true a z.t).bind toB).bind fun c s=>if c then .ok true s else (X.ev true b s).bind toB:=by
  rw [tB];show Out.bind (Out.bind _ _) _=_;rw [aw];congr 1;funext d s
  cases d <;> first | rfl | (rename_i c;cases c <;> rfl)
 refine isTrue_or (ha.go .refl I e nb fun z1 c u y1 x1 I1 r1 e1=>?_)
 cases (show u=c from r1)
 cases c with
 | false=>exact (hb wh).at x1 I1 e1 nb
 | true=>exact RT.pe x1 I1 e1
theorem xA (ha:LT X ea a):LT X (.UnaryOp .Not ea pos) (.tnot a):=fun z I nb=>by
 have e:(X.ev true (.tnot a) z.t).bind toB=((X.ev true a z.t).bind toB).bind fun c s=>.ok (!c) s:=by
  rw [tB];show Out.bind (Out.bind _ _) _=_;rw [aw];congr 1;funext d s
  cases d <;> rfl
 exact isTrue_not (ha.go .refl I e nb fun z1 c u y1 x1 I1 r1 e1=>by
  cases (show u=c from r1)
  exact RT.pe x1 I1 e1)
theorem w9 (hc:LT X ec c) (ha:LE X ea a) (hb:LE X eb b):LE X (.IfExp ec ea eb pos) (.ite c a b):=fun br z I nb=>by
 have e:X.ev br (.ite c a b) z.t=((X.ev true c z.t).bind toB).bind fun c s=>if c then X.ev false a s else X.ev false b s:=by
  rw [tB];show Out.bind _ _=_;congr 1;funext d s
  cases d <;> first | rfl | (rename_i c;cases c <;> rfl)
 refine wpAny_IfExp (hc.go .refl I e nb fun z1 c u y1 x1 I1 r1 e1=>?_)
 cases (show u=c from r1)
 cases c with
 | true=>exact wpAny_mono ((ha false).at x1 I1 e1 nb) (fun u s' ⟨z',d,e,q,y,I',r⟩=>⟨z',d,e,q,y,I',.of r.rd⟩) fun _ _ h=>h
 | false=>exact wpAny_mono ((hb false).at x1 I1 e1 nb) (fun u s' ⟨z',d,e,q,y,I',r⟩=>⟨z',d,e,q,y,I',.of r.rd⟩) fun _ _ h=>h
theorem AA {d:D} {u:Value} (I:Rep X z) (h:CR X.W z d u) (e:uM d=some b):wpAny X.M X.A (truthy u) (fun c s'=>c=b∧Gr z.s s') NoE z.s:=by
 have hl:=jd
 cases d with
 | non=>cases e;cases (show u=_ from h);exact truthy_none ⟨rfl,.refl⟩
 | bl c=>cases e;cases (show u=_ from h);exact wpAny_truthy_bool ⟨rfl,.refl⟩
 | int i=>cases e;obtain ⟨t,rfl⟩:=h;exact PySem.P.truthy_int ⟨rfl,.refl⟩
 | tup l=>
   cases e;obtain ⟨a,o,vs,rfl,e1,t,r⟩:=h;have:=t.2.2
   refine truthy_tuple (tpt (I.gh _ _ e1) t) (by rw [List.size_toArray];omega) ⟨?_,.tok⟩
   have:=r.len;cases l <;> cases vs <;> first | rfl | cases this
 | lst l=>
   cases e;obtain ⟨a,o,vs,rfl,e1,t,r⟩:=h;have:=t.2
   refine wpAny_truthy_list (lsl e1 t) (by rw [List.size_toArray];omega) ⟨?_,.tok⟩
   have:=r.len;cases l <;> cases vs <;> first | rfl | cases this
 | _=>cases e
theorem zX (ha:LE X ea a) (he:∀ whole,isTrue ea X.env whole=(do let v ← whole;standAt ea.pos;holding [v] (truthy v))):LT X ea (.tv a):=fun z I nb=>
 isTrue_plain ((ha true).go .refl I (aw ..) nb fun z1 x u y1 x1 I1 r1 e1=>by
  cases q:uM (look z1.t.st x) with
  | none=>rw [q] at e1;exact ZX e1 nb
  | some b=>
    rw [q] at e1
    refine wpAny_mono (AA I1 (r1.rb.cr I1) q) (fun c s' ⟨h,g⟩=>?_) fun _ _ z=>z.elim
    subst h
    exact ⟨z1.up s',c,rfl,e1,x1.trans (cL I1.gh g).ee,I1.grow (cL I1.gh g),rfl⟩) (he _)
end
section
variable {X:Cx} {z z0 z1:Z} {br:Bool}
def iG (b:Expr):Prop:=∀ o i,subscripted b false o i=operate [o,i] (getItem o i)
theorem zP (ha:LE X ea a) (hb:LE X eb b) (hs:iG eb):LE X (.Subscript ea eb pos) (.ix a b):=fun br z I nb=>
 Subscript_ ((ha true).go .refl I rfl nb fun z1 x u y1 x1 I1 r1 e1=>(hb true).go x1 I1 e1 nb fun z2 y v y2 x2 I2 r2 e2=>cW x2 I2 e2 nb fun d q=>by
  obtain ⟨T,id,h1,h2,h3⟩:=Bu I2 ((r1.rb.st y2 I2).cr I2) (r2.rb.cr0 I2) q
  exact tail_any h2 h1 h3 (hs _ _))
def Cx.prt (X:Cx) (c:E) (s:Sta):Out (Option Int):=if bG c then .ok none s else (X.ev true c s).bind toI
def LO (X:Cx) (e:Option Expr) (c:E):Prop:=Jg X (evalPart e X.env) (X.prt c) fun _ o u=>IsPart u o
theorem tV:LO X none .nil:=fun z I nb=>by rw [evalPart_none];exact wpAny_pure ⟨z,none,rfl,rfl,.refl,I,.none⟩
theorem tW (n:bG a=false) (ha:LE X ea a):LO X (some ea) a:=fun z I nb=>by
 rw [evalPart_some]
 have e:X.prt a z.t=(X.ev true a z.t).bind toI:=by unfold Cx.prt;rw [n];rfl
 refine (ha true).go .refl I e nb fun z1 x u y1 x1 I1 r1 e1=>?_
 cases x with
 | int i=>obtain ⟨t,rfl⟩:=(r1.rb.cr0 I1:CR X.W z1 (.int i) u);exact ⟨z1,some i,rfl,e1,x1,I1,.int i t⟩
 | _=>exact ZX e1 nb
theorem CR.grow {s':Shared} (g:Grw z G' s'):∀ {d},CR W z d u→CR W { z with G:=G',s:=s' } d u
 | .lst _,⟨a,o,vs,e,q,t,r⟩=>⟨a,o,vs,e,g.gr.k _ _ q,t,r.mono (List.prefix_refl _) g.gg⟩
 | .dic _ _,⟨a,o,vs,e,m,q,t,l,r⟩=>⟨a,o,vs,e,m,g.gr.k _ _ q,t,l,r.mono (List.prefix_refl _) g.gg⟩
 | .non,h=>h
 | .bl _,h=>h
 | .int _,h=>h
 | .str _,h=>h
 | .tup _,h=>RD.mono (List.prefix_refl _) g.gg h
 | .ins _ _,h=>RD.mono (List.prefix_refl _) g.gg h
 | .ref _,h=>RD.mono (List.prefix_refl _) g.gg h
theorem zS {lo hi:Option Expr} {pos p2:Pos} (ha:LE X ea a) (hl:LO X lo l) (hh:LO X hi h):LE X (.Subscript ea (.Slice lo hi none p2) pos) (.sl a l h):=fun br z I nb=>
 Subscript_ ((ha true).go (f:=fun x s=>(X.prt l s).bind fun l s=>(X.prt h s).bind fun h s=>.of s (slO (look s.st x) l h)) .refl I rfl nb fun z1 x u y1 x1 I1 r1 e1=>wpAny_Slice (hl.go x1 I1 e1 nb fun z2 lo' vl y2 x2 I2 r2 e2=>hh.go x2 I2 e2 nb fun z3 hi' vu y3 x3 I3 r3 e3=>by
  rw [evalPart_none]
  refine wpAny_pure ?_
  have g:=aF (s':={ z3.s with heap:=z3.s.heap.push { cls:=.type "slice",data:=.fields #[vl,vu,.none] } }) I3.gh (.push (t:=z3.s.toks))
  have I4:=I3.grow g
  show wpAny X.M X.A (subscriptTail ea (.Slice lo hi none p2) u (.ref z3.s.heap.objs.size)) _ _ { z3.s with heap:=z3.s.heap.push { cls:=.type "slice",data:=.fields #[vl,vu,.none] } }
  refine cW (z:={ z3 with s:=_ }) (x3.trans g.ee) I4 e3 nb fun d q=>?_
  obtain ⟨T,id,h1,h2,h3⟩:=BF I4 ((((r1.rb.st y2 I2).st y3 I3).cr I3).grow g) (Heap.IsSliceOf.new ..) r2 r3 q
  exact tail_any (ops:=[.ref z3.s.heap.objs.size,u]) h2 h1 h3 (by with_unfolding_all rfl)))
theorem RVs.ind {W:Wd} {br:Bool} {z:Z} {P:E→List D→List Value→Prop} (hn:P .nil [] []) (hc:∀ a r d ds u us,RV W br a z d u→RVs W br r z ds us→P r ds us→P (.cons a r) (d :: ds) (u :: us)) (c:E):∀ ds us,RVs W br c z ds us→P c ds us:=by
 induction c with
 | nil=>
   intro ds us h
   cases ds with
   | nil=>cases us with
     | nil=>exact hn
     | cons _ _=>exact False.elim h
   | cons _ _=>exact False.elim h
 | cons a r _ ih=>
   intro ds us h
   cases ds with
   | nil=>exact False.elim h
   | cons d ds=>cases us with
     | nil=>exact False.elim h
     | cons u us=>exact hc a r d ds u us h.1 h.2 (ih ds us h.2)
 | _=>exact fun _ _ h=>False.elim h
theorem RVs.rds {c ds us} (h:RVs W false c z ds us):RDs W z.ρ z.G ds us:=RVs.ind (P:=fun _ ds us=>RDs W z.ρ z.G ds us) rfl (fun _ _ _ _ _ _ h _ ih=>.cons h.rd ih) c ds us h
theorem qF:LA X [] .nil:=fun br pos z I nb=>Calls.spliced_nil ⟨z,[],rfl,rfl,.refl,I,trivial⟩
theorem mw (ha:LE X ea a) (hr:LA X er r) (hs:starEach (ea :: er) X.env=(false,eval ea X.env) :: starEach er X.env):LA X (ea :: er) (.cons a r):=fun br pos z I nb=>by
 rw [hs]
 show wpAny _ _ (spliced ((false,eval ea X.env) :: backTo pos (starEach er X.env))) _ _ _
 exact Calls.spliced_cons ((ha br).go .refl I rfl nb fun z1 x u y1 x1 I1 r1 e1=>(hr br pos).go x1 I1 e1 nb fun z2 l us y2 x2 I2 r2 e2=>⟨z2,x :: l,rfl,e2,x2,I2,r1.st y2 I2,r2⟩)
theorem qO (h:LA X es c):LE X (.Tuple es x1 pos) (.tup c):=fun br z I nb=>
 wpAny_Tuple_spliced ((h false pos).go (f:=fun l s=>if l.length≤100000 then Out.ok (D.tup l) s else .bad) .refl I rfl nb fun z1 l us y1 x1 I1 r1 e1=>by
  by_cases c:l.length≤100000
  ·rw [ZZ c] at e1
   have hz:us.length≤sizeLine:=by rw [← r1.rds.len];exact big c
   exact ⟨hz,Dn.at x1 I1 e1 (.tupn (t:=z1.s.toks) I1 r1.rds hz)⟩
  ·rw [ZY c] at e1;exact ZX e1 nb)
theorem FV.less (x:Ee X z0 z1) (h:FV X z1 z d u):FV X z0 z d u:=let ⟨a,o,e,n,r⟩:=h;⟨a,o,e,x.st.no n,r⟩
theorem xl (h:LA X es c):LF X (.List es pos) (.lst c):=fun z I nb=>
 wpAny_List_spliced ((h false pos).go (f:=fun l s=>if l.length≤100000 then Out.ok (D.lst l) s else .bad) .refl I rfl nb fun z1 l us y1 x1 I1 r1 e1=>by
  by_cases c:l.length≤100000
  ·rw [ZZ c] at e1
   have hz:us.length≤sizeLine:=by rw [← r1.rds.len];exact big c
   obtain ⟨z2,d,q,q2,y,I2,fv⟩:=(Dw.lstn (X:=X) (t:=z1.s.toks) (n:=0) r1.rds hz).pe I1
   exact ⟨hz,z2,d,q,e1.trans q2,x1.trans y,I2,fv.less x1⟩
  ·rw [ZY c] at e1;exact ZX e1 nb)
theorem FV.rd (x:Ee X z0 z) (I:Rep X z) (h:FV X z0 z d u) (e:o = .ok d z.t):Pe X z0 o (RV X.W br c) u z.s:=by
 obtain ⟨a,ob,rfl,n,t,r,f,no⟩:=h
 obtain ⟨oa,ha⟩:=r.th.1
 have gg:Sub z.G fun b=>if b=a then some oa else z.G b:=fun b o q=>by
  dsimp only
  by_cases c:b=a
  ·subst c;rw [f.1] at q;cases q
  ·rw [ZY c];exact q
 refine ⟨{ z with G:=fun b=>if b=a then some oa else z.G b },d,rfl,e,⟨⟨x.st.pr,x.st.gg.trans gg,fun b o q=>?_,x.st.rn,x.st.th,x.st.sm,x.st.sl⟩,x.sg,x.en,x.ow⟩,I.grw rfl I.br (fun _ _ e _=>e) (fun _ o e=>⟨o.slots,e⟩) gg (fun b o q=>?_) fun b o q=>?_,.of (jm t r gg (by dsimp only;rw [ZZ rfl];exact ha.symm))⟩
 ·by_cases c:b=a
  ·subst c;exact .inr (.inl n)
  ·have q:(if b=a then some oa else z.G b)=some o:=q
   rw [ZY c] at q;exact x.st.gn b o q
 ·have q:(if b=a then some oa else z.G b)=some o:=q
  by_cases c:b=a
  ·subst c;rw [ZZ rfl] at q;cases q;exact ha
  ·rw [ZY c] at q;exact I.gh b o q
 ·have q:(if b=a then some oa else z.G b)=some o:=q
  by_cases c:b=a
  ·subst c;exact .inr ⟨f,no⟩
  ·rw [ZY c] at q;exact .inl q
theorem LF.le (h:LF X e c) (hb:∀ br,X.ev br c=X.ev false c):LE X e c:=fun br z I nb=>by
 rw [hb] at nb ⊢
 exact wpAny_mono (h z I nb) (fun u s' ⟨z',d,q,e,x,I',f⟩=>by subst q;exact f.rd x I' e) fun _ _ h=>h
theorem tP:LF X (.Dict [] [] pos) (.dic .nil):=fun z I nb=>wpAny_Dict_empty (Dw.pe I ⟨.push (t:=z.s.toks),_,.dic [] [],rfl,aI z,rfl,_,[],rfl,ZU.mpr (Nat.ne_of_gt I.sysm),Heap.get?_push_size _ rfl,by
 obtain ⟨o,es,ep,h1,h2,h3,h4,h5,h6⟩:=Heap.DictOf.new (knd:=ba X.W.P X.W.w) z.s.heap
 rw [Heap.get?_push_size _ rfl] at h1
 cases h1
 exact ⟨es,ep,h2,h3,h4,h5,h6,Nat.zero_le _⟩,rfl,rfl⟩)
theorem ev1 (f:List D→Sta→Out β):(X.evs br (.cons a .nil) t).bind f=(X.ev br a t).bind fun x s=>f [x] s:=by
 show ((X.ev br a t).bind fun x s=>Out.ok [x] s).bind f=_
 rw [aw];rfl
theorem ev2 (f:List D→Sta→Out β):(X.evs br (.cons a (.cons b .nil)) t).bind f=(X.ev br a t).bind fun x s=>(X.ev br b s).bind fun y s=>f [x,y] s:=by
 show ((X.ev br a t).bind fun x s=>((X.ev br b s).bind fun y s=>Out.ok [y] s).bind fun l s=>Out.ok (x :: l) s).bind f=_
 rw [aw];congr 1;funext x s;rw [aw,aw];rfl
def Blt (X:Cx) (x:Str) (u:Value):Prop:=Gl X x∧X.mg x=none∧bootBuiltins x=some u∧x≠"__name__"∧(x == ("__debug__":Str))=false
theorem Blt.ld {Q:Value→Shared→Prop} {E:Value→Shared→Prop} (h:Blt X x u) (I:Rep X z) (q:Q u z.s):wpAny X.M X.A (eval (.Name x pos) X.env) Q E z.s:=wU I h.1 h.2.1 h.2.2.1 q h.2.2.2.1 h.2.2.2.2
theorem bD {f:Value} {Q:Value→Shared→Prop} {E:Value→Shared→Prop} (hf:(∃ id,f = .builtin id)∨∃ T,f = .type T) (hx:Blt X x f) (he:starEach (e :: er) X.env=(false,eval e X.env) :: starEach er X.env) (hpl:(backTo pos (starEach er X.env)).any (·.1)=false) (I:Rep X z)
 (h:wpAny X.M X.A (spliced ((false,eval e X.env) :: backTo pos (starEach er X.env))) (fun us s'=>wpAny X.M X.A (call f us) Q E s') E z.s):wpAny X.M X.A (eval (.Call (.Name x p) (e :: er) [] pos) X.env) Q E z.s:=by
 refine wpAny_Call_Name_kw (hx.ld I ?_)
 have h:wpAny X.M X.A (spliced (backTo pos (starEach (e :: er) X.env))) (fun us s'=>wpAny X.M X.A (call f us) Q E s') E z.s:=by rw [he];exact h
 rcases hf with ⟨id,rfl⟩ | ⟨T,rfl⟩
 ·exact callWith_builtin1 h he hpl
 ·exact callWith_type1 h he hpl
abbrev FB (f:Value):Prop:=(∃ id,f = .builtin id)∨∃ T,f = .type T
theorem wX {f:Value} (hb:Bi1 X f b) (hf:FB f) (hx:Blt X x f) (ha:LE X ea a) (he:starEach [ea] X.env=(false,eval ea X.env) :: starEach [] X.env):LE X (.Call (.Name x p) [ea] [] pos) (.bi b (.cons a .nil)):=fun br z I nb=>
 bD hf hx he rfl I (Calls.spliced_cons ((ha true).go .refl I (ev1 fun l s=>Out.of s (biD b (l.map (look s.st)))) nb fun z1 x u y1 x1 I1 r1 e1=>Calls.spliced_nil (cW x1 I1 e1 nb fun d q=>hb z1 _ _ d I1 (r1.rb.cr I1) q)))
theorem xj {f:Value} (hb:sx X f b) (hf:FB f) (hx:Blt X x f) (ha:LE X ea a) (he:starEach [ea] X.env=(false,eval ea X.env) :: starEach [] X.env):LF X (.Call (.Name x p) [ea] [] pos) (.bi b (.cons a .nil)):=fun z I nb=>
 bD hf hx he rfl I (Calls.spliced_cons ((ha true).go .refl I (ev1 fun l s=>Out.of s (biD b (l.map (look s.st)))) nb fun z1 x u y1 x1 I1 r1 e1=>Calls.spliced_nil (by
  cases q:iM b (look z1.t.st x) with
  | none=>exact ZX (e1.trans (show Out.of z1.t (iM b (look z1.t.st x)) = .bad by rw [q];rfl)) nb
  | some d=>
    refine wpAny_mono (hb z1 _ _ d I1 (r1.rb.cr I1) q) (fun v s' k=>?_) fun _ _ z=>z.elim
    obtain ⟨z2,d,q1,q2,y,I2,fv⟩:=k.pe I1
    exact ⟨z2,d,q1,(e1.trans (show Out.of z1.t (iM b (look z1.t.st x))=_ by rw [q];rfl)).trans q2,x1.trans y,I2,fv.less x1⟩)))
theorem wY {f:Value} (hb:Bi2 X f b) (hf:FB f) (hx:Blt X x f) (ha:LE X ea a) (hc:LE X ec c) (he:starEach [ea,ec] X.env=(false,eval ea X.env) :: starEach [ec] X.env) (he2:starEach [ec] X.env=(false,eval ec X.env) :: starEach [] X.env):LE X (.Call (.Name x p) [ea,ec] [] pos) (.bi b (.cons a (.cons c .nil))):=fun br z I nb=>
 bD hf hx he (by rw [he2];rfl) I (by
  rw [he2]
  exact Calls.spliced_cons ((ha true).go .refl I (ev2 fun l s=>Out.of s (biD b (l.map (look s.st)))) nb fun z1 x u y1 x1 I1 r1 e1=>Calls.spliced_cons ((hc true).go x1 I1 e1 nb fun z2 y v y2 x2 I2 r2 e2=>Calls.spliced_nil (cW x2 I2 e2 nb fun d q=>hb z2 _ _ _ _ d I2 ((r1.rb.st y2 I2).cr I2) (r2.rb.cr I2) q))))
theorem zO (hb:b = .isTup∨b = .isStr∨b = .isBool∨b = .isInt∨b = .isLst∨b = .isDic) (hx:Blt X "isinstance" (.builtin "isinstance")) (ht:Blt X x (.type (tyN b))) (ha:LE X ea a) (he:starEach [ea,.Name x q] X.env=(false,eval ea X.env) :: starEach [.Name x q] X.env):LE X (.Call (.Name "isinstance" p) [ea,.Name x q] [] pos) (.bi b (.cons a .nil)):=fun br z I nb=>
 bD (.inl ⟨_,rfl⟩) hx he rfl I (Calls.spliced_cons ((ha true).go .refl I (ev1 fun l s=>Out.of s (biD b (l.map (look s.st)))) nb fun z1 x u y1 x1 I1 r1 e1=>Calls.spliced_cons (ht.ld I1 (Calls.spliced_nil (cW x1 I1 e1 nb fun d q=>yO hb I1 (r1.rb.cr I1) q)))))
structure dv (K:Fg) (C:Addr):Prop where
 ga:PySem.W.findIn K (.ref C) "__getattribute__" = some (some (.builtin "BaseException.__getattribute__"))
 gn:PySem.W.findIn K (.ref C) "__getattr__" = some none
 cl:PySem.W.findIn K (.ref C) "__class__" = some (some (.builtin "object.__class__"))
 sg:PySem.W.specialIn K (.builtin "object.__class__") "__get__" = some (some (.builtin "getset_descriptor.__get__"))
 tk:PySem.W.takesIn K (.builtin "object.__class__")=some true
 ob:PySem.W.mroIn K C (.type "object")=some true
 be:PySem.W.mroIn K C (.type "BaseException")=some true
 is:(PySem.W.clsIn K C).isSome=true
structure df (X:Cx) (an:Nat→Str) (c:Nat) (k:Cl) (i:CI):Prop where
 ci:X.W.ci[c]? = some i
 cls:k.what≠2→Cls X.K i.ad
 na:∀ f∈i.nm,cP X.K i.ad f
 wh:X.W.what[c]? = some k.what
 nm:i.nm=k.at_.map an
 nd:i.nm.Nodup
 xc:k.what=2→dv X.K i.ad∧PySem.W.hasDictIn X.K i.ad=true
theorem si {names:List Str} {vs:List Value} {f:Str} {v:Value} (hn:names.Nodup) {j:Nat} (h1:names[j]? = some f) (h2:vs[j]? = some v):(names.zip vs).lookup f=some v:=by
 induction names generalizing vs j with
 | nil=>simp at h1
 | cons n r ih=>
   cases vs with
   | nil=>simp at h2
   | cons w vs=>
     show (match f == n with | true=>some w | false=>(r.zip vs).lookup f)=some v
     cases j with
     | zero=>simp at h1 h2;subst h1 h2;simp
     | succ j=>
       have h3:r[j]? = some f:=by simpa using h1
       have ne:f≠n:=fun z=>by subst z;exact (List.nodup_cons.mp hn).1 (List.mem_of_getElem? h3)
       rw [show (f == n)=false by simpa using ne]
       exact ih (List.nodup_cons.mp hn).2 h3 (by simpa using h2)
theorem InO.objm {s:Shared} (h:InO s.heap.get? a dx C l):kN s.heap a dx C fun n=>l.lookup n:=let ⟨e,n,_,o,e2,es,ep,r⟩:=h;⟨e,⟨o,es,ep,e2,r⟩,n⟩
theorem iD:∀ {d v},RD W ρ G d v→PySem.W.handedIn v=true
 | .non,_,h=>by cases (show _=_ from h);rfl
 | .bl _,_,h=>by cases (show _=_ from h);rfl
 | .int _,_,⟨_,h⟩=>h ▸ rfl
 | .str _,_,⟨_,h⟩=>h ▸ rfl
 | .tup _,_,⟨_,_,_,h,_⟩=>h ▸ rfl
 | .lst _,_,⟨_,_,_,h,_⟩=>h ▸ rfl
 | .dic _ _,_,⟨_,_,_,h,_⟩=>h ▸ rfl
 | .ins _ _,_,⟨_,_,_,h,_⟩=>h ▸ rfl
 | .ref _,_,⟨_,_,h⟩=>h ▸ rfl
abbrev cA (X:Cx) (an:Nat→Str):Prop:=∀ (c:Nat) (k:Cl),X.Γ.cl[c]? = some k→∃ i,df X an c k i
theorem jO (T:cA X an) {c f:Nat} {l:List D} {d2:D} (e:((X.Γ.cl[c]?).bind fun k=>l[k.at_.idxOf f]?)=some d2):∃ k i,∃ j:Nat,X.Γ.cl[c]? = some k∧df X an c k i∧l[j]? = some d2∧(l.length≤i.nm.length→i.nm[j]? = some (an f)):=by
 obtain ⟨k,q,e⟩:=Option.bind_eq_some_iff.mp e
 obtain ⟨i,ok⟩:=T c k q
 refine ⟨k,i,k.at_.idxOf f,q,ok,e,fun hl=>?_⟩
 have h1:k.at_.idxOf f<l.length:=(List.getElem?_eq_some_iff.mp e).1
 have h2:k.at_.idxOf f<k.at_.length:=by rw [ok.nm,List.length_map] at hl;omega
 rw [ok.nm,List.getElem?_map,List.getElem?_eq_getElem h2]
 simp
theorem wt (T:cA X an) (I:Rep X z) {n f:Nat} {d:D} {p:Addr×Addr} (ea:z.ρ[n]? = some p) (e:pW X.Γ z.t.st (.ref n) f=some d):∃ C fs v,InO z.h p.1 p.2 C fs∧Cls X.K C∧cP X.K C (an f)∧fs.lookup (an f)=some v∧RD X.W z.ρ z.G d v:=by
 unfold pW at e
 dsimp only at e
 cases q:z.t.st[n]? with
 | none=>rw [q] at e;cases e
 | some o=>
   rw [q] at e
   cases o with
   | ins c l=>
     dsimp only at e
     obtain ⟨k,i',j,e1,ok,e2,e3⟩:=jO T e
     obtain ⟨i,vs,w1,w2,w3,w4,w5⟩:=I.ob n _ p q ea
     have e4:=ok.ci
     rw [w1] at e4;cases e4
     obtain ⟨v,ev,rv⟩:=w5.get e2
     have wz:k.what≠2:=by have:=ok.wh;rw [w2] at this;have e:=Option.some.inj this;omega
     exact ⟨i'.ad,_,v,w4,ok.cls wz,ok.na _ (List.mem_of_getElem? (e3 w3)),si ok.nd (e3 w3) ev,rv⟩
   | _=>cases e
theorem qe {Q:Value→Shared→Prop} {E:Value→Shared→Prop} {A:Around} (I:Rep X z) (h:InO z.h a dx C fs) (c:Cls X.K C) (n:cP X.K C f) (l:fs.lookup f=some v) (r:RD X.W z.ρ z.G d v) (q:Q v { z.s with toks:=z.s.toks+1 }):wpAny X.M A (getAttr (.ref a) f b) Q E z.s:=
 sX I.toHR.kin (InO.objm h) (c.get f) c.hd n l (iD r) q
theorem w7 (T:cA X an) (xr:∀ {z:Z} {a C:Addr} {l:List (Str×Value)} {f:Str} {v:Value} {Q:Value→Shared→Prop} {b:Bool},Rep X z→ExO z.h a C l→l≠[]→dv X.K C→PySem.W.hasDictIn X.K C=true→PySem.W.findIn X.K (.ref C) f=some none→l.lookup f=some v→PySem.W.handedIn v=true→Q v { z.s with toks:=z.s.toks+1 }→wpAny X.M X.A (getAttr (.ref a) f b) Q NoE z.s)
 (ha:LE X ea a) (hb:attributeBase ea (an f) X.env (eval ea X.env)=eval ea X.env):LE X (.Attribute ea (an f) pos) (.fld a f):=fun br z I nb=>
 sC hb ((ha true).go .refl I rfl nb fun z1 x u y1 x1 I1 r1 e1=>cW x1 I1 e1 nb fun d q=>by
  have cr:=r1.rb.cr0 I1
  cases x with
  | ins c l=>
    obtain ⟨a,i,vs,rfl,hc,hl,w,rs⟩:=(cr:RD X.W z1.ρ z1.G (.ins c l) u)
    obtain ⟨k,i',j,e1,ok,e2,e3⟩:=jO T (show ((X.Γ.cl[c]?).bind fun k=>l[k.at_.idxOf f]?)=some d from q)
    have e4:=ok.ci
    rw [hc] at e4;cases e4
    obtain ⟨v,ev,rv⟩:=rs.get e2
    have lk:=si ok.nd (e3 hl) ev
    have mem:an f∈i.nm:=List.mem_of_getElem? (e3 hl)
    rcases w with ⟨w1,dx,ga⟩ | ⟨w2,w⟩
    ·have w3:k.what≠2:=by have:=ok.wh;rw [w1] at this;have e:=Option.some.inj this;omega
     exact qe I1 (ga.sub I1.gh) (ok.cls w3) (ok.na _ mem) lk rv (.old I1 .tok rv)
    ·have w3:k.what=2:=by have:=ok.wh;rw [w2] at this;exact (Option.some.inj this).symm
     exact xr I1 (w.sub I1.gh) (fun z=>by rw [z] at lk;cases lk) (ok.xc w3).1 (ok.xc w3).2 (ok.na _ mem) lk (iD rv) (.old I1 .tok rv)
  | ref n=>
    obtain ⟨p,ep,rfl⟩:=(cr:RD X.W z1.ρ z1.G (.ref n) u)
    obtain ⟨C,fs,v,h1,h2,h3,h4,h5⟩:=wt T I1 ep q
    exact qe I1 h1 h2 h3 h4 h5 (.old I1 .tok h5)
  | _=>cases q)
end
abbrev NoW:Addr→Prop:=fun _=>False
def XC (X:Cx) (z z':Z) (c:Nat) (l:List D) (e:Value):Prop:=∃ a T cls dx,e = .ref a∧XR X.W z' c l cls dx∧Tr z'.s.heap a cls dx T .none∧(z.h a=none∧z'.G a=none∧¬ Mu z'.ρ a)∧z.h T=none∧z'.G T=none∧¬ Mu z'.ρ T
def CRs (X:Cx) (z:Z) (r:Res) (q:Result) (s':Shared):Prop:=match q with
 | .ok (.ret u)=>∃ z' d,z'.s=s'∧r = .ok d z'.t.st∧Stp X.fr NoW z z'∧HR X z'∧RD X.W z'.ρ z'.G d u
 | .error e=>∃ z' c l,z'.s=s'∧r = .exc c l z'.t.st∧Stp X.fr NoW z z'∧HR X z'∧XC X z z' c l e
 | _=>False
structure FnC (X:Cx) (cal:Nat→List D→List O→Res) (lv j:Nat) (f:Addr) (fd:FuncData) (ps:List Str):Prop where
 len:∀ ds st,cal j ds st≠.bad→ds.length=ps.length
 run:∀ (A:Around) (fr:List Env) (z:Z) (args:Args) (us:List Value) (ds:List D),bg lv A→HR { X with A:=A,fr:=fr } z→BindsTo z.s fd args (ps.zip us)→RDs X.W z.ρ z.G ds us→cal j ds z.t.st≠.bad →
  codeAny X.M A (.call (.ref f) args) (CRs { X with A:=A,fr:=fr } z (cal j ds z.t.st)) z.s
def bJ (X:Cx) (cal:Nat→List D→List O→Res) (lv j:Nat) (f:Addr):Prop:=∃ fd ps,FnC X cal lv j f fd ps∧b6 X.K fd ps []∧PySem.W.keepIn X.K (.ref f)=true
mutual
theorem mU {G G':Hp} (k:∀ a o,G a=some o→(∀ l,¬ LsO o l)→G' a=some o):∀ {d:D} {v},noL d=true→RD W ρ G d v→RD W ρ G' d v
 | .non,_,_,e=>e
 | .bl _,_,_,e=>e
 | .int _,_,_,e=>e
 | .str _,_,_,e=>e
 | .ref _,_,_,e=>e
 | .tup _,_,n,⟨a,o,vs,e,t,q,r⟩=>⟨a,o,vs,e,k _ _ t fun l ⟨⟨_,z⟩,_⟩=>by have:=q.1;rw [z] at this;exact ZX this (show Value.type "list"≠.type "tuple" by decide),q,cD k n r⟩
 | .dic _ _,_,n,⟨a,o,vs,e,m,t,q,l,r⟩=>⟨a,o,vs,e,m,k _ _ t fun l ⟨⟨_,z⟩,_⟩=>by obtain ⟨_,_,x,_⟩:=q;have:=x.1;rw [z] at this;exact ZX this (show Value.type "list"≠.type "dict" by decide),q,l,cD k n r⟩
 | .ins _ _,_,n,⟨a,i,vs,e,hc,l,t,r⟩=>⟨a,i,vs,e,hc,l,t.elim (fun ⟨w,dx,q1,q2,q3,o,q4,q5⟩=>.inl ⟨w,dx,k _ _ q1 (fun l ⟨⟨_,z⟩,_⟩=>by injection z with z;cases z),q2,q3,o,k _ _ q4 (rD q5),q5⟩) (fun ⟨w,o,vs,q1,q2,q3,q4⟩=>.inr ⟨w,o,vs,k _ _ q1 (fun l ⟨⟨_,z⟩,_⟩=>by rw [z] at q3;cases q3),q2,q3,q4.elim .inl fun ⟨d,od,p1,p2,p3⟩=>.inr ⟨d,od,p1,k _ _ p2 (rD p3),p3⟩⟩),cD k n r⟩
 | .lst _,_,n,_=>by cases n
theorem cD {G G':Hp} (k:∀ a o,G a=some o→(∀ l,¬ LsO o l)→G' a=some o):∀ {ds:List D} {vs},eH ds=true→RDs W ρ G ds vs→RDs W ρ G' ds vs
 | [],_,_,e=>e
 | _ :: _,_,n,⟨v,r,e,t,q⟩=>by
   have n:(noL _ && eH _)=true:=n
   rw [Bool.and_eq_true] at n
   exact ⟨v,r,e,mU k n.1 t,cD k n.2 q⟩
theorem rD (h:NsO o m):∀ l,¬ LsO o l:=fun l ⟨⟨_,z⟩,_⟩=>by obtain ⟨_,_,q,_⟩:=h;rw [z] at q;cases q
end
section
variable {X:Cx} {z z':Z} {br:Bool}
theorem Stp.slots (S:Stp fr NoW z z') (n:¬ Mu z.ρ a) (e:z.h a=some o):∃ sl,z'.h a=some { o with slots:=sl }:=by
 by_cases f:a∈frs fr
 ·exact S.sl a o e n id f
 ·exact ⟨o.slots,S.sm a o e n id f⟩
open Classical in
theorem Rep.back (I:Rep X z) (p q:Nat→Bool) (S:Stp X.fr NoW (z.rel p) z') (H:HR X z') (pq:∀ i,p i=true→q i=true) (hq:∀ i∈z.t.ow,q i=true→p i=true∨(isLst z.t.env[i]? = true∧z'.t.st.all gV=true)) :
 ∃ zf,zf.s=z'.s∧zf.t=⟨z.t.env,z.t.ow.filter q,z'.t.st⟩∧zf.ρ=z'.ρ∧Rep X zf∧Ee X z zf∧(∀ a,z.h a=none→zf.G a=z'.G a)∧(∀ a o,z'.G a=some o→(∀ l,¬ LsO o l)→zf.G a=some o)∧((∀ i∈z.t.ow,q i=true→p i=true)→Sub z'.G zf.G):=by
 obtain ⟨Ir,xr⟩:=I.rel p
 let Rm:Addr→Prop:=fun a=>∃ i∈z.t.ow,q i=true∧z.σ[i]? = some (some (.ref a))
 have own:∀ {a},Rm a→Own z a:=fun ⟨i,m,_,e⟩=>⟨i,m,e⟩
 let G2:Hp:=fun a=>if Rm a then none else z'.G a
 have yes:∀ {a},Rm a→G2 a=none:=fun h=>ZZ h
 have no:∀ {a},¬ Rm a→G2 a=z'.G a:=fun h=>ZY h
 have g2s:Sub G2 z'.G:=fun a o e=>by
  by_cases c:Rm a
  ·rw [yes c] at e;cases e
  ·rw [no c] at e;exact e
 have gz:Sub z.G G2:=fun a o e=>by
  by_cases c:Rm a
  ·rw [(I.oth (own c)).1.1] at e;cases e
  ·rw [no c];exact S.gg _ _ (xr.st.gg _ _ e)
 have bR:∀ {i:Nat} {a:Addr},i∈z.t.ow→p i=true→z.σ[i]? = some (some (.ref a))→z'.G a=none:=fun {i a} m pi es=>by
  obtain ⟨f,o',e'⟩:=I.oth ⟨i,m,es⟩
  have n:(z.rel p).G a=none:=(cY fun ⟨j,mj,pj,ej⟩=>by rw [I.od j i a mj m ej es,pi] at pj;cases pj).trans f.1
  cases w:z'.G a with
  | none=>rfl
  | some o=>
    rcases S.gn a o w with w | w | w
    ·rw [n] at w;cases w
    ·rw [show (z.rel p).h a=z.h a from rfl,e'] at w;cases w
    ·exact w.elim
 have gp:∀ {a o},Rm a→z'.G a=some o→(∃ l,LsO o l)∧z'.t.st.all gV=true∧¬ ∀ i∈z.t.ow,q i=true→p i=true:=fun {a o} ⟨i,m,qi,es⟩ e=>by
  by_cases pi:p i=true
  ·rw [bR m pi es] at e;cases e
  ·obtain ⟨li,al⟩:=(hq i m qi).resolve_left pi
   obtain ⟨d,b,ob,h1,h2,h3,r,f⟩:=I.eo i m
   rw [es] at h2;cases h2
   refine ⟨?_,al,fun w=>pi (w i m qi)⟩
   rw [h1] at li
   cases d with
   | lst ds=>
     cases h3
     obtain ⟨oo,vs,_,e1,l1,_⟩:=r
     have:=S.gg a oo ((fy ⟨i,m,by simpa using pi,es⟩).trans e1)
     rw [e] at this;cases this
     exact ⟨vs,l1⟩
   | _=>cases li
 have kp:∀ a o,z'.G a=some o→(∀ l,¬ LsO o l)→G2 a=some o:=fun a o e n=>by
  by_cases c:Rm a
  ·obtain ⟨⟨l,h⟩,_⟩:=gp c e;exact ZX h (n l)
  ·rw [no c];exact e
 have kq:(∀ i∈z.t.ow,q i=true→p i=true)→Sub z'.G G2:=fun w a o e=>by
  by_cases c:Rm a
  ·exact ZX w (gp c e).2.2
  ·rw [no c];exact e
 have nn:∀ {a},z'.G a=none→G2 a=none:=fun {a} e=>by
  by_cases c:Rm a
  ·exact yes c
  ·rw [no c];exact e
 have rh:∀ {a},(z.rel p).h a=z.h a:=rfl
 have same:∀ a,¬ Mu z.ρ a→∀ o,z.h a=some o→∃ sl,z'.h a=some { o with slots:=sl }:=fun a n o e=>S.slots n e
 have nmu:∀ {a o},z.h a=some o→¬ Mu z.ρ a→¬ Mu z'.ρ a:=fun {a o} e n m=>(S.rn a m).elim n fun w=>by rw [rh,e] at w;cases w
 have nG:∀ {a o},z.h a=some o→(z.rel p).G a=none→z'.G a=none:=fun {a o} e n=>by
  cases w:z'.G a with
  | none=>rfl
  | some o'=>
    rcases S.gn a o' w with w | w | w
    ·rw [n] at w;cases w
    ·rw [rh,e] at w;cases w
    ·exact w.elim
 have ob2:∀ (n:Nat) (o:O) (pp:Addr×Addr),z'.t.st[n]? = some o→z'.ρ[n]? = some pp→ObR X.W z'.ρ G2 z'.h pp o:=fun n o pp h1 h2=>by
  by_cases w:∀ i∈z.t.ow,q i=true→p i=true
  ·exact (H.ob n o pp h1 h2).mono (List.prefix_refl _) (kq w) fun _ _ _ e=>e
  ·by_cases al:z'.t.st.all gV=true
   ·have nl:=List.all_eq_true.mp al o (List.mem_of_getElem? h1)
    cases o with
    | lst l=>cases nl
    | dic ks l=>obtain ⟨o,vs,a1,a2,a3,a4,a5,a6⟩:=H.ob n _ pp h1 h2;exact ⟨o,vs,a1,a2,a3,a4,a5,cD kp nl a6⟩
    | ins c l=>obtain ⟨i,vs,a1,a2,a3,a4,a5⟩:=H.ob n _ pp h1 h2;exact ⟨i,vs,a1,a2,a3,a4,cD kp nl a5⟩
   ·exact ZX (fun i m qi=>(hq i m qi).resolve_right fun v=>al v.2) w
 refine ⟨⟨z'.ρ,G2,⟨z.t.env,z.t.ow.filter q,z'.t.st⟩,z.σ,z'.s⟩,rfl,rfl,rfl,⟨⟨H.md,H.fm,H.hd,fun b o e=>gz _ _ (I.bs b o e),g2s.trans H.gh,H.rl,H.rn,fun a m=>nn (H.rg a m),ob2,H.fu,fun b m=>⟨nn (H.ff b m).1,(H.ff b m).2⟩,H.br,H.os⟩,I.ok,?_,fun x c e=>?_,fun a l=>?_,I.el,I.sl,fun i d n e=>?_,fun i m=>?_,fun i j a m1 m2=>I.od i j a (List.mem_filter.mp m1).1 (List.mem_filter.mp m2).1⟩,⟨⟨S.pr,gz,fun a o e=>?_,S.rn,S.th,fun a o e n w f=>S.sm a o e n id f,fun a o e n w f=>S.sl a o e n id f⟩,rfl,rfl,fun i m=>(List.mem_filter.mp m).1⟩,fun a e=>?_,kp,kq⟩
 ·obtain ⟨m,hn,hl⟩:=I.lo
  have cl:∀ c v,(∃ x,X.env.cells.lookup x=some c)→z.s.heap.IsCell c v→z'.s.heap.IsCell c v:=fun c v ⟨x,ex⟩ ⟨o,e,d⟩=>let ⟨_,w⟩:=same c (I.fl c (.inr ⟨x,ex⟩)).2 o e;⟨_,w,d⟩
  obtain ⟨oL,es,ep,eL,r⟩:=hn
  obtain ⟨sl,w⟩:=same _ (I.fl _ (.inl rfl)).2 oL eL
  exact ⟨m,⟨_,es,ep,w,r⟩,fun i x u h1 h2 h3=>cV (fun c v e q=>cl c v ⟨x,e⟩ q) (hl i x u h1 h2 h3)⟩
 ·obtain ⟨v,o,e1,d⟩:=I.ce x c e
  obtain ⟨sl,w⟩:=same c (I.fl c (.inr ⟨x,e⟩)).2 o e1
  exact ⟨v,_,w,d⟩
 ·obtain ⟨o,e⟩:=I.lth l
  exact ⟨nn (nG e (Ir.fl a l).1),nmu e (I.fl a l).2⟩
 ·by_cases m:i∈z.t.ow
  ·obtain ⟨d',a,o,h1,h2,h3,r,f⟩:=I.eo i m
   rw [show z.t.env[i]? = some (some d) from e] at h1;cases h1
   have qf:¬ q i=true:=fun w=>n (List.mem_filter.mpr ⟨m,w⟩)
   have pf:p i=false:=by cases w:p i with
    | false=>rfl
    | true=>exact ZX (pq i w) qf
   obtain ⟨oa,ea⟩:=r.th.1
   refine ⟨_,h2,jm h3 (r.mono (h':=z.h) S.pr (Sub.refl _) fun _ _ _ e=>e) gz ?_⟩
   have nr:¬ Rm a:=fun ⟨j,mj,qj,ej⟩=>by rw [I.od j i a mj m ej h2] at qj;exact qf qj
   exact (no nr).trans ((S.gg a oa ((fy ⟨i,m,pf,h2⟩).trans ea)).trans ea.symm)
  ·obtain ⟨u,w,r⟩:=I.en i d m e
   exact ⟨u,w,r.mono S.pr gz⟩
 ·obtain ⟨m1,m2⟩:=List.mem_filter.mp m
  obtain ⟨d',a,o,h1,h2,h3,r,f⟩:=I.eo i m1
  obtain ⟨oa,ea⟩:=r.th.1
  refine ⟨d',a,o,h1,h2,h3,r.mono S.pr gz fun b hb o e=>?_,yes ⟨i,m1,m2,h2⟩,nmu ea f.2.1,f.2.2⟩
  have hb:b=a:=hb.elim id id
  subst hb
  exact S.sm b o e f.2.1 id f.2.2.1
 ·rcases S.gn a o (g2s a o e) with w | w | w
  ·by_cases c:jE z p a
   ·obtain ⟨i,m,_,e⟩:=c;exact .inr (.inr ⟨i,m,e⟩)
   ·rw [cY c] at w;exact .inl w
  ·exact .inr (.inl w)
  ·exact w.elim
 ·exact no fun c=>by obtain ⟨o,w⟩:=(I.oth (own c)).2;rw [e] at w;cases w
theorem sK {a r:E} (m:i∈bI r):i∈bI (.cons a r):=by cases a <;> first | exact List.mem_cons_of_mem _ m | exact m
theorem ju (I:Rep X (z.rel p)) (gg:Sub z.G (z.rel p).G) (k:∀ i∈bI c,p i=false) {c' ds us} (hs:∀ i∈bI c',i∈bI c) (h:RVs X.W true c' z ds us):RDs X.W z.ρ (z.rel p).G ds us:=
 RVs.ind (P:=fun c' ds us=>(∀ i∈bI c',i∈bI c)→RDs X.W z.ρ (z.rel p).G ds us) (fun _=>rfl) (fun a r d ds u us h _ ih hs=>by
  refine .cons ?_ (ih fun i m=>hs i (sK m))
  rcases h with h | ⟨_,i,rfl,m,e1,e2⟩
  ·exact h.mono (List.prefix_refl _) gg
  ·obtain ⟨u',q,r⟩:=I.en i d (fun w=>by have:=(List.mem_filter.mp w).2;rw [k i (hs i List.mem_cons_self)] at this;cases this) e2
   rw [show z.σ[i]? = some (some u') from q] at e1;cases e1;exact r) c' ds us h hs
theorem gv {o:Out D} (F:bJ X X.cal lv j f) (hr:bg lv X.A) (x:Ee X z0 z) (I:Rep X z) (rd:RDs X.W z.ρ (z.rel fun i=>!(bI es).contains i).G ds us) (e:o=gG X.cal es j ds z.t) (nb:o≠.bad):wpAny X.M X.A (call (.ref f) us) (Pe X z0 o (RV X.W br c)) (Px X z0 o) z.s:=by
 obtain ⟨Ir,xr⟩:=I.rel fun i=>!(bI es).contains i
 obtain ⟨fd,ps,F,hb,kp⟩:=F
 subst e
 have nbc:X.cal j ds z.t.st≠.bad:=fun q=>nb (by unfold gG;rw [q])
 have hl:us.length=ps.length:=rd.len ▸ F.len _ _ nbc
 have bd:=hb z.s us I.toHR.kin (by rw [List.append_nil];exact hl)
 rw [List.append_nil] at bd
 refine wpAny_call (codeAny_mono (F.run X.A X.fr (z.rel fun i=>!(bI es).contains i) ⟨us,[]⟩ us ds hr Ir.toHR bd rd nbc) fun q s' hq=>?_)
 cases q with
 | error e=>
   obtain ⟨z',c,l,rfl,er,S,H,a,T,cls,dx,rfl,xr',tr,⟨na,ga,ma⟩,nT,gT,mT⟩:=hq
   obtain ⟨zf,e1,e2,e3,If,xf,k1,k2,k3⟩:=I.back (fun i=>!(bI es).contains i) _ S H (fun _ h=>h) fun _ _ h=>.inl h
   have nob:∀ {b:Addr},z.h b=none→z'.G b=none→¬ Mu z'.ρ b→Nob X z zf b:=fun {b} n g m=>by
    have ⟨f,no⟩:=I.fre n
    exact ⟨n,⟨(k1 b n).trans g,e3 ▸ m,f.2.2⟩,fun w=>no (xf.own w)⟩
   refine Px.less x ⟨zf,c,l,e1,by unfold gG;rw [show X.cal j ds z.t.st=_ from er,e2];rfl,xf,If,a,cls,dx,rfl,?_,nob na ga ma,.inr ⟨T,.none,e1 ▸ tr,.inl rfl,nob nT gT mT⟩⟩
   obtain ⟨i,a1,a2,a3,a4,a5⟩:=xr'
   refine ⟨i,a1,a2,a3,a4,a5.imp_right fun ⟨d,od,vs,b1,b2,b3,b4⟩=>⟨d,od,vs,b1,k2 _ _ b2 (rD b3),b3,?_⟩⟩
   rw [e3];exact b4.mono (List.prefix_refl _) (k3 fun _ _ h=>h)
 | ok fl=>
   cases fl with
   | ret u=>
     obtain ⟨z',d,rfl,er,S,H,r⟩:=hq
     obtain ⟨zf,e1,e2,e3,If,xf,k1,k2,k3⟩:=I.back (fun i=>!(bI es).contains i) (fun i=>!(bI es).contains i || (isLst z.t.env[i]? && (noL d && z'.t.st.all gV))) S H (fun i h=>by rw [h];rfl) fun i _ h=>by
      cases w:(!(bI es).contains i) with
      | true=>exact .inl rfl
      | false=>rw [w,Bool.false_or,Bool.and_eq_true,Bool.and_eq_true] at h;exact .inr ⟨h.1,h.2.2⟩
     refine Pe.less x ⟨zf,d,e1,by unfold gG;rw [show X.cal j ds z.t.st=_ from er,e2];rfl,xf,If,.of ?_⟩
     rw [e3]
     cases w:noL d with
     | true=>exact mU k2 w r
     | false=>exact r.mono (List.prefix_refl _) (k3 fun i _ h=>by rw [w,Bool.false_and,Bool.and_false,Bool.or_false] at h;exact h)
   | next=>exact hq.elim
   | brk=>exact hq.elim
   | cont=>exact hq.elim
theorem fL {es:E}:∀ i∈bI es,(!(bI es).contains i)=false:=fun i m=>by simpa using m
theorem tI {x:Str} (F:bJ X X.cal lv j f) (hr:bg lv X.A) (hg:Gl X x) (hm:X.mg x=some (.ref f)) (ha:LA X (ea :: er) es) (hd:(x == ("__debug__":Str))=false) (he:starEach (ea :: er) X.env=(false,eval ea X.env) :: starEach er X.env) (hpl:(backTo pos (starEach er X.env)).any (·.1)=false):LE X (.Call (.Name x p) (ea :: er) [] pos) (.call j es):=fun br z I nb=>
 wpAny_Call_Name_kw (bt I hg hm (PySem.W.callWith_K (h₀:=X.base) I.md.kin (let ⟨_,_,_,_,k⟩:=F;k) ((ha true pos).go .refl I rfl nb fun z1 l us y1 x1 I1 r1 e1=>⟨I1.toHR.kin,gv F hr x1 I1 (ju (I1.rel _).1 (I1.rel _).2.st.gg fL (fun _ h=>h) r1) e1 nb⟩) he hpl) hd)
end
mutual
theorem lK:∀ {d:D} {v},noR d=true→RD W ρ G d v→RD W ρ' G d v
 | .non,_,_,e=>e
 | .bl _,_,_,e=>e
 | .int _,_,_,e=>e
 | .str _,_,_,e=>e
 | .ref _,_,n,_=>by cases n
 | .tup _,_,n,⟨a,o,vs,e,t,q,r⟩=>⟨a,o,vs,e,t,q,bb n r⟩
 | .lst _,_,n,⟨a,o,vs,e,t,q,r⟩=>⟨a,o,vs,e,t,q,bb n r⟩
 | .dic _ _,_,n,⟨a,o,vs,e,m,t,q,l,r⟩=>⟨a,o,vs,e,m,t,q,l,bb n r⟩
 | .ins _ _,_,n,⟨a,i,vs,e,hc,l,t,r⟩=>⟨a,i,vs,e,hc,l,t,bb n r⟩
theorem bb:∀ {ds:List D} {vs},aG ds=true→RDs W ρ G ds vs→RDs W ρ' G ds vs
 | [],_,_,e=>e
 | _ :: _,_,n,⟨v,r,e,t,q⟩=>by
   have n:(noR _ && aG _)=true:=n
   rw [Bool.and_eq_true] at n
   exact ⟨v,r,e,lK n.1 t,bb n.2 q⟩
end
theorem gx (k:Nat):∀ l:List D,(gX k l).length=l.length
 | []=>rfl
 | _ :: r=>ZS (· + 1) (gx k r)
section
variable {X:Cx} {z z' z0:Z} {br:Bool}
abbrev Z.bare (z:Z):Z:={ z with ρ:=[],t:=⟨z.t.env,z.t.ow,[]⟩ }
theorem dX:¬ Mu [] a:=fun ⟨_,h,_⟩=>nomatch h
theorem HR.bare (I:HR X z):HR X z.bare:=⟨I.md,I.fm,I.hd,I.bs,I.gh,rfl,fun _ _ _ _ _ h=>by simp at h,fun _ m=>(dX m).elim,fun _ _ _ h=>by simp at h,I.fu,fun b m=>⟨(I.ff b m).1,dX⟩,I.br,I.os⟩
theorem Rep.hout (I:Rep X z) (S:Stp X.fr NoW z.bare z') (H:HR X z'):Rep X { z with G:=z'.G,s:=z'.s }∧Ee X z { z with G:=z'.G,s:=z'.s }:=by
 have gn:∀ a o,z'.G a=some o→z.G a=some o∨z.h a=none:=fun a o e=>(S.gn a o e).imp_right fun w=>w.elim id False.elim
 exact ⟨I.grw (H.os.trans I.os.symm) H.br (fun b o e f=>S.sm b o e dX id f) (fun b o e=>S.slots dX e) S.gg H.gh fun a o e=>(gn a o e).imp_right I.fre,⟨List.prefix_refl _,S.gg,fun a o e=>(gn a o e).imp_right .inl,fun _ m=>.inl m,S.th,fun a o e _ _ f=>S.sm a o e dX id f,fun a o e _ _ f=>S.sl a o e dX id f⟩,rfl,rfl,fun _ h=>h⟩
mutual
theorem RD.sh:∀ {d:D} {v},RD W ρ' G d v→RD W (ρ ++ ρ') G (shD ρ.length d) v
 | .non,_,e=>e
 | .bl _,_,e=>e
 | .int _,_,e=>e
 | .str _,_,e=>e
 | .ref n,_,⟨p,e,q⟩=>⟨p,by rw [List.getElem?_append_right (Nat.le_add_right ..),Nat.add_sub_cancel_left];exact e,q⟩
 | .tup _,_,⟨a,o,vs,e,t,q,r⟩=>⟨a,o,vs,e,t,q,r.sh⟩
 | .lst _,_,⟨a,o,vs,e,t,q,r⟩=>⟨a,o,vs,e,t,q,r.sh⟩
 | .dic _ _,_,⟨a,o,vs,e,m,t,q,l,r⟩=>⟨a,o,vs,e,m,t,q,l.trans (gx _ _).symm,r.sh⟩
 | .ins _ _,_,⟨a,i,vs,e,hc,l,t,r⟩=>⟨a,i,vs,e,hc,by rw [gx];exact l,t,r.sh⟩
theorem RDs.sh:∀ {ds:List D} {vs},RDs W ρ' G ds vs→RDs W (ρ ++ ρ') G (gX ρ.length ds) vs
 | [],_,e=>e
 | _ :: _,_,⟨v,r,e,t,q⟩=>⟨v,r,e,t.sh,q.sh⟩
end
theorem ObR.sh:∀ {o:O},ObR W ρ' G h p o→ObR W (ρ ++ ρ') G h p (shO ρ.length o)
 | .lst _,⟨o,vs,z,e,q,r⟩=>⟨o,vs,z,e,q,r.sh⟩
 | .dic _ _,⟨o,vs,z,m,e,q,l,r⟩=>⟨o,vs,z,m,e,q,l.trans (gx _ _).symm,r.sh⟩
 | .ins _ _,⟨i,vs,c,w,l,e,r⟩=>⟨i,vs,c,w,by rw [gx];exact l,e,r.sh⟩
theorem dW:Mu (ρ ++ ρ') a↔Mu ρ a∨Mu ρ' a:=⟨fun ⟨p,h,e⟩=>(List.mem_append.mp h).imp (fun h=>⟨p,h,e⟩) fun h=>⟨p,h,e⟩,fun h=>h.elim (fun ⟨p,h,e⟩=>⟨p,List.mem_append_left _ h,e⟩) fun ⟨p,h,e⟩=>⟨p,List.mem_append_right _ h,e⟩⟩
theorem Rep.more {os:List O} {ρ':Rs} (I:Rep X z) (hl:ρ'.length=os.length) (nw:∀ a,Mu ρ' a→Fre X z a∧¬ Own z a) (rn:∀ (i j:Nat) (p q:Addr×Addr) (a:Addr),ρ'[i]? = some p→ρ'[j]? = some q→(a=p.1∨a=p.2)→(a=q.1∨a=q.2)→i=j)
 (ob:∀ (n:Nat) (o:O) (p:Addr×Addr),os[n]? = some o→ρ'[n]? = some p→ObR X.W (z.ρ ++ ρ') z.G z.h p o):Rep X { z with ρ:=z.ρ ++ ρ',t:=⟨z.t.env,z.t.ow,z.t.st ++ os⟩ }:=by
 have rl:=I.rl
 have pre:z.ρ <+: z.ρ ++ ρ':=List.prefix_append _ _
 have at_:∀ {i:Nat} {p:Addr×Addr},(z.ρ ++ ρ')[i]? = some p→(i<z.ρ.length∧z.ρ[i]? = some p)∨(z.ρ.length≤i∧ρ'[i - z.ρ.length]? = some p):=fun {i p} h=>by
  by_cases c:i<z.ρ.length
  ·rw [List.getElem?_append_left c] at h;exact .inl ⟨c,h⟩
  ·rw [List.getElem?_append_right (by omega)] at h;exact .inr ⟨by omega,h⟩
 have mem:∀ {i:Nat} {p:Addr×Addr} {l:Rs} {a:Addr},l[i]? = some p→(a=p.1∨a=p.2)→Mu l a:=fun h e=>⟨_,List.mem_of_getElem? h,e⟩
 refine ⟨⟨I.md,I.fm,I.hd,I.bs,I.gh,by show (z.ρ ++ ρ').length=(z.t.st ++ os).length;simp only [List.length_append];omega,fun i j p q a h1 h2 h3 h4=>?_,fun a m=>(dW.mp m).elim (I.rg a) fun m=>(nw a m).1.1,fun n o p h1 h2=>?_,I.fu,fun b m=>⟨(I.ff b m).1,fun h=>(dW.mp h).elim (I.ff b m).2 fun h=>(nw b h).1.2.2.1 m⟩,I.br,I.os⟩,I.ok,I.lo,I.ce,fun a l=>⟨(I.fl a l).1,fun h=>(dW.mp h).elim (I.fl a l).2 fun h=>(nw a h).1.2.2.2 l⟩,I.el,I.sl,fun i d n e=>let ⟨u,q,r⟩:=I.en i d n e;⟨u,q,r.mono pre (.refl _)⟩,fun i m=>?_,I.od⟩
 ·rcases at_ h1 with ⟨c1,w1⟩ | ⟨c1,w1⟩ <;> rcases at_ h2 with ⟨c2,w2⟩ | ⟨c2,w2⟩
  ·exact I.rn i j p q a w1 w2 h3 h4
  ·exact ZX (mem w1 h3) (nw a (mem w2 h4)).1.2.1
  ·exact ZX (mem w2 h4) (nw a (mem w1 h3)).1.2.1
  ·have:=rn _ _ p q a w1 w2 h3 h4;omega
 ·have h1:(z.t.st ++ os)[n]? = some o:=h1
  rcases at_ h2 with ⟨c1,w1⟩ | ⟨c1,w1⟩
  ·rw [List.getElem?_append_left (by omega)] at h1
   exact (I.ob n o p h1 w1).mono pre (.refl _) fun _ _ _ e=>e
  ·rw [List.getElem?_append_right (by omega),← rl] at h1
   exact ob _ o p h1 w1
 ·obtain ⟨d,a,o,h1,h2,h3,r,f⟩:=I.eo i m
  exact ⟨d,a,o,h1,h2,h3,r.mono pre (.refl _) fun _ _ _ e=>e,f.1,fun h=>(dW.mp h).elim f.2.1 fun h=>(nw a h).2 ⟨i,m,h2⟩,f.2.2⟩
theorem qL {x:Str} (F:bJ X X.cal lv j f) (hr:bg lv X.A) (hg:Gl X x) (hm:X.mg x=some (.ref f)) (ha:LA X (ea :: er) es) (hd:(x == ("__debug__":Str))=false) (he:starEach (ea :: er) X.env=(false,eval ea X.env) :: starEach er X.env) (hpl:(backTo pos (starEach er X.env)).any (·.1)=false):LE X (.Call (.Name x p) (ea :: er) [] pos) (.hcall j es):=fun br z I nb=>
 wpAny_Call_Name_kw (bt I hg hm (PySem.W.callWith_K (h₀:=X.base) I.md.kin (let ⟨_,_,_,_,k⟩:=F;k) ((ha false pos).go .refl I rfl nb fun z1 l us y1 x1 I1 r1 e1=>⟨I1.toHR.kin,by
  obtain ⟨fd,ps,F,hb,kp⟩:=F
  unfold sZ at e1
  by_cases nr:aG l=true
  ·rw [ZZ nr] at e1
   have nbc:X.cal j l []≠.bad:=fun q=>by rw [q] at e1;exact nb e1
   have rd:RDs X.W z1.bare.ρ z1.bare.G l us:=bb nr r1.rds
   have hl:us.length=ps.length:=rd.len ▸ F.len _ _ nbc
   have bd:=hb z1.s us I1.toHR.kin (by rw [List.append_nil];exact hl)
   rw [List.append_nil] at bd
   refine wpAny_call (codeAny_mono (F.run X.A X.fr z1.bare ⟨us,[]⟩ us l hr I1.toHR.bare bd rd nbc) fun q s' hq=>?_)
   cases q with
   | error e=>
     obtain ⟨z',c,l',rfl,er,S,H,a,T,cls,dx,rfl,xr',tr,⟨na,ga,ma⟩,nT,gT,mT⟩:=hq
     rw [show X.cal j l []=_ from er] at e1
     obtain ⟨If,xf⟩:=I1.hout S H
     by_cases n2:aG l'=true
     ·have e1:=e1.trans (ZZ n2)
      have nob:∀ {b:Addr},z1.h b=none→z'.G b=none→Nob X z1 { z1 with G:=z'.G,s:=z'.s } b:=fun {b} n g=>by
       have ⟨f,no⟩:=I1.fre n
       exact ⟨n,⟨g,f.2⟩,no⟩
      refine Px.less x1 ⟨{ z1 with G:=z'.G,s:=z'.s },c,l',rfl,e1,xf,If,a,cls,dx,rfl,?_,nob na ga,.inr ⟨T,.none,tr,.inl rfl,nob nT gT⟩⟩
      obtain ⟨i,a1,a2,a3,a4,a5⟩:=xr'
      exact ⟨i,a1,a2,a3,a4,a5.imp_right fun ⟨d,od,vs,b1,b2,b3,b4⟩=>⟨d,od,vs,b1,b2,b3,bb n2 b4⟩⟩
     ·exact ZX (e1.trans (ZY n2)) nb
   | ok fl=>
     cases fl with
     | ret u=>
       obtain ⟨z',d,rfl,er,S,H,r⟩:=hq
       rw [show X.cal j l []=_ from er] at e1
       obtain ⟨If,xf⟩:=I1.hout S H
       by_cases n2:noR d=true
       ·have e1:=e1.trans (show (if noR d=true then Out.ok d z1.t else _)=_ from ZZ n2)
        exact Pe.less x1 ⟨{ z1 with G:=z'.G,s:=z'.s },d,rfl,e1,xf,If,.of (lK n2 r)⟩
       ·have e1:=e1.trans (show (if noR d=true then Out.ok d z1.t else _)=_ from ZY n2)
        have new:∀ a,Mu z'.ρ a→z1.h a=none:=fun a m=>(S.rn a m).elim (fun m=>(dX m).elim) id
        have I2:=If.more (ρ':=z'.ρ) (os:=z'.t.st.map (shO z1.t.st.length)) (by rw [List.length_map];exact H.rl) (fun a m=>let ⟨f,no⟩:=I1.fre (new a m);⟨⟨H.rg a m,f.2⟩,no⟩) H.rn (fun n o p h1 h2=>by
         rw [List.getElem?_map,Option.map_eq_some_iff] at h1
         obtain ⟨o',h1,rfl⟩:=h1
         rw [← I1.rl];exact (H.ob n o' p h1 h2).sh)
        refine Pe.less x1 ⟨{ z1 with ρ:=z1.ρ ++ z'.ρ,G:=z'.G,t:=⟨z1.t.env,z1.t.ow,z1.t.st ++ z'.t.st.map (shO z1.t.st.length)⟩,s:=z'.s },shD z1.t.st.length d,rfl,e1,⟨⟨List.prefix_append _ _,xf.st.gg,xf.st.gn,fun a m=>(dW.mp m).imp_right (new a),xf.st.th,xf.st.sm,xf.st.sl⟩,rfl,rfl,fun _ h=>h⟩,I2,.of ?_⟩
        rw [← I1.rl];exact r.sh
     | next=>exact hq.elim
     | brk=>exact hq.elim
     | cont=>exact hq.elim
  ·rw [ZY nr] at e1;exact ZX e1 nb⟩) he hpl) hd)
structure nI (X:Cx) (an:Nat→Str) (m:Str) (c:Nat) (f:Addr):Prop where
 ex:∃ i k,X.Γ.cl[c]? = some k∧df X an c k i∧k.what=0∧yK X.K i.ad m f∧m ∉ i.nm
theorem sr {l:List Str} {vs:List Value} (h:m ∉ l):(l.zip vs).lookup m=none:=by
 induction l generalizing vs with
 | nil=>rfl
 | cons n r ih=>
   cases vs with
   | nil=>rfl
   | cons w vs=>
     show (match m == n with | true=>some w | false=>(r.zip vs).lookup m)=none
     rw [show (m == n)=false from ZU.mpr fun z=>h (by rw [z];exact List.mem_cons_self)]
     exact ih fun z=>h (List.mem_cons_of_mem _ z)
theorem mI {n:Nat} {l:List D} {p:Addr×Addr} {Q:Value×List Value→Shared→Prop} {E:Value→Shared→Prop} {pl:Sem Bool} (M:nI X an m c f) (I:Rep X z) (e:z.t.st[n]? = some (.ins c l)) (ep:z.ρ[n]? = some p) (q:Q (.ref f,[.ref p.1]) z.s):wpAny X.M X.A (getMethod (.ref p.1) m pl) Q E z.s:=by
 obtain ⟨i,k,hc,ok,w,hm,nm⟩:=M.ex
 obtain ⟨i',vs,w1,w2,w3,w4,w5⟩:=I.ob n _ p e ep
 have e4:=ok.ci
 rw [w1] at e4;cases e4
 exact qg I.toHR.kin (InO.objm w4) ((ok.cls (by omega)).get m) hm.at_ hm.fn (sr nm) q
theorem mJ {o:Out D} {f:List D→Sta→Out D} {x:D} (e:o=(match x with
 | .ref p=>(match z.t.st[p]? with
   | some (.ins c' _)=>if c'=c then (X.evs true es z.t).bind fun l s=>gG X.cal es j (x :: l) s else .bad
   | _=>.bad)
 | _=>.bad)) (nb:o≠.bad):∃ n l,x = .ref n∧z.t.st[n]? = some (.ins c l)∧o=(X.evs true es z.t).bind fun l s=>gG X.cal es j (.ref n :: l) s:=by
 cases x with
 | ref n=>
   dsimp only at e
   cases q:z.t.st[n]? with
   | none=>rw [q] at e;exact ZX e nb
   | some ob=>
     rw [q] at e
     cases ob with
     | ins c' l=>
       dsimp only at e
       by_cases h:c'=c
       ·subst h;rw [ZZ rfl] at e;exact ⟨n,l,rfl,q,e⟩
       ·rw [ZY h] at e;exact ZX e nb
     | _=>exact ZX e nb
 | _=>exact ZX e nb
theorem xb (F:bJ X X.cal lv j f) (hr:bg lv X.A) (M:nI X an m c f) (ho:LE X eo a) (ha:LA X (ea :: er) es) (he:starEach (ea :: er) X.env=(false,eval ea X.env) :: starEach er X.env) (hpl:(backTo pos (starEach er X.env)).any (·.1)=false)
 (ht:eval (.Call (.Attribute eo m apos) (ea :: er) [] pos) X.env=(do
  let ov ← eval eo X.env
  standAt apos.atName
  let (f,first) ← holding [ov] (getMethod ov m pl)
  callWith pos f first (backTo pos (starEach (ea :: er) X.env)) (backToKw pos (keywordEach [] X.env)))):LE X (.Call (.Attribute eo m apos) (ea :: er) [] pos) (.mth c j a es):=fun br z I nb=>
 PySem.W.methodCall_KW (pl:=pl) ((ho true).go .refl I rfl nb fun z1 x u y1 x1 I1 r1 e1=>by
  obtain ⟨n,l,rfl,q,e1⟩:=mJ (f:=fun _ _=>.bad) e1 nb
  obtain ⟨p,ep,rfl⟩:=(r1.rb.cr0 I1:RD X.W z1.ρ z1.G (.ref n) u)
  exact mI M I1 q ep (PySem.W.callWith_K (first:=[.ref p.1]) (h₀:=X.base) I.md.kin (let ⟨_,_,_,_,k⟩:=F;k) ((ha true pos).go x1 I1 e1 nb fun z2 l us y2 x2 I2 r2 e2=>⟨I2.toHR.kin,gv (us:=.ref p.1 :: us) F hr x2 I2 (.cons (d:=.ref n) ⟨p,jo y2.st.pr ep,rfl⟩ (ju (I2.rel _).1 (I2.rel _).2.st.gg fL (fun _ h=>h) r2)) e2 nb⟩) he hpl)) ht
theorem tN (F:bJ X X.cal lv j f) (hr:bg lv X.A) (M:nI X an m c f) (ho:LE X eo a)
 (ht:eval (.Call (.Attribute eo m apos) [] [] pos) X.env=(do
  let ov ← eval eo X.env
  standAt apos.atName
  let (f,first) ← holding [ov] (getMethod ov m pl)
  callWith pos f first (backTo pos (starEach [] X.env)) (backToKw pos (keywordEach [] X.env)))):LE X (.Call (.Attribute eo m apos) [] [] pos) (.mth c j a .nil):=fun br z I nb=>
 PySem.W.methodCall_KW (pl:=pl) ((ho true).go .refl I rfl nb fun z1 x u y1 x1 I1 r1 e1=>by
  obtain ⟨n,l,rfl,q,e1⟩:=mJ (f:=fun _ _=>.bad) e1 nb
  obtain ⟨p,ep,rfl⟩:=(r1.rb.cr0 I1:RD X.W z1.ρ z1.G (.ref n) u)
  exact mI M I1 q ep (PySem.W.callWith_K0 (first:=[.ref p.1]) I1.toHR.kin (let ⟨_,_,_,_,k⟩:=F;k) (gv (us:=[.ref p.1]) (es:=.nil) F hr x1 I1 (.cons (d:=.ref n) (ds:=[]) ⟨p,ep,rfl⟩ rfl) e1 nb))) ht
theorem gC (C:Addr) (us:List Value) (kw:List (Str×Value)):(X.A.under (.builtin "type.__call__" ⟨.ref C :: us,kw⟩)).frames=X.A.frames:=by simp [Around.under,Code.envs,Code.isFrame,pushEnvs]
theorem jh:Mu (ρ ++ [p]) a↔Mu ρ a∨a=p.1∨a=p.2:=by
 constructor
 ·rintro ⟨q,h,e⟩
  rcases List.mem_append.mp h with h | h
  ·exact .inl ⟨q,h,e⟩
  ·cases List.mem_singleton.mp h;exact .inr e
 ·rintro (⟨q,h,e⟩ | e)
  ·exact ⟨q,List.mem_append_left _ h,e⟩
  ·exact ⟨p,List.mem_append_right _ List.mem_cons_self,e⟩
theorem cB {l:List α} (e:(l ++ [a])[n]? = some b):l[n]? = some b∨(n=l.length∧b=a):=by
 rcases Nat.lt_trichotomy n l.length with h | h | h
 ·rw [List.getElem?_append_left h] at e;exact .inl e
 ·subst h;rw [List.getElem?_append_right (Nat.le_refl _),Nat.sub_self] at e;cases e;exact .inr ⟨rfl,rfl⟩
 ·rw [List.getElem?_append_right (Nat.le_of_lt h),List.getElem?_eq_none (by simp;omega)] at e;cases e
theorem HR.snoc (I:HR X z) (g:Gr z.s s') (hp:z.h p.1=none∧z.h p.2=none) (r:ObR X.W (z.ρ ++ [p]) z.G s'.heap.get? p o):HR X { z with ρ:=z.ρ ++ [p],t:=⟨z.t.env,z.t.ow,z.t.st ++ [o]⟩,s:=s' }∧Stp X.fr w z { z with ρ:=z.ρ ++ [p],t:=⟨z.t.env,z.t.ow,z.t.st ++ [o]⟩,s:=s' }:=by
 have nn:∀ {a:Addr},(a=p.1∨a=p.2)→z.h a=none:=fun h=>h.elim (fun e=>e ▸ hp.1) fun e=>e ▸ hp.2
 have pre:z.ρ <+: z.ρ ++ [p]:=List.prefix_append _ _
 have no:∀ {a:Addr} {P:Prop},(a=p.1∨a=p.2)→(∃ o,z.h a=some o)→P:=fun h ⟨o,e⟩=>by rw [nn h] at e;cases e
 have old:∀ {i:Nat} {q:Addr×Addr} {a:Addr},z.ρ[i]? = some q→(a=q.1∨a=q.2)→∃ o,z.h a=some o:=fun h1 h2=>I.th ⟨_,List.mem_of_getElem? h1,h2⟩
 refine ⟨⟨I.md,I.fm,I.hd,I.bs,fun a o e=>g.k a o (I.gh a o e),by simp [I.rl],fun i j q1 q2 a h1 h2 h3 h4=>?_,fun a m=>?_,fun n o' q h1 h2=>?_,nfu I.fu g.k,fun b m=>⟨(I.ff b m).1,fun w=>(jh.mp w).elim (I.ff b m).2 fun w=>no w (I.fth m)⟩,by show AllBare s'.gens;rw [g.gs];exact I.br,g.os.trans I.os⟩,⟨pre,.refl _,fun _ _ e=>.inl e,fun a m=>(jh.mp m).imp_right nn,fun a o e=>⟨o,g.k a o e⟩,fun a o e _ _ _=>g.k a o e,fun a o e _ _ _=>⟨o.slots,g.k a o e⟩⟩⟩
 ·rcases cB h1 with a1 | ⟨a1,b1⟩
  ·rcases cB h2 with a2 | ⟨a2,b2⟩
   ·exact I.rn i j q1 q2 a a1 a2 h3 h4
   ·subst b2;exact no h4 (old a1 h3)
  ·subst b1
   rcases cB h2 with a2 | ⟨a2,b2⟩
   ·exact no h3 (old a2 h4)
   ·rw [a1,a2]
 ·rcases jh.mp m with m | m
  ·exact I.rg a m
  ·cases q:z.G a with
   | none=>rfl
   | some o=>exact no m ⟨o,I.gh a o q⟩
 ·rcases cB h2 with a2 | ⟨a2,b2⟩
  ·rcases cB h1 with a1 | ⟨a1,_⟩
   ·exact (I.ob n o' q a1 a2).mono pre (.refl _) fun a _ o e=>g.k a o e
   ·have:=(List.getElem?_eq_some_iff.mp a2).1;rw [I.rl] at this;omega
  ·subst b2
   rcases cB h1 with a1 | ⟨_,b1⟩
   ·have:=(List.getElem?_eq_some_iff.mp a1).1;rw [← I.rl] at this;omega
   ·subst b1;exact r
theorem HR.at {A:Around} (I:HR X z) (f:A.frames=X.A.frames) (h:A.handled=X.A.handled):HR { X with A:=A } z:=⟨I.md,f.trans I.fm,fun c=>h.trans (I.hd c),I.bs,I.gh,I.rl,I.rn,I.rg,I.ob,I.fu,I.ff,I.br,I.os⟩
theorem uG {o:Out D} {j:Nat} {cl:Cl} {i:CI} (F:bJ X X.cal1 lv cl.init f) (hr:bg (lv+1) X.A) (M:Mk X.K i.ad f) (hcl:X.Γ.cl[j]? = some cl) (hw:cl.what=0) (hci:X.W.ci[j]? = some i) (hwh:X.W.what[j]? = some 0) (x:Ee X z0 z) (I:Rep X z) (r:RVs X.W true es z l us)
 (e:o=(match X.Γ.cl[j]? with
 | some k=>if k.what=1 then (if l.length=k.at_.length then .ok (.ins j l) (drp es z.t z.t.st) else .bad)
   else if k.what=0 then (match X.cal1 k.init (.ref z.t.st.length :: l) (z.t.st ++ [.ins j []]) with
    | .ok .non st=>.ok (.ref z.t.st.length) (aft es z.t .non st)
    | _=>.bad)
   else .bad
 | none=>.bad)) (nb:o≠.bad):wpAny X.M X.A (call (.ref i.ad) us) (Pe X z0 o (RV X.W br c)) (Px X z0 o) z.s:=by
 rw [hcl] at e
 dsimp only at e
 rw [ZY (by omega),ZZ hw] at e
 obtain ⟨Ir,xr⟩:=I.rel fun i=>!(bI es).contains i
 obtain ⟨fd,ps,F,hb,kp⟩:=F
 have nbc:X.cal1 cl.init (.ref z.t.st.length :: l) (z.t.st ++ [.ins j []])≠.bad:=fun q=>by rw [q] at e;exact nb e
 have g:Gr z.s { z.s with heap:=(z.s.heap.push PySem.W.emptyDict).push (PySem.W.instObj i.ad z.s.heap.objs.size) }:=⟨rfl,rfl,fun b o e=>Heap.get?_push_of_some _ (Heap.get?_push_of_some _ e)⟩
 have e1:(z.s.heap.push PySem.W.emptyDict).get? z.s.heap.objs.size=some PySem.W.emptyDict:=Heap.get?_push_size z.s.heap rfl
 have e2:((z.s.heap.push PySem.W.emptyDict).push (PySem.W.instObj i.ad z.s.heap.objs.size)).get? (z.s.heap.objs.size+1)=some (PySem.W.instObj i.ad z.s.heap.objs.size):=by
  have:=Heap.get?_push_size (z.s.heap.push PySem.W.emptyDict) (o:=PySem.W.instObj i.ad z.s.heap.objs.size) rfl
  rwa [Heap.size_push] at this
 have hn:z.h (z.s.heap.objs.size+1)=none∧z.h z.s.heap.objs.size=none:=⟨Heap.get?_none_of_le (Nat.le_succ _),Heap.get?_none_of_le (Nat.le_refl _)⟩
 have ne:z.s.heap.objs.size≠z.s.heap.objs.size+1:=Nat.ne_of_lt (Nat.lt_succ_self _)
 obtain ⟨H1,S1⟩:=HR.snoc (w:=NoW) (p:=(z.s.heap.objs.size+1,z.s.heap.objs.size)) (o:=.ins j []) Ir.toHR g hn ⟨i,[],hci,hwh,Nat.zero_le _,⟨e2,ne,by simp,_,Heap.get?_push_of_some _ e1,#[],_,rfl,(fun e he=>ZX he (by simp)),.nil,fun n=>by cases i.nm <;> rfl⟩,rfl⟩
 have at0:(z.ρ ++ [(z.s.heap.objs.size+1,z.s.heap.objs.size)])[z.t.st.length]? = some (z.s.heap.objs.size+1,z.s.heap.objs.size):=by rw [List.getElem?_append_right (by rw [I.rl];exact Nat.le_refl _),I.rl,Nat.sub_self];rfl
 have rd0:=ju Ir xr.st.gg fL (fun _ h=>h) r
 have rd:RDs X.W (z.ρ ++ [(z.s.heap.objs.size+1,z.s.heap.objs.size)]) (z.rel fun i=>!(bI es).contains i).G (.ref z.t.st.length :: l) (.ref (z.s.heap.objs.size+1) :: us):=.cons ⟨_,at0,rfl⟩ (rd0.mono (List.prefix_append _ _) (.refl _))
 have hl:=F.len _ _ nbc
 rw [rd.len] at hl
 have bd:=hb { z.s with heap:=(z.s.heap.push PySem.W.emptyDict).push (PySem.W.instObj i.ad z.s.heap.objs.size) } (.ref (z.s.heap.objs.size+1) :: us) (I.toHR.kin.keeps g.k) (by rw [List.append_nil];exact hl)
 rw [List.append_nil] at bd
 refine wpAny_call (rc (f:=f) I.toHR.kin M.makes M.init (beq_iff_eq.mp M.fn) (codeAny_mono (F.run _ X.fr _ ⟨.ref (z.s.heap.objs.size+1) :: us,[]⟩ _ _ (hr.make i.ad us []) (H1.at (gC i.ad us []) rfl) bd rd nbc) fun q s' hq=>?_))
 cases q with
 | error e'=>obtain ⟨z',c,l',_,er,_⟩:=hq;rw [show X.cal1 cl.init (.ref z.t.st.length :: l) (z.t.st ++ [.ins j []])=_ from er] at e;exact ZX e nb
 | ok fl=>
   cases fl with
   | ret u=>
     obtain ⟨z',d,rfl,er,S,H,r⟩:=hq
     rw [show X.cal1 cl.init (.ref z.t.st.length :: l) (z.t.st ++ [.ins j []])=_ from er] at e
     cases d with
     | non=>
       refine ⟨(show u = .none from r),?_⟩
       have S2:Stp X.fr NoW (z.rel fun i=>!(bI es).contains i) z':=S1.trans S fun _ h=>h.elim
       have H2:HR X z':=H.at (X:={ X with A:=_,fr:=X.fr }) (A:=X.A) (gC i.ad us []).symm rfl
       obtain ⟨zf,f1,f2,f3,If,xf,k1,k2,k3⟩:=I.back (fun i=>!(bI es).contains i) (fun i=>!(bI es).contains i || (isLst z.t.env[i]? && (noL .non && z'.t.st.all gV))) S2 H2 (fun i h=>by rw [h];rfl) fun i _ h=>by
        cases w:(!(bI es).contains i) with
        | true=>exact .inl rfl
        | false=>rw [w,Bool.false_or,Bool.and_eq_true,Bool.and_eq_true] at h;exact .inr ⟨h.1,h.2.2⟩
       refine Pe.less x ⟨zf,.ref z.t.st.length,f1,by rw [e,f2];rfl,xf,If,.of ⟨(z.s.heap.objs.size+1,z.s.heap.objs.size),?_,rfl⟩⟩
       rw [f3]
       exact jo S.pr at0
     | _=>exact ZX e nb
   | next=>exact hq.elim
   | brk=>exact hq.elim
   | cont=>exact hq.elim
end
def Ps (X:Cx) (z:Z) (o:ar) (f:Flow) (s':Shared):Prop:=match o with
 | .nx t=>f = .next∧∃ z',z'.s=s'∧z'.t=t∧Go X z z'∧Rep X z'
 | .rt d t=>∃ u z',f = .ret u∧z'.s=s'∧z'.t.st=t.st∧Go X z z'∧Rep X z'∧RD X.W z'.ρ z'.G d u
 | _=>False
def PxS (X:Cx) (z:Z) (o:ar) (x:Value) (s':Shared):Prop:=∃ z' c l,z'.s=s'∧o = .exc c l z'.t∧Go X z z'∧Rep X z'∧XO X z z' c l x
abbrev Ws (X:Cx) (t:Sem Flow) (z:Z) (o:ar):Prop:=wpAny X.M X.A t (Ps X z o) (PxS X z o) z.s
def LS (X:Cx) (st:Stmt) (c:S):Prop:=∀ z,Rep X z→X.ex c z.t≠.bad→Ws X (exec st X.env) z (X.ex c z.t)
def LSs (X:Cx) (st:List Stmt) (c:S):Prop:=∀ z,Rep X z→X.ex c z.t≠.bad→Ws X (execs st X.env) z (X.ex c z.t)
section
variable {X:Cx} {z z' z0 z1:Z}
theorem Ps.less (x:Go X z z1) (h:Ps X z1 o f s'):Ps X z o f s':=by
 cases o with
 | nx t=>obtain ⟨e,z',a,b,y,I⟩:=h;exact ⟨e,z',a,b,x.trans y,I⟩
 | rt d t=>obtain ⟨u,z',e,a,b,y,I⟩:=h;exact ⟨u,z',e,a,b,x.trans y,I⟩
 | _=>exact h
theorem PxS.less (x:Go X z z1) (h:PxS X z1 o u s'):PxS X z o u s':=let ⟨z',c,l,e,q,y,I,n⟩:=h;⟨z',c,l,e,q,x.trans y,I,n.less fun _=>x.st.no⟩
theorem PxS.of {m:Out α} (x:Go X z z1) (h:Px X z1 m u s') {f:α→Sta→ar}:PxS X z (m.go f) u s':=let ⟨z',c,l,e,q,y,I,n⟩:=h;⟨z',c,l,e,by rw [q];rfl,x.trans y.go,I,n.less fun _=>x.st.no⟩
theorem Jg.gos {t:Sem β} {m:Sta→Out α} {R:Z→α→β→Prop} {f:α→Sta→ar} {o:ar} {K:β→Shared→Prop} (h:Jg X t m R) (x:Go X z z1) (I:Rep X z1) (e:o=(m z1.t).go f) (nb:o≠.bad)
 (k:∀ z2 d u,Ee X z1 z2→Go X z z2→Rep X z2→R z2 d u→o=f d z2.t→K u z2.s):wpAny X.M X.A t K (PxS X z o) z1.s:=by
 subst e
 refine wpAny_mono (h z1 I fun q=>nb (by rw [q];rfl)) (fun u s' ⟨z2,d,e,q,y,I1,r⟩=>?_) fun u s' h=>.of x h
 subst e;exact k z2 d u y (x.trans y.go) I1 r (by rw [q];rfl)
theorem nxt (x:Go X z z1) (I:Rep X z1) (e:o = .nx z1.t):Ps X z o .next z1.s:=by subst e;exact ⟨rfl,z1,rfl,rfl,x,I⟩
theorem LSs.at (h:LSs X sts c) (x:Go X z z1) (I:Rep X z1) (e:o=X.ex c z1.t) (nb:o≠.bad):wpAny X.M X.A (execs sts X.env) (Ps X z o) (PxS X z o) z1.s:=by subst e;exact wpAny_mono (h z1 I nb) (fun _ _ h=>h.less x) fun _ _ h=>h.less x
theorem qW:LSs X [] .skip:=fun z I _=>wpAny_execs_nil (nxt .refl I rfl)
theorem qX (h:LS X tm c):LSs X [tm] c:=fun z I nb=>wpAny_execs_cons (thn (h z I nb) fun f s1 q=>by
 cases f with
 | next=>exact wpAny_execs_nil q
 | ret v=>exact q
 | brk=>exact q
 | cont=>exact q)
theorem mE (h1:LS X tm a) (h2:LSs X rest b):LSs X (tm :: rest) (.seq a b):=fun z I nb=>by
 have nb1:X.ex a z.t≠.bad:=fun q=>nb (show ar.go (X.ex a z.t) _=_ by rw [q];rfl)
 refine wpAny_execs_cons (wpAny_mono (h1 z I nb1) (fun f s1 q=>?_) fun u s' ⟨z',c,l,e,q,r⟩=>⟨z',c,l,e,show ar.go (X.ex a z.t) _=_ by rw [q];rfl,r⟩)
 cases qa:X.ex a z.t with
 | nx t=>
   rw [qa] at q
   obtain ⟨rfl,z1,rfl,rfl,x1,I1⟩:=q
   exact h2.at x1 I1 (show ar.go (X.ex a z.t) _=_ by rw [qa];rfl) nb
 | rt d t=>
   have e:X.ex (.seq a b) z.t = .rt d t:=show ar.go (X.ex a z.t) _=_ by rw [qa];rfl
   rw [qa] at q
   obtain ⟨u,z1,rfl,r⟩:=q
   show Ps X z (X.ex (.seq a b) z.t) (.ret u) s1
   rw [e];exact ⟨u,z1,rfl,r⟩
 | exc c l t=>rw [qa] at q;exact q.elim
 | bad=>exact ZX qa nb1
theorem mF (h:∀ z,Rep X z→wpAny X.M X.A (exec tm X.env) (fun f s'=>f = .next∧Gr z.s s') NoE z.s):LS X tm .skip:=fun z I _=>wpAny_mono (h z I) (fun f s' ⟨e,g⟩=>by subst e;exact nxt (z1:={ z with s:=s' }) (aF I.gh g).ee.go (I.grow (aF I.gh g)) rfl) fun _ _ z=>z.elim
theorem t8:LS X (.Pass pos) .skip:=mF fun _ _=>wpAny_Pass ⟨rfl,.refl⟩
theorem Rep.quiet (I:Rep X z):interactive X.env=false:=by simp [interactive,I.ok.kd]
theorem xq:LS X (.Expr (.Constant (.str x) j pos) pos') .skip:=mF fun z I=>wpAny_Expr (Calls.Constant_str (show _∧_ from ⟨rfl,.tok⟩)) I.quiet
theorem tY (he:LE X e c) (hs:swapsWith e none pos.line X.env=pure false):LS X (.Expr e pos) (.drop c):=fun z I nb=>wpAny_Expr_any ((he false).gos .refl I rfl nb fun z1 d u y x I1 r e1=>nxt x I1 e1) I.quiet hs
theorem lx (he:LE X e c):LS X (.Return (some e) pos) (.ret c):=fun z I nb=>wpAny_Return_some ((he false).gos .refl I rfl nb fun z1 d u y x I1 r e1=>by
 show Ps X z (X.ex (.ret c) z.t) _ _
 rw [e1];exact ⟨u,z1,rfl,rfl,rfl,x,I1,r.rd⟩)
theorem ub:LS X (.Return none pos) (.ret (.c .non)):=fun z I nb=>wpAny_Return_none ⟨.none,z,rfl,rfl,rfl,.refl,I,rfl⟩
theorem zW (hc:LT X ec c) (ha:LSs X sa a) (hb:LSs X sb b):LS X (.If ec sa sb pos) (.ifs c a b):=fun z I nb=>by
 have e:X.ex (.ifs c a b) z.t=((X.ev true c z.t).bind toB).go fun t s=>if t then X.ex a s else X.ex b s:=by
  show Out.go (X.ev true c z.t) _=_
  cases X.ev true c z.t with
  | ok d s=>cases d <;> first | rfl | (rename_i t;cases t <;> rfl)
  | _=>rfl
 refine wpAny_If (hc.gos .refl I e nb fun z1 t u y x I1 r e1=>?_)
 cases (show u=t from r)
 cases t with
 | true=>exact ha.at x I1 e1 nb
 | false=>exact hb.at x I1 e1 nb
def Vl (X:Cx) (z0 z:Z) (own:Bool) (d:D) (u:Value):Prop:=match own with
 | false=>RD X.W z.ρ z.G d u
 | true=>FV X z0 z d u
def stV (t:Sta) (i:Nat) (d:D) (own:Bool):Sta:=⟨t.env.set i (some d),if own then i :: t.ow.filter (· != i) else t.ow.filter (· != i),t.st⟩
theorem iW {h h' base:Heap} (k:∀ b o,h.get? b=some o→(∀ vs,o.data≠.fields vs)→∃ o',h'.get? b=some o'∧∀ vs,o'.data≠.fields vs):∀ {l:List Env},h.FunFrames base l→h'.FunFrames base l
 | [],_=>trivial
 | _ :: _,⟨a,⟨L,o,e1,e2,e3,e4⟩,r⟩=>let ⟨o',q1,q2⟩:=k L o e3 e4;⟨a,⟨L,o',e1,e2,q1,q2⟩,iW k r⟩
theorem Rep.put {s':Shared} {i:Nat} {own:Bool} {d:D} {u:Value} (x0:Go X z0 z) (I:Rep X z) (sb:Heap.SameBut a z.s.heap s'.heap) (la:Lc X a) (th:∃ o,s'.heap.get? a=some o∧∀ vs,o.data≠.fields vs) (os:s'.os=z.s.os) (gs:s'.gens=z.s.gens) (vl:Vl X z0 z own d u) (hi:i<X.N.length)
 (lo:∃ m,s'.heap.Ns X.env.locals m∧∀ (j:Nat) (x:Str) (w:Value),X.N[j]? = some x→(z.σ.set i (some u))[j]? = some (some w)→Vis X.env.scope x→kM X.env s'.heap m x w)
 (ce:∀ x c,X.env.cells.lookup x=some c→∃ v,s'.heap.IsCell c v):Rep X { z with t:=stV z.t i d own,σ:=z.σ.set i (some u),s:=s' }∧Go X z0 { z with t:=stV z.t i d own,σ:=z.σ.set i (some u),s:=s' }:=by
 have ne:∀ {b:Addr},¬ Lc X b→s'.heap.get? b=z.h b:=fun n=>sb.2 _ fun e=>n (e ▸ la)
 have nG:∀ {b o},z.G b=some o→¬ Lc X b:=fun e l=>by rw [(I.fl _ l).1] at e;cases e
 have nM:∀ {b},Mu z.ρ b→¬ Lc X b:=fun m l=>(I.fl _ l).2 m
 have hiσ:i<z.σ.length:=by rw [I.sl];exact hi
 have ow:∀ {j},j∈(stV z.t i d own).ow→(j=i∧own=true)∨(j≠i∧j∈z.t.ow):=fun {j} m=>by
  cases own with
  | true=>
    rcases List.mem_cons.mp (show j∈i :: z.t.ow.filter (· != i) from m) with w | w
    ·exact .inl ⟨w,rfl⟩
    ·have:=List.mem_filter.mp w;exact .inr ⟨by simpa using this.2,this.1⟩
  | false=>have:=List.mem_filter.mp (show j∈z.t.ow.filter (· != i) from m);exact .inr ⟨by simpa using this.2,this.1⟩
 have wo:∀ {j},j≠i→j∈z.t.ow→j∈(stV z.t i d own).ow:=fun {j} n m=>by
  have w:j∈z.t.ow.filter (· != i):=List.mem_filter.mpr ⟨m,by simpa using n⟩
  cases own with
  | true=>exact List.mem_cons_of_mem _ w
  | false=>exact w
 have get:∀ {j},j≠i→(z.σ.set i (some u))[j]? = z.σ[j]?:=fun h=>List.getElem?_set_ne (Ne.symm h)
 have gete:∀ {j},j≠i→(z.t.env.set i (some d))[j]? = z.t.env[j]?:=fun h=>List.getElem?_set_ne (Ne.symm h)
 have gi:(z.σ.set i (some u))[i]? = some (some u):=List.getElem?_set_self hiσ
 have gie:(z.t.env.set i (some d))[i]? = some (some d):=List.getElem?_set_self (by rw [I.el];exact hiσ)
 have fu:s'.heap.FunFrames X.base X.fr:=iW (fun b o e nf=>by
  by_cases q:b=a
  ·subst q;exact th
  ·exact ⟨o,(sb.2 b q).trans e,nf⟩) I.fu
 have th':∀ b o,z.h b=some o→∃ o',s'.heap.get? b=some o':=fun b o e=>by
  by_cases q:b=a
  ·subst q;exact th.imp fun _ h=>h.1
  ·exact ⟨o,(sb.2 b q).trans e⟩
 have S:Stp X.fr (Pv X z) z { z with t:=stV z.t i d own,σ:=z.σ.set i (some u),s:=s' }:=⟨List.prefix_refl _,.refl _,fun _ _ e=>.inl e,fun _ m=>.inl m,th',fun b o e _ w _=>(ne fun l=>w (.inr l)).trans e,fun b o e _ w _=>⟨o.slots,(ne fun l=>w (.inr l)).trans e⟩⟩
 refine ⟨⟨⟨I.md,I.fm,I.hd,I.bs,fun b o e=>(ne (nG e)).trans (I.gh b o e),I.rl,I.rn,I.rg,fun n o p h1 h2=>(I.ob n o p h1 h2).mono (List.prefix_refl _) (.refl _) fun b hb o e=>(ne (nM ⟨p,List.mem_of_getElem? h2,hb⟩)).trans e,fu,I.ff,by show AllBare s'.gens;rw [gs];exact I.br,os.trans I.os⟩,I.ok,lo,ce,I.fl,by show (z.t.env.set i (some d)).length=(z.σ.set i (some u)).length;rw [List.length_set,List.length_set];exact I.el,by show (z.σ.set i (some u)).length=_;rw [List.length_set];exact I.sl,fun j d' n e=>?_,fun j m=>?_,fun j k b m1 m2 e1 e2=>?_⟩,x0.st.trans S fun b w=>w.elim (fun w=>(x0.ow b w).imp_left .inl) fun w=>.inl (.inr w),fun b ⟨j,m,e⟩=>?_⟩
 ·by_cases q:j=i
  ·subst q
   rw [show (z.t.env.set j (some d))[j]? = some (some d') from e] at gie;cases gie
   cases own with
   | true=>exact ZX List.mem_cons_self n
   | false=>exact ⟨u,gi,vl⟩
  ·obtain ⟨w,e1,r⟩:=I.en j d' (fun m=>n (wo q m)) ((gete q).symm.trans e)
   exact ⟨w,(get q).trans e1,r⟩
 ·rcases ow m with ⟨rfl,rfl⟩ | ⟨q,m⟩
  ·obtain ⟨b,o,rfl,_,t,r,f,no⟩:=vl
   exact ⟨d,b,o,gie,gi,t,r.mono (List.prefix_refl _) (.refl _) fun c hc o e=>(ne (by rcases hc with rfl | rfl <;> exact f.2.2.2)).trans e,f⟩
  ·obtain ⟨d',b,o,h1,h2,h3,r,f⟩:=I.eo j m
   exact ⟨d',b,o,(gete q).trans h1,(get q).trans h2,h3,r.mono (List.prefix_refl _) (.refl _) fun c hc o e=>(ne (by rcases hc with rfl | rfl <;> exact f.2.2.2)).trans e,f⟩
 ·have new:∀ {k:Nat} {b:Addr},own=true→k∈z.t.ow→(z.σ.set i (some u))[i]? = some (some (.ref b))→z.σ[k]? = some (some (.ref b))→False:=fun {k b} ho mk w1 w2=>by
   subst ho
   obtain ⟨b',o,rfl,_,t,r,f,no⟩:=vl
   rw [gi] at w1;cases w1
   exact no ⟨k,mk,w2⟩
  rcases ow m1 with ⟨h1,ho⟩ | ⟨q1,n1⟩ <;> rcases ow m2 with ⟨h2,ho2⟩ | ⟨q2,n2⟩
  ·exact h1.trans h2.symm
  ·exact (new ho n2 (h1 ▸ e1) ((get q2).symm.trans e2)).elim
  ·exact (new ho2 n1 (h2 ▸ e2) ((get q1).symm.trans e1)).elim
  ·exact I.od j k b n1 n2 ((get q1).symm.trans e1) ((get q2).symm.trans e2)
 ·rcases ow m with ⟨rfl,rfl⟩ | ⟨q,m⟩
  ·obtain ⟨b',o,rfl,n,_⟩:=vl
   rw [show (z.σ.set j (some (.ref b')))[j]? = some (some (.ref b)) from e] at gi;cases gi
   exact .inr n
  ·exact x0.ow b ⟨j,m,(get q).symm.trans e⟩
theorem Rep.cne (I:Rep X z):∀ x c,X.env.cells.lookup x=some c→c≠X.env.locals:=fun x c e q=>by
 obtain ⟨v,o,ho,hd⟩:=I.ce x c e
 obtain ⟨m,⟨o',es,ep,ho',hd',_⟩,_⟩:=I.lo
 rw [q,ho'] at ho;cases ho;rw [hd'] at hd;cases hd
theorem cg {i:Nat} {x:Str} {own:Bool} {d:D} {u:Value} {Q:Unit→Shared→Prop} {E:Value→Shared→Prop} (x0:Go X z0 z) (I:Rep X z) (hN:X.N.Nodup) (hi:X.N[i]? = some x) (hx:Loc X.env.scope x) (vl:Vl X z0 z own d u)
 (h:∀ s' a,Heap.SameBut a z.s.heap s'.heap→Lc X a∧(X.env.scope.names.lookup x=some .local→a=X.env.locals)→Rep X { z with t:=stV z.t i d own,σ:=z.σ.set i (some u),s:=s' }→Go X z0 { z with t:=stV z.t i d own,σ:=z.σ.set i (some u),s:=s' }→Q () s'):wpAny X.M X.A (storeName X.env x u) Q E z.s:=by
 obtain ⟨m,hn,hl⟩:=id I.lo
 have hcls:(X.env.scope.kind == .class || (X.env.scope.kind == .module && X.env.locals != X.env.globals))=false:=by rw [I.ok.kd];rfl
 have il:i<X.N.length:=(List.getElem?_eq_some_iff.mp hi).1
 have hiσ:i<z.σ.length:=by rw [I.sl];exact il
 rcases hx with hk | hk
 ·refine wpAny_storeName_local hk hn (fun h' hn' hs=>?_) hcls
  have ⟨oL,es,ep,hoL,hdL,_⟩:=hn'
  have lo:∀ (j:Nat) (y:Str) (w:Value),X.N[j]? = some y→(z.σ.set i (some u))[j]? = some (some w)→Vis X.env.scope y→kM X.env h' (fun y=>if y=x then some u else m y) y w:=fun j y w e1 e2 e3=>by
   by_cases hj:j=i
   ·subst hj
    rw [hi] at e1;cases e1
    rw [List.getElem?_set_self hiσ] at e2;cases e2
    exact .inl ⟨hk,by simp⟩
   ·rw [List.getElem?_set_ne (Ne.symm hj)] at e2
    rcases hl j y w e1 e2 e3 with ⟨k,e⟩ | ⟨k,c,e,q⟩
    ·have:y≠x:=fun e=>hj (gj hN e1 (e ▸ hi))
     exact .inl ⟨k,by simp [this,e]⟩
    ·exact .inr ⟨k,c,e,q.sameBut hs (I.cne y c e)⟩
  obtain ⟨I',g'⟩:=Rep.put (s':={ z.s with heap:=h',toks:=z.s.toks+1 }) x0 I hs (.inl rfl) ⟨oL,hoL,fun vs e=>by rw [hdL] at e;cases e⟩ rfl rfl vl il ⟨_,hn',lo⟩ fun y c e=>let ⟨v,q⟩:=I.ce y c e;⟨v,q.sameBut hs (I.cne y c e)⟩
  exact h _ _ hs ⟨.inl rfl,fun _=>rfl⟩ I' g'
 ·obtain ⟨c,hc⟩:=I.ok.ch x (.inl hk)
  obtain ⟨w',q0⟩:=I.ce x c hc
  refine wpAny_storeName_cell I.ok.kd hk hc q0 (fun h' hc' hs=>?_)
  have ⟨oc,hoc,hdc⟩:=hc'
  have lo:∀ (j:Nat) (y:Str) (w:Value),X.N[j]? = some y→(z.σ.set i (some u))[j]? = some (some w)→Vis X.env.scope y→kM X.env h' m y w:=fun j y w e1 e2 e3=>by
   by_cases hj:j=i
   ·subst hj
    rw [hi] at e1;cases e1
    rw [List.getElem?_set_self hiσ] at e2;cases e2
    exact .inr ⟨.inl hk,c,hc,hc'⟩
   ·rw [List.getElem?_set_ne (Ne.symm hj)] at e2
    rcases hl j y w e1 e2 e3 with q | ⟨k,c',e,q⟩
    ·exact .inl q
    ·refine .inr ⟨k,c',e,q.sameBut hs ?_⟩
     rintro rfl
     exact hj (gj hN e1 (I.ok.ci _ _ _ e hc ▸ hi))
  have ce:∀ y c',X.env.cells.lookup y=some c'→∃ v,h'.IsCell c' v:=fun y c' e=>by
   by_cases hcc:c'=c
   ·subst hcc;exact ⟨_,hc'⟩
   ·obtain ⟨w2,q2⟩:=I.ce y c' e
    exact ⟨w2,q2.sameBut hs hcc⟩
  obtain ⟨I',g'⟩:=Rep.put (s':={ z.s with heap:=h' }) x0 I hs (.inr ⟨x,hc⟩) ⟨oc,hoc,fun vs e=>by rw [hdc] at e;cases e⟩ rfl rfl vl il ⟨m,hn.sameBut hs (Ne.symm (I.cne x c hc)),lo⟩ ce
  exact h _ _ hs ⟨.inr ⟨x,hc⟩,fun e=>by rw [show X.env.scope.names.lookup x=some .cell from hk] at e;cases e⟩ I' g'
theorem ly (hN:X.N.Nodup) (hi:X.N[i]? = some x) (hx:Loc X.env.scope x) (he:LE X e c) (hf:bf c=true→LF X e c) (hs:swapsWith e (some (.Name x pos')) pos.line X.env=pure false):LS X (.Assign [.Name x pos'] e pos) (.set i c):=fun z I nb=>by
 refine wpAny_Assign_Name ?_ hs
 cases f:bf c with
 | false=>
   refine (he false).gos .refl I rfl nb fun z1 d u y x0 I1 r e1=>cg (own:=false) x0 I1 hN hi hx r.rd fun s' a _ _ I' g'=>nxt (z1:={ z1 with t:=stV z1.t i d false,σ:=z1.σ.set i (some u),s:=s' }) g' I' ?_
   rw [e1];unfold lM;rw [f];rfl
 | true=>
   have nb1:X.ev false c z.t≠.bad:=fun q=>nb (show Out.go (X.ev false c z.t) _=_ by rw [q];rfl)
   refine wpAny_mono (hf f z I nb1) (fun u s' ⟨z1,d,q1,q2,y,I1,fv⟩=>?_) fun u s' h=>.of .refl h
   subst q1
   refine cg (own:=true) y.go I1 hN hi hx fv fun s' a _ _ I' g'=>nxt (z1:={ z1 with t:=stV z1.t i d true,σ:=z1.σ.set i (some u),s:=s' }) g' I' ?_
   show Out.go (X.ev false c z.t) _=_
   rw [q2]
   show ar.nx (lM z1.t i d (bf c))=_
   unfold lM
   have ld:wH d=true:=by
    obtain ⟨_,_,_,_,t,_⟩:=fv
    cases d <;> first | rfl | cases t
   rw [f,ld];rfl
end
def aP:Expr→Bool
 | .Starred ..=>false
 | .Set ..=>false
 | .Slice ..=>false
 | _=>true
section
variable {X:Cx} {z z' z0 z1:Z}
theorem ya {o:O} {hp:Hp} (q:ObR W ρ G hp (a,b) o) (e:∃ d:D,toO d=some o):∃ ob,hp a=some ob∧∀ vs,ob.data≠.fields vs:=by
 obtain ⟨d,e⟩:=e
 cases d <;> cases e
 ·obtain ⟨o,vs,_,q,⟨⟨n,rfl⟩,_⟩,_⟩:=q;exact ⟨_,q,nofun⟩
 ·obtain ⟨o,vs,_,_,q,⟨es,ep,_,w,_⟩,_⟩:=q;exact ⟨_,q,fun v z=>by rw [w] at z;cases z⟩
theorem Rep.ownw {s':Shared} {i:Nat} {d':D} {o':O} (I:Rep X z) (m:i∈z.t.ow) (ea:z.σ[i]? = some (some (.ref a))) (t:toO d'=some o') (sb:∀ b,b≠a→s'.heap.get? b=z.h b) (r:ObR X.W z.ρ z.G s'.heap.get? (a,a) o') (os:s'.os=z.s.os) (gs:s'.gens=z.s.gens) :
 Rep X { z with t:=⟨z.t.env.set i (some d'),z.t.ow,z.t.st⟩,s:=s' }∧Go X z { z with t:=⟨z.t.env.set i (some d'),z.t.ow,z.t.st⟩,s:=s' }:=by
 obtain ⟨f,oa,ha⟩:=I.oth ⟨i,m,ea⟩
 have nM:∀ {b},Mu z.ρ b→b≠a:=fun h e=>f.2.1 (e ▸ h)
 have nG:∀ {b o},z.G b=some o→b≠a:=fun h e=>by rw [e,f.1] at h;cases h
 have nL:∀ {b},Lc X b→b≠a:=fun h e=>f.2.2.2 (e ▸ h)
 have nf:∀ {b},b∈frs X.fr→b≠a:=fun h e=>f.2.2.1 (e ▸ h)
 obtain ⟨on,hn,_⟩:=ya r ⟨d',t⟩
 have hie:i<z.t.env.length:=by obtain ⟨d,_,_,e,_⟩:=I.eo i m;exact (List.getElem?_eq_some_iff.mp e).1
 have ck:∀ x c v,X.env.cells.lookup x=some c→z.s.heap.IsCell c v→s'.heap.IsCell c v:=fun x c v e ⟨o,q,d⟩=>⟨o,(sb c (nL (.inr ⟨x,e⟩))).trans q,d⟩
 have fu:s'.heap.FunFrames X.base X.fr:=by
  have:∀ {l:List Env},(∀ b∈frs l,b≠a)→z.s.heap.FunFrames X.base l→s'.heap.FunFrames X.base l:=fun {l}=>by
   induction l with
   | nil=>exact fun _ _=>trivial
   | cons v r ih=>
     intro hs ⟨k,⟨L,o,e1,e2,e3,e4⟩,q⟩
     have hm:L∈frs (v :: r):=by unfold frs;rw [List.filterMap_cons,e1];exact List.mem_cons_self
     exact ⟨k,⟨L,o,e1,e2,(sb L (hs L hm)).trans e3,e4⟩,ih (fun b hb=>hs b (by unfold frs;rw [List.filterMap_cons,e1];exact List.mem_cons_of_mem _ hb)) q⟩
  exact this (fun b h=>nf h) I.fu
 refine ⟨⟨⟨I.md,I.fm,I.hd,I.bs,fun b o e=>(sb b (nG e)).trans (I.gh b o e),I.rl,I.rn,I.rg,fun n o p h1 h2=>(I.ob n o p h1 h2).mono (List.prefix_refl _) (.refl _) fun b hb o e=>(sb b (nM ⟨p,List.mem_of_getElem? h2,hb⟩)).trans e,fu,I.ff,by show AllBare s'.gens;rw [gs];exact I.br,os.trans I.os⟩,I.ok,?_,fun x c e=>let ⟨v,q⟩:=I.ce x c e;⟨v,ck x c v e q⟩,I.fl,by show (z.t.env.set i (some d')).length=_;rw [List.length_set];exact I.el,I.sl,fun j d n e=>?_,fun j mj=>?_,I.od⟩,⟨List.prefix_refl _,.refl _,fun _ _ e=>.inl e,fun _ m=>.inl m,fun b o e=>?_,fun b o e _ w _=>(sb b fun q=>w (.inl (q ▸ ⟨i,m,ea⟩))).trans e,fun b o e _ w _=>⟨o.slots,(sb b fun q=>w (.inl (q ▸ ⟨i,m,ea⟩))).trans e⟩⟩,fun b ⟨j,mj,e⟩=>.inl ⟨j,mj,e⟩⟩
 ·obtain ⟨mm,⟨oL,es,ep,q,r⟩,hl⟩:=I.lo
  exact ⟨mm,⟨oL,es,ep,(sb _ (nL (.inl rfl))).trans q,r⟩,fun j x w e1 e2 e3=>cV (fun c v e q=>ck x c v e q) (hl j x w e1 e2 e3)⟩
 ·have q:j≠i:=fun q=>n (q ▸ m)
  exact I.en j d n ((List.getElem?_set_ne (Ne.symm q)).symm.trans e)
 ·by_cases q:j=i
  ·subst q;exact ⟨d',a,o',List.getElem?_set_self hie,ea,t,r,f⟩
  ·obtain ⟨d,b,o,h1,h2,h3,r,f⟩:=I.eo j mj
   have nb:b≠a:=fun w=>q (I.od j i b mj m h2 (w ▸ ea))
   exact ⟨d,b,o,(List.getElem?_set_ne (Ne.symm q)).trans h1,h2,h3,r.mono (List.prefix_refl _) (.refl _) fun c hc o e=>(sb c (by rcases hc with rfl | rfl <;> exact nb)).trans e,f⟩
 ·by_cases q:b=a
  ·subst q;exact ⟨on,hn⟩
  ·exact ⟨o,(sb b q).trans e⟩
theorem Rep.stw {s':Shared} {n:Nat} {o':O} {p:Addr×Addr} {e:Addr} (I:Rep X z) (ep:z.ρ[n]? = some p) (he:e=p.1∨e=p.2) (sb:∀ b,b≠e→s'.heap.get? b=z.h b) (r:ObR X.W z.ρ z.G s'.heap.get? p o') (os:s'.os=z.s.os) (gs:s'.gens=z.s.gens) :
 Rep X { z with t:=⟨z.t.env,z.t.ow,z.t.st.set n o'⟩,s:=s' }∧Go X z { z with t:=⟨z.t.env,z.t.ow,z.t.st.set n o'⟩,s:=s' }:=by
 have mu:Mu z.ρ e:=⟨p,List.mem_of_getElem? ep,he⟩
 have nG:∀ {b o},z.G b=some o→b≠e:=fun h q=>by rw [q,I.rg e mu] at h;cases h
 have nL:∀ {b},Lc X b→b≠e:=fun h q=>(I.fl _ h).2 (q ▸ mu)
 have nf:∀ {b},b∈frs X.fr→b≠e:=fun h q=>(I.ff _ h).2 (q ▸ mu)
 have nO:∀ {b},Own z b→b≠e:=fun h q=>(I.oth h).1.2.1 (q ▸ mu)
 have ck:∀ x c v,X.env.cells.lookup x=some c→z.s.heap.IsCell c v→s'.heap.IsCell c v:=fun x c v e ⟨o,q,d⟩=>⟨o,(sb c (nL (.inr ⟨x,e⟩))).trans q,d⟩
 have fu:s'.heap.FunFrames X.base X.fr:=by
  have:∀ {l:List Env},(∀ b∈frs l,b≠e)→z.s.heap.FunFrames X.base l→s'.heap.FunFrames X.base l:=fun {l}=>by
   induction l with
   | nil=>exact fun _ _=>trivial
   | cons v r ih=>
     intro hs ⟨k,⟨L,o,e1,e2,e3,e4⟩,q⟩
     have hm:L∈frs (v :: r):=by unfold frs;rw [List.filterMap_cons,e1];exact List.mem_cons_self
     exact ⟨k,⟨L,o,e1,e2,(sb L (hs L hm)).trans e3,e4⟩,ih (fun b hb=>hs b (by unfold frs;rw [List.filterMap_cons,e1];exact List.mem_cons_of_mem _ hb)) q⟩
  exact this (fun b h=>nf h) I.fu
 obtain ⟨⟨o1,h1⟩,⟨o2,h2⟩⟩:=r.th
 have hn:n<z.t.st.length:=by rw [← I.rl];exact (List.getElem?_eq_some_iff.mp ep).1
 refine ⟨⟨⟨I.md,I.fm,I.hd,I.bs,fun b o w=>(sb b (nG w)).trans (I.gh b o w),by show _=(z.t.st.set n o').length;rw [List.length_set];exact I.rl,I.rn,I.rg,fun k o q h1 h2=>?_,fu,I.ff,by show AllBare s'.gens;rw [gs];exact I.br,os.trans I.os⟩,I.ok,?_,fun x c w=>let ⟨v,q⟩:=I.ce x c w;⟨v,ck x c v w q⟩,I.fl,I.el,I.sl,I.en,fun j mj=>?_,I.od⟩,⟨List.prefix_refl _,.refl _,fun _ _ w=>.inl w,fun _ m=>.inl m,fun b o w=>?_,fun b o w q _ _=>(sb b fun z=>q (z ▸ mu)).trans w,fun b o w q _ _=>⟨o.slots,(sb b fun z=>q (z ▸ mu)).trans w⟩⟩,fun b w=>.inl w⟩
 ·by_cases c:k=n
  ·subst c
   have h1:(z.t.st.set k o')[k]? = some o:=h1
   rw [List.getElem?_set_self hn] at h1;cases h1
   rw [show z.ρ[k]? = some q from h2] at ep;cases ep
   exact r
  ·exact (I.ob k o q ((List.getElem?_set_ne (Ne.symm c)).symm.trans h1) h2).mono (List.prefix_refl _) (.refl _) fun b hb o w=>(sb b fun w'=>c (I.rn k n q p b h2 ep hb (w' ▸ he))).trans w
 ·obtain ⟨mm,⟨oL,es,ep,q,r⟩,hl⟩:=I.lo
  exact ⟨mm,⟨oL,es,ep,(sb _ (nL (.inl rfl))).trans q,r⟩,fun j x w e1 e2 e3=>cV (fun c v e q=>ck x c v e q) (hl j x w e1 e2 e3)⟩
 ·obtain ⟨d,b,o,h1,h2,h3,r,f⟩:=I.eo j mj
  exact ⟨d,b,o,h1,h2,h3,r.mono (List.prefix_refl _) (.refl _) fun c hc o w=>(sb c (by rcases hc with rfl | rfl <;> exact nO ⟨j,mj,h2⟩)).trans w,f⟩
 ·by_cases q:b=e
  ·rcases he with w | w
   ·exact ⟨o1,by rw [q,w];exact h1⟩
   ·exact ⟨o2,by rw [q,w];exact h2⟩
  ·exact ⟨o,(sb b q).trans w⟩
structure M1 (X:Cx) (o:Expr) (m:Str) (apos:Pos) (e:Expr) (cpos:Pos):Prop where
 base:attributeBase o m X.env (eval o X.env)=eval o X.env
 few:((backTo cpos (starEach [e] X.env)).all (fun x=>!x.1) && (backToKw cpos (keywordEach [] X.env)).all (fun x=>x.1.isSome) && decide (([e]:List Expr).length+([]:List Keyword).length+(if ([]:List Keyword).isEmpty then 0 else 1)<30))=true
 line:(apos.endLine == cpos.line)=true
 trees:backTo cpos (starEach [e] X.env) = [(false,eval e X.env)]
theorem mO {i:Nat} (I:Rep X z) (m:i∈z.t.ow) (e:z.t.env[i]? = some (some (.lst l))):∃ a vs n,z.σ[i]? = some (some (.ref a))∧z.h a=some { cls:=.type "list",data:=.seq vs.toArray n }∧RDs X.W z.ρ z.G l vs:=by
 obtain ⟨d,a,o,h1,h2,h3,r,f⟩:=I.eo i m
 rw [e] at h1;cases h1;cases h3
 obtain ⟨o,vs,_,q,⟨⟨n,rfl⟩,_⟩,r⟩:=r
 exact ⟨a,vs,n,h2,q,r⟩
theorem jA {z:Z} {vs ws:List Value} {f:Array Value→Array Value} (e:z.h a=some { cls:=.type "list",data:=.seq vs.toArray n }) (hf:f vs.toArray=ws.toArray) (hz:ws.length≤sizeLine):(∃ o,(z.s.heap.update a (Obj.mapSeq f)).get? a=some o∧LsO o ws)∧∀ b,b≠a→(z.s.heap.update a (Obj.mapSeq f)).get? b=z.h b:=
 ⟨⟨_,Heap.get?_update_self _ e rfl,⟨_,by simp only [Obj.mapSeq,hf];rfl⟩,hz⟩,fun b n=>Heap.get?_update_other _ _ (Ne.symm n)⟩
theorem xp {i:Nat} {x:Str} (hN:X.N[i]? = some x) (hv:Vis X.env.scope x) (hd:(x == ("__debug__":Str))=false) (hcd:(x == ("__classdict__":Str))=false) (he:LE X e c) (m:M1 X (.Name x p) "append" apos e cpos):LS X (.Expr (.Call (.Attribute (.Name x p) "append" apos) [e] [] cpos) pos) (.app i c):=fun z I nb=>by
 have e0:X.ex (.app i c) z.t=(if z.t.ow.contains i && isLst z.t.env[i]? then (X.ev false c z.t).go fun d s=>if s.ow.contains i then (match s.env[i]? with
  | some (some (.lst l))=>if l.length<100000 then .nx ⟨s.env.set i (some (.lst (l ++ [d]))),s.ow,s.st⟩ else .bad
  | _=>.bad) else .bad else .bad):=rfl
 by_cases c0:(z.t.ow.contains i && isLst z.t.env[i]?)=true
 ·rw [ZZ c0] at e0
  rw [Bool.and_eq_true] at c0
  have mi:i∈z.t.ow:=by simpa using c0.1
  obtain ⟨l,el⟩:∃ l,z.t.env[i]? = some (some (.lst l)):=by
   have:=c0.2
   unfold isLst at this
   split at this
   ·rename_i l q;exact ⟨l,q⟩
   ·cases this
  obtain ⟨a,vs,n,es,ha,r⟩:=mO I mi el
  refine wpAny_Expr_any (wpAny_Call_method m.base m.few m.line PySem.F.plainAttrs_list PySem.F.slot_list_append PySem.F.type_list_append (cw I hN hv es ⟨⟨_,ha,rfl⟩,fun b q=>(by cases q;exact ⟨_,ha,rfl⟩),?_⟩ hd hcd)) I.quiet rfl
  rw [m.trees]
  refine Calls.callWith_builtin rfl (Calls.evalArgs_plain (Calls.spliced_cons ((he false).gos .refl I e0 nb fun z1 d u y x1 I1 r1 e1=>Calls.spliced_nil ?_)))
  by_cases c1:z1.t.ow.contains i=true
  ·rw [ZZ c1] at e1
   have m1:i∈z1.t.ow:=by simpa using c1
   have el1:z1.t.env[i]? = some (some (.lst l)):=by rw [y.en];exact el
   rw [el1] at e1
   dsimp only at e1
   obtain ⟨a',vs,n,es',ha,r⟩:=mO I1 m1 el1
   rw [y.sg,es] at es';cases es'
   by_cases c2:l.length<100000
   ·rw [ZZ c2] at e1
    have hz:vs.length<100000:=by rw [← r.len];exact c2
    refine call_meets PySem.F.slot_list_append ⟨_,ha,rfl⟩ PySem.F.entry_list_append (PySem.F.args_list_append_2 _ _) (PySem.list_append a vs.toArray n u (by rw [List.size_toArray];exact Nat.le_of_lt (Nat.lt_of_lt_of_le hz (big (Nat.le_refl _))))) ⟨ha,?_⟩
    obtain ⟨⟨o1,u1,u3⟩,u2⟩:=jA (f:=(·.push u)) (ws:=vs ++ [u]) ha (by simp) (by rw [List.length_append];exact big (by simp;omega))
    obtain ⟨I2,g2⟩:=I1.ownw (s':={ z1.s with heap:=z1.s.heap.update a (Obj.mapSeq (·.push u)) }) (d':=.lst (l ++ [d])) m1 (by rw [y.sg];exact es) rfl u2 ⟨o1,vs ++ [u],rfl,u1,u3,r.app (.cons r1.rd rfl)⟩ rfl rfl
    exact nxt (x1.trans g2) I2 e1
   ·rw [ZY c2] at e1;exact ZX e1 nb
  ·rw [ZY c1] at e1;exact ZX e1 nb
 ·rw [ZY c0] at e0;exact ZX e0 nb
theorem mV:∀ {ks} {ds} {vs} {k} {d} {v},ks.length=ds.length→RDs W ρ G ds vs→RD W ρ G d v→∃ us,RDs W ρ G (gW ks ds k d) us∧(ks.zip vs).map (fun kv=>if kv.1=k then (kv.1,v) else kv)=ks.zip us
 | [],[],vs,k,d,v,_,h,_=>⟨vs,h,rfl⟩
 | [],_ :: _,_,_,_,_,l,_,_=>by cases l
 | _ :: _,[],_,_,_,_,l,_,_=>by cases l
 | q :: ks,e :: ds,vs,k,d,v,l,⟨u,r,ev,h1,h2⟩,rd=>by
   subst ev
   obtain ⟨us,h3,h4⟩:=mV (k:=k) (Nat.succ.inj l) h2 rd
   by_cases c:q=k
   ·refine ⟨v :: us,⟨v,us,rfl,by rw [ZZ c];exact rd,h3⟩,?_⟩
    show (if q=k then (q,v) else (q,u)) :: (ks.zip r).map _=(q,v) :: ks.zip us
    rw [ZZ c,h4]
   ·refine ⟨u :: us,⟨u,us,rfl,by rw [ZY c];exact h1,h3⟩,?_⟩
    show (if q=k then (q,v) else (q,u)) :: (ks.zip r).map _=(q,u) :: ks.zip us
    rw [ZY c,h4]
theorem mX:∀ {ks} {ds} {k} {d},(gW ks ds k d).length=ds.length
 | [],_,_,_=>by unfold gW;rfl
 | _ :: _,[],_,_=>by unfold gW;rfl
 | _ :: ks,_ :: ds,k,d=>by show (gW ks ds k d).length+1=ds.length+1;rw [mX]
theorem hH:∀ {ks:List Key} {vs:List Value} {k:Key},ks.length=vs.length→((ks.zip vs).any fun kv=>decide (kv.1=k))=ks.any fun q=>decide (q=k)
 | [],_,_,_=>rfl
 | _ :: _,[],_,l=>by cases l
 | q :: ks,v :: vs,k,l=>by
   show (decide (q=k) || (ks.zip vs).any _)=(decide (q=k) || ks.any _)
   rw [hH (Nat.succ.inj l)]
theorem oZ (l:ks.length=ds.length) (r:RDs W ρ G ds vs) (rd:RD W ρ G d v):∃ us,stored (ks.zip vs) k v=(bU ks ds k d).1.zip us∧(bU ks ds k d).1.length=(bU ks ds k d).2.length∧RDs W ρ G (bU ks ds k d).2 us∧(bU ks ds k d).1.length≤ks.length+1:=by
 have lv:ks.length=vs.length:=l.trans r.len
 unfold stored bU
 rw [hH lv]
 split
 ·obtain ⟨us,h1,h2⟩:=mV (k:=k) l r rd
  exact ⟨us,h2,by show ks.length=(gW ks ds k d).length;rw [mX,l],h1,Nat.le_succ _⟩
 ·exact ⟨vs ++ [v],by rw [List.zip_append lv];rfl,by simp [l],r.app (.cons rd rfl),by simp⟩
theorem rM {A:Around} {E:Value→Shared→Prop} {Q:Unit→Shared→Prop} {x y k d:D} {o:O} {kv v:Value} (t:toO x=some o) (r:ObR X.W z.ρ z.G z.h (a,b) o) (rk:CR X.W z k kv) (rd:RD X.W z.ρ z.G d v) (e:jq x k d=some y)
 (h:∀ s' o',toO y=some o'→(∀ b,b≠a→s'.heap.get? b=z.h b)→ObR X.W z.ρ z.G s'.heap.get? (a,b) o'→s'.os=z.s.os→s'.gens=z.s.gens→Q () s'):wpAny X.M A (setItem (.ref a) kv v) Q E z.s:=by
 cases x <;> cases t
 ·rename_i l
  obtain ⟨o,vs,hb,ho,⟨⟨n,rfl⟩,hz⟩,r⟩:=r
  cases k with
  | int i=>
    obtain ⟨tk,rfl⟩:=(rk:RD X.W z.ρ z.G (.int i) kv)
    obtain ⟨l',e1,rfl⟩:=Option.map_eq_some_iff.mp (show (rR l i d).map D.lst=some y from e)
    obtain ⟨j,e2,rfl⟩:=Option.map_eq_some_iff.mp (show (ixN l.length i).map (fun j=>l.set j d)=some l' from e1)
    obtain ⟨h1,h2,h3,h4⟩:=ml e2
    have hl:=r.len
    have hn:=jd
    obtain ⟨⟨o1,u1,u3⟩,u2⟩:=jA (z:=z) (f:=(·.setIfInBounds j v)) (ws:=vs.set j v) ho (by simp) (by rw [List.length_set];exact hz)
    have q:Q () { z.s with heap:=z.s.heap.update a (Obj.mapSeq (·.setIfInBounds j v)) }:=h _ _ rfl u2 ⟨o1,_,hb,u1,u3,r.set j rd⟩ rfl rfl
    by_cases h0:0≤i
    ·have hk:i.toNat=j:=by rw [seqIndex_of h0 h4] at h1;exact Option.some.inj h1
     exact PySem.W.ki_setAt ho h0 (by omega) (by rw [List.size_toArray,← hl];exact h4) (by rw [hk];exact q)
    ·have hk:(i+(vs.toArray.size:Int)).toNat=j:=by
      rw [seqIndex_neg (by omega) h3] at h1
      rw [List.size_toArray,← hl]
      exact Option.some.inj h1
     exact PySem.W.ki_setBack ho (by omega) (by rw [List.size_toArray,← hl];exact h3) (by omega) (by rw [hk];exact q)
  | _=>cases e
 ·rename_i ks ds
  obtain ⟨o,vs,hb,hs,ho,dc,hl,r⟩:=r
  obtain ⟨kk,e1,e2⟩:=Option.bind_eq_some_iff.mp (show ((bo k).bind fun k=>if ks.length<100000 then some (D.dic (bU ks ds k d).1 (bU ks ds k d).2) else none)=some y from e)
  by_cases c:ks.length<100000
  ·rw [ZZ c] at e2
   cases e2
   obtain ⟨us,h3,h4,h5,h6⟩:=oZ (k:=kk) hl r rd
   refine wpAny_setItem_pairs (hsz:=by obtain ⟨_,_,_,_,_,_,_,w⟩:=dc;exact w) (eF e1 rk) (dc.of ho) fun h' dd hs'=>?_
   rw [h3] at dd
   obtain ⟨o1,es,ep,w1,w2,w3,w4,w5,w6⟩:=dd
   exact h _ _ rfl hs'.2 ⟨o1,us,hb,hs,w1,⟨es,ep,w2,w3,w4,w5,w6,by rw [List.length_zip];exact big (by omega)⟩,h4,h5⟩ rfl rfl
  ·rw [ZY c] at e2;cases e2
theorem yj {o o':O} (e:d5 o k d=some o'):∃ x y,toO x=some o∧jq x k d=some y∧toO y=some o':=by
 cases o with
 | lst l=>
   cases k with
   | int i=>obtain ⟨l',e1,rfl⟩:=Option.map_eq_some_iff.mp (show (rR l i d).map O.lst=some o' from e);exact ⟨.lst l,.lst l',rfl,by show (rR l i d).map D.lst=_;rw [e1];rfl,rfl⟩
   | _=>cases e
 | dic ks ds=>
   obtain ⟨kk,e1,e2⟩:=Option.bind_eq_some_iff.mp (show ((bo k).bind fun k=>if ks.length<100000 then some (O.dic (bU ks ds k d).1 (bU ks ds k d).2) else none)=some o' from e)
   by_cases c:ks.length<100000
   ·rw [ZZ c] at e2;cases e2
    exact ⟨.dic ks ds,.dic (bU ks ds kk d).1 (bU ks ds kk d).2,rfl,by show ((bo k).bind fun k=>if ks.length<100000 then some (D.dic (bU ks ds k d).1 (bU ks ds k d).2) else none)=_;rw [e1];exact ZZ c,rfl⟩
   ·rw [ZY c] at e2;cases e2
 | ins _ _=>cases e
theorem nP (h:aP i=true):∀ v,assign (o.Subscript i pos) env v=(do
 let ov ← holding [v] (eval o env)
 let iv ← holding [v,ov] (eval i env)
 standAt pos
 holding [v,ov,iv] (setItem ov iv v)
 release [v,ov,iv] []):=by
 cases i <;> first | (intro v;rfl) | cases h
theorem rB :swapsWithSole [.Subscript o i p] e l env=pure false:=by
 cases e <;> rfl
theorem lE :swappedStores [.Subscript o i p] e env=pure none:=by
 cases e <;> rfl
theorem lT {K:Value→Shared→Prop} {E:Value→Shared→Prop} {Q:Flow→Shared→Prop} {s:Shared} (hn:aP eb=true) (h:wpAny X.M X.A (eval ee X.env) K E s) (k:∀ v s',K v s'→wpAny X.M X.A (eval eo X.env) (fun ov s2=>wpAny X.M X.A (eval eb X.env) (fun iv s3=>wpAny X.M X.A (setItem ov iv v) (fun _ s4=>Q .next s4) E s3) E s2) E s'):wpAny X.M X.A (exec (.Assign [.Subscript eo eb p2] ee pos) X.env) Q E s:=by
 refine wpAny_Assign_stores (thn h fun v s1 q=>?_) rB lE
 show wpAny _ _ (assign (eo.Subscript eb p2) X.env v) _ _ _
 rw [nP hn]
 exact wpAny_bind (wpAny_holding (thn (k v s1 q) fun ov s2 q=>wpAny_bind (wpAny_holding (thn q fun iv s3 q=>wpAny_bind (wpAny_standAt (wpAny_bind (wpAny_holding (thn q fun _ s4 q=>wpAny_release q))))))))
theorem rO {n:Nat} {kv v:Value} {p:Addr×Addr} {E:Value→Shared→Prop} {o:ar} (x:Go X z0 z) (I:Rep X z) (ep:z.ρ[n]? = some p) (rk:CR X.W z k kv) (rd:RD X.W z.ρ z.G d v) (e:o=(match (z.t.st[n]?).bind fun o=>d5 o k d with | some o=>.nx ⟨z.t.env,z.t.ow,z.t.st.set n o⟩ | none=>.bad)) (nb:o≠.bad):wpAny X.M X.A (setItem (.ref p.1) kv v) (fun _ s4=>Ps X z0 o .next s4) E z.s:=by
 cases q:(z.t.st[n]?).bind fun o=>d5 o k d with
 | none=>rw [q] at e;exact ZX e nb
 | some o'=>
   rw [q] at e
   obtain ⟨ob,q1,q2⟩:=Option.bind_eq_some_iff.mp q
   obtain ⟨x1,y1,t1,t2,t3⟩:=yj q2
   have r:=I.ob n ob p q1 ep
   have hp:p=(p.1,p.2):=rfl
   refine rM t1 (hp ▸ r) rk rd t2 fun s' o1 t4 sb r' os gs=>?_
   rw [t3] at t4;cases t4
   obtain ⟨I2,g2⟩:=I.stw ep (.inl rfl) sb r' os gs
   exact nxt (z1:={ z with t:=⟨z.t.env,z.t.ow,z.t.st.set n o'⟩,s:=s' }) (x.trans g2) I2 e
theorem ua {i:Nat} {x:Str} (hN:X.N[i]? = some x) (hv:Vis X.env.scope x) (hd:(x == ("__debug__":Str))=false) (hcd:(x == ("__classdict__":Str))=false) (hn:aP eb=true) (hb:LE X eb b) (he:LE X ee e):LS X (.Assign [.Subscript (.Name x p) eb p2] ee pos) (.put (.v i) b e):=fun z I nb=>by
 refine lT hn ((he false).gos (K:=fun v s'=>∃ z1 d,z1.s=s'∧Go X z z1∧Rep X z1∧RD X.W z1.ρ z1.G d v∧X.ex (.put (.v i) b e) z.t=(match z1.t.env[i]? with
  | some (some x)=>(X.ev true b z1.t).go fun k s=>(match x with
    | .ref n=>(match (s.st[n]?).bind fun o=>d5 o k d with | some o=>.nx ⟨s.env,s.ow,s.st.set n o⟩ | none=>.bad)
    | x=>if s.ow.contains i then (match jq x k d with | some y=>.nx ⟨s.env.set i (some y),s.ow,s.st⟩ | none=>.bad) else .bad)
  | _=>.bad)) .refl I rfl nb fun z1 d u y x1 I1 r1 e1=>⟨z1,d,rfl,x1,I1,r1.rd,e1⟩) fun v s' ⟨z1,d,q,x1,I1,r1,e1⟩=>?_
 subst q
 cases q:z1.t.env[i]? with
 | none=>rw [q] at e1;exact ZX e1 nb
 | some o0=>
   cases o0 with
   | none=>rw [q] at e1;exact ZX e1 nb
   | some x0=>
     rw [q] at e1
     obtain ⟨u,hu,_⟩:=I1.slot q
     refine cw I1 hN hv hu ((hb true).gos x1 I1 e1 nb fun z2 kd kv y2 x2 I2 r2 e2=>?_) hd hcd
     have q2:z2.t.env[i]? = some (some x0):=by rw [y2.en];exact q
     have hu2:z2.σ[i]? = some (some u):=by rw [y2.sg];exact hu
     have own:∀ x1:D,x0=x1→X.ex (.put (.v i) b e) z.t=(if z2.t.ow.contains i then (match jq x1 kd d with | some y=>.nx ⟨z2.t.env.set i (some y),z2.t.ow,z2.t.st⟩ | none=>.bad) else .bad)→wpAny X.M X.A (setItem u kv v) (fun _ s4=>Ps X z (X.ex (.put (.v i) b e) z.t) .next s4) (PxS X z (X.ex (.put (.v i) b e) z.t)) z2.s:=fun x1 ex e3=>by
      subst ex
      by_cases c:z2.t.ow.contains i=true
      ·rw [ZZ c] at e3
       have m2:i∈z2.t.ow:=by simpa using c
       obtain ⟨d0,a,o,h1,h2,h3,r,f⟩:=I2.eo i m2
       rw [q2] at h1;cases h1
       rw [hu2] at h2;cases h2
       cases q3:jq x0 kd d with
       | none=>rw [q3] at e3;exact ZX e3 nb
       | some y=>
         rw [q3] at e3
         refine rM h3 r (r2.rb.cr0 I2) (r1.st y2.st) q3 fun s' o' t sb r' os gs=>?_
         obtain ⟨I3,g3⟩:=I2.ownw (s':=s') m2 hu2 t sb r' os gs
         exact nxt (z1:={ z2 with t:=⟨z2.t.env.set i (some y),z2.t.ow,z2.t.st⟩,s:=s' }) (x2.trans g3) I3 e3
      ·rw [ZY c] at e3;exact ZX e3 nb
     cases x0 with
     | ref n=>
       have nm:i ∉ z2.t.ow:=fun m=>by
        obtain ⟨d0,a,o,h1,h2,h3,_⟩:=I2.eo i m
        rw [q2] at h1;cases h1;cases h3
       obtain ⟨u',hu',p,ep,rfl⟩:=I2.en i _ nm q2
       rw [hu2] at hu';cases hu'
       exact rO x2 I2 ep (r2.rb.cr0 I2) (r1.st y2.st) e2 nb
     | _=>exact own _ rfl e2
end
section
variable {X:Cx} {z z' z0 z1:Z} {an:Nat→Str}
theorem Rep.snoc {s':Shared} {p:Addr×Addr} {o:O} (I:Rep X z) (g:Gr z.s s') (hp:z.h p.1=none∧z.h p.2=none) (r:ObR X.W (z.ρ ++ [p]) z.G s'.heap.get? p o):Rep X { z with ρ:=z.ρ ++ [p],t:=⟨z.t.env,z.t.ow,z.t.st ++ [o]⟩,s:=s' }∧Ee X z { z with ρ:=z.ρ ++ [p],t:=⟨z.t.env,z.t.ow,z.t.st ++ [o]⟩,s:=s' }:=by
 obtain ⟨H,S⟩:=HR.snoc (w:=Own z) I.toHR g hp r
 have pre:z.ρ <+: z.ρ ++ [p]:=List.prefix_append _ _
 have nm:∀ {a},(∃ o,z.h a=some o)→¬ Mu z.ρ a→¬ Mu (z.ρ ++ [p]) a:=fun ⟨o,e⟩ n w=>(jh.mp w).elim n fun w=>by
  rcases w with w | w
  ·rw [w,hp.1] at e;cases e
  ·rw [w,hp.2] at e;cases e
 have sl:∀ b o,z.s.heap.get? b=some o→∃ sl,s'.heap.get? b=some { o with slots:=sl }:=fun b o e=>⟨o.slots,g.k b o e⟩
 refine ⟨⟨H,I.ok,?_,fun x c e=>let ⟨v,q⟩:=I.ce x c e;⟨v,fj sl q⟩,fun a l=>⟨(I.fl a l).1,nm (I.lth l) (I.fl a l).2⟩,I.el,I.sl,fun i d n e=>let ⟨u,q,r⟩:=I.en i d n e;⟨u,q,r.mono pre (.refl _)⟩,fun i m=>?_,I.od⟩,S,rfl,rfl,fun _ h=>h⟩
 ·obtain ⟨m,hn,hl⟩:=I.lo
  exact ⟨m,vJ sl hn,fun i x u h1 h2 h3=>cV (fun c v _ q=>fj sl q) (hl i x u h1 h2 h3)⟩
 ·obtain ⟨d,a,o,h1,h2,h3,r,f⟩:=I.eo i m
  exact ⟨d,a,o,h1,h2,h3,r.mono pre (.refl _) fun b _ o e=>g.k b o e,f.1,nm r.th.1 f.2.1,f.2.2⟩
theorem ry (I:HR X z):(z.ρ ++ [p])[z.t.st.length]? = some p:=by rw [List.getElem?_append_right (by rw [I.rl];exact Nat.le_refl _),I.rl,Nat.sub_self];rfl
theorem nA {y:Value}:∀ {nm:List Str} {vs:List Value} {j:Nat},nm.Nodup→nm[j]? = some f→j<vs.length→∀ g,(nm.zip (vs.set j y)).lookup g=if g=f then some y else (nm.zip vs).lookup g
 | [],_,_,_,h,_,_=>by simp at h
 | _ :: _,[],_,_,_,h,_=>by simp at h
 | n :: nm,v :: vs,0,nd,h,_,g=>by
   have e:n=f:=by simpa using h
   subst e
   show (match g == n with | true=>some y | false=>(nm.zip vs).lookup g)=if g=n then some y else (match g == n with | true=>some v | false=>(nm.zip vs).lookup g)
   by_cases c:g=n
   ·rw [ZZ c,beq_iff_eq.mpr c]
   ·rw [ZY c,ZU.mpr c]
 | n :: nm,v :: vs,j+1,nd,h,hl,g=>by
   have h':nm[j]? = some f:=by simpa using h
   have ne:n≠f:=fun z=>by subst z;exact (List.nodup_cons.mp nd).1 (List.mem_of_getElem? h')
   have ih:=nA (y:=y) (List.nodup_cons.mp nd).2 h' (by simpa using hl) g
   show (match g == n with | true=>some v | false=>(nm.zip (vs.set j y)).lookup g)=if g=f then some y else (match g == n with | true=>some v | false=>(nm.zip vs).lookup g)
   by_cases c:g=n
   ·rw [ZY fun w=>ne (c ▸ w),beq_iff_eq.mpr c]
   ·rw [ZU.mpr c];exact ih
theorem kL {y:Value}:∀ {nm:List Str} {vs:List Value},nm.Nodup→nm[vs.length]? = some f→∀ g,(nm.zip (vs ++ [y])).lookup g=if g=f then some y else (nm.zip vs).lookup g
 | [],_,_,h,_=>by simp at h
 | n :: nm,[],nd,h,g=>by
   have e:n=f:=by simpa using h
   subst e
   rw [List.nil_append,List.zip_cons_cons,List.zip_nil_right,List.zip_nil_right]
   show (match g == n with | true=>some y | false=>none)=if g=n then some y else none
   by_cases c:g=n
   ·rw [ZZ c,beq_iff_eq.mpr c]
   ·rw [ZY c,ZU.mpr c]
 | n :: nm,v :: vs,nd,h,g=>by
   have h':nm[vs.length]? = some f:=by simpa using h
   have ne:n≠f:=fun z=>by subst z;exact (List.nodup_cons.mp nd).1 (List.mem_of_getElem? h')
   have ih:=kL (y:=y) (List.nodup_cons.mp nd).2 h' g
   show (match g == n with | true=>some v | false=>(nm.zip (vs ++ [y])).lookup g)=if g=f then some y else (match g == n with | true=>some v | false=>(nm.zip vs).lookup g)
   by_cases c:g=n
   ·rw [ZY fun w=>ne (c ▸ w),beq_iff_eq.mpr c]
   ·rw [ZU.mpr c];exact ih
theorem uH (h:fh Γ (.ins c l) f d=some o):∃ k,Γ.cl[c]? = some k∧k.at_.length<1000∧((k.at_.idxOf f<l.length∧o = .ins c (l.set (k.at_.idxOf f) d))∨(k.at_.idxOf f=l.length∧k.at_.idxOf f<k.at_.length∧o = .ins c (l ++ [d]))):=by
 have h:((Γ.cl[c]?).bind fun k=>if k.at_.length<1000 then (if k.at_.idxOf f<l.length then some (O.ins c (l.set (k.at_.idxOf f) d)) else if k.at_.idxOf f=l.length∧k.at_.idxOf f<k.at_.length then some (.ins c (l ++ [d])) else none) else none)=some o:=h
 obtain ⟨k,hk,h⟩:=Option.bind_eq_some_iff.mp h
 refine ⟨k,hk,?_⟩
 by_cases z0:k.at_.length<1000
 ·rw [ZZ z0] at h
  refine ⟨z0,?_⟩
  by_cases z:k.at_.idxOf f<l.length
  ·rw [ZZ z] at h;cases h;exact .inl ⟨z,rfl⟩
  ·rw [ZY z] at h
   by_cases z2:k.at_.idxOf f=l.length∧k.at_.idxOf f<k.at_.length
   ·rw [ZZ z2] at h;cases h;exact .inr ⟨z2.1,z2.2,rfl⟩
   ·rw [ZY z2] at h;cases h
 ·rw [ZY z0] at h;cases h
theorem yp (T:cA X an) (I:Rep X z) {n f:Nat} {p:Addr×Addr} {d:D} {v:Value} {o o':O} {A:Around} {Q:Unit→Shared→Prop} {E:Value→Shared→Prop} (ep:z.ρ[n]? = some p) (rd:RD X.W z.ρ z.G d v) (q:z.t.st[n]? = some o) (e:fh X.Γ o f d=some o')
 (h:∀ s',Rep X { z with t:=⟨z.t.env,z.t.ow,z.t.st.set n o'⟩,s:=s' }→Go X z { z with t:=⟨z.t.env,z.t.ow,z.t.st.set n o'⟩,s:=s' }→Q () s'):wpAny X.M A (setAttr (.ref p.1) (an f) v) Q E z.s:=by
 have ob:=I.ob n o p q ep
 cases o with
 | ins c l=>
   obtain ⟨k,hk,h1000,alt⟩:=uH e
   obtain ⟨i',vs,w1,w2,w3,w4,w5⟩:=ob
   obtain ⟨i,C⟩:=T c k hk
   rw [C.ci] at w1
   have ii:i=i':=Option.some.inj w1
   subst ii
   have lnm:i.nm.length=k.at_.length:=by rw [C.nm,List.length_map]
   have wz:k.what≠2:=by have:=C.wh;rw [w2] at this;have e:=Option.some.inj this;omega
   have lv:=w5.len
   have hj:k.at_.idxOf f<k.at_.length:=by
    rcases alt with ⟨z,_⟩ | ⟨_,z,_⟩
    ·omega
    ·exact z
   have hn:i.nm[k.at_.idxOf f]? = some (an f):=by rw [C.nm,List.getElem?_map,List.getElem?_eq_getElem hj];simp
   have cl:=C.cls wz
   have na:=C.na _ (List.mem_of_getElem? hn)
   refine uI (ns:=i.nm) I.toHR.kin (InO.objm w4) cl.sa cl.po na.taker cl.hd (fun y hy=>?_) (by rw [lnm];exact Nat.le_trans (Nat.le_of_lt h1000) (big (by omega))) fun h' om sb=>?_
   ·cases qq:(i.nm.zip vs).lookup y with
    | none=>exact ZX qq hy
    | some u=>
      obtain ⟨l1,l2,e1,_⟩:=List.lookup_eq_some_iff.mp qq
      exact (List.of_mem_zip (show (y,u)∈i.nm.zip vs by rw [e1];simp)).1
   ·have done:∀ vs' l',o' = .ins c l'→RDs X.W z.ρ z.G l' vs'→l'.length≤i.nm.length→(∀ g,(i.nm.zip vs').lookup g=if g=an f then some v else (i.nm.zip vs).lookup g)→Q () { z.s with heap:=h',toks:=z.s.toks+2 }:=fun vs' l' eo r hl lk=>by
     subst eo
     obtain ⟨od,es,ep',e1,e2,e3,e4,e5⟩:=om.ns
     obtain ⟨I2,g2⟩:=I.stw (s':={ z.s with heap:=h',toks:=z.s.toks+2 }) (o':=.ins c l') ep (.inr rfl) (fun b hb=>sb.2 b hb) ⟨i,vs',C.ci,w2,hl,⟨om.obj,om.ne,by rw [List.length_zip];omega,od,e1,es,ep',e2,e3,e4,fun nn=>(e5 nn).trans (lk nn).symm⟩,r⟩ rfl rfl
     exact h _ I2 g2
    rcases alt with ⟨z,eo⟩ | ⟨z,_,eo⟩
    ·exact done _ _ eo (w5.set _ rd) (by rw [List.length_set];exact w3) (nA C.nd hn (by omega))
    ·exact done _ _ eo (w5.app (.cons rd rfl)) (by rw [List.length_append];simp;omega) (kL C.nd (by rw [← lv,← z];exact hn))
 | _=>cases e
theorem mY (T:cA X an) (x:Go X z0 z) (I:Rep X z) {n f:Nat} {p:Addr×Addr} {d:D} {v:Value} {A:Around} {E:Value→Shared→Prop} {o:ar} (ep:z.ρ[n]? = some p) (rd:RD X.W z.ρ z.G d v) (e:o=(match (z.t.st[n]?).bind fun o=>fh X.Γ o f d with | some o=>.nx ⟨z.t.env,z.t.ow,z.t.st.set n o⟩ | none=>.bad)) (nb:o≠.bad):wpAny X.M A (setAttr (.ref p.1) (an f) v) (fun _ s'=>Ps X z0 o .next s') E z.s:=by
 cases q:(z.t.st[n]?).bind fun o=>fh X.Γ o f d with
 | none=>rw [q] at e;exact ZX e nb
 | some o'=>
   rw [q] at e
   obtain ⟨ob,q1,q2⟩:=Option.bind_eq_some_iff.mp q
   exact yp T I ep rd q1 q2 fun s' I2 g2=>nxt (z1:={ z with t:=⟨z.t.env,z.t.ow,z.t.st.set n o'⟩,s:=s' }) (x.trans g2) I2 e
def lI:E→Bool
 | .lst .nil=>false
 | .dic .nil=>false
 | _=>true
theorem ox (h:lI e=true):X.ex (.fld a f e) s=(X.ev false e s).go fun d s=>(X.ev true a s).go fun x s=>(match x with
        | .ref n=>(match (s.st[n]?).bind fun o=>fh X.Γ o f d with | some o=>.nx ⟨s.env,s.ow,s.st.set n o⟩ | none=>.bad)
        | _=>.bad):=by
 cases e with
 | lst es=>cases es <;> first | rfl | cases h
 | dic es=>cases es <;> first | rfl | cases h
 | _=>rfl
theorem dY :swapsWith e (some (.Attribute o x p)) l env=pure false:=by
 cases e <;> rfl
theorem lJ (I:Rep X z) (h:RB X.W z (.ref n) u):∃ p,z.ρ[n]? = some p∧u = .ref p.1:=h.cr0 I
theorem xu (T:cA X an) (hp:lI e=true) (ho:LE X eo a) (he:LE X ee e):LS X (.Assign [.Attribute eo (an f) p] ee pos) (.fld a f e):=fun z I nb=>plainObj_wpAny_Assign_Attribute ((he false).gos .refl I (ox hp) nb fun z1 d v y1 x1 I1 r1 e1=>(ho true).gos x1 I1 e1 nb fun z2 x u y2 x2 I2 r2 e2=>by
 cases x with
 | ref n=>
   obtain ⟨p,ep,rfl⟩:=lJ I2 r2.rb
   exact mY T x2 I2 ep (r1.rd.st y2.st) e2 nb
 | _=>exact ZX e2 nb) dY
theorem mN (T:cA X an) {o:ar} {o0:O} {s':Shared} {a:Addr} {i:Nat} {x:Str} (I:Rep X z) (g:Gr z.s s') (ha:z.h a=none) (r:∀ ρ,ObR X.W ρ z.G s'.heap.get? (a,a) o0) (hN:X.N[i]? = some x) (hv:Vis X.env.scope x) (hd:(x == ("__debug__":Str))=false) (hcd:(x == ("__classdict__":Str))=false)
 (e:o=((X.ev true (.v i) z.t).go fun x s=>(match x with
  | .ref n=>(match (s.st[n]?).bind fun o=>fh X.Γ o f (.ref s.st.length) with | some o=>.nx ⟨s.env,s.ow,(s.st ++ [o0]).set n o⟩ | none=>.bad)
  | _=>.bad))) (nb:o≠.bad):wpAny X.M X.A (eval (.Name x p1) X.env) (fun ov s2=>wpAny X.M X.A (setAttr ov (an f) (.ref a)) (fun _ s3=>Ps X z o .next s3) (PxS X z o) s2) (PxS X z o) s':=by
 obtain ⟨I1,x1⟩:=I.snoc (p:=(a,a)) g ⟨ha,ha⟩ (r _)
 have ev:X.ev true (.v i) z.t=(match z.t.env[i]? with | some (some d)=>.ok d z.t | _=>.bad):=rfl
 rw [ev] at e
 cases q:z.t.env[i]? with
 | none=>rw [q] at e;exact ZX e nb
 | some oo=>cases oo with
   | none=>rw [q] at e;exact ZX e nb
   | some d=>
     rw [q] at e
     obtain ⟨u,hu,ru⟩:=I1.slot (i:=i) (d:=d) q
     refine cw I1 hN hv hu ?_ hd hcd
     cases d with
     | ref n=>
       obtain ⟨p,ep,rfl⟩:=lJ I1 ru
       have e:o=(match (z.t.st[n]?).bind fun o=>fh X.Γ o f (.ref z.t.st.length) with | some o=>.nx ⟨z.t.env,z.t.ow,(z.t.st ++ [o0]).set n o⟩ | none=>.bad):=e
       refine mY T x1.go I1 ep (show RD X.W (z.ρ ++ [(a,a)]) z.G (.ref z.t.st.length) (.ref a) from ⟨_,ry I.toHR,rfl⟩) (e.trans ?_) nb
       show _=(match ((z.t.st ++ [o0])[n]?).bind fun o=>fh X.Γ o f (.ref z.t.st.length) with | some o=>ar.nx ⟨z.t.env,z.t.ow,(z.t.st ++ [o0]).set n o⟩ | none=>ar.bad)
       cases q1:z.t.st[n]? with
       | none=>rw [q1] at e;exact ZX e nb
       | some w=>rw [List.getElem?_append_left (List.getElem?_eq_some_iff.mp q1).1,q1]
     | _=>exact ZX e nb
theorem tZ (T:cA X an) (hN:X.N[i]? = some x) (hv:Vis X.env.scope x) (hd:(x == ("__debug__":Str))=false) (hcd:(x == ("__classdict__":Str))=false):LS X (.Assign [.Attribute (.Name x p1) (an f) p] (.Dict [] [] p2) pos) (.fld (.v i) f (.dic .nil)):=fun z I nb=>plainObj_wpAny_Assign_Attribute (wpAny_Dict_empty (mN (o0:=.dic [] []) T I (.push (t:=z.s.toks)) (aI z) (fun ρ=>⟨_,[],rfl,ZU.mpr (Nat.ne_of_gt I.sysm),Heap.get?_push_size _ rfl,by
 obtain ⟨o,es,ep,h1,h2,h3,h4,h5,h6⟩:=Heap.DictOf.new (knd:=ba X.W.P X.W.w) z.s.heap
 rw [Heap.get?_push_size _ rfl] at h1
 cases h1
 exact ⟨es,ep,h2,h3,h4,h5,h6,Nat.zero_le _⟩,rfl,rfl⟩) hN hv hd hcd rfl nb)) dY
theorem t0 (T:cA X an) (hN:X.N[i]? = some x) (hv:Vis X.env.scope x) (hd:(x == ("__debug__":Str))=false) (hcd:(x == ("__classdict__":Str))=false):LS X (.Assign [.Attribute (.Name x p1) (an f) p] (.List [] p2) pos) (.fld (.v i) f (.lst .nil)):=fun z I nb=>plainObj_wpAny_Assign_Attribute (wpAny_List_spliced (Calls.spliced_nil ⟨Nat.zero_le _,mN (o0:=.lst []) T I (.push (t:=z.s.toks)) (aI z) (fun ρ=>⟨_,[],rfl,Heap.get?_push_size _ rfl,⟨⟨_,rfl⟩,Nat.zero_le _⟩,rfl⟩) hN hv hd hcd rfl nb⟩)) dY
theorem uz {es:List D} {us:List Value} {o:Out D} (x:Ee X z0 z) (I:Rep X z) (r:RDs X.W z.ρ z.G es us) (hz:es.length≤100000) (e:o = .ok (.ref z.t.st.length) ⟨z.t.env,z.t.ow,z.t.st ++ [.lst es]⟩):Pe X z0 o (RV X.W br c) (.ref z.s.heap.objs.size) { z.s with heap:=z.s.heap.push { cls:=.type "list",data:=.seq us.toArray } }:=by
 obtain ⟨I1,x1⟩:=I.snoc (p:=(z.s.heap.objs.size,z.s.heap.objs.size)) (o:=.lst es) (.push (t:=z.s.toks)) ⟨aI z,aI z⟩ ⟨_,us,rfl,Heap.get?_push_size _ rfl,⟨⟨_,rfl⟩,by rw [← r.len];exact big hz⟩,r.mono (List.prefix_append _ _) (.refl _)⟩
 exact ⟨_,.ref z.t.st.length,rfl,e,x.trans x1,I1,.of (show RD X.W (z.ρ ++ [_]) z.G (.ref z.t.st.length) _ from ⟨_,ry I.toHR,rfl⟩)⟩
theorem mz (h:LA X er es):LE X (.List er pos) (.newl es):=fun br z I nb=>wpAny_List_spliced ((h false pos).go (f:=fun l s=>if l.length≤100000 then Out.ok (D.ref s.st.length) ⟨s.env,s.ow,s.st ++ [.lst l]⟩ else .bad) .refl I rfl nb fun z1 l us y1 x1 I1 r1 e1=>by
 by_cases c:l.length≤100000
 ·rw [ZZ c] at e1
  exact ⟨by rw [← r1.rds.len];exact big c,uz x1 I1 r1.rds c e1⟩
 ·rw [ZY c] at e1;exact ZX e1 nb)
theorem uc (hN:X.N.Nodup) (hi:X.N[i]? = some x) (hx:Loc X.env.scope x) (h:LA X er es) (hs:swapsWith (.List er lp) (some (.Name x pos')) pos.line X.env=pure false):LS X (.Assign [.Name x pos'] (.List er lp) pos) (.setR i es):=fun z I nb=>wpAny_Assign_Name (by
 have e:X.ex (.setR i es) z.t=(X.ev false (.newl es) z.t).go fun d s=>.nx (stV s i d false):=by
  show Out.go (X.evs false es z.t) _=Out.go (Out.bind (X.evs false es z.t) _) _
  cases X.evs false es z.t with
  | ok l s=>show (if l.length≤100000 then _ else _)=Out.go (if l.length≤100000 then _ else _) _;by_cases c:l.length≤100000 <;> simp only [c,if_true,if_false] <;> rfl
  | _=>rfl
 exact (mz h false).gos .refl I e nb fun z1 d u y x0 I1 r e1=>cg (own:=false) x0 I1 hN hi hx r.rd fun s' a _ _ I' g'=>nxt (z1:={ z1 with t:=stV z1.t i d false,σ:=z1.σ.set i (some u),s:=s' }) g' I' e1) hs
structure AugR (X:Cx) (op:Operator) (o:Op) (g:Int→Int→Int):Prop where
 op:∀ {A:Around} {s:Shared} {i j:Int} {t u:Tok} {Q:Value→Shared→Prop} {E:Value→Shared→Prop},Q (.int (g i j) s.toks) { s with toks:=s.toks+1 }→wpAny X.M A (inplaceOp op (.int i t) (.int j u)) Q E s
 od:∀ i j,opD o (.int i) (.int j)=some (.int (g i j))
 oi:∀ x c d,opD o x (.int c)=some d→∃ w,x = .int w
end
section
variable {prog:Program} {w:World} {A:Around} {E:Value→Shared→Prop} {s:Shared}
theorem ia {it l:Addr} {items:Array Value} (hne:l≠it):∀ (n i:Nat) (s:Shared) (Q:List Value→Shared→Prop),s.heap.IsListIter it l i→s.heap.IsList l items→i+n≤items.size →
 (∀ h',h'.IsListIter it l (i+n)→Heap.SameBut it s.heap h'→Q ((items.toList.drop i).take n) { s with heap:=h' })→wpAny (model prog w) A (draw (.ref it) n) Q E s
 | 0,i,s,Q,hit,_,_,hQ=>by
   show wpAny _ _ (pure []) Q E s
   exact wpAny_pure (by simpa using hQ s.heap hit (Heap.SameBut.refl ..))
 | n+1,i,s,Q,hit,ht,hle,hQ=>by
   have hlt:i<items.size:=by omega
   show wpAny _ _ (pyNext (.ref it) >>= _) Q E s
   refine wpAny_bind (wpAny_pyNext_list_item hit ht (x:=items[i]) (by simp [hlt]) fun h₁ hit₁ hs₁=>?_)
   refine wpAny_bind (wpAny_holding (ia hne n (i+1) _ _ hit₁ (ht.extBut hs₁.extBut hne) (by omega) fun h₂ hit₂ hs₂=>wpAny_pure ?_))
   have hd:items.toList.drop i=items[i] :: items.toList.drop (i+1):=by simp [List.drop_eq_getElem_cons,hlt]
   have:=hQ h₂ (by rw [show i+(n+1)=i+1+n by omega];exact hit₂) (hs₁.trans hs₂)
   rw [hd,List.take_succ_cons] at this
   exact this
theorem eO {l:Addr} {items:Array Value} {Q:List Value→Shared→Prop} (hh:A.handled=none) (ht:s.heap.IsList l items)
 (hQ:∀ h',Heap.ExtBut s.heap.objs.size s.heap h'→Q items.toList { s with heap:=h' }):wpAny (model prog w) A (unpackItems (.ref l) items.size none) Q E s:=by
 have hlt:l≠s.heap.objs.size:=by obtain ⟨o,ho,_⟩:=ht;exact Nat.ne_of_lt (Heap.lt_size ho)
 unfold unpackItems
 refine wpAny_bind ?_
 unfold notIterableAtAll
 refine wpAny_bind (wpAny_specialOf ht.typeIs slot_list_iter.lookup ?_)
 refine wpAny_pure ?_
 simp only [Bool.false_eq_true,if_false]
 refine wpAny_bind (wpAny_holding (wpAny_pyIter_list ht ?_))
 refine wpAny_bind (wpAny_holding (ia hlt items.size 0 _ _ ⟨_,Heap.get?_push_size _ rfl,rfl,rfl⟩ (ht.push _) (by omega) fun h₁ hit₁ hs₁=>?_))
 have hall:List.take items.size (List.drop 0 items.toList)=items.toList:=by
  rw [List.drop_zero];exact List.take_of_length_le (by simp)
 rw [hall]
 rw [ZY (by simp)]
 have ht₁:h₁.IsList l items:=(ht.push _).extBut hs₁.extBut hlt
 refine wpAny_bind (wpAny_holding (wpAny_pyNext_list_end hh hit₁ ht₁ (by simp) fun h₂ he₂=>?_))
 simp only [Option.isSome_none,Bool.false_eq_true,if_false]
 exact wpAny_pure (hQ h₂ fun b o hb e=>he₂ b o hb (hs₁.extBut b o hb (Heap.get?_push_of_some _ e)))
end
section
variable {X:Cx} {z z' z0 z1:Z}
def binds (env:List (Option D)) (l:List (Nat×D)):List (Option D):=l.foldl (fun e p=>e.set p.1 (some p.2)) env
def yP (t:Sta) (ts:List Nat) (ds:List D):Sta:=⟨binds t.env (ts.zip ds),t.ow.filter fun i=>!ts.contains i,t.st⟩
def As (X:Cx):List (Value→Sem Unit)→List Nat→Prop
 | f :: fs,i :: t=>(∃ x,X.N[i]? = some x∧Loc X.env.scope x∧∀ {v Q E s},wpAny X.M X.A (storeName X.env x v) Q E s→wpAny X.M X.A (f v) Q E s)∧As X fs t
 | [],[]=>True
 | _,_=>False
theorem uW {Q:Unit→Shared→Prop} {E:Value→Shared→Prop} (hN:X.N.Nodup):∀ {fs t ds us z},As X fs t→Go X z0 z→Rep X z→RDs X.W z.ρ z.G ds us→ds.length=t.length→(∀ z',Go X z0 z'→Rep X z'→z'.ρ=z.ρ→z'.G=z.G→z'.t=yP z.t t ds→(∀ j,j ∉ t→z'.σ[j]? = z.σ[j]?)→((∀ i∈t,∀ x,X.N[i]? = some x→X.env.scope.names.lookup x=some .local)→∀ b o,z.h b=some o→b≠X.env.locals→z'.h b=some o)→Q () z'.s)→wpAny X.M X.A (assignInOrder fs us) Q E z.s
 | [],[],[],us,z,_,x,I,r,_,h=>assignInOrder_nil (h z x I rfl rfl (by
   have:z.t.ow.filter (fun i=>!([]:List Nat).contains i)=z.t.ow:=List.filter_eq_self.mpr fun _ _=>rfl
   show z.t=⟨z.t.env,_,z.t.st⟩
   rw [this]) (fun _ _=>rfl) fun _ _ _ e _=>e)
 | f :: fs,i :: t,d :: ds,us,z,⟨⟨x',h1,h2,h3⟩,ha⟩,x,I,r,hl,h=>by
   obtain ⟨u,vs,rfl,r1,r2⟩:=r
   refine assignInOrder_cons (h3 (cg (own:=false) x I hN h1 h2 r1 fun s' a sb la I' g'=>?_))
   refine uW hN (z:={ z with t:=stV z.t i d false,σ:=z.σ.set i (some u),s:=s' }) ha g' I' r2 (Nat.succ.inj hl) fun z' gz Iz eρ eG et eσ ek=>h z' gz Iz eρ eG (et.trans ?_) (fun j nj=>?_) fun lc b o e nb=>ek (fun i' m=>lc i' (List.mem_cons_of_mem _ m)) b o ((sb.2 b fun q=>nb (q.trans (la.2 (lc i List.mem_cons_self x' h1)))).trans e) nb
   ·show (⟨binds (z.t.env.set i (some d)) (t.zip ds),(z.t.ow.filter (· != i)).filter (fun j=>!t.contains j),z.t.st⟩:Sta)=⟨binds (z.t.env.set i (some d)) (t.zip ds),z.t.ow.filter (fun j=>!(i :: t).contains j),z.t.st⟩
    rw [List.filter_filter]
    congr 1
    refine List.filter_congr fun j _=>?_
    rw [List.contains_cons,Bool.not_or,Bool.and_comm];rfl
   ·rw [List.mem_cons,not_or] at nj
    exact (eσ j nj.2).trans (List.getElem?_set_ne (Ne.symm nj.1))
 | [],_ :: _,_,_,_,h,_,_,_,_,_=>h.elim
 | _ :: _,[],_,_,_,h,_,_,_,_,_=>h.elim
 | [],[],_ :: _,_,_,_,_,_,_,hl,_=>by cases hl
 | _ :: _,_ :: _,[],_,_,_,_,_,_,hl,_=>by cases hl
def LG (X:Cx) (tg:Expr) (t:List Nat) (one:Bool):Prop:=∀ (z0 z:Z) (d:D) (u:Value) (env:List (Option D)) (Q:Unit→Shared→Prop) (E:Value→Shared→Prop),Go X z0 z→Rep X z→RD X.W z.ρ z.G d u→aL t one d z.t.env=some env →
 (∀ z',Go X z0 z'→Rep X z'→z'.ρ=z.ρ→Go X z z'→z'.t=⟨env,z.t.ow.filter fun i=>!t.contains i,z.t.st⟩→(∀ j,j ∉ t→z'.σ[j]? = z.σ[j]?)→((∀ i∈t,∀ x,X.N[i]? = some x→X.env.scope.names.lookup x=some .local)→∀ b o,z.h b=some o→b≠X.env.locals→z'.h b=some o)→Q () z'.s)→wpAny X.M X.A (assign tg X.env u) Q E z.s
theorem tQ (hN:X.N.Nodup) (hi:X.N[i]? = some x) (hx:Loc X.env.scope x):LG X (.Name x pos) [i] true:=fun z0 z d u env Q E x0 I r e h=>by
 cases (show some (z.t.env.set i (some d))=some env from e)
 refine wpAny_assign_Name (cg (own:=false) .refl I hN hi hx r fun s' a sb la I' g'=>h { z with t:=stV z.t i d false,σ:=z.σ.set i (some u),s:=s' } (x0.trans g') I' rfl g' ?_ (fun j nj=>?_) fun lc b o e nb=>(sb.2 b fun q=>nb (q.trans (la.2 (lc i (List.mem_singleton.mpr rfl) x hi)))).trans e)
 ·show (⟨_,z.t.ow.filter (· != i),z.t.st⟩:Sta)=⟨_,z.t.ow.filter (fun j=>![i].contains j),z.t.st⟩
  congr 1
  refine List.filter_congr fun j _=>?_
  by_cases c:j=i <;> simp [c]
 ·exact List.getElem?_set_ne fun w=>nj (by rw [w];exact List.mem_singleton.mpr rfl)
theorem rZ {n:Nat} {Q:List Value→Shared→Prop} {E:Value→Shared→Prop} {d:D} {l:List D} (hc:X.calm=true) (I:Rep X z) (r:RD X.W z.ρ z.G d u) (e:d = .tup l∨d = .lst l) (hn:l.length=n) (q:∀ s' us,Gr z.s s'→RDs X.W z.ρ z.G l us→Q us s'):wpAny X.M X.A (unpackItems u n none) Q E z.s:=by
 subst hn
 rcases e with rfl | rfl
 ·obtain ⟨a,o,vs,rfl,g,⟨tc,⟨k,td⟩,tl⟩,r⟩:=r
  rw [show l.length=vs.toArray.size by simp [r.len]]
  exact wpAny_unpackItems_tuple (I.hd hc) (show z.s.heap.IsTuple a vs.toArray from ⟨o,I.gh _ _ g,tc,⟨k,td⟩⟩) fun h' hx=>q _ _ (.hp (t:=z.s.toks) fun b o e=>hx b o (Nat.ne_of_lt (Heap.lt_size e)) e) (by simpa using r)
 ·obtain ⟨a,o,vs,rfl,g,⟨⟨k,rfl⟩,tl⟩,r⟩:=r
  rw [show l.length=vs.toArray.size by simp [r.len]]
  exact eO (I.hd hc) (show z.s.heap.IsList a vs.toArray from ⟨_,I.gh _ _ g,rfl,⟨k,rfl⟩⟩) fun h' hx=>q _ _ (.hp (t:=z.s.toks) fun b o e=>hx b o (Nat.ne_of_lt (Heap.lt_size e)) e) (by simpa using r)
theorem pF (e:aL t false d env=some env'):∃ l,(d = .tup l∨d = .lst l)∧l.length=t.length∧env'=binds env (t.zip l):=by
 cases d with
 | tup l=>obtain ⟨c,e⟩:=bj (show (if l.length=t.length then some (binds env (t.zip l)) else none)=some env' from e);cases e;exact ⟨l,.inl rfl,c,rfl⟩
 | lst l=>obtain ⟨c,e⟩:=bj (show (if l.length=t.length then some (binds env (t.zip l)) else none)=some env' from e);cases e;exact ⟨l,.inr rfl,c,rfl⟩
 | _=>cases e
theorem qS {es:List Expr} {k:Nat} {pos:Pos} (hc:X.calm=true) (hN:X.N.Nodup) (ha:As X ((assignEach es X.env).map (·.2)) t) (hn:(assignEach es X.env).length=t.length) (hst:(assignEach es X.env).findIdx? (·.1)=none):LG X (.Tuple es k pos) t false:=fun z0 z d u env Q E x0 I r e h=>by
 obtain ⟨l,dl,hl,rfl⟩:=pF e
 rw [assign_Tuple]
 refine wpAny_bind (wpAny_standAt ?_)
 unfold unpack
 rw [hn,hst]
 refine wpAny_bind (wpAny_holding (rZ hc I r dl hl fun s' us g rs=>?_))
 exact uW (z:={ z with s:=s' }) hN ha (aF I.gh g).ee.go (I.grow (aF I.gh g)) rs hl fun z' gz Iz eρ eG et eσ ek=>h z' (x0.trans gz) Iz eρ gz et eσ fun lc b o e nb=>ek lc b o (g.k b o e) nb
theorem ud (he:LE X e c) (hg:LG X tg t false) (hs:swapsWithSole [tg] e pos.line X.env=pure false) (hw:swappedStores [tg] e X.env=pure none) (h1:(assignEach [tg] X.env).map (·.2) = [assign tg X.env]):LS X (.Assign [tg] e pos) (.setT t c):=fun z I nb=>wpAny_Assign_stores ((he false).gos .refl I rfl nb fun z1 d u y x0 I1 r e1=>by
 rw [h1]
 cases q:aL t false d z1.t.env with
 | none=>rw [q] at e1;exact ZX e1 nb
 | some env=>
   rw [q] at e1
   exact hg z z1 d u env _ _ x0 I1 r.rd q fun z' gz Iz _ _ et _ _=>nxt gz Iz (by rw [et];exact e1)) hs hw
end
section
variable {X:Cx} {z:Z}
def isV:E→Bool
 | .v _=>true
 | _=>false
theorem t9 (hn:aP eb=true) (hv:isV a=false) (ho:LE X eo a) (hb:LE X eb b) (he:LE X ee e):LS X (.Assign [.Subscript eo eb p2] ee pos) (.put a b e):=fun z I nb=>by
 have e0:X.ex (.put a b e) z.t=(X.ev false e z.t).go fun d s=>(X.ev true a s).go fun x s=>(X.ev true b s).go fun k s=>(match x with
  | .ref n=>(match (s.st[n]?).bind fun o=>d5 o k d with | some o=>.nx ⟨s.env,s.ow,s.st.set n o⟩ | none=>.bad)
  | _=>.bad):=by cases a <;> first | rfl | cases hv
 refine lT hn ((he false).gos (K:=fun v s'=>∃ z1 d,z1.s=s'∧Go X z z1∧Rep X z1∧RD X.W z1.ρ z1.G d v∧X.ex (.put a b e) z.t=((X.ev true a z1.t).go fun x s=>(X.ev true b s).go fun k s=>(match x with
  | .ref n=>(match (s.st[n]?).bind fun o=>d5 o k d with | some o=>.nx ⟨s.env,s.ow,s.st.set n o⟩ | none=>.bad)
  | _=>.bad))) .refl I e0 nb fun z1 d u y x1 I1 r1 e1=>⟨z1,d,rfl,x1,I1,r1.rd,e1⟩) fun v s' ⟨z1,d,q,x1,I1,r1,e1⟩=>?_
 subst q
 exact (ho true).gos x1 I1 e1 nb fun z2 x u y2 x2 I2 r2 e2=>(hb true).gos x2 I2 e2 nb fun z3 k kv y3 x3 I3 r3 e3=>by
  cases x with
  | ref n=>
    obtain ⟨p,ep,rfl⟩:=lJ I3 (r2.rb.st y3 I3)
    exact rO x3 I3 ep (r3.rb.cr0 I3) ((r1.st y2.st).st y3.st) e3 nb
  | _=>exact ZX e3 nb
end
structure Itr (W:Wd) (tg:Expr) (it:Addr) (fp wr:List Addr) (ds:List D) (ρ:Rs) (G:Hp) (St:Nat→Heap→Prop):Prop where
 sub:∀ b∈wr,b∈fp
 keep:∀ i h h',St i h→(∀ b∈fp,∀ o,h.get? b=some o→h'.get? b=some o)→St i h'
 ex:∀ i h,St i h→∀ b∈wr,∃ o,h.get? b=some o
 item:∀ {A:Around} {i:Nat} {d:D} {s:Shared},A.handled=none→ds[i]? = some d→St i s.heap→wpAny (model W.P W.w) A (pyNext (.ref it)) (fun r s1=>∃ u,r=some u∧wpAny (model W.P W.w) A (letOwnedTupleGo tg (.ref it) u) (fun _ s2=>St (i+1) s2.heap∧(s2.os=s.os∧s2.gens=s.gens)∧(∀ b o,b ∉ wr→s.heap.get? b=some o→s2.heap.get? b=some o) ∧
  ∀ ρ' G',ρ <+: ρ'→Sub G G'→(∀ a o,s.heap.get? a=none→s2.heap.get? a=some o→G' a=some o)→RD W ρ' G' d u) NoE s1) NoE s
 done:∀ {A:Around} {s:Shared},A.handled=none→St ds.length s.heap→wpAny (model W.P W.w) A (pyNext (.ref it)) (fun r s2=>r=none∧(s2.os=s.os∧s2.gens=s.gens)∧∀ b o,b ∉ wr→s.heap.get? b=some o→s2.heap.get? b=some o) NoE s
 self:∀ {A:Around} {i:Nat} {s:Shared} {Q:Value→Shared→Prop} {E:Value→Shared→Prop},A.handled=none→St i s.heap→Q (.ref it) s→wpAny (model W.P W.w) A (pyIter (.ref it)) Q E s
def Fp (X:Cx) (z0 z:Z) (fp wr:List Addr):Prop:=∀ b∈fp,(Nob X z0 z b∧∃ o,z.h b=some o)∨(b ∉ wr∧∃ o,z.G b=some o)
section
variable {X:Cx} {z z' z0 z1:Z}
theorem Nob.go (x:Go X z z') (n:Nob X z0 z b) (e:z.h b=some o):Nob X z0 z' b∧z'.h b=some o:=by
 obtain ⟨n0,⟨f1,f2,f3,f4⟩,f5⟩:=n
 have no:∀ {P:Prop},z.h b=none→P:=fun w=>by rw [w] at e;cases e
 refine ⟨⟨n0,⟨?_,fun m=>(x.st.rn b m).elim f2 no,f3,f4⟩,fun w=>(x.ow b w).elim f5 no⟩,x.st.sm b o e f2 (fun w=>w.elim f5 f4) f3⟩
 cases q:z'.G b with
 | none=>rfl
 | some o'=>
   rcases x.st.gn b o' q with w | w | w
   ·rw [f1] at w;cases w
   ·exact no w
   ·exact (w.elim f5 f4).elim
theorem Fp.go (x:Go X z z') (f:Fp X z0 z fp wr):Fp X z0 z' fp wr:=fun b hb=>(f b hb).imp (fun ⟨n,o,e⟩=>let ⟨a,b⟩:=n.go x e;⟨a,o,b⟩) fun ⟨n,o,e⟩=>⟨n,o,x.st.gg b o e⟩
theorem Fp.keep (x:Go X z z') (I:Rep X z) (I':Rep X z') (f:Fp X z0 z fp wr):∀ b∈fp,∀ o,z.h b=some o→z'.h b=some o:=fun b hb o e=>by
 rcases f b hb with ⟨n,o',e'⟩ | ⟨_,o',e'⟩
 ·exact (n.go x e).2
 ·rw [I.gh b o' e'] at e;cases e;exact I'.gh b _ (x.st.gg b _ e')
theorem Rep.turn {s':Shared} {wr:List Addr} {w:Addr→Prop} (x:Stp X.fr w z0 z) (I:Rep X z) (hw:∀ b∈wr,Nob X z0 z b∧∃ o,z.h b=some o) (k:∀ b o,b ∉ wr→z.h b=some o→s'.heap.get? b=some o) (os:s'.os=z.s.os∧s'.gens=z.s.gens):Rep X (z.up s')∧Stp X.fr w z0 (z.up s')∧Sub z.G (z.up s').G∧∀ b∈wr,Nob X z0 (z.up s') b:=by
 have gd:∀ a,(z.up s').G a=match z.h a with | none=>s'.heap.get? a | some _=>z.G a:=fun _=>rfl
 have nG:∀ {b o},z.G b=some o→b ∉ wr:=fun e m=>by rw [(hw _ m).1.2.1.1] at e;cases e
 have nM:∀ {b},Mu z.ρ b→b ∉ wr:=fun h m=>(hw _ m).1.2.1.2.1 h
 have nf:∀ {b},b∈frs X.fr→b ∉ wr:=fun h m=>(hw _ m).1.2.1.2.2.1 h
 have nL:∀ {b},Lc X b→b ∉ wr:=fun h m=>(hw _ m).1.2.1.2.2.2 h
 have nO:∀ {b},Own z b→b ∉ wr:=fun h m=>(hw _ m).1.2.2 h
 have gg:Sub z.G (z.up s').G:=fun a o e=>by rw [gd,I.gh a o e];exact e
 have nn:∀ {a:Addr},(∃ o,z.h a=some o)→z.G a=none→(z.up s').G a=none:=fun {a} ⟨o,e⟩ n=>by rw [gd,e];exact n
 have gh:Sub (z.up s').G s'.heap.get?:=fun a o e=>by
  rw [gd] at e
  cases q:z.h a with
  | none=>rw [q] at e;exact e
  | some u=>rw [q] at e;exact k a o (nG e) (I.gh a o e)
 have ck:∀ x c v,X.env.cells.lookup x=some c→z.s.heap.IsCell c v→s'.heap.IsCell c v:=fun x c v e ⟨o,q,d⟩=>⟨o,k c o (nL (.inr ⟨x,e⟩)) q,d⟩
 have fu:s'.heap.FunFrames X.base X.fr:=by
  have:∀ {l:List Env},(∀ b∈frs l,b ∉ wr)→z.s.heap.FunFrames X.base l→s'.heap.FunFrames X.base l:=fun {l}=>by
   induction l with
   | nil=>exact fun _ _=>trivial
   | cons v r ih=>
     intro hs ⟨a,⟨L,o,e1,e2,e3,e4⟩,q⟩
     have hm:L∈frs (v :: r):=by unfold frs;rw [List.filterMap_cons,e1];exact List.mem_cons_self
     exact ⟨a,⟨L,o,e1,e2,k L o (hs L hm) e3,e4⟩,ih (fun b hb=>hs b (by unfold frs;rw [List.filterMap_cons,e1];exact List.mem_cons_of_mem _ hb)) q⟩
  exact this (fun b h=>nf h) I.fu
 have gn:∀ a o,(z.up s').G a=some o→z.G a=some o∨z.h a=none:=fun a o e=>by
  rw [gd] at e
  cases q:z.h a with
  | none=>exact .inr rfl
  | some u=>rw [q] at e;exact .inl e
 refine ⟨⟨⟨I.md,I.fm,I.hd,fun b o e=>gg _ _ (I.bs b o e),gh,I.rl,I.rn,fun a m=>nn (I.th m) (I.rg a m),fun n o p h1 h2=>(I.ob n o p h1 h2).mono (List.prefix_refl _) gg fun a ha o e=>k a o (nM ⟨p,List.mem_of_getElem? h2,ha⟩) e,fu,fun b m=>⟨nn (I.fth m) (I.ff b m).1,(I.ff b m).2⟩,by show AllBare s'.gens;rw [os.2];exact I.br,os.1.trans I.os⟩,I.ok,?_,fun x c e=>let ⟨v,q⟩:=I.ce x c e;⟨v,ck x c v e q⟩,fun a l=>⟨nn (I.lth l) (I.fl a l).1,(I.fl a l).2⟩,I.el,I.sl,fun i d n e=>let ⟨u,q,r⟩:=I.en i d n e;⟨u,q,r.mono (List.prefix_refl _) gg⟩,fun i m=>?_,I.od⟩,⟨x.pr,x.gg.trans gg,fun a o e=>?_,x.rn,fun a o e=>?_,fun a o e n w f=>?_,fun a o e n w f=>?_⟩,gg,fun b hb=>let ⟨⟨n0,f,no⟩,ex⟩:=hw b hb;⟨n0,⟨nn ex f.1,f.2⟩,no⟩⟩
 ·obtain ⟨m,⟨oL,es,ep,q,r⟩,hl⟩:=I.lo
  exact ⟨m,⟨oL,es,ep,k _ _ (nL (.inl rfl)) q,r⟩,fun j x w e1 e2 e3=>cV (fun c v e q=>ck x c v e q) (hl j x w e1 e2 e3)⟩
 ·obtain ⟨d,a,o,h1,h2,h3,r,f⟩:=I.eo i m
  exact ⟨d,a,o,h1,h2,h3,r.mono (List.prefix_refl _) gg fun c hc o e=>k c o (by rcases hc with rfl | rfl <;> exact nO ⟨i,m,h2⟩) e,nn r.th.1 f.1,f.2⟩
 ·rcases gn a o e with w | w
  ·exact x.gn a o w
  ·exact .inr (.inl (x.no w))
 ·obtain ⟨o1,e1⟩:=x.th a o e
  by_cases m:a∈wr
  ·rw [(hw a m).1.1] at e;cases e
  ·exact ⟨o1,k a o1 m e1⟩
 ·exact k a o (fun m=>by rw [(hw a m).1.1] at e;cases e) (x.sm a o e n w f)
 ·obtain ⟨sl,q⟩:=x.sl a o e n w f
  exact ⟨sl,k a _ (fun m=>by rw [(hw a m).1.1] at e;cases e) q⟩
theorem Fp.up {s':Shared} {wr wr':List Addr} (I:Rep X z) (f:Fp X z0 z fp wr) (g:Sub z.G (z.up s').G) (k:∀ b o,b ∉ wr'→z.h b=some o→s'.heap.get? b=some o) (ex:∀ b∈wr',b∈fp→∃ o,s'.heap.get? b=some o):Fp X z0 (z.up s') fp wr:=fun b hb=>(f b hb).imp (fun ⟨⟨n0,ff,no⟩,o',e'⟩=>⟨⟨n0,⟨by show (match z.h b with | none=>s'.heap.get? b | some _=>z.G b)=none;rw [e'];exact ff.1,ff.2⟩,no⟩,by
 by_cases m:b∈wr'
 ·exact ex b m hb
 ·exact ⟨o',k b o' m e'⟩⟩) fun ⟨m,o',e'⟩=>⟨m,o',g b o' e'⟩
theorem Fp.wr {wr:List Addr} {St:Nat→Heap→Prop} (T:Itr W tg it fp wr ds ρ G St) (st:St i z.s.heap) (f:Fp X z0 z fp wr):∀ b∈wr,Nob X z0 z b∧∃ o,z.h b=some o:=fun b hb=>(f b (T.sub b hb)).elim id fun ⟨n,_⟩=>ZX hb n
def LI (X:Cx) (tg e:Expr) (c:E):Prop:=∀ z,Rep X z→X.ev false c z.t≠.bad→wpAny X.M X.A (eval e X.env) (fun v s1=>wpAny X.M X.A (pyIter v) (fun itv s2=>∃ z1 ds it fp wr St,z1.s=s2∧X.ev false c z.t = .ok (.lst ds) z1.t∧Ee X z z1∧Rep X z1∧itv = .ref it∧Itr X.W tg it fp wr ds z1.ρ z1.G St∧St 0 s2.heap∧Fp X z z1 fp wr) NoE s1) (Px X z (X.ev false c z.t)) z.s
def FI (X:Cx) (z:Z) (tg:Expr) (o:Out D) (itv:Value) (s2:Shared):Prop:=∃ z1 ds it fp wr St,z1.s=s2∧o = .ok (.lst ds) z1.t∧Ee X z z1∧Rep X z1∧itv = .ref it∧Itr X.W tg it fp wr ds z1.ρ z1.G St∧St 0 s2.heap∧Fp X z z1 fp wr
theorem lY {ds:List α} {i:Nat} (h:ds[i]? = some d):ds.drop i=d :: ds.drop (i+1):=by
 obtain ⟨hi,rfl⟩:=List.getElem?_eq_some_iff.mp h
 exact List.drop_eq_getElem_cons hi
inductive FoJ (X:Cx) (z z1:Z) (ds:List D) (St:Nat→Heap→Prop) (fp wr:List Nat) (o:ar) (f:D→Sta→ar) (n:Nat) (s:Shared):Prop
 | mk (i:Nat) (z':Z) (_:z'.s=s) (_:n=ds.length - i) (_:i≤ds.length) (_:Go X z z') (_:Rep X z') (_:St i s.heap) (_:Fp X z z' fp wr) (_:z1.ρ <+: z'.ρ) (_:Sub z1.G z'.G) (_:o=bc f (ds.drop i) z'.t)
theorem xv {t:List Nat} {one:Bool} (hc:X.calm=true) (hp:∀ z o,PassesOwn X.M X.A X.env (PxS X z o)) (hi:LI X tg iter it) (hg:LG X tg t one) (hb:LSs X body b) (hs:∀ x,foldedSetIterable iter X.env x=pure x):LS X (.For tg iter body [] pos) (.for_ t one it b):=fun z I nb=>by
 let f:D→Sta→ar:=fun d s=>match aL t one d s.env with | some env=>X.ex b ⟨env,s.ow.filter fun i=>!t.contains i,s.st⟩ | none=>.bad
 have e0:X.ex (.for_ t one it b) z.t=(X.ev false it z.t).go fun x s=>(match x with | .lst ds=>bc f ds s | _=>.bad):=rfl
 generalize X.ex (.for_ t one it b) z.t=o at e0 nb
 have nb0:X.ev false it z.t≠.bad:=fun q=>nb (by rw [e0,q];rfl)
 refine wpAny_For (wpAny_mono (hi z I nb0) (fun v s1 h1=>wpAny_mono h1 (fun itv s2 h2=>?_) fun _ _ w=>w.elim) fun u s' h=>?_) hs
 rotate_left
 ·rw [e0];exact .of .refl h
 obtain ⟨z1,ds,a,fp,wr,St,q1,q2,x1,I1,q3,T,st1,f1⟩:=h2
 subst q1 q3
 rw [q2] at e0
 have e0:o=bc f ds z1.t:=e0
 refine codeAny_forLoop_any (FoJ X z z1 ds St fp wr o f) ?_ (ds.length - 0) ⟨0,z1,rfl,rfl,Nat.zero_le _,x1.go,I1,st1,f1,List.prefix_refl _,.refl _,by rw [List.drop_zero];exact e0⟩
 rintro n s3 ⟨i,z3,e3,en,hi,x3,I3,st3,f3,p3,g3,q⟩
 subst e3
 cases qd:ds[i]? with
 | none=>
   have hl:i=ds.length:=by rw [List.getElem?_eq_none_iff] at qd;omega
   subst hl
   refine wpAny_passesOwn (hp z o) (wpAny_mono (T.done (I3.hd hc) st3) (fun r s4 ⟨er,os,k⟩=>?_) fun _ _ w=>w.elim)
   subst er
   obtain ⟨I4,x4,_⟩:=I3.turn x3.st (f3.wr T st3) k os
   rw [List.drop_length] at q
   exact wpAny_execs_nil (nxt (z1:=z3.up s4) ⟨x4,x3.ow⟩ I4 q)
 | some d=>
   have hil:i<ds.length:=(List.getElem?_eq_some_iff.mp qd).1
   rw [lY qd] at q
   have q:o=(f d z3.t).go fun s=>bc f (ds.drop (i+1)) s:=q
   refine wpAny_passesOwn (hp z o) (wpAny_mono (T.item (I3.hd hc) qd st3) (fun r s4 ⟨u,er,h4⟩=>?_) fun _ _ w=>w.elim)
   subst er
   refine wpAny_passesOwn (hp z o) (wpAny_mono h4 (fun _ s5 ⟨st5,os5,k5,rd5⟩=>?_) fun _ _ w=>w.elim)
   have hw:=f3.wr T st3
   obtain ⟨I5,x5',g5,n5⟩:=I3.turn x3.st hw k5 os5
   have x5:Go X z (z3.up s5):=⟨x5',x3.ow⟩
   have rd:=rd5 z3.ρ (z3.up s5).G p3 (g3.trans g5) fun a o e1 e2=>by rw [jz e1];exact e2
   have f5:Fp X z (z3.up s5) fp wr:=f3.up I3 g5 k5 fun b m _=>T.ex _ _ st5 b m
   cases qb:aL t one d z3.t.env with
   | none=>exact ZX (show o = .bad by rw [q];show ar.go (match aL t one d z3.t.env with | some env=>X.ex b ⟨env,z3.t.ow.filter fun i=>!t.contains i,z3.t.st⟩ | none=>.bad) _=_;rw [qb];rfl) nb
   | some env=>
     have q:o=(X.ex b ⟨env,z3.t.ow.filter fun i=>!t.contains i,z3.t.st⟩).go fun s=>bc f (ds.drop (i+1)) s:=by rw [q];show ar.go (match aL t one d z3.t.env with | some env=>X.ex b ⟨env,z3.t.ow.filter fun i=>!t.contains i,z3.t.st⟩ | none=>.bad) _=_;rw [qb]
     refine wpAny_passesOwn (hp z o) (hg z (z3.up s5) d u env _ _ x5 I5 rd qb fun z6 x6 I6 eρ y6 et eσ _=>?_)
     rw [← show z6.t=(⟨env,z3.t.ow.filter fun i=>!t.contains i,z3.t.st⟩:Sta) from et] at q
     have nb6:X.ex b z6.t≠.bad:=fun w=>nb (by rw [q,w];rfl)
     refine wpAny_passesOwn (hp z o) (wpAny_mono (hb z6 I6 nb6) (fun fl s7 h7=>?_) fun u s' h=>?_)
     ·cases qx:X.ex b z6.t with
      | nx t7=>
        rw [qx] at h7 q
        obtain ⟨rfl,z7,e7,et7,x7,I7⟩:=h7
        subst e7 et7
        exact ⟨ds.length - (i+1),by omega,i+1,z7,rfl,rfl,hil,x6.trans x7,I7,T.keep _ _ _ st5 ((f5.keep (y6.trans x7) I5 I7)),f5.go (y6.trans x7),(p3.trans (eρ ▸ List.prefix_refl _:z3.ρ <+: z6.ρ)).trans x7.st.pr,(g3.trans g5).trans (y6.st.gg.trans x7.st.gg),q⟩
      | rt d7 t7=>
        rw [qx] at h7 q
        obtain ⟨u7,z7,rfl,r7⟩:=h7
        have:=Ps.less x6 (show Ps X z6 (.rt d7 t7) (.ret u7) s7 from ⟨u7,z7,rfl,r7⟩)
        show Ps X z o (.ret u7) s7
        rw [q];exact this
      | exc c l t7=>rw [qx] at h7;exact h7.elim
      | bad=>exact ZX qx nb6
     ·obtain ⟨z7,c,l,e7,qx,r7⟩:=h.less x6
      exact ⟨z7,c,l,e7,by rw [q,qx];rfl,r7⟩
end
theorem nin (n j k a:Nat) (h:j≠k) (ha:a<n):n+j ∉ [n+k,a]:=by simp;omega
theorem fP {h:Heap} (n:h.objs.size≤a):h.get? a=none:=Heap.get?_none_of_le n
section
variable {W:Wd} {tg:Expr} {it:Addr} {fp wr:List Addr} {ds:List D} {ρ:Rs} {G:Hp} {St:Nat→Heap→Prop}
theorem Itr.walks {P:Nat→Value→Prop} {A0:Around} (h0:A0.handled=none) {n:Nat} (hn:ds.length=n) (w:∀ A,A.handled=none→Walks W.P W.w A it fp wr n P St) (ex:∀ i h,St i h→∀ b∈wr,∃ o,h.get? b=some o) (go:∀ {A:Around} {s:Shared} {u:Value} {Q:Unit→Shared→Prop} {E:Value→Shared→Prop} {i:Nat},St i s.heap→Q () s→wpAny (model W.P W.w) A (letOwnedTupleGo tg (.ref it) u) Q E s)
 (hP:∀ i v d,P i v→ds[i]? = some d→∀ ρ' G',ρ <+: ρ'→Sub G G'→RD W ρ' G' d v):Itr W tg it fp wr ds ρ G St where
 sub:=(w A0 h0).sub
 keep:=(w A0 h0).frame
 ex:=ex
 item:=fun {A i d s} h e st=>(w A h).item i s _ _ (hn ▸ (List.getElem?_eq_some_iff.mp e).1) st fun v h' tk p st' k=>⟨v,rfl,go (s:={ s with heap:=h',toks:=tk }) st' ⟨st',⟨rfl,rfl⟩,fun b o n q=>k b o n q,fun ρ' G' h1 h2 _=>hP i v d p e ρ' G' h1 h2⟩⟩
 done:=fun {A s} h st=>(w A h).done s _ _ (hn ▸ st) fun h' tk k=>⟨rfl,⟨rfl,rfl⟩,k⟩
 self:=fun {A i s Q E} h st q=>(w A h).self i s Q E st q
abbrev Exa (h:Heap) (T:Addr):Prop:=∀ o,h.get? T=some o→o.dict=none
theorem Itr.walksT {Pt:Nat→Array Value→Prop} {Mid:Nat→Addr→Heap→Prop} {A0:Around} {elts:List Expr} {k:Nat} {pos:Pos} (h0:A0.handled=none) {n:Nat} (hn:ds.length=n) (w:∀ A,A.handled=none→WalksT W.P W.w A it fp wr n Pt St Mid) (ex:∀ i h,St i h→∀ b∈wr,∃ o,h.get? b=some o) (hm:∀ i T h,Mid i T h→Exa h T)
 (hP:∀ i vals d,Pt i vals→ds[i]? = some d→vals.size≤sizeLine∧∃ l,d = .tup l∧∀ ρ' G',ρ <+: ρ'→Sub G G'→RDs W ρ' G' l vals.toList):Itr W (.Tuple elts k pos) it fp wr ds ρ G St where
 sub:=(w A0 h0).sub
 keep:=(w A0 h0).frame
 ex:=ex
 item:=fun {A i d s} h e st=>(w A h).item i s _ _ (hn ▸ (List.getElem?_eq_some_iff.mp e).1) st fun T vals h' tk p hT tup mid kk=>⟨.ref T,rfl,(w A h).go elts k pos i T { s with heap:=h',toks:=tk } _ _ mid fun h2 st2 k2=>⟨st2,⟨rfl,rfl⟩,fun b o n q=>k2 b o n (kk b o n q),fun ρ' G' h1 h3 h4=>by
  obtain ⟨hz,l,rfl,r⟩:=hP i vals d p e
  obtain ⟨o,e1,e2,n,e3⟩:=tup
  exact ⟨T,o,vals.toList,rfl,h4 T o (fP hT) (k2 T o ((w A h).apart i T h' mid) e1),⟨e2,⟨n,by simpa using e3⟩,(by simpa using hz),hm i T h' mid o e1⟩,r ρ' G' h1 h3⟩⟩⟩
 done:=fun {A s} h st=>(w A h).done s _ _ (hn ▸ st) fun h' tk k=>⟨rfl,⟨rfl,rfl⟩,k⟩
 self:=fun {A i s Q E} h st q=>(w A h).self i s Q E st q
theorem gD {prog:Program} {w:World} {A:Around} {it:Addr} {fp:List Addr} {n:Nat} {P:Nat→Value→Prop} {St:Nat→Heap→Prop} (D:Draws prog w A.in1 it fp n P St) (e:Addr) (hei:e≠it) (hef:e ∉ fp) (hif:it∈fp):WalksT prog w A e (e :: fp) [e,it] n (fun i vals=>∃ t x,P i x∧vals = #[.int i t,x]) (fun i h=>(∃ old,IsEnum h e it i old)∧St i h) (fun i T h=>((∃ x,IsEnumOut h e it ((i:Int)+1) x T)∧St (i+1) h∧T≠e∧T≠it)∧Exa h T):=
 have V:=WalksT.enumerateD D e hei hef hif
 { sub:=V.sub,frame:=V.frame,done:=V.done,self:=V.self,go:=fun elts k pos i T s Q E m q=>V.go elts k pos i T s Q E m.1 q,apart:=fun i T h m=>V.apart i T h m.1,
   item:=fun i s Q E hi ⟨⟨old,he⟩,hs⟩ hQ=>wpAny_pyNext_enum_itemD D he hs hi hei hef fun x h' tk hP ho hs' hT hsz hk=>hQ s.heap.objs.size #[.int i tk,x] h' (tk+1) ⟨_,_,hP,rfl⟩ (Nat.le_refl _) ⟨_,hT,rfl,_,rfl⟩ ⟨⟨⟨_,ho⟩,hs',Nat.ne_of_gt (Heap.lt_size he),Nat.ne_of_gt (let ⟨_,y⟩:=D.live _ _ hs;Heap.lt_size y)⟩,fun o q=>(by rw [hT] at q;cases q;rfl)⟩ fun b o hb y=>hk b o (fun z=>hb (z ▸ List.mem_cons_self)) (fun z=>hb (z ▸ List.mem_cons_of_mem _ List.mem_cons_self)) y }
end
section
variable {X:Cx} {z z' z0 z1:Z} {tg:Expr}
theorem eU {s2:Shared} {o:Out D} {ds:List D} {it:Addr} {fp wr:List Addr} {St:Nat→Heap→Prop} (x:Ee X z z1) (I:Rep X z1) (g:Gr z1.s s2) (T:Itr X.W tg it fp wr ds z1.ρ z1.G St) (st:St 0 s2.heap) (hf:∀ b∈fp,(z1.h b=none∧∃ o,s2.heap.get? b=some o)∨(b ∉ wr∧∃ o,z1.G b=some o)) (e:o = .ok (.lst ds) z1.t):FI X z tg o (.ref it) s2:=
 ⟨{ z1 with s:=s2 },ds,it,fp,wr,St,rfl,e,x.trans (aF I.gh g).ee,I.grow (aF I.gh g),rfl,T,st,fun b hb=>(hf b hb).imp_left fun ⟨n,ex⟩=>⟨⟨x.st.no n,I.fre n⟩,ex⟩⟩
theorem qB (I:Rep X z) (e:z.G a=some o):a≠z.s.heap.objs.size:=Nat.ne_of_lt (Heap.lt_size (I.gh a o e))
theorem BB (hc:X.calm=true) (ha:LE X e a):LI X tg e (.itv a):=fun z I nb=>(ha false).go (K:=fun v s1=>wpAny X.M X.A (pyIter v) (FI X z tg (X.ev false (.itv a) z.t)) NoE s1) .refl I rfl nb fun z1 d u y x1 I1 r1 e1=>by
 have r:=r1.rd
 cases d with
 | lst l=>
   obtain ⟨p,o,vs,rfl,g,⟨⟨n,rfl⟩,hz⟩,r⟩:=r
   have ne:=qB I1 g
   refine wpAny_pyIter_list (show z1.s.heap.IsList p vs.toArray from ⟨_,I1.gh _ _ g,rfl,n,rfl⟩) (eU (wr:=[z1.s.heap.objs.size]) x1 I1 (.push (t:=z1.s.toks)) (Itr.walks (I1.hd hc) (by simp [r.len]) (fun A hA=>Walks.list hA _ p ne vs.toArray) (fun i h st b hb=>by rw [List.mem_singleton.mp hb];obtain ⟨⟨o,e,_⟩,_⟩:=st;exact ⟨o,e⟩) (fun st q=>let ⟨⟨o,e,c,d⟩,_⟩:=st;jQ e c d (by decide) q) fun i v d p1 p2 ρ' G' h1 h2=>?_) ⟨⟨_,Heap.get?_push_size _ rfl,rfl,rfl⟩,⟨_,Heap.get?_push_of_some _ (I1.gh _ _ g),rfl,n,rfl⟩⟩ (fun b hb=>?_) e1)
   ·obtain ⟨v',w1,w2⟩:=(r.mono h1 h2).get p2
    rw [show vs[i]? = some v by simpa using p1] at w1;cases w1;exact w2
   ·rcases List.mem_cons.mp hb with w | w
    ·rw [w];exact .inl ⟨aI z1,_,Heap.get?_push_size _ rfl⟩
    ·rw [List.mem_singleton.mp w];exact .inr ⟨fun m=>ne (List.mem_singleton.mp m),_,g⟩
 | tup l=>
   obtain ⟨p,o,vs,rfl,g,⟨tc,⟨n,td⟩,hz⟩,r⟩:=r
   have ne:=qB I1 g
   refine wpAny_pyIter_tuple (show z1.s.heap.IsTuple p vs.toArray from ⟨_,I1.gh _ _ g,tc,n,td⟩) (eU (wr:=[z1.s.heap.objs.size]) x1 I1 (.push (t:=z1.s.toks)) (Itr.walks (I1.hd hc) (by simp [r.len]) (fun A hA=>Walks.tuple hA _ p ne vs.toArray) (fun i h st b hb=>by rw [List.mem_singleton.mp hb];obtain ⟨⟨o,e,_⟩,_⟩:=st;exact ⟨o,e⟩) (fun st q=>let ⟨⟨o,e,c,d⟩,_⟩:=st;jQ e c d (by decide) q) fun i v d p1 p2 ρ' G' h1 h2=>?_) ⟨⟨_,Heap.get?_push_size _ rfl,rfl,rfl⟩,⟨_,Heap.get?_push_of_some _ (I1.gh _ _ g),tc,n,td⟩⟩ (fun b hb=>?_) e1)
   ·obtain ⟨v',w1,w2⟩:=(r.mono h1 h2).get p2
    rw [show vs[i]? = some v by simpa using p1] at w1;cases w1;exact w2
   ·rcases List.mem_cons.mp hb with w | w
    ·rw [w];exact .inl ⟨aI z1,_,Heap.get?_push_size _ rfl⟩
    ·rw [List.mem_singleton.mp w];exact .inr ⟨fun m=>ne (List.mem_singleton.mp m),_,g⟩
 | dic ks l=>
   obtain ⟨p,o,vs,rfl,hs,g,⟨es,ep,c1,c2,c3,c4,c5,hz⟩,hl,r⟩:=r
   have ne:=qB I1 g
   have dm:Heap.DictAt (ba X.W.P X.W.w) z1.s.heap p (ks.zip vs) ep:=⟨o,es,I1.gh _ _ g,c1,c2,c3,c4,c5⟩
   have lk:ks.length=vs.length:=hl.trans r.len
   have lz:(ks.zip vs).length=(ks.map qD).length:=by rw [List.length_zip,List.length_map];omega
   refine wpAny_pyIter_dict hs dm (eU (ds:=ks.map qD) (wr:=[z1.s.heap.objs.size]) x1 I1 (.push (t:=z1.s.toks)) (Itr.walks (I1.hd hc) lz.symm (fun A hA=>Walks.dictKeys (knd:=ba X.W.P X.W.w) hA _ p ne (ks.zip vs) ep) (fun i h st b hb=>by rw [List.mem_singleton.mp hb];obtain ⟨⟨o,e,_⟩,_⟩:=st;exact ⟨o,e⟩) (fun st q=>let ⟨⟨o,e,c,d⟩,_⟩:=st;jQ e c d (by decide) q) fun i v d p1 p2 ρ' G' h1 h2=>?_) ⟨⟨_,Heap.get?_push_size _ rfl,rfl,rfl⟩,⟨o,es,Heap.get?_push_of_some _ (I1.gh _ _ g),c1,c2,c3,c4,c5⟩⟩ (fun b hb=>?_) e1)
   ·obtain ⟨k,u,w1,w2⟩:=p1
    have kk:ks[i]? = some k:=by
     have:=List.getElem?_zip_eq_some.mp w1;exact this.1
    rw [List.getElem?_map,kk] at p2
    cases p2
    rcases aH w2 with ⟨j,t,rfl,rfl⟩ | ⟨x,t,rfl,rfl⟩
    ·exact ⟨t,rfl⟩
    ·exact ⟨t,rfl⟩
   ·rcases List.mem_cons.mp hb with w | w
    ·rw [w];exact .inl ⟨aI z1,_,Heap.get?_push_size _ rfl⟩
    ·rw [List.mem_singleton.mp w];exact .inr ⟨fun m=>ne (List.mem_singleton.mp m),_,g⟩
 | str y=>
   obtain ⟨t,rfl⟩:=r
   have e1:X.ev false (.itv a) z.t=Out.of z1.t ((if y.cps.all (· < 128)=true then some (y.cps.toList.map fun c=>D.str ⟨#[c]⟩) else none).map D.lst):=e1
   by_cases hy:y.cps.all (· < 128)=true
   ·rw [ZZ hy] at e1
    refine wpAny_pyIter_ascii hy (eU (ds:=y.cps.toList.map fun c=>.str ⟨#[c]⟩) (wr:=[z1.s.heap.objs.size]) x1 I1 (.push (t:=z1.s.toks)) (Itr.walks (I1.hd hc) (by simp) (fun A hA=>Walks.strAscii hA _ y t) (fun i h st b hb=>by rw [List.mem_singleton.mp hb];obtain ⟨o,e,_⟩:=st;exact ⟨o,e⟩) (fun st q=>let ⟨o,e,c,d⟩:=st;jQ e c d (by decide) q) fun i v d p1 p2 ρ' G' h1 h2=>?_) ⟨_,Heap.get?_push_size _ rfl,rfl,rfl⟩ (fun b hb=>?_) e1)
    ·obtain ⟨c,u,w1,rfl⟩:=p1
     rw [List.getElem?_map,Array.getElem?_toList,w1] at p2
     cases p2;exact ⟨u,rfl⟩
    ·rw [List.mem_singleton.mp hb];exact .inl ⟨aI z1,_,Heap.get?_push_size _ rfl⟩
   ·rw [ZY hy] at e1;exact ZX e1 nb
 | _=>exact ZX e1 nb
theorem uE {a:Int}:(jt a n).length=n:=by simp [jt]
theorem km {lo hi:Int} {t u v:Tok} {tk:Nat} {o:Out D} (hc:X.calm=true) (x:Ee X z z1) (I:Rep X z1) (h1:-(2 ^ 62)≤lo) (h2:lo<2 ^ 62) (h3:-(2 ^ 62)≤hi) (h4:hi<2 ^ 62) (e:o = .ok (.lst (jt lo (hi - lo).toNat)) z1.t):wpAny X.M X.A (pyIter (.ref z1.s.heap.objs.size)) (FI X z tg o) NoE { z1.s with heap:=z1.s.heap.push { cls:=.type "range",data:=.fields #[.int lo t,.int hi u,.int 1 v] },toks:=tk }:=by
 refine wpAny_pyIter_range (IsRange.new ..) (small_one h1 h2 h3 h4) ?_
 have e2:(((hi - lo).toNat:Nat):Int) - ((0:Nat):Int)=Builtin.Range.rangeSize lo hi 1:=by rw [rangeSize_one];split <;> omega
 have g0:Gr z1.s { z1.s with heap:=z1.s.heap.push { cls:=.type "range",data:=.fields #[.int lo t,.int hi u,.int 1 v] },toks:=tk }:=.push
 have I2:=I.grow (aF I.gh g0)
 refine eU (z1:={ z1 with s:={ z1.s with heap:=z1.s.heap.push { cls:=.type "range",data:=.fields #[.int lo t,.int hi u,.int 1 v] },toks:=tk } }) (ds:=jt lo (hi - lo).toNat) (x.trans (aF I.gh g0).ee) I2 (.push (t:=tk)) (Itr.walks (I.hd hc) uE (fun A hA=>Walks.range hA _ lo 1 (hi - lo).toNat) (fun i h st b hb=>by rw [List.mem_singleton.mp hb];exact ⟨_,st⟩) (fun st q=>jQ st rfl rfl (by decide) q) fun i v d p1 p2 ρ' G' _ _=>?_) ?_ (fun b hb=>?_) e
 ·obtain ⟨t,rfl⟩:=p1
  unfold jt at p2
  rw [List.getElem?_map,Option.map_eq_some_iff] at p2
  obtain ⟨j,p3,rfl⟩:=p2
  obtain ⟨hj,hj2⟩:=List.getElem?_eq_some_iff.mp p3
  rw [List.getElem_range] at hj2
  subst hj2
  exact ⟨t,by rw [Int.mul_one]⟩
 ·show IsRangeIter _ _ (lo+((0:Nat):Int) * 1) ((((hi - lo).toNat:Nat):Int) - ((0:Nat):Int)) 1
  rw [e2,show lo+((0:Nat):Int) * 1=lo by simp]
  exact Heap.get?_push_size _ rfl
 ·rw [List.mem_singleton.mp hb];exact .inl ⟨aI { z1 with s:=_ },_,Heap.get?_push_size _ rfl⟩
theorem oK (hc:X.calm=true) (hx:Blt X "range" (.type "range")) (ha:LE X ea a) (he:starEach [ea] X.env=(false,eval ea X.env) :: starEach [] X.env):LI X tg (.Call (.Name "range" p) [ea] [] pos) (.it .range1 (.cons a .nil)):=fun z I nb=>
 bD (Q:=fun v s1=>wpAny X.M X.A (pyIter v) (FI X z tg (X.ev false (.it .range1 (.cons a .nil)) z.t)) NoE s1) (.inr ⟨_,rfl⟩) hx he rfl I (Calls.spliced_cons ((ha false).go .refl I (ev1 fun l s=>Out.of s ((itD .range1 l).map D.lst)) nb fun z1 x u y1 x1 I1 r1 e1=>Calls.spliced_nil (by
  cases x with
  | int j=>
    obtain ⟨t,rfl⟩:=r1.rd
    have e1:X.ev false (.it .range1 (.cons a .nil)) z.t=Out.of z1.t ((if -(2 ^ 62)≤j∧j<2 ^ 62 then some (jt 0 j.toNat) else none).map D.lst):=e1
    by_cases c:-(2 ^ 62)≤j∧j<2 ^ 62
    ·rw [ZZ c] at e1
     exact call_range_1 (km hc x1 I1 (by omega) (by omega) c.1 c.2 (by rw [Int.sub_zero];exact e1))
    ·rw [ZY c] at e1;exact ZX e1 nb
  | _=>exact ZX e1 nb)))
theorem oM (hc:X.calm=true) (hx:Blt X "range" (.type "range")) (ha:LE X ea a) (hb:LE X eb b) (he:starEach [ea,eb] X.env=(false,eval ea X.env) :: starEach [eb] X.env) (he2:starEach [eb] X.env=(false,eval eb X.env) :: starEach [] X.env):LI X tg (.Call (.Name "range" p) [ea,eb] [] pos) (.it .range2 (.cons a (.cons b .nil))):=fun z I nb=>
 bD (Q:=fun v s1=>wpAny X.M X.A (pyIter v) (FI X z tg (X.ev false (.it .range2 (.cons a (.cons b .nil))) z.t)) NoE s1) (.inr ⟨_,rfl⟩) hx he (by rw [he2];rfl) I (by
  rw [he2]
  exact Calls.spliced_cons ((ha false).go .refl I (ev2 fun l s=>Out.of s ((itD .range2 l).map D.lst)) nb fun z1 x u y1 x1 I1 r1 e1=>Calls.spliced_cons ((hb false).go x1 I1 e1 nb fun z2 y v y2 x2 I2 r2 e2=>Calls.spliced_nil (by
   cases x with
   | int i=>
     cases y with
     | int j=>
       obtain ⟨t,rfl⟩:=r1.rd
       obtain ⟨t',rfl⟩:=r2.rd
       have e1:X.ev false (.it .range2 (.cons a (.cons b .nil))) z.t=Out.of z2.t ((if (-(2 ^ 62)≤i∧i<2 ^ 62∧-(2 ^ 62)≤j∧j<2 ^ 62) then some (jt i (j - i).toNat) else none).map D.lst):=e2
       by_cases c:(-(2 ^ 62)≤i∧i<2 ^ 62∧-(2 ^ 62)≤j∧j<2 ^ 62)
       ·rw [ZZ c] at e1
        exact call_range_2 (km hc x2 I2 c.1 c.2.1 c.2.2.1 c.2.2.2 e1)
       ·rw [ZY c] at e1;exact ZX e1 nb
     | _=>exact ZX e2 nb
   | _=>exact ZX (e2.trans (by cases y <;> rfl)) nb))))
theorem iR:∀ {l:List D} {i:Nat} {j:Int},(bP j l)[i]? = (l[i]?).map fun d=>.tup [.int (j+i),d]
 | [],_,_=>by unfold bP;simp
 | a :: r,0,j=>by unfold bP;simp
 | a :: r,i+1,j=>by
   unfold bP
   rw [List.getElem?_cons_succ,List.getElem?_cons_succ,iR]
   congr 1;funext d;congr 3;omega
theorem fN:∀ {l:List D} {j:Int},(bP j l).length=l.length
 | [],_=>by unfold bP;rfl
 | a :: r,j=>by unfold bP;rw [List.length_cons,List.length_cons,fN]
theorem tR {es:List Expr} {k:Nat} {tp:Pos} (hc:X.calm=true) (hx:Blt X "enumerate" (.type "enumerate")) (ha:LE X ea a) (he:starEach [ea] X.env=(false,eval ea X.env) :: starEach [] X.env):LI X (.Tuple es k tp) (.Call (.Name "enumerate" p) [ea] [] pos) (.it .enum (.cons a .nil)):=fun z I nb=>
 bD (Q:=fun v s1=>wpAny X.M X.A (pyIter v) (FI X z (.Tuple es k tp) (X.ev false (.it .enum (.cons a .nil)) z.t)) NoE s1) (.inr ⟨_,rfl⟩) hx he rfl I (Calls.spliced_cons ((ha false).go .refl I (ev1 fun l s=>Out.of s ((itD .enum l).map D.lst)) nb fun z1 x u y1 x1 I1 r1 e1=>Calls.spliced_nil (by
  cases x with
  | lst l=>
    obtain ⟨a0,o,vs,rfl,g,⟨⟨n,rfl⟩,hz⟩,r⟩:=r1.rd
    have hlt:=Heap.lt_size (I1.gh _ _ g)
    refine call_enumerate_1 (I1.gh _ _ g) fun h' g1 g2 hsz kp=>wpAny_pyIter_enum g1 (eU (ds:=bP 0 l) x1 I1 (s2:={ z1.s with heap:=h' }) (.hp (t:=z1.s.toks) kp) (Itr.walksT (I1.hd hc) (by rw [fN];simp [r.len]) (fun A hA=>gD (Draws.list (A:=A.in1) hA z1.s.heap.objs.size a0 (Nat.ne_of_lt hlt) vs.toArray) (z1.s.heap.objs.size+1) (Nat.succ_ne_self _) (nin _ 1 0 _ (by decide) hlt) List.mem_cons_self) (fun i h st b hb=>?_) (fun _ _ _ m=>m.2) fun i vals d p1 p2=>?_) ⟨⟨_,g1⟩,g2,⟨_,kp _ _ (I1.gh _ _ g),rfl,n,rfl⟩⟩ (fun b hb=>?_) e1)
    ·obtain ⟨⟨old,e1⟩,⟨o2,e2,_⟩,_⟩:=st
     rcases List.mem_cons.mp hb with w | w
     ·rw [w];exact ⟨_,e1⟩
     ·rw [List.mem_singleton.mp w];exact ⟨o2,e2⟩
    ·obtain ⟨t,v,p3,rfl⟩:=p1
     rw [iR,Option.map_eq_some_iff] at p2
     obtain ⟨d',p4,rfl⟩:=p2
     refine ⟨by simp [sizeLine_eq],_,rfl,fun ρ' G' h1 h2=>?_⟩
     obtain ⟨v',w1,w2⟩:=(r.mono h1 h2).get p4
     rw [show vs[i]? = some v by simpa using p3] at w1;cases w1
     exact .cons ⟨t,by rw [Int.zero_add]⟩ (.cons w2 rfl)
    ·rcases List.mem_cons.mp hb with w | w
     ·rw [w];exact .inl ⟨fP (Nat.le_succ _),_,g1⟩
     ·rcases List.mem_cons.mp w with w | w
      ·obtain ⟨o2,e2,_⟩:=g2
       rw [w];exact .inl ⟨aI z1,_,e2⟩
      ·rw [List.mem_singleton.mp w]
       refine .inr ⟨fun m=>?_,_,g⟩
       rcases List.mem_cons.mp m with q | q
       ·exact Nat.ne_of_lt (Nat.lt_succ_of_lt hlt) q
       ·exact Nat.ne_of_lt hlt (List.mem_singleton.mp q)
  | _=>exact ZX e1 nb)))
end
def gH (env:Env):NK→List (Str×Addr)→List (Str×Addr)
 | [],cs=>cs
 | y :: r,cs=>gH env r (if (y.2 == NameKind.free)=true then (match env.cells.lookup y.1 with | some a=>(y.1,a) :: cs | none=>cs) else cs)
theorem cz :∀ {l:List (Str×β)} {p:Str×β},p∈l→∃ c,l.lookup p.1=some c
 | [],_,h=>nomatch h
 | (a,b) :: r,p,h=>by
   cases e:p.1 == a with
   | true=>exact ⟨b,by simp only [List.lookup_cons,e]⟩
   | false=>
     rcases List.mem_cons.mp h with q | q
     ·subst q;simp at e
     ·obtain ⟨c,hc⟩:=cz q
      exact ⟨c,by simp only [List.lookup_cons,e];exact hc⟩
theorem jI :∀ {ns} {cs} {p:Str×Addr},p∈gH env ns cs→p∈cs∨env.cells.lookup p.1=some p.2
 | [],_,_,h=>.inl h
 | y :: r,cs,p,h=>by
   rcases jI (ns:=r) h with q | q
   ·by_cases hk:(y.2 == NameKind.free)=true
    ·rw [ZZ hk] at q
     cases e:env.cells.lookup y.1 with
     | none=>rw [e] at q;exact .inl q
     | some a=>
       rw [e] at q
       rcases List.mem_cons.mp q with rfl | q
       ·exact .inr e
       ·exact .inl q
    ·rw [ZY hk] at q;exact .inl q
   ·exact .inr q
theorem hZ :∀ {ns} {cs} {p:Str×Addr},p∈cs→p∈gH env ns cs
 | [],_,_,h=>h
 | y :: r,cs,p,h=>by
   refine hZ (ns:=r) ?_
   by_cases hk:(y.2 == NameKind.free)=true
   ·rw [ZZ hk]
    cases e:env.cells.lookup y.1 with
    | none=>exact h
    | some a=>exact List.mem_cons_of_mem _ h
   ·rw [ZY hk];exact h
theorem fH :∀ {ns} {cs} {y:Str×NameKind} {c},y∈ns→y.2 = .free→env.cells.lookup y.1=some c→(y.1,c)∈gH env ns cs
 | z :: r,cs,y,c,h,hf,hc=>by
   rcases List.mem_cons.mp h with rfl | h
   ·refine hZ (ns:=r) ?_
    rw [ZZ (by rw [hf];rfl),hc]
    exact List.mem_cons_self
   ·exact fH (ns:=r) h hf hc
theorem dy
 (hf:∀ y cs,f y cs=if (y.2 == NameKind.free)=true then (do let a ← cellOf env y.1;pure (ForInStep.yield ((y.1,a) :: cs))) else pure (ForInStep.yield cs)) :
 ∀ (ns) (cs),(∀ y∈ns,y.2 = .free→∃ c,env.cells.lookup y.1=some c)→(forIn ns cs f:Sem _)=pure (gH env ns cs)
 | [],cs,_=>rfl
 | y :: r,cs,h=>by
   rw [List.forIn_cons,hf]
   by_cases hk:(y.2 == NameKind.free)=true
   ·obtain ⟨c,hc⟩:=h y List.mem_cons_self (by simpa using hk)
    have e1:cellOf env y.1=pure c:=by unfold cellOf;rw [hc]
    rw [ZZ hk,e1]
    have ih:=dy hf r ((y.1,c) :: cs) fun z hz=>h z (List.mem_cons_of_mem _ hz)
    show (forIn r ((y.1,c) :: cs) f:Sem _)=pure (gH env r _)
    rw [ih,ZZ hk,hc]
   ·have ih:=dy hf r cs fun z hz=>h z (List.mem_cons_of_mem _ hz)
    rw [ZY hk]
    show (forIn r cs f:Sem _)=pure (gH env r _)
    rw [ih,ZY hk]
theorem kS (h:∀ y∈sc.names,y.2 = .free→∃ c,env.cells.lookup y.1=some c):closureFor sc env=pure (gH env sc.names []):=by
 simp only [closureFor]
 rw [dy (env:=env) (fun y cs=>by obtain ⟨n,kd⟩:=y;by_cases hk:(kd == NameKind.free)=true <;> simp [hk]) sc.names [] h]
 rfl
def cxC (X:Cx) (N:List Str) (sc:Scope) (C:Addr):Cx:={ X with N:=N,env:=compEnvC sc (gH X.env sc.names []) C X.env }
def iC (sc:Scope) (env:Env) (p:Str×Str):Bool:=match (relabel sc env).names.lookup p.1 with
 | some .local=>false
 | some .cell=>p.1 == p.2
 | some .free=>p.1 == p.2
 | _=>true
structure Lcn (X:Cx) (sc:Scope) (k:Nat) (N:List Str):Prop where
 nocell:∀ y∈sc.names,y.2≠.cell
 kind:sc.kind = .function
 names:∀ y∈sc.names,y.2 = .local→sc.names.lookup y.1=some .local
 fr:∀ y∈sc.names,y.2 = .free→X.env.kindOf y.1=some .cell∨X.env.kindOf y.1=some .free
 len:N.length=k+X.N.length
 old:((N.drop k).zip X.N).all (iC sc X.env)=true
theorem zM (h1:(sc.names.all fun y=>y.2 != .cell)=true) (h2:sc.kind = .function) (h3:(sc.names.all fun y=>y.2 != .local || sc.names.lookup y.1 == some .local)=true)
 (h4:(sc.names.all fun y=>y.2 != .free || (X.env.kindOf y.1 == some .cell || X.env.kindOf y.1 == some .free))=true) (h5:N.length=k+X.N.length) (h6:((N.drop k).zip X.N).all (iC sc X.env)=true):Lcn X sc k N where
 nocell:=fun y hy=>by have:=List.all_eq_true.mp h1 y hy;simpa using this
 kind:=h2
 names:=fun y hy hl=>by have:=List.all_eq_true.mp h3 y hy;simpa [hl] using this
 fr:=fun y hy hl=>by have:=List.all_eq_true.mp h4 y hy;simpa [hl] using this
 len:=h5
 old:=h6
section
variable {X:Cx} {sc:Scope} {k:Nat} {N:List Str} {z z' z0 z1:Z} {C:Addr}
theorem Lcn.cells (L:Lcn X sc k N) (ok:COk X):∀ y∈sc.names,y.2 = .free→∃ c,X.env.cells.lookup y.1=some c:=fun y hy hf=>ok.ch y.1 (L.fr y hy hf)
theorem jJ (e:(gH X.env sc.names []).lookup x=some c):X.env.cells.lookup x=some c:=by
 rcases jI (PySem.mem_of_lookup e) with q | q
 ·exact nomatch q
 ·exact q
theorem cm (L:Lcn X sc k N) (e:(relabel sc X.env).names.lookup x=some kd) (hk:kd = .cell∨kd = .free):(x,NameKind.free)∈sc.names:=by
 have hm:=PySem.mem_of_lookup e
 obtain ⟨⟨n,k'⟩,hy,q⟩:=List.mem_map.mp hm
 dsimp only at q
 by_cases hc:(k' == NameKind.free && X.env.scope.kind == .function && X.env.kindOf n == some .cell)=true
 ·rw [ZZ hc] at q
  have e1:n=x:=ZS Prod.fst q
  have e2:k' = .free:=by simp at hc;exact hc.1.1
  subst e1 e2
  exact hy
 ·rw [ZY hc] at q
  have e1:n=x:=ZS Prod.fst q
  have e2:k'=kd:=ZS Prod.snd q
  subst e1 e2
  rcases hk with rfl | rfl
  ·exact ZX rfl (L.nocell _ hy)
  ·exact hy
theorem nY (L:Lcn X sc k N) (hi:N[i]? = some x) (hk:k≤i) (v:Vis (relabel sc X.env) x):X.N[i - k]? = some x∧(x,NameKind.free)∈sc.names:=by
 have hlt:i<N.length:=(List.getElem?_eq_some_iff.mp hi).1
 have hl:=L.len
 have h2:i - k<X.N.length:=by omega
 have e1:(N.drop k)[i - k]? = some x:=by rw [List.getElem?_drop];rw [show k+(i - k)=i by omega];exact hi
 have e2:X.N[i - k]? = some X.N[i - k]:=List.getElem?_eq_getElem h2
 have hz:((N.drop k).zip X.N)[i - k]? = some (x,X.N[i - k]):=by rw [List.getElem?_zip_eq_some];exact ⟨e1,e2⟩
 have ho:=List.all_eq_true.mp L.old _ (List.mem_of_getElem? hz)
 have v':(relabel sc X.env).names.lookup x=some .local∨(relabel sc X.env).names.lookup x=some .cell∨(relabel sc X.env).names.lookup x=some .free:=v
 unfold iC at ho
 rcases v' with q | q | q
 ·simp only [q] at ho;cases ho
 ·simp only [q] at ho
  have e3:x=X.N[i - k]:=by simpa using ho
  exact ⟨by rw [e2,← e3],cm L q (.inl rfl)⟩
 ·simp only [q] at ho
  have e3:x=X.N[i - k]:=by simpa using ho
  exact ⟨by rw [e2,← e3],cm L q (.inr rfl)⟩
theorem HR.cx (I:HR X z):HR (cxC X N sc C) z:=⟨I.md,I.fm,I.hd,I.bs,I.gh,I.rl,I.rn,I.rg,I.ob,I.fu,I.ff,I.br,I.os⟩
theorem HR.out (I:HR (cxC X N sc C) z):HR X z:=⟨I.md,I.fm,I.hd,I.bs,I.gh,I.rl,I.rn,I.rg,I.ob,I.fu,I.ff,I.br,I.os⟩
theorem vz (h:Lc (cxC X N sc C) a):a=C∨Lc X a:=h.imp_right fun ⟨x,e⟩=>.inr ⟨x,jJ e⟩
theorem qJ {s':Shared} {m:Str→Option Value} (L:Lcn X sc k N) (I:Rep X z) (ow:z.t.ow = []) (g:Gr z.s s') (hC:z.h C=none) (hn:s'.heap.Ns C m):Rep (cxC X N sc C) ⟨z.ρ,z.G,⟨List.replicate k none ++ z.t.env,[],z.t.st⟩,List.replicate k none ++ z.σ,s'⟩:=by
 have H:=(I.toHR.grow (aF I.gh g)).cx (N:=N) (sc:=sc) (C:=C)
 have ck:∀ {c:Addr} {v:Option Value},z.s.heap.IsCell c v→s'.heap.IsCell c v:=fun ⟨o,e,d⟩=>⟨o,g.k _ o e,d⟩
 have fC:=I.fre hC
 refine ⟨⟨H.md,H.fm,H.hd,H.bs,H.gh,H.rl,H.rn,H.rg,H.ob,H.fu,H.ff,H.br,H.os⟩,⟨I.ok.un,L.kind,I.ok.gl,I.ok.bl,fun x y c h1 h2=>I.ok.ci x y c (jJ h1) (jJ h2),fun x hx=>?_⟩,⟨m,hn,fun i x v h1 h2 h3=>?_⟩,fun x c e=>let ⟨v,q⟩:=I.ce x c (jJ e);⟨v,ck q⟩,fun a l=>?_,by show (List.replicate k none ++ z.t.env).length=(List.replicate k none ++ z.σ).length;rw [List.length_append,List.length_append,I.el];simp,by show (List.replicate k none ++ z.σ).length=N.length;rw [List.length_append,List.length_replicate,L.len,I.sl],fun i d _ e=>?_,(fun i m=>nomatch m),(fun i j a m=>nomatch m)⟩
 ·have hx':(relabel sc X.env).names.lookup x=some .cell∨(relabel sc X.env).names.lookup x=some .free:=hx
  have hm:(x,NameKind.free)∈sc.names:=by
   rcases hx' with q | q
   ·exact cm L q (.inl rfl)
   ·exact cm L q (.inr rfl)
  obtain ⟨c,hc⟩:=L.cells I.ok _ hm rfl
  exact cz (fH hm rfl hc)
 ·have hki:k≤i:=by
   by_cases q:i<k
   ·rw [List.getElem?_append_left (by simpa using q),List.getElem?_replicate,ZZ q] at h2
    cases h2
   ·omega
  rw [List.getElem?_append_right (by simpa using hki),List.length_replicate] at h2
  obtain ⟨hx,hm⟩:=nY L h1 hki h3
  have hkx:=L.fr _ hm rfl
  have hvis:Vis X.env.scope x:=by
   rcases hkx with q | q
   ·exact .inr (.inl q)
   ·exact .inr (.inr q)
  obtain ⟨m0,_,hl⟩:=I.lo
  rcases hl (i - k) x v hx h2 hvis with ⟨q,_⟩ | ⟨_,c,hc,hcell⟩
  ·rcases hkx with z | z
   ·rw [show X.env.kindOf x=some .cell from z] at q;cases q
   ·rw [show X.env.kindOf x=some .free from z] at q;cases q
  ·obtain ⟨c',hc'⟩:=cz (fH hm rfl hc)
   have e:=jJ hc'
   rw [hc] at e;cases e
   refine .inr ⟨?_,c,hc',ck hcell⟩
   have v':(relabel sc X.env).names.lookup x=some .local∨(relabel sc X.env).names.lookup x=some .cell∨(relabel sc X.env).names.lookup x=some .free:=h3
   rcases v' with z | z | z
   ·exfalso
    have hlt:i<N.length:=(List.getElem?_eq_some_iff.mp h1).1
    have hl':=L.len
    have h2':i - k<X.N.length:=by omega
    have hz:((N.drop k).zip X.N)[i - k]? = some (x,X.N[i - k]):=by
     rw [List.getElem?_zip_eq_some]
     exact ⟨by rw [List.getElem?_drop,show k+(i - k)=i by omega];exact h1,List.getElem?_eq_getElem h2'⟩
    have ho:=List.all_eq_true.mp L.old _ (List.mem_of_getElem? hz)
    unfold iC at ho
    simp only [z] at ho
    cases ho
   ·exact .inl z
   ·exact .inr z
 ·rcases vz l with rfl | l
  ·exact ⟨fC.1.1,fC.1.2.1⟩
  ·exact I.fl a l
 ·have hki:k≤i:=by
   by_cases q:i<k
   ·have e:(List.replicate k none ++ z.t.env)[i]? = some (some d):=e
    rw [List.getElem?_append_left (by simpa using q),List.getElem?_replicate,ZZ q] at e
    cases e
   ·omega
  have e:(List.replicate k none ++ z.t.env)[i]? = some (some d):=e
  rw [List.getElem?_append_right (by simpa using hki),List.length_replicate] at e
  obtain ⟨u,e1,r⟩:=I.en (i - k) d (by rw [ow];exact nofun) e
  exact ⟨u,by show (List.replicate k none ++ z.σ)[i]? = _;rw [List.getElem?_append_right (by simpa using hki),List.length_replicate];exact e1,r⟩
theorem wT {zr:Z} (I:Rep X z) (Ir:Rep X zr) (er:zr.t.env=z.t.env∧zr.σ=z.σ∧zr.t.ow = []) (S:Stp X.fr (Own z) z z') (H:HR X z') (pr:zr.ρ <+: z'.ρ) (gg:Sub zr.G z'.G):Rep X { z' with t:=⟨z.t.env,[],z'.t.st⟩,σ:=z.σ }:=by
 have sl:∀ b o,z.h b=some o→¬ Mu z.ρ b→¬ Own z b→∃ sl,z'.s.heap.get? b=some { o with slots:=sl }:=fun b o e n w=>by
  by_cases f:b∈frs X.fr
  ·exact S.sl b o e n w f
  ·exact ⟨o.slots,S.sm b o e n w f⟩
 have nO:∀ {a},Lc X a→¬ Own z a:=fun l w=>(I.oth w).1.2.2.2 l
 have ck:∀ x c v,X.env.cells.lookup x=some c→z.s.heap.IsCell c v→z'.s.heap.IsCell c v:=fun x c v e ⟨o,q,d⟩=>by
  have l:Lc X c:=.inr ⟨x,e⟩
  obtain ⟨s,q2⟩:=sl c o q (I.fl c l).2 (nO l)
  exact ⟨_,q2,d⟩
 refine ⟨⟨H.md,H.fm,H.hd,H.bs,H.gh,H.rl,H.rn,H.rg,H.ob,H.fu,H.ff,H.br,H.os⟩,I.ok,?_,fun x c e=>let ⟨v,q⟩:=I.ce x c e;⟨v,ck x c v e q⟩,fun a l=>⟨?_,fun m=>(S.rn a m).elim (I.fl a l).2 fun w=>?_⟩,I.el,I.sl,fun i d _ e=>?_,(fun i m=>nomatch m),(fun i j a m=>nomatch m)⟩
 ·obtain ⟨m,⟨oL,es,ep,q,r⟩,hl⟩:=I.lo
  have l:Lc X X.env.locals:=.inl rfl
  obtain ⟨s,q2⟩:=sl _ _ q (I.fl _ l).2 (nO l)
  exact ⟨m,⟨_,es,ep,q2,r⟩,fun j x w e1 e2 e3=>cV (fun c v e q=>ck x c v e q) (hl j x w e1 e2 e3)⟩
 ·cases q:z'.G a with
  | none=>rfl
  | some o=>
    obtain ⟨o1,e1⟩:=I.lth l
    rcases S.gn a o q with w | w | w
    ·rw [(I.fl a l).1] at w;cases w
    ·rw [w] at e1;cases e1
    ·exact ZX w (nO l)
 ·obtain ⟨o1,e1⟩:=I.lth l
  rw [w] at e1;cases e1
 ·obtain ⟨u,e1,r⟩:=Ir.en i d (by rw [er.2.2];exact nofun) (by rw [er.1];exact e)
  exact ⟨u,er.2.1 ▸ e1,r.mono pr gg⟩
def LTs (Y:Cx) (ifs:List Expr) (c:E):Prop:=Jg Y (forIn ifs true fun c r=>if r=true then do let ok ← isTrue c Y.env (eval c Y.env);pure (ForInStep.yield ok) else pure (ForInStep.yield r)) (fun t=>(Y.ev true c t).bind toB) RT
theorem uf:LTs X [] (.c (.bl true)):=fun z I nb=>wpAny_tests_nil ⟨z,true,rfl,rfl,.refl,I,rfl⟩
theorem ug (h:LT X e c):LTs X [e] c:=fun z I nb=>wpAny_tests_one (h z I nb)
def lcF (X:Cx) (t:List Nat) (one:Bool) (elt cond:E) (d:D) (s':Sta):Out (Option D):=match aL t one d s'.env with
 | some env=>(noX (X.ev true cond ⟨env,[],s'.st⟩)).bind fun b s2=>(match b with
   | .bl true=>(noX (X.ev false elt s2)).bind fun e s3=>.ok (some e) ⟨s3.env,[],s3.st⟩
   | .bl false=>.ok none ⟨s2.env,[],s2.st⟩
   | _=>.bad)
 | none=>.bad
theorem Ee.nil (x:Ee X z z') (h:z.t.ow = []):z'.t.ow = []∧Stp X.fr (fun _=>False) z z':=⟨List.eq_nil_iff_forall_not_mem.mpr (fun i m=>by have:=x.ow i m;rw [h] at this;exact nomatch this),x.st.mono fun a ⟨i,m,_⟩=>by rw [h] at m;exact nomatch m⟩
theorem mZ {t:Sta} (h:t.ow = []):(⟨t.env,[],t.st⟩:Sta)=t:=by cases t;cases h;rfl
end
section
variable {X:Cx} {sc:Scope} {N:List Str} {z z' z0 z1:Z}
structure LcP (X:Cx) (N:List Str) (ee tg iter:Expr) (ifs:List Expr) (sc:Scope) (t:List Nat) (one:Bool) (it elt cond:E):Prop where
 hc:X.calm=true
 L:Lcn X sc t.length N
 hi:LI X tg iter it
 hg:∀ C,LG (cxC X N sc C) tg t one
 hl:∀ i∈t,∀ x,N[i]? = some x→(relabel sc X.env).names.lookup x=some .local
 ht:∀ C,LTs (cxC X N sc C) ifs cond
 he:∀ C,LE (cxC X N sc C) ee elt
 hs:∀ x,foldedSetIterable iter X.env x=pure x
inductive LcJ (X Y:Cx) (z zr:Z) (env:List (Option D)) (ds:List D) (St:Nat→Heap→Prop) (fp wr:List Nat) (a:Nat) (o:Out D) (f:D→Sta→Out (Option D)) (n:Nat) (s:Shared):Prop
 | mk (i:Nat) (z':Z) (acc:List D) (vs:List Value) (ob:Obj) (_:z'.s=s) (_:n=ds.length - i) (_:i≤ds.length) (_:Stp X.fr (Own z) z z') (_:Rep Y z') (_:z'.t.ow = []) (_:St i z'.s.heap) (_:Fp Y z z' fp wr) (_:zr.ρ <+: z'.ρ) (_:Sub zr.G z'.G) (_:Nob Y z z' a) (_:z'.h a=some ob) (_:LsO ob vs) (_:RDs X.W z'.ρ z'.G acc vs) (_:o=(bh f (ds.drop i) acc z'.t).bind fun d s'=>.ok d ⟨env,[],s'.st⟩)
theorem qI {ee tg iter:Expr} {ifs:List Expr} {t:List Nat} {one:Bool} {it elt cond:E} {pos p:Pos} {use:Option (Value→Sem Unit)} {Q:Value→Shared→Prop} {E:Value→Shared→Prop} {o:Out D} (P:LcP X N ee tg iter ifs sc t one it elt cond) (I:Rep X z) (e0:o=X.ev false (.lc t one it elt cond) z.t) (nb:o≠.bad) (hE:∀ u s',Px X z o u s'→E u s')
 (fin:∀ zf d D C m,Ee X z zf→Rep X zf→o = .ok d zf.t→FV X z zf d (.ref D)→Nob X z zf C→(∃ oC,zf.h C=some oC)→zf.s.heap.Ns C m→C≠D→compPost X.M X.A E use Q (.ref D) C (.ok .next) zf.s) :
 wpAny X.M X.A (comprehension (.ListComp ee [⟨tg,iter,ifs,0⟩] sc pos) sc X.env p (newList []) false (eval iter X.env) use) Q E z.s:=by
 have e0:o=(X.ev false it z.t).bind fun x s=>(match x with
  | .lst ds=>(bh (lcF X t one elt cond) ds [] ⟨List.replicate t.length none ++ s.env,[],s.st⟩).bind fun d s'=>.ok d ⟨s.env,[],s'.st⟩
  | _=>.bad):=e0
 have nb0:X.ev false it z.t≠.bad:=fun q=>nb (by rw [e0,q];rfl)
 refine wpAny_comprehension_free rfl P.hs (kS (P.L.cells I.ok)) P.L.kind P.L.names (wpAny_mono (P.hi z I nb0) (fun v s1 h1=>wpAny_mono h1 (fun itv s2 h2=>?_) fun _ _ w=>w.elim) fun u s' h=>hE u s' (by rw [e0];exact h.map))
 obtain ⟨z1,ds,a,fp,wr,St,q1,q2,x1,I1,q3,T,st1,f1⟩:=h2
 subst q1 q3
 rw [q2] at e0
 have e0:o=(bh (lcF X t one elt cond) ds [] ⟨List.replicate t.length none ++ z1.t.env,[],z1.t.st⟩).bind fun d s'=>.ok d ⟨z1.t.env,[],s'.st⟩:=e0
 refine wpAny_newObj_type (wpAny_newFunctionEnv P.L.nocell (by intro y hy;simp at hy) (fun h1 hns hsb=>?_) P.L.kind)
 dsimp only at hns hsb ⊢
 generalize hD:z1.s.heap.objs.size=D at hns hsb ⊢
 have nD:z1.h D=none:=hD ▸ aI z1
 generalize hG:z1.s.heap.push { cls:=.type "list",dict:=none,data:=.seq ([]:List Value).toArray }=G1 at hns hsb ⊢
 have hC0:G1.objs.size=D+1:=by rw [← hG,Heap.size_push,hD]
 generalize hC:G1.objs.size=C at hns hsb ⊢ hC0
 have CD:C≠D:=by rw [hC0];exact Nat.succ_ne_self _
 have nC:z1.h C=none:=Heap.get?_none_of_le (by rw [hC0,hD];exact Nat.le_succ _)
 have up:∀ b o,G1.get? b=some o→h1.get? b=some o:=fun b o e=>hsb.extBut b o (hC ▸ Nat.ne_of_lt (Heap.lt_size e)) (Heap.get?_push_of_some _ e)
 have kp:∀ b o,z1.s.heap.get? b=some o→h1.get? b=some o:=fun b o e=>up b o (hG ▸ Heap.get?_push_of_some _ e)
 have gr:Gr z1.s { z1.s with heap:=h1,toks:=z1.s.toks+([]:List (Str×Value)).length }:=.hp kp
 have hDo:h1.get? D=some { cls:=.type "list",data:=.seq ([]:List Value).toArray }:=up _ _ (hG ▸ hD ▸ Heap.get?_push_size _ rfl)
 obtain ⟨Ir,xr⟩:=I1.rel fun _=>false
 have owr:(z1.rel fun _=>false).t.ow = []:=List.filter_eq_nil_iff.mpr fun _ _=>by simp
 have I2:=qJ (k:=t.length) P.L Ir owr (s':={ z1.s with heap:=h1,toks:=z1.s.toks+([]:List (Str×Value)).length }) gr nC hns
 generalize hz2:(⟨(z1.rel fun _=>false).ρ,(z1.rel fun _=>false).G,⟨List.replicate t.length none ++ (z1.rel fun _=>false).t.env,[],(z1.rel fun _=>false).t.st⟩,List.replicate t.length none ++ (z1.rel fun _=>false).σ,{ z1.s with heap:=h1,toks:=z1.s.toks+([]:List (Str×Value)).length }⟩:Z)=z2 at I2
 have xa:=x1.trans xr
 have fD:=Ir.fre (a:=D) nD
 have fC:=Ir.fre (a:=C) nC
 have zD:z.h D=none:=x1.st.no nD
 have zC:z.h C=none:=x1.st.no nC
 have S2:Stp X.fr (Own z) z z2:=by
  subst hz2
  exact ⟨xa.st.pr,xa.st.gg,xa.st.gn,xa.st.rn,fun b o e=>let ⟨o',e'⟩:=xa.st.th b o e;⟨o',kp b o' e'⟩,fun b o e n w f=>kp b o (xa.st.sm b o e n w f),fun b o e n w f=>let ⟨sl,e'⟩:=xa.st.sl b o e n w f;⟨sl,kp b _ e'⟩⟩
 have nLD:¬ Lc X D:=fD.1.2.2.2
 have nLC:¬ Lc X C:=fC.1.2.2.2
 have nob2:∀ {b},z.h b=none→(z1.rel fun _=>false).G b=none→¬ Mu z1.ρ b→b ∉ frs X.fr→¬ Lc X b→b≠C→Nob (cxC X N sc C) z z2 b:=fun h0 h1 h2 h3 h4 h5=>by
  subst hz2
  exact ⟨h0,⟨h1,h2,h3,fun l=>(vz l).elim h5 h4⟩,fun ⟨i,m,_⟩=>nomatch m⟩
 have nobD:Nob (cxC X N sc C) z z2 D:=nob2 zD fD.1.1 fD.1.2.1 fD.1.2.2.1 nLD (Ne.symm CD)
 have fp1:∀ b∈fp,∃ o,z1.h b=some o:=fun b hb=>(f1 b hb).elim (·.2) fun ⟨_,o,e⟩=>⟨o,I1.gh b o e⟩
 have fpn:∀ b∈fp,b≠D∧b≠C:=fun b hb=>by
  obtain ⟨o,e⟩:=fp1 b hb
  exact ⟨fun w=>(by rw [w,nD] at e;cases e),fun w=>(by rw [w,nC] at e;cases e)⟩
 have f2:Fp (cxC X N sc C) z z2 fp wr:=fun b hb=>by
  obtain ⟨o1,e1⟩:=fp1 b hb
  rcases f1 b hb with ⟨⟨n0,ff,no⟩,_⟩ | ⟨m,o,e⟩
  ·exact .inl ⟨nob2 n0 ((cY fun ⟨i,m,_,e⟩=>no ⟨i,m,e⟩).trans ff.1) ff.2.1 ff.2.2.1 ff.2.2.2 (fpn b hb).2,o1,by subst hz2;exact kp b o1 e1⟩
  ·exact .inr ⟨m,o,by subst hz2;exact xr.st.gg b o e⟩
 have pr2:(z1.rel fun _=>false).ρ <+: z2.ρ:=by subst hz2;exact List.prefix_refl _
 have gg2:Sub (z1.rel fun _=>false).G z2.G:=by subst hz2;exact .refl _
 have ow2:z2.t.ow = []:=by subst hz2;rfl
 have s2e:z2.s={ z1.s with heap:=h1,toks:=z1.s.toks+([]:List (Str×Value)).length }:=by subst hz2;rfl
 have hD2:z2.h D=some { cls:=.type "list",data:=.seq ([]:List Value).toArray }:=by show z2.s.heap.get? D=_;rw [s2e];exact hDo
 have st2:St 0 z2.s.heap:=by rw [s2e];exact T.keep _ _ _ st1 fun b _ o e=>kp b o e
 have e2:o=(bh (lcF X t one elt cond) ds [] z2.t).bind fun d s'=>.ok d ⟨z1.t.env,[],s'.st⟩:=by subst hz2;exact e0
 have loop:codeAny X.M X.A (.compLoop (.ListComp ee [⟨tg,iter,ifs,0⟩] sc pos) 0 (.ref a) (.ref D) (cxC X N sc C).env) (compPost X.M X.A E use Q (.ref D) C) z2.s:=by
  refine codeAny_loop rfl (LcJ X (cxC X N sc C) z (z1.rel fun _=>false) z1.t.env ds St fp wr D o (lcF X t one elt cond)) (fun n s3 hI=>?_) (ds.length - 0) ⟨0,z2,[],[],_,rfl,rfl,Nat.zero_le _,S2,I2,ow2,st2,f2,pr2,gg2,nobD,hD2,⟨⟨_,rfl⟩,Nat.zero_le _⟩,rfl,by rw [List.drop_zero];exact e2⟩
  obtain ⟨i,z3,acc,vs,ob,e3,en,hi,S3,I3,ow3,st3,f3,p3,g3,nD3,hD3,lo3,ra3,q⟩:=hI
  subst e3
  show wpAny X.M X.A ((compTurn (.ListComp ee [⟨tg,iter,ifs,0⟩] sc pos) 0 (.ref a) (.ref D) (cxC X N sc C).env).onRaise (fun x=>do noteFrame x (cxC X N sc C).env;theTreesLotGoes x)) _ _ z3.s
  refine wpAny_noted ?_
  rw [compTurn_list]
  refine wpAny_bind (wpAny_standAt (wpAny_bind ?_))
  cases qd:ds[i]? with
  | none=>
    have hl:i=ds.length:=by rw [List.getElem?_eq_none_iff] at qd;omega
    subst hl
    refine wpAny_mono (T.done (I3.hd P.hc) st3) (fun r s4 ⟨er,os,k⟩=>?_) fun _ _ w=>w.elim
    subst er
    obtain ⟨I4,S4,g4,_⟩:=Rep.turn (X:=cxC X N sc C) S3 I3 (f3.wr T st3) k os
    rw [List.drop_length] at q
    have nDw:D ∉ wr:=fun m=>(fpn D (T.sub D m)).1 rfl
    have If:=wT I Ir ⟨x1.en,x1.sg,owr⟩ S4 I4.toHR.out p3 (g3.trans g4)
    obtain ⟨m,hn,_⟩:=I4.lo
    obtain ⟨n0,ff,no⟩:=nD3
    have GD:(z3.up s4).G D=none:=by show (match z3.h D with | none=>s4.heap.get? D | some _=>z3.G D)=none;rw [hD3];exact ff.1
    refine wpAny_pure (fin { z3.up s4 with t:=⟨z.t.env,[],z3.t.st⟩,σ:=z.σ } (.lst acc) D C m ⟨⟨S4.pr,S4.gg,S4.gn,S4.rn,S4.th,S4.sm,S4.sl⟩,rfl,rfl,fun i m=>nomatch m⟩ If (q.trans (by rw [x1.en];rfl)) ⟨D,.lst acc,rfl,zD,rfl,⟨ob,vs,rfl,k D ob nDw hD3,lo3,ra3.mono (List.prefix_refl _) g4⟩,⟨GD,ff.2.1,ff.2.2.1,nLD⟩,fun ⟨i,m,_⟩=>nomatch m⟩ ⟨zC,⟨(I4.fl C (.inl rfl)).1,(I4.fl C (.inl rfl)).2,fC.1.2.2.1,nLC⟩,fun ⟨i,m,_⟩=>nomatch m⟩ ?_ hn CD)
    obtain ⟨oC,_,_,eC,_⟩:=hn
    exact ⟨oC,eC⟩
  | some d=>
    have hil:i<ds.length:=(List.getElem?_eq_some_iff.mp qd).1
    rw [lY qd] at q
    have q:o=((lcF X t one elt cond d z3.t).bind fun o s'=>match o with
     | some e=>if acc.length<100000 then bh (lcF X t one elt cond) (ds.drop (i+1)) (acc ++ [e]) s' else .bad
     | none=>bh (lcF X t one elt cond) (ds.drop (i+1)) acc s').bind fun d s'=>.ok d ⟨z1.t.env,[],s'.st⟩:=q
    refine wpAny_mono (T.item (I3.hd P.hc) qd st3) (fun r s4 ⟨u,er,h4⟩=>?_) fun _ _ w=>w.elim
    subst er
    refine wpAny_bind (wpAny_mono h4 (fun _ s5 ⟨st5,os5,k5,rd5⟩=>?_) fun _ _ w=>w.elim)
    obtain ⟨I5,S5,g5,n5⟩:=Rep.turn (X:=cxC X N sc C) S3 I3 (f3.wr T st3) k5 os5
    have rd:=rd5 z3.ρ (z3.up s5).G (xr.st.pr.trans p3) ((xr.st.gg.trans g3).trans g5) fun a o e1 e2=>by rw [jz e1];exact e2
    have f5:=f3.up I3 g5 k5 fun b m _=>T.ex _ _ st5 b m
    have nDw:D ∉ wr:=fun m=>(fpn D (T.sub D m)).1 rfl
    have nD5:Nob (cxC X N sc C) z (z3.up s5) D:=⟨nD3.1,⟨by show (match z3.h D with | none=>s5.heap.get? D | some _=>z3.G D)=none;rw [hD3];exact nD3.2.1.1,nD3.2.1.2⟩,nD3.2.2⟩
    have hD5:(z3.up s5).h D=some ob:=k5 D ob nDw hD3
    cases qb:aL t one d z3.t.env with
    | none=>rw [show lcF X t one elt cond d z3.t = .bad by unfold lcF;rw [qb]] at q;exact ZX q nb
    | some env=>
      rw [show lcF X t one elt cond d z3.t=(noX (X.ev true cond ⟨env,[],z3.t.st⟩)).bind fun b s2=>(match b with
       | .bl true=>(noX (X.ev false elt s2)).bind fun e s3=>.ok (some e) ⟨s3.env,[],s3.st⟩
       | .bl false=>.ok none ⟨s2.env,[],s2.st⟩
       | _=>.bad) by unfold lcF;rw [qb];all_goals rfl] at q
      refine wpAny_bind (P.hg C (z3.up s5) (z3.up s5) d u env _ _ .refl I5 rd qb fun z6 _ I6 eρ y6 et eσ ek=>?_)
      have k6:=ek P.hl
      have ow6:z6.t.ow = []:=by rw [et];show z3.t.ow.filter _ = [];rw [ow3];rfl
      have t6:z6.t=⟨env,[],z3.t.st⟩:=by rw [et];show (⟨env,z3.t.ow.filter _,z3.t.st⟩:Sta)=_;rw [ow3];rfl
      have S56:Stp X.fr (fun b=>b=C) (z3.up s5) z6:=⟨y6.st.pr,y6.st.gg,fun b o e=>(by
       rcases y6.st.gn b o e with w | w | w
       ·exact .inl w
       ·exact .inr (.inl w)
       ·rcases w with ⟨j,m,_⟩ | l
        ·have:j∈z3.t.ow:=m
         rw [ow3] at this;exact nomatch this
        ·rw [(I6.fl b l).1] at e;cases e),y6.st.rn,y6.st.th,fun b o e _ w _=>k6 b o e w,fun b o e _ w _=>⟨o.slots,k6 b o e w⟩⟩
      have S6:Stp X.fr (Own z) z z6:=S5.trans S56 fun b w=>.inr (by rw [w];exact zC)
      obtain ⟨nD6,hD6⟩:=nD5.go y6 hD5
      have f6:=f5.go y6
      have st6:St (i+1) z6.s.heap:=T.keep _ _ _ st5 (f5.keep y6 I5 I6)
      rw [← t6] at q
      have nb6:(X.ev true cond z6.t).bind toB≠.bad:=fun w=>nb (by
       rw [q]
       cases qc:X.ev true cond z6.t with
       | ok b s2=>
         rw [qc] at w
         cases b with
         | bl b=>cases w
         | _=>rfl
       | exc c l s2=>rfl
       | bad=>rfl)
      refine wpAny_bind (wpAny_mono (P.ht C z6 I6 nb6) (fun b s7 ⟨z7,tb,e7,q7,x7,I7,r7⟩=>?_) fun u s' ⟨z7,c,l,e7,q7,_⟩=>?_)
      rotate_left
      ·refine ZX ?_ nb
       rw [q]
       have q7:(X.ev true cond z6.t).bind toB = .exc c l z7.t:=q7
       cases qc:X.ev true cond z6.t with
       | ok b s2=>rw [qc] at q7;cases b <;> cases q7
       | exc c l s2=>rfl
       | bad=>rw [qc] at q7;cases q7
      subst e7
      obtain ⟨ow7,S67⟩:=x7.nil ow6
      have S7:Stp X.fr (Own z) z z7:=S6.trans S67 fun _ w=>w.elim
      obtain ⟨nD7,hD7⟩:=nD6.go x7.go hD6
      have f7:=f6.go x7.go
      have st7:St (i+1) z7.s.heap:=T.keep _ _ _ st6 (f6.keep x7.go I6 I7)
      have qc:X.ev true cond z6.t = .ok (.bl tb) z7.t:=by
       have q7:(X.ev true cond z6.t).bind toB = .ok tb z7.t:=q7
       cases qc:X.ev true cond z6.t with
       | ok b s2=>rw [qc] at q7;cases b <;> first | (cases q7;rfl) | cases q7
       | exc c l s2=>rw [qc] at q7;cases q7
       | bad=>rw [qc] at q7;cases q7
      rw [qc] at q
      have p7:(z1.rel fun _=>false).ρ <+: z7.ρ:=p3.trans ((eρ ▸ List.prefix_refl _:z3.ρ <+: z6.ρ).trans x7.st.pr)
      have g37:Sub z3.G z7.G:=(g5.trans y6.st.gg).trans x7.st.gg
      cases (show b=tb from r7)
      cases b with
      | false=>
        have q:o=(bh (lcF X t one elt cond) (ds.drop (i+1)) acc ⟨z7.t.env,[],z7.t.st⟩).bind fun d s'=>.ok d ⟨z1.t.env,[],s'.st⟩:=q
        rw [mZ ow7] at q
        exact wpAny_pure ⟨rfl,ds.length - (i+1),by omega,i+1,z7,acc,vs,ob,rfl,rfl,hil,S7,I7,ow7,st7,f7,p7,g3.trans g37,nD7,hD7,lo3,ra3.mono ((eρ ▸ List.prefix_refl _:z3.ρ <+: z6.ρ).trans x7.st.pr) g37,q⟩
      | true=>
        have q:o=(((noX (X.ev false elt z7.t)).bind fun e s3=>Out.ok (some e) ⟨s3.env,[],s3.st⟩).bind fun o s'=>match o with
         | some e=>if acc.length<100000 then bh (lcF X t one elt cond) (ds.drop (i+1)) (acc ++ [e]) s' else .bad
         | none=>bh (lcF X t one elt cond) (ds.drop (i+1)) acc s').bind fun d s'=>.ok d ⟨z1.t.env,[],s'.st⟩:=q
        have nb7:X.ev false elt z7.t≠.bad:=fun w=>nb (by rw [q,w];rfl)
        refine wpAny_bind (wpAny_bind (wpAny_mono (P.he C false z7 I7 nb7) (fun v s8 ⟨z8,de,e8,q8,x8,I8,r8⟩=>?_) fun u s' ⟨z8,c,l,e8,q8,_⟩=>ZX (by rw [q,show X.ev false elt z7.t=_ from q8];rfl) nb))
        subst e8
        rw [show X.ev false elt z7.t=_ from q8] at q
        have q:o=(if acc.length<100000 then bh (lcF X t one elt cond) (ds.drop (i+1)) (acc ++ [de]) ⟨z8.t.env,[],z8.t.st⟩ else .bad).bind fun d s'=>.ok d ⟨z1.t.env,[],s'.st⟩:=q
        by_cases ca:acc.length<100000
        ·rw [ZZ ca] at q
         obtain ⟨ow8,S78⟩:=x8.nil ow7
         rw [mZ ow8] at q
         have S8:Stp X.fr (Own z) z z8:=S7.trans S78 fun _ w=>w.elim
         obtain ⟨nD8,hD8⟩:=nD7.go x8.go hD7
         have f8:=f7.go x8.go
         have st8:St (i+1) z8.s.heap:=T.keep _ _ _ st7 (f7.keep x8.go I7 I8)
         obtain ⟨⟨n,rfl⟩,hz⟩:=lo3
         have ra8:=ra3.mono ((eρ ▸ List.prefix_refl _:z3.ρ <+: z6.ρ).trans (x7.st.pr.trans x8.st.pr)) (g37.trans x8.st.gg)
         have hl:vs.length<100000:=by rw [← ra8.len];exact ca
         refine wpAny_bind (call_meets PySem.F.slot_list_append ⟨_,hD8,rfl⟩ PySem.F.entry_list_append (PySem.F.args_list_append_2 _ _) (PySem.list_append D vs.toArray n v (by rw [List.size_toArray];exact Nat.le_of_lt (Nat.lt_of_lt_of_le hl (big (Nat.le_refl _))))) ⟨hD8,?_⟩)
         obtain ⟨⟨o1,u1,u3⟩,u2⟩:=jA (f:=(·.push v)) (ws:=vs ++ [v]) hD8 (by simp) (by rw [List.length_append];exact big (by simp;omega))
         have k9:∀ b o,b ∉ [D]→z8.h b=some o→(z8.s.heap.update D (Obj.mapSeq (·.push v))).get? b=some o:=fun b o m e=>(u2 b fun w=>m (by rw [w];exact List.mem_singleton.mpr rfl)).trans e
         obtain ⟨I9,S9,g9,_⟩:=Rep.turn (X:=cxC X N sc C) (s':={ z8.s with heap:=z8.s.heap.update D (Obj.mapSeq (·.push v)) }) S8 I8 (fun b hb=>by rw [List.mem_singleton.mp hb];exact ⟨nD8,_,hD8⟩) k9 ⟨rfl,rfl⟩
         refine wpAny_pure (wpAny_pure ⟨rfl,ds.length - (i+1),by omega,i+1,_,acc ++ [de],vs ++ [v],o1,rfl,rfl,hil,S9,I9,ow8,T.keep _ _ _ st8 fun b hb o e=>k9 b o (fun m=>(fpn b hb).1 (List.mem_singleton.mp m)) e,f8.up I8 g9 k9 fun b m hb=>ZX (List.mem_singleton.mp m) (fpn b hb).1,p7.trans x8.st.pr,((g3.trans g37).trans x8.st.gg).trans g9,⟨nD8.1,⟨?_,nD8.2.1.2⟩,nD8.2.2⟩,u1,u3,(ra8.mono (List.prefix_refl _) g9).app (.cons (r8.rd.mono (List.prefix_refl _) g9) rfl),q⟩)
         show (match z8.h D with | none=>_ | some _=>z8.G D)=none
         rw [hD8];exact nD8.2.1.1
        ·rw [ZY ca] at q;exact ZX q nb
 rw [← s2e]
 exact codeAny_compStart_list loop (T.self (I1.hd P.hc) st2 loop)
theorem qR {ee tg iter:Expr} {ifs:List Expr} {t:List Nat} {one:Bool} {it elt cond:E} {pos:Pos} (P:LcP X N ee tg iter ifs sc t one it elt cond):LF X (.ListComp ee [⟨tg,iter,ifs,0⟩] sc pos) (.lc t one it elt cond):=fun z I nb=>by
 rw [eval_ListComp]
 refine qI P I rfl nb (fun _ _ h=>h) fun zf d D C m x If e fv nC exC hn CD=>⟨m,hn,fun h' sb=>?_⟩
 have k:∀ b o,b ∉ [C]→zf.h b=some o→h'.get? b=some o:=fun b o m e=>(sb.2 b fun w=>m (by rw [w];exact List.mem_singleton.mpr rfl)).trans e
 obtain ⟨I4,S4,g4,_⟩:=Rep.turn (s':={ zf.s with heap:=h' }) x.st If (fun b hb=>by rw [List.mem_singleton.mp hb];exact ⟨nC,exC⟩) k ⟨rfl,rfl⟩
 obtain ⟨a,ob,ea,n,t1,r,f,no⟩:=fv
 have ea:a=D:=(Value.ref.inj ea).symm
 subst ea
 obtain ⟨oa,ha⟩:=r.th.1
 refine ⟨zf.up { zf.s with heap:=h' },d,rfl,e,⟨S4,x.sg,x.en,x.ow⟩,I4,a,ob,rfl,n,t1,r.mono (List.prefix_refl _) g4 fun b hb o e=>k b o (fun m=>?_) e,⟨?_,f.2⟩,no⟩
 ·have:b=a:=by rcases hb with w | w <;> exact w
  exact CD ((List.mem_singleton.mp m).symm.trans this)
 ·show (match zf.h a with | none=>h'.get? a | some _=>zf.G a)=none
  rw [ha];exact f.1
theorem zQ {ee tg iter:Expr} {ifs:List Expr} {t:List Nat} {one:Bool} {it elt cond:E} {pos:Pos} (P:LcP X N ee tg iter ifs sc t one it elt cond):LE X (.ListComp ee [⟨tg,iter,ifs,0⟩] sc pos) (.lc t one it elt cond):=(qR P).le fun _=>rfl
theorem qZ {ee tg iter:Expr} {ifs:List Expr} {t:List Nat} {one:Bool} {it elt cond:E} {pos pos' spos:Pos} {i:Nat} {x:Str} (hN:X.N.Nodup) (hi:X.N[i]? = some x) (hx:Loc X.env.scope x) (P:LcP X N ee tg iter ifs sc t one it elt cond):LS X (.Assign [.Name x pos'] (.ListComp ee [⟨tg,iter,ifs,0⟩] sc pos) spos) (.set i (.lc t one it elt cond)):=fun z I nb=>by
 obtain ⟨b,sw⟩:∃ b,swapsWith (.ListComp ee [⟨tg,iter,ifs,0⟩] sc pos) (some (.Name x pos')) spos.line X.env=pure b:=⟨_,rfl⟩
 cases b with
 | false=>exact ly hN hi hx (zQ P) (fun _=>qR P) sw z I nb
 | true=>
   have nb1:X.ev false (.lc t one it elt cond) z.t≠.bad:=fun q=>nb (show Out.go (X.ev false (.lc t one it elt cond) z.t) _=_ by rw [q];rfl)
   rw [exec_Assign_Name_used _ _ _ _ sw]
   refine wpAny_bind (wpAny_standAt (wpAny_bind ?_))
   show wpAny _ X.A (do let _ ← comprehension (.ListComp ee [⟨tg,iter,ifs,0⟩] sc pos) sc X.env _ (newList []) false (eval iter X.env) (some (assign (.Name x pos') X.env))) _ _ z.s
   refine wpAny_bind (thn (qI (use:=some (assign (.Name x pos') X.env)) (Q:=fun _ s'=>Ps X z (X.ex (.set i (.lc t one it elt cond)) z.t) .next s') P I rfl nb1 (fun u s' h=>PxS.of .refl h) fun zf d D C m x0 If e fv nC exC hn CD=>?_) fun _ s' hq=>wpAny_pure (wpAny_pure hq))
   show wpAny _ X.A (assign (.Name x pos') X.env (.ref D)) _ _ _
   refine wpAny_assign_Name (cg (own:=true) x0.go If hN hi hx fv fun s' a sb la I' g'=>?_)
   have Ca:C≠a:=fun w=>nC.2.1.2.2.2 (w ▸ la.1)
   refine ⟨m,hn.sameBut sb Ca,fun h' sb'=>?_⟩
   have k:∀ b o,b ∉ [C]→s'.heap.get? b=some o→h'.get? b=some o:=fun b o m e=>(sb'.2 b fun w=>m (by rw [w];exact List.mem_singleton.mpr rfl)).trans e
   obtain ⟨oC,eC⟩:=exC
   obtain ⟨I4,S4,g4,_⟩:=Rep.turn (z:={ zf with t:=stV zf.t i d true,σ:=zf.σ.set i (some (.ref D)),s:=s' }) (s':={ s' with heap:=h' }) g'.st I' (fun b hb=>by
    rw [List.mem_singleton.mp hb]
    refine ⟨⟨nC.1,nC.2.1,fun ⟨j,mj,ej⟩=>?_⟩,oC,(sb.2 C Ca).trans eC⟩
    by_cases q:j=i
    ·subst q
     have hl:j<zf.σ.length:=by rw [If.sl];exact (List.getElem?_eq_some_iff.mp hi).1
     have ej:(zf.σ.set j (some (.ref D)))[j]? = some (some (.ref C)):=ej
     rw [List.getElem?_set_self hl] at ej
     cases ej;exact CD rfl
    ·have ej:(zf.σ.set i (some (.ref D)))[j]? = some (some (.ref C)):=ej
     rw [List.getElem?_set_ne (Ne.symm q)] at ej
     have mj:j∈i :: zf.t.ow.filter (· != i):=mj
     rcases List.mem_cons.mp mj with w | w
     ·exact q w
     ·exact nC.2.2 ⟨j,(List.mem_filter.mp w).1,ej⟩) k ⟨rfl,rfl⟩
   refine nxt (z1:=Z.up { zf with t:=stV zf.t i d true,σ:=zf.σ.set i (some (.ref D)),s:=s' } { s' with heap:=h' }) ⟨S4,g'.ow⟩ I4 ?_
   show Out.go (X.ev false (.lc t one it elt cond) z.t) _=_
   rw [e]
   show ar.nx (lM zf.t i d true)=_
   have ld:wH d=true:=by
    obtain ⟨_,_,_,_,t,_⟩:=fv
    cases d <;> first | rfl | cases t
   unfold lM
   rw [ld];rfl
end
theorem qo {kp:List Nat} {env:List (Option D)} {i:Nat} {d:D}:(qm kp env)[i]? = some (some d)↔i ∉ kp∧env[i]? = some (some d):=by
 unfold qm
 rw [List.getElem?_mapIdx]
 by_cases c:i∈kp
 ·simp [c]
 ·simp [c]
theorem iX {kp:List Nat} {s:Sta} {i:Nat}:i∈(hid kp s).ow↔i∈s.ow∧i ∉ kp:=by
 unfold hid
 simp
section
variable {X:Cx} {z z':Z} {kp:List Nat}
theorem Rep.hid (I:Rep X z):Rep X { z with t:=L2.Ev.hid kp z.t }:=by
 refine ⟨⟨I.md,I.fm,I.hd,I.bs,I.gh,I.rl,I.rn,I.rg,I.ob,I.fu,I.ff,I.br,I.os⟩,I.ok,I.lo,I.ce,I.fl,?_,I.sl,fun i d n e=>?_,fun i m=>?_,fun i j a m1 m2 e1 e2=>I.od i j a (iX.mp m1).1 (iX.mp m2).1 e1 e2⟩
 ·show (qm kp z.t.env).length=_
  unfold qm
  rw [List.length_mapIdx];exact I.el
 ·obtain ⟨h1,h2⟩:=qo.mp e
  exact I.en i d (fun m=>n (iX.mpr ⟨m,h1⟩)) h2
 ·obtain ⟨m1,m2⟩:=iX.mp m
  obtain ⟨d,a,o,h1,h2,h3,h4,h5⟩:=I.eo i m1
  exact ⟨d,a,o,qo.mpr ⟨m2,h1⟩,h2,h3,h4,h5⟩
end
section
variable {X:Cx} {z z0:Z}
theorem Rep.frz {P:Addr→Prop} [DecidablePred P] (I:Rep X z) (h:∀ a,P a→(Fre X z a∧¬ Own z a)∧∃ o,z.h a=some o):Rep X { z with G:=fun a=>if P a then z.h a else z.G a }∧Sub z.G (fun a=>if P a then z.h a else z.G a):=by
 have no:∀ {a o},z.G a=some o→¬ P a:=fun e p=>by rw [(h _ p).1.1.1] at e;cases e
 have sb:Sub z.G (fun a=>if P a then z.h a else z.G a):=fun a o e=>by show (if P a then z.h a else z.G a)=_;rw [ZY (no e)];exact e
 have nn:∀ {a},¬ P a→z.G a=none→(if P a then z.h a else z.G a)=none:=fun n e=>by rw [ZY n];exact e
 refine ⟨⟨⟨I.md,I.fm,I.hd,fun b o e=>sb b o (I.bs b o e),fun a o e=>?_,I.rl,I.rn,fun a m=>nn (fun p=>(h a p).1.1.2.1 m) (I.rg a m),fun n o p h1 h2=>(I.ob n o p h1 h2).mono (List.prefix_refl _) sb fun _ _ _ e=>e,I.fu,fun b m=>⟨nn (fun p=>(h b p).1.1.2.2.1 m) (I.ff b m).1,(I.ff b m).2⟩,I.br,I.os⟩,I.ok,I.lo,I.ce,fun a l=>⟨nn (fun p=>(h a p).1.1.2.2.2 l) (I.fl a l).1,(I.fl a l).2⟩,I.el,I.sl,fun i d n e=>let ⟨u,q,r⟩:=I.en i d n e;⟨u,q,r.mono (List.prefix_refl _) sb⟩,fun i m=>?_,I.od⟩,sb⟩
 ·have e:(if P a then z.h a else z.G a)=some o:=e
  by_cases p:P a
  ·rw [ZZ p] at e;exact e
  ·rw [ZY p] at e;exact I.gh a o e
 ·obtain ⟨d,a,o,h1,h2,h3,r,f⟩:=I.eo i m
  exact ⟨d,a,o,h1,h2,h3,r.mono (List.prefix_refl _) sb fun _ _ _ e=>e,nn (fun p=>(h a p).1.2 ⟨i,m,h2⟩) f.1,f.2⟩
theorem ql {x:Str} {own:Bool} {R:Z→D→Value→Prop} (F:bJ X X.cal lv j f) (hr:bg lv X.A) (hg:Gl X x) (hm:X.mg x=some (.ref f)) (ha:LA X (ea :: er) es) (hd:(x == ("__debug__":Str))=false) (he:starEach (ea :: er) X.env=(false,eval ea X.env) :: starEach er X.env) (hpl:(backTo pos (starEach er X.env)).any (·.1)=false) (I:Rep X z) (nb:X.ev false (.fcall own j es) z.t≠.bad)
 (fin:∀ z1 z' d u d',Ee X z z1→Rep X z1→Stp X.fr NoW z1.bare z'→HR X z'→RD X.W z'.ρ z'.G d u→oB z'.t.st d=some d'→(own && !jW d)=false→X.ev false (.fcall own j es) z.t = .ok d' z1.t→Pe X z (X.ev false (.fcall own j es) z.t) R u z'.s):Wp X (eval (.Call (.Name x p) (ea :: er) [] pos) X.env) z (X.ev false (.fcall own j es) z.t) R:=
 wpAny_Call_Name_kw (bt I hg hm (PySem.W.callWith_K (h₀:=X.base) I.md.kin (let ⟨_,_,_,_,k⟩:=F;k) ((ha false pos).go .refl I rfl nb fun z1 l us y1 x1 I1 r1 e1=>⟨I1.toHR.kin,by
  obtain ⟨fd,ps,F,hb,kp⟩:=F
  unfold sR at e1
  by_cases nr:aG l=true
  ·rw [ZZ nr] at e1
   have nbc:X.cal j l []≠.bad:=fun q=>by rw [q] at e1;exact nb e1
   have rd:RDs X.W z1.bare.ρ z1.bare.G l us:=bb nr r1.rds
   have hl:us.length=ps.length:=rd.len ▸ F.len _ _ nbc
   have bd:=hb z1.s us I1.toHR.kin (by rw [List.append_nil];exact hl)
   rw [List.append_nil] at bd
   refine wpAny_call (codeAny_mono (F.run X.A X.fr z1.bare ⟨us,[]⟩ us l hr I1.toHR.bare bd rd nbc) fun q s' hq=>?_)
   cases q with
   | error e=>
     obtain ⟨z',c,l',rfl,er,S,H,a,T,cls,dx,rfl,xr',tr,⟨na,ga,ma⟩,nT,gT,mT⟩:=hq
     rw [show X.cal j l []=_ from er] at e1
     obtain ⟨If,xf⟩:=I1.hout S H
     by_cases n2:aG l'=true
     ·have e1:=e1.trans (ZZ n2)
      have nob:∀ {b:Addr},z1.h b=none→z'.G b=none→Nob X z1 { z1 with G:=z'.G,s:=z'.s } b:=fun {b} n g=>by
       have ⟨f,no⟩:=I1.fre n
       exact ⟨n,⟨g,f.2⟩,no⟩
      refine Px.less x1 ⟨{ z1 with G:=z'.G,s:=z'.s },c,l',rfl,e1,xf,If,a,cls,dx,rfl,?_,nob na ga,.inr ⟨T,.none,tr,.inl rfl,nob nT gT⟩⟩
      obtain ⟨i,a1,a2,a3,a4,a5⟩:=xr'
      exact ⟨i,a1,a2,a3,a4,a5.imp_right fun ⟨d,od,vs,b1,b2,b3,b4⟩=>⟨d,od,vs,b1,b2,b3,bb n2 b4⟩⟩
     ·exact ZX (e1.trans (ZY n2)) nb
   | ok fl=>
     cases fl with
     | ret u=>
       obtain ⟨z',d,rfl,er,S,H,r⟩:=hq
       rw [show X.cal j l []=_ from er] at e1
       dsimp only at e1
       by_cases n2:(own && !jW d)=true
       ·rw [ZZ n2] at e1;exact ZX e1 nb
       ·rw [ZY n2] at e1
        cases q:oB z'.t.st d with
        | none=>rw [q] at e1;exact ZX e1 nb
        | some d'=>rw [q] at e1;exact fin z1 z' d u d' x1 I1 S H r q (by simpa using n2) e1
     | next=>exact hq.elim
     | brk=>exact hq.elim
     | cont=>exact hq.elim
  ·rw [ZY nr] at e1;exact ZX e1 nb⟩) he hpl) hd)
theorem l6 {d d':D} {u:Value} {ρ0:Rs} {G2:Hp} (H:HR X z) (r:RD X.W z.ρ z.G d u) (e:sS z.t.st d=some d') (g:Sub z.G G2) (k:∀ a,Mu z.ρ a→G2 a=z.h a):RD X.W ρ0 G2 d' u:=by
 have rest:(if noR d=true then some d else none)=some d'→RD X.W ρ0 G2 d' u:=fun e=>by
  by_cases n:noR d=true
  ·rw [ZZ n] at e;cases e;exact (lK n r:RD X.W ρ0 z.G d u).mono (List.prefix_refl _) g
  ·rw [ZY n] at e;cases e
 cases d with
 | ref n=>
   obtain ⟨p,ep,rfl⟩:=r
   have mu:Mu z.ρ p.1:=⟨p,List.mem_of_getElem? ep,.inl rfl⟩
   have e:(match z.t.st[n]? with | some (.lst l)=>if aG l then some (D.lst l) else none | some (.dic k l)=>if aG l then some (.dic k l) else none | _=>none)=some d':=e
   cases q:z.t.st[n]? with
   | none=>rw [q] at e;cases e
   | some o=>
     have ob:=H.ob n o p q ep
     rw [q] at e
     cases o with
     | lst l=>
       obtain ⟨o,vs,_,h1,h2,h3⟩:=ob
       have e:(if aG l=true then some (D.lst l) else none)=some d':=e
       by_cases n:aG l=true
       ·rw [ZZ n] at e;cases e;exact ⟨p.1,o,vs,rfl,(k _ mu).trans h1,h2,(bb n h3:RDs X.W ρ0 z.G l vs).mono (List.prefix_refl _) g⟩
       ·rw [ZY n] at e;cases e
     | dic ks l=>
       obtain ⟨o,vs,_,m,h1,h2,h4,h3⟩:=ob
       have e:(if aG l=true then some (D.dic ks l) else none)=some d':=e
       by_cases n:aG l=true
       ·rw [ZZ n] at e;cases e;exact ⟨p.1,o,vs,rfl,m,(k _ mu).trans h1,h2,h4,(bb n h3:RDs X.W ρ0 z.G l vs).mono (List.prefix_refl _) g⟩
       ·rw [ZY n] at e;cases e
     | ins c l=>cases e
 | _=>exact rest e
theorem l8 {ρ0:Rs} {G2:Hp} (H:HR X z) (g:Sub z.G G2) (k:∀ a,Mu z.ρ a→G2 a=z.h a):∀ {l l':List D} {us:List Value},RDs X.W z.ρ z.G l us→p6 z.t.st l=some l'→RDs X.W ρ0 G2 l' us
 | [],l',us,r,e=>by cases e;exact r
 | d :: l,l',us,⟨u,us',e1,h1,h2⟩,e=>by
   obtain ⟨d',e2,e3⟩:=Option.bind_eq_some_iff.mp (show (sS z.t.st d).bind (fun e=>(p6 z.t.st l).map (e :: ·))=some l' from e)
   obtain ⟨l2,e4,e5⟩:=Option.map_eq_some_iff.mp e3
   subst e1 e5
   exact .cons (l6 H h1 e2 g k) (l8 H g k h2 e4)
theorem sT {d d':D} {u:Value} {ρ0:Rs} {G2:Hp} (H:HR X z) (r:RD X.W z.ρ z.G d u) (e:oB z.t.st d=some d') (g:Sub z.G G2) (k:∀ a,Mu z.ρ a→G2 a=z.h a):RD X.W ρ0 G2 d' u:=by
 cases d with
 | tup l=>
   obtain ⟨l',e1,rfl⟩:=Option.map_eq_some_iff.mp (show (p6 z.t.st l).map D.tup=some d' from e)
   obtain ⟨a,o,vs,h1,h2,h3,h4⟩:=r
   exact ⟨a,o,vs,h1,g _ _ h2,h3,l8 H g k h4 e1⟩
 | _=>exact l6 H r e g k
theorem qK {x:Str} (F:bJ X X.cal lv j f) (hr:bg lv X.A) (hg:Gl X x) (hm:X.mg x=some (.ref f)) (ha:LA X (ea :: er) es) (hd:(x == ("__debug__":Str))=false) (he:starEach (ea :: er) X.env=(false,eval ea X.env) :: starEach er X.env) (hpl:(backTo pos (starEach er X.env)).any (·.1)=false):LE X (.Call (.Name x p) (ea :: er) [] pos) (.fcall false j es):=fun br z I nb=>ql F hr hg hm ha hd he hpl I nb fun z1 z' d u d' x1 I1 S H r e _ e1=>by
 classical
 have new:∀ a,Mu z'.ρ a→z1.h a=none:=fun a m=>(S.rn a m).elim (fun m=>(dX m).elim) id
 obtain ⟨If,xf⟩:=I1.hout S H
 obtain ⟨I2,sb⟩:=If.frz (P:=fun a=>Mu z'.ρ a) fun a m=>⟨let ⟨f,no⟩:=I1.fre (new a m);⟨⟨H.rg a m,f.2⟩,no⟩,H.th m⟩
 refine Pe.less x1 ⟨{ z1 with G:=fun a=>if Mu z'.ρ a then z'.h a else z'.G a,s:=z'.s },d',rfl,e1,⟨⟨List.prefix_refl _,xf.st.gg.trans sb,fun a o q=>?_,fun _ m=>.inl m,xf.st.th,xf.st.sm,xf.st.sl⟩,rfl,rfl,fun _ h=>h⟩,I2,.of (sT H r e sb fun a m=>ZZ m)⟩
 have q:(if Mu z'.ρ a then z'.h a else z'.G a)=some o:=q
 by_cases m:Mu z'.ρ a
 ·exact .inr (.inl (new a m))
 ·rw [ZY m] at q;exact xf.st.gn a o q
theorem qQ {x:Str} (F:bJ X X.cal lv j f) (hr:bg lv X.A) (hg:Gl X x) (hm:X.mg x=some (.ref f)) (ha:LA X (ea :: er) es) (hd:(x == ("__debug__":Str))=false) (he:starEach (ea :: er) X.env=(false,eval ea X.env) :: starEach er X.env) (hpl:(backTo pos (starEach er X.env)).any (·.1)=false):LF X (.Call (.Name x p) (ea :: er) [] pos) (.fcall true j es):=fun z I nb=>ql F hr hg hm ha hd he hpl I nb fun z1 z' d u d' x1 I1 S H r e c e1=>by
 have new:∀ a,Mu z'.ρ a→z1.h a=none:=fun a m=>(S.rn a m).elim (fun m=>(dX m).elim) id
 obtain ⟨If,xf⟩:=I1.hout S H
 cases d with
 | ref n=>
   obtain ⟨p,ep,rfl⟩:=r
   have mu:Mu z'.ρ p.1:=⟨p,List.mem_of_getElem? ep,.inl rfl⟩
   have nn:=new _ mu
   have ⟨f,no⟩:=I1.fre nn
   have e:(match z'.t.st[n]? with | some (.lst l)=>if aG l then some (D.lst l) else none | some (.dic k l)=>if aG l then some (.dic k l) else none | _=>none)=some d':=e
   cases q:z'.t.st[n]? with
   | none=>rw [q] at e;cases e
   | some o=>
     have ob:=H.ob n o p q ep
     rw [q] at e
     cases o with
     | lst l=>
       obtain ⟨o,vs,h0,h1,h2,h3⟩:=ob
       have e:(if aG l=true then some (D.lst l) else none)=some d':=e
       by_cases n:aG l=true
       ·rw [ZZ n] at e;cases e
        exact Pe.less x1 ⟨{ z1 with G:=z'.G,s:=z'.s },.lst l,rfl,e1,xf,If,p.1,.lst l,rfl,x1.st.no nn,rfl,⟨o,vs,rfl,h1,h2,bb n h3⟩,⟨H.rg _ mu,f.2⟩,no⟩
       ·rw [ZY n] at e;cases e
     | dic ks l=>
       obtain ⟨o,vs,h0,m,h1,h2,h4,h3⟩:=ob
       have e:(if aG l=true then some (D.dic ks l) else none)=some d':=e
       by_cases n:aG l=true
       ·rw [ZZ n] at e;cases e
        exact Pe.less x1 ⟨{ z1 with G:=z'.G,s:=z'.s },.dic ks l,rfl,e1,xf,If,p.1,.dic ks l,rfl,x1.st.no nn,rfl,⟨o,vs,rfl,m,h1,h2,h4,bb n h3⟩,⟨H.rg _ mu,f.2⟩,no⟩
       ·rw [ZY n] at e;cases e
     | ins c l=>cases e
 | _=>cases c
end
structure Wr (S ch:List Addr) (h h':Heap):Prop where
 keep:∀ b o,h.get? b=some o→b ∉ S→b ∉ ch→h'.get? b=some o
 slot:∀ b o,h.get? b=some o→b ∉ ch→∃ sl,h'.get? b=some { o with slots:=sl }
 there:∀ b o,h.get? b=some o→∃ o',h'.get? b=some o'
section
variable {S ch ch':List Addr} {h h1 h2 h':Heap}
theorem Wr.trans (x:Wr S ch h h1) (y:Wr S ch h1 h2):Wr S ch h h2:=
 ⟨fun b o e n m=>y.keep b o (x.keep b o e n m) n m,fun b o e m=>let ⟨_,e1⟩:=x.slot b o e m;let ⟨sl,e2⟩:=y.slot b _ e1 m;⟨sl,e2⟩,fun b o e=>let ⟨_,e1⟩:=x.there b o e;y.there b _ e1⟩
theorem Wr.mono (x:Wr S ch h h') (k:∀ b∈ch,b∈ch'):Wr S ch' h h':=⟨fun b o e n m=>x.keep b o e n fun z=>m (k b z),fun b o e m=>x.slot b o e fun z=>m (k b z),x.there⟩
theorem Wr.kept (k:∀ b o,h.get? b=some o→h'.get? b=some o):Wr S ch h h':=⟨fun b o e _ _=>k b o e,fun b o e _=>⟨o.slots,k b o e⟩,fun b o e=>⟨o,k b o e⟩⟩
theorem Wr.set (ho:h.get? a=some o) (hd:o.data = .fields vs) (g:Array Value→Array Value):Wr S [a] h (h.update a (Obj.mapFields g)):=by
 have ot:∀ b,b≠a→(h.update a (Obj.mapFields g)).get? b=h.get? b:=fun b n=>Heap.get?_update_other h _ fun z=>n z.symm
 have nm:∀ b,b ∉ [a]→b≠a:=fun b m z=>m (by rw [z];exact List.mem_cons_self)
 refine ⟨fun b u e _ m=>by rw [ot b (nm b m)];exact e,fun b u e m=>⟨u.slots,by rw [ot b (nm b m)];exact e⟩,fun b u e=>?_⟩
 by_cases z:b=a
 ·subst z
  exact ⟨_,Heap.get?_update_self _ ho (Obj.isFreed_of_fields (Obj.data_mapFields hd g))⟩
 ·exact ⟨u,by rw [ot b z];exact e⟩
theorem Wr.slots (x:Heap.SlotsOnly S h h'):Wr S ch h h':=⟨fun b o e n _=>(x.2.1 b n).trans e,fun b o e _=>x.2.2 b o e,fun b o e=>let ⟨_,q⟩:=x.2.2 b o e;⟨_,q⟩⟩
end
theorem fK (g:Array Value→Array Value) (o):(Obj.mapFields g o).dict=o.dict:=by
 obtain ⟨c,d,dt,sl⟩:=o
 cases dt <;> rfl
section
variable {M:Model} {A:Around} {E:Value→Shared→Prop} {s:Shared} {a T L:Addr} {cls fl:Value} {dx:Option Addr} {Q:Unit→Shared→Prop} {base:Heap} {env:Env} {outer:List Env} {S:List Addr}
theorem lO (t:Tr s.heap a cls dx T fl) (hQ:∀ h',Tr h' a cls dx T (fr.elim .none fun f=>rawInt f)→Wr S [T] s.heap h'→Q () { s with heap:=h' }):wpAny M A (setFlight (.ref a) fr) Q E s:=by
 obtain ⟨oe,vs,oT,ts,he,hc,hd,h1,ne,hT,hdT,h3⟩:=t
 have z3:=(Array.getElem?_eq_some_iff.mp h3).1
 unfold setFlight
 refine wpAny_bind (wpAny_field he hd h1 ?_)
 rw [ZZ (show (Value.ref T != Value.none)=true by simp)]
 refine wpAny_setField hT hdT z3 (hQ _ ?_ (Wr.set hT hdT _))
 have dT:=Obj.data_mapFields hdT (·.setIfInBounds 3 (fr.elim Value.none fun f=>rawInt f))
 exact ⟨oe,vs,_,_,(Heap.get?_update_other _ _ ne).trans he,hc,hd,h1,ne,Heap.get?_update_self _ hT (Obj.isFreed_of_fields dT),dT,by simp [z3]⟩
theorem entry (hfr:A.frames=some (env :: outer)) (hl:s.heap.FunFrames base (env :: outer)) (hf:env.frame=some L) (he:s.heap.get? a=some oe) (hd:oe.data = .fields vs) (hz:1<vs.size)
 (hQ:∀ h' T,s.heap.get? T=none→Tr h' a oe.cls oe.dict T (rawInt L)→Wr (frs (env :: outer)) [a] s.heap h'→Q () { s with heap:=h' }) :
 wpAny M A (do let x ← frameOf env;let pl ← entryPlaceOf L hn;let b ← EntryCells.newEntry head x .none (rawInt L) .none pl;setField (.ref a) 1 b) Q E s:=by
 have na:a ∉ (env :: outer).filterMap (·.frame):=fun m=>by
  obtain ⟨_,o,ho,nf⟩:=hl.mem m
  rw [he] at ho
  cases ho
  exact nf vs hd
 refine wpAny_bind (wpAny_frameOf_fun hfr hl hf fun g hg=>wpAny_bind (wpAny_entryPlaceOf fun pl hp=>?_))
 unfold EntryCells.newEntry newFields;refine wpAny_bind (wpAny_newObj_type ?_ (IsPlace.sizeOk5 hp _ _ _ _ _))
 have ea:g.get? a=some oe:=(hg.2.1 a na).trans he
 generalize hu:([head,Value.ref L,Value.none,rawInt L,Value.none] ++ (if pl.isEmpty then List.replicate 6 Value.none else pl)).toArray=us
 have u3:us[3]? = some (rawInt L):=by rw [← hu];rfl
 have ea2:=Heap.get?_push_of_some (h:=g) { cls:=.type "traceback",dict:=none,data:=.fields us } ea
 have nT:g.objs.size≠a:=Nat.ne_of_gt (Heap.lt_size ea)
 refine wpAny_setField ea2 hd hz (hQ _ g.objs.size ?_ ?_ ?_)
 ·rw [hg.1];exact Heap.get?_none_of_le (Nat.le_refl _)
 ·have da:=Obj.data_mapFields hd (·.setIfInBounds 1 (Value.ref g.objs.size))
  exact ⟨_,_,_,us,Heap.get?_update_self _ ea2 (Obj.isFreed_of_fields da),⟨Obj.cls_mapFields _ _,fK _ _⟩,da,by simp [hz],nT,(Heap.get?_update_other _ _ (Ne.symm nT)).trans (Heap.get?_push_size g rfl),rfl,u3⟩
 ·exact (Wr.slots (ch:=[a]) hg).trans ((Wr.kept fun b o e=>Heap.get?_push_of_some _ e).trans (Wr.set ea2 hd _))
theorem rC (hfr:A.frames=some (env :: outer)) (hl:s.heap.FunFrames base (env :: outer)) (hf:env.frame=some L) (x:Rw s.heap a cls dx)
 (hQ:∀ h' T,s.heap.get? T=none→Tr h' a cls dx T (rawInt L)→Wr (frs (env :: outer)) [a] s.heap h'→Q () { s with heap:=h' }):wpAny M A (noteFrame (.ref a) env) Q E s:=by
 obtain ⟨oe,vs,he,⟨rfl,rfl⟩,hd,h1⟩:=x
 unfold noteFrame
 simp only [hf]
 refine wpAny_bind (wpAny_field he hd h1 ?_)
 rw [ZY (by decide)]
 exact entry hfr hl hf he hd (Array.getElem?_eq_some_iff.mp h1).1 hQ
theorem oW (hfr:A.frames=some (env :: outer)) (hl:s.heap.FunFrames base (env :: outer)) (hf:env.frame=some L) (x:Tr s.heap a cls dx T .none)
 (hQ:∀ h' T',s.heap.get? T'=none→Tr h' a cls dx T' (rawInt L)→Wr (frs (env :: outer)) [a,T] s.heap h'→Q () { s with heap:=h' }):wpAny M A (noteFrame (.ref a) env) Q E s:=by
 obtain ⟨oe,vs,oT,ts,he,⟨rfl,rfl⟩,hd,h1,ne,hT,hdT,h3⟩:=x
 unfold noteFrame
 simp only [hf]
 refine wpAny_bind (wpAny_field he hd h1 ?_)
 rw [ZZ (show (Value.ref T != Value.none)=true by simp)]
 refine wpAny_bind (wpAny_field hT hdT h3 ?_)
 rw [ZY (show ¬ ((Value.none == rawInt L)=true) by simp [rawInt])]
 refine wpAny_bind (wpAny_setField hT hdT (Array.getElem?_eq_some_iff.mp h3).1 ?_)
 have w1:Wr (frs (env :: outer)) [T] s.heap _:=Wr.set hT hdT (·.setIfInBounds 3 Value.none)
 refine entry hfr (hl.of_keeps fun b o e nf=>⟨o,?_,rfl⟩) hf ((Heap.get?_update_other _ _ ne).trans he) hd (Array.getElem?_eq_some_iff.mp h1).1 fun h' T' n t w=>hQ h' T' ?_ t ((w1.mono (by simp)).trans (w.mono (by simp)))
 ·refine (Heap.get?_update_other _ _ fun z=>?_).trans e
  subst z
  rw [hT] at e
  cases e
  exact nf ts hdT
 ·cases q:s.heap.get? T' with
  | none=>rfl
  | some o=>
    obtain ⟨o',e'⟩:=w1.there T' o q
    rw [n] at e'
    cases e'
theorem oV (hf:env.frame=some L) (x:Tr s.heap a cls dx T (rawInt L)) (hQ:Q () s):wpAny M A (noteFrame (.ref a) env) Q E s:=by
 obtain ⟨oe,vs,oT,ts,he,⟨rfl,rfl⟩,hd,h1,ne,hT,hdT,h3⟩:=x
 unfold noteFrame
 simp only [hf]
 refine wpAny_bind (wpAny_field he hd h1 ?_)
 rw [ZZ (show (Value.ref T != Value.none)=true by simp)]
 refine wpAny_bind (wpAny_field hT hdT h3 ?_)
 rw [ZZ (show (rawInt L == rawInt L)=true by simp)]
 exact wpAny_pure hQ
end
section
variable {X:Cx} {z z' z0 z1:Z} {M:Model} {w:Addr→Prop}
theorem p8 {h h':Heap}:∀ {l:List Env},h.FunFrames base l→(∀ b∈frs l,∀ o,h.get? b=some o→∃ sl,h'.get? b=some { o with slots:=sl })→h'.FunFrames base l
 | [],_,_=>trivial
 | v :: r,⟨a,⟨L,o,e1,e2,e3,e4⟩,q⟩,k=>by
   have hm:L∈frs (v :: r):=by unfold frs;rw [List.filterMap_cons,e1];exact List.mem_cons_self
   obtain ⟨sl,e5⟩:=k L hm o e3
   exact ⟨a,⟨L,_,e1,e2,e5,e4⟩,p8 q fun b hb=>k b (by unfold frs;rw [List.filterMap_cons,e1];exact List.mem_cons_of_mem _ hb)⟩
theorem Rep.wr {h':Heap} {ch:List Addr} {t:Nat} (I:Rep X z) (y:Wr (frs X.fr) ch z.s.heap h') (hc:∀ b∈ch,Fre X z b∧¬ Own z b):Rep X { z with s:={ z.s with heap:=h',toks:=t } }:=by
 have nG:∀ {b o},z.G b=some o→z.h b=some o→h'.get? b=some o:=fun e e'=>y.keep _ _ e' (fun m=>by rw [(I.ff _ m).1] at e;cases e) fun m=>by rw [(hc _ m).1.1] at e;cases e
 have sl:∀ b,Lc X b→∀ o,z.s.heap.get? b=some o→∃ sl,h'.get? b=some { o with slots:=sl }:=fun b l o e=>y.slot b o e fun m=>(hc b m).1.2.2.2 l
 have ck:∀ x c v,X.env.cells.lookup x=some c→z.s.heap.IsCell c v→h'.IsCell c v:=fun x c v e ⟨o,q,d⟩=>let ⟨_,q2⟩:=sl c (.inr ⟨x,e⟩) o q;⟨_,q2,d⟩
 refine ⟨⟨I.md,I.fm,I.hd,I.bs,fun b o e=>nG e (I.gh b o e),I.rl,I.rn,I.rg,fun n o p h1 h2=>(I.ob n o p h1 h2).mono (List.prefix_refl _) (.refl _) fun b hb o e=>?_,p8 I.fu fun b hb o e=>y.slot b o e fun m=>(hc b m).1.2.2.1 hb,I.ff,I.br,I.os⟩,I.ok,?_,fun x c e=>let ⟨v,q⟩:=I.ce x c e;⟨v,ck x c v e q⟩,I.fl,I.el,I.sl,I.en,fun i m=>?_,I.od⟩
 ·have mu:Mu z.ρ b:=⟨p,List.mem_of_getElem? h2,hb⟩
  exact y.keep b o e (fun m=>(I.ff b m).2 mu) fun m=>(hc b m).1.2.1 mu
 ·obtain ⟨m,⟨oL,es,ep,q,r⟩,hl⟩:=I.lo
  obtain ⟨_,q2⟩:=sl _ (.inl rfl) _ q
  exact ⟨m,⟨_,es,ep,q2,r⟩,fun j x w e1 e2 e3=>cV (fun c v e q=>ck x c v e q) (hl j x w e1 e2 e3)⟩
 ·obtain ⟨d,a,o,h1,h2,h3,r,f⟩:=I.eo i m
  exact ⟨d,a,o,h1,h2,h3,r.mono (List.prefix_refl _) (.refl _) fun b hb o e=>y.keep b o e (by rcases hb with rfl | rfl <;> exact f.2.2.1) fun mm=>(hc b mm).2 (by rcases hb with rfl | rfl <;> exact ⟨i,m,h2⟩),f⟩
theorem Stp.wr {h':Heap} {ch:List Addr} {t:Nat} (x:Stp fr w z0 z) (y:Wr (frs fr) ch z.s.heap h') (hc:∀ b∈ch,z0.h b=none):Stp fr w z0 { z with s:={ z.s with heap:=h',toks:=t } }:=by
 have nc:∀ {b o},z0.h b=some o→b ∉ ch:=fun e m=>by rw [hc _ m] at e;cases e
 refine ⟨x.pr,x.gg,x.gn,x.rn,fun a o e=>let ⟨o',e'⟩:=x.th a o e;y.there a o' e',fun a o e n m f=>y.keep a o (x.sm a o e n m f) f (nc e),fun a o e n m f=>?_⟩
 obtain ⟨sl,e1⟩:=x.sl a o e n m f
 obtain ⟨sl2,e2⟩:=y.slot a _ e1 (nc e)
 exact ⟨sl2,e2⟩
structure nF (X:Cx):Prop where
 fr:∃ outer,X.fr=X.env :: outer
 frame:X.env.frame=some X.env.locals
def XN (X:Cx) (w:Addr→Prop) (z z':Z) (c:Nat) (l:List D) (e:Value) (fl:Value):Prop:=∃ a T cls dx,e = .ref a∧Stp X.fr w z z'∧Rep X z'∧XR X.W z' c l cls dx∧Nob X z z' a∧Tr z'.s.heap a cls dx T fl∧Nob X z z' T
theorem XN.wr {h':Heap} {ch:List Addr} {a T:Addr} {fl:Value} (x:Stp X.fr w z z') (I:Rep X z') (r:XR X.W z' c l cls dx) (na:Nob X z z' a) (nT:Nob X z z' T) (y:Wr (frs X.fr) ch z'.s.heap h') (hc:∀ b∈ch,Nob X z z' b) (t:Tr h' a cls dx T fl):XN X w z { z' with s:={ z'.s with heap:=h' } } c l (.ref a) fl:=
 ⟨a,T,cls,dx,rfl,x.wr (t:=z'.s.toks) y fun b hb=>(hc b hb).1,I.wr (t:=z'.s.toks) y fun b hb=>(hc b hb).2,r,na,t,nT⟩
theorem jB {Q:Unit→Shared→Prop} {E:Value→Shared→Prop} (F:nF X) (x:Stp X.fr w z z') (I:Rep X z') (h:XO X z z' c l e) (hQ:∀ h',XN X w z { z' with s:={ z'.s with heap:=h' } } c l e (rawInt X.env.locals)→Q () { z'.s with heap:=h' }):wpAny M X.A (noteFrame e X.env) Q E z'.s:=by
 obtain ⟨outer,hfr⟩:=F.fr
 have fm:=I.fm
 have fu:=I.fu
 rw [hfr] at fm fu
 obtain ⟨a,cls,dx,rfl,r,na,t⟩:=h
 have new:∀ T,z'.h T=none→Nob X z z' T:=fun T n=>⟨x.no n,I.fre n⟩
 rcases t with t | ⟨T,fl,t,hfl,nT⟩
 ·refine rC fm fu F.frame t fun h' T n t' y=>hQ h' (.wr x I r na (new T n) (by rw [hfr];exact y) (fun b hb=>?_) t')
  rw [List.mem_singleton.mp hb];exact na
 ·rcases hfl with rfl | rfl
  ·refine oW fm fu F.frame t fun h' T' n t' y=>hQ h' (.wr x I r na (new T' n) (by rw [hfr];exact y) (fun b hb=>?_) t')
   rcases List.mem_cons.mp hb with q | q
   ·rw [q];exact na
   ·rw [List.mem_singleton.mp q];exact nT
  ·exact oV F.frame t (hQ z'.s.heap ⟨a,T,cls,dx,rfl,x,I,r,na,t,nT⟩)
theorem cH {fl:Value} {fr:Option Addr} {Q:Unit→Shared→Prop} {E:Value→Shared→Prop} {A:Around} (h:XN X w z z' c l e fl) (hQ:∀ h',XN X w z { z' with s:={ z'.s with heap:=h' } } c l e (fr.elim .none fun f=>rawInt f)→Q () { z'.s with heap:=h' }):wpAny M A (setFlight e fr) Q E z'.s:=by
 obtain ⟨a,T,cls,dx,rfl,x,I,r,na,t,nT⟩:=h
 exact lO (S:=frs X.fr) t fun h' t' y=>hQ h' (.wr x I r na nT y (fun b hb=>by rw [List.mem_singleton.mp hb];exact nT) t')
theorem uD (F:nF X):PassesOwn M X.A X.env (PxS X z o):=fun e s' ⟨z',c,l,q,q2,x,I,h⟩=>by
 subst q
 unfold notedBy
 refine jB F x.st I h fun h' hn=>?_
 obtain ⟨a,T,cls,dx,e1,_,_,_,_,t,_⟩:=id hn
 subst e1
 unfold cameBackBy
 obtain ⟨oe,vs,oT,ts,he,hc,hd,h1,r⟩:=id t
 refine wpAny_bind (wpAny_field he hd h1 ?_)
 rw [ZY (show ¬ ((Value.ref T == Value.none)=true) by simp),F.frame]
 refine cH (z':={ z' with s:={ z'.s with heap:=h' } }) (fr:=some X.env.locals) hn fun h2 hn2=>?_
 obtain ⟨a',T',cls',dx',e1,x2,I2,r2,na2,t2,nT2⟩:=hn2
 exact ⟨{ z' with s:={ z'.s with heap:=h2 } },c,l,rfl,q2,⟨x2,x.ow⟩,I2,a',cls',dx',e1,r2,na2,.inr ⟨T',_,t2,.inr rfl,nT2⟩⟩
theorem o6 {E:Value→Shared→Prop} {Q:Value→Shared→Prop} (F:nF X) (h:PxS X z o e s') (q:∀ z' c l a T cls dx,o = .exc c l z'.t→e = .ref a→Stp X.fr (Pv X z) z z'→Rep X z'→XR X.W z' c l cls dx→Nob X z z' a→Tr z'.s.heap a cls dx T .none→Nob X z z' T→Q e z'.s):wpAny M X.A (leaving X.env e) (fun _ s''=>Q e s'') E s':=by
 obtain ⟨z',c,l,e1,q2,x,I,h⟩:=h
 subst e1
 unfold leaving
 refine wpAny_bind (jB F x.st I h fun h' hn=>cH (z':={ z' with s:={ z'.s with heap:=h' } }) (fr:=none) hn fun h2 hn2=>?_)
 obtain ⟨a,T,cls,dx,e1,x2,I2,r2,na2,t2,nT2⟩:=hn2
 exact q { z' with s:={ z'.s with heap:=h2 } } c l a T cls dx q2 e1 x2 I2 r2 na2 t2 nT2
end
def cxF (X:Cx) (cal cal1:Nat→List D→List O→Res) (N:List Str) (qual:Str) (scope:Scope) (f:Addr) (cd:Value) (A:Around) (fr:List Env) (L:Addr):Cx:=
 { X with A:=A.deeper (envOfC qual scope L f cd),fr:=envOfC qual scope L f cd :: fr,N:=N,env:=envOfC qual scope L f cd,cal:=cal,cal1:=cal1 }
section
variable {X:Cx} {cal cal1:Nat→List D→List O→Res} {N ps:List Str} {qual:Str} {scope:Scope} {f:Addr} {cd:Value} {A:Around} {fr:List Env} {z z':Z} {k:Nat}
theorem pb {α β:Type} {ds:List α} {n i:Nat} {d:α} (h:(ds.map some ++ List.replicate n none)[i]? = some (some d)):ds[i]? = some d:=by
 by_cases hi:i<ds.length
 ·rw [List.getElem?_append_left (by simpa using hi),List.getElem?_map] at h
  cases e:ds[i]? with
  | none=>rw [e] at h;cases h
  | some a=>rw [e] at h;cases h;rfl
 ·rw [List.getElem?_append_right (by simpa using hi),List.getElem?_replicate] at h
  split at h <;> cases h
theorem d8 {α:Type} {ds:List α} {n i:Nat} {d:α} (h:ds[i]? = some d):(ds.map some ++ List.replicate n none)[i]? = some (some d):=by
 have hi:=(List.getElem?_eq_some_iff.mp h).1
 rw [List.getElem?_append_left (by simpa using hi),List.getElem?_map,h];rfl
theorem lP {es:List (Option D)} {n i:Nat} {d:D} (h:(es ++ List.replicate n none)[i]? = some (some d)):es[i]? = some (some d):=by
 by_cases hi:i<es.length
 ·rwa [List.getElem?_append_left hi] at h
 ·rw [List.getElem?_append_right (by omega),List.getElem?_replicate] at h
  split at h <;> cases h
theorem iE {s1:Shared} {es:List (Option D)} {us:List Value} (S:cZ N ps scope) (I:HR { X with A:=A,fr:=fr } z) (hr:bg (k+1) A) (hl:us.length=ps.length) (le:es.length=us.length) (r:∀ (i:Nat) (d:D),es[i]? = some (some d)→∃ v,us[i]? = some v∧RD X.W z.ρ z.G d v)
 (x:InCallC z.s z.s.heap.objs.size (bindL (envOfC qual scope z.s.heap.objs.size f cd).kindOf (ps.zip us) fun _=>none) (cellsFrom (z.s.heap.objs.size+1) scope.names []) (bindC (envOfC qual scope z.s.heap.objs.size f cd).kindOf (ps.zip us) fun _=>none) s1) :
 Rep (cxF X cal cal1 N qual scope f cd A fr z.s.heap.objs.size) ⟨z.ρ,z.G,⟨es ++ List.replicate (N.length - ps.length) none,[],z.t.st⟩,us.map some ++ List.replicate (N.length - ps.length) none,s1⟩:=by
 have hpl:ps.length≤N.length:=by have:=ZS List.length S.pre;rw [List.length_take] at this;omega
 obtain ⟨h1,tk,rfl,hk⟩:=x.done
 have bf:∀ {c:Addr},z.s.heap.objs.size≤c→z.G c=none∧¬ Mu z.ρ c:=fun {c} h=>by
  have n:z.h c=none:=Heap.get?_none_of_le h
  refine ⟨?_,fun m=>by obtain ⟨o,e⟩:=I.th m;rw [n] at e;cases e⟩
  cases q:z.G c with
  | none=>rfl
  | some o=>have:=I.gh c o q;rw [n] at this;cases this
 have lcf:∀ {a},Lc (cxF X cal cal1 N qual scope f cd A fr z.s.heap.objs.size) a→z.s.heap.objs.size≤a:=fun h=>by
  rcases h with rfl | ⟨y,e⟩
  ·exact Nat.le_refl _
  ·exact Nat.le_of_lt (x.above y _ (PySem.mem_of_lookup e))
 have bn:X.base.get? z.s.heap.objs.size=none:=by
  cases q:X.base.get? z.s.heap.objs.size with
  | none=>rfl
  | some o=>have:=I.gh _ o (I.bs _ o q);rw [show z.h z.s.heap.objs.size=none from Heap.get?_none_of_le (Nat.le_refl _)] at this;cases this
 obtain ⟨oL,esL,epL,hoL,hdL,_⟩:=id x.toInCall.ns
 have gr:Gr z.s { z.s with heap:=h1,toks:=tk }:=.hp hk
 have G:=I.grow (aF I.gh gr)
 refine ⟨⟨I.md,Around.frames_deeper I.fm,I.hd,I.bs,G.gh,I.rl,I.rn,I.rg,G.ob,?_,fun b hb=>?_,I.br,I.os⟩,⟨by have:=(hr.deeper (envOfC qual scope z.s.heap.objs.size f cd)).un;show (A.deeper _).units+200<_;omega,S.kind,rfl,rfl,fun y w c e1 e2=>name_of_addr x.apart (PySem.mem_of_lookup e1) (PySem.mem_of_lookup e2),fun y hy=>?_⟩,⟨_,x.toInCall.ns,fun i y v e1 e2 e3=>?_⟩,fun y c h=>⟨_,x.cell y c h⟩,fun a l=>bf (lcf l),by show (es ++ _).length=(us.map some ++ _).length;simp [le],by show (us.map some ++ _).length=N.length;rw [List.length_append,List.length_map,List.length_replicate];omega,fun i d _ e=>?_,(fun i m=>nomatch m),(fun i j a m=>nomatch m)⟩
 ·have kd:(envOfC qual scope z.s.heap.objs.size f cd).scope.kind≠ScopeKind.module:=by show scope.kind≠_;rw [S.kind];decide
  exact ⟨kd,⟨_,oL,rfl,bn,hoL,fun vs e=>by rw [hdL] at e;cases e⟩,G.fu⟩
 ·rcases List.mem_cons.mp (show b∈z.s.heap.objs.size :: frs fr from hb) with q | q
  ·rw [q];exact bf (Nat.le_refl _)
  ·exact I.ff b q
 ·have hy:scope.names.lookup y=some .cell∨scope.names.lookup y=some .free:=hy
  rcases hy with hy | hy
  ·exact jH hy
  ·exact ZX rfl (S.nofree _ (PySem.mem_of_lookup hy))
 ·have hu:us[i]? = some v:=pb (β:=Unit) e2
  have hi:i<ps.length:=by rw [← hl];exact (List.getElem?_eq_some_iff.mp hu).1
  have hp:ps[i]? = some y:=by
   rw [← S.pre,List.getElem?_take_of_lt (by omega)];exact e1
  have ndP:ps.Nodup:=by rw [← S.pre];exact S.nd.sublist (List.take_sublist _ _)
  rcases S.par y (List.mem_of_getElem? hp) with k | k
  ·exact .inl ⟨k,hU ndP hp hu k⟩
  ·obtain ⟨c,e⟩:=jH (n:=z.s.heap.objs.size+1) k
   refine .inr ⟨.inl k,c,e,?_⟩
   have q:=x.cell y c e
   rw [hJ ndP hp hu (by show scope.names.lookup y≠_;rw [k];decide)] at q
   exact q
 ·obtain ⟨v,e1,r1⟩:=r i d (lP e)
  exact ⟨v,d8 e1,r1⟩
theorem zw {name:Str} {params:Arguments} {body:List Stmt} {dV kV doc pm ct oc:Value} {an od:Option Addr} {osl:Array (Option Value)} {j:Nat} {c:S} (lk:X.K.lookup f=some ⟨oc,od,.func (PySem.W.fnOf name qual params body scope dV kV doc pm an cd ct),osl⟩) (hcd:PySem.W.codeIn X.K cd qual=true) (S:cZ N ps scope) (hj:X.Γ.fn[j]? = some ⟨ps.length,N.length,c⟩)
 (hb:∀ A fr L,bg k (A.deeper (envOfC qual scope L f cd))→LSs (cxF X cal cal1 N qual scope f cd A fr L) body c):FnC X (kA X.Γ cal cal1) (k+1) j f (PySem.W.fnOf name qual params body scope dV kV doc pm an cd ct) ps:=by
 have run:∀ ds st,kA X.Γ cal cal1 j ds st=if ds.length=ps.length then (match exS X.Γ cal cal1 c ⟨ds.map some ++ List.replicate (N.length - ps.length) none,[],st⟩ with
  | .nx s=>.ok .non s.st
  | .rt d s=>.ok d s.st
  | .exc c l s=>.exc c l s.st
  | .bad=>.bad) else .bad:=fun ds st=>by unfold kA;rw [hj];all_goals rfl
 refine ⟨fun ds st nb=>?_,fun A fr z args us ds hr I hbd r nb=>?_⟩
 ·by_cases q:ds.length=ps.length
  ·exact q
  ·rw [run,ZY q] at nb;exact ZX rfl nb
 by_cases hl:ds.length=ps.length
 rotate_left
 ·rw [run,ZY hl] at nb;exact ZX rfl nb
 rw [run,ZZ hl] at nb ⊢
 have KX:X.K.In z.s.heap:=I.kin
 have lim:z.s.heap.NoLimit:=I.md.nolimit.keeps (Rep.bk I)
 have hkind:∀ y∈ps.zip us,scope.names.lookup y.1=some .local∨(scope.names.lookup y.1=some .cell∧((cellsFrom (z.s.heap.objs.size+1) scope.names []).lookup y.1).isSome=true):=fun ⟨n,v⟩ hy=>by
  rcases S.par n (List.of_mem_zip hy).1 with q | q
  ·exact .inl q
  ·exact .inr ⟨q,PySem.W.cellsFrom_some _ _ _ (.inl q)⟩
 refine codeAny_call_function hr.depth (KX _ _ lk) rfl S.co S.gen rfl (PySem.W.codeRec_of KX hcd) (hbd _ _ _ _ ?_)
 refine wpAny_newFunctionEnv_cells S.kind hkind fun env he s1 x=>?_
 subst he
 refine ⟨lim.keeps x.toInCall.keep,codeAny_func ?_⟩
 have J:=iE (es:=ds.map some) (cal:=cal) (cal1:=cal1) S I hr (r.len ▸ hl) (by rw [List.length_map];exact r.len) (fun i d e=>r.get (by rw [List.getElem?_map,Option.map_eq_some_iff] at e;obtain ⟨_,e1,e2⟩:=e;cases e2;exact e1)) x
 have hk:∀ b o,z.h b=some o→s1.heap.get? b=some o:=x.toInCall.keep
 have F:nF (cxF X cal cal1 N qual scope f cd A fr z.s.heap.objs.size):=⟨⟨fr,rfl⟩,rfl⟩
 have lcf:∀ {a o},z.h a=some o→¬ Lc (cxF X cal cal1 N qual scope f cd A fr z.s.heap.objs.size) a:=fun {a o} e h=>by
  have:z.s.heap.objs.size≤a:=by
   rcases h with rfl | ⟨y,e⟩
   ·exact Nat.le_refl _
   ·exact Nat.le_of_lt (x.above y _ (PySem.mem_of_lookup e))
  exact ZX (Heap.lt_size e) (Nat.not_lt.mpr this)
 have nofr:∀ {a o},z.h a=some o→a ∉ frs fr→a ∉ frs (envOfC qual scope z.s.heap.objs.size f cd :: fr):=fun {a o} e n m=>by
  rcases List.mem_cons.mp (show a∈z.s.heap.objs.size :: frs fr from m) with q | q
  ·exact ZX (Heap.lt_size e) (by rw [q];exact Nat.lt_irrefl _)
  ·exact n q
 have none1:∀ {a},s1.heap.get? a=none→z.h a=none:=fun {a} n=>by
  cases q:z.h a with
  | none=>rfl
  | some o=>rw [hk a o q] at n;cases n
 have back:∀ {z'},Stp (envOfC qual scope z.s.heap.objs.size f cd :: fr) (Pv (cxF X cal cal1 N qual scope f cd A fr z.s.heap.objs.size) ⟨z.ρ,z.G,⟨ds.map some ++ List.replicate (N.length - ps.length) none,[],z.t.st⟩,us.map some ++ List.replicate (N.length - ps.length) none,s1⟩) ⟨z.ρ,z.G,⟨ds.map some ++ List.replicate (N.length - ps.length) none,[],z.t.st⟩,us.map some ++ List.replicate (N.length - ps.length) none,s1⟩ z'→Rep (cxF X cal cal1 N qual scope f cd A fr z.s.heap.objs.size) z'→Stp fr NoW z z'∧HR { X with A:=A,fr:=fr } z':=fun {z'} y K=>by
  have nw:∀ {a o},z.h a=some o→¬ Pv (cxF X cal cal1 N qual scope f cd A fr z.s.heap.objs.size) ⟨z.ρ,z.G,⟨ds.map some ++ List.replicate (N.length - ps.length) none,[],z.t.st⟩,us.map some ++ List.replicate (N.length - ps.length) none,s1⟩ a:=fun e w=>w.elim (fun ⟨i,m,_⟩=>nomatch m) (lcf e)
  refine ⟨⟨y.pr,y.gg,fun a o e=>?_,fun a m=>(y.rn a m).imp_right none1,fun a o e=>y.th a o (hk a o e),fun a o e n _ m=>y.sm a o (hk a o e) n (nw e) (nofr e m),fun a o e n _ m=>y.sl a o (hk a o e) n (nw e) (List.mem_cons_of_mem _ m)⟩,⟨K.md,I.fm,I.hd,K.bs,K.gh,K.rl,K.rn,K.rg,K.ob,K.fu.2.2,fun b m=>K.ff b (List.mem_cons_of_mem _ m),K.br,K.os⟩⟩
  rcases y.gn a o e with q | q | q
  ·exact .inl q
  ·exact .inr (.inl (none1 q))
  ·rcases q with ⟨i,m,_⟩ | l
   ·exact nomatch m
   ·rw [(K.fl a l).1] at e;cases e
 have nb2:(cxF X cal cal1 N qual scope f cd A fr z.s.heap.objs.size).ex c ⟨ds.map some ++ List.replicate (N.length - ps.length) none,[],z.t.st⟩≠.bad:=fun q=>nb (by rw [show exS X.Γ cal cal1 c ⟨ds.map some ++ List.replicate (N.length - ps.length) none,[],z.t.st⟩ = .bad from q])
 refine wpAny_mono (hb A fr z.s.heap.objs.size (hr.deeper _) _ J nb2) (fun fl s' hs=>?_) fun e s' hs=>o6 (Q:=fun e s''=>CRs { X with A:=A,fr:=fr } z _ (.error e) s'') F hs fun z' c' l a T cls dx q e1 y K xr na t nT=>?_
 ·cases q:exS X.Γ cal cal1 c ⟨ds.map some ++ List.replicate (N.length - ps.length) none,[],z.t.st⟩ with
  | nx t=>
    rw [show (cxF X cal cal1 N qual scope f cd A fr z.s.heap.objs.size).ex c _ = .nx t from q] at hs
    obtain ⟨rfl,z',e1,e2,y,K⟩:=hs
    subst e1 e2
    obtain ⟨b1,b2⟩:=back y.st K
    exact ⟨z',.non,rfl,rfl,b1,b2,rfl⟩
  | rt d t=>
    rw [show (cxF X cal cal1 N qual scope f cd A fr z.s.heap.objs.size).ex c _ = .rt d t from q] at hs
    obtain ⟨u,z',rfl,e1,e2,y,K,rd⟩:=hs
    subst e1
    obtain ⟨b1,b2⟩:=back y.st K
    exact ⟨z',d,rfl,by rw [e2],b1,b2,rd⟩
  | exc c' l t=>rw [show (cxF X cal cal1 N qual scope f cd A fr z.s.heap.objs.size).ex c _ = .exc c' l t from q] at hs;exact hs.elim
  | bad=>exact ZX q nb2
 ·obtain ⟨b1,b2⟩:=back y K
  have q:exS X.Γ cal cal1 c ⟨ds.map some ++ List.replicate (N.length - ps.length) none,[],z.t.st⟩ = .exc c' l z'.t:=q
  rw [q]
  exact ⟨z',c',l,rfl,rfl,b1,b2,a,T,cls,dx,e1,xr,t,⟨none1 na.1,na.2.1.1,na.2.1.2.1⟩,none1 nT.1,nT.2.1.1,nT.2.1.2.1⟩
end
end L2.Ev
end
section
namespace L2.Ev
open PySem.W
section
variable {prog:Program} {w:World} {A:Around} {E:Value→Shared→Prop} {K:Frag} {C a:Addr} {o:Obj} {od:Option Obj} {h:Heap} {g:Array GenState} {d:Drawn} {t:Nat} {os:OsState}
theorem pK (Y:dv K C) (X:K.In h) (I:InstAt h a o C od) (hq:Q () ⟨h,g,d,t,os⟩):wpAny M A (checkBuiltinCall "BaseException.__getattribute__" ⟨[.ref a,nameV],[]⟩) Q E ⟨h,g,d,t,os⟩:=by
 have k1:builtinKind "BaseException.__getattribute__" = some .slot:=by decide +kernel
 have k2:splitId "BaseException.__getattribute__" = some ("BaseException","__getattribute__"):=by decide +kernel
 have L:Looks M h (isInstance (.ref a) (.type "BaseException")) true:=(I.type (M:=M)).andThen (looks_mroIn X Y.be)
 have ha:=F.args_bexc_ga (.ref a) nameV
 simp only [checkBuiltinCall,k1,k2]
 refine wpAny_bind (L.at ?_)
 repeat (any_goals (first | assumption | wp_step))
end
theorem wl {K:Frag} (e:(clsIn K C).isSome=true):∃ c' d' cd' sl',K.lookup C=some ⟨c',d',.cls cd',sl'⟩:=by
 unfold clsIn at e
 split at e
 ·rename_i q;exact ⟨_,_,_,_,q⟩
 ·cases e
structure lS (K:Frag) (B:Addr):Prop where
 ty:typeIn K (.ref B)=some (.type "type")
 is:(clsIn K B).isSome=true
 be:mroIn K B (.type "BaseException")=some true
theorem tA {K:Frag} {M:Model} (X:K.In h) (e:(clsIn K C).isSome=true):Looks M h (isType (.ref C)) true:=by
 obtain ⟨c',d',cd',sl',hk⟩:=wl e
 intro A' Q' E' s' k q
 unfold isType;unfold loadHead
 exact wpAny_bind (wpAny_loadPart (k _ _ (X _ _ hk)) (wpAny_pure q))
theorem f9 {K:Frag} {M:Model} {A:Around} {E:Value→Shared→Prop} {s:Shared} {a B C:Addr} {o:Obj} {Q:Bool→Shared→Prop} (X:K.In s.heap) (Y:lS K B) (he:s.heap.get? a=some o) (hc:o.cls = .ref C) {b:Bool} (hm:mroIn K C (.ref B)=some b) (hq:Q b s):wpAny M A (excMatches (.ref a) (.ref B)) Q E s:=by
 have L1:Looks M s.heap (isInstance (.ref B) (.type "tuple")) false:=(looks_typeIn X Y.ty).andThen (Looks.of_pure tc_notTuple)
 have L2:=tA (M:=M) X Y.is
 have L3:=looks_mroIn (M:=M) X Y.be
 have L4:=looks_mroIn (M:=M) X hm
 obtain ⟨h,g,d,t,os⟩:=s
 unfold excMatches isExcClass
 refine wpAny_bind (L1.at ?_)
 dsimp only
 rw [ZY Bool.false_ne_true]
 refine wpAny_bind (wpAny_pure ?_)
 rw [List.forIn_cons]
 refine wpAny_bind (wpAny_bind (wpAny_bind (wpAny_bind (L2.at ?_))))
 rw [ZZ rfl]
 refine L3.at ?_
 rw [ZY (show ¬ ((!true)=true) by decide)]
 refine wpAny_pure ?_
 dsimp only
 rw [List.forIn_nil]
 refine wpAny_pure ?_
 have T0:∀ {Q':Value→Shared→Prop},Q' (.ref C) ⟨h,g,d,t,os⟩→wpAny M A (typeOf (.ref a)) Q' E ⟨h,g,d,t,os⟩:=fun {Q'} q'=>by
  repeat (first | (with_reducible refine wpAny_loadPart_at he ?_;rw [hc]) | wp_step)
  exact q'
 refine wpAny_bind (T0 ?_)
 rw [List.forIn_cons]
 refine wpAny_bind (wpAny_bind (wpAny_bind (L4.at ?_)))
 cases b with
 | true=>rw [ZZ rfl];exact wpAny_pure (wpAny_pure (wpAny_pure hq))
 | false=>
   rw [ZY Bool.false_ne_true]
   exact wpAny_pure (wpAny_pure (show wpAny M A (pure false) Q E _ from wpAny_pure hq))
def gm (bmB:List Value):List Value→Bool
 | []=>false
 | v :: r=>(v :: r) == bmB || match v with | .ref _=>gm bmB r | _=>false
theorem cX (hp:refuseLoop self "__setattr__" bmB=pure ()):∀ {l},gm bmB l=true→refuseLoop self "__setattr__" l=pure ()
 | [],e=>by cases e
 | v :: r,e=>by
   unfold gm at e
   rcases Bool.or_eq_true_iff.mp e with z | z
   ·rw [beq_iff_eq.mp z];exact hp
   ·split at z
    ·rw [refuseLoop_ref];exact cX hp z
    ·cases z
abbrev veB:List Value:=[.type "ValueError",.type "Exception",.type "BaseException",.type "object"]
abbrev exB:List Value:=[.type "Exception",.type "BaseException",.type "object"]
structure fB (K:Frag) (C:Addr):Prop where
 sa:findIn K (.ref C) "__setattr__" = some (some (.builtin "object.__setattr__"))
 over:((clsIn K C).any fun cd=>gm veB cd.mro || gm exB cd.mro)=true
 hd:((clsIn K C).any fun cd=>cd.hasDict)=true
 ob:mroIn K C (.type "object")=some true
section
variable {prog:Program} {w:World} {A:Around} {E:Value→Shared→Prop} {s:Shared} {K:Frag} {x C:Addr} {o:Obj} {vs:Array Value} {mA:Str→Option Value} {name:Str} {v:Value} {ns:List Str}
theorem ik (hn:s.heap.Ns1 d mA) (hw:Within mA ns) (hz:ns.length<1000)
 (hq:∀ h',h'.Ns1 d (fun y=>if y=name then some v else mA y)→Heap.SameBut d s.heap h'→Q (.done (.ret .none)) { s with heap:=h',toks:=s.toks+1 }):wpAny M A (Builtin.ObjectAttr.storeInDict d (.str name tk) name v) Q E s:=by
 unfold Builtin.ObjectAttr.storeInDict Builtin.ObjectAttr.newKeyGuard
 refine wpAny_bind (wpAny_pure (wpAny_bind (wpAny_nsSet1 hn fun h' n' sb=>?_)))
 obtain ⟨od,es,ep,e1,e2,e3⟩:=n'.count (Within.cons name v hw)
 have few:es.size≤sizeLine:=Nat.le_trans e3 (by rw [List.length_cons,sizeLine_eq];omega)
 refine wpAny_bind (wpAny_lookBehind e1 (by rw [e2];exact pastItsLine_dict (Nat.le_succ_of_le few)) ?_)
 exact wpAny_pure (hq h' n' sb)
theorem oq (X:K.In s.heap) (Z:fB K C) (hf:findIn K (.ref C) name=some none) (hx:s.heap.get? x=some o) (hc:o.cls = .ref C) (hd:o.data = .fields vs)
 (hm:(o.dict=none∧∀ n,mA n=none)∨∃ d,o.dict=some d∧d≠x∧s.heap.Ns1 d mA) (hw:Within mA ns) (hz:ns.length<1000)
 (hq:∀ h' d t',h'.get? x=some { o with dict:=some d }→d≠x→h'.Ns1 d (fun y=>if y=name then some v else mA y)→(∀ b u,b≠x→b≠d→s.heap.get? b=some u→h'.get? b=some u) →
  (o.dict=some d∨(o.dict=none∧s.heap.get? d=none))→Q () { s with heap:=h',toks:=t' }):wpAny (model prog w) A (setAttr (.ref x) name v) Q E s:=by
 obtain ⟨od,I⟩:∃ od,InstAt s.heap x o C od:=by
  rcases hm with ⟨z,_⟩ | ⟨d,z,_,od,_,_,e,_⟩
  ·exact ⟨none,hx,hc,by unfold notCls;rw [hd],by rw [z];trivial⟩
  ·exact ⟨some od,hx,hc,by unfold notCls;rw [hd],by rw [z];exact e⟩
 have SF:=PySem.F.store_ValueError
 obtain ⟨cd,hcd,hov⟩:=any_some Z.over
 obtain ⟨cd',hcd',hhd⟩:=any_some Z.hd
 rw [hcd] at hcd'
 cases hcd'
 refine set_plain X I Z.sa ?_
 obtain ⟨h,g,d,t,os⟩:=s
 have sub:Looks (model prog w) h (isInstance (.ref x) (.type "object")) true:=I.type.andThen (looks_mroIn X Z.ob)
 refine codeAny_call_builtin SF.slot.plain SF.entry (@check_slot (model prog w) _ _ ⟨h,g,d,t+1,os⟩ "object.__setattr__" "object" "__setattr__" (.ref x) [.str name t,v] [] _ SF.kind SF.split sub (SF.args (.ref x) (.str name t) v) ?_)
 have lm:Looks (model prog w) h (mroOf (.ref C)) cd.mro:=(looks_clsIn X hcd).andThen .now
 rw [osa_eq,refuse_eq]
 have l0:=I.type (M:=model prog w)
 have lf:=looks_findIn (M:=model prog w) X hf
 refine wpAny_bind (wpAny_bind (l0.at (wpAny_bind (lm.at ?_))))
 rw [show refuseLoop (.ref x) "__setattr__" cd.mro=pure () from (Bool.or_eq_true_iff.mp hov).elim (cX (SF.passes _)) (cX (PySem.F.store_Exception.passes _))]
 refine wpAny_pure (wpAny_bind (l0.at (wpAny_bind (lf.at ?_))))
 refine wpAny_bind (wpAny_pure ?_)
 refine wpAny_bind (wpAny_pure ?_)
 have lc:=looks_clsIn (M:=model prog w) X hcd
 obtain ⟨oc,odi,oda,osl⟩:=o
 dsimp only at hc hd hm hx
 subst hc hd
 refine wpAny_bind (wpAny_bind (wpAny_loadPart hx (wpAny_bind (lc.at ?_))))
 rw [hhd]
 rcases hm with ⟨rfl,hmA⟩ | ⟨dx,rfl,hne,hns⟩
 ·obtain rfl:mA=fun _=>none:=funext hmA
  have hxs:x≠h.objs.size:=Nat.ne_of_lt (Heap.lt_size hx)
  have hx1:=Heap.get?_push_of_some { cls:=.type "dict",data:=.dict #[] } hx
  refine wpAny_bind (wpAny_alloc' (wpAny_bind (wpAny_update' hx1 ?_)))
  have hg:((h.push { cls:=.type "dict",data:=.dict #[] }).update x fun o=>{ cls:=o.cls,dict:=some h.objs.size,data:=o.data,slots:=o.slots }).get? h.objs.size=some { cls:=.type "dict",data:=.dict #[] }:=
   (Heap.get?_update_ne _ _ _ _ (Ne.symm hxs)).trans (Heap.get?_push_at rfl rfl)
  have hn0:((h.push { cls:=.type "dict",data:=.dict #[] }).update x fun o=>{ cls:=o.cls,dict:=some h.objs.size,data:=o.data,slots:=o.slots }).Ns h.objs.size (fun _=>none):=
   ⟨_,#[],_,hg,rfl,fun e he=>ZX he (by simp),fun _=>rfl⟩
  refine wpAny_pure (a:=some h.objs.size) ?_
  refine ik (Heap.Ns1.of_empty hn0) Within.nil (by decide) fun h' n' sb=>?_
  refine hq h' h.objs.size _ ?_ (Ne.symm hxs) n' (fun b u h1 h2 e=>?_) (.inr ⟨rfl,Heap.get?_none_of_le (Nat.le_refl _)⟩)
  ·refine (sb.2 x hxs).trans (Heap.get?_update_self _ hx1 rfl)
  ·exact (sb.2 b h2).trans ((Heap.get?_update_ne _ _ _ _ h1).trans (Heap.get?_push_of_some _ e))
 ·refine wpAny_pure (a:=some dx) ?_
  refine ik hns hw hz fun h' n' sb=>?_
  exact hq h' dx _ ((sb.2 x (Ne.symm hne)).trans hx) hne n' (fun b u _ h2 e=>(sb.2 b h2).trans e) (.inl rfl)
theorem pV (Y:dv K C) (hh:hasDictIn K C=true) (X:K.In s.heap) (hf:findIn K (.ref C) name=some none) (hx:s.heap.get? x=some o) (hc:o.cls = .ref C) (hd:o.data = .fields vs) (hdi:o.dict=some d) (hn:s.heap.Ns1 d mA) (hv:mA name=some v) (hv':handedIn v=true)
 (hq:Q v { s with toks:=s.toks+1 }):wpAny (model prog w) A (getAttr (.ref x) name expr) Q E s:=by
 obtain ⟨od,ho,hl⟩:=iu hn
 have I:InstAt s.heap x o C (some od):=⟨hx,hc,by unfold notCls;rw [hd],by rw [hdi];exact ho⟩
 have fo:findObj K C (some od) name=some (.value v):=findObj_own hh hf rfl (by rw [hl,hv])
 obtain ⟨h,g,dr,t,os⟩:=s
 have l0:=I.type (M:=model prog w)
 have l1:=looks_findIn (M:=model prog w) X Y.ga
 have l2:=looks_findIn (M:=model prog w) X Y.gn
 have l3:=looks_find (M:=model prog w) X I fo
 have G:=PySem.F.attrBase_ValueError.ga
 have b1:=G.bind (.ref x)
 unfold getAttr getAttrBy
 refine wpAny_bind (wpAny_mkText (wpAny_holding (wpAny_bind (l0.at (wpAny_bind (l1.at ?_))))))
 show wpAny _ _ (getAttrByItsOwn _ _ _ _ _ _) _ _ _
 unfold getAttrByItsOwn
 refine wpAny_bind (l2.at (wpAny_bind (wpAny_attempt (wpAny_holding ?_))))
 unfold callGetattribute
 rw [show (expr && onTheHeap (Value.builtin "BaseException.__getattribute__"))=false from Bool.and_false _,ZY Bool.false_ne_true]
 unfold boundAndCalled
 rw [b1]
 refine wpAny_bind (wpAny_pure ?_)
 refine wpAny_call (codeAny_call_builtin G.plain F.entry_bexc_ga (pK Y X I ?_))
 refine wpAny_bind (wpAny_pure (wpAny_bind (wpAny_pure (wpAny_bind (l0.at (wpAny_bind (l3.at ?_)))))))
 exact wpAny_pure (handed_on hv' hq)
end
structure gE (K:Frag) (C fI:Addr) (bmB:List Value) (newId:String):Prop where
 at_:∃ (nm q:Str) (N:Addr) (bs bm:List Value) (hdct:Bool) (sn:List Str) (sub:List Value) (ab:Bool) (col:Option Bool) (dd:Option Addr) (k0 k1 k2 k3 k5:Option Value),
  K.lookup C=some (excClassObj nm q C N bs bm hdct sn sub ab col dd k0 k1 k2 k3 k5 newId)∧tailIn K bmB bm=true
 init:findIn K (.ref C) "__init__" = some (some (.ref fI))
 fn:isFn K (.ref fI)=true
section
variable {prog:Program} {w:World} {A:Around} {E:Value→Shared→Prop} {K:Frag} {C fI:Addr} {rest bmB:List Value} {B newId initId:String} {h:Heap} {g:Array GenState} {d:Drawn} {t:Nat} {os:OsState}
abbrev iK (h:Heap) (C:Addr) (rest:List Value):Heap:=(h.push { cls:=.type "tuple",data:=.seq rest.toArray }).push { cls:=.ref C,data:=.fields #[.ref h.objs.size,.none,.none,.none,.bool false,.none] }
theorem fG (b) (u) (z:h.get? b=some u):(iK h C rest).get? b=some u:=Heap.get?_push_of_some _ (Heap.get?_push_of_some _ z)
theorem nQ:Heap.MadeExcOf h (iK h C rest) (h.objs.size+1) (.ref C) rest where
 keeps:=fG
 new:=Heap.get?_none_of_le (Nat.le_succ _)
 there:=⟨h.objs.size,by heap_get,Heap.get?_none_of_le (Nat.le_refl _),Heap.get?_push_of_some _ (Heap.get?_push_at rfl rfl)⟩
theorem gJ (F:ExcBaseFacts B newId initId bmB) (X:K.In h) (O:gE K C fI bmB newId) (hz:rest.length≤sizeLine)
 (hq:∀ h' e,Heap.MadeExcOf h h' e (.ref C) rest→wpAny (model prog w) A (call (.ref fI) (.ref e :: rest)) (fun r s'=>r = .none∧Q (.done (.ret (.ref e))) s') E ⟨h',g,d,t,os⟩) :
 wpAny (model prog w) A (Builtin.«type.__call__» ⟨.ref C :: rest,[]⟩) Q E ⟨h,g,d,t,os⟩:=by
 obtain ⟨nm,q,N,bs,bm,hdct,sn,sub,ab,col,dd,k0,k1,k2,k3,k5,l,tl⟩:=O.at_
 have c0:=X _ _ l
 have T:=tail_of_in X tl
 have X1:K.In (iK h C rest):=fun b u z=>fG b u (X b u z)
 have c1:=X1 _ _ l
 have m1:=(nQ (h:=h) (C:=C) (rest:=rest))
 obtain ⟨tt,e1,_,_⟩:=id m1.there
 have self:(Value.ref C :: bm).contains (.ref C)=true:=by simp
 have l1:=looks_findIn (M:=model prog w) X1 O.init
 have l2:=fun self=>bind_fn (M:=model prog w) X1 self (beq_iff_eq.mp O.fn)
 repeat (first | with_reducible refine wpAny_loadPart_at c0 ?_ | with_reducible refine wpAny_madeBy_exc c0 ?_ | wp_step)
 refine codeAny_call_builtin_code (Code.quiet_builtin _ F.quiet) (wpAny_check_new_subT F T c0 (codeAny_exc_new_subT F T c0 ?_ hz))
 show wpAny _ _ _ _ _ _
 unfold isInstance
 repeat (first | with_reducible refine wpAny_loadPart_at e1 ?_ | (with_reducible refine wpAny_isSubtype_exc c1 ?_;rw [self]) | wp_step)
 refine l1.at (wpAny_holding (wpAny_bind ((l2 _).at ?_)))
 refine wpAny_bind (wpAny_mono (hq _ _ m1) (fun r s' z=>?_) fun _ _ z=>z)
 obtain ⟨rfl,z⟩:=z
 wp_walk
 exact z
theorem pU (F:ExcBaseFacts B newId initId bmB) (X:K.In h) (O:gE K C fI bmB newId) (hz:rest.length≤sizeLine)
 (hq:∀ h' e,Heap.MadeExcOf h h' e (.ref C) rest→wpAny (model prog w) (A.under (.builtin "type.__call__" ⟨.ref C :: rest,[]⟩)) (call (.ref fI) (.ref e :: rest)) (fun r s'=>r = .none∧Q (.ref e) s') E ⟨h',g,d,t,os⟩) :
 wpAny (model prog w) A (call (.ref C) rest) Q E ⟨h,g,d,t,os⟩:=by
 obtain ⟨nm,q,N,bs,bm,hdct,sn,sub,ab,col,dd,k0,k1,k2,k3,k5,l,tl⟩:=O.at_
 have c0:=X _ _ l
 have y1:=tc_lookup
 have y2:=tc_bind (.ref C)
 have y3:Shared.TypeIs ⟨h,g,d,t,os⟩ (.ref C) "type":=⟨_,c0,rfl⟩
 refine wpAny_call (codeAny_of_tree ?_)
 show wpAny _ _ (callAny (.ref C) _) _ _ _
 repeat (any_goals (first | assumption | with_reducible refine wpAny_loadPart_at c0 ?_ | wp_step))
 refine ⟨rfl,codeAny_call_builtin_at (Code.quiet_builtin _ (by decide +kernel)) entry_typeCall (wpAny_check_type_call_sub c0 ?_)⟩
 exact gJ F X O hz fun h' e m=>hq h' e m
end
section
variable {M:Model} {A:Around} {E:Value→Shared→Prop} {s:Shared}
theorem o7 {K:Frag} {env:Env} {C:Addr} {x:Sem Value} {Q:Flow→Shared→Prop} (be:mroIn K C (.type "BaseException")=some true) (ty:typeIn K (.ref C)=some (.type "type")) (hh:A.handled=none)
 (h:wpAny M A x (fun v s1=>∃ p ob vs,v = .ref p∧K.In s1.heap∧s1.heap.get? p=some ob∧ob.cls = .ref C∧ob.data = .fields vs∧vs[1]? = some .none∧E (.ref p) s1) E s):wpAny M A (raiseStmt env (some x) none) Q E s:=by
 unfold raiseStmt
 refine wpAny_bind (wpAny_mono h (fun v s1 z=>?_) fun _ _ z=>z)
 obtain ⟨p,⟨oc,od,oda,osl⟩,vs,rfl,Xk,e1,e2,e3,e4,q⟩:=z
 simp only at e2 e3
 subst e2 e3
 obtain ⟨h1,g1,d1,t1,o1⟩:=s1
 have l0:Looks M h1 (typeOf (.ref p)) (.ref C):=(Looks.ld e1).andThen .now
 have l1:Looks M h1 (isInstance (.ref p) (.type "BaseException")) true:=l0.andThen (looks_mroIn Xk be)
 have l2:=looks_typeIn (M:=M) Xk ty
 have l3:Looks M h1 (isType (.ref p)) false:=(Looks.ld e1).andThen .now
 have l4:Looks M h1 (isExcClass (.ref p)) false:=l3.andThen .now
 refine wpAny_bind (wpAny_pure (wpAny_bind (wpAny_holding ?_)))
 unfold excFromValue raisedInstance setFlight
 refine wpAny_bind (l4.at ?_)
 rw [ZY Bool.false_ne_true]
 refine wpAny_bind (l1.at ?_)
 rw [ZZ rfl]
 refine wpAny_pure (wpAny_bind (l3.at ?_))
 rw [ZY Bool.false_ne_true]
 refine wpAny_bind (wpAny_bind (l0.at (wpAny_bind (l2.at ?_))))
 rw [ZZ (show (Value.type "type" == Value.type "type")=true by decide)]
 refine wpAny_pure (wpAny_bind (wpAny_bind (wpAny_field e1 rfl e4 ?_)))
 rw [ZY (show ¬ ((Value.none != Value.none)=true) by decide)]
 exact wpAny_pure (wpAny_raiseNew_none hh q)
end
end L2.Ev
end
section
namespace L2.Ev
theorem oR {M:Model} {A:Around} {E:Value→Shared→Prop} {Q:Unit→Shared→Prop} {s:Shared} {env:Env} {n:Str} {m:Str→Option Value} {pos:Pos} (hl:env.kindOf n=some .local) (hn:s.heap.Ns env.locals m) (hp:(env.scope.kind == .class || (env.scope.kind == .module && env.locals != env.globals))=false)
 (h:∀ h' v,h'.Ns env.locals (fun y=>if y=n then v else m y)→Heap.SameBut env.locals s.heap h'→Q () { s with heap:=h',toks:=s.toks+1 }):wpAny M A (do bindName env n .none;unbindBehindTheSuite env n pos) Q E s:=by
 refine wpAny_bind (wpAny_bindName (wpAny_storeName_local hl hn (fun h1 n1 s1=>?_) hp))
 unfold unbindBehindTheSuite unbindName;refine wpAny_onRaise (wpAny_bind (wpAny_point (wpAny_bind ?_)))
 unfold deleteName;simp only [hl,hp];rw [ZY (by decide)]
 refine wpAny_bind (wpAny_nsDel_keeps n1 fun h2 v n2 s2=>?_)
 simp only [if_true,Option.isSome_some,Bool.not_true,Bool.false_eq_true,if_false]
 refine wpAny_pure (wpAny_point (h h2 v ?_ (s1.trans s2)))
 have e:(fun y=>if y=n then v else if y=n then some Value.none else m y)=fun y=>if y=n then v else m y:=by
  funext y
  by_cases z:y=n <;> simp [z]
 rw [e] at n2
 exact n2
section
variable {X:Cx} {z z' z0 z1:Z} {w:Addr→Prop}
theorem yE {a C:Addr} {l:List (Str×Value)} {f:Str} {v:Value} {Q:Value→Shared→Prop} {b:Bool} (I:Rep X z) (h:ExO z.h a C l) (nl:l≠[]) (Y:dv X.K C) (hh:PySem.W.hasDictIn X.K C=true) (hf:PySem.W.findIn X.K (.ref C) f=some none) (lk:l.lookup f=some v) (hv:PySem.W.handedIn v=true) (q:Q v { z.s with toks:=z.s.toks+1 }):wpAny X.M X.A (getAttr (.ref a) f b) Q NoE z.s:=by
 obtain ⟨o,vs,e1,e2,e3,e4⟩:=h
 rcases e4 with ⟨w,_⟩ | ⟨d,od,e5,e6,es,ep,e7⟩
 ·exact ZX w nl
 ·exact pV Y hh I.toHR.kin hf e1 e2 e3 e5 (mA:=fun n=>l.lookup n) ⟨od,es,ep,e6,e7⟩ lk hv q
abbrev aN (X:Cx) (e:Value):Cx:={ X with A:=X.A.mark (some e),calm:=false }
theorem Rep.suite (I:Rep X z):Rep (aN X e) z:=⟨⟨I.md,I.fm,(fun c=>nomatch c),I.bs,I.gh,I.rl,I.rn,I.rg,I.ob,I.fu,I.ff,I.br,I.os⟩,⟨I.ok.un,I.ok.kd,I.ok.gl,I.ok.bl,I.ok.ci,I.ok.ch⟩,I.lo,I.ce,I.fl,I.el,I.sl,I.en,I.eo,I.od⟩
theorem Rep.unsuite (h:X.calm=true→X.A.handled=none) (I:Rep (aN X e) z):Rep X z:=⟨⟨I.md,I.fm,h,I.bs,I.gh,I.rl,I.rn,I.rg,I.ob,I.fu,I.ff,I.br,I.os⟩,⟨I.ok.un,I.ok.kd,I.ok.gl,I.ok.bl,I.ok.ci,I.ok.ch⟩,I.lo,I.ce,I.fl,I.el,I.sl,I.en,I.eo,I.od⟩
theorem Go.unsuite (g:Go (aN X e) z z'):Go X z z':=⟨g.st,g.ow⟩
theorem Rep.gone {h':Heap} {t:Nat} {i:Nat} {x:Str} {m:Str→Option Value} {v:Option Value} (I:Rep X z) (hN:X.N.Nodup) (hi:X.N[i]? = some x) (hk:X.env.scope.names.lookup x=some .local) (lk:∀ (i:Nat) (x:Str) (u:Value),X.N[i]? = some x→z.σ[i]? = some (some u)→Vis X.env.scope x→kM X.env z.s.heap m x u)
 (hn:h'.Ns X.env.locals (fun y=>if y=x then v else m y)) (sb:Heap.SameBut X.env.locals z.s.heap h'):Rep X { z with t:=⟨z.t.env.set i none,z.t.ow.filter (· != i),z.t.st⟩,σ:=z.σ.set i none,s:={ z.s with heap:=h',toks:=t } }∧Go X z { z with t:=⟨z.t.env.set i none,z.t.ow.filter (· != i),z.t.st⟩,σ:=z.σ.set i none,s:={ z.s with heap:=h',toks:=t } }:=by
 have ne:∀ {b:Addr},b≠X.env.locals→h'.get? b=z.h b:=fun n=>sb.2 _ n
 have lL:Lc X X.env.locals:=.inl rfl
 have nG:∀ {b o},z.G b=some o→b≠X.env.locals:=fun e q=>by rw [q,(I.fl _ lL).1] at e;cases e
 have nM:∀ {b},Mu z.ρ b→b≠X.env.locals:=fun m q=>(I.fl _ lL).2 (q ▸ m)
 obtain ⟨oL,es,ep,hoL,hdL,_⟩:=id hn
 have ck:∀ y c u,X.env.cells.lookup y=some c→z.s.heap.IsCell c u→h'.IsCell c u:=fun y c u e q=>q.sameBut sb (I.cne y c e)
 have hiσ:i<z.σ.length:=by rw [I.sl];exact (List.getElem?_eq_some_iff.mp hi).1
 have mf:∀ {j},j∈z.t.ow.filter (· != i)→j∈z.t.ow∧j≠i:=fun m=>⟨(List.mem_filter.mp m).1,by simpa using (List.mem_filter.mp m).2⟩
 have fu:h'.FunFrames X.base X.fr:=iW (fun b o e nf=>by
  by_cases q:b=X.env.locals
  ·subst q;exact ⟨oL,hoL,fun vs e=>by rw [hdL] at e;cases e⟩
  ·exact ⟨o,(ne q).trans e,nf⟩) I.fu
 refine ⟨⟨⟨I.md,I.fm,I.hd,I.bs,fun b o e=>(ne (nG e)).trans (I.gh b o e),I.rl,I.rn,I.rg,fun n o p h1 h2=>(I.ob n o p h1 h2).mono (List.prefix_refl _) (.refl _) fun b hb o e=>(ne (nM ⟨p,List.mem_of_getElem? h2,hb⟩)).trans e,fu,I.ff,I.br,I.os⟩,I.ok,⟨_,hn,fun j y u e1 e2 e3=>?_⟩,fun y c e=>let ⟨u,q⟩:=I.ce y c e;⟨u,ck y c u e q⟩,I.fl,by show (z.t.env.set i none).length=(z.σ.set i none).length;rw [List.length_set,List.length_set];exact I.el,by show (z.σ.set i none).length=_;rw [List.length_set];exact I.sl,fun j d n e=>?_,fun j mj=>?_,fun j k a m1 m2 e1 e2=>?_⟩,⟨⟨List.prefix_refl _,.refl _,fun _ _ e=>.inl e,fun _ m=>.inl m,fun b o e=>?_,fun b o e _ w _=>(ne fun q=>w (.inr (.inl q))).trans e,fun b o e _ w _=>⟨o.slots,(ne fun q=>w (.inr (.inl q))).trans e⟩⟩,fun b ⟨j,mj,e⟩=>?_⟩⟩
 ·by_cases q:j=i
  ·subst q
   rw [List.getElem?_set_self hiσ] at e2;cases e2
  ·rw [List.getElem?_set_ne (Ne.symm q)] at e2
   rcases lk j y u e1 e2 e3 with ⟨k,e⟩ | ⟨k,c,e,w⟩
   ·have:y≠x:=fun e=>q (gj hN e1 (e ▸ hi))
    exact .inl ⟨k,by simp [this,e]⟩
   ·exact .inr ⟨k,c,e,ck y c _ e w⟩
 ·have e:(z.t.env.set i none)[j]? = some (some d):=e
  by_cases q:j=i
  ·subst q
   rw [List.getElem?_set_self (by rw [I.el];exact hiσ)] at e;cases e
  ·rw [List.getElem?_set_ne (Ne.symm q)] at e
   obtain ⟨u,e1,r⟩:=I.en j d (fun m=>n (List.mem_filter.mpr ⟨m,by simpa using q⟩)) e
   exact ⟨u,(List.getElem?_set_ne (Ne.symm q)).trans e1,r⟩
 ·obtain ⟨m1,q⟩:=mf mj
  obtain ⟨d,a,o,h1,h2,h3,r,f⟩:=I.eo j m1
  exact ⟨d,a,o,(List.getElem?_set_ne (Ne.symm q)).trans h1,(List.getElem?_set_ne (Ne.symm q)).trans h2,h3,r.mono (List.prefix_refl _) (.refl _) fun b hb o e=>(ne fun w=>f.2.2.2 (by rcases hb with rfl | rfl <;> exact .inl w)).trans e,f⟩
 ·obtain ⟨a1,q1⟩:=mf m1
  obtain ⟨a2,q2⟩:=mf m2
  exact I.od j k a a1 a2 ((List.getElem?_set_ne (Ne.symm q1)).symm.trans e1) ((List.getElem?_set_ne (Ne.symm q2)).symm.trans e2)
 ·by_cases q:b=X.env.locals
  ·subst q;exact ⟨oL,hoL⟩
  ·exact ⟨o,(ne q).trans e⟩
 ·obtain ⟨m1,q⟩:=mf mj
  exact .inl ⟨j,m1,(List.getElem?_set_ne (Ne.symm q)).symm.trans e⟩
theorem sf {a T:Addr} {fl cls:Value} {dx:Option Addr} (x:Stp X.fr w z z') (I:Rep X z') (r:XR X.W z' c l cls dx) (na:Nob X z z' a) (t:Tr z'.s.heap a cls dx T fl):∃ z2,z2.s=z'.s∧z2.t=z'.t∧Stp X.fr w z z2∧(∀ b,Own z2 b↔Own z' b)∧Rep X z2∧RD X.W z2.ρ z2.G (.ins c l) (.ref a)∧(z2.σ=z'.σ):=by
 obtain ⟨oe,vs,_,_,he,⟨hc,hd⟩,hda,_⟩:=t
 have gg:Sub z'.G fun b=>if b=a then some oe else z'.G b:=fun b o q=>by
  dsimp only
  by_cases c:b=a
  ·subst c;rw [na.2.1.1] at q;cases q
  ·rw [ZY c];exact q
 have rd:RD X.W z'.ρ (fun b=>if b=a then some oe else z'.G b) (.ins c l) (.ref a):=by
  obtain ⟨i,h1,h2,h3,h4,h5⟩:=r
  subst h3
  rcases h5 with ⟨rfl,rfl⟩ | ⟨d,od,us,rfl,h6,h7,h8⟩
  ·exact ⟨a,i,[],rfl,h1,h4,.inr ⟨h2,oe,vs,ZZ rfl,hc,hda,.inl ⟨by simp,hd⟩⟩,rfl⟩
  ·exact ⟨a,i,us,rfl,h1,h4,.inr ⟨h2,oe,vs,ZZ rfl,hc,hda,.inr ⟨d,od,hd,gg _ _ h6,h7⟩⟩,h8.mono (List.prefix_refl _) gg⟩
 refine ⟨{ z' with G:=fun b=>if b=a then some oe else z'.G b },rfl,rfl,⟨x.pr,x.gg.trans gg,fun b o q=>?_,x.rn,x.th,x.sm,x.sl⟩,fun _=>.rfl,I.grw rfl I.br (fun _ _ e _=>e) (fun _ o e=>⟨o.slots,e⟩) gg (fun b o q=>?_) fun b o q=>?_,rd,rfl⟩
 all_goals
  have q:(if b=a then some oe else z'.G b)=some o:=q
  by_cases c:b=a
 ·subst c;exact .inr (.inl na.1)
 ·rw [ZY c] at q;exact x.gn b o q
 ·subst c;rw [ZZ rfl] at q;cases q;exact he
 ·rw [ZY c] at q;exact I.gh b o q
 ·subst c;exact .inr na.2
 ·rw [ZY c] at q;exact .inl q
def pk (X:Cx) (j:Nat) (x:Str):Prop:=∃ i,X.W.ci[j]? = some i∧X.mg x=some (.ref i.ad)∧lS X.K i.ad∧∀ c k ic,X.Γ.cl[c]? = some k→X.W.ci[c]? = some ic→X.W.what[c]? = some 2→PySem.W.mroIn X.K ic.ad (.ref i.ad)=some (c == j || k.sup.contains j)
def HL (X:Cx) (hs:List ExceptHandler) (r:S):Prop:=∀ (z z1:Z) (c:Nat) (l:List D) (e:Value) (o:ar),XN X (Pv X z) z z1 c l e .none→(∀ a,Own z1 a→Own z a∨z.h a=none)→o=exS.hnd X.Γ X.cal X.cal1 r c l z1.t→o≠.bad→wpAny X.M X.A (handleBy e X.env hs) (Ps X z o) (PxS X z o) z1.s
theorem wD:HL X [] .skip:=fun z z1 c l e o _ _ e0 nb=>ZX e0 nb
theorem zy {j i:Nat} {Bn n:Str} {np hpos:Pos} {hs:List ExceptHandler} {suite:List Stmt} {b₀:Stmt} {b r:S} (hS:∀ e,LSs (aN X e) (b₀ :: suite) b) (hx:pk X j Bn) (hg:Gl X Bn) (hdb:(Bn == ("__debug__":Str))=false) (hN:X.N.Nodup) (hi:X.N[i]? = some n) (hl:X.env.scope.names.lookup n=some .local) (hr:HL X hs r):HL X (.ExceptHandler (some (.Name Bn np)) (some n) (b₀ :: suite) hpos :: hs) (.hand j (some i) b r):=fun z z1 c l e o hn3 ow1 e0 nb=>by
 have e0:o=(match cO X.Γ j c with
  | some true=>(match X.ex b ⟨z1.t.env.set i (some (.ins c l)),z1.t.ow.filter (· != i),z1.t.st⟩ with
    | .nx s=>.nx ⟨s.env.set i none,s.ow.filter (· != i),s.st⟩
    | .rt d s=>.rt d s
    | _=>.bad)
  | some false=>exS.hnd X.Γ X.cal X.cal1 r c l z1.t
  | none=>.bad):=e0
 obtain ⟨p,T,cls,dx,rfl,x3,I3,r3,na3,t3,nT3⟩:=id hn3
 refine wpAny_handleBy_cons (codeAny_handlers_test ?_) (fun z=>nomatch z)
 obtain ⟨ic,w1,w2,w3,w4⟩:=hx
 obtain ⟨i2,v1,v2,v3,v4,v5⟩:=id r3
 cases ek:X.Γ.cl[c]? with
 | none=>exact ZX (by rw [e0];unfold cO;rw [ek];rfl) nb
 | some k=>
   have hsub:=w4 c k i2 ek v1 v2
   rw [show cO X.Γ j c=some (c == j || k.sup.contains j) by unfold cO;rw [ek];rfl] at e0
   generalize (c == j || k.sup.contains j)=kk at e0 hsub
   refine bt (X:=aN X (.ref p)) (z:=z1) I3.suite hg w2 ?_ hdb
   obtain ⟨oe,vs,oT,tt,he,⟨hcl,hdi⟩,hda,_⟩:=id t3
   refine f9 I3.toHR.kin w3 he (hcl.trans v3) hsub ?_
   cases kk with
   | false=>exact hr z z1 c l _ o hn3 ow1 e0 nb
   | true=>
     have e0:o=(match X.ex b ⟨z1.t.env.set i (some (.ins c l)),z1.t.ow.filter (· != i),z1.t.st⟩ with
      | .nx s=>.nx ⟨s.env.set i none,s.ow.filter (· != i),s.st⟩
      | .rt d s=>.rt d s
      | _=>.bad):=e0
     show codeAny _ _ _ _ _
     refine codeAny_handlers_suite_as (cH (z':=z1) (fr:=none) hn3 fun h4 hn4=>?_)
     obtain ⟨p',T',cls',dx',ep,x4,I4,r4,na4,t4,nT4⟩:=hn4
     cases ep
     obtain ⟨z5,e5,t5,x5,o5,I5,rd5,s5⟩:=sf x4 I4 r4 na4 t4
     rw [show ({ z1.s with heap:=h4 }:Shared)=z5.s from e5.symm]
     have g5:Go X z z5:=⟨x5,fun b ob=>ow1 b ((o5 b).mp ob)⟩
     refine cg (X:=aN X (.ref p)) (own:=false) (d:=.ins c l) (z:=z5) (z0:=z5) .refl I5.suite hN hi (.inl hl) rd5 fun s6 a6 _ _ I6 g6=>?_
     have t6:stV z5.t i (.ins c l) false=⟨z1.t.env.set i (some (.ins c l)),z1.t.ow.filter (· != i),z1.t.st⟩:=by rw [show z5.t=z1.t from t5];rfl
     rw [← t6] at e0
     have nb6:(aN X (.ref p)).ex b (stV z5.t i (.ins c l) false)≠.bad:=fun q=>nb (by rw [e0,show X.ex b (stV z5.t i (.ins c l) false) = .bad from q])
     refine wpAny_mono (hS (.ref p) { z5 with t:=stV z5.t i (.ins c l) false,σ:=z5.σ.set i (some (.ref p)),s:=s6 } I6 nb6) (fun f s7 h7=>?_) fun e s7 ⟨z7,c7,l7,_,q7,_⟩=>ZX (by rw [e0,show X.ex b (stV z5.t i (.ins c l) false)=_ from q7]) nb
     have fin:∀ z7,z7.s=s7→Go (aN X (.ref p)) { z5 with t:=stV z5.t i (.ins c l) false,σ:=z5.σ.set i (some (.ref p)),s:=s6 } z7→Rep (aN X (.ref p)) z7→(∀ z8,z8.t=⟨z7.t.env.set i none,z7.t.ow.filter (· != i),z7.t.st⟩→z8.ρ=z7.ρ→z8.G=z7.G→Go X z z8→Rep X z8→Ps X z o f z8.s)→wpAny X.M X.A (do bindName X.env n .none;unbindBehindTheSuite X.env n hpos) (fun _ s3=>Ps X z o f s3) (PxS X z o) s7:=fun z7 e7 g7 I7 hh=>by
      subst e7
      have J7:=I7.unsuite I3.hd
      obtain ⟨m,hn,lk⟩:=id J7.lo
      refine oR hl hn (by rw [I3.ok.kd];rfl) fun h8 v n8 s8=>?_
      obtain ⟨I8,g8⟩:=J7.gone (t:=z7.s.toks+1) hN hi hl lk n8 s8
      exact hh { z7 with t:=⟨z7.t.env.set i none,z7.t.ow.filter (· != i),z7.t.st⟩,σ:=z7.σ.set i none,s:={ z7.s with heap:=h8,toks:=z7.s.toks+1 } } rfl rfl rfl (((g5.trans g6.unsuite).trans g7.unsuite).trans g8) I8
     cases q7:X.ex b (stV z5.t i (.ins c l) false) with
     | nx t7=>
       rw [show (aN X (.ref p)).ex b (stV z5.t i (.ins c l) false) = .nx t7 from q7] at h7
       rw [q7] at e0
       obtain ⟨rfl,z7,e7,et7,g7,I7⟩:=h7
       refine fin z7 e7 g7 I7 fun z8 e8 _ _ g8 I8=>nxt g8 I8 ?_
       rw [e0,e8,et7]
     | rt d t7=>
       rw [show (aN X (.ref p)).ex b (stV z5.t i (.ins c l) false) = .rt d t7 from q7] at h7
       rw [q7] at e0
       obtain ⟨u,z7,rfl,e7,et7,g7,I7,rd7⟩:=h7
       refine fin z7 e7 g7 I7 fun z8 e8 r8 G8 g8 I8=>?_
       rw [e0]
       exact ⟨u,z8,rfl,rfl,by rw [e8];exact et7,g8,I8,by rw [r8,G8];exact rd7⟩
     | exc c7 l7 t7=>rw [q7] at e0;exact ZX e0 nb
     | bad=>exact ZX q7 nb6
theorem zA {j:Nat} {Bn:Str} {np hpos:Pos} {hs:List ExceptHandler} {suite:List Stmt} {b₀:Stmt} {b r:S} (hS:∀ e,LSs (aN X e) (b₀ :: suite) b) (hx:pk X j Bn) (hg:Gl X Bn) (hdb:(Bn == ("__debug__":Str))=false) (hr:HL X hs r):HL X (.ExceptHandler (some (.Name Bn np)) none (b₀ :: suite) hpos :: hs) (.hand j none b r):=fun z z1 c l e o hn3 ow1 e0 nb=>by
 have e0:o=(match cO X.Γ j c with
  | some true=>(match X.ex b z1.t with | .nx s=>.nx s | .rt d s=>.rt d s | _=>.bad)
  | some false=>exS.hnd X.Γ X.cal X.cal1 r c l z1.t
  | none=>.bad):=e0
 obtain ⟨p,T,cls,dx,rfl,x3,I3,r3,na3,t3,nT3⟩:=id hn3
 refine wpAny_handleBy_cons (codeAny_handlers_test ?_) (fun z=>nomatch z)
 obtain ⟨ic,w1,w2,w3,w4⟩:=hx
 obtain ⟨i2,v1,v2,v3,v4,v5⟩:=id r3
 cases ek:X.Γ.cl[c]? with
 | none=>exact ZX (by rw [e0];unfold cO;rw [ek];rfl) nb
 | some k=>
   have hsub:=w4 c k i2 ek v1 v2
   rw [show cO X.Γ j c=some (c == j || k.sup.contains j) by unfold cO;rw [ek];rfl] at e0
   generalize (c == j || k.sup.contains j)=kk at e0 hsub
   refine bt (X:=aN X (.ref p)) (z:=z1) I3.suite hg w2 ?_ hdb
   obtain ⟨oe,vs,oT,tt,he,⟨hcl,hdi⟩,hda,_⟩:=id t3
   refine f9 I3.toHR.kin w3 he (hcl.trans v3) hsub ?_
   cases kk with
   | false=>exact hr z z1 c l _ o hn3 ow1 e0 nb
   | true=>
     have e0:o=(match X.ex b z1.t with | .nx s=>.nx s | .rt d s=>.rt d s | _=>.bad):=e0
     show codeAny _ _ _ _ _
     refine codeAny_handlers_suite (cH (z':=z1) (fr:=none) hn3 fun h4 hn4=>?_)
     obtain ⟨p',T',cls',dx',ep,x4,I4,r4,na4,t4,nT4⟩:=hn4
     cases ep
     have g4:Go X z { z1 with s:={ z1.s with heap:=h4 } }:=⟨x4,ow1⟩
     have nb6:(aN X (.ref p)).ex b z1.t≠.bad:=fun q=>nb (by rw [e0,show X.ex b z1.t = .bad from q])
     refine wpAny_mono (hS (.ref p) { z1 with s:={ z1.s with heap:=h4 } } I4.suite nb6) (fun f s7 h7=>?_) fun e s7 ⟨z7,c7,l7,_,q7,_⟩=>ZX (by rw [e0,show X.ex b z1.t=_ from q7]) nb
     cases q7:X.ex b z1.t with
     | nx t7=>
       rw [show (aN X (.ref p)).ex b z1.t = .nx t7 from q7] at h7
       rw [q7] at e0
       obtain ⟨rfl,z7,e7,et7,g7,I7⟩:=h7
       subst e7
       exact nxt (g4.trans g7.unsuite) (I7.unsuite I3.hd) (by rw [e0,et7])
     | rt d t7=>
       rw [show (aN X (.ref p)).ex b z1.t = .rt d t7 from q7] at h7
       rw [q7] at e0
       obtain ⟨u,z7,rfl,e7,et7,g7,I7,rd7⟩:=h7
       subst e7
       show Ps X z o (.ret u) z7.s
       rw [e0]
       exact ⟨u,z7,rfl,rfl,et7,g4.trans g7.unsuite,I7.unsuite I3.hd,rd7⟩
     | exc c7 l7 t7=>rw [q7] at e0;exact ZX e0 nb
     | bad=>exact ZX q7 nb6
theorem xw {h0:ExceptHandler} {hs:List ExceptHandler} {pos:Pos} {body:List Stmt} {a r:S} (F:nF X) (hb:LSs X body a) (hh:HL X (h0 :: hs) r):LS X (.Try body (h0 :: hs) [] [] pos) (.try_ a r):=fun z I nb=>by
 have e0:X.ex (.try_ a r) z.t=(match X.ex a z.t with
  | .exc c l s=>exS.hnd X.Γ X.cal X.cal1 r c l s
  | r=>r):=rfl
 generalize X.ex (.try_ a r) z.t=o at e0 nb
 have nb1:X.ex a z.t≠.bad:=fun q=>nb (by rw [e0,q])
 refine wpAny_Try_except (wpAny_mono (hb z I nb1) (fun f s1 h=>?_) fun e s1 h=>?_)
 ·cases q:X.ex a z.t with
  | nx t=>rw [q] at h e0;obtain ⟨rfl,h⟩:=h;exact wpAny_execs_nil (show Ps X z o .next s1 by rw [e0];exact ⟨rfl,h⟩)
  | rt d t=>rw [q] at h e0;obtain ⟨u,z',rfl,h⟩:=h;exact show Ps X z o (.ret u) s1 by rw [e0];exact ⟨u,z',rfl,h⟩
  | exc c l t=>rw [q] at h;exact h.elim
  | bad=>exact ZX q nb1
 ·obtain ⟨z1,c,l,e1,q1,x1,I1,xo⟩:=h
  subst e1
  rw [q1] at e0
  exact jB F x1.st I1 xo fun h2 hn2=>cH (z':={ z1 with s:={ z1.s with heap:=h2 } }) (fr:=none) hn2 fun h3 hn3=>hh z { z1 with s:={ z1.s with heap:=h3 } } c l e o hn3 x1.ow e0 nb
end
end L2.Ev
end
section
namespace L2.Ev
structure Pri (X:Cx) (p:Addr) (nm:List Str) (P:List Addr→List (Str×Value)→Heap→Prop):Prop where
 ex:∀ {ch l h},P ch l h→∀ b∈ch,∃ o,h.get? b=some o
 keep:∀ {ch l h h'},P ch l h→(∀ b∈ch,∀ o,h.get? b=some o→h'.get? b=some o)→P ch l h'
 set:∀ {A:Around} {s:Shared} {ch:List Addr} {l:List (Str×Value)} {f:Str} {v:Value} {Q:Unit→Shared→Prop} {E:Value→Shared→Prop},X.K.In s.heap→P ch l s.heap→f∈nm→f ∉ l.map (·.1)→l.length<900 →
  (∀ h' ch' t,P ch' (l ++ [(f,v)]) h'→(∀ b∈ch',b∈ch∨s.heap.get? b=none)→(∀ b∈ch,b∈ch')→(∀ b o,b ∉ ch→s.heap.get? b=some o→h'.get? b=some o)→Q () { s with heap:=h',toks:=t })→wpAny X.M A (setAttr (.ref p) f v) Q E s
theorem iw {f:Str} {v:Value}:∀ {l:List (Str×Value)},f ∉ l.map (·.1)→∀ g,(l ++ [(f,v)]).lookup g=if g=f then some v else l.lookup g
 | [],_,g=>by
   show (match g == f with | true=>some v | false=>none)=if g=f then some v else none
   by_cases c:g=f
   ·rw [ZZ c,beq_iff_eq.mpr c]
   ·rw [ZY c,ZU.mpr c]
 | (a,b) :: r,h,g=>by
   have h':f≠a∧f ∉ r.map (·.1):=by simpa using h
   have ih:=iw (v:=v) h'.2 g
   show (match g == a with | true=>some b | false=>(r ++ [(f,v)]).lookup g)=if g=f then some v else (match g == a with | true=>some b | false=>r.lookup g)
   by_cases c:g=a
   ·have gf:g≠f:=fun w=>h'.1 (w.symm.trans c)
    rw [beq_iff_eq.mpr c,ZY gf]
   ·rw [ZU.mpr c];exact ih
theorem se (l:List (Str×Value)):PySem.Within (fun n=>l.lookup n) (l.map (·.1)):=fun y hy=>by
 cases q:l.lookup y with
 | none=>exact ZX q hy
 | some u=>
   obtain ⟨l1,l2,e1,_⟩:=List.lookup_eq_some_iff.mp q
   rw [e1];simp
section
variable {X:Cx} {z z' z0 z1:Z} {p C:Addr} {nm:List Str}
theorem mR (Z:fB X.K C) (na:∀ f∈nm,PySem.W.findIn X.K (.ref C) f=some none):Pri X p nm (fun ch l h=>∃ o vs,h.get? p=some o∧o.cls = .ref C∧o.data = .fields vs∧vs[1]? = some .none∧((l = []∧o.dict=none∧ch = [p])∨∃ d od,o.dict=some d∧d≠p∧ch = [p,d]∧h.get? d=some od∧NsO od l)) where
 ex:=fun ⟨o,vs,h1,_,_,_,h5⟩ b hb=>by
  rcases h5 with ⟨_,_,e⟩ | ⟨d,od,_,_,e,h6,_⟩
  ·rw [e] at hb;rw [List.mem_singleton.mp hb];exact ⟨o,h1⟩
  ·rw [e] at hb
   rcases List.mem_cons.mp hb with w | w
   ·rw [w];exact ⟨_,h1⟩
   ·rw [List.mem_singleton.mp w];exact ⟨od,h6⟩
 keep:=fun ⟨o,vs,h1,h2,h3,h4,h5⟩ k=>by
  rcases h5 with ⟨a,b,e⟩ | ⟨d,od,a,b,e,h6,h7⟩
  ·exact ⟨o,vs,k p (by rw [e];simp) _ h1,h2,h3,h4,.inl ⟨a,b,e⟩⟩
  ·exact ⟨o,vs,k p (by rw [e];simp) _ h1,h2,h3,h4,.inr ⟨d,od,a,b,e,k d (by rw [e];simp) _ h6,h7⟩⟩
 set:=fun {A s ch l f v Q E} hK ⟨o,vs,h1,h2,h3,h4,h5⟩ hf hn hz hq=>by
  refine oq (mA:=fun n=>l.lookup n) (ns:=l.map (·.1)) hK Z (na f hf) h1 h2 h3 ?_ (se l) (by rw [List.length_map];omega) fun h' d t g1 ne n k ds=>?_
  ·rcases h5 with ⟨rfl,b,_⟩ | ⟨d,od,a,b,_,h6,es,ep,h7⟩
   ·exact .inl ⟨b,fun _=>rfl⟩
   ·exact .inr ⟨d,a,b,od,es,ep,h6,h7⟩
  ·obtain ⟨od2,es,ep,e1,e2,e3,e4,e5⟩:=n
   refine hq h' [p,d] t ⟨_,vs,g1,h2,h3,h4,.inr ⟨d,od2,rfl,ne,rfl,e1,es,ep,e2,e3,e4,fun n=>(e5 n).trans (iw hn n).symm⟩⟩ (fun b hb=>?_) (fun b hb=>?_) fun b u nb e=>?_
   ·rcases h5 with ⟨_,b1,e⟩ | ⟨d',od,a,_,e,_⟩
    ·rcases List.mem_cons.mp hb with w | w
     ·left;rw [e,w];simp
     ·rw [List.mem_singleton.mp w]
      rcases ds with q | ⟨_,q⟩
      ·rw [b1] at q;cases q
      ·exact .inr q
    ·rcases ds with q | ⟨q,_⟩
     ·rw [a] at q;cases q;rw [e];exact .inl hb
     ·rw [a] at q;cases q
   ·rcases h5 with ⟨_,b1,e⟩ | ⟨d',od,a,_,e,_⟩
    ·rw [e] at hb;rw [List.mem_singleton.mp hb];simp
    ·rcases ds with q | ⟨q,_⟩
     ·rw [a] at q;cases q;rw [e] at hb;exact hb
     ·rw [a] at q;cases q
   ·have np:b≠p:=fun w=>by
     rcases h5 with ⟨_,_,e'⟩ | ⟨_,_,_,_,e',_⟩ <;> exact nb (by rw [e',w];simp)
    refine k b u np (fun w=>?_) e
    rcases ds with q | ⟨_,q⟩
    ·rcases h5 with ⟨_,b1,_⟩ | ⟨d',od,a,_,e',_⟩
     ·rw [b1] at q;cases q
     ·rw [a] at q;cases q;exact nb (by rw [e',w];simp)
    ·rw [w,q] at e;cases e
def Bas (X:Cx) (p:Addr) (P:List Addr→List (Str×Value)→Heap→Prop):Prop:=∀ {A:Around} {s:Shared} {ch:List Addr} {l:List (Str×Value)} {ur:List Value} {Q:Value→Shared→Prop} {E:Value→Shared→Prop},X.K.In s.heap→P ch l s.heap→ur.length≤sizeLine →
 (∀ h',P ch l h'→(∀ b∈ch,∃ o,h'.get? b=some o)→(∀ b o,b ∉ ch→s.heap.get? b=some o→h'.get? b=some o)→Q .none { s with heap:=h' })→wpAny X.M A (call (.builtin "ValueError.__init__") (.ref p :: ur)) Q E s
theorem sD {fI:Addr} (O:gE X.K C fI veB "ValueError.__new__") (Pr:Pri X p nm fun ch l h=>∃ o vs,h.get? p=some o∧o.cls = .ref C∧o.data = .fields vs∧vs[1]? = some .none∧((l = []∧o.dict=none∧ch = [p])∨∃ d od,o.dict=some d∧d≠p∧ch = [p,d]∧h.get? d=some od∧NsO od l)):Bas X p (fun ch l h=>∃ o vs,h.get? p=some o∧o.cls = .ref C∧o.data = .fields vs∧vs[1]? = some .none∧((l = []∧o.dict=none∧ch = [p])∨∃ d od,o.dict=some d∧d≠p∧ch = [p,d]∧h.get? d=some od∧NsO od l)):=fun {A s ch l ur Q E} K2 hP lz hq=>by
 have F:=PySem.F.excBase_ValueError
 obtain ⟨ob,fv,e1,e2,e3,e4,e5⟩:=id hP
 obtain ⟨nm',q',N,bs,bm,hdct,sn,sub,ab,col,dd,k0,k1,k2,k3,k5,l',tl⟩:=O.at_
 have sz:1<fv.size:=by
  cases Nat.lt_or_ge 1 fv.size with
  | inl h=>exact h
  | inr h=>rw [Array.getElem?_eq_none h] at e4;cases e4
 have z0:0<fv.size:=Nat.lt_of_succ_lt sz
 obtain ⟨h2,g2,d2,t2,o2⟩:=s
 refine wpAny_call (codeAny_call_builtin F.init.plain F.initEntry (wpAny_check_init_subT F (PySem.W.tail_of_in K2 tl) (K2 _ _ l') e1 e2 ?_))
 have e1':=Heap.get?_push_of_some (h:=h2) { cls:=.type "tuple",data:=.seq ur.toArray } e1
 obtain ⟨f0,e0⟩:∃ f0,fv[0]? = some f0:=⟨_,Array.getElem?_eq_getElem z0⟩
 unfold Builtin.«BaseException.__init__» Builtin.BaseException.bexcPut
 refine wpAny_bind (wpAny_newTuple ?_ lz)
 refine wpAny_bind (wpAny_bind (wpAny_field e1' e3 e0 (wpAny_bind (wpAny_setField e1' e3 z0 ?_))))
 have dT:=Obj.data_mapFields e3 (·.setIfInBounds 0 (Value.ref h2.objs.size))
 have gs:=Heap.get?_update_self (h:=h2.push { cls:=.type "tuple",data:=.seq ur.toArray }) (Obj.mapFields (·.setIfInBounds 0 (Value.ref h2.objs.size))) e1' (Obj.isFreed_of_fields dT)
 have ot:∀ b o,b≠p→h2.get? b=some o→((h2.push { cls:=.type "tuple",data:=.seq ur.toArray }).update p (Obj.mapFields (·.setIfInBounds 0 (Value.ref h2.objs.size)))).get? b=some o:=fun b o n e=>(Heap.get?_update_other _ _ (Ne.symm n)).trans (Heap.get?_push_of_some _ e)
 have fin:=hq ((h2.push { cls:=.type "tuple",data:=.seq ur.toArray }).update p (Obj.mapFields (·.setIfInBounds 0 (Value.ref h2.objs.size)))) ⟨_,_,gs,by rw [Obj.cls_mapFields];exact e2,dT,by rw [Array.getElem?_setIfInBounds_ne (by decide)];exact e4,e5.imp (fun ⟨a,b,c⟩=>⟨a,by rw [fK];exact b,c⟩) fun ⟨d,od,a,b,c,e,f⟩=>⟨d,od,by rw [fK];exact a,b,c,ot d od b e,f⟩⟩ (fun b hb=>by
  by_cases q:b=p
  ·rw [q];exact ⟨_,gs⟩
  ·obtain ⟨o,e⟩:=Pr.ex hP b hb
   exact ⟨o,ot b o q e⟩) (fun b o n e=>ot b o (fun q=>n (by rcases e5 with ⟨_,_,c⟩ | ⟨_,_,_,_,c,_⟩ <;> (rw [c,q];simp))) e)
 cases f0 <;> first | exact wpAny_pure (wpAny_pure fin) | exact wpAny_letGo (wpAny_pure fin)
structure jC (K:Fg) (B:Addr):Prop where
 ga:PySem.W.specialIn K (.ref B) "__getattribute__" = some (some (.builtin "type.__getattribute__"))
 rd:PySem.W.readsIn K B (.type "type")=true
 at_:PySem.W.findCls K (.ref B) (.type "type") "__init__" = some (.val (.builtin "ValueError.__init__"))
inductive JsP (X:Cx) (ck:List Nat):List Expr→Prop
 | nil:JsP X ck []
 | c {x:Str} {j:Nat} {p:Pos} {r}:x.length≤1000→JsP X ck r→JsP X ck (.Constant (.str x) j p :: r)
 | f {x:Str} {i:Nat} {p q:Pos} {r}:i∈ck→X.N[i+1]? = some x→Vis X.env.scope x→((x == ("__debug__":Str)) || (x == ("__classdict__":Str)))=false→JsP X ck r→JsP X ck (.FormattedValue (.Name x p) (-1) none q :: r)
def SmV (σ:List (Option Value)) (ck:List Nat):Prop:=∀ i∈ck,∃ (n:Nat) (t:Tok),σ[i+1]? = some (some (.int n t))∧n<100000
theorem wL {E:Value→Shared→Prop} {ck:List Nat} {es:List Expr} (h:JsP X ck es):∀ {z:Z} {acc:Str} {Q:Str→Shared→Prop},Rep X z→SmV z.σ ck→acc.length+1000 * es.length≤100000→(∀ out t,out.length≤100000→Q out { z.s with toks:=t })→Joins X.M X.A E (evalEach es X.env) acc Q z.s:=by
 have sz:∀ {n},n≤100000→n≤sizeLine:=fun h=>Nat.le_trans h (by decide)
 induction h with
 | nil=>exact fun I hs hl q=>q _ _ (by simpa using hl)
 | @c x j p r hx _ ih=>
   intro z acc Q I hs hl q
   rw [List.length_cons] at hl
   show wpAny _ _ (eval (.Constant (.str x) j p) X.env) _ _ _
   refine Calls.Constant_str ⟨x,_,rfl,sz (by rw [strLen_append];omega),?_⟩
   exact ih (z:={ z with s:={ z.s with toks:=z.s.toks+1 } }) (I.grow (aF I.gh .tok)) hs (by rw [strLen_append];omega) q
 | @f x i p p2 r hi hN hv hd _ ih=>
   intro z acc Q I hs hl q
   rw [List.length_cons] at hl
   simp only [Bool.or_eq_false_iff] at hd
   obtain ⟨n,t,e,hn⟩:=hs i hi
   have lt:=int_text_length_le10 (a:=(n:Int)) (k:=5) (by decide) hn
   have lg:(n:Int).natAbs.log2<1920:=by
    show n.log2<1920
    by_cases c:n=0
    ·subst c;decide
    ·exact Nat.lt_of_lt_of_le ((Nat.log2_lt (k:=17) c).mpr (by omega)) (by decide)
   have le:(Str.ofString (toString (n:Int))).length≤6:=by rw [PySem.ofString_length];exact lt
   refine FormattedValue_plain (cw I hN hv e (wpAny_formatField_int lg ⟨_,_,rfl,sz (by rw [strLen_append];omega),?_⟩) hd.1 hd.2)
   exact ih (z:={ z with s:={ z.s with toks:=z.s.toks+1+1 } }) (I.grow (aF I.gh .tok)) hs (by rw [strLen_append];omega) q
inductive jD (X:Cx) (ck:Option (List Nat)):List Stmt→List (Str×Nat)→Prop
 | nil:jD X ck [] []
 | base {c:List Nat} {s0 Bn:Str} {B:Addr} {np ap p1 p2 cp ep:Pos} {e1 e2:Expr} {es r l}:ck=some c→X.N[0]? = some s0→Vis X.env.scope s0→((s0 == ("__debug__":Str)) || (s0 == ("__classdict__":Str)) || (Bn == ("__debug__":Str)))=false→Gl X Bn→X.mg Bn=some (.ref B)→jC X.K B→JsP X c (e1 :: e2 :: es)→es.length≤50→(ap.endLine == cp.line)=true→jD X ck r l→jD X ck (.Expr (.Call (.Attribute (.Name Bn np) "__init__" ap) [.Name s0 p1,.JoinedStr (e1 :: e2 :: es) p2] [] cp) ep :: r) l
 | cons {s0 x:Str} {f:Str} {i:Nat} {p1 p2 p3 pos:Pos} {r l}:X.N[0]? = some s0→X.N[i]? = some x→Vis X.env.scope s0→Vis X.env.scope x→((s0 == ("__debug__":Str)) || (s0 == ("__classdict__":Str)) || (x == ("__debug__":Str)) || (x == ("__classdict__":Str)))=false→jD X ck r l→jD X ck (.Assign [.Attribute (.Name s0 p1) f p2] (.Name x p3) pos :: r) ((f,i) :: l)
theorem tj {P:List Addr→List (Str×Value)→Heap→Prop} {ck:Option (List Nat)} (H:Pri X p nm P) (hB:∀ c,ck=some c→Bas X p P) {body:List Stmt} {l:List (Str×Nat)} (B:jD X ck body l):∀ (z:Z) (ch:List Addr) (l0:List (Str×Value)) (vs:List Value),Rep X z→z.σ[0]? = some (some (.ref p))→P ch l0 z.s.heap→(∀ b∈ch,Fre X z b∧¬ Own z b)→(∀ q∈l,q.1∈nm)→(l0.map (·.1) ++ l.map (·.1)).Nodup→l0.length+l.length<900→l.map (fun q=>z.σ[q.2]?)=vs.map (fun v=>some (some v))→(∀ c,ck=some c→SmV z.σ c) →
 wpAny X.M X.A (execs body X.env) (fun fl s'=>fl = .next∧∃ ch',P ch' (l0 ++ (l.map (·.1)).zip vs) s'.heap∧(∀ b∈ch',b∈ch∨z.h b=none)∧(s'.os=z.s.os∧s'.gens=z.s.gens)∧(∀ b o,b ∉ ch→z.h b=some o→s'.heap.get? b=some o)) NoE z.s:=by
 induction B with
 | nil=>exact fun z ch l0 vs I _ hP hf _ _ _ _ _=>wpAny_execs_nil ⟨rfl,ch,by simpa using hP,fun b hb=>.inl hb,⟨rfl,rfl⟩,fun _ _ _ e=>e⟩
 | @base c s0 Bn Ba np ap p1 p2 cp ep e1 e2 es r l hc n0 v0 hd hg hm2 Z J hes hln B ih=>
   intro z ch l0 vs I h0 hP hf hm nd hz hv hs
   simp only [Bool.or_eq_false_iff] at hd
   have mp:methodCallPos true (.Name Bn np) X.env ap cp=pure cp:=by unfold methodCallPos;rw [hln];rfl
   refine wpAny_execs_cons (wpAny_Expr_any (PySem.W.methodCall_KW (pl:=do return (← importBound (.Name Bn np) X.env).getD true) (he:=by
    show (eval (.Name Bn np) X.env >>= fun ov=>standAt ap.atName >>= fun _=>holding [ov] (calleeOf true (.Name Bn np) X.env ov "__init__") >>= fun x=>methodCallPos true (.Name Bn np) X.env ap cp >>= fun callPos=>callWith callPos x.1 x.2 (backTo cp (starEach [.Name s0 p1,.JoinedStr (e1 :: e2 :: es) p2] X.env)) (backToKw cp (keywordEach [] X.env)))=_
    rw [mp];rfl) (bt I hg hm2 (PySem.W.method_cls I.toHR.kin Z.ga (PySem.W.cls_value I.toHR.kin Z.rd Z.at_ rfl ?_)) hd.2)) I.quiet rfl)
   have I1:Rep X { z with s:={ z.s with toks:=z.s.toks+1 } }:=I.grow (aF I.gh .tok)
   refine Calls.callWith_builtin rfl (Calls.evalArgs_plain (Calls.spliced_cons (cw I1 n0 v0 h0 (Calls.spliced_cons (wpAny_JoinedStr (pos:=p2) (wL J I1 (hs c hc) (by show Str.empty.length+1000 * (es.length+1+1)≤100000;have:Str.empty.length=0:=rfl;omega) fun out t ho=>⟨Nat.le_trans ho (by decide),Calls.spliced_nil ?_⟩))) hd.1.1 hd.1.2)))
   refine hB c hc (I.toHR.kin) hP (by rw [sizeLine_eq];exact Nat.le_of_ble_eq_true rfl) fun h' hP' c2 k=>?_
   have W:Wr (frs X.fr) ch z.s.heap h':=⟨fun b o e _ n=>k b o n e,fun b o e n=>⟨o.slots,k b o n e⟩,fun b o e=>by
    by_cases m:b∈ch
    ·exact c2 b m
    ·exact ⟨o,k b o m e⟩⟩
   have I2:Rep X { z with s:={ z.s with heap:=h',toks:=t+1 } }:=I.wr W hf
   refine wpAny_mono (ih { z with s:={ z.s with heap:=h',toks:=t+1 } } ch l0 vs I2 h0 hP' hf hm nd hz hv hs) (fun fl s' ⟨e,ch2,q1,q2,q3,q5⟩=>⟨e,ch2,q1,fun b hb=>(q2 b hb).imp_right fun w=>?_,q3,fun b o n e=>q5 b o n (k b o n e)⟩) fun _ _ w=>w
   cases q:z.h b with
   | none=>rfl
   | some o=>obtain ⟨o',e'⟩:=W.there b o q;rw [show h'.get? b=none from w] at e';cases e'
 | @cons s0 x f i p1 p2 p3 pos r l n0 ni v0 vi hd B ih=>
   intro z ch l0 vs I h0 hP hf hm nd hz hv hs
   simp only [Bool.or_eq_false_iff] at hd
   obtain ⟨⟨⟨d1,d2⟩,d3⟩,d4⟩:=hd
   match vs,hv with
   | [],hv=>cases hv
   | v :: vs,hv=>
     rw [List.map_cons,List.map_cons] at hv
     injection hv with hv1 hv2
     have nf:f ∉ l0.map (·.1)∧(l0.map (·.1) ++ [f] ++ l.map (·.1)).Nodup:=by
      rw [List.map_cons] at nd
      refine ⟨fun m=>?_,by simpa using nd⟩
      exact (List.nodup_append.mp nd).2.2 f m f List.mem_cons_self rfl
     refine wpAny_execs_cons (plainObj_wpAny_Assign_Attribute (cw I ni vi hv1 (cw I n0 v0 h0 (H.set I.toHR.kin hP (hm _ List.mem_cons_self) nf.1 (by simp at hz;omega) fun h' ch' t hP' c1 c2 k=>?_) d1 d2) d3 d4) dY)
     have W:Wr (frs X.fr) ch z.s.heap h':=⟨fun b o e _ n=>k b o n e,fun b o e n=>⟨o.slots,k b o n e⟩,fun b o e=>by
      by_cases m:b∈ch
      ·exact H.ex hP' b (c2 b m)
      ·exact ⟨o,k b o m e⟩⟩
     have I1:Rep X { z with s:={ z.s with heap:=h',toks:=t } }:=I.wr W hf
     have f1:∀ b∈ch',Fre X z b∧¬ Own z b:=fun b hb=>(c1 b hb).elim (hf b) fun n=>I.fre n
     refine wpAny_mono (ih { z with s:={ z.s with heap:=h',toks:=t } } ch' (l0 ++ [(f,v)]) vs I1 h0 hP' f1 (fun q m=>hm q (List.mem_cons_of_mem _ m)) (by rw [List.map_append];exact nf.2) (by simp at hz ⊢;omega) hv2 hs) (fun fl s' ⟨e,ch2,q1,q2,q3,q5⟩=>⟨e,ch2,by rw [List.append_assoc] at q1;exact q1,fun b hb=>?_,q3,fun b o n e=>?_⟩) fun _ _ w=>w
     ·rcases q2 b hb with w | w
      ·exact c1 b w
      ·refine .inr ?_
       cases q:z.h b with
       | none=>rfl
       | some o=>obtain ⟨o',e'⟩:=W.there b o q;rw [show h'.get? b=none from w] at e';cases e'
     ·by_cases m:b∈ch'
      ·rcases c1 b m with w | w
       ·exact ZX w n
       ·rw [show z.h b=none from w] at e;cases e
      ·exact q5 b o m (k b o n e)
structure FnI (X:Cx) (lv:Nat) (f:Addr) (fd:FuncData) (ps nm:List Str) (ck:Option (List Nat)):Prop where
 len:ps.length=nm.length+1
 run:∀ (A:Around) (fr:List Env) (z:Z) (args:Args) (us:List Value) (p:Addr) (P:List Addr→List (Str×Value)→Heap→Prop) (ch:List Addr),bg lv A→HR { X with A:=A,fr:=fr } z→BindsTo z.s fd args (ps.zip (.ref p :: us))→us.length=nm.length→Pri X p nm P→(∀ c,ck=some c→Bas X p P∧∀ i∈c,∃ (n:Nat) (t:Tok),us[i]? = some (.int n t)∧n<100000)→P ch [] z.s.heap→(∀ b∈ch,z.G b=none∧¬ Mu z.ρ b∧b ∉ frs fr) →
  codeAny X.M A (.call (.ref f) args) (fun r s'=>r = .ok (.ret .none)∧∃ ch',P ch' (nm.zip us) s'.heap∧(∀ b∈ch',b∈ch∨z.h b=none)∧(s'.os=z.s.os∧s'.gens=z.s.gens)∧(∀ b o,b ∉ ch→z.h b=some o→s'.heap.get? b=some o)) z.s
theorem wu {name qual:Str} {params:Arguments} {body:List Stmt} {scope:Scope} {dV kV doc pm ct oc cd:Value} {an od:Option Addr} {osl:Array (Option Value)} {ps:List Str} {f:Addr} {k:Nat} {l:List (Str×Nat)} (lk:X.K.lookup f=some ⟨oc,od,.func (PySem.W.fnOf name qual params body scope dV kV doc pm an cd ct),osl⟩) (hcd:PySem.W.codeIn X.K cd qual=true) (S:cZ ps ps scope) (hn:ps.length=nm.length+1) (nd:nm.Nodup) (h9:nm.length<900) (hl:l=nm.zip (List.range' 1 nm.length))
 {ck:Option (List Nat)} (hb:∀ A fr L,jD (cxF X X.cal X.cal1 ps qual scope f cd A fr L) ck body l):FnI X (k+1) f (PySem.W.fnOf name qual params body scope dV kV doc pm an cd ct) ps nm ck:=by
 refine ⟨hn,fun A fr z args us p P ch hr I hbd hlu H hB hP hc=>?_⟩
 have hl2:(Value.ref p :: us).length=ps.length:=by rw [List.length_cons];omega
 have KX:X.K.In z.s.heap:=I.kin
 have lim:z.s.heap.NoLimit:=I.md.nolimit.keeps (Rep.bk I)
 have hkind:∀ y∈ps.zip (.ref p :: us),scope.names.lookup y.1=some .local∨(scope.names.lookup y.1=some .cell∧((cellsFrom (z.s.heap.objs.size+1) scope.names []).lookup y.1).isSome=true):=fun ⟨n,v⟩ hy=>by
  rcases S.par n (List.of_mem_zip hy).1 with q | q
  ·exact .inl q
  ·exact .inr ⟨q,PySem.W.cellsFrom_some _ _ _ (.inl q)⟩
 refine codeAny_call_function hr.depth (KX _ _ lk) rfl S.co S.gen rfl (PySem.W.codeRec_of KX hcd) (hbd _ _ _ _ ?_)
 refine wpAny_newFunctionEnv_cells S.kind hkind fun env he s1 x=>?_
 subst he
 refine ⟨lim.keeps x.toInCall.keep,codeAny_func ?_⟩
 have hk:∀ b o,z.h b=some o→s1.heap.get? b=some o:=x.toInCall.keep
 have J:=iE (es:=List.replicate (Value.ref p :: us).length none) (cal:=X.cal) (cal1:=X.cal1) S I hr hl2 (List.length_replicate ..) (fun i d e=>by rw [List.getElem?_replicate] at e;split at e <;> cases e) x
 have lcf:∀ {a o},z.h a=some o→¬ Lc (cxF X X.cal X.cal1 ps qual scope f cd A fr z.s.heap.objs.size) a:=fun {a o} e h=>by
  have:z.s.heap.objs.size≤a:=by
   rcases h with rfl | ⟨y,e⟩
   ·exact Nat.le_refl _
   ·exact Nat.le_of_lt (x.above y _ (PySem.mem_of_lookup e))
  exact ZX (Heap.lt_size e) (Nat.not_lt.mpr this)
 have noz:∀ {b},b∈ch→∃ o,z.h b=some o:=fun hb=>H.ex hP _ hb
 have hP1:P ch [] s1.heap:=H.keep hP fun b _ o e=>hk b o e
 have fc:∀ b∈ch,Fre (cxF X X.cal X.cal1 ps qual scope f cd A fr z.s.heap.objs.size) ⟨z.ρ,z.G,⟨List.replicate (Value.ref p :: us).length none ++ List.replicate (ps.length - ps.length) none,[],z.t.st⟩,(Value.ref p :: us).map some ++ List.replicate (ps.length - ps.length) none,s1⟩ b∧¬ Own ⟨z.ρ,z.G,⟨List.replicate (Value.ref p :: us).length none ++ List.replicate (ps.length - ps.length) none,[],z.t.st⟩,(Value.ref p :: us).map some ++ List.replicate (ps.length - ps.length) none,s1⟩ b:=fun b hb=>by
  obtain ⟨o,e⟩:=noz hb
  obtain ⟨c1,c2,c3⟩:=hc b hb
  refine ⟨⟨c1,c2,fun m=>?_,lcf e⟩,fun ⟨i,m,_⟩=>nomatch m⟩
  rcases List.mem_cons.mp (show b∈z.s.heap.objs.size :: frs fr from m) with q | q
  ·exact ZX (Heap.lt_size e) (by rw [q];exact Nat.lt_irrefl _)
  ·exact c3 q
 have lm:l.map (·.1)=nm:=by rw [hl,List.map_fst_zip (by simp)]
 have H':Pri (cxF X X.cal X.cal1 ps qual scope f cd A fr z.s.heap.objs.size) p nm P:=⟨H.ex,H.keep,H.set⟩
 refine wpAny_mono (tj H' (fun c e=>(hB c e).1) (hb A fr z.s.heap.objs.size) _ ch [] us J (d8 (n:=ps.length - ps.length) (i:=0) rfl) hP1 fc (fun q m=>by rw [← lm];exact List.mem_map_of_mem m) (by rw [lm];simpa using nd) (by have:=ZS List.length lm;rw [List.length_map] at this;simp;omega) ?_ fun c e i hi=>?_) (fun fl s' ⟨e,ch',q1,q2,q3,q5⟩=>?_) fun _ _ w=>w.elim
 ·rw [hl]
  refine List.ext_getElem? fun i=>?_
  rw [List.getElem?_map,List.getElem?_map]
  cases q:us[i]? with
  | none=>
    have:¬ i<us.length:=fun h=>by rw [List.getElem?_eq_getElem h] at q;cases q
    rw [List.getElem?_eq_none (by rw [List.length_zip,List.length_range'];omega)];rfl
  | some v=>
    have hi:i<us.length:=(List.getElem?_eq_some_iff.mp q).1
    have e1:(nm.zip (List.range' 1 nm.length))[i]? = some (nm[i]'(by omega),1+i):=by rw [List.getElem?_zip_eq_some];exact ⟨List.getElem?_eq_getElem _,by rw [List.getElem?_range' (by omega)];simp⟩
    rw [e1]
    show some (((Value.ref p :: us).map some ++ List.replicate (ps.length - ps.length) none)[1+i]?)=some (some (some v))
    rw [d8 (d:=v) (by rw [Nat.add_comm,List.getElem?_cons_succ];exact q)]
 ·obtain ⟨n,t,e1,e2⟩:=(hB c e).2 i hi
  exact ⟨n,t,d8 (d:=Value.int n t) (by rw [List.getElem?_cons_succ];exact e1),e2⟩
 ·subst e
  rw [lm] at q1
  have none1:∀ {a},s1.heap.get? a=none→z.h a=none:=fun {a} n=>by
   cases q:z.h a with
   | none=>rfl
   | some o=>rw [hk a o q] at n;cases n
  obtain ⟨h1,tk,e1,_⟩:=x.done
  exact ⟨rfl,ch',q1,fun b hb=>(q2 b hb).imp_right none1,⟨q3.1.trans (by rw [e1]),q3.2.trans (by rw [e1])⟩,fun b o n e=>q5 b o n (hk b o e)⟩
end
section
variable {X:Cx} {z z' z0 z1:Z}
theorem pJ {C:Addr} {x:Str} {Q:Value→Shared→Prop} {E:Value→Shared→Prop} (I:Rep X z) (kp:PySem.W.keepIn X.K (.ref C)=true) (hg:Gl X x) (hm:X.mg x=some (.ref C)) (hd:(x == ("__debug__":Str))=false) (he:starEach (ea :: er) X.env=(false,eval ea X.env) :: starEach er X.env) (hpl:(backTo pos (starEach er X.env)).any (·.1)=false)
 (h:wpAny X.M X.A (spliced (backTo pos (starEach (ea :: er) X.env))) (fun us s'=>X.K.In s'.heap∧wpAny X.M X.A (call (.ref C) us) Q E s') E z.s):wpAny X.M X.A (eval (.Call (.Name x p) (ea :: er) [] pos) X.env) Q E z.s:=
 wpAny_Call_Name_kw (bt I hg hm (PySem.W.callWith_K (h₀:=X.base) I.md.kin kp h he hpl) hd)
theorem qY {x:Str} {j:Nat} {k:Cl} {i:CI} {fd:FuncData} {ps:List Str} {fI:Addr} {Bx nwI iniI:String} {bmB:List Value} {np cp pos:Pos} (Fb:ExcBaseFacts Bx nwI iniI bmB) (O:gE X.K i.ad fI bmB nwI) {ck:Option (List Nat)} (F:FnI X lv fI fd ps i.nm ck) (hk:ck=none∨(ck=some k.chk∧gE X.K i.ad fI veB "ValueError.__new__")) (hb:b6 X.K fd ps []) (hr:bg (lv+1) X.A) (Z:fB X.K i.ad) (na:∀ f∈i.nm,PySem.W.findIn X.K (.ref i.ad) f=some none) (hcl:X.Γ.cl[j]? = some k) (hci:X.W.ci[j]? = some i) (hwh:X.W.what[j]? = some 2) (hn:i.nm.length=k.at_.length) (h0:k.at_.isEmpty=false)
 (be:PySem.W.mroIn X.K i.ad (.type "BaseException")=some true) (ty:PySem.W.typeIn X.K (.ref i.ad)=some (.type "type")) (kp:PySem.W.keepIn X.K (.ref i.ad)=true) (hc:X.calm=true) (hg:Gl X x) (hm:X.mg x=some (.ref i.ad)) (ha:LA X (ea :: er) es) (hd:(x == ("__debug__":Str))=false) (he:starEach (ea :: er) X.env=(false,eval ea X.env) :: starEach er X.env) (hpl:(backTo cp (starEach er X.env)).any (·.1)=false):LS X (.Raise (some (.Call (.Name x np) (ea :: er) [] cp)) none pos) (.rais j es):=fun z I nb=>by
 rw [arm_exec_Raise]
 refine wpAny_bind (wpAny_standAt (o7 (K:=X.K) (C:=i.ad) be ty (I.hd hc) (wpAny_bind ?_)))
 refine pJ I kp hg hm hd he hpl ((ha false cp).gos (f:=fun l s=>if eY X.Γ j l then .exc j (oj X.Γ j l) s else .bad) .refl I rfl nb fun z1 l us y1 x1 I1 r1 e1=>⟨I1.toHR.kin,?_⟩)
 have rs:=r1.rds
 by_cases c:eY X.Γ j l=true
 rotate_left
 ·rw [ZY c] at e1;exact ZX e1 nb
 rw [ZZ c] at e1
 have ea:oj X.Γ j l=l:=by unfold oj;rw [hcl];exact ZY (by rw [h0];exact Bool.false_ne_true)
 rw [ea] at e1
 unfold eY at c
 rw [hcl] at c
 dsimp only at c
 rw [ZY (by rw [h0];exact Bool.false_ne_true)] at c
 simp only [Bool.and_eq_true,decide_eq_true_eq] at c
 obtain ⟨⟨⟨c1,c2⟩,c3⟩,c4⟩:=c
 have c1:l.length=k.at_.length:=by simpa using c1
 have lu:us.length=i.nm.length:=by rw [← rs.len,c1,hn]
 have l0:l≠[]:=by intro w;rw [w] at c4;simp at c4
 refine pU (h:=z1.s.heap) (g:=z1.s.gens) (d:=z1.s.drawn) (t:=z1.s.toks) (os:=z1.s.os) Fb I1.toHR.kin O (by rw [← rs.len];exact big (by omega)) fun h' p m=>?_
 have kz:∀ b o,z1.h b=some o→h'.get? b=some o:=fun b o e=>m.keeps b o e
 have np:z1.h p=none:=m.new
 obtain ⟨tt,ht,_,_⟩:=m.there
 have g:Gr z1.s { z1.s with heap:=h' }:=⟨rfl,rfl,kz⟩
 have bd:=hb { z1.s with heap:=h' } (.ref p :: us) (I1.toHR.kin.keeps kz) (by rw [List.append_nil,List.length_cons,F.len,lu])
 rw [List.append_nil] at bd
 have H1:=(I1.toHR.grow (aF I1.gh g)).at (A:=X.A.under (.builtin "type.__call__" ⟨.ref i.ad :: us,[]⟩)) (gC i.ad us []) rfl
 have fp:=I1.fre np
 refine wpAny_call (codeAny_mono (F.run _ X.fr { z1 with s:={ z1.s with heap:=h' } } ⟨.ref p :: us,[]⟩ us p _ [p] (hr.make i.ad us []) H1 bd lu (mR Z na) (fun c e=>?_) ⟨_,_,ht,rfl,rfl,rfl,.inl ⟨rfl,rfl,rfl⟩⟩ fun b hb=>?_) fun r s' hq=>?_)
 ·rcases hk with w | ⟨w,O'⟩
  ·rw [w] at e;cases e
  ·rw [w] at e;cases e
   refine ⟨sD O' (mR Z na),fun j hj=>?_⟩
   have sm:=List.all_eq_true.mp c2 j hj
   cases q:l[j]? with
   | none=>rw [q] at sm;cases sm
   | some d=>
     obtain ⟨u,hu,ru⟩:=rs.get q
     rw [q] at sm
     cases d with
     | int n=>
       obtain ⟨t,rfl⟩:=ru
       unfold rS at sm
       simp only [Bool.and_eq_true,decide_eq_true_eq] at sm
       obtain ⟨m,rfl⟩:=Int.eq_ofNat_of_zero_le sm.1
       exact ⟨m,t,hu,by omega⟩
     | _=>cases sm
 ·rw [List.mem_singleton.mp hb];exact ⟨fp.1.1,fp.1.2.1,fp.1.2.2.1⟩
 obtain ⟨rfl,ch',⟨o,vs,q1,q2,q3,q4,q5⟩,cc,os,kk⟩:=hq
 have gr:Gr z1.s s':=⟨os.1.trans g.os,os.2.trans g.gs,fun b o e=>kk b o (fun w=>by have e:z1.h b=some o:=e;rw [List.mem_singleton.mp w,np] at e;cases e) (kz b o e)⟩
 rcases q5 with ⟨w,_,_⟩ | ⟨d,od,q6,q7,q8,q9,q10⟩
 ·have:i.nm.zip us≠[]:=fun w=>by
   have hl:=rs.len
   have:0<l.length:=List.length_pos_iff.mpr l0
   have w0:(i.nm.zip us).length=0:=by rw [w];rfl
   rw [List.length_zip] at w0
   omega
  exact ZX w this
 have nd:z1.h d=none:=by
  rcases cc d (by rw [q8];simp) with w | w
  ·exact ZX (List.mem_singleton.mp w) q7
  ·cases q:z1.h d with
   | none=>rfl
   | some o=>have:=kz d o q;rw [show h'.get? d=none from w] at this;cases this
 have fd:=I1.fre nd
 have gw:Grw z1 (fun b=>if b=d then some od else z1.G b) s':=⟨gr,fun b o e=>by
  by_cases c:b=d
  ·subst c;rw [fd.1.1] at e;cases e
  ·rw [ZY c];exact e,fun b o e=>by
  by_cases c:b=d
  ·subst c;rw [ZZ rfl] at e;cases e;exact q9
  ·rw [ZY c] at e;exact gr.k b o (I1.gh b o e),fun b o e=>by
  by_cases c:b=d
  ·subst c;exact .inr nd
  ·rw [ZY c] at e;exact .inl e⟩
 have I3:=I1.grow gw
 have pG:(if p=d then some od else z1.G p)=none:=by rw [ZY (Ne.symm q7)];exact fp.1.1
 refine ⟨rfl,wpAny_bind (wpAny_standAt (wpAny_pure ⟨p,o,vs,rfl,I3.toHR.kin,q1,q2,q3,q4,{ z1 with G:=fun b=>if b=d then some od else z1.G b,s:=s' },j,l,rfl,e1,x1.trans gw.ee.go,I3,p,.ref i.ad,some d,rfl,⟨i,hci,hwh,rfl,by rw [c1,hn];exact Nat.le_refl _,.inr ⟨d,od,us,rfl,ZZ rfl,q10,rs.mono (List.prefix_refl _) gw.gg⟩⟩,⟨x1.st.no np,⟨pG,fp.1.2⟩,fp.2⟩,.inl ⟨o,vs,q1,⟨q2,q6⟩,q3,q4⟩⟩))⟩
def FnJ (X:Cx) (lv:Nat) (f:Addr) (fd:FuncData) (ps nm:List Str) (k:Cl) (C:Addr):Prop:=∃ ck,FnI X lv f fd ps nm ck∧(ck=none∨(ck=some k.chk∧gE X.K C f veB "ValueError.__new__"))
end
def yL (K:Fg) (C:Addr) (bmB:List Value) (newId:String):Prop:=∃ (nm q:Str) (N:Addr) (bs bm:List Value) (hdct:Bool) (sn:List Str) (sub:List Value) (ab:Bool) (col:Option Bool) (dd:Option Addr) (k0 k1 k2 k3 k5:Option Value),
 K.lookup C=some (excClassObj nm q C N bs bm hdct sn sub ab col dd k0 k1 k2 k3 k5 newId)∧PySem.W.nsOkIn K N=true∧PySem.W.nsIn K N "__init__" = some none∧PySem.W.tailIn K bmB bm=true
inductive TxP (X:Cx):List Expr→E→Prop
 | nil:TxP X [] .nil
 | c {x:Str} {j:Nat} {p:Pos} {r es}:x.length≤1000→TxP X r es→TxP X (.Constant (.str x) j p :: r) es
 | f {x:Str} {i:Nat} {p q:Pos} {r es}:X.N[i]? = some x→Vis X.env.scope x→((x == ("__debug__":Str)) || (x == ("__classdict__":Str)))=false→TxP X r es→TxP X (.FormattedValue (.Name x p) (-1) none q :: r) (.cons (.op .add (.v i) (.c (.int 0))) es)
 | r {x:Str} {i:Nat} {p q:Pos} {r es}:X.N[i]? = some x→Vis X.env.scope x→((x == ("__debug__":Str)) || (x == ("__classdict__":Str)))=false→TxP X r es→TxP X (.FormattedValue (.Name x p) 114 none q :: r) (.cons (.op .add (.v i) (.c (.str ""))) es)
section
variable {X:Cx} {z:Z}
inductive TxA (X:Cx):Expr→E→Prop
 | c {x:Str} {j:Nat} {p:Pos}:x.length≤1000→TxA X (.Constant (.str x) j p) .nil
 | j {e1 e2:Expr} {r:List Expr} {p:Pos} {es:E}:TxP X (e1 :: e2 :: r) es→r.length≤8→TxA X (.JoinedStr (e1 :: e2 :: r) p) es
end
end L2.Ev
namespace L2.Ev
theorem p9 {prog:Program} {w:World} {A:Around} {E:Value→Shared→Prop} {s:Shared} {Q:Option Value→Shared→Prop} {δ:Type} {R:δ→Value→Prop} {a:Addr} {D:List (Str×δ)} {z:Str} {tz:Tok} {d:δ}
 (T:KTD.TabOf R s.heap a D) (hat:KTD.datumAt z D=some d) (h:∀ v,R d v→Q (some v) { s with toks:=s.toks+1 }):wpAny (model prog w) A (dictGet a (.str z tz)) Q E s:=by
 obtain ⟨_,o,es,ep,ho,_,hd,hr⟩:=T
 obtain ⟨v,hv,hfl⟩:=hr.find_some hat
 have all:(es.all fun e=>isExactStrKey e.key)=true:=by
  obtain ⟨l⟩:=es
  simpa using hr.exact
 have hq:Q (findBy (fun k v=>v.isStr k) es z) { s with toks:=s.toks+1 }:=by
  rw [show findBy (fun k v=>v.isStr k) es z=some v by obtain ⟨l⟩:=es;simpa [findBy] using hv]
  exact h v hfl
 rw [findBy_of_findIdx?] at hq
 unfold dictGet
 refine wpAny_holding ?_
 refine wpAny_bind (wpAny_pyHash_str (wpAny_bind (KTD.kt_dictFind_strs (s:={ s with toks:=s.toks+1 }) ho hd all ?_)))
 cases hi:es.findIdx? fun e=>e.key.isStr z with
 | none=>
   rw [hi] at hq
   exact wpAny_pure hq
 | some i=>
   rw [hi] at hq
   exact wpAny_bind (wpAny_dictEntries (s:={ s with toks:=s.toks+1 }) ho hd (wpAny_pure hq))
theorem sV {prog:Program} {w:World} {A:Around} {E:Value→Shared→Prop} {s:Shared} {Q:Option Value→Shared→Prop} {δ:Type} {R:δ→Value→Prop} {a:Addr} {D:List (Str×δ)} {z:Str} {tz:Tok}
 (T:KTD.TabOf R s.heap a D) (hat:KTD.datumAt z D=none) (h:Q none { s with toks:=s.toks+1 }):wpAny (model prog w) A (dictGet a (.str z tz)) Q E s:=by
 obtain ⟨_,o,es,ep,ho,_,hd,hr⟩:=T
 have hv:=hr.find_none hat
 have all:(es.all fun e=>isExactStrKey e.key)=true:=by
  obtain ⟨l⟩:=es
  simpa using hr.exact
 have hq:Q (findBy (fun k v=>v.isStr k) es z) { s with toks:=s.toks+1 }:=by
  rw [show findBy (fun k v=>v.isStr k) es z=none by obtain ⟨l⟩:=es;simpa [findBy] using hv]
  exact h
 rw [findBy_of_findIdx?] at hq
 unfold dictGet
 refine wpAny_holding (wpAny_bind (wpAny_pyHash_str (wpAny_bind (KTD.kt_dictFind_strs (s:={ s with toks:=s.toks+1 }) ho hd all ?_))))
 cases hi:es.findIdx? fun e=>e.key.isStr z with
 | none=>
   rw [hi] at hq
   exact wpAny_pure hq
 | some i=>
   rw [hi] at hq
   exact wpAny_bind (wpAny_dictEntries (s:={ s with toks:=s.toks+1 }) ho hd (wpAny_pure hq))
section
variable {X:Cx} {z z1:Z} {a:Addr} {t:List (Str×L2.Bk.Dk)} {j:Nat} {x:Str}
abbrev TbL (X:Cx) (a:Addr) (t:List (Str×L2.Bk.Dk)):Prop:=KTD.tabLook (aY X.K) (fun b=>X.K.lookup b) a t=true
theorem rV (I:HR X z) (hK:TbL X a t):KTD.TabOf (fun d v=>aY X.K d v=true) z.s.heap a t:=KTD.tab_of_look (fun _ _ h=>h) (fun b o e=>I.kin b o e) hK
theorem xg (hg:Gl X x) (hm:X.mg x=some (.ref a)) (ht:X.Γ.tb[j]? = some t) (hK:TbL X a t) (hb:LE X eb b) (hs:iG eb) (hd:(x == ("__debug__":Str))=false) (hl:∀ r,letTemporaryGo (.Name x p) (.ref a) r=pure ()):LE X (.Subscript (.Name x p) eb pos) (.tab j b):=fun br z I nb=>
 Subscript_ (bt I hg hm ((hb true).go .refl I rfl nb fun z1 d u y1 x1 I1 r1 e1=>by
  rw [ht] at e1
  cases d with
  | str k=>
    obtain ⟨tz,rfl⟩:=(r1.rb.cr0 I1:RD X.W z1.ρ z1.G (.str k) u)
    have T:=rV I1.toHR hK
    have ty:z1.s.TypeIs (.ref a) "dict":=by obtain ⟨_,o,_,_,ho,hc,_⟩:=T;exact ⟨o,ho,hc.1⟩
    refine cW x1 I1 e1 nb fun d q=>?_
    obtain ⟨d0,hat,rfl⟩:=Option.map_eq_some_iff.mp q
    refine subscriptTail_builtin ty slot_dict_getitem.lookup ?_ (hs _ _) hl
    unfold getItem
    refine wpAny_holding (wpAny_bind (wpAny_sequenceKey ty (by decide) (wpAny_bind (wpAny_callSpecial?_slot (name:=Str.ofString "__getitem__") ty slot_dict_getitem (wpAny_call_entry slot_dict_getitem ty entry_dict_getitem ?_ (args_dict_getitem _ _))))))
    show wpAny _ _ (dictGet a (.str k tz) >>= _) _ _ z1.s
    exact wpAny_bind (p9 T hat fun v hv=>wpAny_pure ⟨v,rfl,wpAny_pure (.old I1 .tok (I1.toHR.top hv))⟩)
  | _=>exact ZX e1 nb) hd)
theorem kG {k:Str} {tz:Tok} {Q:Value→Shared→Prop} {E:Value→Shared→Prop} (I:HR X z) (hK:TbL X a t) (q:∀ n,Q (.bool (KTD.datumAt k t).isSome) { z.s with toks:=n }):wpAny X.M X.A (compareOp .In (.str k tz) (.ref a)) Q E z.s:=by
 have T:=rV I hK
 have ty:z.s.TypeIs (.ref a) "dict":=by obtain ⟨_,o,_,_,ho,hc,_⟩:=T;exact ⟨o,ho,hc.1⟩
 have nsm:=T.1
 show wpAny _ _ (do return Value.bool (← contains (.ref a) (.str k tz))) _ _ z.s
 refine wpAny_bind ?_
 unfold contains
 refine wpAny_holding ?_
 refine wpAny_bind (wpAny_specialOf ty slot_dict_contains.lookup ?_)
 show wpAny _ _ (if (some (Value.builtin "dict.__contains__") == some Value.none)=true then _ else _) _ _ z.s
 rw [ZY (by rw [beq_builtin_none];exact Bool.false_ne_true)]
 refine wpAny_bind (wpAny_callSpecialUnlessNone?_slot (name:=Str.ofString "__contains__") ty slot_dict_contains (wpAny_call_entry slot_dict_contains ty entry_dict_contains ?_ (args_dict_contains _ _)))
 show wpAny _ _ (dictGet a (.str k tz) >>= _) _ _ z.s
 cases hat:KTD.datumAt k t with
 | some d=>
   rw [hat] at q
   refine wpAny_bind (p9 T hat fun v _=>?_)
   show wpAny _ _ (ret (.bool true)) _ _ _
   exact wpAny_pure ⟨_,rfl,wpAny_truthy_bool (wpAny_pure (q _))⟩
 | none=>
   rw [hat] at q
   refine wpAny_bind (sV T hat ?_)
   show wpAny _ _ (Builtin.Dict.pendingKey? a (.str k tz) >>= _) _ _ _
   exact wpAny_bind (wpAny_pendingKey_other nsm (wpAny_pure ⟨_,rfl,wpAny_truthy_bool (wpAny_pure (q _))⟩))
theorem qN (hg:Gl X x) (hm:X.mg x=some (.ref a)) (ht:X.Γ.tb[j]? = some t) (hK:TbL X a t) (hb:LE X eb b) (hd:(x == ("__debug__":Str))=false) (h1:behindInMarks .In (.Name x p)=false):LE X (.Compare eb [.In] [.Name x p] pos) (.tabin j b):=fun br z I nb=>
 wpAny_Compare1 ((hb true).go .refl I rfl nb fun z1 d u y1 x1 I1 r1 e1=>by
  rw [ht] at e1
  cases d with
  | str k=>
    obtain ⟨tz,rfl⟩:=(r1.rb.cr0 I1:RD X.W z1.ρ z1.G (.str k) u)
    exact bt I1 hg hm (kG I1.toHR hK fun n=>Dn.at x1 I1 e1 (.tok fun _ _ _=>rfl)) hd
  | _=>exact ZX e1 nb) h1
theorem ra (hg:Gl X x) (hm:X.mg x=some (.ref a)) (ht:X.Γ.tb[j]? = some t) (hK:TbL X a t) (hb:LE X eb b) (hd:(x == ("__debug__":Str))=false) (h1:behindInMarks .In (.Name x p)=false):LT X (.Compare eb [.In] [.Name x p] pos) (.tabin j b):=fun z I nb=>
 wpAny_isTrue_Compare1 ((hb true).go .refl I (aw ..) nb fun z1 d u y1 x1 I1 r1 e1=>by
  rw [ht] at e1
  cases d with
  | str k=>
    obtain ⟨tz,rfl⟩:=(r1.rb.cr0 I1:RD X.W z1.ρ z1.G (.str k) u)
    exact bt I1 hg hm (kG I1.toHR hK fun n=>(Dn.tok (X:=X) (z:=z1) (d:=.bl (KTD.datumAt k t).isSome) (n:=n) fun _ _ _=>rfl).tru x1 I1 e1 nb) hd
  | _=>exact ZX e1 nb) h1
end
section
variable {X:Cx} {z z1:Z}
structure M2 (X:Cx) (o:Expr) (m:Str) (apos:Pos) (e f:Expr) (cpos:Pos):Prop where
 base:attributeBase o m X.env (eval o X.env)=eval o X.env
 few:((backTo cpos (starEach [e,f] X.env)).all (fun x=>!x.1) && (backToKw cpos (keywordEach [] X.env)).all (fun x=>x.1.isSome) && decide (([e,f]:List Expr).length+([]:List Keyword).length+(if ([]:List Keyword).isEmpty then 0 else 1)<30))=true
 line:(apos.endLine == cpos.line)=true
 trees:backTo cpos (starEach [e,f] X.env) = [(false,eval e X.env),(false,eval f X.env)]
theorem l9 {o:Option D} {ov:Option Value} (h:match o with | some d=>∃ v,ov=some v∧RD W ρ G d v | none=>ov=none) (r:RD W ρ G d0 u0):RD W ρ G (o.getD d0) (ov.getD u0):=by
 cases o with
 | none=>rw [h];exact r
 | some d=>obtain ⟨v,rfl,r⟩:=h;exact r
theorem pM {ks:List Key} {ds:List D} (h:CR X.W z (.dic ks ds) u):∃ a,u = .ref a∧z.s.TypeIs u "dict"∧∀ b,u = .ref b→∃ ob,z.s.heap.get? b=some ob∧ob.dict=none:=by
 obtain ⟨a,o,vs,rfl,_,e,⟨_,_,x,_⟩,_⟩:=h
 exact ⟨a,rfl,⟨o,e,x.1⟩,fun b q=>by cases q;exact ⟨o,e,x.2.1⟩⟩
theorem jT (h:isDic d=true):∃ ks ds,d = .dic ks ds:=by cases d <;> first | exact ⟨_,_,rfl⟩ | cases h
theorem tK (ha:LE X eo a) (hb:LE X eb b) (hc:LE X ec c) (m:M2 X eo "get" apos eb ec cpos):LE X (.Call (.Attribute eo "get" apos) [eb,ec] [] cpos) (.get a b c):=fun br z I nb=>
 wpAny_Call_method m.base m.few m.line PySem.F.plainAttrs_dict PySem.F.slot_dict_get PySem.F.type_dict_get ((ha true).go .refl I rfl nb fun z1 x u y1 x1 I1 r1 e1=>by
  by_cases hd:isDic (look z1.t.st x)=true
  ·rw [ZZ hd] at e1
   obtain ⟨ks,ds,ed⟩:=jT hd
   have cr:=r1.rb.cr I1
   rw [ed] at cr
   obtain ⟨ad,rfl,t1,t2⟩:=pM cr
   refine ⟨t1,t2,?_⟩
   rw [m.trees]
   refine Calls.callWith_builtin rfl (Calls.evalArgs_plain (Calls.spliced_cons ((hb true).go x1 I1 e1 nb fun z2 y iv y2 x2 I2 r2 e2=>Calls.spliced_cons ((hc false).go x2 I2 e2 nb fun z3 w fv y3 x3 I3 r3 e3=>Calls.spliced_nil ?_))))
   have cr3:=((r1.rb.st y2 I2).st y3 I3).cr I3
   cases q:look z3.t.st x with
   | dic ks ds=>
     cases q2:bo y with
     | none=>rw [q,q2] at e3;exact ZX e3 nb
     | some k=>
       rw [q] at cr3
       rw [q,q2] at e3
       obtain ⟨ad',o,vs,e',hs,ho,dc,hl,r⟩:=cr3
       cases e'
       have dd:=dc.of ho
       exact call_meetsIn PySem.F.slot_dict_get dd.typeIs PySem.F.entry_dict_get (PySem.F.args_dict_get_3 _ _ _) (meets_dict_get_default (ba X.W.P X.W.w) ad (eF q2 ((r2.rb.st y3 I3).cr0 I3)) hs fv) ⟨_,dd.mapOf,Dn.at x3 I3 e3 (.old I3 .tok (l9 (cG hl r) r3.rd))⟩
   | _=>rw [q] at e3;exact ZX e3 nb
  ·rw [ZY hd] at e1;exact ZX e1 nb)
theorem tJ (ha:LE X eo a) (hb:LE X eb b) (m:M1 X eo "get" apos eb cpos):LE X (.Call (.Attribute eo "get" apos) [eb] [] cpos) (.get a b (.c .non)):=fun br z I nb=>
 wpAny_Call_method m.base m.few m.line PySem.F.plainAttrs_dict PySem.F.slot_dict_get PySem.F.type_dict_get ((ha true).go .refl I rfl nb fun z1 x u y1 x1 I1 r1 e1=>by
  by_cases hd:isDic (look z1.t.st x)=true
  ·rw [ZZ hd] at e1
   obtain ⟨ks,ds,ed⟩:=jT hd
   have cr:=r1.rb.cr I1
   rw [ed] at cr
   obtain ⟨ad,rfl,t1,t2⟩:=pM cr
   refine ⟨t1,t2,?_⟩
   rw [m.trees]
   refine Calls.callWith_builtin rfl (Calls.evalArgs_plain (Calls.spliced_cons ((hb true).go x1 I1 e1 nb fun z3 y iv y3 x3 I3 r2 e3=>Calls.spliced_nil ?_)))
   have e3:X.ev br (.get a b (.c .non)) z.t=(match look z3.t.st x,bo y with
    | .dic ks ds,some k=>.ok ((bV ks ds k).getD .non) z3.t
    | _,_=>.bad):=e3
   have cr3:=(r1.rb.st y3 I3).cr I3
   cases q:look z3.t.st x with
   | dic ks ds=>
     cases q2:bo y with
     | none=>rw [q,q2] at e3;exact ZX e3 nb
     | some k=>
       rw [q] at cr3
       rw [q,q2] at e3
       obtain ⟨ad',o,vs,e',hs,ho,dc,hl,r⟩:=cr3
       cases e'
       have dd:=dc.of ho
       exact call_meetsIn PySem.F.slot_dict_get dd.typeIs PySem.F.entry_dict_get (PySem.F.args_dict_get_2 _ _) (meets_dict_get (ba X.W.P X.W.w) ad (eF q2 (r2.rb.cr0 I3)) hs) ⟨_,dd.mapOf,Dn.at x3 I3 e3 (.old I3 .tok (l9 (cG hl r) rfl))⟩
   | _=>rw [q] at e3;exact ZX e3 nb
  ·rw [ZY hd] at e1;exact ZX e1 nb)
theorem kE:∀ {l ss vs},eN l=some ss→RDs W ρ G l vs→StrsAre vs ss
 | [],ss,vs,e,r=>by cases e;cases (show vs = [] from r);exact .nil
 | d :: l,ss,vs,e,r=>by
   cases d with
   | str b=>
     obtain ⟨cs,q,rfl⟩:=Option.map_eq_some_iff.mp (show (eN l).map (b :: ·)=some ss from e)
     obtain ⟨v,r',rfl,⟨t,rfl⟩,tl⟩:=r
     exact .cons b t (kE q tl)
   | _=>cases e
end
structure Zd where
 it:Addr
 fp:List Addr
 n:Nat
 P:Nat→Value→Prop
 St:Nat→Heap→Prop
abbrev IsT (h:Heap) (T:Addr) (l:List Value):Prop:=h.get? T=some { cls:=.type "tuple",data:=.seq l.toArray }
structure ZOk (prog:Program) (w:World) (A:Around) (n:Nat) (l:List Zd) (z TI TO:Addr):Prop where
 dr:∀ d∈l,Draws prog w A d.it d.fp d.n d.P d.St∧n≤d.n∧d.it∈d.fp∧z ∉ d.fp∧TO ∉ d.fp∧TI≠d.it
 ap:∀ (i j:Nat) (d e:Zd),l[i]? = some d→l[j]? = some e→i≠j→d.it ∉ e.fp
 hd:∃ d r,l=d :: r∧d.n=n
 zT:z≠TI∧z≠TO∧TI≠TO
 sz:l.length≤sizeLine
section
variable {prog:Program} {w:World} {A:Around} {E:Value→Shared→Prop} {s:Shared} {n i:Nat} {l:List Zd} {z TI TO:Addr} {old:List Value}
theorem uT {Q:Value→Shared→Prop} (D:ZOk prog w A n l z TI TO) (hz:IsZip s.heap z TI TO .none) (hTI:IsT s.heap TI (l.map fun d=>.ref d.it)) (hTO:IsT s.heap TO old) (hl:old.length=l.length) (hi:i<n) (st:∀ d∈l,d.St i s.heap)
 (hQ:∀ h' tk vals,IsZip h' z TI TO (rawInt s.heap.objs.size)→IsT h' TO vals→vals.length=l.length→(∀ d∈l,d.St (i+1) h')→(∀ (j:Nat) (d:Zd) v,l[j]? = some d→vals[j]? = some v→d.P i v)→IsT h' s.heap.objs.size vals→h'.objs.size=s.heap.objs.size+1 →
  (∀ b o,b≠z→b≠TO→(∀ d∈l,b≠d.it)→s.heap.get? b=some o→h'.get? b=some o)→Q (.ref s.heap.objs.size) { s with heap:=h',toks:=tk }) :
 wpAny (model prog w) A (Builtin.«zip.__next__» ⟨[.ref z],[]⟩) (fun fin s'=>∃ v,fin = .done (.ret v)∧Q v s') E s:=by
 have ne:((l.map fun d=>Value.ref d.it).toArray.isEmpty)=false:=by obtain ⟨d,r,rfl,_⟩:=D.hd;simp
 show wpAny _ _ (field (.ref z) 2 >>= _) _ _ _;refine wpAny_bind (wpAny_field hz rfl (x:=.bool false) rfl ?_)
 show wpAny _ _ (field (.ref z) 3 >>= _) _ _ _;refine wpAny_bind (wpAny_field hz rfl (x:=.ref TI) rfl ?_)
 refine wpAny_bind (wpAny_seqItems hTI rfl ?_)
 simp only [ne]
 show wpAny _ _ (Builtin.SmallTypes.ownedTupleIsFree (.ref z) >>= _) _ _ _
 refine wpAny_bind ?_;unfold Builtin.SmallTypes.ownedTupleIsFree;refine wpAny_bind (wpAny_field hz rfl (x:=.none) rfl (wpAny_pure ?_));simp only [if_true]
 refine wpAny_bind (wpAny_rule ?_);refine wpAny_bind (wpAny_field hz rfl (x:=.ref TO) rfl ?_);refine wpAny_bind (wpAny_setField_rec hz (by simp) fun h₁ hz₁ hs₁=>?_)
 replace hz₁:IsZip h₁ z TI TO .ellipsis:=hz₁
 refine wpAny_bind ?_
 refine wpAny_forIn_list _ (fun rem r s'=>r=⟨none,()⟩∧∃ h tk vals,s'={ s with heap:=h,toks:=tk }∧rem=((l.drop vals.length).map fun d=>Value.ref d.it).zipIdx vals.length∧vals.length≤l.length∧IsZip h z TI TO .ellipsis∧IsT h TO (vals ++ old.drop vals.length)∧(∀ (j:Nat) (d:Zd),l[j]? = some d→d.St (if j<vals.length then i+1 else i) h)∧(∀ (j:Nat) (d:Zd) v,l[j]? = some d→vals[j]? = some v→d.P i v)∧h.objs.size=s.heap.objs.size∧(∀ b o,b≠z→b≠TO→(∀ d∈l,b≠d.it)→s.heap.get? b=some o→h.get? b=some o)) _ (fun x rem r s' hI=>?_) (fun r s' hI=>?_) _ _ ⟨rfl,h₁,s.toks,[],rfl,?_,Nat.zero_le _,hz₁,?_,fun j d e=>?_,fun j d v _ e=>by simp at e,hs₁.1,fun b o h _ _ e=>hs₁.extBut _ _ h e⟩
 ·obtain ⟨rfl,h,tk,vals,rfl,er,hv,gz,gT,gS,gP,gs,gk⟩:=hI
  cases q:l.drop vals.length with
  | nil=>rw [q] at er;cases er
  | cons d r=>
    rw [q,List.map_cons,List.zipIdx_cons] at er
    cases er
    have hd:l[vals.length]? = some d:=by have:=List.getElem?_drop (xs:=l) (i:=vals.length) (j:=0);rw [q] at this;simpa using this.symm
    have hlt:=(List.getElem?_eq_some_iff.mp hd).1
    obtain ⟨dw,dn,di,dz,dT,dI⟩:=D.dr d (List.mem_of_getElem? hd)
    refine wpAny_bind (wpAny_onRaise ?_);show wpAny _ _ (Builtin.SmallTypes.nextOf (.ref d.it) >>= _) _ _ _
    have g0:=gS _ d hd
    rw [ZY (Nat.lt_irrefl _)] at g0
    refine wpAny_bind (dw.item i _ _ _ (Nat.lt_of_lt_of_le hi dn) g0 fun x h2 tk2 hP hst hs2=>wpAny_pure ?_)
    replace hs2:Heap.SameBut d.it h h2:=hs2
    have zi:z≠d.it:=fun e=>dz (e ▸ di)
    have Ti:TO≠d.it:=fun e=>dT (e ▸ di)
    have gT2:IsT h2 TO (vals ++ old.drop vals.length):=hs2.extBut _ _ Ti gT
    refine wpAny_bind (wpAny_seqItems gT2 rfl ?_);have hsz:(vals ++ old.drop vals.length).length≤sizeLine:=by have:=D.sz;rw [List.length_append,List.length_drop];omega
    refine wpAny_bind (wpAny_updateSeq gT2 rfl ?_ (by simpa using hsz) (by simpa using Nat.le_succ_of_le hsz))
    refine wpAny_bind (wpAny_letGo (wpAny_pure ⟨rfl,h2.update TO _,tk2,vals ++ [x],rfl,?_,?_,?_,?_,fun j e he=>?_,fun j e v he hv'=>?_,?_,fun b o b1 b2 b3 e=>?_⟩))
    ·rw [List.length_append,List.length_singleton,← List.drop_drop,q];rfl
    ·rw [List.length_append,List.length_singleton];exact hlt
    ·exact (Heap.SameBut.update ..).extBut _ _ D.zT.2.1 (hs2.extBut _ _ zi gz)
    ·show (h2.update TO _).get? TO=_
     rw [Heap.get?_update_self _ gT2 rfl]
     have ho:vals.length<old.length:=by omega
     have e4:(vals ++ old.drop vals.length).set vals.length x=vals ++ [x] ++ old.drop (vals ++ [x]).length:=by
      rw [List.set_append_right _ _ (Nat.le_refl _),Nat.sub_self,List.length_append,List.length_singleton,List.drop_eq_getElem_cons ho,List.set_cons_zero,List.append_assoc];rfl
     rw [← e4]
     simp [Obj.mapSeq]
    ·obtain ⟨ew,en,ei,ez,eT,eI⟩:=D.dr e (List.mem_of_getElem? he)
     have fr:∀ {f:Obj→Obj},∀ b∈e.fp,∀ o,h2.get? b=some o→(h2.update TO f).get? b=some o:=fun b hb o q=>(Heap.SameBut.update ..).extBut _ _ (fun w=>eT (w ▸ hb)) q
     rw [List.length_append,List.length_singleton]
     by_cases c:j=vals.length
     ·subst c
      rw [hd] at he;cases he
      rw [ZZ (Nat.lt_succ_self _)]
      exact dw.frame _ _ _ hst fr
     ·have g1:=gS j e he
      have hne:=D.ap _ _ _ _ hd he (Ne.symm c)
      have:(if j<vals.length+1 then i+1 else i)=(if j<vals.length then i+1 else i):=by
       by_cases c2:j<vals.length
       ·rw [ZZ c2,ZZ (by omega)]
       ·rw [ZY c2,ZY (by omega)]
      rw [this]
      exact ew.frame _ _ _ (ew.frame _ _ _ g1 fun b hb o q=>hs2.extBut _ _ (fun w=>hne (w ▸ hb)) q) fr
    ·by_cases c:j<vals.length
     ·rw [List.getElem?_append_left c] at hv'
      exact gP j e v he hv'
     ·rw [List.getElem?_append_right (by omega)] at hv'
      have:j - vals.length=0:=by
       have:=(List.getElem?_eq_some_iff.mp hv').1
       simp at this;omega
      rw [this] at hv'
      cases hv'
      have:j=vals.length:=by omega
      subst this
      rw [hd] at he;cases he;exact hP
    ·exact (Heap.SameBut.update h2 TO _).1.trans (hs2.1.trans gs)
    ·exact (Heap.SameBut.update ..).extBut _ _ b2 (hs2.extBut _ _ (b3 d (List.mem_of_getElem? hd)) (gk b o b1 b2 b3 e))
 ·obtain ⟨rfl,h,tk,vals,rfl,er,hv,gz,gT,gS,gP,gs,gk⟩:=hI
  have el:vals.length=l.length:=by
   have:=ZS List.length er
   simp at this;omega
  rw [el,← hl,List.drop_length,List.append_nil] at gT
  show wpAny _ _ (seqItems? (.ref TO) >>= _) _ _ _
  refine wpAny_bind (wpAny_seqItems gT rfl ?_);refine wpAny_bind (wpAny_newTuple ?_ (by have:=D.sz;simpa using (show vals.length≤sizeLine by omega)))
  have hzlt:z<h.objs.size:=Heap.lt_size gz
  show wpAny _ _ (Builtin.SmallTypes.ownedTupleHandOut (.ref z) (.ref h.objs.size) >>= _) _ _ _
  refine wpAny_bind ?_;unfold Builtin.SmallTypes.ownedTupleHandOut
  have hz₈:IsZip (h.push { cls:=.type "tuple",data:=.seq vals.toArray }) z TI TO .ellipsis:=Heap.get?_push_of_some _ gz
  refine wpAny_bind (wpAny_setField_rec hz₈ (by simp) fun h₉ hz₉ hs₉=>?_)
  replace hz₉:IsZip h₉ z TI TO (rawInt h.objs.size):=hz₉
  refine wpAny_setField_rec hz₉ (by simp) fun hA hzA hsA=>?_
  replace hzA:IsZip hA z TI TO (rawInt h.objs.size):=hzA
  have up:∀ d o,d≠z→h.get? d=some o→hA.get? d=some o:=fun d o c1 e=>hsA.extBut _ _ c1 (hs₉.extBut _ _ c1 (Heap.get?_push_of_some _ e))
  have hTA:IsT hA h.objs.size vals:=hsA.extBut _ _ (Nat.ne_of_gt hzlt) (hs₉.extBut _ _ (Nat.ne_of_gt hzlt) (Heap.get?_push_size _ rfl))
  have hzA8:hA.objs.size=h.objs.size+1:=by rw [hsA.1,hs₉.1,Heap.size_push]
  refine wpAny_pure ⟨_,rfl,?_⟩
  show Q (.ref h.objs.size) _
  rw [gs] at hzA hTA hzA8 ⊢
  refine hQ hA tk vals hzA (up _ _ (Ne.symm D.zT.2.1) gT) el (fun d hd=>?_) gP hTA hzA8 fun b o b1 b2 b3 e=>up b o b1 (gk b o b1 b2 b3 e)
  obtain ⟨j,hj⟩:=List.mem_iff_getElem?.mp hd
  have g1:=gS j d hj
  rw [ZZ (by rw [el];exact (List.getElem?_eq_some_iff.mp hj).1)] at g1
  obtain ⟨dw,_,_,dz,_⟩:=D.dr d hd
  exact dw.frame _ _ _ g1 fun b hb o q=>up b o (fun w=>dz (w ▸ hb)) q
 ·simp
 ·rw [List.nil_append,List.length_nil,List.drop_zero];exact hs₁.extBut _ _ (Ne.symm D.zT.2.1) hTO
 ·obtain ⟨dw,_,_,dz,_⟩:=D.dr d (List.mem_of_getElem? e)
  rw [List.length_nil,ZY (Nat.not_lt_zero _)]
  exact dw.frame _ _ _ (st d (List.mem_of_getElem? e)) fun b hb o q=>hs₁.extBut _ _ (fun w=>dz (w ▸ hb)) q
theorem yF {Q:Fin→Shared→Prop} (D:ZOk prog w A n l z TI TO) (hz:IsZip s.heap z TI TO .none) (hTI:IsT s.heap TI (l.map fun d=>.ref d.it)) (st:∀ d∈l,d.St n s.heap)
 (hE:∀ h' e,(∀ b o,b≠z→(∀ d∈l,b≠d.it)→s.heap.get? b=some o→h'.get? b=some o)→(∃ o,h'.get? e=some o∧o.cls = .type "StopIteration")→E (.ref e) { s with heap:=h' }) :
 wpAny (model prog w) A (Builtin.«zip.__next__» ⟨[.ref z],[]⟩) Q E s:=by
 obtain ⟨d,r,rfl,hn⟩:=D.hd
 obtain ⟨dw,dn,di,dz,dT,dI⟩:=D.dr d List.mem_cons_self
 show wpAny _ _ (field (.ref z) 2 >>= _) _ _ _;refine wpAny_bind (wpAny_field hz rfl (x:=.bool false) rfl ?_)
 show wpAny _ _ (field (.ref z) 3 >>= _) _ _ _;refine wpAny_bind (wpAny_field hz rfl (x:=.ref TI) rfl ?_)
 refine wpAny_bind (wpAny_seqItems hTI rfl ?_)
 simp only [show (((d :: r).map fun d=>Value.ref d.it).toArray.isEmpty)=false by simp]
 show wpAny _ _ (Builtin.SmallTypes.ownedTupleIsFree (.ref z) >>= _) _ _ _
 refine wpAny_bind ?_;unfold Builtin.SmallTypes.ownedTupleIsFree;refine wpAny_bind (wpAny_field hz rfl (x:=.none) rfl (wpAny_pure ?_));simp only [if_true]
 refine wpAny_bind (wpAny_rule ?_);refine wpAny_bind (wpAny_field hz rfl (x:=.ref TO) rfl ?_);refine wpAny_bind (wpAny_setField_rec hz (by simp) fun h₁ hz₁ hs₁=>?_)
 replace hz₁:IsZip h₁ z TI TO .ellipsis:=hz₁
 refine wpAny_bind ?_;simp only [List.map_cons,List.zipIdx_cons,List.forIn_cons]
 refine wpAny_bind (wpAny_bind (wpAny_onRaise ?_));show wpAny _ _ (Builtin.SmallTypes.nextOf (.ref d.it) >>= _) _ _ _
 have s1:d.St d.n h₁:=by rw [hn];exact dw.frame _ _ _ (st d List.mem_cons_self) fun b hb o q=>hs₁.extBut _ _ (fun w=>dz (w ▸ hb)) q
 refine wpAny_bind (dw.done _ _ _ s1 fun h₂ e hs₂ he=>?_)
 obtain ⟨oe,hoe,hce⟩:=he
 have zi:z≠d.it:=fun e=>dz (e ▸ di)
 have hz₂:IsZip h₂ z TI TO .ellipsis:=hs₂ _ _ zi hz₁
 have hez:e≠z:=fun x=>by subst x;rw [hz₂] at hoe;cases hoe;simp at hce
 exact wpAny_setField_rec hz₂ (by simp) fun h₃ _ hs₃=>hE h₃ e (fun b o c1 c3 x=>hs₃.extBut _ _ c1 (hs₂ _ _ (c3 d List.mem_cons_self) (hs₁.extBut _ _ c1 x))) ⟨oe,hs₃.extBut _ _ hez hoe,hce⟩
theorem pd (D:ZOk prog w A.in1 n l z TI TO):WalksT prog w A z (z :: TI :: TO :: l.flatMap (·.fp)) (z :: TO :: l.map (·.it)) n
 (fun i vals=>∃ vs:List Value,vals=vs.toArray∧vs.length=l.length∧∀ (j:Nat) (d:Zd) v,l[j]? = some d→vs[j]? = some v→d.P i v)
 (fun i h=>IsZip h z TI TO .none∧IsT h TI (l.map fun d=>.ref d.it)∧(∃ vs,IsT h TO vs∧vs.length=l.length)∧∀ d∈l,d.St i h)
 (fun i T h=>(IsZip h z TI TO (rawInt T)∧IsT h TI (l.map fun d=>.ref d.it)∧(∃ vs,IsT h TO vs∧vs.length=l.length)∧(∀ d∈l,d.St (i+1) h)∧T≠z∧T≠TO∧∀ d∈l,T≠d.it)∧Exa h T) where
 sub:=fun b hb=>by
  rcases List.mem_cons.mp hb with rfl | hb
  ·exact List.mem_cons_self
  rcases List.mem_cons.mp hb with rfl | hb
  ·exact List.mem_cons_of_mem _ (List.mem_cons_of_mem _ List.mem_cons_self)
  obtain ⟨d,hd,rfl⟩:=List.mem_map.mp hb
  exact List.mem_cons_of_mem _ (List.mem_cons_of_mem _ (List.mem_cons_of_mem _ (List.mem_flatMap.mpr ⟨d,hd,(D.dr d hd).2.2.1⟩)))
 frame:=fun i h h' ⟨h1,h2,⟨vs,h3,h4⟩,h5⟩ hk=>⟨hk z (by simp) _ h1,hk TI (by simp) _ h2,⟨vs,hk TO (by simp) _ h3,h4⟩,fun d hd=>(D.dr d hd).1.frame _ _ _ (h5 d hd) fun b hb o e=>hk b (List.mem_cons_of_mem _ (List.mem_cons_of_mem _ (List.mem_cons_of_mem _ (List.mem_flatMap.mpr ⟨d,hd,hb⟩)))) o e⟩
 item:=fun i s Q E hi ⟨h1,h2,⟨vs,h3,h4⟩,h5⟩ hQ=>by
  have hT:s.TypeIs (.ref z) "zip":=⟨_,h1,rfl⟩
  unfold pyNext
  refine wpAny_bind (wpAny_attempt (wpAny_callSpecial?_slot (name:=Str.ofString "__next__") hT F.slot_zip_next (wpAny_call_entry F.slot_zip_next hT F.entry_zip_next (uT D h1 h2 h3 h4 hi h5 fun h' tk vals a1 a2 a3 a4 a5 a6 a7 a8=>wpAny_pure ?_) (F.args_zip_next_1 _))))
  have lt:∀ {c o},s.heap.get? c=some o→s.heap.objs.size≠c:=fun e=>Nat.ne_of_gt (Heap.lt_size e)
  refine hQ s.heap.objs.size vals.toArray h' tk ⟨vals,rfl,a3,a5⟩ (Nat.le_refl _) ⟨_,a6,rfl,_,rfl⟩ ⟨⟨a1,a8 _ _ (Ne.symm D.zT.1) D.zT.2.2 (fun d hd=>(D.dr d hd).2.2.2.2.2) h2,⟨vals,a2,a3⟩,a4,lt h1,lt h3,fun d hd=>?_⟩,fun o q=>(by rw [a6] at q;cases q;rfl)⟩ fun b o hb e=>a8 b o (fun w=>hb (w ▸ List.mem_cons_self)) (fun w=>hb (w ▸ List.mem_cons_of_mem _ List.mem_cons_self)) (fun d hd w=>hb (w ▸ List.mem_cons_of_mem _ (List.mem_cons_of_mem _ (List.mem_map.mpr ⟨d,hd,rfl⟩)))) e
  obtain ⟨o,e⟩:=(D.dr d hd).1.live i _ (h5 d hd)
  exact lt e
 go:=fun elts k pos i T s Q E ⟨⟨h1,h2,⟨vs,h3,h4⟩,h5,t1,t2,t3⟩,_⟩ hQ=>wpAny_letOwnedTupleGo_zip h1 fun h' hz' hs'=>hQ h' ⟨hz',hs'.extBut _ _ (Ne.symm D.zT.1) h2,⟨vs,hs'.extBut _ _ (Ne.symm D.zT.2.1) h3,h4⟩,fun d hd=>(D.dr d hd).1.frame _ _ _ (h5 d hd) fun b hb o e=>hs'.extBut _ _ (fun w=>(D.dr d hd).2.2.2.1 (w ▸ hb)) e⟩ fun b o hb e=>hs'.extBut _ _ (fun w=>hb (w ▸ List.mem_cons_self)) e
 apart:=fun i T h ⟨⟨_,_,_,_,t1,t2,t3⟩,_⟩ hT=>by
  rcases List.mem_cons.mp hT with w | hT
  ·exact t1 w
  rcases List.mem_cons.mp hT with w | hT
  ·exact t2 w
  obtain ⟨d,hd,w⟩:=List.mem_map.mp hT
  exact t3 d hd w.symm
 done:=fun s Q E ⟨h1,h2,_,h5⟩ hQ=>by
  have hT:s.TypeIs (.ref z) "zip":=⟨_,h1,rfl⟩
  unfold pyNext
  refine wpAny_bind (wpAny_attempt (wpAny_callSpecial?_slot (name:=Str.ofString "__next__") hT F.slot_zip_next (wpAny_call_entry F.slot_zip_next hT F.entry_zip_next (yF D h1 h2 h5 fun h' e hk he=>?_) (F.args_zip_next_1 _))))
  obtain ⟨o,ho,hc⟩:=he
  refine wpAny_bind (wpAny_isInstance (T:="StopIteration") (b:=true) ⟨o,ho,hc⟩ isSubtype_stop ?_)
  exact wpAny_pure (hQ h' s.toks fun b o hb e=>hk b o (fun w=>hb (w ▸ List.mem_cons_self)) (fun d hd w=>hb (w ▸ List.mem_cons_of_mem _ (List.mem_cons_of_mem _ (List.mem_map.mpr ⟨d,hd,rfl⟩)))) e)
 self:=fun i s Q E hst hQ=>wpAny_pyIter_zip hst.1 hQ
end
end L2.Ev
end
section
namespace PySem
namespace F
theorem z3_typeCall (a b c):checkTypeCall "zip" ⟨[a,b,c],[]⟩=pure ():=by kernel_rfl
theorem z3_newCall (a b c):checkBuiltinCall "zip.__new__" ⟨[.type "zip",a,b,c],[]⟩=pure ():=by kernel_rfl
theorem z3_args_init (a b c d):argsOk "object.__init__" ⟨[a,b,c,d],[]⟩:=by
 unfold argsOk;rw [signature?_of (id:="object.__init__") (n:=['_','_','t','i','n','i','_','_']) (o:=['t','c','e','j','b','o']) (by kernel_rfl) owner_object];kernel_rfl
end F
section
variable {prog:Program} {w:World} {A:Around} {E:Value→Shared→Prop} {s:Shared}
theorem fi (hit:s.heap.IsTupleIter it t i) (ht:s.heap.IsTuple t items) (hx:items[i]? = some x)
 (hQ:∀ h',h'.IsTupleIter it t (i+1)→Heap.SameBut it s.heap h'→Q x { s with heap:=h' }):wpAny (model prog w) A (Builtin.SmallTypes.nextOf (.ref it)) Q E s:=by
 obtain ⟨o,ho,hc,hd⟩:=id hit
 obtain ⟨ol,hol,_,nl,hdl⟩:=ht
 unfold Builtin.SmallTypes.nextOf
 refine wpAny_bind (wpAny_callSpecial?_slot (name:=Str.ofString "__next__") hit.typeIs F.slot_tuple_iterator_next (wpAny_call_entry F.slot_tuple_iterator_next hit.typeIs F.entry_tuple_iterator_next ?_ (F.args_tuple_iterator_next_1 _)))
 show wpAny _ _ (field (.ref it) 0 >>= _) _ _ s;refine wpAny_bind (wpAny_field ho hd (x:=.ref t) rfl ?_)
 show wpAny _ _ (if (Value.ref t == Value.none)=true then _ else _) _ _ s;rw [ZY (show ¬ ((Value.ref t == Value.none)=true) from Bool.false_ne_true)]
 show wpAny _ _ (field (.ref it) 1 >>= _) _ _ s;refine wpAny_bind (wpAny_field ho hd (x:=.int i 0) rfl ?_)
 show wpAny _ _ (seqItems? (.ref t) >>= _) _ _ s;refine wpAny_bind (wpAny_seqItems hol hdl ?_);simp only [Int.toNat_natCast,hx]
 refine wpAny_bind (wpAny_setField ho hd (by simp) (wpAny_pure ⟨x,rfl,wpAny_pure (hQ _ ?_ (Heap.SameBut.update ..))⟩))
 exact ⟨_,Heap.get?_update_self _ ho (Obj.isFreed_of_fields (Obj.data_mapFields hd _)),(Obj.cls_mapFields ..).trans hc,by rw [Obj.data_mapFields hd];simp [rawInt]⟩
theorem gB (hh:A.handled=none) (hit:s.heap.IsTupleIter it t i) (ht:s.heap.IsTuple t items) (hx:items[i]? = none)
 (hE:∀ h' e,Heap.ExtBut it s.heap h'→(∃ o,h'.get? e=some o∧o.cls = .type "StopIteration")→E (.ref e) { s with heap:=h' }):wpAny (model prog w) A (Builtin.SmallTypes.nextOf (.ref it)) Q E s:=by
 obtain ⟨o,ho,hc,hd⟩:=id hit
 obtain ⟨ol,hol,_,nl,hdl⟩:=ht
 unfold Builtin.SmallTypes.nextOf
 refine wpAny_bind (wpAny_callSpecial?_slot (name:=Str.ofString "__next__") hit.typeIs F.slot_tuple_iterator_next (wpAny_call_entry F.slot_tuple_iterator_next hit.typeIs F.entry_tuple_iterator_next ?_ (F.args_tuple_iterator_next_1 _)))
 show wpAny _ _ (field (.ref it) 0 >>= _) _ _ s;refine wpAny_bind (wpAny_field ho hd (x:=.ref t) rfl ?_)
 show wpAny _ _ (if (Value.ref t == Value.none)=true then _ else _) _ _ s;rw [ZY (show ¬ ((Value.ref t == Value.none)=true) from Bool.false_ne_true)]
 show wpAny _ _ (field (.ref it) 1 >>= _) _ _ s;refine wpAny_bind (wpAny_field ho hd (x:=.int i 0) rfl ?_)
 show wpAny _ _ (seqItems? (.ref t) >>= _) _ _ s;refine wpAny_bind (wpAny_seqItems hol hdl ?_);simp only [Int.toNat_natCast,hx]
 refine wpAny_bind (wpAny_rule (wpAny_bind (wpAny_setField ho hd (by simp) ?_)));show wpAny _ _ (newExc (.type "StopIteration") [] >>= _) _ _ _
 refine wpAny_bind ?_;simp only [newExc,newTuple];refine wpAny_bind (wpAny_newObj_type ?_ (by size_fits))
 refine wpAny_bind (m:=firstArgMember _ _) (wpAny_of_eq (a:=Value.none) (by first | rfl | (simp only [firstArgMember];rfl)) ?_);refine wpAny_newObj_type ?_ (by size_fits)
 simp only [raiseNew];refine wpAny_bind (wpAny_handled ?_);first | rw [show A.in1.handled=none from hh] | rw [hh]
 refine wpAny_bind (wpAny_pure (wpAny_throw ?_));exact hE _ _ (((Heap.SameBut.update ..).extBut.push _).push _) ⟨_,Heap.get?_push_size _ rfl,rfl⟩
end
end PySem
namespace L2.Ev
theorem eR {prog:Program} {w:World} {A:Around} (hh:A.handled=none) (it l:Addr) (hne:l≠it) (items:Array Value) :
 Draws prog w A it [it,l] items.size (fun i v=>items[i]? = some v) (fun i h=>h.IsTupleIter it l i∧h.IsTuple l items) where
 live:=fun _ _ st=>let ⟨o,ho,_⟩:=st.1;⟨o,ho⟩
 frame:=fun _ _ _ st hk=>⟨st.1.at fun o e=>hk it (by simp) o e,st.2.at fun o e=>hk l (by simp) o e⟩
 item:=fun i s Q E hi st hQ=>fi st.1 st.2 (x:=items[i]) (by simp [hi]) fun h' hit' hs'=>hQ _ h' s.toks (by simp [hi]) ⟨hit',st.2.extBut hs'.extBut hne⟩ hs'
 done:=fun s Q E st hE=>gB hh st.1 st.2 (by simp) hE
def bX (h:Heap) (k:Bool) (a:Addr) (xs:Array Value):Prop:=(k=true∧h.IsTuple a xs)∨(k=false∧h.IsList a xs)
def itN:Bool→String
 | true=>"tuple_iterator"
 | false=>"list_iterator"
abbrev itO (k:Bool) (a:Addr):Obj:={ cls:=.type (itN k),data:=.fields #[.ref a,.int 0 0] }
section
variable {prog:Program} {w:World} {A:Around} {E:Value→Shared→Prop} {s:Shared} {k k1 k2 k3:Bool} {a a1 a2 a3:Addr} {xs ys zs:Array Value}
theorem bX.push (h:bX h0 k a xs) (o:Obj):bX (h0.push o) k a xs:=h.imp (fun ⟨e,q⟩=>⟨e,Heap.IsTuple.push q o⟩) fun ⟨e,q⟩=>⟨e,Heap.IsList.push q o⟩
theorem dH {Q:Value→Shared→Prop} (h:bX s.heap k a xs) (q:Q (.ref s.heap.objs.size) { s with heap:=s.heap.push (itO k a) }):wpAny (model prog w) A (pyIter (.ref a)) Q E s:=by
 rcases h with ⟨rfl,h⟩ | ⟨rfl,h⟩
 ·exact wpAny_pyIter_tuple h q
 ·exact wpAny_pyIter_list h q
theorem so (k1 k2:Bool) (a1 a2:Addr) (xs ys:Array Value) :
 Meets (Builtin.«zip.__new__» ⟨[.type "zip",.ref a1,.ref a2],[]⟩) (fun _ R s=>bX s.heap k1 a1 xs∧bX s.heap k2 a2 ys ∧
  R (.ok (.ret (.ref (((((s.heap.push (itO k1 a1)).push (itO k2 a2)).push { cls:=.type "tuple",data:=.seq #[.ref s.heap.objs.size,.ref (s.heap.push (itO k1 a1)).objs.size] }).push { cls:=.type "tuple",data:=.seq #[.none,.none] })).objs.size)))
    { s with heap:=(((((s.heap.push (itO k1 a1)).push (itO k2 a2)).push { cls:=.type "tuple",data:=.seq #[.ref s.heap.objs.size,.ref (s.heap.push (itO k1 a1)).objs.size] }).push { cls:=.type "tuple",data:=.seq #[.none,.none] }).push { cls:=.type "zip",data:=.fields #[.none,.bool false,.bool false,.ref ((s.heap.push (itO k1 a1)).push (itO k2 a2)).objs.size,.ref (((s.heap.push (itO k1 a1)).push (itO k2 a2)).push { cls:=.type "tuple",data:=.seq #[.ref s.heap.objs.size,.ref (s.heap.push (itO k1 a1)).objs.size] }).objs.size] }) }):=
 .of_wp fun prog w A R s h=>by
  obtain ⟨hp,g,d,tk,os⟩:=s;obtain ⟨h1,h2,h⟩:=h
  have hsub:=sub_zip
  have L1:bX (Shared.heap ⟨hp,g,d,tk,os⟩) k1 a1 xs:=h1
  have L2:bX (Shared.heap ⟨hp.push (itO k1 a1),g,d,tk,os⟩) k2 a2 ys:=h2.push _
  wp_walk using dH L1,dH L2
  exact ⟨_,rfl,h⟩
abbrev zH2 (h:Heap) (k1 k2:Bool) (a1 a2:Addr):Heap:=((h.push (itO k1 a1)).push (itO k2 a2))
theorem sq (k1 k2 k3:Bool) (a1 a2 a3:Addr) (xs ys zs:Array Value) :
 Meets (Builtin.«zip.__new__» ⟨[.type "zip",.ref a1,.ref a2,.ref a3],[]⟩) (fun _ R s=>bX s.heap k1 a1 xs∧bX s.heap k2 a2 ys∧bX s.heap k3 a3 zs ∧
  R (.ok (.ret (.ref (((((zH2 s.heap k1 k2 a1 a2).push (itO k3 a3)).push { cls:=.type "tuple",data:=.seq #[.ref s.heap.objs.size,.ref (s.heap.push (itO k1 a1)).objs.size,.ref (zH2 s.heap k1 k2 a1 a2).objs.size] }).push { cls:=.type "tuple",data:=.seq #[.none,.none,.none] })).objs.size)))
    { s with heap:=(((((zH2 s.heap k1 k2 a1 a2).push (itO k3 a3)).push { cls:=.type "tuple",data:=.seq #[.ref s.heap.objs.size,.ref (s.heap.push (itO k1 a1)).objs.size,.ref (zH2 s.heap k1 k2 a1 a2).objs.size] }).push { cls:=.type "tuple",data:=.seq #[.none,.none,.none] }).push { cls:=.type "zip",data:=.fields #[.none,.bool false,.bool false,.ref ((zH2 s.heap k1 k2 a1 a2).push (itO k3 a3)).objs.size,.ref (((zH2 s.heap k1 k2 a1 a2).push (itO k3 a3)).push { cls:=.type "tuple",data:=.seq #[.ref s.heap.objs.size,.ref (s.heap.push (itO k1 a1)).objs.size,.ref (zH2 s.heap k1 k2 a1 a2).objs.size] }).objs.size] }) }):=
 .of_wp fun prog w A R s h=>by
  obtain ⟨hp,g,d,tk,os⟩:=s;obtain ⟨h1,h2,h3,h⟩:=h
  have hsub:=sub_zip
  have L1:bX (Shared.heap ⟨hp,g,d,tk,os⟩) k1 a1 xs:=h1
  have L2:bX (Shared.heap ⟨hp.push (itO k1 a1),g,d,tk,os⟩) k2 a2 ys:=h2.push _
  have L3:bX (Shared.heap ⟨(hp.push (itO k1 a1)).push (itO k2 a2),g,d,tk,os⟩) k3 a3 zs:=(h3.push _).push _
  wp_walk using dH L1,dH L2,dH L3
  exact ⟨_,rfl,h⟩
def psh (h:Heap):List Obj→Heap
 | []=>h
 | o :: r=>psh (h.push o) r
theorem c9:∀ {l:List Obj} {h:Heap} {b o},h.get? b=some o→(psh h l).get? b=some o
 | [],_,_,_,e=>e
 | a :: r,h,_,_,e=>c9 (l:=r) (h:=h.push a) (Heap.get?_push_of_some _ e)
theorem bM:∀ {l:List Obj} {h:Heap} {j:Nat} {o:Obj},l[j]? = some o→o.isFreed=false→(psh h l).get? (h.objs.size+j)=some o
 | [],_,_,_,e,_=>by simp at e
 | a :: r,h,0,o,e,q=>by simp at e;subst e;exact c9 (l:=r) (h:=h.push a) (Heap.get?_push_size _ q)
 | a :: r,h,j+1,o,e,q=>by
   have:=bM (h:=h.push a) (j:=j) (l:=r) (by simpa using e) q
   rw [Heap.size_push] at this
   rw [show h.objs.size+(j+1)=h.objs.size+1+j by omega];exact this
theorem nW {Q:Value→Shared→Prop} (h1:bX s.heap k1 a1 xs) (h2:bX s.heap k2 a2 ys)
 (h:∀ h',h'=psh s.heap [itO k1 a1,itO k2 a2,{ cls:=.type "tuple",data:=.seq #[.ref s.heap.objs.size,.ref (s.heap.objs.size+1)] },{ cls:=.type "tuple",data:=.seq #[.none,.none] },{ cls:=.type "zip",data:=.fields #[.none,.bool false,.bool false,.ref (s.heap.objs.size+2),.ref (s.heap.objs.size+3)] }]→Q (.ref (s.heap.objs.size+4)) { s with heap:=h' }) :
 wpAny (model prog w) A (call (.type "zip") [.ref a1,.ref a2]) Q E s:=by
 refine callType_new F.called_zip (by decide) (F.typeCall_zip_2 _ _) (F.newCall_zip_2 _ _) (fun obj=>F.args_object_init_3 obj _ _) F.entry_zip_new (so k1 k2 a1 a2 xs ys) ⟨h1,h2,?_⟩
 have z1:=@Heap.size_push
 show _∧_
 simp only [Heap.size_push]
 exact ⟨⟨_,by rw [show s.heap.objs.size+4=(((((s.heap.push (itO k1 a1)).push (itO k2 a2)).push { cls:=.type "tuple",data:=.seq #[.ref s.heap.objs.size,.ref (s.heap.objs.size+1)] }).push { cls:=.type "tuple",data:=.seq #[.none,.none] })).objs.size by simp only [Heap.size_push]];exact Heap.get?_push_size _ rfl,rfl⟩,h _ rfl⟩
end
section
variable {prog:Program} {w:World} {A:Around} {E:Value→Shared→Prop} {s:Shared} {k k1 k2 k3:Bool} {a a1 a2 a3:Addr} {xs ys zs:Array Value}
theorem nX {Q:Value→Shared→Prop} (h1:bX s.heap k1 a1 xs) (h2:bX s.heap k2 a2 ys) (h3:bX s.heap k3 a3 zs)
 (h:∀ h',h'=psh s.heap [itO k1 a1,itO k2 a2,itO k3 a3,{ cls:=.type "tuple",data:=.seq #[.ref s.heap.objs.size,.ref (s.heap.objs.size+1),.ref (s.heap.objs.size+2)] },{ cls:=.type "tuple",data:=.seq #[.none,.none,.none] },{ cls:=.type "zip",data:=.fields #[.none,.bool false,.bool false,.ref (s.heap.objs.size+3),.ref (s.heap.objs.size+4)] }]→Q (.ref (s.heap.objs.size+5)) { s with heap:=h' }) :
 wpAny (model prog w) A (call (.type "zip") [.ref a1,.ref a2,.ref a3]) Q E s:=by
 refine callType_new F.called_zip (by decide) (F.z3_typeCall _ _ _) (F.z3_newCall _ _ _) (fun obj=>F.z3_args_init obj _ _ _) F.entry_zip_new (sq k1 k2 k3 a1 a2 a3 xs ys zs) ⟨h1,h2,h3,?_⟩
 show _∧_
 simp only [Heap.size_push]
 exact ⟨⟨_,bM (j:=5) (h:=s.heap) (l:=[itO k1 a1,itO k2 a2,itO k3 a3,{ cls:=.type "tuple",data:=.seq #[.ref s.heap.objs.size,.ref (s.heap.objs.size+1),.ref (s.heap.objs.size+2)] },{ cls:=.type "tuple",data:=.seq #[.none,.none,.none] },{ cls:=.type "zip",data:=.fields #[.none,.bool false,.bool false,.ref (s.heap.objs.size+3),.ref (s.heap.objs.size+4)] }]) rfl rfl,rfl⟩,h _ rfl⟩
def zd (k:Bool) (it a:Addr) (xs:Array Value):Zd:=⟨it,[it,a],xs.size,fun i v=>xs[i]? = some v,fun i h=>(if k then h.IsTupleIter it a i else h.IsListIter it a i)∧if k then h.IsTuple a xs else h.IsList a xs⟩
theorem kH (hh:A.handled=none) (k:Bool) (it a:Addr) (hne:a≠it) (xs:Array Value):Draws prog w A it [it,a] xs.size (zd k it a xs).P (zd k it a xs).St:=by
 cases k
 ·exact Draws.list hh it a hne xs
 ·exact eR hh it a hne xs
theorem kI {h:Heap} (e:h.get? it=some (itO k a)) (q:bX h k a xs):(zd k it a xs).St 0 h:=by
 rcases q with ⟨rfl,q⟩ | ⟨rfl,q⟩
 ·exact ⟨⟨_,e,rfl,rfl⟩,q⟩
 ·exact ⟨⟨_,e,rfl,rfl⟩,q⟩
end
theorem lne (n j a:Nat) (ha:a<n):a≠n+j:=by omega
theorem nh:∀ {l m:List D} {i:Nat},(eP l m)[i]? = (l[i]?).bind fun a=>(m[i]?).map fun b=>.tup [a,b]
 | [],_,_=>by simp [eP]
 | a :: r,[],i=>by simp [eP]
 | a :: r,b :: q,0=>by simp [eP]
 | a :: r,b :: q,i+1=>by rw [eP,List.getElem?_cons_succ,nh];rfl
theorem kJ:∀ {l m:List D},l.length≤m.length→(eP l m).length=l.length
 | [],_,_=>by simp [eP]
 | a :: r,[],h=>by simp at h
 | a :: r,b :: q,h=>by rw [eP,List.length_cons,kJ (by simpa using h),List.length_cons]
theorem nq:∀ {l m n:List D} {i:Nat},(cy l m n)[i]? = (l[i]?).bind fun a=>(m[i]?).bind fun b=>(n[i]?).map fun c=>.tup [a,b,c]
 | [],_,_,_=>by simp [cy]
 | a :: r,[],_,i=>by simp [cy]
 | a :: r,b :: q,[],i=>by simp [cy]
 | a :: r,b :: q,c :: p,0=>by simp [cy]
 | a :: r,b :: q,c :: p,i+1=>by rw [cy,List.getElem?_cons_succ,nq];rfl
theorem kK:∀ {l m n:List D},l.length≤m.length→l.length≤n.length→(cy l m n).length=l.length
 | [],_,_,_,_=>by simp [cy]
 | a :: r,[],_,h,_=>by simp at h
 | a :: r,b :: q,[],_,h=>by simp at h
 | a :: r,b :: q,c :: p,h,h'=>by rw [cy,List.length_cons,kK (by simpa using h) (by simpa using h'),List.length_cons]
section
variable {X:Cx} {z z' z0 z1:Z} {tg:Expr}
theorem RDs.v {i:Nat} {d:D} {v:Value} (r:RDs W ρ G l vs) (e:l[i]? = some d) (q:vs.toArray[i]? = some v):RD W ρ G d v:=by
 obtain ⟨v',w1,w2⟩:=r.get e
 rw [show vs[i]? = some v by simpa using q] at w1;cases w1;exact w2
theorem kD {x:D} (I:Rep X z) (h:RD X.W z.ρ z.G x u) (e:sqL x=some l):∃ k a vs,u = .ref a∧(∃ o,z.G a=some o)∧bX z.s.heap k a vs.toArray∧RDs X.W z.ρ z.G l vs:=by
 cases x with
 | lst m=>cases e;obtain ⟨a,o,vs,rfl,g,⟨⟨n,rfl⟩,_⟩,r⟩:=h;exact ⟨false,a,vs,rfl,⟨_,g⟩,.inr ⟨rfl,_,I.gh _ _ g,rfl,n,rfl⟩,r⟩
 | tup m=>cases e;obtain ⟨a,o,vs,rfl,g,⟨tc,⟨n,td⟩,_⟩,r⟩:=h;exact ⟨true,a,vs,rfl,⟨_,g⟩,.inl ⟨rfl,_,I.gh _ _ g,tc,n,td⟩,r⟩
 | _=>cases e
theorem bX.psh (q:bX h k a xs):bX (psh h l) k a xs:=q.imp (fun ⟨e,q⟩=>⟨e,q.at fun o e=>c9 e⟩) fun ⟨e,q⟩=>⟨e,q.at fun o e=>c9 e⟩
theorem sj {es:List Expr} {k:Nat} {tp:Pos} {ds:List D} {n:Nat} {l:List Zd} {zz TI TO:Addr} {h':Heap} {o:Out D} (hc:X.calm=true) (x:Ee X z z1) (I:Rep X z1) (kp:∀ b o,z1.s.heap.get? b=some o→h'.get? b=some o)
 (D:∀ A,A.handled=none→ZOk X.W.P X.W.w A n l zz TI TO) (hz:IsZip h' zz TI TO .none) (hTI:IsT h' TI (l.map fun d=>.ref d.it)) (hTO:∃ vs,IsT h' TO vs∧vs.length=l.length) (st:∀ d∈l,d.St 0 h') (hn:ds.length=n) (nw:∀ b,b=zz∨b=TI∨b=TO→z1.h b=none)
 (fp:∀ d∈l,∃ a,d.fp = [d.it,a]∧z1.h d.it=none∧∃ o,z1.G a=some o)
 (hP:∀ i d (vs:List Value),vs.length=l.length→(∀ (j:Nat) (d:Zd) v,l[j]? = some d→vs[j]? = some v→d.P i v)→ds[i]? = some d→∃ l,d = .tup l∧∀ ρ' G',z1.ρ <+: ρ'→Sub z1.G G'→RDs X.W ρ' G' l vs) (e:o = .ok (.lst ds) z1.t) :
 wpAny X.M X.A (pyIter (.ref zz)) (FI X z (.Tuple es k tp) o) NoE { z1.s with heap:=h' }:=by
 refine wpAny_pyIter_zip hz (eU (ds:=ds) x I (s2:={ z1.s with heap:=h' }) (.hp (t:=z1.s.toks) kp) (Itr.walksT (I.hd hc) hn (fun A hA=>pd (D A.in1 hA)) (fun i h st b hb=>?_) (fun _ _ _ m=>m.2) fun i vals d p1 p2=>?_) ⟨hz,hTI,hTO,st⟩ (fun b hb=>?_) e)
 ·obtain ⟨w1,w2,⟨_,w3,_⟩,w4⟩:=st
  rcases List.mem_cons.mp hb with rfl | hb
  ·exact ⟨_,w1⟩
  rcases List.mem_cons.mp hb with rfl | hb
  ·exact ⟨_,w3⟩
  obtain ⟨d,hd,rfl⟩:=List.mem_map.mp hb
  exact ((D callerA rfl).dr d hd).1.live _ _ (w4 d hd)
 ·obtain ⟨vs,rfl,hl,hv⟩:=p1
  obtain ⟨l',q1,q2⟩:=hP i d vs hl hv p2
  refine ⟨by have:=(D callerA rfl).sz;simpa using (show vs.length≤sizeLine by omega),l',q1,fun ρ' G' h1 h2=>q2 ρ' G' h1 h2⟩
 ·have old:∀ {c},z1.h c=none→∀ {o},z1.G c=some o→False:=fun n o q=>by rw [I.gh _ _ q] at n;cases n
  rcases List.mem_cons.mp hb with rfl | hb
  ·exact .inl ⟨nw _ (.inl rfl),_,hz⟩
  rcases List.mem_cons.mp hb with rfl | hb
  ·exact .inl ⟨nw _ (.inr (.inl rfl)),_,hTI⟩
  rcases List.mem_cons.mp hb with rfl | hb
  ·obtain ⟨_,w,_⟩:=hTO;exact .inl ⟨nw _ (.inr (.inr rfl)),_,w⟩
  obtain ⟨d,hd,hb⟩:=List.mem_flatMap.mp hb
  obtain ⟨a,f1,f2,o,f3⟩:=fp d hd
  rw [f1] at hb
  rcases List.mem_cons.mp hb with rfl | hb
  ·exact .inl ⟨f2,((D callerA rfl).dr d hd).1.live _ _ (st d hd)⟩
  ·cases List.mem_singleton.mp hb
   refine .inr ⟨fun m=>?_,o,f3⟩
   rcases List.mem_cons.mp m with rfl | m
   ·exact old (nw _ (.inl rfl)) f3
   rcases List.mem_cons.mp m with rfl | m
   ·exact old (nw _ (.inr (.inr rfl))) f3
   obtain ⟨d',hd',rfl⟩:=List.mem_map.mp m
   obtain ⟨_,_,f5,_⟩:=fp d' hd'
   exact old f5 f3
theorem ev3 (f:List D→Sta→Out β):(X.evs br (.cons a (.cons b (.cons c .nil))) t).bind f=(X.ev br a t).bind fun x s=>(X.ev br b s).bind fun y s=>(X.ev br c s).bind fun w s=>f [x,y,w] s:=by
 show ((X.ev br a t).bind fun x s=>(X.evs br (.cons b (.cons c .nil)) s).bind fun l s=>Out.ok (x :: l) s).bind f=_
 rw [aw];congr 1;funext x s;rw [aw,ev2];rfl
theorem tS {es:List Expr} {k:Nat} {tp:Pos} (hc:X.calm=true) (hx:Blt X "zip" (.type "zip")) (ha:LE X ea a) (hb:LE X eb b) (he:starEach [ea,eb] X.env=(false,eval ea X.env) :: starEach [eb] X.env) (he2:starEach [eb] X.env=(false,eval eb X.env) :: starEach [] X.env):LI X (.Tuple es k tp) (.Call (.Name "zip" p) [ea,eb] [] pos) (.it .zip2 (.cons a (.cons b .nil))):=fun z I nb=>
 bD (Q:=fun v s1=>wpAny X.M X.A (pyIter v) (FI X z (.Tuple es k tp) (X.ev false (.it .zip2 (.cons a (.cons b .nil))) z.t)) NoE s1) (.inr ⟨_,rfl⟩) hx he (by rw [he2];rfl) I (by
  rw [he2]
  exact Calls.spliced_cons ((ha false).go .refl I (ev2 fun l s=>Out.of s ((itD .zip2 l).map D.lst)) nb fun z1 x u y1 x1 I1 r1 e1=>Calls.spliced_cons ((hb false).go x1 I1 e1 nb fun z2 y v y2 x2 I2 r2 e2=>Calls.spliced_nil (by
   have e2:X.ev false (.it .zip2 (.cons a (.cons b .nil))) z.t=Out.of z2.t ((match sqL x,sqL y with | some l,some m=>if l.length≤m.length then some (eP l m) else none | _,_=>none).map D.lst):=e2
   cases q1:sqL x with
   | none=>rw [q1] at e2;exact ZX e2 nb
   | some l=>
     cases q2:sqL y with
     | none=>rw [q1,q2] at e2;exact ZX e2 nb
     | some m=>
       rw [q1,q2] at e2
       by_cases c:l.length≤m.length
       ·have e2:X.ev false (.it .zip2 (.cons a (.cons b .nil))) z.t = .ok (.lst (eP l m)) z2.t:=by rw [e2];simp only [ZZ c];rfl
        obtain ⟨k1,a1,vs,rfl,⟨o1,g1⟩,s1,w1⟩:=kD I2 (r1.rd.st y2.st) q1
        obtain ⟨k2,a2,us,rfl,⟨o2,g2⟩,s2,w2⟩:=kD I2 r2.rd q2
        have l1:=Heap.lt_size (I2.gh _ _ g1)
        have l2:=Heap.lt_size (I2.gh _ _ g2)
        refine nW s1 s2 fun h' hh=>?_
        have N:∀ j,z2.h (z2.s.heap.objs.size+j)=none:=fun j=>fP (Nat.le_add_right ..)
        have e1:=w1.len
        have e3:=w2.len
        refine sj (ds:=eP l m) (n:=vs.toArray.size) (l:=[zd k1 z2.s.heap.objs.size a1 vs.toArray,zd k2 (z2.s.heap.objs.size+1) a2 us.toArray]) hc x2 I2 (fun b o e=>hh ▸ c9 e) (fun A hA=>⟨fun d hd=>?_,fun i j d e hi hj ne=>?_,⟨_,_,rfl,rfl⟩,⟨?_,?_,?_⟩,by rw [sizeLine_eq];exact Nat.le_of_ble_eq_true rfl⟩) (hh ▸ bM (j:=4) rfl rfl) (hh ▸ bM (j:=2) rfl rfl) ⟨[.none,.none],hh ▸ bM (j:=3) rfl rfl,rfl⟩ (fun d hd=>?_) (by rw [kJ c,e1];simp) (fun b hb=>by rcases hb with rfl | rfl | rfl <;> exact N _) (fun d hd=>?_) (fun i d ws hl hv hd=>?_) e2
        ·simp only [List.mem_cons,List.not_mem_nil,or_false] at hd
         rcases hd with rfl | rfl
         ·exact ⟨kH hA _ _ _ (Nat.ne_of_lt l1) _,Nat.le_refl _,List.mem_cons_self,nin _ 4 0 _ (by decide) l1,nin _ 3 0 _ (by decide) l1,by simp [zd]⟩
         ·exact ⟨kH hA _ _ _ (lne _ 1 _ l2) _,by simp [zd];omega,List.mem_cons_self,nin _ 4 1 _ (by decide) l2,nin _ 3 1 _ (by decide) l2,by simp [zd]⟩
        ·match i,j,hi,hj,ne with
         | 0,0,_,_,ne=>exact ZX rfl ne
         | 0,1,hi,hj,_=>cases hi;cases hj;exact nin _ 0 1 _ (by decide) l2
         | 1,0,hi,hj,_=>cases hi;cases hj;exact nin _ 1 0 _ (by decide) l1
         | 1,1,_,_,ne=>exact ZX rfl ne
         | i+2,_,hi,_,_=>simp at hi
         | _,j+2,_,hj,_=>simp at hj
        ·simp
        ·simp
        ·simp
        ·simp only [List.mem_cons,List.not_mem_nil,or_false] at hd
         rcases hd with rfl | rfl
         ·exact kI (hh ▸ bM (j:=0) rfl rfl) (hh ▸ s1.psh)
         ·exact kI (hh ▸ bM (j:=1) rfl rfl) (hh ▸ s2.psh)
        ·simp only [List.mem_cons,List.not_mem_nil,or_false] at hd
         rcases hd with rfl | rfl
         ·exact ⟨a1,rfl,N 0,_,g1⟩
         ·exact ⟨a2,rfl,N 1,_,g2⟩
        ·rw [nh] at hd
         obtain ⟨da,w3,hd⟩:=Option.bind_eq_some_iff.mp hd
         obtain ⟨db,w4,rfl⟩:=Option.map_eq_some_iff.mp hd
         match ws,hl,hv with
         | [va,vb],_,hv=>exact ⟨_,rfl,fun ρ' G' h1 h2=>.cons ((w1.mono h1 h2).v w3 (hv 0 _ va rfl rfl)) (.cons ((w2.mono h1 h2).v w4 (hv 1 _ vb rfl rfl)) rfl)⟩
       ·simp only [ZY c] at e2;exact ZX e2 nb))))
theorem tT {es:List Expr} {k:Nat} {tp:Pos} (hc:X.calm=true) (hx:Blt X "zip" (.type "zip")) (ha:LE X ea a) (hb:LE X eb b) (hd:LE X ec c) (he:starEach [ea,eb,ec] X.env=(false,eval ea X.env) :: starEach [eb,ec] X.env) (he2:starEach [eb,ec] X.env=(false,eval eb X.env) :: starEach [ec] X.env) (he3:starEach [ec] X.env=(false,eval ec X.env) :: starEach [] X.env):LI X (.Tuple es k tp) (.Call (.Name "zip" p) [ea,eb,ec] [] pos) (.it .zip3 (.cons a (.cons b (.cons c .nil)))):=fun z I nb=>
 bD (Q:=fun v s1=>wpAny X.M X.A (pyIter v) (FI X z (.Tuple es k tp) (X.ev false (.it .zip3 (.cons a (.cons b (.cons c .nil)))) z.t)) NoE s1) (.inr ⟨_,rfl⟩) hx he (by rw [he2,he3];rfl) I (by
  rw [he2,he3]
  exact Calls.spliced_cons ((ha false).go .refl I (ev3 fun l s=>Out.of s ((itD .zip3 l).map D.lst)) nb fun z0 x0 u0 y0 x0' I0 r0 e0=>Calls.spliced_cons ((hb false).go x0' I0 e0 nb fun z1 x u y1 x1 I1 r1 e1=>Calls.spliced_cons ((hd false).go x1 I1 e1 nb fun z2 y v y2 x2 I2 r2 e2=>Calls.spliced_nil (by
   have e2:X.ev false (.it .zip3 (.cons a (.cons b (.cons c .nil)))) z.t=Out.of z2.t ((match sqL x0,sqL x,sqL y with | some l,some m,some n=>if l.length≤m.length∧l.length≤n.length then some (cy l m n) else none | _,_,_=>none).map D.lst):=e2
   cases q1:sqL x0 with
   | none=>rw [q1] at e2;exact ZX e2 nb
   | some l=>
     cases q2:sqL x with
     | none=>rw [q1,q2] at e2;exact ZX e2 nb
     | some m=>
       cases q3:sqL y with
       | none=>rw [q1,q2,q3] at e2;exact ZX e2 nb
       | some n=>
         rw [q1,q2,q3] at e2
         by_cases cc:l.length≤m.length∧l.length≤n.length
         ·have e2:X.ev false (.it .zip3 (.cons a (.cons b (.cons c .nil)))) z.t = .ok (.lst (cy l m n)) z2.t:=by rw [e2];simp only [ZZ cc];rfl
          obtain ⟨k1,a1,vs,rfl,⟨o1,g1⟩,s1,w1⟩:=kD I2 ((r0.rd.st y1.st).st y2.st) q1
          obtain ⟨k2,a2,us,rfl,⟨o2,g2⟩,s2,w2⟩:=kD I2 (r1.rd.st y2.st) q2
          obtain ⟨k3,a3,ts,rfl,⟨o3,g3⟩,s3,w3⟩:=kD I2 r2.rd q3
          have l1:=Heap.lt_size (I2.gh _ _ g1)
          have l2:=Heap.lt_size (I2.gh _ _ g2)
          have l3:=Heap.lt_size (I2.gh _ _ g3)
          refine nX s1 s2 s3 fun h' hh=>?_
          have N:∀ j,z2.h (z2.s.heap.objs.size+j)=none:=fun j=>fP (Nat.le_add_right ..)
          have e1:=w1.len
          have e3:=w2.len
          have e4:=w3.len
          refine sj (ds:=cy l m n) (n:=vs.toArray.size) (l:=[zd k1 z2.s.heap.objs.size a1 vs.toArray,zd k2 (z2.s.heap.objs.size+1) a2 us.toArray,zd k3 (z2.s.heap.objs.size+2) a3 ts.toArray]) hc x2 I2 (fun b o e=>hh ▸ c9 e) (fun A hA=>⟨fun d hd=>?_,fun i j d e hi hj ne=>?_,⟨_,_,rfl,rfl⟩,⟨?_,?_,?_⟩,by rw [sizeLine_eq];exact Nat.le_of_ble_eq_true rfl⟩) (hh ▸ bM (j:=5) rfl rfl) (hh ▸ bM (j:=3) rfl rfl) ⟨[.none,.none,.none],hh ▸ bM (j:=4) rfl rfl,rfl⟩ (fun d hd=>?_) (by rw [kK cc.1 cc.2,e1];simp) (fun b hb=>by rcases hb with rfl | rfl | rfl <;> exact N _) (fun d hd=>?_) (fun i d ws hl hv hd=>?_) e2
          ·simp only [List.mem_cons,List.not_mem_nil,or_false] at hd
           rcases hd with rfl | rfl | rfl
           ·exact ⟨kH hA _ _ _ (Nat.ne_of_lt l1) _,Nat.le_refl _,List.mem_cons_self,nin _ 5 0 _ (by decide) l1,nin _ 4 0 _ (by decide) l1,by simp [zd]⟩
           ·exact ⟨kH hA _ _ _ (lne _ 1 _ l2) _,by simp [zd];omega,List.mem_cons_self,nin _ 5 1 _ (by decide) l2,nin _ 4 1 _ (by decide) l2,by simp [zd]⟩
           ·exact ⟨kH hA _ _ _ (lne _ 2 _ l3) _,by simp [zd];omega,List.mem_cons_self,nin _ 5 2 _ (by decide) l3,nin _ 4 2 _ (by decide) l3,by simp [zd]⟩
          ·have hl:∀ (i:Nat) (d:Zd),[zd k1 z2.s.heap.objs.size a1 vs.toArray,zd k2 (z2.s.heap.objs.size+1) a2 us.toArray,zd k3 (z2.s.heap.objs.size+2) a3 ts.toArray][i]? = some d→i<3∧d.it=z2.s.heap.objs.size+i∧∃ b:Nat,d.fp = [z2.s.heap.objs.size+i,b]∧b<z2.s.heap.objs.size:=fun i d h=>by
            match i,h with
            | 0,h=>cases h;exact ⟨by decide,rfl,a1,rfl,l1⟩
            | 1,h=>cases h;exact ⟨by decide,rfl,a2,rfl,l2⟩
            | 2,h=>cases h;exact ⟨by decide,rfl,a3,rfl,l3⟩
            | i+3,h=>simp at h
           obtain ⟨_,h1,_⟩:=hl i d hi
           obtain ⟨_,_,b,h2,h3⟩:=hl j e hj
           rw [h1,h2]
           exact nin _ i j b ne h3
          ·simp
          ·simp
          ·simp
          ·simp only [List.mem_cons,List.not_mem_nil,or_false] at hd
           rcases hd with rfl | rfl | rfl
           ·exact kI (hh ▸ bM (j:=0) rfl rfl) (hh ▸ s1.psh)
           ·exact kI (hh ▸ bM (j:=1) rfl rfl) (hh ▸ s2.psh)
           ·exact kI (hh ▸ bM (j:=2) rfl rfl) (hh ▸ s3.psh)
          ·simp only [List.mem_cons,List.not_mem_nil,or_false] at hd
           rcases hd with rfl | rfl | rfl
           ·exact ⟨a1,rfl,N 0,_,g1⟩
           ·exact ⟨a2,rfl,N 1,_,g2⟩
           ·exact ⟨a3,rfl,N 2,_,g3⟩
          ·rw [nq] at hd
           obtain ⟨da,p3,hd⟩:=Option.bind_eq_some_iff.mp hd
           obtain ⟨db,p4,hd⟩:=Option.bind_eq_some_iff.mp hd
           obtain ⟨dc,p5,rfl⟩:=Option.map_eq_some_iff.mp hd
           match ws,hl,hv with
           | [va,vb,vc],_,hv=>exact ⟨_,rfl,fun ρ' G' h1 h2=>.cons ((w1.mono h1 h2).v p3 (hv 0 _ va rfl rfl)) (.cons ((w2.mono h1 h2).v p4 (hv 1 _ vb rfl rfl)) (.cons ((w3.mono h1 h2).v p5 (hv 2 _ vc rfl rfl)) rfl))⟩
         ·simp only [ZY cc] at e2;exact ZX e2 nb)))))
end
theorem jS {M:Model} {A:Around} {E:Value→Shared→Prop} {s:Shared} {items:Array Value} {x:Value} {e:Value→Bool} {Q:Option PySem.Fin×Unit→Shared→Prop} (he:∀ y∈items,∀ (E':Value→Shared→Prop) (Q':Bool→Shared→Prop),Q' (e y) s→wpAny M A (eqBool y x) Q' E' s) {j:Nat} (hj:j<items.size) (hit:e items[j]=true)
 (hq:Q (some (.done (.ret (.int j s.toks))),()) { s with toks:=s.toks+1 }):∀ (k i:Nat),i+k=items.size→i≤j→(∀ m (hm:m<items.size),i≤m→m<j→e items[m]=false) →
 wpAny M A (forIn (List.range' i k) ((none:Option PySem.Fin),()) fun (i:Nat) _=>match items[i]? with
  | some y=>do
    if ← eqBool y x then
     let r ← retInt (i:Nat)
     pure (ForInStep.done (some r,()))
    else pure (ForInStep.yield (none,()))
  | _=>pure (ForInStep.yield (none,()))) Q E s
 | 0,i,h1,h2,_=>by omega
 | k+1,i,h1,h2,hn=>by
   have hi:i<items.size:=by omega
   rw [List.range'_succ,List.forIn_cons,Array.getElem?_eq_getElem hi]
   refine wpAny_bind (wpAny_bind (he _ (Array.getElem_mem hi) _ _ ?_))
   by_cases z:i=j
   ·subst z
    rw [hit,ZZ rfl]
    refine wpAny_bind ?_
    unfold retInt
    exact wpAny_bind (wpAny_mkInt (wpAny_pure (wpAny_pure (wpAny_pure hq))))
   ·rw [hn i hi (Nat.le_refl _) (by omega),ZY Bool.false_ne_true]
    exact wpAny_pure (jS he hj hit hq k (i+1) (by omega) (by omega) fun m hm h3 h4=>hn m hm (by omega) h4)
theorem pc (l:Addr) (items:Array Value) (x:Value) (e:Value→Bool) (j:Nat) (hj:j<items.size) (hit:e items[j]=true) (hno:∀ m (hm:m<items.size),m<j→e items[m]=false) :
 Meets (Builtin.«tuple.index» ⟨[.ref l,x],[]⟩) (fun A R s=>s.heap.IsTuple l items∧(∀ y,y∈items→SeqAt.EqAt A.in1 s y x (e y))∧R (.ok (.ret (.int j s.toks))) { s with toks:=s.toks+1 }):=by
 intro prog w A R s h
 obtain ⟨ht,he,hq⟩:=h
 unfold Builtin.«tuple.index»
 refine wpAny_bind (wpAny_pure ?_)
 refine wpAny_bind (tupleItemsOf_ ht ?_)
 refine wpAny_bind (wpAny_pure ?_)
 refine wpAny_bind (wpAny_pure ?_)
 dsimp only
 rw [Nat.min_self,Std.Legacy.Range.forIn_eq_forIn_range']
 have ez:Std.Legacy.Range.size [:items.size]=items.size:=by simp [Std.Legacy.Range.size]
 rw [ez]
 refine wpAny_bind (jS (e:=e) (fun y hy E' Q' q'=>he y hy prog w E' Q' q') hj hit ?_ items.size 0 (by omega) (by omega) fun m hm _ h4=>hno m hm h4)
 exact wpAny_pure hq
section
variable {X:Cx} {z:Z}
theorem m9:∀ {us:List Value} {ss:List Str} {i:Nat} {v:Value},StrsAre us ss→us[i]? = some v→∃ y t,ss[i]? = some y∧v = .str y t
 | _,_,_,_,.nil,e=>by simp at e
 | _,_,0,v,.cons y t _,e=>by simp at e;subst e;exact ⟨y,t,rfl,rfl⟩
 | _,_,i+1,v,.cons _ _ r,e=>by
   obtain ⟨y,t,h1,h2⟩:=m9 (i:=i) r (by simpa using e)
   exact ⟨y,t,by simpa using h1,h2⟩
def ixT (k:Str):Value→Bool
 | .str y _=>y == k
 | _=>false
theorem qM (ha:LE X eo a) (hb:LE X eb b) (m:M1 X eo "index" apos eb cpos):LE X (.Call (.Attribute eo "index" apos) [eb] [] cpos) (.index a b):=fun br z I nb=>
 wpAny_Call_method m.base m.few m.line PySem.F.plainAttrs_tuple PySem.F.slot_tuple_index PySem.F.type_tuple_index ((ha true).go .refl I rfl nb fun z1 x u y1 x1 I1 r1 e1=>by
  cases x with
  | tup l=>
    have e1:X.ev br (.index a b) z.t=(X.ev true b z1.t).bind fun y s=>.of s (wE (.tup l) y):=e1
    obtain ⟨p,o,vs,rfl,g,⟨tc,⟨n,td⟩,hz,tdi⟩,r⟩:=(r1.rb.cr0 I1:RD X.W z1.ρ z1.G (.tup l) u)
    refine ⟨⟨o,I1.gh _ _ g,tc⟩,fun b q=>(by cases q;exact ⟨o,I1.gh _ _ g,tdi⟩),?_⟩
    rw [m.trees]
    refine Calls.callWith_builtin rfl (Calls.evalArgs_plain (Calls.spliced_cons ((hb true).go x1 I1 e1 nb fun z2 y v y2 x2 I2 r2 e2=>Calls.spliced_nil (cW x2 I2 e2 nb fun d q=>?_))))
    cases y with
    | str k=>
      obtain ⟨t,rfl⟩:=(r2.rb.cr0 I2:RD X.W z2.ρ z2.G (.str k) v)
      obtain ⟨ss,q1,q2⟩:=Option.bind_eq_some_iff.mp (show ((eN l).bind fun ss=>(ss.findIdx? (· == k)).map fun (j:Nat)=>D.int j)=some d from q)
      obtain ⟨j,q3,rfl⟩:=Option.map_eq_some_iff.mp q2
      have sa:=kE q1 (r.mono y2.st.pr y2.st.gg)
      obtain ⟨hj,hp,hn⟩:=List.findIdx?_eq_some_iff_getElem.mp q3
      have hl:vs.length=ss.length:=sa.length
      have at_:∀ m (hm:m<vs.toArray.size),∃ t,vs.toArray[m] = .str (ss[m]'(by simp at hm;omega)) t:=fun m hm=>by
       have hm':m<vs.length:=by simpa using hm
       obtain ⟨y,t,w1,w2⟩:=m9 sa (List.getElem?_eq_getElem hm')
       rw [List.getElem?_eq_getElem (by omega)] at w1;cases w1
       exact ⟨t,by simpa using w2⟩
      refine call_meets PySem.F.slot_tuple_index ⟨o,I2.gh _ _ (y2.st.gg _ _ g),tc⟩ PySem.F.entry_tuple_index (PySem.F.args_tuple_index_2 _ _) (pc p vs.toArray (.str k t) (ixT k) j (by simp;omega) ?_ fun m hm lt=>?_) ⟨⟨o,I2.gh _ _ (y2.st.gg _ _ g),tc,n,td⟩,fun y hy=>?_,.tok fun _ _ _=>⟨_,rfl⟩⟩
      ·obtain ⟨t',e'⟩:=at_ j (by simp;omega)
       rw [e'];exact hp
      ·obtain ⟨t',e'⟩:=at_ m hm
       rw [e'];exact ZU.mpr (by simpa using hn m lt)
      ·obtain ⟨m,hm,rfl⟩:=Array.mem_iff_getElem.mp hy
       obtain ⟨t',e'⟩:=at_ m hm
       rw [e']
       exact ((e3 I2.toHR 1 (d:=.str (ss[m]'(by simp at hm;omega))) (e:=.str k) (by rfl) (show CR X.W z2 (.str _) _ from ⟨_,rfl⟩) (show CR X.W z2 (.str k) _ from ⟨_,rfl⟩)).2 _ (by have:=I2.ok.un;show _+1+1+1<_;omega)).1
    | _=>cases q
  | _=>exact ZX e1 nb)
theorem tO {x:Str} {j:Nat} {cl:Cl} {i:CI} (F:bJ X X.cal1 lv cl.init f) (hr:bg (lv+1) X.A) (M:Mk X.K i.ad f) (hcl:X.Γ.cl[j]? = some cl) (hw:cl.what=0) (hci:X.W.ci[j]? = some i) (hwh:X.W.what[j]? = some 0) (hg:Gl X x) (hm:X.mg x=some (.ref i.ad)) (hd:(x == ("__debug__":Str))=false):LE X (.Call (.Name x p) [] [] pos) (.new j .nil):=fun br z I nb=>
 wpAny_Call_Name_kw (bt I hg hm (PySem.W.callWith_K0 I.toHR.kin M.kp (uG F hr M hcl hw hci hwh .refl I (l:=[]) (us:=[]) (es:=.nil) trivial rfl nb)) hd)
end
def cM (nm:NK) (x:Str):Bool:=match nm.lookup x with
 | some .local=>true
 | some .cell=>true
 | some .free=>true
 | _=>false
def b9 (nm:NK) (x:Str):Bool:=nm.lookup x == some .globalImplicit
def bp:Expr→Bool
 | .Call (.Name id _) [] [] _=>id != "super"
 | _=>true
theorem af (h:aP e=true):starEach (e :: es) env=(false,eval e env) :: starEach es env:=by
 cases e <;> first | rfl | cases h
theorem gq (h:aP e=true):iG e:=by
 cases e <;> first | (intro o i;rfl) | cases h
theorem fZ (h:aP e=true):behindInMarks op e=false:=by
 cases e <;> first | rfl | cases h
theorem ig (h:aP e=true):∀ x,foldedSetIterable e env x=pure x:=by
 cases e <;> first | (intro x;rfl) | cases h
theorem bA (h:∀ e∈es,aP e=true):(backTo pos (starEach es env)).any (·.1)=false:=by
 induction es with
 | nil=>rfl
 | cons e r ih=>
   rw [af (h e List.mem_cons_self)]
   have:=ih fun x hx=>h x (List.mem_cons_of_mem _ hx)
   show (false || (backTo pos (starEach r env)).any (·.1))=false
   rw [this];rfl
theorem bH {X:Cx} (hs:X.env.scope.names=nm) (h:cM nm x=true):Vis X.env.scope x:=by
 unfold cM at h
 unfold Vis
 rw [hs]
 split at h <;> first | (rename_i q;exact .inl q) | (rename_i q;exact .inr (.inl q)) | (rename_i q;exact .inr (.inr q)) | cases h
theorem bF (hs:X.env.scope.names=nm) (h:b9 nm x=true):Gl X x:=by
 unfold b9 at h
 show X.env.scope.names.lookup x=_
 rw [hs]
 simpa using h
structure Ns where
 gl:List Str
 tb:List Str
 fn:List Str
 at_:List Str
 bl:List Str
 rf:List Str:=[]
 me:List (Str×Nat×Nat):=[]
 ex:List Str:=[]
 nw:List Str:=[]
 mu:List Str:=[]
 nd:List Str:=[]
 hx:List Str:=[]
 hc:List Str:=[]
 xt:List Str:=[]
 kp:List Str:=[]
 alt:List (Str×Nat):=[]
 fc:List Str:=[]
 oc:List Str:=[]
 e2:Bool:=false
def Ns.an (T:Ns) (f:Nat):Str:=T.at_.getD f ""
abbrev Cx.to (X:Cx) (A:Around) (fr:List Env) (N:List Str) (e:Env) (cal cal1:Nat→List D→List O→Res):Cx:={ X with A:=A,fr:=fr,N:=N,env:=e,cal:=cal,cal1:=cal1 }
theorem HR.to {X:Cx} {A:Around} {fr:List Env} {N1 N2:List Str} {e1 e2:Env} {c1 c2 d1 d2:Nat→List D→List O→Res} (I:HR (X.to A fr N1 e1 c1 d1) z):HR (X.to A fr N2 e2 c2 d2) z:=⟨I.md,I.fm,I.hd,I.bs,I.gh,I.rl,I.rn,I.rg,I.ob,I.fu,I.ff,I.br,I.os⟩
theorem FnC.to {X:Cx} {A:Around} {fr:List Env} {N:List Str} {e:Env} {c1 d1:Nat→List D→List O→Res} (h:FnC X cal lv j f fd ps):FnC (X.to A fr N e c1 d1) cal lv j f fd ps:=⟨h.len,fun A2 fr2 z args us ds r I b rd nb=>codeAny_mono (h.run A2 fr2 z args us ds r (HR.to (X:=X) (N1:=N) (e1:=e) (c1:=c1) (d1:=d1) I) b rd nb) fun q s' hq=>by
 cases q with
 | error x=>obtain ⟨z',c,l,a1,a2,a3,a4,a5⟩:=hq;exact ⟨z',c,l,a1,a2,a3,HR.to (X:=X) a4,a5⟩
 | ok fl=>cases fl with
   | ret u=>obtain ⟨z',d,a1,a2,a3,a4,a5⟩:=hq;exact ⟨z',d,a1,a2,a3,HR.to (X:=X) a4,a5⟩
   | _=>exact hq.elim⟩
theorem bJ.to {X:Cx} {A:Around} {fr:List Env} {N:List Str} {e:Env} {c1 d1:Nat→List D→List O→Res} (h:bJ X cal lv j f):bJ (X.to A fr N e c1 d1) cal lv j f:=let ⟨fd,ps,a,b,c⟩:=h;⟨fd,ps,a.to,b,c⟩
theorem FnI.to {X:Cx} {A:Around} {fr:List Env} {N:List Str} {e:Env} {c1 d1:Nat→List D→List O→Res} (h:FnI X lv f fd ps nm ck):FnI (X.to A fr N e c1 d1) lv f fd ps nm ck:=⟨h.len,fun A2 fr2 z args us p P ch r I b lu H hB hP hc=>h.run A2 fr2 z args us p P ch r (HR.to (X:=X) (N1:=N) (e1:=e) (c1:=c1) (d1:=d1) I) b lu ⟨H.ex,H.keep,H.set⟩ hB hP hc⟩
theorem FnJ.to {X:Cx} {A:Around} {fr:List Env} {N:List Str} {e:Env} {c1 d1:Nat→List D→List O→Res} (h:FnJ X lv f fd ps nm k C):FnJ (X.to A fr N e c1 d1) lv f fd ps nm k C:=let ⟨ck,a,b⟩:=h;⟨ck,a.to,b⟩
structure CxOk (T:Ns) (X:Cx) (nm:NK) (N:List Str):Prop where
 hN:X.N=N
 nd:N.Nodup
 sc:X.env.scope.names=nm
 kd:X.env.scope.kind = .function
 calm:X.calm=true
 fns:∀ (j:Nat) (x:Str),T.fn[j]? = some x→∃ k f,bJ X X.cal k j f∧bg k X.A∧X.mg x=some (.ref f)
 gls:∀ (j:Nat) (x:Str),T.gl[j]? = some x→∃ d u,X.Γ.gl[j]? = some d∧X.mg x=some u∧aY X.K d u=true
 tbs:∀ (j:Nat) (x:Str),T.tb[j]? = some x→∃ t a,X.Γ.tb[j]? = some t∧X.mg x=some (.ref a)∧TbL X a t
 blt:∀ x∈T.bl,X.mg x=none
 cls:cA X T.an
 mts:∀ q∈T.me,∃ k f,bJ X X.cal k q.2.2 f∧bg k X.A∧nI X T.an q.1 q.2.1 f
 nws:∀ (j:Nat) (x:Str),T.nw[j]? = some x→x≠""→∃ n f i cl,bJ X X.cal1 n cl.init f∧bg (n+1) X.A∧Mk X.K i.ad f∧X.Γ.cl[j]? = some cl∧cl.what=0∧X.W.ci[j]? = some i∧X.W.what[j]? = some 0∧X.mg x=some (.ref i.ad)
 nds:∀ (j:Nat) (x:Str),T.nd[j]? = some x→x≠""→∃ n f fd ps i cl,FnI X n f fd ps i.nm none∧b6 X.K fd ps []∧bg (n+1) X.A∧Mk X.K i.ad f∧Cls X.K i.ad∧(∀ f∈i.nm,cP X.K i.ad f)∧X.Γ.cl[j]? = some cl∧X.W.ci[j]? = some i∧X.W.what[j]? = some 1∧i.nm.length=cl.at_.length∧X.mg x=some (.ref i.ad)
 hxs:∀ (j:Nat) (x:Str),T.hx[j]? = some x→x≠""→pk X j x
abbrev GE (T:Ns) (nm:NK) (N:List Str) (e:Expr):={c:E // ∀ X,CxOk T X nm N→LE X e c∧(bf c=true→LF X e c)}
abbrev GT (T:Ns) (nm:NK) (N:List Str) (e:Expr):={c:E // ∀ X,CxOk T X nm N→LT X e c}
abbrev GW (T:Ns) (nm:NK) (N:List Str) (e:Expr):={c:E // ∀ X,CxOk T X nm N→LW X e c}
abbrev GA (T:Ns) (nm:NK) (N:List Str) (es:List Expr):={c:E // ∀ X,CxOk T X nm N→LA X es c}
abbrev GO (T:Ns) (nm:NK) (N:List Str) (e:Option Expr):={c:E // ∀ X,CxOk T X nm N→LO X e c}
abbrev GI (T:Ns) (nm:NK) (N:List Str) (tg e:Expr):={c:E // ∀ X,CxOk T X nm N→LI X tg e c}
abbrev aQ (T:Ns):=∀ nm N e,Option (GE T nm N e)
abbrev gF (T:Ns):=∀ nm N e,Option (GT T nm N e)
theorem mk (h:LE X e c) (n:bf c=false:=by rfl):LE X e c∧(bf c=true→LF X e c):=⟨h,fun q=>by rw [n] at q;cases q⟩
theorem mkf (h:LF X e c) (hb:∀ br,X.ev br c=X.ev false c:=by intro _;rfl):LE X e c∧(bf c=true→LF X e c):=⟨h.le hb,fun _=>h⟩
def yes (b:Bool):Option (PLift (b=true)):=match b with | true=>some ⟨rfl⟩ | false=>none
def no (b:Bool):Option (PLift (b=false)):=match b with | false=>some ⟨rfl⟩ | true=>none
def bS (x:Str):(l:List Str)→Option {i:Nat // l[i]? = some x}
 | []=>none
 | y :: r=>match h:y == x with
   | true=>some ⟨0,by rw [List.getElem?_cons_zero];congr;simpa using h⟩
   | false=>(bS x r).map fun i=>⟨i.1+1,by rw [List.getElem?_cons_succ];exact i.2⟩
def AM (x:Str) (al:List (Str×Nat)) (l:List Str):Option {i:Nat // l[i]? = some x}:=match al.lookup x with
 | some j=>(match h:l[j]? with
   | some y=>(match h2:y == x with
     | true=>some ⟨j,by rw [h];congr;simpa using h2⟩
     | false=>none)
   | none=>none)
 | none=>bS x l
def re (x:Str):(l:List Str)→Option (PLift (x∈l))
 | []=>none
 | y :: r=>match h:y == x with
   | true=>some ⟨by have:y=x:=by simpa using h
                    rw [this];exact List.mem_cons_self⟩
   | false=>(re x r).map fun i=>⟨List.mem_cons_of_mem _ i.down⟩
section
variable {T:Ns} {nm:NK} {N:List Str}
def yV (T:Ns) (nm:NK) (N:List Str) (x:Str) (pos:Pos):Option (GE T nm N (.Name x pos)):=do
 let hd ← no (x == ("__debug__":Str))
 let hc ← no (x == ("__classdict__":Str))
 match hl:cM nm x with
 | true=>
   let i ← bS x N
   some ⟨.v i.1,fun X k=>mk (xh (by rw [k.hN];exact i.2) (bH k.sc hl) hd.down hc.down)⟩
 | false=>
   let hg ← yes (b9 nm x)
   let j ← bS x T.gl
   some ⟨.g j.1,fun X k=>by
    obtain ⟨d,u,h1,h2,h3⟩:=k.gls j.1 x j.2
    exact mk (By (bF k.sc hg.down) h2 hd.down h1 h3)⟩
def we (T:Ns) (nm:NK) (N:List Str) (c:Const) (j:Nat) (pos:Pos):Option (GE T nm N (.Constant c j pos)):=match c with
 | .none=>some ⟨.c .non,fun X k=>mk vg⟩
 | .bool b=>some ⟨.c (.bl b),fun X k=>mk ze⟩
 | .int i=>some ⟨.c (.int i),fun X k=>mk vf⟩
 | .str x=>some ⟨.c (.str x),fun X k=>mk vh⟩
 | _=>none
def opP (op:Operator):Option {o:Op // ∀ X:Cx,Op2 X (binaryOp op) (opD o)}:=match op with
 | .Add=>some ⟨.add,fun X=>yd⟩
 | .Sub=>some ⟨.sub,fun X=>yh⟩
 | .Mult=>some ⟨.mul,fun X=>yf⟩
 | .FloorDiv=>some ⟨.fdiv,fun X=>uA⟩
 | .Mod=>some ⟨.mod,fun X=>ye⟩
 | .Pow=>some ⟨.pow,fun X=>yg⟩
 | _=>none
def Bo (op:CmpOp):Option {o:Op // ∀ X:Cx,Op2 X (compareOp op) (opD o)}:=match op with
 | .Eq=>some ⟨.eq,fun X=>Ad⟩
 | .NotEq=>some ⟨.ne,fun X=>Ai⟩
 | .Lt=>some ⟨.lt,fun X=>Ah⟩
 | .Gt=>some ⟨.gt,fun X=>Af⟩
 | .GtE=>some ⟨.ge,fun X=>Ae⟩
 | .In=>some ⟨.isin,fun X=>Ag⟩
 | .NotIn=>some ⟨.notin,fun X=>rE⟩
 | _=>none
def eQ (f:∀ e,Option (GE T nm N e)):(es:List Expr)→Option (GA T nm N es)
 | []=>some ⟨.nil,fun _ _=>qF⟩
 | e :: r=>do
   let h ← yes (aP e)
   let a ← f e
   let b ← eQ f r
   some ⟨.cons a.1 b.1,fun X k=>mw (a.2 X k).1 (b.2 X k) (af h.down)⟩
def uZ (f:∀ e,Option (GE T nm N e)) (pos:Pos):(es:List Expr)→Option {c:E // ∀ X,CxOk T X nm N→LE X (.BoolOp .And es pos) c}
 | []=>none
 | [a]=>(f a).map fun x=>⟨x.1,fun X k=>(x.2 X k).1⟩
 | a :: b :: r=>do
   let x ← f a
   let y ← uZ f pos (b :: r)
   some ⟨.and x.1 y.1,fun X k=>wV (x.2 X k).1 (y.2 X k)⟩
def Bb (f:∀ e,Option (GE T nm N e)) (pos:Pos):(es:List Expr)→Option {c:E // ∀ X,CxOk T X nm N→LE X (.BoolOp .Or es pos) c}:=fun _=>none
def uY (g:∀ e,Option (GT T nm N e)) (pos:Pos):(es:List Expr)→Option (GW T nm N (.BoolOp .And es pos))
 | []=>none
 | [a]=>(g a).map fun x=>⟨x.1,fun X k=>uh (x.2 X k)⟩
 | a :: b :: r=>do
   let x ← g a
   let y ← uY g pos (b :: r)
   some ⟨.tand x.1 y.1,fun X k=>xB (x.2 X k) (y.2 X k)⟩
def yZ (g:∀ e,Option (GT T nm N e)) (pos:Pos):(es:List Expr)→Option (GW T nm N (.BoolOp .Or es pos))
 | []=>none
 | [a]=>(g a).map fun x=>⟨x.1,fun X k=>xC (x.2 X k)⟩
 | a :: b :: r=>do
   let x ← g a
   let y ← yZ g pos (b :: r)
   some ⟨.tor x.1 y.1,fun X k=>zY (x.2 X k) (y.2 X k)⟩
def yY (f:∀ e,Option (GE T nm N e)):(o:Option Expr)→Option (GO T nm N o)
 | none=>some ⟨.nil,fun X k=>tV⟩
 | some e=>do
   let a ← f e
   let h ← no (bG a.1)
   some ⟨a.1,fun X k=>tW h.down (a.2 X k).1⟩
end
end L2.Ev
end
section
namespace L2.Bw
theorem tq (a1:typeLookup (.type T) "__init__" = pure (some (.builtin "object.__init__"))) (a2:Bind.madeBy (.type T)=pure (some newId))
 (a3:(some newId != some "object.__new__")=true) (a4:more≠[]):Meets (Builtin.«object.__init__» ⟨me :: more,kws⟩) (fun _ R s=>s.TypeIs me T∧R (.ok (.ret .none)) s):=by
 refine Meets.of_wp fun prog w A R s q=>?_
 obtain ⟨ty,q⟩:=q
 cases more with
 | nil=>exact ZX rfl a4
 | cons b more=>
   repeat (any_goals (first | assumption | wp_step))
   exact ⟨_,rfl,q⟩
section
variable {prog:Program} {w:World} {A:Around} {E:Value→Shared→Prop} {s:Shared}
theorem jG (ft:TypeCalled T newId "object.__init__") (ne:(some newId != some "object.__new__")=true) (na:args≠[])
 (c1:checkTypeCall T ⟨args,kws⟩=pure ()) (c2:checkBuiltinCall newId ⟨.type T :: args,kws⟩=pure ()) (e1:entryFor table newId=some Bn) (g:Meets (Bn ⟨.type T :: args,kws⟩) S) (h:S A.in1 (wants Q1 E) s)
 (hn:∀ obj s1,Q1 obj s1→s1.TypeIs obj T∧argsOk "object.__init__" ⟨obj :: args,kws⟩∧Q obj s1):wpAny (model prog w) A (call (.type T) args kws) Q E s:=by
 obtain ⟨c,tl,m1⟩:=ft.mro
 have m2:=ft.made
 have m3:=ft.sub
 refine wpAny_call (codeAny_of_tree ?_)
 show wpAny _ _ (callAny (.type T) _) _ _ _
 refine wpAny_pure ⟨Code.quiet_builtin _ (by decide +kernel),codeAny_builtin F.entry_type_call ?_⟩
 rw [Around.under_plain (weight_type_call_type T args kws) (units_type_call_type T args kws)]
 have m4:=ft.notType
 have m5:=ft.canCreate
 repeat (any_goals (first | assumption | wp_step))
 refine codeAny_mono (codeAny_call_builtin ft.plain e1 (wpAny_of_eq c2 (g prog w A.in1 _ s h))) fun r s1 q1=>?_
 cases r with
 | error e=>exact q1
 | ok fl=>
   cases fl with
   | ret obj=>
     obtain ⟨ty,ok,qq⟩:=hn _ _ q1
     have m6:=ft.init.lookup
     have m7:=ft.init.bind obj
     repeat (any_goals (first | assumption | wp_step))
     refine codeAny_mono (codeAny_call_builtin ft.init.plain F.entry_object_init (ft.init.check _ _ _ _ _ _ _ _ ty ok (tq m6 m2 ne na prog w A.in1 (wants (fun r s2=>r = .none∧Q obj s2) E) s1 ⟨ty,rfl,qq⟩))) fun r2 s2 q2=>?_
     cases r2 with
     | error e=>exact q2
     | ok f2=>
       cases f2 with
       | ret r=>
         obtain ⟨e,q3⟩:=q2
         subst e
         repeat (any_goals (first | assumption | wp_step))
       | _=>exact q2.elim
   | _=>exact q1.elim
theorem pP (t) (n) (tk) (hn:Builtin.SmallTypes.fitsIndex n=true) (items) :
 Meets (Builtin.«enumerate.__new__» ⟨[.type "enumerate",.ref t],[("start",.int n tk)]⟩) (fun _ R s=>s.heap.IsTuple t items ∧
  R (.ok (.ret (.ref (s.heap.push { cls:=.type "tuple_iterator",data:=.fields #[.ref t,.int 0 0] }).objs.size)))
    { s with heap:=(s.heap.push { cls:=.type "tuple_iterator",data:=.fields #[.ref t,.int 0 0] }).push { cls:=.type "enumerate",data:=.fields #[.none,.bool false,.ref s.heap.objs.size,rawInt n,.none,.none] } }):=
 .of_wp fun prog w A R s h=>by
  obtain ⟨hp,g,d,tk',os⟩:=s
  obtain ⟨ht,h⟩:=h
  have sub:=sub_enumerate
  wp_walk
  refine wpAny_stack_any fun st=>wpAny_pure ?_
  split
  ·rename_i c _ _ _ _ _
   cases (c == Value.type "enumerate")
   ·wp_walk using wpAny_pyIter_tuple ht
    exact ⟨_,rfl,h⟩
   ·wp_walk using wpAny_pyIter_tuple ht
    exact ⟨_,rfl,h⟩
  ·wp_walk using wpAny_pyIter_tuple ht
   exact ⟨_,rfl,h⟩
end
section
variable {prog:Program} {w:World} {A:Around} {E:Value→Shared→Prop} {s:Shared}
theorem nV {rest:List Expr} {kws:List Keyword} {Q:Value→Shared→Prop}
 (h:wpAny M A (spliced (backTo pos (starEach (e :: rest) env))) (fun vs s1=>wpAny M A (evalAll ((backToKw pos (keywordEach kws env)).map (·.2))) (fun ks s2=>wpAny M A (call (.type T) vs (((backToKw pos (keywordEach kws env)).filterMap (·.1)).zip ks)) Q E s2) E s1) E s)
 (he:starEach (e :: rest) env=(false,eval e env) :: starEach rest env) (h1:(backTo pos (starEach (e :: rest) env)).any (·.1)=false) (h2:(backToKw pos (keywordEach kws env)).all (·.1.isSome)=true) (h3:(backToKw pos (keywordEach kws env)).any (·.1.isNone)=false) :
 wpAny M A (callWith pos (.type T) [] (backTo pos (starEach (e :: rest) env)) (backToKw pos (keywordEach kws env))) Q E s:=by
 have k:wpAny M A (evalArgs (.type T) true (backTo pos (starEach (e :: rest) env)) (backToKw pos (keywordEach kws env))) (fun a s1=>wpAny M A (call (.type T) ([] ++ a.pos) a.kw) Q E s1) E s:=by
  rw [he] at h ⊢
  exact evalArgs_kwB h2 h
 unfold callWith
 refine wpAny_bind (wpAny_holding (thn k fun a s1 q=>wpAny_bind (wpAny_standAt ?_)))
 simp only [h1,h3,Bool.or_false]
 exact wpAny_bind (wpAny_pure (wpAny_bind (thn q fun r s2 q2=>wpAny_bind (wpAny_holding (wpAny_point (wpAny_pure q2))))))
theorem n9 (hn:Builtin.SmallTypes.fitsIndex n=true) (ht:s.heap.IsTuple t xs)
 (h:Q (.ref (s.heap.push { cls:=.type "tuple_iterator",data:=.fields #[.ref t,.int 0 0] }).objs.size)
  { s with heap:=(s.heap.push { cls:=.type "tuple_iterator",data:=.fields #[.ref t,.int 0 0] }).push { cls:=.type "enumerate",data:=.fields #[.none,.bool false,.ref s.heap.objs.size,rawInt n,.none,.none] } }) :
 wpAny (model prog w) A (call (.type "enumerate") [.ref t] [("start",.int n tk)]) Q E s:=by
 refine jG (Q1:=fun obj s1=>obj = .ref (s.heap.push { cls:=.type "tuple_iterator",data:=.fields #[.ref t,.int 0 0] }).objs.size∧s1={ s with heap:=(s.heap.push { cls:=.type "tuple_iterator",data:=.fields #[.ref t,.int 0 0] }).push { cls:=.type "enumerate",data:=.fields #[.none,.bool false,.ref s.heap.objs.size,rawInt n,.none,.none] } })
  F.called_enumerate (by decide) (by simp) (by kernel_rfl) (by kernel_rfl) F.entry_enumerate_new (pP t n tk hn xs) ⟨ht,rfl,rfl⟩ fun obj s1 q=>?_
 obtain ⟨e,e'⟩:=q
 subst e e'
 exact ⟨⟨_,Heap.get?_push_size _ rfl,rfl⟩,by first | (simp [argsOk];done) | (unfold argsOk;kernel_rfl) | (unfold argsOk;decide +kernel) | kernel_rfl,h⟩
end
end L2.Bw
namespace L2.Ev
open L2.Bw
theorem Draws.sh {prog:Program} {w:World} {A:Around} {it:Addr} {fp:List Addr} {n:Nat} {P:Nat→Value→Prop} {St:Nat→Heap→Prop} (D:Draws prog w A it fp n P St) (m:Nat):Draws prog w A it fp (m+n) (fun i v=>P (i - m) v) (fun i h=>m≤i∧St (i - m) h) where
 live:=fun i h st=>D.live _ h st.2
 frame:=fun i h h' st k=>⟨st.1,D.frame _ _ _ st.2 k⟩
 item:=fun i s Q E hi st hQ=>D.item (i - m) s Q E (by have:=st.1;omega) st.2 fun x h' tk p q sb=>hQ x h' tk p ⟨Nat.le_succ_of_le st.1,by rw [Nat.succ_sub st.1];exact q⟩ sb
 done:=fun s Q E st hE=>D.done s Q E (by have:=st.2;rwa [Nat.add_sub_cancel_left] at this) hE
theorem WalksT.sh {prog:Program} {w:World} {A:Around} {it:Addr} {fp wr:List Addr} {n:Nat} {Pt:Nat→Array Value→Prop} {St:Nat→Heap→Prop} {Mid:Nat→Addr→Heap→Prop} (m:Nat) (V:WalksT prog w A it fp wr (m+n) Pt St Mid):WalksT prog w A it fp wr n (fun i=>Pt (m+i)) (fun i=>St (m+i)) (fun i=>Mid (m+i)) where
 sub:=V.sub
 frame:=fun i=>V.frame (m+i)
 item:=fun i s Q E hi=>V.item (m+i) s Q E (Nat.add_lt_add_left hi m)
 go:=fun elts k pos i=>V.go elts k pos (m+i)
 apart:=fun i=>V.apart (m+i)
 done:=V.done
 self:=fun i=>V.self (m+i)
section
variable {X:Cx} {z z1:Z}
theorem qT {es:List Expr} {k:Nat} {tp kp:Pos} (hc:X.calm=true) (hx:Blt X "enumerate" (.type "enumerate")) (ha:LE X ea a) (hb:LE X eb b) (he:starEach [ea] X.env=(false,eval ea X.env) :: starEach [] X.env):LI X (.Tuple es k tp) (.Call (.Name "enumerate" p) [ea] [⟨some "start",eb,kp⟩] pos) (.it .enum2 (.cons a (.cons b .nil))):=fun z I nb=>by
 refine wpAny_Call_Name_kw (hx.ld I ?_)
 refine nV (Q:=fun v s1=>wpAny X.M X.A (pyIter v) (FI X z (.Tuple es k tp) (X.ev false (.it .enum2 (.cons a (.cons b .nil))) z.t)) NoE s1) ?_ he (by rw [he];rfl) rfl rfl
 rw [he]
 refine Calls.spliced_cons ((ha false).go .refl I (ev2 fun l s=>Out.of s ((itD .enum2 l).map D.lst)) nb fun z1 x u y1 x1 I1 r1 e1=>Calls.spliced_nil ?_)
 show wpAny _ _ (evalAll ((do let v ← eval eb X.env;standAt pos;pure v) :: [])) _ _ _
 refine wpAny_evalAll_cons (wpAny_bind ((hb false).go x1 I1 e1 nb fun z2 y v y2 x2 I2 r2 e2=>wpAny_bind (wpAny_standAt (wpAny_pure (wpAny_evalAll_nil ?_)))))
 cases x with
 | tup l=>
   cases y with
   | int n=>
     obtain ⟨ad,o,vs,rfl,g,⟨tc,⟨m,td⟩,hz⟩,r⟩:=r1.rd.st y2.st
     obtain ⟨tz,rfl⟩:=r2.rd
     have e2:X.ev false (.it .enum2 (.cons a (.cons b .nil))) z.t=Out.of z2.t ((if Builtin.SmallTypes.fitsIndex n=true∧0≤n then some (bP n l) else none).map D.lst):=e2
     by_cases hn:Builtin.SmallTypes.fitsIndex n=true∧0≤n
     ·rw [ZZ hn] at e2
      obtain ⟨hn,h0⟩:=hn
      obtain ⟨j,rfl⟩:=Int.eq_ofNat_of_zero_le h0
      have ht:z2.s.heap.IsTuple ad vs.toArray:=⟨o,I2.gh _ _ g,tc,m,td⟩
      have hlt:=Heap.lt_size (I2.gh _ _ g)
      have hsz:(z2.s.heap.push { cls:=.type "tuple_iterator",data:=.fields #[.ref ad,.int 0 0] }).objs.size=z2.s.heap.objs.size+1:=Heap.size_push ..
      refine n9 hn ht (wpAny_pyIter_enum (Heap.get?_push_size _ rfl) ?_)
      rw [hsz]
      have kk:∀ b o,z2.s.heap.get? b=some o→((z2.s.heap.push { cls:=.type "tuple_iterator",data:=.fields #[.ref ad,.int 0 0] }).push { cls:=.type "enumerate",data:=.fields #[.none,.bool false,.ref z2.s.heap.objs.size,rawInt (j:Int),.none,.none] }).get? b=some o:=fun b o e=>Heap.get?_push_of_some _ (Heap.get?_push_of_some _ e)
      have ge:IsEnum ((z2.s.heap.push { cls:=.type "tuple_iterator",data:=.fields #[.ref ad,.int 0 0] }).push { cls:=.type "enumerate",data:=.fields #[.none,.bool false,.ref z2.s.heap.objs.size,rawInt (j:Int),.none,.none] }) (z2.s.heap.objs.size+1) z2.s.heap.objs.size (j:Int) .none:=by rw [← hsz];exact Heap.get?_push_size _ rfl
      have gi:((z2.s.heap.push { cls:=.type "tuple_iterator",data:=.fields #[.ref ad,.int 0 0] }).push { cls:=.type "enumerate",data:=.fields #[.none,.bool false,.ref z2.s.heap.objs.size,rawInt (j:Int),.none,.none] }).get? z2.s.heap.objs.size=some { cls:=.type "tuple_iterator",data:=.fields #[.ref ad,.int 0 0] }:=Heap.get?_push_of_some _ (Heap.get?_push_size _ rfl)
      have rl:=r.len
      refine eU (ds:=bP (j:Int) l) x2 I2 (.hp (t:=z2.s.toks) kk) (Itr.walksT (I2.hd hc) (n:=vs.toArray.size) (by rw [fN];simpa using rl) (fun A hA=>WalksT.sh j (gD (Draws.sh (eR (A:=A.in1) hA z2.s.heap.objs.size ad (Nat.ne_of_lt hlt) vs.toArray) j) (z2.s.heap.objs.size+1) (Nat.succ_ne_self _) (nin _ 1 0 _ (by decide) hlt) List.mem_cons_self)) (fun i h st b hb=>?_) (fun _ _ _ m=>m.2) fun i vals d p1 p2=>?_) ⟨⟨.none,ge⟩,Nat.le_refl _,by rw [Nat.add_zero,Nat.sub_self];exact ⟨⟨_,gi,rfl,rfl⟩,⟨o,kk _ _ (I2.gh _ _ g),tc,m,td⟩⟩⟩ (fun b hb=>?_) e2
      ·obtain ⟨⟨old,e1⟩,_,⟨o2,e2,_⟩,_⟩:=st
       rcases List.mem_cons.mp hb with w | w
       ·rw [w];exact ⟨_,e1⟩
       ·rw [List.mem_singleton.mp w];exact ⟨o2,e2⟩
      ·obtain ⟨t,v,p3,rfl⟩:=p1
       rw [iR,Option.map_eq_some_iff] at p2
       obtain ⟨d',p4,rfl⟩:=p2
       rw [Nat.add_sub_cancel_left] at p3
       refine ⟨by simp [sizeLine_eq],_,rfl,fun ρ' G' h1 h2=>?_⟩
       exact .cons ⟨t,by rw [Int.natCast_add]⟩ (.cons ((r.mono h1 h2).v p4 p3) rfl)
      rcases List.mem_cons.mp hb with w | w
      ·rw [w];exact .inl ⟨fP (Nat.le_succ _),_,ge⟩
      ·rcases List.mem_cons.mp w with w | w
       ·rw [w];exact .inl ⟨aI z2,_,gi⟩
       ·rw [List.mem_singleton.mp w]
        refine .inr ⟨fun q=>?_,_,g⟩
        rcases List.mem_cons.mp q with q | q
        ·exact Nat.ne_of_lt (Nat.lt_succ_of_lt hlt) q
        ·exact Nat.ne_of_lt hlt (List.mem_singleton.mp q)
     ·rw [ZY hn] at e2;exact ZX e2 nb
   | _=>exact ZX e2 nb
 | _=>exact ZX (e2.trans (by cases y <;> rfl)) nb
end
end L2.Ev
end
section
namespace L2.Bw
section
variable {prog:Program} {w:World} {A:Around} {R:Result→Shared→Prop} {it:Addr} {fp wr:List Addr} {n:Nat} {f:Nat→Int} {Z:Nat→Heap→Prop}
abbrev gZ (f:Nat→Int):Nat→Value→Prop:=fun i v=>∃ t,v = .int (f i) t
abbrev dg (f:Nat→Int):Nat→Nat→Bool:=fun i j=>decide (f i>f j)
theorem xD (W:Walks prog w A.in1 it fp wr n (gZ f) Z) (kws:List (Str×Value)) (B:Addr) (nB:B ∉ fp) :
 ∀ (k j:Nat) (s:Shared) (u:Value) (c:Nat),n - (j+1)=k→j+1≤n→Z (j+1) s.heap→gZ f (argBest (dg f) j) u→s.heap.get? B=some { cls:=.type "list",dict:=none,data:=.seq #[u,u] c,slots:=#[] } →
 (∀ v h1 tk,gZ f (argBest (dg f) (n - 1)) v→(∀ b o,b ∉ wr→b≠B→s.heap.get? b=some o→h1.get? b=some o)→R (.ok (.ret v)) { s with heap:=h1,toks:=tk }) →
 codeAny (model prog w) A (.builtin "max.loop" ⟨[.ref it,.none,.ref B],kws⟩) R s:=by
 have nw:B ∉ wr:=fun h=>nB (W.sub _ h)
 have nm:(toString "max" ++ toString ".loop":String) = "max.loop":=by decide
 have cmp:CmpOf prog w A.in1 .Gt (gZ f) (dg f):=CmpOf.ints_gt f fun _ _ h=>h
 intro k
 induction k with
 | zero=>
   intro j s u c hk hj hz hu hB hR
   have e:j+1=n:=by omega
   refine codeAny_builtin F.entry_max_loop ?_
   rw [Around.under_plainId F.plain_max_loop _]
   show wpAny _ A.in1 (seqItems? (.ref B) >>= fun _=>_) _ _ s
   refine wpAny_bind (wpAny_seqItems hB rfl ?_)
   show wpAny _ A.in1 (tryCatch (pyNext (.ref it)) _ >>= fun _=>_) _ _ s
   refine wpAny_bind (wpAny_tryCatch (W.done s _ _ (e ▸ hz) fun h1 tk k1=>?_))
   show wpAny _ A.in1 (updateSeq B (fun _=>#[]) >>= fun _=>_) _ _ _
   refine wpAny_bind (wpAny_updateSeq (k1 B _ nw hB) rfl (wpAny_bind (wpAny_letGo (wpAny_pure ?_))))
   exact hR u _ tk (by rw [← e];exact hu) fun b o n1 n2 q=>(Heap.get?_update_other _ _ (Ne.symm n2)).trans (k1 b o n1 q)
 | succ k ih=>
   intro j s u c hk hj hz hu hB hR
   have lt:j+1<n:=by omega
   refine codeAny_builtin F.entry_max_loop ?_
   rw [Around.under_plainId F.plain_max_loop _]
   show wpAny _ A.in1 (seqItems? (.ref B) >>= fun _=>_) _ _ s
   refine wpAny_bind (wpAny_seqItems hB rfl ?_)
   show wpAny _ A.in1 (tryCatch (pyNext (.ref it)) _ >>= fun _=>_) _ _ s
   refine wpAny_bind (wpAny_tryCatch (W.item (j+1) s _ _ lt hz fun v h1 tk hv hz1 k1=>?_))
   have hB1:=k1 B _ nw hB
   show wpAny _ A.in1 (tryCatch (holding [v,v] (richCompare .Gt v u >>= _)) _ >>= fun _=>_) _ _ _
   refine wpAny_bind (wpAny_tryCatch (wpAny_holding (wpAny_bind (cmp (j+1) (argBest (dg f) j) v u _ _ _ hv hu ?_))))
   refine wpAny_bind (wpAny_holding (wpAny_truthy_bool (wpAny_bind (wpAny_letGo (wpAny_pure ?_)))))
   cases hb:dg f (j+1) (argBest (dg f) j) with
   | true=>
     simp only [if_true]
     refine wpAny_bind (wpAny_updateSeq hB1 rfl (wpAny_bind (wpAny_letGo ?_)))
     rw [nm]
     refine wpAny_pure ⟨plainId_quiet F.plain_max_loop _,ih (j+1) _ v _ (by omega) lt (W.frame _ _ _ hz1 fun b hbf o q=>(Heap.get?_update_other _ _ (fun z:B=b=>nB (by rw [z];exact hbf))).trans q) ?_ (Heap.get?_update_self _ hB1 rfl) fun v' h2 tk2 hv' k2=>?_⟩
     ·simp only [argBest,hb,if_true];exact hv
     ·exact hR v' h2 tk2 hv' fun b o n1 n2 q=>k2 b o n1 n2 ((Heap.get?_update_other _ _ (Ne.symm n2)).trans (k1 b o n1 q))
   | false=>
     simp only [Bool.false_eq_true,if_false]
     refine wpAny_bind (wpAny_letGo ?_)
     rw [nm]
     refine wpAny_pure ⟨plainId_quiet F.plain_max_loop _,ih (j+1) _ u c (by omega) lt hz1 ?_ hB1 fun v' h2 tk2 hv' k2=>hR v' h2 tk2 hv' fun b o n1 n2 q=>k2 b o n1 n2 (k1 b o n1 q)⟩
     simp only [argBest,hb,Bool.false_eq_true,if_false];exact hu
theorem iL (f:Nat→Int):∀ k i,i≤k→f i≤f (argBest (dg f) k)
 | 0,i,h=>by cases (show i=0 by omega);exact Int.le_refl _
 | k+1,i,h=>by
   unfold argBest
   cases hb:dg f (k+1) (argBest (dg f) k) with
   | true=>
     have hb':f (k+1)>f (argBest (dg f) k):=of_decide_eq_true hb
     simp only [if_true]
     by_cases e:i=k+1
     ·rw [e];exact Int.le_refl _
     ·have:=iL f k i (by omega);omega
   | false=>
     have hb':¬ f (k+1)>f (argBest (dg f) k):=of_decide_eq_false hb
     simp only [Bool.false_eq_true,if_false]
     by_cases e:i=k+1
     ·rw [e];omega
     ·exact iL f k i (by omega)
theorem lU (f:Nat→Int):∀ k,argBest (dg f) k≤k
 | 0=>Nat.le_refl _
 | k+1=>by
   unfold argBest
   cases dg f (k+1) (argBest (dg f) k) with
   | true=>exact Nat.le_refl _
   | false=>exact Nat.le_trans (lU f k) (Nat.le_succ _)
end
theorem pZ (r:List Int):∀ x:Int,x≤r.foldl (fun a b=>if b>a then b else a) x∧(∀ y∈r,y≤r.foldl (fun a b=>if b>a then b else a) x)∧(r.foldl (fun a b=>if b>a then b else a) x=x∨r.foldl (fun a b=>if b>a then b else a) x∈r):=by
 induction r with
 | nil=>intro x;exact ⟨Int.le_refl _,fun y h=>(nomatch h),.inl rfl⟩
 | cons b r ih=>
   intro x
   have h:=ih (if b>x then b else x)
   rw [List.foldl_cons]
   obtain ⟨h1,h2,h3⟩:=h
   by_cases c:b>x
   ·rw [ZZ c] at h1 h2 h3 ⊢
    refine ⟨by omega,fun y hy=>?_,?_⟩
    ·rcases List.mem_cons.mp hy with rfl | hy
     ·exact h1
     ·exact h2 y hy
    ·rcases h3 with h3 | h3
     ·exact .inr (by rw [h3];exact List.mem_cons_self)
     ·exact .inr (List.mem_cons_of_mem _ h3)
   ·rw [ZY c] at h1 h2 h3 ⊢
    refine ⟨h1,fun y hy=>?_,?_⟩
    ·rcases List.mem_cons.mp hy with rfl | hy
     ·omega
     ·exact h2 y hy
    ·rcases h3 with h3 | h3
     ·exact .inl h3
     ·exact .inr (List.mem_cons_of_mem _ h3)
theorem ui {d m:Int} {ns:List Int} (ne:ns≠[]) (hm:m∈ns) (hg:∀ y∈ns,y≤m):maxD d ns=m:=by
 cases ns with
 | nil=>exact ZX rfl ne
 | cons x r=>
   obtain ⟨h1,h2,h3⟩:=pZ r x
   have k1:maxD d (x :: r)=r.foldl (fun a b=>if b>a then b else a) x:=rfl
   rw [k1]
   have a1:r.foldl (fun a b=>if b>a then b else a) x≤m:=by
    rcases h3 with h3 | h3
    ·rw [h3];exact hg x List.mem_cons_self
    ·exact hg _ (List.mem_cons_of_mem _ h3)
   have a2:m≤r.foldl (fun a b=>if b>a then b else a) x:=by
    rcases List.mem_cons.mp hm with rfl | hm
    ·exact h1
    ·exact h2 m hm
   omega
theorem eV:∀ {us:List Value} {ns:List Int} {i:Nat} {v:Value},IntsAre us ns→us[i]? = some v→∃ t,v = .int (ns.getD i 0) t
 | _,_,_,_,.nil,e=>by simp at e
 | _,_,0,v,.cons _ t _,e=>by simp at e;subst e;exact ⟨t,by simp⟩
 | _,_,i+1,v,.cons _ _ r,e=>by
   obtain ⟨t,h⟩:=eV (i:=i) r (by simpa using e)
   exact ⟨t,by simpa using h⟩
theorem xE {prog:Program} {w:World} {A:Around} {E:Value→Shared→Prop} {s:Shared} {l:Addr} {us:List Value} {ns:List Int} {d:Int} {td:Tok} {Q:Value→Shared→Prop} (hh:A.handled=none) (hl:s.heap.IsList l us.toArray) (hi:IntsAre us ns)
 (q:∀ t h1 tk,(∀ b o,s.heap.get? b=some o→h1.get? b=some o)→Q (.int (maxD d ns) t) { s with heap:=h1,toks:=tk }):wpAny (model prog w) A (call (.builtin "max") [.ref l] [("default",.int d td)]) Q E s:=by
 have nm:(toString "max" ++ toString ".loop":String) = "max.loop":=by decide
 have hlt:l<s.heap.objs.size:=by obtain ⟨_,e,_⟩:=hl;exact Heap.lt_size e
 refine wpAny_call (codeAny_call_builtin F.plain_max F.entry_max (wpAny_of_eq (a:=()) (by kernel_rfl) ?_))
 show wpAny _ A.in1 (Builtin.Builtins.bindParams "max" ["key","default"] 0 ⟨[],[("default",.int d td)]⟩ >>= fun _=>_) _ _ s
 refine wpAny_bind (wpAny_of_eq (a:=[none,some (.int d td)]) (by rfl) (wpAny_bind (wpAny_pure ?_)))
 refine wpAny_bind (wpAny_pyIter_list hl (wpAny_bind (wpAny_newObj_type ?_)))
 rw [nm]
 let it:Addr:=s.heap.objs.size
 generalize hh1:s.heap.push { cls:=.type "list_iterator",data:=.fields #[.ref l,.int 0 0] }=h1
 have sz1:h1.objs.size=s.heap.objs.size+1:=by rw [← hh1];exact Heap.size_push ..
 have kp1:∀ b o,s.heap.get? b=some o→h1.get? b=some o:=fun b o e=>by rw [← hh1];exact Heap.get?_push_of_some _ e
 have it1:h1.IsListIter s.heap.objs.size l 0:=by rw [← hh1];exact ⟨_,Heap.get?_push_size _ rfl,rfl,rfl⟩
 have W:=Walks.list (prog:=prog) (w:=w) (A:=A.in1) hh s.heap.objs.size l (Nat.ne_of_lt hlt) us.toArray
 have nB:h1.objs.size ∉ [s.heap.objs.size,l]:=fun hm=>by
  rw [sz1] at hm
  rcases List.mem_cons.mp hm with z | z
  ·exact ZX z (Nat.succ_ne_self _)
  ·rw [List.mem_singleton] at z;exact ZX hlt (by rw [← z];exact Nat.not_lt.mpr (Nat.le_succ _))
 have hlen:us.length=ns.length:=hi.length
 have hB:(h1.push { cls:=.type "list",dict:=none,data:=.seq ([]:List Value).toArray }).get? h1.objs.size=some { cls:=.type "list",dict:=none,data:=.seq #[] 0,slots:=#[] }:=Heap.get?_push_size _ rfl
 have st0:(h1.push { cls:=.type "list",dict:=none,data:=.seq ([]:List Value).toArray }).IsListIter s.heap.objs.size l 0∧(h1.push { cls:=.type "list",dict:=none,data:=.seq ([]:List Value).toArray }).IsList l us.toArray:=
  ⟨it1.at fun o e=>Heap.get?_push_of_some _ e,(hl.at fun o e=>kp1 l o e).at fun o e=>Heap.get?_push_of_some _ e⟩
 have back:∀ (h2:Heap),(∀ b o,b ∉ [s.heap.objs.size]→b≠h1.objs.size→(h1.push { cls:=.type "list",dict:=none,data:=.seq ([]:List Value).toArray }).get? b=some o→h2.get? b=some o)→∀ b o,s.heap.get? b=some o→h2.get? b=some o:=fun h2 k b o e=>by
  have lt:=Heap.lt_size e
  refine k b o (fun z=>?_) (fun z=>?_) (Heap.get?_push_of_some _ (kp1 b o e))
  ·rw [List.mem_singleton.mp z] at lt;exact Nat.lt_irrefl _ lt
  ·rw [z,sz1] at lt;exact ZX lt (Nat.not_lt.mpr (Nat.le_succ _))
 refine wpAny_pure ⟨plainId_quiet F.plain_max_loop _,?_⟩
 refine codeAny_builtin F.entry_max_loop ?_
 rw [Around.under_plainId F.plain_max_loop _]
 show wpAny _ A.in1 (seqItems? (.ref h1.objs.size) >>= fun _=>_) _ _ _
 refine wpAny_bind (wpAny_seqItems hB rfl ?_)
 show wpAny _ A.in1 (tryCatch (pyNext (.ref s.heap.objs.size)) _ >>= fun _=>_) _ _ _
 cases hns:ns with
 | nil=>
   have hz:us.toArray.size=0:=by rw [hns] at hlen;simpa using hlen
   refine wpAny_bind (wpAny_tryCatch (W.done _ _ _ (by rw [hz];exact st0) fun h2 tk k2=>?_))
   refine wpAny_bind (wpAny_rule (wpAny_pure ?_))
   have:=q td h2 tk (back h2 fun b o n1 n2 e=>k2 b o n1 e)
   rw [hns] at this
   exact this
 | cons x r=>
   have hz:0<us.toArray.size:=by rw [hns] at hlen;simp;rw [hlen];simp
   let f:Nat→Int:=fun i=>ns.getD i 0
   have P:∀ i v,us.toArray[i]? = some v→gZ f i v:=fun i v e=>by
    have e':us[i]? = some v:=by simpa using e
    obtain ⟨t,ht⟩:=eV hi e'
    exact ⟨t,ht⟩
   have W':Walks prog w A.in1 s.heap.objs.size [s.heap.objs.size,l] [s.heap.objs.size] us.toArray.size (gZ f) (fun i h=>h.IsListIter s.heap.objs.size l i∧h.IsList l us.toArray):=
    { sub:=W.sub,frame:=W.frame,done:=W.done,self:=W.self,item:=fun i s Q E hi st hQ=>W.item i s Q E hi st fun v h' tk hP=>hQ v h' tk (P i v hP) }
   refine wpAny_bind (wpAny_tryCatch (W'.item 0 _ _ _ hz st0 fun v h2 tk hv st2 k2=>?_))
   have nBw:h1.objs.size ∉ [s.heap.objs.size]:=fun z=>nB (by rw [List.mem_singleton.mp z];exact List.mem_cons_self)
   have hB2:=k2 _ _ nBw hB
   show wpAny _ A.in1 (updateSeq h1.objs.size (fun _=>#[v,v]) >>= fun _=>_) _ _ _
   refine wpAny_bind (wpAny_updateSeq hB2 rfl ?_)
   rw [nm]
   refine wpAny_pure ⟨plainId_quiet F.plain_max_loop _,xD W' _ h1.objs.size nB _ 0 _ v _ rfl hz (W'.frame _ _ _ st2 fun b hb o e=>(Heap.get?_update_other _ _ (fun z:h1.objs.size=b=>nB (by rw [z];exact hb))).trans e) hv (Heap.get?_update_self _ hB2 rfl) fun v' h3 tk3 hv' k3=>?_⟩
   obtain ⟨t',e'⟩:=hv'
   have lt:=lU f (us.toArray.size - 1)
   have hmem:f (argBest (dg f) (us.toArray.size - 1))=maxD d ns:=by
    have hl2:argBest (dg f) (us.toArray.size - 1)<ns.length:=by simp at lt hz ⊢;omega
    refine (ui (by rw [hns];simp) ?_ fun y hy=>?_).symm
    ·show ns.getD _ 0∈ns
     rw [List.getD_eq_getElem?_getD,List.getElem?_eq_getElem hl2]
     exact List.getElem_mem _
    ·obtain ⟨i,hi',rfl⟩:=List.mem_iff_getElem.mp hy
     have:=iL f (us.toArray.size - 1) i (by simp;omega)
     have e2:f i=ns[i]:=by show ns.getD i 0=_;rw [List.getD_eq_getElem?_getD,List.getElem?_eq_getElem hi'];rfl
     rw [← e2];exact this
   have q':=q t' h3 tk3 (back h3 fun b o n1 n2 e=>k3 b o n1 n2 ((Heap.get?_update_other _ _ (Ne.symm n2)).trans (k2 b o n1 e)))
   subst e'
   rw [hmem]
   exact q'
section
variable {M:Model} {A:Around} {E:Value→Shared→Prop} {s:Shared} {env:Env} {pos:Pos} {e:Expr}
theorem pI {id:String} {rest:List Expr} {kws:List Keyword} {Q:Value→Shared→Prop}
 (h:wpAny M A (spliced (backTo pos (starEach (e :: rest) env))) (fun vs s1=>wpAny M A (evalAll ((backToKw pos (keywordEach kws env)).map (·.2))) (fun ks s2=>wpAny M A (call (.builtin id) vs (((backToKw pos (keywordEach kws env)).filterMap (·.1)).zip ks)) Q E s2) E s1) E s)
 (he:starEach (e :: rest) env=(false,eval e env) :: starEach rest env) (h1:(backTo pos (starEach (e :: rest) env)).any (·.1)=false) (h2:(backToKw pos (keywordEach kws env)).all (·.1.isSome)=true) (h3:(backToKw pos (keywordEach kws env)).any (·.1.isNone)=false) :
 wpAny M A (callWith pos (.builtin id) [] (backTo pos (starEach (e :: rest) env)) (backToKw pos (keywordEach kws env))) Q E s:=by
 have k:wpAny M A (evalArgs (.builtin id) true (backTo pos (starEach (e :: rest) env)) (backToKw pos (keywordEach kws env))) (fun a s1=>wpAny M A (call (.builtin id) ([] ++ a.pos) a.kw) Q E s1) E s:=by
  rw [he] at h ⊢
  exact evalArgs_kwB h2 h
 unfold callWith
 refine wpAny_bind (wpAny_holding (thn k fun a s1 q=>wpAny_bind (wpAny_standAt ?_)))
 simp only [h1,h3,Bool.or_false]
 exact wpAny_bind (wpAny_pure (wpAny_bind (thn q fun r s2 q2=>wpAny_bind (wpAny_holding (wpAny_point (wpAny_pure q2))))))
end
end L2.Bw
namespace L2.Ev
open L2.Bw
section
variable {X:Cx}
theorem tM {kp:Pos} (hc:X.calm=true) (hx:Blt X "max" (.builtin "max")) (ha:LE X ea a) (hb:LE X eb b) (he:starEach [ea] X.env=(false,eval ea X.env) :: starEach [] X.env):LE X (.Call (.Name "max" p) [ea] [⟨some "default",eb,kp⟩] pos) (.bi .max0 (.cons a (.cons b .nil))):=fun br z I nb=>by
 refine wpAny_Call_Name_kw (hx.ld I ?_)
 refine pI ?_ he (by rw [he];rfl) rfl rfl
 rw [he]
 refine Calls.spliced_cons ((ha true).go .refl I (ev2 fun l s=>Out.of s (biD .max0 (l.map (look s.st)))) nb fun z1 x u y1 x1 I1 r1 e1=>Calls.spliced_nil ?_)
 show wpAny _ _ (evalAll ((do let v ← eval eb X.env;standAt pos;pure v) :: [])) _ _ _
 refine wpAny_evalAll_cons (wpAny_bind ((hb true).go x1 I1 e1 nb fun z2 y v y2 x2 I2 r2 e2=>wpAny_bind (wpAny_standAt (wpAny_pure (wpAny_evalAll_nil ?_)))))
 refine cW x2 I2 e2 nb fun d q=>?_
 have c1:=(r1.rb.st y2 I2).cr I2
 have c2:=r2.rb.cr I2
 have q:vZ .max0 (look z2.t.st x) (look z2.t.st y)=some d:=q
 revert q c1 c2
 generalize look z2.t.st x=x'
 generalize look z2.t.st y=y'
 intro c1 c2 q
 cases x' with
 | lst l=>
   cases y' with
   | int d0=>
     obtain ⟨ns,q1,rfl⟩:=Option.map_eq_some_iff.mp q
     obtain ⟨a0,o,vs,rfl,g,⟨⟨n,rfl⟩,hz⟩,r⟩:=c1
     obtain ⟨t,rfl⟩:=(show ∃ t,v=Value.int d0 t from c2)
     exact xE (I2.hd hc) (show z2.s.heap.IsList a0 vs.toArray from ⟨_,g,rfl,n,rfl⟩) (kt q1 r) fun t h1 tk kp=>.flat (.hp kp) fun G=>⟨t,rfl⟩
   | _=>cases q
 | _=>cases q
end
end L2.Ev
end
section
namespace L2.Ev
def isP (x y:Str):Option (PLift (x=y)):=match h:x == y with
 | true=>some ⟨by simpa using h⟩
 | false=>none
theorem jP:bf (.bi b es)=bf (.bi b .nil):=by cases b <;> rfl
abbrev yG (x:Str) (b:Bi):Prop:=∀ X:Cx,X.calm=true→∃ f,FB f∧bootBuiltins x=some f∧((Bi1 X f b∧bf (.bi b .nil)=false)∨sx X f b)
def AO:List {q:Str×Bi // yG q.1 q.2}:=[
 ⟨("len",.len),fun X c=>⟨_,.inl ⟨_,rfl⟩,boot_len,.inl ⟨v8,rfl⟩⟩⟩,
 ⟨("tuple",.tuple),fun X c=>⟨_,.inr ⟨_,rfl⟩,PyProof.Rows.boot_tuple,.inl ⟨pD,rfl⟩⟩⟩,
 ⟨("list",.list),fun X c=>⟨_,.inr ⟨_,rfl⟩,PyProof.Rows.boot_list,.inr sG⟩⟩,
 ⟨("dict",.dict),fun X c=>⟨_,.inr ⟨_,rfl⟩,PyProof.Rows.boot_dict,.inr sF⟩⟩,
 ⟨("abs",.abs),fun X c=>⟨_,.inl ⟨_,rfl⟩,boot_abs,.inl ⟨v6,rfl⟩⟩⟩,
 ⟨("int",.int),fun X c=>⟨_,.inr ⟨_,rfl⟩,PyProof.Rows.boot_int,.inl ⟨v7,rfl⟩⟩⟩]
abbrev yH (x:Str) (b:Bi):Prop:=bf (.bi b .nil)=false∧∀ X:Cx,X.calm=true→∃ f,FB f∧bootBuiltins x=some f∧Bi2 X f b
def AP:List {q:Str×Bi // yH q.1 q.2}:=[]
def sE {P:Str→Bi→Prop} (x:Str):List {q:Str×Bi // P q.1 q.2}→Option {b:Bi // P x b}
 | []=>none
 | q :: r=>match isP q.1.1 x with
   | some h=>some ⟨q.1.2,by rw [← h.down];exact q.2⟩
   | none=>sE x r
abbrev yN (x:Str) (b:Bi):Prop:=(b = .isTup∨b = .isStr∨b = .isBool∨b = .isInt∨b = .isLst∨b = .isDic)∧bootBuiltins x=some (.type (tyN b))
def tys:List {q:Str×Bi // yN q.1 q.2}:=[⟨("tuple",.isTup),.inl rfl,PyProof.Rows.boot_tuple⟩,⟨("int",.isInt),.inr (.inr (.inr (.inl rfl))),PyProof.Rows.boot_int⟩,⟨("dict",.isDic),.inr (.inr (.inr (.inr (.inr rfl)))),PyProof.Rows.boot_dict⟩]
section
variable {T:Ns} {nm:NK} {N:List Str}
def iN (T:Ns) (nm:NK) (x:Str):Option (PLift (x∈T.bl∧b9 nm x=true)):=do
 let m ← re x T.bl
 let g ← yes (b9 nm x)
 some ⟨m.down,g.down⟩
theorem bW (k:CxOk T X nm N) (h:x∈T.bl∧b9 nm x=true) (hv:bootBuiltins x=some u) (hn:x≠"__name__":=by decide) (hd:(x == ("__debug__":Str))=false:=by decide):Blt X x u:=⟨bF k.sc h.2,k.blt x h.1,hv,hn,hd⟩
def AS (f:∀ e,Option (GE T nm N e)) (x:Str) (p:Pos) (hx:x≠"__name__") (hd:(x == ("__debug__":Str))=false) (m:x∈T.bl∧b9 nm x=true):(es:List Expr)→(pos:Pos)→Option (GE T nm N (.Call (.Name x p) es [] pos))
 | [e],pos=>do
   let he ← yes (aP e)
   let a ← f e
   let b ← sE x AO
   some ⟨.bi b.1 (.cons a.1 .nil),fun X k=>by
    obtain ⟨fv,h1,h2,h3⟩:=b.2 X k.calm
    rcases h3 with ⟨h3,h4⟩ | h3
    ·exact mk (wX h3 h1 (bW k m h2 hx hd) (a.2 X k).1 (af he.down)) (jP.trans h4)
    ·exact mkf (xj h3 h1 (bW k m h2 hx hd) (a.2 X k).1 (af he.down))⟩
 | [e,g],pos=>do
   let he ← yes (aP e)
   let hg ← yes (aP g)
   let a ← f e
   let c ← f g
   let b ← sE x AP
   some ⟨.bi b.1 (.cons a.1 (.cons c.1 .nil)),fun X k=>by
    obtain ⟨fv,h1,h2,h3⟩:=b.2.2 X k.calm
    exact mk (wY h3 h1 (bW k m h2 hx hd) (a.2 X k).1 (c.2 X k).1 (af he.down) (af hg.down)) (jP.trans b.2.1)⟩
 | _,_=>none
def u4 (f:∀ e,Option (GE T nm N e)) (x:Str) (p:Pos) (e:Expr) (er:List Expr) (pos:Pos):Option (GE T nm N (.Call (.Name x p) (e :: er) [] pos)):=do
 let hd ← no (x == ("__debug__":Str))
 let hnm ← no (x == ("__name__":Str))
 let hg ← yes (b9 nm x)
 match AM x T.alt T.fn with
 | some j=>
   let hn ← yes (er.all aP)
   let he ← yes (aP e)
   let a ← eQ f (e :: er)
   some (if T.oc.contains x then ⟨.fcall true j.1 a.1,fun X k=>by
    obtain ⟨n,fa,h1,h2,h3⟩:=k.fns j.1 x j.2
    exact mkf (qQ h1 h2 (bF k.sc hg.down) h3 (a.2 X k) hd.down (af he.down) (bA (List.all_eq_true.mp hn.down)))⟩ else if T.fc.contains x then ⟨.fcall false j.1 a.1,fun X k=>by
    obtain ⟨n,fa,h1,h2,h3⟩:=k.fns j.1 x j.2
    exact mk (qK h1 h2 (bF k.sc hg.down) h3 (a.2 X k) hd.down (af he.down) (bA (List.all_eq_true.mp hn.down)))⟩ else if T.hc.contains x then ⟨.hcall j.1 a.1,fun X k=>by
    obtain ⟨n,fa,h1,h2,h3⟩:=k.fns j.1 x j.2
    exact mk (qL h1 h2 (bF k.sc hg.down) h3 (a.2 X k) hd.down (af he.down) (bA (List.all_eq_true.mp hn.down)))⟩ else ⟨.call j.1 a.1,fun X k=>by
    obtain ⟨n,fa,h1,h2,h3⟩:=k.fns j.1 x j.2
    exact mk (tI h1 h2 (bF k.sc hg.down) h3 (a.2 X k) hd.down (af he.down) (bA (List.all_eq_true.mp hn.down)))⟩)
 | none=>
   let m ← re x T.bl
   AS f x p (by simpa using hnm.down) hd.down ⟨m.down,hg.down⟩ (e :: er) pos
def cIs (f:∀ e,Option (GE T nm N e)) (y:Str) (p:Pos) (ea:Expr) (x:Str) (q pos:Pos):Option (GE T nm N (.Call (.Name y p) [ea,.Name x q] [] pos)):=do
 let hy ← isP "isinstance" y
 let g1 ← iN T nm "isinstance"
 let g2 ← iN T nm x
 let b ← sE (P:=yN) x tys
 let hd ← no (x == ("__debug__":Str))
 let hnm ← no (x == ("__name__":Str))
 let he ← yes (aP ea)
 let a ← f ea
 some ⟨.bi b.1 (.cons a.1 .nil),fun X k=>by
  obtain rfl:=hy.down
  exact mk (zO b.2.1 (bW k g1.down PyProof.Rows.boot_isinstance) (bW k g2.down b.2.2 (by simpa using hnm.down) hd.down) (a.2 X k).1 (af he.down)) (by rcases b.2.1 with w | w | w | w | w | w <;> rw [w] <;> rfl)⟩
def A7 (f:∀ e,Option (GE T nm N e)) (y:Str) (p:Pos) (ea:Expr) (x:Str) (q pos:Pos):Option (GE T nm N (.Call (.Name y p) [ea,.Name x q] [] pos)):=none
def A6 (f:∀ e,Option (GE T nm N e)) (y:Str) (p:Pos) (ea:Expr) (x1 x2 x3:Str) (q1 q2 q3:Pos) (k:Nat) (q pos:Pos):Option (GE T nm N (.Call (.Name y p) [ea,.Tuple [.Name x1 q1,.Name x2 q2,.Name x3 q3] k q] [] pos)):=none
def Bd (f:∀ e,Option (GE T nm N e)) (x y:Str) (p1 p2:Pos) (ea:Expr) (pos2 pos:Pos):Option (GE T nm N (.Call (.Name x p1) [.Call (.Name y p2) [ea] [] pos2] [] pos)):=none
def hX (f:∀ e,Option (GE T nm N e)) (tg e:Expr):Option (GI T nm N tg e):=(f e).map fun a=>⟨.itv a.1,fun X k=>BB k.calm (a.2 X k).1⟩
def cR1 (f:∀ e,Option (GE T nm N e)) (tg:Expr) (x:Str) (p:Pos) (a:Expr) (pos:Pos):Option (GI T nm N tg (.Call (.Name x p) [a] [] pos)):=do
 let hx ← isP "range" x
 let g ← iN T nm "range"
 let he ← yes (aP a)
 let u ← f a
 some ⟨.it .range1 (.cons u.1 .nil),fun X k=>by
  obtain rfl:=hx.down
  exact oK k.calm (bW k g.down boot_range) (u.2 X k).1 (af he.down)⟩
def cR2 (f:∀ e,Option (GE T nm N e)) (tg:Expr) (x:Str) (p:Pos) (a b:Expr) (pos:Pos):Option (GI T nm N tg (.Call (.Name x p) [a,b] [] pos)):=do
 let hx ← isP "range" x
 let g ← iN T nm "range"
 let he ← yes (aP a)
 let hb ← yes (aP b)
 let u ← f a
 let v ← f b
 some ⟨.it .range2 (.cons u.1 (.cons v.1 .nil)),fun X k=>by
  obtain rfl:=hx.down
  exact oM k.calm (bW k g.down boot_range) (u.2 X k).1 (v.2 X k).1 (af he.down) (af hb.down)⟩
def cE1 (f:∀ e,Option (GE T nm N e)) (ts:List Expr) (n:Nat) (tp:Pos) (x:Str) (p:Pos) (a:Expr) (pos:Pos):Option (GI T nm N (.Tuple ts n tp) (.Call (.Name x p) [a] [] pos)):=do
 let hx ← isP "enumerate" x
 let g ← iN T nm "enumerate"
 let he ← yes (aP a)
 let u ← f a
 some ⟨.it .enum (.cons u.1 .nil),fun X k=>by
  obtain rfl:=hx.down
  exact tR k.calm (bW k g.down boot_enumerate) (u.2 X k).1 (af he.down)⟩
def cE2 (f:∀ e,Option (GE T nm N e)) (ts:List Expr) (n:Nat) (tp:Pos) (x y:Str) (p:Pos) (a b:Expr) (kp pos:Pos):Option (GI T nm N (.Tuple ts n tp) (.Call (.Name x p) [a] [⟨some y,b,kp⟩] pos)):=do
 let hx ← isP "enumerate" x
 let hy ← isP "start" y
 let g ← iN T nm "enumerate"
 let he ← yes (aP a)
 let u ← f a
 let w ← f b
 some ⟨.it .enum2 (.cons u.1 (.cons w.1 .nil)),fun X k=>by
  obtain rfl:=hx.down
  obtain rfl:=hy.down
  exact qT k.calm (bW k g.down boot_enumerate) (u.2 X k).1 (w.2 X k).1 (af he.down)⟩
def cZ2 (f:∀ e,Option (GE T nm N e)) (ts:List Expr) (n:Nat) (tp:Pos) (x:Str) (p:Pos) (a b:Expr) (pos:Pos):Option (GI T nm N (.Tuple ts n tp) (.Call (.Name x p) [a,b] [] pos)):=do
 let hx ← isP "zip" x
 let g ← iN T nm "zip"
 let ha ← yes (aP a)
 let hb ← yes (aP b)
 let u ← f a
 let v ← f b
 some ⟨.it .zip2 (.cons u.1 (.cons v.1 .nil)),fun X k=>by
  obtain rfl:=hx.down
  exact tS k.calm (bW k g.down boot_zip) (u.2 X k).1 (v.2 X k).1 (af ha.down) (af hb.down)⟩
def cZ3 (f:∀ e,Option (GE T nm N e)) (ts:List Expr) (n:Nat) (tp:Pos) (x:Str) (p:Pos) (a b c:Expr) (pos:Pos):Option (GI T nm N (.Tuple ts n tp) (.Call (.Name x p) [a,b,c] [] pos)):=do
 let hx ← isP "zip" x
 let g ← iN T nm "zip"
 let ha ← yes (aP a)
 let hb ← yes (aP b)
 let hc ← yes (aP c)
 let u ← f a
 let v ← f b
 let w ← f c
 some ⟨.it .zip3 (.cons u.1 (.cons v.1 (.cons w.1 .nil))),fun X k=>by
  obtain rfl:=hx.down
  exact tT k.calm (bW k g.down boot_zip) (u.2 X k).1 (v.2 X k).1 (w.2 X k).1 (af ha.down) (af hb.down) (af hc.down)⟩
def u9 (f:∀ e,Option (GE T nm N e)):(tg e:Expr)→Option (GI T nm N tg e)
 | .Tuple ts n tp,.Call (.Name x p) [a] [] pos=>(cE1 f ts n tp x p a pos).orElse fun _=>hX f _ _
 | .Tuple ts n tp,.Call (.Name x p) [a] [⟨some y,b,kp⟩] pos=>cE2 f ts n tp x y p a b kp pos
 | .Tuple ts n tp,.Call (.Name x p) [a,b] [] pos=>(cZ2 f ts n tp x p a b pos).orElse fun _=>hX f _ _
 | .Tuple ts n tp,.Call (.Name x p) [a,b,c] [] pos=>(cZ3 f ts n tp x p a b c pos).orElse fun _=>hX f _ _
 | tg,.Call (.Name x p) [a] [] pos=>(cR1 f tg x p a pos).orElse fun _=>hX f _ _
 | tg,.Call (.Name x p) [a,b] [] pos=>(cR2 f tg x p a b pos).orElse fun _=>hX f _ _
 | tg,e=>hX f tg e
theorem bK (h:bp e=true):attributeBase e x env m=m:=by
 unfold attributeBase
 split
 ·have h':(_ != ("super":Str))=true:=h
  rw [ZZ (by rw [h'];rfl)]
 ·rfl
theorem rT (h:∀ e∈es,aP e=true):((backTo pos (starEach es env)).all fun x=>!x.1)=true:=by
 have:=bA (env:=env) (pos:=pos) h
 rw [List.all_eq_not_any_not]
 simpa using this
theorem rr (h1:bp o=true) (h2:∀ x∈es,aP x=true) (h3:es.length<30) (h4:(apos.endLine == pos.line)=true):eval (.Call (.Attribute o m apos) es [] pos) env=(do
 let ov ← eval o env
 standAt apos.atName
 let (f,first) ← holding [ov] (getMethod ov m (do return (← importBound o env).getD true))
 callWith pos f first (backTo pos (starEach es env)) (backToKw pos (keywordEach [] env))):=by
 have e0:eval (.Call (.Attribute o m apos) es [] pos) env=(do
  let ov ← attributeBase o m env (eval o env)
  standAt apos.atName
  methodCall o m apos pos env ov (es.length+([]:List Keyword).length) (backTo pos (starEach es env)) (backToKw pos (keywordEach [] env))):=rfl
 rw [e0,bK h1]
 have few:methodCallForm (es.length+([]:List Keyword).length) (backTo pos (starEach es env)) (backToKw pos (keywordEach [] env))=true:=by
  unfold methodCallForm
  rw [rT h2]
  simp only [Bool.true_and]
  show (true && decide (_<30))=true
  simp only [Bool.true_and]
  apply ZW
  exact h3
 congr 1
 funext ov
 congr 1
 funext _
 unfold methodCall
 simp only [few]
 have e1:methodCallPos true o env apos pos=pure pos:=by unfold methodCallPos;rw [h4];rfl
 simp only [e1]
 rfl
def xF (m:Str):(l:List (Str×Nat×Nat))→Option {q:Nat×Nat // (m,q.1,q.2)∈l}
 | []=>none
 | (y,c,j) :: r=>match isP y m with
   | some h=>some ⟨(c,j),by obtain rfl:=h.down;exact List.mem_cons_self⟩
   | none=>(xF m r).map fun i=>⟨i.1,List.mem_cons_of_mem _ i.2⟩
def A9 (f:∀ e,Option (GE T nm N e)) (o:Expr) (m:Str) (ap:Pos):(args:List Expr)→(pos:Pos)→Option (GE T nm N (.Call (.Attribute o m ap) args [] pos))
 | [],pos=>do
   let q ← xF m T.me
   let hs ← yes (bp o)
   let hp ← yes (ap.endLine == pos.line)
   let a ← f o
   some ⟨.mth q.1.1 q.1.2 a.1 .nil,fun X k=>by
    obtain ⟨n,fa,h1,h2,h3⟩:=k.mts _ q.2
    exact mk (tN h1 h2 h3 (a.2 X k).1 (rr hs.down (fun x hx=>nomatch hx) (by decide) hp.down))⟩
 | e :: er,pos=>do
   let q ← xF m T.me
   let hs ← yes (bp o)
   let hp ← yes (ap.endLine == pos.line)
   let hn ← yes ((e :: er).all aP)
   let hl ← yes (decide ((e :: er).length<30))
   let a ← f o
   let b ← eQ f (e :: er)
   some ⟨.mth q.1.1 q.1.2 a.1 b.1,fun X k=>by
    obtain ⟨n,fa,h1,h2,h3⟩:=k.mts _ q.2
    have hn':=List.all_eq_true.mp hn.down
    exact mk (xb h1 h2 h3 (a.2 X k).1 (b.2 X k) (af (hn' e List.mem_cons_self)) (bA fun x hx=>hn' x (List.mem_cons_of_mem _ hx)) (rr hs.down hn' (by simpa using hl.down) hp.down))⟩
def AZ (f:∀ e,Option (GE T nm N e)) (o:Expr) (m:Str) (ap:Pos):(args:List Expr)→(pos:Pos)→Option (GE T nm N (.Call (.Attribute o m ap) args [] pos))
 | [e],pos=>do
   let hm ← isP "get" m
   let hs ← yes (bp o)
   let hp ← yes (ap.endLine == pos.line)
   let hn ← yes (aP e)
   let a ← f o
   let b ← f e
   some ⟨.get a.1 b.1 (.c .non),fun X k=>by
    obtain rfl:=hm.down
    exact mk (tJ (a.2 X k).1 (b.2 X k).1 ⟨bK hs.down,by rw [af hn.down];rfl,hp.down,by rw [af hn.down];rfl⟩)⟩
 | [e,g],pos=>do
   let hm ← isP "get" m
   let hs ← yes (bp o)
   let hp ← yes (ap.endLine == pos.line)
   let hn ← yes (aP e)
   let hg ← yes (aP g)
   let a ← f o
   let b ← f e
   let c ← f g
   some ⟨.get a.1 b.1 c.1,fun X k=>by
    obtain rfl:=hm.down
    exact mk (tK (a.2 X k).1 (b.2 X k).1 (c.2 X k).1 ⟨bK hs.down,by rw [af hn.down,af hg.down];rfl,hp.down,by rw [af hn.down,af hg.down];rfl⟩)⟩
 | _,_=>none
def zc (f:∀ e,Option (GE T nm N e)) (m:Str) (ap:Pos):(o:Expr)→(args:List Expr)→(pos:Pos)→Option (GE T nm N (.Call (.Attribute o m ap) args [] pos)):=fun _ _ _=>none
def wg (f:∀ e,Option (GE T nm N e)) (x:Str) (j:Nat) (p:Pos) (m:Str) (ap:Pos):(args:List Expr)→(pos:Pos)→Option (GE T nm N (.Call (.Attribute (.Constant (.str x) j p) m ap) args [] pos)):=fun _ _=>none
def AY (f:∀ e,Option (GE T nm N e)) (x:Str) (j1:Nat) (p1:Pos) (e:Expr) (p2:Pos) (y:Str) (j2:Nat) (p3 pos:Pos):Option (GE T nm N (.JoinedStr [.Constant (.str x) j1 p1,.FormattedValue e (-1) none p2,.Constant (.str y) j2 p3] pos)):=none
def Bf (f:∀ e,Option (GE T nm N e)) (a:Expr) (lo:Option Expr) (st:Expr) (p2 pos:Pos):Option (GE T nm N (.Subscript a (.Slice lo none (some st) p2) pos)):=none
def yW (f:∀ e,Option (GE T nm N e)) (x:Str) (p:Pos):(args:List Expr)→(pos:Pos)→Option (GE T nm N (.Call (.Name x p) args [] pos))
 | [],pos=>do
   let j ← bS x T.nw
   let hz ← no (x == ("":Str))
   let hd ← no (x == ("__debug__":Str))
   let hg ← yes (b9 nm x)
   some ⟨.new j.1 .nil,fun X k=>by
    obtain ⟨n,fa,i,cl,h1,h4,h5,h6,h7,h8,h9,h10⟩:=k.nws j.1 x j.2 (by simpa using hz.down)
    exact mk (tO h1 h4 h5 h6 h7 h8 h9 (bF k.sc hg.down) h10 hd.down)⟩
 | _ :: _,_=>none
def yX (f:∀ e,Option (GE T nm N e)) (x:Str) (p:Pos):(args:List Expr)→(pos:Pos)→Option (GE T nm N (.Call (.Name x p) args [] pos)):=fun _ _=>none
def yR (f:∀ e,Option (GE T nm N e)):(e:Expr)→Option (GE T nm N e)
 | .List er pos=>(eQ f er).map fun a=>⟨.newl a.1,fun X k=>mk (mz (a.2 X k))⟩
 | e=>f e
def wa (f:∀ e,Option (GE T nm N e)) (x:Str) (p:Pos) (e:Expr) (er:List Expr) (pos:Pos):Option (GE T nm N (.Call (.Name x p) (e :: er) [] pos)):=
 match re x T.mu with
 | some _=>u4 (yR f) x p e er pos
 | none=>u4 f x p e er pos
end
section
variable {T:Ns} {nm:NK} {N:List Str}
def yS (f:∀ e,Option (GE T nm N e)) (keys:List (Option Expr)) (vals:List Expr) (pos:Pos):Option (GE T nm N (.Dict keys vals pos)):=none
end
def fY (fn:Bool) (nm:NK) (x:Str):Bool:=nm.lookup x == some .local || (fn && nm.lookup x == some .cell)
structure TgH (nm:NK) (N:List Str) (X:Cx):Prop where
 calm:X.calm=true
 hN:X.N=N
 nd:N.Nodup
 sc:X.env.scope.names=nm
theorem gA {fn:Bool} (h:TgH nm N X) (hl:fY fn nm x=true):Loc X.env.scope x:=by
 have l1:nm.lookup x=some .local∨(fn=true∧nm.lookup x=some .cell):=by
  unfold fY at hl
  simpa using hl
 show X.env.scope.names.lookup x=_∨X.env.scope.names.lookup x=_
 rw [h.sc]
 exact l1.imp id And.right
def Pl (nm:NK) (N:List Str) (t:List Nat):Prop:=∀ i∈t,∀ x,N[i]? = some x→nm.lookup x=some .local
theorem rJ {nm:NK} {N:List Str} {i:Nat} {x:Str} (hi:N[i]? = some x) (hl:fY false nm x=true):∀ y,N[i]? = some y→nm.lookup y=some .local:=fun y e=>by
 rw [hi] at e;cases e
 unfold fY at hl
 simpa using hl
structure yM (fn:Bool) (nm:NK) (N:List Str) (es:List Expr) (t:List Nat):Prop where
 len:∀ env,(assignEach es env).length=t.length
 fst:∀ env,(assignEach es env).findIdx? (·.1)=none
 as_:∀ X,TgH nm N X→As X ((assignEach es X.env).map (·.2)) t
 pl:fn=false→Pl nm N t
def yv (fn:Bool) (nm:NK) (N:List Str):(es:List Expr)→Option {t:List Nat // yM fn nm N es t}
 | []=>some ⟨[],fun _=>rfl,fun _=>rfl,fun X h=>trivial,fun _ i m=>nomatch m⟩
 | .Name x p :: r=>do
   let i ← bS x N
   let hl ← yes (fY fn nm x)
   let t ← yv fn nm N r
   some ⟨i.1 :: t.1,fun env=>ZS (· + 1) (t.2.len env),fun env=>by
    show List.findIdx? _ ((false,assign (.Name x p) env) :: assignEach r env)=none
    rw [List.findIdx?_cons,t.2.fst env];rfl,fun X h=>⟨⟨x,by rw [h.hN];exact i.2,gA h hl.down,fun q=>wpAny_assign_Name q⟩,t.2.as_ X h⟩,fun hf j m y e=>by
    rcases List.mem_cons.mp m with w | w
    ·rw [w] at e;exact rJ i.2 (hf ▸ hl.down) y e
    ·exact t.2.pl hf j w y e⟩
 | _=>none
def tgP (fn:Bool) (nm:NK) (N:List Str):(tg:Expr)→Option {q:List Nat×Bool // (∀ X,TgH nm N X→LG X tg q.1 q.2)∧(fn=false→Pl nm N q.1)}
 | .Name x p=>do
   let i ← bS x N
   let hl ← yes (fY fn nm x)
   some ⟨([i.1],true),fun X h=>tQ (by rw [h.hN];exact h.nd) (by rw [h.hN];exact i.2) (gA h hl.down),fun hf j m y e=>by rw [List.mem_singleton.mp m] at e;exact rJ i.2 (hf ▸ hl.down) y e⟩
 | .Tuple es k p=>do
   let t ← yv fn nm N es
   some ⟨(t.1,false),fun X h=>qS h.calm (by rw [h.hN];exact h.nd) (t.2.as_ X h) (t.2.len _) (t.2.fst _),t.2.pl⟩
 | _=>none
def eg:Expr→List Str
 | .Name x _=>[x]
 | .Tuple es _ _=>es.filterMap fun e=>match e with | .Name x _=>some x | _=>none
 | _=>[]
def eZ (nm:NK) (sc:Scope):NK:=sc.names.map fun y=>if (y.2 == .free && nm.lookup y.1 == some .cell)=true then (y.1,.cell) else (y.1,y.2)
def yc (nm:NK) (p:Str×Str):Bool:=match nm.lookup p.1 with
 | some .local=>false
 | some .cell=>p.1 == p.2
 | some .free=>p.1 == p.2
 | _=>true
def ndB:List Str→Bool
 | []=>true
 | x :: r=>!r.contains x && ndB r
theorem vH:∀ {l},ndB l=true→l.Nodup
 | [],_=>List.nodup_nil
 | x :: r,h=>by
   have h':r.contains x=false∧ndB r=true:=by simpa [ndB] using h
   refine List.nodup_cons.mpr ⟨fun m=>?_,vH h'.2⟩
   have:r.contains x=true:=by simpa using m
   rw [h'.1] at this
   cases this
def jR (own:List Str) (N:List Str):List Str:=own ++ N.map fun y=>if own.contains y then ⟨y.cps.push (1200000+N.length)⟩ else y
def lcB (nm:NK) (N N':List Str) (sc:Scope) (k:Nat):Bool:=
 (sc.names.all fun y=>y.2 != .cell) && sc.kind == .function && (sc.names.all fun y=>y.2 != .local || sc.names.lookup y.1 == some .local) &&
 (sc.names.all fun y=>y.2 != .free || (nm.lookup y.1 == some .cell || nm.lookup y.1 == some .free)) && N'.length == k+N.length && ((N'.drop k).zip N).all (yc (eZ nm sc)) && ndB N'
section
variable {T:Ns} {nm:NK} {N N':List Str} {X:Cx} {sc:Scope}
theorem d6 (k:CxOk T X nm N):(relabel sc X.env).names=eZ nm sc:=by
 unfold relabel eZ
 dsimp only
 congr 1
 funext y
 rw [k.kd,show X.env.kindOf y.1=nm.lookup y.1 by rw [← k.sc];rfl]
 simp
theorem zN (k:CxOk T X nm N) (h:lcB nm N N' sc n=true):Lcn X sc n N'∧N'.Nodup:=by
 unfold lcB at h
 simp only [Bool.and_eq_true] at h
 obtain ⟨⟨⟨⟨⟨⟨h1,h2⟩,h3⟩,h4⟩,h5⟩,h6⟩,h7⟩:=h
 have kk:∀ x,X.env.kindOf x=nm.lookup x:=fun x=>by rw [← k.sc];rfl
 refine ⟨zM h1 (by simpa using h2) h3 (by simp only [kk];exact h4) (by rw [k.hN];simpa using h5) ?_,vH h7⟩
 rw [k.hN]
 have e:iC sc X.env=yc (eZ nm sc):=by
  funext p
  unfold iC yc
  rw [d6 k]
  all_goals rfl
 rw [e]
 exact h6
theorem df.cx (h:df X an c k i):df (cxC X N' sc C) an c k i:=⟨h.ci,h.cls,h.na,h.wh,h.nm,h.nd,h.xc⟩
theorem CxOk.inner (k:CxOk T X nm N) (L:Lcn X sc n N') (nd:N'.Nodup) :CxOk T (cxC X N' sc C) (eZ nm sc) N' where
 hN:=rfl
 nd:=nd
 sc:=d6 k
 kd:=L.kind
 calm:=k.calm
 fns:=fun j x h=>let ⟨n,f,h1,h2,h3⟩:=k.fns j x h;⟨n,f,bJ.to (X:=X) h1,h2,h3⟩
 gls:=k.gls
 tbs:=k.tbs
 blt:=k.blt
 cls:=fun c cl h=>let ⟨i,h1⟩:=k.cls c cl h;⟨i,h1.cx⟩
 mts:=fun q h=>let ⟨n,f,h1,h2,⟨i,cl,a,b,c⟩⟩:=k.mts q h;⟨n,f,bJ.to (X:=X) h1,h2,⟨i,cl,a,b.cx,c⟩⟩
 nws:=fun j x h hz=>let ⟨n,f,i,cl,h1,h2⟩:=k.nws j x h hz;⟨n,f,i,cl,bJ.to (X:=X) h1,h2⟩
 nds:=fun j x h hz=>let ⟨n,f,fd,ps,i,cl,h1,h2⟩:=k.nds j x h hz;⟨n,f,fd,ps,i,cl,FnI.to (X:=X) h1,h2⟩
 hxs:=k.hxs
def A5 (g:∀ e,Option (GT T nm N e)):(ifs:List Expr)→Option {c:E // ∀ X,CxOk T X nm N→LTs X ifs c}
 | []=>some ⟨.c (.bl true),fun X k=>uf⟩
 | [c]=>(g c).map fun x=>⟨x.1,fun X k=>ug (x.2 X k)⟩
 | _=>none
def yU (f:aQ T) (g:gF T) (nm:NK) (N:List Str) (ee tg iter:Expr) (ifs:List Expr) (sc:Scope):Option {q:(List Nat×Bool)×E×E×E // ∀ X,CxOk T X nm N→LcP X (jR (eg tg) N) ee tg iter ifs sc q.1.1 q.1.2 q.2.1 q.2.2.1 q.2.2.2}:=do
 let it ← u9 (f nm N) tg iter
 let q ← tgP false (eZ nm sc) (jR (eg tg) N) tg
 let h0 ← yes (q.1.1.all fun i=>decide (i<q.1.1.length))
 let hl ← yes (lcB nm N (jR (eg tg) N) sc q.1.1.length)
 let c ← A5 (g (eZ nm sc) (jR (eg tg) N)) ifs
 let e ← f (eZ nm sc) (jR (eg tg) N) ee
 let hn ← yes (aP iter)
 some ⟨(q.1,it.1,e.1,c.1),fun X k=>by
  obtain ⟨L,nd⟩:=zN k hl.down
  exact ⟨k.calm,L,it.2 X k,fun C=>q.2.1 (cxC X _ sc C) ⟨k.calm,rfl,nd,d6 k⟩,fun i m x e=>by rw [d6 k];exact q.2.2 rfl i m x e,fun C=>c.2 _ (k.inner L nd),fun C=>(e.2 _ (k.inner L nd)).1,ig hn.down⟩⟩
def cLC (f:aQ T) (g:gF T) (nm:NK) (N:List Str) (ee tg iter:Expr) (ifs:List Expr) (sc:Scope) (pos:Pos):Option (GE T nm N (.ListComp ee [⟨tg,iter,ifs,0⟩] sc pos)):=
 (yU f g nm N ee tg iter ifs sc).map fun q=>⟨.lc q.1.1.1 q.1.1.2 q.1.2.1 q.1.2.2.1 q.1.2.2.2,fun X k=>mkf (qR (q.2 X k))⟩
end
theorem lR (h:(match e with | .Compare ..=>false | .BoolOp ..=>false | .UnaryOp ..=>false | .IfExp ..=>false | .NamedExpr ..=>false | _=>true)=true):isTrue e env whole=(do let v ← whole;standAt e.pos;holding [v] (truthy v)):=by
 cases e <;> first | rfl | cases h
section
variable {T:Ns}
abbrev GC (T:Ns) (nm:NK) (N:List Str) (e:Expr):={c:E // ∀ X,CxOk T X nm N→(LE X e c∧bf c=false)∧LT X e c}
def wc (f:aQ T) (nm:NK) (N:List Str) (a:Expr) (op:CmpOp) (b:Expr) (pos:Pos):Option (GC T nm N (.Compare a [op] [b] pos)):=do
 let o ← Bo op
 let hb ← yes (aP b)
 let x ← f nm N a
 let y ← f nm N b
 some ⟨.op o.1 x.1 y.1,fun X k=>⟨⟨wZ (o.2 X) (x.2 X k).1 (y.2 X k).1 (fZ hb.down),rfl⟩,xy (o.2 X) (x.2 X k).1 (y.2 X k).1 (fZ hb.down)⟩⟩
def wj (f:aQ T) (nm:NK) (N:List Str) (a:Expr) (x:Str) (p pos:Pos):Option (GC T nm N (.Compare a [.In] [.Name x p] pos)):=do
 let hd ← no (x == ("__debug__":Str))
 let hg ← yes (b9 nm x)
 let j ← bS x T.tb
 let y ← f nm N a
 some ⟨.tabin j.1 y.1,fun X k=>by
  obtain ⟨t,ad,h1,h2,h3⟩:=k.tbs j.1 x j.2
  exact ⟨⟨qN (bF k.sc hg.down) h2 h1 h3 (y.2 X k).1 hd.down rfl,rfl⟩,ra (bF k.sc hg.down) h2 h1 h3 (y.2 X k).1 hd.down rfl⟩⟩
def AV (f:aQ T) (nm:NK) (N:List Str) (a:Expr) (b:Expr) (pos:Pos):Option (GC T nm N (.Compare a [.Eq] [b] pos)):=none
def u5 (f:aQ T) (nm:NK) (N:List Str):(a:Expr)→(ops:List CmpOp)→(bs:List Expr)→(pos:Pos)→Option (GC T nm N (.Compare a ops bs pos))
 | a,[.Is],[.Constant .none j p],pos=>(f nm N a).map fun x=>⟨.isN x.1,fun X k=>⟨⟨w8 (x.2 X k).1 rfl,rfl⟩,xz (x.2 X k).1 rfl⟩⟩
 | a,[.IsNot],[.Constant .none j p],pos=>(f nm N a).map fun x=>⟨.isNN x.1,fun X k=>⟨⟨tL (x.2 X k).1 rfl,rfl⟩,ue (x.2 X k).1 rfl⟩⟩
 | a,[.In],[.Name x p],pos=>(wj f nm N a x p pos).orElse fun _=>wc f nm N a .In (.Name x p) pos
 | a,[.Eq],[.Tuple es k p],pos=>(AV f nm N a (.Tuple es k p) pos).orElse fun _=>wc f nm N a .Eq (.Tuple es k p) pos
 | a,[op],[b],pos=>wc f nm N a op b pos
 | _,_,_,_=>none
def Bl (f:aQ T) (nm:NK) (N:List Str) (x:Str) (p:Pos) (b:Expr) (pos:Pos):Option (GE T nm N (.Subscript (.Name x p) b pos)):=do
 let hd ← no (x == ("__debug__":Str))
 let hg ← yes (b9 nm x)
 let j ← bS x T.tb
 let hb ← yes (aP b)
 let y ← f nm N b
 some ⟨.tab j.1 y.1,fun X k=>by
  obtain ⟨t,ad,h1,h2,h3⟩:=k.tbs j.1 x j.2
  exact mk (xg (bF k.sc hg.down) h2 h1 h3 (y.2 X k).1 (gq hb.down) hd.down fun _=>rfl)⟩
def cIx (f:aQ T) (nm:NK) (N:List Str) (a b:Expr) (pos:Pos):Option (GE T nm N (.Subscript a b pos)):=do
 let hb ← yes (aP b)
 let x ← f nm N a
 let y ← f nm N b
 some ⟨.ix x.1 y.1,fun X k=>mk (zP (x.2 X k).1 (y.2 X k).1 (gq hb.down))⟩
theorem pX (e:T.an i=x) (T':cA X T.an) (hy:LE X a y) (hs:bp a=true):LE X (.Attribute a x pos) (.fld y i):=by
 subst e
 exact w7 T' yE hy (bK hs)
theorem jF (h:T.at_[i]? = some x):T.an i=x:=by unfold Ns.an;rw [List.getD_eq_getElem?_getD,h];rfl
def kR {nm:NK} {N:List Str} (f:∀ e,Option (GE T nm N e)) (x:Str) (p:Pos) (e:Expr) (er:List Expr) (pos:Pos):Option (GE T nm N (.Call (.Name x p) (e :: er) [] pos)):=((wa f x p e er pos).orElse fun _=>yW f x p (e :: er) pos).orElse fun _=>yX f x p (e :: er) pos
def cUn (f:aQ T) (nm:NK) (N:List Str) (a:Expr) (pos:Pos):(op:UnaryOp)→Option (GE T nm N (.UnaryOp op a pos))
 | .USub=>(f nm N a).map fun x=>⟨.neg x.1,fun X k=>mk (xd (x.2 X k).1)⟩
 | .Not=>(f nm N a).map fun x=>⟨.not x.1,fun X k=>mk (xe (x.2 X k).1)⟩
 | _=>none
def Bg (f:aQ T) (nm:NK) (N:List Str) (a:Expr) (lo:Option Expr) (p2 pos:Pos):(hi st:Option Expr)→Option (GE T nm N (.Subscript a (.Slice lo hi st p2) pos))
 | hi,none=>do
   let x ← f nm N a
   let l ← yY (f nm N) lo
   let h ← yY (f nm N) hi
   some ⟨.sl x.1 l.1 h.1,fun X k=>mk (zS (x.2 X k).1 (l.2 X k) (h.2 X k))⟩
 | none,some st=>Bf (f nm N) a lo st p2 pos
 | _,_=>none
def cTa (f:aQ T) (nm:NK) (N:List Str) (b:Expr) (pos:Pos):(a:Expr)→Option (GE T nm N (.Subscript a b pos))
 | .Name x p=>Bl f nm N x p b pos
 | _=>none
def Bj (f:aQ T) (nm:NK) (N:List Str) (a:Expr) (pos:Pos):(b:Expr)→Option (GE T nm N (.Subscript a b pos))
 | .Slice lo hi st p2=>Bg f nm N a lo p2 pos hi st
 | b=>(cTa f nm N b pos a).orElse fun _=>cIx f nm N a b pos
def cRv (f:aQ T) (nm:NK) (N:List Str) (x:Str) (p:Pos) (pos:Pos):(a:Expr)→Option (GE T nm N (.Call (.Name x p) [a] [] pos))
 | .Call (.Name y p2) [a] [] pos2=>Bd (f nm N) x y p p2 a pos2 pos
 | _=>none
def cIz (f:aQ T) (nm:NK) (N:List Str) (x:Str) (p:Pos) (a:Expr) (pos:Pos):(b:Expr)→Option (GE T nm N (.Call (.Name x p) [a,b] [] pos))
 | .Name y q=>(cIs (f nm N) x p a y q pos).orElse fun _=>A7 (f nm N) x p a y q pos
 | .Tuple [.Name x1 q1,.Name x2 q2,.Name x3 q3] k q=>A6 (f nm N) x p a x1 x2 x3 q1 q2 q3 k q pos
 | _=>none
def AU (f:aQ T) (nm:NK) (N:List Str) (x:Str) (p:Pos) (pos:Pos):(args:List Expr)→Option (GE T nm N (.Call (.Name x p) args [] pos))
 | []=>yW (f nm N) x p [] pos
 | [a]=>(cRv f nm N x p pos a).orElse fun _=>kR (f nm N) x p a [] pos
 | [a,b]=>(cIz f nm N x p a pos b).orElse fun _=>kR (f nm N) x p a [b] pos
 | e :: er=>kR (f nm N) x p e er pos
def cSJ (f:aQ T) (nm:NK) (N:List Str) (m:Str) (ap:Pos) (args:List Expr) (pos:Pos):(o:Expr)→Option (GE T nm N (.Call (.Attribute o m ap) args [] pos))
 | .Constant (.str x) j p=>wg (f nm N) x j p m ap args pos
 | _=>none
def AT (f:aQ T) (nm:NK) (N:List Str) (o:Expr) (m:Str) (ap:Pos) (args:List Expr) (pos:Pos):Option (GE T nm N (.Call (.Attribute o m ap) args [] pos)):=
 (((cSJ f nm N m ap args pos o).orElse fun _=>zc (f nm N) m ap o args pos).orElse fun _=>AZ (f nm N) o m ap args pos).orElse fun _=>A9 (f nm N) o m ap args pos
def cMx (f:aQ T) (nm:NK) (N:List Str) (x y:Str) (p:Pos) (a b:Expr) (kp pos:Pos):Option (GE T nm N (.Call (.Name x p) [a] [⟨some y,b,kp⟩] pos)):=do
 let hx ← isP "max" x
 let hy ← isP "default" y
 let g ← iN T nm "max"
 let he ← yes (aP a)
 let u ← f nm N a
 let w ← f nm N b
 some ⟨.bi .max0 (.cons u.1 (.cons w.1 .nil)),fun X k=>by
  obtain rfl:=hx.down
  obtain rfl:=hy.down
  exact mk (tM k.calm (bW k g.down boot_max) (u.2 X k).1 (w.2 X k).1 (af he.down))⟩
def A4 (f:aQ T) (nm:NK) (N:List Str) (o:Expr) (m:Str) (ap:Pos):(args:List Expr)→(pos:Pos)→Option (GE T nm N (.Call (.Attribute o m ap) args [] pos))
 | [e],pos=>do
   let hm ← isP "index" m
   let hp ← yes (ap.endLine == pos.line)
   let hn ← yes (aP e)
   let hs ← yes (bp o)
   let a ← f nm N o
   let b ← f nm N e
   some ⟨.index a.1 b.1,fun X k=>by
    obtain rfl:=hm.down
    exact mk (qM (a.2 X k).1 (b.2 X k).1 ⟨bK hs.down,by rw [af hn.down];rfl,hp.down,by rw [af hn.down];rfl⟩)⟩
 | _,_=>none
def cCl (f:aQ T) (nm:NK) (N:List Str) (pos:Pos) (args:List Expr):(fn:Expr)→(kw:List Keyword)→Option (GE T nm N (.Call fn args kw pos))
 | .Name x p,[]=>AU f nm N x p pos args
 | .Attribute o m ap,[]=>(A4 f nm N o m ap args pos).orElse fun _=>AT f nm N o m ap args pos
 | .Name x p,[⟨some y,b,kp⟩]=>(match args with | [a]=>cMx f nm N x y p a b kp pos | _=>none)
 | _,_=>none
def cF2 (f:aQ T) (nm:NK) (N:List Str) (x:Str) (j1:Nat) (p1 pos:Pos):(b c:Expr)→Option (GE T nm N (.JoinedStr [.Constant (.str x) j1 p1,b,c] pos))
 | .FormattedValue e (.negSucc 0) none p2,.Constant (.str y) j2 p3=>AY (f nm N) x j1 p1 e p2 y j2 p3 pos
 | _,_=>none
def cJs (f:aQ T) (nm:NK) (N:List Str) (pos:Pos):(es:List Expr)→Option (GE T nm N (.JoinedStr es pos))
 | [.Constant (.str x) j1 p1,b,c]=>cF2 f nm N x j1 p1 pos b c
 | _=>none
def cDi (f:aQ T) (nm:NK) (N:List Str) (pos:Pos):(ks:List (Option Expr))→(vs:List Expr)→Option (GE T nm N (.Dict ks vs pos))
 | [],[]=>some ⟨.dic .nil,fun X k=>mkf tP⟩
 | ks,vs=>yS (f nm N) ks vs pos
def A8 (f:aQ T) (g:gF T) (nm:NK) (N:List Str) (ee:Expr) (sc:Scope) (pos:Pos):(gs:List Comprehension)→Option (GE T nm N (.ListComp ee gs sc pos))
 | [⟨tg,iter,ifs,0⟩]=>cLC f g nm N ee tg iter ifs sc pos
 | _=>none
def Ax (f:aQ T) (g:gF T) (nm:NK) (N:List Str):(e:Expr)→Option (GE T nm N e)
 | .Name x pos=>yV T nm N x pos
 | .Constant c j pos=>we T nm N c j pos
 | .BinOp a op b pos=>do
   let o ← opP op
   let x ← f nm N a
   let y ← f nm N b
   some ⟨.op o.1 x.1 y.1,fun X k=>mk (zR (o.2 X) (x.2 X k).1 (y.2 X k).1)⟩
 | .UnaryOp op a pos=>cUn f nm N a pos op
 | .BoolOp .And es pos=>do
   let x ← uZ (f nm N) pos es
   let h ← no (bf x.1)
   some ⟨x.1,fun X k=>mk (x.2 X k) h.down⟩
 | .BoolOp .Or es pos=>do
   let x ← Bb (f nm N) pos es
   let h ← no (bf x.1)
   some ⟨x.1,fun X k=>mk (x.2 X k) h.down⟩
 | .IfExp c a b pos=>do
   let t ← g nm N c
   let x ← f nm N a
   let y ← f nm N b
   some ⟨.ite t.1 x.1 y.1,fun X k=>mk (w9 (t.2 X k) (x.2 X k).1 (y.2 X k).1)⟩
 | .Compare a ops bs pos=>(u5 f nm N a ops bs pos).map fun x=>⟨x.1,fun X k=>mk (x.2 X k).1.1 (x.2 X k).1.2⟩
 | .Tuple es n pos=>(eQ (f nm N) es).map fun x=>⟨.tup x.1,fun X k=>mk (qO (x.2 X k))⟩
 | .List es pos=>(eQ (f nm N) es).map fun x=>⟨.lst x.1,fun X k=>mkf (xl (x.2 X k))⟩
 | .Subscript a b pos=>Bj f nm N a pos b
 | .Attribute a x pos=>do
   let i ← bS x T.at_
   let hs ← yes (bp a)
   let y ← f nm N a
   some ⟨.fld y.1 i.1,fun X k=>mk (pX (jF i.2) k.cls (y.2 X k).1 hs.down)⟩
 | .Call fn args kw pos=>cCl f nm N pos args fn kw
 | .JoinedStr es pos=>cJs f nm N pos es
 | .Dict keys vals pos=>cDi f nm N pos keys vals
 | .ListComp ee gs sc pos=>A8 f g nm N ee sc pos gs
 | _=>none
def Ay (f:aQ T) (g:gF T) (nm:NK) (N:List Str):(e:Expr)→Option (GT T nm N e)
 | .UnaryOp .Not a pos=>(g nm N a).map fun x=>⟨.tnot x.1,fun X k=>xA (x.2 X k)⟩
 | .BoolOp .And es pos=>(uY (g nm N) pos es).map fun x=>⟨x.1,fun X k=>vF (x.2 X k)⟩
 | .BoolOp .Or es pos=>(yZ (g nm N) pos es).map fun x=>⟨x.1,fun X k=>vF (x.2 X k)⟩
 | .Compare a ops bs pos=>(u5 f nm N a ops bs pos).map fun x=>⟨x.1,fun X k=>(x.2 X k).2⟩
 | e=>do
   let h ← yes (match e with | .Compare ..=>false | .BoolOp ..=>false | .UnaryOp ..=>false | .IfExp ..=>false | .NamedExpr ..=>false | _=>true)
   let x ← f nm N e
   some ⟨.tv x.1,fun X k=>zX (x.2 X k).1 fun w=>lR h.down⟩
theorem wW:LE X e .nil:=fun br z I nb=>ZX rfl nb
theorem xx:LT X e .nil:=fun z I nb=>ZX rfl nb
def nR (T:Ns):Nat→aQ T×gF T
 | 0=>(fun _ _ _=>none,fun _ _ _=>none)
 | k+1=>(fun nm N e=>some ((Ax (nR T k).1 (nR T k).2 nm N e).getD ⟨.nil,fun X _=>mk wW⟩),fun nm N e=>some ((Ay (nR T k).1 (nR T k).2 nm N e).getD ⟨.nil,fun X _=>xx⟩))
end
def RaP (X:Cx) (j:Nat) (x:Str):Prop:=∃ (lv:Nat) (k:Cl) (i:CI) (fI:Addr) (fd:FuncData) (ps:List Str) (Bx nwI iniI:String) (bmB:List Value),ExcBaseFacts Bx nwI iniI bmB∧gE X.K i.ad fI bmB nwI∧FnJ X lv fI fd ps i.nm k i.ad∧b6 X.K fd ps []∧bg (lv+1) X.A∧fB X.K i.ad∧(∀ f∈i.nm,PySem.W.findIn X.K (.ref i.ad) f=some none)∧X.Γ.cl[j]? = some k∧X.W.ci[j]? = some i∧X.W.what[j]? = some 2∧i.nm.length=k.at_.length∧PySem.W.mroIn X.K i.ad (.type "BaseException")=some true∧PySem.W.typeIn X.K (.ref i.ad)=some (.type "type")∧PySem.W.keepIn X.K (.ref i.ad)=true∧X.mg x=some (.ref i.ad)∧k.at_.isEmpty=false
def RtP (X:Cx) (j:Nat) (x:Str):Prop:=∃ (k:Cl) (i:CI) (Bx nwI iniI:String) (bmB:List Value),ExcBaseFacts Bx nwI iniI bmB∧yL X.K i.ad bmB nwI∧X.Γ.cl[j]? = some k∧k.at_.isEmpty=true∧X.W.ci[j]? = some i∧X.W.what[j]? = some 2∧X.mg x=some (.ref i.ad)
structure CxS (T:Ns) (X:Cx) (nm:NK) (N:List Str):Prop extends CxOk T X nm N where
 fr:nF X
 rs:∀ (j:Nat) (x:Str),T.ex[j]? = some x→x≠""→RaP X j x
 rt:∀ (j:Nat) (x:Str),T.xt[j]? = some x→x≠""→RtP X j x
abbrev GS (T:Ns) (nm:NK) (N:List Str) (st:Stmt):={c:S // ∀ X,CxS T X nm N→LS X st c}
abbrev GSs (T:Ns) (nm:NK) (N:List Str) (st:List Stmt):={c:S // ∀ X,CxS T X nm N→LSs X st c}
def jj:Expr→Bool
 | .ListComp ..=>false
 | .SetComp ..=>false
 | .DictComp ..=>false
 | _=>true
theorem fw (h:jj e=true):swapsWith e t l env=pure false:=by
 cases e <;> first | rfl | cases h
theorem rA :swapsWithSole [.Tuple es k p] e l env=pure false:=by
 cases e <;> rfl
def vI:Expr→Bool
 | .Tuple ..=>false
 | _=>true
theorem oS (h:vI e=true):swappedStores [.Tuple es k p] e env=pure none:=by
 cases e <;> first | rfl | cases h
section
variable {T:Ns} {nm:NK} {N:List Str}
theorem CxOk.tg (k:CxOk T X nm N):TgH nm N X:=⟨k.calm,k.hN,k.nd,k.sc⟩
theorem CxOk.at {i:Nat} {x:Str} (k:CxOk T X nm N) (h:N[i]? = some x):X.N[i]? = some x:=by rw [k.hN];exact h
theorem CxOk.ndx (k:CxOk T X nm N):X.N.Nodup:=by rw [k.hN];exact k.nd
def vd (f:aQ T) (nm:NK) (N:List Str) (x:Str) (p:Pos) (pos:Pos) (e:Expr):Option (GS T nm N (.Assign [.Name x p] e pos)):=do
 let i ← bS x N
 let hl ← yes (fY true nm x)
 let hn ← yes (jj e)
 let a ← f nm N e
 some ⟨.set i.1 a.1,fun X k=>ly k.ndx (k.at i.2) (gA k.tg hl.down) (a.2 X k.toCxOk).1 (a.2 X k.toCxOk).2 (fw hn.down)⟩
def Be (f:aQ T) (g:gF T) (nm:NK) (N:List Str) (x:Str) (p:Pos) (pos:Pos):(e:Expr)→Option (GS T nm N (.Assign [.Name x p] e pos))
 | .ListComp ee [⟨tg,iter,ifs,0⟩] sc pos2=>do
   let i ← bS x N
   let hl ← yes (fY true nm x)
   let q ← yU f g nm N ee tg iter ifs sc
   some ⟨.set i.1 (.lc q.1.1.1 q.1.1.2 q.1.2.1 q.1.2.2.1 q.1.2.2.2),fun X k=>qZ k.ndx (k.at i.2) (gA k.tg hl.down) (q.2 X k.toCxOk)⟩
 | .List es lp=>(match re x T.rf with
   | some _=>do
     let i ← bS x N
     let hl ← yes (fY true nm x)
     let a ← eQ (f nm N) es
     some ⟨.setR i.1 a.1,fun X k=>uc k.ndx (k.at i.2) (gA k.tg hl.down) (a.2 X k.toCxOk) (fw rfl)⟩
   | none=>vd f nm N x p pos (.List es lp))
 | e=>vd f nm N x p pos e
def AQ (f:aQ T) (nm:NK) (N:List Str) (x:Str) (p:Pos) (m:Str) (ap:Pos) (e:Expr) (cp pos:Pos):Option (GS T nm N (.Expr (.Call (.Attribute (.Name x p) m ap) [e] [] cp) pos)):=do
 let hm ← isP "append" m
 let i ← bS x N
 let hl ← yes (cM nm x)
 let hd ← no (x == ("__debug__":Str))
 let hc ← no (x == ("__classdict__":Str))
 let he ← yes (aP e)
 let hp ← yes (ap.endLine == cp.line)
 let a ← f nm N e
 some ⟨.app i.1 a.1,fun X k=>by
  obtain rfl:=hm.down
  exact xp (k.at i.2) (bH k.sc hl.down) hd.down hc.down (a.2 X k.toCxOk).1 ⟨bK rfl,by rw [af he.down];rfl,hp.down,by rw [af he.down];rfl⟩⟩
def AW (f:aQ T) (nm:NK) (N:List Str) (x:Str) (p:Pos) (m:Str) (ap:Pos) (e:Expr) (cp pos:Pos):Option (GS T nm N (.Expr (.Call (.Attribute (.Name x p) m ap) [e] [] cp) pos)):=none
def u6 (f:aQ T) (nm:NK) (N:List Str) (e:Expr) (pos:Pos):Option (GS T nm N (.Expr e pos)):=do
 let hn ← yes (jj e)
 let a ← f nm N e
 some ⟨.drop a.1,fun X k=>tY (a.2 X k.toCxOk).1 (fw hn.down)⟩
def zb (f:aQ T) (nm:NK) (N:List Str) (j:Nat) (p:Pos) (k:Nat) (q pos:Pos):(ts vs:List Expr)→Option (GS T nm N (.Assign [.Tuple ts j p] (.Tuple vs k q) pos)):=fun _ _=>none
def Bc (f:aQ T) (nm:NK) (N:List Str) (x:Str) (p:Pos) (eb:Expr) (p2:Pos) (ee:Expr) (pos:Pos):Option (GS T nm N (.Assign [.Subscript (.Name x p) eb p2] ee pos)):=do
 let i ← bS x N
 let hl ← yes (cM nm x)
 let hd ← no (x == ("__debug__":Str))
 let hc ← no (x == ("__classdict__":Str))
 let hn ← yes (aP eb)
 let b ← f nm N eb
 let e ← f nm N ee
 some ⟨.put (.v i.1) b.1 e.1,fun X k=>ua (k.at i.2) (bH k.sc hl.down) hd.down hc.down hn.down (b.2 X k.toCxOk).1 (e.2 X k.toCxOk).1⟩
def y5 (f:aQ T) (nm:NK) (N:List Str) (eo eb:Expr) (p2:Pos) (ee:Expr) (pos:Pos):Option (GS T nm N (.Assign [.Subscript eo eb p2] ee pos)):=do
 let hn ← yes (aP eb)
 let o ← f nm N eo
 let hv ← no (isV o.1)
 let b ← f nm N eb
 let e ← f nm N ee
 some ⟨.put o.1 b.1 e.1,fun X k=>t9 hn.down hv.down (o.2 X k.toCxOk).1 (b.2 X k.toCxOk).1 (e.2 X k.toCxOk).1⟩
def wf (f:aQ T) (nm:NK) (N:List Str) (x:Str) (np:Pos):(args:List Expr)→(cp pos:Pos)→Option (GS T nm N (.Raise (some (.Call (.Name x np) args [] cp)) none pos))
 | [],_,_=>none
 | e :: er,cp,pos=>do
   let j ← bS x T.ex
   let hz ← no (x == ("":Str))
   let hn ← yes ((e :: er).all aP)
   let hg ← yes (b9 nm x)
   let hd ← no (x == ("__debug__":Str))
   let a ← eQ (f nm N) (e :: er)
   some ⟨.rais j.1 a.1,fun X k=>by
    obtain ⟨lv,cl,i,fI,fd,ps,Bx,nwI,iniI,bmB,h1,h2,h3,h4,h5,h6,h7,h8,h9,h10,h11,h12,h13,h14,h15,h16⟩:=k.rs j.1 x j.2 (by simpa using hz.down)
    have hn':=List.all_eq_true.mp hn.down
    obtain ⟨ck,h3,hk⟩:=h3
    exact qY h1 h2 h3 hk h4 h5 h6 h7 h8 h9 h10 h11 h16 h12 h13 h14 k.calm (bF k.sc hg.down) h15 (a.2 X k.toCxOk) hd.down (af (hn' e List.mem_cons_self)) (bA fun y hy=>hn' y (List.mem_cons_of_mem _ hy))⟩
def sI (nm:NK) (N:List Str) (x:Str) (np:Pos):(args:List Expr)→(cp pos:Pos)→Option (GS T nm N (.Raise (some (.Call (.Name x np) args [] cp)) none pos)):=fun _ _ _=>none
def u8 (nm:NK) (N:List Str) (y:Str) (p1:Pos) (x:Str) (p pos p2:Pos):Option (GS T nm N (.Assign [.Attribute (.Name y p1) x p] (.Dict [] [] p2) pos)×GS T nm N (.Assign [.Attribute (.Name y p1) x p] (.List [] p2) pos)):=do
 let j ← bS x T.at_
 let i ← bS y N
 let hl ← yes (cM nm y)
 let hd ← no (y == ("__debug__":Str))
 let hc ← no (y == ("__classdict__":Str))
 some (⟨.fld (.v i.1) j.1 (.dic .nil),fun X k=>by
  have h:=tZ (X:=X) (p:=p) (pos:=pos) (p1:=p1) (p2:=p2) (f:=j.1) k.cls (k.at i.2) (bH k.sc hl.down) hd.down hc.down
  rw [jF j.2] at h
  exact h⟩,⟨.fld (.v i.1) j.1 (.lst .nil),fun X k=>by
  have h:=t0 (X:=X) (p:=p) (pos:=pos) (p1:=p1) (p2:=p2) (f:=j.1) k.cls (k.at i.2) (bH k.sc hl.down) hd.down hc.down
  rw [jF j.2] at h
  exact h⟩)
def AX (f:aQ T) (nm:NK) (N:List Str) (eo:Expr) (x:Str) (p:Pos) (ee:Expr) (pos:Pos):Option (GS T nm N (.Assign [.Attribute eo x p] ee pos)):=do
 let j ← bS x T.at_
 let o ← f nm N eo
 let e ← f nm N ee
 let hp ← yes (lI e.1)
 some ⟨.fld o.1 j.1 e.1,fun X k=>by
  have h:=xu (X:=X) (p:=p) (pos:=pos) (f:=j.1) k.cls hp.down (o.2 X k.toCxOk).1 (e.2 X k.toCxOk).1
  rw [jF j.2] at h
  exact h⟩
def yT (f:aQ T) (nm:NK) (N:List Str):(eo:Expr)→(x:Str)→(p:Pos)→(ee:Expr)→(pos:Pos)→Option (GS T nm N (.Assign [.Attribute eo x p] ee pos))
 | .Name y p1,x,p,.Dict [] [] p2,pos=>(u8 nm N y p1 x p pos p2).map (·.1)
 | .Name y p1,x,p,.List [] p2,pos=>(u8 nm N y p1 x p pos p2).map (·.2)
 | eo,x,p,ee,pos=>AX f nm N eo x p ee pos
def AR (nm:NK) (N:List Str) (op:Operator) (pos:Pos):(tg e:Expr)→Option (GS T nm N (.AugAssign tg op e pos)):=fun _ _=>none
structure nJ (T:Ns) (X:Cx) (nm:NK) (N:List Str):Prop where
 hN:X.N=N
 nd:N.Nodup
 sc:X.env.scope.names=nm
 cls:cA X T.an
theorem CxOk.su (k:CxOk T X nm N) (e:Value):nJ T (aN X e) nm N:=⟨k.hN,k.nd,k.sc,fun c cl h=>let ⟨i,h⟩:=k.cls c cl h;⟨i,h.ci,h.cls,h.na,h.wh,h.nm,h.nd,h.xc⟩⟩
def ve (nm:NK) (N:List Str):(e:Expr)→Option {c:E // bf c=false∧∀ X,nJ T X nm N→LE X e c}
 | .Name x pos=>do
   let hd ← no (x == ("__debug__":Str))
   let hc ← no (x == ("__classdict__":Str))
   let hl ← yes (cM nm x)
   let i ← bS x N
   some ⟨.v i.1,rfl,fun X k=>xh (by rw [k.hN];exact i.2) (bH k.sc hl.down) hd.down hc.down⟩
 | .Constant c j pos=>match c with
   | .none=>some ⟨.c .non,rfl,fun X k=>vg⟩
   | .bool b=>some ⟨.c (.bl b),rfl,fun X k=>ze⟩
   | .int i=>some ⟨.c (.int i),rfl,fun X k=>vf⟩
   | .str x=>some ⟨.c (.str x),rfl,fun X k=>vh⟩
   | _=>none
 | .Attribute (.Name y p) x pos=>do
   let hd ← no (y == ("__debug__":Str))
   let hc ← no (y == ("__classdict__":Str))
   let hl ← yes (cM nm y)
   let i ← bS y N
   let j ← bS x T.at_
   let hs ← yes (bp (.Name y p))
   some ⟨.fld (.v i.1) j.1,rfl,fun X k=>pX (jF j.2) k.cls (xh (by rw [k.hN];exact i.2) (bH k.sc hl.down) hd.down hc.down) hs.down⟩
 | _=>none
def y9 (nm:NK) (N:List Str):(es:List Expr)→Option {c:E // ∀ X,nJ T X nm N→LA X es c}
 | []=>some ⟨.nil,fun X k=>qF⟩
 | e :: r=>do
   let h ← yes (aP e)
   let a ← ve (T:=T) nm N e
   let b ← y9 nm N r
   some ⟨.cons a.1 b.1,fun X k=>mw (a.2.2 X k) (b.2 X k) (af h.down)⟩
def za (nm:NK) (N:List Str):(e:Expr)→Option {c:E // bf c=false∧∀ X,nJ T X nm N→LE X e c}
 | .Tuple es n pos=>(y9 (T:=T) nm N es).map fun a=>⟨.tup a.1,rfl,fun X k=>qO (a.2 X k)⟩
 | e=>ve nm N e
def cSu (nm:NK) (N:List Str):(st:Stmt)→Option {c:S // ∀ X,nJ T X nm N→LS X st c}
 | .Return (some e) pos=>(za (T:=T) nm N e).map fun a=>⟨.ret a.1,fun X k=>lx (a.2.2 X k)⟩
 | .Assign [.Name x p] e pos=>do
   let i ← bS x N
   let hl ← yes (fY true nm x)
   let hn ← yes (jj e)
   let a ← za (T:=T) nm N e
   some ⟨.set i.1 a.1,fun X k=>ly (by rw [k.hN];exact k.nd) (by rw [k.hN];exact i.2) (by
    have l1:nm.lookup x=some .local∨nm.lookup x=some .cell:=by have:=hl.down;unfold fY at this;simpa using this
    show X.env.scope.names.lookup x=_∨X.env.scope.names.lookup x=_
    rw [k.sc];exact l1) (a.2.2 X k) (fun q=>by rw [a.2.1] at q;cases q) (fw hn.down)⟩
 | _=>none
def wi (nm:NK) (N:List Str):(st:List Stmt)→Option {c:S // ∀ X,nJ T X nm N→LSs X st c}
 | []=>some ⟨.skip,fun X k=>qW⟩
 | [a]=>(cSu nm N a).map fun x=>⟨x.1,fun X k=>qX (x.2 X k)⟩
 | a :: b :: r=>do
   let x ← cSu nm N a
   let y ← wi nm N (b :: r)
   some ⟨.seq x.1 y.1,fun X k=>mE (x.2 X k) (y.2 X k)⟩
def cHs (nm:NK) (N:List Str):(hs:List ExceptHandler)→Option {r:S // ∀ X,CxS T X nm N→HL X hs r}
 | []=>some ⟨.skip,fun X k=>wD⟩
 | .ExceptHandler (some (.Name Bn np)) (some x) (b₀ :: suite) hpos :: hs=>do
   let j ← bS Bn T.hx
   let hz ← no (Bn == ("":Str))
   let hg ← yes (b9 nm Bn)
   let hd ← no (Bn == ("__debug__":Str))
   let i ← bS x N
   let hl ← yes (nm.lookup x == some .local)
   let b ← wi (T:=T) nm N (b₀ :: suite)
   let r ← cHs nm N hs
   some ⟨.hand j.1 (some i.1) b.1 r.1,fun X k=>zy (fun e=>b.2 _ (k.toCxOk.su e)) (k.hxs j.1 Bn j.2 (by simpa using hz.down)) (bF k.sc hg.down) hd.down k.ndx (k.at i.2) (by rw [k.sc];simpa using hl.down) (r.2 X k)⟩
 | .ExceptHandler (some (.Name Bn np)) none (b₀ :: suite) hpos :: hs=>do
   let j ← bS Bn T.hx
   let hz ← no (Bn == ("":Str))
   let hg ← yes (b9 nm Bn)
   let hd ← no (Bn == ("__debug__":Str))
   let b ← wi (T:=T) nm N (b₀ :: suite)
   let r ← cHs nm N hs
   some ⟨.hand j.1 none b.1 r.1,fun X k=>zA (fun e=>b.2 _ (k.toCxOk.su e)) (k.hxs j.1 Bn j.2 (by simpa using hz.down)) (bF k.sc hg.down) hd.down (r.2 X k)⟩
 | _=>none
def Bm (a:GSs T nm N body):(hs:List ExceptHandler)→(pos:Pos)→Option (GS T nm N (.Try body hs [] [] pos))
 | h0 :: hs,pos=>(cHs nm N (h0 :: hs)).map fun r=>⟨.try_ a.1 r.1,fun X k=>xw k.fr (a.2 X k) (r.2 X k)⟩
 | _,_=>none
theorem qV {st:Stmt}:LS X st (.hand 0 none .skip .skip):=fun z I nb=>ZX rfl nb
def y7 (f:aQ T) (nm:NK) (N:List Str) (er:List Expr) (p2 pos:Pos):Option (GS T nm N (.Return (some (.List er p2)) pos)):=none
mutual
noncomputable def Bh (f:aQ T) (g:gF T) (nm:NK) (N:List Str):(n:Nat)→(st:Stmt)→Option (GS T nm N st)
 | 0,_=>none
 | _+1,.Pass pos=>some ⟨.skip,fun X k=>t8⟩
 | _+1,.Return none pos=>some ⟨.ret (.c .non),fun X k=>ub⟩
 | _+1,.Return (some (.List er p2)) pos=>(y7 f nm N er p2 pos).orElse fun _=>(f nm N (.List er p2)).map fun a=>⟨.ret a.1,fun X k=>lx (a.2 X k.toCxOk).1⟩
 | _+1,.Return (some e) pos=>(f nm N e).map fun a=>⟨.ret a.1,fun X k=>lx (a.2 X k.toCxOk).1⟩
 | _+1,.Expr (.Constant (.str x) j p) pos=>some ⟨.skip,fun X k=>xq⟩
 | _+1,.Expr (.Call (.Attribute (.Name x p) m ap) [e] [] cp) pos=>((AQ f nm N x p m ap e cp pos).orElse fun _=>AW f nm N x p m ap e cp pos).orElse fun _=>u6 f nm N _ pos
 | _+1,.Expr e pos=>u6 f nm N e pos
 | _+1,.Assign [.Name x p] e pos=>Be f g nm N x p pos e
 | _+1,.Assign [.Subscript (.Name x p) eb p2] ee pos=>Bc f nm N x p eb p2 ee pos
 | _+1,.Assign [.Subscript eo eb p2] ee pos=>y5 f nm N eo eb p2 ee pos
 | _+1,.Raise (some (.Call (.Name x np) args [] cp)) none pos=>(wf f nm N x np args cp pos).orElse fun _=>sI nm N x np args cp pos
 | _+1,.Assign [.Attribute eo x p] ee pos=>yT f nm N eo x p ee pos
 | _+1,.AugAssign tg op e pos=>AR nm N op pos tg e
 | _+1,.Assign [.Tuple ts j p] (.Tuple vs k q) pos=>zb f nm N j p k q pos ts vs
 | _+1,.Assign [.Tuple es j p] e pos=>do
   let t ← yv true nm N es
   let h ← yes (vI e)
   let a ← f nm N e
   some ⟨.setT t.1 a.1,fun X k=>ud (a.2 X k.toCxOk).1 (qS k.calm k.ndx (t.2.as_ X k.tg) (t.2.len _) (t.2.fst _)) rA (oS h.down) rfl⟩
 | n+1,.If e sa sb pos=>do
   let c ← g nm N e
   let a ← nU f g nm N n sa
   let b ← nU f g nm N n sb
   some ⟨.ifs c.1 a.1 b.1,fun X k=>zW (c.2 X k.toCxOk) (a.2 X k) (b.2 X k)⟩
 | n+1,.For tg iter body [] pos=>do
   let it ← u9 (f nm N) tg iter
   let q ← tgP true nm N tg
   let hn ← yes (aP iter)
   let b ← nU f g nm N n body
   some ⟨.for_ q.1.1 q.1.2 it.1 b.1,fun X k=>xv k.calm (fun z o=>uD k.fr) (it.2 X k.toCxOk) (q.2.1 X k.tg) (b.2 X k) (ig hn.down)⟩
 | n+1,.Try body hs [] [] pos=>do
   let a ← nU f g nm N n body
   Bm a hs pos
 | _,_=>none
noncomputable def cSt (f:aQ T) (g:gF T) (nm:NK) (N:List Str):(n:Nat)→(st:Stmt)→Option (GS T nm N st)
 | 0,st=>some ⟨.hand 0 none .skip .skip,fun X k=>qV⟩
 | n+1,st=>some ((Bh f g nm N n st).getD ⟨.hand 0 none .skip .skip,fun X k=>qV⟩)
noncomputable def nU (f:aQ T) (g:gF T) (nm:NK) (N:List Str):(n:Nat)→(st:List Stmt)→Option (GSs T nm N st)
 | 0,_=>none
 | _+1,[]=>some ⟨.skip,fun X k=>qW⟩
 | n+1,[a]=>(cSt f g nm N n a).map fun x=>⟨x.1,fun X k=>qX (x.2 X k)⟩
 | n+1,a :: b :: r=>do
   let x ← cSt f g nm N n a
   let y ← nU f g nm N n (b :: r)
   some ⟨.seq x.1 y.1,fun X k=>mE (x.2 X k) (y.2 X k)⟩
end
end
def bE (st:Stmt):List Str:=(bq st).args.map (·.arg)
def ka (st:Stmt):List Str:=bE st ++ ((au st).names.filter fun y=>(y.2 == .local || y.2 == .cell) && !(bE st).contains y.1).map (·.1)
def fJ (T:Ns) (st:Stmt):Option Fn:=(nU (nR T 200).1 (nR T 200).2 (au st).names (ka st) 200 (bY st)).map fun c=>⟨(bE st).length,(ka st).length,c.1⟩
structure sA (T:Ns) (X:Cx) (ad:List Addr) (lv:Nat):Prop where
 calm:X.calm=true
 fns:∀ (j:Nat) (f:Addr),ad[j]? = some f→∃ x qual st fd fn mu al fc oc,Fun X.K x qual st f fd∧b6 X.K fd (bE st) []∧cZ (ka st) (bE st) (au st)∧X.Γ.fn[j]? = some fn∧fJ { T with mu:=mu,alt:=al,fc:=fc,oc:=oc } st=some fn
 glb:∀ (j:Nat) (x:Str),T.fn[j]? = some x→∃ f,ad[j]? = some f∧X.mg x=some (.ref f)
 gls:∀ (j:Nat) (x:Str),T.gl[j]? = some x→∃ d u,X.Γ.gl[j]? = some d∧X.mg x=some u∧aY X.K d u=true
 tbs:∀ (j:Nat) (x:Str),T.tb[j]? = some x→∃ t a,X.Γ.tb[j]? = some t∧X.mg x=some (.ref a)∧TbL X a t
 blt:∀ x∈T.bl,X.mg x=none
 cls:cA X T.an
 mts:∀ q∈T.me,∃ f,ad[q.2.2]? = some f∧nI X T.an q.1 q.2.1 f
 nws:∀ (j:Nat) (x:Str),T.nw[j]? = some x→x≠""→∃ f i cl,ad[cl.init]? = some f∧Mk X.K i.ad f∧X.Γ.cl[j]? = some cl∧cl.what=0∧X.W.ci[j]? = some i∧X.W.what[j]? = some 0∧X.mg x=some (.ref i.ad)
 nds:∀ (j:Nat) (x:Str),T.nd[j]? = some x→x≠""→∃ f fd ps i cl,FnI X lv f fd ps i.nm none∧b6 X.K fd ps []∧Mk X.K i.ad f∧Cls X.K i.ad∧(∀ f∈i.nm,cP X.K i.ad f)∧X.Γ.cl[j]? = some cl∧X.W.ci[j]? = some i∧X.W.what[j]? = some 1∧i.nm.length=cl.at_.length∧X.mg x=some (.ref i.ad)
 rs:∀ (j:Nat) (x:Str),T.ex[j]? = some x→x≠""→∃ (k:Cl) (i:CI) (fI:Addr) (fd:FuncData) (ps:List Str) (Bx nwI iniI:String) (bmB:List Value),ExcBaseFacts Bx nwI iniI bmB∧gE X.K i.ad fI bmB nwI∧FnJ X lv fI fd ps i.nm k i.ad∧b6 X.K fd ps []∧fB X.K i.ad∧(∀ f∈i.nm,PySem.W.findIn X.K (.ref i.ad) f=some none)∧X.Γ.cl[j]? = some k∧X.W.ci[j]? = some i∧X.W.what[j]? = some 2∧i.nm.length=k.at_.length∧PySem.W.mroIn X.K i.ad (.type "BaseException")=some true∧PySem.W.typeIn X.K (.ref i.ad)=some (.type "type")∧PySem.W.keepIn X.K (.ref i.ad)=true∧X.mg x=some (.ref i.ad)∧k.at_.isEmpty=false
 hxs:∀ (j:Nat) (x:Str),T.hx[j]? = some x→x≠""→pk X j x
 rt:∀ (j:Nat) (x:Str),T.xt[j]? = some x→x≠""→RtP X j x
section
variable {X:Cx} {T:Ns} {ad:List Addr} {lv:Nat}
theorem df.to {A:Around} {fr:List Env} {N:List Str} {e:Env} {c1 d1:Nat→List D→List O→Res} (h:df X an c k i):df (X.to A fr N e c1 d1) an c k i:=⟨h.ci,h.cls,h.na,h.wh,h.nm,h.nd,h.xc⟩
theorem oY (Pg:sA T X ad lv) (n:Nat) (ih:∀ (j:Nat) (f:Addr),ad[j]? = some f→bJ X (ag X.Γ n) (lv+1+n) j f) (ih1:∀ (j:Nat) (f:Addr),ad[j]? = some f→∃ m,m+1≤lv+1+n∧bJ X (aK X.Γ n) m j f) {j:Nat} {f:Addr} (h:ad[j]? = some f):bJ X (ag X.Γ (n+1)) (lv+1+(n+1)) j f:=by
 obtain ⟨x,qual,st,fd,fn,mu,al,fc,oc,Fu,b,Sc,hj,hc⟩:=Pg.fns j f h
 obtain ⟨oc,od,kV,doc,pm,an,cd,ct,osl,rfl,lk,hcd⟩:=Fu.ex
 unfold fJ at hc
 obtain ⟨c,_,rfl⟩:=Option.map_eq_some_iff.mp hc
 refine ⟨_,_,zw (cal:=ag X.Γ n) (cal1:=aK X.Γ n) (k:=lv+1+n) lk hcd Sc hj fun A fr L hr=>c.2 _ ⟨⟨rfl,Sc.nd,rfl,Sc.kind,Pg.calm,fun i y hy=>?_,Pg.gls,Pg.tbs,Pg.blt,fun c cl h=>let ⟨i,h⟩:=Pg.cls c cl h;⟨i,h.to⟩,fun q hq=>?_,fun i y hy hz=>?_,fun i y hy hz=>?_,Pg.hxs⟩,⟨⟨fr,rfl⟩,rfl⟩,fun i y hy hz=>?_,Pg.rt⟩,b,Fu.kp⟩
 ·obtain ⟨g,h1,h2⟩:=Pg.glb i y hy
  exact ⟨_,g,(ih i g h1).to,hr,h2⟩
 ·obtain ⟨g,h1,⟨i,k,a1,a2,a3⟩⟩:=Pg.mts q hq
  exact ⟨_,g,(ih _ g h1).to,hr,⟨i,k,a1,a2.to,a3⟩⟩
 ·obtain ⟨g,ci,cl,h1,h2⟩:=Pg.nws i y hy hz
  obtain ⟨m,hm,h3⟩:=ih1 _ g h1
  exact ⟨m,g,ci,cl,h3.to,hr.mono hm,h2⟩
 ·obtain ⟨g,fd,ps,ci,cl,h1,h2,h3⟩:=Pg.nds i y hy hz
  exact ⟨lv,g,fd,ps,ci,cl,h1.to,h2,hr.mono (by omega),h3⟩
 ·obtain ⟨k,ci,fI,fd,ps,Bx,nwI,iniI,bmB,h1,h2,h3,h4,h5⟩:=Pg.rs i y hy hz
  exact ⟨lv,k,ci,fI,fd,ps,Bx,nwI,iniI,bmB,h1,h2,h3.to,h4,hr.mono (by omega),h5⟩
theorem lZ (Pg:sA T X ad lv) {j:Nat} {f:Addr} (h:ad[j]? = some f) {cal:Nat→List D→List O→Res} (no:∀ ds st,cal j ds st = .bad) (m:Nat):bJ X cal m j f:=by
 obtain ⟨x,qual,st,fd,fn,mu,al,fc,oc,Fu,b,_⟩:=Pg.fns j f h
 exact ⟨fd,_,⟨fun ds st nb=>ZX (no ds st) nb,fun A fr z args us ds _ _ _ _ nb=>ZX (no ds _) nb⟩,b,Fu.kp⟩
theorem jp (Pg:sA T X ad lv):∀ (n j:Nat) (f:Addr),ad[j]? = some f→bJ X (ag X.Γ n) (lv+1+n) j f
 | 0,j,f,h=>lZ Pg h (fun _ _=>rfl) _
 | n+1,j,f,h=>oY Pg n (jp Pg n) (fun i g hg=>by
   match n with
   | 0=>exact ⟨0,by omega,lZ Pg hg (fun _ _=>rfl) _⟩
   | n'+1=>exact ⟨lv+1+n',by omega,jp Pg n' i g hg⟩) h
end
theorem ku {vs:List Value} {ns:List Int} (h:IntsAre vs ns):RDs W ρ G (ns.map D.int) vs:=by
 induction h with
 | nil=>exact rfl
 | cons n t h ih=>exact .cons ⟨t,rfl⟩ ih
theorem qG {X:Cx} {Γ:Gm} {n j k:Nat} {fa a:Addr} {s₁:Shared} {vs:List Value} {ns:List Int} (md:Mod X.K X.mg X.base) (hb:X.base=s₁.heap) (os:X.os=s₁.os) (hc:X.calm=true) (hg:s₁.gens = #[])
 (ha:s₁.heap.get? a=some { cls:=.type "list",data:=.seq vs.toArray }) (hi:IntsAre vs ns) (hl:ns.length≤sizeLine) (hr:bg k callerA)
 (F:bJ X (ag Γ n) k j fa) (hlaw:∃ st',ag Γ n j [.lst (ns.map .int)] [] = .ok (.bl true) st') :
 codeAny X.M callerA (.call (.ref fa) ⟨[.ref a],[]⟩) (fun r s'=>r = .ok (.ret (.bool true))∧OldK s₁.heap s'.heap∧s'.os=s₁.os∧AllBare s'.gens) s₁:=by
 obtain ⟨st',e⟩:=hlaw
 obtain ⟨fd,ps,F,hbd,_⟩:=F
 have hp:=F.len [.lst (ns.map .int)] [] (by rw [e];exact fun z=>nomatch z)
 have nm:∀ {b},¬ Mu ([]:Rs) b:=fun ⟨p,m,_⟩=>nomatch m
 have I:HR { X with A:=callerA,fr:=[] } ⟨[],s₁.heap.get?,⟨[],[],[]⟩,[],s₁⟩:=⟨md,rfl,fun _=>hr.hd,(fun b o e=>by rw [hb] at e;exact e),.refl _,rfl,(fun i j p q b h=>by simp at h),fun b m=>(nm m).elim,(fun n o p h=>by simp at h),trivial,(fun b m=>nomatch m),(by show AllBare s₁.gens;rw [hg];exact fun g h=>by simp at h),os.symm⟩
 refine codeAny_mono (F.run callerA [] ⟨[],s₁.heap.get?,⟨[],[],[]⟩,[],s₁⟩ ⟨[.ref a],[]⟩ [.ref a] [.lst (ns.map .int)] hr I (hbd s₁ [.ref a] (hb ▸ md.kin) hp) (.cons ⟨a,_,vs,rfl,ha,⟨⟨_,rfl⟩,by rw [hi.length];exact hl⟩,ku hi⟩ rfl) (by rw [e];exact fun z=>nomatch z)) fun r s' hq=>?_
 rw [e] at hq
 cases r with
 | error u=>obtain ⟨_,_,_,_,z,_⟩:=hq;cases z
 | ok fl=>cases fl with
   | ret u=>
     obtain ⟨z',d,q1,q2,S,H,rd⟩:=hq
     subst q1
     cases q2
     cases (show u=Value.bool true from rd)
     have keep:∀ b o,s₁.heap.get? b=some o→z'.s.heap.get? b=some o:=fun b o e=>S.sm b o e nm (fun z=>z) (fun m=>nomatch m)
     exact ⟨rfl,OldK.of_keep keep,H.os.trans os,H.br⟩
   | _=>exact hq.elim
theorem uR {l:PySem.W.OpenLaw} {n k lv:Nat} {q:Program} {loose:List Str} {XP:(Str→Option Value)→Heap→Prop} {YP:World→Heap→Prop} {d:DefRec} {K:Params→Fg} {j:Nat} {Γ:Gm}
 (hn:l.most=some n) (hn2:n≤sizeLine) (hdf:d.params.defaults = []) (hr:bg lv callerA) (hY:∀ (w:World) (h:Heap),YP w h→(K w.params).In h)
 (F:∀ (w:World) (mg:Str→Option Value) (fa:Addr) (h:Heap) (os:OsState),(K w.params).In h→h.Ns mainGlobals mg→mg d.name=some (.ref fa)→Mod (K w.params) mg h →
  ∃ X:Cx,X.W.P=l.prog∧X.W.w=w∧X.K=K w.params∧X.mg=mg∧X.base=h∧X.os=os∧X.calm=true∧bJ X (ag Γ k) lv j fa)
 (hlaw:∀ ns:List Int,ns.length≤n→∃ st',ag Γ k j [.lst (ns.map .int)] [] = .ok (.bl true) st'):PySem.W.WalkO q loose XP YP l.row.toRowW d [] (fun f vs=>PySem.call f vs):=by
 refine Att.attach_call hn hdf fun w s₀ s₁ mg mb fa o pm cd doc a vs ns G Y ho hd hcd hmg hobj hints hlen hg=>?_
 have KX:=hY w _ Y
 have md:Mod (K w.params) mg s₁.heap:=⟨KX,G.T.g,⟨mb,G.T.b,G.T.builtins⟩,G.T.nolimit⟩
 obtain ⟨X,e1,e2,e3,e4,e5,e6,e7,hF⟩:=F w mg fa s₁.heap s₁.os KX G.T.g hmg md
 have:=qG (X:=X) (by rw [e3,e4,e5];exact md) e5 e6 e7 hg hobj hints (Nat.le_trans hlen hn2) hr hF (hlaw ns hlen)
 rw [show X.M=model l.prog w by show model X.W.P X.W.w=_;rw [e1,e2]] at this
 exact this
def FnF (T:Ns) (K:Fg) (Γ:Gm) (j:Nat) (f:Addr):Prop:=∃ x qual st fd fn mu al fc oc,Fun K x qual st f fd∧b6 K fd (bE st) []∧cZ (ka st) (bE st) (au st)∧Γ.fn[j]? = some fn∧fJ { T with mu:=mu,alt:=al,fc:=fc,oc:=oc } st=some fn
theorem kb:∀ {ps:List Str} {us:List Value},ps.Nodup→us.length=ps.length→ps.filterMap (fun n=>((ps.zip us).lookup n).map (n,·))=ps.zip us
 | [],[],_,_=>rfl
 | p :: ps,u :: us,nd,hl=>by
   have ih:=kb (List.nodup_cons.mp nd).2 (by simpa using hl)
   rw [List.filterMap_cons]
   simp only [List.zip_cons_cons,List.lookup_cons,ZT,Option.map_some]
   congr 1
   have:∀ l:List Str,(∀ n∈l,n∈ps)→l.filterMap (fun n=>((match n == p with | true=>some u | false=>(ps.zip us).lookup n).map fun x=>(n,x)))=l.filterMap fun n=>((ps.zip us).lookup n).map fun x=>(n,x):=fun l=>by
    induction l with
    | nil=>intro _;rfl
    | cons n l ih=>
      intro h
      have q:(n == p)=false:=ZU.mpr fun e=>(List.nodup_cons.mp nd).1 (e ▸ h n List.mem_cons_self)
      rw [List.filterMap_cons,List.filterMap_cons,ih fun m hm=>h m (List.mem_cons_of_mem _ hm),q]
   exact (this ps fun _ h=>h).trans ih
 | [],_ :: _,_,hl=>by simp at hl
 | _ :: _,[],_,hl=>by simp at hl
theorem oN:∀ {ps:List Str} {us:List Value},us.length=ps.length→(ps.filter fun n=>((ps.zip us).lookup n).isNone) = []:=by
 intro ps us hl
 rw [List.filter_eq_nil_iff]
 intro n hn
 have:((ps.zip us).lookup n).isSome=true:=by
  induction ps generalizing us with
  | nil=>cases hn
  | cons p ps ih=>
    cases us with
    | nil=>simp at hl
    | cons u us=>
      rw [List.zip_cons_cons,List.lookup_cons]
      cases e:n == p with
      | true=>rfl
      | false=>
        rcases List.mem_cons.mp hn with q | q
        ·subst q;simp at e
        ·exact ih (by simpa using hl) q
 cases e:(ps.zip us).lookup n with
 | none=>rw [e] at this;cases this
 | some v=>simp
theorem kQ {p:Arguments} {x q:Str} {body:List Stmt} {sc:Scope} {kV doc pm cd ct:Value} {an:Option Addr} {us:List Value} (h1:p.posonlyargs = []) (h2:p.kwonlyargs = []) (h3:p.vararg=none) (h4:p.kwarg=none) (nd:(p.args.map (·.arg)).Nodup) (hl:us.length=(p.args.map (·.arg)).length) :
 bindArgs (PySem.W.fnOf x q p body sc .none kV doc pm an cd ct) ⟨us,[]⟩=pure ((p.args.map (·.arg)).zip us):=by
 have e1:=oN hl
 have e2:=kb nd hl
 obtain ⟨a1,a2,a3,a4,a5,a6,a7⟩:=p
 cases h1;cases h2;cases h3;cases h4
 refine Eq.trans (ZY (c:=((decide (us.length>(a2.map (·.arg)).length)) && true)=true) ?_) ?_
 ·rw [hl];simp
 refine Eq.trans (ZY ?_) ?_
 ·show ¬ (!((a2.map (·.arg)).take ((a2.map (·.arg)).length - (List.drop (0 - (a2.map (·.arg)).length) ([]:List Value)).length) |>.filter fun n=>(((a2.map (·.arg)).zip us).lookup n).isNone).isEmpty)=true
  rw [List.drop_nil,List.length_nil,Nat.sub_zero,List.take_length,e1];exact fun h=>nomatch h
 have e3:∀ n:Nat,List.drop n ([]:List Value) = []:=fun _=>List.drop_nil
 show (forIn ((List.drop ((List.map Arg.arg a2).length - (List.drop (0 - (List.map Arg.arg a2).length) ([]:List Value)).length) (List.map Arg.arg a2)).zip (List.drop (0 - (List.map Arg.arg a2).length) ([]:List Value))) _ _ >>= _)=_
 rw [e3,List.zip_nil_right]
 show (pure ((List.map Arg.arg a2 ++ []).filterMap fun n=>(((List.map Arg.arg a2).zip us).lookup n).map (n,·)):Sem _)=_
 rw [List.append_nil]
 exact ZS pure e2
def fnC (st:Stmt):Bool:=(bq st).posonlyargs.isEmpty && (bq st).kwonlyargs.isEmpty && (bq st).vararg.isNone && (bq st).kwarg.isNone && (match (au st).kind with | .function=>true | _=>false) && !(au st).isCoroutine && !(au st).isGenerator &&
 decide ((ka st).Nodup∧(ka st).take (bE st).length=bE st∧(∀ x∈bE st,(au st).names.lookup x=some .local∨(au st).names.lookup x=some .cell)∧∀ y∈(au st).names,y.2≠.free)
theorem pY {st:Stmt} (h:fnC st=true):cZ (ka st) (bE st) (au st)∧∀ {K:Fg} {x q:Str} {f:Addr} {fd:FuncData},Fun K x q st f fd→b6 K fd (bE st) []:=by
 unfold fnC at h
 simp only [Bool.and_eq_true,decide_eq_true_eq,Bool.not_eq_true',List.isEmpty_iff,Option.isNone_iff_eq_none] at h
 obtain ⟨⟨⟨⟨⟨⟨⟨h1,h2⟩,h3⟩,h4⟩,h5⟩,h6⟩,h7⟩,h8,h9,h10,h11⟩:=h
 have nd:(bE st).Nodup:=h9 ▸ h8.sublist (List.take_sublist _ _)
 refine ⟨⟨(by split at h5 <;> first | assumption | cases h5),h6,h7,h8,h9,h10,h11⟩,fun F=>F.binds fun _ _ _ _ _ _ us hl=>kQ h1 h2 h3 h4 nd hl⟩
def cT (T:Ns) (st:Stmt):Fn:=(fJ T st).getD ⟨0,0,.skip⟩
def FsL (K:Fg):List (Str×Str×Stmt)→List Addr→Prop
 | [],[]=>True
 | p :: r,f :: fs=>(∃ fd,Fun K p.1 p.2.1 p.2.2 f fd)∧FsL K r fs
 | _,_=>False
theorem FsL.app {K:Fg}:∀ {l l' fs fs'},FsL K l fs→FsL K l' fs'→FsL K (l ++ l') (fs ++ fs')
 | [],_,[],_,_,h=>h
 | _ :: _,_,_ :: _,_,h,t=>⟨h.1,FsL.app h.2 t⟩
 | [],_,_ :: _,_,h,_=>h.elim
 | _ :: _,_,[],_,h,_=>h.elim
theorem FsL.len {K:Fg}:∀ {l fs},FsL K l fs→fs.length=l.length
 | [],[],_=>rfl
 | _ :: _,_ :: _,h=>ZS (· + 1) h.2.len
 | [],_ :: _,h=>h.elim
 | _ :: _,[],h=>h.elim
theorem FsL.at {K:Fg}:∀ {l fs} {j:Nat} {f:Addr},FsL K l fs→fs[j]? = some f→∃ p fd,l[j]? = some p∧Fun K p.1 p.2.1 p.2.2 f fd
 | [],[],j,f,_,e=>by simp at e
 | p :: l,g :: fs,0,f,h,e=>by simp at e;subst e;obtain ⟨fd,F⟩:=h.1;exact ⟨p,fd,rfl,F⟩
 | p :: l,g :: fs,j+1,f,h,e=>FsL.at (j:=j) h.2 (by simpa using e)
 | [],_ :: _,_,_,h,_=>h.elim
 | _ :: _,[],_,_,h,_=>h.elim
theorem wA {T:Ns} {ad:List Addr} {K:Fg} {Γ:Gm} {l:List (Str×Str×Stmt)} {vs:List (List Str×List (Str×Nat)×List Str×List Str)} (hl:l.length=vs.length) (hΓ:Γ.fn=(l.zip vs).map fun p=>cT { T with mu:=p.2.1,alt:=p.2.2.1,fc:=p.2.2.2.1,oc:=p.2.2.2.2 } p.1.2.2) (hc:((l.zip vs).all fun p=>fnC p.1.2.2 && (fJ { T with mu:=p.2.1,alt:=p.2.2.1,fc:=p.2.2.2.1,oc:=p.2.2.2.2 } p.1.2.2).isSome)=true) (h:FsL K l ad) {j:Nat} {f:Addr} (e:ad[j]? = some f):FnF T K Γ j f:=by
 obtain ⟨p,fd,e1,F⟩:=h.at e
 have hj:j<vs.length:=hl ▸ (List.getElem?_eq_some_iff.mp e1).1
 have e2:(l.zip vs)[j]? = some (p,vs[j]):=List.getElem?_zip_eq_some.mpr ⟨e1,List.getElem?_eq_getElem hj⟩
 have c:=List.all_eq_true.mp hc _ (List.mem_of_getElem? e2)
 rw [Bool.and_eq_true] at c
 obtain ⟨S,B⟩:=pY c.1
 refine ⟨_,_,_,fd,cT { T with mu:=vs[j].1,alt:=vs[j].2.1,fc:=vs[j].2.2.1,oc:=vs[j].2.2.2 } p.2.2,vs[j].1,vs[j].2.1,vs[j].2.2.1,vs[j].2.2.2,F,B F,S,by rw [hΓ,List.getElem?_map,e2];rfl,?_⟩
 cases q:fJ { T with mu:=vs[j].1,alt:=vs[j].2.1,fc:=vs[j].2.2.1,oc:=vs[j].2.2.2 } p.2.2 with
 | none=>have:=c.2;dsimp only at this;rw [q] at this;exact nomatch this
 | some g=>unfold cT;rw [q];rfl
def fE (K:Fg):List (Str×Stmt)→Prop
 | []=>True
 | p :: r=>(∃ f fd,Fun K p.1 p.1 p.2 f fd∧PySem.W.nsIn K mainGlobals p.1=some (some (.ref f)))∧fE K r
theorem hl_cons {K:Fg} {x:Str} {st:Stmt} {f:Addr} {od an:Option Addr} {sl:Array (Option Value)} {oc kV dc pm cd ct:Value} (a:PySem.W.nsIn K mainGlobals x=some (some (.ref f)))
 (l:K.lookup f=some ⟨oc,od,.func (PySem.W.fnOf x x (bq st) (bY st) (au st) .none kV dc pm an cd ct),sl⟩) (c:PySem.W.codeIn K cd x=true) (k:PySem.W.keepIn K (.ref f)=true) (t:fE K r):fE K ((x,st) :: r):=⟨⟨f,_,kW l c k,a⟩,t⟩
def vV (mg:Str→Option Value):List Str→List Addr→Prop
 | [],_=>True
 | x :: xs,f :: fs=>mg x=some (.ref f)∧vV mg xs fs
 | _ :: _,[]=>False
theorem fE.ad {K:Fg} {h:Heap} {mg:Str→Option Value} (Y:K.In h) (G:h.Ns mainGlobals mg):∀ {l},fE K l→∃ ad,FsL K (l.map fun p=>(p.1,p.1,p.2)) ad∧vV mg (l.map (·.1)) ad
 | [],_=>⟨[],trivial,trivial⟩
 | _ :: _,⟨⟨f,fd,F,n⟩,t⟩=>let ⟨ad,h1,h2⟩:=fE.ad Y G t;⟨f :: ad,⟨⟨fd,F⟩,h1⟩,PySem.W.mg_of Y G n,h2⟩
theorem fF {ad ms:List Addr} (h:ad.length=n):(ad ++ ms)[n+k]? = ms[k]?:=by rw [List.getElem?_append_right (by omega)];congr 1;omega
theorem pB :∀ {xs} {fs} {j:Nat} {x:Str},vV mg xs fs→xs[j]? = some x→∃ f,fs[j]? = some f∧mg x=some (.ref f)
 | [],_,_,_,_,e=>by simp at e
 | y :: xs,f :: fs,0,x,h,e=>by simp at e;subst e;exact ⟨f,rfl,h.1⟩
 | y :: xs,f :: fs,j+1,x,h,e=>by
   obtain ⟨g,h1,h2⟩:=pB (j:=j) h.2 (by simpa using e)
   exact ⟨g,by simpa using h1,h2⟩
 | _ :: _,[],_,_,h,_=>h.elim
def e9 {α:Type} (P:Nat→α→Prop):Nat→List α→Prop
 | _,[]=>True
 | j,x :: r=>P j x∧e9 P (j+1) r
theorem uV :∀ {l:List α} {j i} {x:α},e9 P j l→l[i]? = some x→P (j+i) x
 | [],_,i,_,_,e=>by simp at e
 | g :: r,j,0,f,h,e=>by simp at e;subst e;exact h.1
 | g :: r,j,i+1,f,h,e=>by
   have:=uV (i:=i) h.2 (by simpa using e)
   rw [show j+(i+1)=j+1+i by omega];exact this
theorem dC (h:e9 P 0 l) (e:l[i]? = some x):P i x:=by
 have:=uV h e
 rwa [Nat.zero_add] at this
def nH (K:Fg) (C:Addr) (m qn:Str) (st:Stmt) (f:Addr):Prop:=(∃ fd,Fun K m qn st f fd)∧yK K C m f
theorem me_mk {K:Fg} {C f:Addr} {m qn:Str} {st:Stmt} {od an:Option Addr} {sl:Array (Option Value)} {oc kV dc pm cd ct:Value} (at_:PySem.W.findIn K (.ref C) m=some (some (.ref f))) (l:K.lookup f=some ⟨oc,od,.func (PySem.W.fnOf m qn (bq st) (bY st) (au st) .none kV dc pm an cd ct),sl⟩) (fn:PySem.W.isFn K (.ref f)=true) (c:PySem.W.codeIn K cd qn=true) (k:PySem.W.keepIn K (.ref f)=true):nH K C m qn st f:=⟨⟨_,kW l c k⟩,at_,fn,k⟩
structure yI (K:Fg) (x:Str) (C:Addr):Prop where
 a:PySem.W.nsIn K mainGlobals x=some (some (.ref C))
 cls:Cls K C
 mks:PySem.W.makesIn K C=true
 kp:PySem.W.keepIn K (.ref C)=true
theorem cc_mk {K:Fg} (a:PySem.W.nsIn K mainGlobals x=some (some (.ref C))) (pg:PySem.W.plainGet K C Str.empty=true) (hd:PySem.W.hasDictIn K C=true) (po:PySem.W.plainOver K C=true) (sa:PySem.W.findIn K (.ref C) "__setattr__" = some (some (.builtin "object.__setattr__"))) (mk:PySem.W.makesIn K C=true) (kp:PySem.W.keepIn K (.ref C)=true):yI K x C:=⟨a,⟨pg,hd,po,sa⟩,mk,kp⟩
structure sB (K:Fg) (x qn:Str) (st:Stmt) (bmB:List Value) (nw:String) (C fI:Addr):Prop where
 a:PySem.W.nsIn K mainGlobals x=some (some (.ref C))
 own:gE K C fI bmB nw
 ini:∃ fd,Fun K "__init__" qn st fI fd
 st:fB K C
 fd:dv K C
 hh:PySem.W.hasDictIn K C=true
 ec:lS K C
 kp:PySem.W.keepIn K (.ref C)=true
 me:PySem.W.mroIn K C (.ref C)=some true
theorem xc_mk {K:Fg} {x qn:Str} {st:Stmt} {bmB:List Value} {nw:String} {C fI:Addr} {nm q:Str} {N:Addr} {bs bm:List Value} {hdct:Bool} {sn:List Str} {sub:List Value} {ab:Bool} {col:Option Bool} {dd:Option Addr} {k0 k1 k2 k3 k5:Option Value} {od an:Option Addr} {sl:Array (Option Value)} {oc kV dc pm cd ct:Value}
 (a:PySem.W.nsIn K mainGlobals x=some (some (.ref C))) (l:K.lookup C=some (excClassObj nm q C N bs bm hdct sn sub ab col dd k0 k1 k2 k3 k5 nw)) (t:PySem.W.tailIn K bmB bm=true) (ini:PySem.W.findIn K (.ref C) "__init__" = some (some (.ref fI))) (fl:K.lookup fI=some ⟨oc,od,.func (PySem.W.fnOf "__init__" qn (bq st) (bY st) (au st) .none kV dc pm an cd ct),sl⟩) (fn:PySem.W.isFn K (.ref fI)=true) (fc:PySem.W.codeIn K cd qn=true) (fk:PySem.W.keepIn K (.ref fI)=true)
 (ga:PySem.W.findIn K (.ref C) "__getattribute__" = some (some (.builtin "BaseException.__getattribute__"))) (gn:PySem.W.findIn K (.ref C) "__getattr__" = some none) (cl:PySem.W.findIn K (.ref C) "__class__" = some (some (.builtin "object.__class__"))) (sg:PySem.W.specialIn K (.builtin "object.__class__") "__get__" = some (some (.builtin "getset_descriptor.__get__"))) (tk:PySem.W.takesIn K (.builtin "object.__class__")=some true) (ob:PySem.W.mroIn K C (.type "object")=some true) (be:PySem.W.mroIn K C (.type "BaseException")=some true)
 (is:(PySem.W.clsIn K C).isSome=true) (kp:PySem.W.keepIn K (.ref C)=true) (tyC:PySem.W.typeIn K (.ref C)=some (.type "type")) (sa:PySem.W.findIn K (.ref C) "__setattr__" = some (some (.builtin "object.__setattr__"))) (ov:((PySem.W.clsIn K C).any fun cd=>gm veB cd.mro || gm exB cd.mro)=true) (hdc:((PySem.W.clsIn K C).any fun cd=>cd.hasDict)=true) (hh:PySem.W.hasDictIn K C=true) (me:PySem.W.mroIn K C (.ref C)=some true):sB K x qn st bmB nw C fI:=
 ⟨a,⟨⟨nm,q,N,bs,bm,hdct,sn,sub,ab,col,dd,k0,k1,k2,k3,k5,l,t⟩,ini,fn⟩,⟨_,kW fl fc fk⟩,⟨sa,ov,hdc,ob⟩,⟨ga,gn,cl,sg,tk,ob,be,is⟩,hh,⟨tyC,is,be⟩,kp,me⟩
def jsC (N:List Str) (nm:NK) (ck:List Nat):(es:List Expr)→Option (PLift (∀ X:Cx,X.N=N→X.env.scope.names=nm→JsP X ck es))
 | []=>some ⟨fun _ _ _=>.nil⟩
 | .Constant (.str x) _ _ :: r=>match h:decide (x.length≤1000) with
   | true=>(jsC N nm ck r).map fun ih=>⟨fun X hN hs=>.c (of_decide_eq_true h) (ih.down X hN hs)⟩
   | false=>none
 | .FormattedValue (.Name x _) (.negSucc 0) none _ :: r=>match h:(ck.any fun i=>decide (N[i+1]? = some x)) && cM nm x && !((x == ("__debug__":Str)) || (x == ("__classdict__":Str))) with
   | true=>(jsC N nm ck r).map fun ih=>⟨fun X hN hs=>by
     simp only [Bool.and_eq_true,List.any_eq_true,decide_eq_true_eq,Bool.not_eq_true'] at h
     obtain ⟨⟨⟨i,h1,h2⟩,h3⟩,h4⟩:=h
     exact .f h1 (hN ▸ h2) (bH hs h3) h4 (ih.down X hN hs)⟩
   | false=>none
 | _=>none
def bsP (bs:Option (Str×List Nat)):Option {q:Str×List Nat // bs=some q}:=match bs with
 | some q=>some ⟨q,rfl⟩
 | none=>none
def wG (N:List Str) (nm:NK) (bs:Option (Str×List Nat)):(b:List Stmt)→(l:List (Str×Nat))→Option (PLift (∀ X:Cx,X.N=N→X.env.scope.names=nm→(∀ b c,bs=some (b,c)→∃ B,X.mg b=some (.ref B)∧jC X.K B)→jD X (bs.map (·.2)) b l))
 | [],[]=>some ⟨fun _ _ _ _=>.nil⟩
 | .Assign [.Attribute (.Name s0 _) f _] (.Name x _) _ :: r,(g,i) :: l=>match h:decide (f=g∧N[0]? = some s0∧N[i]? = some x) && cM nm s0 && cM nm x && !((s0 == ("__debug__":Str)) || (s0 == ("__classdict__":Str)) || (x == ("__debug__":Str)) || (x == ("__classdict__":Str))) with
   | true=>(wG N nm bs r l).map fun ih=>⟨fun X hN hs hB=>by
     simp only [Bool.and_eq_true,decide_eq_true_eq,Bool.not_eq_true'] at h
     obtain ⟨⟨⟨⟨rfl,h1,h2⟩,h3⟩,h4⟩,h5⟩:=h
     exact .cons (hN ▸ h1) (hN ▸ h2) (bH hs h3) (bH hs h4) h5 (ih.down X hN hs hB)⟩
   | false=>none
 | .Expr (.Call (.Attribute (.Name Bn _) m ap) [.Name s0 _,.JoinedStr (e1 :: e2 :: es) _] [] cp) _ :: r,l=>(bsP bs).bind fun q=>match h:decide (Bn=q.1.1∧m = "__init__"∧N[0]? = some s0∧es.length≤50) && cM nm s0 && b9 nm Bn && !((s0 == ("__debug__":Str)) || (s0 == ("__classdict__":Str)) || (Bn == ("__debug__":Str))) && (ap.endLine == cp.line) with
   | true=>(jsC N nm q.1.2 (e1 :: e2 :: es)).bind fun js=>(wG N nm bs r l).map fun ih=>⟨fun X hN hs hB=>by
     obtain ⟨⟨b,ck⟩,hb⟩:=q
     subst hb
     simp only [Bool.and_eq_true,decide_eq_true_eq,Bool.not_eq_true'] at h
     obtain ⟨⟨⟨⟨⟨rfl,rfl,h1,h2⟩,h3⟩,h4⟩,h5⟩,h6⟩:=h
     obtain ⟨B,h9,h10⟩:=hB _ _ rfl
     exact .base rfl (hN ▸ h1) (bH hs h3) h5 (bF hs h4) h9 h10 (js.down X hN hs) h2 h6 (ih.down X hN hs hB)⟩
   | false=>none
 | _,_=>none
def dtC (st:Stmt) (nm:List Str) (bs:Option (Str×List Nat)):Bool:=fnC st && decide (ka st=bE st∧(bE st).length=nm.length+1∧nm.Nodup∧nm.length<900) && (wG (bE st) (au st).names bs (bY st) (nm.zip (List.range' 1 nm.length))).isSome
theorem eB {X:Cx} {x qual:Str} {st:Stmt} {f:Addr} {fd:FuncData} {nm:List Str} (bs:Option (Str×List Nat)) (F:Fun X.K x qual st f fd) (h:dtC st nm bs=true) (hB:∀ b c,bs=some (b,c)→∃ B,X.mg b=some (.ref B)∧jC X.K B:=by nofun):FnI X 1 f fd (bE st) nm (bs.map (·.2))∧b6 X.K fd (bE st) []:=by
 unfold dtC at h
 simp only [Bool.and_eq_true,decide_eq_true_eq] at h
 obtain ⟨⟨h1,h2,h3,h4,h5⟩,h6⟩:=h
 obtain ⟨h6,_⟩:=Option.isSome_iff_exists.mp h6
 obtain ⟨S,B⟩:=pY h1
 rw [h2] at S
 refine ⟨?_,B F⟩
 obtain ⟨oc,od,kV,doc,pm,an,cd,ct,osl,rfl,lk,hcd⟩:=F.ex
 exact wu (k:=0) lk hcd S h3 h4 h5 rfl fun A fr L=>h6.down (cxF X X.cal X.cal1 (bE st) qual (au st) f cd A fr L) rfl rfl hB
structure vX (K:Fg) (x:Str) (C:Addr):Prop where
 a:PySem.W.nsIn K mainGlobals x=some (some (.ref C))
 fd:dv K C
 hh:PySem.W.hasDictIn K C=true
 ec:lS K C
theorem xb_mk {K:Fg} {x:Str} {C:Addr} (a:PySem.W.nsIn K mainGlobals x=some (some (.ref C))) (ga:PySem.W.findIn K (.ref C) "__getattribute__" = some (some (.builtin "BaseException.__getattribute__"))) (gn:PySem.W.findIn K (.ref C) "__getattr__" = some none) (cl:PySem.W.findIn K (.ref C) "__class__" = some (some (.builtin "object.__class__"))) (sg:PySem.W.specialIn K (.builtin "object.__class__") "__get__" = some (some (.builtin "getset_descriptor.__get__"))) (tk:PySem.W.takesIn K (.builtin "object.__class__")=some true) (ob:PySem.W.mroIn K C (.type "object")=some true) (be:PySem.W.mroIn K C (.type "BaseException")=some true)
 (is:(PySem.W.clsIn K C).isSome=true) (tyC:PySem.W.typeIn K (.ref C)=some (.type "type")) (hh:PySem.W.hasDictIn K C=true):vX K x C:=⟨a,⟨ga,gn,cl,sg,tk,ob,be,is⟩,hh,⟨tyC,is,be⟩⟩
def GlL (K:Fg):List (Str×L2.Bk.Dk)→Prop
 | []=>True
 | p :: r=>(∃ u,PySem.W.nsIn K mainGlobals p.1=some (some u)∧aY K p.2 u=true)∧GlL K r
theorem gl_cons {K:Fg} (a:PySem.W.nsIn K mainGlobals x=some (some u)) (b:aY K d u=true) (t:GlL K r):GlL K ((x,d) :: r):=⟨⟨u,a,b⟩,t⟩
theorem GlL.at {K:Fg}:∀ {l} {j:Nat} {x:Str},GlL K l→(l.map (·.1))[j]? = some x→∃ d u,(l.map (·.2))[j]? = some d∧PySem.W.nsIn K mainGlobals x=some (some u)∧aY K d u=true
 | [],_,_,_,e=>by simp at e
 | p :: _,0,_,⟨⟨u,h⟩,_⟩,e=>by simp at e;subst e;exact ⟨_,u,rfl,h⟩
 | _ :: _,j+1,_,h,e=>GlL.at (j:=j) h.2 (by simpa using e)
def kO (K:Fg):List (Str×List (Str×L2.Bk.Dk))→Prop
 | []=>True
 | p :: r=>(∃ a,PySem.W.nsIn K mainGlobals p.1=some (some (.ref a))∧KTD.tabLook (aY K) (fun b=>K.lookup b) a p.2=true)∧kO K r
theorem tb_cons {K:Fg} {u:Addr} {d:List (Str×L2.Bk.Dk)} (a:PySem.W.nsIn K mainGlobals x=some (some (.ref u))) (b:KTD.tabLook (aY K) (fun b=>K.lookup b) u d=true) (t:kO K r):kO K ((x,d) :: r):=⟨⟨u,a,b⟩,t⟩
theorem kO.at {K:Fg}:∀ {l} {j:Nat} {x:Str},kO K l→(l.map (·.1))[j]? = some x→∃ t a,(l.map (·.2))[j]? = some t∧PySem.W.nsIn K mainGlobals x=some (some (.ref a))∧KTD.tabLook (aY K) (fun b=>K.lookup b) a t=true
 | [],_,_,_,e=>by simp at e
 | p :: _,0,_,⟨⟨u,h⟩,_⟩,e=>by simp at e;subst e;exact ⟨_,u,rfl,h⟩
 | _ :: _,j+1,_,h,e=>kO.at (j:=j) h.2 (by simpa using e)
def NoL (K:Fg):List Str→Prop
 | []=>True
 | x :: r=>PySem.W.nsIn K mainGlobals x=some none∧NoL K r
theorem nl_cons {K:Fg} (a:PySem.W.nsIn K mainGlobals x=some none) (t:NoL K r):NoL K (x :: r):=⟨a,t⟩
theorem NoL.at {K:Fg}:∀ {l},NoL K l→∀ x∈l,PySem.W.nsIn K mainGlobals x=some none
 | _ :: _,h,_,m=>(List.mem_cons.mp m).elim (fun e=>e ▸ h.1) (h.2.at _)
def NaL (K:Fg) (C:Addr):List Str→Prop
 | []=>True
 | x :: r=>PySem.W.findIn K (.ref C) x=some none∧NaL K C r
theorem NaL.at {K:Fg}:∀ {l},NaL K C l→∀ x∈l,PySem.W.findIn K (.ref C) x=some none
 | _ :: _,h,_,m=>(List.mem_cons.mp m).elim (fun e=>e ▸ h.1) (h.2.at _)
def MrL (K:Fg):List (Str×Str×Bool)→Prop
 | []=>True
 | p :: r=>(∃ C D:Addr,PySem.W.nsIn K mainGlobals p.1=some (some (.ref C))∧PySem.W.nsIn K mainGlobals p.2.1=some (some (.ref D))∧PySem.W.mroIn K C (.ref D)=some p.2.2)∧MrL K r
theorem mr_cons {K:Fg} {C D:Addr} {m n:Str} {o:Bool} (a:PySem.W.nsIn K mainGlobals m=some (some (.ref C))) (b:PySem.W.nsIn K mainGlobals n=some (some (.ref D))) (c:PySem.W.mroIn K C (.ref D)=some o) (t:MrL K r):MrL K ((m,n,o) :: r):=⟨⟨C,D,a,b,c⟩,t⟩
theorem MrL.at {K:Fg} {C D:Addr} {m n:Str} {o:Bool}:∀ {l},MrL K l→(m,n,o)∈l→PySem.W.nsIn K mainGlobals m=some (some (.ref C))→PySem.W.nsIn K mainGlobals n=some (some (.ref D))→PySem.W.mroIn K C (.ref D)=some o
 | p :: r,⟨⟨C',D',a,b,c⟩,t⟩,h,e1,e2=>by
   rcases List.mem_cons.mp h with q | q
   ·subst q
    rw [e1] at a;cases a
    rw [e2] at b;cases b
    exact c
   ·exact MrL.at t q e1 e2
def KOf {K:Fg} {h:Heap} (_:K.In h):Fg:=K
theorem Br {Γ:Gm} {cal cal1:Nat→List D→List O→Res}:ev Γ cal cal1 br (.v i) s=(match s.env[i]? with | some (some d)=>.ok d (if br then s else un s i) | _=>.bad):=rfl
inductive IT where
 | fin (o:ar)
 | call (j:Nat) (ds:List D) (st:List O) (k:Res→IT)
 | call1 (j:Nat) (ds:List D) (st:List O) (k:Res→IT)
 | test (b:Bool) (k:Bool→IT)
 | opt (o:Option D) (k:D→IT)
 | sub (o:Out D) (k:D→Sta→IT)
 | subS (o:ar) (k:ar→IT)
def IT.bad:IT:=.fin .bad
def lcT (g:D→Sta→(Option D→Sta→IT)→IT):List D→List D→Sta→(D→Sta→IT)→IT
 | [],acc,s,k=>k (.lst acc) s
 | d :: r,acc,s,k=>g d s fun o s'=>match o with
   | some e=>.test (decide (acc.length<100000)) fun t=>if t then lcT g r (acc ++ [e]) s' k else .bad
   | none=>lcT g r acc s' k
def wx (g:D→Sta→(Sta→IT)→IT):List D→Sta→(Sta→IT)→IT
 | [],s,k=>k s
 | d :: r,s,k=>g d s fun s=>wx g r s k
def qA (st:List O) (p c:Nat):Bool:=match st[p]? with | some (.ins c' _)=>c' == c | _=>false
def sU (x y:D) (z:D):Option D:=match x,bo y with | .dic ks ds,some k=>some ((bV ks ds k).getD z) | _,_=>none
def nN (es:E) (s:Sta) (d:D) (st:List O) (k:D→Sta→IT):IT:=if s.ow.any fun i=>(bI es).contains i then .test (noL d && st.all gV) fun t=>k d ⟨s.env,s.ow.filter fun i=>!(bI es).contains i || (isLst s.env[i]? && t),st⟩ else k d (aft es s d st)
section
variable (Γ:Gm) (cal cal1:Nat→List D→List O→Res) (lp:Bool)
mutual
noncomputable def evT (br:Bool):E→Sta→(D→Sta→IT)→(Nat→List D→Sta→IT)→IT
 | .v i,s,k,kx=>(match s.env[i]? with | some (some d)=>k d (if br then s else un s i) | _=>.bad)
 | .c d,s,k,kx=>k d s
 | .g j,s,k,kx=>(match Γ.gl[j]?.map toD with | some d=>k d s | none=>.bad)
 | .op o a b,s,k,kx=>evT true a s (fun x s=>evT true b s (fun y s=>.opt (opD o (look s.st x) (look s.st y)) fun d=>k d s) kx) kx
 | .isN a,s,k,kx=>evT true a s (fun x s=>k (.bl (jV x)) s) kx
 | .isNN a,s,k,kx=>evT true a s (fun x s=>k (.bl (!jV x)) s) kx
 | .neg a,s,k,kx=>evT true a s (fun x s=>match x with | .int i=>k (.int (-i)) s | _=>.bad) kx
 | .not a,s,k,kx=>evT true a s (fun x s=>match x with | .bl b=>k (.bl (!b)) s | _=>.bad) kx
 | .and a b,s,k,kx=>evT false a s (fun x s=>match x with | .bl t=>.test t fun t=>if t then evT false b s k kx else k (.bl false) s | _=>.bad) kx
 | .or a b,s,k,kx=>evT false a s (fun x s=>match x with | .bl t=>.test t fun t=>if t then k (.bl true) s else evT false b s k kx | _=>.bad) kx
 | .ite c a b,s,k,kx=>evT true c s (fun x s=>match x with | .bl t=>.test t fun t=>if t then evT false a s k kx else evT false b s k kx | _=>.bad) kx
 | .chain o p a b c,s,k,kx=>evT true a s (fun x s=>evT true b s (fun y s=>.opt (opD o (look s.st x) (look s.st y)) fun d=>match d with
   | .bl t=>.test t fun t=>if t then evT true c s (fun z s=>.opt (opD p (look s.st y) (look s.st z)) fun d=>k d s) kx else k (.bl false) s
   | _=>.bad) kx) kx
 | .ix a b,s,k,kx=>evT true a s (fun x s=>evT true b s (fun y s=>.opt (ixD (look s.st x) y) fun d=>k d s) kx) kx
 | .sl a lo hi,s,k,kx=>evT true a s (fun x s=>
  let k3:=fun l s=>(if bG hi then .opt (slO (look s.st x) l none) fun d=>k d s else evT true hi s (fun z s=>match z with | .int h=>.opt (slO (look s.st x) l (some h)) fun d=>k d s | _=>.bad) kx)
  if bG lo then k3 none s else evT true lo s (fun z s=>match z with | .int l=>k3 (some l) s | _=>.bad) kx) kx
 | .sl3 a lo hi,s,k,kx=>evT true a s (fun x s=>
  let k3:=fun l s=>(if bG hi then .opt (o9 (look s.st x) l none) fun d=>k d s else evT true hi s (fun z s=>match z with | .int h=>.opt (o9 (look s.st x) l (some h)) fun d=>k d s | _=>.bad) kx)
  if bG lo then k3 none s else evT true lo s (fun z s=>match z with | .int l=>k3 (some l) s | _=>.bad) kx) kx
 | .tget j e d,s,k,kx=>evT true e s (fun x s=>evT false d s (fun z s=>match Γ.tb[j]?,x with | some t,.str y=>k (((KTD.datumAt y t).map toD).getD z) s | _,_=>.bad) kx) kx
 | .newd j es,s,k,kx=>cQ false es s (fun l s=>.opt ((Γ.cl[j]?).bind fun k=>if k.what=1∧l.length=k.at_.length then some (D.ins j l) else none) fun d=>k d s) kx
 | .fld a f,s,k,kx=>evT true a s (fun x s=>.opt (pW Γ s.st x f) fun d=>k d s) kx
 | .tup es,s,k,kx=>cQ false es s (fun l s=>if l.length≤100000 then k (.tup l) s else .bad) kx
 | .lst es,s,k,kx=>cQ false es s (fun l s=>if l.length≤100000 then k (.lst l) s else .bad) kx
 | .newl es,s,k,kx=>cQ false es s (fun l s=>if l.length≤100000 then k (.ref s.st.length) ⟨s.env,s.ow,s.st ++ [.lst l]⟩ else .bad) kx
 | .keep kp a,s,k,kx=>evT false a (hid (kp.filter s.ow.contains) s) (fun d s'=>k d ⟨s.env,s'.ow ++ kp.filter s.ow.contains,s'.st⟩) (fun _ _ _=>.bad)
 | .sto a,s,k,kx=>evT false a s (fun x s=>match x with | .lst l=>k (.ref s.st.length) ⟨s.env,s.ow,s.st ++ [.lst l]⟩ | _=>.bad) kx
 | .call j es,s,k,kx=>cQ true es s (fun l s=>.call j l s.st fun r=>match r with | .ok d st=>nN es s d st k | .exc c l st=>kx c l (drp es s st) | .bad=>.bad) kx
 | .hcall j es,s,k,kx=>cQ false es s (fun l s=>.test (aG l) fun t=>if t then .call j l [] fun r=>(match r with
  | .ok d st=>.test (noR d) fun t=>if t then k d s else k (shD s.st.length d) ⟨s.env,s.ow,s.st ++ st.map (shO s.st.length)⟩
  | .exc c l _=>.test (aG l) fun t=>if t then kx c l s else .bad
  | .bad=>.bad) else .bad) kx
 | .fcall own j es,s,k,kx=>cQ false es s (fun l s=>.test (aG l) fun t=>if t then .call j l [] fun r=>(match r with
  | .ok d st=>.test (own && !jW d) fun t=>if t then .bad else .opt (oB st d) fun d=>k d s
  | .exc c l _=>.test (aG l) fun t=>if t then kx c l s else .bad
  | .bad=>.bad) else .bad) kx
 | .mth c j a es,s,k,kx=>evT true a s (fun x s=>match x with
   | .ref p=>.test (qA s.st p c) fun t=>if t then cQ true es s (fun l s=>.call j (.ref p :: l) s.st fun r=>match r with | .ok d st=>nN es s d st k | .exc c l st=>kx c l (drp es s st) | .bad=>.bad) kx else .bad
   | _=>.bad) kx
 | .bi b es,s,k,kx=>cQ true es s (fun l s=>.opt (biD b (l.map (look s.st))) fun d=>k d s) kx
 | .tab j e,s,k,kx=>evT true e s (fun x s=>match Γ.tb[j]?,x with | some t,.str y=>.opt ((KTD.datumAt y t).map toD) fun d=>k d s | _,_=>.bad) kx
 | .tabin j e,s,k,kx=>evT true e s (fun x s=>match Γ.tb[j]?,x with | some t,.str y=>k (.bl (KTD.datumAt y t).isSome) s | _,_=>.bad) kx
 | .lc t one it elt cond,s,k,kx=>evT false it s (fun x s=>match x with
   | .lst ds=>if lp then .sub ((bh (fun d s'=>(match aL t one d s'.env with
    | some env=>(noX (ev Γ cal cal1 true cond ⟨env,[],s'.st⟩)).bind fun b s2=>(match b with
      | .bl true=>(noX (ev Γ cal cal1 false elt s2)).bind fun e s3=>.ok (some e) ⟨s3.env,[],s3.st⟩
      | .bl false=>.ok none ⟨s2.env,[],s2.st⟩
      | _=>.bad)
    | none=>.bad)) ds [] ⟨List.replicate t.length none ++ s.env,[],s.st⟩)) (fun d s'=>k d ⟨s.env,[],s'.st⟩)
     else lcT (fun d s' k'=>match aL t one d s'.env with
      | some env=>evT true cond ⟨env,[],s'.st⟩ (fun b s2=>match b with
        | .bl t=>.test t fun t=>if t then evT false elt s2 (fun e s3=>k' (some e) ⟨s3.env,[],s3.st⟩) (fun _ _ _=>.bad) else k' none ⟨s2.env,[],s2.st⟩
        | _=>.bad) (fun _ _ _=>.bad)
      | none=>.bad) ds [] ⟨List.replicate t.length none ++ s.env,[],s.st⟩ (fun d s'=>k d ⟨s.env,[],s'.st⟩)
   | _=>.bad) kx
 | .tand a b,s,k,kx=>evT true a s (fun x s=>match x with | .bl t=>.test t fun t=>if t then evT true b s k kx else k (.bl false) s | _=>.bad) kx
 | .tor a b,s,k,kx=>evT true a s (fun x s=>match x with | .bl t=>.test t fun t=>if t then k (.bl true) s else evT true b s k kx | _=>.bad) kx
 | .tnot a,s,k,kx=>evT true a s (fun x s=>match x with | .bl b=>k (.bl (!b)) s | _=>.bad) kx
 | .tv a,s,k,kx=>evT true a s (fun x s=>.opt ((uM (look s.st x)).map .bl) fun d=>k d s) kx
 | .it b es,s,k,kx=>cQ false es s (fun l s=>.opt ((itD b l).map .lst) fun d=>k d s) kx
 | .itv a,s,k,kx=>evT false a s (fun x s=>match r9 x with | some l=>k (.lst l) s | none=>.bad) kx
 | .dic es,s,k,kx=>cQ false es s (fun l s=>.opt ((pL l).map fun p=>.dic p.1 p.2) fun d=>k d s) kx
 | .get a b c,s,k,kx=>evT true a s (fun x s=>.test (isDic (look s.st x)) fun t=>if t then evT true b s (fun y s=>evT false c s (fun z s=>.opt (sU (look s.st x) y z) fun d=>k d s) kx) kx else .bad) kx
 | .index a b,s,k,kx=>evT true a s (fun x s=>.test (tu x) fun t=>if t then evT true b s (fun y s=>.opt (wE x y) fun d=>k d s) kx else .bad) kx
 | .join x a,s,k,kx=>evT true a s (fun y s=>.opt (vx x (look s.st y)) fun d=>k d s) kx
 | .fmt x a y,s,k,kx=>evT true a s (fun v s=>.opt (zv x v y) fun d=>k d s) kx
 | .dicc ks es,s,k,kx=>cQ false es s (fun l s=>.opt (vk ks l) fun d=>k d s) kx
 | .isX a js,s,k,kx=>evT true a s (fun x s=>.opt (zH Γ x js) fun d=>k d s) kx
 | .new j es,s,k,kx=>cQ true es s (fun l s=>(match Γ.cl[j]? with
   | some q=>if q.what=1 then (if l.length=q.at_.length then k (.ins j l) (drp es s s.st) else .bad) else if q.what=0 then .call1 q.init (.ref s.st.length :: l) (s.st ++ [.ins j []]) fun r=>(match r with
    | .ok .non st=>k (.ref s.st.length) (aft es s .non st)
    | _=>.bad)
     else .bad
   | none=>.bad)) kx
 | _,_,_,_=>.bad
noncomputable def cQ (br:Bool):E→Sta→(List D→Sta→IT)→(Nat→List D→Sta→IT)→IT
 | .nil,s,k,kx=>k [] s
 | .cons a r,s,k,kx=>evT br a s (fun x s=>cQ br r s (fun l s=>k (x :: l) s) kx) kx
 | _,_,_,_=>.bad
end
def exT:S→Sta→(Sta→IT)→(D→Sta→IT)→(Nat→List D→Sta→IT)→IT
 | .skip,s,kn,kr,kx=>kn s
 | .seq a b,s,kn,kr,kx=>exT a s (fun s=>exT b s kn kr kx) kr kx
 | .set i e,s,kn,kr,kx=>evT Γ cal cal1 lp false e s (fun d s=>kn (lM s i d (bf e))) kx
 | .setT l e,s,kn,kr,kx=>evT Γ cal cal1 lp false e s (fun d s=>match aL l false d s.env with | some env=>kn ⟨env,s.ow.filter fun i=>!l.contains i,s.st⟩ | none=>.bad) kx
 | .setR i es,s,kn,kr,kx=>cQ Γ cal cal1 lp false es s (fun l s=>if l.length≤100000 then kn ⟨s.env.set i (some (.ref s.st.length)),s.ow.filter (· != i),s.st ++ [.lst l]⟩ else .bad) kx
 | .ret e,s,kn,kr,kx=>evT Γ cal cal1 lp false e s kr kx
 | .ifs c a b,s,kn,kr,kx=>evT Γ cal cal1 lp true c s (fun x s=>match x with | .bl t=>.test t fun t=>if t then exT a s kn kr kx else exT b s kn kr kx | _=>.bad) kx
 | .drop e,s,kn,kr,kx=>evT Γ cal cal1 lp false e s (fun _ s=>kn s) kx
 | .app i e,s,kn,kr,kx=>if s.ow.contains i && isLst s.env[i]? then evT Γ cal cal1 lp false e s (fun d s=>if s.ow.contains i then (match s.env[i]? with
  | some (some (.lst l))=>.test (decide (l.length<100000)) fun t=>if t then kn ⟨s.env.set i (some (.lst (l ++ [d]))),s.ow,s.st⟩ else .bad
  | _=>.bad) else .bad) kx else .bad
 | .ext i e,s,kn,kr,kx=>if s.ow.contains i && isLst s.env[i]? then evT Γ cal cal1 lp false e s (fun d s=>if s.ow.contains i then (match s.env[i]?,d with
  | some (some (.lst l)),.lst x=>.test (decide (l.length+x.length≤100000)) fun t=>if t then kn ⟨s.env.set i (some (.lst (l ++ x))),s.ow,s.st⟩ else .bad
  | _,_=>.bad) else .bad) kx else .bad
 | .put (.v i) b e,s,kn,kr,kx=>evT Γ cal cal1 lp false e s (fun d s=>(match s.env[i]? with
  | some (some x)=>evT Γ cal cal1 lp true b s (fun y s=>(match x with
    | .ref n=>(match (s.st[n]?).bind fun o=>d5 o y d with | some o=>kn ⟨s.env,s.ow,s.st.set n o⟩ | none=>.bad)
    | x=>if s.ow.contains i then .opt (jq x y d) fun y=>kn ⟨s.env.set i (some y),s.ow,s.st⟩ else .bad)) kx
  | _=>.bad)) kx
 | .rais j es,s,kn,kr,kx=>cQ Γ cal cal1 lp false es s (fun l s=>.test (eY Γ j l) fun t=>if t then kx j (oj Γ j l) s else .bad) kx
 | .try_ a hs,s,kn,kr,kx=>exT a s kn kr (fun c l s'=>hndT hs c l s' kn kr)
 | .for_ t one it b,s,kn,kr,kx=>evT Γ cal cal1 lp false it s (fun x s=>(match x with
  | .lst ds=>if lp then .subS (bc (fun d s=>match aL t one d s.env with | some env=>exS Γ cal cal1 b ⟨env,s.ow.filter fun i=>!t.contains i,s.st⟩ | none=>.bad) ds s) (fun o=>match o with | .nx s=>kn s | .rt d s=>kr d s | .exc c l s=>kx c l s | .bad=>.bad)
    else wx (fun d s k=>match aL t one d s.env with | some env=>exT b ⟨env,s.ow.filter fun i=>!t.contains i,s.st⟩ k kr kx | none=>.bad) ds s kn
  | _=>.bad)) kx
 | c,s,kn,kr,kx=>.subS (exS Γ cal cal1 c s) (fun o=>match o with | .nx s=>kn s | .rt d s=>kr d s | .exc c l s=>kx c l s | .bad=>.bad)
where hndT:S→Nat→List D→Sta→(Sta→IT)→(D→Sta→IT)→IT
 | .hand j (some i) b r,c,l,s,kn,kr=>(match cO Γ j c with
  | some true=>exT b ⟨s.env.set i (some (.ins c l)),s.ow.filter (· != i),s.st⟩ (fun s=>kn ⟨s.env.set i none,s.ow.filter (· != i),s.st⟩) kr (fun _ _ _=>.bad)
  | some false=>hndT r c l s kn kr
  | none=>.bad)
 | .hand j none b r,c,l,s,kn,kr=>(match cO Γ j c with
  | some true=>exT b s kn kr (fun _ _ _=>.bad)
  | some false=>hndT r c l s kn kr
  | none=>.bad)
 | _,_,_,_,_,_=>.bad
def aa:IT→ar
 | .fin o=>o
 | .call j ds st k=>aa (k (cal j ds st))
 | .call1 j ds st k=>aa (k (cal1 j ds st))
 | .test b k=>aa (k b)
 | .opt o k=>(match o with | some d=>aa (k d) | none=>.bad)
 | .sub o k=>(match o with | .ok d s=>aa (k d s) | _=>.bad)
 | .subS o k=>aa (k o)
end
def oc {α:Type} (x:Out α) (k:α→Sta→ar) (kx:Nat→List D→Sta→ar):ar:=match x with
 | .ok a s=>k a s
 | .exc c l s=>kx c l s
 | .bad=>.bad
theorem bv :oc (x.bind f) k kx=oc x (fun a s=>oc (f a s) k kx) kx:=by cases x <;> rfl
theorem cf (h:∀ a s,k a s=k' a s):oc x k kx=oc x k' kx:=by cases x <;> first | exact h _ _ | rfl
theorem ae (h:∀ a s,g a s=oc (f a s) k kx):oc x g kx=oc (x.bind f) k kx:=by
 rw [bv];exact cf h
section
variable {Γ:Gm} {cal cal1:Nat→List D→List O→Res} {lp:Bool}
theorem bC {k:D→Sta→IT} :aa cal cal1 (.opt o fun d=>k d s)=oc (.of s o) (fun d s=>aa cal cal1 (k d s)) kx:=by cases o <;> rfl
theorem qw [Decidable p] {k:D→Sta→IT} {kx:Nat→List D→Sta→ar}:aa cal cal1 (if p then k d s else .bad)=oc (if p then .ok d s else .bad) (fun d s=>aa cal cal1 (k d s)) kx:=by split <;> rfl
theorem zB {st:List O} {k:D→Sta→IT}:aa cal cal1 (nN es s d st k)=aa cal cal1 (k d (aft es s d st)):=by unfold nN;split <;> rfl
theorem vv {k:D→Sta→IT} {kx:Nat→List D→Sta→IT}:aa cal cal1 (.call j l s.st fun r=>match r with | .ok d st=>nN es s d st k | .exc c l st=>kx c l (drp es s st) | .bad=>.bad)=oc (gG cal es j l s) (fun d s=>aa cal cal1 (k d s)) (fun c l s=>aa cal cal1 (kx c l s)):=by
 show aa cal cal1 (match cal j l s.st with | .ok d st=>nN es s d st k | .exc c l st=>kx c l (drp es s st) | .bad=>.bad)=_
 unfold gG
 cases cal j l s.st <;> first | exact zB | rfl
theorem lh (h:∀ d s k,aa cal cal1 (g d s k)=oc (f d s) (fun o s=>aa cal cal1 (k o s)) (fun _ _ _=>.bad)):∀ (ds acc) (s) (k:D→Sta→IT),aa cal cal1 (lcT g ds acc s k)=oc (bh f ds acc s) (fun d s=>aa cal cal1 (k d s)) (fun _ _ _=>.bad)
 | [],acc,s,k=>rfl
 | d :: r,acc,s,k=>by
   show aa cal cal1 (g d s _)=oc ((f d s).bind _) _ _
   rw [h,bv]
   refine cf fun o s'=>?_
   cases o with
   | none=>exact lh h r acc s' k
   | some e=>
     dsimp only
     show aa cal cal1 (if decide (acc.length<100000)=true then lcT g r (acc ++ [e]) s' k else .bad)=_
     by_cases c:acc.length<100000
     ·rw [ZZ (ZW c),ZZ c];exact lh h r (acc ++ [e]) s' k
     ·rw [ZY (by simpa using c),ZY c];rfl
def nox:Out α→Prop
 | .exc _ _ _=>False
 | _=>True
theorem dP (h:∀ d s,nox (f d s)):∀ (ds acc) (s),nox (bh f ds acc s)
 | [],_,_=>trivial
 | d :: r,acc,s=>by
   have:=h d s
   show nox ((f d s).bind _)
   cases q:f d s with
   | bad=>trivial
   | exc c l s'=>rw [q] at this;exact this.elim
   | ok o s'=>
     cases o with
     | none=>exact dP h r acc s'
     | some e=>
       show nox (if acc.length<100000 then bh f r (acc ++ [e]) s' else .bad)
       split
       ·exact dP h r _ s'
       ·trivial
theorem xZ (h:nox x):oc x k kx=oc x k kx':=by
 cases x with
 | exc c l s=>exact h.elim
 | _=>rfl
theorem rz :oc x k (fun _ _ _=>.bad)=oc (noX x) k (fun _ _ _=>.bad):=by cases x <;> rfl
theorem zF (n:nox x):aa cal cal1 (.sub x k)=oc x (fun d s=>aa cal cal1 (k d s)) kx:=by
 cases x with
 | exc c l s=>exact n.elim
 | _=>rfl
theorem zt :evT Γ cal cal1 lp br (.v i) s k kx=(match s.env[i]? with | some (some d)=>k d (if br then s else un s i) | _=>.bad):=rfl
theorem zq :evT Γ cal cal1 lp br (.g j) s k kx=(match Γ.gl[j]?.map toD with | some d=>k d s | none=>.bad):=rfl
theorem Bq :ev Γ cal cal1 br (.g j) s = .of s (Γ.gl[j]?.map toD):=rfl
theorem bL:∀ e:E,(∀ br s k kx,aa cal cal1 (evT Γ cal cal1 lp br e s k kx)=oc (ev Γ cal cal1 br e s) (fun d s=>aa cal cal1 (k d s)) (fun c l s=>aa cal cal1 (kx c l s))) ∧
 (∀ br s k kx,aa cal cal1 (cQ Γ cal cal1 lp br e s k kx)=oc (evs Γ cal cal1 br e s) (fun d s=>aa cal cal1 (k d s)) (fun c l s=>aa cal cal1 (kx c l s))):=by
 intro e
 induction e with
 | v i=>
   refine ⟨fun br s k kx=>?_,fun br s k kx=>rfl⟩
   rw [zt,Br]
   cases s.env[i]? with
   | none=>rfl
   | some o=>cases o <;> rfl
 | c d=>exact ⟨fun br s k kx=>rfl,fun br s k kx=>rfl⟩
 | g j=>
   refine ⟨fun br s k kx=>?_,fun br s k kx=>rfl⟩
   rw [zq,Bq]
   cases Γ.gl[j]?.map toD <;> rfl
 | op o a b iha ihb=>exact ⟨fun br s k kx=>(iha.1 _ _ _ _).trans (ae fun x s=>(ihb.1 _ _ _ _).trans (ae fun y s=>bC)),fun br s k kx=>rfl⟩
 | isN a ih=>exact ⟨fun br s k kx=>(ih.1 _ _ _ _).trans (ae fun x s=>rfl),fun br s k kx=>rfl⟩
 | isNN a ih=>exact ⟨fun br s k kx=>(ih.1 _ _ _ _).trans (ae fun x s=>rfl),fun br s k kx=>rfl⟩
 | neg a ih=>exact ⟨fun br s k kx=>(ih.1 _ _ _ _).trans (ae fun x s=>by cases x <;> rfl),fun br s k kx=>rfl⟩
 | not a ih=>exact ⟨fun br s k kx=>(ih.1 _ _ _ _).trans (ae fun x s=>by cases x <;> rfl),fun br s k kx=>rfl⟩
 | and a b iha ihb=>exact ⟨fun br s k kx=>(iha.1 _ _ _ _).trans (ae fun x s=>by
  cases x with
  | bl t=>cases t with
    | true=>exact ihb.1 _ _ _ _
    | false=>rfl
  | _=>rfl),fun br s k kx=>rfl⟩
 | or a b iha ihb=>exact ⟨fun br s k kx=>(iha.1 _ _ _ _).trans (ae fun x s=>by
  cases x with
  | bl t=>cases t with
    | false=>exact ihb.1 _ _ _ _
    | true=>rfl
  | _=>rfl),fun br s k kx=>rfl⟩
 | ite c a b ihc iha ihb=>exact ⟨fun br s k kx=>(ihc.1 _ _ _ _).trans (ae fun x s=>by
  cases x with
  | bl t=>cases t with
    | true=>exact iha.1 _ _ _ _
    | false=>exact ihb.1 _ _ _ _
  | _=>rfl),fun br s k kx=>rfl⟩
 | chain o p a b c iha ihb ihc=>exact ⟨fun br s k kx=>(iha.1 _ _ _ _).trans (ae fun x s=>(ihb.1 _ _ _ _).trans (ae fun y s=>by
  show aa cal cal1 (.opt (opD o (look s.st x) (look s.st y)) _)=_
  cases opD o (look s.st x) (look s.st y) with
  | none=>rfl
  | some d=>cases d with
    | bl t=>cases t with
      | true=>exact (ihc.1 _ _ _ _).trans (ae fun z s=>bC)
      | false=>rfl
    | _=>rfl)),fun br s k kx=>rfl⟩
 | ix a b iha ihb=>exact ⟨fun br s k kx=>(iha.1 _ _ _ _).trans (ae fun x s=>(ihb.1 _ _ _ _).trans (ae fun y s=>bC)),fun br s k kx=>rfl⟩
 | sl a lo hi iha ihl ihh=>
   refine ⟨fun br s k kx=>(iha.1 _ _ _ _).trans (ae fun x s=>?_),fun br s k kx=>rfl⟩
   have k3:∀ l s,aa cal cal1 (if bG hi then .opt (slO (look s.st x) l none) fun d=>k d s else evT Γ cal cal1 lp true hi s (fun z s=>match z with | .int h=>.opt (slO (look s.st x) l (some h)) fun d=>k d s | _=>.bad) kx)=oc ((if bG hi then .ok none s else (ev Γ cal cal1 true hi s).bind toI).bind fun h s=>.of s (slO (look s.st x) l h)) (fun d s=>aa cal cal1 (k d s)) (fun c l s=>aa cal cal1 (kx c l s)):=fun l s=>by
    by_cases c:bG hi=true
    ·rw [ZZ c,ZZ c];exact bC
    ·rw [ZY c,ZY c,ihh.1,bv,bv]
     exact cf fun z s=>by cases z <;> first | exact bC | rfl
   by_cases c:bG lo=true
   ·dsimp only
    rw [ZZ c,ZZ c];exact k3 none s
   ·dsimp only
    rw [ZY c,ZY c,ihl.1,bv,bv]
    exact cf fun z s=>by cases z <;> first | exact k3 _ s | rfl
 | sl3 a lo hi iha ihl ihh=>
   refine ⟨fun br s k kx=>(iha.1 _ _ _ _).trans (ae fun x s=>?_),fun br s k kx=>rfl⟩
   have k3:∀ l s,aa cal cal1 (if bG hi then .opt (o9 (look s.st x) l none) fun d=>k d s else evT Γ cal cal1 lp true hi s (fun z s=>match z with | .int h=>.opt (o9 (look s.st x) l (some h)) fun d=>k d s | _=>.bad) kx)=oc ((if bG hi then .ok none s else (ev Γ cal cal1 true hi s).bind toI).bind fun h s=>.of s (o9 (look s.st x) l h)) (fun d s=>aa cal cal1 (k d s)) (fun c l s=>aa cal cal1 (kx c l s)):=fun l s=>by
    by_cases c:bG hi=true
    ·rw [ZZ c,ZZ c];exact bC
    ·rw [ZY c,ZY c,ihh.1,bv,bv]
     exact cf fun z s=>by cases z <;> first | exact bC | rfl
   by_cases c:bG lo=true
   ·dsimp only
    rw [ZZ c,ZZ c];exact k3 none s
   ·dsimp only
    rw [ZY c,ZY c,ihl.1,bv,bv]
    exact cf fun z s=>by cases z <;> first | exact k3 _ s | rfl
 | tget j a b iha ihb=>exact ⟨fun br s k kx=>(iha.1 _ _ _ _).trans (ae fun x s=>(ihb.1 _ _ _ _).trans (ae fun y s=>by cases Γ.tb[j]? <;> cases x <;> rfl)),fun br s k kx=>rfl⟩
 | newd j es ih=>exact ⟨fun br s k kx=>(ih.2 _ _ _ _).trans (ae fun l s=>bC),fun br s k kx=>rfl⟩
 | fld a f ih=>exact ⟨fun br s k kx=>(ih.1 _ _ _ _).trans (ae fun x s=>bC),fun br s k kx=>rfl⟩
 | tup es ih=>exact ⟨fun br s k kx=>(ih.2 _ _ _ _).trans (ae fun l s=>qw),fun br s k kx=>rfl⟩
 | lst es ih=>exact ⟨fun br s k kx=>(ih.2 _ _ _ _).trans (ae fun l s=>qw),fun br s k kx=>rfl⟩
 | newl es ih=>exact ⟨fun br s k kx=>(ih.2 _ _ _ _).trans (ae fun l s=>by by_cases c:l.length≤100000 <;> simp only [c,if_true,if_false] <;> rfl),fun br s k kx=>rfl⟩
 | nil=>exact ⟨fun br s k kx=>rfl,fun br s k kx=>rfl⟩
 | cons a r iha ihr=>exact ⟨fun br s k kx=>rfl,fun br s k kx=>(iha.1 _ _ _ _).trans (ae fun x s=>(ihr.2 _ _ _ _).trans (ae fun l s=>rfl))⟩
 | call j es ih=>exact ⟨fun br s k kx=>(ih.2 _ _ _ _).trans (ae fun l s=>vv),fun br s k kx=>rfl⟩
 | hcall j es ih=>exact ⟨fun br s k kx=>(ih.2 _ _ _ _).trans (ae fun l s=>by
  show aa cal cal1 (if aG l=true then _ else .bad)=oc (sZ cal j l s) _ _
  unfold sZ
  split
  ·show aa cal cal1 (match cal j l [] with | .ok d _=>_ | .exc c l _=>_ | .bad=>_)=_
   cases cal j l [] with
   | ok d st=>show aa cal cal1 (if noR d=true then _ else _)=_;dsimp only;split <;> rfl
   | exc c l st=>show aa cal cal1 (if aG l=true then _ else .bad)=_;dsimp only;split <;> rfl
   | bad=>rfl
  ·rfl),fun br s k kx=>rfl⟩
 | fcall own j es ih=>exact ⟨fun br s k kx=>(ih.2 _ _ _ _).trans (ae fun l s=>by
  show aa cal cal1 (if aG l=true then _ else .bad)=oc (sR cal own j l s) _ _
  unfold sR
  split
  ·show aa cal cal1 (match cal j l [] with | .ok d _=>_ | .exc c l _=>_ | .bad=>_)=_
   cases cal j l [] with
   | ok d st=>
     show aa cal cal1 (if (own && !jW d)=true then _ else _)=_;dsimp only;split
     ·rfl
     ·exact bC
   | exc c l st=>show aa cal cal1 (if aG l=true then _ else .bad)=_;dsimp only;split <;> rfl
   | bad=>rfl
  ·rfl),fun br s k kx=>rfl⟩
 | mth c j a es iha ih=>exact ⟨fun br s k kx=>(iha.1 _ _ _ _).trans (ae fun x s=>by
  cases x with
  | ref p=>
    show aa cal cal1 (if qA s.st p c=true then _ else .bad)=_
    unfold qA
    dsimp only
    cases s.st[p]? with
    | none=>rfl
    | some o=>cases o with
      | ins c' l'=>
        dsimp only
        by_cases e:c'=c
        ·rw [ZZ (by simpa using e),ZZ e]
         exact (ih.2 _ _ _ _).trans (ae fun l s=>vv)
        ·rw [ZY (by simpa using e),ZY e];rfl
      | _=>rfl
  | _=>rfl),fun br s k kx=>rfl⟩
 | bi b es ih=>exact ⟨fun br s k kx=>(ih.2 _ _ _ _).trans (ae fun l s=>bC),fun br s k kx=>rfl⟩
 | tab j a ih=>exact ⟨fun br s k kx=>(ih.1 _ _ _ _).trans (ae fun x s=>by cases Γ.tb[j]? <;> cases x <;> first | exact bC | rfl),fun br s k kx=>rfl⟩
 | tabin j a ih=>exact ⟨fun br s k kx=>(ih.1 _ _ _ _).trans (ae fun x s=>by cases Γ.tb[j]? <;> cases x <;> rfl),fun br s k kx=>rfl⟩
 | tand a b iha ihb=>exact ⟨fun br s k kx=>(iha.1 _ _ _ _).trans (ae fun x s=>by
  cases x with
  | bl t=>cases t with
    | true=>exact ihb.1 _ _ _ _
    | false=>rfl
  | _=>rfl),fun br s k kx=>rfl⟩
 | tor a b iha ihb=>exact ⟨fun br s k kx=>(iha.1 _ _ _ _).trans (ae fun x s=>by
  cases x with
  | bl t=>cases t with
    | false=>exact ihb.1 _ _ _ _
    | true=>rfl
  | _=>rfl),fun br s k kx=>rfl⟩
 | tnot a ih=>exact ⟨fun br s k kx=>(ih.1 _ _ _ _).trans (ae fun x s=>by cases x <;> rfl),fun br s k kx=>rfl⟩
 | tv a ih=>exact ⟨fun br s k kx=>(ih.1 _ _ _ _).trans (ae fun x s=>bC),fun br s k kx=>rfl⟩
 | it b es ih=>exact ⟨fun br s k kx=>(ih.2 _ _ _ _).trans (ae fun l s=>bC),fun br s k kx=>rfl⟩
 | itv a ih=>exact ⟨fun br s k kx=>(ih.1 _ _ _ _).trans (ae fun x s=>by cases r9 x <;> rfl),fun br s k kx=>rfl⟩
 | dic es ih=>exact ⟨fun br s k kx=>(ih.2 _ _ _ _).trans (ae fun l s=>bC),fun br s k kx=>rfl⟩
 | get a b c iha ihb ihc=>exact ⟨fun br s k kx=>(iha.1 _ _ _ _).trans (ae fun x s=>by
  show aa cal cal1 (if isDic (look s.st x)=true then _ else .bad)=_
  split
  ·refine (ihb.1 _ _ _ _).trans (ae fun y s=>(ihc.1 _ _ _ _).trans (ae fun z s=>?_))
   show aa cal cal1 (.opt (sU (look s.st x) y z) _)=_
   unfold sU
   cases look s.st x <;> cases bo y <;> rfl
  ·rfl),fun br s k kx=>rfl⟩
 | index a b iha ihb=>exact ⟨fun br s k kx=>(iha.1 _ _ _ _).trans (ae fun x s=>by
  show aa cal cal1 (if tu x=true then _ else _)=oc (if tu x=true then _ else _) _ _
  split
  ·exact (ihb.1 _ _ _ _).trans (ae fun y s=>bC)
  ·rfl),fun br s k kx=>rfl⟩
 | join x a ih=>exact ⟨fun br s k kx=>(ih.1 _ _ _ _).trans (ae fun y s=>bC),fun br s k kx=>rfl⟩
 | fmt x a y ih=>exact ⟨fun br s k kx=>(ih.1 _ _ _ _).trans (ae fun v s=>bC),fun br s k kx=>rfl⟩
 | dicc ks es ih=>exact ⟨fun br s k kx=>(ih.2 _ _ _ _).trans (ae fun l s=>bC),fun br s k kx=>rfl⟩
 | keep kp a ih=>exact ⟨fun br s k kx=>(ih.1 _ _ _ _).trans (by show oc (ev Γ cal cal1 false a _) _ _=oc ((noX (ev Γ cal cal1 false a _)).bind _) _ _;cases ev Γ cal cal1 false a (hid (kp.filter s.ow.contains) s) <;> rfl),fun br s k kx=>rfl⟩
 | sto a ih=>exact ⟨fun br s k kx=>(ih.1 _ _ _ _).trans (ae fun x s=>by cases x <;> rfl),fun br s k kx=>rfl⟩
 | isX a js ih=>exact ⟨fun br s k kx=>(ih.1 _ _ _ _).trans (ae fun x s=>bC),fun br s k kx=>rfl⟩
 | lc t one it elt cond ihi ihe ihc=>
   refine ⟨fun br s k kx=>(ihi.1 _ _ _ _).trans (ae fun x s=>?_),fun br s k kx=>rfl⟩
   cases x with
   | lst ds=>
     dsimp only
     have nx:∀ (d:D) (s':Sta),nox (match aL t one d s'.env with
      | some env=>(noX (ev Γ cal cal1 true cond ⟨env,[],s'.st⟩)).bind fun b s2=>(match b with
        | .bl true=>(noX (ev Γ cal cal1 false elt s2)).bind fun e s3=>.ok (some e) ⟨s3.env,[],s3.st⟩
        | .bl false=>.ok none ⟨s2.env,[],s2.st⟩
        | _=>.bad)
      | none=>Out.bad):=fun d s'=>by
      cases aL t one d s'.env with
      | none=>trivial
      | some env=>
        dsimp only
        cases ev Γ cal cal1 true cond ⟨env,[],s'.st⟩ with
        | ok b s2=>cases b with
          | bl b=>cases b with
            | true=>
              show nox ((noX (ev Γ cal cal1 false elt s2)).bind _)
              cases ev Γ cal cal1 false elt s2 <;> trivial
            | false=>trivial
          | _=>trivial
        | _=>trivial
     cases lp with
     | true=>
       rw [ZZ rfl,bv]
       have n2:=dP nx ds [] ⟨List.replicate t.length none ++ s.env,[],s.st⟩
       exact zF n2
     | false=>
       rw [ZY Bool.false_ne_true,bv]
       refine (lh (f:=fun d s'=>(match aL t one d s'.env with
        | some env=>(noX (ev Γ cal cal1 true cond ⟨env,[],s'.st⟩)).bind fun b s2=>(match b with
          | .bl true=>(noX (ev Γ cal cal1 false elt s2)).bind fun e s3=>.ok (some e) ⟨s3.env,[],s3.st⟩
          | .bl false=>.ok none ⟨s2.env,[],s2.st⟩
          | _=>.bad)
        | none=>.bad)) (fun d s' k'=>?_) ds [] _ _).trans ?_
       ·cases aL t one d s'.env with
        | none=>rfl
        | some env=>
          dsimp only
          refine (ihc.1 _ _ _ _).trans ?_
          show oc (ev Γ cal cal1 true cond ⟨env,[],s'.st⟩) _ (fun _ _ _=>.bad)=_
          rw [rz]
          refine ae fun b s2=>?_
          cases b with
          | bl b=>cases b with
            | true=>
              refine (ihe.1 _ _ _ _).trans ?_
              show oc (ev Γ cal cal1 false elt s2) _ (fun _ _ _=>.bad)=_
              rw [rz]
              exact ae fun e s3=>rfl
            | false=>rfl
          | _=>rfl
       ·exact xZ (dP nx ds [] _)
   | _=>rfl
 | new j es ih=>exact ⟨fun br s k kx=>(ih.2 _ _ _ _).trans (ae fun l s=>by
  cases Γ.cl[j]? with
  | none=>rfl
  | some q=>
    dsimp only
    by_cases c1:q.what=1
    ·rw [ZZ c1,ZZ c1];exact qw
    ·rw [ZY c1,ZY c1]
     by_cases c0:q.what=0
     ·rw [ZZ c0,ZZ c0]
      show aa cal cal1 (match cal1 q.init (.ref s.st.length :: l) (s.st ++ [.ins j []]) with | .ok .non st=>k (.ref s.st.length) (aft es s .non st) | _=>.bad)=_
      cases cal1 q.init (.ref s.st.length :: l) (s.st ++ [.ins j []]) with
      | ok d st=>cases d <;> rfl
      | _=>rfl
     ·rw [ZY c0,ZY c0];rfl),fun br s k kx=>rfl⟩
end
def sc (x:ar) (kn:Sta→ar) (kr:D→Sta→ar) (kx:Nat→List D→Sta→ar):ar:=match x with
 | .nx s=>kn s
 | .rt d s=>kr d s
 | .exc c l s=>kx c l s
 | .bad=>.bad
theorem At :sc (x.go f) kn kr kx=oc x (fun a s=>sc (f a s) kn kr kx) kx:=by cases x <;> rfl
theorem bz (h:∀ a s,g a s=sc (f a s) kn kr kx):oc x g kx=sc (x.go f) kn kr kx:=by
 rw [At];exact cf h
theorem rQ :sc (x.go f) kn kr kx=sc x (fun s=>sc (f s) kn kr kx) kr kx:=by cases x <;> rfl
theorem kC (h:∀ s,kn s=kn' s) (h2:∀ c l s,kx c l s=kx' c l s):sc x kn kr kx=sc x kn' kr kx':=by cases x <;> first | exact h _ | exact h2 _ _ _ | rfl
section
variable {Γ:Gm} {cal cal1:Nat→List D→List O→Res} {lp:Bool}
theorem l5 (h:∀ d s k,aa cal cal1 (g d s k)=sc (f d s) (fun s=>aa cal cal1 (k s)) kr kx):∀ (ds) (s) (k:Sta→IT),aa cal cal1 (wx g ds s k)=sc (bc f ds s) (fun s=>aa cal cal1 (k s)) kr kx
 | [],s,k=>rfl
 | d :: r,s,k=>by
   show aa cal cal1 (g d s _)=sc ((f d s).go _) _ _ _
   rw [h,rQ]
   exact kC (fun s=>l5 h r s k) fun _ _ _=>rfl
theorem dB {kn:Sta→IT} {kr:D→Sta→IT} {kx:Nat→List D→Sta→IT}:aa cal cal1 (.subS x (fun o=>match o with | .nx s=>kn s | .rt d s=>kr d s | .exc c l s=>kx c l s | .bad=>.bad))=sc x (fun s=>aa cal cal1 (kn s)) (fun d s=>aa cal cal1 (kr d s)) (fun c l s=>aa cal cal1 (kx c l s)):=by cases x <;> rfl
theorem zE {g:D→Sta} {kn:Sta→IT} {kr:D→Sta→ar} {kx:Nat→List D→Sta→ar}:aa cal cal1 (.opt o fun y=>kn (g y))=sc (match o with | some y=>.nx (g y) | none=>.bad) (fun s=>aa cal cal1 (kn s)) kr kx:=by cases o <;> rfl
theorem sP :exT Γ cal cal1 lp (.app i e) s kn kr kx=(if s.ow.contains i && isLst s.env[i]? then evT Γ cal cal1 lp false e s (fun d s=>if s.ow.contains i then (match s.env[i]? with
 | some (some (.lst l))=>.test (decide (l.length<100000)) fun t=>if t then kn ⟨s.env.set i (some (.lst (l ++ [d]))),s.ow,s.st⟩ else .bad
 | _=>.bad) else .bad) kx else .bad):=rfl
theorem sN :exS Γ cal cal1 (.app i e) s=(if s.ow.contains i && isLst s.env[i]? then (ev Γ cal cal1 false e s).go fun d s=>if s.ow.contains i then (match s.env[i]? with
 | some (some (.lst l))=>if l.length<100000 then .nx ⟨s.env.set i (some (.lst (l ++ [d]))),s.ow,s.st⟩ else .bad
 | _=>.bad) else .bad else .bad):=rfl
theorem sQ :exT Γ cal cal1 lp (.ext i e) s kn kr kx=(if s.ow.contains i && isLst s.env[i]? then evT Γ cal cal1 lp false e s (fun d s=>if s.ow.contains i then (match s.env[i]?,d with
 | some (some (.lst l)),.lst x=>.test (decide (l.length+x.length≤100000)) fun t=>if t then kn ⟨s.env.set i (some (.lst (l ++ x))),s.ow,s.st⟩ else .bad
 | _,_=>.bad) else .bad) kx else .bad):=rfl
theorem sO :exS Γ cal cal1 (.ext i e) s=(if s.ow.contains i && isLst s.env[i]? then (ev Γ cal cal1 false e s).go fun d s=>if s.ow.contains i then (match s.env[i]?,d with
 | some (some (.lst l)),.lst x=>if l.length+x.length≤100000 then .nx ⟨s.env.set i (some (.lst (l ++ x))),s.ow,s.st⟩ else .bad
 | _,_=>.bad) else .bad else .bad):=rfl
theorem vw {kn:Sta→IT} {kr:D→Sta→ar} {kx:Nat→List D→Sta→ar} {c:Prop} [Decidable c] {z:Sta}:aa cal cal1 (.test (decide c) fun t=>if t then kn z else .bad)=sc (if c then .nx z else .bad) (fun s=>aa cal cal1 (kn s)) kr kx:=by
 show aa cal cal1 (if decide c=true then _ else .bad)=_
 by_cases h:c
 ·rw [ZZ (ZW h),ZZ h];rfl
 ·rw [ZY (by simpa using h),ZY h];rfl
theorem pT:∀ c:S,(∀ s kn kr kx,aa cal cal1 (exT Γ cal cal1 lp c s kn kr kx)=sc (exS Γ cal cal1 c s) (fun s=>aa cal cal1 (kn s)) (fun d s=>aa cal cal1 (kr d s)) (fun c l s=>aa cal cal1 (kx c l s))) ∧
 (∀ c' l s kn kr kx,aa cal cal1 (exT.hndT Γ cal cal1 lp c c' l s kn kr)=sc (exS.hnd Γ cal cal1 c c' l s) (fun s=>aa cal cal1 (kn s)) (fun d s=>aa cal cal1 (kr d s)) kx):=by
 intro c
 have hb:∀ {c:S},(∀ c' l s kn kr,exT.hndT Γ cal cal1 lp c c' l s kn kr = .bad)→(∀ c' l s,exS.hnd Γ cal cal1 c c' l s = .bad)→(∀ c' l s kn kr (kx:Nat→List D→Sta→ar),aa cal cal1 (exT.hndT Γ cal cal1 lp c c' l s kn kr)=sc (exS.hnd Γ cal cal1 c c' l s) (fun s=>aa cal cal1 (kn s)) (fun d s=>aa cal cal1 (kr d s)) kx):=fun h1 h2 c' l s kn kr kx=>by rw [h1,h2];rfl
 induction c with
 | skip=>exact ⟨fun s kn kr kx=>rfl,hb (fun _ _ _ _ _=>rfl) fun _ _ _=>rfl⟩
 | seq a b iha ihb=>
   refine ⟨fun s kn kr kx=>(iha.1 _ _ _ _).trans ?_,hb (fun _ _ _ _ _=>rfl) fun _ _ _=>rfl⟩
   show _=sc ((exS Γ cal cal1 a s).go fun s=>exS Γ cal cal1 b s) _ _ _
   rw [rQ]
   exact kC (fun s=>ihb.1 _ _ _ _) fun _ _ _=>rfl
 | set i e=>exact ⟨fun s kn kr kx=>((bL e).1 _ _ _ _).trans (bz fun d s=>rfl),hb (fun _ _ _ _ _=>rfl) fun _ _ _=>rfl⟩
 | setT l e=>exact ⟨fun s kn kr kx=>((bL e).1 _ _ _ _).trans (bz fun d s=>by cases aL l false d s.env <;> rfl),hb (fun _ _ _ _ _=>rfl) fun _ _ _=>rfl⟩
 | setR i es=>exact ⟨fun s kn kr kx=>((bL es).2 _ _ _ _).trans (bz fun l s=>by by_cases c:l.length≤100000 <;> simp only [c,if_true,if_false] <;> rfl),hb (fun _ _ _ _ _=>rfl) fun _ _ _=>rfl⟩
 | ret e=>exact ⟨fun s kn kr kx=>((bL e).1 _ _ _ _).trans (bz fun d s=>rfl),hb (fun _ _ _ _ _=>rfl) fun _ _ _=>rfl⟩
 | ifs c a b iha ihb=>exact ⟨fun s kn kr kx=>((bL c).1 _ _ _ _).trans (bz fun x s=>by
  cases x with
  | bl t=>cases t with
    | true=>exact iha.1 _ _ _ _
    | false=>exact ihb.1 _ _ _ _
  | _=>rfl),hb (fun _ _ _ _ _=>rfl) fun _ _ _=>rfl⟩
 | drop e=>exact ⟨fun s kn kr kx=>((bL e).1 _ _ _ _).trans (bz fun d s=>rfl),hb (fun _ _ _ _ _=>rfl) fun _ _ _=>rfl⟩
 | app i e=>
   refine ⟨fun s kn kr kx=>?_,hb (fun _ _ _ _ _=>rfl) fun _ _ _=>rfl⟩
   rw [sP,sN]
   split
   ·refine ((bL e).1 _ _ _ _).trans (bz fun d s=>?_)
    split
    ·split <;> first | exact vw | rfl
    ·rfl
   ·rfl
 | ext i e=>
   refine ⟨fun s kn kr kx=>?_,hb (fun _ _ _ _ _=>rfl) fun _ _ _=>rfl⟩
   rw [sQ,sO]
   split
   ·refine ((bL e).1 _ _ _ _).trans (bz fun d s=>?_)
    split
    ·split <;> first | exact vw | rfl
    ·rfl
   ·rfl
 | put a b e=>
   refine ⟨fun s kn kr kx=>?_,hb (fun _ _ _ _ _=>rfl) fun _ _ _=>rfl⟩
   cases a with
   | v i=>
     refine ((bL e).1 _ _ _ _).trans (bz fun d s=>?_)
     cases s.env[i]? with
     | none=>rfl
     | some o=>cases o with
       | none=>rfl
       | some x=>
         refine ((bL b).1 _ _ _ _).trans (bz fun y s=>?_)
         cases x with
         | ref n=>
           dsimp only
           cases (s.st[n]?).bind fun o=>d5 o y d <;> rfl
         | _=>
           dsimp only
           split
           ·exact zE
           ·rfl
   | _=>exact dB
 | fld a f e=>exact ⟨fun s kn kr kx=>dB,hb (fun _ _ _ _ _=>rfl) fun _ _ _=>rfl⟩
 | aug a f o e=>exact ⟨fun s kn kr kx=>dB,hb (fun _ _ _ _ _=>rfl) fun _ _ _=>rfl⟩
 | fapp a f e=>exact ⟨fun s kn kr kx=>dB,hb (fun _ _ _ _ _=>rfl) fun _ _ _=>rfl⟩
 | for_ t one it b ih=>
   refine ⟨fun s kn kr kx=>((bL it).1 _ _ _ _).trans (bz fun x s=>?_),hb (fun _ _ _ _ _=>rfl) fun _ _ _=>rfl⟩
   cases x with
   | lst ds=>
     dsimp only
     cases lp with
     | true=>rw [ZZ rfl];exact dB
     | false=>
       rw [ZY Bool.false_ne_true]
       refine l5 (fun d s k=>?_) ds s kn
       cases aL t one d s.env with
       | none=>rfl
       | some env=>exact ih.1 _ _ _ _
   | _=>rfl
 | whl c b ih=>exact ⟨fun s kn kr kx=>dB,hb (fun _ _ _ _ _=>rfl) fun _ _ _=>rfl⟩
 | rais j es=>
   refine ⟨fun s kn kr kx=>((bL es).2 _ _ _ _).trans (bz fun l s=>?_),hb (fun _ _ _ _ _=>rfl) fun _ _ _=>rfl⟩
   show aa cal cal1 (if eY Γ j l=true then kx j (oj Γ j l) s else .bad)=_
   split <;> rfl
 | try_ a h iha ihh=>
   refine ⟨fun s kn kr kx=>(iha.1 _ _ _ _).trans ?_,hb (fun _ _ _ _ _=>rfl) fun _ _ _=>rfl⟩
   show _=sc (match exS Γ cal cal1 a s with | .exc c l s'=>exS.hnd Γ cal cal1 h c l s' | r=>r) _ _ _
   cases exS Γ cal cal1 a s with
   | exc c l s'=>exact ihh.2 _ _ _ _ _ _
   | _=>rfl
 | hand j i b r ihb ihr=>
   refine ⟨fun s kn kr kx=>dB,fun c' l s kn kr kx=>?_⟩
   cases i with
   | none=>
     show aa cal cal1 (match cO Γ j c' with | some true=>_ | some false=>exT.hndT Γ cal cal1 lp r c' l s kn kr | none=>.bad)=sc (match cO Γ j c' with | some true=>_ | some false=>exS.hnd Γ cal cal1 r c' l s | none=>.bad) _ _ _
     rcases cO Γ j c' with _ | (_ | _)
     ·rfl
     ·exact ihr.2 _ _ _ _ _ _
     ·refine (ihb.1 _ _ _ _).trans ?_
      cases exS Γ cal cal1 b s <;> rfl
   | some i=>
     show aa cal cal1 (match cO Γ j c' with | some true=>_ | some false=>exT.hndT Γ cal cal1 lp r c' l s kn kr | none=>.bad)=sc (match cO Γ j c' with | some true=>_ | some false=>exS.hnd Γ cal cal1 r c' l s | none=>.bad) _ _ _
     rcases cO Γ j c' with _ | (_ | _)
     ·rfl
     ·exact ihr.2 _ _ _ _ _ _
     ·refine (ihb.1 _ _ _ _).trans ?_
      cases exS Γ cal cal1 b ⟨s.env.set i (some (.ins c' l)),s.ow.filter (· != i),s.st⟩ <;> rfl
inductive An where
 | r (r:Res) | t (n:Nat) (b:Bool) | o (n:Nat) (d:D) | e (d:D) (s:Sta) | x (o:ar) | c
end
section
variable (cal cal1:Nat→List D→List O→Res)
def trc:IT→List An→Prop×ar
 | .fin o,[]=>(True,o)
 | .fin o,_=>(False,o)
 | .call j ds st k,.r a :: l=>((cal j ds st=a)∧(trc (k a) l).1,(trc (k a) l).2)
 | .call1 j ds st k,.r a :: l=>((cal1 j ds st=a)∧(trc (k a) l).1,(trc (k a) l).2)
 | .call j ds st k,.c :: l=>trc (k (cal j ds st)) l
 | .call1 j ds st k,.c :: l=>trc (k (cal1 j ds st)) l
 | .test b k,.t 0 a :: l=>((b=a)∧(trc (k a) l).1,(trc (k a) l).2)
 | .test b k,.t (n+1) a :: l=>trc (k b) (.t n a :: l)
 | .test b k,.o (n+1) a :: l=>trc (k b) (.o n a :: l)
 | .test b k,l=>trc (k b) l
 | .opt o k,.o 0 a :: l=>((o=some a)∧(trc (k a) l).1,(trc (k a) l).2)
 | .opt (some d) k,.o (n+1) a :: l=>trc (k d) (.o n a :: l)
 | .opt (some d) k,.t (n+1) a :: l=>trc (k d) (.t n a :: l)
 | .opt (some d) k,l=>trc (k d) l
 | .sub o k,.e d s :: l=>((o = .ok d s)∧(trc (k d s) l).1,(trc (k d s) l).2)
 | .subS o k,.x a :: l=>((o=a)∧(trc (k a) l).1,(trc (k a) l).2)
 | _,_=>(False,.bad)
theorem lQ:∀ (t) (l),(trc cal cal1 t l).1→aa cal cal1 t=(trc cal cal1 t l).2:=by
 intro t
 induction t with
 | fin o=>intro l h;cases l <;> first | rfl | exact h.elim
 | call j ds st k ih=>
   intro l h
   cases l with
   | nil=>exact h.elim
   | cons a l=>cases a with
     | r a=>obtain ⟨h1,h2⟩:=h;have:=ih a l h2;rw [← h1] at this ⊢;show aa cal cal1 (k (cal j ds st))=_;rw [h1] at this ⊢;exact this
     | c=>exact ih _ l h
     | _=>exact h.elim
 | call1 j ds st k ih=>
   intro l h
   cases l with
   | nil=>exact h.elim
   | cons a l=>cases a with
     | r a=>obtain ⟨h1,h2⟩:=h;show aa cal cal1 (k (cal1 j ds st))=_;rw [h1];exact ih a l h2
     | c=>exact ih _ l h
     | _=>exact h.elim
 | test b k ih=>
   intro l h
   show aa cal cal1 (k b)=_
   cases l with
   | nil=>exact ih b _ h
   | cons a l=>cases a with
     | t n a=>cases n with
       | zero=>obtain ⟨h1,h2⟩:=h;rw [h1];exact ih a l h2
       | succ n=>exact ih b _ h
     | o n a=>cases n with
       | zero=>exact ih b _ h
       | succ n=>exact ih b _ h
     | _=>exact ih b _ h
 | opt o k ih=>
   intro l h
   cases l with
   | nil=>cases o with
     | none=>exact h.elim
     | some d=>exact ih d _ h
   | cons a l=>cases a with
     | o n a=>cases n with
       | zero=>obtain ⟨rfl,h2⟩:=h;exact ih a l h2
       | succ n=>cases o with
         | none=>exact h.elim
         | some d=>exact ih d _ h
     | t n a=>cases n with
       | zero=>cases o with
         | none=>exact h.elim
         | some d=>exact ih d _ h
       | succ n=>cases o with
         | none=>exact h.elim
         | some d=>exact ih d _ h
     | _=>cases o with
        | none=>exact h.elim
        | some d=>exact ih d _ h
 | sub o k ih=>
   intro l h
   cases l with
   | nil=>exact h.elim
   | cons a l=>cases a with
     | e d s=>obtain ⟨rfl,h2⟩:=h;exact ih d s l h2
     | _=>exact h.elim
 | subS o k ih=>
   intro l h
   cases l with
   | nil=>exact h.elim
   | cons a l=>cases a with
     | x a=>obtain ⟨h1,h2⟩:=h;show aa cal cal1 (k o)=_;rw [h1];exact ih a l h2
     | _=>exact h.elim
end
def Aq:ar→Res
 | .nx s=>.ok .non s.st
 | .rt d s=>.ok d s.st
 | .exc c l s=>.exc c l s.st
 | .bad=>.bad
def uF (Γ:Gm) (cal cal1:Nat→List D→List O→Res) (lp:Bool) (j:Nat) (ds:List D) (st:List O) (l:List An):Prop×Res:=match Γ.fn[j]? with
 | some f=>if ds.length=f.np then
  (fun p=>(p.1,Aq p.2)) (trc cal cal1 (exT Γ cal cal1 lp f.body ⟨ds.map some ++ List.replicate (f.ns - f.np) none,[],st⟩ (fun s=>.fin (.nx s)) (fun d s=>.fin (.rt d s)) (fun c l s=>.fin (.exc c l s))) l)
   else (False,.bad)
 | none=>(False,.bad)
theorem yn {st:List O} (l:List An) {P:Prop} {r:Res} (hp:P) (h:uF Γ cal cal1 lp j ds st l=(P,r)):kA Γ cal cal1 j ds st=r:=by
 unfold uF at h
 unfold kA
 cases q:Γ.fn[j]? with
 | none=>rw [q] at h;have t:False=P:=ZS Prod.fst h;exact (Eq.mpr t hp:False).elim
 | some f=>
   rw [q] at h
   dsimp only at h ⊢
   by_cases c:ds.length=f.np
   ·rw [ZZ c] at h ⊢
    have h1:=ZS Prod.fst h
    have h2:=ZS Prod.snd h
    dsimp only at h1 h2
    have t:=lQ cal cal1 _ l (h1 ▸ hp)
    rw [(pT f.body).1] at t
    rw [← h2,← t]
    cases exS Γ cal cal1 f.body ⟨ds.map some ++ List.replicate (f.ns - f.np) none,[],st⟩ <;> rfl
   ·rw [ZY c] at h;have t:False=P:=ZS Prod.fst h;exact (Eq.mpr t hp:False).elim
theorem aA (lp) {st:List O} (l:List An) {P:Prop} {r:Res} (hp:P) (h:uF Γ (ag Γ n) (aK Γ n) lp j ds st l=(P,r)):ag Γ (n+1) j ds st=r:=yn l hp h
theorem vn (lp) (l) {P:Prop} {o:ar} (hp:P) (h:trc cal cal1 (exT Γ cal cal1 lp c s (fun s=>.fin (.nx s)) (fun d s=>.fin (.rt d s)) (fun c l s=>.fin (.exc c l s))) l=(P,o)):exS Γ cal cal1 c s=o:=by
 have h1:=ZS Prod.fst h
 have h2:=ZS Prod.snd h
 dsimp only at h1 h2
 have t:=lQ cal cal1 _ l (h1 ▸ hp)
 rw [(pT c).1,h2] at t
 rw [← t]
 cases exS Γ cal cal1 c s <;> rfl
def vK:ar→Out D
 | .rt d s=>.ok d s
 | .exc c l s=>.exc c l s
 | _=>.bad
theorem zu (lp) (l) {P:Prop} {o:Out D} (hp:P) (h:(fun p:Prop×ar=>(p.1,vK p.2)) (trc cal cal1 (evT Γ cal cal1 lp br e s (fun d s=>.fin (.rt d s)) (fun c l s=>.fin (.exc c l s))) l)=(P,o)):ev Γ cal cal1 br e s=o:=by
 have h1:=ZS Prod.fst h
 have h2:=ZS Prod.snd h
 dsimp only at h1 h2
 have t:=lQ cal cal1 _ l (h1 ▸ hp)
 rw [(bL e).1] at t
 rw [← h2,← t]
 cases ev Γ cal cal1 br e s <;> rfl
theorem a9 (h:f d s = .nx s1) (h2:bc f r s1=o):bc f (d :: r) s=o:=by
 show (f d s).go _=o
 rw [h];exact h2
theorem fO (h:f d s=o) (n:∀ s,o≠.nx s):bc f (d :: r) s=o:=by
 show (f d s).go _=o
 rw [h]
 cases o with
 | nx s=>exact ZX rfl (n s)
 | _=>rfl
theorem dR (h:f d s = .ok (some e) s1) (ha:acc.length<100000) (h2:bh f r (acc ++ [e]) s1=o):bh f (d :: r) acc s=o:=by
 show (f d s).bind _=o
 rw [h]
 show (if acc.length<100000 then bh f r (acc ++ [e]) s1 else .bad)=o
 rw [ZZ ha];exact h2
theorem dQ (h:f d s = .ok none s1) (h2:bh f r acc s1=o):bh f (d :: r) acc s=o:=by
 show (f d s).bind _=o
 rw [h];exact h2
def dq:S→S
 | .seq a b=>(match dq a with | .skip=>dq b | x=>x)
 | .ifs _ a b=>(match dq a with | .skip=>dq b | x=>x)
 | .for_ _ _ _ b=>b
 | _=>.skip
def toR:ar→Res
 | .nx s=>.ok .non s.st
 | .rt d s=>.ok d s.st
 | .exc c l s=>.exc c l s.st
 | .bad=>.bad
def hdS:Nat→S→S
 | 0,.seq a _=>a
 | n+1,.seq a b=>.seq a (hdS n b)
 | _,s=>s
def tlS:Nat→S→S
 | 0,.seq _ b=>b
 | n+1,.seq _ b=>tlS n b
 | _,_=>.skip
theorem vr (x:ar):(x.go fun s=>.nx s)=x:=by cases x <;> rfl
theorem oh (n:Nat) (c:S) (s:Sta):exS Γ cal cal1 c s=(exS Γ cal cal1 (hdS n c) s).go fun s=>exS Γ cal cal1 (tlS n c) s:=by
 induction n generalizing c s with
 | zero=>cases c <;> first | rfl | exact (vr _).symm
 | succ n ih=>
   cases c with
   | seq a b=>
     show (exS Γ cal cal1 a s).go _=((exS Γ cal cal1 a s).go fun s=>exS Γ cal cal1 (hdS n b) s).go _
     cases exS Γ cal cal1 a s with
     | nx s=>exact ih b s
     | _=>rfl
   | _=>exact (vr _).symm
theorem wq (lp) (l) {P:Prop} {r:Res} (hp:P) (h:(fun p:Prop×ar=>(p.1,toR p.2)) (trc cal cal1 (exT Γ cal cal1 lp c s (fun s=>.fin (.nx s)) (fun d s=>.fin (.rt d s)) (fun c l s=>.fin (.exc c l s))) l)=(P,r)):toR (exS Γ cal cal1 c s)=r:=by
 have h1:=ZS Prod.fst h
 have h2:=ZS Prod.snd h
 dsimp only at h1 h2
 rw [← h2]
 exact ZS toR (vn lp l (h1 ▸ hp) rfl)
theorem bB {n:Nat} {ds:List D} {st:List O} {r:Res} (k:Nat) (f:Fn) {s':Sta} (hf:Γ.fn[j]? = some f) (hl:ds.length=f.np) (h1:exS Γ (ag Γ n) (aK Γ n) (hdS k f.body) ⟨ds.map some ++ List.replicate (f.ns - f.np) none,[],st⟩ = .nx s') (h2:toR (exS Γ (ag Γ n) (aK Γ n) (tlS k f.body) s')=r):ag Γ (n+1) j ds st=r:=by
 show kA Γ (ag Γ n) (aK Γ n) j ds st=r
 unfold kA
 rw [hf]
 dsimp only
 rw [ZZ hl,oh k,h1,← h2]
 rfl
class ToAn (α:Type) where
 an:Nat→α→An
instance:ToAn Res:=⟨fun _ a=>.r a⟩
instance:ToAn Bool:=⟨fun n b=>.t n b⟩
instance:ToAn (Option D):=⟨fun n o=>match o with | some d=>.o n d | none=>.c⟩
instance:ToAn (Out D):=⟨fun _ o=>match o with | .ok d s=>.e d s | _=>.c⟩
instance:ToAn ar:=⟨fun _ o=>.x o⟩
theorem pR {a b:D} (h:isDic a=false):eqT a b=eqv 55 a b:=by cases a <;> first | rfl | cases h
def AL (_:List An) (P:Prop):Prop:=P
theorem aX (n:Nat) {α:Type} [ToAn α] {x a:α} (h:x=a) {l:List An} {P:Prop} (t:AL l P):AL (ToAn.an n a :: l) (x=a∧P):=⟨h,t⟩
theorem aC {l:List An} {P:Prop} (t:AL l P):AL (.c :: l) P:=t
theorem aZ:AL [] True:=True.intro
theorem ac (lp) {st:List O} {l:List An} {P:Prop} {r:Res} (hp:AL l P) (h:uF Γ (ag Γ n) (aK Γ n) lp j ds st l=(P,r)):ag Γ (n+1) j ds st=r:=aA lp l hp h
theorem b7 (lp) {l:List An} {P:Prop} {o:ar} (hp:AL l P) (h:trc cal cal1 (exT Γ cal cal1 lp c s (fun s=>.fin (.nx s)) (fun d s=>.fin (.rt d s)) (fun c l s=>.fin (.exc c l s))) l=(P,o)):exS Γ cal cal1 c s=o:=vn lp l hp h
theorem gI (lp) {l:List An} {P:Prop} {o:Out D} (hp:AL l P) (h:(fun p:Prop×ar=>(p.1,vK p.2)) (trc cal cal1 (evT Γ cal cal1 lp br e s (fun d s=>.fin (.rt d s)) (fun c l s=>.fin (.exc c l s))) l)=(P,o)):ev Γ cal cal1 br e s=o:=zu lp l hp h
theorem aE (lp) {l:List An} {P:Prop} {r:Res} (hp:AL l P) (h:(fun p:Prop×ar=>(p.1,toR p.2)) (trc cal cal1 (exT Γ cal cal1 lp c s (fun s=>.fin (.nx s)) (fun d s=>.fin (.rt d s)) (fun c l s=>.fin (.exc c l s))) l)=(P,r)):toR (exS Γ cal cal1 c s)=r:=wq lp l hp h
def fb (Γ:Gm) (cal cal1:Nat→List D→List O→Res) (t:List Nat) (one:Bool) (b:S):D→Sta→ar:=fun d s=>match aL t one d s.env with | some env=>exS Γ cal cal1 b ⟨env,s.ow.filter fun i=>!t.contains i,s.st⟩ | none=>.bad
def lcQ (Γ:Gm) (cal cal1:Nat→List D→List O→Res) (t:List Nat) (one:Bool) (elt cond:E):D→Sta→Out (Option D):=fun d s'=>(match aL t one d s'.env with
 | some env=>(noX (ev Γ cal cal1 true cond ⟨env,[],s'.st⟩)).bind fun b s2=>(match b with
   | .bl true=>(noX (ev Γ cal cal1 false elt s2)).bind fun e s3=>.ok (some e) ⟨s3.env,[],s3.st⟩
   | .bl false=>.ok none ⟨s2.env,[],s2.st⟩
   | _=>.bad)
 | none=>.bad)
theorem aW {s:Sta} (hb:aL t one d s.env=some env) (h:exS Γ cal cal1 b ⟨env,s.ow.filter fun i=>!t.contains i,s.st⟩=o):fb Γ cal cal1 t one b d s=o:=by unfold fb;rw [hb];exact h
theorem jc {s:Sta} {cond elt:E} (hb:aL t one d s.env=some env) (hc:ev Γ cal cal1 true cond ⟨env,[],s.st⟩ = .ok (.bl true) s2) (h:ev Γ cal cal1 false elt s2 = .ok e s3):lcQ Γ cal cal1 t one elt cond d s = .ok (some e) ⟨s3.env,[],s3.st⟩:=by
 unfold lcQ
 rw [hb]
 dsimp only
 rw [hc]
 show (noX (ev Γ cal cal1 false elt s2)).bind _=_
 rw [h];rfl
theorem fX {s:Sta} {cond elt:E} (hb:aL t one d s.env=some env) (hc:ev Γ cal cal1 true cond ⟨env,[],s.st⟩ = .ok (.bl false) s2):lcQ Γ cal cal1 t one elt cond d s = .ok none ⟨s2.env,[],s2.st⟩:=by
 unfold lcQ
 rw [hb]
 dsimp only
 rw [hc];rfl
theorem mS {x:E} {f:Nat} {b e:E} (h1:ev Γ cal cal1 false e s = .ok d s1) (h2:ev Γ cal cal1 true (.fld x f) s1 = .ok (.ref n) s2) (h3:ev Γ cal cal1 true b s2 = .ok k s3) (h4:s3.st[n]? = some o) (h5:d5 o k d=some o'):exS Γ cal cal1 (.put (.fld x f) b e) s = .nx ⟨s3.env,s3.ow,s3.st.set n o'⟩:=by
 show (ev Γ cal cal1 false e s).go _=_
 rw [h1]
 show (ev Γ cal cal1 true (.fld x f) s1).go _=_
 rw [h2]
 show (ev Γ cal cal1 true b s2).go _=_
 rw [h3]
 show (match (s3.st[n]?).bind fun o=>d5 o k d with | some o=>ar.nx ⟨s3.env,s3.ow,s3.st.set n o⟩ | none=>.bad)=_
 rw [h4]
 show (match d5 o k d with | some o=>ar.nx ⟨s3.env,s3.ow,s3.st.set n o⟩ | none=>.bad)=_
 rw [h5]
end L2.Ev
end
section
namespace L2.K32
open L2.Bk L2.Ev
def top (i:Nat):Stmt:=PySem.Challenge.pw_blamewise_k32_whole_each_by_its_rule.main.body.getD i (.Pass ⟨0,0,0,0⟩)
def b8 (s:Stmt) (j:Nat):Stmt:=match s with
 | .ClassDef _ _ _ body _ _ _ _ _ _ _=>body.getD j (.Pass ⟨0,0,0,0⟩)
 | _=>.Pass ⟨0,0,0,0⟩
def fnl:List (Str×Stmt):=(List.append [("steps",top 10),("kinds_in",top 11),("with_kinds",top 12),("depth",top 13),("part",top 14),("stepped",top 15),("parting",top 17),("join",top 18),("form",top 21),("indexes",top 22),("parts",top 23),("written",top 24),("need_names",top 25),("need_bound",top 26),("names_bound",top 27),("looked",top 35)] (List.append [("kind_of",top 36),("need_shallow",top 38),("need_same",top 39),("bound_within",top 40),("wanted_kind",top 41),("own_kind",top 42),("_law_cell_at",top 44),("_law_words",top 45),("_law_next",top 46),("_law_place",top 47),("_law_number",top 48),("_law_kind",top 49),("_law_more",top 50),("_law_leaf",top 51),("_law_built",top 52),("_law_flat",top 53)] (List.append [("_law_node",top 54),("_law_digit_cell",top 55),("_law_digit_kind",top 56),("_law_digit_leaf",top 57),("_law_digit_node",top 58),("_law_digit_binding",top 59),("_law_steps",top 60),("_law_parting",top 61),("_law_join",top 62),("_law_parts",top 63),("_law_names",top 64),("_law_shaped",top 65),("_law_want",top 66),("_law_own",top 67),("_law_holds",top 68),("_law_places",top 69)] [("law",top 70)])))
def mel:List (Str×Str×Stmt):=[("__init__","Looker.__init__",b8 (top 37) 0),("look","Looker.look",b8 (top 37) 1),("hold","Looker.hold",b8 (top 37) 2),("hold_choice","Looker.hold_choice",b8 (top 37) 3),("want","Looker.want",b8 (top 37) 4)]
def gll:List (Str×Dk):=[("UNTOLD",(.tup [(.str "?")])),("ALL_STEPS",(.tup [(.str "arg"),(.str "res"),(.str "item"),(.str "one"),(.str "two")])),("TRUTH",(.tup [(.str "truth")])),("WHOLE",(.tup [(.str "whole")])),("MOST_DEPTH",(.int 4))]
def uK:List (Str×Dk):=[("whole",(.tup [(.str "number")])),("truth",(.tup [(.str "truth")])),("given",(.tup [(.str "given")])),("name",(.tup [(.str "name")])),("fn",(.tup [(.str "name"),(.str "kind"),(.str "node")])),("self",(.tup [(.str "name"),(.str "name"),(.str "kind"),(.str "kind"),(.str "node")])),("call",(.tup [(.str "node"),(.str "node")])),("let",(.tup [(.str "name"),(.str "node"),(.str "node")])),("if",(.tup [(.str "node"),(.str "node"),(.str "node")])),("do",(.tup [(.str "sign"),(.str "node"),(.str "node")])),("row",(.tup [(.str "kind"),(.str "nodes")])),("at",(.tup [(.str "node"),(.str "node")])),("size",(.tup [(.str "node")])),("pair",(.tup [(.str "node"),(.str "node")])),("one",(.tup [(.str "node")])),("two",(.tup [(.str "node")])),("as",(.tup [(.str "kind"),(.str "node")])),("look",(.tup [(.str "put in"),(.str "put in"),(.str "node")]))]
def uL:List (Str×Dk):=[("whole",(.tup [])),("truth",(.tup [])),("?",(.tup [])),("to",(.tup [(.str "arg"),(.str "res")])),("row",(.tup [(.str "item")])),("pair",(.tup [(.str "one"),(.str "two")]))]
def jy:List (Str×Dk):=[("whole",(.tup [(.str "whole")])),("given",(.tup [(.str "whole")])),("size",(.tup [(.str "whole")])),("truth",(.tup [(.str "truth")]))]
def kF:List (Str×Dk):=[("call",(.tup [(.str "res")])),("at",(.tup [(.str "item")])),("one",(.tup [(.str "one")])),("two",(.tup [(.str "two")]))]
def rU:List (Str×Dk):=[("call",(.tup [(.str "to"),(.tup [(.str "?")]),(.tup [(.str "?")])])),("at",(.tup [(.str "row"),(.tup [(.str "?")])])),("size",(.tup [(.str "row"),(.tup [(.str "?")])])),("one",(.tup [(.str "pair"),(.tup [(.str "?")]),(.tup [(.str "?")])])),("two",(.tup [(.str "pair"),(.tup [(.str "?")]),(.tup [(.str "?")])]))]
def tbl:List (Str×List (Str×Dk)):=[("FORMS",uK),("STEPS",uL),("SURE_KINDS",jy),("TAKEN_OUT",kF),("NEEDED",rU)]
def T:Ns where
 gl:=gll.map (·.1)
 tb:=tbl.map (·.1)
 fn:=fnl.map (·.1)
 at_:=["place","kind","by","wanted","way","kinds"]
 bl:=["len","dict","tuple","range","enumerate","list","zip","max","isinstance","int","abs"]
 rf:=["_law_deal"]
 mu:=["_law_digit_node"]
 me:=[("look",5,50),("hold",5,51),("hold_choice",5,52),("want",5,53)]
 ex:=["","","NoName","TooDeep","Parted",""]
 nd:=["","","","","",""]
 nw:=["","","","","","Looker"]
 hx:=["","","","TooDeep","Parted",""]
 hc:=["kind_of","_law_holds"]
 xt:=["","","","","",""]
def vrl:List (List Str×List (Str×Nat)×List Str×List Str):=(List.append [(T.mu,T.alt,T.fc,T.oc),(T.mu,T.alt,T.fc,T.oc),(T.mu,T.alt,T.fc,T.oc),(T.mu,T.alt,T.fc,T.oc),(T.mu,T.alt,T.fc,T.oc),(T.mu,T.alt,T.fc,T.oc),(T.mu,T.alt,T.fc,T.oc),(T.mu,T.alt,T.fc,T.oc),(T.mu,T.alt,T.fc,T.oc),(T.mu,T.alt,T.fc,T.oc),(T.mu,T.alt,T.fc,T.oc),(T.mu,T.alt,T.fc,T.oc),(T.mu,T.alt,T.fc,T.oc),(T.mu,T.alt,T.fc,T.oc),(T.mu,T.alt,T.fc,T.oc),(T.mu,T.alt,T.fc,T.oc)] (List.append [(T.mu,T.alt,T.fc,T.oc),(T.mu,T.alt,T.fc,T.oc),(T.mu,T.alt,T.fc,T.oc),(T.mu,T.alt,T.fc,T.oc),(T.mu,T.alt,T.fc,T.oc),(T.mu,T.alt,T.fc,T.oc),(T.mu,T.alt,T.fc,T.oc),(T.mu,T.alt,T.fc,T.oc),(T.mu,T.alt,T.fc,T.oc),(T.mu,T.alt,T.fc,T.oc),(T.mu,T.alt,T.fc,T.oc),(T.mu,T.alt,T.fc,T.oc),(T.mu,T.alt,T.fc,T.oc),(T.mu,T.alt,T.fc,T.oc),(T.mu,T.alt,T.fc,T.oc),(T.mu,T.alt,T.fc,T.oc)] (List.append [(T.mu,T.alt,T.fc,T.oc),(T.mu,T.alt,T.fc,T.oc),(T.mu,T.alt,T.fc,T.oc),(T.mu,T.alt,T.fc,T.oc),(T.mu,T.alt,T.fc,T.oc),(T.mu,T.alt,T.fc,T.oc),(T.mu,T.alt,T.fc,T.oc),(T.mu,T.alt,T.fc,T.oc),(T.mu,T.alt,T.fc,T.oc),(T.mu,T.alt,T.fc,T.oc),(T.mu,T.alt,T.fc,T.oc),(T.mu,T.alt,T.fc,T.oc),(T.mu,T.alt,T.fc,T.oc),(T.mu,T.alt,T.fc,T.oc),(T.mu,T.alt,T.fc,T.oc),(T.mu,T.alt,T.fc,T.oc)] [(T.mu,T.alt,["looked"],T.oc),(T.mu,T.alt,T.fc,T.oc),(T.mu,T.alt,T.fc,T.oc),(T.mu,T.alt,T.fc,T.oc),(T.mu,T.alt,T.fc,T.oc),(T.mu,T.alt,T.fc,T.oc)])))
def Γ:Gm:=⟨gll.map (·.2),tbl.map (·.2),(((fnl.map fun p=>(p.1,p.1,p.2)) ++ mel).zip vrl).map fun p=>cT { T with mu:=p.2.1,alt:=p.2.2.1,fc:=p.2.2.2.1,oc:=p.2.2.2.2 } p.1.2.2,[⟨2,[],0,[],[],[]⟩,⟨2,[],0,[],[0],[]⟩,⟨2,[0],0,[],[0],[0]⟩,⟨2,[0],0,[],[0],[0]⟩,⟨2,[0,1,2,3,4],0,[],[0],[0,2]⟩,⟨0,[5,3],49,[],[],[]⟩]⟩
abbrev ja:Nat:=0
abbrev kY:Nat:=1
abbrev cK:Nat:=2
abbrev tE:Nat:=3
abbrev qC:Nat:=4
abbrev oG:Nat:=6
abbrev wK:Nat:=7
abbrev tF:Nat:=10
abbrev oH:Nat:=11
abbrev i9:Nat:=12
def iU:Fn:=cT T (top 26)
abbrev dN:Nat:=13
abbrev gR:Nat:=14
abbrev fU:Nat:=15
abbrev oF:Nat:=16
abbrev fV:Nat:=17
abbrev j7:Nat:=18
abbrev fT:Nat:=19
abbrev gU:Nat:=20
abbrev kZ:Nat:=21
abbrev fR:Nat:=22
def iT:Fn:=cT T (top 45)
abbrev i8:Nat:=23
abbrev j4:Nat:=24
abbrev i7:Nat:=25
abbrev gQ:Nat:=26
abbrev j0:Nat:=27
abbrev j3:Nat:=28
def eS:Fn:=cT T (top 51)
abbrev eW:Nat:=29
abbrev i4:Nat:=30
abbrev jY:Nat:=31
def bQ:Fn:=cT T (top 54)
abbrev j5:Nat:=32
abbrev cu:Nat:=33
abbrev dJ:Nat:=34
abbrev dK:Nat:=35
def aM:Fn:=cT T (top 58)
abbrev dL:Nat:=36
abbrev cU:Nat:=37
abbrev fS:Nat:=39
abbrev jZ:Nat:=40
abbrev i6:Nat:=41
abbrev i5:Nat:=42
abbrev j6:Nat:=44
abbrev kX:Nat:=45
def iS:Fn:=cT T (top 68)
abbrev dM:Nat:=46
def gL:Fn:=cT T (top 69)
abbrev dj:Nat:=47
def jN:Fn:=cT { T with mu:=T.mu,alt:=T.alt,fc:=["looked"],oc:=T.oc } (top 70)
abbrev zK:Nat:=48
def dh:Fn:=cT T (b8 (top 37) 1)
abbrev gN:Nat:=50
abbrev gM:Nat:=51
abbrev cS:Nat:=52
def gK:Fn:=cT T (b8 (top 37) 4)
abbrev gO:Nat:=53
end L2.K32
end
section
namespace L2.K32
open L2.Bw L2.Bk L2.Ev
theorem A {a b:Prop} (x:a) (y:b):a∧b:=⟨x,y⟩
theorem Z:True:=True.intro
inductive Sg where
 | add | sub | mul | lt | eq
 deriving DecidableEq
def Sg.str:Sg→Str
 | .add=>"+" | .sub=>"-" | .mul=>"*" | .lt=>"<" | .eq=>"="
inductive Kd where
 | whole | truth | unt | to (a b:Kd) | row (a:Kd) | pair (a b:Kd)
 deriving DecidableEq
def Kd.dep:Kd→Nat
 | .to a b=>1+max a.dep b.dep
 | .row a=>1+a.dep
 | .pair a b=>1+max a.dep b.dep
 | _=>1
def Sm (p:Int):Prop:=0≤p∧p<100000
def Kd.toD:Kd→D
 | .whole=>.tup [.str "whole"]
 | .truth=>.tup [.str "truth"]
 | .unt=>.tup [.str "?"]
 | .to a b=>.tup [.str "to",a.toD,b.toD]
 | .row a=>.tup [.str "row",a.toD]
 | .pair a b=>.tup [.str "pair",a.toD,b.toD]
inductive T68 where
 | whole (p v:Int) | truth (p:Int) (b:Bool) | given (p:Int) (i:Nat) | name (p:Int) (x:Str) | fn (p:Int) (x:Str) (k:Kd) (b:T68) | slf (p:Int) (f x:Str) (k g:Kd) (b:T68)
 | lt (p:Int) (x:Str) (a b:T68) | iff (p:Int) (c a b:T68) | call (p:Int) (a b:T68) | bin (p:Int) (o:Sg) (a b:T68) | as_ (p:Int) (k:Kd) (a:T68)
 | row (p:Int) (k:Kd) (ts:List T68) | pair (p:Int) (a b:T68) | att (p:Int) (a b:T68) | size (p:Int) (a:T68) | one (p:Int) (a:T68) | two (p:Int) (a:T68) | lk (p:Int) (k l:Kd) (a:T68)
mutual
noncomputable def T68.toD:T68→D
 | .whole p v=>.tup [.str "whole",.int p,.int v]
 | .truth p b=>.tup [.str "truth",.int p,.bl b]
 | .given p i=>.tup [.str "given",.int p,.int i]
 | .name p x=>.tup [.str "name",.int p,.str x]
 | .fn p x k b=>.tup [.str "fn",.int p,.str x,k.toD,b.toD]
 | .slf p f x k g b=>.tup [.str "self",.int p,.str f,.str x,k.toD,g.toD,b.toD]
 | .lt p x a b=>.tup [.str "let",.int p,.str x,a.toD,b.toD]
 | .iff p c a b=>.tup [.str "if",.int p,c.toD,a.toD,b.toD]
 | .call p a b=>.tup [.str "call",.int p,a.toD,b.toD]
 | .bin p o a b=>.tup [.str "do",.int p,.str o.str,a.toD,b.toD]
 | .as_ p k a=>.tup [.str "as",.int p,k.toD,a.toD]
 | .row p k ts=>.tup [.str "row",.int p,k.toD,.tup (toDs ts)]
 | .pair p a b=>.tup [.str "pair",.int p,a.toD,b.toD]
 | .att p a b=>.tup [.str "at",.int p,a.toD,b.toD]
 | .size p a=>.tup [.str "size",.int p,a.toD]
 | .one p a=>.tup [.str "one",.int p,a.toD]
 | .two p a=>.tup [.str "two",.int p,a.toD]
 | .lk p k l a=>.tup [.str "look",.int p,k.toD,l.toD,a.toD]
noncomputable def toDs:List T68→List D
 | []=>[]
 | t :: r=>t.toD :: toDs r
end
def T68.pl:T68→Int
 | .whole p _=>p | .truth p _=>p | .given p _=>p | .name p _=>p | .fn p _ _ _=>p | .slf p _ _ _ _ _=>p | .lt p _ _ _=>p | .iff p _ _ _=>p | .call p _ _=>p | .bin p _ _ _=>p | .as_ p _ _=>p
 | .row p _ _=>p | .pair p _ _=>p | .att p _ _=>p | .size p _=>p | .one p _=>p | .two p _=>p | .lk p _ _ _=>p
def ah:T68→List T68
 | .fn _ _ _ b=>[b]
 | .slf _ _ _ _ _ b=>[b]
 | .lt _ _ a b=>[a,b]
 | .iff _ c a b=>[c,a,b]
 | .call _ a b=>[a,b]
 | .bin _ _ a b=>[a,b]
 | .as_ _ _ a=>[a]
 | .row _ _ ts=>ts
 | .pair _ a b=>[a,b]
 | .att _ a b=>[a,b]
 | .size _ a=>[a]
 | .one _ a=>[a]
 | .two _ a=>[a]
 | .lk _ _ _ a=>[a]
 | _=>[]
def bnd:T68→Nat→List Str
 | .fn _ x _ _,_=>[x]
 | .slf _ f x _ _ _,_=>[f,x]
 | .lt _ x _ _,1=>[x]
 | _,_=>[]
def wks:T68→List Kd
 | .fn _ _ k _=>[k]
 | .slf _ _ _ k g _=>[k,g]
 | .as_ _ k _=>[k]
 | .row _ k _=>[k]
 | _=>[]
def own (W bs:List Str):T68→Prop
 | .whole _ v=>v.natAbs<10 ^ 40
 | .given _ i=>i<8
 | .name _ x=>x∈bs
 | .fn _ x _ _=>x∈W
 | .slf _ f x _ _ _=>f∈W∧x∈W
 | .lt _ x _ _=>x∈W
 | .row _ _ ts=>ts.length≤4
 | .lk ..=>False
 | _=>True
def Ok (W:List Str):Nat→List Str→T68→Prop
 | 0,_,_=>False
 | n+1,bs,t=>own W bs t∧Sm t.pl∧(∀ k∈wks t,k.dep≤8)∧∀ i k,(ah t)[i]? = some k→Ok W n (bs ++ bnd t i) k
theorem Ao (t:T68):ixD t.toD (.int 1)=some (.int t.pl):=by cases t <;> rfl
theorem xn (t:T68) (st:List O):look st t.toD=t.toD:=by cases t <;> rfl
theorem aJ (t:T68) (st:List O):ixD (look st t.toD) (.int 1)=some (.int t.pl):=by rw [xn];exact Ao t
theorem cF:∀ ts:List T68,toDs ts=ts.map T68.toD
 | []=>rfl
 | t :: r=>by unfold toDs;rw [cF r];rfl
theorem rX (ts:List T68):(toDs ts).length=ts.length:=by rw [cF,List.length_map]
theorem cC {W:List Str} {bs:List Str} {t:T68} (h:own W bs t):(ah t).length≤4:=by
 cases t with
 | row p kd ts=>exact h
 | lk=>exact ZX h id
 | _=>exact Nat.le_of_ble_eq_true rfl
theorem rG (t:T68) (n:Nat) (st:List O):ag Γ (n+3) tF [t.toD] st = .ok (.lst (toDs (ah t))) st:=by
 cases t <;> kernel_rfl
def sts (l:List Str):List D:=l.map D.str
theorem xV (t:T68) (i:Nat) (k:T68) (h:(ah t)[i]? = some k) (n:Nat) (st:List O):ag Γ (n+1) gR [t.toD,.int i] st = .ok (.tup (sts (bnd t i))) st:=by
 cases t with
 | lt p x a b=>
   match i,h with
   | 0,h=>kernel_rfl
   | 1,h=>kernel_rfl
   | i+2,h=>cases h
 | _=>kernel_rfl
theorem wn (x y:Str):eqv 55 (.str x) (.str y)=some (decide (x=y)):=by
 show some (x == y)=_
 by_cases h:x=y
 ·subst h;simp
 ·simp [h]
theorem mh (x:Str):∀ l:List Str,inD (.str x) (sts l)=some (decide (x∈l))
 | []=>by simp [sts,inD]
 | y :: r=>by
   show (match eqv 55 (.str y) (.str x) with | none=>none | some b=>(inD (.str x) (sts r)).map (b || ·))=_
   rw [wn,mh x r]
   by_cases h:y=x
   ·simp [h]
   ·have h2:¬ x=y:=fun e=>h e.symm
    simp [h,h2]
theorem notin {x:Str} {l:List Str} (h:x∈l):opD .notin (.str x) (.tup (sts l))=some (.bl false):=by
 show (inD (.str x) (sts l)).map (fun b=>D.bl (!b))=_
 rw [mh];simp [h]
theorem BL (t:T68) (n:Nat) (st:List O):ag Γ (n+3) oH [t.toD] st = .ok (.lst ((wks t).map Kd.toD)) st:=by
 cases t <;> kernel_rfl
end L2.K32
end
section
namespace L2.K32
open L2.Bk L2.Ev
def Kd.join:Kd→Kd→Kd
 | .whole,.whole=>.whole
 | .truth,.truth=>.truth
 | .to a b,.to c d=>.to (a.join c) (b.join d)
 | .row a,.row c=>.row (a.join c)
 | .pair a b,.pair c d=>.pair (a.join c) (b.join d)
 | _,_=>.unt
def Kd.par:Kd→Kd→Option (List Str)
 | .unt,_=>none
 | _,.unt=>none
 | .whole,.whole=>none
 | .truth,.truth=>none
 | .to a b,.to c d=>(match a.par c with | some w=>some ("arg" :: w) | none=>(b.par d).map ("res" :: ·))
 | .row a,.row c=>(a.par c).map ("item" :: ·)
 | .pair a b,.pair c d=>(match a.par c with | some w=>some ("one" :: w) | none=>(b.par d).map ("two" :: ·))
 | _,_=>some []
def BE:Option (List Str)→D
 | none=>.non
 | some w=>.tup (sts w)
theorem fq (k:Kd) (st:List O):look st k.toD=k.toD:=by cases k <;> rfl
theorem uj (a b:Nat):L2.Bw.maxD 0 [(a:Int),(b:Int)]=((max a b:Nat):Int):=by
 show (if (b:Int)>(a:Int) then (b:Int) else (a:Int))=_
 by_cases h:(b:Int)>(a:Int)
 ·rw [ZZ h];have:max a b=b:=Nat.max_eq_right (by omega);rw [this]
 ·rw [ZY h];have:max a b=a:=Nat.max_eq_left (by omega);rw [this]
theorem kin (k:Kd) (l:List D) (h:k.toD = .tup (D.str h0 :: l)) (n:Nat) (st:List O):ag Γ (n+1) kY [k.toD] st = .ok (.lst l) st:=by
 cases k <;> (cases h;kernel_rfl)
theorem iI (m:Nat):opD .add (.int 1) (.int (m:Nat))=some (.int ((1+m:Nat):Int)):=by
 show some (D.int (1+(m:Int)))=_;congr 2
theorem uk (a:Nat):biD .max0 [.lst [.int (a:Nat)],.int 0]=some (.int (a:Nat)):=rfl
theorem mG (a b:Nat):biD .max0 [.lst [.int (a:Nat),.int (b:Nat)],.int 0]=some (.int ((max a b:Nat):Int)):=by
 show some (D.int (L2.Bw.maxD 0 [(a:Int),(b:Int)]))=_;rw [uj]
theorem depth:∀ (k:Kd) (N:Nat),k.dep+1≤N→∀ st,ag Γ N tE [k.toD] st = .ok (.int (k.dep:Nat)) st
 | .whole,N,h,st=>by obtain ⟨n,rfl⟩:∃ n,N=n+2:=⟨N - 2,by unfold Kd.dep at h;omega⟩;kernel_rfl
 | .truth,N,h,st=>by obtain ⟨n,rfl⟩:∃ n,N=n+2:=⟨N - 2,by unfold Kd.dep at h;omega⟩;kernel_rfl
 | .unt,N,h,st=>by obtain ⟨n,rfl⟩:∃ n,N=n+2:=⟨N - 2,by unfold Kd.dep at h;omega⟩;kernel_rfl
 | .row a,N,h,st=>by
   unfold Kd.dep at h
   obtain ⟨n,rfl⟩:∃ n,N=n+2:=⟨N - 2,by omega⟩
   have i1:=depth a (n+1) (by omega) st
   exact aA false [.r (.ok (.lst [a.toD]) st),.r (.ok (.int (a.dep:Nat)) st),.o 0 (.int (a.dep:Nat)),.o 0 (.int ((1+a.dep:Nat):Int))] (kin (.row a) [a.toD] rfl n st<|>i1<|>uk a.dep<|>iI a.dep<|>Z) (by kernel_rfl)
 | .to a b,N,h,st=>by
   unfold Kd.dep at h
   obtain ⟨n,rfl⟩:∃ n,N=n+2:=⟨N - 2,by omega⟩
   have i1:=depth a (n+1) (by omega) st
   have i2:=depth b (n+1) (by omega) st
   exact aA false [.r (.ok (.lst [a.toD,b.toD]) st),.r (.ok (.int (a.dep:Nat)) st),.r (.ok (.int (b.dep:Nat)) st),.o 0 (.int ((max a.dep b.dep:Nat):Int)),.o 0 (.int ((1+max a.dep b.dep:Nat):Int))] (kin (.to a b) [a.toD,b.toD] rfl n st<|>i1<|>i2<|>mG a.dep b.dep<|>iI (max a.dep b.dep)<|>Z) (by kernel_rfl)
 | .pair a b,N,h,st=>by
   unfold Kd.dep at h
   obtain ⟨n,rfl⟩:∃ n,N=n+2:=⟨N - 2,by omega⟩
   have i1:=depth a (n+1) (by omega) st
   have i2:=depth b (n+1) (by omega) st
   exact aA false [.r (.ok (.lst [a.toD,b.toD]) st),.r (.ok (.int (a.dep:Nat)) st),.r (.ok (.int (b.dep:Nat)) st),.o 0 (.int ((max a.dep b.dep:Nat):Int)),.o 0 (.int ((1+max a.dep b.dep:Nat):Int))] (kin (.pair a b) [a.toD,b.toD] rfl n st<|>i1<|>i2<|>mG a.dep b.dep<|>iI (max a.dep b.dep)<|>Z) (by kernel_rfl)
theorem wk1 (a x:Kd) (n:Nat) (st:List O):ag Γ (n+1) cK [(Kd.row a).toD,.lst [x.toD]] st = .ok (Kd.row x).toD st:=by kernel_rfl
theorem wk2 (a b x y:Kd) (n:Nat) (st:List O):ag Γ (n+1) cK [(Kd.to a b).toD,.lst [x.toD,y.toD]] st = .ok (Kd.to x y).toD st:=by kernel_rfl
theorem wk3 (a b x y:Kd) (n:Nat) (st:List O):ag Γ (n+1) cK [(Kd.pair a b).toD,.lst [x.toD,y.toD]] st = .ok (Kd.pair x y).toD st:=by kernel_rfl
theorem cv:∀ (a b:Kd) (N:Nat),a.dep+2≤N→∀ st,ag Γ N wK [a.toD,b.toD] st = .ok (a.join b).toD st
 | a,b,N,h,st=>by
   obtain ⟨n,rfl⟩:∃ n,N=n+3:=⟨N - 3,by cases a <;> (unfold Kd.dep at h;omega)⟩
   cases a with
   | whole=>cases b <;> kernel_rfl
   | truth=>cases b <;> kernel_rfl
   | unt=>cases b <;> kernel_rfl
   | row a=>cases b with
     | row c=>
       unfold Kd.dep at h
       have i1:=cv a c (n+2) (by omega) st
       exact aA false [.r (.ok (.lst [a.toD]) st),.r (.ok (.lst [c.toD]) st),.r (.ok (a.join c).toD st),.r (.ok (Kd.row (a.join c)).toD st)] (kin (.row a) [a.toD] rfl (n+1) st<|>kin (.row c) [c.toD] rfl (n+1) st<|>i1<|>wk1 a (a.join c) (n+1) st<|>Z) (by kernel_rfl)
     | _=>kernel_rfl
   | to a1 a2=>cases b with
     | to c1 c2=>
       unfold Kd.dep at h
       have i1:=cv a1 c1 (n+2) (by omega) st
       have i2:=cv a2 c2 (n+2) (by omega) st
       exact aA false [.r (.ok (.lst [a1.toD,a2.toD]) st),.r (.ok (.lst [c1.toD,c2.toD]) st),.r (.ok (a1.join c1).toD st),.r (.ok (a2.join c2).toD st),.r (.ok (Kd.to (a1.join c1) (a2.join c2)).toD st)] (kin (.to a1 a2) [a1.toD,a2.toD] rfl (n+1) st<|>kin (.to c1 c2) [c1.toD,c2.toD] rfl (n+1) st<|>i1<|>i2<|>wk2 a1 a2 (a1.join c1) (a2.join c2) (n+1) st<|>Z) (by kernel_rfl)
     | _=>kernel_rfl
   | pair a1 a2=>cases b with
     | pair c1 c2=>
       unfold Kd.dep at h
       have i1:=cv a1 c1 (n+2) (by omega) st
       have i2:=cv a2 c2 (n+2) (by omega) st
       exact aA false [.r (.ok (.lst [a1.toD,a2.toD]) st),.r (.ok (.lst [c1.toD,c2.toD]) st),.r (.ok (a1.join c1).toD st),.r (.ok (a2.join c2).toD st),.r (.ok (Kd.pair (a1.join c1) (a2.join c2)).toD st)] (kin (.pair a1 a2) [a1.toD,a2.toD] rfl (n+1) st<|>kin (.pair c1 c2) [c1.toD,c2.toD] rfl (n+1) st<|>i1<|>i2<|>wk3 a1 a2 (a1.join c1) (a2.join c2) (n+1) st<|>Z) (by kernel_rfl)
     | _=>kernel_rfl
theorem bN:∀ (a b:Kd) (w:List Str),a.par b=some w→w.length<a.dep
 | a,b,w,h=>by
   cases a with
   | unt=>cases b <;> cases h
   | whole=>cases b <;> (cases h <;> decide)
   | truth=>cases b <;> (cases h <;> decide)
   | row a=>cases b with
     | row c=>
       obtain ⟨v,h1,rfl⟩:=Option.map_eq_some_iff.mp (show (a.par c).map (("item":Str) :: ·)=some w from h)
       have:=bN a c v h1
       show v.length+1<1+a.dep;omega
     | unt=>cases h
     | _=>cases h;show 0<1+a.dep;omega
   | to a1 a2=>cases b with
     | to c1 c2=>
       have h:(match a1.par c1 with | some w=>some (("arg":Str) :: w) | none=>(a2.par c2).map (("res":Str) :: ·))=some w:=h
       show w.length<1+max a1.dep a2.dep
       cases q:a1.par c1 with
       | some v=>rw [q] at h;cases h;have:=bN a1 c1 v q;show v.length+1<_;omega
       | none=>
         rw [q] at h
         obtain ⟨v,h1,rfl⟩:=Option.map_eq_some_iff.mp h
         have:=bN a2 c2 v h1
         show v.length+1<_;omega
     | unt=>cases h
     | _=>cases h;show 0<1+_;omega
   | pair a1 a2=>cases b with
     | pair c1 c2=>
       have h:(match a1.par c1 with | some w=>some (("one":Str) :: w) | none=>(a2.par c2).map (("two":Str) :: ·))=some w:=h
       show w.length<1+max a1.dep a2.dep
       cases q:a1.par c1 with
       | some v=>rw [q] at h;cases h;have:=bN a1 c1 v q;show v.length+1<_;omega
       | none=>
         rw [q] at h
         obtain ⟨v,h1,rfl⟩:=Option.map_eq_some_iff.mp h
         have:=bN a2 c2 v h1
         show v.length+1<_;omega
     | unt=>cases h
     | _=>cases h;show 0<1+_;omega
theorem eh (x:Str) (w:List Str) (h:w.length≤1000):opD .add (.tup [.str x]) (.tup (sts w))=some (.tup (sts (x :: w))):=by
 show cN (1+(sts w).length) _=_
 unfold cN sts
 rw [ZZ (by simp;omega)];rfl
theorem eK:∀ (a b:Kd) (N:Nat),a.dep+2≤N→a.dep≤1000→∀ st,ag Γ N oG [a.toD,b.toD] st = .ok (BE (a.par b)) st
 | a,b,N,h,h1,st=>by
   obtain ⟨n,rfl⟩:∃ n,N=n+3:=⟨N - 3,by cases a <;> (unfold Kd.dep at h;omega)⟩
   cases a with
   | whole=>cases b <;> kernel_rfl
   | truth=>cases b <;> kernel_rfl
   | unt=>cases b <;> kernel_rfl
   | row a=>cases b with
     | row c=>
       unfold Kd.dep at h h1
       have i1:=eK a c (n+2) (by omega) (by omega) st
       have s1:ag Γ (n+2) ja [(Kd.row a).toD] st = .ok (.tup [.str "item"]) st:=by kernel_rfl
       cases q:a.par c with
       | none=>
         rw [q] at i1
         rw [show (Kd.row a).par (.row c)=none by show (a.par c).map _=_;rw [q];rfl]
         exact aA false [.r (.ok (.tup [.str "item"]) st),.r (.ok (.lst [a.toD]) st),.r (.ok (.lst [c.toD]) st),.r (.ok .non st)] (s1<|>kin (.row a) [a.toD] rfl (n+1) st<|>kin (.row c) [c.toD] rfl (n+1) st<|>i1<|>Z) (by kernel_rfl)
       | some w=>
         rw [q] at i1
         have hw:=bN a c w q
         rw [show (Kd.row a).par (.row c)=some (("item":Str) :: w) by show (a.par c).map _=_;rw [q];rfl]
         exact aA false [.r (.ok (.tup [.str "item"]) st),.r (.ok (.lst [a.toD]) st),.r (.ok (.lst [c.toD]) st),.r (.ok (.tup (sts w)) st),.o 1 (.tup (sts (("item":Str) :: w)))] (s1<|>kin (.row a) [a.toD] rfl (n+1) st<|>kin (.row c) [c.toD] rfl (n+1) st<|>i1<|>eh "item" w (by omega)<|>Z) (by kernel_rfl)
     | _=>kernel_rfl
   | to a1 a2=>cases b with
     | to c1 c2=>
       unfold Kd.dep at h h1
       have i1:=eK a1 c1 (n+2) (by omega) (by omega) st
       have i2:=eK a2 c2 (n+2) (by omega) (by omega) st
       have s1:ag Γ (n+2) ja [(Kd.to a1 a2).toD] st = .ok (.tup [.str "arg",.str "res"]) st:=by kernel_rfl
       have k1:=kin (.to a1 a2) [a1.toD,a2.toD] rfl (n+1) st
       have k2:=kin (.to c1 c2) [c1.toD,c2.toD] rfl (n+1) st
       have e:(Kd.to a1 a2).par (.to c1 c2)=(match a1.par c1 with | some w=>some (("arg":Str) :: w) | none=>(a2.par c2).map (("res":Str) :: ·)):=rfl
       rw [e]
       cases q:a1.par c1 with
       | some w=>
         rw [q] at i1
         have hw:=bN a1 c1 w q
         exact aA false [.r (.ok (.tup [.str "arg",.str "res"]) st),.r (.ok (.lst [a1.toD,a2.toD]) st),.r (.ok (.lst [c1.toD,c2.toD]) st),.r (.ok (.tup (sts w)) st),.o 1 (.tup (sts (("arg":Str) :: w)))] (s1<|>k1<|>k2<|>i1<|>eh "arg" w (by omega)<|>Z) (by kernel_rfl)
       | none=>
         rw [q] at i1
         cases q2:a2.par c2 with
         | some w=>
           rw [q2] at i2
           have hw:=bN a2 c2 w q2
           exact aA false [.r (.ok (.tup [.str "arg",.str "res"]) st),.r (.ok (.lst [a1.toD,a2.toD]) st),.r (.ok (.lst [c1.toD,c2.toD]) st),.r (.ok .non st),.r (.ok (.tup (sts w)) st),.o 1 (.tup (sts (("res":Str) :: w)))] (s1<|>k1<|>k2<|>i1<|>i2<|>eh "res" w (by omega)<|>Z) (by kernel_rfl)
         | none=>
           rw [q2] at i2
           exact aA false [.r (.ok (.tup [.str "arg",.str "res"]) st),.r (.ok (.lst [a1.toD,a2.toD]) st),.r (.ok (.lst [c1.toD,c2.toD]) st),.r (.ok .non st),.r (.ok .non st)] (s1<|>k1<|>k2<|>i1<|>i2<|>Z) (by kernel_rfl)
     | _=>kernel_rfl
   | pair a1 a2=>cases b with
     | pair c1 c2=>
       unfold Kd.dep at h h1
       have i1:=eK a1 c1 (n+2) (by omega) (by omega) st
       have i2:=eK a2 c2 (n+2) (by omega) (by omega) st
       have s1:ag Γ (n+2) ja [(Kd.pair a1 a2).toD] st = .ok (.tup [.str "one",.str "two"]) st:=by kernel_rfl
       have k1:=kin (.pair a1 a2) [a1.toD,a2.toD] rfl (n+1) st
       have k2:=kin (.pair c1 c2) [c1.toD,c2.toD] rfl (n+1) st
       have e:(Kd.pair a1 a2).par (.pair c1 c2)=(match a1.par c1 with | some w=>some (("one":Str) :: w) | none=>(a2.par c2).map (("two":Str) :: ·)):=rfl
       rw [e]
       cases q:a1.par c1 with
       | some w=>
         rw [q] at i1
         have hw:=bN a1 c1 w q
         exact aA false [.r (.ok (.tup [.str "one",.str "two"]) st),.r (.ok (.lst [a1.toD,a2.toD]) st),.r (.ok (.lst [c1.toD,c2.toD]) st),.r (.ok (.tup (sts w)) st),.o 1 (.tup (sts (("one":Str) :: w)))] (s1<|>k1<|>k2<|>i1<|>eh "one" w (by omega)<|>Z) (by kernel_rfl)
       | none=>
         rw [q] at i1
         cases q2:a2.par c2 with
         | some w=>
           rw [q2] at i2
           have hw:=bN a2 c2 w q2
           exact aA false [.r (.ok (.tup [.str "one",.str "two"]) st),.r (.ok (.lst [a1.toD,a2.toD]) st),.r (.ok (.lst [c1.toD,c2.toD]) st),.r (.ok .non st),.r (.ok (.tup (sts w)) st),.o 1 (.tup (sts (("two":Str) :: w)))] (s1<|>k1<|>k2<|>i1<|>i2<|>eh "two" w (by omega)<|>Z) (by kernel_rfl)
         | none=>
           rw [q2] at i2
           exact aA false [.r (.ok (.tup [.str "one",.str "two"]) st),.r (.ok (.lst [a1.toD,a2.toD]) st),.r (.ok (.lst [c1.toD,c2.toD]) st),.r (.ok .non st),.r (.ok .non st)] (s1<|>k1<|>k2<|>i1<|>i2<|>Z) (by kernel_rfl)
     | _=>kernel_rfl
inductive Sp where
 | arg | res | item | one | two
def Sp.str:Sp→Str
 | .arg=>"arg" | .res=>"res" | .item=>"item" | .one=>"one" | .two=>"two"
def Kd.stp:Kd→Sp→Option Kd
 | .unt,_=>some .unt
 | .to a _,.arg=>some a
 | .to _ b,.res=>some b
 | .row a,.item=>some a
 | .pair a _,.one=>some a
 | .pair _ b,.two=>some b
 | _,_=>none
theorem vM (k k':Kd) (x:Sp) (h:k.stp x=some k') (n:Nat) (st:List O):ag Γ (n+4) qC [k.toD,.tup [.str x.str]] st = .ok k'.toD st:=by
 cases k <;> cases x <;> cases h <;> kernel_rfl
abbrev AlG (β:Type):=List (Key×β)
abbrev Al:=AlG Kd
def ai {β:Type} (l:AlG β) (k:Key) (v:β):AlG β:=if (l.any fun p=>decide (p.1=k))=true then l.map (fun p=>if p.1=k then (p.1,v) else p) else l ++ [(k,v)]
def aq {β:Type}:AlG β→Key→Option β
 | [],_=>none
 | p :: r,k=>if p.1=k then some p.2 else aq r k
def ksA {β:Type} (l:AlG β):List Key:=l.map (·.1)
def dsF {β:Type} (f:β→D) (l:AlG β):List D:=l.map fun p=>f p.2
abbrev dsA (l:Al):List D:=dsF Kd.toD l
abbrev dA (l:Al):D:=.dic (ksA l) (dsA l)
abbrev oA (l:Al):O:=.dic (ksA l) (dsA l)
theorem vO {β:Type} (f:β→D) (k:Key) (v:β):∀ l:AlG β,gW (ksA l) (dsF f l) k (f v)=dsF f (l.map fun p=>if p.1=k then (p.1,v) else p)
 | []=>rfl
 | p :: r=>by
   show (if p.1=k then f v else f p.2) :: gW (ksA r) (dsF f r) k (f v)=f (if p.1=k then (p.1,v) else p).2 :: dsF f _
   rw [vO f k v r]
   by_cases h:p.1=k <;> simp [h]
theorem jb {β:Type} (k:Key) (v:β) (l:AlG β):ksA (l.map fun p=>if p.1=k then (p.1,v) else p)=ksA l:=by
 unfold ksA
 rw [List.map_map]
 refine List.map_congr_left fun p _=>?_
 show (if p.1=k then (p.1,v) else p).1=p.1
 by_cases h:p.1=k <;> simp [h]
theorem vN {β:Type} (f:β→D) (l:AlG β) (k:Key) (v:β):bU (ksA l) (dsF f l) k (f v)=(ksA (ai l k v),dsF f (ai l k v)):=by
 unfold bU ai
 have e:((ksA l).any fun q=>decide (q=k))=l.any fun p=>decide (p.1=k):=by unfold ksA;rw [List.any_map];rfl
 rw [e]
 by_cases h:(l.any fun p=>decide (p.1=k))=true
 ·rw [ZZ h,ZZ h,vO,jb]
 ·rw [ZY h,ZY h];simp [ksA,dsF]
theorem vq {β:Type} (f:β→D) (k:Key):∀ l:AlG β,bV (ksA l) (dsF f l) k=(aq l k).map f
 | []=>rfl
 | p :: r=>by
   show (if p.1=k then some (f p.2) else bV (ksA r) (dsF f r) k)=(if p.1=k then some p.2 else aq r k).map f
   rw [vq f k r]
   by_cases h:p.1=k <;> simp [h]
theorem ij (k:Key) (l:Al):bV (ksA l) (dsA l) k=(aq l k).map Kd.toD:=vq _ k l
theorem bx {β:Type} (l:AlG β) (k:Key) (v:β):(ai l k v).length≤l.length+1:=by
 unfold ai
 split
 ·rw [List.length_map];omega
 ·simp
theorem yi {β:Type} (f:β→D) (l:AlG β) (d:D) (k:Key) (hk:bo d=some k) (v:β) (h:l.length<100000):jq (.dic (ksA l) (dsF f l)) d (f v)=some (.dic (ksA (ai l k v)) (dsF f (ai l k v))):=by
 show (bo d).bind (fun k=>if (ksA l).length<100000 then some (D.dic (bU (ksA l) (dsF f l) k (f v)).1 (bU (ksA l) (dsF f l) k (f v)).2) else none)=_
 rw [hk]
 show (if (ksA l).length<100000 then some (D.dic (bU (ksA l) (dsF f l) k (f v)).1 (bU (ksA l) (dsF f l) k (f v)).2) else none)=_
 rw [ZZ (by unfold ksA;rw [List.length_map];exact h),vN]
theorem gu (l:Al) (x:Str) (v:Kd) (h:l.length<100000):jq (dA l) (.str x) v.toD=some (dA (ai l (.inr x) v)):=yi Kd.toD l (.str x) _ rfl v h
theorem rL (l:Al) (p:Int) (v:Kd) (h:l.length<100000):d5 (oA l) (.int p) v.toD=some (oA (ai l (.inl p) v)):=by
 show (if (ksA l).length<100000 then some (O.dic (bU (ksA l) (dsA l) (.inl p) v.toD).1 (bU (ksA l) (dsA l) (.inl p) v.toD).2) else none)=_
 rw [ZZ (by unfold ksA;rw [List.length_map];exact h),vN Kd.toD]
inductive Er where
 | name (p:Int) | deep (p:Int) | parted (p:Int) (k:Kd) (b:Int) (w:Kd) (way:List Str)
def Er.cls:Er→Nat
 | .name _=>2 | .deep _=>3 | .parted ..=>4
def Er.ds:Er→List D
 | .name p=>[.int p]
 | .deep p=>[.int p]
 | .parted p k b w way=>[.int p,k.toD,.int b,w.toD,.tup (sts way)]
theorem BH {p:Int} (h:Sm p):eY Γ 3 [.int p]=true:=by
 show (true && ((decide (0≤p) && decide (p<100000)) && true) && true && true)=true
 simp [h.1,h.2]
theorem BG {p b:Int} (h:Sm p) (h2:Sm b) (k w y:D):eY Γ 4 [.int p,k,.int b,w,y]=true:=by
 show (true && ((decide (0≤p) && decide (p<100000)) && ((decide (0≤b) && decide (b<100000)) && true)) && true && true)=true
 simp [h.1,h.2,h2.1,h2.2]
theorem nsh (t:T68) (k:Kd) (h:Sm t.pl) (N:Nat) (hN:k.dep+2≤N) (st:List O):ag Γ N fV [t.toD,k.toD] st=if 4<k.dep then .exc 3 [.int t.pl] st else .ok .non st:=by
 obtain ⟨n,rfl⟩:∃ n,N=n+1:=⟨N - 1,by omega⟩
 have d:=depth k n (by omega) st
 by_cases c:4<k.dep
 ·have e:decide (((k.dep:Nat):Int)>4)=true:=ZW (by omega)
  rw [ZZ c]
  exact aA false [.r (.ok (.int (k.dep:Nat)) st),.t 1 true,.o 0 (.int t.pl),.t 0 true] (d<|>e<|>aJ t st<|>BH h<|>Z) (by kernel_rfl)
 ·have e:decide (((k.dep:Nat):Int)>4)=false:=ZV (by omega)
  rw [ZY c]
  exact aA false [.r (.ok (.int (k.dep:Nat)) st),.t 1 false] (d<|>e<|>Z) (by kernel_rfl)
def nsR (x t:T68) (k w:Kd) (st:List O):Res:=match k.par w with
 | some y=>.exc 4 [.int x.pl,k.toD,.int t.pl,w.toD,.tup (sts y)] st
 | none=>.ok .non st
theorem nsm (x t:T68) (k w:Kd) (hx:Sm x.pl) (ht:Sm t.pl) (N:Nat) (hN:k.dep+3≤N) (hk:k.dep≤1000) (st:List O):ag Γ N j7 [x.toD,k.toD,t.toD,w.toD] st=nsR x t k w st:=by
 obtain ⟨n,rfl⟩:∃ n,N=n+1:=⟨N - 1,by omega⟩
 have d:=eK k w n (by omega) hk st
 unfold nsR
 cases q:k.par w with
 | none=>
   rw [q] at d
   exact aA false [.r (.ok .non st)] (d<|>Z) (by kernel_rfl)
 | some y=>
   rw [q] at d
   exact aA false [.r (.ok (.tup (sts y)) st),.o 1 (.int x.pl),.o 0 (.int t.pl),.t 0 true] (d<|>aJ x st<|>aJ t st<|>BG hx ht k.toD w.toD (.tup (sts y))<|>Z) (by kernel_rfl)
abbrev dsK (fs:List Kd):List D:=fs.map Kd.toD
def inN (t:T68) (i:Nat) (fs:List Kd) (N:Al):Al:=match t,i with
 | .fn _ x k _,_=>ai N (.inr x) k
 | .slf _ f x k g _,_=>ai (ai N (.inr f) (.to k g)) (.inr x) k
 | .lt _ x _ _,1=>ai N (.inr x) (fs.headD .unt)
 | _,_=>N
theorem bw (t:T68) (i:Nat) (y:T68) (hi:(ah t)[i]? = some y) (fs:List Kd) (hf:fs.length=i) (N:Al) (hN:N.length+1<100000) (n:Nat) (st:List O):ag Γ (n+1) fT [t.toD,.int i,.lst (dsK fs),dA N] st = .ok (dA (inN t i fs N)) st:=by
 cases t with
 | fn p x k b=>exact aA false [.o 6 (dA (ai N (.inr x) k))] (gu N x k (by omega)<|>Z) (by kernel_rfl)
 | slf p f x k g b=>
   have:=bx N (.inr f) (.to k g)
   exact aA false [.o 10 (dA (ai N (.inr f) (.to k g))),.o 2 (dA (ai (ai N (.inr f) (.to k g)) (.inr x) k))] (gu N f (.to k g) (by omega)<|>gu (ai N (.inr f) (.to k g)) x k (by omega)<|>Z) (by kernel_rfl)
 | lt p x a b=>
   match i,hi,fs,hf with
   | 0,_,[],_=>kernel_rfl
   | 1,_,[c],_=>exact aA false [.o 14 (dA (ai N (.inr x) c))] (gu N x c (by omega)<|>Z) (by kernel_rfl)
   | i+2,hi,_,_=>cases hi
 | _=>kernel_rfl
def az:T68→List Kd→Kd
 | .bin ..,_=>.whole
 | .att ..,[_,_]=>.whole
 | .iff ..,[_]=>.truth
 | .row _ k _,_=>k
 | .as_ _ k _,_=>k
 | .slf _ _ _ _ g _,_=>g
 | .call ..,[a,_]=>(a.stp .arg).getD .unt
 | .call ..,[a]=>(match a with | .to _ _=>a | _=>.to .unt .unt)
 | .att ..,[a]=>(match a with | .row _=>a | _=>.row .unt)
 | .size ..,[a]=>(match a with | .row _=>a | _=>.row .unt)
 | .one ..,[a]=>(match a with | .pair _ _=>a | _=>.pair .unt .unt)
 | .two ..,[a]=>(match a with | .pair _ _=>a | _=>.pair .unt .unt)
 | _,fs=>fs.getLastD .unt
def bT:T68→List Kd→Bool
 | .iff ..,[_,_,_]=>true
 | _,_=>false
def Cl2:T68→List Kd→Prop
 | .call ..,[a,_]=>(a.stp .arg).isSome=true
 | _,_=>True
theorem wk (t:T68) (i:Nat) (y:T68) (hi:(ah t)[i]? = some y) (fs:List Kd) (hf:fs.length=i+1) (h3:bT t fs=false) (hc:Cl2 t fs) (n:Nat) (st:List O):ag Γ (n+5) gU [t.toD,.lst (dsK fs)] st = .ok (az t fs).toD st:=by
 cases t with
 | row p k ts=>kernel_rfl
 | bin p o a b=>kernel_rfl
 | as_ p k a=>kernel_rfl
 | slf p f x k g b=>kernel_rfl
 | call p a b=>
   match i,hi,fs,hf,hc with
   | 0,_,[c],_,_=>cases c <;> kernel_rfl
   | 1,_,[c,d],_,hc=>
     cases q:c.stp .arg with
     | none=>have hc:(c.stp .arg).isSome=true:=hc;rw [q] at hc;cases hc
     | some e=>
       rw [show az (.call p a b) [c,d]=e by show (c.stp .arg).getD .unt=e;rw [q];rfl]
       exact aA false [.r (.ok e.toD st)] (vM c e .arg q n st<|>Z) (by kernel_rfl)
   | i+2,hi,_,_,_=>cases hi
 | att p a b=>
   match i,hi,fs,hf with
   | 0,_,[c],_=>cases c <;> kernel_rfl
   | 1,_,[c,d],_=>kernel_rfl
   | i+2,hi,_,_=>cases hi
 | iff p c a b=>
   match i,hi,fs,hf,h3 with
   | 0,_,[c],_,_=>kernel_rfl
   | 1,_,[c,d],_,_=>kernel_rfl
   | 2,_,[c,d,e],_,h3=>cases h3
   | i+3,hi,_,_,_=>cases hi
 | fn p x k b=>
   match i,hi,fs,hf with
   | 0,_,[c],_=>kernel_rfl
   | i+1,hi,_,_=>cases hi
 | lt p x a b=>
   match i,hi,fs,hf with
   | 0,_,[c],_=>kernel_rfl
   | 1,_,[c,d],_=>kernel_rfl
   | i+2,hi,_,_=>cases hi
 | pair p a b=>
   match i,hi,fs,hf with
   | 0,_,[c],_=>kernel_rfl
   | 1,_,[c,d],_=>kernel_rfl
   | i+2,hi,_,_=>cases hi
 | size p a=>
   match i,hi,fs,hf with
   | 0,_,[c],_=>cases c <;> kernel_rfl
   | i+1,hi,_,_=>cases hi
 | one p a=>
   match i,hi,fs,hf with
   | 0,_,[c],_=>cases c <;> kernel_rfl
   | i+1,hi,_,_=>cases hi
 | two p a=>
   match i,hi,fs,hf with
   | 0,_,[c],_=>cases c <;> kernel_rfl
   | i+1,hi,_,_=>cases hi
 | lk p k l a=>
   match i,hi,fs,hf with
   | 0,_,[c],_=>kernel_rfl
   | i+1,hi,_,_=>cases hi
 | _=>cases hi
def aV:T68→List Kd→Al→Kd
 | .whole ..,_,_=>.whole
 | .given ..,_,_=>.whole
 | .size ..,_,_=>.whole
 | .truth ..,_,_=>.truth
 | .call ..,a :: _,_=>(a.stp .res).getD .unt
 | .att ..,a :: _,_=>(a.stp .item).getD .unt
 | .one ..,a :: _,_=>(a.stp .one).getD .unt
 | .two ..,a :: _,_=>(a.stp .two).getD .unt
 | .name _ x,_,N=>(aq N (.inr x)).getD .unt
 | .fn _ _ k _,b :: _,_=>.to k b
 | .slf _ _ _ k g _,_,_=>.to k g
 | .lt ..,[_,b],_=>b
 | .iff ..,[_,a,b],_=>a.join b
 | .bin _ o _ _,_,_=>(match o with | .lt=>.truth | .eq=>.truth | _=>.whole)
 | .row _ k _,_,_=>.row k
 | .pair ..,[a,b],_=>.pair a b
 | .as_ _ k _,_,_=>k
 | .lk _ k _ _,_,_=>k
 | _,_,_=>.unt
def Hld:T68→List Kd→Al→Prop
 | .call ..,a :: _,_=>(a.stp .res).isSome=true
 | .att ..,a :: _,_=>(a.stp .item).isSome=true
 | .one ..,a :: _,_=>(a.stp .one).isSome=true
 | .two ..,a :: _,_=>(a.stp .two).isSome=true
 | .name _ x,_,N=>(aq N (.inr x)).isSome=true
 | _,_,_=>True
theorem yb (t:T68) (fs:List Kd) (hf:fs.length=(ah t).length) (N:Al) (hh:Hld t fs N) (m:Nat) (hm:∀ k∈fs,k.dep≤m) (n:Nat) (hn:m+6≤n) (st:List O):ag Γ n kZ [t.toD,.lst (dsK fs),dA N] st = .ok (aV t fs N).toD st:=by
 obtain ⟨n,rfl⟩:∃ k,n=k+5:=⟨n - 5,by omega⟩
 have pt:∀ {c:Kd} {x:Sp},(c.stp x).isSome=true→ag Γ (n+4) qC [c.toD,.tup [.str x.str]] st = .ok ((c.stp x).getD .unt).toD st:=fun {c x} h=>by
  cases q:c.stp x with
  | none=>rw [q] at h;cases h
  | some e=>exact vM c e x q n st
 cases t with
 | call p a b=>
   match fs,hf,hh with
   | [c,d],_,hh=>exact aA false [.r (.ok ((c.stp .res).getD .unt).toD st)] (pt hh<|>Z) (by kernel_rfl)
 | att p a b=>
   match fs,hf,hh with
   | [c,d],_,hh=>exact aA false [.r (.ok ((c.stp .item).getD .unt).toD st)] (pt hh<|>Z) (by kernel_rfl)
 | one p a=>
   match fs,hf,hh with
   | [c],_,hh=>exact aA false [.r (.ok ((c.stp .one).getD .unt).toD st)] (pt hh<|>Z) (by kernel_rfl)
 | two p a=>
   match fs,hf,hh with
   | [c],_,hh=>exact aA false [.r (.ok ((c.stp .two).getD .unt).toD st)] (pt hh<|>Z) (by kernel_rfl)
 | name p x=>
   have hh:(aq N (.inr x)).isSome=true:=hh
   cases q:aq N (.inr x) with
   | none=>rw [q] at hh;cases hh
   | some e=>
     have g:ixD (dA N) (.str x)=some e.toD:=by show bV (ksA N) (dsA N) (.inr x)=_;rw [ij,q];rfl
     rw [show aV (.name p x) fs N=e by show (aq N (.inr x)).getD .unt=e;rw [q];rfl]
     exact aA false [.o 6 e.toD] (g<|>Z) (by kernel_rfl)
 | fn p x k b=>
   match fs,hf with
   | [c],_=>kernel_rfl
 | lt p x a b=>
   match fs,hf with
   | [c,d],_=>kernel_rfl
 | iff p c a b=>
   match fs,hf,hm with
   | [c,d,e],_,hm=>
     have:=hm d (by simp)
     exact aA false [.r (.ok (d.join e).toD st)] (cv d e (n+4) (by omega) st<|>Z) (by kernel_rfl)
 | pair p a b=>
   match fs,hf with
   | [c,d],_=>kernel_rfl
 | bin p o a b=>cases o <;> kernel_rfl
 | _=>kernel_rfl
abbrev ls (kd wd:Al):List O:=[.ins 5 [.ref 1,.ref 2],oA kd,oA wd]
theorem fA (t:T68) (k:Kd) (kd wd:Al) (h:wd.length<100000) (n:Nat):ag Γ (n+1) gO [.ref 0,t.toD,k.toD] (ls kd wd) = .ok .non (ls kd (ai wd (.inl t.pl) k)):=by
 have e:exS Γ (ag Γ n) (aK Γ n) gK.body ⟨[some (.ref 0),some t.toD,some k.toD],[],ls kd wd⟩ = .nx ⟨[some (.ref 0),some t.toD,some k.toD],[],ls kd (ai wd (.inl t.pl) k)⟩:=by
  have e1:ev Γ (ag Γ n) (aK Γ n) true (.ix (.v 1) (.c (.int 1))) ⟨[some (.ref 0),some t.toD,some k.toD],[],ls kd wd⟩ = .ok (.int t.pl) ⟨[some (.ref 0),some t.toD,some k.toD],[],ls kd wd⟩:=(gI false (aX 0 (aJ t (ls kd wd)) aZ) (by kernel_rfl))
  exact mS (o:=oA wd) (n:=2) rfl rfl e1 rfl (rL wd t.pl k h)
 exact (ac false (aX 0 (e) aZ) (by kernel_rfl))
def bR (t y:T68) (fs:List Kd) (wd:Al):Except Er Al:=match t,fs with
 | .iff _ _ a b,[_,f,g]=>(match g.par f with
   | some w=>.error (.parted b.pl g a.pl f w)
   | none=>.ok (ai (ai wd (.inl a.pl) (f.join g)) (.inl b.pl) (f.join g)))
 | _,_=>(match (fs.getLastD .unt).par (az t fs) with
   | some w=>.error (.parted y.pl (fs.getLastD .unt) t.pl (az t fs) w)
   | none=>.ok (ai wd (.inl y.pl) (az t fs)))
def vt (kd wd:Al):Except Er Al→Res
 | .ok w=>.ok .non (ls kd w)
 | .error e=>.exc e.cls e.ds (ls kd wd)
theorem bZ:bR (.iff p c a b) y [f0,f,g] wd=(match g.par f with | some w=>.error (.parted b.pl g a.pl f w) | none=>.ok (ai (ai wd (.inl a.pl) (f.join g)) (.inl b.pl) (f.join g))):=rfl
theorem my {α:Type} (l:List α) (x:α):atI (l ++ [x]) (-1)=some x:=by
 show (ixN (l ++ [x]).length (-1)).bind _=_
 have e:ixN (l ++ [x]).length (-1)=some l.length:=by
  unfold ixN
  rw [List.length_append,List.length_singleton]
  rw [ZY (by decide),ZZ (by omega)]
  congr 1;omega
 rw [e]
 show (l ++ [x])[l.length]? = some x
 simp
theorem zL (fs:List Kd) (i:Nat) (h:fs.length=i+1):ixD (.lst (dsK fs)) (.int (-1))=some (fs.getLastD .unt).toD:=by
 obtain ⟨l,x,rfl⟩:∃ l x,fs=l ++ [x]:=⟨_,_,(List.dropLast_concat_getLast (List.ne_nil_of_length_eq_add_one h)).symm⟩
 have e:(l ++ [x]).getLastD .unt=x:=by simp
 rw [e]
 show atI (dsK (l ++ [x])) (-1)=_
 unfold dsK
 rw [List.map_append]
 exact my _ _
theorem j8 (fs:List Kd) (i:Nat) (h:fs.length=i+1):fs.getLastD .unt∈fs:=by
 match fs,h with
 | k :: r,_=>rw [List.getLastD_cons,← List.getLast_eq_getLastD (List.cons_ne_nil k r)];exact List.getLast_mem _
theorem cq {t y:T68} {fs:List Kd} {wd:Al} (h3:bT t fs=false):bR t y fs wd=(match (fs.getLastD .unt).par (az t fs) with | some w=>.error (.parted y.pl (fs.getLastD .unt) t.pl (az t fs) w) | none=>.ok (ai wd (.inl y.pl) (az t fs))):=by
 unfold bR
 split
 ·cases h3
 ·rfl
theorem cR {t:T68} {fs:List Kd} (h:bT t fs=true):∃ p c a b f0 f g,t = .iff p c a b∧fs = [f0,f,g]:=by
 cases t with
 | iff p c a b=>match fs,h with | [f0,f,g],_=>exact ⟨p,c,a,b,f0,f,g,rfl,rfl⟩
 | _=>cases h
theorem qy {p:Int} {c a b y:T68} {fs:List Kd} {i:Nat} (hf:fs.length=i+1) (h3:bT (.iff p c a b) fs=false) (hy:(ah (.iff p c a b))[i]? = some y):(∃ f0,fs = [f0])∨∃ f0 f1,fs = [f0,f1]:=by
 have l3:i<3:=(List.getElem?_eq_some_iff.mp hy).1
 match fs with
 | []=>cases hf
 | [f0]=>exact .inl ⟨f0,rfl⟩
 | [f0,f1]=>exact .inr ⟨f0,f1,rfl⟩
 | [f0,f1,f2]=>cases h3
 | f0 :: f1 :: f2 :: f3 :: r=>simp only [List.length_cons] at hf;omega
theorem ti (t y:T68) (i:Nat) (hy:(ah t)[i]? = some y) (fs:List Kd) (hf:fs.length=i+1) (hc:Cl2 t fs) (sy:Sm y.pl) (st:Sm t.pl) (sk:∀ z∈ah t,Sm z.pl) (hd:∀ k∈fs,k.dep≤4) (kd wd:Al) (hw:wd.length+1<100000) (n:Nat):ag Γ (n+9) gM [.ref 0,t.toD,y.toD,.lst (dsK fs)] (ls kd wd)=vt kd wd (bR t y fs wd):=by
 by_cases h3:bT t fs=true
 ·obtain ⟨p,c,a,b,f0,f1,f2,rfl,rfl⟩:=cR h3
  have d1:=hd f1 (by simp)
  have d2:=hd f2 (by simp)
  have sa:=sk a (show a∈[c,a,b] by simp)
  have sb:=sk b (show b∈[c,a,b] by simp)
  have ns:=nsm b a f2 f1 sb sa (n+7) (by omega) (by omega) (ls kd wd)
  have j1:=cv f1 f2 (n+7) (by omega) (ls kd wd)
  have j2:=cv f1 f2 (n+7) (by omega) (ls kd (ai wd (.inl a.pl) (f1.join f2)))
  have pl:=bx wd (.inl a.pl) (f1.join f2)
  have w1:=fA a (f1.join f2) kd wd (by omega) (n+6)
  have w2:=fA b (f1.join f2) kd (ai wd (.inl a.pl) (f1.join f2)) (by omega) (n+6)
  unfold nsR at ns
  have hch:ag Γ (n+8) cS [.ref 0,(T68.iff p c a b).toD,.lst (dsK [f0,f1,f2])] (ls kd wd)=vt kd wd (bR (.iff p c a b) y [f0,f1,f2] wd):=by
   rw [bZ]
   cases q:f2.par f1 with
   | some w=>rw [q] at ns;exact (ac false (aX 0 (ns) aZ) (by kernel_rfl))
   | none=>rw [q] at ns;exact (ac false (aX 0 (ns) (aX 0 (j1) (aX 0 (w1) (aX 0 (j2) (aX 0 (w2) aZ))))) (by kernel_rfl))
  rw [bZ] at hch ⊢
  cases q:f2.par f1 with
  | some w=>rw [q] at hch;exact (ac false (aX 0 (hch) aZ) (by kernel_rfl))
  | none=>rw [q] at hch;exact (ac false (aX 0 (hch) aZ) (by kernel_rfl))
 ·have h3:bT t fs=false:=by simpa using h3
  rw [cq h3]
  have kk:=wk t i y hy fs hf h3 hc (n+3) (ls kd wd)
  have ld:(fs.getLastD .unt).dep≤4:=hd _ (j8 fs i hf)
  have ns:=nsm y t (fs.getLastD .unt) (az t fs) sy st (n+8) (by omega) (by omega) (ls kd wd)
  have w1:=fA y (az t fs) kd wd (by omega) (n+7)
  have la:=zL fs i hf
  unfold nsR at ns
  cases q:(fs.getLastD .unt).par (az t fs) with
  | some w=>
    rw [q] at ns
    cases t with
    | iff p c a b=>
      rcases qy hf h3 hy with ⟨f0,rfl⟩ | ⟨f0,f1,rfl⟩
      ·exact (ac false (aX 0 (kk) (aX 0 (la) (aX 0 (ns) aZ))) (by kernel_rfl))
      ·exact (ac false (aX 0 (kk) (aX 0 (la) (aX 0 (ns) aZ))) (by kernel_rfl))
    | _=>exact (ac false (aX 0 (kk) (aX 0 (la) (aX 0 (ns) aZ))) (by kernel_rfl))
  | none=>
    rw [q] at ns
    cases t with
    | iff p c a b=>
      rcases qy hf h3 hy with ⟨f0,rfl⟩ | ⟨f0,f1,rfl⟩
      ·exact (ac false (aX 0 (kk) (aX 0 (la) (aX 0 (ns) (aX 0 (w1) aZ)))) (by kernel_rfl))
      ·exact (ac false (aX 0 (kk) (aX 0 (la) (aX 0 (ns) (aX 0 (w1) aZ)))) (by kernel_rfl))
    | _=>exact (ac false (aX 0 (kk) (aX 0 (la) (aX 0 (ns) (aX 0 (w1) aZ)))) (by kernel_rfl))
abbrev LR:=Except Er (Kd×Al×Al)
def aR (f:T68→Al→Al→Al→LR) (t:T68) (N:Al):List T68→List Kd→Al→Al→Except Er (List Kd×Al×Al)
 | [],fs,kd,wd=>.ok (fs,kd,wd)
 | y :: r,fs,kd,wd=>match f y (inN t fs.length fs N) kd wd with
   | .error e=>.error e
   | .ok (k,kd1,wd1)=>match bR t y (fs ++ [k]) wd1 with
     | .error e=>.error e
     | .ok wd2=>aR f t N r (fs ++ [k]) kd1 wd2
def lkM:Nat→T68→Al→Al→Al→LR
 | 0,t,_,_,_=>.error (.deep t.pl)
 | n+1,t,N,kd,wd=>if (wks t).any (fun k=>decide (4<k.dep))=true then .error (.deep t.pl) else
   match aR (lkM n) t N (ah t) [] kd wd with
   | .error e=>.error e
   | .ok (fs,kd1,wd1)=>if 4<(aV t fs N).dep then .error (.deep t.pl) else .ok (aV t fs N,ai kd1 (.inl t.pl) (aV t fs N),wd1)
def nb:Nat→Nat
 | 0=>0
 | n+1=>1+4 * nb n
structure NK (N:Al) (bs:List Str) (r:Nat):Prop where
 has:∀ x∈bs,(aq N (.inr x)).isSome=true
 dp:∀ p∈N,p.2.dep≤5
 few:N.length+2 * r≤1000
theorem cJ {β:Type} (l:AlG β) (k:Key) (v:β) (x:Key):aq (ai l k v) x=if k=x then some v else aq l x:=by
 have rep:∀ l:AlG β,(l.any fun p=>decide (p.1=k))=true→aq (l.map (fun p=>if p.1=k then (p.1,v) else p)) x=if k=x then some v else aq l x:=by
  intro l
  induction l with
  | nil=>intro h;cases h
  | cons p r ih=>
    intro h
    show (if (if p.1=k then (p.1,v) else p).1=x then some (if p.1=k then (p.1,v) else p).2 else aq (r.map _) x)=if k=x then some v else if p.1=x then some p.2 else aq r x
    by_cases hk:p.1=k
    ·simp only [hk,if_true]
     by_cases hx:k=x
     ·simp [hx]
     ·simp only [hx,if_false]
      by_cases hr:(r.any fun p=>decide (p.1=k))=true
      ·rw [ih hr,ZY hx]
      ·have:∀ q∈r,q.1≠k:=fun q hq e=>hr (List.any_eq_true.mpr ⟨q,hq,by simpa using e⟩)
       have e:r.map (fun p=>if p.1=k then (p.1,v) else p)=r:=by
        conv=>rhs;rw [← List.map_id r]
        refine List.map_congr_left fun q hq=>?_
        rw [ZY (this q hq)];rfl
       rw [e]
    ·simp only [hk,if_false]
     have hr:(r.any fun p=>decide (p.1=k))=true:=by simpa [hk] using h
     rw [ih hr]
     by_cases hx:k=x
     ·subst hx;simp [hk]
     ·simp [hx]
 have app:∀ l:AlG β,(l.any fun p=>decide (p.1=k))=false→aq (l ++ [(k,v)]) x=if k=x then some v else aq l x:=by
  intro l
  induction l with
  | nil=>intro h;show (if k=x then some v else none)=_;rfl
  | cons p r ih=>
    intro h
    have h2:p.1≠k∧(r.any fun p=>decide (p.1=k))=false:=by simpa using h
    show (if p.1=x then some p.2 else aq (r ++ [(k,v)]) x)=if k=x then some v else if p.1=x then some p.2 else aq r x
    rw [ih h2.2]
    by_cases hx:k=x
    ·subst hx;simp [h2.1]
    ·simp [hx]
 unfold ai
 by_cases h:(l.any fun p=>decide (p.1=k))=true
 ·rw [ZZ h];exact rep l h
 ·rw [ZY h];exact app l (Bool.eq_false_iff.mpr h)
theorem bO {P:Kd→Prop} {l:Al} {k:Key} {v:Kd} (h:∀ p∈l,P p.2) (hv:P v):∀ p∈ai l k v,P p.2:=by
 unfold ai
 split
 ·intro p hp
  obtain ⟨q,hq,rfl⟩:=List.mem_map.mp hp
  by_cases c:q.1=k
  ·rw [ZZ c];exact hv
  ·rw [ZY c];exact h q hq
 ·intro p hp
  rcases List.mem_append.mp hp with hp | hp
  ·exact h p hp
  ·rw [List.mem_singleton.mp hp];exact hv
def wb:Nat→Nat
 | 0=>0
 | n+1=>4 * wb n+4
theorem sY {N:Al} {bs:List Str} (h:∀ x∈bs,(aq N (.inr x)).isSome=true) (x:Str) (k:Kd):∀ y∈bs ++ [x],(aq (ai N (.inr x) k) (.inr y)).isSome=true:=by
 intro y hy
 rw [cJ]
 by_cases e:x=y
 ·subst e;rw [ZZ rfl];rfl
 ·rw [ZY (fun h=>e (Sum.inr.inj h))]
  rcases List.mem_append.mp hy with hy | hy
  ·exact h y hy
  ·exact ZX (List.mem_singleton.mp hy).symm e
theorem NK.inN {N:Al} {bs:List Str} {r:Nat} (h:NK N bs (r+1)) {t:T68} (hw:∀ k∈wks t,k.dep≤4) {fs:List Kd} (hf:∀ k∈fs,k.dep≤4) (i:Nat):NK (inN t i fs N) (bs ++ bnd t i) r:=by
 obtain ⟨h1,h2,h3⟩:=h
 have same:NK N (bs ++ []) r:=⟨by rw [List.append_nil];exact h1,h2,by omega⟩
 cases t with
 | fn p x k b=>
   have l:=bx N (.inr x) k
   exact ⟨sY h1 x k,bO (P:=fun k=>k.dep≤5) h2 (by have:=hw k (.head _);omega),by show (ai N (.inr x) k).length+2 * r≤1000;omega⟩
 | slf p f x k g b=>
   have l:=bx N (.inr f) (.to k g)
   have l2:=bx (ai N (.inr f) (.to k g)) (.inr x) k
   have k1:=hw k (.head _)
   have g1:=hw g (.tail _ (.head _))
   have q:=sY (sY h1 f (.to k g)) x k
   rw [List.append_assoc] at q
   exact ⟨q,bO (P:=fun k=>k.dep≤5) (bO (P:=fun k=>k.dep≤5) h2 (by show 1+max k.dep g.dep≤5;omega)) (by omega),by show (ai (ai N (.inr f) (.to k g)) (.inr x) k).length+2 * r≤1000;omega⟩
 | lt p x a b=>
   match i with
   | 0=>exact same
   | 1=>
     have l:=bx N (.inr x) (fs.headD .unt)
     refine ⟨sY h1 x _,bO (P:=fun k=>k.dep≤5) h2 ?_,by show (ai N (.inr x) (fs.headD .unt)).length+2 * r≤1000;omega⟩
     cases fs with
     | nil=>decide
     | cons a r=>have:=hf a (by simp);show a.dep≤5;omega
   | i+2=>exact same
 | _=>exact same
def H1 (t:T68) (fs:List Kd):Prop:=∀ a r,fs=a :: r→a.par (az t [a])=none
theorem qh {p:Int} {x y:T68} {a:Kd} (h:a.par (az (.call p x y) [a])=none):(a.stp .arg).isSome=true∧(a.stp .res).isSome=true:=by cases a <;> first | exact ⟨rfl,rfl⟩ | cases h
theorem cl2 {t:T68} {fs:List Kd} (h:H1 t fs) (k:Kd):Cl2 t (fs ++ [k]):=by
 cases t with
 | call p x y=>
   match fs,h with
   | [],h=>exact trivial
   | [a],h=>exact (qh (h a [] rfl)).1
   | a :: b :: [],h=>exact trivial
   | a :: b :: c :: r,h=>exact trivial
 | _=>exact trivial
theorem hld {t:T68} {fs:List Kd} (h:H1 t fs) (N:Al) (hn:∀ p x,t = .name p x→(aq N (.inr x)).isSome=true):Hld t fs N:=by
 cases t with
 | call p x y=>
   cases fs with
   | nil=>exact trivial
   | cons a r=>exact (qh (h a r rfl)).2
 | att p x y=>
   cases fs with
   | nil=>exact trivial
   | cons a r=>have h:=h a r rfl;cases a <;> first | rfl | cases h
 | one p x=>
   cases fs with
   | nil=>exact trivial
   | cons a r=>have h:=h a r rfl;cases a <;> first | rfl | cases h
 | two p x=>
   cases fs with
   | nil=>exact trivial
   | cons a r=>have h:=h a r rfl;cases a <;> first | rfl | cases h
 | name p x=>exact hn p x rfl
 | _=>exact trivial
def LkR (n:Nat) (kd wd:Al) (c:Res):LR→Prop
 | .ok (k,kd',wd')=>k.dep≤4∧kd'.length≤kd.length+nb n∧wd'.length≤wd.length+wb n∧c = .ok k.toD (ls kd' wd')
 | .error e=>∃ kd' wd',c = .exc e.cls e.ds (ls kd' wd')
theorem eX:∀ k:Kd,noL k.toD=true
 | .whole=>rfl
 | .truth=>rfl
 | .unt=>rfl
 | .row a=>by show (true && (noL a.toD && true))=true;rw [eX a];rfl
 | .to a b=>by show (true && (noL a.toD && (noL b.toD && true)))=true;rw [eX a,eX b];rfl
 | .pair a b=>by show (true && (noL a.toD && (noL b.toD && true)))=true;rw [eX a,eX b];rfl
theorem gc:∀ l:Al,eH (dsA l)=true
 | []=>rfl
 | p :: r=>by show (noL p.2.toD && eH (dsA r))=true;rw [eX,gc r];rfl
theorem lD (d:D) (h:noL d=true) (kd wd:Al):(noL d && (ls kd wd).all gV)=true:=by
 rw [h]
 show (true && (true && (eH (dsA kd) && (eH (dsA wd) && true))))=true
 rw [gc,gc];rfl
abbrev wB:S:=dq dh.body
abbrev kB:S:=dq (tlS 1 dh.body)
theorem ng (t:T68) (N:Al) (hs:Sm t.pl) (m:Nat) (S:List O):∀ (ks:List Kd) (e:Option D),(∀ k∈ks,k.dep+2≤m)→∃ e':Option D,bc (fb Γ (ag Γ m) (aK Γ m) [3] true wB) (ks.map Kd.toD) ⟨[some (.ref 0),some t.toD,some (dA N),e,none,none,none,none],[],S⟩=if ks.any (fun k=>decide (4<k.dep))=true then .exc 3 [.int t.pl] ⟨[some (.ref 0),some t.toD,some (dA N),e',none,none,none,none],[],S⟩ else .nx ⟨[some (.ref 0),some t.toD,some (dA N),e',none,none,none,none],[],S⟩
 | [],e,_=>⟨e,rfl⟩
 | k :: r,e,h=>by
   have n1:=nsh t k hs m (h k (by simp)) S
   by_cases c:4<k.dep
   ·rw [ZZ c] at n1
    refine ⟨some k.toD,?_⟩
    rw [ZZ (by simp [c])]
    refine fO (aW rfl ?_) (fun s h=>by cases h)
    exact (b7 false (aX 0 (n1) aZ) (by kernel_rfl))
   ·rw [ZY c] at n1
    obtain ⟨e',h2⟩:=ng t N hs m S r (some k.toD) (fun k hk=>h k (by simp [hk]))
    refine ⟨e',?_⟩
    rw [show ((k :: r).any fun k=>decide (4<k.dep))=(r.any fun k=>decide (4<k.dep)) by simp [c]]
    refine a9 (s1:=⟨[some (.ref 0),some t.toD,some (dA N),some k.toD,none,none,none,none],[],S⟩) (aW rfl ?_) h2
    exact (b7 false (aX 0 (n1) aZ) (by kernel_rfl))
def xt:T68→Nat
 | .iff ..=>2
 | _=>1
theorem vT (t:T68):1≤xt t∧xt t≤2:=by cases t <;> exact ⟨Nat.le_of_ble_eq_true rfl,Nat.le_of_ble_eq_true rfl⟩
theorem qv {t y:T68} {fs:List Kd} {wd wd':Al} (h:bR t y fs wd = .ok wd'):wd'.length≤wd.length+xt t:=by
 by_cases h3:bT t fs=true
 ·obtain ⟨p,c,a,b,f0,f,g,rfl,rfl⟩:=cR h3
  ·skip
   rw [bZ] at h
   cases q:g.par f with
   | some w=>rw [q] at h;cases h
   | none=>
     rw [q] at h;cases h
     have:=bx (ai wd (.inl a.pl) (f.join g)) (.inl b.pl) (f.join g)
     have:=bx wd (.inl a.pl) (f.join g)
     show _≤wd.length+2;omega
 ·rw [cq (by simpa using h3)] at h
  cases q:(fs.getLastD .unt).par (az t fs) with
  | some w=>rw [q] at h;cases h
  | none=>
    rw [q] at h;cases h
    have:=bx wd (.inl y.pl) (az t fs)
    have:=vT t
    omega
theorem s9 {t y:T68} {k:Kd} {wd wd':Al} (h:bR t y [k] wd = .ok wd'):k.par (az t [k])=none:=by
 have h:(match k.par (az t [k]) with | some w=>.error (.parted y.pl k t.pl (az t [k]) w) | none=>.ok (ai wd (.inl y.pl) (az t [k])):Except Er Al) = .ok wd':=by
  cases t <;> exact h
 cases q:k.par (az t [k]) with
 | some w=>rw [q] at h;cases h
 | none=>rfl
def kst (t:T68) (N:Al) (e3:Option D) (fs:List Kd) (e5 e6:Option D) (kd wd:Al):Sta:=⟨[some (.ref 0),some t.toD,some (dA N),e3,some (.lst (dsK fs)),e5,e6,none],[4],ls kd wd⟩
def KdR (t:T68) (N:Al) (e3:Option D) (n l:Nat) (kd wd:Al) (c:ar):Except Er (List Kd×Al×Al)→Prop
 | .ok (fs,kd',wd')=>(∀ k∈fs,k.dep≤4)∧H1 t fs∧kd'.length≤kd.length+l * nb n∧wd'.length≤wd.length+l * (wb n+xt t)∧∃ e5 e6,c = .nx (kst t N e3 fs e5 e6 kd' wd')
 | .error e=>∃ env ow kd' wd',c = .exc e.cls e.ds ⟨env,ow,ls kd' wd'⟩
def LkI (W:List Str) (n m:Nat):Prop:=∀ (y:T68) (N kd wd:Al) (bs:List Str),Ok W n bs y→NK N bs n→kd.length+nb n<90000→wd.length+wb n<90000→LkR n kd wd (ag Γ m gN [.ref 0,y.toD,dA N] (ls kd wd)) (lkM n y N kd wd)
theorem mn {W:List Str} {n m:Nat} (hm:9≤m) (ih:LkI W n m) (t:T68) (N:Al) (bs:List Str) (ot:Ok W (n+1) bs t) (hw4:∀ k∈wks t,k.dep≤4) (nk:NK N bs (n+1)) (e3:Option D):∀ (r:List T68) (fs:List Kd) (kd wd:Al) (e5 e6:Option D),(∀ j y,r[j]? = some y→(ah t)[fs.length+j]? = some y)→H1 t fs→(∀ k∈fs,k.dep≤4)→kd.length+r.length * nb n<90000→wd.length+r.length * (wb n+xt t)<90000→fs.length+r.length<1000 →
 KdR t N e3 n r.length kd wd (bc (fb Γ (ag Γ m) (aK Γ m) [5,6] false kB) (bP (fs.length:Nat) (toDs r)) (kst t N e3 fs e5 e6 kd wd)) (aR (lkM n) t N r fs kd wd)
 | [],fs,kd,wd,e5,e6,_,h1,hf,_,_,_=>⟨hf,h1,by simp,by simp,e5,e6,rfl⟩
 | y :: r,fs,kd,wd,e5,e6,hr,h1,hf,hk,hw,hl=>by
   obtain ⟨o1,o2,o3,o4⟩:=ot
   have hy:(ah t)[fs.length]? = some y:=hr 0 y rfl
   have oy:=o4 _ _ hy
   have ny:=nk.inN hw4 hf fs.length
   simp only [List.length_cons,Nat.add_mul,Nat.one_mul] at hk hw hl
   have x1:=vT t
   obtain ⟨q,rfl⟩:∃ q,m=q+9:=⟨m - 9,by omega⟩
   have b1:=bw t fs.length y hy fs rfl N (by have:=nk.few;omega) (q+8) (ls kd wd)
   have nl:=lD (dA (inN t fs.length fs N)) (gc _) kd wd
   have i1:=ih y (inN t fs.length fs N) kd wd (bs ++ bnd t fs.length) oy ny (by omega) (by omega)
   have l0:decide ((dsK fs).length<100000)=true:=ZW (by rw [List.length_map];omega)
   unfold aR
   cases q1:lkM n y (inN t fs.length fs N) kd wd with
   | error e=>
     rw [q1] at i1
     obtain ⟨kd',wd',i1⟩:=i1
     refine ⟨[some (.ref 0),some t.toD,some (dA N),e3,some (.lst (dsK fs)),some (.int fs.length),some y.toD,none],[4],kd',wd',?_⟩
     refine fO (aW rfl ?_) (fun s h=>by cases h)
     exact (b7 false (aX 0 (b1) (aX 0 (nl) (aX 0 (i1) aZ))) (by kernel_rfl))
   | ok v=>
     obtain ⟨k,kd1,wd1⟩:=v
     rw [q1] at i1
     obtain ⟨dk,lk1,lw1,i1⟩:=i1
     have sy:Sm y.pl:=by
      cases n with
      | zero=>exact oy.elim
      | succ n=>exact oy.2.1
     have sk:∀ z∈ah t,Sm z.pl:=fun z hz=>by
      obtain ⟨j,hj⟩:=List.mem_iff_getElem?.mp hz
      have oz:=o4 j z hj
      cases n with
      | zero=>exact oz.elim
      | succ n=>exact oz.2.1
     have hf2:∀ k'∈fs ++ [k],k'.dep≤4:=fun k' h=>by
      rcases List.mem_append.mp h with h | h
      ·exact hf k' h
      ·rw [List.mem_singleton.mp h];exact dk
     have h2:=ti t y fs.length hy (fs ++ [k]) (by simp) (cl2 h1 k) sy o2 sk hf2 kd1 wd1 (by omega) q
     have ek:dsK fs ++ [k.toD]=dsK (fs ++ [k]):=by simp [dsK]
     rw [← ek] at h2
     have nl2:=lD .non rfl kd1
     dsimp only
     cases q2:bR t y (fs ++ [k]) wd1 with
     | error e=>
       rw [q2] at h2
       refine ⟨[some (.ref 0),some t.toD,some (dA N),e3,some (.lst (dsK fs ++ [k.toD])),some (.int fs.length),some y.toD,none],[],kd1,wd1,?_⟩
       refine fO (aW rfl ?_) (fun s h=>by cases h)
       exact (b7 false (aX 0 (b1) (aX 0 (nl) (aX 0 (i1) (aX 0 (l0) (aX 0 (h2) aZ))))) (by kernel_rfl))
     | ok wd2=>
       rw [q2] at h2
       have hl2:=qv q2
       have i2:=mn hm ih t N bs ⟨o1,o2,o3,o4⟩ hw4 nk e3 r (fs ++ [k]) kd1 wd2 (some (.int fs.length)) (some y.toD) (fun j z hz=>by rw [List.length_append,List.length_singleton,Nat.add_assoc,Nat.add_comm 1];exact hr (j+1) z hz) (by
        intro a r' e
        cases fs with
        | nil=>cases e;exact s9 q2
        | cons a' r''=>cases e;exact h1 a _ rfl) hf2 (by omega) (by omega) (by rw [List.length_append,List.length_singleton];omega)
       have st:fb Γ (ag Γ (q+9)) (aK Γ (q+9)) [5,6] false kB (.tup [.int fs.length,y.toD]) (kst t N e3 fs e5 e6 kd wd) = .nx (kst t N e3 (fs ++ [k]) (some (.int fs.length)) (some y.toD) kd1 wd2):=by
        unfold kst
        rw [← ek]
        refine aW rfl ?_
        exact (b7 false (aX 0 (b1) (aX 0 (nl) (aX 0 (i1) (aX 0 (l0) (aX 0 (h2) (aX 0 (nl2 wd2) aZ)))))) (by kernel_rfl))
       have go:bc (fb Γ (ag Γ (q+9)) (aK Γ (q+9)) [5,6] false kB) (bP (fs.length:Nat) (toDs (y :: r))) (kst t N e3 fs e5 e6 kd wd)=bc (fb Γ (ag Γ (q+9)) (aK Γ (q+9)) [5,6] false kB) (bP ((fs ++ [k]).length:Nat) (toDs r)) (kst t N e3 (fs ++ [k]) (some (.int fs.length)) (some y.toD) kd1 wd2):=by
        refine a9 st ?_
        rw [List.length_append];rfl
       rw [go]
       dsimp only
       cases q3:aR (lkM n) t N r (fs ++ [k]) kd1 wd2 with
       | error e=>rw [q3] at i2;exact i2
       | ok v=>
         obtain ⟨fs',kd',wd'⟩:=v
         rw [q3] at i2
         obtain ⟨a1,a2,a3,a4,a5⟩:=i2
         refine ⟨a1,a2,?_,?_,a5⟩
         ·simp only [List.length_cons,Nat.add_mul,Nat.one_mul];omega
         ·simp only [List.length_cons,Nat.add_mul,Nat.one_mul];omega
theorem ki {W bs:List Str} {t:T68} (h:own W bs t):∀ p x,t = .name p x→x∈bs:=fun p x e=>by subst e;exact h
theorem uS {W bs:List Str} {t:T68} (h:own W bs t) (n:Nat) (hn:ah t = []∨1≤n):(ah t).length * (wb n+xt t)≤wb (n+1):=by
 have l:=cC h
 show _≤4 * wb n+4
 rcases hn with e | hn
 ·rw [e];simp
 ·have w4:4≤wb n:=by
   cases n with
   | zero=>omega
   | succ n=>show 4≤4 * wb n+4;omega
  cases t with
  | iff p c a b=>show 3 * (wb n+2)≤_;omega
  | _=>exact Nat.le_trans (Nat.mul_le_mul_right _ l) (by show 4 * (wb n+1)≤_;omega)
theorem qE {W:List Str} {bs:List Str} {n:Nat} {t:T68} (h:∀ i k,(ah t)[i]? = some k→Ok W n (bs ++ bnd t i) k):ah t = []∨1≤n:=by
 cases n with
 | succ n=>exact .inr (by omega)
 | zero=>
   cases q:ah t with
   | nil=>exact .inl rfl
   | cons a r=>rw [q] at h;exact (h 0 a rfl).elim
theorem io {f:T68→Al→Al→Al→LR} {t:T68} {N:Al}:∀ (r:List T68) (fs:List Kd) (kd wd:Al) {v:List Kd×Al×Al},aR f t N r fs kd wd = .ok v→v.1.length=fs.length+r.length
 | [],fs,kd,wd,v,h=>by cases h;rfl
 | y :: r,fs,kd,wd,v,h=>by
   unfold aR at h
   cases q1:f y (inN t fs.length fs N) kd wd with
   | error e=>rw [q1] at h;cases h
   | ok w=>
     obtain ⟨k,kd1,wd1⟩:=w
     rw [q1] at h
     dsimp only at h
     cases q2:bR t y (fs ++ [k]) wd1 with
     | error e=>rw [q2] at h;cases h
     | ok wd2=>
       rw [q2] at h
       have:=io r _ _ _ h
       rw [this,List.length_append,List.length_singleton,List.length_cons];omega
theorem m8 {a b:Kd} {x:Sp} (h:a.stp x=some b):b.dep≤a.dep:=by
 cases a <;> cases x <;> cases h <;> first | exact Nat.le_refl _ | (unfold Kd.dep;omega) | (show _≤1+max _ _;omega) | (show _≤1+_;omega)
theorem d9 (a:Kd) (x:Sp) (h:a.dep≤5):((a.stp x).getD .unt).dep≤5:=by
 cases q:a.stp x with
 | none=>decide
 | some b=>have:=m8 q;show b.dep≤5;omega
theorem cb:∀ a b:Kd,(a.join b).dep≤a.dep
 | .whole,b=>by cases b <;> exact Nat.le_refl _
 | .truth,b=>by cases b <;> exact Nat.le_refl _
 | .unt,b=>by cases b <;> exact Nat.le_refl _
 | .row a,b=>by
   cases b with
   | row c=>have:=cb a c;show 1+(a.join c).dep≤1+a.dep;omega
   | _=>show 1≤1+a.dep;omega
 | .to a a',b=>by
   cases b with
   | to c c'=>have:=cb a c;have:=cb a' c';show 1+max (a.join c).dep (a'.join c').dep≤1+max a.dep a'.dep;omega
   | _=>show 1≤1+_;omega
 | .pair a a',b=>by
   cases b with
   | pair c c'=>have:=cb a c;have:=cb a' c';show 1+max (a.join c).dep (a'.join c').dep≤1+max a.dep a'.dep;omega
   | _=>show 1≤1+_;omega
theorem fQ {β:Type} {l:AlG β} {x:Key} {k:β} (h:aq l x=some k):∃ p∈l,p.2=k:=by
 induction l with
 | nil=>cases h
 | cons p r ih=>
   have h:(if p.1=x then some p.2 else aq r x)=some k:=h
   by_cases c:p.1=x
   ·rw [ZZ c] at h;exact ⟨p,by simp,by cases h;rfl⟩
   ·rw [ZY c] at h;obtain ⟨q,hq,e⟩:=ih h;exact ⟨q,by simp [hq],e⟩
theorem uB {W bs:List Str} (t:T68) (ho:own W bs t) (fs:List Kd) (N:Al) (hf:∀ k∈fs,k.dep≤4) (hw:∀ k∈wks t,k.dep≤4) (hn:∀ p∈N,p.2.dep≤5):(aV t fs N).dep≤5:=by
 have u:Kd.unt.dep≤5:=by decide
 cases t with
 | call p a b=>cases fs with
   | nil=>exact u
   | cons k r=>have:=hf k (by simp);exact d9 k .res (by omega)
 | att p a b=>cases fs with
   | nil=>exact u
   | cons k r=>have:=hf k (by simp);exact d9 k .item (by omega)
 | one p a=>cases fs with
   | nil=>exact u
   | cons k r=>have:=hf k (by simp);exact d9 k .one (by omega)
 | two p a=>cases fs with
   | nil=>exact u
   | cons k r=>have:=hf k (by simp);exact d9 k .two (by omega)
 | name p x=>
   show ((aq N (.inr x)).getD .unt).dep≤5
   cases q:aq N (.inr x) with
   | none=>exact u
   | some k=>obtain ⟨r,hr,e⟩:=fQ q;rw [← e];exact hn r hr
 | fn p x k b=>
   have h1:=hw k (.head _)
   match fs,hf with
   | [],_=>exact u
   | c :: r,hf=>have:=hf c (by simp);show 1+max k.dep c.dep≤5;omega
 | slf p f x k g b=>
   have h1:=hw k (.head _)
   have h2:=hw g (.tail _ (.head _))
   show 1+max k.dep g.dep≤5;omega
 | lt p x a b=>
   match fs,hf with
   | [],_=>exact u
   | [c],_=>exact u
   | [c,d],hf=>have:=hf d (by simp);show d.dep≤5;omega
   | c :: d :: e :: r,_=>exact u
 | iff p c a b=>
   match fs,hf with
   | [],_=>exact u
   | [c],_=>exact u
   | [c,d],hf=>exact u
   | [c,d,e],hf=>have:=hf d (by simp);have:=cb d e;show (d.join e).dep≤5;omega
   | c :: d :: e :: f :: r,_=>exact u
 | bin p o a b=>cases o <;> exact Nat.le_of_ble_eq_true rfl
 | row p k ts=>have h1:=hw k (.head _);show 1+k.dep≤5;omega
 | pair p a b=>
   match fs,hf with
   | [],_=>exact u
   | [c],_=>exact u
   | [c,d],hf=>have:=hf d (by simp);have:=hf c (by simp);show 1+max c.dep d.dep≤5;omega
   | c :: d :: e :: r,_=>exact u
 | as_ p k a=>have h1:=hw k (.head _);show k.dep≤5;omega
 | lk p k l a=>exact ZX ho id
 | _=>exact Nat.le_of_ble_eq_true rfl
theorem mC (W:List Str):∀ n m,n+10≤m→LkI W n m
 | 0,m,hm=>fun y N kd wd bs oy nk hk hw=>oy.elim
 | n+1,m,hm=>by
   intro t N kd wd bs ot nk hk hw
   obtain ⟨m,rfl⟩:∃ k,m=k+1:=⟨m - 1,by omega⟩
   have ih:=mC W n m (by omega)
   have ot':=ot
   obtain ⟨o1,o2,o3,o4⟩:=ot
   obtain ⟨q,rfl⟩:∃ q,m=q+10:=⟨m - 10,by omega⟩
   have w0:=BL t (q+7) (ls kd wd)
   obtain ⟨e3,w1⟩:=ng t N o2 (q+10) (ls kd wd) (wks t) none (fun k hk=>by have:=o3 k hk;omega)
   unfold lkM
   by_cases c:(wks t).any (fun k=>decide (4<k.dep))=true
   ·rw [ZZ c] at w1 ⊢
    exact ⟨kd,wd,(ac true (aX 0 (w0) (aX 0 (w1) aZ)) (by kernel_rfl))⟩
   ·rw [ZY c] at w1 ⊢
    have hw4:∀ k∈wks t,k.dep≤4:=fun k hk=>by
     have:¬ 4<k.dep:=fun h=>c (List.any_eq_true.mpr ⟨k,hk,ZW h⟩)
     omega
    have p0:=rG t (q+7) (ls kd wd)
    have kl:=cC o1
    have xk:=uS o1 n (qE o4)
    have nk1:nb (n+1)=1+4 * nb n:=rfl
    have kl2:(ah t).length * nb n≤4 * nb n:=Nat.mul_le_mul_right _ kl
    have lp:=mn (m:=q+10) (by omega) ih t N bs ot' hw4 nk e3 (ah t) [] kd wd none none (fun j y h=>by rw [List.length_nil,Nat.zero_add];exact h) (fun a r h=>by cases h) (fun k h=>by cases h) (by omega) (by omega) (by simp only [List.length_nil];omega)
    cases q1:aR (lkM n) t N (ah t) [] kd wd with
    | error e=>
      rw [q1] at lp
      obtain ⟨env,ow,kd',wd',lp⟩:=lp
      exact ⟨kd',wd',(ac true (aX 0 (w0) (aX 0 (w1) (aX 0 (p0) (aX 0 (lp) aZ)))) (by kernel_rfl))⟩
    | ok v=>
      obtain ⟨fs,kd1,wd1⟩:=v
      rw [q1] at lp
      obtain ⟨a1,a2,a3,a4,e5,e6,lp⟩:=lp
      have fl:fs.length=(ah t).length:=by have:=io _ _ _ _ q1;simpa using this
      have ow:=yb t fs fl N (hld a2 N (fun p x e=>nk.has x (ki o1 p x e))) 4 a1 (q+10) (by omega) (ls kd1 wd1)
      have od:(aV t fs N).dep≤5:=uB t o1 fs N a1 hw4 nk.dp
      have n1:=nsh t (aV t fs N) o2 (q+10) (by omega) (ls kd1 wd1)
      dsimp only
      have nl:=lD (aV t fs N).toD (eX _) kd1 wd1
      by_cases c2:4<(aV t fs N).dep
      ·rw [ZZ c2] at n1 ⊢
       exact ⟨kd1,wd1,(ac true (aX 0 (w0) (aX 0 (w1) (aX 0 (p0) (aX 0 (lp) (aX 0 (ow) (aX 0 (nl) (aX 0 (n1) aZ))))))) (by kernel_rfl))⟩
      ·rw [ZY c2] at n1 ⊢
       have pl:=bx kd1 (.inl t.pl) (aV t fs N)
       have e1:ev Γ (ag Γ (q+10)) (aK Γ (q+10)) true (.ix (.v 1) (.c (.int 1))) ⟨[some (.ref 0),some t.toD,some (dA N),e3,some (.lst (dsK fs)),e5,e6,some (aV t fs N).toD],[4],ls kd1 wd1⟩ = .ok (.int t.pl) ⟨[some (.ref 0),some t.toD,some (dA N),e3,some (.lst (dsK fs)),e5,e6,some (aV t fs N).toD],[4],ls kd1 wd1⟩:=(gI false (aX 0 (aJ t (ls kd1 wd1)) aZ) (by kernel_rfl))
       have pt:=mS (Γ:=Γ) (cal:=ag Γ (q+10)) (cal1:=aK Γ (q+10)) (x:=.v 0) (f:=5) (e:=.v 7) (s:=⟨[some (.ref 0),some t.toD,some (dA N),e3,some (.lst (dsK fs)),e5,e6,some (aV t fs N).toD],[4],ls kd1 wd1⟩) (o:=oA kd1) (n:=1) rfl rfl e1 rfl (rL kd1 t.pl (aV t fs N) (by omega))
       refine ⟨by omega,by omega,by omega,(ac true (aX 0 (w0) (aX 0 (w1) (aX 0 (p0) (aX 0 (lp) (aX 0 (ow) (aX 0 (nl) (aX 0 (n1) (aX 0 (pt) aZ)))))))) (by kernel_rfl))⟩
abbrev nB:S:=dq iU.body
theorem v9 (bs l:List Str) (h:bs.length+l.length≤1000):opD .add (.tup (sts bs)) (.tup (sts l))=some (.tup (sts (bs ++ l))):=by
 show cN ((sts bs).length+(sts l).length) _=_
 unfold cN sts
 rw [ZZ (by simp;omega),List.map_append]
theorem sH (t:T68) (i:Nat):(bnd t i).length≤2:=by
 cases t <;> first | exact Nat.le_of_ble_eq_true rfl | (rename_i a b c d;match i with | 0=>exact Nat.le_of_ble_eq_true rfl | 1=>exact Nat.le_of_ble_eq_true rfl | i+2=>exact Nat.le_of_ble_eq_true rfl)
theorem mL {W:List Str} {n m:Nat} (ih:∀ (y:T68) (bs:List Str) (S:List O),Ok W n bs y→bs.length+2 * n≤1000→ag Γ (m+4) dN [y.toD,.tup (sts bs)] S = .ok .non S) (t:T68) (bs:List Str) (o4:∀ i k,(ah t)[i]? = some k→Ok W n (bs ++ bnd t i) k) (hb:bs.length+2 * (n+1)≤1000) (S:List O):∀ (r:List T68) (i:Nat) (e2 e3:Option D),(∀ j y,r[j]? = some y→(ah t)[i+j]? = some y)→∃ e2' e3':Option D,bc (fb Γ (ag Γ (m+4)) (aK Γ (m+4)) [2,3] false nB) (bP (i:Nat) (toDs r)) ⟨[some t.toD,some (.tup (sts bs)),e2,e3],[],S⟩ = .nx ⟨[some t.toD,some (.tup (sts bs)),e2',e3'],[],S⟩
 | [],i,e2,e3,_=>⟨e2,e3,rfl⟩
 | y :: r,i,e2,e3,hr=>by
   have hy:(ah t)[i]? = some y:=hr 0 y rfl
   have n1:=xV t i y hy (m+3) S
   have l2:=sH t i
   have a1:=v9 bs (bnd t i) (by omega)
   have i1:=ih y (bs ++ bnd t i) S (o4 i y hy) (by rw [List.length_append];omega)
   obtain ⟨e2',e3',h⟩:=mL ih t bs o4 hb S r (i+1) (some (.int i)) (some y.toD) (fun j z hz=>by rw [Nat.add_assoc,Nat.add_comm 1];exact hr (j+1) z hz)
   exact ⟨e2',e3',a9 (aW rfl (b7 false (aX 0 (n1) (aX 0 (a1) (aX 0 (i1) aZ))) (by kernel_rfl))) h⟩
theorem gb {W:List Str}:∀ (n m:Nat) (y:T68) (bs:List Str) (S:List O),n+4≤m→Ok W n bs y→bs.length+2 * n≤1000→ag Γ m dN [y.toD,.tup (sts bs)] S = .ok .non S
 | 0,m,y,bs,S,_,o,_=>o.elim
 | n+1,m,t,bs,S,hm,o,hb=>by
   obtain ⟨m,rfl⟩:∃ k,m=k+5:=⟨m - 5,by omega⟩
   obtain ⟨o1,o2,o3,o4⟩:=o
   have p0:=rG t (m+1) S
   obtain ⟨e2,e3,lp⟩:=mL (m:=m) (fun y bs S o h=>gb n (m+4) y bs S (by omega) o h) t bs o4 hb S (ah t) 0 none none (fun j y h=>by rw [Nat.zero_add];exact h)
   cases t with
   | name p x=>exact (ac true (aX 4 (notin (ki o1 p x rfl)) (aX 0 (p0) (aX 0 (lp) aZ))) (by kernel_rfl))
   | _=>exact (ac true (aX 0 (p0) (aX 0 (lp) aZ)) (by kernel_rfl))
theorem pS (f:D→D→Option Bool):∀ l l':List Kd,(∀ a∈l,∀ b:Kd,f a.toD b.toD=some (decide (a=b)))→∃ x,dD f (dsK l) (dsK l')=some x∧(x && l.length == l'.length)=decide (l=l')
 | [],l',h=>⟨true,by cases l' <;> rfl,by cases l' <;> simp⟩
 | a :: l,[],h=>⟨true,rfl,by simp⟩
 | a :: l,b :: l',h=>by
   obtain ⟨x,h1,h2⟩:=pS f l l' (fun c hc=>h c (by simp [hc]))
   have h3:=h a (by simp) b
   refine ⟨decide (a=b) && x,?_,?_⟩
   ·show (match f a.toD b.toD with | none=>none | some x=>(dD f (dsK l) (dsK l')).map (x && ·))=_
    rw [h3,h1];rfl
   ·by_cases e:a=b
    ·subst e
     have:((a :: l).length == (a :: l').length)=(l.length == l'.length):=by simp
     rw [this];simp only [decide_true,Bool.true_and,h2];simp
    ·simp [e]
def Kd.hd:Kd→Str
 | .whole=>"whole" | .truth=>"truth" | .unt=>"?" | .to _ _=>"to" | .row _=>"row" | .pair _ _=>"pair"
def Kd.ps:Kd→List Kd
 | .to a b=>[a,b] | .row a=>[a] | .pair a b=>[a,b] | _=>[]
theorem Kd.toD_eq (a:Kd):a.toD = .tup (.str a.hd :: dsK a.ps):=by cases a <;> rfl
theorem Kd.ps_dep {a b:Kd} (h:b∈a.ps):b.dep+1≤a.dep:=by
 cases a with
 | to c d=>rcases List.mem_cons.mp h with rfl | h;(show b.dep+1≤1+max b.dep d.dep;omega);(rw [List.mem_singleton.mp h];show d.dep+1≤1+max c.dep d.dep;omega)
 | row c=>rw [List.mem_singleton.mp h];show c.dep+1≤1+c.dep;omega
 | pair c d=>rcases List.mem_cons.mp h with rfl | h;(show b.dep+1≤1+max b.dep d.dep;omega);(rw [List.mem_singleton.mp h];show d.dep+1≤1+max c.dep d.dep;omega)
 | _=>cases h
theorem Kd.ext {a b:Kd}:a=b↔a.hd=b.hd∧a.ps=b.ps:=by
 constructor
 ·intro h;subst h;exact ⟨rfl,rfl⟩
 ·rintro ⟨h1,h2⟩
  cases a <;> cases b <;> first | (cases h2;done) | (cases h2;rfl) | (exact ZX (show ("to":Str) = "pair" from h1) (by decide +kernel)) | (exact ZX (show ("pair":Str) = "to" from h1) (by decide +kernel)) | (exact ZX h1 (by decide +kernel))
theorem uJ (n:Nat) (x y:Str):eqv n (.str x) (.str y)=some (decide (x=y)):=by
 have:eqv n (.str x) (.str y)=some (x == y):=by cases n <;> rfl
 rw [this]
 by_cases h:x=y
 ·subst h;simp
 ·simp [h]
theorem k7:∀ (n:Nat) (a:Kd),a.dep≤n→∀ b:Kd,eqv n a.toD b.toD=some (decide (a=b))
 | 0,a,h,b=>by cases a <;> (unfold Kd.dep at h;omega)
 | n+1,a,h,b=>by
   obtain ⟨x,h1,h2⟩:=pS (eqv n) a.ps b.ps (fun c hc d=>k7 n c (by have:=Kd.ps_dep hc;omega) d)
   rw [a.toD_eq,b.toD_eq]
   show (match eqv n (.str a.hd) (.str b.hd) with | none=>none | some x=>(dD (eqv n) (dsK a.ps) (dsK b.ps)).map (x && ·)).map (· && ((D.str a.hd :: dsK a.ps).length == (D.str b.hd :: dsK b.ps).length))=_
   rw [uJ,h1]
   show some ((decide (a.hd=b.hd) && x) && ((D.str a.hd :: dsK a.ps).length == (D.str b.hd :: dsK b.ps).length))=_
   have e:((D.str a.hd :: dsK a.ps).length == (D.str b.hd :: dsK b.ps).length)=(a.ps.length == b.ps.length):=by simp [dsK]
   rw [e,Bool.and_assoc,h2]
   congr 1
   by_cases q:a=b
   ·subst q;simp
   ·rw [ZV q]
    by_cases q1:a.hd=b.hd
    ·have:a.ps≠b.ps:=fun z=>q (Kd.ext.mpr ⟨q1,z⟩)
     simp [this]
    ·simp [q1]
def ak:Nat→T68→List Int
 | 0,_=>[]
 | n+1,t=>t.pl :: (ah t).flatMap (ak n)
theorem jn {W:List Str}:∀ (n:Nat) (bs:List Str) (t:T68),Ok W n bs t→(ak n t).length≤nb n
 | 0,bs,t,o=>o.elim
 | n+1,bs,t,⟨o1,_,_,o4⟩=>by
   have kl:=cC o1
   have f:∀ l:List T68,(∀ y∈l,(ak n y).length≤nb n)→(l.flatMap (ak n)).length≤l.length * nb n:=by
    intro l
    induction l with
    | nil=>intro _;simp
    | cons y r ih=>
      intro h
      rw [List.flatMap_cons,List.length_append,List.length_cons,Nat.add_mul]
      have:=h y (by simp);have:=ih (fun z hz=>h z (by simp [hz]));omega
   have h:=f (ah t) (fun y hy=>by obtain ⟨i,hi⟩:=List.mem_iff_getElem?.mp hy;exact jn n _ y (o4 i y hi))
   have:(ah t).length * nb n≤4 * nb n:=Nat.mul_le_mul_right _ kl
   show ((ah t).flatMap (ak n)).length+1≤1+4 * nb n;omega
def dsI (l:List Int):List D:=l.map D.int
structure GI (kd wd kd' wd':Al) (ps qs:List Int):Prop where
 kk:∀ x,(aq kd x).isSome=true→(aq kd' x).isSome=true
 ww:∀ x,(aq wd x).isSome=true→(aq wd' x).isSome=true
 kp:∀ p∈ps,(aq kd' (.inl p)).isSome=true
 wp:∀ p∈qs,(aq wd' (.inl p)).isSome=true
 kd4:(∀ p∈kd,p.2.dep≤4)→∀ p∈kd',p.2.dep≤4
 wd4:(∀ p∈wd,p.2.dep≤4)→∀ p∈wd',p.2.dep≤4
theorem b5 {l:Al} {k:Key} {v:Kd} {x:Key} (h:(aq l x).isSome=true):(aq (ai l k v) x).isSome=true:=by
 rw [cJ];split
 ·rfl
 ·exact h
theorem fx {l:Al} {k:Key} {v:Kd}:(aq (ai l k v) k).isSome=true:=by rw [cJ,ZZ rfl];rfl
theorem sd (t:T68) (fs:List Kd) (hf:∀ k∈fs,k.dep≤4) (hw:∀ k∈wks t,k.dep≤4):(az t fs).dep≤4:=by
 have la:(fs.getLastD .unt).dep≤4:=by
  cases fs with
  | nil=>decide
  | cons a r=>exact hf _ (j8 (a :: r) r.length rfl)
 have s4:∀ (a:Kd) (x:Sp),a∈fs→((a.stp x).getD .unt).dep≤4:=fun a x ha=>by
  cases q:a.stp x with
  | none=>decide
  | some b=>have:=m8 q;have:=hf a ha;show b.dep≤4;omega
 cases t with
 | bin p o a b=>exact Nat.le_of_ble_eq_true rfl
 | row p k ts=>exact hw k (.head _)
 | as_ p k a=>exact hw k (.head _)
 | slf p f x k g b=>exact hw g (.tail _ (.head _))
 | iff p c a b=>
   match fs,hf,la with
   | [c],_,_=>exact Nat.le_of_ble_eq_true rfl
   | [],_,la=>exact la
   | a :: b :: r,_,la=>exact la
 | call p a b=>
   match fs,hf,la,s4 with
   | [],_,la,_=>exact la
   | [c],hf,_,_=>have:=hf c (by simp);cases c <;> first | exact this | exact Nat.le_of_ble_eq_true rfl
   | [c,d],_,_,s4=>exact s4 c .arg (by simp)
   | a :: b :: c :: r,_,la,_=>exact la
 | att p a b=>
   match fs,hf,la with
   | [],_,la=>exact la
   | [c],hf,_=>have:=hf c (by simp);cases c <;> first | exact this | exact Nat.le_of_ble_eq_true rfl
   | [c,d],_,_=>exact Nat.le_of_ble_eq_true rfl
   | a :: b :: c :: r,_,la=>exact la
 | size p a=>
   match fs,hf,la with
   | [],_,la=>exact la
   | [c],hf,_=>have:=hf c (by simp);cases c <;> first | exact this | exact Nat.le_of_ble_eq_true rfl
   | a :: b :: r,_,la=>exact la
 | one p a=>
   match fs,hf,la with
   | [],_,la=>exact la
   | [c],hf,_=>have:=hf c (by simp);cases c <;> first | exact this | exact Nat.le_of_ble_eq_true rfl
   | a :: b :: r,_,la=>exact la
 | two p a=>
   match fs,hf,la with
   | [],_,la=>exact la
   | [c],hf,_=>have:=hf c (by simp);cases c <;> first | exact this | exact Nat.le_of_ble_eq_true rfl
   | a :: b :: r,_,la=>exact la
 | _=>exact la
theorem qt {t y:T68} {fs:List Kd} {wd wd':Al} (h:bR t y fs wd = .ok wd') (hf:∀ k∈fs,k.dep≤4) (hw:∀ k∈wks t,k.dep≤4) (h4:∀ p∈wd,p.2.dep≤4):∀ p∈wd',p.2.dep≤4:=by
 by_cases h3:bT t fs=true
 ·obtain ⟨p,c,a,b,f0,f,g,rfl,rfl⟩:=cR h3
  ·skip
   rw [bZ] at h
   cases q:g.par f with
   | some w=>rw [q] at h;cases h
   | none=>
     rw [q] at h;cases h
     have:=cb f g
     have:=hf f (by simp)
     exact bO (P:=fun k=>k.dep≤4) (bO (P:=fun k=>k.dep≤4) h4 (by omega)) (by omega)
 ·rw [cq (by simpa using h3)] at h
  cases q:(fs.getLastD .unt).par (az t fs) with
  | some w=>rw [q] at h;cases h
  | none=>rw [q] at h;cases h;exact bO (P:=fun k=>k.dep≤4) h4 (sd t fs hf hw)
theorem qu {t y:T68} {fs:List Kd} {wd wd':Al} (h:bR t y fs wd = .ok wd') (hy:∀ p c a b,t = .iff p c a b→fs.length=3→y=b):(∀ x,(aq wd x).isSome=true→(aq wd' x).isSome=true)∧(aq wd' (.inl y.pl)).isSome=true:=by
 by_cases h3:bT t fs=true
 ·obtain ⟨p,c,a,b,f0,f,g,rfl,rfl⟩:=cR h3
  ·skip
   have hy:=hy p c a b rfl rfl
   subst hy
   rw [bZ] at h
   cases q:g.par f with
   | some w=>rw [q] at h;cases h
   | none=>rw [q] at h;cases h;exact ⟨fun x hx=>b5 (b5 hx),fx⟩
 ·rw [cq (by simpa using h3)] at h
  cases q:(fs.getLastD .unt).par (az t fs) with
  | some w=>rw [q] at h;cases h
  | none=>rw [q] at h;cases h;exact ⟨fun x hx=>b5 hx,fx⟩
theorem GI.trans {a b a1 b1 a2 b2:Al} {ps qs ps' qs':List Int} (h:GI a b a1 b1 ps qs) (h':GI a1 b1 a2 b2 ps' qs'):GI a b a2 b2 (ps ++ ps') (qs ++ qs'):=⟨fun x hx=>h'.kk x (h.kk x hx),fun x hx=>h'.ww x (h.ww x hx),
 fun p hp=>by
  rcases List.mem_append.mp hp with hp | hp
  ·exact h'.kk _ (h.kp p hp)
  ·exact h'.kp p hp,
 fun p hp=>by
  rcases List.mem_append.mp hp with hp | hp
  ·exact h'.ww _ (h.wp p hp)
  ·exact h'.wp p hp,fun q=>h'.kd4 (h.kd4 q),fun q=>h'.wd4 (h.wd4 q)⟩
theorem qz {t:T68} {fs:List Kd} {y:T68} {k:Kd} (hy:(ah t)[fs.length]? = some y):∀ p c a b,t = .iff p c a b→(fs ++ [k]).length=3→y=b:=by
 intro p c a b e h
 subst e
 rw [List.length_append,List.length_singleton] at h
 rw [show fs.length=2 by omega] at hy
 cases hy;rfl
theorem ll {n:Nat} {t:T68} {N kd wd kd1 wd1:Al} {k:Kd} (e:lkM (n+1) t N kd wd = .ok (k,kd1,wd1)):∃ fs kd2,(∀ k∈wks t,k.dep≤4)∧aR (lkM n) t N (ah t) [] kd wd = .ok (fs,kd2,wd1)∧(aV t fs N).dep≤4∧k=aV t fs N∧kd1=ai kd2 (.inl t.pl) (aV t fs N):=by
 unfold lkM at e
 by_cases c:(wks t).any (fun k=>decide (4<k.dep))=true
 ·rw [ZZ c] at e;cases e
 ·rw [ZY c] at e
  cases q1:aR (lkM n) t N (ah t) [] kd wd with
  | error e'=>rw [q1] at e;cases e
  | ok v=>
    obtain ⟨fs,kd2,wd2⟩:=v
    rw [q1] at e
    dsimp only at e
    by_cases c2:4<(aV t fs N).dep
    ·rw [ZZ c2] at e;cases e
    ·rw [ZY c2] at e
     cases e
     exact ⟨fs,kd2,fun k hk=>by
      have:¬ 4<k.dep:=fun h=>c (List.any_eq_true.mpr ⟨k,hk,ZW h⟩)
      omega,rfl,by omega,rfl,rfl⟩
theorem fW {n:Nat} {t y:T68} {N kd wd:Al} {r:List T68} {fs:List Kd} {v:List Kd×Al×Al} (e:aR (lkM n) t N (y :: r) fs kd wd = .ok v):∃ k kd2 wd2 wd3,lkM n y (inN t fs.length fs N) kd wd = .ok (k,kd2,wd2)∧bR t y (fs ++ [k]) wd2 = .ok wd3∧aR (lkM n) t N r (fs ++ [k]) kd2 wd3 = .ok v:=by
 unfold aR at e
 cases q1:lkM n y (inN t fs.length fs N) kd wd with
 | error e'=>rw [q1] at e;cases e
 | ok w=>
   obtain ⟨k,kd2,wd2⟩:=w
   rw [q1] at e
   dsimp only at e
   cases q2:bR t y (fs ++ [k]) wd2 with
   | error e'=>rw [q2] at e;cases e
   | ok wd3=>rw [q2] at e;exact ⟨k,kd2,wd2,wd3,rfl,q2,e⟩
theorem lb {t:T68} {N kd wd:Al} {r:List T68} {fs:List Kd} {v:List Kd×Al×Al} (e:aR (lkM 0) t N r fs kd wd = .ok v):r = []:=by
 cases r with
 | nil=>rfl
 | cons y r=>obtain ⟨_,_,_,_,q,_⟩:=fW e;cases q
theorem mo {n:Nat} (ih:∀ y N kd wd k kd' wd',lkM n y N kd wd = .ok (k,kd',wd')→k.dep≤4∧GI kd wd kd' wd' (ak n y) (ak n y).tail) (hn:1≤n) (t:T68) (hw4:∀ k∈wks t,k.dep≤4) (N:Al):∀ (r:List T68) (fs:List Kd) (kd wd:Al) {v:List Kd×Al×Al},(∀ k∈fs,k.dep≤4)→(∀ j y,r[j]? = some y→(ah t)[fs.length+j]? = some y)→aR (lkM n) t N r fs kd wd = .ok v→GI kd wd v.2.1 v.2.2 (r.flatMap (ak n)) (r.flatMap (ak n))
 | [],fs,kd,wd,v,_,_,h=>by cases h;exact ⟨fun _ h=>h,fun _ h=>h,fun _ h=>(by cases h),fun _ h=>(by cases h),fun h=>h,fun h=>h⟩
 | y :: r,fs,kd,wd,v,hf,hr,h=>by
   unfold aR at h
   cases q1:lkM n y (inN t fs.length fs N) kd wd with
   | error e=>rw [q1] at h;cases h
   | ok w=>
     obtain ⟨k,kd1,wd1⟩:=w
     rw [q1] at h
     dsimp only at h
     cases q2:bR t y (fs ++ [k]) wd1 with
     | error e=>rw [q2] at h;cases h
     | ok wd2=>
       rw [q2] at h
       obtain ⟨k4,g1⟩:=ih y _ _ _ _ _ _ q1
       have hf2:∀ k'∈fs ++ [k],k'.dep≤4:=fun k' h=>by
        rcases List.mem_append.mp h with h | h
        ·exact hf k' h
        ·rw [List.mem_singleton.mp h];exact k4
       obtain ⟨h1,h2⟩:=qu q2 (qz (hr 0 y rfl))
       have g2:=mo ih hn t hw4 N r (fs ++ [k]) kd1 wd2 hf2 (fun j z hz=>by rw [List.length_append,List.length_singleton,Nat.add_assoc,Nat.add_comm 1];exact hr (j+1) z hz) h
       rw [List.flatMap_cons]
       refine GI.trans (a1:=kd1) (b1:=wd2) ⟨g1.kk,fun x hx=>h1 x (g1.ww x hx),g1.kp,fun p hp=>?_,g1.kd4,fun h4=>qt q2 hf2 hw4 (g1.wd4 h4)⟩ g2
       obtain ⟨n,rfl⟩:∃ k,n=k+1:=⟨n - 1,by omega⟩
       rcases List.mem_cons.mp hp with rfl | hp
       ·exact h2
       ·exact h1 _ (g1.wp p hp)
theorem vB:∀ (n:Nat) (t:T68) (N kd wd:Al) (k:Kd) (kd' wd':Al),lkM n t N kd wd = .ok (k,kd',wd')→k.dep≤4∧GI kd wd kd' wd' (ak n t) (ak n t).tail
 | 0,t,N,kd,wd,k,kd',wd',h=>by cases h
 | n+1,t,N,kd,wd,k,kd',wd',h=>by
   obtain ⟨fs,kd1,hw4,q1,c2,rfl,rfl⟩:=ll h
   have g:GI kd wd kd1 wd' ((ah t).flatMap (ak n)) ((ah t).flatMap (ak n)):=by
    rcases Nat.eq_zero_or_pos n with hz | hz
    ·rw [hz] at q1
     have q:=lb q1
     rw [q] at q1 ⊢
     cases q1
     exact ⟨fun _ h=>h,fun _ h=>h,fun _ h=>(by cases h),fun _ h=>(by cases h),fun h=>h,fun h=>h⟩
    ·exact mo (vB n) hz t hw4 N (ah t) [] kd wd (fun k h=>by cases h) (fun j y h=>by rw [List.length_nil,Nat.zero_add];exact h) q1
   refine ⟨by omega,fun x hx=>b5 (g.kk x hx),g.ww,fun p hp=>?_,g.wp,fun h=>bO (P:=fun k=>k.dep≤4) (g.kd4 h) (by omega),g.wd4⟩
   rcases List.mem_cons.mp hp with rfl | hp
   ·exact fx
   ·exact b5 (g.kp p hp)
def aT (n:Nat) (t:T68):Except Er (Al×Al):=match lkM n t [] [] [] with
 | .error e=>.error e
 | .ok (k,kd,wd)=>.ok (kd,ai wd (.inl t.pl) k)
def LdR (c:Res):Except Er (Al×Al)→Prop
 | .ok (kd,wd)=>c = .ok (.tup [.ref 1,.ref 2]) (ls kd wd)
 | .error e=>∃ st,c = .exc e.cls e.ds st
theorem nb8 {n:Nat} (h:n≤8):nb n≤21845∧wb n≤87380:=by
 have:∀ k,k≤8→nb k≤21845∧wb k≤87380:=by decide
 exact this n h
theorem iz {W:List Str} (n m:Nat) (t:T68) (o:Ok W n [] t) (h8:n≤8) (hm:n+12≤m):LdR (ag Γ m fU [t.toD] []) (aT n t):=by
 obtain ⟨m,rfl⟩:∃ k,m=k+3:=⟨m - 3,by omega⟩
 obtain ⟨b1,b2⟩:=nb8 h8
 have nbd:ag Γ (m+2) i9 [t.toD] [] = .ok .non []:=by
  have:=gb n (m+1) t [] [] (by omega) o (by simp only [List.length_nil];omega)
  exact (ac false (aX 0 (this) aZ) (by kernel_rfl))
 have lk:=mC W n (m+2) (by omega) t [] [] [] [] o ⟨fun x h=>(by cases h),fun p h=>(by cases h),by simp only [List.length_nil];omega⟩ (by simp only [List.length_nil];omega) (by simp only [List.length_nil];omega)
 unfold aT
 cases q:lkM n t [] [] [] with
 | error e=>
   rw [q] at lk
   obtain ⟨kd,wd,lk⟩:=lk
   exact ⟨ls kd wd,(ac false (aX 0 (nbd) (aC (aX 0 (lk) aZ))) (by kernel_rfl))⟩
 | ok v=>
   obtain ⟨k,kd,wd⟩:=v
   rw [q] at lk
   obtain ⟨l1,l2,l3,lk⟩:=lk
   have w:=fA t k kd wd (by simp only [List.length_nil] at l3;omega) (m+1)
   show ag Γ (m+3) fU [t.toD] [] = .ok (.tup [.ref 1,.ref 2]) (ls kd (ai wd (.inl t.pl) k))
   exact (ac false (aX 0 (nbd) (aC (aX 0 (lk) (aX 0 (w) aZ)))) (by kernel_rfl))
inductive It where
 | s (x:Str) | i (v:Int) | b (b:Bool) | k (k:Kd) | n (t:T68) | ns (ts:List T68)
def It.toD:It→D
 | .s z=>.str z | .i z=>.int z | .b z=>.bl z | .k z=>z.toD | .n z=>z.toD | .ns z=>.tup (toDs z)
def its:T68→List It
 | .whole p v=>[.s "whole",.i p,.i v]
 | .truth p b=>[.s "truth",.i p,.b b]
 | .given p v=>[.s "given",.i p,.i v]
 | .name p x=>[.s "name",.i p,.s x]
 | .fn p x k b=>[.s "fn",.i p,.s x,.k k,.n b]
 | .slf p f x k g b=>[.s "self",.i p,.s f,.s x,.k k,.k g,.n b]
 | .lt p x a b=>[.s "let",.i p,.s x,.n a,.n b]
 | .iff p c a b=>[.s "if",.i p,.n c,.n a,.n b]
 | .call p a b=>[.s "call",.i p,.n a,.n b]
 | .bin p o a b=>[.s "do",.i p,.s o.str,.n a,.n b]
 | .as_ p k a=>[.s "as",.i p,.k k,.n a]
 | .row p k ts=>[.s "row",.i p,.k k,.ns ts]
 | .pair p a b=>[.s "pair",.i p,.n a,.n b]
 | .att p a b=>[.s "at",.i p,.n a,.n b]
 | .size p a=>[.s "size",.i p,.n a]
 | .one p a=>[.s "one",.i p,.n a]
 | .two p a=>[.s "two",.i p,.n a]
 | .lk p k l a=>[.s "look",.i p,.k k,.k l,.n a]
def dI (l:List It):List D:=l.map It.toD
theorem zJ (t:T68):t.toD = .tup (dI (its t)):=by cases t <;> rfl
def It.nodes:It→List T68
 | .n z=>[z]
 | .ns z=>z
 | _=>[]
theorem jX (t:T68):(its t).flatMap It.nodes=ah t:=by cases t <;> first | rfl | (show _ ++ ([]:List T68)=_;simp [It.nodes,its,ah])
theorem tD {t:T68} {a:It} (h:a∈its t):∀ y∈a.nodes,y∈ah t:=fun y hy=>by rw [← jX];exact List.mem_flatMap.mpr ⟨a,h,hy⟩
theorem tC (t:T68):(its t).length≤7:=by cases t <;> exact Nat.le_of_ble_eq_true rfl
def Nst:Nat→T68→Prop
 | 0,_=>False
 | n+1,t=>(ah t).length≤4∧∀ y∈ah t,Nst n y
theorem Ok.nst {W:List Str}:∀ {n:Nat} {bs:List Str} {t:T68},Ok W n bs t→Nst n t
 | 0,bs,t,o=>o.elim
 | n+1,bs,t,⟨o1,_,_,o4⟩=>⟨cC o1,fun y hy=>by obtain ⟨i,hi⟩:=List.mem_iff_getElem?.mp hy;exact (o4 i y hi).nst⟩
theorem Kd.nr (k:Kd):noR k.toD=true:=by
 induction k with
 | to a b ha hb=>show (true && (noR a.toD && (noR b.toD && true)))=true;rw [ha,hb];rfl
 | row a ha=>show (true && (noR a.toD && true))=true;rw [ha];rfl
 | pair a b ha hb=>show (true && (noR a.toD && (noR b.toD && true)))=true;rw [ha,hb];rfl
 | _=>rfl
theorem eJ {l:List D} (h:∀ d∈l,noR d=true):aG l=true:=by
 induction l with
 | nil=>rfl
 | cons d r ih=>show (noR d && aG r)=true;rw [h d (by simp),ih (fun e he=>h e (by simp [he]))];rfl
theorem T68.nr:∀ (n:Nat) (t:T68),Nst n t→noR t.toD=true
 | 0,t,h=>h.elim
 | n+1,t,h=>by
   have kd:=fun y hy=>T68.nr n y (h.2 y hy)
   rw [zJ]
   show aG (dI (its t))=true
   refine eJ fun d hd=>?_
   obtain ⟨a,ha,rfl⟩:=List.mem_map.mp hd
   have am:=tD ha
   cases a with
   | k k=>exact k.nr
   | n y=>exact kd y (am y (by simp [It.nodes]))
   | ns ts=>
     show aG (toDs ts)=true
     rw [cF]
     refine eJ fun d hd=>?_
     obtain ⟨y,hy,rfl⟩:=List.mem_map.mp hd
     exact kd y (am y hy)
   | _=>rfl
inductive Lo:Kd→Kd→Prop
 | unt (k:Kd):Lo .unt k
 | whole:Lo .whole .whole
 | truth:Lo .truth .truth
 | to {a b c d:Kd}:Lo a c→Lo b d→Lo (.to a b) (.to c d)
 | row {a c:Kd}:Lo a c→Lo (.row a) (.row c)
 | pair {a b c d:Kd}:Lo a c→Lo b d→Lo (.pair a b) (.pair c d)
theorem Lo.refl:∀ k:Kd,Lo k k
 | .whole=>.whole
 | .truth=>.truth
 | .unt=>.unt _
 | .to a b=>.to (refl a) (refl b)
 | .row a=>.row (refl a)
 | .pair a b=>.pair (refl a) (refl b)
theorem mP (a:Kd):a.par .unt=none:=by cases a <;> rfl
theorem rF (a b c d:Kd):(Kd.to a b).par (.to c d)=(match a.par c with | some w=>some (("arg":Str) :: w) | none=>(b.par d).map (("res":Str) :: ·)):=rfl
theorem kj (a b c d:Kd):(Kd.pair a b).par (.pair c d)=(match a.par c with | some w=>some (("one":Str) :: w) | none=>(b.par d).map (("two":Str) :: ·)):=rfl
theorem Lo.par {a b c:Kd} (h:Lo a c) (h':Lo b c):a.par b=none:=by
 induction h generalizing b with
 | unt k=>cases b <;> rfl
 | whole=>cases h' <;> rfl
 | truth=>cases h' <;> rfl
 | to h1 h2 i1 i2=>
   cases h' with
   | unt=>rfl
   | to g1 g2=>rw [rF,i1 g1,i2 g2];rfl
 | row h1 i1=>
   cases h' with
   | unt=>rfl
   | row g1=>show (Kd.par _ _).map _=_;rw [i1 g1];rfl
 | pair h1 h2 i1 i2=>
   cases h' with
   | unt=>rfl
   | pair g1 g2=>rw [kj,i1 g1,i2 g2];rfl
theorem Lo.join {a b c:Kd} (h:Lo a c) (h':Lo b c):Lo (a.join b) c:=by
 induction h generalizing b with
 | unt k=>cases b <;> exact .unt _
 | whole=>cases h' <;> first | exact .whole | exact .unt _
 | truth=>cases h' <;> first | exact .truth | exact .unt _
 | to h1 h2 i1 i2=>
   cases h' with
   | unt=>exact .unt _
   | to g1 g2=>exact .to (i1 g1) (i2 g2)
 | row h1 i1=>
   cases h' with
   | unt=>exact .unt _
   | row g1=>exact .row (i1 g1)
 | pair h1 h2 i1 i2=>
   cases h' with
   | unt=>exact .unt _
   | pair g1 g2=>exact .pair (i1 g1) (i2 g2)
theorem sJ (k:Kd):1≤k.dep:=by cases k <;> (unfold Kd.dep;omega)
theorem Lo.dep {a c:Kd} (h:Lo a c):a.dep≤c.dep:=by
 induction h with
 | unt k=>exact sJ k
 | to _ _ h1 h2=>show 1+max _ _≤1+max _ _;omega
 | row _ h1=>show 1+_≤1+_;omega
 | pair _ _ h1 h2=>show 1+max _ _≤1+max _ _;omega
 | _=>exact Nat.le_refl _
def El (E N:Al):Prop:=∀ x k,aq N (.inr x)=some k→∃ k',aq E (.inr x)=some k'∧Lo k' k
theorem El.put {E N:Al} (h:El E N) {k' k:Kd} (hk:Lo k' k) (x:Str):El (ai E (.inr x) k') (ai N (.inr x) k):=by
 intro y c hc
 rw [cJ] at hc ⊢
 by_cases e:(Sum.inr x:Key) = .inr y
 ·rw [ZZ e] at hc ⊢;cases hc;exact ⟨k',rfl,hk⟩
 ·rw [ZY e] at hc ⊢;exact h y c hc
def Ty (q:Nat) (t:T68) (N:Al) (w:Kd):Prop:=∀ m,q≤m→∀ E,El E N→∀ a b,∃ k a' b',lkM m t E a b = .ok (k,a',b')∧Lo k w
section
variable {n:Nat} {t:T68} {E kd wd kd1 wd1:Al}
theorem aO {fs:List Kd} (hw:∀ k∈wks t,k.dep≤4) (h:aR (lkM n) t E (ah t) [] kd wd = .ok (fs,kd1,wd1)) (ho:(aV t fs E).dep≤4):lkM (n+1) t E kd wd = .ok (aV t fs E,ai kd1 (.inl t.pl) (aV t fs E),wd1):=by
 unfold lkM
 rw [ZY (fun c=>by obtain ⟨k,hk,h4⟩:=List.any_eq_true.mp c;have:=hw k hk;have:=of_decide_eq_true h4;omega),h]
 dsimp only
 rw [ZY (by omega)]
theorem aj {f:T68→Al→Al→Al→LR} {y:T68} {r:List T68} {fs:List Kd} {k:Kd} {kd2 wd2 wd3:Al} {o:Except Er (List Kd×Al×Al)} (h1:f y (inN t fs.length fs E) kd wd = .ok (k,kd2,wd2)) (h2:bR t y (fs ++ [k]) wd2 = .ok wd3) (h3:aR f t E r (fs ++ [k]) kd2 wd3=o):aR f t E (y :: r) fs kd wd=o:=by
 show (match f y (inN t fs.length fs E) kd wd with | .error e=>.error e | .ok (k,kd1,wd1)=>match bR t y (fs ++ [k]) wd1 with | .error e=>.error e | .ok wd2=>aR f t E r (fs ++ [k]) kd1 wd2)=o
 rw [h1]
 show (match bR t y (fs ++ [k]) wd2 with | .error e=>.error e | .ok wd2'=>aR f t E r (fs ++ [k]) kd2 wd2')=o
 rw [h2];exact h3
theorem aB {y:T68} {fs:List Kd} {k:Kd} (h3:bT t (fs ++ [k])=false) (h:k.par (az t (fs ++ [k]))=none):bR t y (fs ++ [k]) wd = .ok (ai wd (.inl y.pl) (az t (fs ++ [k]))):=by
 rw [cq h3]
 have e:(fs ++ [k]).getLastD .unt=k:=by simp
 rw [e,h]
end
section
variable {q:Nat} {N:Al} {w:Kd} {p:Int}
theorem ty0 {t:T68} (hk:ah t = []) (hw:wks t = []) (ho:∀ E,El E N→Lo (aV t [] E) w∧(aV t [] E).dep≤4):Ty (q+1) t N w:=by
 intro m hm E he a b
 obtain ⟨m,rfl⟩:∃ k,m=k+1:=⟨m - 1,by omega⟩
 exact ⟨_,_,_,aO (fs:=[]) (by rw [hw];exact fun _ h=>(by cases h)) (by rw [hk];rfl) (ho E he).2,(ho E he).1⟩
theorem uO {x:Str} (h:aq N (.inr x)=some w) (hd:w.dep≤4):Ty (q+1) (.name p x) N w:=ty0 rfl rfl fun E he=>by
 obtain ⟨k',h1,h2⟩:=he x w h
 have e:aV (.name p x) [] E=k':=by show (aq E (.inr x)).getD .unt=k';rw [h1];rfl
 rw [e];exact ⟨h2,Nat.le_trans h2.dep hd⟩
theorem AD {x:Str} {a:Kd} {b:T68} (h:Ty q b (ai N (.inr x) a) w) (ha:a.dep≤3) (hd:w.dep≤3):Ty (q+1) (.fn p x a b) N (.to a w):=by
 intro m hm E he s1 s2
 obtain ⟨m,rfl⟩:∃ k,m=k+1:=⟨m - 1,by omega⟩
 obtain ⟨k,a1,b1,h1,l1⟩:=h m (by omega) _ (he.put (.refl a) x) s1 s2
 have d:=l1.dep
 refine ⟨_,_,_,aO (fs:=[k]) (fun z hz=>by rw [List.mem_singleton.mp hz];omega) (aj (fs:=[]) h1 (aB rfl (Lo.par (.refl k) (.refl k))) rfl) (by show 1+max a.dep k.dep≤4;omega),.to (.refl a) l1⟩
theorem yC {f x:Str} {a g:Kd} {b:T68} (h:Ty q b (ai (ai N (.inr f) (.to a g)) (.inr x) a) g) (ha:a.dep≤3) (hd:g.dep≤3):Ty (q+1) (.slf p f x a g b) N (.to a g):=by
 intro m hm E he s1 s2
 obtain ⟨m,rfl⟩:∃ k,m=k+1:=⟨m - 1,by omega⟩
 obtain ⟨k,a1,b1,h1,l1⟩:=h m (by omega) _ ((he.put (.refl (.to a g)) f).put (.refl a) x) s1 s2
 refine ⟨_,_,_,aO (fs:=[k]) (fun z hz=>by simp [wks] at hz;rcases hz with rfl | rfl <;> omega) (aj (fs:=[]) h1 (aB rfl (Lo.par l1 (.refl g))) rfl) (by show 1+max a.dep g.dep≤4;omega),.refl _⟩
theorem uN {k:Kd} {a b:T68} (ha:Ty q a N (.to k w)) (hb:Ty q b N k) (hd:w.dep≤4):Ty (q+1) (.call p a b) N w:=by
 intro m hm E he s1 s2
 obtain ⟨m,rfl⟩:∃ k,m=k+1:=⟨m - 1,by omega⟩
 obtain ⟨c,a1,b1,h1,l1⟩:=ha m (by omega) E he s1 s2
 have go:∀ (v r:Kd),c.stp .arg=some v→c.stp .res=some r→Lo v k→Lo r w→c.par (az (.call p a b) [c])=none→∃ k' x y,lkM (m+1) (.call p a b) E s1 s2 = .ok (k',x,y)∧Lo k' w:=fun v r e1 e2 l2 l3 hp=>by
  obtain ⟨d,a2,b2,h2,l4⟩:=hb m (by omega) E he a1 (ai b1 (.inl a.pl) (az (.call p a b) [c]))
  have wv:az (.call p a b) ([c] ++ [d])=v:=by show (c.stp .arg).getD .unt=v;rw [e1];rfl
  have ow:aV (.call p a b) [c,d] E=r:=by show (c.stp .res).getD .unt=r;rw [e2];rfl
  refine ⟨_,_,_,aO (fs:=[c,d]) (fun z hz=>by cases hz) (aj (fs:=[]) h1 (aB rfl hp) (aj (fs:=[c]) h2 (aB rfl (by rw [wv];exact Lo.par l4 l2)) rfl)) (by rw [ow];have:=l3.dep;omega),by rw [ow];exact l3⟩
 cases l1 with
 | unt=>exact go .unt .unt rfl rfl (.unt _) (.unt _) rfl
 | to g1 g2=>exact go _ _ rfl rfl g1 g2 (Lo.par (.refl _) (.refl _))
theorem yz {x:Str} {k:Kd} {a b:T68} (ha:Ty q a N k) (hb:Ty q b (ai N (.inr x) k) w) (hd:w.dep≤4):Ty (q+1) (.lt p x a b) N w:=by
 intro m hm E he s1 s2
 obtain ⟨m,rfl⟩:∃ k,m=k+1:=⟨m - 1,by omega⟩
 obtain ⟨c,a1,b1,h1,l1⟩:=ha m (by omega) E he s1 s2
 obtain ⟨d,a2,b2,h2,l2⟩:=hb m (by omega) _ (he.put l1 x) a1 (ai b1 (.inl a.pl) c)
 have:=l2.dep
 exact ⟨_,_,_,aO (fs:=[c,d]) (fun z hz=>by cases hz) (aj (fs:=[]) h1 (aB rfl (Lo.par (.refl c) (.refl c))) (aj (fs:=[c]) h2 (aB rfl (Lo.par (.refl d) (.refl d))) rfl)) (by show d.dep≤4;omega),l2⟩
theorem yy {c a b:T68} (hc:Ty q c N .truth) (ha:Ty q a N w) (hb:Ty q b N w) (hd:w.dep≤4):Ty (q+1) (.iff p c a b) N w:=by
 intro m hm E he s1 s2
 obtain ⟨m,rfl⟩:∃ k,m=k+1:=⟨m - 1,by omega⟩
 obtain ⟨x,a1,b1,h1,l1⟩:=hc m (by omega) E he s1 s2
 obtain ⟨y,a2,b2,h2,l2⟩:=ha m (by omega) E he a1 (ai b1 (.inl c.pl) .truth)
 obtain ⟨z,a3,b3,h3,l3⟩:=hb m (by omega) E he a2 (ai b2 (.inl a.pl) y)
 have hi:bR (.iff p c a b) b [x,y,z] b3 = .ok (ai (ai b3 (.inl a.pl) (y.join z)) (.inl b.pl) (y.join z)):=by rw [bZ,Lo.par l3 l2]
 have lj:=Lo.join l2 l3
 have:=lj.dep
 exact ⟨_,_,_,aO (fs:=[x,y,z]) (fun z hz=>by cases hz) (aj (fs:=[]) h1 (aB rfl (Lo.par l1 .truth)) (aj (fs:=[x]) h2 (aB rfl (Lo.par (.refl y) (.refl y))) (aj (fs:=[x,y]) h3 hi rfl))) (by show (y.join z).dep≤4;omega),lj⟩
theorem yx {o:Sg} {a b:T68} (ha:Ty q a N .whole) (hb:Ty q b N .whole) (hw:aV (.bin p o a b) [] []=w):Ty (q+1) (.bin p o a b) N w:=by
 intro m hm E he s1 s2
 obtain ⟨m,rfl⟩:∃ k,m=k+1:=⟨m - 1,by omega⟩
 obtain ⟨c,a1,b1,h1,l1⟩:=ha m (by omega) E he s1 s2
 obtain ⟨d,a2,b2,h2,l2⟩:=hb m (by omega) E he a1 (ai b1 (.inl a.pl) .whole)
 subst hw
 exact ⟨_,_,_,aO (fs:=[c,d]) (fun z hz=>by cases hz) (aj (fs:=[]) h1 (aB rfl (Lo.par l1 .whole)) (aj (fs:=[c]) h2 (aB rfl (Lo.par l2 .whole)) rfl)) (by cases o <;> exact Nat.le_of_ble_eq_true rfl),.refl _⟩
theorem AC {k k':Kd} {a:T68} (ha:Ty q a N k') (hp:∀ c,Lo c k'→c.par k=none) (hd:k.dep≤4) (hl:Lo k w):Ty (q+1) (.as_ p k a) N w:=by
 intro m hm E he s1 s2
 obtain ⟨m,rfl⟩:∃ k,m=k+1:=⟨m - 1,by omega⟩
 obtain ⟨c,a1,b1,h1,l1⟩:=ha m (by omega) E he s1 s2
 exact ⟨_,_,_,aO (fs:=[c]) (fun z hz=>by rw [List.mem_singleton.mp hz];exact hd) (aj (fs:=[]) h1 (aB rfl (hp c l1)) rfl) hd,hl⟩
theorem yB {k:Kd} {ts:List T68} (h:∀ t∈ts,∃ w,Ty q t N w∧∀ c,Lo c w→c.par k=none) (hd:k.dep≤3):Ty (q+1) (.row p k ts) N (.row k):=by
 intro m hm E he s1 s2
 obtain ⟨m,rfl⟩:∃ k,m=k+1:=⟨m - 1,by omega⟩
 have lp:∀ (r:List T68) (fs:List Kd) (a b:Al),(∀ t∈r,t∈ts)→∃ fs' a' b',aR (lkM m) (.row p k ts) E r fs a b = .ok (fs',a',b'):=by
  intro r
  induction r with
  | nil=>intro fs a b _;exact ⟨_,_,_,rfl⟩
  | cons t r ih=>
    intro fs a b hr
    obtain ⟨w,h1,h2⟩:=h t (hr t (by simp))
    obtain ⟨c,a1,b1,h3,l1⟩:=h1 m (by omega) E he a b
    obtain ⟨fs',a',b',h4⟩:=ih (fs ++ [c]) a1 (ai b1 (.inl t.pl) k) (fun t ht=>hr t (by simp [ht]))
    exact ⟨fs',a',b',aj h3 (aB rfl (h2 c l1)) h4⟩
 obtain ⟨fs,a',b',h5⟩:=lp ts [] s1 s2 (fun _ h=>h)
 exact ⟨_,_,_,aO (fs:=fs) (fun z hz=>by rw [List.mem_singleton.mp hz];omega) h5 (by show 1+k.dep≤4;omega),.refl _⟩
theorem yw {a b:T68} (ha:Ty q a N (.row w)) (hb:Ty q b N .whole) (hd:w.dep≤4):Ty (q+1) (.att p a b) N w:=by
 intro m hm E he s1 s2
 obtain ⟨m,rfl⟩:∃ k,m=k+1:=⟨m - 1,by omega⟩
 obtain ⟨c,a1,b1,h1,l1⟩:=ha m (by omega) E he s1 s2
 obtain ⟨d,a2,b2,h2,l2⟩:=hb m (by omega) E he a1 (ai b1 (.inl a.pl) (az (.att p a b) [c]))
 cases l1 with
 | unt=>exact ⟨_,_,_,aO (fs:=[.unt,d]) (fun z hz=>by cases hz) (aj (fs:=[]) h1 (aB rfl rfl) (aj (fs:=[.unt]) h2 (aB rfl (Lo.par l2 .whole)) rfl)) (Nat.le_of_ble_eq_true rfl),.unt _⟩
 | row g=>have:=g.dep;exact ⟨_,_,_,aO (fs:=[.row _,d]) (fun z hz=>by cases hz) (aj (fs:=[]) h1 (aB rfl (Lo.par (.refl _) (.refl _))) (aj (fs:=[.row _]) h2 (aB rfl (Lo.par l2 .whole)) rfl)) (by show Kd.dep _≤4;exact Nat.le_trans g.dep hd),g⟩
theorem uQ {k:Kd} {a:T68} (ha:Ty q a N (.row k)):Ty (q+1) (.size p a) N .whole:=by
 intro m hm E he s1 s2
 obtain ⟨m,rfl⟩:∃ k,m=k+1:=⟨m - 1,by omega⟩
 obtain ⟨c,a1,b1,h1,l1⟩:=ha m (by omega) E he s1 s2
 refine ⟨_,_,_,aO (fs:=[c]) (fun z hz=>by cases hz) (aj (fs:=[]) h1 (aB rfl ?_) rfl) (Nat.le_of_ble_eq_true rfl),.whole⟩
 cases l1 with
 | unt=>rfl
 | row g=>exact Lo.par (.refl _) (.refl _)
theorem yA {k:Kd} {a:T68} (ha:Ty q a N (.pair w k)) (hd:w.dep≤4):Ty (q+1) (.one p a) N w:=by
 intro m hm E he s1 s2
 obtain ⟨m,rfl⟩:∃ k,m=k+1:=⟨m - 1,by omega⟩
 obtain ⟨c,a1,b1,h1,l1⟩:=ha m (by omega) E he s1 s2
 cases l1 with
 | unt=>exact ⟨_,_,_,aO (fs:=[.unt]) (fun z hz=>by cases hz) (aj (fs:=[]) h1 (aB rfl rfl) rfl) (Nat.le_of_ble_eq_true rfl),.unt _⟩
 | pair g g'=>exact ⟨_,_,_,aO (fs:=[.pair _ _]) (fun z hz=>by cases hz) (aj (fs:=[]) h1 (aB rfl (Lo.par (.refl _) (.refl _))) rfl) (Nat.le_trans g.dep hd),g⟩
theorem yD {k:Kd} {a:T68} (ha:Ty q a N (.pair k w)) (hd:w.dep≤4):Ty (q+1) (.two p a) N w:=by
 intro m hm E he s1 s2
 obtain ⟨m,rfl⟩:∃ k,m=k+1:=⟨m - 1,by omega⟩
 obtain ⟨c,a1,b1,h1,l1⟩:=ha m (by omega) E he s1 s2
 cases l1 with
 | unt=>exact ⟨_,_,_,aO (fs:=[.unt]) (fun z hz=>by cases hz) (aj (fs:=[]) h1 (aB rfl rfl) rfl) (Nat.le_of_ble_eq_true rfl),.unt _⟩
 | pair g' g=>exact ⟨_,_,_,aO (fs:=[.pair _ _]) (fun z hz=>by cases hz) (aj (fs:=[]) h1 (aB rfl (Lo.par (.refl _) (.refl _))) rfl) (Nat.le_trans g.dep hd),g⟩
theorem uP {k l:Kd} {a b:T68} (ha:Ty q a N k) (hb:Ty q b N l) (hk:k.dep≤3) (hl:l.dep≤3):Ty (q+1) (.pair p a b) N (.pair k l):=by
 intro m hm E he s1 s2
 obtain ⟨m,rfl⟩:∃ k,m=k+1:=⟨m - 1,by omega⟩
 obtain ⟨c,a1,b1,h1,l1⟩:=ha m (by omega) E he s1 s2
 obtain ⟨d,a2,b2,h2,l2⟩:=hb m (by omega) E he a1 (ai b1 (.inl a.pl) c)
 have:=l1.dep
 have:=l2.dep
 exact ⟨_,_,_,aO (fs:=[c,d]) (fun z hz=>by cases hz) (aj (fs:=[]) h1 (aB rfl (Lo.par (.refl c) (.refl c))) (aj (fs:=[c]) h2 (aB rfl (Lo.par (.refl d) (.refl d))) rfl)) (by show 1+max c.dep d.dep≤4;omega),.pair l1 l2⟩
theorem Ty.up {t:T68} {q':Nat} (h:Ty q t N w) (hq:q≤q'):Ty q' t N w:=fun m hm=>h m (by omega)
end
theorem yk {l:Al} (h:(ksA l).Nodup) (k:Key) (v:Kd):(ksA (ai l k v)).Nodup:=by
 unfold ai
 split
 ·rw [jb];exact h
 ·rename_i c
  unfold ksA at h ⊢
  rw [List.map_append]
  refine List.nodup_append.mpr ⟨h,by simp,fun a ha b hb=>?_⟩
  have hb:b=k:=by simpa using hb
  subst hb
  obtain ⟨p,hp,rfl⟩:=List.mem_map.mp ha
  exact fun e=>c (List.any_eq_true.mpr ⟨p,hp,ZW e⟩)
theorem rN {l:Al} {k x:Key} {v:Kd} (h:x∈ksA (ai l k v)):x∈ksA l∨x=k:=by
 unfold ai at h
 split at h
 ·rw [jb] at h;exact .inl h
 ·unfold ksA at h ⊢
  rw [List.map_append] at h
  rcases List.mem_append.mp h with h | h
  ·exact .inl h
  ·exact .inr (by simpa using h)
theorem sW {l:Al} {k:Key} (h:(aq l k).isSome=true):k∈ksA l:=by
 induction l with
 | nil=>cases h
 | cons p r ih=>
   have h:(if p.1=k then some p.2 else aq r k).isSome=true:=h
   show k∈p.1 :: ksA r
   by_cases c:p.1=k
   ·rw [c];exact List.mem_cons_self
   ·rw [ZY c] at h;exact List.mem_cons_of_mem _ (ih h)
structure KI (a a1:Al) (ps:List Int):Prop where
 nd:(ksA a).Nodup→(ksA a1).Nodup
 ks:∀ x∈ksA a1,x∈ksA a∨∃ p∈ps,x = .inl p
theorem KI.refl {a:Al} {ps:List Int}:KI a a ps:=⟨id,fun _ h=>.inl h⟩
theorem KI.trans {a b c:Al} {ps:List Int} (h:KI a b ps) (h':KI b c ps):KI a c ps:=⟨fun n=>h'.nd (h.nd n),fun x hx=>(h'.ks x hx).elim (h.ks x) .inr⟩
theorem KI.mono {a b:Al} {ps qs:List Int} (h:KI a b ps) (s:∀ p∈ps,p∈qs):KI a b qs:=⟨h.nd,fun x hx=>(h.ks x hx).imp_right fun ⟨p,hp,e⟩=>⟨p,s p hp,e⟩⟩
theorem KI.put {a:Al} {p:Int} {ps:List Int} (h:p∈ps) (v:Kd):KI a (ai a (.inl p) v) ps:=⟨fun n=>yk n _ _,fun x hx=>(rN hx).imp_right fun e=>⟨p,h,e⟩⟩
theorem aU {n:Nat} {t:T68} (h:1≤n):t.pl∈ak n t:=by
 cases n with
 | zero=>omega
 | succ n=>exact List.mem_cons_self
theorem dO {n:Nat} {t y:T68} (h:y∈ah t):∀ p∈ak n y,p∈ak (n+1) t:=fun p hp=>List.mem_cons_of_mem _ (List.mem_flatMap.mpr ⟨y,h,hp⟩)
theorem te {n:Nat} {t y:T68} {fs:List Kd} {wd w1:Al} (hn:1≤n) (hy:y∈ah t) (e:bR t y fs wd = .ok w1):KI wd w1 (ak (n+1) t):=by
 by_cases c:bT t fs=true
 ·obtain ⟨p,v,a,b,f0,f,g,rfl,rfl⟩:=cR c
  ·skip
   ·skip
    rw [bZ] at e
    cases q:g.par f with
    | some w=>rw [q] at e;cases e
    | none=>
      rw [q] at e
      cases e
      exact (KI.put (dO (t:=.iff p v a b) (y:=a) (show a∈[v,a,b] by simp) _ (aU hn)) _).trans (KI.put (dO (t:=.iff p v a b) (y:=b) (show b∈[v,a,b] by simp) _ (aU hn)) _)
 ·have c:bT t fs=false:=by simpa using c
  rw [cq c] at e
  cases q:(fs.getLastD .unt).par (az t fs) with
  | some w=>rw [q] at e;cases e
  | none=>rw [q] at e;cases e;exact KI.put (dO hy _ (aU hn)) _
theorem mt {n:Nat} (hn:1≤n) (ih:∀ (t:T68) (N kd wd:Al) (k:Kd) (kd1 wd1:Al),lkM n t N kd wd = .ok (k,kd1,wd1)→KI kd kd1 (ak n t)∧KI wd wd1 (ak n t)) (t:T68) (N:Al):∀ (r:List T68),(∀ y∈r,y∈ah t)→∀ (fs:List Kd) (kd wd:Al) (fs1:List Kd) (kd1 wd1:Al),aR (lkM n) t N r fs kd wd = .ok (fs1,kd1,wd1)→KI kd kd1 (ak (n+1) t)∧KI wd wd1 (ak (n+1) t)
 | [],_,fs,kd,wd,fs1,kd1,wd1,e=>by cases e;exact ⟨.refl,.refl⟩
 | y :: r,hr,fs,kd,wd,fs1,kd1,wd1,e=>by
   have hy:=hr y (by simp)
   obtain ⟨k,kd2,wd2,wd3,q1,q2,e⟩:=fW e
   ·skip
    obtain ⟨g1,g2⟩:=ih y _ _ _ _ _ _ q1
    ·skip
     obtain ⟨g3,g4⟩:=mt hn ih t N r (fun z hz=>hr z (by simp [hz])) _ _ _ _ _ _ e
     exact ⟨(g1.mono (dO hy)).trans g3,((g2.mono (dO hy)).trans (te hn hy q2)).trans g4⟩
theorem vD:∀ (n:Nat) (t:T68) (N kd wd:Al) (k:Kd) (kd1 wd1:Al),lkM n t N kd wd = .ok (k,kd1,wd1)→KI kd kd1 (ak n t)∧KI wd wd1 (ak n t)
 | 0,t,N,kd,wd,k,kd1,wd1,e=>by cases e
 | n+1,t,N,kd,wd,k,kd1,wd1,e=>by
   obtain ⟨fs,kd2,_,q1,_,rfl,rfl⟩:=ll e
   have go:KI kd kd2 (ak (n+1) t)∧KI wd wd1 (ak (n+1) t):=by
    rcases Nat.eq_zero_or_pos n with hz | hz
    ·rw [hz] at q1
     have q:=lb q1
     rw [q] at q1
     cases q1
     exact ⟨.refl,.refl⟩
    ·exact mt hz (vD n) t N (ah t) (fun _ h=>h) _ _ _ _ _ _ q1
   exact ⟨go.1.trans (KI.put (aU (by omega)) _),go.2⟩
theorem oP {n:Nat} {t:T68} {kd wd:Al} (hn:1≤n) (e:aT n t = .ok (kd,wd)):KI [] kd (ak n t)∧KI [] wd (ak n t):=by
 unfold aT at e
 cases q:lkM n t [] [] [] with
 | error e'=>rw [q] at e;cases e
 | ok v=>
   obtain ⟨k,kd1,wd1⟩:=v
   rw [q] at e
   cases e
   obtain ⟨g1,g2⟩:=vD n t [] [] [] k _ _ q
   exact ⟨g1,g2.trans (KI.put (aU hn) _)⟩
theorem qP {l:Al} {ps:List Int} (h:KI [] l ps) (np:ps.Nodup) (h2:∀ p∈ps,(aq l (.inl p)).isSome=true):l.length=ps.length:=by
 have nd:(ksA l).Nodup:=h.nd List.nodup_nil
 have nm:(ps.map (Sum.inl:Int→Key)).Nodup:=by
  unfold List.Nodup at np ⊢
  exact List.Pairwise.map _ (fun a b h e=>h (Sum.inl.inj e)) np
 have p:(ksA l).Perm (ps.map (Sum.inl:Int→Key)):=(List.perm_ext_iff_of_nodup nd nm).mpr fun x=>⟨fun hx=>by
  rcases h.ks x hx with hx | ⟨p,hp,rfl⟩
  ·cases hx
  ·exact List.mem_map.mpr ⟨p,hp,rfl⟩,fun hx=>by
  obtain ⟨p,hp,rfl⟩:=List.mem_map.mp hx
  exact sW (h2 p hp)⟩
 have:=p.length_eq
 unfold ksA at this
 rw [List.length_map,List.length_map] at this
 exact this
def Un (a a1:Al) (ps:List Int):Prop:=∀ p,p ∉ ps→aq a1 (.inl p)=aq a (.inl p)
theorem Un.refl {a:Al} {ps:List Int}:Un a a ps:=fun _ _=>rfl
theorem Un.trans {a b c:Al} {ps:List Int} (h:Un a b ps) (h':Un b c ps):Un a c ps:=fun p hp=>(h' p hp).trans (h p hp)
theorem Un.mono {a b:Al} {ps qs:List Int} (h:Un a b ps) (s:∀ p∈ps,p∈qs):Un a b qs:=fun p hp=>h p fun m=>hp (s p m)
theorem Un.put {a:Al} {q:Int} {v:Kd} {ps:List Int} (h:q∈ps):Un a (ai a (.inl q) v) ps:=fun p hp=>by
 rw [cJ,ZY fun e=>hp (by cases e;exact h)]
theorem wC {a:Al} {q p:Int} {v:Kd} (h:q≠p):aq (ai a (.inl q) v) (.inl p)=aq a (.inl p):=by rw [cJ,ZY fun e=>h (by cases e;rfl)]
theorem eD {a:Al} {q:Int} {v:Kd}:aq (ai a (.inl q) v) (.inl q)=some v:=by rw [cJ,ZZ rfl]
theorem tU (a b:Kd):Lo (a.join b) a∧Lo (a.join b) b:=by
 induction a generalizing b with
 | to a1 a2 i1 i2=>cases b <;> first | exact ⟨.to (i1 _).1 (i2 _).1,.to (i1 _).2 (i2 _).2⟩ | exact ⟨.unt _,.unt _⟩
 | row a1 i1=>cases b <;> first | exact ⟨.row (i1 _).1,.row (i1 _).2⟩ | exact ⟨.unt _,.unt _⟩
 | pair a1 a2 i1 i2=>cases b <;> first | exact ⟨.pair (i1 _).1 (i2 _).1,.pair (i1 _).2 (i2 _).2⟩ | exact ⟨.unt _,.unt _⟩
 | whole=>cases b <;> first | exact ⟨.whole,.whole⟩ | exact ⟨.unt _,.unt _⟩
 | truth=>cases b <;> first | exact ⟨.truth,.truth⟩ | exact ⟨.unt _,.unt _⟩
 | unt=>cases b <;> exact ⟨.unt _,.unt _⟩
theorem eM:∀ {a b:Kd},a.par b=none→b.par a=none
 | .to a c,.to b d,h=>by
   rw [rF] at h ⊢
   cases q:a.par b with
   | some w=>rw [q] at h;cases h
   | none=>
     rw [q] at h
     rw [eM q]
     have h:(c.par d).map (("res":Str) :: ·)=none:=h
     show (d.par c).map (("res":Str) :: ·)=none
     rw [eM (Option.map_eq_none_iff.mp h)];rfl
 | .pair a c,.pair b d,h=>by
   rw [kj] at h ⊢
   cases q:a.par b with
   | some w=>rw [q] at h;cases h
   | none=>
     rw [q] at h
     rw [eM q]
     have h:(c.par d).map (("two":Str) :: ·)=none:=h
     show (d.par c).map (("two":Str) :: ·)=none
     rw [eM (Option.map_eq_none_iff.mp h)];rfl
 | .row a,.row b,h=>by
   have h:(a.par b).map (("item":Str) :: ·)=none:=h
   show (b.par a).map (("item":Str) :: ·)=none
   rw [eM (Option.map_eq_none_iff.mp h)];rfl
 | .whole,b,h=>by cases b <;> first | rfl | cases h
 | .truth,b,h=>by cases b <;> first | rfl | cases h
 | .unt,b,h=>mP b
 | a,.unt,h=>rfl
def due (t:T68) (i:Nat) (fs:List Kd):Kd:=match t,i,fs with
 | .iff ..,1,[_,f,g]=>f.join g
 | .iff ..,2,[_,f,g]=>f.join g
 | _,_,_=>az t (fs.take (i+1))
structure Hp (P:T68→Al→Prop) (t:T68) (N kd wd:Al) (i:Nat) (y:T68) (fs:List Kd) (f:Kd):Prop where
 k:aq kd (.inl y.pl)=some f
 w:aq wd (.inl y.pl)=some (due t i fs)
 p:f.par (due t i fs)=none
 h:P y (inN t i (fs.take i) N)
def Hk (P:T68→Al→Prop) (t:T68) (N kd wd:Al) (l:List T68) (fs:List Kd):Prop:=fs.length=l.length∧∀ (i:Nat) (y:T68) (f:Kd),l[i]? = some y→fs[i]? = some f→Hp P t N kd wd i y fs f
def Ip (t:T68) (fs:List Kd):Prop:=∀ p c a b f0 f g,t = .iff p c a b→fs = [f0,f,g]→f.par g=none
def Hs:Nat→T68→Al→Al→Al→Prop
 | 0,_,_,_,_=>False
 | n+1,t,N,kd,wd=>∃ fs,Hk (fun y N=>Hs n y N kd wd) t N kd wd (ah t) fs∧Ip t fs∧(∀ k∈wks t,k.dep≤4)∧aq kd (.inl t.pl)=some (aV t fs N)
theorem rI {n:Nat} (hn:1≤n) (y:T68):ak n y=y.pl :: (ak n y).tail:=by
 cases n with
 | zero=>omega
 | succ n=>rfl
theorem Hs.un {kd wd kd' wd':Al} {ps qs:List Int} (u:Un kd kd' ps) (v:Un wd wd' qs):∀ {n:Nat} {t:T68} {N:Al},Hs n t N kd wd→(∀ p∈ak n t,p ∉ ps)→(∀ p∈(ak n t).tail,p ∉ qs)→Hs n t N kd' wd'
 | 0,_,_,h,_,_=>h.elim
 | n+1,t,N,h,h1,h2=>by
   obtain ⟨fs,⟨l,g⟩,ip,wk,e⟩:=h
   refine ⟨fs,⟨l,fun i y f hy hf=>?_⟩,ip,wk,(u _ (h1 _ List.mem_cons_self)).trans e⟩
   obtain ⟨gk,gw,gp,gh⟩:=g i y f hy hf
   have m:∀ p∈ak n y,p∈(ak (n+1) t).tail:=fun p hp=>List.mem_flatMap.mpr ⟨y,List.mem_of_getElem? hy,hp⟩
   have hn:1≤n:=by
    cases n with
    | zero=>exact gh.elim
    | succ n=>omega
   have ym:=m y.pl (aU hn)
   exact ⟨(u _ (h1 _ (List.mem_cons_of_mem _ ym))).trans gk,(v _ (h2 _ ym)).trans gw,gp,gh.un u v (fun p hp=>h1 p (List.mem_cons_of_mem _ (m p hp))) fun p hp=>h2 p (m p (List.mem_of_mem_tail hp))⟩
theorem Aw {fs:List Kd} {k a b c:Kd} (h:fs ++ [k] = [a,b,c]):fs = [a,b]∧k=c:=by
 have:=List.append_inj' (s₁:=fs) (t₁:=[k]) (s₂:=[a,b]) (t₂:=[c]) h rfl
 exact ⟨this.1,List.singleton_inj.mp this.2⟩
theorem fM {t:T68} {fs:List Kd} {i:Nat} (h:bT t fs=false):due t i fs=az t (fs.take (i+1)):=by
 unfold due
 split
 ·cases h
 ·cases h
 ·rfl
theorem oE {t:T68} {fs:List Kd} {y:T68} (h:(ah t)[fs.length]? = some y):bT t fs=false:=by
 refine Bool.eq_false_iff.mpr fun c=>?_
 obtain ⟨p,v,a,b,f0,f,g,rfl,rfl⟩:=cR c
 cases h
theorem mq {n:Nat} (hn:1≤n) (ih:∀ (t:T68) (N kd wd:Al) (k:Kd) (kd1 wd1:Al),(ak n t).Nodup→lkM n t N kd wd = .ok (k,kd1,wd1)→aq kd1 (.inl t.pl)=some k∧Hs n t N kd1 wd1∧Un kd kd1 (ak n t)∧Un wd wd1 (ak n t).tail) (t:T68) (N:Al) (nd:((ah t).flatMap (ak n)).Nodup) :
 ∀ (r P:List T68) (fs:List Kd) (kd wd:Al) (fs1:List Kd) (kd1 wd1:Al),ah t=P ++ r→Hk (fun y N=>Hs n y N kd wd) t N kd wd P fs∧Ip t fs→aR (lkM n) t N r fs kd wd = .ok (fs1,kd1,wd1)→(Hk (fun y N=>Hs n y N kd1 wd1) t N kd1 wd1 (ah t) fs1∧Ip t fs1)∧Un kd kd1 ((ah t).flatMap (ak n))∧Un wd wd1 ((ah t).flatMap (ak n))
 | [],P,fs,kd,wd,fs1,kd1,wd1,hk,d,e=>by
   cases e
   rw [List.append_nil] at hk
   rw [hk]
   exact ⟨d,.refl,.refl⟩
 | y :: r,P,fs,kd,wd,fs1,kd1,wd1,hk,⟨⟨hf,d⟩,ip⟩,e=>by
   have nd2:=nd
   rw [hk,List.flatMap_append,List.flatMap_cons] at nd2
   obtain ⟨_,nd3,dis⟩:=List.nodup_append.mp nd2
   obtain ⟨ndy,_,_⟩:=List.nodup_append.mp nd3
   have out:∀ z∈P,∀ p∈ak n z,p ∉ ak n y:=fun z hz p hp hq=>dis p (List.mem_flatMap.mpr ⟨z,hz,hp⟩) p (List.mem_append_left _ hq) rfl
   have ymem:y∈ah t:=by rw [hk];simp
   have ky:(ah t)[fs.length]? = some y:=by rw [hk,hf,List.getElem?_append_right (Nat.le_refl _),Nat.sub_self];rfl
   have sub:∀ p∈ak n y,p∈(ah t).flatMap (ak n):=fun p hp=>List.mem_flatMap.mpr ⟨y,ymem,hp⟩
   have py:=aU (t:=y) hn
   have yt:∀ p∈(ak n y).tail,y.pl≠p:=fun p hp e=>by
    have:=ndy
    rw [rI hn y] at this
    exact (List.nodup_cons.mp this).1 (e ▸ hp)
   obtain ⟨k,kd2,wd2,wd3,q1,q2,e⟩:=fW e
   obtain ⟨c1,c2,u1,u2⟩:=ih y _ _ _ _ _ _ ndy q1
   have old:∀ (i:Nat) (z:T68) (f:Kd),P[i]? = some z→fs[i]? = some f→aq kd2 (.inl z.pl)=some f∧aq wd2 (.inl z.pl)=some (az t (fs.take (i+1)))∧f.par (az t (fs.take (i+1)))=none∧Hs n z (inN t i (fs.take i) N) kd2 wd2:=fun i z f hz hfi=>by
    obtain ⟨g1,g2,g3,g4⟩:=d i z f hz hfi
    rw [fM (oE ky)] at g2 g3
    have o:=out z (List.mem_of_getElem? hz)
    have ot:∀ p∈ak n z,p ∉ (ak n y).tail:=fun p hp hq=>o p hp (List.mem_of_mem_tail hq)
    exact ⟨(u1 _ (o _ (aU hn))).trans g1,(u2 _ (ot _ (aU hn))).trans g2,g3,g4.un u1 u2 o fun p hp=>ot p (List.mem_of_mem_tail hp)⟩
   have step:(Hk (fun y N=>Hs n y N kd2 wd3) t N kd2 wd3 (P ++ [y]) (fs ++ [k])∧Ip t (fs ++ [k]))∧Un wd2 wd3 ((ah t).flatMap (ak n)):=by
    by_cases c:bT t (fs ++ [k])=true
    ·obtain ⟨p,v,a,b,f0,f,g,rfl,ef⟩:=cR c
     have hk:[v,a,b]=P ++ y :: r:=hk
     obtain ⟨rfl,rfl⟩:=Aw ef
     have hP:P = [v,a]∧y=b:=by
      match P,hf,hk with
      | [x1,x2],_,hk=>simp at hk;exact ⟨by rw [hk.1,hk.2.1],hk.2.2.1.symm⟩
     obtain ⟨rfl,rfl⟩:=hP
     have q2:bR (.iff p v a y) y [f0,f,k] wd2 = .ok wd3:=q2
     rw [bZ] at q2
     cases qp:k.par f with
     | some w=>rw [qp] at q2;cases q2
     | none=>
       rw [qp] at q2
       cases q2
       have ay:a.pl≠y.pl:=fun e=>out a (by simp) a.pl (aU hn) (e ▸ py)
       have vy:v.pl≠y.pl:=fun e=>out v (by simp) v.pl (aU hn) (e ▸ py)
       have nd4:=nd2
       rw [List.flatMap_cons,List.flatMap_cons,List.flatMap_nil,List.append_nil] at nd4
       have va:∀ p∈ak n v,p ∉ ak n a:=fun p h1 h2=>(List.nodup_append.mp (List.nodup_append.mp nd4).1).2.2 p h1 p h2 rfl
       have am:a.pl∈(ah (.iff p v a y)).flatMap (ak n):=List.mem_flatMap.mpr ⟨a,(show a∈[v,a,y] by simp),aU hn⟩
       have uw:Un wd2 (ai (ai wd2 (.inl a.pl) (f.join k)) (.inl y.pl) (f.join k)) [a.pl,y.pl]:=(Un.put (by simp)).trans (Un.put (by simp))
       have lo:=tU f k
       refine ⟨⟨⟨by simp,fun i z g hz hg=>?_⟩,fun _ _ _ _ _ _ _ _ e=>by cases e;exact eM qp⟩,(Un.put am).trans (Un.put (sub _ py))⟩
       match i,hz,hg with
       | 0,hz,hg=>
         cases hz;cases hg
         obtain ⟨g1,g2,g3,g4⟩:=old 0 v f0 rfl rfl
         have av:v.pl≠a.pl:=fun e=>va _ (aU hn) (e ▸ aU hn)
         exact ⟨g1,(uw _ (by simp;exact ⟨av,vy⟩)).trans g2,g3,g4.un .refl uw (ps:=[]) (fun _ _ h=>by cases h) fun p hp h=>by
          have hp:=List.mem_of_mem_tail hp
          rcases List.mem_cons.mp h with rfl | h
          ·exact va _ hp (aU hn)
          ·rw [List.mem_singleton.mp h] at hp;exact out v (by simp) _ hp py⟩
       | 1,hz,hg=>
         cases hz;cases hg
         obtain ⟨g1,g2,g3,g4⟩:=old 1 a f rfl rfl
         exact ⟨g1,by rw [wC ay.symm,eD];rfl,Lo.par (.refl f) lo.1,g4.un .refl uw (ps:=[]) (fun _ _ h=>by cases h) fun p hp h=>by
          rcases List.mem_cons.mp h with rfl | h
          ·have:=(List.nodup_append.mp (List.nodup_append.mp nd4).1).2.1
           rw [rI hn a] at this
           exact (List.nodup_cons.mp this).1 hp
          ·rw [List.mem_singleton.mp h] at hp;exact out a (by simp) _ (List.mem_of_mem_tail hp) py⟩
       | 2,hz,hg=>
         cases hz;cases hg
         exact ⟨c1,eD,Lo.par (.refl k) lo.2,c2.un .refl uw (ps:=[]) (fun _ _ h=>by cases h) fun p hp h=>by
          rcases List.mem_cons.mp h with rfl | h
          ·exact out a (by simp) _ (aU hn) (List.mem_of_mem_tail hp)
          ·rw [List.mem_singleton.mp h] at hp;exact yt _ hp rfl⟩
       | i+3,hz,hg=>cases hz
    ·have c:bT t (fs ++ [k])=false:=by simpa using c
     rw [cq c] at q2
     have el:(fs ++ [k]).getLastD .unt=k:=by simp
     rw [el] at q2
     cases qp:k.par (az t (fs ++ [k])) with
     | some w=>rw [qp] at q2;cases q2
     | none=>
       rw [qp] at q2
       cases q2
       have uw:Un wd2 (ai wd2 (.inl y.pl) (az t (fs ++ [k]))) [y.pl]:=Un.put (by simp)
       refine ⟨⟨⟨by simp [hf],fun i z g hz hg=>?_⟩,fun p v a b f0 f g e1 e2=>by rw [e1,e2] at c;cases c⟩,Un.put (sub _ py)⟩
       by_cases ci:i<P.length
       ·rw [List.getElem?_append_left ci] at hz
        rw [List.getElem?_append_left (by omega)] at hg
        obtain ⟨g1,g2,g3,g4⟩:=old i z g hz hg
        have o:=out z (List.mem_of_getElem? hz)
        have nz:∀ p∈ak n z,p ∉ [y.pl]:=fun p hp h=>by rw [List.mem_singleton.mp h] at hp;exact o _ hp py
        rw [← List.take_append_of_le_length (l₂:=[k]) (show i+1≤fs.length by omega)] at g2 g3
        rw [← List.take_append_of_le_length (l₂:=[k]) (show i≤fs.length by omega)] at g4
        exact ⟨g1,by rw [fM c];exact (uw _ (nz _ (aU hn))).trans g2,by rw [fM c];exact g3,g4.un .refl uw (ps:=[]) (fun _ _ h=>by cases h) fun p hp=>nz p (List.mem_of_mem_tail hp)⟩
       ·rw [List.getElem?_append_right (by omega)] at hz
        rw [List.getElem?_append_right (by omega)] at hg
        have z1:i - P.length=0:=by
         refine Decidable.byContradiction fun z=>?_
         rw [List.getElem?_eq_none (by simp;omega)] at hz;cases hz
        have z2:i - fs.length=0:=by omega
        have z3:i=fs.length:=by omega
        rw [z1] at hz;rw [z2] at hg
        cases hz;cases hg
        subst z3
        have e1:(fs ++ [k]).take (fs.length+1)=fs ++ [k]:=List.take_of_length_le (by simp)
        have e2:(fs ++ [k]).take fs.length=fs:=by rw [List.take_append_of_le_length (Nat.le_refl _),List.take_length]
        refine ⟨c1,by rw [fM c,e1];exact eD,by rw [fM c,e1];exact qp,?_⟩
        rw [e2]
        exact c2.un .refl uw (ps:=[]) (fun _ _ h=>by cases h) fun p hp h=>yt p hp (List.mem_singleton.mp h).symm
   obtain ⟨g1,g2,g3⟩:=mq hn ih t N nd r (P ++ [y]) (fs ++ [k]) kd2 wd3 fs1 kd1 wd1 (by rw [hk];simp) step.1 e
   exact ⟨g1,(u1.mono sub).trans g2,((u2.mono fun p hp=>sub p (List.mem_of_mem_tail hp)).trans step.2).trans g3⟩
theorem vC:∀ (n:Nat) (t:T68) (N kd wd:Al) (k:Kd) (kd1 wd1:Al),(ak n t).Nodup→lkM n t N kd wd = .ok (k,kd1,wd1)→aq kd1 (.inl t.pl)=some k∧Hs n t N kd1 wd1∧Un kd kd1 (ak n t)∧Un wd wd1 (ak n t).tail
 | 0,t,N,kd,wd,k,kd1,wd1,_,e=>by cases e
 | n+1,t,N,kd,wd,k,kd1,wd1,nd,e=>by
   obtain ⟨fs,kd2,wk,q1,_,rfl,rfl⟩:=ll e
   have nd1:(t.pl :: (ah t).flatMap (ak n)).Nodup:=nd
   rw [List.nodup_cons] at nd1
   have up:Un kd2 (ai kd2 (.inl t.pl) (aV t fs N)) [t.pl]:=Un.put (by simp)
   have go:(Hk (fun y N=>Hs n y N kd2 wd1) t N kd2 wd1 (ah t) fs∧Ip t fs)∧Un kd kd2 ((ah t).flatMap (ak n))∧Un wd wd1 ((ah t).flatMap (ak n)):=by
    rcases Nat.eq_zero_or_pos n with hz | hz
    ·rw [hz] at q1
     have q:=lb q1
     rw [q] at q1 ⊢
     cases q1
     exact ⟨⟨⟨rfl,fun i y f h=>by simp at h⟩,fun _ _ _ _ _ _ _ _ e=>by cases e⟩,.refl,.refl⟩
    ·exact mq hz (vC n) t N nd1.2 (ah t) [] [] kd wd _ _ _ rfl ⟨⟨rfl,fun i y f h=>by simp at h⟩,fun _ _ _ _ _ _ _ _ e=>by cases e⟩ q1
   obtain ⟨⟨⟨l,g⟩,ip⟩,u1,u2⟩:=go
   refine ⟨eD,⟨fs,⟨l,fun i y f hy hf=>?_⟩,ip,wk,eD⟩,(u1.mono fun p hp=>List.mem_cons_of_mem _ hp).trans (Un.put List.mem_cons_self),u2⟩
   obtain ⟨gk,gw,gp,gh⟩:=g i y f hy hf
   have hn:1≤n:=by
    cases n with
    | zero=>exact gh.elim
    | succ n=>omega
   have nt:∀ p∈ak n y,p ∉ [t.pl]:=fun p hp h=>nd1.1 (by rw [← List.mem_singleton.mp h];exact List.mem_flatMap.mpr ⟨y,List.mem_of_getElem? hy,hp⟩)
   exact ⟨(up _ (nt _ (aU hn))).trans gk,gw,gp,gh.un up .refl (qs:=[]) nt fun _ _ h=>by cases h⟩
theorem oO {n:Nat} {t:T68} {kd wd:Al} (hn:1≤n) (nd:(ak n t).Nodup) (e:aT n t = .ok (kd,wd)):Hs n t [] kd wd∧aq wd (.inl t.pl)=aq kd (.inl t.pl):=by
 unfold aT at e
 cases q:lkM n t [] [] [] with
 | error e'=>rw [q] at e;cases e
 | ok v=>
   obtain ⟨k,kd1,wd1⟩:=v
   rw [q] at e
   cases e
   obtain ⟨g1,g2,_,_⟩:=vC n t [] [] [] k _ _ nd q
   rw [rI hn t] at nd
   exact ⟨g2.un .refl (Un.put (ps:=[t.pl]) (by simp)) (ps:=[]) (fun _ _ h=>by cases h) fun p hp h=>(List.nodup_cons.mp nd).1 (by rw [← List.mem_singleton.mp h];exact hp),by rw [eD,g1]⟩
theorem iA {i j:Int} (h:-(2 ^ 64)<j∧j<2 ^ 64):opD .mul (.int i) (.int j)=some (.int (i * j)):=by
 show (if _ then _ else _)=_
 rw [ZZ (.inl (.inr h))]
theorem Aa {i j:Int} (h:-(2 ^ 64)<i∧i<2 ^ 64):opD .mul (.int i) (.int j)=some (.int (i * j)):=by
 show (if _ then _ else _)=_
 rw [ZZ (.inl (.inl h))]
theorem aS {a b:Int} (h:a=b):(a == b)=true:=by rw [h];exact ZT b
theorem ao {a b:Int} (h:a≠b):(a == b)=false:=by simpa using h
theorem fg {a b k:Int} (h:a % b=k) (hb:0<b):opD .mod (.int a) (.int b)=some (.int k):=by
 show (if 0<b then some (D.int (a % b)) else none)=_;rw [ZZ hb,h]
theorem lV (ns:List Int) (k:Nat) (n:Nat) (st:List O):∃ c:Int,ag Γ (n+1) fR [.lst (ns.map .int),.int k] st = .ok (.int c) st:=by
 by_cases c:k<ns.length
 ·have e1:decide ((k:Int)<((ns.map D.int).length:Nat))=true:=by rw [List.length_map];exact ZW (by omega)
  have e2:ixD (.lst (ns.map D.int)) (.int (k:Int))=some (.int ns[k]):=by
   refine cI ?_
   rw [List.getElem?_map,List.getElem?_eq_getElem c];rfl
  exact ⟨ns[k],(ac false (aX 2 (e1) (aX 0 (e2) aZ)) (by kernel_rfl))⟩
 ·have e1:decide ((k:Int)<((ns.map D.int).length:Nat))=false:=by rw [List.length_map];exact ZV (by omega)
  exact ⟨0,(ac false (aX 2 (e1) aZ) (by kernel_rfl))⟩
abbrev jK (ns:List Int) (i b c:Int) (w o:D):O:=.lst [.lst (ns.map .int),.int i,.int b,.int c,w,o]
abbrev pl0 (b0 c:Int):Int:=(b0+7919 * (c+1)) % 9973
theorem sm0 (b0 c:Int):Sm (pl0 b0 c):=by unfold Sm pl0;omega
theorem mQ (ns:List Int) (i b c:Int) (w o:D) (n:Nat) (st:List O):ag Γ (n+1) i7 [.ref 0] (jK ns i b c w o :: st) = .ok (.int (pl0 b c)) (jK ns i b (c+1) w o :: st):=by kernel_rfl
def pE (x:Int):Prop:=0≤x∧x<10 ^ 13
theorem next (ns:List Int) (i b c:Int) (w o:D) (hi:0≤i) (n:Nat) (st:List O):∃ x:Int,pE x∧ag Γ (n+1) j4 [.ref 0] (jK ns i b c w o :: st) = .ok (.int x) (jK ns (i+1) b c w o :: st):=by
 by_cases c1:30<c
 ·have e1:decide ((30:Int)<c)=true:=ZW c1
  exact ⟨3,⟨by omega,by omega⟩,(ac false (aX 4 (e1) aZ) (by kernel_rfl))⟩
 ·have e1:decide ((30:Int)<c)=false:=ZV c1
  by_cases c2:(ns.length:Int)≤i+1
  ·have e2:decide (((ns.map D.int).length:Int)≤i+1)=true:=by rw [List.length_map];exact ZW c2
   exact ⟨3,⟨by omega,by omega⟩,(ac false (aX 4 (e1) (aX 4 (e2) aZ)) (by kernel_rfl))⟩
  ·have e2:decide (((ns.map D.int).length:Int)≤i+1)=false:=by rw [List.length_map];exact ZV c2
   obtain ⟨k,hk⟩:∃ k:Nat,i+1=k:=⟨(i+1).toNat,by omega⟩
   have kl:k<ns.length:=by omega
   have e3:ixD (.lst (ns.map D.int)) (.int (i+1))=some (.int ns[k]):=by
    rw [hk]
    refine cI ?_
    rw [List.getElem?_map,List.getElem?_eq_getElem kl];rfl
   exact ⟨(ns[k] * 6364136223846793005+7919 * (i+1)) % 1000000000039,⟨by omega,by omega⟩,(ac false (aX 4 (e1) (aX 4 (e2) (aX 2 (e3) (aX 0 (iA (i:=ns[k]) (j:=6364136223846793005) (by decide)) (aX 1 (Aa (i:=7919) (j:=i+1) (by decide)) aZ))))) (by kernel_rfl))⟩
theorem x9 (c:Int) (h:pE c) (n:Nat) (st:List O):∃ v:Int,v.natAbs<10 ^ 40∧ag Γ (n+1) gQ [.int c] st = .ok (.int v) st:=by
 obtain ⟨h0,h1⟩:=h
 have sg:-(2 ^ 64)<1 - 2 * (c / 8 % 2)∧1 - 2 * (c / 8 % 2)<2 ^ 64:=⟨by omega,by omega⟩
 have s1:1 - 2 * (c / 8 % 2)=1∨1 - 2 * (c / 8 % 2) = -1:=by omega
 have bd:∀ x:Int,0≤x→x<10 ^ 40→(x * (1 - 2 * (c / 8 % 2))).natAbs<10 ^ 40:=fun x h0 h1=>by rcases s1 with e | e <;> rw [e] <;> omega
 have m2:opD .mul (.int 2) (.int (c / 8 % 2))=some (.int (2 * (c / 8 % 2))):=iA (by omega)
 by_cases c0:c % 8=1
 ·exact ⟨_,bd (10 ^ 40 - 1 - c / 16 % 1000) (by omega) (by omega),(ac false (aX 2 (aS c0) (aX 7 (m2) (aX 1 (iA (i:=10 ^ 40 - 1 - c / 16 % 1000) sg) aZ))) (by kernel_rfl))⟩
 ·by_cases c1:c % 8=2
  ·exact ⟨c / 8,by omega,(ac false (aX 2 (ao c0) (aX 2 (aS c1) aZ)) (by kernel_rfl))⟩
  ·exact ⟨c / 8 % 12 - 3,by omega,(ac false (aX 2 (ao c0) (aX 2 (ao c1) aZ)) (by kernel_rfl))⟩
def fl3 (c:Int):Kd:=if c % 3=0 then .whole else if c % 3=1 then .truth else .unt
theorem iV (c:Int):(fl3 c).dep=1:=by unfold fl3;split <;> (try split) <;> rfl
theorem kU (c:Int):ixD (.lst [Kd.whole.toD,Kd.truth.toD,Kd.unt.toD]) (.int (c % 3))=some (fl3 c).toD:=by
 have h:c % 3=0∨c % 3=1∨c % 3=2:=by omega
 unfold fl3
 rcases h with h | h | h <;> rw [h] <;> rfl
theorem vp (c:Int) (n:Nat) (st:List O):∃ k:Kd,k.dep=1∧ag Γ (n+1) jY [.int c] st = .ok k.toD st:=⟨fl3 c,iV c,(ac false (aX 1 (kU c) aZ) (by kernel_rfl))⟩
theorem iq (c:Int) (n:Nat) (st:List O):∃ k:Kd,k.dep≤2∧ag Γ (n+1) j0 [.int c] st = .ok k.toD st:=by
 have ha:=iV c
 have hb:=iV (c / 3)
 have i1:=kU c
 have i2:=kU (c / 3)
 generalize fl3 c=a at *
 generalize fl3 (c / 3)=b at *
 have h:c / 9 % 5=0∨c / 9 % 5=1∨c / 9 % 5=2∨c / 9 % 5=3∨c / 9 % 5=4:=by omega
 rcases h with h | h | h | h | h
 ·exact ⟨a,by omega,(ac false (aX 1 (i1) (aX 2 (i2) (aX 1 (fg h (by decide)) aZ))) (by kernel_rfl))⟩
 ·exact ⟨.to b a,by show 1+max b.dep a.dep≤2;omega,(ac false (aX 1 (i1) (aX 2 (i2) (aX 1 (fg h (by decide)) aZ))) (by kernel_rfl))⟩
 ·exact ⟨.row a,by show 1+a.dep≤2;omega,(ac false (aX 1 (i1) (aX 2 (i2) (aX 1 (fg h (by decide)) aZ))) (by kernel_rfl))⟩
 ·exact ⟨.pair a b,by show 1+max a.dep b.dep≤2;omega,(ac false (aX 1 (i1) (aX 2 (i2) (aX 1 (fg h (by decide)) aZ))) (by kernel_rfl))⟩
 ·exact ⟨a,by omega,(ac false (aX 1 (i1) (aX 2 (i2) (aX 1 (fg h (by decide)) aZ))) (by kernel_rfl))⟩
def nmA (N:Al):List Str:=N.filterMap fun p=>match p.1 with | .inr x=>some x | .inl _=>none
structure Nk (W:List Str) (N:Al):Prop where
 nd:(ksA N).Nodup
 sb:∀ p∈N,∃ x∈W,p.1 = .inr x
 dp:∀ p∈N,p.2.dep≤3
theorem Nk.nil {W:List Str}:Nk W []:=⟨List.nodup_nil,fun _ h=>(by cases h),fun _ h=>(by cases h)⟩
theorem rx {α:Type} [DecidableEq α]:∀ (l m:List α),l.Nodup→(∀ x∈l,x∈m)→l.length≤m.length
 | [],m,_,_=>Nat.zero_le _
 | x :: l,m,hn,hs=>by
   have hx:=hs x (by simp)
   obtain ⟨hx1,hn2⟩:=List.nodup_cons.mp hn
   have:=rx l (m.erase x) hn2 (fun y hy=>(List.mem_erase_of_ne (fun e:y=x=>hx1 (e ▸ hy))).mpr (hs y (by simp [hy])))
   rw [List.length_erase_of_mem hx] at this
   have:0<m.length:=List.length_pos_of_mem hx
   simp only [List.length_cons];omega
theorem Nk.few {W:List Str} {N:Al} (h:Nk W N) (hW:W.length=5):N.length≤5:=by
 have:=rx (ksA N) (W.map Sum.inr) h.nd (fun k hk=>by
  obtain ⟨p,hp,rfl⟩:=List.mem_map.mp hk
  obtain ⟨x,hx,e⟩:=h.sb p hp
  rw [e];exact List.mem_map.mpr ⟨x,hx,rfl⟩)
 rw [List.length_map,hW] at this
 unfold ksA at this
 rwa [List.length_map] at this
theorem Nk.put {W:List Str} {N:Al} (h:Nk W N) {x:Str} (hx:x∈W) {k:Kd} (hk:k.dep≤3):Nk W (ai N (.inr x) k):=by
 refine ⟨?_,?_,bO (P:=fun k=>k.dep≤3) h.dp hk⟩
 ·unfold ai
  split
  ·rw [jb];exact h.nd
  ·rename_i c
   unfold ksA
   rw [List.map_append,List.nodup_append]
   refine ⟨h.nd,by simp,fun a ha b hb e=>c ?_⟩
   obtain ⟨p,hp,rfl⟩:=List.mem_map.mp ha
   simp at hb
   exact List.any_eq_true.mpr ⟨p,hp,by simp [e,hb]⟩
 ·unfold ai
  split
  ·intro p hp
   obtain ⟨q,hq,rfl⟩:=List.mem_map.mp hp
   obtain ⟨y,hy,e⟩:=h.sb q hq
   refine ⟨y,hy,?_⟩
   split <;> exact e
  ·intro p hp
   rcases List.mem_append.mp hp with hp | hp
   ·exact h.sb p hp
   ·rw [List.mem_singleton.mp hp];exact ⟨x,hx,rfl⟩
theorem Nk.walk {W:List Str} {N:Al} (h:Nk W N):(ksA N).map qD=sts (nmA N):=by
 have:∀ N:Al,(∀ p∈N,∃ x∈W,p.1 = .inr x)→(ksA N).map qD=sts (nmA N):=by
  intro N
  induction N with
  | nil=>intro _;rfl
  | cons p r ih=>
    intro h
    obtain ⟨x,_,e⟩:=h p (by simp)
    have i:=ih (fun q hq=>h q (by simp [hq]))
    unfold ksA nmA sts at *
    rw [List.map_cons,List.map_cons,i,List.filterMap_cons,e];rfl
 exact this N h.sb
theorem xX {N:Al} {x:Str} (h:x∈nmA N):∃ k,aq N (.inr x)=some k:=by
 induction N with
 | nil=>cases h
 | cons p r ih=>
   show ∃ k,(if p.1 = .inr x then some p.2 else aq r (.inr x))=some k
   by_cases c:p.1 = .inr x
   ·rw [ZZ c];exact ⟨_,rfl⟩
   ·rw [ZY c]
    refine ih ?_
    obtain ⟨q,hq,e⟩:=List.mem_filterMap.mp h
    rcases List.mem_cons.mp hq with rfl | hq
    ·cases hp:q.1 with
     | inl i=>rw [hp] at e;cases e
     | inr y=>rw [hp] at e c;cases e;exact ZX rfl c
    ·exact List.mem_filterMap.mpr ⟨q,hq,e⟩
theorem ji {N:Al} {x y:Str} {k:Kd} (h:y∈nmA (ai N (.inr x) k)):y∈nmA N ++ [x]:=by
 obtain ⟨q,hq,e⟩:=List.mem_filterMap.mp h
 unfold ai at hq
 split at hq
 ·obtain ⟨p,hp,rfl⟩:=List.mem_map.mp hq
  refine List.mem_append_left _ (List.mem_filterMap.mpr ⟨p,hp,?_⟩)
  by_cases c:p.1 = .inr x
  ·rw [ZZ c] at e;exact e
  ·rw [ZY c] at e;exact e
 ·rcases List.mem_append.mp hq with hq | hq
  ·exact List.mem_append_left _ (List.mem_filterMap.mpr ⟨q,hq,e⟩)
  ·rw [List.mem_singleton.mp hq] at e;cases e;exact List.mem_append_right _ (by simp)
theorem xY (N:Al):(nmA N).length≤N.length:=List.length_filterMap_le _ _
theorem dU (N:Al) (x:Str) (k:Kd) (h:N.length<1000) (n:Nat) (S:List O):ag Γ (n+1) j3 [dA N,.str x,k.toD] S = .ok (dA (ai N (.inr x) k)) S:=(ac false (aX 1 (gu N x k (by omega)) aZ) (by kernel_rfl))
theorem iF {W:List Str} (hW:W.length=5) (c:Int):∃ x,x∈W∧ixD (.lst (sts W)) (.int (c % 5))=some (.str x):=by
 obtain ⟨k,hk⟩:∃ k:Nat,c % 5=k:=⟨(c % 5).toNat,by omega⟩
 have kl:k<W.length:=by omega
 refine ⟨W[k],List.getElem_mem kl,?_⟩
 rw [hk]
 refine cI ?_
 unfold sts
 rw [List.getElem?_map,List.getElem?_eq_getElem kl];rfl
abbrev fC:E:=.op .eq (.ix (.v 3) (.v 0)) (.v 2)
theorem eA (m:Nat) (dl cell:D) (want:Kd) (N:Al) (hd:∀ p∈N,p.2.dep≤3) (tl:List (Option D)) (S:List O):∀ (r:List Str) (acc:List D) (e:Option D),(∀ x∈r,x∈nmA N)→acc.length+r.length<1000→∃ (l:List Str) (e':Option D),(∀ x∈l,x∈nmA N∧aq N (.inr x)=some want)∧l.length≤r.length∧bh (lcQ Γ (ag Γ m) (aK Γ m) [0] true (.v 0) fC) (sts r) acc ⟨e :: some dl :: some want.toD :: some (dA N) :: some cell :: tl,[],S⟩ = .ok (.lst (acc ++ sts l)) ⟨e' :: some dl :: some want.toD :: some (dA N) :: some cell :: tl,[],S⟩
 | [],acc,e,_,_=>⟨[],e,fun x h=>(nomatch h),Nat.le_refl _,by simp [bh,sts]⟩
 | x :: r,acc,e,hr,hn=>by
   simp only [List.length_cons] at hn
   have hx:=hr x (by simp)
   obtain ⟨k,hk⟩:=xX hx
   have hi:ixD (dA N) (.str x)=some k.toD:=by show bV (ksA N) (dsA N) (.inr x)=_;rw [ij,hk];rfl
   have kd:k.dep≤55:=by obtain ⟨p,hp,e⟩:=fQ hk;have:=hd p hp;rw [e] at this;omega
   have he:opD .eq (look S k.toD) (look S want.toD)=some (.bl (decide (k=want))):=by
    rw [fq,fq]
    show (eqT k.toD want.toD).map D.bl=_
    rw [pR (by cases k <;> rfl)]
    rw [k7 55 k kd];rfl
   have hc:ev Γ (ag Γ m) (aK Γ m) true fC ⟨some (.str x) :: some dl :: some want.toD :: some (dA N) :: some cell :: tl,[],S⟩ = .ok (.bl (decide (k=want))) ⟨some (.str x) :: some dl :: some want.toD :: some (dA N) :: some cell :: tl,[],S⟩:=(gI false (aX 0 (hi) (aX 0 (he) aZ)) (by kernel_rfl))
   by_cases c:k=want
   ·rw [ZW c] at hc
    obtain ⟨l,e',h1,h2,h3⟩:=eA m dl cell want N hd tl S r (acc ++ [.str x]) (some (.str x)) (fun y hy=>hr y (by simp [hy])) (by rw [List.length_append,List.length_singleton];omega)
    refine ⟨x :: l,e',fun y hy=>?_,by simp only [List.length_cons];omega,dR (jc rfl hc rfl) (by omega) (by rw [List.append_assoc] at h3;exact h3)⟩
    rcases List.mem_cons.mp hy with rfl | hy
    ·exact ⟨hx,by rw [hk,c]⟩
    ·exact h1 y hy
   ·rw [ZV c] at hc
    obtain ⟨l,e',h1,h2,h3⟩:=eA m dl cell want N hd tl S r acc (some (.str x)) (fun y hy=>hr y (by simp [hy])) (by omega)
    exact ⟨l,e',h1,by simp only [List.length_cons];omega,dQ (fX rfl hc) h3⟩
theorem Ok.mono {W:List Str}:∀ {n n':Nat} {bs bs':List Str} {t:T68},Ok W n bs t→(∀ x∈bs,x∈bs')→n≤n'→Ok W n' bs' t
 | 0,n',bs,bs',t,h,_,_=>h.elim
 | n+1,0,bs,bs',t,_,_,h=>ZX h (by omega)
 | n+1,n'+1,bs,bs',t,⟨o1,o2,o3,o4⟩,hs,hn=>by
   refine ⟨?_,o2,o3,fun i k hk=>(o4 i k hk).mono (fun x hx=>?_) (by omega)⟩
   ·cases t <;> first | exact hs _ o1 | exact o1
   ·rcases List.mem_append.mp hx with hx | hx
    ·exact List.mem_append_left _ (hs x hx)
    ·exact List.mem_append_right _ hx
def Mad (od:Int) (W:List Str) (q:Nat) (N:Al) (w:Kd) (t:T68):Prop:=Ok W q (nmA N) t∧(od≠0→Ty q t N w)
section
variable {od:Int} {W:List Str} {q:Nat} {N:Al} {w:Kd} {p:Int}
theorem ok0 (sp:Sm p) {t:T68} (e:t.pl=p) (h:own W (nmA N) t) (hk:ah t = []) (hw:wks t = []):Ok W (q+1) (nmA N) t:=⟨h,by rw [e];exact sp,by rw [hw];exact fun _ h=>(by cases h),fun i k e=>by rw [hk] at e;simp at e⟩
theorem rm (sp:Sm p) {v:Int} (hv:v.natAbs<10 ^ 40):Mad od W (q+1) N .whole (.whole p v):=⟨ok0 sp rfl hv rfl rfl,fun _=>ty0 rfl rfl fun E _=>⟨.whole,Nat.le_of_ble_eq_true rfl⟩⟩
theorem ri (sp:Sm p) {v:Nat} (hv:v<8):Mad od W (q+1) N .whole (.given p v):=⟨ok0 sp rfl hv rfl rfl,fun _=>ty0 rfl rfl fun E _=>⟨.whole,Nat.le_of_ble_eq_true rfl⟩⟩
theorem rj (sp:Sm p) {v:Bool}:Mad od W (q+1) N .truth (.truth p v):=⟨ok0 sp rfl trivial rfl rfl,fun _=>ty0 rfl rfl fun E _=>⟨.truth,Nat.le_of_ble_eq_true rfl⟩⟩
theorem uo (sp:Sm p) {x:Str} (h:x∈nmA N) (hg:aq N (.inr x)=some w) (hd:w.dep≤4):Mad od W (q+1) N w (.name p x):=⟨ok0 sp rfl h rfl rfl,fun _=>uO hg hd⟩
theorem ok1 (sp:Sm p) {t a:T68} {bs:List Str} (e:t.pl=p) (h:own W bs t) (hk:ah t = [a]) (hw:∀ k∈wks t,k.dep≤8) (ha:Ok W q (bs ++ bnd t 0) a):Ok W (q+1) bs t:=⟨h,by rw [e];exact sp,hw,fun i k e=>by
 rw [hk] at e
 match i,e with
 | 0,e=>cases e;exact ha
 | i+1,e=>simp at e⟩
theorem ok2 (sp:Sm p) {t a b:T68} {bs:List Str} (e:t.pl=p) (h:own W bs t) (hk:ah t = [a,b]) (hw:wks t = []) (ha:Ok W q (bs ++ bnd t 0) a) (hb:Ok W q (bs ++ bnd t 1) b):Ok W (q+1) bs t:=⟨h,by rw [e];exact sp,by rw [hw];exact fun _ h=>(by cases h),fun i k e=>by
 rw [hk] at e
 match i,e with
 | 0,e=>cases e;exact ha
 | 1,e=>cases e;exact hb
 | i+2,e=>simp at e⟩
theorem Ok.app {bs:List Str} {t:T68} (h:Ok W q bs t):Ok W q (bs ++ []) t:=by rw [List.append_nil];exact h
theorem z4 (sp:Sm p) {k k':Kd} {a:T68} (ha:Mad od W q N k' a) (hp:∀ c,Lo c k'→c.par k=none) (hd:k.dep≤4) (hl:Lo k w):Mad od W (q+1) N w (.as_ p k a):=⟨ok1 sp rfl trivial rfl (fun z hz=>by rw [List.mem_singleton.mp hz];omega) ha.1.app,fun h=>AC (ha.2 h) hp hd hl⟩
theorem xG (sp:Sm p) {k':Kd} {a:T68} (ha:Mad od W q N k' a):Mad od W (q+1) N w (.as_ p .unt a):=z4 sp ha (fun c _=>mP c) (by decide) (.unt w)
theorem z9 (sp:Sm p) {x:Str} {a:Kd} {b:T68} (hx:x∈W) (h:Mad od W q (ai N (.inr x) a) w b) (ha:a.dep≤3) (hd:w.dep≤3):Mad od W (q+1) N (.to a w) (.fn p x a b):=⟨ok1 sp rfl hx rfl (fun z hz=>by rw [List.mem_singleton.mp hz];omega) (h.1.mono (fun _=>ji) (Nat.le_refl _)),fun z=>AD (h.2 z) ha hd⟩
theorem xN (sp:Sm p) {f x:Str} {a g:Kd} {b:T68} (hf:f∈W) (hx:x∈W) (h:Mad od W q (ai (ai N (.inr f) (.to a g)) (.inr x) a) g b) (ha:a.dep≤3) (hd:g.dep≤3):Mad od W (q+1) N (.to a g) (.slf p f x a g b):=⟨ok1 sp rfl ⟨hf,hx⟩ rfl (fun z hz=>by simp [wks] at hz;rcases hz with rfl | rfl <;> omega) (h.1.mono (fun y hy=>by
 rcases List.mem_append.mp (ji hy) with hy | hy
 ·rcases List.mem_append.mp (ji hy) with hy | hy
  ·exact List.mem_append_left _ hy
  ·exact List.mem_append_right _ (by rw [List.mem_singleton.mp hy];exact List.mem_cons_self ..)
 ·exact List.mem_append_right _ (List.mem_cons_of_mem _ hy)) (Nat.le_refl _)),fun z=>yC (h.2 z) ha hd⟩
theorem um (sp:Sm p) {k:Kd} {a b:T68} (ha:Mad od W q N (.to k w) a) (hb:Mad od W q N k b) (hd:w.dep≤4):Mad od W (q+1) N w (.call p a b):=⟨ok2 sp rfl trivial rfl rfl ha.1.app hb.1.app,fun z=>uN (ha.2 z) (hb.2 z) hd⟩
theorem xK (sp:Sm p) {x:Str} {k:Kd} {a b:T68} (hx:x∈W) (ha:Mad od W q N k a) (hb:Mad od W q (ai N (.inr x) k) w b) (hd:w.dep≤4):Mad od W (q+1) N w (.lt p x a b):=⟨ok2 sp rfl hx rfl rfl ha.1.app (hb.1.mono (fun _=>ji) (Nat.le_refl _)),fun z=>yz (ha.2 z) (hb.2 z) hd⟩
theorem xJ (sp:Sm p) {c a b:T68} (hc:Mad od W q N .truth c) (ha:Mad od W q N w a) (hb:Mad od W q N w b) (hd:w.dep≤4):Mad od W (q+1) N w (.iff p c a b):=⟨⟨trivial,sp,fun _ h=>(by cases h),fun i k e=>by
 match i,e with
 | 0,e=>cases e;exact hc.1.app
 | 1,e=>cases e;exact ha.1.app
 | 2,e=>cases e;exact hb.1.app
 | i+3,e=>simp [ah] at e⟩,fun z=>yy (hc.2 z) (ha.2 z) (hb.2 z) hd⟩
theorem xI (sp:Sm p) {o:Sg} {a b:T68} (ha:Mad od W q N .whole a) (hb:Mad od W q N .whole b) (hw:aV (.bin p o a b) [] []=w):Mad od W (q+1) N w (.bin p o a b):=⟨ok2 sp rfl trivial rfl rfl ha.1.app hb.1.app,fun z=>yx (ha.2 z) (hb.2 z) hw⟩
theorem xM (sp:Sm p) {k:Kd} {ts:List T68} (hl:ts.length≤4) (h:∀ t∈ts,∃ w,Mad od W q N w t∧∀ c,Lo c w→c.par k=none) (hd:k.dep≤3):Mad od W (q+1) N (.row k) (.row p k ts):=⟨⟨hl,sp,fun z hz=>by rw [List.mem_singleton.mp hz];omega,fun i t e=>by
 obtain ⟨w,h1,_⟩:=h t (List.mem_of_getElem? e)
 exact h1.1.app⟩,fun z=>yB (fun t ht=>by obtain ⟨w,h1,h2⟩:=h t ht;exact ⟨w,h1.2 z,h2⟩) hd⟩
theorem xH (sp:Sm p) {a b:T68} (ha:Mad od W q N (.row w) a) (hb:Mad od W q N .whole b) (hd:w.dep≤4):Mad od W (q+1) N w (.att p a b):=⟨ok2 sp rfl trivial rfl rfl ha.1.app hb.1.app,fun z=>yw (ha.2 z) (hb.2 z) hd⟩
theorem ut (sp:Sm p) {k:Kd} {a:T68} (ha:Mad od W q N (.row k) a):Mad od W (q+1) N .whole (.size p a):=⟨ok1 sp rfl trivial rfl (fun _ h=>(by cases h)) ha.1.app,fun z=>uQ (ha.2 z)⟩
theorem xL (sp:Sm p) {k:Kd} {a:T68} (ha:Mad od W q N (.pair w k) a) (hd:w.dep≤4):Mad od W (q+1) N w (.one p a):=⟨ok1 sp rfl trivial rfl (fun _ h=>(by cases h)) ha.1.app,fun z=>yA (ha.2 z) hd⟩
theorem xO (sp:Sm p) {k:Kd} {a:T68} (ha:Mad od W q N (.pair k w) a) (hd:w.dep≤4):Mad od W (q+1) N w (.two p a):=⟨ok1 sp rfl trivial rfl (fun _ h=>(by cases h)) ha.1.app,fun z=>yD (ha.2 z) hd⟩
theorem uq (sp:Sm p) {k l:Kd} {a b:T68} (ha:Mad od W q N k a) (hb:Mad od W q N l b) (hk:k.dep≤3) (hl:l.dep≤3):Mad od W (q+1) N (.pair k l) (.pair p a b):=⟨ok2 sp rfl trivial rfl rfl ha.1.app hb.1.app,fun z=>uP (ha.2 z) (hb.2 z) hk hl⟩
theorem Mad.up {t:T68} {q':Nat} (h:Mad od W q N w t) (hq:q≤q'):Mad od W q' N w t:=⟨h.1.mono (fun _ h=>h) hq,fun z=>(h.2 z).up hq⟩
end
def Kd.lN:Kd→Nat
 | .whole=>1
 | .truth=>1
 | .unt=>2
 | .to _ b=>1+b.lN
 | .row a=>1+a.lN
 | .pair a b=>1+max a.lN b.lN
theorem Kd.lN_le:∀ k:Kd,k.lN≤k.dep+1
 | .whole=>by decide
 | .truth=>by decide
 | .unt=>by decide
 | .to a b=>by have:=lN_le b;show 1+b.lN≤1+max a.dep b.dep+1;omega
 | .row a=>by have:=lN_le a;show 1+a.lN≤1+a.dep+1;omega
 | .pair a b=>by have:=lN_le a;have:=lN_le b;show 1+max a.lN b.lN≤1+max a.dep b.dep+1;omega
def Kd.ok (k:Kd):Prop:=k.dep≤3∧k.lN≤3
theorem Kd.ok2 {k:Kd} (h:k.dep≤2):k.ok:=⟨by omega,by have:=Kd.lN_le k;omega⟩
def ind (b0 x c:Int):Int:=if pl0 b0 c=x then 1 else 0
def Gn (b0 x:Int):Nat→Int
 | 0=>0
 | n+1=>Gn b0 x n+ind b0 x n
def Gm (b0 x:Int):Nat→Int
 | 0=>0
 | n+1=>Gm b0 x n - ind b0 x (-((n:Int)+1))
def Gc (b0 x:Int):Int→Int
 | .ofNat n=>Gn b0 x n
 | .negSucc n=>Gm b0 x (n+1)
theorem wF (b0 x c:Int):0≤ind b0 x c:=by unfold ind;split <;> decide
theorem ph (b0 x:Int):∀ c:Int,Gc b0 x (c+1)=Gc b0 x c+ind b0 x c
 | .ofNat n=>rfl
 | .negSucc 0=>by show (0:Int)=(0 - ind b0 x (-((0:Nat)+1)))+ind b0 x (Int.negSucc 0);show (0:Int)=(0 - ind b0 x (-1))+ind b0 x (-1);omega
 | .negSucc (n+1)=>by
   have e:(Int.negSucc (n+1))+1=Int.negSucc n:=by omega
   have e2:Int.negSucc (n+1) = -(((n+1:Nat):Int)+1):=by omega
   rw [e]
   show Gm b0 x (n+1)=(Gm b0 x (n+1) - ind b0 x (-(((n+1:Nat):Int)+1)))+ind b0 x (Int.negSucc (n+1))
   rw [← e2];omega
def Pz (b0 c c' Z:Int) (q:Nat) (t:T68):Prop:=(∀ x,((ak q t).count x:Int)+Gc b0 x c≤Gc b0 x c')∧c≤c'∧c'≤c+Z
def PzL (b0 c c' Z:Int) (q:Nat) (ts:List T68):Prop:=(∀ x,((ts.flatMap (ak q)).count x:Int)+Gc b0 x c≤Gc b0 x c')∧c≤c'∧c'≤c+Z
section
variable {b0 c c' c1 c2 Z Y V:Int} {q:Nat} {t a b d:T68} {ts:List T68}
theorem PzL.nil:PzL b0 c c 0 q []:=⟨fun x=>by simp,Int.le_refl _,by omega⟩
theorem PzL.cons (h:Pz b0 c c1 Z q t) (h':PzL b0 c1 c' Y q ts):PzL b0 c c' (Z+Y) q (t :: ts):=by
 refine ⟨fun x=>?_,by have:=h.2;have:=h'.2;omega,by have:=h.2;have:=h'.2;omega⟩
 have h1:=h.1 x
 have h2:=h'.1 x
 rw [List.flatMap_cons,List.count_append]
 omega
theorem Pz.node (e:t.pl=pl0 b0 c) (h:PzL b0 (c+1) c' Z q (ah t)):Pz b0 c c' (Z+1) (q+1) t:=by
 refine ⟨fun x=>?_,by have:=h.2;omega,by have:=h.2;omega⟩
 have h1:=h.1 x
 have h2:=ph b0 x c
 unfold ind at h2
 show (((t.pl :: (ah t).flatMap (ak q)).count x:Nat):Int)+_≤_
 rw [List.count_cons,e]
 by_cases k:pl0 b0 c=x
 ·rw [ZZ k] at h2
  rw [ZZ (by simpa using k)];omega
 ·rw [ZY k] at h2
  rw [ZY (by simpa using k)];omega
theorem Pz.z (h:Pz b0 c c' Z q t) (l:Z≤Y):Pz b0 c c' Y q t:=⟨h.1,h.2.1,by have:=h.2;omega⟩
theorem PzL.z (h:PzL b0 c c' Z q ts) (l:Z≤Y):PzL b0 c c' Y q ts:=⟨h.1,h.2.1,by have:=h.2;omega⟩
theorem Pz.skip (h:Pz b0 (c+1) c' Z q t):Pz b0 c c' (Z+1) q t:=⟨fun x=>by have:=h.1 x;have:=ph b0 x c;have:=wF b0 x c;omega,by have:=h.2;omega,by have:=h.2;omega⟩
theorem pz0 (e:t.pl=pl0 b0 c) (hk:ah t = []):Pz b0 c (c+1) 1 (q+1) t:=(Pz.node e (by rw [hk];exact PzL.nil)).z (by omega)
theorem pz1 (e:t.pl=pl0 b0 c) (hk:ah t = [a]) (h:Pz b0 (c+1) c' Z q a):Pz b0 c c' (Z+1) (q+1) t:=(Pz.node e (by rw [hk];exact PzL.cons h PzL.nil)).z (by omega)
theorem pz2 (e:t.pl=pl0 b0 c) (hk:ah t = [a,b]) (h:Pz b0 (c+1) c1 Z q a) (h':Pz b0 c1 c' Y q b):Pz b0 c c' (Z+Y+1) (q+1) t:=(Pz.node e (by rw [hk];exact PzL.cons h (PzL.cons h' PzL.nil))).z (by omega)
theorem pz3 (e:t.pl=pl0 b0 c) (hk:ah t = [a,b,d]) (h:Pz b0 (c+1) c1 Z q a) (h':Pz b0 c1 c2 Y q b) (h'':Pz b0 c2 c' V q d):Pz b0 c c' (Z+Y+V+1) (q+1) t:=(Pz.node e (by rw [hk];exact PzL.cons h (PzL.cons h' (PzL.cons h'' PzL.nil)))).z (by omega)
end
theorem rK {W:List Str}:∀ {q q':Nat} {bs:List Str} {t:T68},Ok W q bs t→q≤q'→ak q' t=ak q t
 | 0,_,_,_,o,_=>o.elim
 | q+1,0,_,_,_,h=>ZX h (by omega)
 | q+1,q'+1,bs,t,o,h=>by
   show t.pl :: (ah t).flatMap (ak q')=t.pl :: (ah t).flatMap (ak q)
   congr 1
   have:∀ l:List T68,(∀ y∈l,ak q' y=ak q y)→l.flatMap (ak q')=l.flatMap (ak q):=fun l=>by
    induction l with
    | nil=>intro _;rfl
    | cons y r ih=>intro h;rw [List.flatMap_cons,List.flatMap_cons,h y (by simp),ih fun z hz=>h z (by simp [hz])]
   exact this _ fun y hy=>by obtain ⟨i,hi⟩:=List.mem_iff_getElem?.mp hy;exact rK (o.2.2.2 i y hi) (by omega)
def aD (b0 c c' Z od:Int) (W:List Str) (q:Nat) (N:Al) (w:Kd) (t:T68):Prop:=Mad od W q N w t∧Pz b0 c c' Z q t
section
variable {b0 c c' c1 c2 Z Y V od:Int} {W:List Str} {q:Nat} {N:Al} {w:Kd}
theorem aD.z {t:T68} (h:aD b0 c c' Z od W q N w t) (l:Z≤Y):aD b0 c c' Y od W q N w t:=⟨h.1,h.2.z l⟩
theorem aD.skip {t:T68} (h:aD b0 (c+1) c' Z od W q N w t):aD b0 c c' (Z+1) od W q N w t:=⟨h.1,h.2.skip⟩
theorem aD.up {t:T68} {q':Nat} (h:aD b0 c c' Z od W q N w t) (l:q≤q'):aD b0 c c' Z od W q' N w t:=⟨h.1.up l,fun x=>by rw [rK h.1.1 l];exact h.2.1 x,h.2.2⟩
theorem aD.to {t:T68} {k:Kd} (h:aD b0 c c' Z od W q N k t) (e:od≠0→k=w):aD b0 c c' Z od W q N w t:=⟨⟨h.1.1,fun z=>e z ▸ h.1.2 z⟩,h.2⟩
theorem kg {v:Int} (hv:v.natAbs<10 ^ 40):aD b0 c (c+1) 1 od W (q+1) N .whole (.whole (pl0 b0 c) v):=⟨rm (sm0 b0 c) hv,pz0 rfl rfl⟩
theorem rp {v:Nat} (hv:v<8):aD b0 c (c+1) 1 od W (q+1) N .whole (.given (pl0 b0 c) v):=⟨ri (sm0 b0 c) hv,pz0 rfl rfl⟩
theorem rq {v:Bool}:aD b0 c (c+1) 1 od W (q+1) N .truth (.truth (pl0 b0 c) v):=⟨rj (sm0 b0 c),pz0 rfl rfl⟩
theorem ux {x:Str} (h:x∈nmA N) (hg:aq N (.inr x)=some w) (hd:w.dep≤4):aD b0 c (c+1) 1 od W (q+1) N w (.name (pl0 b0 c) x):=⟨uo (sm0 b0 c) h hg hd,pz0 rfl rfl⟩
theorem lC {k':Kd} {a:T68} (ha:aD b0 (c+1) c' Z od W q N k' a):aD b0 c c' (Z+1) od W (q+1) N w (.as_ (pl0 b0 c) .unt a):=⟨xG (sm0 b0 c) ha.1,pz1 rfl rfl ha.2⟩
theorem vG {x:Str} {a:Kd} {b:T68} (hx:x∈W) (h:aD b0 (c+1) c' Z od W q (ai N (.inr x) a) w b) (ha:a.dep≤3) (hd:w.dep≤3):aD b0 c c' (Z+1) od W (q+1) N (.to a w) (.fn (pl0 b0 c) x a b):=⟨z9 (sm0 b0 c) hx h.1 ha hd,pz1 rfl rfl h.2⟩
theorem xT {f x:Str} {a g:Kd} {b:T68} (hf:f∈W) (hx:x∈W) (h:aD b0 (c+1) c' Z od W q (ai (ai N (.inr f) (.to a g)) (.inr x) a) g b) (ha:a.dep≤3) (hd:g.dep≤3):aD b0 c c' (Z+1) od W (q+1) N (.to a g) (.slf (pl0 b0 c) f x a g b):=⟨xN (sm0 b0 c) hf hx h.1 ha hd,pz1 rfl rfl h.2⟩
theorem uu {k:Kd} {a b:T68} (ha:aD b0 (c+1) c1 Z od W q N (.to k w) a) (hb:aD b0 c1 c' Y od W q N k b) (hd:w.dep≤4):aD b0 c c' (Z+Y+1) od W (q+1) N w (.call (pl0 b0 c) a b):=⟨um (sm0 b0 c) ha.1 hb.1 hd,pz2 rfl rfl ha.2 hb.2⟩
theorem xR {x:Str} {k:Kd} {a b:T68} (hx:x∈W) (ha:aD b0 (c+1) c1 Z od W q N k a) (hb:aD b0 c1 c' Y od W q (ai N (.inr x) k) w b) (hd:w.dep≤4):aD b0 c c' (Z+Y+1) od W (q+1) N w (.lt (pl0 b0 c) x a b):=⟨xK (sm0 b0 c) hx ha.1 hb.1 hd,pz2 rfl rfl ha.2 hb.2⟩
theorem xQ {v a b:T68} (hc:aD b0 (c+1) c1 Z od W q N .truth v) (ha:aD b0 c1 c2 Y od W q N w a) (hb:aD b0 c2 c' V od W q N w b) (hd:w.dep≤4):aD b0 c c' (Z+Y+V+1) od W (q+1) N w (.iff (pl0 b0 c) v a b):=⟨xJ (sm0 b0 c) hc.1 ha.1 hb.1 hd,pz3 rfl rfl hc.2 ha.2 hb.2⟩
theorem ro {o:Sg} {a b:T68} (ha:aD b0 (c+1) c1 Z od W q N .whole a) (hb:aD b0 c1 c' Y od W q N .whole b) (hw:aV (.bin (pl0 b0 c) o a b) [] []=w):aD b0 c c' (Z+Y+1) od W (q+1) N w (.bin (pl0 b0 c) o a b):=⟨xI (sm0 b0 c) ha.1 hb.1 hw,pz2 rfl rfl ha.2 hb.2⟩
theorem je {k:Kd} {ts:List T68} (hl:ts.length≤4) (h:∀ t∈ts,∃ w,Mad od W q N w t∧∀ c,Lo c w→c.par k=none) (hd:k.dep≤3) (hz:PzL b0 (c+1) c' Z q ts):aD b0 c c' (Z+1) od W (q+1) N (.row k) (.row (pl0 b0 c) k ts):=⟨xM (sm0 b0 c) hl h hd,Pz.node rfl hz⟩
theorem xP {a b:T68} (ha:aD b0 (c+1) c1 Z od W q N (.row w) a) (hb:aD b0 c1 c' Y od W q N .whole b) (hd:w.dep≤4):aD b0 c c' (Z+Y+1) od W (q+1) N w (.att (pl0 b0 c) a b):=⟨xH (sm0 b0 c) ha.1 hb.1 hd,pz2 rfl rfl ha.2 hb.2⟩
theorem uy {k:Kd} {a:T68} (ha:aD b0 (c+1) c' Z od W q N (.row k) a):aD b0 c c' (Z+1) od W (q+1) N .whole (.size (pl0 b0 c) a):=⟨ut (sm0 b0 c) ha.1,pz1 rfl rfl ha.2⟩
theorem xS {k:Kd} {a:T68} (ha:aD b0 (c+1) c' Z od W q N (.pair w k) a) (hd:w.dep≤4):aD b0 c c' (Z+1) od W (q+1) N w (.one (pl0 b0 c) a):=⟨xL (sm0 b0 c) ha.1 hd,pz1 rfl rfl ha.2⟩
theorem xU {k:Kd} {a:T68} (ha:aD b0 (c+1) c' Z od W q N (.pair k w) a) (hd:w.dep≤4):aD b0 c c' (Z+1) od W (q+1) N w (.two (pl0 b0 c) a):=⟨xO (sm0 b0 c) ha.1 hd,pz1 rfl rfl ha.2⟩
theorem mH {k l:Kd} {a b:T68} (ha:aD b0 (c+1) c1 Z od W q N k a) (hb:aD b0 c1 c' Y od W q N l b) (hk:k.dep≤3) (hl:l.dep≤3):aD b0 c c' (Z+Y+1) od W (q+1) N (.pair k l) (.pair (pl0 b0 c) a b):=⟨uq (sm0 b0 c) ha.1 hb.1 hk hl,pz2 rfl rfl ha.2 hb.2⟩
end
def zl:Nat→Int
 | 0=>0
 | d+1=>zl d+zl d+1
theorem vU:∀ d,0≤zl d
 | 0=>by decide
 | d+1=>by have:=vU d;show 0≤zl d+zl d+1;omega
theorem uC {b0 i j:Int} (h0:0≤i) (h1:i<j) (h2:j<9973) (e:pl0 b0 i=pl0 b0 j):False:=by
 unfold pl0 at e
 omega
theorem uU (b0 x:Int):∀ n:Nat,n≤9973→Gn b0 x n≤1∧(Gn b0 x n=1→∃ i:Nat,i<n∧pl0 b0 i=x)∧0≤Gn b0 x n
 | 0,_=>⟨by show (0:Int)≤1;decide,fun h=>ZX (show (0:Int)=1 from h) (by decide),Int.le_refl _⟩
 | n+1,h=>by
   obtain ⟨h1,h2,h3⟩:=uU b0 x n (by omega)
   show Gn b0 x n+ind b0 x n≤1∧(Gn b0 x n+ind b0 x n=1→_)∧0≤Gn b0 x n+ind b0 x n
   unfold ind
   by_cases k:pl0 b0 n=x
   ·rw [ZZ k]
    have z:Gn b0 x n=0:=by
     refine Decidable.byContradiction fun q=>?_
     obtain ⟨i,hi,e⟩:=h2 (by omega)
     exact uC (b0:=b0) (i:=i) (j:=n) (by omega) (by omega) (by omega) (e.trans k.symm)
    exact ⟨by omega,fun _=>⟨n,by omega,k⟩,by omega⟩
   ·rw [ZY k]
    exact ⟨by omega,fun q=>by obtain ⟨i,hi,e⟩:=h2 (by omega);exact ⟨i,by omega,e⟩,by omega⟩
theorem apart {b0 c' Z:Int} {q:Nat} {t:T68} (h:Pz b0 0 c' Z q t) (hz:Z≤9973):(ak q t).Nodup:=by
 rw [List.nodup_iff_count]
 intro x
 obtain ⟨h1,h2,h3⟩:=h
 obtain ⟨n,rfl⟩:∃ n:Nat,c'=n:=⟨c'.toNat,by omega⟩
 have:=h1 x
 have g:=(uU b0 x n (by omega)).1
 have e0:Gc b0 x 0=0:=rfl
 have e1:Gc b0 x n=Gn b0 x n:=rfl
 rw [e0,e1] at this
 omega
abbrev dS (ns:List Int) (i b0:Int) (W:List Str) (od:Int) (st:List O) (c:Int):List O:=jK ns i b0 c (.lst (sts W)) (.int od) :: st
theorem qH {s:Sta} {elt:E} (hb:aL t one d s.env=some env) (h:ev Γ cal cal1 false elt ⟨env,[],s.st⟩ = .ok e s3):lcQ Γ cal cal1 t one elt (.c (.bl true)) d s = .ok (some e) ⟨s3.env,[],s3.st⟩:=jc hb rfl h
theorem Am (c:Int):∃ k:Kd,k.lN=1∧k.dep=1∧ixD (.lst [Kd.whole.toD,Kd.truth.toD,Kd.whole.toD]) (.int (c % 3))=some k.toD:=by
 have h:c % 3=0∨c % 3=1∨c % 3=2:=by omega
 rcases h with h | h | h <;> rw [h]
 ·exact ⟨.whole,rfl,rfl,rfl⟩
 ·exact ⟨.truth,rfl,rfl,rfl⟩
 ·exact ⟨.whole,rfl,rfl,rfl⟩
theorem mK {c:Int} {n:Int} (h:0<n):∃ k:Nat,c % n=k∧(k:Int)<n:=⟨(c % n).toNat,by have:=Int.emod_nonneg c (b:=n) (by omega);omega,by have:=Int.emod_nonneg c (b:=n) (by omega);have:=Int.emod_lt_of_pos c h;omega⟩
theorem Mad.nil {od:Int} {W:List Str} {q:Nat} {N:Al} {w:Kd} {t:T68} (h:Mad od W q [] w t):Mad od W q N w t:=⟨h.1.mono (fun _ h=>(by cases h)) (Nat.le_refl _),fun z m hm E _=>h.2 z m hm E (fun x k hk=>(by cases hk))⟩
theorem aD.nil {b0 c c' Z od:Int} {W:List Str} {q:Nat} {N:Al} {w:Kd} {t:T68} (h:aD b0 c c' Z od W q [] w t):aD b0 c c' Z od W q N w t:=⟨Mad.nil h.1,h.2⟩
theorem xi {W:List Str} (hW:W.length=5) (ns:List Int) (i b0 od:Int) (st:List O):∀ (d:Nat) (want:Kd),want.lN≤d→want.dep≤3→∀ (N:Al) (cell c:Int) (M:Nat),Nk W N→pE cell→d+2≤M→∃ (t:T68) (c':Int),aD b0 c c' (zl d) od W d N want t∧ag Γ M eW [.ref 0,want.toD,dA N,.int cell] (dS ns i b0 W od st c) = .ok t.toD (dS ns i b0 W od st c')
 | 0,want,h,_,_,_,_,_,_,_,_=>by cases want <;> (unfold Kd.lN at h;omega)
 | d+1,want,h,hdp,N,cell,c,M,nk,hc,hM=>by
   obtain ⟨m,rfl⟩:∃ m,M=m+2:=⟨M - 2,by omega⟩
   have ih:=xi hW ns i b0 od st d
   have k5:=nk.few hW
   have nl:=xY N
   obtain ⟨c0,c1⟩:=hc
   obtain ⟨l,e',hl,hn,hf⟩:=eA (m+1) (.ref 0) (.int cell) want N nk.dp [none,none,none,none,none] (dS ns i b0 W od st c) (nmA N) [] none (fun x h=>h) (by simp only [List.length_nil];omega)
   rw [← nk.walk] at hf
   have hp:=mQ ns i b0 c (.lst (sts W)) (.int od) m st
   have zn:=vU d
   have zd:zl (d+1)=zl d+zl d+1:=rfl
   have sl:(sts l).length=l.length:=List.length_map ..
   by_cases hA:l≠[]∧0<cell % 4
   ·obtain ⟨hA1,hA2⟩:=hA
    have lp:0<l.length:=List.length_pos_iff.mpr hA1
    have f1:decide ((0:Int)<((sts l).length:Nat))=true:=ZW (by rw [sl];omega)
    have f2:decide ((0:Int)<cell % 4)=true:=ZW hA2
    obtain ⟨k,hk,kl⟩:=mK (c:=cell / 4) (n:=((sts l).length:Nat)) (by omega)
    have kl:k<l.length:=by omega
    have g1:opD .mod (.int (cell / 4)) (.int ((sts l).length:Nat))=some (.int (k:Nat)):=fg hk (by omega)
    have g2:ixD (.lst (sts l)) (.int (k:Nat))=some (.str l[k]):=by
     refine cI ?_
     unfold sts
     rw [List.getElem?_map,List.getElem?_eq_getElem kl];rfl
    obtain ⟨n1,n2⟩:=hl _ (List.getElem_mem kl)
    exact ⟨.name (pl0 b0 c) l[k],c+1,(ux n1 n2 (by omega)).z (by omega),(ac true (aX 0 (hf) (aX 2 (f1) (aX 2 (f2) (aX 0 (hp) (aX 2 (g1) (aX 0 (g2) aZ)))))) (by kernel_rfl))⟩
   ·have rt:decide ((0:Int)<((sts l).length:Nat))=false∨(decide ((0:Int)<((sts l).length:Nat))=true∧decide ((0:Int)<cell % 4)=false):=by
     rw [sl]
     by_cases q:l = []
     ·subst q;exact .inl rfl
     ·have lp:0<l.length:=List.length_pos_iff.mpr q
      exact .inr ⟨ZW (by omega),ZV fun z=>hA ⟨q,z⟩⟩
    have hd:exS Γ (ag Γ (m+1)) (aK Γ (m+1)) (hdS 2 eS.body) ⟨[some (.ref 0),some want.toD,some (dA N),some (.int cell),none,none,none,none,none],[],dS ns i b0 W od st c⟩ = .nx ⟨[some (.ref 0),some want.toD,some (dA N),some (.int cell),none,some (.lst (sts l)),some (.int (pl0 b0 c)),none,none],[5],dS ns i b0 W od st (c+1)⟩:=by
     rcases rt with f0 | ⟨f1,f2⟩
     ·exact (b7 true (aX 0 (hf) (aX 2 (f0) (aX 0 (hp) aZ))) (by kernel_rfl))
     ·exact (b7 true (aX 0 (hf) (aX 2 (f1) (aX 2 (f2) (aX 0 (hp) aZ)))) (by kernel_rfl))
    have tl:=fun {r:Res}=>bB (ds:=[.ref 0,want.toD,dA N,.int cell]) (j:=eW) (r:=r) 2 eS rfl rfl hd
    cases want with
    | whole=>
      by_cases q:cell % 3=0
      ·obtain ⟨k,hk,k8⟩:=mK (c:=cell / 12) (n:=8) (by decide)
       exact ⟨.given (pl0 b0 c) k,c+1,(rp (by omega)).z (by omega),tl (aE true (aX 5 (aS q) (aX 1 (fg hk (by decide)) aZ)) (by kernel_rfl))⟩
      ·obtain ⟨v,hv,hnum⟩:=x9 (cell / 12) ⟨by omega,by omega⟩ m (dS ns i b0 W od st (c+1))
       exact ⟨.whole (pl0 b0 c) v,c+1,(kg hv).z (by omega),tl (aE true (aX 5 (ao q) (aX 0 (hnum) aZ)) (by kernel_rfl))⟩
    | truth=>exact ⟨.truth (pl0 b0 c) (cell / 12 % 2 == 0),c+1,rq.z (by omega),tl (aE true aZ (by kernel_rfl))⟩
    | unt=>
      obtain ⟨k,k1,k2,hk⟩:=Am (cell / 12)
      have hd2:k.lN≤d:=by have h:2≤d+1:=h;omega
      obtain ⟨t,c2,ot,ht⟩:=ih k hd2 (by omega) [] (cell / 36) (c+1) (m+1) Nk.nil ⟨by omega,by omega⟩ (by omega)
      refine ⟨.as_ (pl0 b0 c) .unt t,c2,?_,tl (aE true (aX 11 (hk) (aX 0 (ht) aZ)) (by kernel_rfl))⟩
      exact (lC (aD.nil ot)).z (by omega)
    | to a b=>
      have hab:b.lN≤d∧a.dep≤3∧b.dep≤3∧max a.dep b.dep≤2:=by unfold Kd.lN at h;unfold Kd.dep at hdp;omega
      obtain ⟨x,hx,ix⟩:=iF hW (cell / 12)
      have hm:=dU N x a (by omega) m (dS ns i b0 W od st (c+1))
      obtain ⟨t,c2,ot,ht⟩:=ih b hab.1 hab.2.2.1 (ai N (.inr x) a) (cell / 60) (c+1) (m+1) (nk.put hx hab.2.1) ⟨by omega,by omega⟩ (by omega)
      exact ⟨.fn (pl0 b0 c) x a t,c2,(vG hx ot hab.2.1 hab.2.2.1).z (by omega),tl (aE true (aX 15 (ix) (aX 0 (hm) (aX 0 (ht) aZ))) (by kernel_rfl))⟩
    | pair a b=>
      have hab:a.lN≤d∧b.lN≤d∧a.dep≤3∧b.dep≤3:=by unfold Kd.lN at h;unfold Kd.dep at hdp;omega
      obtain ⟨t,c2,ot,ht⟩:=ih a hab.1 hab.2.2.1 N (cell / 12) (c+1) (m+1) nk ⟨by omega,by omega⟩ (by omega)
      obtain ⟨u,c3,ou,hu⟩:=ih b hab.2.1 hab.2.2.2 N (cell / 60) c2 (m+1) nk ⟨by omega,by omega⟩ (by omega)
      exact ⟨.pair (pl0 b0 c) t u,c3,(mH ot ou hab.2.2.1 hab.2.2.2).z (by omega),tl (aE true (aX 0 (ht) (aX 0 (hu) aZ)) (by kernel_rfl))⟩
    | row a=>
      have hab:a.lN≤d∧a.dep≤3:=by unfold Kd.lN at h;unfold Kd.dep at hdp;omega
      have q3:cell / 12 % 3=0∨cell / 12 % 3=1∨cell / 12 % 3=2:=by omega
      obtain ⟨t,c2,ot,ht⟩:=ih a hab.1 hab.2 N (cell / 36+7 * 0) (c+1) (m+1) nk ⟨by omega,by omega⟩ (by omega)
      obtain ⟨u,c3,ou,hu⟩:=ih a hab.1 hab.2 N (cell / 36+7 * 1) c2 (m+1) nk ⟨by omega,by omega⟩ (by omega)
      have pr:∀ t,Mad od W d N a t→∃ w,Mad od W d N w t∧∀ c,Lo c w→c.par a=none:=fun t h=>⟨a,h,fun c hc=>hc.par (.refl a)⟩
      rcases q3 with q | q | q
      ·exact ⟨.row (pl0 b0 c) a [],c+1,(je (by decide) (fun t h=>by cases h) hab.2 PzL.nil).z (by omega),tl (aE false (aX 16 (fg q (by decide)) aZ) (by kernel_rfl))⟩
      ·exact ⟨.row (pl0 b0 c) a [t],c2,(je (Nat.le_of_ble_eq_true rfl) (fun z h=>by rw [List.mem_singleton.mp h];exact pr t ot.1) hab.2 (PzL.cons ot.2 PzL.nil)).z (by omega),tl (aE false (aX 16 (fg q (by decide)) (aX 0 (ht) aZ)) (by kernel_rfl))⟩
      ·exact ⟨.row (pl0 b0 c) a [t,u],c3,(je (Nat.le_of_ble_eq_true rfl) (fun z h=>by rcases List.mem_cons.mp h with rfl | h;exact pr _ ot.1;rw [List.mem_singleton.mp h];exact pr u ou.1) hab.2 (PzL.cons ot.2 (PzL.cons ou.2 PzL.nil))).z (by omega),tl (aE false (aX 16 (fg q (by decide)) (aX 0 (ht) (aX 0 (hu) aZ))) (by kernel_rfl))⟩
section
variable {W:List Str} {ns:List Int} {b0 od:Int} {st:List O}
def cj (W:List Str) (ns:List Int) (b0 od:Int) (st:List O) (r:Int) (q M:Nat) (Z:Int):Prop:=∀ (want:Kd) (N:Al) (i c:Int),want.ok→Nk W N→0≤i→∃ (t:T68) (i' c':Int),0≤i'∧aD b0 c c' Z od W q N want t∧ag Γ M j5 [.ref 0,want.toD,dA N,.int r] (dS ns i b0 W od st c) = .ok t.toD (dS ns i' b0 W od st c')
theorem vQ (c:Int):∃ s:Sg,aV (.bin 0 s (.whole 0 0) (.whole 0 0)) [] [] = .whole∧ixD (.str "+-*+") (.int (c % 4))=some (.str s.str):=by
 have h:c % 4=0∨c % 4=1∨c % 4=2∨c % 4=3:=by omega
 rcases h with h | h | h | h <;> rw [h]
 ·exact ⟨.add,rfl,by kernel_rfl⟩
 ·exact ⟨.sub,rfl,by kernel_rfl⟩
 ·exact ⟨.mul,rfl,by kernel_rfl⟩
 ·exact ⟨.add,rfl,by kernel_rfl⟩
theorem Au (c:Int):∃ s:Sg,aV (.bin 0 s (.whole 0 0) (.whole 0 0)) [] [] = .truth∧ixD (.str "<=") (.int (c % 2))=some (.str s.str):=by
 have h:c % 2=0∨c % 2=1:=by omega
 rcases h with h | h <;> rw [h]
 ·exact ⟨.lt,rfl,by kernel_rfl⟩
 ·exact ⟨.eq,rfl,by kernel_rfl⟩
abbrev nE:E:=.call 32 (.cons (.v 1) (.cons (.ix (.v 2) (.c (.int 1))) (.cons (.v 3) (.cons (.op .sub (.v 4) (.c (.int 1))) .nil))))
theorem mM {r Z:Int} {q M:Nat} (hn:cj W ns b0 od st (r - 1) q M Z) (a:Kd) (ha:a.ok) (N:Al) (nk:Nk W N) (tl:List (Option D)):∀ (L:List Int) (acc:List D) (e:Option D) (i c:Int),0≤i→acc.length+L.length<1000→∃ (ts:List T68) (e':Option D) (i' c':Int),0≤i'∧ts.length=L.length∧(∀ t∈ts,Mad od W q N a t)∧PzL b0 c c' (L.length * Z) q ts∧bh (lcQ Γ (ag Γ M) (aK Γ M) [0] true nE (.c (.bl true))) (L.map .int) acc ⟨e :: some (.ref 0) :: some (Kd.row a).toD :: some (dA N) :: some (.int r) :: tl,[],dS ns i b0 W od st c⟩ = .ok (.lst (acc ++ toDs ts)) ⟨e' :: some (.ref 0) :: some (Kd.row a).toD :: some (dA N) :: some (.int r) :: tl,[],dS ns i' b0 W od st c'⟩
 | [],acc,e,i,c,hi,_=>⟨[],e,i,c,hi,rfl,fun t h=>(nomatch h),PzL.nil.z (by simp),by simp [bh,toDs]⟩
 | x :: L,acc,e,i,c,hi,hl=>by
   simp only [List.length_cons] at hl
   obtain ⟨t,i1,c1,h1,ot,ht⟩:=hn a N i c ha nk hi
   have s0:ev Γ (ag Γ M) (aK Γ M) false nE ⟨some (.int x) :: some (.ref 0) :: some (Kd.row a).toD :: some (dA N) :: some (.int r) :: tl,[],dS ns i b0 W od st c⟩ = .ok t.toD ⟨some (.int x) :: some (.ref 0) :: some (Kd.row a).toD :: some (dA N) :: some (.int r) :: tl,[],dS ns i1 b0 W od st c1⟩:=(gI false (aX 0 (ht) aZ) (by kernel_rfl))
   obtain ⟨ts,e',i2,c2,h2,l2,o2,z2,h3⟩:=mM hn a ha N nk tl L (acc ++ [t.toD]) (some (.int x)) i1 c1 h1 (by rw [List.length_append,List.length_singleton];omega)
   refine ⟨t :: ts,e',i2,c2,h2,by simp [l2],?_,(PzL.cons ot.2 z2).z (by rw [List.length_cons,Int.natCast_add,Int.add_mul];simp;omega),dR (qH rfl s0) (by omega) (by rw [List.append_assoc] at h3;exact h3)⟩
   intro u hu
   rcases List.mem_cons.mp hu with rfl | hu
   ·exact ot.1
   ·exact o2 u hu
theorem Ar (c:Int):∃ L:List Int,L.length≤4∧(itD .range1 [.int (c % 5)]).map D.lst=some (.lst (L.map .int)):=by
 have h:c % 5=0∨c % 5=1∨c % 5=2∨c % 5=3∨c % 5=4:=by omega
 rcases h with h | h | h | h | h <;> rw [h]
 ·exact ⟨[],by decide,by kernel_rfl⟩
 ·exact ⟨[0],by decide,by kernel_rfl⟩
 ·exact ⟨[0,1],by decide,by kernel_rfl⟩
 ·exact ⟨[0,1,2],by decide,by kernel_rfl⟩
 ·exact ⟨[0,1,2,3],by decide,by kernel_rfl⟩
theorem yQ (hW:W.length=5) {r Z:Int} {q M:Nat} (hz:0≤Z) (hn:cj W ns b0 od st (r - 1) q (M+2) Z) (want:Kd) (N:Al) (cell i c:Int) (hw:want.ok) (nk:Nk W N) (hi:0≤i):∃ (t:T68) (i' c':Int),0≤i'∧aD b0 c c' (4 * Z+1) od W (q+1) N want t∧ag Γ (M+3) i4 [.ref 0,want.toD,dA N,.int r,.int cell] (dS ns i b0 W od st c) = .ok t.toD (dS ns i' b0 W od st c'):=by
 have hp:=mQ ns i b0 c (.lst (sts W)) (.int od) (M+1) st
 have k5:=nk.few hW
 cases want with
 | whole=>
   by_cases q5:cell % 5=4
   ·obtain ⟨k,hk,hf⟩:=vp (cell / 5) (M+1) (dS ns i b0 W od st (c+1))
    obtain ⟨t,i1,c1,h1,ot,ht⟩:=hn (.row k) N i (c+1) (Kd.ok2 (by show 1+k.dep≤2;omega)) nk hi
    exact ⟨.size (pl0 b0 c) t,i1,c1,h1,(uy ot).z (by omega),(ac false (aX 0 (hp) (aX 5 (aS q5) (aX 0 (hf) (aX 0 (ht) aZ)))) (by kernel_rfl))⟩
   ·obtain ⟨s,hs0,hs⟩:=vQ cell
    obtain ⟨t,i1,c1,h1,ot,ht⟩:=hn .whole N i (c+1) (Kd.ok2 (by decide)) nk hi
    obtain ⟨u,i2,c2,h2,ou,hu⟩:=hn .whole N i1 c1 (Kd.ok2 (by decide)) nk h1
    exact ⟨.bin (pl0 b0 c) s t u,i2,c2,h2,(ro ot ou hs0).z (by omega),(ac false (aX 0 (hp) (aX 5 (ao q5) (aX 5 (hs) (aX 0 (ht) (aX 0 (hu) aZ))))) (by kernel_rfl))⟩
 | truth=>
   obtain ⟨s0,_,hs0⟩:=vQ cell
   obtain ⟨s,hs1,hs⟩:=Au cell
   obtain ⟨t,i1,c1,h1,ot,ht⟩:=hn .whole N i (c+1) (Kd.ok2 (by decide)) nk hi
   obtain ⟨u,i2,c2,h2,ou,hu⟩:=hn .whole N i1 c1 (Kd.ok2 (by decide)) nk h1
   exact ⟨.bin (pl0 b0 c) s t u,i2,c2,h2,(ro ot ou hs1).z (by omega),(ac false (aX 0 (hp) (aX 11 (hs0) (aX 4 (hs) (aX 0 (ht) (aX 0 (hu) aZ))))) (by kernel_rfl))⟩
 | unt=>
   obtain ⟨k,hk,hf⟩:=iq cell (M+1) (dS ns i b0 W od st (c+1))
   obtain ⟨t,i1,c1,h1,ot,ht⟩:=hn k N i (c+1) (Kd.ok2 hk) nk hi
   exact ⟨.as_ (pl0 b0 c) .unt t,i1,c1,h1,(lC ot).z (by omega),(ac false (aX 0 (hp) (aX 0 (hf) (aX 0 (ht) aZ))) (by kernel_rfl))⟩
 | pair a b=>
   have hab:a.ok∧b.ok:=by obtain ⟨x,y⟩:=hw;unfold Kd.lN at y;unfold Kd.dep at x;unfold Kd.ok;omega
   obtain ⟨t,i1,c1,h1,ot,ht⟩:=hn a N i (c+1) hab.1 nk hi
   obtain ⟨u,i2,c2,h2,ou,hu⟩:=hn b N i1 c1 hab.2 nk h1
   exact ⟨.pair (pl0 b0 c) t u,i2,c2,h2,(mH ot ou hab.1.1 hab.2.1).z (by omega),(ac false (aX 0 (hp) (aX 0 (ht) (aX 0 (hu) aZ))) (by kernel_rfl))⟩
 | row a=>
   have ha:a.ok:=by obtain ⟨x,y⟩:=hw;unfold Kd.lN at y;unfold Kd.dep at x;unfold Kd.ok;omega
   obtain ⟨L,l4,hL⟩:=Ar cell
   obtain ⟨ts,e',i1,c1,h1,l1,ots,zts,hlp⟩:=mM hn a ha N nk [some (.int cell),some (.int (pl0 b0 c)),none,none,none,none,none,none] L [] none i (c+1) hi (by simp only [List.length_nil];omega)
   exact ⟨.row (pl0 b0 c) a ts,i1,c1,h1,(je (by omega) (fun t ht=>⟨a,ots t ht,fun c hc=>hc.par (.refl a)⟩) ha.1 zts).z (by have:(L.length:Int) * Z≤4 * Z:=Int.mul_le_mul_of_nonneg_right (by omega) hz;omega),(ac true (aX 0 (hp) (aX 20 (hL) (aX 0 (hlp) aZ))) (by kernel_rfl))⟩
 | to a b=>
   have hab:a.dep≤3∧b.ok:=by obtain ⟨x,y⟩:=hw;unfold Kd.lN at y;unfold Kd.dep at x;unfold Kd.ok;omega
   obtain ⟨x,hx,ix⟩:=iF hW cell
   have hm:=dU N x a (by omega) (M+1) (dS ns i b0 W od st (c+1))
   by_cases g:0<cell / 5 % 3
   ·obtain ⟨t,i1,c1,h1,ot,ht⟩:=hn b (ai N (.inr x) a) i (c+1) hab.2 (nk.put hx hab.1) hi
    exact ⟨.fn (pl0 b0 c) x a t,i1,c1,h1,(vG hx ot hab.1 hab.2.1).z (by omega),(ac false (aX 0 (hp) (aX 18 (ix) (aX 0 (hm) (aX 3 (ZW g) (aX 0 (ht) aZ))))) (by kernel_rfl))⟩
   ·obtain ⟨y,hy,iy⟩:=iF hW (cell / 15)
    have l:=bx N (.inr y) (.to a b)
    have hm2:=dU N y (.to a b) (by omega) (M+1) (dS ns i b0 W od st (c+1))
    have hm3:=dU (ai N (.inr y) (.to a b)) x a (by omega) (M+1) (dS ns i b0 W od st (c+1))
    obtain ⟨t,i1,c1,h1,ot,ht⟩:=hn b (ai (ai N (.inr y) (.to a b)) (.inr x) a) i (c+1) hab.2 ((nk.put hy hw.1).put hx hab.1) hi
    exact ⟨.slf (pl0 b0 c) y x a b t,i1,c1,h1,(xT hy hx ot hab.1 hab.2.1).z (by omega),(ac false (aX 0 (hp) (aX 18 (ix) (aX 0 (hm) (aX 3 (ZV g) (aX 3 (iy) (aX 0 (hm2) (aX 0 (hm3) (aX 0 (ht) aZ)))))))) (by kernel_rfl))⟩
end
theorem kT {x y:Str} (h:x.cps.toList=y.cps.toList):x=y:=by
 cases x;cases y;congr 1;exact Array.toList_inj.mp h
abbrev abc:D:=.str "abcdefghijklmnopqrstuvwxyz"
theorem BA:∀ k:Nat,k<26→ixD abc (.int k)=some (.str ⟨#[97+k]⟩)
 | 0,_=>by kernel_rfl
 | 1,_=>by kernel_rfl
 | 2,_=>by kernel_rfl
 | 3,_=>by kernel_rfl
 | 4,_=>by kernel_rfl
 | 5,_=>by kernel_rfl
 | 6,_=>by kernel_rfl
 | 7,_=>by kernel_rfl
 | 8,_=>by kernel_rfl
 | 9,_=>by kernel_rfl
 | 10,_=>by kernel_rfl
 | 11,_=>by kernel_rfl
 | 12,_=>by kernel_rfl
 | 13,_=>by kernel_rfl
 | 14,_=>by kernel_rfl
 | 15,_=>by kernel_rfl
 | 16,_=>by kernel_rfl
 | 17,_=>by kernel_rfl
 | 18,_=>by kernel_rfl
 | 19,_=>by kernel_rfl
 | 20,_=>by kernel_rfl
 | 21,_=>by kernel_rfl
 | 22,_=>by kernel_rfl
 | 23,_=>by kernel_rfl
 | 24,_=>by kernel_rfl
 | 25,_=>by kernel_rfl
 | k+26,h=>ZX h (by omega)
theorem zV {i:Int} (h0:0≤i) (h1:i<26):ixD abc (.int i)=some (.str ⟨#[97+i.toNat]⟩):=by
 obtain ⟨k,rfl⟩:∃ k:Nat,i=k:=⟨i.toNat,by omega⟩
 exact BA k (by omega)
def wdC (B:List Int) (at_ k:Int) (i:Nat):Nat:=97+(((B[i]?).getD 0+5 * k * (if ((0+(i:Int)) == at_)=true then 1 else 0)) % 26).toNat
abbrev wdR (js:List Nat):List D:=js.map fun (i:Nat)=>D.int (0+i)
abbrev wdI:S:=.set 6 (.op .add (.v 6) (.ix (.v 1) (.op .mod (.op .add (.ix (.v 3) (.v 7)) (.op .mul (.op .mul (.c (.int 5)) (.v 2)) (.bi .int (.cons (.op .eq (.v 7) (.v 4)) .nil)))) (.c (.int 26)))))
section
variable {cal cal1:Nat→List D→List O→Res} {B:List Int} {c at_:Int} {st:List O}
abbrev wdE (c k:Int) (B:List Int) (at_:Int) (ws:List D) (e6 e7:Option D):List (Option D):=[some (.int c),some abc,some (.int k),some (.lst (B.map .int)),some (.int at_),some (.lst ws),e6,e7]
theorem AH (k:Int) (ws:List D):∀ (js:List Nat) (x:Str) (e7:Option D),(∀ i∈js,i<B.length)→x.length+js.length≤1000→∃ (y:Str) (e7':Option D),y.cps.toList=x.cps.toList ++ js.map (wdC B at_ k) ∧
 bc (fb Γ cal cal1 [7] true wdI) (wdR js) ⟨wdE c k B at_ ws (some (.str x)) e7,[5,3],st⟩ = .nx ⟨wdE c k B at_ ws (some (.str y)) e7',[5,3],st⟩
 | [],x,e7,_,_=>⟨x,e7,by simp,rfl⟩
 | i :: js,x,e7,h,hl=>by
   simp only [List.length_cons] at hl
   have hi:=h i (List.mem_cons_self ..)
   have e1:ixD (.lst (B.map D.int)) (.int (0+(i:Int)))=some (.int B[i]):=by
    rw [Int.zero_add]
    refine cI ?_
    rw [List.getElem?_map,List.getElem?_eq_getElem hi];rfl
   have e2:opD .mul (.int (5 * k)) (.int (if ((0+(i:Int)) == at_)=true then 1 else 0))=some (.int (5 * k * (if ((0+(i:Int)) == at_)=true then 1 else 0))):=iA (by split <;> decide)
   have hm:=Int.emod_nonneg (B[i]+5 * k * (if ((0+(i:Int)) == at_)=true then 1 else 0)) (b:=26) (by decide)
   have hM:=Int.emod_lt_of_pos (B[i]+5 * k * (if ((0+(i:Int)) == at_)=true then 1 else 0)) (b:=26) (by decide)
   have e3:=zV hm hM
   have hc:wdC B at_ k i=97+((B[i]+5 * k * (if ((0+(i:Int)) == at_)=true then 1 else 0)) % 26).toNat:=by unfold wdC;rw [List.getElem?_eq_getElem hi];rfl
   rw [← hc] at e3
   have ln:(x ++ (⟨#[wdC B at_ k i]⟩:Str)).length=x.length+1:=by rw [Str.length_append];rfl
   have e4:opD .add (.str x) (.str ⟨#[wdC B at_ k i]⟩)=some (.str (x ++ ⟨#[wdC B at_ k i]⟩)):=by
    show cN (x.length+1) _=_
    unfold cN;rw [ZZ (by omega)]
   obtain ⟨y,e7',hy,hf⟩:=AH k ws js (x ++ ⟨#[wdC B at_ k i]⟩) (some (.int (0+(i:Int)))) (fun j hj=>h j (List.mem_cons_of_mem _ hj)) (by rw [ln];omega)
   refine ⟨y,e7',?_,a9 (aW rfl (b7 false (aX 0 (e1) (aX 3 (e2) (aX 2 (e3) (aX 0 (e4) aZ)))) (by kernel_rfl))) hf⟩
   rw [hy,Str.cps_append,Array.toList_append,List.append_assoc];rfl
def Wdk (B:List Int) (at_ k:Int) (z:Str):Prop:=∃ y:Str,y.cps.toList=(List.range B.length).map (wdC B at_ k)∧(z=y∨z=y ++ ("x":Str))
abbrev wdB:S:=dq iT.body
theorem AJ (hB:B.length≤8) (k:Int) (ws:List D) (hws:ws.length≤10) (e6 e7:Option D):∃ (z:Str) (e7':Option D),Wdk B at_ k z∧exS Γ cal cal1 wdB ⟨wdE c k B at_ ws e6 e7,[5,3],st⟩ = .nx ⟨wdE c k B at_ (ws ++ [.str z]) (some (.str z)) e7',[5,3],st⟩:=by
 obtain ⟨y,e7',hy,hf⟩:=AH (cal:=cal) (cal1:=cal1) (B:=B) (c:=c) (at_:=at_) (st:=st) k ws (List.range B.length) "" e7 (fun i hi=>List.mem_range.mp hi) (by rw [List.length_range];show 0+B.length≤1000;omega)
 have hy:y.cps.toList=(List.range B.length).map (wdC B at_ k):=hy
 have yl:y.length=B.length:=by
  have:y.cps.toList.length=B.length:=by rw [hy,List.length_map,List.length_range]
  rw [Array.length_toList] at this;exact this
 have hr:(itD .range1 [.int ((B.map D.int).length:Nat)]).map D.lst=some (.lst (wdR (List.range B.length))):=by
  rw [List.length_map]
  unfold itD wJ
  dsimp only
  rw [ZZ ⟨by omega,by omega⟩,Int.toNat_natCast];rfl
 have la:decide (ws.length<100000)=true:=ZW (by omega)
 by_cases g1:(y == ("yes":Str))=true
 ·have ax:opD .add (.str y) (.str "x")=some (.str (y ++ ("x":Str))):=by
   show cN (y.length+1) _=_
   unfold cN;rw [ZZ (by omega)]
  exact ⟨y ++ ("x":Str),e7',⟨y,hy,.inr rfl⟩,(b7 true (aX 1 (hr) (aX 0 (hf) (aX 1 (g1) (aX 1 (ax) (aX 0 (la) aZ))))) (by kernel_rfl))⟩
 ·have g1:(y == ("yes":Str))=false:=by simpa using g1
  by_cases g2:(y == ("no":Str))=true
  ·have ax:opD .add (.str y) (.str "x")=some (.str (y ++ ("x":Str))):=by
    show cN (y.length+1) _=_
    unfold cN;rw [ZZ (by omega)]
   exact ⟨y ++ ("x":Str),e7',⟨y,hy,.inr rfl⟩,(b7 true (aX 1 (hr) (aX 0 (hf) (aX 1 (g1) (aX 1 (g2) (aX 0 (ax) (aX 0 (la) aZ)))))) (by kernel_rfl))⟩
  ·have g2:(y == ("no":Str))=false:=by simpa using g2
   exact ⟨y,e7',⟨y,hy,.inl rfl⟩,(b7 true (aX 1 (hr) (aX 0 (hf) (aX 1 (g1) (aX 1 (g2) (aX 0 (la) aZ))))) (by kernel_rfl))⟩
theorem AI {k j:Int} {x y:Str} (a:Nat) (ha:a<B.length) (e:at_=a) (hk:0≤k∧k≤4) (hj:0≤j∧j≤4) (n:k≠j) (h1:Wdk B at_ k x) (h2:Wdk B at_ j y):x≠y:=by
 obtain ⟨u,hu,h1⟩:=h1
 obtain ⟨v,hv,h2⟩:=h2
 have uv:u≠v:=fun z=>by
  rw [z,hv] at hu
  have:=ZS (fun l=>l[a]?) hu
  simp only [List.getElem?_map] at this
  rw [List.getElem?_range ha] at this
  have this:wdC B at_ j a=wdC B at_ k a:=by simpa using this
  unfold wdC at this
  rw [e] at this
  have q:((0+(a:Int)) == (a:Int))=true:=aS (Int.zero_add _)
  rw [ZZ q,List.getElem?_eq_getElem ha] at this
  simp only [Option.getD_some] at this
  omega
 have ul:u.length=B.length:=by
  have:u.cps.toList.length=B.length:=by rw [hu,List.length_map,List.length_range]
  rw [Array.length_toList] at this;exact this
 have vl:v.length=B.length:=by
  have:v.cps.toList.length=B.length:=by rw [hv,List.length_map,List.length_range]
  rw [Array.length_toList] at this;exact this
 have x1:("x":Str).length=1:=by decide +kernel
 intro z
 rcases h1 with rfl | rfl <;> rcases h2 with rfl | rfl
 ·exact uv z
 ·have:=ZS Str.length z;rw [Str.length_append] at this;omega
 ·have:=ZS Str.length z;rw [Str.length_append] at this;omega
 ·refine uv (kT ?_)
  have:=ZS (fun s:Str=>s.cps.toList) z
  simp only [Str.cps_append,Array.toList_append] at this
  exact List.append_cancel_right this
end
abbrev AF:E:=.op .mod (.op .add (.op .fdiv (.v 1) (.op .add (.v 0) (.c (.int 1)))) (.op .mul (.v 0) (.v 0))) (.c (.int 26))
def bsW (c:Int) (i:Nat):Int:=(c / (0+(i:Int)+1)+(0+(i:Int)) * (0+(i:Int))) % 26
theorem AG (c:Int) (n:Nat) (tl:List (Option D)) (S:List O):∀ (js:List Nat) (acc:List D) (e:Option D),(∀ i∈js,i<100)→acc.length+js.length<1000→∃ e':Option D,bh (lcQ Γ (ag Γ n) (aK Γ n) [0] true AF (.c (.bl true))) (wdR js) acc ⟨e :: some (.int c) :: tl,[],S⟩ = .ok (.lst (acc ++ (js.map (bsW c)).map .int)) ⟨e' :: some (.int c) :: tl,[],S⟩
 | [],acc,e,_,_=>⟨e,by simp [bh]⟩
 | i :: js,acc,e,h,hl=>by
   simp only [List.length_cons] at hl
   have hi:=h i (List.mem_cons_self ..)
   have e1:opD .fdiv (.int c) (.int (0+(i:Int)+1))=some (.int (c / (0+(i:Int)+1))):=by
    show (if _ then _ else _)=_
    rw [ZZ ⟨by omega,by omega⟩]
   have e2:opD .mul (.int (0+(i:Int))) (.int (0+(i:Int)))=some (.int ((0+(i:Int)) * (0+(i:Int)))):=iA ⟨by omega,by omega⟩
   have s0:ev Γ (ag Γ n) (aK Γ n) false AF ⟨some (.int (0+(i:Int))) :: some (.int c) :: tl,[],S⟩ = .ok (.int (bsW c i)) ⟨some (.int (0+(i:Int))) :: some (.int c) :: tl,[],S⟩:=(gI false (aX 1 (e1) (aX 0 (e2) aZ)) (by kernel_rfl))
   obtain ⟨e',h3⟩:=AG c n tl S js (acc ++ [.int (bsW c i)]) (some (.int (0+(i:Int)))) (fun j hj=>h j (List.mem_cons_of_mem _ hj)) (by rw [List.length_append,List.length_singleton];omega)
   exact ⟨e',dR (jc rfl rfl s0) (by omega) (by rw [List.append_assoc] at h3;exact h3)⟩
theorem AK (c:Int) (n:Nat) (S:List O):∃ W:List Str,W.length=5∧W.Nodup∧ag Γ (n+1) i8 [.int c] S = .ok (.lst (sts W)) S:=by
 obtain ⟨L,hL⟩:∃ L:Nat,1+c % 8=L:=⟨(1+c % 8).toNat,by omega⟩
 have hr:(itD .range1 [.int (1+c % 8)]).map D.lst=some (.lst (wdR (List.range L))):=by
  rw [hL]
  unfold itD wJ
  dsimp only
  rw [ZZ ⟨by omega,by omega⟩,Int.toNat_natCast];rfl
 obtain ⟨e',hb⟩:=AG c n [some abc,none,none,none,none,none,none] S (List.range L) [] none (fun i hi=>by have:=List.mem_range.mp hi;omega) (by rw [List.length_range];show 0+L<1000;omega)
 have hBl:((List.range L).map (bsW c)).length=L:=by rw [List.length_map,List.length_range]
 generalize hB:(List.range L).map (bsW c)=B at hb hBl
 obtain ⟨a,hA⟩:∃ a:Nat,c / 8 % (L:Nat)=a:=⟨(c / 8 % (L:Nat)).toNat,by have:=Int.emod_nonneg (c / 8) (b:=(L:Nat)) (by omega);omega⟩
 have al:a<L:=by have:=Int.emod_lt_of_pos (c / 8) (b:=(L:Nat)) (by omega);omega
 have ha:opD .mod (.int (c / 8)) (.int ((B.map D.int).length:Nat))=some (.int (a:Nat)):=by
  rw [List.length_map,hBl]
  show (if 0<((L:Nat):Int) then some (D.int ((c / 8) % (L:Nat))) else none)=_
  rw [ZZ (by omega),hA]
 have wd:=fun (k:Int) (ws:List D) (hws:ws.length≤10) (e6 e7:Option D)=>AJ (cal:=ag Γ n) (cal1:=aK Γ n) (B:=B) (c:=c) (at_:=(a:Nat)) (st:=S) (by omega) k ws hws e6 e7
 obtain ⟨w0,f0,d0,h0⟩:=wd 0 [] (by decide) none none
 obtain ⟨w1,f1,d1,h1⟩:=wd 1 [.str w0] (by decide:1≤10) (some (.str w0)) f0
 obtain ⟨w2,f2,d2,h2⟩:=wd 2 [.str w0,.str w1] (by decide:2≤10) (some (.str w1)) f1
 obtain ⟨w3,f3,d3,h3⟩:=wd 3 [.str w0,.str w1,.str w2] (by decide:3≤10) (some (.str w2)) f2
 obtain ⟨w4,f4,d4,h4⟩:=wd 4 [.str w0,.str w1,.str w2,.str w3] (by decide:4≤10) (some (.str w3)) f3
 have ne:=fun {k j:Int} {x y:Str} (hk:0≤k∧k≤4) (hj:0≤j∧j≤4) (q:k≠j) (h1:Wdk B (a:Nat) k x) (h2:Wdk B (a:Nat) j y)=>AI a (by omega) rfl hk hj q h1 h2
 have hf:bc (fb Γ (ag Γ n) (aK Γ n) [2] true wdB) [.int 0,.int 1,.int 2,.int 3,.int 4] ⟨[some (.int c),some abc,none,some (.lst (B.map .int)),some (.int (a:Nat)),some (.lst []),none,none],[5,3],S⟩ = .nx ⟨wdE c 4 B (a:Nat) [.str w0,.str w1,.str w2,.str w3,.str w4] (some (.str w4)) f4,[5,3],S⟩:=
  a9 (aW rfl h0) (a9 (aW rfl h1) (a9 (aW rfl h2) (a9 (aW rfl h3) (a9 (aW rfl h4) rfl))))
 refine ⟨[w0,w1,w2,w3,w4],rfl,?_,(ac true (aX 2 (hr) (aX 0 (hb) (aX 2 (ha) (aX 0 (hf) aZ)))) (by kernel_rfl))⟩
 have n01:=ne (by decide) (by decide) (by decide) d0 d1
 have n02:=ne (by decide) (by decide) (by decide) d0 d2
 have n03:=ne (by decide) (by decide) (by decide) d0 d3
 have n04:=ne (by decide) (by decide) (by decide) d0 d4
 have n12:=ne (by decide) (by decide) (by decide) d1 d2
 have n13:=ne (by decide) (by decide) (by decide) d1 d3
 have n14:=ne (by decide) (by decide) (by decide) d1 d4
 have n23:=ne (by decide) (by decide) (by decide) d2 d3
 have n24:=ne (by decide) (by decide) (by decide) d2 d4
 have n34:=ne (by decide) (by decide) (by decide) d3 d4
 simp [n01,n02,n03,n04,n12,n13,n14,n23,n24,n34]
section
variable {W:List Str} {ns:List Int} {b0 od:Int} {st:List O}
theorem Aj (a b:Kd) (c:Int):∃ k:Kd,(k=a∨k=b)∧ixD (.lst [a.toD,a.toD,a.toD,b.toD]) (.int (c % 4))=some k.toD:=by
 have h:c % 4=0∨c % 4=1∨c % 4=2∨c % 4=3:=by omega
 rcases h with h | h | h | h <;> rw [h]
 ·exact ⟨a,.inl rfl,rfl⟩
 ·exact ⟨a,.inl rfl,rfl⟩
 ·exact ⟨a,.inl rfl,rfl⟩
 ·exact ⟨b,.inr rfl,rfl⟩
theorem Bz (k:Kd) (S:List O):∃ l:Int,biD .len [look S k.toD]=some (.int l)∧(l=1→k.dep=1):=by
 cases k <;> first | exact ⟨1,rfl,fun _=>rfl⟩ | exact ⟨2,rfl,fun h=>ZX h (by decide)⟩ | exact ⟨3,rfl,fun h=>ZX h (by decide)⟩
abbrev nS (want:Kd) (N:Al) (r x:Int) (tl:List (Option D)):List (Option D):=some (.ref 0) :: some want.toD :: some (dA N) :: some (.int r) :: some (.int x) :: tl
theorem oU (hW:W.length=5) {r Z:Int} {p M:Nat} (hz:7≤Z) (hr:5≤r) (h1:∀ m,M+2≤m→cj W ns b0 od st (r - 1) (p+2) m Z) (hM:2≤M) (want:Kd) (N:Al) (x i c:Int) (hx:pE x) (hw:want.ok) (nk:Nk W N) (hi:0≤i):∃ (t:T68) (i' c':Int),0≤i'∧aD b0 c c' (4 * Z+16) od W (p+3) N want t∧toR (exS Γ (ag Γ (M+3)) (aK Γ (M+3)) (tlS 1 bQ.body) ⟨nS want N r x [none,none,none,none,none,none,none],[],dS ns i b0 W od st c⟩) = .ok t.toD (dS ns i' b0 W od st c'):=by
 have n1:=h1 (M+3) (by omega)
 have hp:=fun c=>mQ ns i b0 c (.lst (sts W)) (.int od) (M+2) st
 have k5:=nk.few hW
 obtain ⟨x0,x1⟩:=hx
 have b3:decide (r<5)=false:=ZV (by omega)
 by_cases t3:x % 13=3
 ·obtain ⟨t,c1,ot,ht⟩:=xi hW ns i b0 od st 3 want hw.2 hw.1 N (x / 13) c (M+3) nk ⟨by omega,by omega⟩ (by omega)
  exact ⟨t,i,c1,hi,(ot.up (by omega)).z (by show (7:Int)≤_;omega),(aE false (aX 1 (b3) (aX 2 (aS t3) (aX 0 (ht) aZ))) (by kernel_rfl))⟩
 by_cases t2:x % 13=2
 ·obtain ⟨k,hk,hf⟩:=iq (x / 52) (M+2) (dS ns i b0 W od st c)
  obtain ⟨k',hk',hx⟩:=Aj want k (x / 13)
  obtain ⟨t,i1,c1,hi1,ot,ht⟩:=n1 k' N i (c+1) (by rcases hk' with e | e;exact e ▸ hw;exact e ▸ Kd.ok2 hk) nk hi
  exact ⟨.as_ (pl0 b0 c) .unt t,i1,c1,hi1,(lC ot).z (by omega),(aE false (aX 1 (b3) (aX 2 (ao t3) (aX 2 (aS t2) (aX 0 (hf) (aX 2 (hx) (aX 0 (hp c) (aX 0 (ht) aZ))))))) (by kernel_rfl))⟩
 obtain ⟨f,hf,jf⟩:=iF hW (x / 117)
 by_cases w3:x / 13 % 9=3
 ·obtain ⟨k,hk,hkk⟩:=iq (x / 117 / 5) (M+2) (dS ns i b0 W od st (c+1))
  obtain ⟨t,i1,c1,hi1,ot,ht⟩:=n1 k N i (c+1) (Kd.ok2 hk) nk hi
  have m1:=dU N f k (by omega) (M+2) (dS ns i1 b0 W od st c1)
  obtain ⟨u,i2,c2,hi2,ou,hu⟩:=n1 want (ai N (.inr f) k) i1 c1 hw (nk.put hf (by omega)) hi1
  exact ⟨.lt (pl0 b0 c) f t u,i2,c2,hi2,(xR hf ot ou (by have:=hw.1;omega)).z (by omega),(aE false (aX 1 (b3) (aX 2 (ao t3) (aX 2 (ao t2) (aX 0 (hp c) (aX 2 (jf) (aX 1 (aS w3) (aX 0 (hkk) (aX 0 (ht) (aX 0 (m1) (aX 0 (hu) aZ)))))))))) (by kernel_rfl))⟩
 by_cases w4:x / 13 % 9=4
 ·obtain ⟨v,i0,c0,hi0,ov,hv⟩:=n1 .truth N i (c+1) (Kd.ok2 (by decide)) nk hi
  obtain ⟨t,i1,c1,hi1,ot,ht⟩:=n1 want N i0 c0 hw nk hi0
  obtain ⟨u,i2,c2,hi2,ou,hu⟩:=n1 want N i1 c1 hw nk hi1
  exact ⟨.iff (pl0 b0 c) v t u,i2,c2,hi2,(xQ ov ot ou (by have:=hw.1;omega)).z (by omega),(aE false (aX 1 (b3) (aX 2 (ao t3) (aX 2 (ao t2) (aX 0 (hp c) (aX 2 (jf) (aX 1 (ao w3) (aX 1 (aS w4) (aX 0 (hv) (aX 0 (ht) (aX 0 (hu) aZ)))))))))) (by kernel_rfl))⟩
 obtain ⟨l,hl,l1⟩:=Bz want (dS ns i b0 W od st (c+1))
 have bu:=yQ hW (by omega) (h1 (M+2) (Nat.le_refl _)) want N (x / 117) i (c+1) hw nk hi
 by_cases d1:l=1
 ·have wd:=l1 d1
  by_cases w5:x / 13 % 9=5
  ·obtain ⟨k,hk,hkk⟩:=iq (x / 117) (M+2) (dS ns i b0 W od st (c+1))
   obtain ⟨t,i1,c1,hi1,ot,ht⟩:=n1 (.to k want) N i (c+1) ⟨by show 1+max k.dep want.dep≤3;omega,by have:=Kd.lN_le want;show 1+want.lN≤3;omega⟩ nk hi
   obtain ⟨u,i2,c2,hi2,ou,hu⟩:=n1 k N i1 c1 (Kd.ok2 hk) nk hi1
   exact ⟨.call (pl0 b0 c) t u,i2,c2,hi2,(uu ot ou (by omega)).z (by omega),(aE false (aX 1 (b3) (aX 2 (ao t3) (aX 2 (ao t2) (aX 0 (hp c) (aX 2 (jf) (aX 1 (ao w3) (aX 1 (ao w4) (aX 1 (aS w5) (aX 0 (hl) (aX 1 (aS d1) (aX 0 (hkk) (aX 0 (ht) (aX 0 (hu) aZ))))))))))))) (by kernel_rfl))⟩
  by_cases w6:x / 13 % 9=6
  ·by_cases g0:x / 117 % 3=0
   ·obtain ⟨t,i1,c1,hi1,ot,ht⟩:=n1 (.row want) N i (c+1) (Kd.ok2 (by show 1+want.dep≤2;omega)) nk hi
    have hq:=mQ ns i1 b0 c1 (.lst (sts W)) (.int od) (M+2) st
    exact ⟨.att (pl0 b0 c) t (.whole (pl0 b0 c1) (x / 117 / 3 % 4)),i1,c1+1,hi1,(xP ot (kg (by omega)) (by omega)).z (by omega),(aE false (aX 1 (b3) (aX 2 (ao t3) (aX 2 (ao t2) (aX 0 (hp c) (aX 2 (jf) (aX 1 (ao w3) (aX 1 (ao w4) (aX 1 (ao w5) (aX 2 (aS w6) (aX 0 (hl) (aX 1 (aS d1) (aX 2 (aS g0) (aX 0 (ht) (aX 0 (hq) aZ)))))))))))))) (by kernel_rfl))⟩
   ·obtain ⟨k,hk,hkk⟩:=vp (x / 117 / 3) (M+2) (dS ns i b0 W od st (c+1))
    by_cases g1:x / 117 % 3=1
    ·obtain ⟨t,i1,c1,hi1,ot,ht⟩:=n1 (.pair want k) N i (c+1) (Kd.ok2 (by show 1+max want.dep k.dep≤2;omega)) nk hi
     exact ⟨.one (pl0 b0 c) t,i1,c1,hi1,(xS ot (by omega)).z (by omega),(aE false (aX 1 (b3) (aX 2 (ao t3) (aX 2 (ao t2) (aX 0 (hp c) (aX 2 (jf) (aX 1 (ao w3) (aX 1 (ao w4) (aX 1 (ao w5) (aX 2 (aS w6) (aX 0 (hl) (aX 1 (aS d1) (aX 2 (ao g0) (aX 2 (aS g1) (aX 0 (hkk) (aX 0 (ht) aZ))))))))))))))) (by kernel_rfl))⟩
    ·obtain ⟨t,i1,c1,hi1,ot,ht⟩:=n1 (.pair k want) N i (c+1) (Kd.ok2 (by show 1+max k.dep want.dep≤2;omega)) nk hi
     exact ⟨.two (pl0 b0 c) t,i1,c1,hi1,(xU ot (by omega)).z (by omega),(aE false (aX 1 (b3) (aX 2 (ao t3) (aX 2 (ao t2) (aX 0 (hp c) (aX 2 (jf) (aX 1 (ao w3) (aX 1 (ao w4) (aX 1 (ao w5) (aX 2 (aS w6) (aX 0 (hl) (aX 1 (aS d1) (aX 2 (ao g0) (aX 2 (ao g1) (aX 0 (hkk) (aX 0 (ht) aZ))))))))))))))) (by kernel_rfl))⟩
  obtain ⟨t,i1,c1,hi1,ot,ht⟩:=bu
  exact ⟨t,i1,c1,hi1,ot.skip.z (by omega),(aE false (aX 1 (b3) (aX 2 (ao t3) (aX 2 (ao t2) (aX 0 (hp c) (aX 2 (jf) (aX 1 (ao w3) (aX 1 (ao w4) (aX 1 (ao w5) (aX 2 (ao w6) (aX 0 (ht) aZ)))))))))) (by kernel_rfl))⟩
 ·obtain ⟨t,i1,c1,hi1,ot,ht⟩:=bu
  by_cases w5:x / 13 % 9=5
  ·exact ⟨t,i1,c1,hi1,ot.skip.z (by omega),(aE false (aX 1 (b3) (aX 2 (ao t3) (aX 2 (ao t2) (aX 0 (hp c) (aX 2 (jf) (aX 1 (ao w3) (aX 1 (ao w4) (aX 1 (aS w5) (aX 0 (hl) (aX 1 (ao d1) (aX 1 (ao (show x / 13 % 9≠6 by omega)) (aX 0 (ht) aZ)))))))))))) (by kernel_rfl))⟩
  by_cases w6:x / 13 % 9=6
  ·exact ⟨t,i1,c1,hi1,ot.skip.z (by omega),(aE false (aX 1 (b3) (aX 2 (ao t3) (aX 2 (ao t2) (aX 0 (hp c) (aX 2 (jf) (aX 1 (ao w3) (aX 1 (ao w4) (aX 1 (ao w5) (aX 2 (aS w6) (aX 0 (hl) (aX 1 (ao d1) (aX 0 (ht) aZ)))))))))))) (by kernel_rfl))⟩
  exact ⟨t,i1,c1,hi1,ot.skip.z (by omega),(aE false (aX 1 (b3) (aX 2 (ao t3) (aX 2 (ao t2) (aX 0 (hp c) (aX 2 (jf) (aX 1 (ao w3) (aX 1 (ao w4) (aX 1 (ao w5) (aX 2 (ao w6) (aX 0 (ht) aZ)))))))))) (by kernel_rfl))⟩
theorem iB (want:Kd) (N:Al) (r i c:Int) (M:Nat) (hw:want.ok) (hi:0≤i):∃ (x:Int) (k:Kd),pE x∧k.ok∧(od≠0→k=want)∧exS Γ (ag Γ (M+2)) (aK Γ (M+2)) (hdS 1 bQ.body) ⟨[some (.ref 0),some want.toD,some (dA N),some (.int r),none,none,none,none,none,none,none,none],[],dS ns i b0 W od st c⟩ = .nx ⟨nS k N r x [none,none,none,none,none,none,none],[],dS ns (i+1) b0 W od st c⟩:=by
 obtain ⟨x,x0,hx⟩:=next ns i b0 c (.lst (sts W)) (.int od) hi (M+1) st
 by_cases g1:x % 13=1
 ·by_cases g2:od=0
  ·obtain ⟨k,hk,hf⟩:=iq (x / 13) (M+1) (dS ns (i+1) b0 W od st c)
   exact ⟨x,k,x0,Kd.ok2 hk,fun h=>ZX g2 h,(b7 false (aX 0 (hx) (aX 2 (aS g1) (aX 2 (aS g2) (aX 0 (hf) aZ)))) (by kernel_rfl))⟩
  ·exact ⟨x,want,x0,hw,fun _=>rfl,(b7 false (aX 0 (hx) (aX 2 (aS g1) (aX 2 (ao g2) aZ))) (by kernel_rfl))⟩
 ·exact ⟨x,want,x0,hw,fun _=>rfl,(b7 false (aX 0 (hx) (aX 2 (ao g1) aZ)) (by kernel_rfl))⟩
theorem dZ (hW:W.length=5) {r Z:Int} {p M:Nat} (hz:7≤Z) (hr:5≤r) (h1:∀ m,M+2≤m→cj W ns b0 od st (r - 1) (p+2) m Z) (hM:2≤M) (m:Nat) (hm:M+4≤m):cj W ns b0 od st r (p+3) m (4 * Z+16):=by
 intro want N i c hw nk hi
 obtain ⟨m,rfl⟩:∃ k,m=k+4:=⟨m - 4,by omega⟩
 obtain ⟨x,k,x0,hk,e,hh⟩:=iB (W:=W) (ns:=ns) (b0:=b0) (od:=od) (st:=st) want N r i c (m+1) hw hi
 obtain ⟨t,i1,c1,hi1,ot,ht⟩:=oU hW hz hr (M:=m) (fun q hq=>h1 q (by omega)) (by omega) k N x (i+1) c x0 hk nk (by omega)
 exact ⟨t,i1,c1,hi1,ot.to e,bB 1 bQ rfl rfl hh ht⟩
theorem lF (hW:W.length=5) (r:Int) (hr:r<5) (m:Nat) (hm:6≤m):cj W ns b0 od st r 3 m 7:=by
 intro want N i c hw nk hi
 obtain ⟨m,rfl⟩:∃ k,m=k+6:=⟨m - 6,by omega⟩
 obtain ⟨x,k,x0,hk,e,hh⟩:=iB (W:=W) (ns:=ns) (b0:=b0) (od:=od) (st:=st) want N r i c (m+3) hw hi
 have b3:decide (r<5)=true:=ZW hr
 obtain ⟨t,c1,ot,ht⟩:=xi hW ns (i+1) b0 od st 3 k hk.2 hk.1 N (x / 13) c (m+5) nk ⟨by have:=x0.1;omega,by have:=x0.2;omega⟩ (by omega)
 have t2:toR (exS Γ (ag Γ (m+5)) (aK Γ (m+5)) (tlS 1 bQ.body) ⟨nS k N r x [none,none,none,none,none,none,none],[],dS ns (i+1) b0 W od st c⟩) = .ok t.toD (dS ns (i+1) b0 W od st c1):=(aE false (aX 1 (b3) (aX 0 (ht) aZ)) (by kernel_rfl))
 exact ⟨t,i+1,c1,by omega,ot.to e,bB 1 bQ rfl rfl hh t2⟩
theorem cj.up {r Z Y:Int} {q q' m:Nat} (h:cj W ns b0 od st r q m Z) (l:q≤q') (lz:Z≤Y):cj W ns b0 od st r q' m Y:=fun want N i c hw nk hi=>by
 obtain ⟨t,i1,c1,hi1,ot,ht⟩:=h want N i c hw nk hi
 exact ⟨t,i1,c1,hi1,(ot.up l).z lz,ht⟩
theorem Ac (hW:W.length=5) (m:Nat) (hm:14≤m):cj W ns b0 od st 8 8 m 5776:=by
 have s:∀ r:Int,r<5→∀ m,6≤m→cj W ns b0 od st r 3 m 7:=fun r hr m hm=>lF hW r hr m hm
 have n5:∀ m,8≤m→cj W ns b0 od st 5 4 m 44:=fun m hm=>(dZ hW (r:=5) (Z:=7) (p:=1) (M:=4) (by decide) (by decide) (fun q hq=>s _ (by decide) q hq) (by decide) m hm).up (by decide) (by decide)
 have n6:∀ m,10≤m→cj W ns b0 od st 6 5 m 192:=fun m hm=>(dZ hW (r:=6) (Z:=44) (p:=2) (M:=6) (by decide) (by decide) (fun q hq=>n5 q hq) (by decide) m hm).up (by decide) (by decide)
 have n7:∀ m,12≤m→cj W ns b0 od st 7 6 m 784:=fun m hm=>(dZ hW (r:=7) (Z:=192) (p:=3) (M:=8) (by decide) (by decide) (fun q hq=>n6 q hq) (by decide) m hm).up (by decide) (by decide)
 exact (dZ hW (r:=8) (Z:=784) (p:=4) (M:=10) (by decide) (by decide) (fun q hq=>n7 q hq) (by decide) m hm).up (by decide) (by decide)
end
abbrev flD:D:=.lst [.str "whole",.str "truth",.str "?"]
theorem vo (c:Int):∃ k:Kd,k.dep=1∧∃ x:Str,k.toD = .tup [.str x]∧ixD flD (.int (c % 6 % 3))=some (.str x):=by
 have h:c % 6 % 3=0∨c % 6 % 3=1∨c % 6 % 3=2:=by omega
 rcases h with h | h | h <;> rw [h]
 ·exact ⟨.whole,rfl,_,rfl,rfl⟩
 ·exact ⟨.truth,rfl,_,rfl,rfl⟩
 ·exact ⟨.unt,rfl,_,rfl,rfl⟩
theorem pN (S:List O):∀ (m:Nat) (c r:Int) (N:Nat),0≤c→r≤m→m≤N→∃ (k:Kd) (c':Int),(0≤c'∧k.dep≤m+1)∧ag Γ (N+1) dJ [.int c,.int r,flD] S = .ok (.lst [k.toD,.int c']) S:=by
 intro m
 induction m with
 | zero=>
   intro c r N h0 hr _
   obtain ⟨k,kp,x,e,hx⟩:=vo c
   refine ⟨k,c / 6,⟨by omega,by omega⟩,?_⟩
   rw [e]
   exact (ac false (aX 3 (ZW (show r<2 by omega)) (aX 3 (hx) aZ)) (by kernel_rfl))
 | succ m ih=>
   intro c r N h0 hr hN
   obtain ⟨N,rfl⟩:∃ n,N=n+1:=⟨N - 1,by omega⟩
   obtain ⟨k,kp,x,e,hx⟩:=vo c
   by_cases r2:r<2
   ·refine ⟨k,c / 6,⟨by omega,by omega⟩,?_⟩
    rw [e]
    exact (ac false (aX 3 (ZW r2) (aX 3 (hx) aZ)) (by kernel_rfl))
   by_cases h3:c % 6<3
   ·refine ⟨k,c / 6,⟨by omega,by omega⟩,?_⟩
    rw [e]
    exact (ac false (aX 3 (ZV r2) (aX 1 (ZW h3) (aX 2 (hx) aZ))) (by kernel_rfl))
   obtain ⟨a,c1,⟨hc1,ad⟩,ha⟩:=ih (c / 6) (r - 1) N (by omega) (by omega) (by omega)
   by_cases h4:c % 6=3
   ·exact ⟨.row a,c1,⟨hc1,by show 1+a.dep≤m+1+1;omega⟩,(ac false (aX 3 (ZV r2) (aX 1 (ZV h3) (aX 0 (ha) (aX 1 (aS h4) aZ)))) (by kernel_rfl))⟩
   obtain ⟨b,c2,⟨hc2,bd⟩,hb⟩:=ih c1 (r - 1) N hc1 (by omega) (by omega)
   have h5:c % 6 - 4=0∨c % 6 - 4=1:=by omega
   rcases h5 with h5 | h5
   ·exact ⟨.to a b,c2,⟨hc2,by show 1+max a.dep b.dep≤m+1+1;omega⟩,(ac false (aX 3 (ZV r2) (aX 1 (ZV h3) (aX 0 (ha) (aX 1 (ao h4) (aX 0 (hb) (aX 1 ((show ixD (.lst [.str "to",.str "pair"]) (.int (c % 6 - 4))=some (.str "to") by rw [h5];rfl)) aZ)))))) (by kernel_rfl))⟩
   ·exact ⟨.pair a b,c2,⟨hc2,by show 1+max a.dep b.dep≤m+1+1;omega⟩,(ac false (aX 3 (ZV r2) (aX 1 (ZV h3) (aX 0 (ha) (aX 1 (ao h4) (aX 0 (hb) (aX 1 ((show ixD (.lst [.str "to",.str "pair"]) (.int (c % 6 - 4))=some (.str "pair") by rw [h5];rfl)) aZ)))))) (by kernel_rfl))⟩
section
variable {o0:O} {W:List Str} {ns:List Int} {b0:Int}
abbrev zj (ns:List Int) (i b c:Int) (w o:D):O:=.lst [.lst (ns.map .int),.int i,.int b,.int c,w,o]
abbrev dG (o0:O) (ns:List Int) (b0:Int) (W:List Str) (i c:Int):List O:=[o0,zj ns i b0 c (.lst (sts W)) flD,.lst []]
theorem vj (i c:Int) (hi:0≤i) (n:Nat):∃ x:Int,0≤x∧ag Γ (n+1) cu [.ref 1] (dG o0 ns b0 W i c) = .ok (.int x) (dG o0 ns b0 W (i+1) c):=by
 by_cases c2:i+1<(ns.length:Int)
 ·have e2:decide (i+1<((ns.map D.int).length:Int))=true:=by rw [List.length_map];exact ZW c2
  obtain ⟨k,hk⟩:∃ k:Nat,i+1=k:=⟨(i+1).toNat,by omega⟩
  have kl:k<ns.length:=by omega
  have e3:ixD (.lst (ns.map D.int)) (.int (i+1))=some (.int ns[k]):=by
   rw [hk]
   refine cI ?_
   rw [List.getElem?_map,List.getElem?_eq_getElem kl]
   rfl
  refine ⟨(if ns[k]<0 then -ns[k] else ns[k]),by split <;> omega,?_⟩
  exact (ac false (aX 6 (e2) (aX 2 (e3) aZ)) (by kernel_rfl))
 ·have e2:decide (i+1<((ns.map D.int).length:Int))=false:=by rw [List.length_map];exact ZV c2
  exact ⟨0,by decide,(ac false (aX 6 (e2) aZ) (by kernel_rfl))⟩
def Nn (nm:D) (ks:List Str):Prop:=(nm = .ref 2∧ks = [])∨nm = .lst (sts ks)
theorem Nn.look {nm:D} {ks:List Str} (h:Nn nm ks) (i c:Int):look (dG o0 ns b0 W i c) nm = .lst (sts ks):=by
 rcases h with ⟨rfl,rfl⟩ | rfl <;> rfl
theorem Nn.more {nm:D} {ks:List Str} (h:Nn nm ks) (hl:ks.length<1000) (ws:List Str) (hw:ws.length≤2) (i c:Int):opD .add (L2.Ev.look (dG o0 ns b0 W i c) nm) (.lst (sts ws))=some (.lst (sts (ks ++ ws))):=by
 rw [h.look]
 show cN ((sts ks).length+(sts ws).length) _=_
 unfold cN sts
 rw [ZZ (by rw [List.length_map,List.length_map];omega),List.map_append]
def DP (b0 c c':Int) (W:List Str) (q:Nat) (bs:List Str) (t:T68):Prop:=Ok W q bs t∧Pz b0 c c' (c' - c) q t
theorem dp0 {q:Nat} {bs:List Str} {t:T68} {c:Int} (h:own W bs t) (e:t.pl=pl0 b0 c) (hk:ah t = []) (hw:wks t = []):DP b0 c (c+1) W (q+1) bs t:=⟨⟨h,by rw [e];exact sm0 b0 c,by rw [hw];exact fun _ h=>(by cases h),fun i k e=>by rw [hk] at e;simp at e⟩,(pz0 e hk).z (by omega)⟩
theorem pO {nm:D} {ks:List Str} (hn:Nn nm ks) (way x i c:Int) (hx:0≤x) (n q:Nat):∃ t:T68,DP b0 c (c+1) W (q+1) ks t∧ag Γ (n+1) dK [.ref 1,nm,.int way,.int x,.int (pl0 b0 c)] (dG o0 ns b0 W i (c+1)) = .ok t.toD (dG o0 ns b0 W i (c+1)):=by
 have ne:opD .ne (L2.Ev.look (dG o0 ns b0 W i (c+1)) nm) (.lst [])=some (.bl (decide (ks≠[]))):=by
  rw [hn.look]
  cases ks with
  | nil=>rfl
  | cons k ks=>rfl
 by_cases A3:way % 4=3∧ks≠[]
 ·obtain ⟨a,b⟩:=A3
  rw [ZW b] at ne
  have lp:0<ks.length:=List.length_pos_iff.mpr b
  have sl:(sts ks).length=ks.length:=List.length_map ..
  obtain ⟨k,hk⟩:∃ k:Nat,x % (ks.length:Nat)=k:=⟨(x % (ks.length:Nat)).toNat,by
   have:=Int.emod_nonneg x (b:=(ks.length:Nat)) (by omega);omega⟩
  have kl:k<ks.length:=by
   have:=Int.emod_lt_of_pos x (b:=(ks.length:Nat)) (by omega);omega
  have g0:biD .len [L2.Ev.look (dG o0 ns b0 W i (c+1)) nm]=some (.int (ks.length:Nat)):=by
   rw [hn.look,← sl];rfl
  have g1:opD .mod (.int x) (.int (ks.length:Nat))=some (.int (k:Nat)):=by
   show (if 0<((ks.length:Nat):Int) then some (D.int (x % (ks.length:Nat))) else none)=_
   rw [ZZ (by omega),hk]
  have g2:ixD (L2.Ev.look (dG o0 ns b0 W i (c+1)) nm) (.int (k:Nat))=some (.str ks[k]):=by
   rw [hn.look]
   refine cI ?_
   unfold sts
   rw [List.getElem?_map,List.getElem?_eq_getElem kl];rfl
  exact ⟨.name (pl0 b0 c) ks[k],dp0 (List.getElem_mem kl)  rfl rfl rfl,(ac false (aX 2 (aS a) (aX 0 (ne) (aX 1 (g0) (aX 0 (g1) (aX 0 (g2) aZ))))) (by kernel_rfl))⟩
 have rt:(way % 4 == 3)=false∨((way % 4 == 3)=true∧opD .ne (L2.Ev.look (dG o0 ns b0 W i (c+1)) nm) (.lst [])=some (.bl false)):=by
  by_cases a:way % 4=3
  ·rw [ZV (fun h=>A3 ⟨a,h⟩)] at ne
   exact .inr ⟨aS a,ne⟩
  ·exact .inl (ao a)
 by_cases A2:way % 4=2
 ·obtain ⟨k,hk⟩:∃ k:Nat,x % 8=k:=⟨(x % 8).toNat,by omega⟩
  refine ⟨.given (pl0 b0 c) k,dp0 (show k<8 by omega)  rfl rfl rfl,?_⟩
  have g1:opD .mod (.int x) (.int 8)=some (.int (k:Nat)):=ZS (fun z=>some (D.int z)) hk
  rcases rt with f | ⟨f,g⟩
  ·exact (ac false (aX 2 (f) (aX 3 (aS A2) (aX 0 (g1) aZ))) (by kernel_rfl))
  ·exact (ac false (aX 2 (f) (aX 0 (g) (aX 3 (aS A2) (aX 0 (g1) aZ)))) (by kernel_rfl))
 by_cases A1:way % 4=1
 ·refine ⟨.truth (pl0 b0 c) (x % 2 == 0),dp0 trivial rfl rfl rfl,?_⟩
  rcases rt with f | ⟨f,g⟩
  ·exact (ac false (aX 2 (f) (aX 3 (ao A2) (aX 2 (aS A1) aZ))) (by kernel_rfl))
  ·exact (ac false (aX 2 (f) (aX 0 (g) (aX 3 (ao A2) (aX 2 (aS A1) aZ)))) (by kernel_rfl))
 have h2:∃ v:Int,v.natAbs<10 ^ 40∧ixD (.lst [.int (x / 2 % 9),.int (x / 2 % (2 * 10 ^ 40 - 1) - 10 ^ 40+1)]) (.int (x % 2))=some (.int v):=by
  have h:x % 2=0∨x % 2=1:=by omega
  rcases h with h | h <;> rw [h]
  ·exact ⟨_,by omega,rfl⟩
  ·exact ⟨_,by omega,rfl⟩
 obtain ⟨v,hv,jv⟩:=h2
 refine ⟨.whole (pl0 b0 c) v,dp0 hv rfl rfl rfl,?_⟩
 rcases rt with f | ⟨f,g⟩
 ·exact (ac false (aX 2 (f) (aX 3 (ao A2) (aX 2 (ao A1) (aX 11 (jv) aZ)))) (by kernel_rfl))
 ·exact (ac false (aX 2 (f) (aX 0 (g) (aX 3 (ao A2) (aX 2 (ao A1) (aX 11 (jv) aZ))))) (by kernel_rfl))
end
section
variable {o0:O} {W:List Str} {ns:List Int} {b0:Int}
def Cn (c c':Int) (m:Nat):Prop:=c'=c+1∨(c<26∧c'≤27+4 * m)
theorem cn1 {c c1:Int} {m:Nat} (h:¬26<c+1) (n1:Cn (c+1) c1 m):Cn c c1 (m+1):=by unfold Cn at *;omega
theorem cn2 {c c1 c2:Int} {m:Nat} (h:¬26<c+1) (n1:Cn (c+1) c1 m) (n2:Cn c1 c2 m):Cn c c2 (m+1):=by unfold Cn at *;omega
theorem cn3 {c c1 c2 c3:Int} {m:Nat} (h:¬26<c+1) (n1:Cn (c+1) c1 m) (n2:Cn c1 c2 m) (n3:Cn c2 c3 m):Cn c c3 (m+1):=by unfold Cn at *;omega
theorem cnl {c c1:Int} {l m:Nat} (h:¬26<c+1) (l4:l≤4) (n:c1≤c+1+l∨c1+1≤27+4 * m+l):Cn c c1 (m+1):=by unfold Cn;omega
theorem cnc {c c1 c2:Int} {l m:Nat} (n1:Cn c c1 m) (n2:c2≤c1+l∨c2+1≤27+4 * m+l):c2≤c+((l+1:Nat):Int)∨c2+1≤27+4 * m+((l+1:Nat):Int):=by unfold Cn at n1;omega
def DH (o0:O) (W:List Str) (ns:List Int) (b0:Int) (m:Nat) (r:Int) (N:Nat):Prop:=∀ (nm:D) (ks:List Str) (i c:Int),Nn nm ks→ks.length+2 * m≤900→0≤i→∃ (t:T68) (i' c':Int),0≤i'∧(DP b0 c c' W (m+1) ks t∧Cn c c' m)∧ag Γ N dL [.ref 1,nm,.int r] (dG o0 ns b0 W i c) = .ok t.toD (dG o0 ns b0 W i' c')
section
variable {c c1 c2 c3:Int} {q:Nat} {bs:List Str} {t a b d:T68}
theorem dpk {ts:List T68} (h:own W bs t) (e:t.pl=pl0 b0 c) (hk:ah t=ts) (hw:∀ k∈wks t,k.dep≤5) (ho:∀ i y,ts[i]? = some y→Ok W q (bs ++ bnd t i) y) (hz:PzL b0 (c+1) c1 (c1 - (c+1)) q ts):DP b0 c c1 W (q+1) bs t:=
 ⟨⟨h,by rw [e];exact sm0 b0 c,fun k hk=>by have:=hw k hk;omega,fun i k z=>ho i k (by rw [← hk];exact z)⟩,(Pz.node e (by rw [hk];exact hz)).z (by omega)⟩
theorem dp1 (h:own W bs t) (e:t.pl=pl0 b0 c) (hk:ah t = [a]) (hw:∀ k∈wks t,k.dep≤5) (ha:DP b0 (c+1) c1 W q (bs ++ bnd t 0) a):DP b0 c c1 W (q+1) bs t:=
 dpk h e hk hw (fun i y e=>by
  match i,e with
  | 0,e=>cases e;exact ha.1
  | i+1,e=>simp at e) ((PzL.cons ha.2 PzL.nil).z (by omega))
theorem dp2 (h:own W bs t) (e:t.pl=pl0 b0 c) (hk:ah t = [a,b]) (hw:∀ k∈wks t,k.dep≤5) (ha:DP b0 (c+1) c1 W q (bs ++ bnd t 0) a) (hb:DP b0 c1 c2 W q (bs ++ bnd t 1) b):DP b0 c c2 W (q+1) bs t:=
 dpk h e hk hw (fun i y e=>by
  match i,e with
  | 0,e=>cases e;exact ha.1
  | 1,e=>cases e;exact hb.1
  | i+2,e=>simp at e) ((PzL.cons ha.2 (PzL.cons hb.2 PzL.nil)).z (by omega))
theorem dp3 (h:own W bs t) (e:t.pl=pl0 b0 c) (hk:ah t = [a,b,d]) (hw:∀ k∈wks t,k.dep≤5) (ha:DP b0 (c+1) c1 W q (bs ++ bnd t 0) a) (hb:DP b0 c1 c2 W q (bs ++ bnd t 1) b) (hd:DP b0 c2 c3 W q (bs ++ bnd t 2) d):DP b0 c c3 W (q+1) bs t:=
 dpk h e hk hw (fun i y e=>by
  match i,e with
  | 0,e=>cases e;exact ha.1
  | 1,e=>cases e;exact hb.1
  | 2,e=>cases e;exact hd.1
  | i+3,e=>simp at e) ((PzL.cons ha.2 (PzL.cons hb.2 (PzL.cons hd.2 PzL.nil))).z (by omega))
theorem DP.app (h:DP b0 c c1 W q bs t):DP b0 c c1 W q (bs ++ []) t:=by rw [List.append_nil];exact h
theorem wN:∀ k∈([]:List Kd),k.dep≤5:=fun _ h=>by cases h
theorem wO {k:Kd} (h:k.dep≤5):∀ x∈[k],x.dep≤5:=fun x hx=>by rw [List.mem_singleton.mp hx];exact h
end
theorem zh (hW:W.length=5) {m N:Nat} {r:Int} (hn:DH o0 W ns b0 m (r - 1) (N+5)) {nm:D} {ks:List Str} (nk:Nn nm ks) (hl:ks.length+2 * (m+1)≤900) (way x i c:Int) (c26:¬26<c+1) (hx:0≤x) (hi:0≤i):∃ (t:T68) (i' c':Int),0≤i'∧(DP b0 c c' W (m+2) ks t∧Cn c c' (m+1))∧ag Γ (N+6) cU [.ref 1,nm,.int r,.int way,.int x,.int (pl0 b0 c)] (dG o0 ns b0 W i (c+1)) = .ok t.toD (dG o0 ns b0 W i' c'):=by
 obtain ⟨w,hw,jw⟩:=iF hW x
 obtain ⟨f,hf,jf⟩:=iF hW (x / 5)
 obtain ⟨k,y,⟨hy,kd⟩,jk⟩:=pN (dG o0 ns b0 W i (c+1)) 4 (x / 25) 4 (N+4) (by omega) (by decide) (by omega)
 by_cases g4:way=4
 ·obtain ⟨t,i1,c1,h1,⟨ot,nt⟩,ht⟩:=hn nm ks i (c+1) nk (by omega) hi
  exact ⟨.as_ (pl0 b0 c) k t,i1,c1,h1,⟨dp1 trivial rfl rfl (wO kd) ot.app,cn1 c26 nt⟩,(ac false (aX 2 (jw) (aX 3 (jf) (aX 0 (jk) (aX 1 (aS g4) (aX 0 (ht) aZ))))) (by kernel_rfl))⟩
 by_cases g5:way=5
 ·obtain ⟨t,i1,c1,h1,⟨ot,nt⟩,ht⟩:=hn _ (ks ++ [w]) i (c+1) (.inr rfl) (by simp;omega) hi
  have ad:=nk.more (o0:=o0) (ns:=ns) (b0:=b0) (W:=W) (by omega) [w] (by decide:1≤2) i (c+1)
  exact ⟨.fn (pl0 b0 c) w k t,i1,c1,h1,⟨dp1 hw rfl rfl (wO kd) ot,cn1 c26 nt⟩,(ac false (aX 2 (jw) (aX 3 (jf) (aX 0 (jk) (aX 1 (ao g4) (aX 1 (aS g5) (aX 0 (ad) (aX 0 (ht) aZ))))))) (by kernel_rfl))⟩
 by_cases g6:way=6
 ·obtain ⟨g,z,⟨hz,gd⟩,jg⟩:=pN (dG o0 ns b0 W i (c+1)) 3 y 3 (N+4) hy (by decide) (by omega)
  obtain ⟨t,i1,c1,h1,⟨ot,nt⟩,ht⟩:=hn _ (ks ++ [f,w]) i (c+1) (.inr rfl) (by simp;omega) hi
  have ad:=nk.more (o0:=o0) (ns:=ns) (b0:=b0) (W:=W) (by omega) [f,w] (by decide:2≤2) i (c+1)
  exact ⟨.slf (pl0 b0 c) f w k g t,i1,c1,h1,⟨dp1 ⟨hf,hw⟩ rfl rfl (fun x hx=>by rcases List.mem_cons.mp hx with rfl | hx;exact kd;rw [List.mem_singleton.mp hx];omega) ot,cn1 c26 nt⟩,(ac false (aX 2 (jw) (aX 3 (jf) (aX 0 (jk) (aX 1 (ao g4) (aX 1 (ao g5) (aX 1 (aS g6) (aX 0 (jg) (aX 1 (ad) (aX 0 (ht) aZ))))))))) (by kernel_rfl))⟩
 obtain ⟨t,i1,c1,h1,⟨ot,nt⟩,ht⟩:=hn nm ks i (c+1) nk (by omega) hi
 obtain ⟨u,i2,c2,h2,⟨ou,nu⟩,hu⟩:=hn _ (ks ++ [w]) i1 c1 (.inr rfl) (by simp;omega) h1
 have ad:=nk.more (o0:=o0) (ns:=ns) (b0:=b0) (W:=W) (by omega) [w] (by decide:1≤2) i1 c1
 exact ⟨.lt (pl0 b0 c) w t u,i2,c2,h2,⟨dp2 hw rfl rfl wN ot.app ou,cn2 c26 nt nu⟩,(ac false (aX 2 (jw) (aX 3 (jf) (aX 0 (jk) (aX 1 (ao g4) (aX 1 (ao g5) (aX 1 (ao g6) (aX 0 (ht) (aX 0 (ad) (aX 0 (hu) aZ))))))))) (by kernel_rfl))⟩
abbrev zg:E:=.call 36 (.cons (.v 1) (.cons (.v 2) (.cons (.op .sub (.v 3) (.c (.int 1))) .nil)))
theorem lX {m N:Nat} {r:Int} (hn:DH o0 W ns b0 m (r - 1) N) {nm:D} {ks:List Str} (nk:Nn nm ks) (hk:ks.length+2 * m≤900) (tl:List (Option D)):∀ (L:List Int) (acc:List D) (e:Option D) (i c:Int),0≤i→acc.length+L.length<1000→∃ (ts:List T68) (e':Option D) (i' c':Int),0≤i'∧ts.length=L.length∧(∀ t∈ts,Ok W (m+1) ks t)∧PzL b0 c c' (c' - c) (m+1) ts∧(c'≤c+L.length∨c'+1≤27+4 * m+L.length)∧bh (lcQ Γ (ag Γ N) (aK Γ N) [0] true zg (.c (.bl true))) (L.map .int) acc ⟨e :: some (.ref 1) :: some nm :: some (.int r) :: tl,[],dG o0 ns b0 W i c⟩ = .ok (.lst (acc ++ toDs ts)) ⟨e' :: some (.ref 1) :: some nm :: some (.int r) :: tl,[],dG o0 ns b0 W i' c'⟩
 | [],acc,e,i,c,hi,_=>⟨[],e,i,c,hi,rfl,fun t h=>(nomatch h),PzL.nil.z (by omega),.inl (by simp),by simp [bh,toDs]⟩
 | x :: L,acc,e,i,c,hi,hl=>by
   simp only [List.length_cons] at hl
   obtain ⟨t,i1,c1,h1,⟨ot,nt⟩,ht⟩:=hn nm ks i c nk hk hi
   have s0:ev Γ (ag Γ N) (aK Γ N) false zg ⟨some (.int x) :: some (.ref 1) :: some nm :: some (.int r) :: tl,[],dG o0 ns b0 W i c⟩ = .ok t.toD ⟨some (.int x) :: some (.ref 1) :: some nm :: some (.int r) :: tl,[],dG o0 ns b0 W i1 c1⟩:=(gI false (aX 0 (ht) aZ) (by kernel_rfl))
   obtain ⟨ts,e',i2,c2,h2,l2,o2,z2,n2,h3⟩:=lX hn nk hk tl L (acc ++ [t.toD]) (some (.int x)) i1 c1 h1 (by rw [List.length_append,List.length_singleton];omega)
   refine ⟨t :: ts,e',i2,c2,h2,by simp [l2],?_,(PzL.cons ot.2 z2).z (by omega),cnc nt n2,dR (qH rfl s0) (by omega) (by rw [List.append_assoc] at h3;exact h3)⟩
   intro u hu
   rcases List.mem_cons.mp hu with rfl | hu
   ·exact ot.1
   ·exact o2 u hu
theorem Av (c:Int):∃ s:Sg,ixD (.str "+-*<=") (.int (c % 5))=some (.str s.str):=by
 have h:c % 5=0∨c % 5=1∨c % 5=2∨c % 5=3∨c % 5=4:=by omega
 rcases h with h | h | h | h | h <;> rw [h]
 ·exact ⟨.add,by kernel_rfl⟩
 ·exact ⟨.sub,by kernel_rfl⟩
 ·exact ⟨.mul,by kernel_rfl⟩
 ·exact ⟨.lt,by kernel_rfl⟩
 ·exact ⟨.eq,by kernel_rfl⟩
theorem BD (y:Int) (h1:9≤y) (h2:y<12) {c c':Int} (t:T68) {q:Nat} {ks:List Str} (ot:DP b0 (c+1) c' W q ks t):∃ (u:T68) (x:Str),u.toD = .tup [.str x,.int (pl0 b0 c),t.toD]∧DP b0 c c' W (q+1) ks u∧ixD (.lst [.str "size",.str "one",.str "two"]) (.int (y - 9))=some (.str x):=by
 have h:y - 9=0∨y - 9=1∨y - 9=2:=by omega
 rcases h with h | h | h <;> rw [h]
 ·exact ⟨.size (pl0 b0 c) t,_,rfl,dp1 trivial rfl rfl wN ot.app,rfl⟩
 ·exact ⟨.one (pl0 b0 c) t,_,rfl,dp1 trivial rfl rfl wN ot.app,rfl⟩
 ·exact ⟨.two (pl0 b0 c) t,_,rfl,dp1 trivial rfl rfl wN ot.app,rfl⟩
theorem BK (y:Int) (h1:14≤y) (h2:y<18) {c c1 c':Int} (t v:T68) {q:Nat} {ks:List Str} (ot:DP b0 (c+1) c1 W q ks t) (ov:DP b0 c1 c' W q ks v):∃ (u:T68) (x:Str),u.toD = .tup [.str x,.int (pl0 b0 c),t.toD,v.toD]∧DP b0 c c' W (q+1) ks u∧ixD (.lst [.str "call",.str "call",.str "at",.str "pair"]) (.int (y - 14))=some (.str x):=by
 have h:y - 14=0∨y - 14=1∨y - 14=2∨y - 14=3:=by omega
 rcases h with h | h | h | h <;> rw [h]
 ·exact ⟨.call (pl0 b0 c) t v,_,rfl,dp2 trivial rfl rfl wN ot.app ov.app,rfl⟩
 ·exact ⟨.call (pl0 b0 c) t v,_,rfl,dp2 trivial rfl rfl wN ot.app ov.app,rfl⟩
 ·exact ⟨.att (pl0 b0 c) t v,_,rfl,dp2 trivial rfl rfl wN ot.app ov.app,rfl⟩
 ·exact ⟨.pair (pl0 b0 c) t v,_,rfl,dp2 trivial rfl rfl wN ot.app ov.app,rfl⟩
abbrev dnE (nm:D) (r x p y:Int):List (Option D):=[some (.ref 1),some nm,some (.int r),some (.int x),some (.int p),some (.int y),none,none,none,none,none,none].take 11
abbrev dTl:S:=tlS 4 aM.body
theorem sL (hW:W.length=5) {m N:Nat} {r:Int} (hn:∀ M,N+5≤M→DH o0 W ns b0 m (r - 1) M) {nm:D} {ks:List Str} (nk:Nn nm ks) (hl:ks.length+2 * (m+1)≤900) (x y i c:Int) (hr:2≤r) (hx:0≤x) (hy:y<18) (hi:0≤i):∃ (t:T68) (i' c':Int),0≤i'∧(DP b0 c c' W (m+2) ks t∧Cn c c' (m+1))∧toR (exS Γ (ag Γ (N+6)) (aK Γ (N+6)) dTl ⟨dnE nm r x (pl0 b0 c) y,[],dG o0 ns b0 W i (c+1)⟩) = .ok t.toD (dG o0 ns b0 W i' c'):=by
 have n1:=hn (N+6) (by omega)
 have r2:decide (r<2)=false:=ZV (by omega)
 obtain ⟨t,ot,ht⟩:=pO (o0:=o0) (W:=W) (ns:=ns) (b0:=b0) nk y x i c hx (N+5) (m+1)
 by_cases y4:y<4
 ·exact ⟨t,i,c+1,hi,⟨ot,.inl rfl⟩,(aE false (aX 1 (r2) (aX 1 (ZW y4) (aX 0 (ht) aZ))) (by kernel_rfl))⟩
 by_cases c26:26<c+1
 ·exact ⟨t,i,c+1,hi,⟨ot,.inl rfl⟩,(aE false (aX 1 (r2) (aX 1 (ZV y4) (aX 2 (ZW c26) (aX 0 (ht) aZ)))) (by kernel_rfl))⟩
 clear ht ot t
 by_cases y8:y<8
 ·obtain ⟨t,i1,c1,h1,ot,ht⟩:=zh hW (hn (N+5) (Nat.le_refl _)) nk hl y x i c c26 hx hi
  exact ⟨t,i1,c1,h1,ot,(aE false (aX 1 (r2) (aX 1 (ZV y4) (aX 2 (ZV c26) (aX 1 (ZW y8) (aX 0 (ht) aZ))))) (by kernel_rfl))⟩
 by_cases e8:y=8
 ·obtain ⟨k,z,⟨hz,kd⟩,jk⟩:=pN (dG o0 ns b0 W i (c+1)) 4 x 4 (N+5) hx (by decide) (by omega)
  obtain ⟨L,l4,hL⟩:=Ar z
  obtain ⟨ts,e',i1,c1,h1,l1,ots,zts,nts,hlp⟩:=lX n1 nk (by omega) [some (.int z),some (.int (pl0 b0 c)),some (.int y),some k.toD,none,none,none,none] L [] none i (c+1) hi (by simp only [List.length_nil];omega)
  exact ⟨.row (pl0 b0 c) k ts,i1,c1,h1,⟨dpk (show ts.length≤4 by omega) rfl rfl (wO kd) (fun i y e=>(ots y (List.mem_of_getElem? e)).app) zts,cnl c26 l4 nts⟩,(aE true (aX 1 (r2) (aX 1 (ZV y4) (aX 2 (ZV c26) (aX 1 (ZV y8) (aX 1 (aS e8) (aX 0 (jk) (aX 1 (hL) (aX 0 (hlp) aZ)))))))) (by kernel_rfl))⟩
 obtain ⟨t,i1,c1,h1,⟨ot,nt⟩,ht⟩:=n1 nm ks i (c+1) nk (by omega) hi
 by_cases y12:y<12
 ·obtain ⟨u,w,eu,ou,jw⟩:=BD y (by omega) y12 t ot
  refine ⟨u,i1,c1,h1,⟨ou,cn1 c26 nt⟩,?_⟩
  rw [eu]
  exact (aE false (aX 1 (r2) (aX 1 (ZV y4) (aX 2 (ZV c26) (aX 1 (ZV y8) (aX 1 (ao e8) (aX 1 (ZW y12) (aX 1 (jw) (aX 0 (ht) aZ)))))))) (by kernel_rfl))
 obtain ⟨u,i2,c2,h2,⟨ou,nu⟩,hu⟩:=n1 nm ks i1 c1 nk (by omega) h1
 by_cases e12:y=12
 ·obtain ⟨v,i3,c3,h3,⟨ov,nv⟩,hv⟩:=n1 nm ks i2 c2 nk (by omega) h2
  exact ⟨.iff (pl0 b0 c) t u v,i3,c3,h3,⟨dp3 trivial rfl rfl wN ot.app ou.app ov.app,cn3 c26 nt nu nv⟩,(aE false (aX 1 (r2) (aX 1 (ZV y4) (aX 2 (ZV c26) (aX 1 (ZV y8) (aX 1 (ao e8) (aX 1 (ZV y12) (aX 0 (ht) (aX 0 (hu) (aX 1 (aS e12) (aX 0 (hv) aZ)))))))))) (by kernel_rfl))⟩
 by_cases e13:y=13
 ·obtain ⟨s,hs⟩:=Av x
  exact ⟨.bin (pl0 b0 c) s t u,i2,c2,h2,⟨dp2 trivial rfl rfl wN ot.app ou.app,cn2 c26 nt nu⟩,(aE false (aX 1 (r2) (aX 1 (ZV y4) (aX 2 (ZV c26) (aX 1 (ZV y8) (aX 1 (ao e8) (aX 1 (ZV y12) (aX 0 (ht) (aX 0 (hu) (aX 1 (ao e12) (aX 1 (aS e13) (aX 1 (hs) aZ))))))))))) (by kernel_rfl))⟩
 obtain ⟨v,w,ev,ov,jw⟩:=BK y (by omega) hy t u ot ou
 refine ⟨v,i2,c2,h2,⟨ov,cn2 c26 nt nu⟩,?_⟩
 rw [ev]
 exact (aE false (aX 1 (r2) (aX 1 (ZV y4) (aX 2 (ZV c26) (aX 1 (ZV y8) (aX 1 (ao e8) (aX 1 (ZV y12) (aX 0 (ht) (aX 0 (hu) (aX 1 (ao e12) (aX 1 (ao e13) (aX 1 (jw) aZ))))))))))) (by kernel_rfl))
theorem iP (nm:D) (r i c x:Int) (n:Nat) (h:ag Γ (n+1) cu [.ref 1] (dG o0 ns b0 W i c) = .ok (.int x) (dG o0 ns b0 W (i+1) c)):exS Γ (ag Γ (n+1)) (aK Γ (n+1)) (hdS 4 aM.body) ⟨[some (.ref 1),some nm,some (.int r)] ++ List.replicate 8 none,[],dG o0 ns b0 W i c⟩ = .nx ⟨dnE nm r (x / 18) (pl0 b0 c) (x % 18),[],dG o0 ns b0 W (i+1) (c+1)⟩:=
 (b7 false (aX 0 (h) aZ) (by kernel_rfl))
theorem zk (hW:W.length=5):∀ (m:Nat) (r:Int) (N:Nat),r≤m+1→2 * m+6≤N→DH o0 W ns b0 m r N:=by
 intro m
 induction m with
 | zero=>
   intro r N hr hN nm ks i c nk hl hi
   obtain ⟨N,rfl⟩:∃ n,N=n+2:=⟨N - 2,by omega⟩
   obtain ⟨x,x0,hx⟩:=vj (o0:=o0) (W:=W) (ns:=ns) (b0:=b0) i c hi N
   obtain ⟨t,ot,ht⟩:=pO (o0:=o0) (W:=W) (ns:=ns) (b0:=b0) nk (x % 18) (x / 18) (i+1) c (by omega) N 0
   exact ⟨t,i+1,c+1,by omega,⟨ot,.inl rfl⟩,bB 4 aM rfl rfl (iP nm r i c x N hx) ((aE false (aX 1 (ZW (show r<2 by omega)) (aX 0 (ht) aZ)) (by kernel_rfl)))⟩
 | succ m ih=>
   intro r N hr hN nm ks i c nk hl hi
   obtain ⟨N,rfl⟩:∃ n,N=n+7:=⟨N - 7,by omega⟩
   obtain ⟨x,x0,hx⟩:=vj (o0:=o0) (W:=W) (ns:=ns) (b0:=b0) i c hi (N+5)
   by_cases r2:r<2
   ·obtain ⟨t,ot,ht⟩:=pO (o0:=o0) (W:=W) (ns:=ns) (b0:=b0) nk (x % 18) (x / 18) (i+1) c (by omega) (N+5) (m+1)
    exact ⟨t,i+1,c+1,by omega,⟨ot,.inl rfl⟩,bB 4 aM rfl rfl (iP nm r i c x (N+5) hx) ((aE false (aX 1 (ZW r2) (aX 0 (ht) aZ)) (by kernel_rfl)))⟩
   ·obtain ⟨t,i1,c1,h1,ot,ht⟩:=sL hW (N:=N) (r:=r) (fun M hM=>ih (r - 1) M (by omega) (by omega)) nk hl (x / 18) (x % 18) (i+1) c (by omega) (by omega) (by omega) (by omega)
    exact ⟨t,i1,c1,h1,ot,bB 4 aM rfl rfl (iP nm r i c x (N+5) hx) ht⟩
end
def wI:T68→Bool
 | .lk ..=>true
 | _=>false
theorem lG {W bs:List Str} {t:T68} (h:own W bs t):wI t=false:=by cases t <;> first | rfl | exact ZX h id
theorem rW (a b:List T68):toDs (a ++ b)=toDs a ++ toDs b:=by rw [cF,cF,cF,List.map_append]
theorem iZ (k:Kd) (S:List O):biD .isInt [look S k.toD]=some (.bl false):=by cases k <;> rfl
theorem tw (t:T68) (S:List O):biD .isTup [look S t.toD]=some (.bl true):=by cases t <;> rfl
abbrev pC:E:=.tand (.tv (.bi .isTup (.cons (.v 0) .nil))) (.tand (.op .gt (.bi .len (.cons (.v 0) .nil)) (.c (.int 1))) (.tv (.bi .isInt (.cons (.ix (.v 0) (.c (.int 1))) .nil))))
def It.one:It→Prop
 | .ns _=>False
 | _=>True
theorem Az (t:T68) (S:List O):∃ n:Int,biD .len [look S t.toD]=some (.int n)∧decide ((1:Int)<n)=true:=by cases t <;> exact ⟨_,rfl,rfl⟩
theorem tX (m:Nat) (a:It) (h:a.one) (x:D) (e2:Option D) (S:List O):ev Γ (ag Γ m) (aK Γ m) true pC ⟨[some a.toD,some x,e2],[],S⟩ = .ok (.bl (!a.nodes.isEmpty)) ⟨[some a.toD,some x,e2],[],S⟩:=by
 cases a with
 | ns l=>exact h.elim
 | n t=>
   obtain ⟨n,h1,h2⟩:=Az t S
   have h3:=tw t S
   have h4:=aJ t S
   show ev Γ (ag Γ m) (aK Γ m) true pC ⟨[some t.toD,some x,e2],[],S⟩ = .ok (.bl true) ⟨[some t.toD,some x,e2],[],S⟩
   exact (gI false (aX 0 (h3) (aX 2 (h1) (aX 1 (h2) (aX 0 (h4) aZ)))) (by kernel_rfl))
 | k k=>cases k with
   | to a b=>
     have h:=iZ a S
     show ev Γ (ag Γ m) (aK Γ m) true pC ⟨[some (Kd.to a b).toD,some x,e2],[],S⟩ = .ok (.bl false) ⟨[some (Kd.to a b).toD,some x,e2],[],S⟩
     exact (gI false (aX 7 (h) aZ) (by kernel_rfl))
   | row a=>
     have h:=iZ a S
     show ev Γ (ag Γ m) (aK Γ m) true pC ⟨[some (Kd.row a).toD,some x,e2],[],S⟩ = .ok (.bl false) ⟨[some (Kd.row a).toD,some x,e2],[],S⟩
     exact (gI false (aX 7 (h) aZ) (by kernel_rfl))
   | pair a b=>
     have h:=iZ a S
     show ev Γ (ag Γ m) (aK Γ m) true pC ⟨[some (Kd.pair a b).toD,some x,e2],[],S⟩ = .ok (.bl false) ⟨[some (Kd.pair a b).toD,some x,e2],[],S⟩
     exact (gI false (aX 7 (h) aZ) (by kernel_rfl))
   | _=>kernel_rfl
 | _=>kernel_rfl
theorem c8 (m:Nat) (x:D) (e2:Option D) (S:List O):∀ (l:List It) (acc:List T68) (e:Option D),(∀ a∈l,a.one)→acc.length+l.length<1000→∃ e':Option D,bh (lcQ Γ (ag Γ m) (aK Γ m) [0] true (.v 0) pC) (dI l) (toDs acc) ⟨[e,some x,e2],[],S⟩ = .ok (.lst (toDs (acc ++ l.flatMap It.nodes))) ⟨[e',some x,e2],[],S⟩
 | [],acc,e,_,_=>⟨e,by simp [dI,bh]⟩
 | a :: r,acc,e,h,hl=>by
   simp only [List.length_cons] at hl
   have c:=tX m a (h a (by simp)) x e2 S
   cases a with
   | ns l=>exact (h (.ns l) (by simp)).elim
   | n t=>
     obtain ⟨e',g⟩:=c8 m x e2 S r (acc ++ [t]) (some t.toD) (fun z hz=>h z (by simp [hz])) (by rw [List.length_append,List.length_singleton];omega)
     rw [rW,List.append_assoc] at g
     exact ⟨e',dR (jc rfl c rfl) (by rw [rX];omega) g⟩
   | s z=>obtain ⟨e',g⟩:=c8 m x e2 S r acc (some (It.s z).toD) (fun z hz=>h z (by simp [hz])) (by omega);exact ⟨e',dQ (fX rfl c) g⟩
   | i z=>obtain ⟨e',g⟩:=c8 m x e2 S r acc (some (It.i z).toD) (fun z hz=>h z (by simp [hz])) (by omega);exact ⟨e',dQ (fX rfl c) g⟩
   | b z=>obtain ⟨e',g⟩:=c8 m x e2 S r acc (some (It.b z).toD) (fun z hz=>h z (by simp [hz])) (by omega);exact ⟨e',dQ (fX rfl c) g⟩
   | k z=>obtain ⟨e',g⟩:=c8 m x e2 S r acc (some (It.k z).toD) (fun z hz=>h z (by simp [hz])) (by omega);exact ⟨e',dQ (fX rfl c) g⟩
theorem qU (t:T68) (ht:wI t=false) (m:Nat) (S:List O):ag Γ (m+1) i6 [t.toD] S = .ok (.lst (toDs (ah t))) S:=by
 have go:∀ (w:Str) (l:List It) (p:Int),its t = .s w :: .i p :: l→(∀ a∈l,a.one)→∃ e:Option D,bh (lcQ Γ (ag Γ m) (aK Γ m) [0] true (.v 0) pC) (dI l) [] ⟨[none,some t.toD,some (.str w)],[],S⟩ = .ok (.lst (toDs (ah t))) ⟨[e,some t.toD,some (.str w)],[],S⟩:=fun w l p e h=>by
  obtain ⟨e',g⟩:=c8 m t.toD (some (.str w)) S l [] none h (by
   have:=tC t
   rw [e] at this
   simp only [List.length_cons,List.length_nil] at this ⊢;omega)
  refine ⟨e',?_⟩
  rw [← jX t,e]
  exact g
 cases t with
 | whole p v=>kernel_rfl
 | truth p v=>kernel_rfl
 | given p v=>kernel_rfl
 | name p v=>kernel_rfl
 | lk=>cases ht
 | row p k ts=>kernel_rfl
 | fn p x k b=>obtain ⟨e,g⟩:=go _ [.s x,.k k,.n b] p rfl (by simp [It.one]);exact (ac true (aX 0 (g) aZ) (by kernel_rfl))
 | slf p f x k g b=>obtain ⟨e,g⟩:=go _ [.s f,.s x,.k k,.k g,.n b] p rfl (by simp [It.one]);exact (ac true (aX 0 (g) aZ) (by kernel_rfl))
 | lt p x a b=>obtain ⟨e,g⟩:=go _ [.s x,.n a,.n b] p rfl (by simp [It.one]);exact (ac true (aX 0 (g) aZ) (by kernel_rfl))
 | iff p c a b=>obtain ⟨e,g⟩:=go _ [.n c,.n a,.n b] p rfl (by simp [It.one]);exact (ac true (aX 0 (g) aZ) (by kernel_rfl))
 | call p a b=>obtain ⟨e,g⟩:=go _ [.n a,.n b] p rfl (by simp [It.one]);exact (ac true (aX 0 (g) aZ) (by kernel_rfl))
 | bin p o a b=>obtain ⟨e,g⟩:=go _ [.s o.str,.n a,.n b] p rfl (by simp [It.one]);exact (ac true (aX 0 (g) aZ) (by kernel_rfl))
 | as_ p k a=>obtain ⟨e,g⟩:=go _ [.k k,.n a] p rfl (by simp [It.one]);exact (ac true (aX 0 (g) aZ) (by kernel_rfl))
 | pair p a b=>obtain ⟨e,g⟩:=go _ [.n a,.n b] p rfl (by simp [It.one]);exact (ac true (aX 0 (g) aZ) (by kernel_rfl))
 | att p a b=>obtain ⟨e,g⟩:=go _ [.n a,.n b] p rfl (by simp [It.one]);exact (ac true (aX 0 (g) aZ) (by kernel_rfl))
 | size p a=>obtain ⟨e,g⟩:=go _ [.n a] p rfl (by simp [It.one]);exact (ac true (aX 0 (g) aZ) (by kernel_rfl))
 | one p a=>obtain ⟨e,g⟩:=go _ [.n a] p rfl (by simp [It.one]);exact (ac true (aX 0 (g) aZ) (by kernel_rfl))
 | two p a=>obtain ⟨e,g⟩:=go _ [.n a] p rfl (by simp [It.one]);exact (ac true (aX 0 (g) aZ) (by kernel_rfl))
abbrev lpB:S:=dq gL.body
theorem kc {W:List Str} {n m:Nat} (ih:∀ (y:T68) (bs:List Str) (S:List O),Ok W n bs y→ag Γ m dj [y.toD] S = .ok (.lst (dsI (ak n y))) S) (t:T68) (S:List O):∀ (r:List T68) (acc:List Int) (e2:Option D) (ow:List Nat),ow = [1]∨ow = []→(∀ y∈r,∃ bs,Ok W n bs y)→acc.length+r.length * nb n≤100000→∃ (e2':Option D) (ow':List Nat),bc (fb Γ (ag Γ m) (aK Γ m) [2] true lpB) (toDs r) ⟨[some t.toD,some (.lst (dsI acc)),e2],ow,S⟩ = .nx ⟨[some t.toD,some (.lst (dsI (acc ++ r.flatMap (ak n)))),e2'],ow',S⟩
 | [],acc,e2,ow,_,_,_=>⟨e2,ow,by simp [bc,toDs]⟩
 | y :: r,acc,e2,ow,how,hr,hl=>by
   obtain ⟨bs,oy⟩:=hr y (by simp)
   have i1:=ih y bs S oy
   have pl:=jn n bs y oy
   simp only [List.length_cons,Nat.add_mul,Nat.one_mul] at hl
   obtain ⟨e2',ow',h⟩:=kc ih t S r (acc ++ ak n y) (some y.toD) [] (.inr rfl) (fun z hz=>hr z (by simp [hz])) (by rw [List.length_append];omega)
   have l0:opD .add (.lst (dsI acc)) (.lst (dsI (ak n y)))=some (.lst (dsI (acc ++ ak n y))):=by
    show cN ((dsI acc).length+(dsI (ak n y)).length) _=_
    unfold cN dsI
    rw [ZZ (by rw [List.length_map,List.length_map];omega),List.map_append]
   refine ⟨e2',ow',a9 (s1:=⟨[some t.toD,some (.lst (dsI (acc ++ ak n y))),some y.toD],[],S⟩) (aW rfl ?_) ?_⟩
   ·rcases how with rfl | rfl
    ·exact (b7 false (aX 0 (i1) (aX 0 (l0) aZ)) (by kernel_rfl))
    ·exact (b7 false (aX 0 (i1) (aX 0 (l0) aZ)) (by kernel_rfl))
   ·rw [h,List.append_assoc,List.flatMap_cons]
theorem mD {W:List Str}:∀ (n m:Nat) (t:T68) (bs:List Str) (S:List O),n+1≤m→n≤8→Ok W n bs t→ag Γ m dj [t.toD] S = .ok (.lst (dsI (ak n t))) S
 | 0,m,t,bs,S,_,_,o=>o.elim
 | n+1,m,t,bs,S,hm,h8,o=>by
   obtain ⟨m,rfl⟩:∃ k,m=k+2:=⟨m - 2,by omega⟩
   obtain ⟨o1,o2,o3,o4⟩:=o
   have p0:=qU t (lG o1) m S
   have kl:=cC o1
   have nb8:nb n≤5461:=by
    have:∀ k,k≤7→nb k≤5461:=by decide
    exact this n (by omega)
   have kn:(ah t).length * nb n≤4 * nb n:=Nat.mul_le_mul_right _ kl
   obtain ⟨e2,ow,lp⟩:=kc (m:=m+1) (fun y bs S o=>mD n (m+1) y bs S (by omega) (by omega) o) t S (ah t) [t.pl] none [1] (.inl rfl) (fun y hy=>by obtain ⟨i,hi⟩:=List.mem_iff_getElem?.mp hy;exact ⟨_,o4 i y hi⟩) (by simp only [List.length_singleton];omega)
   exact (ac true (aX 0 (aJ t S) (aX 0 (p0) (aX 0 (lp) aZ))) (by kernel_rfl))
theorem vL {a b:Kd} {x y:Str} {c d:Kd} (h:(match a.par b with | some w=>some (x :: w) | none=>(c.par d).map (y :: ·))=none):a.par b=none∧c.par d=none:=by
 cases q:a.par b with
 | some w=>rw [q] at h;cases h
 | none=>rw [q] at h;exact ⟨rfl,Option.map_eq_none_iff.mp h⟩
theorem lr:∀ {a b:Kd},a.par b=none→∀ N,a.dep≤N→∀ S,ag Γ (N+1) fS [a.toD,b.toD] S = .ok .non S
 | .whole,b,h,N,_,S=>by cases b <;> first | (cases h;done) | kernel_rfl
 | .truth,b,h,N,_,S=>by cases b <;> first | (cases h;done) | kernel_rfl
 | .unt,b,h,N,_,S=>by kernel_rfl
 | .row a,b,h,N,hN,S=>by
   unfold Kd.dep at hN
   obtain ⟨n,rfl⟩:∃ n,N=n+1:=⟨N - 1,by omega⟩
   cases b with
   | row b=>have g:=lr (Option.map_eq_none_iff.mp (show (a.par b).map (("item":Str) :: ·)=none from h)) n (by omega) S;exact (ac false (aX 0 (g) aZ) (by kernel_rfl))
   | unt=>kernel_rfl
   | _=>cases h
 | .to a c,b,h,N,hN,S=>by
   unfold Kd.dep at hN
   obtain ⟨n,rfl⟩:∃ n,N=n+1:=⟨N - 1,by omega⟩
   cases b with
   | to b d=>
     obtain ⟨h1,h2⟩:=vL h
     have g:=lr h1 n (by omega) S
     have g':=lr h2 n (by omega) S
     exact (ac false (aX 0 (g) (aX 0 (g') aZ)) (by kernel_rfl))
   | unt=>kernel_rfl
   | _=>cases h
 | .pair a c,b,h,N,hN,S=>by
   unfold Kd.dep at hN
   obtain ⟨n,rfl⟩:∃ n,N=n+1:=⟨N - 1,by omega⟩
   cases b with
   | pair b d=>
     obtain ⟨h1,h2⟩:=vL h
     have g:=lr h1 n (by omega) S
     have g':=lr h2 n (by omega) S
     exact (ac false (aX 0 (g) (aX 0 (g') aZ)) (by kernel_rfl))
   | unt=>kernel_rfl
   | _=>cases h
theorem ir:∀ (a b:Kd) (N:Nat),a.dep≤N→∀ S,ag Γ (N+1) jZ [a.toD,b.toD] S = .ok (a.join b).toD S
 | .whole,b,N,_,S=>by cases b <;> kernel_rfl
 | .truth,b,N,_,S=>by cases b <;> kernel_rfl
 | .unt,b,N,_,S=>by cases b <;> kernel_rfl
 | .row a,b,N,hN,S=>by
   unfold Kd.dep at hN
   obtain ⟨n,rfl⟩:∃ n,N=n+1:=⟨N - 1,by omega⟩
   cases b with
   | row b=>have g:=ir a b n (by omega) S;exact (ac false (aX 0 (g) aZ) (by kernel_rfl))
   | _=>kernel_rfl
 | .to a c,b,N,hN,S=>by
   unfold Kd.dep at hN
   obtain ⟨n,rfl⟩:∃ n,N=n+1:=⟨N - 1,by omega⟩
   cases b with
   | to b d=>
     have g:=ir a b n (by omega) S
     have g':=ir c d n (by omega) S
     exact (ac false (aX 0 (g) (aX 0 (g') aZ)) (by kernel_rfl))
   | _=>kernel_rfl
 | .pair a c,b,N,hN,S=>by
   unfold Kd.dep at hN
   obtain ⟨n,rfl⟩:∃ n,N=n+1:=⟨N - 1,by omega⟩
   cases b with
   | pair b d=>
     have g:=ir a b n (by omega) S
     have g':=ir c d n (by omega) S
     exact (ac false (aX 0 (g) (aX 0 (g') aZ)) (by kernel_rfl))
   | _=>kernel_rfl
theorem xm (t:T68) (i:Nat) (y:T68) (hi:(ah t)[i]? = some y) (fs:List Kd) (hf:fs.length=i) (N:Al) (hN:N.length+1<1000) (n:Nat) (st:List O):ag Γ (n+2) i5 [t.toD,dA N,.lst (dsK fs)] st = .ok (dA (inN t i fs N)) st:=by
 cases t with
 | fn p x k b=>exact (ac false (aX 0 (dU N x k (by omega) n st) aZ) (by kernel_rfl))
 | slf p f x k g b=>
   have:=bx N (.inr f) (.to k g)
   exact (ac false (aX 0 (dU N f (.to k g) (by omega) n st) (aX 0 (dU (ai N (.inr f) (.to k g)) x k (by omega) n st) aZ)) (by kernel_rfl))
 | lt p x a b=>
   match i,hi,fs,hf with
   | 0,_,[],_=>kernel_rfl
   | 1,_,[c],_=>exact (ac false (aX 0 (dU N x c (by omega) n st) aZ) (by kernel_rfl))
   | i+2,hi,_,_=>cases hi
 | _=>kernel_rfl
theorem zZ (t:T68) (i:Nat) (y:T68) (hi:(ah t)[i]? = some y) (fs:List Kd) (hf:fs.length=i+1) (n:Nat) (st:List O):ag Γ (n+2) j6 [t.toD,.lst (dsK fs)] st = .ok (az t fs).toD st:=by
 cases t with
 | row p k ts=>kernel_rfl
 | bin p o a b=>kernel_rfl
 | as_ p k a=>kernel_rfl
 | slf p f x k g b=>kernel_rfl
 | iff p c a b=>
   match i,hi,fs,hf with
   | 0,_,[c],_=>kernel_rfl
   | 1,_,[c,d],_=>kernel_rfl
   | 2,_,[c,d,e],_=>kernel_rfl
   | i+3,hi,_,_=>cases hi
 | fn p x k b=>
   match i,hi,fs,hf with
   | 0,_,[c],_=>kernel_rfl
   | i+1,hi,_,_=>cases hi
 | lt p x a b=>
   match i,hi,fs,hf with
   | 0,_,[c],_=>kernel_rfl
   | 1,_,[c,d],_=>kernel_rfl
   | i+2,hi,_,_=>cases hi
 | pair p a b=>
   match i,hi,fs,hf with
   | 0,_,[c],_=>kernel_rfl
   | 1,_,[c,d],_=>kernel_rfl
   | i+2,hi,_,_=>cases hi
 | call p a b=>
   match i,hi,fs,hf with
   | 0,_,[c],_=>cases c <;> kernel_rfl
   | 1,_,[c,d],_=>cases c <;> kernel_rfl
   | i+2,hi,_,_=>cases hi
 | att p a b=>
   match i,hi,fs,hf with
   | 0,_,[c],_=>cases c <;> kernel_rfl
   | 1,_,[c,d],_=>kernel_rfl
   | i+2,hi,_,_=>cases hi
 | size p a=>
   match i,hi,fs,hf with
   | 0,_,[c],_=>cases c <;> kernel_rfl
   | i+1,hi,_,_=>cases hi
 | one p a=>
   match i,hi,fs,hf with
   | 0,_,[c],_=>cases c <;> kernel_rfl
   | i+1,hi,_,_=>cases hi
 | two p a=>
   match i,hi,fs,hf with
   | 0,_,[c],_=>cases c <;> kernel_rfl
   | i+1,hi,_,_=>cases hi
 | lk p k l a=>
   match i,hi,fs,hf with
   | 0,_,[c],_=>kernel_rfl
   | i+1,hi,_,_=>cases hi
 | _=>cases hi
theorem BC (t:T68) (ht:wI t=false) (fs:List Kd) (hf:fs.length=(ah t).length) (N:Al) (hh:∀ p x,t = .name p x→(aq N (.inr x)).isSome=true) (m:Nat) (hm:∀ k∈fs,k.dep≤m) (n:Nat) (hn:m≤n) (st:List O):ag Γ (n+2) kX [t.toD,dA N,.lst (dsK fs)] st = .ok (aV t fs N).toD st:=by
 cases t with
 | call p a b=>
   match fs,hf with
   | [c,d],_=>cases c <;> kernel_rfl
 | att p a b=>
   match fs,hf with
   | [c,d],_=>cases c <;> kernel_rfl
 | one p a=>
   match fs,hf with
   | [c],_=>cases c <;> kernel_rfl
 | two p a=>
   match fs,hf with
   | [c],_=>cases c <;> kernel_rfl
 | name p x=>
   have hh:=hh p x rfl
   cases q:aq N (.inr x) with
   | none=>rw [q] at hh;cases hh
   | some e=>
     have g:ixD (dA N) (.str x)=some e.toD:=by show bV (ksA N) (dsA N) (.inr x)=_;rw [ij,q];rfl
     rw [show aV (.name p x) fs N=e by show (aq N (.inr x)).getD .unt=e;rw [q];rfl]
     exact (ac false (aX 4 (g) aZ) (by kernel_rfl))
 | fn p x k b=>
   match fs,hf with
   | [c],_=>kernel_rfl
 | lt p x a b=>
   match fs,hf with
   | [c,d],_=>kernel_rfl
 | iff p c a b=>
   match fs,hf,hm with
   | [c,d,e],_,hm=>
     have:=hm d (by simp)
     exact (ac false (aX 0 (ir d e n (by omega) st) aZ) (by kernel_rfl))
 | pair p a b=>
   match fs,hf with
   | [c,d],_=>kernel_rfl
 | bin p o a b=>cases o <;> kernel_rfl
 | lk p k l a=>cases ht
 | _=>kernel_rfl
theorem dE {l:Al} (h4:∀ p∈l,p.2.dep≤4) {x:Key} {k:Kd} (h:aq l x=some k):k.dep≤4:=by
 obtain ⟨q,m,f⟩:=fQ h
 have:=h4 q m
 rw [f] at this;exact this
theorem vm {k:Kd} (h:k.dep≤4):Ev.eqT k.toD k.toD=some true:=by
 rw [pR (by cases k <;> rfl),k7 55 _ (by omega)];simp
theorem Ab {k:Kd} (h:k.dep≤4) (S:List O):opD .ne (look S k.toD) (look S k.toD)=some (.bl false):=by
 rw [fq]
 show (Ev.eqT k.toD k.toD).map (fun x=>D.bl (!x))=_
 rw [vm h];rfl
theorem zo {k:Kd} (h:k.dep≤4) (S:List O):opD .eq (look S k.toD) (look S k.toD)=some (.bl true):=by
 rw [fq]
 show (Ev.eqT k.toD k.toD).map D.bl=_
 rw [vm h];rfl
theorem ey {l:Al} {p:Int} {k:Kd} (h:aq l (.inl p)=some k):ixD (dA l) (.int p)=some k.toD:=by
 show bV (ksA l) (dsA l) (.inl p)=_
 rw [ij,h];rfl
theorem iO {l:Al} {p:Int} {k:Kd} (h:aq l (.inl p)=some k):sU (dA l) (.int p) .non=some k.toD:=by
 show some ((bV (ksA l) (dsA l) (.inl p)).getD .non)=_
 rw [ij,h];rfl
theorem zI {l:Al} {p:Int} {k:Kd} (h:aq l (.inl p)=some k):opD .isin (.int p) (dA l)=some (.bl true):=by
 show some (D.bl (bV (ksA l) (dsA l) (.inl p)).isSome)=_
 rw [ij,h];rfl
theorem jL (l:Al):aG (dsA l)=true:=eJ fun d hd=>by
 obtain ⟨p,_,rfl⟩:=List.mem_map.mp hd
 exact p.2.nr
theorem zx {W bs:List Str} {n:Nat} {t:T68} (o:Ok W n bs t) (N kd wd:Al):aG [t.toD,dA N,dA kd,dA wd]=true:=by
 show (noR t.toD && (aG (dsA N) && (aG (dsA kd) && (aG (dsA wd) && true))))=true
 rw [jL,jL,jL,T68.nr n t o.nst];rfl
def jU:T68→Bool
 | .iff ..=>true
 | _=>false
theorem AE (t:T68) (S:List O):∃ w:Str,ixD (look S t.toD) (.int 0)=some (.str w)∧(w == ("if":Str))=jU t:=by cases t <;> exact ⟨_,rfl,by kernel_rfl⟩
abbrev hB:S:=dq iS.body
def hst (t:T68) (N kd wd:Al) (gs:List Kd) (e5 e6:Option D):Sta:=⟨[some t.toD,some (dA N),some (dA kd),some (dA wd),some (.lst (dsK gs)),e5,e6],[4],[]⟩
theorem wm {t:T68} {i:Nat} {fs:List Kd} {N:Al} (h:jU t=true) (h1:1≤i) (h2:i<3) (hf:fs.length=(ah t).length):due t i fs=aV t fs N:=by
 cases t with
 | iff p c a b=>
   match fs,hf,i,h1,h2 with
   | [f,g,k],_,1,_,_=>rfl
   | [f,g,k],_,2,_,_=>rfl
 | _=>cases h
theorem ib {t:T68} {i:Nat} {fs:List Kd} (h:jU t=false∨i=0):due t i fs=az t (fs.take (i+1)):=by
 unfold due
 split
 ·rcases h with h | h <;> cases h
 ·rcases h with h | h <;> cases h
 ·rfl
theorem qk {W:List Str} {n m:Nat} {kd wd:Al} (hm:6≤m) (h4:∀ p∈kd,p.2.dep≤4) (w4:∀ p∈wd,p.2.dep≤4) (ih:∀ (y:T68) (N:Al) (bs:List Str),Ok W n bs y→NK N bs n→Hs n y N kd wd→ag Γ m dM [y.toD,dA N,dA kd,dA wd] [] = .ok (.bl true) []) (t:T68) (N:Al) (bs:List Str) (ot:Ok W (n+1) bs t) (hw4:∀ k∈wks t,k.dep≤4) (nk:NK N bs (n+1)) {fs:List Kd} (hk:Hk (fun y N=>Hs n y N kd wd) t N kd wd (ah t) fs) (hf4:∀ k∈fs,k.dep≤4) (ho:aq kd (.inl t.pl)=some (aV t fs N)) :
 ∀ (r P:List T68) (e5 e6:Option D),ah t=P ++ r→∃ e5' e6',bc (fb Γ (ag Γ m) (aK Γ m) [5] true hB) (toDs r) (hst t N kd wd (fs.take P.length) e5 e6) = .nx (hst t N kd wd fs e5' e6')
 | [],P,e5,e6,e=>by
   rw [List.append_nil] at e
   rw [← e,← hk.1,List.take_length]
   exact ⟨e5,e6,rfl⟩
 | y :: r,P,e5,e6,e=>by
   have hy:(ah t)[P.length]? = some y:=by rw [e,List.getElem?_append_right (Nat.le_refl _),Nat.sub_self];rfl
   have pl:P.length<fs.length:=by rw [hk.1];exact (List.getElem?_eq_some_iff.mp hy).1
   have hf:fs[P.length]? = some fs[P.length]:=List.getElem?_eq_getElem pl
   generalize fs[P.length]=f at hf
   obtain ⟨gk,gw,gp,gh⟩:=hk.2 _ y f hy hf
   have e1:fs.take (P.length+1)=fs.take P.length ++ [f]:=by rw [List.take_add_one,hf];rfl
   have gl:(fs.take P.length).length=P.length:=by rw [List.length_take];omega
   have g4:∀ k∈fs.take P.length,k.dep≤4:=fun k hk=>hf4 k (List.mem_of_mem_take hk)
   obtain ⟨e5',e6',rest⟩:=qk hm h4 w4 ih t N bs ot hw4 nk hk hf4 ho r (P ++ [y]) (some y.toD) (some (due t P.length fs).toD) (by rw [e];simp)
   rw [List.length_append,List.length_singleton,e1] at rest
   have kl:=cC ot.1
   have i3:P.length<4:=by have:=(List.getElem?_eq_some_iff.mp hy).1;omega
   generalize hg:fs.take P.length=gs at *
   generalize hd:due t P.length fs=du at *
   obtain ⟨m,rfl⟩:∃ k,m=k+6:=⟨m - 6,by omega⟩
   have fd:=dE h4 gk
   have b1:=xm t P.length y hy gs gl N (by have:=nk.few;omega) (m+4) []
   have nl:(noL (dA (inN t P.length gs N)) && ([]:List O).all gV)=true:=by
    show (eH (dsA _) && true)=true
    rw [gc];rfl
   have nr:=zx (ot.2.2.2 _ _ hy) (inN t P.length gs N) kd wd
   have i1:=ih y (inN t P.length gs N) _ (ot.2.2.2 _ _ hy) (nk.inN hw4 g4 P.length) gh
   have g:=ey gk
   have l0:decide ((dsK gs).length<100000)=true:=ZW (by rw [List.length_map,gl];omega)
   have el:dsK gs ++ [f.toD]=dsK (gs ++ [f]):=by simp
   have lw:=zZ t P.length y hy (gs ++ [f]) (by rw [List.length_append,gl];rfl) (m+4) []
   rw [← el] at lw
   have nl2:(noL (az t (gs ++ [f])).toD && ([]:List O).all gV)=true:=by rw [eX];rfl
   obtain ⟨w,ix0,hw⟩:=AE t []
   have la:ixD (.lst (dsK gs ++ [f.toD])) (.int (-1))=some f.toD:=my _ _
   have gg:=iO gw
   have lp:=lr gp (m+5) (by omega) []
   have ne:=Ab (dE w4 gw) []
   have body:exS Γ (ag Γ (m+6)) (aK Γ (m+6)) hB ⟨[some t.toD,some (dA N),some (dA kd),some (dA wd),some (.lst (dsK gs)),some y.toD,e6],[4],[]⟩ = .nx ⟨[some t.toD,some (dA N),some (dA kd),some (dA wd),some (.lst (dsK gs ++ [f.toD])),some y.toD,some du.toD],[4],[]⟩:=by
    cases q:jU t with
    | false=>
      rw [q] at hw
      rw [ib (.inl q),e1] at hd
      rw [hd] at lw nl2
      exact (b7 false (aX 0 (b1) (aX 0 (nl) (aX 0 (nr) (aX 0 (i1) (aX 3 (aJ y []) (aX 0 (g) (aX 0 (l0) (aX 0 (lw) (aX 0 (nl2) (aX 0 (ix0) (aX 1 (hw) (aX 2 (aJ y []) (aX 0 (gg) (aX 0 (ne) (aX 1 (la) (aX 0 (lp) aZ)))))))))))))))) (by kernel_rfl))
    | true=>
      rw [q] at hw
      have len:(dsK gs ++ [f.toD]).length=P.length+1:=by rw [List.length_append,List.length_map,gl];rfl
      by_cases c:P.length=0
      ·rw [ib (.inr c),e1] at hd
       rw [hd] at lw nl2
       have l1:decide ((1:Int)<((dsK gs ++ [f.toD]).length:Nat))=false:=ZV (by rw [len];omega)
       exact (b7 false (aX 0 (b1) (aX 0 (nl) (aX 0 (nr) (aX 0 (i1) (aX 3 (aJ y []) (aX 0 (g) (aX 0 (l0) (aX 0 (lw) (aX 0 (nl2) (aX 0 (ix0) (aX 1 (hw) (aX 2 (l1) (aX 1 (aJ y []) (aX 0 (gg) (aX 0 (ne) (aX 1 (la) (aX 0 (lp) aZ))))))))))))))))) (by kernel_rfl))
      ·rw [wm (N:=N) q (by omega) (by
        have:=(List.getElem?_eq_some_iff.mp hy).1
        cases t with
        | iff p c a b=>exact this
        | _=>cases q) hk.1] at hd
       rw [hd] at ho
       have l1:decide ((1:Int)<((dsK gs ++ [f.toD]).length:Nat))=true:=ZW (by rw [len];omega)
       exact (b7 false (aX 0 (b1) (aX 0 (nl) (aX 0 (nr) (aX 0 (i1) (aX 3 (aJ y []) (aX 0 (g) (aX 0 (l0) (aX 0 (lw) (aX 0 (nl2) (aX 0 (ix0) (aX 1 (hw) (aX 2 (l1) (aX 0 (aJ t []) (aX 0 (ey ho) (aX 1 (aJ y []) (aX 0 (gg) (aX 0 (ne) (aX 1 (la) (aX 0 (lp) aZ))))))))))))))))))) (by kernel_rfl))
   refine ⟨e5',e6',a9 (s1:=⟨[some t.toD,some (dA N),some (dA kd),some (dA wd),some (.lst (dsK gs ++ [f.toD])),some y.toD,some du.toD],[4],[]⟩) (aW rfl body) ?_⟩
   rw [el];exact rest
theorem holds {W:List Str} {kd wd:Al} (h4:∀ p∈kd,p.2.dep≤4) (w4:∀ p∈wd,p.2.dep≤4):∀ (n m:Nat),n+8≤m→∀ (t:T68) (N:Al) (bs:List Str),Ok W n bs t→NK N bs n→Hs n t N kd wd→ag Γ m dM [t.toD,dA N,dA kd,dA wd] [] = .ok (.bl true) []
 | 0,m,_,t,N,bs,o,_,_=>o.elim
 | n+1,m,hm,t,N,bs,o,nk,⟨fs,hk,ip,wk,ho⟩=>by
   obtain ⟨m,rfl⟩:∃ k,m=k+9:=⟨m - 9,by omega⟩
   have p0:=qU t (lG o.1) (m+7) []
   have hf4:∀ k∈fs,k.dep≤4:=fun k h=>by
    obtain ⟨i,hi⟩:=List.mem_iff_getElem?.mp h
    have l:i<(ah t).length:=by rw [← hk.1];exact (List.getElem?_eq_some_iff.mp hi).1
    exact dE h4 (hk.2 i _ k (List.getElem?_eq_getElem l) hi).k
   obtain ⟨e5,e6,lp⟩:=qk (m:=m+8) (by omega) h4 w4 (fun y N bs o nk h=>holds h4 w4 n (m+8) (by omega) y N bs o nk h) t N bs o wk nk hk hf4 ho (ah t) [] none none rfl
   have lo:=BC t (lG o.1) fs hk.1 N (fun p x e=>nk.has x (by have:=o.1;rw [e] at this;exact this)) 4 hf4 (m+6) (by omega) []
   obtain ⟨w,ix0,hw⟩:=AE t []
   have is:=zI ho
   have eq:=zo (dE h4 ho) []
   unfold hst at lp
   cases q:jU t with
   | false=>
     rw [q] at hw
     exact (ac true (aX 0 (p0) (aX 0 (lp) (aX 0 (ix0) (aX 1 (hw) (aX 1 (aJ t []) (aX 0 (is) (aX 1 (aJ t []) (aX 0 (ey ho) (aX 0 (lo) (aX 1 (eq) aZ)))))))))) (by kernel_rfl))
   | true=>
     rw [q] at hw
     cases t with
     | iff p c a b=>
       match fs,hk.1,ip,lp,lo,ho,is,eq,hf4 with
       | [f,g,k],_,ip,lp,lo,ho,is,eq,hf4=>
         have pa:=lr (ip p c a b f g k rfl rfl) (m+7) (by have:=hf4 g (by simp);omega) []
         exact (ac true (aX 0 (p0) (aX 0 (lp) (aX 0 (pa) (aX 2 (is) (aX 2 (ey ho) (aX 0 (lo) (aX 1 (eq) aZ))))))) (by kernel_rfl))
     | _=>cases q
def Er.nn:Er→Prop
 | .name _=>False
 | _=>True
theorem tf {t y:T68} {fs:List Kd} {wd:Al} {e:Er} (h:bR t y fs wd = .error e):e.nn:=by
 by_cases c:bT t fs=true
 ·obtain ⟨p,v,a,b,f0,f,g,rfl,rfl⟩:=cR c
  rw [bZ] at h
  cases q:g.par f with
  | some w=>rw [q] at h;cases h;trivial
  | none=>rw [q] at h;cases h
 ·rw [cq (by simpa using c)] at h
  cases q:(fs.getLastD .unt).par (az t fs) with
  | some w=>rw [q] at h;cases h;trivial
  | none=>rw [q] at h;cases h
theorem mv {n:Nat} (ih:∀ y N kd wd e,lkM n y N kd wd = .error e→e.nn) (t:T68) (N:Al):∀ (r:List T68) (fs:List Kd) (kd wd:Al) (e:Er),aR (lkM n) t N r fs kd wd = .error e→e.nn
 | [],fs,kd,wd,e,h=>by cases h
 | y :: r,fs,kd,wd,e,h=>by
   unfold aR at h
   cases q1:lkM n y (inN t fs.length fs N) kd wd with
   | error e'=>rw [q1] at h;cases h;exact ih _ _ _ _ _ q1
   | ok w=>
     obtain ⟨k,kd1,wd1⟩:=w
     rw [q1] at h
     dsimp only at h
     cases q2:bR t y (fs ++ [k]) wd1 with
     | error e'=>rw [q2] at h;cases h;exact tf q2
     | ok wd2=>rw [q2] at h;exact mv ih t N r (fs ++ [k]) kd1 wd2 e h
theorem vE:∀ (n:Nat) (t:T68) (N kd wd:Al) (e:Er),lkM n t N kd wd = .error e→e.nn
 | 0,t,N,kd,wd,e,h=>by cases h;trivial
 | n+1,t,N,kd,wd,e,h=>by
   unfold lkM at h
   by_cases c:(wks t).any (fun k=>decide (4<k.dep))=true
   ·rw [ZZ c] at h;cases h;trivial
   ·rw [ZY c] at h
    cases q1:aR (lkM n) t N (ah t) [] kd wd with
    | error e'=>rw [q1] at h;cases h;exact mv (fun y N kd wd e h=>vE n y N kd wd e h) t N (ah t) [] kd wd _ q1
    | ok v=>
      obtain ⟨fs,kd1,wd1⟩:=v
      rw [q1] at h
      dsimp only at h
      by_cases c2:4<(aV t fs N).dep
      ·rw [ZZ c2] at h;cases h;trivial
      ·rw [ZY c2] at h;cases h
theorem oQ {n:Nat} {t:T68} {e:Er} (h:aT n t = .error e):e.nn:=by
 unfold aT at h
 cases q:lkM n t [] [] [] with
 | error e'=>rw [q] at h;cases h;exact vE _ _ _ _ _ _ q
 | ok v=>obtain ⟨k,kd,wd⟩:=v;rw [q] at h;cases h
theorem lq {n:Nat} {t:T68} {kd wd:Al} (h:aT n t = .ok (kd,wd)):(∀ p∈kd,p.2.dep≤4)∧(∀ p∈wd,p.2.dep≤4)∧∀ p∈ak n t,(aq kd (.inl p)).isSome=true∧(aq wd (.inl p)).isSome=true:=by
 unfold aT at h
 cases q:lkM n t [] [] [] with
 | error e=>rw [q] at h;cases h
 | ok v=>
   obtain ⟨k,kd1,wd1⟩:=v
   rw [q] at h
   cases h
   obtain ⟨k4,g⟩:=vB n t [] [] [] k _ _ q
   refine ⟨g.kd4 (fun p hp=>by cases hp),bO (P:=fun k=>k.dep≤4) (g.wd4 (fun p hp=>by cases hp)) k4,fun p hp=>⟨g.kp p hp,?_⟩⟩
   cases n with
   | zero=>cases hp
   | succ n=>
     rcases List.mem_cons.mp hp with rfl | hp
     ·exact fx
     ·exact b5 (g.wp p hp)
theorem zp (e:Er):aG e.ds=true:=eJ fun d hd=>by
 have sn:∀ l:List Str,aG (sts l)=true:=fun l=>eJ fun d hd=>by obtain ⟨x,_,rfl⟩:=List.mem_map.mp hd;rfl
 cases e with
 | name p=>rw [List.mem_singleton.mp hd];rfl
 | deep p=>rw [List.mem_singleton.mp hd];rfl
 | parted p k b w way=>
   simp only [Er.ds,List.mem_cons,List.not_mem_nil,or_false] at hd
   rcases hd with rfl | rfl | rfl | rfl | rfl
   ·rfl
   ·exact k.nr
   ·rfl
   ·exact w.nr
   ·exact sn way
theorem wy {kd wd:Al}:oB (ls kd wd) (.tup [.ref 1,.ref 2])=some (.tup [dA kd,dA wd]):=by
 show ((if aG (dsA kd)=true then some (D.dic (ksA kd) (dsA kd)) else none).bind fun e=>((if aG (dsA wd)=true then some (D.dic (ksA wd) (dsA wd)) else none).bind fun f=>(some []).map (f :: ·)).map (e :: ·)).map D.tup=_
 rw [ZZ (jL kd),ZZ (jL wd)];rfl
theorem BJ {W:List Str} {n:Nat} {t:T68} (o:Ok W n [] t):aG [t.toD]=true:=eJ fun d hd=>by rw [List.mem_singleton.mp hd];exact T68.nr n t o.nst
theorem mB {W:List Str} {kd wd:Al} (n m:Nat) (t:T68) (o:Ok W n [] t) (h8:n≤8) (hm:n+12≤m) (q:aT n t = .ok (kd,wd)):ag Γ m fU [t.toD] [] = .ok (.tup [.ref 1,.ref 2]) (ls kd wd):=by
 have lk:=iz n m t o h8 hm
 rw [q] at lk;exact lk
theorem tG {W:List Str} {kd wd:Al} (t:T68) (o:Ok W 8 [] t) (q:aT 8 t = .ok (kd,wd)) {kk:Kd} (hk:aq kd (.inl t.pl)=some kk):ag Γ 249 oF [t.toD] [] = .ok kk.toD (ls kd wd):=by
 have lk:=mB 8 248 t o (by decide) (by decide) q
 have g:ixD (look (ls kd wd) (.ref 1)) (.int t.pl)=some kk.toD:=ey hk
 exact (ac false (aX 0 (lk) (aX 1 (aJ t (ls kd wd)) (aX 0 (g) aZ))) (by kernel_rfl))
theorem vA {l:Al} {n:Nat} (h:l.length=n) (hn:n≤100000):biD .len [dA l]=some (.int (n:Nat)):=by
 have e:(ksA l).length=n:=by unfold ksA;rw [List.length_map];exact h
 show (if (ksA l).length≤100000 then some (D.int ((ksA l).length:Nat)) else none)=_
 rw [e,ZZ hn]
theorem zU (ps:List Int):biD .len [.lst (dsI ps)]=some (.int (ps.length:Nat)):=by
 show some (D.int ((dsI ps).length:Nat))=_
 unfold dsI;rw [List.length_map]
theorem xW (i:Int):opD .ne (.int i) (.int i)=some (.bl false):=by
 show some (D.bl (!(i == i)))=_
 rw [ZT];rfl
theorem j9 {W:List Str} {t:T68} (o:Ok W 8 [] t) (np:(ak 8 t).Nodup) (fr:Bool) (hfr:∀ e,aT 8 t = .error e→fr=true) (a c r:D) (S:List O):toR (exS Γ (ag Γ 249) (aK Γ 249) (tlS 4 jN.body) ⟨[some a,some c,some r,some t.toD,some (.bl fr),none,none,none,none],[],S⟩) = .ok (.bl true) S:=by
 have nt:=BJ o
 cases q:aT 8 t with
 | error e=>
   rw [hfr e q]
   have nn:=oQ q
   have en:=zp e
   have lk:=iz 8 249 t o (by decide) (by decide)
   rw [q] at lk
   obtain ⟨st,lk⟩:=lk
   cases e with
   | name p=>exact nn.elim
   | deep p=>exact (aE false (aX 0 (nt) (aX 0 (lk) aZ)) (by kernel_rfl))
   | parted p k b w way=>exact (aE false (aX 0 (nt) (aX 0 (lk) (aX 0 (en) aZ))) (by kernel_rfl))
 | ok v=>
   obtain ⟨kd,wd⟩:=v
   have lk:=mB 8 249 t o (by decide) (by decide) q
   have fz:=wy (kd:=kd) (wd:=wd)
   have pl:=mD 8 249 t [] S (by decide) (by decide) o
   obtain ⟨h4,w4,hp⟩:=lq q
   obtain ⟨i1,i2⟩:=oP (by decide) q
   have e1:=qP i1 np (fun p h=>(hp p h).1)
   have e2:=qP i2 np (fun p h=>(hp p h).2)
   have pn:(ak 8 t).length≤100000:=by
    have:=jn 8 [] t o
    have:=(nb8 (n:=8) (by decide)).1
    omega
   have d1:=vA e1 pn
   have d2:=vA e2 pn
   have dl:=zU (ak 8 t)
   have ni:=xW ((ak 8 t).length:Nat)
   obtain ⟨hs,hr⟩:=oO (by decide) np q
   obtain ⟨kk,hkk⟩:=Option.isSome_iff_exists.mp (hp t.pl (aU (by decide))).1
   rw [hkk] at hr
   have k4:=dE h4 hkk
   have ko:=tG t o q hkk
   have kn:=kk.nr
   have hh:=holds h4 w4 8 249 (by decide) t [] [] o ⟨fun _ h=>(by cases h),fun _ h=>(by cases h),by decide⟩ hs
   have nr:=zx o [] kd wd
   have pt:=aJ t S
   have ne:=Ab k4 S
   have ek:=zo k4 S
   have g1:=iO hr
   have g2:=iO hkk
   have g3:=ey hkk
   generalize ak 8 t=ps at *
   exact (aE true (aX 0 (nt) (aX 0 (lk) (aX 1 (fz) (aX 0 (pl) (aX 0 (d1) (aX 0 (dl) (aX 0 (ni) (aX 1 (d2) (aX 0 (dl) (aX 0 (ni) (aX 2 (pt) (aX 0 (g1) (aX 1 (pt) (aX 0 (g2) (aX 0 (ne) (aX 2 (nr) (aX 0 (hh) (aX 2 (nt) (aX 0 (ko) (aX 0 (kn) (aX 0 (pt) (aX 0 (g3) (aX 0 (ek) aZ))))))))))))))))))))))) (by kernel_rfl))
theorem wS (ns:List Int):∃ st':List O,ag Γ 250 zK [.lst (ns.map .int)] [] = .ok (.bl true) st':=by
 obtain ⟨x,hx⟩:=lV ns 0 248 []
 obtain ⟨y,hy⟩:=lV ns 1 248 []
 have mx:=iA (i:=x) (j:=6364136223846793005) (by decide)
 generalize hc:x * 6364136223846793005 % 1000000000039=cc at *
 obtain ⟨W,hW,nd,hw⟩:=AK cc 248 []
 obtain ⟨k,hk,hkk⟩:=iq (cc / 3) 248 (dS ns 1 (y % 9973) W (cc % 3) [] 0)
 obtain ⟨t,i1,c1,_,mk,ht⟩:=Ac (ns:=ns) (b0:=y % 9973) (od:=cc % 3) (st:=[]) hW 249 (by decide) k [] 1 0 (Kd.ok2 hk) Nk.nil (by decide)
 by_cases g:cc / 997 % 2=0
 ·obtain ⟨t2,i2,c2,_,⟨⟨o,pz⟩,cn⟩,ht2⟩:=zk (o0:=jK ns i1 (y % 9973) c1 (.lst (sts W)) (.int (cc % 3))) (ns:=ns) (b0:=y % 9973) hW 7 8 249 (by decide) (by decide) (.ref 2) [] 1 0 (.inl ⟨rfl,rfl⟩) (by decide) (by decide)
  have np:=apart pz (by unfold Cn at cn;omega)
  have h2:=j9 o np true (fun _ _=>rfl) (.lst (ns.map .int)) (.int cc) (.ref 0) (dG (jK ns i1 (y % 9973) c1 (.lst (sts W)) (.int (cc % 3))) ns (y % 9973) W i2 c2)
  have hd:exS Γ (ag Γ 249) (aK Γ 249) (hdS 4 jN.body) ⟨[some (.lst (ns.map .int)),none,none,none,none,none,none,none,none],[],[]⟩ = .nx ⟨[some (.lst (ns.map .int)),some (.int cc),some (.ref 0),some t2.toD,some (.bl true),none,none,none,none],[],dG (jK ns i1 (y % 9973) c1 (.lst (sts W)) (.int (cc % 3))) ns (y % 9973) W i2 c2⟩:=(b7 false (aX 0 (hx) (aX 0 (mx) (aX 0 (fg hc (by decide)) (aX 0 (hy) (aX 0 (hw) (aX 0 (hkk) (aX 0 (ht) (aX 5 (aS g) (aX 0 (ht2) aZ))))))))) (by kernel_rfl))
  exact ⟨_,bB 4 jN rfl rfl hd h2⟩
 ·obtain ⟨⟨o,ty⟩,pz⟩:=mk
  have np:=apart pz (by decide)
  have h2:=j9 o np (cc % 3 == 0) (fun e he=>by
   refine aS (Decidable.byContradiction fun z=>?_)
   obtain ⟨k0,a',b',h1,_⟩:=ty z 8 (by decide) [] (fun x k hk=>by cases hk) [] []
   unfold aT at he
   rw [h1] at he;cases he) (.lst (ns.map .int)) (.int cc) (.ref 0) (dS ns i1 (y % 9973) W (cc % 3) [] c1)
  have hd:exS Γ (ag Γ 249) (aK Γ 249) (hdS 4 jN.body) ⟨[some (.lst (ns.map .int)),none,none,none,none,none,none,none,none],[],[]⟩ = .nx ⟨[some (.lst (ns.map .int)),some (.int cc),some (.ref 0),some t.toD,some (.bl (cc % 3 == 0)),none,none,none,none],[],dS ns i1 (y % 9973) W (cc % 3) [] c1⟩:=(b7 false (aX 0 (hx) (aX 0 (mx) (aX 0 (fg hc (by decide)) (aX 0 (hy) (aX 0 (hw) (aX 0 (hkk) (aX 0 (ht) (aX 5 (ao g) aZ)))))))) (by kernel_rfl))
  exact ⟨_,bB 4 jN rfl rfl hd h2⟩
def iH (K:Fg):Prop:=∃ C:Addr,vX K "BlameError" C∧NaL K C []
def px (K:Fg):Prop:=∃ C:Addr,vX K "NoPart" C∧NaL K C []
def pw (K:Fg):Prop:=∃ C fI:Addr,sB K "NoName" "NoName.__init__" (b8 (top 3) 0) veB "ValueError.__new__" C fI∧NaL K C ["place"]
def nK (K:Fg):Prop:=∃ C fI:Addr,sB K "TooDeep" "TooDeep.__init__" (b8 (top 4) 0) veB "ValueError.__new__" C fI∧NaL K C ["place"]
def pA (K:Fg):Prop:=∃ C fI:Addr,sB K "Parted" "Parted.__init__" (b8 (top 5) 0) veB "ValueError.__new__" C fI∧NaL K C ["place","kind","by","wanted","way"]
def pv (K:Fg):Prop:=∃ C f0 f1 f2 f3 f4:Addr,yI K "Looker" C∧NaL K C ["kinds","wanted"]∧nH K C "__init__" "Looker.__init__" (b8 (top 37) 0) f0∧nH K C "look" "Looker.look" (b8 (top 37) 1) f1∧nH K C "hold" "Looker.hold" (b8 (top 37) 2) f2∧nH K C "hold_choice" "Looker.hold_choice" (b8 (top 37) 3) f3∧nH K C "want" "Looker.want" (b8 (top 37) 4) f4
def mrl:List (Str×Str×Bool):=[("BlameError","Parted",false),("NoPart","Parted",false),("NoName","Parted",false),("TooDeep","Parted",false),("Parted","Parted",true),("BlameError","TooDeep",false),("NoPart","TooDeep",false),("NoName","TooDeep",false),("TooDeep","TooDeep",true),("Parted","TooDeep",false)]
structure Txt (K:Fg):Prop where
 fn:fE K fnl
 gl:GlL K gll
 tl:kO K tbl
 bl:NoL K T.bl
 mr:MrL K mrl
 bi_BlameError:∃ B,PySem.W.nsIn K mainGlobals "BlameError" = some (some (.ref B))∧jC K B
 x_BlameError:iH K
 x_NoPart:px K
 x_NoName:pw K
 x_TooDeep:nK K
 x_Parted:pA K
 x_Looker:pv K
theorem tx:((((fnl.map fun p=>(p.1,p.1,p.2)) ++ mel).zip vrl).all fun p=>fnC p.1.2.2 && (fJ { T with mu:=p.2.1,alt:=p.2.2.1,fc:=p.2.2.2.1,oc:=p.2.2.2.2 } p.1.2.2).isSome)=true:=by kernel_rfl
theorem vY {P:Program} {w:World} {K:Fg} {h:Heap} {mg:Str→Option Value} {fa:Addr} {os:OsState} (Y:K.In h) (G:h.Ns mainGlobals mg) (hfa:mg "law" = some (.ref fa)) (T':Txt K) :
 ∃ X:Cx,X.W.P=P∧X.W.w=w∧X.K=K∧X.mg=mg∧X.base=h∧X.os=os∧X.calm=true∧bJ X (ag Γ 250) 252 48 fa:=by
 obtain ⟨ad,hF,hG⟩:=T'.fn.ad Y G
 obtain ⟨C_BlameError,BP,na_BlameError⟩:=T'.x_BlameError
 obtain ⟨C_NoPart,BS,na_NoPart⟩:=T'.x_NoPart
 obtain ⟨C_NoName,fi_NoName,BO,na_NoName⟩:=T'.x_NoName
 obtain ⟨BV,Fi_NoName⟩:=BO.ini
 obtain ⟨C_TooDeep,fi_TooDeep,BM,na_TooDeep⟩:=T'.x_TooDeep
 obtain ⟨BU,Fi_TooDeep⟩:=BM.ini
 obtain ⟨C_Parted,fi_Parted,BN,na_Parted⟩:=T'.x_Parted
 obtain ⟨BW,Fi_Parted⟩:=BN.ini
 obtain ⟨C_Looker,a_Looker___init__,a_Looker_look,a_Looker_hold,a_Looker_hold_choice,a_Looker_want,BR,na_Looker,⟨⟨fd_Looker___init__,F_Looker___init__⟩,M_Looker___init__⟩,⟨⟨fd_Looker_look,F_Looker_look⟩,M_Looker_look⟩,⟨⟨fd_Looker_hold,F_Looker_hold⟩,M_Looker_hold⟩,⟨⟨fd_Looker_hold_choice,F_Looker_hold_choice⟩,M_Looker_hold_choice⟩,⟨⟨fd_Looker_want,F_Looker_want⟩,M_Looker_want⟩⟩:=T'.x_Looker
 let X:Cx:=⟨⟨P,w,[⟨C_BlameError,[]⟩,⟨C_NoPart,[]⟩,⟨C_NoName,["place"]⟩,⟨C_TooDeep,["place"]⟩,⟨C_Parted,["place","kind","by","wanted","way"]⟩,⟨C_Looker,["kinds","wanted"]⟩],[2,2,2,2,2,0]⟩,K,mg,h,os,Γ,fun _ _ _=>.bad,fun _ _ _=>.bad,callerA,[],[],envOfC "" (au (top 0)) 0 0 .none,true⟩
 have hB_BlameError:∀ (b:Str) (c:List Nat),some (("BlameError":Str),c)=some (b,c)→∃ B,mg b=some (.ref B)∧jC K B:=fun b c e=>by cases e;obtain ⟨B,h1,h2⟩:=T'.bi_BlameError;exact ⟨B,PySem.W.mg_of Y G h1,h2⟩
 have hM:FsL K mel [a_Looker___init__,a_Looker_look,a_Looker_hold,a_Looker_hold_choice,a_Looker_want]:=⟨⟨_,F_Looker___init__⟩,⟨_,F_Looker_look⟩,⟨_,F_Looker_hold⟩,⟨_,F_Looker_hold_choice⟩,⟨_,F_Looker_want⟩,trivial⟩
 have BT:df X T.an 0 ⟨2,[],0,[],[],[]⟩ ⟨C_BlameError,[]⟩:=⟨rfl,(fun z=>ZX rfl z),na_BlameError.at,rfl,(show ([]:List Str)=List.map T.an [] by decide +kernel),(show ([]:List Str).Nodup by decide +kernel),fun _=>⟨BP.fd,BP.hh⟩⟩
 have BZ:df X T.an 1 ⟨2,[],0,[],[0],[]⟩ ⟨C_NoPart,[]⟩:=⟨rfl,(fun z=>ZX rfl z),na_NoPart.at,rfl,(show ([]:List Str)=List.map T.an [] by decide +kernel),(show ([]:List Str).Nodup by decide +kernel),fun _=>⟨BS.fd,BS.hh⟩⟩
 have BY:df X T.an 2 ⟨2,[0],0,[],[0],[0]⟩ ⟨C_NoName,["place"]⟩:=⟨rfl,(fun z=>ZX rfl z),na_NoName.at,rfl,(show (["place"]:List Str)=List.map T.an [0] by decide +kernel),(show (["place"]:List Str).Nodup by decide +kernel),fun _=>⟨BO.fd,BO.hh⟩⟩
 have BX:df X T.an 3 ⟨2,[0],0,[],[0],[0]⟩ ⟨C_TooDeep,["place"]⟩:=⟨rfl,(fun z=>ZX rfl z),na_TooDeep.at,rfl,(show (["place"]:List Str)=List.map T.an [0] by decide +kernel),(show (["place"]:List Str).Nodup by decide +kernel),fun _=>⟨BM.fd,BM.hh⟩⟩
 have B0:df X T.an 4 ⟨2,[0,1,2,3,4],0,[],[0],[0,2]⟩ ⟨C_Parted,["place","kind","by","wanted","way"]⟩:=⟨rfl,(fun z=>ZX rfl z),na_Parted.at,rfl,(show (["place","kind","by","wanted","way"]:List Str)=List.map T.an [0,1,2,3,4] by decide +kernel),(show (["place","kind","by","wanted","way"]:List Str).Nodup by decide +kernel),fun _=>⟨BN.fd,BN.hh⟩⟩
 have BQ:df X T.an 5 ⟨0,[5,3],49,[],[],[]⟩ ⟨C_Looker,["kinds","wanted"]⟩:=⟨rfl,fun _=>BR.cls,na_Looker.at,rfl,(show (["kinds","wanted"]:List Str)=List.map T.an [5,3] by decide +kernel),(show (["kinds","wanted"]:List Str).Nodup by decide +kernel),fun z=>ZX z (by decide)⟩
 have Pg:sA T X (ad ++ [a_Looker___init__,a_Looker_look,a_Looker_hold,a_Looker_hold_choice,a_Looker_want]) 1:=by
  refine ⟨rfl,fun j f e=>wA rfl rfl tx (hF.app hM) e,fun j x e=>?_,fun j x e=>?_,fun j x e=>?_,fun x e=>PySem.W.mg_none_of Y G (T'.bl.at x e),fun c k e=>?_,fun q e=>?_,fun j x e hz=>?_,fun j x e hz=>?_,fun j x e hz=>?_,fun j x e hz=>?_,fun j x e hz=>?_⟩
  ·obtain ⟨f,h1,h2⟩:=pB hG e
   exact ⟨f,List.getElem?_append_left (List.getElem?_eq_some_iff.mp h1).1 ▸ h1,h2⟩
  ·obtain ⟨d,u,h1,h2,h3⟩:=T'.gl.at e
   exact ⟨d,u,h1,PySem.W.mg_of Y G h2,h3⟩
  ·obtain ⟨t,a,h1,h2,h3⟩:=T'.tl.at e
   exact ⟨t,a,h1,PySem.W.mg_of Y G h2,h3⟩
  ·exact dC (P:=fun (c:Nat) (k:Cl)=>∃ i,df X T.an c k i) (show e9 _ 0 Γ.cl from ⟨⟨_,BT⟩,⟨_,BZ⟩,⟨_,BY⟩,⟨_,BX⟩,⟨_,B0⟩,⟨_,BQ⟩,trivial⟩) e
  ·obtain ⟨i,e⟩:=List.mem_iff_getElem?.mp e
   exact dC (P:=fun (_:Nat) (q:Str×Nat×Nat)=>∃ f,(ad ++ [a_Looker___init__,a_Looker_look,a_Looker_hold,a_Looker_hold_choice,a_Looker_want])[q.2.2]? = some f∧nI X T.an q.1 q.2.1 f) (show e9 _ 0 T.me from ⟨⟨a_Looker_look,fF (n:=49) (k:=1) hF.len,⟨_,_,rfl,BQ,rfl,M_Looker_look,(show ("look":Str) ∉ (["kinds","wanted"]:List Str) by decide +kernel)⟩⟩,⟨a_Looker_hold,fF (n:=49) (k:=2) hF.len,⟨_,_,rfl,BQ,rfl,M_Looker_hold,(show ("hold":Str) ∉ (["kinds","wanted"]:List Str) by decide +kernel)⟩⟩,⟨a_Looker_hold_choice,fF (n:=49) (k:=3) hF.len,⟨_,_,rfl,BQ,rfl,M_Looker_hold_choice,(show ("hold_choice":Str) ∉ (["kinds","wanted"]:List Str) by decide +kernel)⟩⟩,⟨a_Looker_want,fF (n:=49) (k:=4) hF.len,⟨_,_,rfl,BQ,rfl,M_Looker_want,(show ("want":Str) ∉ (["kinds","wanted"]:List Str) by decide +kernel)⟩⟩,trivial⟩) e
  ·exact dC (P:=fun (j:Nat) (x:Str)=>x≠("":Str)→∃ f i cl,(ad ++ [a_Looker___init__,a_Looker_look,a_Looker_hold,a_Looker_hold_choice,a_Looker_want])[cl.init]? = some f∧Mk K i.ad f∧Γ.cl[j]? = some cl∧cl.what=0∧X.W.ci[j]? = some i∧X.W.what[j]? = some 0∧mg x=some (.ref i.ad)) (show e9 _ 0 T.nw from ⟨(fun z=>ZX rfl z),(fun z=>ZX rfl z),(fun z=>ZX rfl z),(fun z=>ZX rfl z),(fun z=>ZX rfl z),(fun _=>⟨a_Looker___init__,⟨C_Looker,_⟩,_,fF (n:=49) (k:=0) hF.len,⟨BR.mks,M_Looker___init__.at_,M_Looker___init__.fn,BR.kp⟩,rfl,rfl,rfl,rfl,PySem.W.mg_of Y G BR.a⟩),trivial⟩) e hz
  ·exact dC (P:=fun (j:Nat) (x:Str)=>x≠("":Str)→∃ f fd ps i cl,FnI X 1 f fd ps i.nm none∧b6 K fd ps []∧Mk K i.ad f∧Cls K i.ad∧(∀ f∈i.nm,cP K i.ad f)∧Γ.cl[j]? = some cl∧X.W.ci[j]? = some i∧X.W.what[j]? = some 1∧i.nm.length=cl.at_.length∧mg x=some (.ref i.ad)) (show e9 _ 0 T.nd from ⟨(fun z=>ZX rfl z),(fun z=>ZX rfl z),(fun z=>ZX rfl z),(fun z=>ZX rfl z),(fun z=>ZX rfl z),(fun z=>ZX rfl z),trivial⟩) e hz
  ·exact dC (P:=fun (j:Nat) (x:Str)=>x≠("":Str)→∃ (k:Cl) (i:CI) (fI:Addr) (fd:FuncData) (ps:List Str) (Bx nwI iniI:String) (bmB:List Value),ExcBaseFacts Bx nwI iniI bmB∧gE K i.ad fI bmB nwI∧FnJ X 1 fI fd ps i.nm k i.ad∧b6 K fd ps []∧fB K i.ad∧(∀ f∈i.nm,PySem.W.findIn K (.ref i.ad) f=some none)∧Γ.cl[j]? = some k∧X.W.ci[j]? = some i∧X.W.what[j]? = some 2∧i.nm.length=k.at_.length∧PySem.W.mroIn K i.ad (.type "BaseException")=some true∧PySem.W.typeIn K (.ref i.ad)=some (.type "type")∧PySem.W.keepIn K (.ref i.ad)=true∧mg x=some (.ref i.ad)∧k.at_.isEmpty=false) (show e9 _ 0 T.ex from ⟨(fun z=>ZX rfl z),(fun z=>ZX rfl z),(fun _=>⟨_,⟨C_NoName,_⟩,fi_NoName,BV,_,_,_,_,_,PySem.F.excBase_ValueError,BO.own,⟨_,(eB (X:=X) (nm:=["place"]) (some ("BlameError",[0])) Fi_NoName (by kernel_rfl) fun b c e=>hB_BlameError b c (by cases e;rfl)).1,.inr ⟨rfl,BO.own⟩⟩,(eB (X:=X) (nm:=["place"]) (some ("BlameError",[0])) Fi_NoName (by kernel_rfl) fun b c e=>hB_BlameError b c (by cases e;rfl)).2,BO.st,na_NoName.at,rfl,rfl,rfl,rfl,BO.fd.be,BO.ec.ty,BO.kp,PySem.W.mg_of Y G BO.a,rfl⟩),(fun _=>⟨_,⟨C_TooDeep,_⟩,fi_TooDeep,BU,_,_,_,_,_,PySem.F.excBase_ValueError,BM.own,⟨_,(eB (X:=X) (nm:=["place"]) (some ("BlameError",[0])) Fi_TooDeep (by kernel_rfl) fun b c e=>hB_BlameError b c (by cases e;rfl)).1,.inr ⟨rfl,BM.own⟩⟩,(eB (X:=X) (nm:=["place"]) (some ("BlameError",[0])) Fi_TooDeep (by kernel_rfl) fun b c e=>hB_BlameError b c (by cases e;rfl)).2,BM.st,na_TooDeep.at,rfl,rfl,rfl,rfl,BM.fd.be,BM.ec.ty,BM.kp,PySem.W.mg_of Y G BM.a,rfl⟩),(fun _=>⟨_,⟨C_Parted,_⟩,fi_Parted,BW,_,_,_,_,_,PySem.F.excBase_ValueError,BN.own,⟨_,(eB (X:=X) (nm:=["place","kind","by","wanted","way"]) (some ("BlameError",[0,2])) Fi_Parted (by kernel_rfl) fun b c e=>hB_BlameError b c (by cases e;rfl)).1,.inr ⟨rfl,BN.own⟩⟩,(eB (X:=X) (nm:=["place","kind","by","wanted","way"]) (some ("BlameError",[0,2])) Fi_Parted (by kernel_rfl) fun b c e=>hB_BlameError b c (by cases e;rfl)).2,BN.st,na_Parted.at,rfl,rfl,rfl,rfl,BN.fd.be,BN.ec.ty,BN.kp,PySem.W.mg_of Y G BN.a,rfl⟩),(fun z=>ZX rfl z),trivial⟩) e hz
  ·exact dC (P:=fun (j:Nat) (x:Str)=>x≠("":Str)→pk X j x) (show e9 _ 0 T.hx from ⟨(fun z=>ZX rfl z),(fun z=>ZX rfl z),(fun z=>ZX rfl z),(fun _=>⟨⟨C_TooDeep,_⟩,rfl,PySem.W.mg_of Y G BM.a,BM.ec,fun c k ic h1 h2 h3=>dC (P:=fun (c:Nat) (k:Cl)=>∀ ic,X.W.ci[c]? = some ic→X.W.what[c]? = some 2→PySem.W.mroIn K ic.ad (.ref C_TooDeep)=some (c == 3 || k.sup.contains 3)) (show e9 _ 0 Γ.cl from ⟨(fun _ e _=>by cases e;exact T'.mr.at (by decide +kernel) BP.a BM.a),(fun _ e _=>by cases e;exact T'.mr.at (by decide +kernel) BS.a BM.a),(fun _ e _=>by cases e;exact T'.mr.at (by decide +kernel) BO.a BM.a),(fun _ e _=>by cases e;exact T'.mr.at (by decide +kernel) BM.a BM.a),(fun _ e _=>by cases e;exact T'.mr.at (by decide +kernel) BN.a BM.a),(fun _ _ z=>ZX z (by show some 0≠some 2;decide)),trivial⟩) h1 ic h2 h3⟩),(fun _=>⟨⟨C_Parted,_⟩,rfl,PySem.W.mg_of Y G BN.a,BN.ec,fun c k ic h1 h2 h3=>dC (P:=fun (c:Nat) (k:Cl)=>∀ ic,X.W.ci[c]? = some ic→X.W.what[c]? = some 2→PySem.W.mroIn K ic.ad (.ref C_Parted)=some (c == 4 || k.sup.contains 4)) (show e9 _ 0 Γ.cl from ⟨(fun _ e _=>by cases e;exact T'.mr.at (by decide +kernel) BP.a BN.a),(fun _ e _=>by cases e;exact T'.mr.at (by decide +kernel) BS.a BN.a),(fun _ e _=>by cases e;exact T'.mr.at (by decide +kernel) BO.a BN.a),(fun _ e _=>by cases e;exact T'.mr.at (by decide +kernel) BM.a BN.a),(fun _ e _=>by cases e;exact T'.mr.at (by decide +kernel) BN.a BN.a),(fun _ _ z=>ZX z (by show some 0≠some 2;decide)),trivial⟩) h1 ic h2 h3⟩),(fun z=>ZX rfl z),trivial⟩) e hz
  ·exact dC (P:=fun (j:Nat) (x:Str)=>x≠("":Str)→RtP X j x) (show e9 _ 0 T.xt from ⟨(fun z=>ZX rfl z),(fun z=>ZX rfl z),(fun z=>ZX rfl z),(fun z=>ZX rfl z),(fun z=>ZX rfl z),(fun z=>ZX rfl z),trivial⟩) e hz
 obtain ⟨f,h1,h2⟩:=pB hG (j:=48) (x:="law") rfl
 rw [hfa] at h2
 cases h2
 exact ⟨X,rfl,rfl,rfl,rfl,rfl,rfl,rfl,jp Pg 250 48 fa (List.getElem?_append_left (List.getElem?_eq_some_iff.mp h1).1 ▸ h1)⟩
theorem walk {l:PySem.W.OpenLaw} {q:Program} {loose:List Str} {XP:(Str→Option Value)→Heap→Prop} {YP:World→Heap→Prop} {d:DefRec} {K:Params→Fg} (hn:l.most=some 63) (hdf:d.params.defaults = []) (hd:d.name = "law")
 (hY:∀ (w:World) (h:Heap),YP w h→(K w.params).In h) (F:∀ (w:World) (h:Heap) (Y:(K w.params).In h),Txt (KOf Y)):PySem.W.WalkO q loose XP YP l.row.toRowW d [] (fun f vs=>PySem.call f vs):=
 uR (n:=63) hn (by decide) hdf ⟨rfl,by decide,by decide⟩ hY (fun w mg fa h os Y G e md=>vY Y G (hd ▸ e) (F w h Y)) (fun ns _=>wS ns)
end L2.K32
end
section
open PySem PySem.W PyProof.Rows
namespace PySem.W.Fast
def tw8106381138448703986:Nat:=0
def tw10787304669739439741:Nat:=0
def tw8787885186954950508:Nat:=0
def tw12975840177256683305:Nat:=0
def tw14453981323150996401:Nat:=0
def tw76994941243345890:Nat:=0
def tw17546104134979372504:Nat:=0
def tw2750099143376304568:Nat:=0
def tw13633017942184768303:Nat:=0
def tw3370875785662294534:Nat:=0
def tw10466615642070591006:Nat:=0
def tw10285036353451522810:Nat:=0
def tw572306603092044371:Nat:=0
def tw13368209459399859326:Nat:=0
def tw11905344810239112972:Nat:=0
def tw12838941281002027051:Nat:=0
def tw1762343653847624141:Nat:=0
def tw2172957581440456539:Nat:=0
def tw17389886579810996360:Nat:=0
def tw1958076943223201901:Nat:=0
def tw17865740837806564885:Nat:=0
def tw1867544411325625677:Nat:=0
def tw6762264469123310814:Nat:=0
def tw15348315655406012171:Nat:=0
def tw18428170801110682587:Nat:=0
def tw5528188568226826416:Nat:=0
def tw9287892673093350577:Nat:=0
def tw17379207832279589265:Nat:=0
def tw7474417160557453221:Nat:=0
def tw6952122796987158816:Nat:=0
def tw4530724960016441906:Nat:=0
def tw10754353853521390391:Nat:=0
def tw1603857150329697378:Nat:=0
def tw10372304855522704285:Nat:=0
def tw8486242254617589969:Nat:=0
def tw13331826846066500547:Nat:=0
def tw2615278825092242111:Nat:=0
def tw10518623176016641689:Nat:=0
def tw5197444259005899600:Nat:=0
def tw8872010696448943590:Nat:=0
def tw15372988612145987511:Nat:=0
def tw11238269699220706969:Nat:=0
def tw9940884480052984254:Nat:=0
def tw14058220680555342338:Nat:=0
def tw9103975003108387610:Nat:=0
def tw5872100979365653623:Nat:=0
def tw2302344195630172024:Nat:=0
def tw12534346224453981138:Nat:=0
def tw6505937209849300880:Nat:=0
def tw6477183509151419938:Nat:=0
def tw3560517778539932028:Nat:=0
def tw13798739162310267177:Nat:=0
def tw2218646335502602656:Nat:=0
def tw8023764448299299874:Nat:=0
def tw147892743496934448:Nat:=0
def tw14814502934365216806:Nat:=0
def tw11420444983597019994:Nat:=0
def tw16840164476847326002:Nat:=0
def tw15189786664939249823:Nat:=0
def tw10778674341896374413:Nat:=0
def tw6612924580681700073:Nat:=0
def tw3460461558599630639:Nat:=0
def tw8286123234929133733:Nat:=0
def tw16683473501172384362:Nat:=0
def tw9195778508958453875:Nat:=0
def tw11393631243045705724:Nat:=0
def tw13308529968304808322:Nat:=0
def tw7163083822925642602:Nat:=0
def tw15600851473462191229:Nat:=0
def tw580659939355494049:Nat:=0
def tw8619630293711891039:Nat:=0
def tw13907808703227940756:Nat:=0
def tw6778102254291979115:Nat:=0
def tw7286909867662843164:Nat:=0
def tw9370937462548954208:Nat:=0
def tw17327048262351014086:Nat:=0
def tw4276061515351596731:Nat:=0
def tw8454499639319197723:Nat:=0
def tw8694084289806616542:Nat:=0
def tw11561261335045811606:Nat:=0
def tw3963518822354865053:Nat:=0
def tw4129029695324336268:Nat:=0
def tw17922515520346369018:Nat:=0
def tw13591741760363245542:Nat:=0
def tw2998421594802669099:Nat:=0
def tw6089030822888249785:Nat:=0
def tw6548269866844008036:Nat:=0
def tw14112892994962552252:Nat:=0
def tw4155986170051016239:Nat:=0
def tw2061524711916260472:Nat:=0
def tw18233107872314394529:Nat:=0
def tw9650812193690750265:Nat:=0
def tw11004563267546350405:Nat:=0
def tw10561033649999489804:Nat:=0
def tw3283899155160040467:Nat:=0
def tw2533886016011634787:Nat:=0
def tw590502048306169974:Nat:=0
def tw1302617204257974651:Nat:=0
def tw4008675975087637476:Nat:=0
def tw7466682772746180908:Nat:=0
def tw8816805910216107171:Nat:=0
def tw8755818096079047566:Nat:=0
def tw6198646168005916662:Nat:=0
def tw840983056286921283:Nat:=0
def tw640401306330618721:Nat:=0
def tw3473339998804488467:Nat:=0
def tw16436650737633007730:Nat:=0
def tw17820932883240314194:Nat:=0
def tw5038095798759071283:Nat:=0
def tw6067905014101972938:Nat:=0
def tw6679207508702191919:Nat:=0
def tw6360652600557237980:Nat:=0
def tw17677610153886202672:Nat:=0
def tw2075277347468434478:Nat:=0
def tw17463067597505196510:Nat:=0
def tw13834838217262830984:Nat:=0
def tw1987295814968805962:Nat:=0
def tw183115159748245966:Nat:=0
def tw10503084274915477522:Nat:=0
def tw16578284977506584521:Nat:=0
def tw341103115642081206:Nat:=0
def tw16910453496455690477:Nat:=0
def tw12537811528481188529:Nat:=0
def tw2763758635524640510:Nat:=0
def tw689698513569466915:Nat:=0
def tw5544805769386183387:Nat:=0
def tw16490684296800503812:Nat:=0
def tw10158366293870451913:Nat:=0
def tw5819719314969165279:Nat:=0
def tw725349570249799729:Nat:=0
def tw2154027104307913259:Nat:=0
def tw10038997270746839413:Nat:=0
def tw15891536352292561510:Nat:=0
def tw18258633700100074080:Nat:=0
def tw3333563282132956673:Nat:=0
def tw18263255926702303790:Nat:=0
def tw5598194503590286921:Nat:=0
def tw9558348946515177234:Nat:=0
def tw11705006967917708088:Nat:=0
def tw2568345956171052133:Nat:=0
def tw9237948679651629326:Nat:=0
def tw3187762623614113258:Nat:=0
def tw11465905118724758795:Nat:=0
def tw7664512126983367952:Nat:=0
def tw14750585081356784149:Nat:=0
def tw8652930093019616866:Nat:=0
def tw17825396359741753917:Nat:=0
def tw8229357320335094639:Nat:=0
def tw13074603556229697273:Nat:=0
def tw16537115742386274380:Nat:=0
def tw16279789982619589674:Nat:=0
def tw3985048628288561503:Nat:=0
def tw9272679191424055710:Nat:=0
def tw6855079686142619981:Nat:=0
def tw14460767067704313649:Nat:=0
def tw7171775834045237973:Nat:=0
def tw3476939757219506816:Nat:=0
def tw13975335632572899689:Nat:=0
def tw12438975510785558924:Nat:=0
def tw1719961224946563190:Nat:=0
def tw5296697516500770933:Nat:=0
def tw572352814310054927:Nat:=0
def tw391730687920305382:Nat:=0
def tw6051485912833834595:Nat:=0
def tw5598003593267798496:Nat:=0
def tw13127611745619892816:Nat:=0
def tw634281090254659100:Nat:=0
def tw12919210197744778605:Nat:=0
def tw7940937350500264808:Nat:=0
def tw6578124898528574545:Nat:=0
def tw16352342145290274503:Nat:=0
def tw14244069918859961812:Nat:=0
def tw3427553865508782007:Nat:=0
def tw13559978521081129561:Nat:=0
def tw14660619256684500965:Nat:=0
def tw5750477247981344312:Nat:=0
def tw3744331036496939331:Nat:=0
def tw13486733331673156861:Nat:=0
def tw366216975930788715:Nat:=0
def tw18250761608430812068:Nat:=0
def tw447598347001608506:Nat:=0
def tw17365297870438860529:Nat:=0
def tw7455541601243688486:Nat:=0
def tw5262033724251736901:Nat:=0
def tw3081670595260588628:Nat:=0
def tw7270283420316369270:Nat:=0
def tw3371965805308591241:Nat:=0
def tw2935128564697665028:Nat:=0
def tw2888922325722977457:Nat:=0
def tw17458530330081551904:Nat:=0
def tw13271105323993160320:Nat:=0
def tw12486512253745287841:Nat:=0
def tw12893560003449587831:Nat:=0
def tw6885777003903237891:Nat:=0
def tw15792676250309179930:Nat:=0
def tw2598649333819006459:Nat:=0
def tw17831396959067711740:Nat:=0
def tw14278043558096745040:Nat:=0
def tw4381181834407763462:Nat:=0
def tw7501922020959966846:Nat:=0
def tw1756338264372446797:Nat:=0
def tw16065862337041574033:Nat:=0
def tw7847045673989989491:Nat:=0
def tw4108571278511178396:Nat:=0
def tw9381809414882051423:Nat:=0
def tw3721054434658757097:Nat:=0
def tw16354494952639557878:Nat:=0
def tw10153247456870632976:Nat:=0
def tw9640966065093313362:Nat:=0
def tw8959496317825214936:Nat:=0
def tw8297950879735591998:Nat:=0
def tw7490478552044313063:Nat:=0
def tw3437618196133340589:Nat:=0
def tw12383556402048399703:Nat:=0
def tw11898933555709708698:Nat:=0
def tw14616603991703924456:Nat:=0
def tw9951145178534902924:Nat:=0
def tw1044151476665844271:Nat:=0
def tw6039131235131749994:Nat:=0
def tw13356274729114739893:Nat:=0
def tw2123292238287071115:Nat:=0
def tw4771765101127892079:Nat:=0
def tw3596251468934254210:Nat:=0
def tw17384948290052625633:Nat:=0
def tw15653530827891825088:Nat:=0
def tw12505840393596506913:Nat:=0
def tw11227704250291294584:Nat:=0
def tw4320929530806543110:Nat:=0
def tw3431430677392981272:Nat:=0
def tw3427765071926174447:Nat:=0
def tw15946882017301611068:Nat:=0
def tw1607857736779976154:Nat:=0
def tw5997250490941998857:Nat:=0
def tw15942718211182172825:Nat:=0
def tw15246727624981207482:Nat:=0
def tw971059398659308874:Nat:=0
def tw17446964075833117146:Nat:=0
def tw12547545733304510202:Nat:=0
def tw12527466188061075127:Nat:=0
def tw11505117758799034302:Nat:=0
def tw11197609927468951183:Nat:=0
def tw17517841421428431769:Nat:=0
def tw4289982271295834097:Nat:=0
def tw7010324363098433248:Nat:=0
def tw180751112315893373:Nat:=0
def tw13006943126721910515:Nat:=0
def tw883574872972085706:Nat:=0
def tw7862138105238368926:Nat:=0
def tw6824946086352115824:Nat:=0
def tw6742990437089486062:Nat:=0
def tw630359165915280885:Nat:=0
def tw610394822903144146:Nat:=0
def tw5613988753632459741:Nat:=0
def tw4686430423340428084:Nat:=0
def tw4209741554841855124:Nat:=0
def tw4041397716653762147:Nat:=0
def tw401134832811930640:Nat:=0
def tw3738110108960430752:Nat:=0
def tw3713668670294134454:Nat:=0
def tw3629894849735651432:Nat:=0
def tw3587685486337419336:Nat:=0
def tw3510835675932313584:Nat:=0
def tw3325398676647469515:Nat:=0
def tw2683288562652256134:Nat:=0
def tw2584784892995949053:Nat:=0
def tw17994367980457135218:Nat:=0
def tw17964660130892568440:Nat:=0
def tw17725156417621630604:Nat:=0
def tw17527897924458950576:Nat:=0
def tw17404625381323432131:Nat:=0
def tw16915520270355541841:Nat:=0
def tw16447076352923432166:Nat:=0
def tw15327366867859231503:Nat:=0
def tw15029696464964838749:Nat:=0
def tw14593768728886702486:Nat:=0
def tw14402805253142156015:Nat:=0
def tw14345650613184069215:Nat:=0
def tw1432802101302041325:Nat:=0
def tw14170863065108310471:Nat:=0
def tw1397696207120742536:Nat:=0
def tw13476095354240089723:Nat:=0
def tw12780693592313048696:Nat:=0
def tw12750400322044833137:Nat:=0
def tw18174962024755339062:Nat:=0
def tw927045888590978439:Nat:=0
def tw8782395276480130120:Nat:=0
def tw16384187579561584731:Nat:=0
def tw2496571994001716581:Nat:=0
def tw16240403523092988777:Nat:=0
def tw4437112197474729594:Nat:=0
def tw17455899549833853216:Nat:=0
def tw7895548247346419373:Nat:=0
def tw15025903171452723901:Nat:=0
def tw5431453176467032354:Nat:=0
def tw5220714674971989713:Nat:=0
def tw1841798349608005026:Nat:=0
def tw17966717319422762263:Nat:=0
def tw17426237494283577966:Nat:=0
def tw15428554769183204976:Nat:=0
def tw1114239489380447479:Nat:=0
def tw11022009037939197069:Nat:=0
def tw17852989380331307321:Nat:=0
def tw17539649012871224480:Nat:=0
def tw11836607547198843111:Nat:=0
def tw9955295986205282429:Nat:=0
def tw533223234554295062:Nat:=0
def tw12834073715189787927:Nat:=0
def tw9770126680784814372:Nat:=0
def tw14205703895996191409:Nat:=0
def tw12256538520982333926:Nat:=0
def tw16611940382653257463:Nat:=0
def tw15802492875641204397:Nat:=0
def tw10903316741386691737:Nat:=0
def tw5280222797431083772:Nat:=0
def tw7758246130785365259:Nat:=0
def tw9209602989946907944:Nat:=0
def tw8836129759069901334:Nat:=0
def tw8705388584697562832:Nat:=0
def tw8196558305643866442:Nat:=0
def tw8164352510528029696:Nat:=0
def tw7404959524977678799:Nat:=0
def tw7117718513645340909:Nat:=0
def tw6360475717387498878:Nat:=0
def tw5862616239879211329:Nat:=0
def tw5536703069915745370:Nat:=0
def tw5176390835726155132:Nat:=0
def tw4797314032875937189:Nat:=0
def tw4217775955689531305:Nat:=0
def tw4199307902913402261:Nat:=0
def tw4071271620815459032:Nat:=0
def tw3880214024152083903:Nat:=0
def tw364398073123720807:Nat:=0
def tw2048966593660716486:Nat:=0
def tw18383227709628906898:Nat:=0
def tw18183677318711323177:Nat:=0
def tw17915449693590204601:Nat:=0
def tw17778568033666094152:Nat:=0
def tw17683453696846229686:Nat:=0
def tw170633901470430107:Nat:=0
def tw16589350026739527290:Nat:=0
def tw16570797772708982753:Nat:=0
def tw16561856174097397012:Nat:=0
def tw15947277071098687675:Nat:=0
def tw14385312636960103859:Nat:=0
def tw14297950666774867342:Nat:=0
def tw14285810458288777688:Nat:=0
def tw12787383599808887562:Nat:=0
def tw12401492240414022703:Nat:=0
def tw12256316377517950882:Nat:=0
def tw12230803754900134591:Nat:=0
def tw11808497340600897020:Nat:=0
def tw11240034765425380034:Nat:=0
def tw11104117032888515374:Nat:=0
def tw11005145051272091893:Nat:=0
def tw10644926804456534487:Nat:=0
def tw10548118747174415047:Nat:=0
def tw10428778696257917323:Nat:=0
def tw6427053024533971377:Nat:=0
def tw2588705321722606829:Nat:=0
def tw15828616931487081077:Nat:=0
def tw8342811730829002493:Nat:=0
def tw3550452244057282586:Nat:=0
def tw2146757393282902044:Nat:=0
def tw1467534100552364144:Nat:=0
def tw14048867550409308727:Nat:=0
def tw9294202903285620305:Nat:=0
def tw9139306813373405389:Nat:=0
def tw15316822472014420136:Nat:=0
def tw7633405904889239023:Nat:=0
def tw5676566011502291551:Nat:=0
def tw2457902914354211138:Nat:=0
def tw1928996701055756075:Nat:=0
def tw18312790633292576136:Nat:=0
def tw11806335198719943505:Nat:=0
def tw11062532985539846189:Nat:=0
def tw4786751317504436684:Nat:=0
def tw16357214828942180200:Nat:=0
def tw13092471616300780840:Nat:=0
def tw8725098542461858832:Nat:=0
def tw11550060559048596575:Nat:=0
def tw5225557025582784979:Nat:=0
def tw2887287101070408116:Nat:=0
def tw1976667355388039342:Nat:=0
def tw16382189818604415733:Nat:=0
def tw16274349952557010488:Nat:=0
def tw16067696674230335605:Nat:=0
def tw1273765936698140125:Nat:=0
def tw9885380394242552513:Nat:=0
def tw9728435682085333630:Nat:=0
def tw9586311051081645591:Nat:=0
def tw9558063232771737760:Nat:=0
def tw9525757406396331621:Nat:=0
def tw9466669661910278767:Nat:=0
def tw9327949444631739387:Nat:=0
def tw9232778048665537924:Nat:=0
def tw9071904892542080397:Nat:=0
def tw8888297537017014269:Nat:=0
def tw8497357451358501244:Nat:=0
def tw8304045632315056409:Nat:=0
end PySem.W.Fast
set_option maxRecDepth 100000 in
set_option maxHeartbeats 0 in
theorem PySem.Challenge.cw_blamewise_k32_whole_each_by_its_rule_holds : PySem.Challenge.rw_blamewise_k32_whole_each_by_its_rule.Holds := by
 w_on;o_law;k_head;(case hw=>w_witness2)
 k_fill
 refine L2.K32.walk (l:=PySem.Challenge.rw_blamewise_k32_whole_each_by_its_rule) rfl rfl rfl (fun w h Y=>PySem.W.kIn_of Y) ?F
 case F=>
  intro w h KX
  dsimp only [L2.Ev.KOf]
  refine' L2.K32.Txt.mk ?fn ?gl ?tl ?bl ?mr ?bi_BlameError ?x_BlameError ?x_NoPart ?x_NoName ?x_TooDeep ?x_Parted ?x_Looker
  (case fn=>(repeat (apply L2.Ev.hl_cons;(case a=>k_is);(case l=>k_is);(case c=>k_is);(case k=>k_is)));exact trivial)
  (case gl=>(repeat (apply L2.Ev.gl_cons;(case a=>k_is);(case b=>kernel_rfl)));exact trivial)
  (case tl=>(repeat (apply L2.Ev.tb_cons;(case a=>k_is);(case b=>kernel_rfl)));exact trivial)
  (case bl=>(repeat (apply L2.Ev.nl_cons;(case a=>k_is)));exact trivial)
  (case mr=>(repeat (apply L2.Ev.mr_cons;(case a=>k_is);(case b=>k_is);(case c=>k_is)));exact trivial)
  (case bi_BlameError=>(refine' ⟨_,?bi0,?bi1,?bi2,?bi3⟩;(case bi0=>k_is);(case bi1=>k_is);(case bi2=>k_is);(case bi3=>k_is)))
  (case x_BlameError=>(refine' ⟨_,L2.Ev.xb_mk ?a ?ga ?gn ?cl ?sg ?tk ?ob ?be ?is ?tyC ?hh,trivial⟩;(case a=>k_is);(case ga=>k_is);(case gn=>k_is);(case cl=>k_is);(case sg=>k_is);(case tk=>k_is);(case ob=>k_is);(case be=>k_is);(case is=>kernel_rfl);(case tyC=>k_is);(case hh=>k_is)))
  (case x_NoPart=>(refine' ⟨_,L2.Ev.xb_mk ?a ?ga ?gn ?cl ?sg ?tk ?ob ?be ?is ?tyC ?hh,trivial⟩;(case a=>k_is);(case ga=>k_is);(case gn=>k_is);(case cl=>k_is);(case sg=>k_is);(case tk=>k_is);(case ob=>k_is);(case be=>k_is);(case is=>kernel_rfl);(case tyC=>k_is);(case hh=>k_is)))
  (case x_NoName=>(refine' ⟨_,_,L2.Ev.xc_mk ?a ?l ?t ?ini ?fl ?fn ?fc ?fk ?ga ?gn ?cl ?sg ?tk ?ob ?be ?is ?kp ?tyC ?sa ?ov ?hdc ?hh ?me,?n0,trivial⟩;(case a=>k_is);(case l=>k_is);(case t=>kernel_rfl);(case ini=>k_is);(case fl=>k_is);(case fn=>k_is);(case fc=>k_is);(case fk=>k_is);(case ga=>k_is);(case gn=>k_is);(case cl=>k_is);(case sg=>k_is);(case tk=>k_is);(case ob=>k_is);(case be=>k_is);(case is=>kernel_rfl);(case kp=>k_is);(case tyC=>k_is);(case sa=>k_is);(case ov=>kernel_rfl);(case hdc=>kernel_rfl);(case hh=>k_is);(case me=>k_is);(case n0=>k_is)))
  (case x_TooDeep=>(refine' ⟨_,_,L2.Ev.xc_mk ?a ?l ?t ?ini ?fl ?fn ?fc ?fk ?ga ?gn ?cl ?sg ?tk ?ob ?be ?is ?kp ?tyC ?sa ?ov ?hdc ?hh ?me,?n0,trivial⟩;(case a=>k_is);(case l=>k_is);(case t=>kernel_rfl);(case ini=>k_is);(case fl=>k_is);(case fn=>k_is);(case fc=>k_is);(case fk=>k_is);(case ga=>k_is);(case gn=>k_is);(case cl=>k_is);(case sg=>k_is);(case tk=>k_is);(case ob=>k_is);(case be=>k_is);(case is=>kernel_rfl);(case kp=>k_is);(case tyC=>k_is);(case sa=>k_is);(case ov=>kernel_rfl);(case hdc=>kernel_rfl);(case hh=>k_is);(case me=>k_is);(case n0=>k_is)))
  (case x_Parted=>(refine' ⟨_,_,L2.Ev.xc_mk ?a ?l ?t ?ini ?fl ?fn ?fc ?fk ?ga ?gn ?cl ?sg ?tk ?ob ?be ?is ?kp ?tyC ?sa ?ov ?hdc ?hh ?me,?n0,?n1,?n2,?n3,?n4,trivial⟩;(case a=>k_is);(case l=>k_is);(case t=>kernel_rfl);(case ini=>k_is);(case fl=>k_is);(case fn=>k_is);(case fc=>k_is);(case fk=>k_is);(case ga=>k_is);(case gn=>k_is);(case cl=>k_is);(case sg=>k_is);(case tk=>k_is);(case ob=>k_is);(case be=>k_is);(case is=>kernel_rfl);(case kp=>k_is);(case tyC=>k_is);(case sa=>k_is);(case ov=>kernel_rfl);(case hdc=>kernel_rfl);(case hh=>k_is);(case me=>k_is);(case n0=>k_is);(case n1=>k_is);(case n2=>k_is);(case n3=>k_is);(case n4=>k_is)))
  (case x_Looker=>(refine' ⟨_,_,_,_,_,_,L2.Ev.cc_mk ?a ?pg ?hd ?po ?sa ?mk ?kp,⟨?n0,?n1,trivial⟩,L2.Ev.me_mk ?at0 ?fl0 ?fn0 ?fc0 ?fk0,L2.Ev.me_mk ?at1 ?fl1 ?fn1 ?fc1 ?fk1,L2.Ev.me_mk ?at2 ?fl2 ?fn2 ?fc2 ?fk2,L2.Ev.me_mk ?at3 ?fl3 ?fn3 ?fc3 ?fk3,L2.Ev.me_mk ?at4 ?fl4 ?fn4 ?fc4 ?fk4⟩;(case a=>k_is);(case pg=>k_is);(case hd=>k_is);(case po=>k_is);(case sa=>k_is);(case mk=>k_is);(case kp=>k_is);(case n0=>k_is);(case n1=>k_is);(case at0=>k_is);(case fl0=>k_is);(case fn0=>k_is);(case fc0=>k_is);(case fk0=>k_is);(case at1=>k_is);(case fl1=>k_is);(case fn1=>k_is);(case fc1=>k_is);(case fk1=>k_is);(case at2=>k_is);(case fl2=>k_is);(case fn2=>k_is);(case fc2=>k_is);(case fk2=>k_is);(case at3=>k_is);(case fl3=>k_is);(case fn3=>k_is);(case fc3=>k_is);(case fk3=>k_is);(case at4=>k_is);(case fl4=>k_is);(case fn4=>k_is);(case fc4=>k_is);(case fk4=>k_is)))
end
