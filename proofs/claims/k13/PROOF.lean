import PyProof.Rows.All
import Wide.All
import OpenK.AllK
import Wide.FinOn
import Lean
import PyProof.EqAt
import PyProof.EqKinds
import PyProof.TupleCall
import PyProof.ListMulRoad
import KE.KDictOf
import KE.KEqDict
import PyProof.DictTruth
import KE.LcSums
import PyProof.StrWalks
import PyProof.FString4
import KE.KTabLook
import PyProof.Rows.ZipGen
import PyProof.StrCalls6
import PyProof.StrLawsReplace
import PyProof.MaxThree
import PyProof.ConsumeWalk
import PySem.Challenge.RW_blamewise_k13_kinds_written
open PySem PySem.Spec PyProof.Rows
set_option compiler.extract_closed false
noncomputable section
local macro_rules|`($d:declaration)=>do let r:=d.raw;let k:=r[1].getKind;if (k==`Lean.Parser.Command.definition||k==`Lean.Parser.Command.abbrev)&&r[0][4].getNumArgs==0 then return r.setArg 0 (r[0].setArg 4 (Lean.mkNullNode #[Lean.mkNode `Lean.Parser.Command.noncomputable #[Lean.mkAtom "noncomputable"]])) else Lean.Macro.throwUnsupported
set_option hygiene false
local macro_rules|`($a<|>$b)=>`(A $a $b)
abbrev Fg:=PySem.W.Frag
abbrev NK:=List (Str×NameKind)
set_option Elab.async false
set_option linter.all false
set_option maxRecDepth 100000
set_option maxHeartbeats 8000000
set_option Elab.async false
set_option linter.all false
set_option maxRecDepth 100000
namespace L2
abbrev Key:=Sum Int Str
def gB:Key→Value→Bool
 | .inl k,v=>Value.isInt k v
 | .inr x,v=>Value.isStrOf x v
def yx (w:World):Key→Int
 | .inl k=>hashInt k
 | .inr x=>hashStr w x
theorem av:∀ {k} {v},gB k v=true→(∃ i t,k=Sum.inl i∧v=Value.int i t)∨(∃ x t,k=Sum.inr x∧v=Value.str x t)
 | .inl i,v,h=>by
   obtain ⟨t,e⟩:=Value.isInt_shape (k:=i) (v:=v) h
   exact .inl ⟨i,t,rfl,e⟩
 | .inr x,v,h=>by
   obtain ⟨t,e⟩:=Value.isStrOf_shape (x:=x) (v:=v) h
   exact .inr ⟨x,t,rfl,e⟩
theorem lM (i) (t):gB (.inl i) (.int i t)=true:=by simp [gB,Value.isInt]
theorem lN (x) (t):gB (.inr x) (.str x t)=true:=by simp [gB,Value.isStrOf]
theorem t8 (a b):decide ((Sum.inl a:Key)=Sum.inl b)=(a == b):=by
 by_cases e:a=b
 ·subst e;simp
 ·have h:¬ (Sum.inl a:Key)=Sum.inl b:=fun q=>e (Sum.inl.inj q)
  rw [decide_eq_false h]
  exact (beq_eq_false_iff_ne.mpr e).symm
theorem ub (a b):decide ((Sum.inr a:Key)=Sum.inr b)=decide (a=b):=by
 by_cases e:a=b
 ·subst e;simp
 ·have h:¬ (Sum.inr a:Key)=Sum.inr b:=fun q=>e (Sum.inr.inj q)
  rw [decide_eq_false h,decide_eq_false e]
theorem t9 (a) (b):decide ((Sum.inl a:Key)=Sum.inr b)=false:=decide_eq_false (fun q=>nomatch q)
theorem ua (a) (b):decide ((Sum.inr a:Key)=Sum.inl b)=false:=decide_eq_false (fun q=>nomatch q)
def bp (prog:Program) (w:World):PySem.KeyKind prog w Key where
 is:=gB
 hash:=yx w
 inj:=fun v a b ha hb=>by
  rcases av ha with ⟨i,t,rfl,rfl⟩ | ⟨x,t,rfl,rfl⟩
  ·rcases av hb with ⟨j,u,rfl,e⟩ | ⟨y,u,rfl,e⟩
   ·injection e with e1 _;rw [e1]
   ·exact nomatch e
  ·rcases av hb with ⟨j,u,rfl,e⟩ | ⟨y,u,rfl,e⟩
   ·exact nomatch e
   ·injection e with e1 _;rw [e1]
 byValue:=fun k v h=>by
  rcases av h with ⟨i,t,rfl,rfl⟩ | ⟨x,t,rfl,rfl⟩ <;> rfl
 pyHash:=fun hv h=>by
  rcases av hv with ⟨i,t,rfl,rfl⟩ | ⟨x,t,rfl,rfl⟩
  ·exact wpAny_pyHash_int h
  ·exact wpAny_pyHash_str h
 eqBool:=fun hu hv h=>by
  rcases av hu with ⟨i,t,rfl,rfl⟩ | ⟨x,t,rfl,rfl⟩
  ·rcases av hv with ⟨j,u,rfl,rfl⟩ | ⟨y,u,rfl,rfl⟩
   ·rw [t8] at h;exact wpAny_eqBool_int h
   ·rw [t9] at h;exact SeqAt.EqAt.int_str i t y u _ _ _ _ h
  ·rcases av hv with ⟨j,u,rfl,rfl⟩ | ⟨y,u,rfl,rfl⟩
   ·rw [ua] at h;exact SeqAt.EqAt.str_int x t j u _ _ _ _ h
   ·rw [ub] at h;exact wpAny_eqBool_str h
 «strs»:=fun k x t v h=>by
  rcases av h with ⟨i,u,rfl,e⟩ | ⟨y,u,rfl,e⟩
  ·exact nomatch e
  ·injection e with e1 _
   subst e1
   cases v <;> rfl
theorem iY (prog) (w) (i) (t):(bp prog w).is (.inl i) (.int i t)=true:=lM i t
theorem iZ (prog) (w) (x) (t):(bp prog w).is (.inr x) (.str x t)=true:=lN x t
end L2
namespace L2
structure Mod (K:Fg) (mg:Str→Option Value) (base:Heap):Prop where
 kin:K.In base
 glob:base.Ns mainGlobals mg
 blt:∃ mb,base.Ns builtinsNs mb∧∀ x:Str,x≠"__name__"→mb x=bootBuiltins x
 nolimit:base.NoLimit
def frs (l:List Env):List Addr:=l.filterMap (·.frame)
def Vis (sc:Scope) (x:Str):Prop:=sc.names.lookup x=some .local∨sc.names.lookup x=some .cell∨sc.names.lookup x=some .free
def Loc (sc:Scope) (x:Str):Prop:=sc.names.lookup x=some .local∨sc.names.lookup x=some .cell
def jp (env:Env) (h:Heap) (m:Str→Option Value) (x:Str) (u:Value):Prop:=
 (env.kindOf x=some .local∧m x=some u)∨((env.kindOf x=some .cell∨env.kindOf x=some .free)∧∃ c,env.cells.lookup x=some c∧h.IsCell c (some u))
section
variable {X:Cx} {pins:List (Addr×Obj)} {σ:List (Option V)} {H H':Hp} {s:Shared} {h':Heap}
theorem fh {N:List Str} (hN:N.Nodup) {i j:Nat} {x:Str} (a:N[i]? = some x) (b:N[j]? = some x):i=j:=by
 obtain ⟨h1,e1⟩:=List.getElem?_eq_some_iff.mp a
 obtain ⟨h2,e2⟩:=List.getElem?_eq_some_iff.mp b
 exact (List.getElem_inj hN).mp (e1.trans e2.symm)
end
theorem thn (h:wpAny M A t Q E s) (hQ:∀ a s,Q a s→Q' a s):wpAny M A t Q' E s:=wpAny_mono h hQ fun _ _ x=>x
end L2
namespace L2
theorem gv (ho:s.heap.get? it=some o) (hc:o.cls = .type n) (hd:o.data = .fields vs)
 (hn:["enumerate","zip","dict_itemiterator","dict_reverseitemiterator","odict_iterator","itertools.zip_longest","itertools.pairwise"].contains n=false) (hQ:Q () s):wpAny M A (letOwnedTupleGo tg (.ref it) u) Q E s:=by
 unfold letOwnedTupleGo
 cases tg <;> first
  | exact wpAny_pure hQ
  | (cases u <;> first
   | exact wpAny_pure hQ
   | (refine wpAny_bind (wpAny_load ho ?_)
      rw [hc,hd]
      show wpAny M A (if (["enumerate","zip","dict_itemiterator","dict_reverseitemiterator","odict_iterator","itertools.zip_longest","itertools.pairwise"].contains n && vs[0]? == some (rawInt _))=true then _ else _) Q E s
      rw [if_neg (by intro h;rw [hn,Bool.false_and] at h;cases h)]
      exact wpAny_pure hQ))
end L2
namespace L2
section
variable {X:Cx} {a b c:Expr} {ta tb tc:TE} {pos:Pos}
def tu (i j:Int):Prop:=(-(2 ^ 64)<i∧i<2 ^ 64)∨(-(2 ^ 64)<j∧j<2 ^ 64)
theorem tu.ok (h:tu i j):IntMulOk i j:=by
 rcases h with ⟨h1,h2⟩ | ⟨h1,h2⟩
 ·exact .of_left (intBits_le_64 h1 h2)
 ·exact .of_right (intBits_le_64 h1 h2)
end
section
variable {X:Cx} {a b c:Expr} {ta tb tc:TE} {pos:Pos}
theorem eW:(sizeLine:Nat)<2 ^ 63:=by rw [sizeLine_eq];decide
end
end L2
namespace L2
structure jr (h:Heap) (x dx C:Addr) (mA:Str→Option Value):Prop where
 obj:h.get? x=some (PySem.W.instObj C dx)
 ns:h.Ns1 dx mA
 ne:dx≠x
theorem gD {h:Heap} {dx:Addr} {mA:Str→Option Value} (n:h.Ns1 dx mA):∃ od,h.get? dx=some od∧∀ name,PySem.W.lookIn name od=some (mA name):=by
 obtain ⟨o,es,ep,ho,hd,hk,_,hm⟩:=n
 refine ⟨o,ho,fun name=>?_⟩
 have e:=hm name
 unfold nsFind findBy at e
 rw [← Array.find?_toList] at e
 unfold PySem.W.lookIn
 rw [hd]
 dsimp only
 split
 ·rename_i y q
  rw [q] at e
  exact congrArg some e
 ·rename_i q
  rw [q] at e
  have a:es.toList.any (·.refKey)=false:=by
   rw [List.any_eq_false]
   intro y hy
   obtain ⟨z,t,hkey⟩:=hk y (Array.mem_toList_iff.mp hy)
   simp [DictEntry.refKey,hkey]
  have a':¬ es.toList.any (·.refKey)=true:=by rw [a];exact Bool.false_ne_true
  rw [if_neg a']
  exact congrArg some e
theorem jr.look (I:jr h x dx C mA):∃ od,PySem.W.InstAt h x (PySem.W.instObj C dx) C (some od)∧∀ name,PySem.W.lookIn name od=some (mA name):=
 let ⟨od,ho,hl⟩:=gD I.ns
 ⟨od,⟨I.obj,rfl,rfl,ho⟩,hl⟩
section
variable {prog:Program} {w:World} {A:Around} {E:Value→Shared→Prop} {s:Shared} {K:Fg} {x dx C f:Addr} {mA:Str→Option Value} {name:Str} {v:Value}
theorem qA (X:K.In s.heap) (I:jr s.heap x dx C mA) (hg:PySem.W.plainGet K C name=true) (hh:PySem.W.hasDictIn K C=true)
 (ha:PySem.W.findIn K (.ref C) name=some none) (hv:mA name=some v) (hv':PySem.W.handedIn v=true) (h:Q v { s with toks:=s.toks+1 }) :
 wpAny (model prog w) A (getAttr (.ref x) name expr) Q E s:=by
 obtain ⟨od,J,hl⟩:=I.look
 exact PySem.W.get_value X J (PySem.W.plainGet_of hg).1 (PySem.W.findObj_own hh ha rfl (by rw [hl,hv])) hv' h
theorem m8 (X:K.In s.heap) (I:jr s.heap x dx C mA) (hg:PySem.W.plainGet K C name=true)
 (hf:PySem.W.findIn K (.ref C) name=some (some (.ref f))) (ht:PySem.W.isFn K (.ref f)=true) (hv:mA name=none) (h:Q (.ref f,[.ref x]) s) :
 wpAny (model prog w) A (getMethod (.ref x) name pl) Q E s:=by
 obtain ⟨od,J,hl⟩:=I.look
 exact PySem.W.method_fn X J (PySem.W.plainGet_of hg).1 (PySem.W.plainGet_of hg).2 hf (beq_iff_eq.mp ht) (by show (PySem.W.lookIn name od).map (·.isSome)=some false;rw [hl,hv];rfl) h
theorem rQ (X:K.In s.heap) (I:jr s.heap x dx C mA)
 (hs:PySem.W.findIn K (.ref C) "__setattr__" = some (some (.builtin "object.__setattr__"))) (hp:PySem.W.plainOver K C=true) (ht:PySem.W.takerIn K C name=some none) (hh:PySem.W.hasDictIn K C=true)
 (hw:PySem.Within mA ns) (hsz:ns.length≤sizeLine)
 (h:∀ h',jr h' x dx C (fun y=>if y=name then some v else mA y)→Heap.SameBut dx s.heap h'→Q () { s with heap:=h',toks:=s.toks+2 }) :
 wpAny (model prog w) A (setAttr (.ref x) name v) Q E s:=by
 obtain ⟨od,J,hl⟩:=I.look
 refine PySem.W.set_plain X J hs (PySem.W.osa_open (s:={ s with toks:=s.toks+1 }) (r:=none) X J hp ht fun b=>?_)
 obtain ⟨cd,hc,hd'⟩:=PySem.W.any_some hh
 have hx:s.heap.get? x=some ⟨.ref C,some dx,.plain,#[]⟩:=I.obj
 refine wpAny_bind (wpAny_pure (wpAny_bind (wpAny_bind (wpAny_loadPart hx (wpAny_bind (PySem.W.Looks.here (s:={ s with toks:=s.toks+1 }) (PySem.W.looks_clsIn X hc) ?_))))))
 rw [hd']
 refine wpAny_pure (a:=some dx) (wpAny_bind (wpAny_pure (wpAny_bind ?_)))
 refine wpAny_nsSet1 (s:={ s with toks:=s.toks+1 }) I.ns fun h' hn2 hs2=>?_
 obtain ⟨oD,esD,epD,hoD,hdD,hcD⟩:=hn2.count (PySem.Within.cons name v hw)
 refine wpAny_bind (wpAny_lookBehind hoD (by rw [hdD];exact pastItsLine_dict (Nat.le_trans hcD (by rw [List.length_cons];omega))) ?_)
 exact wpAny_pure (h _ ⟨(hs2.2 _ (Ne.symm I.ne)).trans I.obj,hn2,I.ne⟩ hs2)
theorem oG (X:K.In s.heap) (hm:PySem.W.makesIn K C=true)
 (hi:PySem.W.findIn K (.ref C) "__init__" = some (some (.ref f))) (hf:PySem.W.typeIn K (.ref f)=some (.type "function"))
 (h:codeAny (model prog w) (A.under (.builtin "type.__call__" ⟨.ref C :: vs,kw⟩)) (.call (.ref f) ⟨.ref (s.heap.objs.size+1) :: vs,kw⟩) (PySem.W.InitBack (s.heap.objs.size+1) R)
  { s with heap:=(s.heap.push PySem.W.emptyDict).push (PySem.W.instObj C s.heap.objs.size) }) :
 codeAny (model prog w) A (.call (.ref C) ⟨vs,kw⟩) R s:=by
 obtain ⟨hh,g,d,t,os⟩:=s
 exact PySem.W.make_core (PySem.W.makes_of X hm) (PySem.W.looks_findIn X hi) (fun self=>PySem.W.bind_fn X self hf) (.inl rfl) h
end
structure Cls (K:Fg) (C:Addr):Prop where
 pg:PySem.W.plainGet K C Str.empty=true
 hd:PySem.W.hasDictIn K C=true
 po:PySem.W.plainOver K C=true
 sa:PySem.W.findIn K (.ref C) "__setattr__" = some (some (.builtin "object.__setattr__"))
theorem Cls.get {K:Fg} {C:Addr} (c:Cls K C) (f:Str):PySem.W.plainGet K C f=true:=c.pg
def cG (K:Fg) (C:Addr) (f:Str):Prop:=PySem.W.findIn K (.ref C) f=some none
theorem cG.taker {K:Fg} {C:Addr} {f:Str} (n:cG K C f):PySem.W.takerIn K C f=some none:=by
 unfold PySem.W.takerIn
 rw [show PySem.W.findIn K (.ref C) f=some none from n]
 rfl
structure vA (K:Fg) (C:Addr) (m:Str) (f:Addr):Prop where
 at_:PySem.W.findIn K (.ref C) m=some (some (.ref f))
 fn:PySem.W.isFn K (.ref f)=true
 kp:PySem.W.keepIn K (.ref f)=true
section
variable {X:Cx} {pins:List (Addr×Obj)} {σ:St} {H:Hp} {s:Shared} {a C dx:Addr} {fs:List (Str×V)} {f:Str} {v:V} {A:Around} {E:Value→Shared→Prop}
theorem pQ (hb:attributeBase e f env (eval e env)=eval e env)
 (h:wpAny (model prog w) A (eval e env) (fun o s₁=>wpAny (model prog w) A (getAttr o f true) Q E s₁) E s):wpAny (model prog w) A (eval (.Attribute e f pos) env) Q E s:=
 Attribute_any_ h (by rw [arm_eval_Attribute,hb])
end
end L2
namespace L2
structure aW (k:Nat) (A:Around):Prop where
 hd:A.handled=none
 dp:A.depth+k+5<recursionLimit
 un:A.units+16 * k+200<cLine
theorem aW.mono (r:aW k A) (h:j≤k):aW j A:=⟨r.hd,by have:=r.dp;omega,by have:=r.un;omega⟩
theorem aW.deeper (r:aW (k+1) A) (env):aW k (A.deeper env):=
 ⟨r.hd,by have:=r.dp;show A.depth+1+k+5<_;omega,by have:=r.un;show A.units+3+16 * k+200<_;omega⟩
theorem jO {A:Around} {C:Addr} {us:List Value} {kw:List (Str×Value)}:(A.under (.builtin "type.__call__" ⟨.ref C :: us,kw⟩)).depth=A.depth+1:=by
 first | rfl | simp [Around.under,Code.weight,Code.isCreation,Code.isGuard,Code.isCaller,Code.frames,Code.isFrame,guardIds]
theorem jP {A:Around} {C:Addr} {us:List Value} {kw:List (Str×Value)}:(A.under (.builtin "type.__call__" ⟨.ref C :: us,kw⟩)).units=A.units+1:=by
 first | rfl | simp [Around.under,Code.cUnits,Code.frames,Code.isFrame]
theorem aW.make (r:aW (k+1) A) (C) (us) (kw):aW k (A.under (.builtin "type.__call__" ⟨.ref C :: us,kw⟩)):=
 ⟨r.hd,by have:=r.dp;rw [jO];omega,by have:=r.un;rw [jP];omega⟩
theorem aW.depth (r:aW k A):A.depth<recursionLimit:=by have:=r.dp;omega
def bI (K:Fg) (fd:FuncData) (ps:List Str) (ds:List Value):Prop:=
 ∀ (s:Shared) (us:List Value),K.In s.heap→(us ++ ds).length=ps.length→BindsTo s fd ⟨us,[]⟩ (ps.zip (us ++ ds))
theorem bI.all {K:Fg} {fd:FuncData} {ps:List Str} (h:∀ us:List Value,us.length=ps.length→bindArgs fd ⟨us,[]⟩=pure (ps.zip us)):bI K fd ps []:=fun s us _ hl=>by
 rw [List.append_nil] at hl ⊢
 exact .of_eq (h us hl)
section
variable {X:Cx} {CX:CXT} {k:Nat} {f C:Addr} {fd:FuncData} {ps:List Str} {sp:Sp} {dvs:List V} {ds:List Value} {E:XK} {x m:Str} {p pos apos:Pos} {e o:Expr} {es:List Expr} {ta:TE} {t:TA}
structure Mk (K:Fg) (C f:Addr):Prop where
 makes:PySem.W.makesIn K C=true
 init:PySem.W.findIn K (.ref C) "__init__" = some (some (.ref f))
 fn:PySem.W.isFn K (.ref f)=true
 kp:PySem.W.keepIn K (.ref C)=true
end
structure dw (N P:List Str) (sc:Scope):Prop where
 kind:sc.kind = .function
 co:sc.isCoroutine=false
 gen:sc.isGenerator=false
 nd:N.Nodup
 pre:N.take P.length=P
 par:∀ x∈P,sc.names.lookup x=some .local∨sc.names.lookup x=some .cell
 nofree:∀ y∈sc.names,y.2≠.free
theorem fX {kindOf:Str→Option NameKind} {x:Str}:∀ {binds:List (Str×Value)} {m:Str→Option Value},(∀ v,(x,v) ∉ binds)→bindL kindOf binds m x=m x
 | [],_,_=>rfl
 | (n,v) :: r,m,h=>by
   unfold bindL
   rw [fX fun w hw=>h w (List.mem_cons_of_mem _ hw)]
   split
   ·have:x≠n:=by rintro rfl;exact h v List.mem_cons_self
    simp [this]
   ·rfl
theorem fV {kindOf:Str→Option NameKind} {x:Str}:∀ {binds:List (Str×Value)} {m:Str→Option Value},(∀ v,(x,v) ∉ binds)→bindC kindOf binds m x=m x
 | [],_,_=>rfl
 | (n,v) :: r,m,h=>by
   unfold bindC
   rw [fV fun w hw=>h w (List.mem_cons_of_mem _ hw)]
   split
   ·rfl
   ·have:x≠n:=by rintro rfl;exact h v List.mem_cons_self
    simp [this]
theorem fW {kindOf:Str→Option NameKind} {x:Str} {v:Value}:∀ {P:List Str} {vs:List Value} {i:Nat} {m:Str→Option Value},P.Nodup→P[i]? = some x→vs[i]? = some v→kindOf x=some .local →
 bindL kindOf (P.zip vs) m x=some v
 | [],_,_,_,_,h,_,_=>by simp at h
 | _ :: _,[],_,_,_,_,h,_=>by simp at h
 | p :: P,w :: vs,0,m,nd,h1,h2,hk=>by
   simp at h1 h2;subst h1;subst h2
   show bindL kindOf ((p,w) :: P.zip vs) m p=_
   unfold bindL
   rw [fX fun v hv=>(List.nodup_cons.mp nd).1 (List.of_mem_zip hv).1,if_pos hk]
   simp
 | p :: P,w :: vs,i+1,m,nd,h1,h2,hk=>by
   show bindL kindOf ((p,w) :: P.zip vs) m x=_
   unfold bindL
   exact fW (i:=i) (List.nodup_cons.mp nd).2 (by simpa using h1) (by simpa using h2) hk
theorem fU {kindOf:Str→Option NameKind} {x:Str} {v:Value}:∀ {P:List Str} {vs:List Value} {i:Nat} {m:Str→Option Value},P.Nodup→P[i]? = some x→vs[i]? = some v→kindOf x≠some .local →
 bindC kindOf (P.zip vs) m x=some v
 | [],_,_,_,_,h,_,_=>by simp at h
 | _ :: _,[],_,_,_,_,h,_=>by simp at h
 | p :: P,w :: vs,0,m,nd,h1,h2,hk=>by
   simp at h1 h2;subst h1;subst h2
   show bindC kindOf ((p,w) :: P.zip vs) m p=_
   unfold bindC
   rw [fV fun v hv=>(List.nodup_cons.mp nd).1 (List.of_mem_zip hv).1,if_neg hk]
   simp
 | p :: P,w :: vs,i+1,m,nd,h1,h2,hk=>by
   show bindC kindOf ((p,w) :: P.zip vs) m x=_
   unfold bindC
   exact fU (i:=i) (List.nodup_cons.mp nd).2 (by simpa using h1) (by simpa using h2) hk
theorem iF {sc:Scope} {n:Nat} {x:Str} (h:sc.names.lookup x=some .cell):∃ c,(cellsFrom n sc.names []).lookup x=some c:=by
 have q:=PySem.W.cellsFrom_some sc.names n [] (.inl h)
 exact Option.isSome_iff_exists.mp q
end L2
namespace HT
open PySem PyProof.Rows
section
variable {prog:Program} {w:World} {A:Around} {E:Value→Shared→Prop} {s:Shared}
theorem cat_tup (ht:IsTup s.heap t vs.toArray) (hb:IsTup s.heap b ws.toArray) (hv:vs≠[])
 (h1:ws = []→Q (.ref t) s) (h2:ws≠[]→Q (.ref s.heap.objs.size) { s with heap:=s.heap.push { cls:=.type "tuple",data:=.seq (vs ++ ws).toArray } })
 (hsz:vs.length+ws.length≤sizeLine):wpAny (model prog w) A (binaryOp .Add (.ref t) (.ref b)) Q E s:=by
 obtain ⟨⟨cls,dd,data,sl⟩,ho,hc,n,hd⟩:=id ht
 obtain ⟨⟨cls2,dd2,data2,sl2⟩,ho2,hc2,n2,hd2⟩:=id hb
 simp only at hc hd hc2 hd2
 subst hc hd hc2 hd2
 have e:vs.toArray ++ ws.toArray=(vs ++ ws).toArray:=by simp
 by_cases hw:ws = []
 ·exact concat_meets ⟨_,ho,rfl⟩ ⟨_,ho2,rfl⟩ noFill_tuple_add seq_tuple_add PySem.F.slot_tuple_add PySem.F.entry_tuple_add (PySem.F.args_tuple_add_2 _ _)
   (tuple_addW1 t b vs.toArray ws.toArray n n2 dd dd2 sl sl2 (by simpa using hv) (by simp [hw])) ⟨ho,ho2,h1 hw⟩
 ·refine concat_meets ⟨_,ho,rfl⟩ ⟨_,ho2,rfl⟩ noFill_tuple_add seq_tuple_add PySem.F.slot_tuple_add PySem.F.entry_tuple_add (PySem.F.args_tuple_add_2 _ _)
   (tuple_addW2 t b vs.toArray ws.toArray n n2 dd dd2 sl sl2 (by simpa using hv) (by simpa using hw) (by rw [List.size_toArray,List.size_toArray];exact hsz)) ⟨ho,ho2,?_⟩
  rw [e]
  exact h2 hw
def sIx (n d:Nat):Option Int→Nat
 | none=>d
 | some v=>if v<0 then (v+(n:Int)).toNat else min v.toNat n
theorem vh (n d) (hd:d≤n) (o):sIx n d o≤n:=by
 cases o with
 | none=>exact hd
 | some v=>
   show (if v<0 then (v+(n:Int)).toNat else min v.toNat n)≤n
   by_cases hv:v<0
   ·rw [if_pos hv];omega
   ·rw [if_neg hv];exact Nat.min_le_right _ _
theorem ke (v:Int) (n d:Nat):(if v<0 then max (v+(n:Int)) 0 else min v (n:Int))=((sIx n d (some v):Nat):Int):=by
 show (if v<0 then max (v+(n:Int)) 0 else min v (n:Int))=(((if v<0 then (v+(n:Int)).toNat else min v.toNat n):Nat):Int)
 by_cases hv:v<0
 ·simp only [if_pos hv];omega
 ·simp only [if_neg hv];omega
theorem jv (lo hi:Option Int) (n:Nat):Builtin.Slice.sliceAdjust lo hi 1 (n:Int)=(((sIx n 0 lo:Nat):Int),((sIx n n hi:Nat):Int)):=by
 have h1:¬ ((1:Int)<0):=by omega
 unfold Builtin.Slice.sliceAdjust
 simp only [h1,if_false]
 refine Prod.ext ?_ ?_
 ·cases lo with
  | none=>rfl
  | some v=>exact ke v n 0
 ·cases hi with
  | none=>rfl
  | some v=>exact ke v n n
theorem jW (i j:Nat):Builtin.Slice.slicePlaces (i:Int) (j:Int) 1=j - i:=by
 unfold Builtin.Slice.slicePlaces
 have h1:(1:Int)>0:=by omega
 simp only [h1,if_true,Int.ediv_one]
 split <;> omega
theorem fz (p:IsPart v o) (h:Q o s):wpAny (model prog w) A (Builtin.Slice.slicePartIndex v) Q E s:=by
 cases p with
 | none=>exact slicePart_none h
 | int i t=>exact slicePart_int h
theorem b9 {sl:Addr} {vl vu:Value} {lo hi:Option Int} {n:Nat} {Q:Int×Int×Nat→Shared→Prop} (hs:s.heap.IsSliceOf sl vl vu .none) (pl:IsPart vl lo) (pu:IsPart vu hi)
 (h:Q (((sIx n 0 lo:Nat):Int),1,sIx n n hi - sIx n 0 lo) s):wpAny (model prog w) A (Builtin.Slice.sliceApplied (.ref sl) (pure (n:Int))) Q E s:=by
 obtain ⟨os,hos,hcs,hds⟩:=id hs
 unfold Builtin.Slice.sliceApplied Builtin.Slice.sliceFields
 refine wpAny_bind (wpAny_bind (wpAny_field hos hds (x:=vl) rfl (wpAny_bind (wpAny_field hos hds (x:=vu) rfl (wpAny_bind (wpAny_field hos hds (x:=.none) rfl (wpAny_pure ?_)))))))
 refine wpAny_bind (slicePart_none ?_)
 show wpAny _ _ (if ((1:Int) == 0)=true then _ else _) _ _ s
 rw [if_neg (by decide)]
 refine wpAny_bind (fz pl (wpAny_bind (fz pu (wpAny_bind (wpAny_pure ?_)))))
 show wpAny _ _ (match Builtin.Slice.sliceAdjust lo hi 1 (n:Int) with | (lo,hi)=>pure (lo,(1:Int),Builtin.Slice.slicePlaces lo hi 1)) _ _ s
 rw [jv lo hi n]
 show wpAny _ _ (pure (((sIx n 0 lo:Nat):Int),(1:Int),Builtin.Slice.slicePlaces ((sIx n 0 lo:Nat):Int) ((sIx n n hi:Nat):Int) 1)) _ _ s
 rw [jW]
 exact wpAny_pure h
theorem oV (xs:Array Value) (i k:Nat):((List.range k).filterMap fun (m:Nat)=>xs[((i:Int)+(m:Int) * 1).toNat]?).toArray=((xs.toList.drop i).take k).toArray:=by
 have e:(fun (m:Nat)=>xs[((i:Int)+(m:Int) * 1).toNat]?)=fun m=>xs[i+m]?:=by
  funext m
  have:((i:Int)+(m:Int) * 1).toNat=i+m:=by omega
  rw [this]
 rw [e]
 have:=pick_run xs i k
 rw [List.filterMap_map] at this
 have e2:((fun x=>xs[x]?) ∘ fun x=>i+x)=fun m=>xs[i+m]?:=rfl
 rw [e2] at this
 rw [this]
theorem getItem_tuple_cut {t sl:Addr} {items:Array Value} {vl vu:Value} {lo hi:Option Int} {Q:Value→Shared→Prop} (ht:IsTup s.heap t items) (hs:s.heap.IsSliceOf sl vl vu .none) (pl:IsPart vl lo) (pu:IsPart vu hi)
 (hw:¬ (sIx items.size 0 lo=0∧sIx items.size items.size hi=items.size))
 (h:Q (.ref s.heap.objs.size) { s with heap:=s.heap.push { cls:=.type "tuple",data:=.seq ((items.toList.drop (sIx items.size 0 lo)).take (sIx items.size items.size hi - sIx items.size 0 lo)).toArray } })
 (hsz:items.size≤sizeLine):wpAny (model prog w) A (getItem (.ref t) (.ref sl)) Q E s:=by
 have htake:sizeOk (.seq ((items.toList.drop (sIx items.size 0 lo)).take (sIx items.size items.size hi - sIx items.size 0 lo)).toArray):=by
  show ((items.toList.drop (sIx items.size 0 lo)).take (sIx items.size items.size hi - sIx items.size 0 lo)).toArray.size≤sizeLine
  rw [List.size_toArray,List.length_take,List.length_drop,Array.length_toList]
  omega
 have hj:sIx items.size items.size hi≤items.size:=vh _ _ (Nat.le_refl _) hi
 obtain ⟨os,hos,hcs,hds⟩:=id hs
 have hTs:s.TypeIs (.ref sl) "slice":=⟨os,hos,hcs⟩
 unfold getItem
 try with_reducible refine wpAny_holding ?_
 first | refine wpAny_bind (wpAny_pure ?_) | skip
 refine wpAny_bind (wpAny_sequenceKey ht.typeIs (by decide) ?_)
 refine wpAny_bind (wpAny_callSpecial?_slot (name:=Str.ofString "__getitem__") ht.typeIs PyProof.Rows.slot_tuple_getitem
  (wpAny_call_entry PyProof.Rows.slot_tuple_getitem ht.typeIs entry_tuple_getitem ?_ (args_tuple_getitem _ _)))
 show wpAny _ _ (Builtin.Tuple.tupleItemsOf (.ref t) >>= _) _ _ s
 refine wpAny_bind (tupleItemsOf_ ht ?_)
 refine wpAny_bind (wpAny_typeOf hTs ?_)
 rw [if_pos (by decide)]
 refine wpAny_bind (b9 hs pl pu ?_)
 have hno:¬ ((((sIx items.size 0 lo:Nat):Int) == 0 && (1:Int) == 1 && (sIx items.size items.size hi - sIx items.size 0 lo) == items.size)=true):=by
  intro q
  rw [Bool.and_eq_true,Bool.and_eq_true] at q
  have q1:((sIx items.size 0 lo:Nat):Int)=0:=eq_of_beq q.1.1
  have q2:sIx items.size items.size hi - sIx items.size 0 lo=items.size:=eq_of_beq q.2
  exact hw ⟨by omega,by omega⟩
 show wpAny _ _ (if (((sIx items.size 0 lo:Nat):Int) == 0 && (1:Int) == 1 && (sIx items.size items.size hi - sIx items.size 0 lo) == items.size)=true then _ else _) _ _ s
 rw [if_neg hno,oV]
 first
  | exact wpAny_bind (m:=Builtin.Tuple.tupleExact _) (wpAny_newObj_type (wpAny_pure ⟨_,rfl,wpAny_pure h⟩) htake)
  | exact wpAny_bind (m:=Builtin.Tuple.tupleExact _) (wpAny_newObj_type (wpAny_bind (wpAny_pure (wpAny_pure ⟨_,rfl,wpAny_pure h⟩))) htake)
  | exact wpAny_bind (wpAny_bind (m:=Builtin.Tuple.tupleExact _) (wpAny_newObj_type (wpAny_pure (wpAny_pure ⟨_,rfl,wpAny_pure h⟩)) htake))
  | exact wpAny_bind (wpAny_bind (m:=Builtin.Tuple.tupleExact _) (wpAny_newObj_type (wpAny_pure ⟨_,rfl,wpAny_pure h⟩) htake))
end
end HT
namespace L2
def ixN (n:Nat) (i:Int):Option Nat:=if 0≤i then (if i<n then some i.toNat else none) else if -(n:Int)≤i then some (i+n).toNat else none
def atI {α:Type} (xs:List α) (i:Int):Option α:=(ixN xs.length i).bind fun j=>xs[j]?
theorem kC (h:ixN n i=some j):seqIndex? i n=some j∧j<n∧-(n:Int)≤i∧i<n:=by
 unfold ixN at h
 by_cases h0:0≤i
 ·rw [if_pos h0] at h
  by_cases h1:i<n
  ·rw [if_pos h1] at h
   have e:i.toNat=j:=Option.some.inj h
   exact ⟨by rw [seqIndex_of h0 h1,e],by omega,by omega,h1⟩
  ·rw [if_neg h1] at h;cases h
 ·rw [if_neg h0] at h
  by_cases h1:-(n:Int)≤i
  ·rw [if_pos h1] at h
   have e:(i+n).toNat=j:=Option.some.inj h
   exact ⟨by rw [seqIndex_neg (by omega) h1,e],by omega,h1,by omega⟩
  ·rw [if_neg h1] at h;cases h
theorem gN (h:atI xs i=some v):∃ j,seqIndex? i xs.length=some j∧xs[j]? = some v∧j<xs.length∧-(xs.length:Int)≤i∧i<xs.length:=by
 unfold atI at h
 cases e:ixN xs.length i with
 | none=>rw [e] at h;cases h
 | some j=>
   rw [e] at h
   obtain ⟨h1,h2,h3,h4⟩:=kC e
   exact ⟨j,h1,h,h2,h3,h4⟩
theorem cS {α:Type} {xs:List α} {j:Nat} {v:α} (h:xs[j]? = some v):atI xs (j:Int)=some v:=by
 have hj:j<xs.length:=(List.getElem?_eq_some_iff.mp h).1
 have e:ixN xs.length (j:Int)=some j:=by
  unfold ixN
  rw [if_pos (by omega),if_pos (by omega)];simp
 unfold atI;rw [e];exact h
section
variable {X:Cx} {a b:Expr} {ta tb:TE} {pos:Pos}
theorem ir (lo hi) (n):(sliceBounds lo hi none n).1=((HT.sIx n 0 lo:Nat):Int)∧(sliceBounds lo hi none n).2.1=((HT.sIx n n hi:Nat):Int)∧(sliceBounds lo hi none n).2.2=1:=by
 refine ⟨?_,?_,rfl⟩
 ·cases lo with
  | none=>simp [sliceBounds,HT.sIx]
  | some i=>
    simp only [sliceBounds,HT.sIx,Option.getD_none,show (1:Int)>0 by decide,if_true]
    by_cases h:i<0
    ·simp only [h,if_true] <;> omega
    ·simp only [h,if_false] <;> omega
 ·cases hi with
  | none=>simp [sliceBounds,HT.sIx]
  | some i=>
    simp only [sliceBounds,HT.sIx,Option.getD_none,show (1:Int)>0 by decide,if_true]
    by_cases h:i<0
    ·simp only [h,if_true] <;> omega
    ·simp only [h,if_false] <;> omega
theorem fR (its:List Value) (lo hi:Option Int):slicePick its.toArray lo hi none=((its.drop (HT.sIx its.length 0 lo)).take (HT.sIx its.length its.length hi - HT.sIx its.length 0 lo)).toArray:=by
 obtain ⟨h1,h2,h3⟩:=ir lo hi its.toArray.size
 unfold slicePick
 rw [h1,h2,h3]
 simp only [sliceRange_one,pick_run,List.size_toArray] <;> rfl
variable {o e:Expr} {es:List Expr} {to:TE} {t:TA} {name:Str} {apos cpos:Pos} {T id:String} {r:V→List V→Hp→VK→Prop}
end
end L2
namespace Att
open PySem PySem.W PySem.Calls PyProof.Rows
theorem d6 :∀ (ns) (vs),WellAll P h vs (ns.map WData.int)→IntsAre vs ns:=by
 intro ns
 induction ns with
 | nil=>
   intro vs w
   rw [List.map_nil] at w
   cases w
   exact .nil
 | cons n ns ih=>
   intro vs w
   rw [List.map_cons] at w
   cases w with
   | cons a b=>
     cases a
     exact .cons _ _ (ih _ b)
theorem l9 {l:OpenLaw} {n:Nat} (hn:l.most=some n) {P:Params} {h:Heap} {args:List WData} {vals:List Value}
 (hpre:l.row.toRowW.claim.pre args=true) (hwl:WellAll P h vals args) :
 ∃ a vs ns,vals = [Value.ref a]∧args = [WData.list (ns.map WData.int)]∧h.get? a=some { cls:=.type "list",data:=.seq vs.toArray }∧IntsAre vs ns∧ns.length≤n:=by
 have hsh:WShape.hasAll [] args [.list .int]=true:=(pre_splitW hpre).1
 have hc:l.pre.holds [] { args:=args }=true:=(pre_splitW hpre).2
 obtain ⟨d,r,rfl,h1,h2⟩:=hasAllW_cons hsh
 obtain rfl:=hasAllW_nil h2
 obtain ⟨xs,rfl,h3⟩:=hasW_list h1
 obtain ⟨ns,rfl⟩:=items_int h3
 have hlen:ns.length≤n:=by
  unfold OpenLaw.pre at hc
  have h4:(WTm.not (.lt (.lit (.int (n:Int))) (.len (.arg 0)))).holds [] { args:=[.list (ns.map .int)] }=true:=by
   have h4:=(holds_andW hc).1
   rw [hn] at h4
   exact h4
  have h5:=condW_of h4 (w_not (w_lt w_lit (w_len_list (w_arg rfl))))
  rw [List.length_map] at h5
  refine Nat.le_of_not_lt fun q=>?_
  have q':(n:Int)<((ns.length:Nat):Int):=by omega
  first
   | (rw [decide_eq_true q'] at h5;exact absurd h5 (by decide))
   | (simp at h5;omega)
 cases hwl with
 | cons w1 w2=>
   cases w2
   cases w1 with
   | list ho hall=>exact ⟨_,_,ns,rfl,rfl,ho,d6 ns _ hall,hlen⟩
theorem lX (l:OpenLaw) (args:List WData):l.row.toRowW.claim.post args (.bool true) args=true:=
 postW_of (r:=l.row.toRowW) (X:=(true == true))
  (show WShape.has [] (.bool true) .bool=true by first | rfl | decide | simp [WShape.has,WShape.arms,WShape.armsAll])
  (show (WTm.eq .res (.lit (.bool true))).value [] { args:=args,res:=some (.bool true),after:=args }=some (.bool (true == true)) from w_eq_bool (w_res rfl) w_lit) rfl
theorem attach_call {l:OpenLaw} {n:Nat} {q:Program} {loose:List Str} {XP:(Str→Option Value)→Heap→Prop} {YP:World→Heap→Prop} {d:DefRec}
 (hn:l.most=some n) (hdf:d.params.defaults = [])
 (call:∀ (w:World) (s₀ s₁:Shared) (mg mb:Str→Option Value) (fa:Addr) (o:Obj) (pm cd doc:Value) (a:Addr) (vs:List Value) (ns:List Int),
  Ground q loose [] XP w s₀ mg mb s₁.heap→YP w s₁.heap →
  s₁.heap.get? fa=some o→o.data = .func (docDef d.name d.params d.body d.scope pm cd doc)→s₁.heap.CodeRec cd d.name→mg d.name=some (.ref fa) →
  s₁.heap.get? a=some { cls:=.type "list",data:=.seq vs.toArray }→IntsAre vs ns→ns.length≤n→s₁.gens = #[] →
  codeAny (model l.prog w) callerA (.call (.ref fa) ⟨[.ref a],[]⟩) (fun r s'=>r = .ok (.ret (.bool true))∧OldK s₁.heap s'.heap∧s'.os=s₁.os∧AllBare s'.gens) s₁) :
 WalkO q loose XP YP l.row.toRowW d [] (fun f vs=>PySem.call f vs):=by
 intro w s₀ s₁ mg mb G Y fa o pm cd doc dV kV ho hd hcd hD hmg hg args vals as hpre hlay hrd hwl hlo
 obtain rfl:dV = .none:=Dflts.none hD hdf
 obtain rfl:kV = .none:=Dflts.noKw hD
 obtain ⟨a,vs,ns,rfl,rfl,hobj,hints,hlen⟩:=l9 hn hpre hwl
 refine enter_call (codeAny_mono (call w s₀ s₁ mg mb fa o pm cd doc a vs ns G Y ho (fd_plain hd) hcd hmg hobj hints hlen hg) fun r s' hq=>?_)
 obtain ⟨rfl,h2,h3,h4⟩:=hq
 exact ⟨.inl ⟨.bool true,.bool true,[],rfl,fun _=>rfl,.bool true,lX l _,fun _=>⟨List.Pairwise.nil,fun _ hm=>(nomatch hm)⟩⟩,h2,h3,h4⟩
end Att
namespace L2
def aA (s:Stmt):Arguments:=match s with
 | .FunctionDef _ a _ _ _ _ _ _ _ _=>a
 | _=>{ posonlyargs:=[],args:=[],vararg:=none,kwonlyargs:=[],kw_defaults:=[],kwarg:=none,defaults:=[] }
def bG (s:Stmt):List Stmt:=match s with
 | .FunctionDef _ _ b _ _ _ _ _ _ _=>b
 | _=>[]
def ao (s:Stmt):Scope:=match s with
 | .FunctionDef _ _ _ _ _ _ sc _ _ _=>sc
 | _=>{ kind:=.function,names:=[],isGenerator:=false,isCoroutine:=false }
structure Fun (K:Fg) (x qual:Str) (st:Stmt) (f:Addr) (fd:FuncData):Prop where
 ex:∃ (oc:Value) (od:Option Addr) (kV doc pm:Value) (an:Option Addr) (cdv ct:Value) (osl:Array (Option Value)),
  fd=PySem.W.fnOf x qual (aA st) (bG st) (ao st) .none kV doc pm an cdv ct∧K.lookup f=some ⟨oc,od,.func fd,osl⟩∧PySem.W.codeIn K cdv qual=true
 kp:PySem.W.keepIn K (.ref f)=true
section
variable {P:Program} {w:World} {K:Fg} {mg:Str→Option Value} {base:Heap}
theorem Fun.binds {x qual:Str} {st:Stmt} {f:Addr} {fd:FuncData} {ps:List Str} (F:Fun K x qual st f fd)
 (h:∀ (kV doc pm:Value) (an:Option Addr) (cdv ct:Value) (us:List Value),us.length=ps.length→bindArgs (PySem.W.fnOf x qual (aA st) (bG st) (ao st) .none kV doc pm an cdv ct) ⟨us,[]⟩=pure (ps.zip us)):bI K fd ps []:=by
 obtain ⟨oc,od,kV,doc,pm,an,cdv,ct,osl,rfl,lk,hcd⟩:=F.ex
 exact .all (h kV doc pm an cdv ct)
theorem jD {x qual:Str} {st:Stmt} {f:Addr} {oc:Value} {od an:Option Addr} {osl:Array (Option Value)} {kV doc pm cdv ct:Value} (l:K.lookup f=some ⟨oc,od,.func (PySem.W.fnOf x qual (aA st) (bG st) (ao st) .none kV doc pm an cdv ct),osl⟩)
 (c:PySem.W.codeIn K cdv qual=true) (k:PySem.W.keepIn K (.ref f)=true):Fun K x qual st f (PySem.W.fnOf x qual (aA st) (bG st) (ao st) .none kV doc pm an cdv ct):=⟨⟨oc,od,kV,doc,pm,an,cdv,ct,osl,rfl,l,c⟩,k⟩
end
end L2
section
namespace L2.Bk
open PySem
inductive Dk where
 | non
 | int (i:Int)
 | bl (b:Bool)
 | str (x:Str)
 | tup (xs:List Dk)
def sumI:List Int→Int
 | []=>0
 | x :: r=>x+sumI r
end L2.Bk
namespace L2.Bw
def maxD (d:Int):List Int→Int
 | []=>d
 | x :: r=>r.foldl (fun a b=>if b>a then b else a) x
end L2.Bw
namespace L2.Ev
inductive D where
 | non | bl (b:Bool) | int (i:Int) | str (x:Str) | tup (l:List D) | lst (l:List D) | dic (k:List Key) (l:List D) | ins (c:Nat) (l:List D) | ref (n:Nat)
inductive O where
 | lst (l:List D) | dic (k:List Key) (l:List D) | ins (c:Nat) (l:List D)
inductive Op where
 | add | sub | mul | fdiv | mod | pow | shl | shr | band | bxor | eq | ne | lt | le | gt | ge | isin | notin | eq2
 deriving DecidableEq
inductive Bi where
 | len | tuple | list | all | max0 | sum | abs | str | int | range1 | range2 | zip2 | zip3 | enum | enum2 | rev | dict | max2 | min2 | isTup | isStr | isInt | isBool | isLst | isDic | isVal | setl
 deriving DecidableEq
inductive SM where
 | rep (y z:Str) | spl (y:Str) | dig | sta (y:Str) | mulc (y:Str)
inductive E where
 | sm (k:SM) (a:E) | pop (a:E) | isXv (a:E) | snap (i:Nat) (a:E)
 | v (i:Nat) | c (d:D) | g (j:Nat) | op (o:Op) (a b:E) | isN (a:E) | isNN (a:E) | neg (a:E) | not (a:E) | and (a b:E) | or (a b:E) | ite (c a b:E)
 | chain (o p:Op) (a b c:E)
 | ix (a b:E) | sl (a lo hi:E) | fld (a:E) (f:Nat) | tup (es:E) | lst (es:E) | dic (es:E) | nil | cons (a es:E)
 | call (j:Nat) (es:E) | hcall (j:Nat) (es:E) | mth (c j:Nat) (a es:E) | new (j:Nat) (es:E) | bi (b:Bi) (es:E) | join (x:Str) (a:E) | get (a b c:E) | index (a b:E) | isX (a:E) (js:List Nat)
 | lc (t:List Nat) (one:Bool) (it elt cond:E)
 | tab (j:Nat) (e:E) | tabin (j:Nat) (e:E)
 | newl (es:E) | keep (kp:List Nat) (a:E) | sto (a:E) | fcall (own:Bool) (j:Nat) (es:E)
 | sl3 (a lo st:E) | tget (j:Nat) (e d:E) | newd (j:Nat) (es:E) | fmt (x:Str) (a:E) (y:Str) | dicc (ks:List Str) (es:E)
 | tand (a b:E) | tor (a b:E) | tnot (a:E) | tv (a:E) | it (b:Bi) (es:E) | itv (a:E)
inductive S where
 | skip | seq (a b:S) | set (i:Nat) (e:E) | setT (l:List Nat) (e:E) | setR (i:Nat) (es:E) | ret (e:E) | ifs (c:E) (a b:S) | drop (e:E)
 | app (i:Nat) (e:E) | ext (i:Nat) (e:E) | put (a b e:E) | fld (a:E) (f:Nat) (e:E) | aug (a:E) (f:Nat) (o:Op) (e:E) | fapp (a:E) (f:Nat) (e:E) | fext (a e:E)
 | for_ (t:List Nat) (one:Bool) (it:E) (b:S) | whl (c:E) (b:S) | rais (j:Nat) (es:E) | try_ (a:S) (hs:S) | hand (j:Nat) (i:Option Nat) (b rest:S)
def fl:D→Bool
 | .non=>true | .bl _=>true | .int _=>true | .str _=>true | _=>false
def eqf:D→D→Bool
 | .non,.non=>true
 | .bl a,.bl b=>a == b
 | .bl a,.int b=>(if a then 1 else 0) == b
 | .int a,.int b=>a == b
 | .int a,.bl b=>a == (if b then 1 else 0)
 | .str a,.str b=>a == b
 | _,_=>false
def sh:D→Nat
 | .non=>0 | .bl _=>0 | .int _=>0 | .str _=>0 | .tup _=>1 | .lst _=>2 | _=>3
def eq0 (d e:D):Option Bool:=
 if sh d=3∨sh e=3 then none else if sh d=0∧sh e=0 then some (eqf d e) else if sh d=sh e then none else some false
def eN (f:D→D→Option Bool):List D→List D→Option Bool
 | d :: a,e :: b=>(match f d e with | none=>none | some x=>(eN f a b).map (x && ·))
 | _,_=>some true
def eqv:Nat→D→D→Option Bool
 | 0,d,e=>eq0 d e
 | n+1,.tup a,.tup b=>(eN (eqv n) a b).map (· && a.length == b.length)
 | n+1,.lst a,.lst b=>if a.length=b.length then eN (eqv n) a b else some false
 | _+1,d,e=>eq0 d e
end L2.Ev
namespace L2.Ev
structure Fn where
 np:Nat
 ns:Nat
 body:S
 df:List D
structure Cl where
 what:Nat
 at_:List Nat
 init:Nat
 me:List (Nat×Nat)
 sup:List Nat
 chk:List Nat:=[]
def toD:L2.Bk.Dk→D
 | .non=>.non
 | .int i=>.int i
 | .bl b=>.bl b
 | .str x=>.str x
 | .tup l=>.tup (toDs l)
where toDs:List L2.Bk.Dk→List D
 | []=>[]
 | d :: r=>toD d :: toDs r
structure Gm where
 gl:List L2.Bk.Dk
 tb:List (List (Str×L2.Bk.Dk))
 fn:List Fn
 cl:List Cl
structure Sta where
 env:List (Option D)
 ow:List Nat
 st:List O
inductive Out (α:Type) where
 | ok (a:α) (s:Sta) | exc (c:Nat) (l:List D) (s:Sta) | bad
inductive Res where
 | ok (d:D) (st:List O) | exc (c:Nat) (l:List D) (st:List O) | bad
inductive ah where
 | nx (s:Sta) | rt (d:D) (s:Sta) | exc (c:Nat) (l:List D) (s:Sta) | bad
def Out.bind {α β:Type} (x:Out α) (f:α→Sta→Out β):Out β:=match x with
 | .ok a s=>f a s
 | .exc c l s=>.exc c l s
 | .bad=>.bad
def Out.of {α:Type} (s:Sta):Option α→Out α
 | some a=>.ok a s
 | none=>.bad
def Out.go {α:Type} (x:Out α) (f:α→Sta→ah):ah:=match x with
 | .ok a s=>f a s
 | .exc c l s=>.exc c l s
 | .bad=>.bad
def ah.go (x:ah) (f:Sta→ah):ah:=match x with
 | .nx s=>f s
 | y=>y
def iS:D→Bool
 | .non=>true | _=>false
def un (s:Sta) (i:Nat):Sta:=⟨s.env,s.ow.filter (· != i),s.st⟩
def look (st:List O):D→D
 | .ref n=>(match st[n]? with | some (.lst l)=>.lst l | some (.dic k l)=>.dic k l | _=>.ref n)
 | d=>d
def bF:D→Option Key
 | .int i=>some (.inl i)
 | .str x=>some (.inr x)
 | _=>none
def cY:List Key→List D→Key→Option D
 | k :: ks,d :: ds,x=>if k=x then some d else cY ks ds x
 | _,_,_=>none
def i6:List Key→List D→Key→D→List D
 | k :: ks,d :: ds,x,e=>(if k=x then e else d) :: i6 ks ds x e
 | _,ds,_,_=>ds
def cF (ks:List Key) (ds:List D) (x:Key) (e:D):List Key×List D:=if ks.any (fun k=>decide (k=x))=true then (ks,i6 ks ds x e) else (ks ++ [x],ds ++ [e])
def inD (d:D):List D→Option Bool
 | []=>some false
 | e :: r=>match eqv 55 e d with | none=>none | some b=>(inD d r).map (b || ·)
def d5 (n:Nat) (d:D):Option D:=if n≤100000 then some d else none
def opI (o:Op) (i j:Int):Option D:=match o with
 | .add=>some (.int (i+j))
 | .sub=>some (.int (i - j))
 | .mul=>if ((-(2 ^ 64)<i∧i<2 ^ 64)∨(-(2 ^ 64)<j∧j<2 ^ 64))∨(i.natAbs<2 ^ 400∧j.natAbs<2 ^ 400) then some (.int (i * j)) else none
 | .fdiv=>if 0<j∧j<2 ^ 200 then some (.int (i / j)) else none
 | .mod=>if 0<j then some (.int (i % j)) else none
 | .pow=>if 0≤j∧j≤1000000∧i.natAbs<2 ^ 64 then some (.int (i ^ j.toNat)) else none
 | .shl=>if 0≤j∧j≤1000000∧i.natAbs<2 ^ 64 then some (.int (i * 2 ^ j.toNat)) else none
 | .shr=>if 0≤j then some (.int (i / 2 ^ j.toNat)) else none
 | .band=>some (.int (Builtin.bitAnd i j))
 | .bxor=>some (.int (Builtin.bitXor i j))
 | .lt=>some (.bl (decide (i<j)))
 | .le=>some (.bl (decide (i≤j)))
 | .gt=>some (.bl (decide (j<i)))
 | .ge=>some (.bl (decide (j≤i)))
 | _=>none
def nh (ls:List Key) (es:List D):List Key→List D→Option Bool
 | k :: ks,d :: ds=>(match cY ls es k with | none=>some false | some e=>(match eqv 55 d e with | none=>none | some x=>(nh ls es ks ds).map (x && ·)))
 | _,_=>some true
def eqT (a b:D):Option Bool:=match a,b with
 | .dic ks ds,.dic ls es=>if ks.length=ls.length then nh ls es ks ds else some false
 | a,b=>eqv 55 a b
def wa:List D→List D→Bool
 | [],[]=>true
 | d :: l,e :: m=>eqT d e == some true && wa l m
 | _,_=>false
def yo (a b:D):Option D:=match a,b with
 | .tup l,.tup m=>if wa l m then some (.bl true) else none
 | _,_=>none
def opD (o:Op) (a b:D):Option D:=match o with
 | .eq2=>yo a b
 | .eq=>(eqT a b).map .bl
 | .ne=>(eqT a b).map fun x=>.bl (!x)
 | .isin=>(match b with | .str y=>(match a with | .str x=>some (.bl (Txt.contains y x)) | _=>none) | .lst l=>(inD a l).map .bl | .tup l=>(inD a l).map .bl | .dic ks ds=>(bF a).map fun k=>.bl (cY ks ds k).isSome | _=>none)
 | .notin=>(match b with | .str y=>(match a with | .str x=>some (.bl (!Txt.contains y x)) | _=>none) | .lst l=>(inD a l).map fun x=>.bl (!x) | .tup l=>(inD a l).map fun x=>.bl (!x) | .dic ks ds=>(bF a).map fun k=>.bl (!(cY ks ds k).isSome) | _=>none)
 | _=>match a,b with
   | .int i,.int j=>opI o i j
   | .str x,.str y=>if o = .add then d5 (x.length+y.length) (.str (x ++ y)) else none
   | .tup x,.tup y=>if o = .add then d5 (x.length+y.length) (.tup (x ++ y)) else none
   | .lst x,.lst y=>if o = .add then d5 (x.length+y.length) (.lst (x ++ y)) else none
   | _,_=>none
def rW:D→Option Bool
 | .bl b=>some b
 | .tup l=>some (!l.isEmpty)
 | .lst l=>some (!l.isEmpty)
 | .int i=>some (i != 0)
 | .non=>some false
 | _=>none
def ixD (a b:D):Option D:=match a,b with
 | .tup l,.int i=>atI l i
 | .lst l,.int i=>atI l i
 | .str x,.int i=>if x.length≤100000 then (atI x.cps.toList i).map fun c=>.str ⟨#[c]⟩ else none
 | .dic ks ds,k=>(bF k).bind fun k=>cY ks ds k
 | _,_=>none
def cutD (xs:List D) (lo hi:Option Int):List D:=(xs.drop (HT.sIx xs.length 0 lo)).take (HT.sIx xs.length xs.length hi - HT.sIx xs.length 0 lo)
def slO (a:D) (l h:Option Int):Option D:=match a with
 | .tup x=>some (.tup (cutD x l h))
 | .lst x=>some (.lst (cutD x l h))
 | .str x=>if x.length≤100000 then some (.str (Txt.slice x l h)) else none
 | _=>none
def xp {α:Type} (xs:List α) (lo:Option Int) (st:Int):List α:=(sliceRange (sliceBounds lo none (some st) xs.length).1 (sliceBounds lo none (some st) xs.length).2.1 (sliceBounds lo none (some st) xs.length).2.2).filterMap (xs[·]?)
def mc (a:D) (l st:Option Int):Option D:=match a,st with
 | .lst x,some k=>if k=0 then none else some (.lst (xp x l k))
 | _,_=>none
def isDic:D→Bool
 | .dic _ _=>true
 | _=>false
def bc:E→Bool
 | .nil=>true
 | _=>false
def toI (d:D) (s:Sta):Out (Option Int):=match d with | .int i=>.ok (some i) s | _=>.bad
def cj:List D→Option (List Int)
 | []=>some []
 | .int i :: r=>(cj r).map (i :: ·)
 | _=>none
def se:List D→Option (List Bool)
 | []=>some []
 | .bl i :: r=>(se r).map (i :: ·)
 | _=>none
def dQ:List D→Option (List Str)
 | []=>some []
 | .str i :: r=>(dQ r).map (i :: ·)
 | _=>none
def cX (b:Bi) (x:D):Option D:=match b,x with
 | .len,.tup l=>some (.int l.length)
 | .len,.lst l=>some (.int l.length)
 | .len,.str x=>if x.length≤100000 then some (.int x.length) else none
 | .len,.dic k _=>if k.length≤100000 then some (.int k.length) else none
 | .tuple,.lst l=>some (.tup l)
 | .tuple,.tup l=>some (.tup l)
 | .list,.tup l=>some (.lst l)
 | .list,.lst l=>some (.lst l)
 | .rev,.lst l=>some (.lst l.reverse)
 | .all,.lst l=>(se l).map fun bs=>.bl (bs.all id)
 | .sum,.lst l=>(cj l).map fun ns=>.int (L2.Bk.sumI ns)
 | .max2,.lst l=>(match cj l with | some (n :: r)=>some (.int (L2.Bw.maxD 0 (n :: r))) | _=>none)
 | .abs,.int i=>some (.int (if i<0 then -i else i))
 | .str,.int i=>if i.natAbs.log2<1920 then some (.str (Str.ofString (toString i))) else none
 | .int,.int i=>some (.int i)
 | .int,.bl k=>some (.int (if k then 1 else 0))
 | .int,.str x=>if x.length≤640 then (PySem.intText? x).map .int else none
 | .dict,.dic k l=>some (.dic k l)
 | .setl,.lst l=>(cj l).bind fun ns=>if ns.length+1<4096 then some (.int ((PyProof.Rows.firstMet (fun i=>ns.getD i 0) ns.length).length:Nat)) else none
 | .isTup,d=>(match d with | .tup _=>some (.bl true) | .ref _=>none | .ins _ _=>none | _=>some (.bl false))
 | .isStr,d=>(match d with | .str _=>some (.bl true) | .ref _=>none | .ins _ _=>none | _=>some (.bl false))
 | .isBool,d=>(match d with | .bl _=>some (.bl true) | .ref _=>none | .ins _ _=>none | _=>some (.bl false))
 | .isInt,d=>(match d with | .bl _=>some (.bl true) | .int _=>some (.bl true) | .ref _=>none | .ins _ _=>none | _=>some (.bl false))
 | .isLst,d=>(match d with | .lst _=>some (.bl true) | .ref _=>none | .ins _ _=>none | _=>some (.bl false))
 | .isDic,d=>(match d with | .dic _ _=>some (.bl true) | .ref _=>none | .ins _ _=>none | _=>some (.bl false))
 | .isVal,d=>(match d with | .lst _=>some (.bl true) | .int _=>some (.bl true) | .bl _=>some (.bl true) | .str _=>some (.bl true) | .ref _=>none | .ins _ _=>none | _=>some (.bl false))
 | _,_=>none
def pV (b:Bi) (x y:D):Option D:=match b,x,y with
 | .max0,.lst l,.int d=>(cj l).map fun ns=>.int (L2.Bw.maxD d ns)
 | .max2,.int i,.int j=>some (.int (if j>i then j else i))
 | .min2,.int i,.int j=>some (.int (if j<i then j else i))
 | _,_,_=>none
def xK (b:Bi) (x y z:D):Option D:=match b,x,y,z with
 | .max2,.int i,.int j,.int k=>some (.int (if j>i then (if k>j then k else j) else if k>i then k else i))
 | _,_,_,_=>none
def biD (b:Bi) (ds:List D):Option D:=match ds with
 | [x]=>cX b x
 | [x,y]=>pV b x y
 | [x,y,z]=>xK b x y z
 | _=>none
def tZ:Key→D
 | .inl i=>.int i
 | .inr x=>.str x
def pF:D→Option (List D)
 | .lst l=>some l
 | .tup l=>some l
 | .dic ks _=>some (ks.map tZ)
 | .str x=>if x.cps.all (· < 128)=true then some (x.cps.toList.map fun c=>.str ⟨#[c]⟩) else none
 | _=>none
def i8 (lo:Int) (n:Nat):List D:=(List.range n).map fun (i:Nat)=>.int (lo+i)
def xH:List D→List D→List D
 | a :: r,b :: q=>.tup [a,b] :: xH r q
 | _,_=>[]
def tf:List D→List D→List D→List D
 | a :: r,b :: q,c :: p=>.tup [a,b,c] :: tf r q p
 | _,_,_=>[]
def cz:Int→List D→List D
 | i,a :: r=>.tup [.int i,a] :: cz (i+1) r
 | _,[]=>[]
def sqL:D→Option (List D)
 | .lst l=>some l
 | .tup l=>some l
 | _=>none
def yt (b:Bi) (x:D):Option (List D):=match b,x with
 | .range1,.int j=>if -(2 ^ 62)≤j∧j<2 ^ 62 then some (i8 0 j.toNat) else none
 | .enum,.lst x=>some (cz 0 x)
 | .rev,.lst x=>some x.reverse
 | _,_=>none
def yu (b:Bi) (x y:D):Option (List D):=match b,x,y with
 | .range2,.int i,.int j=>if (-(2 ^ 62)≤i∧i<2 ^ 62∧-(2 ^ 62)≤j∧j<2 ^ 62) then some (i8 i (j - i).toNat) else none
 | .zip2,x,y=>(match sqL x,sqL y with | some l,some m=>if l.length≤m.length then some (xH l m) else none | _,_=>none)
 | .enum2,.tup x,.int n=>if Builtin.SmallTypes.fitsIndex n=true∧0≤n then some (cz n x) else none
 | _,_,_=>none
def yv (b:Bi) (x y z:D):Option (List D):=match b,x,y,z with
 | .zip3,x,y,z=>(match sqL x,sqL y,sqL z with | some l,some m,some n=>if l.length≤m.length∧l.length≤n.length then some (tf l m n) else none | _,_,_=>none)
 | _,_,_,_=>none
def itD (b:Bi) (ds:List D):Option (List D):=match ds with
 | [x]=>yt b x
 | [x,y]=>yu b x y
 | [x,y,z]=>yv b x y z
 | _=>none
def jC (Γ:Gm) (st:List O) (d:D) (f:Nat):Option D:=match d with
 | .ins c l=>(Γ.cl[c]?).bind fun k=>l[k.at_.idxOf f]?
 | .ref n=>(match st[n]? with | some (.ins c l)=>(Γ.cl[c]?).bind fun k=>l[k.at_.idxOf f]? | _=>none)
 | _=>none
def aE (t:List Nat) (one:Bool) (d:D) (env:List (Option D)):Option (List (Option D)):=
 if one then (match t with | [i]=>some (env.set i (some d)) | _=>none)
 else (match d with
  | .tup l=>if l.length=t.length then some ((t.zip l).foldl (fun e p=>e.set p.1 (some p.2)) env) else none
  | .lst l=>if l.length=t.length then some ((t.zip l).foldl (fun e p=>e.set p.1 (some p.2)) env) else none
  | _=>none)
def noX {α:Type}:Out α→Out α
 | .exc _ _ _=>.bad
 | o=>o
def bH (f:D→Sta→Out (Option D)):List D→List D→Sta→Out D
 | [],acc,s=>.ok (.lst acc) s
 | d :: r,acc,s=>(f d s).bind fun o s'=>match o with
   | some e=>if acc.length<100000 then bH f r (acc ++ [e]) s' else .bad
   | none=>bH f r acc s'
def Out.back {α:Type} (env:List (Option D)):Out α→Out α
 | .ok d s=>.ok d ⟨env,[],s.st⟩
 | .exc c l s=>.exc c l ⟨env,[],s.st⟩
 | .bad=>.bad
mutual
noncomputable def noL:D→Bool
 | .lst _=>false
 | .tup l=>i3 l
 | .dic _ l=>i3 l
 | .ins _ l=>i3 l
 | _=>true
noncomputable def i3:List D→Bool
 | []=>true
 | d :: r=>noL d && i3 r
end
mutual
noncomputable def noR:D→Bool
 | .ref _=>false
 | .tup l=>aK l
 | .lst l=>aK l
 | .dic _ l=>aK l
 | .ins _ l=>aK l
 | _=>true
noncomputable def aK:List D→Bool
 | []=>true
 | d :: r=>noR d && aK r
end
def jS:O→Bool
 | .lst _=>false
 | .dic _ l=>i3 l
 | .ins _ l=>i3 l
def bh:E→List Nat
 | .cons (.v i) r=>i :: bh r
 | .cons _ r=>bh r
 | _=>[]
def isLst:Option (Option D)→Bool
 | some (some (.lst _))=>true
 | _=>false
def aft (es:E) (s:Sta) (d:D) (st:List O):Sta:=⟨s.env,s.ow.filter fun i=>!(bh es).contains i || (isLst s.env[i]? && (noL d && st.all jS)),st⟩
def drp (es:E) (s:Sta) (st:List O):Sta:=⟨s.env,s.ow.filter fun i=>!(bh es).contains i,st⟩
def mK:List D→Option (List Key×List D)
 | []=>some ([],[])
 | [_]=>none
 | k :: d :: r=>(bF k).bind fun k=>(mK r).bind fun p=>if p.1.contains k then none else some (k :: p.1,d :: p.2)
def qD:D→Bool
 | .tup _=>true
 | _=>false
def wA (x y:D):Option D:=match x,y with
 | .tup l,.str k=>(dQ l).bind fun ss=>(ss.findIdx? (· == k)).map fun (j:Nat)=>.int j
 | _,_=>none
def kF (x:Str) (y:D):Option D:=match y with
 | .lst l=>(dQ l).bind fun ss=>if x.length≤64∧(ss.map (·.length)).sum≤100000∧ss.length≤1000 then some (.str (Txt.join x ss)) else none
 | _=>none
def wk (x:Str) (v:D) (y:Str):Option D:=match v with
 | .str z=>if x.length≤1000∧z.length≤100000∧y.length≤1000 then some (.str (((Str.empty ++ x) ++ z) ++ y)) else none
 | _=>none
mutual
noncomputable def shD (k:Nat):D→D
 | .tup l=>.tup (fQ k l)
 | .lst l=>.lst (fQ k l)
 | .dic ks l=>.dic ks (fQ k l)
 | .ins c l=>.ins c (fQ k l)
 | .ref n=>.ref (k+n)
 | d=>d
noncomputable def fQ (k:Nat):List D→List D
 | []=>[]
 | d :: r=>shD k d :: fQ k r
end
def shO (k:Nat):O→O
 | .lst l=>.lst (fQ k l)
 | .dic ks l=>.dic ks (fQ k l)
 | .ins c l=>.ins c (fQ k l)
def d3 (Γ:Gm) (c:Nat):Bool:=match Γ.cl[c]? with | some k=>k.what == 2 | none=>false
def wF (Γ:Gm) (x:D) (js:List Nat):Option D:=match x with
 | .ins c _=>if (d3 Γ c && js.all (d3 Γ))=true then (Γ.cl[c]?).map fun k=>.bl (js.any fun j=>c == j || k.sup.contains j) else none
 | _=>none
def fresh:E→Bool
 | .lst _=>true | .lc ..=>true | .bi .list _=>true | .bi .rev _=>true | .bi .dict _=>true | .dic _=>true | .keep _ a=>fresh a | .fcall own _ _=>own | .snap _ a=>fresh a | _=>false
mutual
noncomputable def flT:D→Bool
 | .non=>true | .bl _=>true | .int _=>true | .str _=>true
 | .tup l=>flTs l
 | _=>false
noncomputable def flTs:List D→Bool
 | []=>true
 | d :: r=>flT d && flTs r
end
def flR:D→Bool
 | .lst l=>flTs l
 | d=>flT d
def flX (f:Bool) (d:D):Bool:=if f=true then flR d else flT d
def aM (env:List (Option D)):List (Option D):=env.map fun o=>o.bind fun d=>if noR d then some d else none
def sO (Γ:Gm) (x:D):Option D:=match x with
 | .ins c _=>if d3 Γ c=true then (Γ.cl[c]?).map fun k=>.bl (k.sup.contains 1000) else none
 | _=>none
def smO (k:SM) (x:D):Option D:=match k,x with
 | .rep y z,.str x=>if x.length≤10000∧z.length≤100∧y.length=1 then some (.str (Txt.replace x y z)) else none
 | .spl y,.str x=>if x.length≤60000∧y.length=1 then some (.lst ((Txt.split x y).map .str)) else none
 | .dig,.str x=>some (.bl (Txt.isdigit x))
 | .sta y,.str x=>some (.bl (Txt.startswith x y))
 | .mulc y,.int n=>if -1000000≤n∧n≤10000∧y.length≤10 then some (.str (Txt.mul y n)) else none
 | _,_=>none
def yC (x:D) (s:Sta):Out D:=match x with
 | .ref n=>(match s.st[n]? with
   | some (.lst l)=>(match l.getLast? with | some d=>.ok d ⟨s.env,s.ow,s.st.set n (.lst l.dropLast)⟩ | none=>.bad)
   | _=>.bad)
 | _=>.bad
def sH (ks:List Str) (l:List D):Option D:=if ks.length=l.length∧ks.Nodup∧ks.length≤15∧ks≠[] then some (.dic (ks.map .inr) l) else none
def m9 (kp:List Nat) (env:List (Option D)):List (Option D):=env.mapIdx fun i d=>if kp.contains i then none else d
def hid (kp:List Nat) (s:Sta):Sta:=⟨m9 kp s.env,s.ow.filter (fun i=>!kp.contains i),s.st⟩
def xB (x:D) (s:Sta):Out D:=match x with | .lst l=>.ok (.ref s.st.length) ⟨s.env,s.ow,s.st ++ [.lst l]⟩ | _=>.bad
section
variable (Γ:Gm) (cal cal1:Nat→List D→List O→Res)
def fJ (es:E) (j:Nat) (ds:List D) (s:Sta):Out D:=match cal j ds s.st with
 | .ok d st=>.ok d (aft es s d st)
 | .exc c l st=>.exc c l (drp es s st)
 | .bad=>.bad
def qB (j:Nat) (ds:List D) (s:Sta):Out D:=if aK ds then (match cal j ds [] with
 | .ok d st=>if noR d then .ok d s else .ok (shD s.st.length d) ⟨s.env,s.ow,s.st ++ st.map (shO s.st.length)⟩
 | .exc c l _=>if aK l then .exc c l s else .bad
 | .bad=>.bad) else .bad
def nq:D→Bool
 | .ref _=>true | _=>false
def wn (st:List O):D→Option D
 | .ref n=>(match st[n]? with | some (.lst l)=>if aK l then some (.lst l) else none | some (.dic k l)=>if aK l then some (.dic k l) else none | _=>none)
 | d=>if noR d then some d else none
def wq (st:List O):List D→Option (List D)
 | []=>some []
 | d :: r=>(wn st d).bind fun e=>(wq st r).map (e :: ·)
def wp (st:List O):D→Option D
 | .tup l=>(wq st l).map .tup
 | d=>wn st d
def tT (own:Bool) (j:Nat) (ds:List D) (s:Sta):Out D:=if aK ds then (match cal j ds [] with
 | .ok d st=>if own && !nq d then .bad else .of s (wp st d)
 | .exc c l _=>if aK l then .exc c l s else .bad
 | .bad=>.bad) else .bad
mutual
noncomputable def ev (br:Bool):E→Sta→Out D
 | .v i,s=>(match s.env[i]? with | some (some d)=>.ok d (if br then s else un s i) | _=>.bad)
 | .c d,s=>.ok d s
 | .g j,s=>.of s (Γ.gl[j]?.map toD)
 | .op o a b,s=>(ev true a s).bind fun x s=>(ev true b s).bind fun y s=>.of s (opD o (look s.st x) (look s.st y))
 | .isN a,s=>(ev true a s).bind fun x s=>.ok (.bl (iS x)) s
 | .isNN a,s=>(ev true a s).bind fun x s=>.ok (.bl (!iS x)) s
 | .neg a,s=>(ev true a s).bind fun x s=>(match x with | .int i=>.ok (.int (-i)) s | _=>.bad)
 | .not a,s=>(ev true a s).bind fun x s=>(match x with | .bl b=>.ok (.bl (!b)) s | _=>.bad)
 | .and a b,s=>(ev false a s).bind fun x s=>(match x with | .bl true=>ev false b s | .bl false=>.ok (.bl false) s | _=>.bad)
 | .or a b,s=>(ev false a s).bind fun x s=>(match x with | .bl false=>ev false b s | .bl true=>.ok (.bl true) s | _=>.bad)
 | .ite c a b,s=>(ev true c s).bind fun x s=>(match x with | .bl true=>ev false a s | .bl false=>ev false b s | _=>.bad)
 | .chain o p a b c,s=>(ev true a s).bind fun x s=>(ev true b s).bind fun y s=>(match opD o (look s.st x) (look s.st y) with
   | some (.bl true)=>(ev true c s).bind fun z s=>.of s (opD p (look s.st y) (look s.st z))
   | some (.bl false)=>.ok (.bl false) s
   | _=>.bad)
 | .ix a b,s=>(ev true a s).bind fun x s=>(ev true b s).bind fun y s=>.of s (ixD (look s.st x) y)
 | .sl a lo hi,s=>(ev true a s).bind fun x s=>(if bc lo then .ok none s else (ev true lo s).bind toI).bind fun l s=>(if bc hi then .ok none s else (ev true hi s).bind toI).bind fun h s=>.of s (slO (look s.st x) l h)
 | .sl3 a lo st,s=>(ev true a s).bind fun x s=>(if bc lo then .ok none s else (ev true lo s).bind toI).bind fun l s=>(if bc st then .ok none s else (ev true st s).bind toI).bind fun z s=>.of s (mc (look s.st x) l z)
 | .tget j e d,s=>(ev true e s).bind fun x s=>(ev false d s).bind fun z s=>(match Γ.tb[j]?,x with | some t,.str k=>.ok (((KTD.datumAt k t).map toD).getD z) s | _,_=>.bad)
 | .newd j es,s=>(evs false es s).bind fun l s=>.of s ((Γ.cl[j]?).bind fun k=>if k.what=1∧l.length=k.at_.length then some (D.ins j l) else none)
 | .fld a f,s=>(ev true a s).bind fun x s=>.of s (jC Γ s.st x f)
 | .tup es,s=>(evs false es s).bind fun l s=>if l.length≤100000 then .ok (.tup l) s else .bad
 | .lst es,s=>(evs false es s).bind fun l s=>if l.length≤100000 then .ok (.lst l) s else .bad
 | .newl es,s=>(evs false es s).bind fun l s=>if l.length≤100000 then .ok (.ref s.st.length) ⟨s.env,s.ow,s.st ++ [.lst l]⟩ else .bad
 | .keep kp a,s=>(noX (ev false a (hid (kp.filter s.ow.contains) s))).bind fun d s'=>.ok d ⟨s.env,s'.ow ++ kp.filter s.ow.contains,s'.st⟩
 | .sto a,s=>(ev false a s).bind xB
 | .fcall own j es,s=>(evs false es s).bind fun l s=>tT cal own j l s
 | .call j es,s=>(evs true es s).bind fun l s=>fJ cal es j l s
 | .hcall j es,s=>(evs false es s).bind fun l s=>qB cal j l s
 | .mth c j a es,s=>(ev true a s).bind fun x s=>(match x with
   | .ref p=>(match s.st[p]? with
     | some (.ins c' _)=>if c'=c then (evs true es s).bind fun l s=>fJ cal es j (x :: l) s else .bad
     | _=>.bad)
   | _=>.bad)
 | .bi b es,s=>(evs true es s).bind fun l s=>.of s (biD b (l.map (look s.st)))
 | .tab j e,s=>(ev true e s).bind fun x s=>(match Γ.tb[j]?,x with | some t,.str k=>.of s ((KTD.datumAt k t).map toD) | _,_=>.bad)
 | .tabin j e,s=>(ev true e s).bind fun x s=>(match Γ.tb[j]?,x with | some t,.str k=>.ok (.bl (KTD.datumAt k t).isSome) s | _,_=>.bad)
 | .lc t one it elt cond,s=>(ev false it s).bind fun x s=>(match x with
   | .lst ds=>(bH (fun d s'=>(match aE t one d s'.env with
     | some env=>(ev true cond ⟨env,[],s'.st⟩).bind fun b s2=>(match b with
       | .bl true=>(ev false elt s2).bind fun e s3=>.ok (some e) ⟨s3.env,[],s3.st⟩
       | .bl false=>.ok none ⟨s2.env,[],s2.st⟩
       | _=>.bad)
     | none=>.bad)) ds [] ⟨List.replicate t.length none ++ s.env,[],s.st⟩).back s.env
   | _=>.bad)
 | .tand a b,s=>(ev true a s).bind fun x s=>(match x with | .bl true=>ev true b s | .bl false=>.ok (.bl false) s | _=>.bad)
 | .tor a b,s=>(ev true a s).bind fun x s=>(match x with | .bl true=>.ok (.bl true) s | .bl false=>ev true b s | _=>.bad)
 | .tnot a,s=>(ev true a s).bind fun x s=>(match x with | .bl b=>.ok (.bl (!b)) s | _=>.bad)
 | .tv a,s=>(ev true a s).bind fun x s=>.of s ((rW (look s.st x)).map .bl)
 | .it b es,s=>(evs false es s).bind fun l s=>.of s ((itD b l).map .lst)
 | .itv a,s=>(ev false a s).bind fun x s=>.of s ((pF x).map .lst)
 | .dic es,s=>(evs false es s).bind fun l s=>.of s ((mK l).map fun p=>.dic p.1 p.2)
 | .get a b c,s=>(ev true a s).bind fun x s=>if isDic (look s.st x)=true then (ev true b s).bind fun y s=>(ev false c s).bind fun z s=>(match look s.st x,bF y with
   | .dic ks ds,some k=>.ok ((cY ks ds k).getD z) s
   | _,_=>.bad) else .bad
 | .index a b,s=>(ev true a s).bind fun x s=>if qD x=true then (ev true b s).bind fun y s=>.of s (wA x y) else .bad
 | .join x a,s=>(ev true a s).bind fun y s=>.of s (kF x (look s.st y))
 | .fmt x a y,s=>(ev true a s).bind fun v s=>.of s (wk x v y)
 | .dicc ks es,s=>(evs false es s).bind fun l s=>.of s (sH ks l)
 | .isX a js,s=>(ev true a s).bind fun x s=>.of s (wF Γ x js)
 | .isXv a,s=>(ev true a s).bind fun x s=>.of s (sO Γ x)
 | .snap i a,s=>(match s.env[i]? with
   | some (some (.ref n))=>(match s.st[n]? with
     | some (.lst l)=>if aK l=true then (noX (ev false a ⟨(aM s.env).set i (some (.lst l)),[],[]⟩)).bind fun d _=>if flX (fresh a) d=true then .ok d ⟨s.env,[],s.st⟩ else .bad else .bad
     | _=>.bad)
   | _=>.bad)
 | .sm k a,s=>(ev true a s).bind fun x s=>.of s (smO k x)
 | .pop a,s=>(ev true a s).bind yC
 | .new j es,s=>(evs true es s).bind fun l s=>(match Γ.cl[j]? with
   | some k=>if k.what=1 then (if l.length=k.at_.length then .ok (.ins j l) (drp es s s.st) else .bad)
     else if k.what=0 then (match cal1 k.init (.ref s.st.length :: l) (s.st ++ [.ins j []]) with
      | .ok .non st=>.ok (.ref s.st.length) (aft es s .non st)
      | _=>.bad)
     else .bad
   | none=>.bad)
 | _,_=>.bad
noncomputable def evs (br:Bool):E→Sta→Out (List D)
 | .nil,s=>.ok [] s
 | .cons a r,s=>(ev br a s).bind fun x s=>(evs br r s).bind fun l s=>.ok (x :: l) s
 | _,_=>.bad
end
end
end L2.Ev
namespace L2.Ev
def qC:D→Bool
 | .lst _=>true | .dic _ _=>true | _=>false
def ip (s:Sta) (i:Nat) (d:D) (f:Bool):Sta:=⟨s.env.set i (some d),if f && qC d then i :: s.ow.filter (· != i) else s.ow.filter (· != i),s.st⟩
def o8 (l:List D) (i:Int) (d:D):Option (List D):=(ixN l.length i).map fun j=>l.set j d
def fP (o:O) (k d:D):Option O:=match o with
 | .lst l=>(match k with | .int i=>(o8 l i d).map .lst | _=>none)
 | .dic ks ds=>(bF k).bind fun k=>if ks.length<100000 then some (.dic (cF ks ds k d).1 (cF ks ds k d).2) else none
 | _=>none
def i4 (o:D) (k d:D):Option D:=match o with
 | .lst l=>(match k with | .int i=>(o8 l i d).map .lst | _=>none)
 | .dic ks ds=>(bF k).bind fun k=>if ks.length<100000 then some (.dic (cF ks ds k d).1 (cF ks ds k d).2) else none
 | _=>none
def dG (Γ:Gm) (o:O) (f:Nat) (d:D):Option O:=match o with
 | .ins c l=>(Γ.cl[c]?).bind fun k=>if k.at_.length<1000 then (if k.at_.idxOf f<l.length then some (.ins c (l.set (k.at_.idxOf f) d)) else if k.at_.idxOf f=l.length∧k.at_.idxOf f<k.at_.length then some (.ins c (l ++ [d])) else none) else none
 | _=>none
def o9:Option D→Bool
 | some (.int n)=>decide (0≤n) && decide (n<100000)
 | _=>false
def gK:D→Bool
 | .str x=>decide ((reprText x).length≤10000)
 | .int n=>decide (0≤n) && decide (n<100000)
 | _=>false
def cC (Γ:Gm) (j:Nat) (l:List D):Bool:=match Γ.cl[j]? with
 | some k=>if k.at_.isEmpty then l.all gK else l.length == k.at_.length && k.chk.all (fun i=>o9 l[i]?) && decide (l.length≤1000) && !l.isEmpty
 | none=>false
def eO (Γ:Gm) (j:Nat) (l:List D):List D:=match Γ.cl[j]? with
 | some k=>if k.at_.isEmpty then [] else l
 | none=>l
def bL (f:D→Sta→ah):List D→Sta→ah
 | [],s=>.nx s
 | d :: r,s=>(f d s).go fun s=>bL f r s
def te (c:Sta→Out D) (f:Sta→ah):Nat→Sta→ah
 | 0,_=>.bad
 | m+1,s=>(c s).go fun x s=>match x with | .bl true=>(f s).go fun s=>te c f m s | .bl false=>.nx s | _=>.bad
def d8 (st:List O):D→Bool
 | .ref n=>(match st[n]? with | some (.lst _)=>true | _=>false)
 | _=>false
def apO (x d:D) (s:Sta):ah:=match x with
 | .ref n=>(match s.st[n]? with | some (.lst l)=>if l.length<100000 then .nx ⟨s.env,s.ow,s.st.set n (.lst (l ++ [d]))⟩ else .bad | _=>.bad)
 | _=>.bad
def exO (x d:D) (s:Sta):ah:=match x with
 | .ref n=>(match s.st[n]?,d with | some (.lst l),.lst m=>if l.length+m.length≤100000 then .nx ⟨s.env,s.ow,s.st.set n (.lst (l ++ m))⟩ else .bad | _,_=>.bad)
 | _=>.bad
def cE (Γ:Gm) (j c:Nat):Option Bool:=(Γ.cl[c]?).map fun k=>c == j || k.sup.contains j
section
variable (Γ:Gm) (cal cal1:Nat→List D→List O→Res)
def exS:S→Sta→ah
 | .skip,s=>.nx s
 | .seq a b,s=>(exS a s).go fun s=>exS b s
 | .set i e,s=>(ev Γ cal cal1 false e s).go fun d s=>.nx (ip s i d (fresh e))
 | .setT l e,s=>(ev Γ cal cal1 false e s).go fun d s=>(match aE l false d s.env with | some env=>.nx ⟨env,s.ow.filter fun i=>!l.contains i,s.st⟩ | none=>.bad)
 | .setR i es,s=>(evs Γ cal cal1 false es s).go fun l s=>if l.length≤100000 then .nx ⟨s.env.set i (some (.ref s.st.length)),s.ow.filter (· != i),s.st ++ [.lst l]⟩ else .bad
 | .ret e,s=>(ev Γ cal cal1 false e s).go fun d s=>.rt d s
 | .ifs c a b,s=>(ev Γ cal cal1 true c s).go fun x s=>(match x with | .bl true=>exS a s | .bl false=>exS b s | _=>.bad)
 | .drop e,s=>(ev Γ cal cal1 false e s).go fun _ s=>.nx s
 | .app i e,s=>if s.ow.contains i && isLst s.env[i]? then (ev Γ cal cal1 false e s).go fun d s=>if s.ow.contains i then (match s.env[i]? with
  | some (some (.lst l))=>if l.length<100000 then .nx ⟨s.env.set i (some (.lst (l ++ [d]))),s.ow,s.st⟩ else .bad
  | _=>.bad) else .bad else .bad
 | .ext i e,s=>if s.ow.contains i && isLst s.env[i]? then (ev Γ cal cal1 false e s).go fun d s=>if s.ow.contains i then (match s.env[i]?,d with
  | some (some (.lst l)),.lst x=>if l.length+x.length≤100000 then .nx ⟨s.env.set i (some (.lst (l ++ x))),s.ow,s.st⟩ else .bad
  | _,_=>.bad) else .bad else .bad
 | .put (.v i) b e,s=>(ev Γ cal cal1 false e s).go fun d s=>(match s.env[i]? with
  | some (some x)=>(ev Γ cal cal1 true b s).go fun k s=>(match x with
    | .ref n=>(match (s.st[n]?).bind fun o=>fP o k d with | some o=>.nx ⟨s.env,s.ow,s.st.set n o⟩ | none=>.bad)
    | x=>if s.ow.contains i then (match i4 x k d with | some y=>.nx ⟨s.env.set i (some y),s.ow,s.st⟩ | none=>.bad) else .bad)
  | _=>.bad)
 | .put a b e,s=>(ev Γ cal cal1 false e s).go fun d s=>(ev Γ cal cal1 true a s).go fun x s=>(ev Γ cal cal1 true b s).go fun k s=>(match x with
  | .ref n=>(match (s.st[n]?).bind fun o=>fP o k d with | some o=>.nx ⟨s.env,s.ow,s.st.set n o⟩ | none=>.bad)
  | _=>.bad)
 | .fld a f e,s=>(match e with
  | .lst .nil=>(ev Γ cal cal1 true a s).go fun x s=>(match x with
    | .ref n=>(match (s.st[n]?).bind fun o=>dG Γ o f (.ref s.st.length) with | some o=>.nx ⟨s.env,s.ow,(s.st ++ [O.lst []]).set n o⟩ | none=>.bad)
    | _=>.bad)
  | .dic .nil=>(ev Γ cal cal1 true a s).go fun x s=>(match x with
    | .ref n=>(match (s.st[n]?).bind fun o=>dG Γ o f (.ref s.st.length) with | some o=>.nx ⟨s.env,s.ow,(s.st ++ [O.dic [] []]).set n o⟩ | none=>.bad)
    | _=>.bad)
  | e=>(ev Γ cal cal1 false e s).go fun d s=>(ev Γ cal cal1 true a s).go fun x s=>(match x with
    | .ref n=>(match (s.st[n]?).bind fun o=>dG Γ o f d with | some o=>.nx ⟨s.env,s.ow,s.st.set n o⟩ | none=>.bad)
    | _=>.bad))
 | .aug a f o e,s=>(ev Γ cal cal1 true a s).go fun x s=>(match x with
  | .ref n=>(match jC Γ s.st x f with
    | some (.int i)=>(ev Γ cal cal1 false e s).go fun d s=>(match d with
      | .int j=>(match opI o i j,s.st[n]? with
        | some y,some ob=>(match dG Γ ob f y with | some ob=>.nx ⟨s.env,s.ow,s.st.set n ob⟩ | none=>.bad)
        | _,_=>.bad)
      | _=>.bad)
    | _=>.bad)
  | _=>.bad)
 | .fapp a f e,s=>(ev Γ cal cal1 true a s).go fun x s=>if d8 s.st x=true then (ev Γ cal cal1 false e s).go fun d s=>apO x d s else .bad
 | .fext a e,s=>(ev Γ cal cal1 true a s).go fun x s=>if d8 s.st x=true then (ev Γ cal cal1 false e s).go fun d s=>exO x d s else .bad
 | .for_ t one it b,s=>(ev Γ cal cal1 false it s).go fun x s=>(match x with
  | .lst ds=>bL (fun d s=>match aE t one d s.env with | some env=>exS b ⟨env,s.ow.filter fun i=>!t.contains i,s.st⟩ | none=>.bad) ds s
  | _=>.bad)
 | .whl c b,s=>te (ev Γ cal cal1 true c) (exS b) 100000 s
 | .rais j es,s=>(evs Γ cal cal1 false es s).go fun l s=>if cC Γ j l then .exc j (eO Γ j l) s else .bad
 | .try_ a hs,s=>(match exS a s with
  | .exc c l s'=>hnd hs c l s'
  | r=>r)
 | _,_=>.bad
where hnd:S→Nat→List D→Sta→ah
 | .hand j (some i) b r,c,l,s=>(match cE Γ j c with
  | some true=>(match exS b ⟨s.env.set i (some (.ins c l)),s.ow.filter (· != i),s.st⟩ with
    | .nx s=>.nx ⟨s.env.set i none,s.ow.filter (· != i),s.st⟩
    | .rt d s=>.rt d s
    | _=>.bad)
  | some false=>hnd r c l s
  | none=>.bad)
 | .hand j none b r,c,l,s=>(match cE Γ j c with
  | some true=>(match exS b s with | .nx s=>.nx s | .rt d s=>.rt d s | _=>.bad)
  | some false=>hnd r c l s
  | none=>.bad)
 | .skip,c,l,s=>.exc c l s
 | _,_,_,_=>.bad
end
def i9 (Γ:Gm) (cal cal1:Nat→List D→List O→Res) (j:Nat) (ds:List D) (st:List O):Res:=match Γ.fn[j]? with
 | some f=>if (ds ++ f.df).length=f.np then (match exS Γ cal cal1 f.body ⟨(ds ++ f.df).map some ++ List.replicate (f.ns - f.np) none,[],st⟩ with
   | .nx s=>.ok .non s.st
   | .rt d s=>.ok d s.st
   | .exc c l s=>.exc c l s.st
   | .bad=>.bad) else .bad
 | none=>.bad
def mH (Γ:Gm):Nat→(Nat→List D→List O→Res)×(Nat→List D→List O→Res)
 | 0=>(fun _ _ _=>.bad,fun _ _ _=>.bad)
 | n+1=>(i9 Γ (mH Γ n).1 (mH Γ n).2,(mH Γ n).1)
def ag (Γ:Gm) (n:Nat):Nat→List D→List O→Res:=(mH Γ n).1
def aU (Γ:Gm) (n:Nat):Nat→List D→List O→Res:=(mH Γ n).2
structure CI where
 ad:Addr
 nm:List Str
structure Wd where
 P:Program
 w:World
 ci:List CI
 what:List Nat
abbrev Hp:=Addr→Option Obj
abbrev Rs:=List (Addr×Addr)
def TpO (o:Obj) (l:List Value):Prop:=o.cls = .type "tuple"∧(∃ n,o.data = .seq l.toArray n)∧l.length≤sizeLine∧o.dict=none
def LsO (o:Obj) (l:List Value):Prop:=(∃ n,o={ cls:=.type "list",data:=.seq l.toArray n })∧l.length≤sizeLine
def DcO (W:Wd) (o:Obj) (l:List (Key×Value)):Prop:=∃ es ep,o.ExactDict∧o.data = .dict es ep∧KeysOf (bp W.P W.w) es∧Pairs (bp W.P W.w) es.toList l∧(l.map (·.1)).Nodup∧l.length≤sizeLine
def NsO (o:Obj) (l:List (Str×Value)):Prop:=∃ es ep,o.data = .dict es ep∧StrKeys es∧UniqKeys es∧∀ n,nsFind es n=l.lookup n
def InO (h:Hp) (a dx C:Addr) (l:List (Str×Value)):Prop:=h a=some (PySem.W.instObj C dx)∧dx≠a∧l.length≤1000∧∃ o,h dx=some o∧NsO o l
def ExO (h:Hp) (a C:Addr) (l:List (Str×Value)):Prop:=∃ o vs,h a=some o∧o.cls = .ref C∧o.data = .fields vs∧((l = []∧o.dict=none)∨∃ d od,o.dict=some d∧h d=some od∧NsO od l)
inductive Ra (G:Hp) (T:Obj→List Value→Prop) (Q:List Value→Prop) (v:Value):Prop
 | mk (a:Addr) (o:Obj) (vs:List Value) (_:v = .ref a) (_:G a=some o) (_:T o vs) (_:Q vs)
inductive Rb (W:Wd) (G:Hp) (ks:List Key) (n:Nat) (Q:List Value→Prop) (v:Value):Prop
 | mk (a:Addr) (o:Obj) (vs:List Value) (_:v = .ref a) (_:(a == sysModules)=false) (_:G a=some o) (_:DcO W o (ks.zip vs)) (_:ks.length=n) (_:Q vs)
inductive Ri (W:Wd) (G:Hp) (c n:Nat) (Q:List Value→Prop) (v:Value):Prop
 | mk (a:Addr) (i:CI) (vs:List Value) (_:v = .ref a) (_:W.ci[c]? = some i) (_:n≤i.nm.length) (_:(W.what[c]? = some 1∧∃ dx,InO G a dx i.ad (i.nm.zip vs))∨(W.what[c]? = some 2∧ExO G a i.ad (i.nm.zip vs))) (_:Q vs)
inductive Rc (P:Value→Prop) (Q:List Value→Prop) (vs:List Value):Prop
 | mk (v:Value) (r:List Value) (_:vs=v :: r) (_:P v) (_:Q r)
mutual
noncomputable def RD (W:Wd) (ρ:Rs) (G:Hp):D→Value→Prop
 | .non,v=>v = .none
 | .bl b,v=>v = .bool b
 | .int i,v=>∃ t,v = .int i t
 | .str x,v=>∃ t,v = .str x t
 | .tup ds,v=>Ra G TpO (RDs W ρ G ds) v
 | .lst ds,v=>Ra G LsO (RDs W ρ G ds) v
 | .dic ks ds,v=>Rb W G ks ds.length (RDs W ρ G ds) v
 | .ins c ds,v=>Ri W G c ds.length (RDs W ρ G ds) v
 | .ref n,v=>∃ p,ρ[n]? = some p∧v = .ref p.1
noncomputable def RDs (W:Wd) (ρ:Rs) (G:Hp):List D→List Value→Prop
 | [],vs=>vs = []
 | d :: ds,vs=>Rc (RD W ρ G d) (RDs W ρ G ds) vs
end
def Sub (G H:Hp):Prop:=∀ a o,G a=some o→H a=some o
theorem Sub.refl (G):Sub G G:=fun _ _ e=>e
theorem Sub.trans (h:Sub G H) (i:Sub H I):Sub G I:=fun a o e=>i a o (h a o e)
section
variable {W:Wd} {ρ ρ':Rs} {G G' H H':Hp}
theorem dE (h:ρ <+: ρ') {n:Nat} (e:ρ[n]? = some a):ρ'[n]? = some a:=by
 obtain ⟨t,rfl⟩:=h
 rw [List.getElem?_append_left (List.getElem?_eq_some_iff.mp e).1];exact e
theorem InO.sub (h:Sub G G'):InO G a dx C l→InO G' a dx C l:=fun ⟨x,n,z,o,e,r⟩=>⟨h _ _ x,n,z,o,h _ _ e,r⟩
theorem ExO.sub (h:Sub G G'):ExO G a C l→ExO G' a C l:=fun ⟨o,vs,e,c,d,r⟩=>⟨o,vs,h _ _ e,c,d,r.elim .inl fun ⟨d,od,q,e,r⟩=>.inr ⟨d,od,q,h _ _ e,r⟩⟩
mutual
theorem RD.mono (hp:ρ <+: ρ') (h:Sub G G'):∀ {d:D} {v},RD W ρ G d v→RD W ρ' G' d v
 | .non,_,e=>e
 | .bl _,_,e=>e
 | .int _,_,e=>e
 | .str _,_,e=>e
 | .tup _,_,⟨a,o,vs,e,t,q,r⟩=>⟨a,o,vs,e,h _ _ t,q,RDs.mono hp h r⟩
 | .lst _,_,⟨a,o,vs,e,t,q,r⟩=>⟨a,o,vs,e,h _ _ t,q,RDs.mono hp h r⟩
 | .dic _ _,_,⟨a,o,vs,e,m,t,q,l,r⟩=>⟨a,o,vs,e,m,h _ _ t,q,l,RDs.mono hp h r⟩
 | .ins _ _,_,⟨a,i,vs,e,hc,l,t,r⟩=>⟨a,i,vs,e,hc,l,t.elim (fun ⟨w,dx,q⟩=>.inl ⟨w,dx,q.sub h⟩) (fun ⟨w,q⟩=>.inr ⟨w,q.sub h⟩),RDs.mono hp h r⟩
 | .ref _,_,⟨a,e,q⟩=>⟨a,dE hp e,q⟩
theorem RDs.mono (hp:ρ <+: ρ') (h:Sub G G'):∀ {ds} {vs},RDs W ρ G ds vs→RDs W ρ' G' ds vs
 | [],_,e=>e
 | _ :: _,_,⟨v,r,e,t,q⟩=>⟨v,r,e,RD.mono hp h t,RDs.mono hp h q⟩
end
theorem RDs.cons (h:RD W ρ G d v) (t:RDs W ρ G ds vs):RDs W ρ G (d :: ds) (v :: vs):=⟨v,vs,rfl,h,t⟩
theorem im:∀ {ds vs},RDs W ρ G ds vs↔Paired (RD W ρ G) ds vs
 | [],vs=>⟨fun h=>by cases (show vs = [] from h);exact .nil,fun h=>by cases h;exact rfl⟩
 | d :: ds,vs=>⟨fun ⟨v,r,e,h,t⟩=>e ▸ .cons h (im.mp t),fun h=>by cases h with | cons h t=>exact .cons h (im.mpr t)⟩
theorem RDs.len (h:RDs W ρ G ds vs):ds.length=vs.length:=(im.mp h).length
theorem RDs.get:∀ {ds} {vs} {i:Nat} {d:D},RDs W ρ G ds vs→ds[i]? = some d→∃ v,vs[i]? = some v∧RD W ρ G d v
 | [],_,_,_,_,e=>by simp at e
 | d :: ds,vs,0,d',⟨v,r,e,h,_⟩,e'=>by subst e;simp at e';subst e';exact ⟨v,rfl,h⟩
 | d :: ds,vs,i+1,d',⟨v,r,e,_,t⟩,e'=>by
   subst e
   obtain ⟨u,h1,h2⟩:=RDs.get (i:=i) t (by simpa using e')
   exact ⟨u,by simpa using h1,h2⟩
theorem RDs.app:∀ {ds es} {vs us},RDs W ρ G ds vs→RDs W ρ G es us→RDs W ρ G (ds ++ es) (vs ++ us)
 | [],_,vs,_,h,t=>by cases (show vs = [] from h);exact t
 | d :: ds,es,vs,us,⟨v,r,e,h,t'⟩,t=>by subst e;exact .cons h (RDs.app t' t)
theorem RDs.drop:∀ {ds} {vs} (n),RDs W ρ G ds vs→RDs W ρ G (ds.drop n) (vs.drop n)
 | _,_,0,h=>h
 | [],vs,n+1,h=>by cases (show vs = [] from h);exact rfl
 | d :: ds,vs,n+1,⟨v,r,e,h,t⟩=>by subst e;exact RDs.drop n t
theorem RDs.take:∀ {ds} {vs} (n),RDs W ρ G ds vs→RDs W ρ G (ds.take n) (vs.take n)
 | _,_,0,_=>rfl
 | [],vs,n+1,h=>by cases (show vs = [] from h);exact rfl
 | d :: ds,vs,n+1,⟨v,r,e,h,t⟩=>by subst e;exact .cons h (RDs.take n t)
theorem RDs.set:∀ {ds} {vs} (n) {d} {v},RDs W ρ G ds vs→RD W ρ G d v→RDs W ρ G (ds.set n d) (vs.set n v)
 | [],vs,_,_,_,h,_=>by cases (show vs = [] from h);exact rfl
 | d :: ds,vs,0,_,_,⟨v,r,e,h,t⟩,q=>by subst e;exact .cons q t
 | d :: ds,vs,n+1,_,_,⟨v,r,e,h,t⟩,q=>by subst e;exact .cons h (RDs.set n t q)
theorem RDs.rev:∀ {ds} {vs},RDs W ρ G ds vs→RDs W ρ G ds.reverse vs.reverse
 | [],vs,h=>by cases (show vs = [] from h);exact rfl
 | d :: ds,vs,⟨v,r,e,h,t⟩=>by subst e;rw [List.reverse_cons,List.reverse_cons];exact (RDs.rev t).app (.cons h rfl)
end
inductive Oa (h:Hp) (p:Addr×Addr) (Q:List Value→Prop):Prop
 | mk (o:Obj) (vs:List Value) (_:p.2=p.1) (_:h p.1=some o) (_:LsO o vs) (_:Q vs)
inductive Ob (W:Wd) (h:Hp) (p:Addr×Addr) (ks:List Key) (n:Nat) (Q:List Value→Prop):Prop
 | mk (o:Obj) (vs:List Value) (_:p.2=p.1) (_:(p.1 == sysModules)=false) (_:h p.1=some o) (_:DcO W o (ks.zip vs)) (_:ks.length=n) (_:Q vs)
inductive Oi (W:Wd) (h:Hp) (p:Addr×Addr) (c n:Nat) (Q:List Value→Prop):Prop
 | mk (i:CI) (vs:List Value) (_:W.ci[c]? = some i) (_:W.what[c]? = some 0) (_:n≤i.nm.length) (_:InO h p.1 p.2 i.ad (i.nm.zip vs)) (_:Q vs)
def ObR (W:Wd) (ρ:Rs) (G h:Hp) (p:Addr×Addr):O→Prop
 | .lst ds=>Oa h p (RDs W ρ G ds)
 | .dic ks ds=>Ob W h p ks ds.length (RDs W ρ G ds)
 | .ins c ds=>Oi W h p c ds.length (RDs W ρ G ds)
theorem ObR.mono (hp:ρ <+: ρ') (g:Sub G G') (k:∀ a,a=p.1∨a=p.2→∀ o,h a=some o→h' a=some o):∀ {o},ObR W ρ G h p o→ObR W ρ' G' h' p o
 | .lst _,⟨o,vs,z,e,q,r⟩=>⟨o,vs,z,k _ (.inl rfl) _ e,q,r.mono hp g⟩
 | .dic _ _,⟨o,vs,z,m,e,q,l,r⟩=>⟨o,vs,z,m,k _ (.inl rfl) _ e,q,l,r.mono hp g⟩
 | .ins _ _,⟨i,vs,c,w,l,⟨e,n,z,o,e2,q⟩,r⟩=>⟨i,vs,c,w,l,⟨k _ (.inl rfl) _ e,n,z,o,k _ (.inr rfl) _ e2,q⟩,r.mono hp g⟩
theorem ObR.th:∀ {o},ObR W ρ G h p o→(∃ o,h p.1=some o)∧∃ o,h p.2=some o
 | .lst _,⟨o,vs,z,e,_,_⟩=>⟨⟨o,e⟩,z ▸ ⟨o,e⟩⟩
 | .dic _ _,⟨o,vs,z,m,e,_,_,_⟩=>⟨⟨o,e⟩,z ▸ ⟨o,e⟩⟩
 | .ins _ _,⟨i,vs,c,w,l,⟨e,n,z,o,e2,q⟩,r⟩=>⟨⟨_,e⟩,⟨_,e2⟩⟩
def toO:D→Option O
 | .lst l=>some (.lst l)
 | .dic k l=>some (.dic k l)
 | _=>none
structure Cx where
 W:Wd
 K:Fg
 mg:Str→Option Value
 base:Heap
 os:OsState
 Γ:Gm
 cal:Nat→List D→List O→Res
 cal1:Nat→List D→List O→Res
 A:Around
 fr:List Env
 N:List Str
 env:Env
 calm:Bool
 tz:Nat:=0
abbrev Cx.ev (X:Cx) (br:Bool) (e:E):Sta→Out D:=Ev.ev X.Γ X.cal X.cal1 br e
abbrev Cx.evs (X:Cx) (br:Bool) (e:E):Sta→Out (List D):=Ev.evs X.Γ X.cal X.cal1 br e
abbrev Cx.ex (X:Cx) (c:S):Sta→ah:=Ev.exS X.Γ X.cal X.cal1 c
abbrev Cx.M (X:Cx):Model:=model X.W.P X.W.w
structure Z where
 ρ:Rs
 G:Hp
 t:Sta
 σ:List (Option Value)
 s:Shared
abbrev Z.h (z:Z):Hp:=z.s.heap.get?
def Mu (ρ:Rs) (a:Addr):Prop:=∃ p∈ρ,a=p.1∨a=p.2
def Own (z:Z) (a:Addr):Prop:=∃ i∈z.t.ow,z.σ[i]? = some (some (.ref a))
def Lc (X:Cx) (a:Addr):Prop:=a=X.env.locals∨∃ x,X.env.cells.lookup x=some a
structure HR (X:Cx) (z:Z):Prop where
 md:Mod X.K X.mg X.base
 fm:X.A.frames=some X.fr
 hd:X.calm=true→X.A.handled=none
 bs:∀ b o,X.base.get? b=some o→z.G b=some o
 gh:Sub z.G z.h
 rl:z.ρ.length=z.t.st.length
 rn:∀ (i j:Nat) (p q:Addr×Addr) (a:Addr),z.ρ[i]? = some p→z.ρ[j]? = some q→(a=p.1∨a=p.2)→(a=q.1∨a=q.2)→i=j
 rg:∀ a,Mu z.ρ a→z.G a=none
 ob:∀ (n:Nat) (o:O) (p:Addr×Addr),z.t.st[n]? = some o→z.ρ[n]? = some p→ObR X.W z.ρ z.G z.h p o
 fu:z.s.heap.FunFrames X.base X.fr
 ff:∀ b∈frs X.fr,z.G b=none∧¬ Mu z.ρ b
 br:AllBare z.s.gens
 os:z.s.os=X.os
 tk:X.tz≤z.s.toks
structure COk (X:Cx):Prop where
 un:X.A.units+200<cLine
 kd:X.env.scope.kind = .function
 gl:X.env.globals=mainGlobals
 bl:X.env.builtins=builtinsNs
 ci:∀ x y c,X.env.cells.lookup x=some c→X.env.cells.lookup y=some c→x=y
 ch:∀ x,(X.env.kindOf x=some .cell∨X.env.kindOf x=some .free)→∃ c,X.env.cells.lookup x=some c
def Fre (X:Cx) (z:Z) (a:Addr):Prop:=z.G a=none∧¬ Mu z.ρ a∧a ∉ frs X.fr∧¬ Lc X a
structure Rep (X:Cx) (z:Z):Prop extends HR X z where
 ok:COk X
 lo:∃ m,z.s.heap.Ns X.env.locals m∧∀ (i:Nat) (x:Str) (u:Value),X.N[i]? = some x→z.σ[i]? = some (some u)→Vis X.env.scope x→jp X.env z.s.heap m x u
 ce:∀ x c,X.env.cells.lookup x=some c→∃ v,z.s.heap.IsCell c v
 fl:∀ a,Lc X a→z.G a=none∧¬ Mu z.ρ a
 el:z.t.env.length=z.σ.length
 sl:z.σ.length=X.N.length
 en:∀ (i:Nat) (d:D),i ∉ z.t.ow→z.t.env[i]? = some (some d)→∃ u,z.σ[i]? = some (some u)∧RD X.W z.ρ z.G d u
 eo:∀ (i:Nat),i∈z.t.ow→∃ d a o,z.t.env[i]? = some (some d)∧z.σ[i]? = some (some (.ref a))∧toO d=some o∧ObR X.W z.ρ z.G z.h (a,a) o∧Fre X z a
 od:∀ (i j:Nat) (a:Addr),i∈z.t.ow→j∈z.t.ow→z.σ[i]? = some (some (.ref a))→z.σ[j]? = some (some (.ref a))→i=j
structure Stp (fr:List Env) (w:Addr→Prop) (z z':Z):Prop where
 pr:z.ρ <+: z'.ρ
 gg:Sub z.G z'.G
 gn:∀ a o,z'.G a=some o→z.G a=some o∨z.h a=none∨w a
 rn:∀ a,Mu z'.ρ a→Mu z.ρ a∨z.h a=none
 th:∀ a o,z.h a=some o→∃ o',z'.h a=some o'
 sm:∀ a o,z.h a=some o→¬ Mu z.ρ a→¬ w a→a ∉ frs fr→z'.h a=some o
 sl:∀ a o,z.h a=some o→¬ Mu z.ρ a→¬ w a→a∈frs fr→∃ sl,z'.h a=some { o with slots:=sl }
theorem Stp.no (x:Stp fr w z z') (e:z'.h a=none):z.h a=none:=by
 cases q:z.h a with
 | none=>rfl
 | some o=>obtain ⟨o',e'⟩:=x.th a o q;rw [e] at e';cases e'
theorem Stp.refl:Stp fr w z z:=⟨List.prefix_refl _,.refl _,fun _ _ e=>.inl e,fun _ h=>.inl h,fun _ o e=>⟨o,e⟩,fun _ _ e _ _ _=>e,fun _ o e _ _ _=>⟨o.slots,e⟩⟩
theorem Stp.trans (x:Stp fr w z z1) (y:Stp fr w1 z1 z2) (k:∀ a,w1 a→w a∨z.h a=none):Stp fr w z z2:=by
 have nm:∀ a o,z.h a=some o→¬ Mu z.ρ a→¬ Mu z1.ρ a:=fun a o e n m=>(x.rn a m).elim n fun q=>by rw [q] at e;cases e
 have nw:∀ a o,z.h a=some o→¬ w a→¬ w1 a:=fun a o e n m=>(k a m).elim n fun q=>by rw [q] at e;cases e
 refine ⟨x.pr.trans y.pr,x.gg.trans y.gg,fun a o e=>?_,fun a m=>?_,fun a o e=>?_,fun a o e n m f=>y.sm a o (x.sm a o e n m f) (nm a o e n) (nw a o e m) f,fun a o e n m f=>?_⟩
 ·rcases y.gn a o e with q | q | q
  ·exact x.gn a o q
  ·exact .inr (.inl (x.no q))
  ·exact .inr ((k a q).symm)
 ·rcases y.rn a m with q | q
  ·exact x.rn a q
  ·exact .inr (x.no q)
 ·obtain ⟨o1,e1⟩:=x.th a o e;exact y.th a o1 e1
 ·obtain ⟨sl,e1⟩:=x.sl a o e n m f
  obtain ⟨sl2,e2⟩:=y.sl a _ e1 (nm a o e n) (nw a o e m) f
  exact ⟨sl2,e2⟩
theorem Stp.mono (x:Stp fr w z z') (k:∀ a,w a→w' a):Stp fr w' z z':=⟨x.pr,x.gg,fun a o e=>(x.gn a o e).imp_right (·.imp_right (k a)),x.rn,x.th,fun a o e n m=>x.sm a o e n fun q=>m (k a q),fun a o e n m=>x.sl a o e n fun q=>m (k a q)⟩
structure Ee (X:Cx) (z z':Z):Prop where
 st:Stp X.fr (Own z) z z'
 sg:z'.σ=z.σ
 en:z'.t.env=z.t.env
 ow:∀ i∈z'.t.ow,i∈z.t.ow
theorem Ee.refl:Ee X z z:=⟨.refl,rfl,rfl,fun _ h=>h⟩
theorem Ee.own (x:Ee X z z'):Own z' a→Own z a:=fun ⟨i,m,e⟩=>⟨i,x.ow i m,x.sg ▸ e⟩
theorem Ee.trans (x:Ee X z z1) (y:Ee X z1 z2):Ee X z z2:=⟨x.st.trans y.st fun _ o=>.inl (x.own o),y.sg.trans x.sg,y.en.trans x.en,fun i m=>x.ow i (y.ow i m)⟩
def Pv (X:Cx) (z:Z) (a:Addr):Prop:=Own z a∨Lc X a
structure Go (X:Cx) (z z':Z):Prop where
 st:Stp X.fr (Pv X z) z z'
 ow:∀ a,Own z' a→Own z a∨z.h a=none
theorem Go.refl:Go X z z:=⟨.refl,fun _ o=>.inl o⟩
theorem Go.trans (x:Go X z z1) (y:Go X z1 z2):Go X z z2:=by
 refine ⟨x.st.trans y.st fun a o=>o.elim (fun q=>(x.ow a q).imp_left .inl) fun q=>.inl (.inr q),fun a o=>?_⟩
 rcases y.ow a o with q | q
 ·exact x.ow a q
 ·exact .inr (x.st.no q)
theorem Ee.go (x:Ee X z z'):Go X z z':=⟨x.st.mono fun _=>.inl,fun _ o=>.inl (x.own o)⟩
def RB (W:Wd) (z:Z) (d:D) (u:Value):Prop:=RD W z.ρ z.G d u∨∃ i∈z.t.ow,z.σ[i]? = some (some u)∧z.t.env[i]? = some (some d)
def RV (W:Wd) (br:Bool) (c:E) (z:Z) (d:D) (u:Value):Prop:=RD W z.ρ z.G d u∨(br=true∧∃ i,c = .v i∧i∈z.t.ow∧z.σ[i]? = some (some u)∧z.t.env[i]? = some (some d))
theorem RV.of (h:RD W z.ρ z.G d u):RV W br c z d u:=.inl h
theorem RV.rd (h:RV W false c z d u):RD W z.ρ z.G d u:=h.elim id fun ⟨z,_⟩=>nomatch z
theorem RV.rb (h:RV W br c z d u):RB W z d u:=h.elim .inl fun ⟨_,i,_,m,e⟩=>.inr ⟨i,m,e⟩
theorem RD.st (h:RD W z.ρ z.G d u) (x:Stp fr w z z'):RD W z'.ρ z'.G d u:=h.mono x.pr x.gg
theorem RV.st (h:RV X.W br c z d u) (x:Ee X z z') (I:Rep X z'):RV X.W br c z' d u:=by
 rcases h with h | ⟨b,i,hc,m,e1,e2⟩
 ·exact .inl (h.st x.st)
 ·by_cases q:i∈z'.t.ow
  ·exact .inr ⟨b,i,hc,q,x.sg ▸ e1,x.en ▸ e2⟩
  ·obtain ⟨u',e3,r⟩:=I.en i d q (x.en ▸ e2)
   rw [x.sg,e1] at e3;cases e3
   exact .inl r
theorem RB.st (h:RB X.W z d u) (x:Ee X z z') (I:Rep X z'):RB X.W z' d u:=by
 rcases h with h | ⟨i,m,e1,e2⟩
 ·exact .inl (h.st x.st)
 ·by_cases q:i∈z'.t.ow
  ·exact .inr ⟨i,q,x.sg ▸ e1,x.en ▸ e2⟩
  ·obtain ⟨u',e3,r⟩:=I.en i d q (x.en ▸ e2)
   rw [x.sg,e1] at e3;cases e3
   exact .inl r
def CR (W:Wd) (z:Z):D→Value→Prop
 | .lst ds,v=>Ra z.h LsO (RDs W z.ρ z.G ds) v
 | .dic ks ds,v=>Rb W z.h ks ds.length (RDs W z.ρ z.G ds) v
 | d,v=>RD W z.ρ z.G d v
theorem CR.of (I:HR X z):∀ {d},RD X.W z.ρ z.G d u→CR X.W z d u
 | .non,h=>h
 | .bl _,h=>h
 | .int _,h=>h
 | .str _,h=>h
 | .ref _,h=>h
 | .ins _ _,h=>h
 | .tup _,h=>h
 | .lst _,⟨a,o,vs,e,g,q,r⟩=>⟨a,o,vs,e,I.gh _ _ g,q,r⟩
 | .dic _ _,⟨a,o,vs,e,m,g,q,l,r⟩=>⟨a,o,vs,e,m,I.gh _ _ g,q,l,r⟩
theorem CR.ob {d:D} (e:toO d=some o) (h:ObR W z.ρ z.G z.h (a,b) o):CR W z d (.ref a):=by
 cases d <;> cases e
 ·obtain ⟨o,vs,_,e,l,r⟩:=h;exact ⟨a,o,vs,rfl,e,l,r⟩
 ·obtain ⟨o,vs,_,m,e,l,n,r⟩:=h;exact ⟨a,o,vs,rfl,m,e,l,n,r⟩
theorem RB.cr0 (I:Rep X z) (h:RB X.W z d u):CR X.W z d u:=by
 rcases h with h | ⟨i,m,e1,e2⟩
 ·exact .of I.toHR h
 ·obtain ⟨d',a,o,e3,e4,e5,r,_⟩:=I.eo i m
  rw [e1] at e4;cases e4
  rw [e2] at e3;cases e3
  exact .ob e5 r
theorem RB.cr (I:Rep X z) (h:RB X.W z d u):CR X.W z (look z.t.st d) u:=by
 have c:=h.cr0 I
 cases d with
 | ref n=>
   obtain ⟨p,e,rfl⟩:=(show RD X.W z.ρ z.G (.ref n) u from c)
   show CR X.W z (match z.t.st[n]? with | some (.lst l)=>.lst l | some (.dic k l)=>.dic k l | _=>.ref n) _
   cases q:z.t.st[n]? with
   | none=>exact c
   | some o=>
     have r:=I.ob n o p q e
     cases o with
     | lst l=>exact .ob (d:=.lst l) rfl r
     | dic k l=>exact .ob (d:=.dic k l) rfl r
     | ins _ _=>exact c
 | _=>exact c
structure Gr (s s':Shared):Prop where
 os:s'.os=s.os
 gs:s'.gens=s.gens
 k:∀ b o,s.heap.get? b=some o→s'.heap.get? b=some o
theorem Gr.refl:Gr s s:=⟨rfl,rfl,fun _ _ e=>e⟩
theorem Gr.trans (x:Gr s s1) (y:Gr s1 s2):Gr s s2:=⟨y.os.trans x.os,y.gs.trans x.gs,fun b o e=>y.k b o (x.k b o e)⟩
theorem Gr.tok {s:Shared} {t:Nat}:Gr s { s with toks:=t }:=⟨rfl,rfl,fun _ _ e=>e⟩
theorem Gr.hp {s:Shared} {h:Heap} {t:Nat} (k:∀ b o,s.heap.get? b=some o→h.get? b=some o):Gr s { s with heap:=h,toks:=t }:=⟨rfl,rfl,k⟩
theorem Gr.push {s:Shared} {o:Obj} {t:Nat}:Gr s { s with heap:=s.heap.push o,toks:=t }:=.hp fun _ _ e=>Heap.get?_push_of_some _ e
structure Grw (z:Z) (G':Hp) (s':Shared):Prop where
 gr:Gr z.s s'
 gg:Sub z.G G'
 gh:Sub G' s'.heap.get?
 gn:∀ a o,G' a=some o→z.G a=some o∨z.h a=none
theorem nfu {h h':Heap} (x:h.FunFrames base l) (k:∀ b o,h.get? b=some o→h'.get? b=some o):h'.FunFrames base l:=x.of_keeps fun b o e _=>⟨o,k b o e,rfl⟩
theorem HR.th (I:HR X z) (m:Mu z.ρ a):∃ o,z.h a=some o:=by
 obtain ⟨p,hp,e⟩:=m
 obtain ⟨n,hn⟩:=List.mem_iff_getElem?.mp hp
 have lt:n<z.t.st.length:=by rw [← I.rl];exact (List.getElem?_eq_some_iff.mp hn).1
 obtain ⟨h1,h2⟩:=(I.ob n _ p (List.getElem?_eq_getElem lt) hn).th
 rcases e with rfl | rfl
 ·exact h1
 ·exact h2
theorem HR.fth (I:HR X z) (m:b∈frs X.fr):∃ o,z.h b=some o:=let ⟨_,o,e,_⟩:=I.fu.mem m;⟨o,e⟩
section
variable {X:Cx} {z:Z} {G':Hp} {s':Shared}
theorem HR.tk1 (I:HR X z):X.tz≤z.s.toks+1:=Nat.le_succ_of_le I.tk
theorem HR.tk2 (I:HR X z):X.tz≤z.s.toks+2:=Nat.le_succ_of_le I.tk1
theorem HR.tk3 (I:HR X z):X.tz≤z.s.toks+3:=Nat.le_succ_of_le I.tk2
theorem HR.grow (I:HR X z) (g:Grw z G' s') (tk:X.tz≤s'.toks:=by first | assumption | exact HR.tk (by assumption) | exact HR.tk1 (by assumption)):HR X { z with G:=G',s:=s' }:=by
 have nn:∀ {a:Addr},(∃ o,z.h a=some o)→z.G a=none→G' a=none:=fun {a} ⟨o,e⟩ n=>by
  cases q:G' a with
  | none=>rfl
  | some o'=>rcases g.gn a o' q with z | z;rw [n] at z;cases z;rw [z] at e;cases e
 exact ⟨I.md,I.fm,I.hd,fun b o e=>g.gg _ _ (I.bs b o e),g.gh,I.rl,I.rn,fun a m=>nn (I.th m) (I.rg a m),fun n o p h1 h2=>(I.ob n o p h1 h2).mono (List.prefix_refl _) g.gg fun a _ o e=>g.gr.k a o e,nfu I.fu g.gr.k,fun b m=>⟨nn (I.fth m) (I.ff b m).1,(I.ff b m).2⟩,by rw [g.gr.gs];exact I.br,g.gr.os.trans I.os,tk⟩
theorem Rep.lth (I:Rep X z) (l:Lc X a):∃ o,z.h a=some o:=by
 rcases l with rfl | ⟨x,e⟩
 ·obtain ⟨m,⟨o,_,_,e,_⟩,_⟩:=I.lo;exact ⟨o,e⟩
 ·obtain ⟨v,o,e,_⟩:=I.ce x a e;exact ⟨o,e⟩
theorem Rep.oth (I:Rep X z) (o:Own z a):Fre X z a∧∃ o,z.h a=some o:=by
 obtain ⟨i,m,e⟩:=o
 obtain ⟨d,b,o,_,e2,_,r,f⟩:=I.eo i m
 rw [e] at e2;cases e2
 exact ⟨f,r.th.1⟩
theorem cL {h h':Heap} (k:∀ c v,env.cells.lookup x=some c→h.IsCell c v→h'.IsCell c v) (l:jp env h m x u):jp env h' m x u:=l.imp_right fun ⟨a,c,e,q⟩=>⟨a,c,e,k c _ e q⟩
theorem Rep.fre (I:Rep X z) (n:z.h a=none):Fre X z a∧¬ Own z a:=by
 have no:∀ {P:Prop},(P→∃ o,z.h a=some o)→¬ P:=fun k p=>by obtain ⟨o,e⟩:=k p;rw [n] at e;cases e
 refine ⟨⟨?_,no I.th,no I.fth,no I.lth⟩,no fun o=>(I.oth o).2⟩
 cases q:z.G a with
 | none=>rfl
 | some o=>have:=I.gh a o q;rw [n] at this;cases this
theorem sV {h h':Heap} (sl:∀ b o,h.get? b=some o→∃ sl,h'.get? b=some { o with slots:=sl }) (n:h.Ns a m):h'.Ns a m:=let ⟨o,es,ep,e,r⟩:=n;let ⟨_,q⟩:=sl a o e;⟨_,es,ep,q,r⟩
theorem ef {h h':Heap} (sl:∀ b o,h.get? b=some o→∃ sl,h'.get? b=some { o with slots:=sl }) (n:h.IsCell c v):h'.IsCell c v:=let ⟨o,e,d⟩:=n;let ⟨_,q⟩:=sl c o e;⟨_,q,d⟩
theorem Rep.grw (I:Rep X z) (tk:X.tz≤s'.toks) (os:s'.os=z.s.os) (br:AllBare s'.gens) (k:∀ b o,z.h b=some o→b ∉ frs X.fr→s'.heap.get? b=some o) (sl:∀ b o,z.h b=some o→∃ sl,s'.heap.get? b=some { o with slots:=sl })
 (gg:Sub z.G G') (gh:Sub G' s'.heap.get?) (gn:∀ a o,G' a=some o→z.G a=some o∨(Fre X z a∧¬ Own z a)):Rep X { z with G:=G',s:=s' }:=by
 have nn:∀ {a:Addr},¬ (Fre X z a∧¬ Own z a)→z.G a=none→G' a=none:=fun {a} f n=>by
  cases q:G' a with
  | none=>rfl
  | some o'=>rcases gn a o' q with z | z;rw [n] at z;cases z;exact (f z).elim
 refine ⟨⟨I.md,I.fm,I.hd,fun b o e=>gg _ _ (I.bs b o e),gh,I.rl,I.rn,fun a m=>nn (fun f=>f.1.2.1 m) (I.rg a m),fun n o p h1 h2=>(I.ob n o p h1 h2).mono (List.prefix_refl _) gg fun a ha o e=>k a o e fun m=>(I.ff a m).2 ⟨p,List.mem_of_getElem? h2,ha⟩,I.fu.of_keeps fun b o e _=>let ⟨_,q⟩:=sl b o e;⟨_,q,rfl⟩,fun b m=>⟨nn (fun f=>f.1.2.2.1 m) (I.ff b m).1,(I.ff b m).2⟩,br,os.trans I.os,tk⟩,I.ok,?_,fun x c e=>let ⟨v,q⟩:=I.ce x c e;⟨v,ef sl q⟩,fun a l=>⟨nn (fun f=>f.1.2.2.2 l) (I.fl a l).1,(I.fl a l).2⟩,I.el,I.sl,fun i d n e=>let ⟨u,q,r⟩:=I.en i d n e;⟨u,q,r.mono (List.prefix_refl _) gg⟩,fun i m=>?_,I.od⟩
 ·obtain ⟨m,hn,hl⟩:=I.lo
  exact ⟨m,sV sl hn,fun i x u h1 h2 h3=>cL (fun c v _ q=>ef sl q) (hl i x u h1 h2 h3)⟩
 ·obtain ⟨d,a,o,h1,h2,h3,r,f⟩:=I.eo i m
  exact ⟨d,a,o,h1,h2,h3,r.mono (List.prefix_refl _) gg fun b hb o e=>k b o e (by rcases hb with rfl | rfl <;> exact f.2.2.1),nn (fun f=>f.2 ⟨i,m,h2⟩) f.1,f.2⟩
theorem Rep.grow (I:Rep X z) (g:Grw z G' s') (tk:X.tz≤s'.toks:=by first | assumption | exact HR.tk (by assumption) | exact HR.tk1 (by assumption) | exact (Rep.toHR (by assumption)).tk | exact (Rep.toHR (by assumption)).tk1 | exact HR.tk2 (Rep.toHR (by assumption)) | exact HR.tk3 (Rep.toHR (by assumption))):Rep X { z with G:=G',s:=s' }:=I.grw tk g.gr.os (by rw [g.gr.gs];exact I.br) (fun b o e _=>g.gr.k b o e) (fun b o e=>⟨o.slots,g.gr.k b o e⟩) g.gg g.gh fun a o e=>(g.gn a o e).imp_right I.fre
theorem Grw.stp (g:Grw z G' s'):Stp fr w z { z with G:=G',s:=s' }:=⟨List.prefix_refl _,g.gg,fun a o e=>(g.gn a o e).imp_right .inl,fun _ m=>.inl m,fun a o e=>⟨o,g.gr.k a o e⟩,fun a o e _ _ _=>g.gr.k a o e,fun a o e _ _ _=>⟨o.slots,g.gr.k a o e⟩⟩
theorem Grw.ee (g:Grw z G' s'):Ee X z { z with G:=G',s:=s' }:=⟨g.stp,rfl,rfl,fun _ h=>h⟩
end
def Z.up (z:Z) (s':Shared):Z:={ z with G:=fun a=>match z.h a with | none=>s'.heap.get? a | some _=>z.G a,s:=s' }
theorem iy {z:Z} {s':Shared} (n:z.h a=none):(z.up s').G a=s'.heap.get? a:=by show (match z.h a with | none=>s'.heap.get? a | some _=>z.G a)=_;rw [n]
theorem cy {z:Z} {s':Shared} (I:Sub z.G z.h) (g:Gr z.s s'):Grw z (z.up s').G s':=by
 refine ⟨g,fun a o e=>?_,fun a o e=>?_,fun a o e=>?_⟩
 ·show (match z.h a with | none=>s'.heap.get? a | some _=>z.G a)=_
  rw [I a o e];exact e
 ·revert e
  show (match z.h a with | none=>s'.heap.get? a | some _=>z.G a)=_→_
  cases q:z.h a with
  | none=>exact fun e=>e
  | some u=>exact fun e=>g.k a o (I a o e)
 ·cases q:z.h a with
  | none=>exact .inr rfl
  | some u=>
    revert e
    show (match z.h a with | none=>s'.heap.get? a | some _=>z.G a)=_→_
    rw [q];exact .inl
theorem am {z:Z} {s':Shared} (I:Sub z.G z.h) (g:Gr z.s s'):Grw z z.G s':=⟨g,.refl _,fun a o e=>g.k a o (I a o e),fun _ _ e=>.inl e⟩
def iD (z:Z) (p:Nat→Bool) (a:Addr):Prop:=∃ i∈z.t.ow,p i=false∧z.σ[i]? = some (some (.ref a))
open Classical in
noncomputable def Z.rel (z:Z) (p:Nat→Bool):Z:={ z with t:=⟨z.t.env,z.t.ow.filter p,z.t.st⟩,G:=fun a=>if iD z p a then z.h a else z.G a }
theorem eu {z:Z} (h:iD z p a):(z.rel p).G a=z.h a:=if_pos h
theorem cN {z:Z} (h:¬ iD z p a):(z.rel p).G a=z.G a:=if_neg h
theorem ig {d:D} (e:toO d=some o) (r:ObR W ρ G h (a,b) o) (g:Sub G G') (q:G' a=h a):RD W ρ G' d (.ref a):=by
 cases d <;> cases e
 ·obtain ⟨o,vs,_,e,l,t⟩:=r;exact ⟨a,o,vs,rfl,q.trans e,l,t.mono (List.prefix_refl _) g⟩
 ·obtain ⟨o,vs,_,m,e,l,n,t⟩:=r;exact ⟨a,o,vs,rfl,m,q.trans e,l,n,t.mono (List.prefix_refl _) g⟩
theorem Rep.rel (I:Rep X z) (p:Nat→Bool):Rep X (z.rel p)∧Ee X z (z.rel p):=by
 have own:∀ {a},iD z p a→Own z a:=fun ⟨i,m,_,e⟩=>⟨i,m,e⟩
 have gg:Sub z.G (z.rel p).G:=fun a o e=>by
  by_cases q:iD z p a
  ·rw [(I.oth (own q)).1.1] at e;cases e
  ·rw [cN q];exact e
 have nn:∀ {a},¬ Own z a→z.G a=none→(z.rel p).G a=none:=fun n g=>by rw [cN fun q=>n (own q)];exact g
 refine ⟨⟨⟨I.md,I.fm,I.hd,fun b o e=>gg _ _ (I.bs b o e),fun a o e=>?_,I.rl,I.rn,fun a m=>nn (fun q=>(I.oth q).1.2.1 m) (I.rg a m),fun n o p h1 h2=>(I.ob n o p h1 h2).mono (List.prefix_refl _) gg fun _ _ _ e=>e,I.fu,fun b m=>⟨nn (fun q=>(I.oth q).1.2.2.1 m) (I.ff b m).1,(I.ff b m).2⟩,I.br,I.os,I.tk⟩,I.ok,I.lo,I.ce,fun a l=>⟨nn (fun q=>(I.oth q).1.2.2.2 l) (I.fl a l).1,(I.fl a l).2⟩,I.el,I.sl,fun i d n e=>?_,fun i m=>?_,fun i j a m1 m2=>I.od i j a (List.mem_filter.mp m1).1 (List.mem_filter.mp m2).1⟩,⟨⟨List.prefix_refl _,gg,fun a o e=>?_,fun _ m=>.inl m,fun a o e=>⟨o,e⟩,fun _ _ e _ _ _=>e,fun _ o e _ _ _=>⟨o.slots,e⟩⟩,rfl,rfl,fun i m=>(List.mem_filter.mp m).1⟩⟩
 ·by_cases q:iD z p a
  ·rw [eu q] at e;exact e
  ·rw [cN q] at e;exact I.gh a o e
 ·by_cases m:i∈z.t.ow
  ·have pf:p i=false:=by
    cases q:p i with
    | false=>rfl
    | true=>exact absurd (List.mem_filter.mpr ⟨m,q⟩) n
   obtain ⟨d',a,o,h1,h2,h3,r,f⟩:=I.eo i m
   rw [show z.t.env[i]? = some (some d) from e] at h1;cases h1
   exact ⟨_,h2,ig h3 r gg (eu ⟨i,m,pf,h2⟩)⟩
  ·obtain ⟨u,q,r⟩:=I.en i d m e
   exact ⟨u,q,r.mono (List.prefix_refl _) gg⟩
 ·obtain ⟨m1,m2⟩:=List.mem_filter.mp m
  obtain ⟨d',a,o,h1,h2,h3,r,f⟩:=I.eo i m1
  refine ⟨d',a,o,h1,h2,h3,r.mono (List.prefix_refl _) gg fun _ _ _ e=>e,?_,f.2⟩
  refine (cN fun ⟨j,mj,pj,ej⟩=>?_).trans f.1
  rw [I.od j i a mj m1 ej h2,m2] at pj;cases pj
 ·by_cases q:iD z p a
  ·exact .inr (.inr (own q))
  ·rw [cN q] at e;exact .inl e
inductive Tr (h:Heap) (a:Addr) (cls:Value) (dx:Option Addr) (T:Addr) (fl:Value):Prop
 | mk (oe:_) (vs:_) (oT:_) (ts:_) (_:h.get? a=some oe) (_:(oe.cls=cls∧oe.dict=dx)) (_:oe.data = .fields vs) (_:vs[1]? = some (.ref T)) (_:T≠a) (_:h.get? T=some oT) (_:oT.data = .fields ts) (_:ts[3]? = some fl)
inductive Rw (h:Heap) (a:Addr) (cls:Value) (dx:Option Addr):Prop
 | mk (oe:_) (vs:_) (_:h.get? a=some oe) (_:(oe.cls=cls∧oe.dict=dx)) (_:oe.data = .fields vs) (_:vs[1]? = some .none)
inductive XI (W:Wd) (ρ:Rs) (G:Hp) (c:Nat) (l:List D) (cls:Value) (dx:Option Addr):Prop
 | mk (i:CI) (_:W.ci[c]? = some i) (_:W.what[c]? = some 2) (_:cls = .ref i.ad) (_:l.length≤i.nm.length) (_:(l = []∧dx=none)∨∃ d od vs,dx=some d∧G d=some od∧NsO od (i.nm.zip vs)∧RDs W ρ G l vs)
def XR (W:Wd) (z:Z) (c:Nat) (l:List D) (cls:Value) (dx:Option Addr):Prop:=XI W z.ρ z.G c l cls dx
def Nob (X:Cx) (z z':Z) (a:Addr):Prop:=z.h a=none∧Fre X z' a∧¬ Own z' a
inductive XO (X:Cx) (z z':Z) (c:Nat) (l:List D) (e:Value):Prop
 | mk (a:_) (cls:_) (dx:_) (_:e = .ref a) (_:XR X.W z' c l cls dx) (_:Nob X z z' a) (_:(Rw z'.s.heap a cls dx∨∃ T fl,Tr z'.s.heap a cls dx T fl∧(fl = .none∨∃ L,X.env.frame=some L∧fl=rawInt L)∧Nob X z z' T))
theorem XO.less (h:XO X z1 z' c l e) (k:∀ a,z1.h a=none→z.h a=none):XO X z z' c l e:=by
 obtain ⟨a,cls,dx,e,r,n,h⟩:=h
 exact ⟨a,cls,dx,e,r,⟨k a n.1,n.2⟩,h.imp_right fun ⟨T,fl,t,q,n⟩=>⟨T,fl,t,q,k T n.1,n.2⟩⟩
section
variable {α β γ δ:Type} {X:Cx}
inductive Pe (X:Cx) (z:Z) (o:Out α) (R:Z→α→β→Prop) (u:β) (s':Shared):Prop
 | mk (z':_) (d:_) (_:z'.s=s') (_:o = .ok d z'.t) (_:Ee X z z') (_:Rep X z') (_:R z' d u)
inductive Px (X:Cx) (z:Z) (o:Out α) (x:Value) (s':Shared):Prop
 | mk (z':_) (c:_) (l:_) (_:z'.s=s') (_:o = .exc c l z'.t) (_:Ee X z z') (_:Rep X z') (_:XO X z z' c l x)
abbrev Wp (X:Cx) (t:Sem β) (z:Z) (o:Out α) (R:Z→α→β→Prop):Prop:=wpAny X.M X.A t (Pe X z o R) (Px X z o) z.s
def Jg (X:Cx) (t:Sem β) (m:Sta→Out α) (R:Z→α→β→Prop):Prop:=∀ z,Rep X z→m z.t≠.bad→Wp X t z (m z.t) R
theorem Pe.less {z1:Z} {o:Out α} {R:Z→α→β→Prop} (x:Ee X z z1) (h:Pe X z1 o R u s'):Pe X z o R u s':=let ⟨z',d,e,q,y,J,r⟩:=h;⟨z',d,e,q,x.trans y,J,r⟩
theorem Px.less {z1:Z} {o:Out α} (x:Ee X z z1) (h:Px X z1 o u s'):Px X z o u s':=let ⟨z',c,l,e,q,y,r,n⟩:=h;⟨z',c,l,e,q,x.trans y,r,n.less fun _=>x.st.no⟩
theorem Px.map {o:Out α} {f:α→Sta→Out γ} (h:Px X z o u s'):Px X z (o.bind f) u s':=let ⟨z',c,l,e,q,y,J,r⟩:=h;⟨z',c,l,e,by rw [q];rfl,y,J,r⟩
theorem Wp.less {t:Sem β} {z1:Z} {o:Out α} {R:Z→α→β→Prop} (x:Ee X z z1) (h:Wp X t z1 o R):wpAny X.M X.A t (Pe X z o R) (Px X z o) z1.s:=wpAny_mono h (fun _ _ h=>h.less x) fun _ _ h=>h.less x
theorem Jg.go {t:Sem β} {m:Sta→Out α} {R:Z→α→β→Prop} {f:α→Sta→Out γ} {o:Out γ} {K:β→Shared→Prop} (h:Jg X t m R) (x:Ee X z z1) (I:Rep X z1) (e:o=(m z1.t).bind f) (nb:o≠.bad)
 (k:∀ z2 d u,Ee X z1 z2→Ee X z z2→Rep X z2→R z2 d u→o=f d z2.t→K u z2.s):wpAny X.M X.A t K (Px X z o) z1.s:=by
 subst e
 refine wpAny_mono (h z1 I fun q=>nb (by rw [q];rfl)) (fun u s' ⟨z2,d,e,q,y,I1,r⟩=>?_) fun u s' h=>(h.less x).map
 subst e;exact k z2 d u y (x.trans y) I1 r (by rw [q];rfl)
theorem Jg.at {t:Sem β} {m:Sta→Out α} {R:Z→α→β→Prop} {o:Out α} (h:Jg X t m R) (x:Ee X z z1) (I:Rep X z1) (e:o=m z1.t) (nb:o≠.bad):wpAny X.M X.A t (Pe X z o R) (Px X z o) z1.s:=by subst e;exact (h z1 I nb).less x
theorem aL {M:Model} {A:Around} {s:Shared} {t:Sem β} {Q:β→Shared→Prop} {E:Value→Shared→Prop} {n:Nat} (h0:n≤s.toks) (h:wpAny M A t (fun a s'=>n≤s'.toks→Q a s') E s):wpAny M A t Q E s:=wpAny_mono (wpAny_toks_of h0 h) (fun _ _ k=>k.2 k.1) fun _ _ k=>k.2
def Dn (X:Cx) (z:Z) (d:D) (u:Value) (s':Shared):Prop:=Gr z.s s'∧RD X.W z.ρ (z.up s').G d u
theorem Dn.pe (I:Rep X z) (h:Dn X z d u s') (tk:X.tz≤s'.toks:=by first | assumption | exact HR.tk (by assumption) | exact HR.tk1 (by assumption) | exact (Rep.toHR (by assumption)).tk | exact (Rep.toHR (by assumption)).tk1 | exact HR.tk2 (Rep.toHR (by assumption)) | exact HR.tk3 (Rep.toHR (by assumption))):Pe X z (.ok d z.t) (RV X.W br c) u s':=⟨z.up s',d,rfl,rfl,(cy I.gh h.1).ee,I.grow (cy I.gh h.1),.of h.2⟩
theorem Dn.flat {s':Shared} (g:Gr z.s s') (h:∀ G,RD X.W z.ρ G d u):Dn X z d u s':=⟨g,h _⟩
theorem Dn.old (I:Rep X z) {s':Shared} (g:Gr z.s s') (h:RD X.W z.ρ z.G d u):Dn X z d u s':=⟨g,h.mono (List.prefix_refl _) (cy I.gh g).gg⟩
theorem Dn.at (x:Ee X z0 z) (I:Rep X z) (e:o = .ok d z.t) (h:Dn X z d u s') (tk:X.tz≤s'.toks:=by first | assumption | exact HR.tk (by assumption) | exact HR.tk1 (by assumption) | exact (Rep.toHR (by assumption)).tk | exact (Rep.toHR (by assumption)).tk1 | exact HR.tk2 (Rep.toHR (by assumption)) | exact HR.tk3 (Rep.toHR (by assumption))):Pe X z0 o (RV X.W br c) u s':=e ▸ (h.pe I tk).less x
theorem b7 {t:Sem Value} {o:Out D} (x:Ee X z0 z) (I:Rep X z) (e:o=Out.of z.t od) (nb:o≠.bad) (h:∀ d,od=some d→wpAny X.M X.A t (Dn X z d) (fun _ _=>False) z.s):wpAny X.M X.A t (Pe X z0 o (RV X.W br c)) (Px X z0 o) z.s:=by
 cases od with
 | none=>exact absurd e nb
 | some d=>exact wpAny_mono (wpAny_toks_of I.tk (h d rfl)) (fun _ _ h=>h.2.at x I e h.1) fun _ _ z=>z.2.elim
end
theorem big (h:n≤100000):n≤sizeLine:=Nat.le_trans h (by rw [sizeLine_eq];decide)
theorem iL:∀ {ds es} {b},eN f ds es=some b→(∀ j (h1:j<ds.length) (h2:j<es.length),∃ c,f ds[j] es[j]=some c)∧b=(List.range (min ds.length es.length)).all fun j=>(f (ds[j]?.getD .non) (es[j]?.getD .non)).getD false
 | [],es,b,h=>by cases h;exact ⟨fun j h=>absurd h (Nat.not_lt_zero _),by simp⟩
 | d :: ds,[],b,h=>by cases h;exact ⟨fun j _ h=>absurd h (Nat.not_lt_zero _),by simp⟩
 | d :: ds,e :: es,b,h=>by
   unfold eN at h
   cases q:f d e with
   | none=>rw [q] at h;cases h
   | some x=>
     rw [q] at h
     cases q2:eN f ds es with
     | none=>rw [q2] at h;cases h
     | some y=>
       rw [q2] at h
       cases h
       obtain ⟨i1,i2⟩:=iL q2
       refine ⟨fun j h1 h2=>?_,?_⟩
       ·cases j with
        | zero=>exact ⟨x,q⟩
        | succ j=>exact i1 j (Nat.lt_of_succ_lt_succ h1) (Nat.lt_of_succ_lt_succ h2)
       ·have m:min (d :: ds).length (e :: es).length=min ds.length es.length+1:=by simp only [List.length_cons];omega
        rw [m,List.range_succ_eq_map,List.all_cons,List.all_map,i2]
        simp only [List.getElem?_cons_zero,Option.getD_some,q]
        rfl
theorem vk (f:sh d=1):∃ l,d = .tup l:=by cases d <;> first | exact ⟨_,rfl⟩ | cases f
theorem vj (f:sh d=2):∃ l,d = .lst l:=by cases d <;> first | exact ⟨_,rfl⟩ | cases f
theorem sY (d:D):sh d<4:=by cases d <;> exact Nat.le_of_ble_eq_true rfl
theorem vm:∀ x y:Fin 4,¬ (x.1=3∨y.1=3)→¬ (x.1=0∧y.1=0)→¬ x.1=y.1→(x.1=0∧(y.1=1∨y.1=2))∨((x.1=1∨x.1=2)∧y.1=0)∨(x.1=1∧y.1=2)∨(x.1=2∧y.1=1):=by decide +kernel
theorem mL (h:eq0 d e=some b):(sh d=0∧sh e=0∧b=eqf d e)∨(b=false∧((sh d=0∧(sh e=1∨sh e=2))∨((sh d=1∨sh d=2)∧sh e=0)∨(sh d=1∧sh e=2)∨(sh d=2∧sh e=1))):=by
 unfold eq0 at h
 split at h
 ·cases h
 ·rename_i h3
  split at h
  ·rename_i h0;cases h;exact .inl ⟨h0.1,h0.2,rfl⟩
  ·split at h
   ·cases h
   ·cases h
    refine .inr ⟨rfl,?_⟩
    rename_i h0 h1
    exact vm ⟨sh d,sY d⟩ ⟨sh e,sY e⟩ h3 h0 h1
theorem lI (h:eqv (n+1) d e=some b):(∃ da db y,d = .tup da∧e = .tup db∧eN (eqv n) da db=some y∧b=(y && da.length == db.length)) ∨
 (∃ da db,d = .lst da∧e = .lst db∧((da.length=db.length∧eN (eqv n) da db=some b)∨(da.length≠db.length∧b=false)))∨eq0 d e=some b:=by
 cases d with
 | tup da=>cases e with
   | tup db=>
     obtain ⟨y,a,c⟩:=Option.map_eq_some_iff.mp (show (eN (eqv n) da db).map (· && da.length == db.length)=some b from h)
     exact .inl ⟨da,db,y,rfl,rfl,a,c.symm⟩
   | _=>exact .inr (.inr h)
 | lst da=>cases e with
   | lst db=>
     have h':(if da.length=db.length then eN (eqv n) da db else some false)=some b:=h
     split at h'
     ·rename_i z;exact .inr (.inl ⟨da,db,rfl,rfl,.inl ⟨z,h'⟩⟩)
     ·rename_i z;cases h';exact .inr (.inl ⟨da,db,rfl,rfl,.inr ⟨z,rfl⟩⟩)
   | _=>exact .inr (.inr h)
 | _=>exact .inr (.inr h)
open SeqAt
def E3 (A:Around) (s:Shared) (u v:Value) (b:Bool):Prop:=EqAt A s u v b∧RcAt A s u v b∧RcNeAt A s u v (!b)
theorem qo (f1:sh d=0) (f2:sh e=0) (h1:RD W ρ G d u) (h2:RD W ρ G e v):(u=v→eqf d e=true)∧∀ A s,E3 A s u v (eqf d e):=by
 cases d with
 | non=>
   cases (show u=Value.none from h1)
   cases e with
   | non=>cases (show v=Value.none from h2);exact ⟨fun _=>rfl,fun A s=>⟨.same _,.none_none,.none_none⟩⟩
   | bl b=>cases (show v=Value.bool b from h2);exact ⟨nofun,fun A s=>⟨.none_bool _,.none_bool _,.none_bool _⟩⟩
   | int b=>obtain ⟨t,rfl⟩:=(show ∃ t,v=Value.int b t from h2);exact ⟨nofun,fun A s=>⟨.none_int _ _,.none_int _ _,.none_int _ _⟩⟩
   | str b=>obtain ⟨t,rfl⟩:=(show ∃ t,v=Value.str b t from h2);exact ⟨nofun,fun A s=>⟨.none_str _ _,.none_str _ _,.none_str _ _⟩⟩
   | _=>cases f2
 | bl a=>
   cases (show u=Value.bool a from h1)
   cases e with
   | non=>cases (show v=Value.none from h2);exact ⟨nofun,fun A s=>⟨.bool_none _,.bool_none _,.bool_none _⟩⟩
   | bl b=>cases (show v=Value.bool b from h2);exact ⟨fun z=>by cases z;exact beq_self_eq_true a,fun A s=>⟨.bool_bool _ _,.bool_bool _ _,.bool_bool _ _⟩⟩
   | int b=>obtain ⟨t,rfl⟩:=(show ∃ t,v=Value.int b t from h2);exact ⟨nofun,fun A s=>⟨.bool_int _ _ _,.bool_int _ _ _,.bool_int _ _ _⟩⟩
   | str b=>obtain ⟨t,rfl⟩:=(show ∃ t,v=Value.str b t from h2);exact ⟨nofun,fun A s=>⟨.bool_str _ _ _,.bool_str _ _ _,.bool_str _ _ _⟩⟩
   | _=>cases f2
 | int a=>
   obtain ⟨t,rfl⟩:=(show ∃ t,u=Value.int a t from h1)
   cases e with
   | non=>cases (show v=Value.none from h2);exact ⟨nofun,fun A s=>⟨.int_none _ _,.int_none _ _,.int_none _ _⟩⟩
   | bl b=>cases (show v=Value.bool b from h2);exact ⟨nofun,fun A s=>⟨.int_bool _ _ _,.int_bool _ _ _,.int_bool _ _ _⟩⟩
   | int b=>obtain ⟨t,rfl⟩:=(show ∃ t,v=Value.int b t from h2);exact ⟨fun z=>by cases z;exact beq_self_eq_true a,fun A s=>⟨.int_int _ _ _ _,.int_int _ _ _ _,.int_int _ _ _ _⟩⟩
   | str b=>obtain ⟨t,rfl⟩:=(show ∃ t,v=Value.str b t from h2);exact ⟨nofun,fun A s=>⟨.int_str _ _ _ _,.int_str _ _ _ _,.int_str _ _ _ _⟩⟩
   | _=>cases f2
 | str a=>
   obtain ⟨t,rfl⟩:=(show ∃ t,u=Value.str a t from h1)
   cases e with
   | non=>cases (show v=Value.none from h2);exact ⟨nofun,fun A s=>⟨.str_none _ _,.str_none _ _,.str_none _ _⟩⟩
   | bl b=>cases (show v=Value.bool b from h2);exact ⟨nofun,fun A s=>⟨.str_bool _ _ _,.str_bool _ _ _,.str_bool _ _ _⟩⟩
   | int b=>obtain ⟨t,rfl⟩:=(show ∃ t,v=Value.int b t from h2);exact ⟨nofun,fun A s=>⟨.str_int _ _ _ _,.str_int _ _ _ _,.str_int _ _ _ _⟩⟩
   | str b=>obtain ⟨t,rfl⟩:=(show ∃ t,v=Value.str b t from h2);exact ⟨fun z=>by cases z;exact beq_self_eq_true a,fun A s=>⟨.str_str _ _ _ _,.str_str _ _ _ _,.str_str _ _ _ _⟩⟩
   | _=>cases f2
 | _=>cases f1
theorem gU {s:Shared} (f:sh d=0) (h:RD W ρ G d u) (hu:A.units<cLine):(∀ b,u≠.ref b)∧∀ b its,(s.heap.IsTuple b its∨s.heap.IsList b its)→E3 A s u (.ref b) false∧E3 A s (.ref b) u false:=by
 cases d with
 | non=>cases (show u=Value.none from h);exact ⟨nofun,fun b its p=>p.elim (fun p=>⟨⟨.none_tuple p hu,.none_tuple p hu,.none_tuple p hu⟩,.tuple_none p hu,.tuple_none p hu,.tuple_none p hu⟩) fun p=>⟨⟨.none_list p hu,.none_list p hu,.none_list p hu⟩,.list_none p hu,.list_none p hu,.list_none p hu⟩⟩
 | bl k=>cases (show u=Value.bool k from h);exact ⟨nofun,fun b its p=>p.elim (fun p=>⟨⟨.bool_tuple k p hu,.bool_tuple k p hu,.bool_tuple k p hu⟩,.tuple_bool k p hu,.tuple_bool k p hu,.tuple_bool k p hu⟩) fun p=>⟨⟨.bool_list k p hu,.bool_list k p hu,.bool_list k p hu⟩,.list_bool k p hu,.list_bool k p hu,.list_bool k p hu⟩⟩
 | int k=>obtain ⟨t,rfl⟩:=(show ∃ t,u=Value.int k t from h);exact ⟨nofun,fun b its p=>p.elim (fun p=>⟨⟨.int_tuple k t p hu,.int_tuple k t p hu,.int_tuple k t p hu⟩,.tuple_int k t p hu,.tuple_int k t p hu,.tuple_int k t p hu⟩) fun p=>⟨⟨.int_list k t p hu,.int_list k t p hu,.int_list k t p hu⟩,.list_int k t p hu,.list_int k t p hu,.list_int k t p hu⟩⟩
 | str k=>obtain ⟨t,rfl⟩:=(show ∃ t,u=Value.str k t from h);exact ⟨nofun,fun b its p=>p.elim (fun p=>⟨⟨.str_tuple k t p hu,.str_tuple k t p hu,.str_tuple k t p hu⟩,.tuple_str k t p hu,.tuple_str k t p hu,.tuple_str k t p hu⟩) fun p=>⟨⟨.str_list k t p hu,.str_list k t p hu,.str_list k t p hu⟩,.list_str k t p hu,.list_str k t p hu,.list_str k t p hu⟩⟩
 | _=>cases f
theorem CR.fl (f:sh d=0) (h:CR W z d u):RD W z.ρ z.G d u:=by cases d <;> first | exact h | cases f
theorem tpt {h:Heap} (e:h.get? a=some o) (t:TpO o l):h.IsTuple a l.toArray:=⟨o,e,t.1,t.2.1⟩
theorem lsl {h:Heap} (e:h.get? a=some o) (t:LsO o l):h.IsList a l.toArray:=by obtain ⟨⟨n,rfl⟩,_⟩:=t;exact ⟨_,e,rfl,n,rfl⟩
theorem E3.refs (ne:l=b→k=true) (h:RcAt A s (.ref l) (.ref b) k) (h2:RcNeAt A s (.ref l) (.ref b) (!k)):E3 A s (.ref l) (.ref b) k:=by
 refine ⟨?_,h,h2⟩
 by_cases q:l=b
 ·subst q;rw [ne rfl];exact .same _
 ·exact .of_refs q h
theorem e3 (I:HR X z):∀ (n:Nat) {d e u v b},eqv n d e=some b→CR X.W z d u→CR X.W z e v→(u=v→b=true)∧∀ A,A.units+n+1<cLine→E3 A z.s u v b:=by
 have low:∀ {d e u v b},eq0 d e=some b→CR X.W z d u→CR X.W z e v→(u=v→b=true)∧∀ A,A.units<cLine→E3 A z.s u v b:=by
  intro d e u v b h h1 h2
  have it:∀ {d:D} {u:Value},(sh d=1∨sh d=2)→CR X.W z d u→∃ a its,u = .ref a∧((sh d=1∧z.s.heap.IsTuple a its)∨(sh d=2∧z.s.heap.IsList a its)):=fun {d u} f h=>by
   rcases f with f | f
   ·obtain ⟨l,rfl⟩:=vk f;obtain ⟨a,o,vs,rfl,e,t,_⟩:=h;exact ⟨a,_,rfl,.inl ⟨rfl,tpt (I.gh _ _ e) t⟩⟩
   ·obtain ⟨l,rfl⟩:=vj f;obtain ⟨a,o,vs,rfl,e,t,_⟩:=h;exact ⟨a,_,rfl,.inr ⟨rfl,lsl e t⟩⟩
  rcases mL h with ⟨f1,f2,rfl⟩ | ⟨rfl,c⟩
  ·obtain ⟨p,q⟩:=qo f1 f2 (h1.fl f1) (h2.fl f2);exact ⟨p,fun A _=>q A _⟩
  ·rcases c with ⟨c1,c2⟩ | ⟨c1,c2⟩ | ⟨c1,c2⟩ | ⟨c1,c2⟩
   ·obtain ⟨a,its,rfl,w⟩:=it c2 h2
    have w:=w.imp And.right And.right
    exact ⟨fun q=>absurd q ((gU (s:=z.s) (A:={ }) c1 (h1.fl c1) (by decide)).1 a),fun A hu=>((gU c1 (h1.fl c1) hu).2 a its w).1⟩
   ·obtain ⟨a,its,rfl,w⟩:=it c1 h1
    have w:=w.imp And.right And.right
    exact ⟨fun q=>absurd q.symm ((gU (s:=z.s) (A:={ }) c2 (h2.fl c2) (by decide)).1 a),fun A hu=>((gU c2 (h2.fl c2) hu).2 a its w).2⟩
   ·obtain ⟨a,i1,rfl,w1⟩:=it (.inl c1) h1
    obtain ⟨b,i2,rfl,w2⟩:=it (.inr c2) h2
    have w1:=w1.resolve_right fun z=>by omega
    have w2:=w2.resolve_left fun z=>by omega
    exact ⟨fun q=>absurd (Value.ref.inj q).symm (ne_of_list_tuple w2.2 w1.2),fun A hu=>⟨.tuple_list w1.2 w2.2 hu,.tuple_list w1.2 w2.2 hu,.tuple_list w1.2 w2.2 hu⟩⟩
   ·obtain ⟨a,i1,rfl,w1⟩:=it (.inr c1) h1
    obtain ⟨b,i2,rfl,w2⟩:=it (.inl c2) h2
    have w1:=w1.resolve_left fun z=>by omega
    have w2:=w2.resolve_right fun z=>by omega
    exact ⟨fun q=>absurd (Value.ref.inj q) (ne_of_list_tuple w1.2 w2.2),fun A hu=>⟨.list_tuple w1.2 w2.2 hu,.list_tuple w1.2 w2.2 hu,.list_tuple w1.2 w2.2 hu⟩⟩
 intro n
 induction n with
 | zero=>intro d e u v b h h1 h2;obtain ⟨p,q⟩:=low h h1 h2;exact ⟨p,fun A hu=>q A (by omega)⟩
 | succ n ih=>
   intro d e u v b h h1 h2
   have items:∀ {da db:List D} {vs ws:List Value} {y:Bool},eN (eqv n) da db=some y→RDs X.W z.ρ z.G da vs→RDs X.W z.ρ z.G db ws→(vs=ws→y=true)∧∃ f:Nat→Bool,(List.range (min vs.toArray.size ws.toArray.size)).all f=y∧∀ A,A.units+n+1<cLine→∀ j (h1:j<vs.toArray.size) (h2:j<ws.toArray.size),EqAt A z.s vs.toArray[j] ws.toArray[j] (f j):=by
    intro da db vs ws y q r1 r2
    obtain ⟨q1,q2⟩:=iL q
    have l3:=r1.len
    have l4:=r2.len
    have one:∀ j (h1:j<vs.length) (h2:j<ws.length),∃ c,(eqv n (da[j]?.getD .non) (db[j]?.getD .non)).getD false=c∧(vs[j]=ws[j]→c=true)∧∀ A,A.units+n+1<cLine→EqAt A z.s vs[j] ws[j] c:=fun j h1 h2=>by
     have e1:=List.getElem?_eq_getElem (l:=da) (i:=j) (by omega)
     have e2:=List.getElem?_eq_getElem (l:=db) (i:=j) (by omega)
     obtain ⟨x1,f1,w1⟩:=r1.get e1
     obtain ⟨y1,f2,w2⟩:=r2.get e2
     rw [List.getElem?_eq_getElem h1] at f1;rw [List.getElem?_eq_getElem h2] at f2;cases f1;cases f2
     obtain ⟨c,hc⟩:=q1 j (by omega) (by omega)
     obtain ⟨p,q⟩:=ih hc (.of I w1) (.of I w2)
     exact ⟨c,by rw [e1,e2];simp only [Option.getD_some,hc],p,fun A hu=>(q A hu).1⟩
    refine ⟨fun q=>?_,fun j=>(eqv n (da[j]?.getD .non) (db[j]?.getD .non)).getD false,?_,fun A hu j h1 h2=>?_⟩
    ·subst q
     rw [q2,List.all_eq_true]
     intro j hj
     have hj:=List.mem_range.mp hj
     obtain ⟨c,e,p,_⟩:=one j (by omega) (by omega)
     rw [e];exact p rfl
    ·rw [q2,List.size_toArray,List.size_toArray,← l3,← l4]
    ·rw [List.size_toArray] at h1 h2
     obtain ⟨c,e,_,p⟩:=one j h1 h2
     show EqAt A z.s vs[j] ws[j] ((eqv n (da[j]?.getD .non) (db[j]?.getD .non)).getD false)
     rw [e];exact p A hu
   rcases lI h with ⟨da,db,y,rfl,rfl,q,rfl⟩ | ⟨da,db,rfl,rfl,q⟩ | h
   ·obtain ⟨a,o,vs,rfl,t,to,r1⟩:=h1
    obtain ⟨a',o',ws,rfl,t',to',r2⟩:=h2
    obtain ⟨sm,f,val,its⟩:=items q r1 r2
    have l3:=r1.len
    have l4:=r2.len
    have same:a=a'→(y && da.length == db.length)=true:=fun z=>by
     subst z
     rw [t] at t';cases t'
     obtain ⟨n1,e1⟩:=to.2.1
     obtain ⟨n2,e2⟩:=to'.2.1
     rw [e1] at e2
     injection e2 with e2
     have e:vs=ws:=by simpa using congrArg Array.toList e2
     rw [sm e,l3,l4,e];simp
    have lz:(vs.toArray.size == ws.toArray.size)=(da.length == db.length):=by rw [l3,l4];rfl
    refine ⟨fun z=>same (Value.ref.inj z),fun A hu=>.refs same ?_ ?_⟩
    ·rw [← val,← lz];exact .tuples (tpt (I.gh _ _ t) to) (tpt (I.gh _ _ t') to') (by omega) (its _ (show A.units+1+n+1<cLine by omega))
    ·rw [← val,← lz];exact .tuples (tpt (I.gh _ _ t) to) (tpt (I.gh _ _ t') to') (by omega) (its _ (show A.units+1+n+1<cLine by omega))
   ·obtain ⟨a,o,vs,rfl,t,to,r1⟩:=h1
    obtain ⟨a',o',ws,rfl,t',to',r2⟩:=h2
    have l3:=r1.len
    have l4:=r2.len
    have sv:a=a'→vs=ws:=fun z=>by
     subst z
     rw [t] at t';cases t'
     obtain ⟨⟨n1,rfl⟩,_⟩:=to
     obtain ⟨⟨n2,e2⟩,_⟩:=to'
     injection e2 with _ _ e2
     injection e2 with e2
     simpa using congrArg Array.toList e2
    rcases q with ⟨hl,q⟩ | ⟨hl,rfl⟩
    ·obtain ⟨sm,f,val,its⟩:=items q r1 r2
     have m:min vs.toArray.size ws.toArray.size=vs.toArray.size:=by simp;omega
     rw [m] at val
     refine ⟨fun z=>sm (sv (Value.ref.inj z)),fun A hu=>.refs (fun z=>sm (sv z)) ?_ ?_⟩
     ·rw [← val];exact .lists (lsl t to) (lsl t' to') (by simp;omega) (by omega) (its _ (show A.units+1+n+1<cLine by omega))
     ·rw [← val];exact .lists (lsl t to) (lsl t' to') (by simp;omega) (by omega) (its _ (show A.units+1+n+1<cLine by omega))
    ·have ne:a=a'→false=true:=fun z=>by rw [sv z] at l3;omega
     exact ⟨fun z=>ne (Value.ref.inj z),fun A hu=>.refs ne (.lists_lengths (lsl t to) (lsl t' to') (by simp;omega) (by omega)) (.lists_lengths (lsl t to) (lsl t' to') (by simp;omega) (by omega))⟩
   ·obtain ⟨p,q⟩:=low h h1 h2;exact ⟨p,fun A hu=>q A (by omega)⟩
theorem ku:∀ {l} {b},inD d l=some b→(∀ j (h:j<l.length),∃ c,eqv 55 l[j] d=some c)∧b=l.any fun e=>(eqv 55 e d).getD false
 | [],b,h=>by cases h;exact ⟨fun j h=>absurd h (Nat.not_lt_zero _),rfl⟩
 | e :: r,b,h=>by
   unfold inD at h
   cases q:eqv 55 e d with
   | none=>rw [q] at h;cases h
   | some x=>
     rw [q] at h
     obtain ⟨y,q2,rfl⟩:=Option.map_eq_some_iff.mp h
     obtain ⟨i1,i2⟩:=ku q2
     refine ⟨fun j h=>?_,by rw [List.any_cons,q,i2];rfl⟩
     cases j with
     | zero=>exact ⟨x,q⟩
     | succ j=>exact i1 j (Nat.lt_of_succ_lt_succ h)
theorem dA (I:HR X z) (hu:A.units+57<cLine) (q:inD d l=some b) (r:RDs X.W z.ρ z.G l vs) (hd:CR X.W z d v):∃ e:Value→Bool,(∀ y,y∈vs.toArray→EqAt A z.s y v (e y))∧vs.toArray.any e=b:=by
 obtain ⟨q1,q2⟩:=ku q
 have l3:=r.len
 have eqs:∀ j (h1:j<vs.length) (h2:j<l.length),EqAt A z.s vs[j] v ((eqv 55 l[j] d).getD false):=fun j h1 h2=>by
  obtain ⟨x1,e1,w1⟩:=r.get (List.getElem?_eq_getElem h2)
  rw [List.getElem?_eq_getElem h1] at e1;cases e1
  obtain ⟨c,hc⟩:=q1 j h2
  rw [hc]
  exact ((e3 I 55 hc (.of I w1) hd).2 A (by omega)).1
 have cl:∀ y,Decidable (∃ j,∃ (h1:j<vs.length) (h2:j<l.length),vs[j]=y∧(eqv 55 l[j] d).getD false=true):=fun y=>Classical.propDecidable _
 refine ⟨fun y=>@decide _ (cl y),fun y hy=>?_,?_⟩
 ·rcases Classical.em (∃ j,∃ (h1:j<vs.length) (h2:j<l.length),vs[j]=y∧(eqv 55 l[j] d).getD false=true) with c | c
  ·obtain ⟨j,h1,h2,e,t⟩:=id c
   have w:=eqs j h1 h2
   rw [e,t] at w
   dsimp only
   rw [show @decide _ (cl y)=true from @decide_eq_true _ (cl y) c]
   exact w
  ·obtain ⟨j,h1,e⟩:=List.getElem_of_mem (by simpa using hy)
   have w:=eqs j h1 (by omega)
   have t:(eqv 55 l[j] d).getD false=false:=Bool.eq_false_iff.mpr fun t=>c ⟨j,h1,by omega,e,t⟩
   rw [t,e] at w
   dsimp only
   rw [show @decide _ (cl y)=false from @decide_eq_false _ (cl y) c]
   exact w
 ·rw [q2,List.any_toArray,Bool.eq_iff_iff,List.any_eq_true,List.any_eq_true]
  constructor
  ·rintro ⟨y,hy,t⟩
   obtain ⟨j,h1,h2,e,t⟩:=@of_decide_eq_true _ (cl _) t
   exact ⟨l[j],List.getElem_mem h2,t⟩
  ·rintro ⟨e,he,t⟩
   obtain ⟨j,h2,rfl⟩:=List.getElem_of_mem he
   exact ⟨vs[j]'(by omega),List.getElem_mem _,@decide_eq_true _ (cl _) ⟨j,by omega,h2,rfl,t⟩⟩
end L2.Ev
end
section
namespace HT
section
variable {prog:Program} {w:World} {A:Around} {E:Value→Shared→Prop} {s:Shared}
theorem getItem_tuple_all {lo hi:Option Int} {Q:Value→Shared→Prop} (ht:IsTup s.heap t items) (hs:s.heap.IsSliceOf sl vl vu .none) (pl:IsPart vl lo) (pu:IsPart vu hi)
 (hw:sIx items.size 0 lo=0∧sIx items.size items.size hi=items.size) (h:Q (.ref t) s):wpAny (model prog w) A (getItem (.ref t) (.ref sl)) Q E s:=by
 obtain ⟨os,hos,hcs,hds⟩:=id hs
 have hTs:s.TypeIs (.ref sl) "slice":=⟨os,hos,hcs⟩
 unfold getItem
 try with_reducible refine wpAny_holding ?_
 first | refine wpAny_bind (wpAny_pure ?_) | skip
 refine wpAny_bind (wpAny_sequenceKey ht.typeIs (by decide) ?_)
 refine wpAny_bind (wpAny_callSpecial?_slot (name:=Str.ofString "__getitem__") ht.typeIs PyProof.Rows.slot_tuple_getitem
  (wpAny_call_entry PyProof.Rows.slot_tuple_getitem ht.typeIs entry_tuple_getitem ?_ (args_tuple_getitem _ _)))
 show wpAny _ _ (Builtin.Tuple.tupleItemsOf (.ref t) >>= _) _ _ s
 refine wpAny_bind (tupleItemsOf_ ht ?_)
 refine wpAny_bind (wpAny_typeOf hTs ?_)
 rw [if_pos (by decide)]
 refine wpAny_bind (b9 hs pl pu ?_)
 have hyes:(((sIx items.size 0 lo:Nat):Int) == 0 && (1:Int) == 1 && (sIx items.size items.size hi - sIx items.size 0 lo) == items.size)=true:=by
  rw [hw.1,hw.2]
  simp
 show wpAny _ _ (if (((sIx items.size 0 lo:Nat):Int) == 0 && (1:Int) == 1 && (sIx items.size items.size hi - sIx items.size 0 lo) == items.size)=true then _ else _) _ _ s
 rw [if_pos hyes]
 show wpAny _ _ (Builtin.Tuple.tupleIsExact (.ref t) >>= _) _ _ s
 refine wpAny_bind ?_
 unfold Builtin.Tuple.tupleIsExact
 refine wpAny_bind (wpAny_typeOf ht.typeIs (wpAny_pure ?_))
 rw [if_pos (by decide)]
 refine wpAny_bind (wpAny_rule ?_)
 first
  | exact wpAny_pure ⟨_,rfl,wpAny_pure h⟩
  | exact wpAny_bind (wpAny_pure (wpAny_pure ⟨_,rfl,wpAny_pure h⟩))
  | exact wpAny_bind (wpAny_bind (wpAny_pure (wpAny_pure ⟨_,rfl,wpAny_pure h⟩)))
end
end HT
namespace L2.Ev
abbrev NoE:Value→Shared→Prop:=fun _ _=>False
theorem aI {c:Prop} [Decidable c] {a d:α} (e:(if c then some a else none)=some d):c∧a=d:=by
 by_cases h:c
 ·rw [if_pos h] at e;exact ⟨h,Option.some.inj e⟩
 ·rw [if_neg h] at e;cases e
section
variable {X:Cx} {z:Z}
theorem aB (z:Z):z.h z.s.heap.objs.size=none:=Heap.get?_none_of_le (Nat.le_refl _)
theorem Dn.tok {n:Nat} (h:∀ W ρ G,RD W ρ G d u):Dn X z d u { z.s with toks:=n }:=⟨.tok,h ..⟩
theorem Dn.tup (I:Rep X z) (r:RDs X.W z.ρ z.G l vs) (g:Gr z.s s') (n:z.h a=none) (e:s'.heap.get? a=some o) (t:TpO o vs):Dn X z (.tup l) (.ref a) s':=
 ⟨g,a,o,vs,rfl,(iy n).trans e,t,r.mono (List.prefix_refl _) (cy I.gh g).gg⟩
theorem pw (hz:vs.length≤sizeLine):TpO { cls:=.type "tuple",data:=.seq vs.toArray n } vs:=⟨rfl,⟨n,rfl⟩,hz,rfl⟩
theorem Dn.tupn (I:Rep X z) (r:RDs X.W z.ρ z.G l vs) (hz:vs.length≤sizeLine) {n t:Nat}:Dn X z (.tup l) (.ref z.s.heap.objs.size) { z.s with heap:=z.s.heap.push { cls:=.type "tuple",data:=.seq vs.toArray n },toks:=t }:=
 .tup I r .push (aB z) (Heap.get?_push_size _ rfl) (pw hz)
def Dw (X:Cx) (z:Z) (d:D) (u:Value) (s':Shared):Prop:=Gr z.s s'∧∃ a o,u = .ref a∧z.h a=none∧toO d=some o∧ObR X.W z.ρ z.G s'.heap.get? (a,a) o
theorem Dw.dn (I:Rep X z) (h:Dw X z d u s'):Dn X z d u s':=by
 obtain ⟨g,a,o,rfl,n,e,r⟩:=h
 exact ⟨g,ig e r (cy I.gh g).gg (iy n)⟩
def FV (X:Cx) (z0 z:Z) (d:D) (u:Value):Prop:=∃ a o,u = .ref a∧z0.h a=none∧toO d=some o∧ObR X.W z.ρ z.G z.h (a,a) o∧Fre X z a∧¬ Own z a
theorem Dw.pe (I:Rep X z) (h:Dw X z d u s') (tk:X.tz≤s'.toks:=by first | assumption | exact HR.tk (by assumption) | exact HR.tk1 (by assumption) | exact (Rep.toHR (by assumption)).tk | exact (Rep.toHR (by assumption)).tk1 | exact Nat.le_succ_of_le (by assumption)):Pe X z (.ok d z.t) (FV X z) u s':=by
 obtain ⟨g,a,o,rfl,n,e,r⟩:=h
 have f:=I.fre n
 exact ⟨{ z with s:=s' },d,rfl,rfl,(am I.gh g).ee,I.grow (am I.gh g) tk,a,o,rfl,n,e,r,f⟩
theorem Dw.lst (r:RDs X.W z.ρ z.G l vs) (g:Gr z.s s') (n:z.h a=none) (e:s'.heap.get? a=some { cls:=.type "list",data:=.seq vs.toArray k }) (hz:vs.length≤sizeLine):Dw X z (.lst l) (.ref a) s':=⟨g,a,.lst l,rfl,n,rfl,_,vs,rfl,e,⟨⟨k,rfl⟩,hz⟩,r⟩
theorem Dw.lstn (r:RDs X.W z.ρ z.G l vs) (hz:vs.length≤sizeLine) {n t:Nat}:Dw X z (.lst l) (.ref z.s.heap.objs.size) { z.s with heap:=z.s.heap.push { cls:=.type "list",data:=.seq vs.toArray n },toks:=t }:=.lst r .push (aB z) (Heap.get?_push_size _ rfl) hz
def Op2 (X:Cx) (f:Value→Value→Sem Value) (g:D→D→Option D):Prop:=∀ z u v d1 d2 d,Rep X z→CR X.W z d1 u→CR X.W z d2 v→g d1 d2=some d→wpAny X.M X.A (f u v) (Dn X z d) NoE z.s
theorem wD (ho:o≠.add∧o≠.eq∧o≠.ne∧o≠.isin∧o≠.notin∧o≠.eq2) (e:opD o d1 d2=some d):∃ i j,d1 = .int i∧d2 = .int j∧opI o i j=some d:=by
 obtain ⟨n1,n2,n3,n4,n5,n6⟩:=ho
 unfold opD at e
 split at e
 ·exact absurd rfl n6
 ·exact absurd rfl n2
 ·exact absurd rfl n3
 ·exact absurd rfl n4
 ·exact absurd rfl n5
 ·split at e
  ·exact ⟨_,_,rfl,rfl,e⟩
  all_goals first | (cases e;done) | (rw [if_neg n1] at e;cases e)
theorem jU {f:Value→Value→Sem Value} (ho:o≠.add∧o≠.eq∧o≠.ne∧o≠.isin∧o≠.notin∧o≠.eq2)
 (rule:∀ (i j:Int) (t u:Tok) (d:D) (s:Shared) (Q:Value→Shared→Prop),opI o i j=some d→(∀ (v:Value) (n:Nat),(∀ W ρ G,RD W ρ G d v)→Q v { s with toks:=n })→wpAny X.M X.A (f (.int i t) (.int j u)) Q NoE s):Op2 X f (opD o):=fun z u v d1 d2 d I h1 h2 e=>by
 obtain ⟨i,j,rfl,rfl,e2⟩:=wD ho e
 obtain ⟨t,rfl⟩:=h1
 obtain ⟨t',rfl⟩:=h2
 exact rule i j t t' d z.s _ e2 fun v n h=>.tok h
theorem vc:Op2 X (binaryOp .Sub) (opD .sub):=jU (by decide) fun _ _ _ _ _ _ _ e k=>by cases e;exact sub_int (k _ _ fun _ _ _=>⟨_,rfl⟩)
theorem vb:Op2 X (binaryOp .Mult) (opD .mul):=jU (by decide) fun _ _ _ _ _ _ _ e k=>by
 obtain ⟨c,rfl⟩:=aI e
 refine mul_int (k _ _ fun _ _ _=>⟨_,rfl⟩) ?_
 rcases c with h | ⟨h1,h2⟩
 ·exact tu.ok h
 ·exact mulOk_of_bits (m:=400) (n:=400) (intBits_le_iff.mpr h1) (intBits_le_iff.mpr h2) (by decide)
theorem rH:Op2 X (binaryOp .FloorDiv) (opD .fdiv):=jU (by decide) fun i j _ _ _ _ _ e k=>by
 obtain ⟨⟨h1,h2⟩,rfl⟩:=aI e
 refine floordiv_int (by omega) (by rw [Int.fdiv_eq_ediv_of_nonneg i (by omega)];exact k _ _ fun _ _ _=>⟨_,rfl⟩) (.inl (PyProof.noPylong_of_log2 ?_))
 have h:j.natAbs.log2<200:=(Nat.log2_lt (by omega)).2 (by omega)
 omega
theorem va:Op2 X (binaryOp .Mod) (opD .mod):=jU (by decide) fun i j _ _ _ _ _ e k=>by
 obtain ⟨c,rfl⟩:=aI e
 exact mod_int' (by omega) (by rw [Int.fmod_eq_emod_of_nonneg i (by omega)];exact k _ _ fun _ _ _=>⟨_,rfl⟩)
theorem xm:Op2 X (compareOp .Lt) (opD .lt):=jU (by decide) fun _ _ _ _ _ s _ e k=>by cases e;exact lt_int (k _ s.toks fun _ _ _=>rfl)
theorem xl:Op2 X (compareOp .LtE) (opD .le):=jU (by decide) fun _ _ _ _ _ s _ e k=>by cases e;exact le_int (k _ s.toks fun _ _ _=>rfl)
theorem xj:Op2 X (compareOp .Gt) (opD .gt):=jU (by decide) fun _ _ _ _ _ s _ e k=>by cases e;exact gt_int (k _ s.toks fun _ _ _=>rfl)
theorem u9:Op2 X (binaryOp .Add) (opD .add):=fun z u v d1 d2 d I h1 h2 e=>by
 have chk:∀ {n:Nat} {a:D},d5 n a=some d→n≤sizeLine∧a=d:=fun e=>let ⟨c,q⟩:=aI e;⟨big c,q⟩
 cases d1 with
 | int i=>cases d2 with
   | int j=>cases e;obtain ⟨t,rfl⟩:=h1;obtain ⟨t',rfl⟩:=h2;exact add_int (.tok fun _ _ _=>⟨_,rfl⟩)
   | _=>cases e
 | str i=>cases d2 with
   | str j=>obtain ⟨hz,rfl⟩:=chk e;obtain ⟨t,rfl⟩:=h1;obtain ⟨t',rfl⟩:=h2;exact add_str (fun t' tk=>.tok fun _ _ _=>⟨_,rfl⟩) hz
   | _=>cases e
 | tup a=>cases d2 with
   | tup b=>
     obtain ⟨hz,rfl⟩:=chk e
     obtain ⟨p,o1,vs,rfl,e1,t1,r1⟩:=id h1
     obtain ⟨q,o2,ws,rfl,e2,t2,r2⟩:=id h2
     have l1:=r1.len
     have l2:=r2.len
     have k1:=tpt (I.gh _ _ e1) t1
     have k2:=tpt (I.gh _ _ e2) t2
     cases vs with
     | nil=>
       cases (show a = [] from List.length_eq_zero_iff.mp l1)
       obtain ⟨⟨cls,dd,data,sl⟩,ho,hc,n,hd⟩:=id k1
       obtain ⟨⟨cls2,dd2,data2,sl2⟩,ho2,hc2,n2,hd2⟩:=id k2
       simp only at hc hd hc2 hd2
       subst hc hd hc2 hd2
       exact concat_meets ⟨_,ho,rfl⟩ ⟨_,ho2,rfl⟩ noFill_tuple_add seq_tuple_add PySem.F.slot_tuple_add PySem.F.entry_tuple_add (PySem.F.args_tuple_add_2 _ _) (tuple_addW0 p q #[] ws.toArray n n2 dd dd2 sl sl2 rfl) ⟨ho,ho2,.old I .refl h2⟩
     | cons v0 vs=>
       refine HT.cat_tup k1 k2 (by simp) (fun w=>?_) (fun _=>.tupn I (r1.app r2) (by rw [List.length_append];omega)) (by omega)
       subst w
       cases (show b = [] from List.length_eq_zero_iff.mp l2)
       rw [List.append_nil]
       exact .old I .refl h1
   | _=>cases e
 | lst a=>cases d2 with
   | lst b=>
     obtain ⟨hz,rfl⟩:=chk e
     obtain ⟨p,o1,vs,rfl,e1,⟨⟨n1,rfl⟩,_⟩,r1⟩:=h1
     obtain ⟨q,o2,ws,rfl,e2,⟨⟨n2,rfl⟩,_⟩,r2⟩:=h2
     have l1:=r1.len
     have l2:=r2.len
     refine PySem.P.add_list e1 e2 ?_ (by rw [List.size_toArray,List.size_toArray];omega)
     rw [show vs.toArray ++ ws.toArray=(vs ++ ws).toArray by simp]
     exact (Dw.lstn (r1.app r2) (by rw [List.length_append];omega)).dn I
   | _=>cases e
 | _=>cases e
end
end L2.Ev
end
section
namespace L2.Ev
open PyProof.Rows.LSm
section
variable {X:Cx} {z:Z}
theorem hJ (e:bF d=some k) (h:CR W z d u):(bp P w).is k u=true:=by
 cases d with
 | int i=>cases e;obtain ⟨t,rfl⟩:=h;exact iY P w i t
 | str i=>cases e;obtain ⟨t,rfl⟩:=h;exact iZ P w i t
 | _=>cases e
theorem DcO.of {h:Heap} (e:h.get? a=some o) (d:DcO W o l):h.DictOf (bp W.P W.w) a l:=let ⟨es,ep,x,y,a,b,c,_⟩:=d;⟨o,es,ep,e,x,y,a,b,c⟩
theorem dJ:∀ {ks} {ds} {vs} {k:Key},ks.length=ds.length→RDs W ρ G ds vs→match cY ks ds k with | some d=>∃ v,valueAt (ks.zip vs) k=some v∧RD W ρ G d v | none=>valueAt (ks.zip vs) k=none
 | [],[],vs,k,_,_=>rfl
 | [],_ :: _,_,_,h,_=>by cases h
 | _ :: _,[],_,_,h,_=>by cases h
 | q :: ks,e :: ds,vs,k,h,r=>by
   obtain ⟨v,ws,rfl,r1,r2⟩:=r
   have ih:=dJ (k:=k) (Nat.succ.inj h) r2
   unfold cY
   by_cases c:q=k
   ·rw [if_pos c];exact ⟨v,by simp [valueAt,List.find?_cons,c],r1⟩
   ·rw [if_neg c]
    have n:valueAt ((q :: ks).zip (v :: ws)) k=valueAt (ks.zip ws) k:=by simp [valueAt,List.find?_cons,c]
    rw [n];exact ih
theorem pz (hl:ks.length=ds.length) (r:RDs W ρ G ds vs) (e:cY ks ds k=some d):∃ v,valueAt (ks.zip vs) k=some v∧RD W ρ G d v:=by have:=dJ (k:=k) hl r;rw [e] at this;exact this
theorem py (hl:ks.length=ds.length) (r:RDs W ρ G ds vs):(valueAt (ks.zip vs) k).isSome=(cY ks ds k).isSome:=by
 have:=dJ (k:=k) hl r
 cases q:cY ks ds k with
 | none=>rw [q] at this;rw [this];rfl
 | some d=>rw [q] at this;obtain ⟨v,e,_⟩:=this;rw [e];rfl
theorem gj (h:eqT a b=some r):(∃ ks ds ls es,a = .dic ks ds∧b = .dic ls es∧∃ x,(ks.length=ls.length→nh ls es ks ds=some x)∧r=(ks.length == ls.length && x))∨eqv 55 a b=some r:=by
 unfold eqT at h
 split at h
 ·rename_i ks ds ls es
  refine .inl ⟨ks,ds,ls,es,rfl,rfl,?_⟩
  split at h
  ·rename_i c;exact ⟨r,fun _=>h,by simp [c]⟩
  ·rename_i c;cases h;exact ⟨false,fun z=>absurd z c,by simp⟩
 ·exact .inr h
theorem gY {A:Around} (I:HR X z) (un:A.units+56<cLine) (hl2:ls.length=es.length) (r2:RDs X.W z.ρ z.G es ws):∀ {ks ds vs r},ks.length=ds.length→RDs X.W z.ρ z.G ds vs→nh ls es ks ds=some r→PySem.W.KeqHits A z.s (ls.zip ws) (ks.zip vs) r
 | [],ds,vs,r,_,_,h=>by cases h;exact .nil
 | k :: ks,[],vs,r,hl,_,h=>by cases hl
 | k :: ks,d :: ds,vs,r,hl,r1,h=>by
   obtain ⟨v,vs,rfl,h1,h2⟩:=r1
   unfold nh at h
   have q:=dJ (k:=k) hl2 r2
   cases e:cY ls es k with
   | none=>rw [e] at h q;cases h;exact .miss q
   | some y=>
     rw [e] at h q
     obtain ⟨w,e1,e2⟩:=q
     dsimp only at h
     cases e3':eqv 55 d y with
     | none=>rw [e3'] at h;cases h
     | some x=>
       rw [e3'] at h
       obtain ⟨b,hb,rfl⟩:=Option.map_eq_some_iff.mp h
       exact .hit e1 (((e3 I 55 e3' (.of I h1) (.of I e2)).2 A (by omega)).1) (gY I un hl2 r2 (Nat.succ.inj hl) h2 hb)
theorem xi:Op2 X (compareOp .Eq) (opD .eq):=fun z u v d1 d2 d I h1 h2 e=>by
 obtain ⟨b,q,rfl⟩:=Option.map_eq_some_iff.mp (show (eqT d1 d2).map D.bl=some d from e)
 rcases gj q with ⟨ks,ds,ls,es,rfl,rfl,x,q',rfl⟩ | q
 ·obtain ⟨a,o,vs,rfl,m,e1,c1,l1,r1⟩:=h1
  obtain ⟨a',o',ws,rfl,m',e2,c2,l2,r2⟩:=h2
  have n1:(ks.zip vs).length=ks.length:=by rw [List.length_zip,← r1.len,l1,Nat.min_self]
  have n2:(ls.zip ws).length=ls.length:=by rw [List.length_zip,← r2.len,l2,Nat.min_self]
  refine PySem.W.keq_eq m m' (c1.of e1) (c2.of e2) (by have:=I.ok.un;omega) (fun h=>gY I.toHR (by have:=I.ok.un;show X.A.units+1+56<_;omega) l2 r2 l1 r1 (q' (by rw [← n1,← n2];exact h))) (.tok fun _ _ _=>?_)
  rw [n1,n2];rfl
 ·exact ((e3 I.toHR 55 q h1 h2).2 X.A (by have:=I.ok.un;omega)).2.1 _ _ _ _ (.tok fun _ _ _=>rfl)
theorem xn:Op2 X (compareOp .NotEq) (opD .ne):=fun z u v d1 d2 d I h1 h2 e=>by
 obtain ⟨b,q,rfl⟩:=Option.map_eq_some_iff.mp (show (eqT d1 d2).map (fun x=>D.bl (!x))=some d from e)
 rcases gj q with ⟨ks,ds,ls,es,rfl,rfl,x,q',rfl⟩ | q
 ·obtain ⟨a,o,vs,rfl,m,e1,c1,l1,r1⟩:=h1
  obtain ⟨a',o',ws,rfl,m',e2,c2,l2,r2⟩:=h2
  have n1:(ks.zip vs).length=ks.length:=by rw [List.length_zip,← r1.len,l1,Nat.min_self]
  have n2:(ls.zip ws).length=ls.length:=by rw [List.length_zip,← r2.len,l2,Nat.min_self]
  refine PySem.W.keq_ne m m' (c1.of e1) (c2.of e2) (by have:=I.ok.un;omega) (fun h=>gY I.toHR (by have:=I.ok.un;show X.A.units+1+56<_;omega) l2 r2 l1 r1 (q' (by rw [← n1,← n2];exact h))) (.tok fun _ _ _=>?_)
  rw [n1,n2];rfl
 ·exact ((e3 I.toHR 55 q h1 h2).2 X.A (by have:=I.ok.un;omega)).2.2 _ _ _ _ (.tok fun _ _ _=>rfl)
theorem xk:Op2 X (compareOp .In) (opD .isin):=fun z u v d1 d2 d I h1 h2 e=>by
 have un:X.A.in1.units+57<cLine:=by have:=I.ok.un;show X.A.units+1+57<_;omega
 cases d2 with
 | str y=>cases d1 with
   | str x=>cases e;obtain ⟨t,rfl⟩:=h1;obtain ⟨t',rfl⟩:=h2;exact SB.contains (.tok fun _ _ _=>rfl)
   | _=>cases e
 | lst l=>
   obtain ⟨b,q,rfl⟩:=Option.map_eq_some_iff.mp (show (inD d1 l).map D.bl=some d from e)
   obtain ⟨a,o,vs,rfl,e1,t,r⟩:=h2
   obtain ⟨f,hf,rfl⟩:=dA I.toHR un q r h1
   exact SeqAt.in_listAt f (lsl e1 t) hf (.tok fun _ _ _=>rfl)
 | tup l=>
   obtain ⟨b,q,rfl⟩:=Option.map_eq_some_iff.mp (show (inD d1 l).map D.bl=some d from e)
   obtain ⟨a,o,vs,rfl,e1,t,r⟩:=h2
   obtain ⟨f,hf,rfl⟩:=dA I.toHR un q r h1
   exact SeqAt.in_tupleAt f (tpt (I.gh _ _ e1) t) hf (.tok fun _ _ _=>rfl)
 | dic ks l=>
   obtain ⟨k,q,rfl⟩:=Option.map_eq_some_iff.mp (show ((bF d1).map fun k=>D.bl (cY ks l k).isSome)=some d from e)
   obtain ⟨a,o,vs,rfl,m,e1,t,hl,r⟩:=h2
   exact wpAny_in_of (hJ q h1) m (t.of e1).mapOf (by rw [py hl r];exact .tok fun _ _ _=>rfl)
 | _=>cases e
theorem oU:Op2 X (compareOp .NotIn) (opD .notin):=fun z u v d1 d2 d I h1 h2 e=>by
 have un:X.A.in1.units+57<cLine:=by have:=I.ok.un;show X.A.units+1+57<_;omega
 cases d2 with
 | str y=>cases d1 with
   | str x=>cases e;obtain ⟨t,rfl⟩:=h1;obtain ⟨t',rfl⟩:=h2;exact SB.notContains (.tok fun _ _ _=>rfl)
   | _=>cases e
 | lst l=>
   obtain ⟨b,q,rfl⟩:=Option.map_eq_some_iff.mp (show (inD d1 l).map (fun x=>D.bl (!x))=some d from e)
   obtain ⟨a,o,vs,rfl,e1,t,r⟩:=h2
   obtain ⟨f,hf,rfl⟩:=dA I.toHR un q r h1
   exact SeqAt.notIn_listAt f (lsl e1 t) hf (.tok fun _ _ _=>rfl)
 | tup l=>
   obtain ⟨b,q,rfl⟩:=Option.map_eq_some_iff.mp (show (inD d1 l).map (fun x=>D.bl (!x))=some d from e)
   obtain ⟨a,o,vs,rfl,e1,t,r⟩:=h2
   obtain ⟨f,hf,rfl⟩:=dA I.toHR un q r h1
   exact SeqAt.notIn_tupleAt f (tpt (I.gh _ _ e1) t) hf (.tok fun _ _ _=>rfl)
 | dic ks l=>
   obtain ⟨k,q,rfl⟩:=Option.map_eq_some_iff.mp (show ((bF d1).map fun k=>D.bl (!(cY ks l k).isSome))=some d from e)
   obtain ⟨a,o,vs,rfl,m,e1,t,hl,r⟩:=h2
   exact wpAny_notIn_of (hJ q h1) m (t.of e1).mapOf (by rw [py hl r];exact .tok fun _ _ _=>rfl)
 | _=>cases e
def vz (X:Cx) (z:Z) (u i:Value) (d:D):Prop:=∃ T id,typeLookup (.type T) "__getitem__" = pure (some (.builtin id))∧z.s.TypeIs u T∧wpAny X.M X.A (getItem u i) (Dn X z d) NoE z.s
theorem RDs.at (r:RDs W ρ G ds vs) (e:atI ds i=some d):∃ v,atI vs i=some v∧RD W ρ G d v:=by
 unfold atI at e ⊢
 rw [← r.len]
 cases q:ixN ds.length i with
 | none=>rw [q] at e;cases e
 | some j=>rw [q] at e;exact r.get e
theorem yw {d1 d2:D} {u v:Value} (I:Rep X z) (h1:CR X.W z d1 u) (h2:CR X.W z d2 v) (e:ixD d1 d2=some d):vz X z u v d:=by
 have hn:=eW
 cases d1 with
 | tup l=>cases d2 with
   | int i=>
     obtain ⟨a,o,vs,rfl,e1,t,r⟩:=h1
     obtain ⟨tk,rfl⟩:=h2
     obtain ⟨w,ew,rw'⟩:=r.at (show atI l i=some d from e)
     obtain ⟨j,g1,g2,g3,g4,g5⟩:=gN ew
     have p:=tpt (I.gh _ _ e1) t
     have hz:=t.2.2
     exact ⟨_,_,slot_tuple_getitem.lookup,⟨_,I.gh _ _ e1,t.1⟩,getItem_tuple (j:=j) p (by omega) (by omega) g1 (by simpa using g2) (.old I .refl rw')⟩
   | _=>cases e
 | lst l=>cases d2 with
   | int i=>
     obtain ⟨a,o,vs,rfl,e1,t,r⟩:=h1
     obtain ⟨tk,rfl⟩:=h2
     obtain ⟨w,ew,rw'⟩:=r.at (show atI l i=some d from e)
     obtain ⟨j,g1,g2,g3,g4,g5⟩:=gN ew
     have p:=lsl e1 t
     have hz:=t.2
     refine ⟨_,_,slot_list_getitem.lookup,p.typeIs,?_⟩
     by_cases h0:0≤i
     ·have hj:i.toNat=j:=by rw [seqIndex_of h0 g5] at g1;exact Option.some.inj g1
      exact wpAny_getItem_list p h0 (by omega) (by rw [hj];simpa using g2) (.old I .refl rw')
     ·have hj:(i+(vs.toArray.size:Int)).toNat=j:=by rw [seqIndex_neg (by omega) g4] at g1;exact Option.some.inj g1
      exact wpAny_getItem_list_neg p (by omega) g4 (by omega) (by rw [hj];simpa using g2) (.old I .refl rw')
   | _=>cases e
 | str y=>cases d2 with
   | int i=>
     obtain ⟨hz,e⟩:y.length≤100000∧(atI y.cps.toList i).map (fun c=>D.str ⟨#[c]⟩)=some d:=by
      unfold ixD at e;dsimp only at e;split at e
      ·rename_i c;exact ⟨c,e⟩
      ·cases e
     obtain ⟨c,q,rfl⟩:=Option.map_eq_some_iff.mp e
     obtain ⟨t,rfl⟩:=h1
     obtain ⟨t',rfl⟩:=h2
     obtain ⟨j,g1,g2,g3,g4,g5⟩:=gN q
     have hl:y.cps.toList.length=y.length:=by simp [Str.length]
     rw [hl] at g1 g4 g5
     exact ⟨_,_,slot_str_getitem.lookup,typeIs_str _ y t,getItem_str (c:=c) (by
      have e1:decide (i < -(2 ^ 63:Int))=false:=decide_eq_false (by omega)
      have e2:decide (i≥2 ^ 63)=false:=decide_eq_false (by omega)
      rw [e1,e2,Bool.or_false]) (by rw [g1];simpa using g2) (.tok fun _ _ _=>⟨_,rfl⟩)⟩
   | _=>cases e
 | dic ks l=>
   have e':((bF d2).bind fun k=>cY ks l k)=some d:=by cases d2 <;> exact e
   obtain ⟨k,q,e'⟩:=Option.bind_eq_some_iff.mp e'
   obtain ⟨a,o,vs,rfl,m,e1,t,hl,r⟩:=h1
   obtain ⟨w,ew,rw'⟩:=pz hl r e'
   exact ⟨_,_,PySem.F.slot_dict_getitem.lookup,(t.of e1).typeIs,wpAny_getItem_of (hJ q h2) (t.of e1).mapOf ew (.old I .tok rw')⟩
 | _=>cases e
theorem RDs.cut (r:RDs W ρ G ds vs) (lo hi):RDs W ρ G (cutD ds lo hi) ((vs.drop (HT.sIx vs.length 0 lo)).take (HT.sIx vs.length vs.length hi - HT.sIx vs.length 0 lo)):=by
 unfold cutD
 rw [r.len]
 exact (r.drop _).take _
theorem yD {d1:D} {u vl vu:Value} {lo hi:Option Int} (I:Rep X z) (h1:CR X.W z d1 u) (hs:z.s.heap.IsSliceOf sl vl vu .none) (pl:IsPart vl lo) (pu:IsPart vu hi) (e:slO d1 lo hi=some d):vz X z u (.ref sl) d:=by
 have cl:∀ (vs:List Value),((vs.drop (HT.sIx vs.length 0 lo)).take (HT.sIx vs.length vs.length hi - HT.sIx vs.length 0 lo)).length≤vs.length:=fun vs=>by rw [List.length_take,List.length_drop];omega
 cases d1 with
 | tup l=>
   cases e
   obtain ⟨a,o,vs,rfl,e1,t,r⟩:=id h1
   have p:=tpt (I.gh _ _ e1) t
   refine ⟨"tuple",_,slot_tuple_getitem.lookup,⟨_,I.gh _ _ e1,t.1⟩,?_⟩
   by_cases w:HT.sIx vs.length 0 lo=0∧HT.sIx vs.length vs.length hi=vs.length
   ·refine HT.getItem_tuple_all p hs pl pu w ?_
    have e:cutD l lo hi=l:=by
     unfold cutD
     rw [r.len,w.1,w.2,Nat.sub_zero,List.drop_zero,← r.len,List.take_length]
    rw [e]
    exact .old I .refl h1
   ·exact HT.getItem_tuple_cut p hs pl pu w (.tupn I (r.cut lo hi) (Nat.le_trans (cl vs) t.2.2.1)) t.2.2.1
 | lst l=>
   cases e
   obtain ⟨a,o,vs,rfl,e1,t,r⟩:=h1
   refine ⟨"list",_,slot_list_getitem.lookup,(lsl e1 t).typeIs,wpAny_getItem_list_slice (lsl e1 t) hs pl pu .none (by simp) ?_ (by rw [List.size_toArray];exact t.2)⟩
   rw [fR]
   exact (Dw.lstn (r.cut lo hi) (Nat.le_trans (cl vs) t.2)).dn I
 | str y=>
   obtain ⟨hz,rfl⟩:=aI (show (if y.length≤100000 then some (D.str (Txt.slice y lo hi)) else none)=some d from e)
   obtain ⟨t,rfl⟩:=h1
   have fin:Nat.le (Txt.slice y lo hi).length sizeLine∧∀ t' k,Dn X z (.str (Txt.slice y lo hi)) (.str (Txt.slice y lo hi) t') { z.s with toks:=k }:=⟨Nat.le_trans (Txt.slice_le y _ _) (big hz),fun t' k=>.tok fun _ _ _=>⟨t',rfl⟩⟩
   refine ⟨"str",_,PySem.F.slot_str_getitem.lookup,typeIs_str _ _ _,?_⟩
   cases pl <;> cases pu
   ·exact wpAny_getItem_str_slice (l:=none) (u:=none) (st:=none) hs rfl (post_val_or_str fin)
   ·exact wpAny_getItem_str_slice (l:=none) (u:=some (_,_)) (st:=none) hs rfl (post_val_or_str fin)
   ·exact wpAny_getItem_str_slice (l:=some (_,_)) (u:=none) (st:=none) hs rfl (post_val_or_str fin)
   ·exact wpAny_getItem_str_slice (l:=some (_,_)) (u:=some (_,_)) (st:=none) hs rfl (post_val_or_str fin)
 | _=>cases e
def Bi1 (X:Cx) (f:Value) (b:Bi):Prop:=∀ z u x d,Rep X z→CR X.W z x u→cX b x=some d→wpAny X.M X.A (call f [u]) (Dn X z d) NoE z.s
def tj (X:Cx) (f:Value) (b:Bi):Prop:=∀ z u x d,Rep X z→CR X.W z x u→cX b x=some d→wpAny X.M X.A (call f [u]) (Dw X z d) NoE z.s
theorem tF:Bi1 X (.builtin "len") .len:=fun z u x d I h e=>by
 have hn:=eW
 cases x with
 | tup l=>cases e;obtain ⟨a,o,vs,rfl,e1,t,r⟩:=h;have:=t.2.2;rw [r.len];exact len_tuple (tpt (I.gh _ _ e1) t) (by rw [List.size_toArray];omega) (.tok fun _ _ _=>⟨_,rfl⟩)
 | lst l=>cases e;obtain ⟨a,o,vs,rfl,e1,t,r⟩:=h;have:=t.2;rw [r.len];exact Calls.call_len_list (lsl e1 t) (by rw [List.size_toArray];omega) (.tok fun _ _ _=>⟨_,rfl⟩)
 | str y=>
   obtain ⟨hz,rfl⟩:=aI (show (if y.length≤100000 then some (D.int y.length) else none)=some d from e)
   obtain ⟨t,rfl⟩:=h;have:=big hz
   exact len_str (by omega) (.tok fun _ _ _=>⟨_,rfl⟩)
 | dic ks ds=>
   obtain ⟨hz,rfl⟩:=aI (show (if ks.length≤100000 then some (D.int ks.length) else none)=some d from e)
   obtain ⟨a,o,vs,rfl,m,e1,c1,l1,r1⟩:=h
   have n1:(ks.zip vs).length=ks.length:=by rw [List.length_zip,← r1.len,l1,Nat.min_self]
   have:=big hz
   refine call_len_dict m (c1.of e1) (by rw [n1];omega) ?_
   rw [n1]
   exact .tok fun _ _ _=>⟨_,rfl⟩
 | _=>cases e
theorem mD:Bi1 X (.type "tuple") .tuple:=fun z u x d I h e=>by
 cases x with
 | tup l=>cases e;obtain ⟨a,o,vs,rfl,e1,t,r⟩:=id h;exact call_tuple_same (tpt (I.gh _ _ e1) t) (.old I .refl h)
 | lst l=>
   cases e
   obtain ⟨a,o,vs,rfl,e1,t,r⟩:=h
   refine call_tuple_list (lsl e1 t) (fun h' kp=>?_) (by rw [List.size_toArray];exact t.2)
   have nn:z.h h'.objs.size=none:=by
    cases q:z.h h'.objs.size with
    | none=>rfl
    | some o=>exact absurd (Heap.lt_size (kp _ o q)) (Nat.lt_irrefl _)
   exact .tup I r (.hp (t:=z.s.toks) fun b o e=>Heap.get?_push_of_some _ (kp b o e)) nn (Heap.get?_push_size _ rfl) (pw t.2)
 | _=>cases e
theorem pY:tj X (.type "list") .list:=fun z u x d I h e=>by
 cases x with
 | tup l=>
   cases e
   obtain ⟨a,o,vs,rfl,e1,t,r⟩:=h
   obtain ⟨n,hd⟩:=t.2.1
   exact call_list_seq a (.inr rfl) (I.gh _ _ e1) t.1 hd (fun h' c' kp e=>.lst r (.hp (t:=z.s.toks) kp) (aB z) e t.2.2.1) (by rw [List.size_toArray];exact t.2.2.1)
 | lst l=>
   cases e
   obtain ⟨a,o,vs,rfl,e1,⟨⟨n,rfl⟩,hz⟩,r⟩:=h
   exact call_list_seq a (.inl rfl) e1 rfl rfl (fun h' c' kp e=>.lst r (.hp (t:=z.s.toks) kp) (aB z) e hz) (by rw [List.size_toArray];exact hz)
 | _=>cases e
theorem HR.sysm (I:HR X z):sysModules<z.s.heap.objs.size:=Nat.lt_trans (by decide) (I.md.glob.keeps fun b o e=>I.gh _ _ (I.bs b o e)).lt
theorem tE:Bi1 X (.type "int") .int:=fun z u x d I h e=>by
 cases x with
 | int i=>cases e;obtain ⟨t,rfl⟩:=h;exact call_int_int (.tok fun _ _ _=>⟨_,rfl⟩)
 | bl i=>cases e;cases (show u=Value.bool i from h);exact call_int_bool (.tok fun _ _ _=>⟨_,rfl⟩)
 | str y=>
   obtain ⟨hz,e⟩:y.length≤640∧(PySem.intText? y).map D.int=some d:=by
    unfold cX at e;dsimp only at e;split at e
    ·rename_i c;exact ⟨c,e⟩
    ·cases e
   obtain ⟨n,q,rfl⟩:=Option.map_eq_some_iff.mp e
   obtain ⟨t,rfl⟩:=h
   exact PySem.W.KIN.call_text q hz (.tok fun _ _ _=>⟨_,rfl⟩)
 | _=>cases e
theorem ft:∀ {l ns vs},cj l=some ns→RDs W ρ G l vs→IntsAre vs ns
 | [],ns,vs,e,r=>by cases e;cases (show vs = [] from r);exact .nil
 | d :: l,ns,vs,e,r=>by
   cases d with
   | int b=>
     obtain ⟨cs,q,rfl⟩:=Option.map_eq_some_iff.mp (show (cj l).map (b :: ·)=some ns from e)
     obtain ⟨v,r',rfl,⟨t,rfl⟩,tl⟩:=r
     exact .cons b t (ft q tl)
   | _=>cases e
def Bi2 (X:Cx) (f:Value) (b:Bi):Prop:=∀ z u v x y d,Rep X z→CR X.W z x u→CR X.W z y v→pV b x y=some d→wpAny X.M X.A (call f [u,v]) (Dn X z d) NoE z.s
theorem p0 (hc:X.calm=true):Bi2 X (.builtin "max") .max2:=fun z u v x y d I h1 h2 e=>by
 cases x with
 | int i=>cases y with
   | int j=>
     cases e;obtain ⟨t,rfl⟩:=h1;obtain ⟨t',rfl⟩:=h2
     refine max_two_ints (I.hd hc) fun h' tk k=>⟨.hp k,?_⟩
     by_cases hj:j>i
     ·rw [if_pos hj,if_pos hj];exact ⟨_,rfl⟩
     ·rw [if_neg hj,if_neg hj];exact ⟨_,rfl⟩
   | _=>cases e
 | _=>cases e
theorem qe (hc:X.calm=true):Bi2 X (.builtin "min") .min2:=fun z u v x y d I h1 h2 e=>by
 cases x with
 | int i=>cases y with
   | int j=>
     cases e;obtain ⟨t,rfl⟩:=h1;obtain ⟨t',rfl⟩:=h2
     refine min_two_ints (I.hd hc) fun h' tk k=>⟨.hp k,?_⟩
     by_cases hj:j<i
     ·rw [if_pos hj,if_pos hj];exact ⟨_,rfl⟩
     ·rw [if_neg hj,if_neg hj];exact ⟨_,rfl⟩
   | _=>cases e
 | _=>cases e
def tyN:Bi→String
 | .isTup=>"tuple" | .isStr=>"str" | .isBool=>"bool" | .isInt=>"int" | .isDic=>"dict" | _=>"list"
theorem vD (hb:b = .isTup∨b = .isStr∨b = .isBool∨b = .isInt∨b = .isLst∨b = .isDic) {u:Value} (I:Rep X z) (h:CR X.W z x u) (e:cX b x=some d):wpAny X.M X.A (call (.builtin "isinstance") [u,.type (tyN b)]) (Dn X z d) NoE z.s:=by
 have kin:X.K.In z.s.heap:=I.md.kin.keeps fun b o e=>I.gh _ _ (I.bs b o e)
 have go:∀ {tn:String},cX b x=(PySem.W.kitOne [] (.type tn) (.type (tyN b))).map D.bl→(∀ v,PySem.W.kitOne [] (.type tn) (.type (tyN b))=some v→(∀ n,Dn X z (.bl v) (.bool v) { z.s with toks:=n })→wpAny X.M X.A (call (.builtin "isinstance") [u,.type (tyN b)]) (Dn X z (.bl v)) NoE z.s)→wpAny X.M X.A (call (.builtin "isinstance") [u,.type (tyN b)]) (Dn X z d) NoE z.s:=fun q k=>by
  rw [q] at e
  obtain ⟨v,e1,rfl⟩:=Option.map_eq_some_iff.mp e
  exact k v e1 fun n=>.tok fun _ _ _=>rfl
 cases x with
 | non=>cases (show u=Value.none from h);exact go (tn:="NoneType") (by rcases hb with rfl | rfl | rfl | rfl | rfl | rfl <;> kernel_rfl) fun v q k=>PySem.W.kia_one PySem.W.kitx_none kin True.intro q (fun z=>nomatch z) k
 | bl y=>cases (show u=Value.bool y from h);exact go (tn:="bool") (by rcases hb with rfl | rfl | rfl | rfl | rfl | rfl <;> kernel_rfl) fun v q k=>PySem.W.kia_one PySem.W.kitx_bool kin True.intro q (fun z=>nomatch z) k
 | int y=>obtain ⟨t,rfl⟩:=(show ∃ t,u=Value.int y t from h);exact go (tn:="int") (by rcases hb with rfl | rfl | rfl | rfl | rfl | rfl <;> kernel_rfl) fun v q k=>PySem.W.kia_one PySem.W.kitx_int kin True.intro q (fun z=>nomatch z) k
 | str y=>obtain ⟨t,rfl⟩:=(show ∃ t,u=Value.str y t from h);exact go (tn:="str") (by rcases hb with rfl | rfl | rfl | rfl | rfl | rfl <;> kernel_rfl) fun v q k=>PySem.W.kia_one PySem.W.kitx_str kin True.intro q (fun z=>nomatch z) k
 | tup l=>obtain ⟨a,o,vs,rfl,e1,t,r⟩:=h;exact go (tn:="tuple") (by rcases hb with rfl | rfl | rfl | rfl | rfl | rfl <;> kernel_rfl) fun v q k=>PySem.W.kia_one PySem.W.kitx_tuple kin ⟨o,I.gh _ _ e1,t.1⟩ q (fun z=>nomatch z) k
 | lst l=>obtain ⟨a,o,vs,rfl,e1,⟨⟨n,rfl⟩,_⟩,r⟩:=h;exact go (tn:="list") (by rcases hb with rfl | rfl | rfl | rfl | rfl | rfl <;> kernel_rfl) fun v q k=>PySem.W.kia_one PySem.W.kitx_list kin ⟨_,e1,rfl⟩ q (fun z=>nomatch z) k
 | dic ks l=>obtain ⟨a,o,vs,rfl,m,e1,⟨_,_,c,_⟩,hl,r⟩:=h;exact go (tn:="dict") (by rcases hb with rfl | rfl | rfl | rfl | rfl | rfl <;> kernel_rfl) fun v q k=>PySem.W.kia_one PySem.W.kitx_dict kin ⟨o,e1,c.1⟩ q (fun z=>nomatch z) k
 | _=>rcases hb with rfl | rfl | rfl | rfl | rfl | rfl <;> cases e
end
end L2.Ev
end
section
namespace L2.Ev
def toB (d:D) (s:Sta):Out Bool:=match d with | .bl b=>.ok b s | _=>.bad
def RT (_:Z) (b c:Bool):Prop:=c=b
def RVs (W:Wd) (br:Bool):E→Z→List D→List Value→Prop
 | .cons a r,z,d :: ds,u :: us=>RV W br a z d u∧RVs W br r z ds us
 | .nil,_,[],[]=>True
 | _,_,_,_=>False
def LE (X:Cx) (e:Expr) (c:E):Prop:=∀ br,Jg X (eval e X.env) (X.ev br c) (RV X.W br c)
def LF (X:Cx) (e:Expr) (c:E):Prop:=∀ z,Rep X z→X.ev false c z.t≠.bad→Wp X (eval e X.env) z (X.ev false c z.t) (FV X z)
def LT (X:Cx) (e:Expr) (c:E):Prop:=Jg X (isTrue e X.env (eval e X.env)) (fun t=>(X.ev true c t).bind toB) RT
def LW (X:Cx) (e:Expr) (c:E):Prop:=∀ wh,Jg X (isTrue e X.env wh) (fun t=>(X.ev true c t).bind toB) RT
def LA (X:Cx) (es:List Expr) (c:E):Prop:=∀ br pos,Jg X (spliced (backTo pos (starEach es X.env))) (X.evs br c) (RVs X.W br c)
theorem ak (x:Out α) (f:α→Sta→Out β) (g:β→Sta→Out γ):(x.bind f).bind g=x.bind fun a s=>(f a s).bind g:=by cases x <;> rfl
theorem xq (h:RB X.W z (.bl b) u) (I:Rep X z):u = .bool b:=(h.cr0 I:RD X.W z.ρ z.G (.bl b) u)
section
variable {X:Cx} {z z0 z1:Z} {br:Bool}
theorem Rep.bk (I:HR X z):∀ b o,X.base.get? b=some o→z.s.heap.get? b=some o:=fun b o e=>I.gh _ _ (I.bs b o e)
theorem HR.kin (I:HR X z):X.K.In z.s.heap:=I.md.kin.keeps (Rep.bk I)
theorem cu {i:Nat} {x:Str} {Q:Value→Shared→Prop} {E:Value→Shared→Prop} (I:Rep X z) (hN:X.N[i]? = some x) (hv:Vis X.env.scope x) (e:z.σ[i]? = some (some u)) (q:Q u z.s) (hd:(x == ("__debug__":Str))=false) (hc:(x == ("__classdict__":Str))=false):wpAny X.M X.A (eval (.Name x pos) X.env) Q E z.s:=by
 obtain ⟨m,hn,hl⟩:=I.lo
 rcases hl i x u hN e hv with ⟨hk,hm⟩ | ⟨hk,c,hc',hcell⟩
 ·exact wpAny_Name (wpAny_loadName_local I.ok.kd hk hn hm q) hd
 ·rcases hk with hk | hk
  ·exact wpAny_Name (wpAny_loadName_cell I.ok.kd hk hc' hcell q) hd
  ·exact wpAny_Name (wpAny_loadName_free I.ok.kd hk hc' hcell q hc) hd
theorem Rep.slot {i:Nat} {d:D} (I:Rep X z) (e:z.t.env[i]? = some (some d)):∃ u,z.σ[i]? = some (some u)∧RB X.W z d u:=by
 by_cases m:i∈z.t.ow
 ·obtain ⟨d',a,o,h1,h2,_⟩:=I.eo i m
  exact ⟨_,h2,.inr ⟨i,m,h2,e⟩⟩
 ·obtain ⟨u,q,r⟩:=I.en i d m e
  exact ⟨u,q,.inl r⟩
theorem qR {i:Nat} {x:Str} (hN:X.N[i]? = some x) (hv:Vis X.env.scope x) (hd:(x == ("__debug__":Str))=false) (hc:(x == ("__classdict__":Str))=false):LE X (.Name x pos) (.v i):=fun br z I nb=>by
 have en:∃ d,z.t.env[i]? = some (some d):=by
  cases q:z.t.env[i]? with
  | none=>exact absurd (show X.ev br (.v i) z.t = .bad by show (match z.t.env[i]? with | some (some d)=>Out.ok d (if br then z.t else un z.t i) | _=>.bad)=_;rw [q]) nb
  | some o=>cases o with
    | none=>exact absurd (show X.ev br (.v i) z.t = .bad by show (match z.t.env[i]? with | some (some d)=>Out.ok d (if br then z.t else un z.t i) | _=>.bad)=_;rw [q]) nb
    | some d=>exact ⟨d,rfl⟩
 obtain ⟨d,q⟩:=en
 have e:X.ev br (.v i) z.t = .ok d (if br then z.t else un z.t i):=by show (match z.t.env[i]? with | some (some d)=>Out.ok d (if br then z.t else un z.t i) | _=>.bad)=_;rw [q]
 obtain ⟨u,q1,r⟩:=I.slot q
 rw [e]
 refine cu I hN hv q1 ?_ hd hc
 cases br with
 | true=>
   refine ⟨z,d,rfl,rfl,.refl,I,?_⟩
   by_cases m:i∈z.t.ow
   ·exact .inr ⟨rfl,i,rfl,m,q1,q⟩
   ·obtain ⟨u',q2,r2⟩:=I.en i d m q
    rw [q1] at q2;cases q2;exact .inl r2
 | false=>
   obtain ⟨I2,x2⟩:=I.rel (fun j=>j != i)
   refine ⟨z.rel fun j=>j != i,d,rfl,rfl,x2,I2,?_⟩
   obtain ⟨u',q2,r2⟩:=I2.en i d (fun m=>by simp [Z.rel] at m) q
   rw [show z.σ[i]? = some (some u') from q2] at q1;cases q1;exact .inl r2
theorem qG (h:∀ z,wpAny X.M X.A (eval e X.env) (Dn X z d) NoE z.s):LE X e (.c d):=fun br z I nb=>wpAny_mono (wpAny_toks_of I.tk (h z)) (fun _ _ k=>k.2.pe I k.1) fun _ _ z=>z.2.elim
theorem sF:LE X (.Constant .none j pos) (.c .non):=qG fun _=>Constant_none (.tok fun _ _ _=>rfl)
theorem v7:LE X (.Constant (.bool b) j pos) (.c (.bl b)):=qG fun _=>Constant_bool (.tok fun _ _ _=>rfl)
theorem sE:LE X (.Constant (.int i) j pos) (.c (.int i)):=qG fun _=>wpAny_Constant_int (.tok fun _ _ _=>⟨_,rfl⟩)
theorem sG:LE X (.Constant (.str x) j pos) (.c (.str x)):=qG fun _=>Calls.Constant_str (.tok fun _ _ _=>⟨_,rfl⟩)
def Gl (X:Cx) (x:Str):Prop:=X.env.kindOf x=some .globalImplicit
theorem aF {Q:Value→Shared→Prop} {E:Value→Shared→Prop} (I:Rep X z) (hg:Gl X x) (hm:X.mg x=some u) (h:Q u z.s) (hd:(x == ("__debug__":Str))=false):wpAny X.M X.A (eval (.Name x pos) X.env) Q E z.s:=
 Calls.Name_function_global I.ok.kd hg (Calls.loadGlobal_global (by rw [I.ok.gl];exact I.md.glob.keeps (Rep.bk I.toHR)) hm h) hd
theorem ud {Q:Value→Shared→Prop} {E:Value→Shared→Prop} (I:Rep X z) (hg:Gl X x) (hm:X.mg x=none) (hv:bootBuiltins x=some u) (h:Q u z.s) (hn:x≠"__name__") (hd:(x == ("__debug__":Str))=false):wpAny X.M X.A (eval (.Name x pos) X.env) Q E z.s:=by
 obtain ⟨mb,h1,h2⟩:=I.md.blt
 exact Calls.Name_function_global I.ok.kd hg (Calls.loadGlobal_builtin (by rw [I.ok.gl];exact I.md.glob.keeps (Rep.bk I.toHR)) hm (by rw [I.ok.bl];exact h1.keeps (Rep.bk I.toHR)) ((h2 x hn).trans hv) h) hd
def aJ (K:Fg):L2.Bk.Dk→Value→Bool
 | .str x,v=>(match v with | .str y _=>decide (y=x) | _=>false)
 | .int i,v=>(match v with | .int j _=>decide (j=i) | _=>false)
 | .bl b,v=>(match v with | .bool c=>decide (c=b) | _=>false)
 | .non,v=>(match v with | .none=>true | _=>false)
 | .tup ds,v=>(match v with
   | .ref a=>(match K.lookup a with
     | some o=>o.cls == .type "tuple" && o.dict.isNone && (match o.data with | .seq its _=>decide (its.size≤1000) && lookDs K ds its.toList | _=>false)
     | none=>false)
   | _=>false)
where lookDs (K:Fg):List L2.Bk.Dk→List Value→Bool
 | [],vs=>vs.isEmpty
 | d :: ds,vs=>(match vs with | v :: r=>aJ K d v && lookDs K ds r | []=>false)
mutual
theorem oZ {K:Fg} {G:Hp} (k:∀ a o,K.lookup a=some o→G a=some o):∀ d v,aJ K d v=true→RD W ρ G (toD d) v
 | .str x,v,h=>by cases v <;> simp only [aJ] at h <;> first | cases h | exact ⟨_,by rw [of_decide_eq_true h]⟩
 | .int x,v,h=>by cases v <;> simp only [aJ] at h <;> first | cases h | exact ⟨_,by rw [of_decide_eq_true h]⟩
 | .bl x,v,h=>by cases v <;> simp only [aJ] at h <;> first | cases h | exact (by rw [of_decide_eq_true h];rfl)
 | .non,v,h=>by cases v <;> simp only [aJ] at h <;> first | exact (rfl:RD W ρ G .non .none) | cases h
 | .tup ds,v,h=>by
   cases v with
   | ref a=>
     simp only [aJ] at h
     cases q:K.lookup a with
     | none=>rw [q] at h;cases h
     | some o=>
       rw [q] at h
       dsimp only at h
       rw [Bool.and_eq_true] at h
       rw [Bool.and_eq_true] at h
       obtain ⟨⟨h1,h3⟩,h2⟩:=h
       cases qd:o.data with
       | seq its n=>
         rw [qd] at h2
         dsimp only at h2
         rw [Bool.and_eq_true] at h2
         have hz:its.size≤1000:=of_decide_eq_true h2.1
         exact ⟨a,o,its.toList,rfl,k a o q,⟨by simpa using h1,⟨n,by simpa using qd⟩,(by rw [Array.length_toList,sizeLine_eq];omega),by simpa using h3⟩,kX k ds _ h2.2⟩
       | _=>rw [qd] at h2;cases h2
   | _=>simp [aJ] at h
theorem kX {K:Fg} {G:Hp} (k:∀ a o,K.lookup a=some o→G a=some o):∀ ds vs,aJ.lookDs K ds vs=true→RDs W ρ G (toD.toDs ds) vs
 | [],vs,h=>by cases vs with
   | nil=>exact rfl
   | cons _ _=>simp [aJ.lookDs] at h
 | d :: ds,vs,h=>by cases vs with
   | nil=>simp [aJ.lookDs] at h
   | cons v r=>
     simp only [aJ.lookDs,Bool.and_eq_true] at h
     exact .cons (oZ k d v h.1) (kX k ds r h.2)
end
theorem HR.top (I:HR X z) (h:aJ X.K d u=true):RD X.W z.ρ z.G (toD d) u:=oZ (fun a o e=>I.bs a o (I.md.kin a o e)) d u h
theorem yy {j:Nat} (hg:Gl X x) (hm:X.mg x=some u) (hd:(x == ("__debug__":Str))=false) (e:X.Γ.gl[j]? = some d) (h:aJ X.K d u=true):LE X (.Name x pos) (.g j):=fun br z I nb=>by
 have q:X.ev br (.g j) z.t = .ok (toD d) z.t:=by show Out.of z.t (X.Γ.gl[j]?.map toD)=_;rw [e];rfl
 rw [q]
 exact aF I hg hm ⟨z,toD d,rfl,rfl,.refl,I,.of (I.toHR.top h)⟩ hd
theorem wQ {o:Op} (ho:Op2 X (binaryOp op) (opD o)) (ha:LE X ea a) (hb:LE X eb b):LE X (.BinOp ea op eb pos) (.op o a b):=fun br z I nb=>
 wpAny_BinOp ((ha true).go .refl I rfl nb fun z1 x u y1 x1 I1 r1 e1=>(hb true).go x1 I1 e1 nb fun z2 y v y2 x2 I2 r2 e2=>b7 x2 I2 e2 nb fun d q=>ho z2 u v _ _ d I2 ((r1.rb.st y2 I2).cr I2) (r2.rb.cr I2) q)
theorem ui {o:Op} (ho:Op2 X (compareOp op) (opD o)) (ha:LE X ea a) (hb:LE X eb b) (hm:behindInMarks op eb=false):LE X (.Compare ea [op] [eb] pos) (.op o a b):=fun br z I nb=>
 wpAny_Compare1 ((ha true).go .refl I rfl nb fun z1 x u y1 x1 I1 r1 e1=>(hb true).go x1 I1 e1 nb fun z2 y v y2 x2 I2 r2 e2=>b7 x2 I2 e2 nb fun d q=>ho z2 u v _ _ d I2 ((r1.rb.st y2 I2).cr I2) (r2.rb.cr I2) q) hm
theorem Dn.tru {o:Out Bool} {s':Shared} (x:Ee X z0 z) (I:Rep X z) (e:o=(Out.ok d z.t).bind toB) (nb:o≠.bad) (h:Dn X z d u s') (tk:X.tz≤s'.toks:=by first | assumption | exact HR.tk (by assumption) | exact HR.tk1 (by assumption) | exact (Rep.toHR (by assumption)).tk | exact (Rep.toHR (by assumption)).tk1 | exact Nat.le_succ_of_le (by assumption)):wpAny X.M X.A (truthy u) (Pe X z0 o RT) (Px X z0 o) s':=by
 cases d with
 | bl b=>
   cases (show u=Value.bool b from h.2)
   exact wpAny_truthy_bool ⟨z.up s',b,rfl,e,x.trans (cy I.gh h.1).ee,I.grow (cy I.gh h.1) tk,rfl⟩
 | _=>exact absurd e nb
theorem uP {o:Op} (ho:Op2 X (compareOp op) (opD o)) (ha:LE X ea a) (hb:LE X eb b) (hm:behindInMarks op eb=false):LT X (.Compare ea [op] [eb] pos) (.op o a b):=fun z I nb=>
 wpAny_isTrue_Compare1 ((ha true).go .refl I (ak ..) nb fun z1 x u y1 x1 I1 r1 e1=>(hb true).go x1 I1 (e1.trans (ak ..)) nb fun z2 y v y2 x2 I2 r2 e2=>by
  cases q:opD o (look z2.t.st x) (look z2.t.st y) with
  | none=>rw [q] at e2;exact absurd e2 nb
  | some d=>rw [q] at e2;exact wpAny_mono (wpAny_toks_of I2.tk (ho z2 u v _ _ d I2 ((r1.rb.st y2 I2).cr I2) (r2.rb.cr I2) q)) (fun c s' k=>k.2.tru x2 I2 e2 nb k.1) fun _ _ z=>z.2.elim) hm
theorem ia (I:Rep X z) (h:RB X.W z d u):(u == Value.none)=iS d:=by
 rcases h with h | ⟨i,m,e1,e2⟩
 ·cases d with
  | non=>cases (show u=_ from h);rfl
  | bl b=>cases (show u=_ from h);rfl
  | int b=>obtain ⟨t,rfl⟩:=h;rfl
  | str b=>obtain ⟨t,rfl⟩:=h;rfl
  | tup l=>obtain ⟨a,_,_,rfl,_⟩:=h;rfl
  | lst l=>obtain ⟨a,_,_,rfl,_⟩:=h;rfl
  | dic k l=>obtain ⟨a,_,_,rfl,_⟩:=h;rfl
  | ins c l=>obtain ⟨a,_,_,rfl,_⟩:=h;rfl
  | ref n=>obtain ⟨a,_,rfl⟩:=h;rfl
 ·obtain ⟨d',a,o,h1,h2,h3,_⟩:=I.eo i m
  rw [e1] at h2;cases h2
  rw [e2] at h1;cases h1
  cases d <;> first | rfl | cases h3
theorem cf (b:Bool) {z:Z}:Dn X z (.bl b) (.bool b) z.s:=.tok (n:=z.s.toks) fun _ _ _=>rfl
theorem ul (ha:LE X ea a) (h1:behindInMarks .Is (.Constant .none j pos')=false):LE X (.Compare ea [.Is] [.Constant .none j pos'] pos) (.isN a):=fun br z I nb=>
 wpAny_Compare1 ((ha true).go .refl I rfl nb fun z1 x u y1 x1 I1 r1 e1=>Constant_none (is_none_gen (by rw [ia I1 r1.rb];exact (cf _).at x1 I1 e1))) h1
theorem qI (ha:LE X ea a) (h1:behindInMarks .IsNot (.Constant .none j pos')=false):LE X (.Compare ea [.IsNot] [.Constant .none j pos'] pos) (.isNN a):=fun br z I nb=>
 wpAny_Compare1 ((ha true).go .refl I rfl nb fun z1 x u y1 x1 I1 r1 e1=>Constant_none (isnot_none_gen (by rw [ia I1 r1.rb];exact (cf _).at x1 I1 e1))) h1
theorem uQ (ha:LE X ea a) (h1:behindInMarks .Is (.Constant .none j pos')=false):LT X (.Compare ea [.Is] [.Constant .none j pos'] pos) (.isN a):=fun z I nb=>
 wpAny_isTrue_Compare1 ((ha true).go .refl I (ak ..) nb fun z1 x u y1 x1 I1 r1 e1=>Constant_none (is_none_gen (by rw [ia I1 r1.rb];exact (cf _).tru x1 I1 e1 nb))) h1
theorem ry (ha:LE X ea a) (h1:behindInMarks .IsNot (.Constant .none j pos')=false):LT X (.Compare ea [.IsNot] [.Constant .none j pos'] pos) (.isNN a):=fun z I nb=>
 wpAny_isTrue_Compare1 ((ha true).go .refl I (ak ..) nb fun z1 x u y1 x1 I1 r1 e1=>Constant_none (isnot_none_gen (by rw [ia I1 r1.rb];exact (cf _).tru x1 I1 e1 nb))) h1
theorem ut (ha:LE X ea a):LE X (.UnaryOp .USub ea pos) (.neg a):=fun br z I nb=>
 UnaryOp_ ((ha true).go .refl I rfl nb fun z1 x u y1 x1 I1 r1 e1=>by
  cases x with
  | int i=>obtain ⟨t,rfl⟩:=(r1.rb.cr0 I1:CR X.W z1 (.int i) u);exact neg_int ((Dn.tok fun _ _ _=>⟨_,rfl⟩:Dn X z1 (.int (-i)) _ _).at x1 I1 e1)
  | _=>exact absurd e1 nb)
theorem uv (ha:LE X ea a):LE X (.UnaryOp .Not ea pos) (.not a):=fun br z I nb=>
 UnaryOp_ ((ha true).go .refl I rfl nb fun z1 x u y1 x1 I1 r1 e1=>by
  cases x with
  | bl b=>cases xq r1.rb I1;exact not_of (wpAny_truthy_bool ((cf _).at x1 I1 e1))
  | _=>exact absurd e1 nb)
theorem ue (ha:LE X ea a) (hb:LE X (.BoolOp .And (eb :: r) pos) b):LE X (.BoolOp .And (ea :: eb :: r) pos) (.and a b):=fun br z I nb=>
 BoolOp_and ((ha false).go .refl I rfl nb fun z1 x u y1 x1 I1 r1 e1=>by
  cases x with
  | bl c=>
    cases (show u=Value.bool c from r1.rd)
    refine wpAny_truthy_bool ?_
    cases c with
    | true=>exact wpAny_mono ((hb false).at x1 I1 e1 nb) (fun u s' ⟨z',d,e,q,y,I',r⟩=>⟨z',d,e,q,y,I',.of r.rd⟩) fun _ _ h=>h
    | false=>exact (cf _).at x1 I1 e1
  | _=>exact absurd e1 nb)
theorem wR (ha:LE X ea a) (hb:LE X (.BoolOp .Or (eb :: r) pos) b):LE X (.BoolOp .Or (ea :: eb :: r) pos) (.or a b):=fun br z I nb=>
 BoolOp_or ((ha false).go .refl I rfl nb fun z1 x u y1 x1 I1 r1 e1=>by
  cases x with
  | bl c=>
    cases (show u=Value.bool c from r1.rd)
    refine wpAny_truthy_bool ?_
    cases c with
    | false=>exact wpAny_mono ((hb false).at x1 I1 e1 nb) (fun u s' ⟨z',d,e,q,y,I',r⟩=>⟨z',d,e,q,y,I',.of r.rd⟩) fun _ _ h=>h
    | true=>exact (cf _).at x1 I1 e1
  | _=>exact absurd e1 nb)
theorem sS (h:LW X e c):LT X e c:=h _
theorem rB (ha:LT X ea a):LW X (.BoolOp .And [ea] pos) a:=fun wh z I nb=>isTrue_and (thn (ha z I nb) fun c s1 e=>by
 cases c with
 | true=>exact isTrue_and_nil e
 | false=>exact e)
theorem uT (ha:LT X ea a):LW X (.BoolOp .Or [ea] pos) a:=fun wh z I nb=>isTrue_or (thn (ha z I nb) fun c s1 e=>by
 cases c with
 | false=>exact isTrue_or_nil e
 | true=>exact e)
theorem RT.pe (x:Ee X z0 z) (I:Rep X z) (e:o = .ok b z.t):Pe X z0 o RT b z.s:=⟨z,b,rfl,e,x,I,rfl⟩
theorem tB (x:Out D) (f:Bool→Sta→Out β):(x.bind toB).bind f=x.bind fun d s=>match d with | .bl b=>f b s | _=>.bad:=by
 cases x with
 | ok d s=>cases d <;> rfl
 | _=>rfl
theorem uS (ha:LT X ea a) (hb:LW X (.BoolOp .And (eb :: r) pos) b):LW X (.BoolOp .And (ea :: eb :: r) pos) (.tand a b):=fun wh z I nb=>by
 have e:(X.ev true (.tand a b) z.t).bind toB=((X.ev true a z.t).bind toB).bind fun c s=>if c then (X.ev true b s).bind toB else .ok false s:=by
  rw [tB];show Out.bind (Out.bind _ _) _=_;rw [ak];congr 1;funext d s
  cases d <;> first | rfl | (rename_i c;cases c <;> rfl)
 refine isTrue_and (ha.go .refl I e nb fun z1 c u y1 x1 I1 r1 e1=>?_)
 cases (show u=c from r1)
 cases c with
 | true=>exact (hb wh).at x1 I1 e1 nb
 | false=>exact RT.pe x1 I1 e1
theorem wX (ha:LT X ea a) (hb:LW X (.BoolOp .Or (eb :: r) pos) b):LW X (.BoolOp .Or (ea :: eb :: r) pos) (.tor a b):=fun wh z I nb=>by
 have e:(X.ev true (.tor a b) z.t).bind toB=((X.ev true a z.t).bind toB).bind fun c s=>if c then .ok true s else (X.ev true b s).bind toB:=by
  rw [tB];show Out.bind (Out.bind _ _) _=_;rw [ak];congr 1;funext d s
  cases d <;> first | rfl | (rename_i c;cases c <;> rfl)
 refine isTrue_or (ha.go .refl I e nb fun z1 c u y1 x1 I1 r1 e1=>?_)
 cases (show u=c from r1)
 cases c with
 | false=>exact (hb wh).at x1 I1 e1 nb
 | true=>exact RT.pe x1 I1 e1
theorem uR (ha:LT X ea a):LT X (.UnaryOp .Not ea pos) (.tnot a):=fun z I nb=>by
 have e:(X.ev true (.tnot a) z.t).bind toB=((X.ev true a z.t).bind toB).bind fun c s=>.ok (!c) s:=by
  rw [tB];show Out.bind (Out.bind _ _) _=_;rw [ak];congr 1;funext d s
  cases d <;> rfl
 exact isTrue_not (ha.go .refl I e nb fun z1 c u y1 x1 I1 r1 e1=>by
  cases (show u=c from r1)
  exact RT.pe x1 I1 e1)
theorem uo (hc:LT X ec c) (ha:LE X ea a) (hb:LE X eb b):LE X (.IfExp ec ea eb pos) (.ite c a b):=fun br z I nb=>by
 have e:X.ev br (.ite c a b) z.t=((X.ev true c z.t).bind toB).bind fun c s=>if c then X.ev false a s else X.ev false b s:=by
  rw [tB];show Out.bind _ _=_;congr 1;funext d s
  cases d <;> first | rfl | (rename_i c;cases c <;> rfl)
 refine wpAny_IfExp (hc.go .refl I e nb fun z1 c u y1 x1 I1 r1 e1=>?_)
 cases (show u=c from r1)
 cases c with
 | true=>exact wpAny_mono ((ha false).at x1 I1 e1 nb) (fun u s' ⟨z',d,e,q,y,I',r⟩=>⟨z',d,e,q,y,I',.of r.rd⟩) fun _ _ h=>h
 | false=>exact wpAny_mono ((hb false).at x1 I1 e1 nb) (fun u s' ⟨z',d,e,q,y,I',r⟩=>⟨z',d,e,q,y,I',.of r.rd⟩) fun _ _ h=>h
theorem xC {d:D} {u:Value} (I:Rep X z) (h:CR X.W z d u) (e:rW d=some b):wpAny X.M X.A (truthy u) (fun c s'=>c=b∧Gr z.s s') NoE z.s:=by
 have hl:=eW
 cases d with
 | non=>cases e;cases (show u=_ from h);exact truthy_none ⟨rfl,.refl⟩
 | bl c=>cases e;cases (show u=_ from h);exact wpAny_truthy_bool ⟨rfl,.refl⟩
 | int i=>cases e;obtain ⟨t,rfl⟩:=h;exact PySem.P.truthy_int ⟨rfl,.refl⟩
 | tup l=>
   cases e;obtain ⟨a,o,vs,rfl,e1,t,r⟩:=h;have:=t.2.2
   refine truthy_tuple (tpt (I.gh _ _ e1) t) (by rw [List.size_toArray];omega) ⟨?_,.tok⟩
   have:=r.len;cases l <;> cases vs <;> first | rfl | cases this
 | lst l=>
   cases e;obtain ⟨a,o,vs,rfl,e1,t,r⟩:=h;have:=t.2
   refine wpAny_truthy_list (lsl e1 t) (by rw [List.size_toArray];omega) ⟨?_,.tok⟩
   have:=r.len;cases l <;> cases vs <;> first | rfl | cases this
 | _=>cases e
theorem wW (ha:LE X ea a) (he:∀ whole,isTrue ea X.env whole=(do let v ← whole;standAt ea.pos;holding [v] (truthy v))):LT X ea (.tv a):=fun z I nb=>
 isTrue_plain ((ha true).go .refl I (ak ..) nb fun z1 x u y1 x1 I1 r1 e1=>by
  cases q:rW (look z1.t.st x) with
  | none=>rw [q] at e1;exact absurd e1 nb
  | some b=>
    rw [q] at e1
    refine wpAny_mono (wpAny_toks_of I1.tk (xC I1 (r1.rb.cr I1) q)) (fun c s' ⟨tk,h,g⟩=>?_) fun _ _ z=>z.2.elim
    subst h
    exact ⟨z1.up s',c,rfl,e1,x1.trans (cy I1.gh g).ee,I1.grow (cy I1.gh g) tk,rfl⟩) (he _)
end
section
variable {X:Cx} {z z0 z1:Z} {br:Bool}
def gL (b:Expr):Prop:=∀ o i,subscripted b false o i=operate [o,i] (getItem o i)
theorem wO (ha:LE X ea a) (hb:LE X eb b) (hs:gL eb):LE X (.Subscript ea eb pos) (.ix a b):=fun br z I nb=>
 Subscript_ ((ha true).go .refl I rfl nb fun z1 x u y1 x1 I1 r1 e1=>(hb true).go x1 I1 e1 nb fun z2 y v y2 x2 I2 r2 e2=>b7 x2 I2 e2 nb fun d q=>by
  obtain ⟨T,id,h1,h2,h3⟩:=yw I2 ((r1.rb.st y2 I2).cr I2) (r2.rb.cr0 I2) q
  exact tail_any h2 h1 h3 (hs _ _))
def Cx.prt (X:Cx) (c:E) (s:Sta):Out (Option Int):=if bc c then .ok none s else (X.ev true c s).bind toI
def LO (X:Cx) (e:Option Expr) (c:E):Prop:=Jg X (evalPart e X.env) (X.prt c) fun _ o u=>IsPart u o
theorem qV:LO X none .nil:=fun z I nb=>by rw [evalPart_none];exact wpAny_pure ⟨z,none,rfl,rfl,.refl,I,.none⟩
theorem qW (n:bc a=false) (ha:LE X ea a):LO X (some ea) a:=fun z I nb=>by
 rw [evalPart_some]
 have e:X.prt a z.t=(X.ev true a z.t).bind toI:=by unfold Cx.prt;rw [n];rfl
 refine (ha true).go .refl I e nb fun z1 x u y1 x1 I1 r1 e1=>?_
 cases x with
 | int i=>obtain ⟨t,rfl⟩:=(r1.rb.cr0 I1:CR X.W z1 (.int i) u);exact ⟨z1,some i,rfl,e1,x1,I1,.int i t⟩
 | _=>exact absurd e1 nb
theorem CR.grow {s':Shared} (g:Grw z G' s'):∀ {d},CR W z d u→CR W { z with G:=G',s:=s' } d u
 | .lst _,⟨a,o,vs,e,q,t,r⟩=>⟨a,o,vs,e,g.gr.k _ _ q,t,r.mono (List.prefix_refl _) g.gg⟩
 | .dic _ _,⟨a,o,vs,e,m,q,t,l,r⟩=>⟨a,o,vs,e,m,g.gr.k _ _ q,t,l,r.mono (List.prefix_refl _) g.gg⟩
 | .non,h=>h
 | .bl _,h=>h
 | .int _,h=>h
 | .str _,h=>h
 | .tup _,h=>RD.mono (List.prefix_refl _) g.gg h
 | .ins _ _,h=>RD.mono (List.prefix_refl _) g.gg h
 | .ref _,h=>RD.mono (List.prefix_refl _) g.gg h
theorem wS {lo hi:Option Expr} {pos p2:Pos} (ha:LE X ea a) (hl:LO X lo l) (hh:LO X hi h):LE X (.Subscript ea (.Slice lo hi none p2) pos) (.sl a l h):=fun br z I nb=>
 Subscript_ ((ha true).go (f:=fun x s=>(X.prt l s).bind fun l s=>(X.prt h s).bind fun h s=>.of s (slO (look s.st x) l h)) .refl I rfl nb fun z1 x u y1 x1 I1 r1 e1=>wpAny_Slice (hl.go x1 I1 e1 nb fun z2 lo' vl y2 x2 I2 r2 e2=>hh.go x2 I2 e2 nb fun z3 hi' vu y3 x3 I3 r3 e3=>by
  rw [evalPart_none]
  refine wpAny_pure ?_
  have g:=am (s':={ z3.s with heap:=z3.s.heap.push { cls:=.type "slice",data:=.fields #[vl,vu,.none] } }) I3.gh (.push (t:=z3.s.toks))
  have I4:=I3.grow g
  show wpAny X.M X.A (subscriptTail ea (.Slice lo hi none p2) u (.ref z3.s.heap.objs.size)) _ _ { z3.s with heap:=z3.s.heap.push { cls:=.type "slice",data:=.fields #[vl,vu,.none] } }
  refine b7 (z:={ z3 with s:=_ }) (x3.trans g.ee) I4 e3 nb fun d q=>?_
  obtain ⟨T,id,h1,h2,h3⟩:=yD I4 ((((r1.rb.st y2 I2).st y3 I3).cr I3).grow g) (Heap.IsSliceOf.new ..) r2 r3 q
  exact tail_any (ops:=[.ref z3.s.heap.objs.size,u]) h2 h1 h3 (by with_unfolding_all rfl)))
theorem RVs.ind {W:Wd} {br:Bool} {z:Z} {P:E→List D→List Value→Prop} (hn:P .nil [] []) (hc:∀ a r d ds u us,RV W br a z d u→RVs W br r z ds us→P r ds us→P (.cons a r) (d :: ds) (u :: us)) (c:E):∀ ds us,RVs W br c z ds us→P c ds us:=by
 induction c with
 | nil=>
   intro ds us h
   cases ds with
   | nil=>cases us with
     | nil=>exact hn
     | cons _ _=>exact False.elim h
   | cons _ _=>exact False.elim h
 | cons a r _ ih=>
   intro ds us h
   cases ds with
   | nil=>exact False.elim h
   | cons d ds=>cases us with
     | nil=>exact False.elim h
     | cons u us=>exact hc a r d ds u us h.1 h.2 (ih ds us h.2)
 | _=>exact fun _ _ h=>False.elim h
theorem RVs.rds {c ds us} (h:RVs W false c z ds us):RDs W z.ρ z.G ds us:=RVs.ind (P:=fun _ ds us=>RDs W z.ρ z.G ds us) rfl (fun _ _ _ _ _ _ h _ ih=>.cons h.rd ih) c ds us h
theorem nJ:LA X [] .nil:=fun br pos z I nb=>Calls.spliced_nil ⟨z,[],rfl,rfl,.refl,I,trivial⟩
theorem kH (ha:LE X ea a) (hr:LA X er r) (hs:starEach (ea :: er) X.env=(false,eval ea X.env) :: starEach er X.env):LA X (ea :: er) (.cons a r):=fun br pos z I nb=>by
 rw [hs]
 show wpAny _ _ (spliced ((false,eval ea X.env) :: backTo pos (starEach er X.env))) _ _ _
 exact Calls.spliced_cons ((ha br).go .refl I rfl nb fun z1 x u y1 x1 I1 r1 e1=>(hr br pos).go x1 I1 e1 nb fun z2 l us y2 x2 I2 r2 e2=>⟨z2,x :: l,rfl,e2,x2,I2,r1.st y2 I2,r2⟩)
theorem n7 (h:LA X es c):LE X (.Tuple es x1 pos) (.tup c):=fun br z I nb=>
 wpAny_Tuple_spliced ((h false pos).go (f:=fun l s=>if l.length≤100000 then Out.ok (D.tup l) s else .bad) .refl I rfl nb fun z1 l us y1 x1 I1 r1 e1=>by
  by_cases c:l.length≤100000
  ·rw [if_pos c] at e1
   have hz:us.length≤sizeLine:=by rw [← r1.rds.len];exact big c
   exact ⟨hz,Dn.at x1 I1 e1 (.tupn (t:=z1.s.toks) I1 r1.rds hz)⟩
  ·rw [if_neg c] at e1;exact absurd e1 nb)
theorem FV.less (x:Ee X z0 z1) (h:FV X z1 z d u):FV X z0 z d u:=let ⟨a,o,e,n,r⟩:=h;⟨a,o,e,x.st.no n,r⟩
theorem uE (h:LA X es c):LF X (.List es pos) (.lst c):=fun z I nb=>
 wpAny_List_spliced ((h false pos).go (f:=fun l s=>if l.length≤100000 then Out.ok (D.lst l) s else .bad) .refl I rfl nb fun z1 l us y1 x1 I1 r1 e1=>by
  by_cases c:l.length≤100000
  ·rw [if_pos c] at e1
   have hz:us.length≤sizeLine:=by rw [← r1.rds.len];exact big c
   obtain ⟨z2,d,q,q2,y,I2,fv⟩:=(Dw.lstn (X:=X) (t:=z1.s.toks) (n:=0) r1.rds hz).pe I1
   exact ⟨hz,z2,d,q,e1.trans q2,x1.trans y,I2,fv.less x1⟩
  ·rw [if_neg c] at e1;exact absurd e1 nb)
theorem FV.rd (x:Ee X z0 z) (I:Rep X z) (h:FV X z0 z d u) (e:o = .ok d z.t):Pe X z0 o (RV X.W br c) u z.s:=by
 obtain ⟨a,ob,rfl,n,t,r,f,no⟩:=h
 obtain ⟨oa,ha⟩:=r.th.1
 have gg:Sub z.G fun b=>if b=a then some oa else z.G b:=fun b o q=>by
  dsimp only
  by_cases c:b=a
  ·subst c;rw [f.1] at q;cases q
  ·rw [if_neg c];exact q
 refine ⟨{ z with G:=fun b=>if b=a then some oa else z.G b },d,rfl,e,⟨⟨x.st.pr,x.st.gg.trans gg,fun b o q=>?_,x.st.rn,x.st.th,x.st.sm,x.st.sl⟩,x.sg,x.en,x.ow⟩,I.grw I.tk rfl I.br (fun _ _ e _=>e) (fun _ o e=>⟨o.slots,e⟩) gg (fun b o q=>?_) fun b o q=>?_,.of (ig t r gg (by dsimp only;rw [if_pos rfl];exact ha.symm))⟩
 ·by_cases c:b=a
  ·subst c;exact .inr (.inl n)
  ·have q:(if b=a then some oa else z.G b)=some o:=q
   rw [if_neg c] at q;exact x.st.gn b o q
 ·have q:(if b=a then some oa else z.G b)=some o:=q
  by_cases c:b=a
  ·subst c;rw [if_pos rfl] at q;cases q;exact ha
  ·rw [if_neg c] at q;exact I.gh b o q
 ·have q:(if b=a then some oa else z.G b)=some o:=q
  by_cases c:b=a
  ·subst c;exact .inr ⟨f,no⟩
  ·rw [if_neg c] at q;exact .inl q
theorem LF.le (h:LF X e c) (hb:∀ br,X.ev br c=X.ev false c):LE X e c:=fun br z I nb=>by
 rw [hb] at nb ⊢
 exact wpAny_mono (h z I nb) (fun u s' ⟨z',d,q,e,x,I',f⟩=>by subst q;exact f.rd x I' e) fun _ _ h=>h
theorem qS:LF X (.Dict [] [] pos) (.dic .nil):=fun z I nb=>wpAny_Dict_empty (Dw.pe I ⟨.push (t:=z.s.toks),_,.dic [] [],rfl,aB z,rfl,_,[],rfl,beq_eq_false_iff_ne.mpr (Nat.ne_of_gt I.sysm),Heap.get?_push_size _ rfl,by
 obtain ⟨o,es,ep,h1,h2,h3,h4,h5,h6⟩:=Heap.DictOf.new (knd:=bp X.W.P X.W.w) z.s.heap
 rw [Heap.get?_push_size _ rfl] at h1
 cases h1
 exact ⟨es,ep,h2,h3,h4,h5,h6,Nat.zero_le _⟩,rfl,rfl⟩)
theorem ev1 (f:List D→Sta→Out β):(X.evs br (.cons a .nil) t).bind f=(X.ev br a t).bind fun x s=>f [x] s:=by
 show ((X.ev br a t).bind fun x s=>Out.ok [x] s).bind f=_
 rw [ak];rfl
theorem ev2 (f:List D→Sta→Out β):(X.evs br (.cons a (.cons b .nil)) t).bind f=(X.ev br a t).bind fun x s=>(X.ev br b s).bind fun y s=>f [x,y] s:=by
 show ((X.ev br a t).bind fun x s=>((X.ev br b s).bind fun y s=>Out.ok [y] s).bind fun l s=>Out.ok (x :: l) s).bind f=_
 rw [ak];congr 1;funext x s;rw [ak,ak];rfl
def Blt (X:Cx) (x:Str) (u:Value):Prop:=Gl X x∧X.mg x=none∧bootBuiltins x=some u∧x≠"__name__"∧(x == ("__debug__":Str))=false
theorem Blt.ld {Q:Value→Shared→Prop} {E:Value→Shared→Prop} (h:Blt X x u) (I:Rep X z) (q:Q u z.s):wpAny X.M X.A (eval (.Name x pos) X.env) Q E z.s:=ud I h.1 h.2.1 h.2.2.1 q h.2.2.2.1 h.2.2.2.2
theorem aG {f:Value} {Q:Value→Shared→Prop} {E:Value→Shared→Prop} (hf:(∃ id,f = .builtin id)∨∃ T,f = .type T) (hx:Blt X x f) (he:starEach (e :: er) X.env=(false,eval e X.env) :: starEach er X.env) (hpl:(backTo pos (starEach er X.env)).any (·.1)=false) (I:Rep X z)
 (h:wpAny X.M X.A (spliced ((false,eval e X.env) :: backTo pos (starEach er X.env))) (fun us s'=>wpAny X.M X.A (call f us) Q E s') E z.s):wpAny X.M X.A (eval (.Call (.Name x p) (e :: er) [] pos) X.env) Q E z.s:=by
 refine wpAny_Call_Name_kw (hx.ld I ?_)
 have h:wpAny X.M X.A (spliced (backTo pos (starEach (e :: er) X.env))) (fun us s'=>wpAny X.M X.A (call f us) Q E s') E z.s:=by rw [he];exact h
 rcases hf with ⟨id,rfl⟩ | ⟨T,rfl⟩
 ·exact callWith_builtin1 h he hpl
 ·exact callWith_type1 h he hpl
abbrev FB (f:Value):Prop:=(∃ id,f = .builtin id)∨∃ T,f = .type T
theorem ug {f:Value} (hb:Bi1 X f b) (hf:FB f) (hx:Blt X x f) (ha:LE X ea a) (he:starEach [ea] X.env=(false,eval ea X.env) :: starEach [] X.env):LE X (.Call (.Name x p) [ea] [] pos) (.bi b (.cons a .nil)):=fun br z I nb=>
 aG hf hx he rfl I (Calls.spliced_cons ((ha true).go .refl I (ev1 fun l s=>Out.of s (biD b (l.map (look s.st)))) nb fun z1 x u y1 x1 I1 r1 e1=>Calls.spliced_nil (b7 x1 I1 e1 nb fun d q=>hb z1 _ _ d I1 (r1.rb.cr I1) q)))
theorem uC {f:Value} (hb:tj X f b) (hf:FB f) (hx:Blt X x f) (ha:LE X ea a) (he:starEach [ea] X.env=(false,eval ea X.env) :: starEach [] X.env):LF X (.Call (.Name x p) [ea] [] pos) (.bi b (.cons a .nil)):=fun z I nb=>
 aG hf hx he rfl I (Calls.spliced_cons ((ha true).go .refl I (ev1 fun l s=>Out.of s (biD b (l.map (look s.st)))) nb fun z1 x u y1 x1 I1 r1 e1=>Calls.spliced_nil (by
  cases q:cX b (look z1.t.st x) with
  | none=>exact absurd (e1.trans (show Out.of z1.t (cX b (look z1.t.st x)) = .bad by rw [q];rfl)) nb
  | some d=>
    refine wpAny_mono (wpAny_toks_of I1.tk (hb z1 _ _ d I1 (r1.rb.cr I1) q)) (fun v s' ⟨tk,k⟩=>?_) fun _ _ z=>z.2.elim
    obtain ⟨z2,d,q1,q2,y,I2,fv⟩:=k.pe I1
    exact ⟨z2,d,q1,(e1.trans (show Out.of z1.t (cX b (look z1.t.st x))=_ by rw [q];rfl)).trans q2,x1.trans y,I2,fv.less x1⟩)))
theorem uh {f:Value} (hb:Bi2 X f b) (hf:FB f) (hx:Blt X x f) (ha:LE X ea a) (hc:LE X ec c) (he:starEach [ea,ec] X.env=(false,eval ea X.env) :: starEach [ec] X.env) (he2:starEach [ec] X.env=(false,eval ec X.env) :: starEach [] X.env):LE X (.Call (.Name x p) [ea,ec] [] pos) (.bi b (.cons a (.cons c .nil))):=fun br z I nb=>
 aG hf hx he (by rw [he2];rfl) I (by
  rw [he2]
  exact Calls.spliced_cons ((ha true).go .refl I (ev2 fun l s=>Out.of s (biD b (l.map (look s.st)))) nb fun z1 x u y1 x1 I1 r1 e1=>Calls.spliced_cons ((hc true).go x1 I1 e1 nb fun z2 y v y2 x2 I2 r2 e2=>Calls.spliced_nil (b7 x2 I2 e2 nb fun d q=>hb z2 _ _ _ _ d I2 ((r1.rb.st y2 I2).cr I2) (r2.rb.cr I2) q))))
theorem wN (hb:b = .isTup∨b = .isStr∨b = .isBool∨b = .isInt∨b = .isLst∨b = .isDic) (hx:Blt X "isinstance" (.builtin "isinstance")) (ht:Blt X x (.type (tyN b))) (ha:LE X ea a) (he:starEach [ea,.Name x q] X.env=(false,eval ea X.env) :: starEach [.Name x q] X.env):LE X (.Call (.Name "isinstance" p) [ea,.Name x q] [] pos) (.bi b (.cons a .nil)):=fun br z I nb=>
 aG (.inl ⟨_,rfl⟩) hx he rfl I (Calls.spliced_cons ((ha true).go .refl I (ev1 fun l s=>Out.of s (biD b (l.map (look s.st)))) nb fun z1 x u y1 x1 I1 r1 e1=>Calls.spliced_cons (ht.ld I1 (Calls.spliced_nil (b7 x1 I1 e1 nb fun d q=>vD hb I1 (r1.rb.cr I1) q)))))
structure bJ (K:Fg) (C:Addr):Prop where
 ga:PySem.W.findIn K (.ref C) "__getattribute__" = some (some (.builtin "BaseException.__getattribute__"))
 gn:PySem.W.findIn K (.ref C) "__getattr__" = some none
 cl:PySem.W.findIn K (.ref C) "__class__" = some (some (.builtin "object.__class__"))
 sg:PySem.W.specialIn K (.builtin "object.__class__") "__get__" = some (some (.builtin "getset_descriptor.__get__"))
 tk:PySem.W.takesIn K (.builtin "object.__class__")=some true
 ob:PySem.W.mroIn K C (.type "object")=some true
 be:PySem.W.mroIn K C (.type "BaseException")=some true
 is:(PySem.W.clsIn K C).isSome=true
structure bX (X:Cx) (an:Nat→Str) (c:Nat) (k:Cl) (i:CI):Prop where
 ci:X.W.ci[c]? = some i
 cls:k.what≠2→Cls X.K i.ad
 na:∀ f∈i.nm,cG X.K i.ad f
 wh:X.W.what[c]? = some k.what
 nm:i.nm=k.at_.map an
 nd:i.nm.Nodup
 xc:k.what=2→bJ X.K i.ad∧PySem.W.hasDictIn X.K i.ad=true
theorem pK {names:List Str} {vs:List Value} {f:Str} {v:Value} (hn:names.Nodup) {j:Nat} (h1:names[j]? = some f) (h2:vs[j]? = some v):(names.zip vs).lookup f=some v:=by
 induction names generalizing vs j with
 | nil=>simp at h1
 | cons n r ih=>
   cases vs with
   | nil=>simp at h2
   | cons w vs=>
     show (match f == n with | true=>some w | false=>(r.zip vs).lookup f)=some v
     cases j with
     | zero=>simp at h1 h2;subst h1 h2;simp
     | succ j=>
       have h3:r[j]? = some f:=by simpa using h1
       have ne:f≠n:=fun z=>by subst z;exact (List.nodup_cons.mp hn).1 (List.mem_of_getElem? h3)
       rw [show (f == n)=false by simpa using ne]
       exact ih (List.nodup_cons.mp hn).2 h3 (by simpa using h2)
theorem InO.objm {s:Shared} (h:InO s.heap.get? a dx C l):jr s.heap a dx C fun n=>l.lookup n:=let ⟨e,n,_,o,e2,es,ep,r⟩:=h;⟨e,⟨o,es,ep,e2,r⟩,n⟩
theorem gI:∀ {d v},RD W ρ G d v→PySem.W.handedIn v=true
 | .non,_,h=>by cases (show _=_ from h);rfl
 | .bl _,_,h=>by cases (show _=_ from h);rfl
 | .int _,_,⟨_,h⟩=>h ▸ rfl
 | .str _,_,⟨_,h⟩=>h ▸ rfl
 | .tup _,_,⟨_,_,_,h,_,_,_⟩=>h ▸ rfl
 | .lst _,_,⟨_,_,_,h,_,_,_⟩=>h ▸ rfl
 | .dic _ _,_,⟨_,_,_,h,_,_,_,_,_⟩=>h ▸ rfl
 | .ins _ _,_,⟨_,_,_,h,_,_,_,_⟩=>h ▸ rfl
 | .ref _,_,⟨_,_,h⟩=>h ▸ rfl
abbrev bt (X:Cx) (an:Nat→Str):Prop:=∀ (c:Nat) (k:Cl),X.Γ.cl[c]? = some k→∃ i,bX X an c k i
theorem iN (T:bt X an) {c f:Nat} {l:List D} {d2:D} (e:((X.Γ.cl[c]?).bind fun k=>l[k.at_.idxOf f]?)=some d2):∃ k i,∃ j:Nat,X.Γ.cl[c]? = some k∧bX X an c k i∧l[j]? = some d2∧(l.length≤i.nm.length→i.nm[j]? = some (an f)):=by
 obtain ⟨k,q,e⟩:=Option.bind_eq_some_iff.mp e
 obtain ⟨i,ok⟩:=T c k q
 refine ⟨k,i,k.at_.idxOf f,q,ok,e,fun hl=>?_⟩
 have h1:k.at_.idxOf f<l.length:=(List.getElem?_eq_some_iff.mp e).1
 have h2:k.at_.idxOf f<k.at_.length:=by rw [ok.nm,List.length_map] at hl;omega
 rw [ok.nm,List.getElem?_map,List.getElem?_eq_getElem h2]
 simp
theorem mS (T:bt X an) (I:Rep X z) {n f:Nat} {d:D} {p:Addr×Addr} (ea:z.ρ[n]? = some p) (e:jC X.Γ z.t.st (.ref n) f=some d):∃ C fs v,InO z.h p.1 p.2 C fs∧Cls X.K C∧cG X.K C (an f)∧fs.lookup (an f)=some v∧RD X.W z.ρ z.G d v:=by
 unfold jC at e
 dsimp only at e
 cases q:z.t.st[n]? with
 | none=>rw [q] at e;cases e
 | some o=>
   rw [q] at e
   cases o with
   | ins c l=>
     dsimp only at e
     obtain ⟨k,i',j,e1,ok,e2,e3⟩:=iN T e
     obtain ⟨i,vs,w1,w2,w3,w4,w5⟩:=I.ob n _ p q ea
     have e4:=ok.ci
     rw [w1] at e4;cases e4
     obtain ⟨v,ev,rv⟩:=w5.get e2
     have wz:k.what≠2:=by have:=ok.wh;rw [w2] at this;have e:=Option.some.inj this;omega
     exact ⟨i'.ad,_,v,w4,ok.cls wz,ok.na _ (List.mem_of_getElem? (e3 w3)),pK ok.nd (e3 w3) ev,rv⟩
   | _=>cases e
theorem jE {Q:Value→Shared→Prop} {E:Value→Shared→Prop} {A:Around} (I:Rep X z) (h:InO z.h a dx C fs) (c:Cls X.K C) (n:cG X.K C f) (l:fs.lookup f=some v) (r:RD X.W z.ρ z.G d v) (q:Q v { z.s with toks:=z.s.toks+1 }):wpAny X.M A (getAttr (.ref a) f b) Q E z.s:=
 qA I.toHR.kin (InO.objm h) (c.get f) c.hd n l (gI r) q
theorem uk (T:bt X an) (xr:∀ {z:Z} {a C:Addr} {l:List (Str×Value)} {f:Str} {v:Value} {Q:Value→Shared→Prop} {b:Bool},Rep X z→ExO z.h a C l→l≠[]→bJ X.K C→PySem.W.hasDictIn X.K C=true→PySem.W.findIn X.K (.ref C) f=some none→l.lookup f=some v→PySem.W.handedIn v=true→Q v { z.s with toks:=z.s.toks+1 }→wpAny X.M X.A (getAttr (.ref a) f b) Q NoE z.s)
 (ha:LE X ea a) (hb:attributeBase ea (an f) X.env (eval ea X.env)=eval ea X.env):LE X (.Attribute ea (an f) pos) (.fld a f):=fun br z I nb=>
 pQ hb ((ha true).go .refl I rfl nb fun z1 x u y1 x1 I1 r1 e1=>b7 x1 I1 e1 nb fun d q=>by
  have cr:=r1.rb.cr0 I1
  cases x with
  | ins c l=>
    obtain ⟨a,i,vs,rfl,hc,hl,w,rs⟩:=(cr:RD X.W z1.ρ z1.G (.ins c l) u)
    obtain ⟨k,i',j,e1,ok,e2,e3⟩:=iN T (show ((X.Γ.cl[c]?).bind fun k=>l[k.at_.idxOf f]?)=some d from q)
    have e4:=ok.ci
    rw [hc] at e4;cases e4
    obtain ⟨v,ev,rv⟩:=rs.get e2
    have lk:=pK ok.nd (e3 hl) ev
    have mem:an f∈i.nm:=List.mem_of_getElem? (e3 hl)
    rcases w with ⟨w1,dx,ga⟩ | ⟨w2,w⟩
    ·have w3:k.what≠2:=by have:=ok.wh;rw [w1] at this;have e:=Option.some.inj this;omega
     exact jE I1 (ga.sub I1.gh) (ok.cls w3) (ok.na _ mem) lk rv (.old I1 .tok rv)
    ·have w3:k.what=2:=by have:=ok.wh;rw [w2] at this;exact (Option.some.inj this).symm
     exact xr I1 (w.sub I1.gh) (fun z=>by rw [z] at lk;cases lk) (ok.xc w3).1 (ok.xc w3).2 (ok.na _ mem) lk (gI rv) (.old I1 .tok rv)
  | ref n=>
    obtain ⟨p,ep,rfl⟩:=(cr:RD X.W z1.ρ z1.G (.ref n) u)
    obtain ⟨C,fs,v,h1,h2,h3,h4,h5⟩:=mS T I1 ep q
    exact jE I1 h1 h2 h3 h4 h5 (.old I1 .tok h5)
  | _=>cases q)
end
abbrev NoW:Addr→Prop:=fun _=>False
def XC (X:Cx) (z z':Z) (c:Nat) (l:List D) (e:Value):Prop:=∃ a T cls dx,e = .ref a∧XR X.W z' c l cls dx∧Tr z'.s.heap a cls dx T .none∧(z.h a=none∧z'.G a=none∧¬ Mu z'.ρ a)∧z.h T=none∧z'.G T=none∧¬ Mu z'.ρ T
def CRs (X:Cx) (z:Z) (r:Res) (q:Result) (s':Shared):Prop:=match q with
 | .ok (.ret u)=>∃ z' d,z'.s=s'∧r = .ok d z'.t.st∧Stp X.fr NoW z z'∧HR X z'∧RD X.W z'.ρ z'.G d u
 | .error e=>∃ z' c l,z'.s=s'∧r = .exc c l z'.t.st∧Stp X.fr NoW z z'∧HR X z'∧XC X z z' c l e
 | _=>False
structure FnC (X:Cx) (cal:Nat→List D→List O→Res) (lv j:Nat) (f:Addr) (fd:FuncData) (ps:List Str) (dvs:List Value):Prop where
 len:∀ ds st,cal j ds st≠.bad→ds.length+dvs.length=ps.length
 run:∀ (A:Around) (fr:List Env) (z:Z) (args:Args) (us:List Value) (ds:List D),aW lv A→HR { X with A:=A,fr:=fr } z→BindsTo z.s fd args (ps.zip (us ++ dvs))→RDs X.W z.ρ z.G ds us→cal j ds z.t.st≠.bad →
  codeAny X.M A (.call (.ref f) args) (CRs { X with A:=A,fr:=fr } z (cal j ds z.t.st)) z.s
def bB (X:Cx) (cal:Nat→List D→List O→Res) (lv j:Nat) (f:Addr):Prop:=∃ fd ps dvs,FnC X cal lv j f fd ps dvs∧bI X.K fd ps dvs∧PySem.W.keepIn X.K (.ref f)=true
mutual
theorem kU {G G':Hp} (k:∀ a o,G a=some o→(∀ l,¬ LsO o l)→G' a=some o):∀ {d:D} {v},noL d=true→RD W ρ G d v→RD W ρ G' d v
 | .non,_,_,e=>e
 | .bl _,_,_,e=>e
 | .int _,_,_,e=>e
 | .str _,_,_,e=>e
 | .ref _,_,_,e=>e
 | .tup _,_,n,⟨a,o,vs,e,t,q,r⟩=>⟨a,o,vs,e,k _ _ t fun l ⟨⟨_,z⟩,_⟩=>by have:=q.1;rw [z] at this;exact absurd this (show Value.type "list"≠.type "tuple" by decide),q,b8 k n r⟩
 | .dic _ _,_,n,⟨a,o,vs,e,m,t,q,l,r⟩=>⟨a,o,vs,e,m,k _ _ t fun l ⟨⟨_,z⟩,_⟩=>by obtain ⟨_,_,x,_⟩:=q;have:=x.1;rw [z] at this;exact absurd this (show Value.type "list"≠.type "dict" by decide),q,l,b8 k n r⟩
 | .ins _ _,_,n,⟨a,i,vs,e,hc,l,t,r⟩=>⟨a,i,vs,e,hc,l,t.elim (fun ⟨w,dx,q1,q2,q3,o,q4,q5⟩=>.inl ⟨w,dx,k _ _ q1 (fun l ⟨⟨_,z⟩,_⟩=>by injection z with z;cases z),q2,q3,o,k _ _ q4 (oR q5),q5⟩) (fun ⟨w,o,vs,q1,q2,q3,q4⟩=>.inr ⟨w,o,vs,k _ _ q1 (fun l ⟨⟨_,z⟩,_⟩=>by rw [z] at q3;cases q3),q2,q3,q4.elim .inl fun ⟨d,od,p1,p2,p3⟩=>.inr ⟨d,od,p1,k _ _ p2 (oR p3),p3⟩⟩),b8 k n r⟩
 | .lst _,_,n,_=>by cases n
theorem b8 {G G':Hp} (k:∀ a o,G a=some o→(∀ l,¬ LsO o l)→G' a=some o):∀ {ds:List D} {vs},i3 ds=true→RDs W ρ G ds vs→RDs W ρ G' ds vs
 | [],_,_,e=>e
 | _ :: _,_,n,⟨v,r,e,t,q⟩=>by
   have n:(noL _ && i3 _)=true:=n
   rw [Bool.and_eq_true] at n
   exact ⟨v,r,e,kU k n.1 t,b8 k n.2 q⟩
theorem oR (h:NsO o m):∀ l,¬ LsO o l:=fun l ⟨⟨_,z⟩,_⟩=>by obtain ⟨_,_,q,_⟩:=h;rw [z] at q;cases q
end
section
variable {X:Cx} {z z':Z} {br:Bool}
theorem Stp.slots (S:Stp fr NoW z z') (n:¬ Mu z.ρ a) (e:z.h a=some o):∃ sl,z'.h a=some { o with slots:=sl }:=by
 by_cases f:a∈frs fr
 ·exact S.sl a o e n id f
 ·exact ⟨o.slots,S.sm a o e n id f⟩
open Classical in
theorem Rep.back (I:Rep X z) (p q:Nat→Bool) (S:Stp X.fr NoW (z.rel p) z') (H:HR X z') (pq:∀ i,p i=true→q i=true) (hq:∀ i∈z.t.ow,q i=true→p i=true∨(isLst z.t.env[i]? = true∧z'.t.st.all jS=true)) :
 ∃ zf,zf.s=z'.s∧zf.t=⟨z.t.env,z.t.ow.filter q,z'.t.st⟩∧zf.ρ=z'.ρ∧Rep X zf∧Ee X z zf∧(∀ a,z.h a=none→zf.G a=z'.G a)∧(∀ a o,z'.G a=some o→(∀ l,¬ LsO o l)→zf.G a=some o)∧((∀ i∈z.t.ow,q i=true→p i=true)→Sub z'.G zf.G):=by
 obtain ⟨Ir,xr⟩:=I.rel p
 let Rm:Addr→Prop:=fun a=>∃ i∈z.t.ow,q i=true∧z.σ[i]? = some (some (.ref a))
 have own:∀ {a},Rm a→Own z a:=fun ⟨i,m,_,e⟩=>⟨i,m,e⟩
 let G2:Hp:=fun a=>if Rm a then none else z'.G a
 have yes:∀ {a},Rm a→G2 a=none:=fun h=>if_pos h
 have no:∀ {a},¬ Rm a→G2 a=z'.G a:=fun h=>if_neg h
 have g2s:Sub G2 z'.G:=fun a o e=>by
  by_cases c:Rm a
  ·rw [yes c] at e;cases e
  ·rw [no c] at e;exact e
 have gz:Sub z.G G2:=fun a o e=>by
  by_cases c:Rm a
  ·rw [(I.oth (own c)).1.1] at e;cases e
  ·rw [no c];exact S.gg _ _ (xr.st.gg _ _ e)
 have hold:∀ {i:Nat} {a:Addr},i∈z.t.ow→p i=true→z.σ[i]? = some (some (.ref a))→z'.G a=none:=fun {i a} m pi es=>by
  obtain ⟨f,o',e'⟩:=I.oth ⟨i,m,es⟩
  have n:(z.rel p).G a=none:=(cN fun ⟨j,mj,pj,ej⟩=>by rw [I.od j i a mj m ej es,pi] at pj;cases pj).trans f.1
  cases w:z'.G a with
  | none=>rfl
  | some o=>
    rcases S.gn a o w with w | w | w
    ·rw [n] at w;cases w
    ·rw [show (z.rel p).h a=z.h a from rfl,e'] at w;cases w
    ·exact w.elim
 have gp:∀ {a o},Rm a→z'.G a=some o→(∃ l,LsO o l)∧z'.t.st.all jS=true∧¬ ∀ i∈z.t.ow,q i=true→p i=true:=fun {a o} ⟨i,m,qi,es⟩ e=>by
  by_cases pi:p i=true
  ·rw [hold m pi es] at e;cases e
  ·obtain ⟨li,al⟩:=(hq i m qi).resolve_left pi
   obtain ⟨d,b,ob,h1,h2,h3,r,f⟩:=I.eo i m
   rw [es] at h2;cases h2
   refine ⟨?_,al,fun w=>pi (w i m qi)⟩
   rw [h1] at li
   cases d with
   | lst ds=>
     cases h3
     obtain ⟨oo,vs,_,e1,l1,_⟩:=r
     have:=S.gg a oo ((eu ⟨i,m,by simpa using pi,es⟩).trans e1)
     rw [e] at this;cases this
     exact ⟨vs,l1⟩
   | _=>cases li
 have kp:∀ a o,z'.G a=some o→(∀ l,¬ LsO o l)→G2 a=some o:=fun a o e n=>by
  by_cases c:Rm a
  ·obtain ⟨⟨l,h⟩,_⟩:=gp c e;exact absurd h (n l)
  ·rw [no c];exact e
 have kq:(∀ i∈z.t.ow,q i=true→p i=true)→Sub z'.G G2:=fun w a o e=>by
  by_cases c:Rm a
  ·exact absurd w (gp c e).2.2
  ·rw [no c];exact e
 have nn:∀ {a},z'.G a=none→G2 a=none:=fun {a} e=>by
  by_cases c:Rm a
  ·exact yes c
  ·rw [no c];exact e
 have rh:∀ {a},(z.rel p).h a=z.h a:=rfl
 have same:∀ a,¬ Mu z.ρ a→∀ o,z.h a=some o→∃ sl,z'.h a=some { o with slots:=sl }:=fun a n o e=>S.slots n e
 have nmu:∀ {a o},z.h a=some o→¬ Mu z.ρ a→¬ Mu z'.ρ a:=fun {a o} e n m=>(S.rn a m).elim n fun w=>by rw [rh,e] at w;cases w
 have nG:∀ {a o},z.h a=some o→(z.rel p).G a=none→z'.G a=none:=fun {a o} e n=>by
  cases w:z'.G a with
  | none=>rfl
  | some o'=>
    rcases S.gn a o' w with w | w | w
    ·rw [n] at w;cases w
    ·rw [rh,e] at w;cases w
    ·exact w.elim
 have ob2:∀ (n:Nat) (o:O) (pp:Addr×Addr),z'.t.st[n]? = some o→z'.ρ[n]? = some pp→ObR X.W z'.ρ G2 z'.h pp o:=fun n o pp h1 h2=>by
  by_cases w:∀ i∈z.t.ow,q i=true→p i=true
  ·exact (H.ob n o pp h1 h2).mono (List.prefix_refl _) (kq w) fun _ _ _ e=>e
  ·by_cases al:z'.t.st.all jS=true
   ·have nl:=List.all_eq_true.mp al o (List.mem_of_getElem? h1)
    cases o with
    | lst l=>cases nl
    | dic ks l=>obtain ⟨o,vs,a1,a2,a3,a4,a5,a6⟩:=H.ob n _ pp h1 h2;exact ⟨o,vs,a1,a2,a3,a4,a5,b8 kp nl a6⟩
    | ins c l=>obtain ⟨i,vs,a1,a2,a3,a4,a5⟩:=H.ob n _ pp h1 h2;exact ⟨i,vs,a1,a2,a3,a4,b8 kp nl a5⟩
   ·exact absurd (fun i m qi=>(hq i m qi).resolve_right fun v=>al v.2) w
 refine ⟨⟨z'.ρ,G2,⟨z.t.env,z.t.ow.filter q,z'.t.st⟩,z.σ,z'.s⟩,rfl,rfl,rfl,⟨⟨H.md,H.fm,H.hd,fun b o e=>gz _ _ (I.bs b o e),g2s.trans H.gh,H.rl,H.rn,fun a m=>nn (H.rg a m),ob2,H.fu,fun b m=>⟨nn (H.ff b m).1,(H.ff b m).2⟩,H.br,H.os,H.tk⟩,I.ok,?_,fun x c e=>?_,fun a l=>?_,I.el,I.sl,fun i d n e=>?_,fun i m=>?_,fun i j a m1 m2=>I.od i j a (List.mem_filter.mp m1).1 (List.mem_filter.mp m2).1⟩,⟨⟨S.pr,gz,fun a o e=>?_,S.rn,S.th,fun a o e n w f=>S.sm a o e n id f,fun a o e n w f=>S.sl a o e n id f⟩,rfl,rfl,fun i m=>(List.mem_filter.mp m).1⟩,fun a e=>?_,kp,kq⟩
 ·obtain ⟨m,hn,hl⟩:=I.lo
  have cl:∀ c v,(∃ x,X.env.cells.lookup x=some c)→z.s.heap.IsCell c v→z'.s.heap.IsCell c v:=fun c v ⟨x,ex⟩ ⟨o,e,d⟩=>let ⟨_,w⟩:=same c (I.fl c (.inr ⟨x,ex⟩)).2 o e;⟨_,w,d⟩
  obtain ⟨oL,es,ep,eL,r⟩:=hn
  obtain ⟨sl,w⟩:=same _ (I.fl _ (.inl rfl)).2 oL eL
  exact ⟨m,⟨_,es,ep,w,r⟩,fun i x u h1 h2 h3=>cL (fun c v e q=>cl c v ⟨x,e⟩ q) (hl i x u h1 h2 h3)⟩
 ·obtain ⟨v,o,e1,d⟩:=I.ce x c e
  obtain ⟨sl,w⟩:=same c (I.fl c (.inr ⟨x,e⟩)).2 o e1
  exact ⟨v,_,w,d⟩
 ·obtain ⟨o,e⟩:=I.lth l
  exact ⟨nn (nG e (Ir.fl a l).1),nmu e (I.fl a l).2⟩
 ·by_cases m:i∈z.t.ow
  ·obtain ⟨d',a,o,h1,h2,h3,r,f⟩:=I.eo i m
   rw [show z.t.env[i]? = some (some d) from e] at h1;cases h1
   have qf:¬ q i=true:=fun w=>n (List.mem_filter.mpr ⟨m,w⟩)
   have pf:p i=false:=by cases w:p i with
    | false=>rfl
    | true=>exact absurd (pq i w) qf
   obtain ⟨oa,ea⟩:=r.th.1
   refine ⟨_,h2,ig h3 (r.mono (h':=z.h) S.pr (Sub.refl _) fun _ _ _ e=>e) gz ?_⟩
   have nr:¬ Rm a:=fun ⟨j,mj,qj,ej⟩=>by rw [I.od j i a mj m ej h2] at qj;exact qf qj
   exact (no nr).trans ((S.gg a oa ((eu ⟨i,m,pf,h2⟩).trans ea)).trans ea.symm)
  ·obtain ⟨u,w,r⟩:=I.en i d m e
   exact ⟨u,w,r.mono S.pr gz⟩
 ·obtain ⟨m1,m2⟩:=List.mem_filter.mp m
  obtain ⟨d',a,o,h1,h2,h3,r,f⟩:=I.eo i m1
  obtain ⟨oa,ea⟩:=r.th.1
  refine ⟨d',a,o,h1,h2,h3,r.mono S.pr gz fun b hb o e=>?_,yes ⟨i,m1,m2,h2⟩,nmu ea f.2.1,f.2.2⟩
  have hb:b=a:=hb.elim id id
  subst hb
  exact S.sm b o e f.2.1 id f.2.2.1
 ·rcases S.gn a o (g2s a o e) with w | w | w
  ·by_cases c:iD z p a
   ·obtain ⟨i,m,_,e⟩:=c;exact .inr (.inr ⟨i,m,e⟩)
   ·rw [cN c] at w;exact .inl w
  ·exact .inr (.inl w)
  ·exact w.elim
 ·exact no fun c=>by obtain ⟨o,w⟩:=(I.oth (own c)).2;rw [e] at w;cases w
theorem qm {a r:E} (m:i∈bh r):i∈bh (.cons a r):=by cases a <;> first | exact List.mem_cons_of_mem _ m | exact m
theorem io (I:Rep X (z.rel p)) (gg:Sub z.G (z.rel p).G) (k:∀ i∈bh c,p i=false) {c' ds us} (hs:∀ i∈bh c',i∈bh c) (h:RVs X.W true c' z ds us):RDs X.W z.ρ (z.rel p).G ds us:=
 RVs.ind (P:=fun c' ds us=>(∀ i∈bh c',i∈bh c)→RDs X.W z.ρ (z.rel p).G ds us) (fun _=>rfl) (fun a r d ds u us h _ ih hs=>by
  refine .cons ?_ (ih fun i m=>hs i (qm m))
  rcases h with h | ⟨_,i,rfl,m,e1,e2⟩
  ·exact h.mono (List.prefix_refl _) gg
  ·obtain ⟨u',q,r⟩:=I.en i d (fun w=>by have:=(List.mem_filter.mp w).2;rw [k i (hs i List.mem_cons_self)] at this;cases this) e2
   rw [show z.σ[i]? = some (some u') from q] at e1;cases e1;exact r) c' ds us h hs
theorem fx {o:Out D} (F:bB X X.cal lv j f) (hr:aW lv X.A) (x:Ee X z0 z) (I:Rep X z) (rd:RDs X.W z.ρ (z.rel fun i=>!(bh es).contains i).G ds us) (e:o=fJ X.cal es j ds z.t) (nb:o≠.bad):wpAny X.M X.A (call (.ref f) us) (Pe X z0 o (RV X.W br c)) (Px X z0 o) z.s:=by
 obtain ⟨Ir,xr⟩:=I.rel fun i=>!(bh es).contains i
 obtain ⟨fd,ps,dvs,F,hb,kp⟩:=F
 subst e
 have nbc:X.cal j ds z.t.st≠.bad:=fun q=>nb (by unfold fJ;rw [q])
 have bd:=hb z.s us I.toHR.kin (by rw [List.length_append,← rd.len];exact F.len _ _ nbc)
 refine wpAny_call (codeAny_mono (F.run X.A X.fr (z.rel fun i=>!(bh es).contains i) ⟨us,[]⟩ us ds hr Ir.toHR bd rd nbc) fun q s' hq=>?_)
 cases q with
 | error e=>
   obtain ⟨z',c,l,rfl,er,S,H,a,T,cls,dx,rfl,xr',tr,⟨na,ga,ma⟩,nT,gT,mT⟩:=hq
   obtain ⟨zf,e1,e2,e3,If,xf,k1,k2,k3⟩:=I.back (fun i=>!(bh es).contains i) _ S H (fun _ h=>h) fun _ _ h=>.inl h
   have nob:∀ {b:Addr},z.h b=none→z'.G b=none→¬ Mu z'.ρ b→Nob X z zf b:=fun {b} n g m=>by
    have ⟨f,no⟩:=I.fre n
    exact ⟨n,⟨(k1 b n).trans g,e3 ▸ m,f.2.2⟩,fun w=>no (xf.own w)⟩
   refine Px.less x ⟨zf,c,l,e1,by unfold fJ;rw [show X.cal j ds z.t.st=_ from er,e2];rfl,xf,If,a,cls,dx,rfl,?_,nob na ga ma,.inr ⟨T,.none,e1 ▸ tr,.inl rfl,nob nT gT mT⟩⟩
   obtain ⟨i,a1,a2,a3,a4,a5⟩:=xr'
   refine ⟨i,a1,a2,a3,a4,a5.imp_right fun ⟨d,od,vs,b1,b2,b3,b4⟩=>⟨d,od,vs,b1,k2 _ _ b2 (oR b3),b3,?_⟩⟩
   rw [e3];exact b4.mono (List.prefix_refl _) (k3 fun _ _ h=>h)
 | ok fl=>
   cases fl with
   | ret u=>
     obtain ⟨z',d,rfl,er,S,H,r⟩:=hq
     obtain ⟨zf,e1,e2,e3,If,xf,k1,k2,k3⟩:=I.back (fun i=>!(bh es).contains i) (fun i=>!(bh es).contains i || (isLst z.t.env[i]? && (noL d && z'.t.st.all jS))) S H (fun i h=>by rw [h];rfl) fun i _ h=>by
      cases w:(!(bh es).contains i) with
      | true=>exact .inl rfl
      | false=>rw [w,Bool.false_or,Bool.and_eq_true,Bool.and_eq_true] at h;exact .inr ⟨h.1,h.2.2⟩
     refine Pe.less x ⟨zf,d,e1,by unfold fJ;rw [show X.cal j ds z.t.st=_ from er,e2];rfl,xf,If,.of ?_⟩
     rw [e3]
     cases w:noL d with
     | true=>exact kU k2 w r
     | false=>exact r.mono (List.prefix_refl _) (k3 fun i _ h=>by rw [w,Bool.false_and,Bool.and_false,Bool.or_false] at h;exact h)
   | next=>exact hq.elim
   | brk=>exact hq.elim
   | cont=>exact hq.elim
theorem eK {es:E}:∀ i∈bh es,(!(bh es).contains i)=false:=fun i m=>by simpa using m
theorem qH {x:Str} (F:bB X X.cal lv j f) (hr:aW lv X.A) (hg:Gl X x) (hm:X.mg x=some (.ref f)) (ha:LA X (ea :: er) es) (hd:(x == ("__debug__":Str))=false) (he:starEach (ea :: er) X.env=(false,eval ea X.env) :: starEach er X.env) (hpl:(backTo pos (starEach er X.env)).any (·.1)=false):LE X (.Call (.Name x p) (ea :: er) [] pos) (.call j es):=fun br z I nb=>
 wpAny_Call_Name_kw (aF I hg hm (PySem.W.callWith_K (h₀:=X.base) I.md.kin (let ⟨_,_,_,_,_,k⟩:=F;k) ((ha true pos).go .refl I rfl nb fun z1 l us y1 x1 I1 r1 e1=>⟨I1.toHR.kin,fx F hr x1 I1 (io (I1.rel _).1 (I1.rel _).2.st.gg eK (fun _ h=>h) r1) e1 nb⟩) he hpl) hd)
end
mutual
theorem jY:∀ {d:D} {v},noR d=true→RD W ρ G d v→RD W ρ' G d v
 | .non,_,_,e=>e
 | .bl _,_,_,e=>e
 | .int _,_,_,e=>e
 | .str _,_,_,e=>e
 | .ref _,_,n,_=>by cases n
 | .tup _,_,n,⟨a,o,vs,e,t,q,r⟩=>⟨a,o,vs,e,t,q,bV n r⟩
 | .lst _,_,n,⟨a,o,vs,e,t,q,r⟩=>⟨a,o,vs,e,t,q,bV n r⟩
 | .dic _ _,_,n,⟨a,o,vs,e,m,t,q,l,r⟩=>⟨a,o,vs,e,m,t,q,l,bV n r⟩
 | .ins _ _,_,n,⟨a,i,vs,e,hc,l,t,r⟩=>⟨a,i,vs,e,hc,l,t,bV n r⟩
theorem bV:∀ {ds:List D} {vs},aK ds=true→RDs W ρ G ds vs→RDs W ρ' G ds vs
 | [],_,_,e=>e
 | _ :: _,_,n,⟨v,r,e,t,q⟩=>by
   have n:(noR _ && aK _)=true:=n
   rw [Bool.and_eq_true] at n
   exact ⟨v,r,e,jY n.1 t,bV n.2 q⟩
end
theorem fy (k:Nat):∀ l:List D,(fQ k l).length=l.length
 | []=>rfl
 | _ :: r=>congrArg (· + 1) (fy k r)
section
variable {X:Cx} {z z' z0:Z} {br:Bool}
abbrev Z.bare (z:Z):Z:={ z with ρ:=[],t:=⟨z.t.env,z.t.ow,[]⟩ }
theorem cB:¬ Mu [] a:=fun ⟨_,h,_⟩=>nomatch h
theorem HR.bare (I:HR X z):HR X z.bare:=⟨I.md,I.fm,I.hd,I.bs,I.gh,rfl,fun _ _ _ _ _ h=>by simp at h,fun _ m=>(cB m).elim,fun _ _ _ h=>by simp at h,I.fu,fun b m=>⟨(I.ff b m).1,cB⟩,I.br,I.os,I.tk⟩
theorem Rep.hout (I:Rep X z) (S:Stp X.fr NoW z.bare z') (H:HR X z'):Rep X { z with G:=z'.G,s:=z'.s }∧Ee X z { z with G:=z'.G,s:=z'.s }:=by
 have gn:∀ a o,z'.G a=some o→z.G a=some o∨z.h a=none:=fun a o e=>(S.gn a o e).imp_right fun w=>w.elim id False.elim
 exact ⟨I.grw H.tk (H.os.trans I.os.symm) H.br (fun b o e f=>S.sm b o e cB id f) (fun b o e=>S.slots cB e) S.gg H.gh fun a o e=>(gn a o e).imp_right I.fre,⟨List.prefix_refl _,S.gg,fun a o e=>(gn a o e).imp_right .inl,fun _ m=>.inl m,S.th,fun a o e _ _ f=>S.sm a o e cB id f,fun a o e _ _ f=>S.sl a o e cB id f⟩,rfl,rfl,fun _ h=>h⟩
mutual
theorem RD.sh:∀ {d:D} {v},RD W ρ' G d v→RD W (ρ ++ ρ') G (shD ρ.length d) v
 | .non,_,e=>e
 | .bl _,_,e=>e
 | .int _,_,e=>e
 | .str _,_,e=>e
 | .ref n,_,⟨p,e,q⟩=>⟨p,by rw [List.getElem?_append_right (Nat.le_add_right ..),Nat.add_sub_cancel_left];exact e,q⟩
 | .tup _,_,⟨a,o,vs,e,t,q,r⟩=>⟨a,o,vs,e,t,q,r.sh⟩
 | .lst _,_,⟨a,o,vs,e,t,q,r⟩=>⟨a,o,vs,e,t,q,r.sh⟩
 | .dic _ _,_,⟨a,o,vs,e,m,t,q,l,r⟩=>⟨a,o,vs,e,m,t,q,l.trans (fy _ _).symm,r.sh⟩
 | .ins _ _,_,⟨a,i,vs,e,hc,l,t,r⟩=>⟨a,i,vs,e,hc,by rw [fy];exact l,t,r.sh⟩
theorem RDs.sh:∀ {ds:List D} {vs},RDs W ρ' G ds vs→RDs W (ρ ++ ρ') G (fQ ρ.length ds) vs
 | [],_,e=>e
 | _ :: _,_,⟨v,r,e,t,q⟩=>⟨v,r,e,t.sh,q.sh⟩
end
theorem ObR.sh:∀ {o:O},ObR W ρ' G h p o→ObR W (ρ ++ ρ') G h p (shO ρ.length o)
 | .lst _,⟨o,vs,z,e,q,r⟩=>⟨o,vs,z,e,q,r.sh⟩
 | .dic _ _,⟨o,vs,z,m,e,q,l,r⟩=>⟨o,vs,z,m,e,q,l.trans (fy _ _).symm,r.sh⟩
 | .ins _ _,⟨i,vs,c,w,l,e,r⟩=>⟨i,vs,c,w,by rw [fy];exact l,e,r.sh⟩
theorem dC:Mu (ρ ++ ρ') a↔Mu ρ a∨Mu ρ' a:=⟨fun ⟨p,h,e⟩=>(List.mem_append.mp h).imp (fun h=>⟨p,h,e⟩) fun h=>⟨p,h,e⟩,fun h=>h.elim (fun ⟨p,h,e⟩=>⟨p,List.mem_append_left _ h,e⟩) fun ⟨p,h,e⟩=>⟨p,List.mem_append_right _ h,e⟩⟩
theorem Rep.more {os:List O} {ρ':Rs} (I:Rep X z) (hl:ρ'.length=os.length) (nw:∀ a,Mu ρ' a→Fre X z a∧¬ Own z a) (rn:∀ (i j:Nat) (p q:Addr×Addr) (a:Addr),ρ'[i]? = some p→ρ'[j]? = some q→(a=p.1∨a=p.2)→(a=q.1∨a=q.2)→i=j)
 (ob:∀ (n:Nat) (o:O) (p:Addr×Addr),os[n]? = some o→ρ'[n]? = some p→ObR X.W (z.ρ ++ ρ') z.G z.h p o):Rep X { z with ρ:=z.ρ ++ ρ',t:=⟨z.t.env,z.t.ow,z.t.st ++ os⟩ }:=by
 have rl:=I.rl
 have pre:z.ρ <+: z.ρ ++ ρ':=List.prefix_append _ _
 have at_:∀ {i:Nat} {p:Addr×Addr},(z.ρ ++ ρ')[i]? = some p→(i<z.ρ.length∧z.ρ[i]? = some p)∨(z.ρ.length≤i∧ρ'[i - z.ρ.length]? = some p):=fun {i p} h=>by
  by_cases c:i<z.ρ.length
  ·rw [List.getElem?_append_left c] at h;exact .inl ⟨c,h⟩
  ·rw [List.getElem?_append_right (by omega)] at h;exact .inr ⟨by omega,h⟩
 have mem:∀ {i:Nat} {p:Addr×Addr} {l:Rs} {a:Addr},l[i]? = some p→(a=p.1∨a=p.2)→Mu l a:=fun h e=>⟨_,List.mem_of_getElem? h,e⟩
 refine ⟨⟨I.md,I.fm,I.hd,I.bs,I.gh,by show (z.ρ ++ ρ').length=(z.t.st ++ os).length;simp only [List.length_append];omega,fun i j p q a h1 h2 h3 h4=>?_,fun a m=>(dC.mp m).elim (I.rg a) fun m=>(nw a m).1.1,fun n o p h1 h2=>?_,I.fu,fun b m=>⟨(I.ff b m).1,fun h=>(dC.mp h).elim (I.ff b m).2 fun h=>(nw b h).1.2.2.1 m⟩,I.br,I.os,I.tk⟩,I.ok,I.lo,I.ce,fun a l=>⟨(I.fl a l).1,fun h=>(dC.mp h).elim (I.fl a l).2 fun h=>(nw a h).1.2.2.2 l⟩,I.el,I.sl,fun i d n e=>let ⟨u,q,r⟩:=I.en i d n e;⟨u,q,r.mono pre (.refl _)⟩,fun i m=>?_,I.od⟩
 ·rcases at_ h1 with ⟨c1,w1⟩ | ⟨c1,w1⟩ <;> rcases at_ h2 with ⟨c2,w2⟩ | ⟨c2,w2⟩
  ·exact I.rn i j p q a w1 w2 h3 h4
  ·exact absurd (mem w1 h3) (nw a (mem w2 h4)).1.2.1
  ·exact absurd (mem w2 h4) (nw a (mem w1 h3)).1.2.1
  ·have:=rn _ _ p q a w1 w2 h3 h4;omega
 ·have h1:(z.t.st ++ os)[n]? = some o:=h1
  rcases at_ h2 with ⟨c1,w1⟩ | ⟨c1,w1⟩
  ·rw [List.getElem?_append_left (by omega)] at h1
   exact (I.ob n o p h1 w1).mono pre (.refl _) fun _ _ _ e=>e
  ·rw [List.getElem?_append_right (by omega),← rl] at h1
   exact ob _ o p h1 w1
 ·obtain ⟨d,a,o,h1,h2,h3,r,f⟩:=I.eo i m
  exact ⟨d,a,o,h1,h2,h3,r.mono pre (.refl _) fun _ _ _ e=>e,f.1,fun h=>(dC.mp h).elim f.2.1 fun h=>(nw a h).2 ⟨i,m,h2⟩,f.2.2⟩
theorem nV {x:Str} (F:bB X X.cal lv j f) (hr:aW lv X.A) (hg:Gl X x) (hm:X.mg x=some (.ref f)) (ha:LA X (ea :: er) es) (hd:(x == ("__debug__":Str))=false) (he:starEach (ea :: er) X.env=(false,eval ea X.env) :: starEach er X.env) (hpl:(backTo pos (starEach er X.env)).any (·.1)=false):LE X (.Call (.Name x p) (ea :: er) [] pos) (.hcall j es):=fun br z I nb=>
 wpAny_Call_Name_kw (aF I hg hm (PySem.W.callWith_K (h₀:=X.base) I.md.kin (let ⟨_,_,_,_,_,k⟩:=F;k) ((ha false pos).go .refl I rfl nb fun z1 l us y1 x1 I1 r1 e1=>⟨I1.toHR.kin,by
  obtain ⟨fd,ps,dvs,F,hb,kp⟩:=F
  unfold qB at e1
  by_cases nr:aK l=true
  ·rw [if_pos nr] at e1
   have nbc:X.cal j l []≠.bad:=fun q=>by rw [q] at e1;exact nb e1
   have rd:RDs X.W z1.bare.ρ z1.bare.G l us:=bV nr r1.rds
   have bd:=hb z1.s us I1.toHR.kin (by rw [List.length_append,← rd.len];exact F.len _ _ nbc)
   refine wpAny_call (codeAny_mono (F.run X.A X.fr z1.bare ⟨us,[]⟩ us l hr I1.toHR.bare bd rd nbc) fun q s' hq=>?_)
   cases q with
   | error e=>
     obtain ⟨z',c,l',rfl,er,S,H,a,T,cls,dx,rfl,xr',tr,⟨na,ga,ma⟩,nT,gT,mT⟩:=hq
     rw [show X.cal j l []=_ from er] at e1
     obtain ⟨If,xf⟩:=I1.hout S H
     by_cases n2:aK l'=true
     ·have e1:=e1.trans (if_pos n2)
      have nob:∀ {b:Addr},z1.h b=none→z'.G b=none→Nob X z1 { z1 with G:=z'.G,s:=z'.s } b:=fun {b} n g=>by
       have ⟨f,no⟩:=I1.fre n
       exact ⟨n,⟨g,f.2⟩,no⟩
      refine Px.less x1 ⟨{ z1 with G:=z'.G,s:=z'.s },c,l',rfl,e1,xf,If,a,cls,dx,rfl,?_,nob na ga,.inr ⟨T,.none,tr,.inl rfl,nob nT gT⟩⟩
      obtain ⟨i,a1,a2,a3,a4,a5⟩:=xr'
      exact ⟨i,a1,a2,a3,a4,a5.imp_right fun ⟨d,od,vs,b1,b2,b3,b4⟩=>⟨d,od,vs,b1,b2,b3,bV n2 b4⟩⟩
     ·exact absurd (e1.trans (if_neg n2)) nb
   | ok fl=>
     cases fl with
     | ret u=>
       obtain ⟨z',d,rfl,er,S,H,r⟩:=hq
       rw [show X.cal j l []=_ from er] at e1
       obtain ⟨If,xf⟩:=I1.hout S H
       by_cases n2:noR d=true
       ·have e1:=e1.trans (show (if noR d=true then Out.ok d z1.t else _)=_ from if_pos n2)
        exact Pe.less x1 ⟨{ z1 with G:=z'.G,s:=z'.s },d,rfl,e1,xf,If,.of (jY n2 r)⟩
       ·have e1:=e1.trans (show (if noR d=true then Out.ok d z1.t else _)=_ from if_neg n2)
        have new:∀ a,Mu z'.ρ a→z1.h a=none:=fun a m=>(S.rn a m).elim (fun m=>(cB m).elim) id
        have I2:=If.more (ρ':=z'.ρ) (os:=z'.t.st.map (shO z1.t.st.length)) (by rw [List.length_map];exact H.rl) (fun a m=>let ⟨f,no⟩:=I1.fre (new a m);⟨⟨H.rg a m,f.2⟩,no⟩) H.rn (fun n o p h1 h2=>by
         rw [List.getElem?_map,Option.map_eq_some_iff] at h1
         obtain ⟨o',h1,rfl⟩:=h1
         rw [← I1.rl];exact (H.ob n o' p h1 h2).sh)
        refine Pe.less x1 ⟨{ z1 with ρ:=z1.ρ ++ z'.ρ,G:=z'.G,t:=⟨z1.t.env,z1.t.ow,z1.t.st ++ z'.t.st.map (shO z1.t.st.length)⟩,s:=z'.s },shD z1.t.st.length d,rfl,e1,⟨⟨List.prefix_append _ _,xf.st.gg,xf.st.gn,fun a m=>(dC.mp m).imp_right (new a),xf.st.th,xf.st.sm,xf.st.sl⟩,rfl,rfl,fun _ h=>h⟩,I2,.of ?_⟩
        rw [← I1.rl];exact r.sh
     | next=>exact hq.elim
     | brk=>exact hq.elim
     | cont=>exact hq.elim
  ·rw [if_neg nr] at e1;exact absurd e1 nb⟩) he hpl) hd)
structure lr (X:Cx) (an:Nat→Str) (m:Str) (c:Nat) (f:Addr):Prop where
 ex:∃ i k,X.Γ.cl[c]? = some k∧bX X an c k i∧k.what=0∧vA X.K i.ad m f∧m ∉ i.nm
theorem pL {l:List Str} {vs:List Value} (h:m ∉ l):(l.zip vs).lookup m=none:=by
 induction l generalizing vs with
 | nil=>rfl
 | cons n r ih=>
   cases vs with
   | nil=>rfl
   | cons w vs=>
     show (match m == n with | true=>some w | false=>(r.zip vs).lookup m)=none
     rw [show (m == n)=false from beq_eq_false_iff_ne.mpr fun z=>h (by rw [z];exact List.mem_cons_self)]
     exact ih fun z=>h (List.mem_cons_of_mem _ z)
theorem kO {n:Nat} {l:List D} {p:Addr×Addr} {Q:Value×List Value→Shared→Prop} {E:Value→Shared→Prop} {pl:Sem Bool} (M:lr X an m c f) (I:Rep X z) (e:z.t.st[n]? = some (.ins c l)) (ep:z.ρ[n]? = some p) (q:Q (.ref f,[.ref p.1]) z.s):wpAny X.M X.A (getMethod (.ref p.1) m pl) Q E z.s:=by
 obtain ⟨i,k,hc,ok,w,hm,nm⟩:=M.ex
 obtain ⟨i',vs,w1,w2,w3,w4,w5⟩:=I.ob n _ p e ep
 have e4:=ok.ci
 rw [w1] at e4;cases e4
 exact m8 I.toHR.kin (InO.objm w4) ((ok.cls (by omega)).get m) hm.at_ hm.fn (pL nm) q
theorem kP {o:Out D} {f:List D→Sta→Out D} {x:D} (e:o=(match x with
 | .ref p=>(match z.t.st[p]? with
   | some (.ins c' _)=>if c'=c then (X.evs true es z.t).bind fun l s=>fJ X.cal es j (x :: l) s else .bad
   | _=>.bad)
 | _=>.bad)) (nb:o≠.bad):∃ n l,x = .ref n∧z.t.st[n]? = some (.ins c l)∧o=(X.evs true es z.t).bind fun l s=>fJ X.cal es j (.ref n :: l) s:=by
 cases x with
 | ref n=>
   dsimp only at e
   cases q:z.t.st[n]? with
   | none=>rw [q] at e;exact absurd e nb
   | some ob=>
     rw [q] at e
     cases ob with
     | ins c' l=>
       dsimp only at e
       by_cases h:c'=c
       ·subst h;rw [if_pos rfl] at e;exact ⟨n,l,rfl,q,e⟩
       ·rw [if_neg h] at e;exact absurd e nb
     | _=>exact absurd e nb
 | _=>exact absurd e nb
theorem uq (F:bB X X.cal lv j f) (hr:aW lv X.A) (M:lr X an m c f) (ho:LE X eo a) (ha:LA X (ea :: er) es) (he:starEach (ea :: er) X.env=(false,eval ea X.env) :: starEach er X.env) (hpl:(backTo pos (starEach er X.env)).any (·.1)=false)
 (ht:eval (.Call (.Attribute eo m apos) (ea :: er) [] pos) X.env=(do
  let ov ← eval eo X.env
  standAt apos.atName
  let (f,first) ← holding [ov] (getMethod ov m pl)
  callWith pos f first (backTo pos (starEach (ea :: er) X.env)) (backToKw pos (keywordEach [] X.env)))):LE X (.Call (.Attribute eo m apos) (ea :: er) [] pos) (.mth c j a es):=fun br z I nb=>
 PySem.W.methodCall_KW (pl:=pl) ((ho true).go .refl I rfl nb fun z1 x u y1 x1 I1 r1 e1=>by
  obtain ⟨n,l,rfl,q,e1⟩:=kP (f:=fun _ _=>.bad) e1 nb
  obtain ⟨p,ep,rfl⟩:=(r1.rb.cr0 I1:RD X.W z1.ρ z1.G (.ref n) u)
  exact kO M I1 q ep (PySem.W.callWith_K (first:=[.ref p.1]) (h₀:=X.base) I.md.kin (let ⟨_,_,_,_,_,k⟩:=F;k) ((ha true pos).go x1 I1 e1 nb fun z2 l us y2 x2 I2 r2 e2=>⟨I2.toHR.kin,fx (us:=.ref p.1 :: us) F hr x2 I2 (.cons (d:=.ref n) ⟨p,dE y2.st.pr ep,rfl⟩ (io (I2.rel _).1 (I2.rel _).2.st.gg eK (fun _ h=>h) r2)) e2 nb⟩) he hpl)) ht
theorem qN (F:bB X X.cal lv j f) (hr:aW lv X.A) (M:lr X an m c f) (ho:LE X eo a)
 (ht:eval (.Call (.Attribute eo m apos) [] [] pos) X.env=(do
  let ov ← eval eo X.env
  standAt apos.atName
  let (f,first) ← holding [ov] (getMethod ov m pl)
  callWith pos f first (backTo pos (starEach [] X.env)) (backToKw pos (keywordEach [] X.env)))):LE X (.Call (.Attribute eo m apos) [] [] pos) (.mth c j a .nil):=fun br z I nb=>
 PySem.W.methodCall_KW (pl:=pl) ((ho true).go .refl I rfl nb fun z1 x u y1 x1 I1 r1 e1=>by
  obtain ⟨n,l,rfl,q,e1⟩:=kP (f:=fun _ _=>.bad) e1 nb
  obtain ⟨p,ep,rfl⟩:=(r1.rb.cr0 I1:RD X.W z1.ρ z1.G (.ref n) u)
  exact kO M I1 q ep (PySem.W.callWith_K0 (first:=[.ref p.1]) I1.toHR.kin (let ⟨_,_,_,_,_,k⟩:=F;k) (fx (us:=[.ref p.1]) (es:=.nil) F hr x1 I1 (.cons (d:=.ref n) (ds:=[]) ⟨p,ep,rfl⟩ rfl) e1 nb))) ht
theorem fA (C:Addr) (us:List Value) (kw:List (Str×Value)):(X.A.under (.builtin "type.__call__" ⟨.ref C :: us,kw⟩)).frames=X.A.frames:=by simp [Around.under,Code.envs,Code.isFrame,pushEnvs]
theorem dk:Mu (ρ ++ [p]) a↔Mu ρ a∨a=p.1∨a=p.2:=by
 constructor
 ·rintro ⟨q,h,e⟩
  rcases List.mem_append.mp h with h | h
  ·exact .inl ⟨q,h,e⟩
  ·cases List.mem_singleton.mp h;exact .inr e
 ·rintro (⟨q,h,e⟩ | e)
  ·exact ⟨q,List.mem_append_left _ h,e⟩
  ·exact ⟨p,List.mem_append_right _ List.mem_cons_self,e⟩
theorem aH {l:List α} (e:(l ++ [a])[n]? = some b):l[n]? = some b∨(n=l.length∧b=a):=by
 rcases Nat.lt_trichotomy n l.length with h | h | h
 ·rw [List.getElem?_append_left h] at e;exact .inl e
 ·subst h;rw [List.getElem?_append_right (Nat.le_refl _),Nat.sub_self] at e;cases e;exact .inr ⟨rfl,rfl⟩
 ·rw [List.getElem?_append_right (Nat.le_of_lt h),List.getElem?_eq_none (by simp;omega)] at e;cases e
theorem HR.snoc (I:HR X z) (g:Gr z.s s') (hp:z.h p.1=none∧z.h p.2=none) (r:ObR X.W (z.ρ ++ [p]) z.G s'.heap.get? p o) (tk:X.tz≤s'.toks:=by first | assumption | exact HR.tk (by assumption) | exact HR.tk1 (by assumption) | exact (Rep.toHR (by assumption)).tk | exact (Rep.toHR (by assumption)).tk1 | exact Nat.le_succ_of_le (by assumption)):HR X { z with ρ:=z.ρ ++ [p],t:=⟨z.t.env,z.t.ow,z.t.st ++ [o]⟩,s:=s' }∧Stp X.fr w z { z with ρ:=z.ρ ++ [p],t:=⟨z.t.env,z.t.ow,z.t.st ++ [o]⟩,s:=s' }:=by
 have nn:∀ {a:Addr},(a=p.1∨a=p.2)→z.h a=none:=fun h=>h.elim (fun e=>e ▸ hp.1) fun e=>e ▸ hp.2
 have pre:z.ρ <+: z.ρ ++ [p]:=List.prefix_append _ _
 have no:∀ {a:Addr} {P:Prop},(a=p.1∨a=p.2)→(∃ o,z.h a=some o)→P:=fun h ⟨o,e⟩=>by rw [nn h] at e;cases e
 have old:∀ {i:Nat} {q:Addr×Addr} {a:Addr},z.ρ[i]? = some q→(a=q.1∨a=q.2)→∃ o,z.h a=some o:=fun h1 h2=>I.th ⟨_,List.mem_of_getElem? h1,h2⟩
 refine ⟨⟨I.md,I.fm,I.hd,I.bs,fun a o e=>g.k a o (I.gh a o e),by simp [I.rl],fun i j q1 q2 a h1 h2 h3 h4=>?_,fun a m=>?_,fun n o' q h1 h2=>?_,nfu I.fu g.k,fun b m=>⟨(I.ff b m).1,fun w=>(dk.mp w).elim (I.ff b m).2 fun w=>no w (I.fth m)⟩,by show AllBare s'.gens;rw [g.gs];exact I.br,g.os.trans I.os,tk⟩,⟨pre,.refl _,fun _ _ e=>.inl e,fun a m=>(dk.mp m).imp_right nn,fun a o e=>⟨o,g.k a o e⟩,fun a o e _ _ _=>g.k a o e,fun a o e _ _ _=>⟨o.slots,g.k a o e⟩⟩⟩
 ·rcases aH h1 with a1 | ⟨a1,b1⟩
  ·rcases aH h2 with a2 | ⟨a2,b2⟩
   ·exact I.rn i j q1 q2 a a1 a2 h3 h4
   ·subst b2;exact no h4 (old a1 h3)
  ·subst b1
   rcases aH h2 with a2 | ⟨a2,b2⟩
   ·exact no h3 (old a2 h4)
   ·rw [a1,a2]
 ·rcases dk.mp m with m | m
  ·exact I.rg a m
  ·cases q:z.G a with
   | none=>rfl
   | some o=>exact no m ⟨o,I.gh a o q⟩
 ·rcases aH h2 with a2 | ⟨a2,b2⟩
  ·rcases aH h1 with a1 | ⟨a1,_⟩
   ·exact (I.ob n o' q a1 a2).mono pre (.refl _) fun a _ o e=>g.k a o e
   ·have:=(List.getElem?_eq_some_iff.mp a2).1;rw [I.rl] at this;omega
  ·subst b2
   rcases aH h1 with a1 | ⟨_,b1⟩
   ·have:=(List.getElem?_eq_some_iff.mp a1).1;rw [← I.rl] at this;omega
   ·subst b1;exact r
theorem HR.at {A:Around} (I:HR X z) (f:A.frames=X.A.frames) (h:A.handled=X.A.handled):HR { X with A:=A } z:=⟨I.md,f.trans I.fm,fun c=>h.trans (I.hd c),I.bs,I.gh,I.rl,I.rn,I.rg,I.ob,I.fu,I.ff,I.br,I.os,I.tk⟩
theorem kY {o:Out D} {j:Nat} {cl:Cl} {i:CI} (F:bB X X.cal1 lv cl.init f) (hr:aW (lv+1) X.A) (M:Mk X.K i.ad f) (hcl:X.Γ.cl[j]? = some cl) (hw:cl.what=0) (hci:X.W.ci[j]? = some i) (hwh:X.W.what[j]? = some 0) (x:Ee X z0 z) (I:Rep X z) (r:RVs X.W true es z l us)
 (e:o=(match X.Γ.cl[j]? with
 | some k=>if k.what=1 then (if l.length=k.at_.length then .ok (.ins j l) (drp es z.t z.t.st) else .bad)
   else if k.what=0 then (match X.cal1 k.init (.ref z.t.st.length :: l) (z.t.st ++ [.ins j []]) with
    | .ok .non st=>.ok (.ref z.t.st.length) (aft es z.t .non st)
    | _=>.bad)
   else .bad
 | none=>.bad)) (nb:o≠.bad):wpAny X.M X.A (call (.ref i.ad) us) (Pe X z0 o (RV X.W br c)) (Px X z0 o) z.s:=by
 rw [hcl] at e
 dsimp only at e
 rw [if_neg (by omega),if_pos hw] at e
 obtain ⟨Ir,xr⟩:=I.rel fun i=>!(bh es).contains i
 obtain ⟨fd,ps,dvs,F,hb,kp⟩:=F
 have nbc:X.cal1 cl.init (.ref z.t.st.length :: l) (z.t.st ++ [.ins j []])≠.bad:=fun q=>by rw [q] at e;exact nb e
 have g:Gr z.s { z.s with heap:=(z.s.heap.push PySem.W.emptyDict).push (PySem.W.instObj i.ad z.s.heap.objs.size) }:=⟨rfl,rfl,fun b o e=>Heap.get?_push_of_some _ (Heap.get?_push_of_some _ e)⟩
 have e1:(z.s.heap.push PySem.W.emptyDict).get? z.s.heap.objs.size=some PySem.W.emptyDict:=Heap.get?_push_size z.s.heap rfl
 have e2:((z.s.heap.push PySem.W.emptyDict).push (PySem.W.instObj i.ad z.s.heap.objs.size)).get? (z.s.heap.objs.size+1)=some (PySem.W.instObj i.ad z.s.heap.objs.size):=by
  have:=Heap.get?_push_size (z.s.heap.push PySem.W.emptyDict) (o:=PySem.W.instObj i.ad z.s.heap.objs.size) rfl
  rwa [Heap.size_push] at this
 have hn:z.h (z.s.heap.objs.size+1)=none∧z.h z.s.heap.objs.size=none:=⟨Heap.get?_none_of_le (Nat.le_succ _),Heap.get?_none_of_le (Nat.le_refl _)⟩
 have ne:z.s.heap.objs.size≠z.s.heap.objs.size+1:=Nat.ne_of_lt (Nat.lt_succ_self _)
 obtain ⟨H1,S1⟩:=HR.snoc (w:=NoW) (p:=(z.s.heap.objs.size+1,z.s.heap.objs.size)) (o:=.ins j []) Ir.toHR g hn ⟨i,[],hci,hwh,Nat.zero_le _,⟨e2,ne,by simp,_,Heap.get?_push_of_some _ e1,#[],_,rfl,(fun e he=>absurd he (by simp)),.nil,fun n=>by cases i.nm <;> rfl⟩,rfl⟩
 have at0:(z.ρ ++ [(z.s.heap.objs.size+1,z.s.heap.objs.size)])[z.t.st.length]? = some (z.s.heap.objs.size+1,z.s.heap.objs.size):=by rw [List.getElem?_append_right (by rw [I.rl];exact Nat.le_refl _),I.rl,Nat.sub_self];rfl
 have rd0:=io Ir xr.st.gg eK (fun _ h=>h) r
 have rd:RDs X.W (z.ρ ++ [(z.s.heap.objs.size+1,z.s.heap.objs.size)]) (z.rel fun i=>!(bh es).contains i).G (.ref z.t.st.length :: l) (.ref (z.s.heap.objs.size+1) :: us):=.cons ⟨_,at0,rfl⟩ (rd0.mono (List.prefix_append _ _) (.refl _))
 have bd:=hb { z.s with heap:=(z.s.heap.push PySem.W.emptyDict).push (PySem.W.instObj i.ad z.s.heap.objs.size) } (.ref (z.s.heap.objs.size+1) :: us) (I.toHR.kin.keeps g.k) (by rw [List.length_append,← rd.len];exact F.len _ _ nbc)
 refine wpAny_call (oG (f:=f) I.toHR.kin M.makes M.init (beq_iff_eq.mp M.fn) (codeAny_mono (F.run _ X.fr _ ⟨.ref (z.s.heap.objs.size+1) :: us,[]⟩ _ _ (hr.make i.ad us []) (H1.at (fA i.ad us []) rfl) bd rd nbc) fun q s' hq=>?_))
 cases q with
 | error e'=>obtain ⟨z',c,l',_,er,_,_,_⟩:=hq;rw [show X.cal1 cl.init (.ref z.t.st.length :: l) (z.t.st ++ [.ins j []])=_ from er] at e;exact absurd e nb
 | ok fl=>
   cases fl with
   | ret u=>
     obtain ⟨z',d,rfl,er,S,H,r⟩:=hq
     rw [show X.cal1 cl.init (.ref z.t.st.length :: l) (z.t.st ++ [.ins j []])=_ from er] at e
     cases d with
     | non=>
       refine ⟨(show u = .none from r),?_⟩
       have S2:Stp X.fr NoW (z.rel fun i=>!(bh es).contains i) z':=S1.trans S fun _ h=>h.elim
       have H2:HR X z':=H.at (X:={ X with A:=_,fr:=X.fr }) (A:=X.A) (fA i.ad us []).symm rfl
       obtain ⟨zf,f1,f2,f3,If,xf,k1,k2,k3⟩:=I.back (fun i=>!(bh es).contains i) (fun i=>!(bh es).contains i || (isLst z.t.env[i]? && (noL .non && z'.t.st.all jS))) S2 H2 (fun i h=>by rw [h];rfl) fun i _ h=>by
        cases w:(!(bh es).contains i) with
        | true=>exact .inl rfl
        | false=>rw [w,Bool.false_or,Bool.and_eq_true,Bool.and_eq_true] at h;exact .inr ⟨h.1,h.2.2⟩
       refine Pe.less x ⟨zf,.ref z.t.st.length,f1,by rw [e,f2];rfl,xf,If,.of ⟨(z.s.heap.objs.size+1,z.s.heap.objs.size),?_,rfl⟩⟩
       rw [f3]
       exact dE S.pr at0
     | _=>exact absurd e nb
   | next=>exact hq.elim
   | brk=>exact hq.elim
   | cont=>exact hq.elim
end
def Ps (X:Cx) (z:Z) (o:ah) (f:Flow) (s':Shared):Prop:=match o with
 | .nx t=>f = .next∧∃ z',z'.s=s'∧z'.t=t∧Go X z z'∧Rep X z'
 | .rt d t=>∃ u z',f = .ret u∧z'.s=s'∧z'.t.st=t.st∧Go X z z'∧Rep X z'∧RD X.W z'.ρ z'.G d u
 | _=>False
inductive PxS (X:Cx) (z:Z) (o:ah) (x:Value) (s':Shared):Prop
 | mk (z':_) (c:_) (l:_) (_:z'.s=s') (_:o = .exc c l z'.t) (_:Go X z z') (_:Rep X z') (_:XO X z z' c l x)
abbrev Ws (X:Cx) (t:Sem Flow) (z:Z) (o:ah):Prop:=wpAny X.M X.A t (Ps X z o) (PxS X z o) z.s
def LS (X:Cx) (st:Stmt) (c:S):Prop:=∀ z,Rep X z→X.ex c z.t≠.bad→Ws X (exec st X.env) z (X.ex c z.t)
def LSs (X:Cx) (st:List Stmt) (c:S):Prop:=∀ z,Rep X z→X.ex c z.t≠.bad→Ws X (execs st X.env) z (X.ex c z.t)
section
variable {X:Cx} {z z' z0 z1:Z}
theorem Ps.less (x:Go X z z1) (h:Ps X z1 o f s'):Ps X z o f s':=by
 cases o with
 | nx t=>obtain ⟨e,z',a,b,y,I⟩:=h;exact ⟨e,z',a,b,x.trans y,I⟩
 | rt d t=>obtain ⟨u,z',e,a,b,y,I⟩:=h;exact ⟨u,z',e,a,b,x.trans y,I⟩
 | _=>exact h
theorem PxS.less (x:Go X z z1) (h:PxS X z1 o u s'):PxS X z o u s':=let ⟨z',c,l,e,q,y,I,n⟩:=h;⟨z',c,l,e,q,x.trans y,I,n.less fun _=>x.st.no⟩
theorem PxS.of {m:Out α} (x:Go X z z1) (h:Px X z1 m u s') {f:α→Sta→ah}:PxS X z (m.go f) u s':=let ⟨z',c,l,e,q,y,I,n⟩:=h;⟨z',c,l,e,by rw [q];rfl,x.trans y.go,I,n.less fun _=>x.st.no⟩
theorem Jg.gos {t:Sem β} {m:Sta→Out α} {R:Z→α→β→Prop} {f:α→Sta→ah} {o:ah} {K:β→Shared→Prop} (h:Jg X t m R) (x:Go X z z1) (I:Rep X z1) (e:o=(m z1.t).go f) (nb:o≠.bad)
 (k:∀ z2 d u,Ee X z1 z2→Go X z z2→Rep X z2→R z2 d u→o=f d z2.t→K u z2.s):wpAny X.M X.A t K (PxS X z o) z1.s:=by
 subst e
 refine wpAny_mono (h z1 I fun q=>nb (by rw [q];rfl)) (fun u s' ⟨z2,d,e,q,y,I1,r⟩=>?_) fun u s' h=>.of x h
 subst e;exact k z2 d u y (x.trans y.go) I1 r (by rw [q];rfl)
theorem nxt (x:Go X z z1) (I:Rep X z1) (e:o = .nx z1.t):Ps X z o .next z1.s:=by subst e;exact ⟨rfl,z1,rfl,rfl,x,I⟩
theorem LSs.at (h:LSs X sts c) (x:Go X z z1) (I:Rep X z1) (e:o=X.ex c z1.t) (nb:o≠.bad):wpAny X.M X.A (execs sts X.env) (Ps X z o) (PxS X z o) z1.s:=by subst e;exact wpAny_mono (h z1 I nb) (fun _ _ h=>h.less x) fun _ _ h=>h.less x
theorem oy:LSs X [] .skip:=fun z I _=>wpAny_execs_nil (nxt .refl I rfl)
theorem oz (h:LS X tm c):LSs X [tm] c:=fun z I nb=>wpAny_execs_cons (thn (h z I nb) fun f s1 q=>by
 cases f with
 | next=>exact wpAny_execs_nil q
 | ret v=>exact q
 | brk=>exact q
 | cont=>exact q)
theorem kK (h1:LS X tm a) (h2:LSs X rest b):LSs X (tm :: rest) (.seq a b):=fun z I nb=>by
 have nb1:X.ex a z.t≠.bad:=fun q=>nb (show ah.go (X.ex a z.t) _=_ by rw [q];rfl)
 refine wpAny_execs_cons (wpAny_mono (h1 z I nb1) (fun f s1 q=>?_) fun u s' ⟨z',c,l,e,q,y,J,r⟩=>⟨z',c,l,e,show ah.go (X.ex a z.t) _=_ by rw [q];rfl,y,J,r⟩)
 cases qa:X.ex a z.t with
 | nx t=>
   rw [qa] at q
   obtain ⟨rfl,z1,rfl,rfl,x1,I1⟩:=q
   exact h2.at x1 I1 (show ah.go (X.ex a z.t) _=_ by rw [qa];rfl) nb
 | rt d t=>
   have e:X.ex (.seq a b) z.t = .rt d t:=show ah.go (X.ex a z.t) _=_ by rw [qa];rfl
   rw [qa] at q
   obtain ⟨u,z1,rfl,r⟩:=q
   show Ps X z (X.ex (.seq a b) z.t) (.ret u) s1
   rw [e];exact ⟨u,z1,rfl,r⟩
 | exc c l t=>rw [qa] at q;exact q.elim
 | bad=>exact absurd qa nb1
theorem kL (h:∀ z,Rep X z→wpAny X.M X.A (exec tm X.env) (fun f s'=>f = .next∧Gr z.s s') NoE z.s):LS X tm .skip:=fun z I _=>wpAny_mono (wpAny_toks_of I.tk (h z I)) (fun f s' ⟨tk,e,g⟩=>by subst e;exact nxt (z1:={ z with s:=s' }) (am I.gh g).ee.go (I.grow (am I.gh g) tk) rfl) fun _ _ z=>z.2.elim
theorem ri:LS X (.Pass pos) .skip:=kL fun _ _=>wpAny_Pass ⟨rfl,.refl⟩
theorem Rep.quiet (I:Rep X z):interactive X.env=false:=by simp [interactive,I.ok.kd]
theorem uJ:LS X (.Expr (.Constant (.str x) j pos) pos') .skip:=kL fun z I=>wpAny_Expr (Calls.Constant_str (show _∧_ from ⟨rfl,.tok⟩)) I.quiet
theorem qX (he:LE X e c) (hs:swapsWith e none pos.line X.env=pure false):LS X (.Expr e pos) (.drop c):=fun z I nb=>wpAny_Expr_any ((he false).gos .refl I rfl nb fun z1 d u y x I1 r e1=>nxt x I1 e1) I.quiet hs
theorem hW (he:LE X e c):LS X (.Return (some e) pos) (.ret c):=fun z I nb=>wpAny_Return_some ((he false).gos .refl I rfl nb fun z1 d u y x I1 r e1=>by
 show Ps X z (X.ex (.ret c) z.t) _ _
 rw [e1];exact ⟨u,z1,rfl,rfl,rfl,x,I1,r.rd⟩)
theorem ro:LS X (.Return none pos) (.ret (.c .non)):=fun z I nb=>wpAny_Return_none ⟨.none,z,rfl,rfl,rfl,.refl,I,rfl⟩
theorem wV (hc:LT X ec c) (ha:LSs X sa a) (hb:LSs X sb b):LS X (.If ec sa sb pos) (.ifs c a b):=fun z I nb=>by
 have e:X.ex (.ifs c a b) z.t=((X.ev true c z.t).bind toB).go fun t s=>if t then X.ex a s else X.ex b s:=by
  show Out.go (X.ev true c z.t) _=_
  cases X.ev true c z.t with
  | ok d s=>cases d <;> first | rfl | (rename_i t;cases t <;> rfl)
  | _=>rfl
 refine wpAny_If (hc.gos .refl I e nb fun z1 t u y x I1 r e1=>?_)
 cases (show u=t from r)
 cases t with
 | true=>exact ha.at x I1 e1 nb
 | false=>exact hb.at x I1 e1 nb
def Vl (X:Cx) (z0 z:Z) (own:Bool) (d:D) (u:Value):Prop:=match own with
 | false=>RD X.W z.ρ z.G d u
 | true=>FV X z0 z d u
def stV (t:Sta) (i:Nat) (d:D) (own:Bool):Sta:=⟨t.env.set i (some d),if own then i :: t.ow.filter (· != i) else t.ow.filter (· != i),t.st⟩
theorem gV {h h' base:Heap} (k:∀ b o,h.get? b=some o→(∀ vs,o.data≠.fields vs)→∃ o',h'.get? b=some o'∧∀ vs,o'.data≠.fields vs):∀ {l:List Env},h.FunFrames base l→h'.FunFrames base l
 | [],_=>trivial
 | _ :: _,⟨a,⟨L,o,e1,e2,e3,e4⟩,r⟩=>let ⟨o',q1,q2⟩:=k L o e3 e4;⟨a,⟨L,o',e1,e2,q1,q2⟩,gV k r⟩
theorem Rep.put {s':Shared} {i:Nat} {own:Bool} {d:D} {u:Value} (x0:Go X z0 z) (I:Rep X z) (sb:Heap.SameBut a z.s.heap s'.heap) (la:Lc X a) (th:∃ o,s'.heap.get? a=some o∧∀ vs,o.data≠.fields vs) (os:s'.os=z.s.os) (gs:s'.gens=z.s.gens) (vl:Vl X z0 z own d u) (hi:i<X.N.length)
 (lo:∃ m,s'.heap.Ns X.env.locals m∧∀ (j:Nat) (x:Str) (w:Value),X.N[j]? = some x→(z.σ.set i (some u))[j]? = some (some w)→Vis X.env.scope x→jp X.env s'.heap m x w)
 (ce:∀ x c,X.env.cells.lookup x=some c→∃ v,s'.heap.IsCell c v) (tk:X.tz≤s'.toks:=by first | assumption | exact HR.tk (by assumption) | exact HR.tk1 (by assumption) | exact (Rep.toHR (by assumption)).tk | exact (Rep.toHR (by assumption)).tk1 | exact Nat.le_succ_of_le (by assumption)):Rep X { z with t:=stV z.t i d own,σ:=z.σ.set i (some u),s:=s' }∧Go X z0 { z with t:=stV z.t i d own,σ:=z.σ.set i (some u),s:=s' }:=by
 have ne:∀ {b:Addr},¬ Lc X b→s'.heap.get? b=z.h b:=fun n=>sb.2 _ fun e=>n (e ▸ la)
 have nG:∀ {b o},z.G b=some o→¬ Lc X b:=fun e l=>by rw [(I.fl _ l).1] at e;cases e
 have nM:∀ {b},Mu z.ρ b→¬ Lc X b:=fun m l=>(I.fl _ l).2 m
 have hiσ:i<z.σ.length:=by rw [I.sl];exact hi
 have ow:∀ {j},j∈(stV z.t i d own).ow→(j=i∧own=true)∨(j≠i∧j∈z.t.ow):=fun {j} m=>by
  cases own with
  | true=>
    rcases List.mem_cons.mp (show j∈i :: z.t.ow.filter (· != i) from m) with w | w
    ·exact .inl ⟨w,rfl⟩
    ·have:=List.mem_filter.mp w;exact .inr ⟨by simpa using this.2,this.1⟩
  | false=>have:=List.mem_filter.mp (show j∈z.t.ow.filter (· != i) from m);exact .inr ⟨by simpa using this.2,this.1⟩
 have wo:∀ {j},j≠i→j∈z.t.ow→j∈(stV z.t i d own).ow:=fun {j} n m=>by
  have w:j∈z.t.ow.filter (· != i):=List.mem_filter.mpr ⟨m,by simpa using n⟩
  cases own with
  | true=>exact List.mem_cons_of_mem _ w
  | false=>exact w
 have get:∀ {j},j≠i→(z.σ.set i (some u))[j]? = z.σ[j]?:=fun h=>List.getElem?_set_ne (Ne.symm h)
 have gete:∀ {j},j≠i→(z.t.env.set i (some d))[j]? = z.t.env[j]?:=fun h=>List.getElem?_set_ne (Ne.symm h)
 have gi:(z.σ.set i (some u))[i]? = some (some u):=List.getElem?_set_self hiσ
 have gie:(z.t.env.set i (some d))[i]? = some (some d):=List.getElem?_set_self (by rw [I.el];exact hiσ)
 have fu:s'.heap.FunFrames X.base X.fr:=gV (fun b o e nf=>by
  by_cases q:b=a
  ·subst q;exact th
  ·exact ⟨o,(sb.2 b q).trans e,nf⟩) I.fu
 have th':∀ b o,z.h b=some o→∃ o',s'.heap.get? b=some o':=fun b o e=>by
  by_cases q:b=a
  ·subst q;exact th.imp fun _ h=>h.1
  ·exact ⟨o,(sb.2 b q).trans e⟩
 have S:Stp X.fr (Pv X z) z { z with t:=stV z.t i d own,σ:=z.σ.set i (some u),s:=s' }:=⟨List.prefix_refl _,.refl _,fun _ _ e=>.inl e,fun _ m=>.inl m,th',fun b o e _ w _=>(ne fun l=>w (.inr l)).trans e,fun b o e _ w _=>⟨o.slots,(ne fun l=>w (.inr l)).trans e⟩⟩
 refine ⟨⟨⟨I.md,I.fm,I.hd,I.bs,fun b o e=>(ne (nG e)).trans (I.gh b o e),I.rl,I.rn,I.rg,fun n o p h1 h2=>(I.ob n o p h1 h2).mono (List.prefix_refl _) (.refl _) fun b hb o e=>(ne (nM ⟨p,List.mem_of_getElem? h2,hb⟩)).trans e,fu,I.ff,by show AllBare s'.gens;rw [gs];exact I.br,os.trans I.os,tk⟩,I.ok,lo,ce,I.fl,by show (z.t.env.set i (some d)).length=(z.σ.set i (some u)).length;rw [List.length_set,List.length_set];exact I.el,by show (z.σ.set i (some u)).length=_;rw [List.length_set];exact I.sl,fun j d' n e=>?_,fun j m=>?_,fun j k b m1 m2 e1 e2=>?_⟩,x0.st.trans S fun b w=>w.elim (fun w=>(x0.ow b w).imp_left .inl) fun w=>.inl (.inr w),fun b ⟨j,m,e⟩=>?_⟩
 ·by_cases q:j=i
  ·subst q
   rw [show (z.t.env.set j (some d))[j]? = some (some d') from e] at gie;cases gie
   cases own with
   | true=>exact absurd List.mem_cons_self n
   | false=>exact ⟨u,gi,vl⟩
  ·obtain ⟨w,e1,r⟩:=I.en j d' (fun m=>n (wo q m)) ((gete q).symm.trans e)
   exact ⟨w,(get q).trans e1,r⟩
 ·rcases ow m with ⟨rfl,rfl⟩ | ⟨q,m⟩
  ·obtain ⟨b,o,rfl,_,t,r,f,no⟩:=vl
   exact ⟨d,b,o,gie,gi,t,r.mono (List.prefix_refl _) (.refl _) fun c hc o e=>(ne (by rcases hc with rfl | rfl <;> exact f.2.2.2)).trans e,f⟩
  ·obtain ⟨d',b,o,h1,h2,h3,r,f⟩:=I.eo j m
   exact ⟨d',b,o,(gete q).trans h1,(get q).trans h2,h3,r.mono (List.prefix_refl _) (.refl _) fun c hc o e=>(ne (by rcases hc with rfl | rfl <;> exact f.2.2.2)).trans e,f⟩
 ·have new:∀ {k:Nat} {b:Addr},own=true→k∈z.t.ow→(z.σ.set i (some u))[i]? = some (some (.ref b))→z.σ[k]? = some (some (.ref b))→False:=fun {k b} ho mk w1 w2=>by
   subst ho
   obtain ⟨b',o,rfl,_,t,r,f,no⟩:=vl
   rw [gi] at w1;cases w1
   exact no ⟨k,mk,w2⟩
  rcases ow m1 with ⟨h1,ho⟩ | ⟨q1,n1⟩ <;> rcases ow m2 with ⟨h2,ho2⟩ | ⟨q2,n2⟩
  ·exact h1.trans h2.symm
  ·exact (new ho n2 (h1 ▸ e1) ((get q2).symm.trans e2)).elim
  ·exact (new ho2 n1 (h2 ▸ e2) ((get q1).symm.trans e1)).elim
  ·exact I.od j k b n1 n2 ((get q1).symm.trans e1) ((get q2).symm.trans e2)
 ·rcases ow m with ⟨rfl,rfl⟩ | ⟨q,m⟩
  ·obtain ⟨b',o,rfl,n,_⟩:=vl
   rw [show (z.σ.set j (some (.ref b')))[j]? = some (some (.ref b)) from e] at gi;cases gi
   exact .inr n
  ·exact x0.ow b ⟨j,m,(get q).symm.trans e⟩
theorem Rep.cne (I:Rep X z):∀ x c,X.env.cells.lookup x=some c→c≠X.env.locals:=fun x c e q=>by
 obtain ⟨v,o,ho,hd⟩:=I.ce x c e
 obtain ⟨m,⟨o',es,ep,ho',hd',_⟩,_⟩:=I.lo
 rw [q,ho'] at ho;cases ho;rw [hd'] at hd;cases hd
theorem bA {i:Nat} {x:Str} {own:Bool} {d:D} {u:Value} {Q:Unit→Shared→Prop} {E:Value→Shared→Prop} (x0:Go X z0 z) (I:Rep X z) (hN:X.N.Nodup) (hi:X.N[i]? = some x) (hx:Loc X.env.scope x) (vl:Vl X z0 z own d u)
 (h:∀ s' a,Heap.SameBut a z.s.heap s'.heap→Lc X a∧(X.env.scope.names.lookup x=some .local→a=X.env.locals)→Rep X { z with t:=stV z.t i d own,σ:=z.σ.set i (some u),s:=s' }→Go X z0 { z with t:=stV z.t i d own,σ:=z.σ.set i (some u),s:=s' }→Q () s'):wpAny X.M X.A (storeName X.env x u) Q E z.s:=by
 obtain ⟨m,hn,hl⟩:=id I.lo
 have hcls:(X.env.scope.kind == .class || (X.env.scope.kind == .module && X.env.locals != X.env.globals))=false:=by rw [I.ok.kd];rfl
 have il:i<X.N.length:=(List.getElem?_eq_some_iff.mp hi).1
 have hiσ:i<z.σ.length:=by rw [I.sl];exact il
 rcases hx with hk | hk
 ·refine wpAny_storeName_local hk hn (fun h' hn' hs=>?_) hcls
  have ⟨oL,es,ep,hoL,hdL,_⟩:=hn'
  have lo:∀ (j:Nat) (y:Str) (w:Value),X.N[j]? = some y→(z.σ.set i (some u))[j]? = some (some w)→Vis X.env.scope y→jp X.env h' (fun y=>if y=x then some u else m y) y w:=fun j y w e1 e2 e3=>by
   by_cases hj:j=i
   ·subst hj
    rw [hi] at e1;cases e1
    rw [List.getElem?_set_self hiσ] at e2;cases e2
    exact .inl ⟨hk,by simp⟩
   ·rw [List.getElem?_set_ne (Ne.symm hj)] at e2
    rcases hl j y w e1 e2 e3 with ⟨k,e⟩ | ⟨k,c,e,q⟩
    ·have:y≠x:=fun e=>hj (fh hN e1 (e ▸ hi))
     exact .inl ⟨k,by simp [this,e]⟩
    ·exact .inr ⟨k,c,e,q.sameBut hs (I.cne y c e)⟩
  obtain ⟨I',g'⟩:=Rep.put (s':={ z.s with heap:=h',toks:=z.s.toks+1 }) x0 I hs (.inl rfl) ⟨oL,hoL,fun vs e=>by rw [hdL] at e;cases e⟩ rfl rfl vl il ⟨_,hn',lo⟩ fun y c e=>let ⟨v,q⟩:=I.ce y c e;⟨v,q.sameBut hs (I.cne y c e)⟩
  exact h _ _ hs ⟨.inl rfl,fun _=>rfl⟩ I' g'
 ·obtain ⟨c,hc⟩:=I.ok.ch x (.inl hk)
  obtain ⟨w',q0⟩:=I.ce x c hc
  refine wpAny_storeName_cell I.ok.kd hk hc q0 (fun h' hc' hs=>?_)
  have ⟨oc,hoc,hdc⟩:=hc'
  have lo:∀ (j:Nat) (y:Str) (w:Value),X.N[j]? = some y→(z.σ.set i (some u))[j]? = some (some w)→Vis X.env.scope y→jp X.env h' m y w:=fun j y w e1 e2 e3=>by
   by_cases hj:j=i
   ·subst hj
    rw [hi] at e1;cases e1
    rw [List.getElem?_set_self hiσ] at e2;cases e2
    exact .inr ⟨.inl hk,c,hc,hc'⟩
   ·rw [List.getElem?_set_ne (Ne.symm hj)] at e2
    rcases hl j y w e1 e2 e3 with q | ⟨k,c',e,q⟩
    ·exact .inl q
    ·refine .inr ⟨k,c',e,q.sameBut hs ?_⟩
     rintro rfl
     exact hj (fh hN e1 (I.ok.ci _ _ _ e hc ▸ hi))
  have ce:∀ y c',X.env.cells.lookup y=some c'→∃ v,h'.IsCell c' v:=fun y c' e=>by
   by_cases hcc:c'=c
   ·subst hcc;exact ⟨_,hc'⟩
   ·obtain ⟨w2,q2⟩:=I.ce y c' e
    exact ⟨w2,q2.sameBut hs hcc⟩
  obtain ⟨I',g'⟩:=Rep.put (s':={ z.s with heap:=h' }) x0 I hs (.inr ⟨x,hc⟩) ⟨oc,hoc,fun vs e=>by rw [hdc] at e;cases e⟩ rfl rfl vl il ⟨m,hn.sameBut hs (Ne.symm (I.cne x c hc)),lo⟩ ce
  exact h _ _ hs ⟨.inr ⟨x,hc⟩,fun e=>by rw [show X.env.scope.names.lookup x=some .cell from hk] at e;cases e⟩ I' g'
theorem eY (hN:X.N.Nodup) (hi:X.N[i]? = some x) (hx:Loc X.env.scope x) (he:LE X e c) (hf:fresh c=true→LF X e c) (hs:swapsWith e (some (.Name x pos')) pos.line X.env=pure false):LS X (.Assign [.Name x pos'] e pos) (.set i c):=fun z I nb=>by
 refine wpAny_Assign_Name ?_ hs
 cases f:fresh c with
 | false=>
   refine (he false).gos .refl I rfl nb fun z1 d u y x0 I1 r e1=>bA (own:=false) x0 I1 hN hi hx r.rd fun s' a _ _ I' g'=>nxt (z1:={ z1 with t:=stV z1.t i d false,σ:=z1.σ.set i (some u),s:=s' }) g' I' ?_
   rw [e1];unfold ip;rw [f];rfl
 | true=>
   have nb1:X.ev false c z.t≠.bad:=fun q=>nb (show Out.go (X.ev false c z.t) _=_ by rw [q];rfl)
   refine wpAny_mono (hf f z I nb1) (fun u s' ⟨z1,d,q1,q2,y,I1,fv⟩=>?_) fun u s' h=>.of .refl h
   subst q1
   refine bA (own:=true) y.go I1 hN hi hx fv fun s' a _ _ I' g'=>nxt (z1:={ z1 with t:=stV z1.t i d true,σ:=z1.σ.set i (some u),s:=s' }) g' I' ?_
   show Out.go (X.ev false c z.t) _=_
   rw [q2]
   show ah.nx (ip z1.t i d (fresh c))=_
   unfold ip
   have ld:qC d=true:=by
    obtain ⟨_,_,_,_,t,_⟩:=fv
    cases d <;> first | rfl | cases t
   rw [f,ld];rfl
end
def ay:Expr→Bool
 | .Starred ..=>false
 | .Set ..=>false
 | .Slice ..=>false
 | _=>true
section
variable {X:Cx} {z z' z0 z1:Z}
theorem u0 {o:O} {hp:Hp} (q:ObR W ρ G hp (a,b) o) (e:∃ d:D,toO d=some o):∃ ob,hp a=some ob∧∀ vs,ob.data≠.fields vs:=by
 obtain ⟨d,e⟩:=e
 cases d <;> cases e
 ·obtain ⟨o,vs,_,q,⟨⟨n,rfl⟩,_⟩,_⟩:=q;exact ⟨_,q,nofun⟩
 ·obtain ⟨o,vs,_,_,q,⟨es,ep,_,w,_⟩,_⟩:=q;exact ⟨_,q,fun v z=>by rw [w] at z;cases z⟩
theorem Rep.ownw {s':Shared} {i:Nat} {d':D} {o':O} (I:Rep X z) (m:i∈z.t.ow) (ea:z.σ[i]? = some (some (.ref a))) (t:toO d'=some o') (sb:∀ b,b≠a→s'.heap.get? b=z.h b) (r:ObR X.W z.ρ z.G s'.heap.get? (a,a) o') (os:s'.os=z.s.os) (gs:s'.gens=z.s.gens) (tk:X.tz≤s'.toks:=by first | assumption | exact HR.tk (by assumption) | exact HR.tk1 (by assumption) | exact (Rep.toHR (by assumption)).tk | exact (Rep.toHR (by assumption)).tk1 | exact HR.tk2 (Rep.toHR (by assumption)) | exact HR.tk3 (Rep.toHR (by assumption))) :
 Rep X { z with t:=⟨z.t.env.set i (some d'),z.t.ow,z.t.st⟩,s:=s' }∧Go X z { z with t:=⟨z.t.env.set i (some d'),z.t.ow,z.t.st⟩,s:=s' }:=by
 obtain ⟨f,oa,ha⟩:=I.oth ⟨i,m,ea⟩
 have nM:∀ {b},Mu z.ρ b→b≠a:=fun h e=>f.2.1 (e ▸ h)
 have nG:∀ {b o},z.G b=some o→b≠a:=fun h e=>by rw [e,f.1] at h;cases h
 have nL:∀ {b},Lc X b→b≠a:=fun h e=>f.2.2.2 (e ▸ h)
 have nf:∀ {b},b∈frs X.fr→b≠a:=fun h e=>f.2.2.1 (e ▸ h)
 obtain ⟨on,hn,_⟩:=u0 r ⟨d',t⟩
 have hie:i<z.t.env.length:=by obtain ⟨d,_,_,e,_⟩:=I.eo i m;exact (List.getElem?_eq_some_iff.mp e).1
 have ck:∀ x c v,X.env.cells.lookup x=some c→z.s.heap.IsCell c v→s'.heap.IsCell c v:=fun x c v e ⟨o,q,d⟩=>⟨o,(sb c (nL (.inr ⟨x,e⟩))).trans q,d⟩
 have fu:s'.heap.FunFrames X.base X.fr:=by
  have:∀ {l:List Env},(∀ b∈frs l,b≠a)→z.s.heap.FunFrames X.base l→s'.heap.FunFrames X.base l:=fun {l}=>by
   induction l with
   | nil=>exact fun _ _=>trivial
   | cons v r ih=>
     intro hs ⟨k,⟨L,o,e1,e2,e3,e4⟩,q⟩
     have hm:L∈frs (v :: r):=by unfold frs;rw [List.filterMap_cons,e1];exact List.mem_cons_self
     exact ⟨k,⟨L,o,e1,e2,(sb L (hs L hm)).trans e3,e4⟩,ih (fun b hb=>hs b (by unfold frs;rw [List.filterMap_cons,e1];exact List.mem_cons_of_mem _ hb)) q⟩
  exact this (fun b h=>nf h) I.fu
 refine ⟨⟨⟨I.md,I.fm,I.hd,I.bs,fun b o e=>(sb b (nG e)).trans (I.gh b o e),I.rl,I.rn,I.rg,fun n o p h1 h2=>(I.ob n o p h1 h2).mono (List.prefix_refl _) (.refl _) fun b hb o e=>(sb b (nM ⟨p,List.mem_of_getElem? h2,hb⟩)).trans e,fu,I.ff,by show AllBare s'.gens;rw [gs];exact I.br,os.trans I.os,tk⟩,I.ok,?_,fun x c e=>let ⟨v,q⟩:=I.ce x c e;⟨v,ck x c v e q⟩,I.fl,by show (z.t.env.set i (some d')).length=_;rw [List.length_set];exact I.el,I.sl,fun j d n e=>?_,fun j mj=>?_,I.od⟩,⟨List.prefix_refl _,.refl _,fun _ _ e=>.inl e,fun _ m=>.inl m,fun b o e=>?_,fun b o e _ w _=>(sb b fun q=>w (.inl (q ▸ ⟨i,m,ea⟩))).trans e,fun b o e _ w _=>⟨o.slots,(sb b fun q=>w (.inl (q ▸ ⟨i,m,ea⟩))).trans e⟩⟩,fun b ⟨j,mj,e⟩=>.inl ⟨j,mj,e⟩⟩
 ·obtain ⟨mm,⟨oL,es,ep,q,r⟩,hl⟩:=I.lo
  exact ⟨mm,⟨oL,es,ep,(sb _ (nL (.inl rfl))).trans q,r⟩,fun j x w e1 e2 e3=>cL (fun c v e q=>ck x c v e q) (hl j x w e1 e2 e3)⟩
 ·have q:j≠i:=fun q=>n (q ▸ m)
  exact I.en j d n ((List.getElem?_set_ne (Ne.symm q)).symm.trans e)
 ·by_cases q:j=i
  ·subst q;exact ⟨d',a,o',List.getElem?_set_self hie,ea,t,r,f⟩
  ·obtain ⟨d,b,o,h1,h2,h3,r,f⟩:=I.eo j mj
   have nb:b≠a:=fun w=>q (I.od j i b mj m h2 (w ▸ ea))
   exact ⟨d,b,o,(List.getElem?_set_ne (Ne.symm q)).trans h1,h2,h3,r.mono (List.prefix_refl _) (.refl _) fun c hc o e=>(sb c (by rcases hc with rfl | rfl <;> exact nb)).trans e,f⟩
 ·by_cases q:b=a
  ·subst q;exact ⟨on,hn⟩
  ·exact ⟨o,(sb b q).trans e⟩
theorem Rep.stw {s':Shared} {n:Nat} {o':O} {p:Addr×Addr} {e:Addr} (I:Rep X z) (ep:z.ρ[n]? = some p) (he:e=p.1∨e=p.2) (sb:∀ b,b≠e→s'.heap.get? b=z.h b) (r:ObR X.W z.ρ z.G s'.heap.get? p o') (os:s'.os=z.s.os) (gs:s'.gens=z.s.gens) (tk:X.tz≤s'.toks:=by first | assumption | exact HR.tk (by assumption) | exact HR.tk1 (by assumption) | exact (Rep.toHR (by assumption)).tk | exact (Rep.toHR (by assumption)).tk1 | exact HR.tk2 (Rep.toHR (by assumption)) | exact HR.tk3 (Rep.toHR (by assumption))) :
 Rep X { z with t:=⟨z.t.env,z.t.ow,z.t.st.set n o'⟩,s:=s' }∧Go X z { z with t:=⟨z.t.env,z.t.ow,z.t.st.set n o'⟩,s:=s' }:=by
 have mu:Mu z.ρ e:=⟨p,List.mem_of_getElem? ep,he⟩
 have nG:∀ {b o},z.G b=some o→b≠e:=fun h q=>by rw [q,I.rg e mu] at h;cases h
 have nL:∀ {b},Lc X b→b≠e:=fun h q=>(I.fl _ h).2 (q ▸ mu)
 have nf:∀ {b},b∈frs X.fr→b≠e:=fun h q=>(I.ff _ h).2 (q ▸ mu)
 have nO:∀ {b},Own z b→b≠e:=fun h q=>(I.oth h).1.2.1 (q ▸ mu)
 have ck:∀ x c v,X.env.cells.lookup x=some c→z.s.heap.IsCell c v→s'.heap.IsCell c v:=fun x c v e ⟨o,q,d⟩=>⟨o,(sb c (nL (.inr ⟨x,e⟩))).trans q,d⟩
 have fu:s'.heap.FunFrames X.base X.fr:=by
  have:∀ {l:List Env},(∀ b∈frs l,b≠e)→z.s.heap.FunFrames X.base l→s'.heap.FunFrames X.base l:=fun {l}=>by
   induction l with
   | nil=>exact fun _ _=>trivial
   | cons v r ih=>
     intro hs ⟨k,⟨L,o,e1,e2,e3,e4⟩,q⟩
     have hm:L∈frs (v :: r):=by unfold frs;rw [List.filterMap_cons,e1];exact List.mem_cons_self
     exact ⟨k,⟨L,o,e1,e2,(sb L (hs L hm)).trans e3,e4⟩,ih (fun b hb=>hs b (by unfold frs;rw [List.filterMap_cons,e1];exact List.mem_cons_of_mem _ hb)) q⟩
  exact this (fun b h=>nf h) I.fu
 obtain ⟨⟨o1,h1⟩,⟨o2,h2⟩⟩:=r.th
 have hn:n<z.t.st.length:=by rw [← I.rl];exact (List.getElem?_eq_some_iff.mp ep).1
 refine ⟨⟨⟨I.md,I.fm,I.hd,I.bs,fun b o w=>(sb b (nG w)).trans (I.gh b o w),by show _=(z.t.st.set n o').length;rw [List.length_set];exact I.rl,I.rn,I.rg,fun k o q h1 h2=>?_,fu,I.ff,by show AllBare s'.gens;rw [gs];exact I.br,os.trans I.os,tk⟩,I.ok,?_,fun x c w=>let ⟨v,q⟩:=I.ce x c w;⟨v,ck x c v w q⟩,I.fl,I.el,I.sl,I.en,fun j mj=>?_,I.od⟩,⟨List.prefix_refl _,.refl _,fun _ _ w=>.inl w,fun _ m=>.inl m,fun b o w=>?_,fun b o w q _ _=>(sb b fun z=>q (z ▸ mu)).trans w,fun b o w q _ _=>⟨o.slots,(sb b fun z=>q (z ▸ mu)).trans w⟩⟩,fun b w=>.inl w⟩
 ·by_cases c:k=n
  ·subst c
   have h1:(z.t.st.set k o')[k]? = some o:=h1
   rw [List.getElem?_set_self hn] at h1;cases h1
   rw [show z.ρ[k]? = some q from h2] at ep;cases ep
   exact r
  ·exact (I.ob k o q ((List.getElem?_set_ne (Ne.symm c)).symm.trans h1) h2).mono (List.prefix_refl _) (.refl _) fun b hb o w=>(sb b fun w'=>c (I.rn k n q p b h2 ep hb (w' ▸ he))).trans w
 ·obtain ⟨mm,⟨oL,es,ep,q,r⟩,hl⟩:=I.lo
  exact ⟨mm,⟨oL,es,ep,(sb _ (nL (.inl rfl))).trans q,r⟩,fun j x w e1 e2 e3=>cL (fun c v e q=>ck x c v e q) (hl j x w e1 e2 e3)⟩
 ·obtain ⟨d,b,o,h1,h2,h3,r,f⟩:=I.eo j mj
  exact ⟨d,b,o,h1,h2,h3,r.mono (List.prefix_refl _) (.refl _) fun c hc o w=>(sb c (by rcases hc with rfl | rfl <;> exact nO ⟨j,mj,h2⟩)).trans w,f⟩
 ·by_cases q:b=e
  ·rcases he with w | w
   ·exact ⟨o1,by rw [q,w];exact h1⟩
   ·exact ⟨o2,by rw [q,w];exact h2⟩
  ·exact ⟨o,(sb b q).trans w⟩
structure M1 (X:Cx) (o:Expr) (m:Str) (apos:Pos) (e:Expr) (cpos:Pos):Prop where
 base:attributeBase o m X.env (eval o X.env)=eval o X.env
 few:((backTo cpos (starEach [e] X.env)).all (fun x=>!x.1) && (backToKw cpos (keywordEach [] X.env)).all (fun x=>x.1.isSome) && decide (([e]:List Expr).length+([]:List Keyword).length+(if ([]:List Keyword).isEmpty then 0 else 1)<30))=true
 line:(apos.endLine == cpos.line)=true
 trees:backTo cpos (starEach [e] X.env) = [(false,eval e X.env)]
theorem kR {i:Nat} (I:Rep X z) (m:i∈z.t.ow) (e:z.t.env[i]? = some (some (.lst l))):∃ a vs n,z.σ[i]? = some (some (.ref a))∧z.h a=some { cls:=.type "list",data:=.seq vs.toArray n }∧RDs X.W z.ρ z.G l vs:=by
 obtain ⟨d,a,o,h1,h2,h3,r,f⟩:=I.eo i m
 rw [e] at h1;cases h1;cases h3
 obtain ⟨o,vs,_,q,⟨⟨n,rfl⟩,_⟩,r⟩:=r
 exact ⟨a,vs,n,h2,q,r⟩
theorem cW {z:Z} {vs ws:List Value} {f:Array Value→Array Value} (e:z.h a=some { cls:=.type "list",data:=.seq vs.toArray n }) (hf:f vs.toArray=ws.toArray) (hz:ws.length≤sizeLine):(∃ o,(z.s.heap.update a (Obj.mapSeq f)).get? a=some o∧LsO o ws)∧∀ b,b≠a→(z.s.heap.update a (Obj.mapSeq f)).get? b=z.h b:=
 ⟨⟨_,Heap.get?_update_self _ e rfl,⟨_,by simp only [Obj.mapSeq,hf];rfl⟩,hz⟩,fun b n=>Heap.get?_update_other _ _ (Ne.symm n)⟩
theorem uH {i:Nat} {x:Str} (hN:X.N[i]? = some x) (hv:Vis X.env.scope x) (hd:(x == ("__debug__":Str))=false) (hcd:(x == ("__classdict__":Str))=false) (he:LE X e c) (m:M1 X (.Name x p) "append" apos e cpos):LS X (.Expr (.Call (.Attribute (.Name x p) "append" apos) [e] [] cpos) pos) (.app i c):=fun z I nb=>by
 have e0:X.ex (.app i c) z.t=(if z.t.ow.contains i && isLst z.t.env[i]? then (X.ev false c z.t).go fun d s=>if s.ow.contains i then (match s.env[i]? with
  | some (some (.lst l))=>if l.length<100000 then .nx ⟨s.env.set i (some (.lst (l ++ [d]))),s.ow,s.st⟩ else .bad
  | _=>.bad) else .bad else .bad):=rfl
 by_cases c0:(z.t.ow.contains i && isLst z.t.env[i]?)=true
 ·rw [if_pos c0] at e0
  rw [Bool.and_eq_true] at c0
  have mi:i∈z.t.ow:=by simpa using c0.1
  obtain ⟨l,el⟩:∃ l,z.t.env[i]? = some (some (.lst l)):=by
   have:=c0.2
   unfold isLst at this
   split at this
   ·rename_i l q;exact ⟨l,q⟩
   ·cases this
  obtain ⟨a,vs,n,es,ha,r⟩:=kR I mi el
  refine wpAny_Expr_any (wpAny_Call_method m.base m.few m.line PySem.F.plainAttrs_list PySem.F.slot_list_append PySem.F.type_list_append (cu I hN hv es ⟨⟨_,ha,rfl⟩,fun b q=>(by cases q;exact ⟨_,ha,rfl⟩),?_⟩ hd hcd)) I.quiet rfl
  rw [m.trees]
  refine Calls.callWith_builtin rfl (Calls.evalArgs_plain (Calls.spliced_cons ((he false).gos .refl I e0 nb fun z1 d u y x1 I1 r1 e1=>Calls.spliced_nil ?_)))
  by_cases c1:z1.t.ow.contains i=true
  ·rw [if_pos c1] at e1
   have m1:i∈z1.t.ow:=by simpa using c1
   have el1:z1.t.env[i]? = some (some (.lst l)):=by rw [y.en];exact el
   rw [el1] at e1
   dsimp only at e1
   obtain ⟨a',vs,n,es',ha,r⟩:=kR I1 m1 el1
   rw [y.sg,es] at es';cases es'
   by_cases c2:l.length<100000
   ·rw [if_pos c2] at e1
    have hz:vs.length<100000:=by rw [← r.len];exact c2
    refine call_meets PySem.F.slot_list_append ⟨_,ha,rfl⟩ PySem.F.entry_list_append (PySem.F.args_list_append_2 _ _) (PySem.list_append a vs.toArray n u (by rw [List.size_toArray];exact Nat.le_of_lt (Nat.lt_of_lt_of_le hz (big (Nat.le_refl _))))) ⟨ha,?_⟩
    obtain ⟨⟨o1,u1,u3⟩,u2⟩:=cW (f:=(·.push u)) (ws:=vs ++ [u]) ha (by simp) (by rw [List.length_append];exact big (by simp;omega))
    obtain ⟨I2,g2⟩:=I1.ownw (s':={ z1.s with heap:=z1.s.heap.update a (Obj.mapSeq (·.push u)) }) (d':=.lst (l ++ [d])) m1 (by rw [y.sg];exact es) rfl u2 ⟨o1,vs ++ [u],rfl,u1,u3,r.app (.cons r1.rd rfl)⟩ rfl rfl
    exact nxt (x1.trans g2) I2 e1
   ·rw [if_neg c2] at e1;exact absurd e1 nb
  ·rw [if_neg c1] at e1;exact absurd e1 nb
 ·rw [if_neg c0] at e0;exact absurd e0 nb
theorem kW:∀ {ks} {ds} {vs} {k} {d} {v},ks.length=ds.length→RDs W ρ G ds vs→RD W ρ G d v→∃ us,RDs W ρ G (i6 ks ds k d) us∧(ks.zip vs).map (fun kv=>if kv.1=k then (kv.1,v) else kv)=ks.zip us
 | [],[],vs,k,d,v,_,h,_=>⟨vs,h,rfl⟩
 | [],_ :: _,_,_,_,_,l,_,_=>by cases l
 | _ :: _,[],_,_,_,_,l,_,_=>by cases l
 | q :: ks,e :: ds,vs,k,d,v,l,⟨u,r,ev,h1,h2⟩,rd=>by
   subst ev
   obtain ⟨us,h3,h4⟩:=kW (k:=k) (Nat.succ.inj l) h2 rd
   by_cases c:q=k
   ·refine ⟨v :: us,⟨v,us,rfl,by rw [if_pos c];exact rd,h3⟩,?_⟩
    show (if q=k then (q,v) else (q,u)) :: (ks.zip r).map _=(q,v) :: ks.zip us
    rw [if_pos c,h4]
   ·refine ⟨u :: us,⟨u,us,rfl,by rw [if_neg c];exact h1,h3⟩,?_⟩
    show (if q=k then (q,v) else (q,u)) :: (ks.zip r).map _=(q,u) :: ks.zip us
    rw [if_neg c,h4]
theorem ey:∀ {ks} {ds} {k} {d},(i6 ks ds k d).length=ds.length
 | [],_,_,_=>by unfold i6;rfl
 | _ :: _,[],_,_=>by unfold i6;rfl
 | _ :: ks,_ :: ds,k,d=>by show (i6 ks ds k d).length+1=ds.length+1;rw [ey]
theorem fT:∀ {ks:List Key} {vs:List Value} {k:Key},ks.length=vs.length→((ks.zip vs).any fun kv=>decide (kv.1=k))=ks.any fun q=>decide (q=k)
 | [],_,_,_=>rfl
 | _ :: _,[],_,l=>by cases l
 | q :: ks,v :: vs,k,l=>by
   show (decide (q=k) || (ks.zip vs).any _)=(decide (q=k) || ks.any _)
   rw [fT (Nat.succ.inj l)]
theorem lZ (l:ks.length=ds.length) (r:RDs W ρ G ds vs) (rd:RD W ρ G d v):∃ us,stored (ks.zip vs) k v=(cF ks ds k d).1.zip us∧(cF ks ds k d).1.length=(cF ks ds k d).2.length∧RDs W ρ G (cF ks ds k d).2 us∧(cF ks ds k d).1.length≤ks.length+1:=by
 have lv:ks.length=vs.length:=l.trans r.len
 unfold stored cF
 rw [fT lv]
 split
 ·obtain ⟨us,h1,h2⟩:=kW (k:=k) l r rd
  exact ⟨us,h2,by show ks.length=(i6 ks ds k d).length;rw [ey,l],h1,Nat.le_succ _⟩
 ·exact ⟨vs ++ [v],by rw [List.zip_append lv];rfl,by simp [l],r.app (.cons rd rfl),by simp⟩
theorem ve {A:Around} {E:Value→Shared→Prop} {Q:Unit→Shared→Prop} {x y k d:D} {o:O} {kv v:Value} (t:toO x=some o) (r:ObR X.W z.ρ z.G z.h (a,b) o) (rk:CR X.W z k kv) (rd:RD X.W z.ρ z.G d v) (e:i4 x k d=some y)
 (h:∀ s' o',toO y=some o'→(∀ b,b≠a→s'.heap.get? b=z.h b)→ObR X.W z.ρ z.G s'.heap.get? (a,b) o'→s'.os=z.s.os→s'.gens=z.s.gens→Q () s'):wpAny X.M A (setItem (.ref a) kv v) Q E z.s:=by
 cases x <;> cases t
 ·rename_i l
  obtain ⟨o,vs,hb,ho,⟨⟨n,rfl⟩,hz⟩,r⟩:=r
  cases k with
  | int i=>
    obtain ⟨tk,rfl⟩:=(rk:RD X.W z.ρ z.G (.int i) kv)
    obtain ⟨l',e1,rfl⟩:=Option.map_eq_some_iff.mp (show (o8 l i d).map D.lst=some y from e)
    obtain ⟨j,e2,rfl⟩:=Option.map_eq_some_iff.mp (show (ixN l.length i).map (fun j=>l.set j d)=some l' from e1)
    obtain ⟨h1,h2,h3,h4⟩:=kC e2
    have hl:=r.len
    have hn:=eW
    obtain ⟨⟨o1,u1,u3⟩,u2⟩:=cW (z:=z) (f:=(·.setIfInBounds j v)) (ws:=vs.set j v) ho (by simp) (by rw [List.length_set];exact hz)
    have q:Q () { z.s with heap:=z.s.heap.update a (Obj.mapSeq (·.setIfInBounds j v)) }:=h _ _ rfl u2 ⟨o1,_,hb,u1,u3,r.set j rd⟩ rfl rfl
    by_cases h0:0≤i
    ·have hk:i.toNat=j:=by rw [seqIndex_of h0 h4] at h1;exact Option.some.inj h1
     exact PySem.W.ki_setAt ho h0 (by omega) (by rw [List.size_toArray,← hl];exact h4) (by rw [hk];exact q)
    ·have hk:(i+(vs.toArray.size:Int)).toNat=j:=by
      rw [seqIndex_neg (by omega) h3] at h1
      rw [List.size_toArray,← hl]
      exact Option.some.inj h1
     exact PySem.W.ki_setBack ho (by omega) (by rw [List.size_toArray,← hl];exact h3) (by omega) (by rw [hk];exact q)
  | _=>cases e
 ·rename_i ks ds
  obtain ⟨o,vs,hb,hs,ho,dc,hl,r⟩:=r
  obtain ⟨kk,e1,e2⟩:=Option.bind_eq_some_iff.mp (show ((bF k).bind fun k=>if ks.length<100000 then some (D.dic (cF ks ds k d).1 (cF ks ds k d).2) else none)=some y from e)
  by_cases c:ks.length<100000
  ·rw [if_pos c] at e2
   cases e2
   obtain ⟨us,h3,h4,h5,h6⟩:=lZ (k:=kk) hl r rd
   refine wpAny_setItem_pairs (hsz:=by obtain ⟨_,_,_,_,_,_,_,w⟩:=dc;exact w) (hJ e1 rk) (dc.of ho) fun h' dd hs'=>?_
   rw [h3] at dd
   obtain ⟨o1,es,ep,w1,w2,w3,w4,w5,w6⟩:=dd
   exact h _ _ rfl hs'.2 ⟨o1,us,hb,hs,w1,⟨es,ep,w2,w3,w4,w5,w6,by rw [List.length_zip];exact big (by omega)⟩,h4,h5⟩ rfl rfl
  ·rw [if_neg c] at e2;cases e2
theorem kT {A:Around} {E:Value→Shared→Prop} {Q:Unit→Shared→Prop} {x y k d:D} {o:O} {kv v:Value} (tk:X.tz≤z.s.toks) (t:toO x=some o) (r:ObR X.W z.ρ z.G z.h (a,b) o) (rk:CR X.W z k kv) (rd:RD X.W z.ρ z.G d v) (e:i4 x k d=some y)
 (h:∀ s' o',toO y=some o'→(∀ b,b≠a→s'.heap.get? b=z.h b)→ObR X.W z.ρ z.G s'.heap.get? (a,b) o'→s'.os=z.s.os→s'.gens=z.s.gens→X.tz≤s'.toks→Q () s'):wpAny X.M A (setItem (.ref a) kv v) Q E z.s:=
 wpAny_mono (wpAny_toks_of tk (ve (E:=E) (Q:=fun _ s'=>∃ o',toO y=some o'∧(∀ b,b≠a→s'.heap.get? b=z.h b)∧ObR X.W z.ρ z.G s'.heap.get? (a,b) o'∧s'.os=z.s.os∧s'.gens=z.s.gens) t r rk rd e fun s' o' a1 a2 a3 a4 a5=>⟨o',a1,a2,a3,a4,a5⟩)) (fun _ s' ⟨tk,o',a1,a2,a3,a4,a5⟩=>h s' o' a1 a2 a3 a4 a5 tk) fun _ _ w=>w.2
theorem vd {o o':O} (e:fP o k d=some o'):∃ x y,toO x=some o∧i4 x k d=some y∧toO y=some o':=by
 cases o with
 | lst l=>
   cases k with
   | int i=>obtain ⟨l',e1,rfl⟩:=Option.map_eq_some_iff.mp (show (o8 l i d).map O.lst=some o' from e);exact ⟨.lst l,.lst l',rfl,by show (o8 l i d).map D.lst=_;rw [e1];rfl,rfl⟩
   | _=>cases e
 | dic ks ds=>
   obtain ⟨kk,e1,e2⟩:=Option.bind_eq_some_iff.mp (show ((bF k).bind fun k=>if ks.length<100000 then some (O.dic (cF ks ds k d).1 (cF ks ds k d).2) else none)=some o' from e)
   by_cases c:ks.length<100000
   ·rw [if_pos c] at e2;cases e2
    exact ⟨.dic ks ds,.dic (cF ks ds kk d).1 (cF ks ds kk d).2,rfl,by show ((bF k).bind fun k=>if ks.length<100000 then some (D.dic (cF ks ds k d).1 (cF ks ds k d).2) else none)=_;rw [e1];exact if_pos c,rfl⟩
   ·rw [if_neg c] at e2;cases e2
 | ins _ _=>cases e
theorem lB (h:ay i=true):∀ v,assign (o.Subscript i pos) env v=(do
 let ov ← holding [v] (eval o env)
 let iv ← holding [v,ov] (eval i env)
 standAt pos
 holding [v,ov,iv] (setItem ov iv v)
 release [v,ov,iv] []):=by
 cases i <;> first | (intro v;rfl) | cases h
theorem oN :swapsWithSole [.Subscript o i p] e l env=pure false:=by
 cases e <;> rfl
theorem jT :swappedStores [.Subscript o i p] e env=pure none:=by
 cases e <;> rfl
theorem kc {K:Value→Shared→Prop} {E:Value→Shared→Prop} {Q:Flow→Shared→Prop} {s:Shared} (hn:ay eb=true) (h:wpAny X.M X.A (eval ee X.env) K E s) (k:∀ v s',K v s'→wpAny X.M X.A (eval eo X.env) (fun ov s2=>wpAny X.M X.A (eval eb X.env) (fun iv s3=>wpAny X.M X.A (setItem ov iv v) (fun _ s4=>Q .next s4) E s3) E s2) E s'):wpAny X.M X.A (exec (.Assign [.Subscript eo eb p2] ee pos) X.env) Q E s:=by
 refine wpAny_Assign_stores (thn h fun v s1 q=>?_) oN jT
 show wpAny _ _ (assign (eo.Subscript eb p2) X.env v) _ _ _
 rw [lB hn]
 exact wpAny_bind (wpAny_holding (thn (k v s1 q) fun ov s2 q=>wpAny_bind (wpAny_holding (thn q fun iv s3 q=>wpAny_bind (wpAny_standAt (wpAny_bind (wpAny_holding (thn q fun _ s4 q=>wpAny_release q))))))))
theorem oX {n:Nat} {kv v:Value} {p:Addr×Addr} {E:Value→Shared→Prop} {o:ah} (x:Go X z0 z) (I:Rep X z) (ep:z.ρ[n]? = some p) (rk:CR X.W z k kv) (rd:RD X.W z.ρ z.G d v) (e:o=(match (z.t.st[n]?).bind fun o=>fP o k d with | some o=>.nx ⟨z.t.env,z.t.ow,z.t.st.set n o⟩ | none=>.bad)) (nb:o≠.bad):wpAny X.M X.A (setItem (.ref p.1) kv v) (fun _ s4=>Ps X z0 o .next s4) E z.s:=by
 cases q:(z.t.st[n]?).bind fun o=>fP o k d with
 | none=>rw [q] at e;exact absurd e nb
 | some o'=>
   rw [q] at e
   obtain ⟨ob,q1,q2⟩:=Option.bind_eq_some_iff.mp q
   obtain ⟨x1,y1,t1,t2,t3⟩:=vd q2
   have r:=I.ob n ob p q1 ep
   have hp:p=(p.1,p.2):=rfl
   refine kT I.tk t1 (hp ▸ r) rk rd t2 fun s' o1 t4 sb r' os gs tk=>?_
   rw [t3] at t4;cases t4
   obtain ⟨I2,g2⟩:=I.stw ep (.inl rfl) sb r' os gs tk
   exact nxt (z1:={ z with t:=⟨z.t.env,z.t.ow,z.t.st.set n o'⟩,s:=s' }) (x.trans g2) I2 e
theorem rm {i:Nat} {x:Str} (hN:X.N[i]? = some x) (hv:Vis X.env.scope x) (hd:(x == ("__debug__":Str))=false) (hcd:(x == ("__classdict__":Str))=false) (hn:ay eb=true) (hb:LE X eb b) (he:LE X ee e):LS X (.Assign [.Subscript (.Name x p) eb p2] ee pos) (.put (.v i) b e):=fun z I nb=>by
 refine kc hn ((he false).gos (K:=fun v s'=>∃ z1 d,z1.s=s'∧Go X z z1∧Rep X z1∧RD X.W z1.ρ z1.G d v∧X.ex (.put (.v i) b e) z.t=(match z1.t.env[i]? with
  | some (some x)=>(X.ev true b z1.t).go fun k s=>(match x with
    | .ref n=>(match (s.st[n]?).bind fun o=>fP o k d with | some o=>.nx ⟨s.env,s.ow,s.st.set n o⟩ | none=>.bad)
    | x=>if s.ow.contains i then (match i4 x k d with | some y=>.nx ⟨s.env.set i (some y),s.ow,s.st⟩ | none=>.bad) else .bad)
  | _=>.bad)) .refl I rfl nb fun z1 d u y x1 I1 r1 e1=>⟨z1,d,rfl,x1,I1,r1.rd,e1⟩) fun v s' ⟨z1,d,q,x1,I1,r1,e1⟩=>?_
 subst q
 cases q:z1.t.env[i]? with
 | none=>rw [q] at e1;exact absurd e1 nb
 | some o0=>
   cases o0 with
   | none=>rw [q] at e1;exact absurd e1 nb
   | some x0=>
     rw [q] at e1
     obtain ⟨u,hu,_⟩:=I1.slot q
     refine cu I1 hN hv hu ((hb true).gos x1 I1 e1 nb fun z2 kd kv y2 x2 I2 r2 e2=>?_) hd hcd
     have q2:z2.t.env[i]? = some (some x0):=by rw [y2.en];exact q
     have hu2:z2.σ[i]? = some (some u):=by rw [y2.sg];exact hu
     have own:∀ x1:D,x0=x1→X.ex (.put (.v i) b e) z.t=(if z2.t.ow.contains i then (match i4 x1 kd d with | some y=>.nx ⟨z2.t.env.set i (some y),z2.t.ow,z2.t.st⟩ | none=>.bad) else .bad)→wpAny X.M X.A (setItem u kv v) (fun _ s4=>Ps X z (X.ex (.put (.v i) b e) z.t) .next s4) (PxS X z (X.ex (.put (.v i) b e) z.t)) z2.s:=fun x1 ex e3=>by
      subst ex
      by_cases c:z2.t.ow.contains i=true
      ·rw [if_pos c] at e3
       have m2:i∈z2.t.ow:=by simpa using c
       obtain ⟨d0,a,o,h1,h2,h3,r,f⟩:=I2.eo i m2
       rw [q2] at h1;cases h1
       rw [hu2] at h2;cases h2
       cases q3:i4 x0 kd d with
       | none=>rw [q3] at e3;exact absurd e3 nb
       | some y=>
         rw [q3] at e3
         refine kT I2.tk h3 r (r2.rb.cr0 I2) (r1.st y2.st) q3 fun s' o' t sb r' os gs tk=>?_
         obtain ⟨I3,g3⟩:=I2.ownw (s':=s') m2 hu2 t sb r' os gs tk
         exact nxt (z1:={ z2 with t:=⟨z2.t.env.set i (some y),z2.t.ow,z2.t.st⟩,s:=s' }) (x2.trans g3) I3 e3
      ·rw [if_neg c] at e3;exact absurd e3 nb
     cases x0 with
     | ref n=>
       have nm:i ∉ z2.t.ow:=fun m=>by
        obtain ⟨d0,a,o,h1,h2,h3,_⟩:=I2.eo i m
        rw [q2] at h1;cases h1;cases h3
       obtain ⟨u',hu',p,ep,rfl⟩:=I2.en i _ nm q2
       rw [hu2] at hu';cases hu'
       exact oX x2 I2 ep (r2.rb.cr0 I2) (r1.st y2.st) e2 nb
     | _=>exact own _ rfl e2
end
section
variable {X:Cx} {z z' z0 z1:Z} {an:Nat→Str}
theorem Rep.snoc {s':Shared} {p:Addr×Addr} {o:O} (I:Rep X z) (g:Gr z.s s') (hp:z.h p.1=none∧z.h p.2=none) (r:ObR X.W (z.ρ ++ [p]) z.G s'.heap.get? p o) (tk:X.tz≤s'.toks:=by first | assumption | exact HR.tk (by assumption) | exact HR.tk1 (by assumption) | exact (Rep.toHR (by assumption)).tk | exact (Rep.toHR (by assumption)).tk1 | exact HR.tk2 (Rep.toHR (by assumption)) | exact HR.tk3 (Rep.toHR (by assumption))):Rep X { z with ρ:=z.ρ ++ [p],t:=⟨z.t.env,z.t.ow,z.t.st ++ [o]⟩,s:=s' }∧Ee X z { z with ρ:=z.ρ ++ [p],t:=⟨z.t.env,z.t.ow,z.t.st ++ [o]⟩,s:=s' }:=by
 obtain ⟨H,S⟩:=HR.snoc (w:=Own z) I.toHR g hp r tk
 have pre:z.ρ <+: z.ρ ++ [p]:=List.prefix_append _ _
 have nm:∀ {a},(∃ o,z.h a=some o)→¬ Mu z.ρ a→¬ Mu (z.ρ ++ [p]) a:=fun ⟨o,e⟩ n w=>(dk.mp w).elim n fun w=>by
  rcases w with w | w
  ·rw [w,hp.1] at e;cases e
  ·rw [w,hp.2] at e;cases e
 have sl:∀ b o,z.s.heap.get? b=some o→∃ sl,s'.heap.get? b=some { o with slots:=sl }:=fun b o e=>⟨o.slots,g.k b o e⟩
 refine ⟨⟨H,I.ok,?_,fun x c e=>let ⟨v,q⟩:=I.ce x c e;⟨v,ef sl q⟩,fun a l=>⟨(I.fl a l).1,nm (I.lth l) (I.fl a l).2⟩,I.el,I.sl,fun i d n e=>let ⟨u,q,r⟩:=I.en i d n e;⟨u,q,r.mono pre (.refl _)⟩,fun i m=>?_,I.od⟩,S,rfl,rfl,fun _ h=>h⟩
 ·obtain ⟨m,hn,hl⟩:=I.lo
  exact ⟨m,sV sl hn,fun i x u h1 h2 h3=>cL (fun c v _ q=>ef sl q) (hl i x u h1 h2 h3)⟩
 ·obtain ⟨d,a,o,h1,h2,h3,r,f⟩:=I.eo i m
  exact ⟨d,a,o,h1,h2,h3,r.mono pre (.refl _) fun b _ o e=>g.k b o e,f.1,nm r.th.1 f.2.1,f.2.2⟩
theorem jR (I:HR X z):(z.ρ ++ [p])[z.t.st.length]? = some p:=by rw [List.getElem?_append_right (by rw [I.rl];exact Nat.le_refl _),I.rl,Nat.sub_self];rfl
theorem lj {y:Value}:∀ {nm:List Str} {vs:List Value} {j:Nat},nm.Nodup→nm[j]? = some f→j<vs.length→∀ g,(nm.zip (vs.set j y)).lookup g=if g=f then some y else (nm.zip vs).lookup g
 | [],_,_,_,h,_,_=>by simp at h
 | _ :: _,[],_,_,_,h,_=>by simp at h
 | n :: nm,v :: vs,0,nd,h,_,g=>by
   have e:n=f:=by simpa using h
   subst e
   show (match g == n with | true=>some y | false=>(nm.zip vs).lookup g)=if g=n then some y else (match g == n with | true=>some v | false=>(nm.zip vs).lookup g)
   by_cases c:g=n
   ·rw [if_pos c,beq_iff_eq.mpr c]
   ·rw [if_neg c,beq_eq_false_iff_ne.mpr c]
 | n :: nm,v :: vs,j+1,nd,h,hl,g=>by
   have h':nm[j]? = some f:=by simpa using h
   have ne:n≠f:=fun z=>by subst z;exact (List.nodup_cons.mp nd).1 (List.mem_of_getElem? h')
   have ih:=lj (y:=y) (List.nodup_cons.mp nd).2 h' (by simpa using hl) g
   show (match g == n with | true=>some v | false=>(nm.zip (vs.set j y)).lookup g)=if g=f then some y else (match g == n with | true=>some v | false=>(nm.zip vs).lookup g)
   by_cases c:g=n
   ·rw [if_neg fun w=>ne (c ▸ w),beq_iff_eq.mpr c]
   ·rw [beq_eq_false_iff_ne.mpr c];exact ih
theorem jm {y:Value}:∀ {nm:List Str} {vs:List Value},nm.Nodup→nm[vs.length]? = some f→∀ g,(nm.zip (vs ++ [y])).lookup g=if g=f then some y else (nm.zip vs).lookup g
 | [],_,_,h,_=>by simp at h
 | n :: nm,[],nd,h,g=>by
   have e:n=f:=by simpa using h
   subst e
   rw [List.nil_append,List.zip_cons_cons,List.zip_nil_right,List.zip_nil_right]
   show (match g == n with | true=>some y | false=>none)=if g=n then some y else none
   by_cases c:g=n
   ·rw [if_pos c,beq_iff_eq.mpr c]
   ·rw [if_neg c,beq_eq_false_iff_ne.mpr c]
 | n :: nm,v :: vs,nd,h,g=>by
   have h':nm[vs.length]? = some f:=by simpa using h
   have ne:n≠f:=fun z=>by subst z;exact (List.nodup_cons.mp nd).1 (List.mem_of_getElem? h')
   have ih:=jm (y:=y) (List.nodup_cons.mp nd).2 h' g
   show (match g == n with | true=>some v | false=>(nm.zip (vs ++ [y])).lookup g)=if g=f then some y else (match g == n with | true=>some v | false=>(nm.zip vs).lookup g)
   by_cases c:g=n
   ·rw [if_neg fun w=>ne (c ▸ w),beq_iff_eq.mpr c]
   ·rw [beq_eq_false_iff_ne.mpr c];exact ih
theorem rO (h:dG Γ (.ins c l) f d=some o):∃ k,Γ.cl[c]? = some k∧k.at_.length<1000∧((k.at_.idxOf f<l.length∧o = .ins c (l.set (k.at_.idxOf f) d))∨(k.at_.idxOf f=l.length∧k.at_.idxOf f<k.at_.length∧o = .ins c (l ++ [d]))):=by
 have h:((Γ.cl[c]?).bind fun k=>if k.at_.length<1000 then (if k.at_.idxOf f<l.length then some (O.ins c (l.set (k.at_.idxOf f) d)) else if k.at_.idxOf f=l.length∧k.at_.idxOf f<k.at_.length then some (.ins c (l ++ [d])) else none) else none)=some o:=h
 obtain ⟨k,hk,h⟩:=Option.bind_eq_some_iff.mp h
 refine ⟨k,hk,?_⟩
 by_cases z0:k.at_.length<1000
 ·rw [if_pos z0] at h
  refine ⟨z0,?_⟩
  by_cases z:k.at_.idxOf f<l.length
  ·rw [if_pos z] at h;cases h;exact .inl ⟨z,rfl⟩
  ·rw [if_neg z] at h
   by_cases z2:k.at_.idxOf f=l.length∧k.at_.idxOf f<k.at_.length
   ·rw [if_pos z2] at h;cases h;exact .inr ⟨z2.1,z2.2,rfl⟩
   ·rw [if_neg z2] at h;cases h
 ·rw [if_neg z0] at h;cases h
theorem vi (T:bt X an) (I:Rep X z) {n f:Nat} {p:Addr×Addr} {d:D} {v:Value} {o o':O} {A:Around} {Q:Unit→Shared→Prop} {E:Value→Shared→Prop} (ep:z.ρ[n]? = some p) (rd:RD X.W z.ρ z.G d v) (q:z.t.st[n]? = some o) (e:dG X.Γ o f d=some o')
 (h:∀ s',Rep X { z with t:=⟨z.t.env,z.t.ow,z.t.st.set n o'⟩,s:=s' }→Go X z { z with t:=⟨z.t.env,z.t.ow,z.t.st.set n o'⟩,s:=s' }→Q () s'):wpAny X.M A (setAttr (.ref p.1) (an f) v) Q E z.s:=by
 have ob:=I.ob n o p q ep
 cases o with
 | ins c l=>
   obtain ⟨k,hk,h1000,alt⟩:=rO e
   obtain ⟨i',vs,w1,w2,w3,w4,w5⟩:=ob
   obtain ⟨i,C⟩:=T c k hk
   rw [C.ci] at w1
   have ii:i=i':=Option.some.inj w1
   subst ii
   have lnm:i.nm.length=k.at_.length:=by rw [C.nm,List.length_map]
   have wz:k.what≠2:=by have:=C.wh;rw [w2] at this;have e:=Option.some.inj this;omega
   have lv:=w5.len
   have hj:k.at_.idxOf f<k.at_.length:=by
    rcases alt with ⟨z,_⟩ | ⟨_,z,_⟩
    ·omega
    ·exact z
   have hn:i.nm[k.at_.idxOf f]? = some (an f):=by rw [C.nm,List.getElem?_map,List.getElem?_eq_getElem hj];simp
   have cl:=C.cls wz
   have na:=C.na _ (List.mem_of_getElem? hn)
   refine rQ (ns:=i.nm) I.toHR.kin (InO.objm w4) cl.sa cl.po na.taker cl.hd (fun y hy=>?_) (by rw [lnm];exact Nat.le_trans (Nat.le_of_lt h1000) (big (by omega))) fun h' om sb=>?_
   ·cases qq:(i.nm.zip vs).lookup y with
    | none=>exact absurd qq hy
    | some u=>
      obtain ⟨l1,l2,e1,_⟩:=List.lookup_eq_some_iff.mp qq
      exact (List.of_mem_zip (show (y,u)∈i.nm.zip vs by rw [e1];simp)).1
   ·have done:∀ vs' l',o' = .ins c l'→RDs X.W z.ρ z.G l' vs'→l'.length≤i.nm.length→(∀ g,(i.nm.zip vs').lookup g=if g=an f then some v else (i.nm.zip vs).lookup g)→Q () { z.s with heap:=h',toks:=z.s.toks+2 }:=fun vs' l' eo r hl lk=>by
     subst eo
     obtain ⟨od,es,ep',e1,e2,e3,e4,e5⟩:=om.ns
     obtain ⟨I2,g2⟩:=I.stw (s':={ z.s with heap:=h',toks:=z.s.toks+2 }) (o':=.ins c l') ep (.inr rfl) (fun b hb=>sb.2 b hb) ⟨i,vs',C.ci,w2,hl,⟨om.obj,om.ne,by rw [List.length_zip];omega,od,e1,es,ep',e2,e3,e4,fun nn=>(e5 nn).trans (lk nn).symm⟩,r⟩ rfl rfl
     exact h _ I2 g2
    rcases alt with ⟨z,eo⟩ | ⟨z,_,eo⟩
    ·exact done _ _ eo (w5.set _ rd) (by rw [List.length_set];exact w3) (lj C.nd hn (by omega))
    ·exact done _ _ eo (w5.app (.cons rd rfl)) (by rw [List.length_append];simp;omega) (jm C.nd (by rw [← lv,← z];exact hn))
 | _=>cases e
theorem iq (T:bt X an) (x:Go X z0 z) (I:Rep X z) {n f:Nat} {p:Addr×Addr} {d:D} {v:Value} {A:Around} {E:Value→Shared→Prop} {o:ah} (ep:z.ρ[n]? = some p) (rd:RD X.W z.ρ z.G d v) (e:o=(match (z.t.st[n]?).bind fun o=>dG X.Γ o f d with | some o=>.nx ⟨z.t.env,z.t.ow,z.t.st.set n o⟩ | none=>.bad)) (nb:o≠.bad):wpAny X.M A (setAttr (.ref p.1) (an f) v) (fun _ s'=>Ps X z0 o .next s') E z.s:=by
 cases q:(z.t.st[n]?).bind fun o=>dG X.Γ o f d with
 | none=>rw [q] at e;exact absurd e nb
 | some o'=>
   rw [q] at e
   obtain ⟨ob,q1,q2⟩:=Option.bind_eq_some_iff.mp q
   exact vi T I ep rd q1 q2 fun s' I2 g2=>nxt (z1:={ z with t:=⟨z.t.env,z.t.ow,z.t.st.set n o'⟩,s:=s' }) (x.trans g2) I2 e
def jX:E→Bool
 | .lst .nil=>false
 | .dic .nil=>false
 | _=>true
theorem gq (h:jX e=true):X.ex (.fld a f e) s=(X.ev false e s).go fun d s=>(X.ev true a s).go fun x s=>(match x with
        | .ref n=>(match (s.st[n]?).bind fun o=>dG X.Γ o f d with | some o=>.nx ⟨s.env,s.ow,s.st.set n o⟩ | none=>.bad)
        | _=>.bad):=by
 cases e with
 | lst es=>cases es <;> first | rfl | cases h
 | dic es=>cases es <;> first | rfl | cases h
 | _=>rfl
theorem fg :swapsWith e (some (.Attribute o x p)) l env=pure false:=by
 cases e <;> rfl
theorem dP (I:Rep X z) (h:RB X.W z (.ref n) u):∃ p,z.ρ[n]? = some p∧u = .ref p.1:=h.cr0 I
theorem uK (T:bt X an) (hp:jX e=true) (ho:LE X eo a) (he:LE X ee e):LS X (.Assign [.Attribute eo (an f) p] ee pos) (.fld a f e):=fun z I nb=>plainObj_wpAny_Assign_Attribute ((he false).gos .refl I (gq hp) nb fun z1 d v y1 x1 I1 r1 e1=>(ho true).gos x1 I1 e1 nb fun z2 x u y2 x2 I2 r2 e2=>by
 cases x with
 | ref n=>
   obtain ⟨p,ep,rfl⟩:=dP I2 r2.rb
   exact iq T x2 I2 ep (r1.rd.st y2.st) e2 nb
 | _=>exact absurd e2 nb) fg
theorem kQ (T:bt X an) {o:ah} {o0:O} {s':Shared} {a:Addr} {i:Nat} {x:Str} (I:Rep X z) (g:Gr z.s s') (ha:z.h a=none) (r:∀ ρ,ObR X.W ρ z.G s'.heap.get? (a,a) o0) (hN:X.N[i]? = some x) (hv:Vis X.env.scope x) (hd:(x == ("__debug__":Str))=false) (hcd:(x == ("__classdict__":Str))=false)
 (e:o=((X.ev true (.v i) z.t).go fun x s=>(match x with
  | .ref n=>(match (s.st[n]?).bind fun o=>dG X.Γ o f (.ref s.st.length) with | some o=>.nx ⟨s.env,s.ow,(s.st ++ [o0]).set n o⟩ | none=>.bad)
  | _=>.bad))) (nb:o≠.bad) (tk:X.tz≤s'.toks:=by first | assumption | exact HR.tk (by assumption) | exact HR.tk1 (by assumption) | exact (Rep.toHR (by assumption)).tk | exact (Rep.toHR (by assumption)).tk1 | exact HR.tk2 (Rep.toHR (by assumption)) | exact HR.tk3 (Rep.toHR (by assumption))):wpAny X.M X.A (eval (.Name x p1) X.env) (fun ov s2=>wpAny X.M X.A (setAttr ov (an f) (.ref a)) (fun _ s3=>Ps X z o .next s3) (PxS X z o) s2) (PxS X z o) s':=by
 obtain ⟨I1,x1⟩:=I.snoc (p:=(a,a)) g ⟨ha,ha⟩ (r _)
 have ev:X.ev true (.v i) z.t=(match z.t.env[i]? with | some (some d)=>.ok d z.t | _=>.bad):=rfl
 rw [ev] at e
 cases q:z.t.env[i]? with
 | none=>rw [q] at e;exact absurd e nb
 | some oo=>cases oo with
   | none=>rw [q] at e;exact absurd e nb
   | some d=>
     rw [q] at e
     obtain ⟨u,hu,ru⟩:=I1.slot (i:=i) (d:=d) q
     refine cu I1 hN hv hu ?_ hd hcd
     cases d with
     | ref n=>
       obtain ⟨p,ep,rfl⟩:=dP I1 ru
       have e:o=(match (z.t.st[n]?).bind fun o=>dG X.Γ o f (.ref z.t.st.length) with | some o=>.nx ⟨z.t.env,z.t.ow,(z.t.st ++ [o0]).set n o⟩ | none=>.bad):=e
       refine iq T x1.go I1 ep (show RD X.W (z.ρ ++ [(a,a)]) z.G (.ref z.t.st.length) (.ref a) from ⟨_,jR I.toHR,rfl⟩) (e.trans ?_) nb
       show _=(match ((z.t.st ++ [o0])[n]?).bind fun o=>dG X.Γ o f (.ref z.t.st.length) with | some o=>ah.nx ⟨z.t.env,z.t.ow,(z.t.st ++ [o0]).set n o⟩ | none=>ah.bad)
       cases q1:z.t.st[n]? with
       | none=>rw [q1] at e;exact absurd e nb
       | some w=>rw [List.getElem?_append_left (List.getElem?_eq_some_iff.mp q1).1,q1]
     | _=>exact absurd e nb
theorem rc (T:bt X an) (hN:X.N[i]? = some x) (hv:Vis X.env.scope x) (hd:(x == ("__debug__":Str))=false) (hcd:(x == ("__classdict__":Str))=false):LS X (.Assign [.Attribute (.Name x p1) (an f) p] (.Dict [] [] p2) pos) (.fld (.v i) f (.dic .nil)):=fun z I nb=>plainObj_wpAny_Assign_Attribute (wpAny_Dict_empty (kQ (o0:=.dic [] []) T I (.push (t:=z.s.toks)) (aB z) (fun ρ=>⟨_,[],rfl,beq_eq_false_iff_ne.mpr (Nat.ne_of_gt I.sysm),Heap.get?_push_size _ rfl,by
 obtain ⟨o,es,ep,h1,h2,h3,h4,h5,h6⟩:=Heap.DictOf.new (knd:=bp X.W.P X.W.w) z.s.heap
 rw [Heap.get?_push_size _ rfl] at h1
 cases h1
 exact ⟨es,ep,h2,h3,h4,h5,h6,Nat.zero_le _⟩,rfl,rfl⟩) hN hv hd hcd rfl nb)) fg
theorem re (T:bt X an) (hN:X.N[i]? = some x) (hv:Vis X.env.scope x) (hd:(x == ("__debug__":Str))=false) (hcd:(x == ("__classdict__":Str))=false):LS X (.Assign [.Attribute (.Name x p1) (an f) p] (.List [] p2) pos) (.fld (.v i) f (.lst .nil)):=fun z I nb=>plainObj_wpAny_Assign_Attribute (wpAny_List_spliced (Calls.spliced_nil ⟨Nat.zero_le _,kQ (o0:=.lst []) T I (.push (t:=z.s.toks)) (aB z) (fun ρ=>⟨_,[],rfl,Heap.get?_push_size _ rfl,⟨⟨_,rfl⟩,Nat.zero_le _⟩,rfl⟩) hN hv hd hcd rfl nb⟩)) fg
theorem rE {es:List D} {us:List Value} {o:Out D} (x:Ee X z0 z) (I:Rep X z) (r:RDs X.W z.ρ z.G es us) (hz:es.length≤100000) (e:o = .ok (.ref z.t.st.length) ⟨z.t.env,z.t.ow,z.t.st ++ [.lst es]⟩):Pe X z0 o (RV X.W br c) (.ref z.s.heap.objs.size) { z.s with heap:=z.s.heap.push { cls:=.type "list",data:=.seq us.toArray } }:=by
 obtain ⟨I1,x1⟩:=I.snoc (p:=(z.s.heap.objs.size,z.s.heap.objs.size)) (o:=.lst es) (.push (t:=z.s.toks)) ⟨aB z,aB z⟩ ⟨_,us,rfl,Heap.get?_push_size _ rfl,⟨⟨_,rfl⟩,by rw [← r.len];exact big hz⟩,r.mono (List.prefix_append _ _) (.refl _)⟩
 exact ⟨_,.ref z.t.st.length,rfl,e,x.trans x1,I1,.of (show RD X.W (z.ρ ++ [_]) z.G (.ref z.t.st.length) _ from ⟨_,jR I.toHR,rfl⟩)⟩
theorem kJ (h:LA X er es):LE X (.List er pos) (.newl es):=fun br z I nb=>wpAny_List_spliced ((h false pos).go (f:=fun l s=>if l.length≤100000 then Out.ok (D.ref s.st.length) ⟨s.env,s.ow,s.st ++ [.lst l]⟩ else .bad) .refl I rfl nb fun z1 l us y1 x1 I1 r1 e1=>by
 by_cases c:l.length≤100000
 ·rw [if_pos c] at e1
  exact ⟨by rw [← r1.rds.len];exact big c,rE x1 I1 r1.rds c e1⟩
 ·rw [if_neg c] at e1;exact absurd e1 nb)
theorem rp (hN:X.N.Nodup) (hi:X.N[i]? = some x) (hx:Loc X.env.scope x) (h:LA X er es) (hs:swapsWith (.List er lp) (some (.Name x pos')) pos.line X.env=pure false):LS X (.Assign [.Name x pos'] (.List er lp) pos) (.setR i es):=fun z I nb=>wpAny_Assign_Name (by
 have e:X.ex (.setR i es) z.t=(X.ev false (.newl es) z.t).go fun d s=>.nx (stV s i d false):=by
  show Out.go (X.evs false es z.t) _=Out.go (Out.bind (X.evs false es z.t) _) _
  cases X.evs false es z.t with
  | ok l s=>show (if l.length≤100000 then _ else _)=Out.go (if l.length≤100000 then _ else _) _;by_cases c:l.length≤100000 <;> simp only [c,if_true,if_false] <;> rfl
  | _=>rfl
 exact (kJ h false).gos .refl I e nb fun z1 d u y x0 I1 r e1=>bA (own:=false) x0 I1 hN hi hx r.rd fun s' a _ _ I' g'=>nxt (z1:={ z1 with t:=stV z1.t i d false,σ:=z1.σ.set i (some u),s:=s' }) g' I' e1) hs
theorem oh {st:List O} {x:D} {w:Int} (h:look st x = .int w):x = .int w:=by
 cases x with
 | ref n=>unfold look at h;dsimp only at h;split at h <;> cases h
 | _=>exact h
structure pM (X:Cx) (op:Operator) (o:Op) (g:Int→Int→Int):Prop where
 op:∀ {A:Around} {s:Shared} {i j:Int} {t u:Tok} {Q:Value→Shared→Prop} {E:Value→Shared→Prop},Q (.int (g i j) s.toks) { s with toks:=s.toks+1 }→wpAny X.M A (inplaceOp op (.int i t) (.int j u)) Q E s
 od:∀ i j,opD o (.int i) (.int j)=some (.int (g i j))
 oi:∀ x c d,opD o x (.int c)=some d→∃ w,x = .int w
theorem pS:pM X .Sub .sub (· - ·):=⟨isub_int,fun _ _=>rfl,fun x c d h=>by cases x <;> first | exact ⟨_,rfl⟩ | cases h⟩
theorem pR:pM X .Add .add (· + ·):=⟨iadd_int,fun _ _=>rfl,fun x c d h=>by cases x <;> first | exact ⟨_,rfl⟩ | cases h⟩
theorem uI (T:bt X an) {o:Op} (ar:pM X op o g) (hN:X.N[i]? = some x) (hv:Vis X.env.scope x) (hd:(x == ("__debug__":Str))=false) (hcd:(x == ("__classdict__":Str))=false):LS X (.AugAssign (.Attribute (.Name x p1) (an f) p) op (.Constant (.int c) j p2) pos) (.fld (.v i) f (.op o (.fld (.v i) f) (.c (.int c)))):=fun z I nb=>by
 have e:=gq (X:=X) (a:=.v i) (f:=f) (s:=z.t) (e:=.op o (.fld (.v i) f) (.c (.int c))) rfl
 have e:X.ex (.fld (.v i) f (.op o (.fld (.v i) f) (.c (.int c)))) z.t=((((X.ev true (.v i) z.t).bind fun x s=>Out.of s (jC X.Γ s.st x f)).bind fun x s=>Out.of s (opD o (look s.st x) (.int c))).go fun d s=>(X.ev true (.v i) s).go fun x s=>(match x with
  | .ref n=>(match (s.st[n]?).bind fun o=>dG X.Γ o f d with | some o=>.nx ⟨s.env,s.ow,s.st.set n o⟩ | none=>.bad)
  | _=>.bad)):=e
 have ev:X.ev true (.v i) z.t=(match z.t.env[i]? with | some (some d)=>.ok d z.t | _=>.bad):=rfl
 revert nb
 generalize X.ex (.fld (.v i) f (.op o (.fld (.v i) f) (.c (.int c)))) z.t=oo at e
 intro nb
 refine wpAny_AugAssign_AttributeAny ?_
 cases q:z.t.env[i]? with
 | none=>rw [ev,q] at e;exact absurd e nb
 | some ow=>cases ow with
   | none=>rw [ev,q] at e;exact absurd e nb
   | some d=>
     rw [q] at ev
     rw [ev] at e
     obtain ⟨u,hu,ru⟩:=I.slot q
     refine cu I hN hv hu ?_ hd hcd
     cases q1:jC X.Γ z.t.st d f with
     | none=>simp only [Out.bind,q1,Out.of] at e;exact absurd e nb
     | some x=>
       simp only [Out.bind,q1,Out.of] at e
       cases q2:opD o (look z.t.st x) (.int c) with
       | none=>simp only [q2] at e;exact absurd e nb
       | some d2=>
         simp only [q2] at e
         obtain ⟨w,hw⟩:=ar.oi _ _ _ q2
         rw [hw] at q2
         obtain rfl:=oh hw
         obtain rfl:=Option.some.inj ((ar.od w c).symm.trans q2)
         have e:oo=((X.ev true (.v i) z.t).go fun x s=>(match x with
          | .ref n=>(match (s.st[n]?).bind fun o=>dG X.Γ o f (.int (g w c)) with | some o=>.nx ⟨s.env,s.ow,s.st.set n o⟩ | none=>.bad)
          | _=>.bad)):=e
         rw [ev] at e
         cases d with
         | ref n=>
           obtain ⟨p,ep,rfl⟩:=dP I ru
           obtain ⟨C,fs,v,h1,h2,h3,h4,h5⟩:=mS T I ep q1
           have h6:=h5
           obtain ⟨t,ht⟩:∃ t,v = .int w t:=h6
           subst ht
           refine jE I h1 h2 h3 h4 h5 (wpAny_Constant_int (ar.op ?_))
           have gr:Gr z.s { z.s with toks:=z.s.toks+1+1+1 }:=.tok
           exact iq (z:={ z with s:={ z.s with toks:=z.s.toks+1+1+1 } }) T (am I.gh gr).ee.go (I.grow (am I.gh gr)) ep (show RD X.W z.ρ z.G (.int (g w c)) _ from ⟨_,rfl⟩) e nb
         | _=>exact absurd e nb
end
section
variable {prog:Program} {w:World} {A:Around} {E:Value→Shared→Prop} {s:Shared}
theorem gc {it l:Addr} {items:Array Value} (hne:l≠it):∀ (n i:Nat) (s:Shared) (Q:List Value→Shared→Prop),s.heap.IsListIter it l i→s.heap.IsList l items→i+n≤items.size →
 (∀ h',h'.IsListIter it l (i+n)→Heap.SameBut it s.heap h'→Q ((items.toList.drop i).take n) { s with heap:=h' })→wpAny (model prog w) A (draw (.ref it) n) Q E s
 | 0,i,s,Q,hit,_,_,hQ=>by
   show wpAny _ _ (pure []) Q E s
   exact wpAny_pure (by simpa using hQ s.heap hit (Heap.SameBut.refl ..))
 | n+1,i,s,Q,hit,ht,hle,hQ=>by
   have hlt:i<items.size:=by omega
   show wpAny _ _ (pyNext (.ref it) >>= _) Q E s
   refine wpAny_bind (wpAny_pyNext_list_item hit ht (x:=items[i]) (by simp [hlt]) fun h₁ hit₁ hs₁=>?_)
   refine wpAny_bind (wpAny_holding (gc hne n (i+1) _ _ hit₁ (ht.extBut hs₁.extBut hne) (by omega) fun h₂ hit₂ hs₂=>wpAny_pure ?_))
   have hd:items.toList.drop i=items[i] :: items.toList.drop (i+1):=by simp [List.drop_eq_getElem_cons,hlt]
   have:=hQ h₂ (by rw [show i+(n+1)=i+1+n by omega];exact hit₂) (hs₁.trans hs₂)
   rw [hd,List.take_succ_cons] at this
   exact this
theorem dR {l:Addr} {items:Array Value} {Q:List Value→Shared→Prop} (hh:A.handled=none) (ht:s.heap.IsList l items)
 (hQ:∀ h',Heap.ExtBut s.heap.objs.size s.heap h'→Q items.toList { s with heap:=h' }):wpAny (model prog w) A (unpackItems (.ref l) items.size none) Q E s:=by
 have hlt:l≠s.heap.objs.size:=by obtain ⟨o,ho,_⟩:=ht;exact Nat.ne_of_lt (Heap.lt_size ho)
 unfold unpackItems
 refine wpAny_bind ?_
 unfold notIterableAtAll
 refine wpAny_bind (wpAny_specialOf ht.typeIs slot_list_iter.lookup ?_)
 refine wpAny_pure ?_
 simp only [Bool.false_eq_true,if_false]
 refine wpAny_bind (wpAny_holding (wpAny_pyIter_list ht ?_))
 refine wpAny_bind (wpAny_holding (gc hlt items.size 0 _ _ ⟨_,Heap.get?_push_size _ rfl,rfl,rfl⟩ (ht.push _) (by omega) fun h₁ hit₁ hs₁=>?_))
 have hall:List.take items.size (List.drop 0 items.toList)=items.toList:=by
  rw [List.drop_zero];exact List.take_of_length_le (by simp)
 rw [hall]
 rw [if_neg (by simp)]
 have ht₁:h₁.IsList l items:=(ht.push _).extBut hs₁.extBut hlt
 refine wpAny_bind (wpAny_holding (wpAny_pyNext_list_end hh hit₁ ht₁ (by simp) fun h₂ he₂=>?_))
 simp only [Option.isSome_none,Bool.false_eq_true,if_false]
 exact wpAny_pure (hQ h₂ fun b o hb e=>he₂ b o hb (hs₁.extBut b o hb (Heap.get?_push_of_some _ e)))
end
section
variable {X:Cx} {z z' z0 z1:Z}
def binds (env:List (Option D)) (l:List (Nat×D)):List (Option D):=l.foldl (fun e p=>e.set p.1 (some p.2)) env
def vE (t:Sta) (ts:List Nat) (ds:List D):Sta:=⟨binds t.env (ts.zip ds),t.ow.filter fun i=>!ts.contains i,t.st⟩
def As (X:Cx):List (Value→Sem Unit)→List Nat→Prop
 | f :: fs,i :: t=>(∃ x,X.N[i]? = some x∧Loc X.env.scope x∧∀ {v Q E s},wpAny X.M X.A (storeName X.env x v) Q E s→wpAny X.M X.A (f v) Q E s)∧As X fs t
 | [],[]=>True
 | _,_=>False
theorem r9 {Q:Unit→Shared→Prop} {E:Value→Shared→Prop} (hN:X.N.Nodup):∀ {fs t ds us z},As X fs t→Go X z0 z→Rep X z→RDs X.W z.ρ z.G ds us→ds.length=t.length→(∀ z',Go X z0 z'→Rep X z'→z'.ρ=z.ρ→z'.G=z.G→z'.t=vE z.t t ds→(∀ j,j ∉ t→z'.σ[j]? = z.σ[j]?)→((∀ i∈t,∀ x,X.N[i]? = some x→X.env.scope.names.lookup x=some .local)→∀ b o,z.h b=some o→b≠X.env.locals→z'.h b=some o)→Q () z'.s)→wpAny X.M X.A (assignInOrder fs us) Q E z.s
 | [],[],[],us,z,_,x,I,r,_,h=>assignInOrder_nil (h z x I rfl rfl (by
   have:z.t.ow.filter (fun i=>!([]:List Nat).contains i)=z.t.ow:=List.filter_eq_self.mpr fun _ _=>rfl
   show z.t=⟨z.t.env,_,z.t.st⟩
   rw [this]) (fun _ _=>rfl) fun _ _ _ e _=>e)
 | f :: fs,i :: t,d :: ds,us,z,⟨⟨x',h1,h2,h3⟩,ha⟩,x,I,r,hl,h=>by
   obtain ⟨u,vs,rfl,r1,r2⟩:=r
   refine assignInOrder_cons (h3 (bA (own:=false) x I hN h1 h2 r1 fun s' a sb la I' g'=>?_))
   refine r9 hN (z:={ z with t:=stV z.t i d false,σ:=z.σ.set i (some u),s:=s' }) ha g' I' r2 (Nat.succ.inj hl) fun z' gz Iz eρ eG et eσ ek=>h z' gz Iz eρ eG (et.trans ?_) (fun j nj=>?_) fun lc b o e nb=>ek (fun i' m=>lc i' (List.mem_cons_of_mem _ m)) b o ((sb.2 b fun q=>nb (q.trans (la.2 (lc i List.mem_cons_self x' h1)))).trans e) nb
   ·show (⟨binds (z.t.env.set i (some d)) (t.zip ds),(z.t.ow.filter (· != i)).filter (fun j=>!t.contains j),z.t.st⟩:Sta)=⟨binds (z.t.env.set i (some d)) (t.zip ds),z.t.ow.filter (fun j=>!(i :: t).contains j),z.t.st⟩
    rw [List.filter_filter]
    congr 1
    refine List.filter_congr fun j _=>?_
    rw [List.contains_cons,Bool.not_or,Bool.and_comm];rfl
   ·rw [List.mem_cons,not_or] at nj
    exact (eσ j nj.2).trans (List.getElem?_set_ne (Ne.symm nj.1))
 | [],_ :: _,_,_,_,h,_,_,_,_,_=>h.elim
 | _ :: _,[],_,_,_,h,_,_,_,_,_=>h.elim
 | [],[],_ :: _,_,_,_,_,_,_,hl,_=>by cases hl
 | _ :: _,_ :: _,[],_,_,_,_,_,_,hl,_=>by cases hl
def LG (X:Cx) (tg:Expr) (t:List Nat) (one:Bool):Prop:=∀ (z0 z:Z) (d:D) (u:Value) (env:List (Option D)) (Q:Unit→Shared→Prop) (E:Value→Shared→Prop),Go X z0 z→Rep X z→RD X.W z.ρ z.G d u→aE t one d z.t.env=some env →
 (∀ z',Go X z0 z'→Rep X z'→z'.ρ=z.ρ→Go X z z'→z'.t=⟨env,z.t.ow.filter fun i=>!t.contains i,z.t.st⟩→(∀ j,j ∉ t→z'.σ[j]? = z.σ[j]?)→((∀ i∈t,∀ x,X.N[i]? = some x→X.env.scope.names.lookup x=some .local)→∀ b o,z.h b=some o→b≠X.env.locals→z'.h b=some o)→Q () z'.s)→wpAny X.M X.A (assign tg X.env u) Q E z.s
theorem qT (hN:X.N.Nodup) (hi:X.N[i]? = some x) (hx:Loc X.env.scope x):LG X (.Name x pos) [i] true:=fun z0 z d u env Q E x0 I r e h=>by
 cases (show some (z.t.env.set i (some d))=some env from e)
 refine wpAny_assign_Name (bA (own:=false) .refl I hN hi hx r fun s' a sb la I' g'=>h { z with t:=stV z.t i d false,σ:=z.σ.set i (some u),s:=s' } (x0.trans g') I' rfl g' ?_ (fun j nj=>?_) fun lc b o e nb=>(sb.2 b fun q=>nb (q.trans (la.2 (lc i (List.mem_singleton.mpr rfl) x hi)))).trans e)
 ·show (⟨_,z.t.ow.filter (· != i),z.t.st⟩:Sta)=⟨_,z.t.ow.filter (fun j=>![i].contains j),z.t.st⟩
  congr 1
  refine List.filter_congr fun j _=>?_
  by_cases c:j=i <;> simp [c]
 ·exact List.getElem?_set_ne fun w=>nj (by rw [w];exact List.mem_singleton.mpr rfl)
theorem px {n:Nat} {Q:List Value→Shared→Prop} {E:Value→Shared→Prop} {d:D} {l:List D} (hc:X.calm=true) (I:Rep X z) (r:RD X.W z.ρ z.G d u) (e:d = .tup l∨d = .lst l) (hn:l.length=n) (q:∀ s' us,Gr z.s s'→RDs X.W z.ρ z.G l us→Q us s'):wpAny X.M X.A (unpackItems u n none) Q E z.s:=by
 subst hn
 rcases e with rfl | rfl
 ·obtain ⟨a,o,vs,rfl,g,⟨tc,⟨k,td⟩,tl⟩,r⟩:=r
  rw [show l.length=vs.toArray.size by simp [r.len]]
  exact wpAny_unpackItems_tuple (I.hd hc) (show z.s.heap.IsTuple a vs.toArray from ⟨o,I.gh _ _ g,tc,⟨k,td⟩⟩) fun h' hx=>q _ _ (.hp (t:=z.s.toks) fun b o e=>hx b o (Nat.ne_of_lt (Heap.lt_size e)) e) (by simpa using r)
 ·obtain ⟨a,o,vs,rfl,g,⟨⟨k,rfl⟩,tl⟩,r⟩:=r
  rw [show l.length=vs.toArray.size by simp [r.len]]
  exact dR (I.hd hc) (show z.s.heap.IsList a vs.toArray from ⟨_,I.gh _ _ g,rfl,⟨k,rfl⟩⟩) fun h' hx=>q _ _ (.hp (t:=z.s.toks) fun b o e=>hx b o (Nat.ne_of_lt (Heap.lt_size e)) e) (by simpa using r)
theorem mn {n:Nat} {Q:List Value→Shared→Prop} {E:Value→Shared→Prop} {d:D} {l:List D} (hc:X.calm=true) (I:Rep X z) (r:RD X.W z.ρ z.G d u) (e:d = .tup l∨d = .lst l) (hn:l.length=n) (q:∀ s' us,X.tz≤s'.toks→Gr z.s s'→RDs X.W z.ρ z.G l us→Q us s'):wpAny X.M X.A (unpackItems u n none) Q E z.s:=
 wpAny_mono (wpAny_toks_of I.tk (px (E:=E) (Q:=fun us s'=>Gr z.s s'∧RDs X.W z.ρ z.G l us) hc I r e hn fun s' us a b=>⟨a,b⟩)) (fun us s' ⟨tk,a,b⟩=>q s' us tk a b) fun _ _ w=>w.2
theorem mE (e:aE t false d env=some env'):∃ l,(d = .tup l∨d = .lst l)∧l.length=t.length∧env'=binds env (t.zip l):=by
 cases d with
 | tup l=>obtain ⟨c,e⟩:=aI (show (if l.length=t.length then some (binds env (t.zip l)) else none)=some env' from e);cases e;exact ⟨l,.inl rfl,c,rfl⟩
 | lst l=>obtain ⟨c,e⟩:=aI (show (if l.length=t.length then some (binds env (t.zip l)) else none)=some env' from e);cases e;exact ⟨l,.inr rfl,c,rfl⟩
 | _=>cases e
theorem n9 {es:List Expr} {k:Nat} {pos:Pos} (hc:X.calm=true) (hN:X.N.Nodup) (ha:As X ((assignEach es X.env).map (·.2)) t) (hn:(assignEach es X.env).length=t.length) (hst:(assignEach es X.env).findIdx? (·.1)=none):LG X (.Tuple es k pos) t false:=fun z0 z d u env Q E x0 I r e h=>by
 obtain ⟨l,dl,hl,rfl⟩:=mE e
 rw [assign_Tuple]
 refine wpAny_bind (wpAny_standAt ?_)
 unfold unpack
 rw [hn,hst]
 refine wpAny_bind (wpAny_holding (mn hc I r dl hl fun s' us tk g rs=>?_))
 exact r9 (z:={ z with s:=s' }) hN ha (am I.gh g).ee.go (I.grow (am I.gh g) tk) rs hl fun z' gz Iz eρ eG et eσ ek=>h z' (x0.trans gz) Iz eρ gz et eσ fun lc b o e nb=>ek lc b o (g.k b o e) nb
theorem rq (he:LE X e c) (hg:LG X tg t false) (hs:swapsWithSole [tg] e pos.line X.env=pure false) (hw:swappedStores [tg] e X.env=pure none) (h1:(assignEach [tg] X.env).map (·.2) = [assign tg X.env]):LS X (.Assign [tg] e pos) (.setT t c):=fun z I nb=>wpAny_Assign_stores ((he false).gos .refl I rfl nb fun z1 d u y x0 I1 r e1=>by
 rw [h1]
 cases q:aE t false d z1.t.env with
 | none=>rw [q] at e1;exact absurd e1 nb
 | some env=>
   rw [q] at e1
   exact hg z z1 d u env _ _ x0 I1 r.rd q fun z' gz Iz _ _ et _ _=>nxt gz Iz (by rw [et];exact e1)) hs hw
end
section
variable {X:Cx} {z:Z}
def isV:E→Bool
 | .v _=>true
 | _=>false
theorem rj (hn:ay eb=true) (hv:isV a=false) (ho:LE X eo a) (hb:LE X eb b) (he:LE X ee e):LS X (.Assign [.Subscript eo eb p2] ee pos) (.put a b e):=fun z I nb=>by
 have e0:X.ex (.put a b e) z.t=(X.ev false e z.t).go fun d s=>(X.ev true a s).go fun x s=>(X.ev true b s).go fun k s=>(match x with
  | .ref n=>(match (s.st[n]?).bind fun o=>fP o k d with | some o=>.nx ⟨s.env,s.ow,s.st.set n o⟩ | none=>.bad)
  | _=>.bad):=by cases a <;> first | rfl | cases hv
 refine kc hn ((he false).gos (K:=fun v s'=>∃ z1 d,z1.s=s'∧Go X z z1∧Rep X z1∧RD X.W z1.ρ z1.G d v∧X.ex (.put a b e) z.t=((X.ev true a z1.t).go fun x s=>(X.ev true b s).go fun k s=>(match x with
  | .ref n=>(match (s.st[n]?).bind fun o=>fP o k d with | some o=>.nx ⟨s.env,s.ow,s.st.set n o⟩ | none=>.bad)
  | _=>.bad))) .refl I e0 nb fun z1 d u y x1 I1 r1 e1=>⟨z1,d,rfl,x1,I1,r1.rd,e1⟩) fun v s' ⟨z1,d,q,x1,I1,r1,e1⟩=>?_
 subst q
 exact (ho true).gos x1 I1 e1 nb fun z2 x u y2 x2 I2 r2 e2=>(hb true).gos x2 I2 e2 nb fun z3 k kv y3 x3 I3 r3 e3=>by
  cases x with
  | ref n=>
    obtain ⟨p,ep,rfl⟩:=dP I3 (r2.rb.st y3 I3)
    exact oX x3 I3 ep (r3.rb.cr0 I3) ((r1.st y2.st).st y3.st) e3 nb
  | _=>exact absurd e3 nb
end
section
variable {X:Cx}
theorem ky {st:List O} {x:D} (h:d8 st x=true):∃ n l,x = .ref n∧st[n]? = some (.lst l):=by
 unfold d8 at h
 split at h
 ·split at h
  ·exact ⟨_,_,rfl,by assumption⟩
  ·cases h
 ·cases h
theorem qY {f:Nat} (ho:LE X eo a) (he:LE X e c) (m:M1 X eo "append" apos e cpos):LS X (.Expr (.Call (.Attribute eo "append" apos) [e] [] cpos) pos) (.fapp a f c):=fun z I nb=>by
 have e0:X.ex (.fapp a f c) z.t=(X.ev true a z.t).go fun x s=>if d8 s.st x=true then (X.ev false c s).go fun d s=>apO x d s else .bad:=rfl
 refine wpAny_Expr_any (wpAny_Call_method m.base m.few m.line PySem.F.plainAttrs_list PySem.F.slot_list_append PySem.F.type_list_append ((ho true).gos .refl I e0 nb fun z1 x u y1 x1 I1 r1 e1=>?_)) I.quiet rfl
 by_cases c0:d8 z1.t.st x=true
 ·rw [if_pos c0] at e1
  obtain ⟨n,l,rfl,en⟩:=ky c0
  obtain ⟨p,ep,rfl⟩:=dP I1 r1.rb
  obtain ⟨o,vs,_,ho,⟨⟨k,rfl⟩,_⟩,_⟩:=I1.ob n _ p en ep
  refine ⟨⟨_,ho,rfl⟩,fun b q=>(by cases q;exact ⟨_,ho,rfl⟩),?_⟩
  rw [m.trees]
  refine Calls.callWith_builtin rfl (Calls.evalArgs_plain (Calls.spliced_cons ((he false).gos x1 I1 e1 nb fun z2 d w y2 x2 I2 r2 e2=>Calls.spliced_nil ?_)))
  have e2:X.ex (.fapp a f c) z.t=(match z2.t.st[n]? with | some (.lst l)=>if l.length<100000 then .nx ⟨z2.t.env,z2.t.ow,z2.t.st.set n (.lst (l ++ [d]))⟩ else .bad | _=>.bad):=e2
  cases q:z2.t.st[n]? with
  | none=>rw [q] at e2;exact absurd e2 nb
  | some ob=>
    rw [q] at e2
    cases ob with
    | lst l2=>
      dsimp only at e2
      by_cases c2:l2.length<100000
      ·rw [if_pos c2] at e2
       have ep2:=dE y2.st.pr ep
       obtain ⟨o,vs,hp2,ho,⟨⟨k,rfl⟩,_⟩,rl⟩:=I2.ob n _ p q ep2
       have hz:vs.length<100000:=by rw [← rl.len];exact c2
       refine call_meets PySem.F.slot_list_append ⟨_,ho,rfl⟩ PySem.F.entry_list_append (PySem.F.args_list_append_2 _ _) (PySem.list_append p.1 vs.toArray k w (by rw [List.size_toArray];exact Nat.le_of_lt (Nat.lt_of_lt_of_le hz (big (Nat.le_refl _))))) ⟨ho,?_⟩
       obtain ⟨⟨o1,u1,u3⟩,u2⟩:=cW (f:=(·.push w)) (ws:=vs ++ [w]) ho (by simp) (by rw [List.length_append];exact big (by simp;omega))
       obtain ⟨I3,g3⟩:=I2.stw (s':={ z2.s with heap:=z2.s.heap.update p.1 (Obj.mapSeq (·.push w)) }) (o':=.lst (l2 ++ [d])) ep2 (.inl rfl) u2 ⟨o1,vs ++ [w],hp2,u1,u3,rl.app (.cons r2.rd rfl)⟩ rfl rfl
       exact nxt (x2.trans g3) I3 e2
      ·rw [if_neg c2] at e2;exact absurd e2 nb
    | _=>exact absurd e2 nb
 ·rw [if_neg c0] at e1;exact absurd e1 nb
end
structure Itr (W:Wd) (tg:Expr) (it:Addr) (fp wr:List Addr) (ds:List D) (ρ:Rs) (G:Hp) (St:Nat→Heap→Prop):Prop where
 sub:∀ b∈wr,b∈fp
 keep:∀ i h h',St i h→(∀ b∈fp,∀ o,h.get? b=some o→h'.get? b=some o)→St i h'
 ex:∀ i h,St i h→∀ b∈wr,∃ o,h.get? b=some o
 item:∀ {A:Around} {i:Nat} {d:D} {s:Shared},A.handled=none→ds[i]? = some d→St i s.heap→wpAny (model W.P W.w) A (pyNext (.ref it)) (fun r s1=>∃ u,r=some u∧wpAny (model W.P W.w) A (letOwnedTupleGo tg (.ref it) u) (fun _ s2=>St (i+1) s2.heap∧(s2.os=s.os∧s2.gens=s.gens)∧(∀ b o,b ∉ wr→s.heap.get? b=some o→s2.heap.get? b=some o) ∧
  ∀ ρ' G',ρ <+: ρ'→Sub G G'→(∀ a o,s.heap.get? a=none→s2.heap.get? a=some o→G' a=some o)→RD W ρ' G' d u) NoE s1) NoE s
 done:∀ {A:Around} {s:Shared},A.handled=none→St ds.length s.heap→wpAny (model W.P W.w) A (pyNext (.ref it)) (fun r s2=>r=none∧(s2.os=s.os∧s2.gens=s.gens)∧∀ b o,b ∉ wr→s.heap.get? b=some o→s2.heap.get? b=some o) NoE s
 self:∀ {A:Around} {i:Nat} {s:Shared} {Q:Value→Shared→Prop} {E:Value→Shared→Prop},A.handled=none→St i s.heap→Q (.ref it) s→wpAny (model W.P W.w) A (pyIter (.ref it)) Q E s
def Fp (X:Cx) (z0 z:Z) (fp wr:List Addr):Prop:=∀ b∈fp,(Nob X z0 z b∧∃ o,z.h b=some o)∨(b ∉ wr∧∃ o,z.G b=some o)
section
variable {X:Cx} {z z' z0 z1:Z}
theorem Nob.go (x:Go X z z') (n:Nob X z0 z b) (e:z.h b=some o):Nob X z0 z' b∧z'.h b=some o:=by
 obtain ⟨n0,⟨f1,f2,f3,f4⟩,f5⟩:=n
 have no:∀ {P:Prop},z.h b=none→P:=fun w=>by rw [w] at e;cases e
 refine ⟨⟨n0,⟨?_,fun m=>(x.st.rn b m).elim f2 no,f3,f4⟩,fun w=>(x.ow b w).elim f5 no⟩,x.st.sm b o e f2 (fun w=>w.elim f5 f4) f3⟩
 cases q:z'.G b with
 | none=>rfl
 | some o'=>
   rcases x.st.gn b o' q with w | w | w
   ·rw [f1] at w;cases w
   ·exact no w
   ·exact (w.elim f5 f4).elim
theorem Fp.go (x:Go X z z') (f:Fp X z0 z fp wr):Fp X z0 z' fp wr:=fun b hb=>(f b hb).imp (fun ⟨n,o,e⟩=>let ⟨a,b⟩:=n.go x e;⟨a,o,b⟩) fun ⟨n,o,e⟩=>⟨n,o,x.st.gg b o e⟩
theorem Fp.keep (x:Go X z z') (I:Rep X z) (I':Rep X z') (f:Fp X z0 z fp wr):∀ b∈fp,∀ o,z.h b=some o→z'.h b=some o:=fun b hb o e=>by
 rcases f b hb with ⟨n,o',e'⟩ | ⟨_,o',e'⟩
 ·exact (n.go x e).2
 ·rw [I.gh b o' e'] at e;cases e;exact I'.gh b _ (x.st.gg b _ e')
theorem Rep.turn {s':Shared} {wr:List Addr} {w:Addr→Prop} (x:Stp X.fr w z0 z) (I:Rep X z) (hw:∀ b∈wr,Nob X z0 z b∧∃ o,z.h b=some o) (k:∀ b o,b ∉ wr→z.h b=some o→s'.heap.get? b=some o) (os:s'.os=z.s.os∧s'.gens=z.s.gens) (tk:X.tz≤s'.toks:=by first | assumption | exact HR.tk (by assumption) | exact HR.tk1 (by assumption) | exact (Rep.toHR (by assumption)).tk | exact (Rep.toHR (by assumption)).tk1 | exact Nat.le_succ_of_le (by assumption)):Rep X (z.up s')∧Stp X.fr w z0 (z.up s')∧Sub z.G (z.up s').G∧∀ b∈wr,Nob X z0 (z.up s') b:=by
 have gd:∀ a,(z.up s').G a=match z.h a with | none=>s'.heap.get? a | some _=>z.G a:=fun _=>rfl
 have nG:∀ {b o},z.G b=some o→b ∉ wr:=fun e m=>by rw [(hw _ m).1.2.1.1] at e;cases e
 have nM:∀ {b},Mu z.ρ b→b ∉ wr:=fun h m=>(hw _ m).1.2.1.2.1 h
 have nf:∀ {b},b∈frs X.fr→b ∉ wr:=fun h m=>(hw _ m).1.2.1.2.2.1 h
 have nL:∀ {b},Lc X b→b ∉ wr:=fun h m=>(hw _ m).1.2.1.2.2.2 h
 have nO:∀ {b},Own z b→b ∉ wr:=fun h m=>(hw _ m).1.2.2 h
 have gg:Sub z.G (z.up s').G:=fun a o e=>by rw [gd,I.gh a o e];exact e
 have nn:∀ {a:Addr},(∃ o,z.h a=some o)→z.G a=none→(z.up s').G a=none:=fun {a} ⟨o,e⟩ n=>by rw [gd,e];exact n
 have gh:Sub (z.up s').G s'.heap.get?:=fun a o e=>by
  rw [gd] at e
  cases q:z.h a with
  | none=>rw [q] at e;exact e
  | some u=>rw [q] at e;exact k a o (nG e) (I.gh a o e)
 have ck:∀ x c v,X.env.cells.lookup x=some c→z.s.heap.IsCell c v→s'.heap.IsCell c v:=fun x c v e ⟨o,q,d⟩=>⟨o,k c o (nL (.inr ⟨x,e⟩)) q,d⟩
 have fu:s'.heap.FunFrames X.base X.fr:=by
  have:∀ {l:List Env},(∀ b∈frs l,b ∉ wr)→z.s.heap.FunFrames X.base l→s'.heap.FunFrames X.base l:=fun {l}=>by
   induction l with
   | nil=>exact fun _ _=>trivial
   | cons v r ih=>
     intro hs ⟨a,⟨L,o,e1,e2,e3,e4⟩,q⟩
     have hm:L∈frs (v :: r):=by unfold frs;rw [List.filterMap_cons,e1];exact List.mem_cons_self
     exact ⟨a,⟨L,o,e1,e2,k L o (hs L hm) e3,e4⟩,ih (fun b hb=>hs b (by unfold frs;rw [List.filterMap_cons,e1];exact List.mem_cons_of_mem _ hb)) q⟩
  exact this (fun b h=>nf h) I.fu
 have gn:∀ a o,(z.up s').G a=some o→z.G a=some o∨z.h a=none:=fun a o e=>by
  rw [gd] at e
  cases q:z.h a with
  | none=>exact .inr rfl
  | some u=>rw [q] at e;exact .inl e
 refine ⟨⟨⟨I.md,I.fm,I.hd,fun b o e=>gg _ _ (I.bs b o e),gh,I.rl,I.rn,fun a m=>nn (I.th m) (I.rg a m),fun n o p h1 h2=>(I.ob n o p h1 h2).mono (List.prefix_refl _) gg fun a ha o e=>k a o (nM ⟨p,List.mem_of_getElem? h2,ha⟩) e,fu,fun b m=>⟨nn (I.fth m) (I.ff b m).1,(I.ff b m).2⟩,by show AllBare s'.gens;rw [os.2];exact I.br,os.1.trans I.os,tk⟩,I.ok,?_,fun x c e=>let ⟨v,q⟩:=I.ce x c e;⟨v,ck x c v e q⟩,fun a l=>⟨nn (I.lth l) (I.fl a l).1,(I.fl a l).2⟩,I.el,I.sl,fun i d n e=>let ⟨u,q,r⟩:=I.en i d n e;⟨u,q,r.mono (List.prefix_refl _) gg⟩,fun i m=>?_,I.od⟩,⟨x.pr,x.gg.trans gg,fun a o e=>?_,x.rn,fun a o e=>?_,fun a o e n w f=>?_,fun a o e n w f=>?_⟩,gg,fun b hb=>let ⟨⟨n0,f,no⟩,ex⟩:=hw b hb;⟨n0,⟨nn ex f.1,f.2⟩,no⟩⟩
 ·obtain ⟨m,⟨oL,es,ep,q,r⟩,hl⟩:=I.lo
  exact ⟨m,⟨oL,es,ep,k _ _ (nL (.inl rfl)) q,r⟩,fun j x w e1 e2 e3=>cL (fun c v e q=>ck x c v e q) (hl j x w e1 e2 e3)⟩
 ·obtain ⟨d,a,o,h1,h2,h3,r,f⟩:=I.eo i m
  exact ⟨d,a,o,h1,h2,h3,r.mono (List.prefix_refl _) gg fun c hc o e=>k c o (by rcases hc with rfl | rfl <;> exact nO ⟨i,m,h2⟩) e,nn r.th.1 f.1,f.2⟩
 ·rcases gn a o e with w | w
  ·exact x.gn a o w
  ·exact .inr (.inl (x.no w))
 ·obtain ⟨o1,e1⟩:=x.th a o e
  by_cases m:a∈wr
  ·rw [(hw a m).1.1] at e;cases e
  ·exact ⟨o1,k a o1 m e1⟩
 ·exact k a o (fun m=>by rw [(hw a m).1.1] at e;cases e) (x.sm a o e n w f)
 ·obtain ⟨sl,q⟩:=x.sl a o e n w f
  exact ⟨sl,k a _ (fun m=>by rw [(hw a m).1.1] at e;cases e) q⟩
theorem Fp.up {s':Shared} {wr wr':List Addr} (I:Rep X z) (f:Fp X z0 z fp wr) (g:Sub z.G (z.up s').G) (k:∀ b o,b ∉ wr'→z.h b=some o→s'.heap.get? b=some o) (ex:∀ b∈wr',b∈fp→∃ o,s'.heap.get? b=some o):Fp X z0 (z.up s') fp wr:=fun b hb=>(f b hb).imp (fun ⟨⟨n0,ff,no⟩,o',e'⟩=>⟨⟨n0,⟨by show (match z.h b with | none=>s'.heap.get? b | some _=>z.G b)=none;rw [e'];exact ff.1,ff.2⟩,no⟩,by
 by_cases m:b∈wr'
 ·exact ex b m hb
 ·exact ⟨o',k b o' m e'⟩⟩) fun ⟨m,o',e'⟩=>⟨m,o',g b o' e'⟩
theorem Fp.wr {wr:List Addr} {St:Nat→Heap→Prop} (T:Itr W tg it fp wr ds ρ G St) (st:St i z.s.heap) (f:Fp X z0 z fp wr):∀ b∈wr,Nob X z0 z b∧∃ o,z.h b=some o:=fun b hb=>(f b (T.sub b hb)).elim id fun ⟨n,_⟩=>absurd hb n
inductive FI (X:Cx) (z:Z) (tg:Expr) (o:Out D) (itv:Value) (s2:Shared):Prop
 | mk (z1:Z) (ds:List D) (it:Addr) (fp wr:List Addr) (St:Nat→Heap→Prop) (_:z1.s=s2) (_:o = .ok (.lst ds) z1.t) (_:Ee X z z1) (_:X.tz≤s2.toks→Rep X z1) (_:itv = .ref it) (_:Itr X.W tg it fp wr ds z1.ρ z1.G St) (_:St 0 s2.heap) (_:Fp X z z1 fp wr)
def LI (X:Cx) (tg e:Expr) (c:E):Prop:=∀ z,Rep X z→X.ev false c z.t≠.bad→wpAny X.M X.A (eval e X.env) (fun v s1=>wpAny X.M X.A (pyIter v) (FI X z tg (X.ev false c z.t)) NoE s1) (Px X z (X.ev false c z.t)) z.s
theorem kf {ds:List α} {i:Nat} (h:ds[i]? = some d):ds.drop i=d :: ds.drop (i+1):=by
 obtain ⟨hi,rfl⟩:=List.getElem?_eq_some_iff.mp h
 exact List.drop_eq_getElem_cons hi
inductive FoJ (X:Cx) (z z1:Z) (ds:List D) (St:Nat→Heap→Prop) (fp wr:List Nat) (o:ah) (f:D→Sta→ah) (n:Nat) (s:Shared):Prop
 | mk (i:Nat) (z':Z) (_:z'.s=s) (_:n=ds.length - i) (_:i≤ds.length) (_:Go X z z') (_:Rep X z') (_:St i s.heap) (_:Fp X z z' fp wr) (_:z1.ρ <+: z'.ρ) (_:Sub z1.G z'.G) (_:o=bL f (ds.drop i) z'.t)
theorem uL {t:List Nat} {one:Bool} (hc:X.calm=true) (hp:∀ z o,PassesOwn X.M X.A X.env (PxS X z o)) (hi:LI X tg iter it) (hg:LG X tg t one) (hb:LSs X body b) (hs:∀ x,foldedSetIterable iter X.env x=pure x):LS X (.For tg iter body [] pos) (.for_ t one it b):=fun z I nb=>by
 let f:D→Sta→ah:=fun d s=>match aE t one d s.env with | some env=>X.ex b ⟨env,s.ow.filter fun i=>!t.contains i,s.st⟩ | none=>.bad
 have e0:X.ex (.for_ t one it b) z.t=(X.ev false it z.t).go fun x s=>(match x with | .lst ds=>bL f ds s | _=>.bad):=rfl
 generalize X.ex (.for_ t one it b) z.t=o at e0 nb
 have nb0:X.ev false it z.t≠.bad:=fun q=>nb (by rw [e0,q];rfl)
 refine wpAny_For (wpAny_mono (wpAny_toks_of I.tk (hi z I nb0)) (fun v s1 ⟨tk1,h1⟩=>wpAny_mono (wpAny_toks_of tk1 h1) (fun itv s2 ⟨tk2,h2⟩=>?_) fun _ _ w=>w.2.elim) fun u s' h=>?_) hs
 rotate_left
 ·rw [e0];exact .of .refl h.2
 obtain ⟨z1,ds,a,fp,wr,St,q1,q2,x1,I1,q3,T,st1,f1⟩:=h2
 subst q1 q3
 have I1:=I1 tk2
 rw [q2] at e0
 have e0:o=bL f ds z1.t:=e0
 refine codeAny_forLoop_any (FoJ X z z1 ds St fp wr o f) ?_ (ds.length - 0) ⟨0,z1,rfl,rfl,Nat.zero_le _,x1.go,I1,st1,f1,List.prefix_refl _,.refl _,by rw [List.drop_zero];exact e0⟩
 rintro n s3 ⟨i,z3,e3,en,hi,x3,I3,st3,f3,p3,g3,q⟩
 subst e3
 cases qd:ds[i]? with
 | none=>
   have hl:i=ds.length:=by rw [List.getElem?_eq_none_iff] at qd;omega
   subst hl
   refine wpAny_passesOwn (hp z o) (wpAny_mono (wpAny_toks_of I3.tk (T.done (I3.hd hc) st3)) (fun r s4 ⟨tk4,er,os,k⟩=>?_) fun _ _ w=>w.2.elim)
   subst er
   obtain ⟨I4,x4,_⟩:=I3.turn x3.st (f3.wr T st3) k os tk4
   rw [List.drop_length] at q
   exact wpAny_execs_nil (nxt (z1:=z3.up s4) ⟨x4,x3.ow⟩ I4 q)
 | some d=>
   have hil:i<ds.length:=(List.getElem?_eq_some_iff.mp qd).1
   rw [kf qd] at q
   have q:o=(f d z3.t).go fun s=>bL f (ds.drop (i+1)) s:=q
   refine wpAny_passesOwn (hp z o) (wpAny_mono (wpAny_toks_of I3.tk (T.item (I3.hd hc) qd st3)) (fun r s4 ⟨tk4,u,er,h4⟩=>?_) fun _ _ w=>w.2.elim)
   subst er
   refine wpAny_passesOwn (hp z o) (wpAny_mono (wpAny_toks_of tk4 h4) (fun _ s5 ⟨tk5,st5,os5,k5,rd5⟩=>?_) fun _ _ w=>w.2.elim)
   have hw:=f3.wr T st3
   obtain ⟨I5,x5',g5,n5⟩:=I3.turn x3.st hw k5 os5 tk5
   have x5:Go X z (z3.up s5):=⟨x5',x3.ow⟩
   have rd:=rd5 z3.ρ (z3.up s5).G p3 (g3.trans g5) fun a o e1 e2=>by rw [iy e1];exact e2
   have f5:Fp X z (z3.up s5) fp wr:=f3.up I3 g5 k5 fun b m _=>T.ex _ _ st5 b m
   cases qb:aE t one d z3.t.env with
   | none=>exact absurd (show o = .bad by rw [q];show ah.go (match aE t one d z3.t.env with | some env=>X.ex b ⟨env,z3.t.ow.filter fun i=>!t.contains i,z3.t.st⟩ | none=>.bad) _=_;rw [qb];rfl) nb
   | some env=>
     have q:o=(X.ex b ⟨env,z3.t.ow.filter fun i=>!t.contains i,z3.t.st⟩).go fun s=>bL f (ds.drop (i+1)) s:=by rw [q];show ah.go (match aE t one d z3.t.env with | some env=>X.ex b ⟨env,z3.t.ow.filter fun i=>!t.contains i,z3.t.st⟩ | none=>.bad) _=_;rw [qb]
     refine wpAny_passesOwn (hp z o) (hg z (z3.up s5) d u env _ _ x5 I5 rd qb fun z6 x6 I6 eρ y6 et eσ _=>?_)
     rw [← show z6.t=(⟨env,z3.t.ow.filter fun i=>!t.contains i,z3.t.st⟩:Sta) from et] at q
     have nb6:X.ex b z6.t≠.bad:=fun w=>nb (by rw [q,w];rfl)
     refine wpAny_passesOwn (hp z o) (wpAny_mono (hb z6 I6 nb6) (fun fl s7 h7=>?_) fun u s' h=>?_)
     ·cases qx:X.ex b z6.t with
      | nx t7=>
        rw [qx] at h7 q
        obtain ⟨rfl,z7,e7,et7,x7,I7⟩:=h7
        subst e7 et7
        exact ⟨ds.length - (i+1),by omega,i+1,z7,rfl,rfl,hil,x6.trans x7,I7,T.keep _ _ _ st5 ((f5.keep (y6.trans x7) I5 I7)),f5.go (y6.trans x7),(p3.trans (eρ ▸ List.prefix_refl _:z3.ρ <+: z6.ρ)).trans x7.st.pr,(g3.trans g5).trans (y6.st.gg.trans x7.st.gg),q⟩
      | rt d7 t7=>
        rw [qx] at h7 q
        obtain ⟨u7,z7,rfl,r7⟩:=h7
        have:=Ps.less x6 (show Ps X z6 (.rt d7 t7) (.ret u7) s7 from ⟨u7,z7,rfl,r7⟩)
        show Ps X z o (.ret u7) s7
        rw [q];exact this
      | exc c l t7=>rw [qx] at h7;exact h7.elim
      | bad=>exact absurd qx nb6
     ·obtain ⟨z7,c,l,e7,qx,y7,J7,r7⟩:=h.less x6
      exact ⟨z7,c,l,e7,by rw [q,qx];rfl,y7,J7,r7⟩
end
theorem nin (n j k a:Nat) (h:j≠k) (ha:a<n):n+j ∉ [n+k,a]:=by simp;omega
theorem m7 {h:Heap} (n:h.objs.size≤a):h.get? a=none:=Heap.get?_none_of_le n
section
variable {W:Wd} {tg:Expr} {it:Addr} {fp wr:List Addr} {ds:List D} {ρ:Rs} {G:Hp} {St:Nat→Heap→Prop}
theorem Itr.walks {P:Nat→Value→Prop} {A0:Around} (h0:A0.handled=none) {n:Nat} (hn:ds.length=n) (w:∀ A,A.handled=none→Walks W.P W.w A it fp wr n P St) (ex:∀ i h,St i h→∀ b∈wr,∃ o,h.get? b=some o) (go:∀ {A:Around} {s:Shared} {u:Value} {Q:Unit→Shared→Prop} {E:Value→Shared→Prop} {i:Nat},St i s.heap→Q () s→wpAny (model W.P W.w) A (letOwnedTupleGo tg (.ref it) u) Q E s)
 (hP:∀ i v d,P i v→ds[i]? = some d→∀ ρ' G',ρ <+: ρ'→Sub G G'→RD W ρ' G' d v):Itr W tg it fp wr ds ρ G St where
 sub:=(w A0 h0).sub
 keep:=(w A0 h0).frame
 ex:=ex
 item:=fun {A i d s} h e st=>(w A h).item i s _ _ (hn ▸ (List.getElem?_eq_some_iff.mp e).1) st fun v h' tk p st' k=>⟨v,rfl,go (s:={ s with heap:=h',toks:=tk }) st' ⟨st',⟨rfl,rfl⟩,fun b o n q=>k b o n q,fun ρ' G' h1 h2 _=>hP i v d p e ρ' G' h1 h2⟩⟩
 done:=fun {A s} h st=>(w A h).done s _ _ (hn ▸ st) fun h' tk k=>⟨rfl,⟨rfl,rfl⟩,k⟩
 self:=fun {A i s Q E} h st q=>(w A h).self i s Q E st q
abbrev Exa (h:Heap) (T:Addr):Prop:=∀ o,h.get? T=some o→o.dict=none
theorem Itr.walksT {Pt:Nat→Array Value→Prop} {Mid:Nat→Addr→Heap→Prop} {A0:Around} {elts:List Expr} {k:Nat} {pos:Pos} (h0:A0.handled=none) {n:Nat} (hn:ds.length=n) (w:∀ A,A.handled=none→WalksT W.P W.w A it fp wr n Pt St Mid) (ex:∀ i h,St i h→∀ b∈wr,∃ o,h.get? b=some o) (hm:∀ i T h,Mid i T h→Exa h T)
 (hP:∀ i vals d,Pt i vals→ds[i]? = some d→vals.size≤sizeLine∧∃ l,d = .tup l∧∀ ρ' G',ρ <+: ρ'→Sub G G'→RDs W ρ' G' l vals.toList):Itr W (.Tuple elts k pos) it fp wr ds ρ G St where
 sub:=(w A0 h0).sub
 keep:=(w A0 h0).frame
 ex:=ex
 item:=fun {A i d s} h e st=>(w A h).item i s _ _ (hn ▸ (List.getElem?_eq_some_iff.mp e).1) st fun T vals h' tk p hT tup mid kk=>⟨.ref T,rfl,(w A h).go elts k pos i T { s with heap:=h',toks:=tk } _ _ mid fun h2 st2 k2=>⟨st2,⟨rfl,rfl⟩,fun b o n q=>k2 b o n (kk b o n q),fun ρ' G' h1 h3 h4=>by
  obtain ⟨hz,l,rfl,r⟩:=hP i vals d p e
  obtain ⟨o,e1,e2,n,e3⟩:=tup
  exact ⟨T,o,vals.toList,rfl,h4 T o (m7 hT) (k2 T o ((w A h).apart i T h' mid) e1),⟨e2,⟨n,by simpa using e3⟩,(by simpa using hz),hm i T h' mid o e1⟩,r ρ' G' h1 h3⟩⟩⟩
 done:=fun {A s} h st=>(w A h).done s _ _ (hn ▸ st) fun h' tk k=>⟨rfl,⟨rfl,rfl⟩,k⟩
 self:=fun {A i s Q E} h st q=>(w A h).self i s Q E st q
theorem j9 {prog:Program} {w:World} {A:Around} {it:Addr} {fp:List Addr} {n:Nat} {P:Nat→Value→Prop} {St:Nat→Heap→Prop} (D:Draws prog w A.in1 it fp n P St) (e:Addr) (hei:e≠it) (hef:e ∉ fp) (hif:it∈fp):WalksT prog w A e (e :: fp) [e,it] n (fun i vals=>∃ t x,P i x∧vals = #[.int i t,x]) (fun i h=>(∃ old,IsEnum h e it i old)∧St i h) (fun i T h=>((∃ x,IsEnumOut h e it ((i:Int)+1) x T)∧St (i+1) h∧T≠e∧T≠it)∧Exa h T):=
 have V:=WalksT.enumerateD D e hei hef hif
 { sub:=V.sub,frame:=V.frame,done:=V.done,self:=V.self,go:=fun elts k pos i T s Q E m q=>V.go elts k pos i T s Q E m.1 q,apart:=fun i T h m=>V.apart i T h m.1,
   item:=fun i s Q E hi ⟨⟨old,he⟩,hs⟩ hQ=>wpAny_pyNext_enum_itemD D he hs hi hei hef fun x h' tk hP ho hs' hT hsz hk=>hQ s.heap.objs.size #[.int i tk,x] h' (tk+1) ⟨_,_,hP,rfl⟩ (Nat.le_refl _) ⟨_,hT,rfl,_,rfl⟩ ⟨⟨⟨_,ho⟩,hs',Nat.ne_of_gt (Heap.lt_size he),Nat.ne_of_gt (let ⟨_,y⟩:=D.live _ _ hs;Heap.lt_size y)⟩,fun o q=>(by rw [hT] at q;cases q;rfl)⟩ fun b o hb y=>hk b o (fun z=>hb (z ▸ List.mem_cons_self)) (fun z=>hb (z ▸ List.mem_cons_of_mem _ List.mem_cons_self)) y }
end
section
variable {X:Cx} {z z' z0 z1:Z} {tg:Expr}
theorem eP {s2:Shared} {o:Out D} {ds:List D} {it:Addr} {fp wr:List Addr} {St:Nat→Heap→Prop} (x:Ee X z z1) (I:Rep X z1) (g:Gr z1.s s2) (T:Itr X.W tg it fp wr ds z1.ρ z1.G St) (st:St 0 s2.heap) (hf:∀ b∈fp,(z1.h b=none∧∃ o,s2.heap.get? b=some o)∨(b ∉ wr∧∃ o,z1.G b=some o)) (e:o = .ok (.lst ds) z1.t):FI X z tg o (.ref it) s2:=
 ⟨{ z1 with s:=s2 },ds,it,fp,wr,St,rfl,e,x.trans (am I.gh g).ee,fun tk=>I.grow (am I.gh g) tk,rfl,T,st,fun b hb=>(hf b hb).imp_left fun ⟨n,ex⟩=>⟨⟨x.st.no n,I.fre n⟩,ex⟩⟩
theorem kB (I:Rep X z) (e:z.G a=some o):a≠z.s.heap.objs.size:=Nat.ne_of_lt (Heap.lt_size (I.gh a o e))
theorem yz (hc:X.calm=true) (ha:LE X e a):LI X tg e (.itv a):=fun z I nb=>(ha false).go (K:=fun v s1=>wpAny X.M X.A (pyIter v) (FI X z tg (X.ev false (.itv a) z.t)) NoE s1) .refl I rfl nb fun z1 d u y x1 I1 r1 e1=>by
 have r:=r1.rd
 cases d with
 | lst l=>
   obtain ⟨p,o,vs,rfl,g,⟨⟨n,rfl⟩,hz⟩,r⟩:=r
   have ne:=kB I1 g
   refine wpAny_pyIter_list (show z1.s.heap.IsList p vs.toArray from ⟨_,I1.gh _ _ g,rfl,n,rfl⟩) (eP (wr:=[z1.s.heap.objs.size]) x1 I1 (.push (t:=z1.s.toks)) (Itr.walks (I1.hd hc) (by simp [r.len]) (fun A hA=>Walks.list hA _ p ne vs.toArray) (fun i h st b hb=>by rw [List.mem_singleton.mp hb];obtain ⟨⟨o,e,_⟩,_⟩:=st;exact ⟨o,e⟩) (fun st q=>let ⟨⟨o,e,c,d⟩,_⟩:=st;gv e c d (by decide) q) fun i v d p1 p2 ρ' G' h1 h2=>?_) ⟨⟨_,Heap.get?_push_size _ rfl,rfl,rfl⟩,⟨_,Heap.get?_push_of_some _ (I1.gh _ _ g),rfl,n,rfl⟩⟩ (fun b hb=>?_) e1)
   ·obtain ⟨v',w1,w2⟩:=(r.mono h1 h2).get p2
    rw [show vs[i]? = some v by simpa using p1] at w1;cases w1;exact w2
   ·rcases List.mem_cons.mp hb with w | w
    ·rw [w];exact .inl ⟨aB z1,_,Heap.get?_push_size _ rfl⟩
    ·rw [List.mem_singleton.mp w];exact .inr ⟨fun m=>ne (List.mem_singleton.mp m),_,g⟩
 | tup l=>
   obtain ⟨p,o,vs,rfl,g,⟨tc,⟨n,td⟩,hz⟩,r⟩:=r
   have ne:=kB I1 g
   refine wpAny_pyIter_tuple (show z1.s.heap.IsTuple p vs.toArray from ⟨_,I1.gh _ _ g,tc,n,td⟩) (eP (wr:=[z1.s.heap.objs.size]) x1 I1 (.push (t:=z1.s.toks)) (Itr.walks (I1.hd hc) (by simp [r.len]) (fun A hA=>Walks.tuple hA _ p ne vs.toArray) (fun i h st b hb=>by rw [List.mem_singleton.mp hb];obtain ⟨⟨o,e,_⟩,_⟩:=st;exact ⟨o,e⟩) (fun st q=>let ⟨⟨o,e,c,d⟩,_⟩:=st;gv e c d (by decide) q) fun i v d p1 p2 ρ' G' h1 h2=>?_) ⟨⟨_,Heap.get?_push_size _ rfl,rfl,rfl⟩,⟨_,Heap.get?_push_of_some _ (I1.gh _ _ g),tc,n,td⟩⟩ (fun b hb=>?_) e1)
   ·obtain ⟨v',w1,w2⟩:=(r.mono h1 h2).get p2
    rw [show vs[i]? = some v by simpa using p1] at w1;cases w1;exact w2
   ·rcases List.mem_cons.mp hb with w | w
    ·rw [w];exact .inl ⟨aB z1,_,Heap.get?_push_size _ rfl⟩
    ·rw [List.mem_singleton.mp w];exact .inr ⟨fun m=>ne (List.mem_singleton.mp m),_,g⟩
 | dic ks l=>
   obtain ⟨p,o,vs,rfl,hs,g,⟨es,ep,c1,c2,c3,c4,c5,hz⟩,hl,r⟩:=r
   have ne:=kB I1 g
   have dm:Heap.DictAt (bp X.W.P X.W.w) z1.s.heap p (ks.zip vs) ep:=⟨o,es,I1.gh _ _ g,c1,c2,c3,c4,c5⟩
   have lk:ks.length=vs.length:=hl.trans r.len
   have lz:(ks.zip vs).length=(ks.map tZ).length:=by rw [List.length_zip,List.length_map];omega
   refine wpAny_pyIter_dict hs dm (eP (ds:=ks.map tZ) (wr:=[z1.s.heap.objs.size]) x1 I1 (.push (t:=z1.s.toks)) (Itr.walks (I1.hd hc) lz.symm (fun A hA=>Walks.dictKeys (knd:=bp X.W.P X.W.w) hA _ p ne (ks.zip vs) ep) (fun i h st b hb=>by rw [List.mem_singleton.mp hb];obtain ⟨⟨o,e,_⟩,_⟩:=st;exact ⟨o,e⟩) (fun st q=>let ⟨⟨o,e,c,d⟩,_⟩:=st;gv e c d (by decide) q) fun i v d p1 p2 ρ' G' h1 h2=>?_) ⟨⟨_,Heap.get?_push_size _ rfl,rfl,rfl⟩,⟨o,es,Heap.get?_push_of_some _ (I1.gh _ _ g),c1,c2,c3,c4,c5⟩⟩ (fun b hb=>?_) e1)
   ·obtain ⟨k,u,w1,w2⟩:=p1
    have kk:ks[i]? = some k:=by
     have:=List.getElem?_zip_eq_some.mp w1;exact this.1
    rw [List.getElem?_map,kk] at p2
    cases p2
    rcases av w2 with ⟨j,t,rfl,rfl⟩ | ⟨x,t,rfl,rfl⟩
    ·exact ⟨t,rfl⟩
    ·exact ⟨t,rfl⟩
   ·rcases List.mem_cons.mp hb with w | w
    ·rw [w];exact .inl ⟨aB z1,_,Heap.get?_push_size _ rfl⟩
    ·rw [List.mem_singleton.mp w];exact .inr ⟨fun m=>ne (List.mem_singleton.mp m),_,g⟩
 | str y=>
   obtain ⟨t,rfl⟩:=r
   have e1:X.ev false (.itv a) z.t=Out.of z1.t ((if y.cps.all (· < 128)=true then some (y.cps.toList.map fun c=>D.str ⟨#[c]⟩) else none).map D.lst):=e1
   by_cases hy:y.cps.all (· < 128)=true
   ·rw [if_pos hy] at e1
    refine wpAny_pyIter_ascii hy (eP (ds:=y.cps.toList.map fun c=>.str ⟨#[c]⟩) (wr:=[z1.s.heap.objs.size]) x1 I1 (.push (t:=z1.s.toks)) (Itr.walks (I1.hd hc) (by simp) (fun A hA=>Walks.strAscii hA _ y t) (fun i h st b hb=>by rw [List.mem_singleton.mp hb];obtain ⟨o,e,_⟩:=st;exact ⟨o,e⟩) (fun st q=>let ⟨o,e,c,d⟩:=st;gv e c d (by decide) q) fun i v d p1 p2 ρ' G' h1 h2=>?_) ⟨_,Heap.get?_push_size _ rfl,rfl,rfl⟩ (fun b hb=>?_) e1)
    ·obtain ⟨c,u,w1,rfl⟩:=p1
     rw [List.getElem?_map,Array.getElem?_toList,w1] at p2
     cases p2;exact ⟨u,rfl⟩
    ·rw [List.mem_singleton.mp hb];exact .inl ⟨aB z1,_,Heap.get?_push_size _ rfl⟩
   ·rw [if_neg hy] at e1;exact absurd e1 nb
 | _=>exact absurd e1 nb
theorem rM {a:Int}:(i8 a n).length=n:=by simp [i8]
theorem oY {lo hi:Int} {t u v:Tok} {tk:Nat} {o:Out D} (hc:X.calm=true) (x:Ee X z z1) (I:Rep X z1) (h1:-(2 ^ 62)≤lo) (h2:lo<2 ^ 62) (h3:-(2 ^ 62)≤hi) (h4:hi<2 ^ 62) (e:o = .ok (.lst (i8 lo (hi - lo).toNat)) z1.t):wpAny X.M X.A (pyIter (.ref z1.s.heap.objs.size)) (FI X z tg o) NoE { z1.s with heap:=z1.s.heap.push { cls:=.type "range",data:=.fields #[.int lo t,.int hi u,.int 1 v] },toks:=tk }:=by
 refine wpAny_pyIter_range (IsRange.new ..) (small_one h1 h2 h3 h4) ?_
 have e2:(((hi - lo).toNat:Nat):Int) - ((0:Nat):Int)=Builtin.Range.rangeSize lo hi 1:=by rw [rangeSize_one];split <;> omega
 have g0:Gr z1.s { z1.s with heap:=z1.s.heap.push { cls:=.type "range",data:=.fields #[.int lo t,.int hi u,.int 1 v] },toks:=tk }:=.push
 refine eP (ds:=i8 lo (hi - lo).toNat) x I (g0.trans (.push (t:=tk))) (Itr.walks (I.hd hc) rM (fun A hA=>Walks.range hA _ lo 1 (hi - lo).toNat) (fun i h st b hb=>by rw [List.mem_singleton.mp hb];exact ⟨_,st⟩) (fun st q=>gv st rfl rfl (by decide) q) fun i v d p1 p2 ρ' G' _ _=>?_) ?_ (fun b hb=>?_) e
 ·obtain ⟨t,rfl⟩:=p1
  unfold i8 at p2
  rw [List.getElem?_map,Option.map_eq_some_iff] at p2
  obtain ⟨j,p3,rfl⟩:=p2
  obtain ⟨hj,hj2⟩:=List.getElem?_eq_some_iff.mp p3
  rw [List.getElem_range] at hj2
  subst hj2
  exact ⟨t,by rw [Int.mul_one]⟩
 ·show IsRangeIter _ _ (lo+((0:Nat):Int) * 1) ((((hi - lo).toNat:Nat):Int) - ((0:Nat):Int)) 1
  rw [e2,show lo+((0:Nat):Int) * 1=lo by simp]
  exact Heap.get?_push_size _ rfl
 ·rw [List.mem_singleton.mp hb];exact .inl ⟨Heap.get?_none_of_le (by rw [Heap.size_push];exact Nat.le_succ _),_,Heap.get?_push_size _ rfl⟩
theorem lO (hc:X.calm=true) (hx:Blt X "range" (.type "range")) (ha:LE X ea a) (he:starEach [ea] X.env=(false,eval ea X.env) :: starEach [] X.env):LI X tg (.Call (.Name "range" p) [ea] [] pos) (.it .range1 (.cons a .nil)):=fun z I nb=>
 aG (Q:=fun v s1=>wpAny X.M X.A (pyIter v) (FI X z tg (X.ev false (.it .range1 (.cons a .nil)) z.t)) NoE s1) (.inr ⟨_,rfl⟩) hx he rfl I (Calls.spliced_cons ((ha false).go .refl I (ev1 fun l s=>Out.of s ((itD .range1 l).map D.lst)) nb fun z1 x u y1 x1 I1 r1 e1=>Calls.spliced_nil (by
  cases x with
  | int j=>
    obtain ⟨t,rfl⟩:=r1.rd
    have e1:X.ev false (.it .range1 (.cons a .nil)) z.t=Out.of z1.t ((if -(2 ^ 62)≤j∧j<2 ^ 62 then some (i8 0 j.toNat) else none).map D.lst):=e1
    by_cases c:-(2 ^ 62)≤j∧j<2 ^ 62
    ·rw [if_pos c] at e1
     exact call_range_1 (oY hc x1 I1 (by omega) (by omega) c.1 c.2 (by rw [Int.sub_zero];exact e1))
    ·rw [if_neg c] at e1;exact absurd e1 nb
  | _=>exact absurd e1 nb)))
theorem kh:∀ {l:List D} {i:Nat} {j:Int},(cz j l)[i]? = (l[i]?).map fun d=>.tup [.int (j+i),d]
 | [],_,_=>by unfold cz;simp
 | a :: r,0,j=>by unfold cz;simp
 | a :: r,i+1,j=>by
   unfold cz
   rw [List.getElem?_cons_succ,List.getElem?_cons_succ,kh]
   congr 1;funext d;congr 3;omega
theorem iK:∀ {l:List D} {j:Int},(cz j l).length=l.length
 | [],_=>by unfold cz;rfl
 | a :: r,j=>by unfold cz;rw [List.length_cons,List.length_cons,iK]
theorem qU {es:List Expr} {k:Nat} {tp:Pos} (hc:X.calm=true) (hx:Blt X "enumerate" (.type "enumerate")) (ha:LE X ea a) (he:starEach [ea] X.env=(false,eval ea X.env) :: starEach [] X.env):LI X (.Tuple es k tp) (.Call (.Name "enumerate" p) [ea] [] pos) (.it .enum (.cons a .nil)):=fun z I nb=>
 aG (Q:=fun v s1=>wpAny X.M X.A (pyIter v) (FI X z (.Tuple es k tp) (X.ev false (.it .enum (.cons a .nil)) z.t)) NoE s1) (.inr ⟨_,rfl⟩) hx he rfl I (Calls.spliced_cons ((ha false).go .refl I (ev1 fun l s=>Out.of s ((itD .enum l).map D.lst)) nb fun z1 x u y1 x1 I1 r1 e1=>Calls.spliced_nil (by
  cases x with
  | lst l=>
    obtain ⟨a0,o,vs,rfl,g,⟨⟨n,rfl⟩,hz⟩,r⟩:=r1.rd
    have hlt:=Heap.lt_size (I1.gh _ _ g)
    refine call_enumerate_1 (I1.gh _ _ g) fun h' g1 g2 hsz kp=>wpAny_pyIter_enum g1 (eP (ds:=cz 0 l) x1 I1 (s2:={ z1.s with heap:=h' }) (.hp (t:=z1.s.toks) kp) (Itr.walksT (I1.hd hc) (by rw [iK];simp [r.len]) (fun A hA=>j9 (Draws.list (A:=A.in1) hA z1.s.heap.objs.size a0 (Nat.ne_of_lt hlt) vs.toArray) (z1.s.heap.objs.size+1) (Nat.succ_ne_self _) (nin _ 1 0 _ (by decide) hlt) List.mem_cons_self) (fun i h st b hb=>?_) (fun _ _ _ m=>m.2) fun i vals d p1 p2=>?_) ⟨⟨_,g1⟩,g2,⟨_,kp _ _ (I1.gh _ _ g),rfl,n,rfl⟩⟩ (fun b hb=>?_) e1)
    ·obtain ⟨⟨old,e1⟩,⟨o2,e2,_⟩,_⟩:=st
     rcases List.mem_cons.mp hb with w | w
     ·rw [w];exact ⟨_,e1⟩
     ·rw [List.mem_singleton.mp w];exact ⟨o2,e2⟩
    ·obtain ⟨t,v,p3,rfl⟩:=p1
     rw [kh,Option.map_eq_some_iff] at p2
     obtain ⟨d',p4,rfl⟩:=p2
     refine ⟨by simp [sizeLine_eq],_,rfl,fun ρ' G' h1 h2=>?_⟩
     obtain ⟨v',w1,w2⟩:=(r.mono h1 h2).get p4
     rw [show vs[i]? = some v by simpa using p3] at w1;cases w1
     exact .cons ⟨t,by rw [Int.zero_add]⟩ (.cons w2 rfl)
    ·rcases List.mem_cons.mp hb with w | w
     ·rw [w];exact .inl ⟨m7 (Nat.le_succ _),_,g1⟩
     ·rcases List.mem_cons.mp w with w | w
      ·obtain ⟨o2,e2,_⟩:=g2
       rw [w];exact .inl ⟨aB z1,_,e2⟩
      ·rw [List.mem_singleton.mp w]
       refine .inr ⟨fun m=>?_,_,g⟩
       rcases List.mem_cons.mp m with q | q
       ·exact Nat.ne_of_lt (Nat.lt_succ_of_lt hlt) q
       ·exact Nat.ne_of_lt hlt (List.mem_singleton.mp q)
  | _=>exact absurd e1 nb)))
end
def fK (env:Env):NK→List (Str×Addr)→List (Str×Addr)
 | [],cs=>cs
 | y :: r,cs=>fK env r (if (y.2 == NameKind.free)=true then (match env.cells.lookup y.1 with | some a=>(y.1,a) :: cs | none=>cs) else cs)
theorem bZ :∀ {l:List (Str×β)} {p:Str×β},p∈l→∃ c,l.lookup p.1=some c
 | [],_,h=>nomatch h
 | (a,b) :: r,p,h=>by
   cases e:p.1 == a with
   | true=>exact ⟨b,by simp only [List.lookup_cons,e]⟩
   | false=>
     rcases List.mem_cons.mp h with q | q
     ·subst q;simp at e
     ·obtain ⟨c,hc⟩:=bZ q
      exact ⟨c,by simp only [List.lookup_cons,e];exact hc⟩
theorem iH :∀ {ns} {cs} {p:Str×Addr},p∈fK env ns cs→p∈cs∨env.cells.lookup p.1=some p.2
 | [],_,_,h=>.inl h
 | y :: r,cs,p,h=>by
   rcases iH (ns:=r) h with q | q
   ·by_cases hk:(y.2 == NameKind.free)=true
    ·rw [if_pos hk] at q
     cases e:env.cells.lookup y.1 with
     | none=>rw [e] at q;exact .inl q
     | some a=>
       rw [e] at q
       rcases List.mem_cons.mp q with rfl | q
       ·exact .inr e
       ·exact .inl q
    ·rw [if_neg hk] at q;exact .inl q
   ·exact .inr q
theorem fZ :∀ {ns} {cs} {p:Str×Addr},p∈cs→p∈fK env ns cs
 | [],_,_,h=>h
 | y :: r,cs,p,h=>by
   refine fZ (ns:=r) ?_
   by_cases hk:(y.2 == NameKind.free)=true
   ·rw [if_pos hk]
    cases e:env.cells.lookup y.1 with
    | none=>exact h
    | some a=>exact List.mem_cons_of_mem _ h
   ·rw [if_neg hk];exact h
theorem eH :∀ {ns} {cs} {y:Str×NameKind} {c},y∈ns→y.2 = .free→env.cells.lookup y.1=some c→(y.1,c)∈fK env ns cs
 | z :: r,cs,y,c,h,hf,hc=>by
   rcases List.mem_cons.mp h with rfl | h
   ·refine fZ (ns:=r) ?_
    rw [if_pos (by rw [hf];rfl),hc]
    exact List.mem_cons_self
   ·exact eH (ns:=r) h hf hc
theorem dh
 (hf:∀ y cs,f y cs=if (y.2 == NameKind.free)=true then (do let a ← cellOf env y.1;pure (ForInStep.yield ((y.1,a) :: cs))) else pure (ForInStep.yield cs)) :
 ∀ (ns) (cs),(∀ y∈ns,y.2 = .free→∃ c,env.cells.lookup y.1=some c)→(forIn ns cs f:Sem _)=pure (fK env ns cs)
 | [],cs,_=>rfl
 | y :: r,cs,h=>by
   rw [List.forIn_cons,hf]
   by_cases hk:(y.2 == NameKind.free)=true
   ·obtain ⟨c,hc⟩:=h y List.mem_cons_self (by simpa using hk)
    have e1:cellOf env y.1=pure c:=by unfold cellOf;rw [hc]
    rw [if_pos hk,e1]
    have ih:=dh hf r ((y.1,c) :: cs) fun z hz=>h z (List.mem_cons_of_mem _ hz)
    show (forIn r ((y.1,c) :: cs) f:Sem _)=pure (fK env r _)
    rw [ih,if_pos hk,hc]
   ·have ih:=dh hf r cs fun z hz=>h z (List.mem_cons_of_mem _ hz)
    rw [if_neg hk]
    show (forIn r cs f:Sem _)=pure (fK env r _)
    rw [ih,if_neg hk]
theorem jA (h:∀ y∈sc.names,y.2 = .free→∃ c,env.cells.lookup y.1=some c):closureFor sc env=pure (fK env sc.names []):=by
 simp only [closureFor]
 rw [dh (env:=env) (fun y cs=>by obtain ⟨n,kd⟩:=y;by_cases hk:(kd == NameKind.free)=true <;> simp [hk]) sc.names [] h]
 rfl
def cxC (X:Cx) (N:List Str) (sc:Scope) (C:Addr):Cx:={ X with N:=N,env:=compEnvC sc (fK X.env sc.names []) C X.env }
def gH (sc:Scope) (env:Env) (p:Str×Str):Bool:=match (relabel sc env).names.lookup p.1 with
 | some .local=>false
 | some .cell=>p.1 == p.2
 | some .free=>p.1 == p.2
 | _=>true
structure Lcn (X:Cx) (sc:Scope) (k:Nat) (N:List Str):Prop where
 nocell:∀ y∈sc.names,y.2≠.cell
 kind:sc.kind = .function
 names:∀ y∈sc.names,y.2 = .local→sc.names.lookup y.1=some .local
 fr:∀ y∈sc.names,y.2 = .free→X.env.kindOf y.1=some .cell∨X.env.kindOf y.1=some .free
 len:N.length=k+X.N.length
 old:((N.drop k).zip X.N).all (gH sc X.env)=true
theorem wL (h1:(sc.names.all fun y=>y.2 != .cell)=true) (h2:sc.kind = .function) (h3:(sc.names.all fun y=>y.2 != .local || sc.names.lookup y.1 == some .local)=true)
 (h4:(sc.names.all fun y=>y.2 != .free || (X.env.kindOf y.1 == some .cell || X.env.kindOf y.1 == some .free))=true) (h5:N.length=k+X.N.length) (h6:((N.drop k).zip X.N).all (gH sc X.env)=true):Lcn X sc k N where
 nocell:=fun y hy=>by have:=List.all_eq_true.mp h1 y hy;simpa using this
 kind:=h2
 names:=fun y hy hl=>by have:=List.all_eq_true.mp h3 y hy;simpa [hl] using this
 fr:=fun y hy hl=>by have:=List.all_eq_true.mp h4 y hy;simpa [hl] using this
 len:=h5
 old:=h6
section
variable {X:Cx} {sc:Scope} {k:Nat} {N:List Str} {z z' z0 z1:Z} {C:Addr}
theorem Lcn.cells (L:Lcn X sc k N) (ok:COk X):∀ y∈sc.names,y.2 = .free→∃ c,X.env.cells.lookup y.1=some c:=fun y hy hf=>ok.ch y.1 (L.fr y hy hf)
theorem iI (e:(fK X.env sc.names []).lookup x=some c):X.env.cells.lookup x=some c:=by
 rcases iH (PySem.mem_of_lookup e) with q | q
 ·exact nomatch q
 ·exact q
theorem bQ (L:Lcn X sc k N) (e:(relabel sc X.env).names.lookup x=some kd) (hk:kd = .cell∨kd = .free):(x,NameKind.free)∈sc.names:=by
 have hm:=PySem.mem_of_lookup e
 obtain ⟨⟨n,k'⟩,hy,q⟩:=List.mem_map.mp hm
 dsimp only at q
 by_cases hc:(k' == NameKind.free && X.env.scope.kind == .function && X.env.kindOf n == some .cell)=true
 ·rw [if_pos hc] at q
  have e1:n=x:=congrArg Prod.fst q
  have e2:k' = .free:=by simp at hc;exact hc.1.1
  subst e1 e2
  exact hy
 ·rw [if_neg hc] at q
  have e1:n=x:=congrArg Prod.fst q
  have e2:k'=kd:=congrArg Prod.snd q
  subst e1 e2
  rcases hk with rfl | rfl
  ·exact absurd rfl (L.nocell _ hy)
  ·exact hy
theorem lG (L:Lcn X sc k N) (hi:N[i]? = some x) (hk:k≤i) (v:Vis (relabel sc X.env) x):X.N[i - k]? = some x∧(x,NameKind.free)∈sc.names:=by
 have hlt:i<N.length:=(List.getElem?_eq_some_iff.mp hi).1
 have hl:=L.len
 have h2:i - k<X.N.length:=by omega
 have e1:(N.drop k)[i - k]? = some x:=by rw [List.getElem?_drop];rw [show k+(i - k)=i by omega];exact hi
 have e2:X.N[i - k]? = some X.N[i - k]:=List.getElem?_eq_getElem h2
 have hz:((N.drop k).zip X.N)[i - k]? = some (x,X.N[i - k]):=by rw [List.getElem?_zip_eq_some];exact ⟨e1,e2⟩
 have ho:=List.all_eq_true.mp L.old _ (List.mem_of_getElem? hz)
 have v':(relabel sc X.env).names.lookup x=some .local∨(relabel sc X.env).names.lookup x=some .cell∨(relabel sc X.env).names.lookup x=some .free:=v
 unfold gH at ho
 rcases v' with q | q | q
 ·simp only [q] at ho;cases ho
 ·simp only [q] at ho
  have e3:x=X.N[i - k]:=by simpa using ho
  exact ⟨by rw [e2,← e3],bQ L q (.inl rfl)⟩
 ·simp only [q] at ho
  have e3:x=X.N[i - k]:=by simpa using ho
  exact ⟨by rw [e2,← e3],bQ L q (.inr rfl)⟩
theorem HR.cx (I:HR X z):HR (cxC X N sc C) z:=⟨I.md,I.fm,I.hd,I.bs,I.gh,I.rl,I.rn,I.rg,I.ob,I.fu,I.ff,I.br,I.os,I.tk⟩
theorem HR.out (I:HR (cxC X N sc C) z):HR X z:=⟨I.md,I.fm,I.hd,I.bs,I.gh,I.rl,I.rn,I.rg,I.ob,I.fu,I.ff,I.br,I.os,I.tk⟩
theorem sQ (h:Lc (cxC X N sc C) a):a=C∨Lc X a:=h.imp_right fun ⟨x,e⟩=>.inr ⟨x,iI e⟩
theorem nU {s':Shared} {m:Str→Option Value} (L:Lcn X sc k N) (I:Rep X z) (ow:z.t.ow = []) (g:Gr z.s s') (hC:z.h C=none) (hn:s'.heap.Ns C m) (tk:X.tz≤s'.toks:=by first | assumption | exact HR.tk (by assumption) | exact HR.tk1 (by assumption) | exact (Rep.toHR (by assumption)).tk | exact (Rep.toHR (by assumption)).tk1 | exact Nat.le_succ_of_le (by assumption)):Rep (cxC X N sc C) ⟨z.ρ,z.G,⟨List.replicate k none ++ z.t.env,[],z.t.st⟩,List.replicate k none ++ z.σ,s'⟩:=by
 have H:=(I.toHR.grow (am I.gh g) tk).cx (N:=N) (sc:=sc) (C:=C)
 have ck:∀ {c:Addr} {v:Option Value},z.s.heap.IsCell c v→s'.heap.IsCell c v:=fun ⟨o,e,d⟩=>⟨o,g.k _ o e,d⟩
 have fC:=I.fre hC
 refine ⟨⟨H.md,H.fm,H.hd,H.bs,H.gh,H.rl,H.rn,H.rg,H.ob,H.fu,H.ff,H.br,H.os,H.tk⟩,⟨I.ok.un,L.kind,I.ok.gl,I.ok.bl,fun x y c h1 h2=>I.ok.ci x y c (iI h1) (iI h2),fun x hx=>?_⟩,⟨m,hn,fun i x v h1 h2 h3=>?_⟩,fun x c e=>let ⟨v,q⟩:=I.ce x c (iI e);⟨v,ck q⟩,fun a l=>?_,by show (List.replicate k none ++ z.t.env).length=(List.replicate k none ++ z.σ).length;rw [List.length_append,List.length_append,I.el];simp,by show (List.replicate k none ++ z.σ).length=N.length;rw [List.length_append,List.length_replicate,L.len,I.sl],fun i d _ e=>?_,(fun i m=>nomatch m),(fun i j a m=>nomatch m)⟩
 ·have hx':(relabel sc X.env).names.lookup x=some .cell∨(relabel sc X.env).names.lookup x=some .free:=hx
  have hm:(x,NameKind.free)∈sc.names:=by
   rcases hx' with q | q
   ·exact bQ L q (.inl rfl)
   ·exact bQ L q (.inr rfl)
  obtain ⟨c,hc⟩:=L.cells I.ok _ hm rfl
  exact bZ (eH hm rfl hc)
 ·have hki:k≤i:=by
   by_cases q:i<k
   ·rw [List.getElem?_append_left (by simpa using q),List.getElem?_replicate,if_pos q] at h2
    cases h2
   ·omega
  rw [List.getElem?_append_right (by simpa using hki),List.length_replicate] at h2
  obtain ⟨hx,hm⟩:=lG L h1 hki h3
  have hkx:=L.fr _ hm rfl
  have hvis:Vis X.env.scope x:=by
   rcases hkx with q | q
   ·exact .inr (.inl q)
   ·exact .inr (.inr q)
  obtain ⟨m0,_,hl⟩:=I.lo
  rcases hl (i - k) x v hx h2 hvis with ⟨q,_⟩ | ⟨_,c,hc,hcell⟩
  ·rcases hkx with z | z
   ·rw [show X.env.kindOf x=some .cell from z] at q;cases q
   ·rw [show X.env.kindOf x=some .free from z] at q;cases q
  ·obtain ⟨c',hc'⟩:=bZ (eH hm rfl hc)
   have e:=iI hc'
   rw [hc] at e;cases e
   refine .inr ⟨?_,c,hc',ck hcell⟩
   have v':(relabel sc X.env).names.lookup x=some .local∨(relabel sc X.env).names.lookup x=some .cell∨(relabel sc X.env).names.lookup x=some .free:=h3
   rcases v' with z | z | z
   ·exfalso
    have hlt:i<N.length:=(List.getElem?_eq_some_iff.mp h1).1
    have hl':=L.len
    have h2':i - k<X.N.length:=by omega
    have hz:((N.drop k).zip X.N)[i - k]? = some (x,X.N[i - k]):=by
     rw [List.getElem?_zip_eq_some]
     exact ⟨by rw [List.getElem?_drop,show k+(i - k)=i by omega];exact h1,List.getElem?_eq_getElem h2'⟩
    have ho:=List.all_eq_true.mp L.old _ (List.mem_of_getElem? hz)
    unfold gH at ho
    simp only [z] at ho
    cases ho
   ·exact .inl z
   ·exact .inr z
 ·rcases sQ l with rfl | l
  ·exact ⟨fC.1.1,fC.1.2.1⟩
  ·exact I.fl a l
 ·have hki:k≤i:=by
   by_cases q:i<k
   ·have e:(List.replicate k none ++ z.t.env)[i]? = some (some d):=e
    rw [List.getElem?_append_left (by simpa using q),List.getElem?_replicate,if_pos q] at e
    cases e
   ·omega
  have e:(List.replicate k none ++ z.t.env)[i]? = some (some d):=e
  rw [List.getElem?_append_right (by simpa using hki),List.length_replicate] at e
  obtain ⟨u,e1,r⟩:=I.en (i - k) d (by rw [ow];exact nofun) e
  exact ⟨u,by show (List.replicate k none ++ z.σ)[i]? = _;rw [List.getElem?_append_right (by simpa using hki),List.length_replicate];exact e1,r⟩
theorem nQ {zr:Z} (I:Rep X z) (Ir:Rep X zr) (er:zr.t.env=z.t.env∧zr.σ=z.σ∧zr.t.ow = []) (S:Stp X.fr (Own z) z z') (H:HR X z') (pr:zr.ρ <+: z'.ρ) (gg:Sub zr.G z'.G):Rep X { z' with t:=⟨z.t.env,[],z'.t.st⟩,σ:=z.σ }:=by
 have sl:∀ b o,z.h b=some o→¬ Mu z.ρ b→¬ Own z b→∃ sl,z'.s.heap.get? b=some { o with slots:=sl }:=fun b o e n w=>by
  by_cases f:b∈frs X.fr
  ·exact S.sl b o e n w f
  ·exact ⟨o.slots,S.sm b o e n w f⟩
 have nO:∀ {a},Lc X a→¬ Own z a:=fun l w=>(I.oth w).1.2.2.2 l
 have ck:∀ x c v,X.env.cells.lookup x=some c→z.s.heap.IsCell c v→z'.s.heap.IsCell c v:=fun x c v e ⟨o,q,d⟩=>by
  have l:Lc X c:=.inr ⟨x,e⟩
  obtain ⟨s,q2⟩:=sl c o q (I.fl c l).2 (nO l)
  exact ⟨_,q2,d⟩
 refine ⟨⟨H.md,H.fm,H.hd,H.bs,H.gh,H.rl,H.rn,H.rg,H.ob,H.fu,H.ff,H.br,H.os,H.tk⟩,I.ok,?_,fun x c e=>let ⟨v,q⟩:=I.ce x c e;⟨v,ck x c v e q⟩,fun a l=>⟨?_,fun m=>(S.rn a m).elim (I.fl a l).2 fun w=>?_⟩,I.el,I.sl,fun i d _ e=>?_,(fun i m=>nomatch m),(fun i j a m=>nomatch m)⟩
 ·obtain ⟨m,⟨oL,es,ep,q,r⟩,hl⟩:=I.lo
  have l:Lc X X.env.locals:=.inl rfl
  obtain ⟨s,q2⟩:=sl _ _ q (I.fl _ l).2 (nO l)
  exact ⟨m,⟨_,es,ep,q2,r⟩,fun j x w e1 e2 e3=>cL (fun c v e q=>ck x c v e q) (hl j x w e1 e2 e3)⟩
 ·cases q:z'.G a with
  | none=>rfl
  | some o=>
    obtain ⟨o1,e1⟩:=I.lth l
    rcases S.gn a o q with w | w | w
    ·rw [(I.fl a l).1] at w;cases w
    ·rw [w] at e1;cases e1
    ·exact absurd w (nO l)
 ·obtain ⟨o1,e1⟩:=I.lth l
  rw [w] at e1;cases e1
 ·obtain ⟨u,e1,r⟩:=Ir.en i d (by rw [er.2.2];exact nofun) (by rw [er.1];exact e)
  exact ⟨u,er.2.1 ▸ e1,r.mono pr gg⟩
def LTs (Y:Cx) (ifs:List Expr) (c:E):Prop:=Jg Y (forIn ifs true fun c r=>if r=true then do let ok ← isTrue c Y.env (eval c Y.env);pure (ForInStep.yield ok) else pure (ForInStep.yield r)) (fun t=>(Y.ev true c t).bind toB) RT
theorem rz:LTs X [] (.c (.bl true)):=fun z I nb=>wpAny_tests_nil ⟨z,true,rfl,rfl,.refl,I,rfl⟩
theorem rA (h:LT X e c):LTs X [e] c:=fun z I nb=>wpAny_tests_one (h z I nb)
def lcF (X:Cx) (t:List Nat) (one:Bool) (elt cond:E) (d:D) (s':Sta):Out (Option D):=match aE t one d s'.env with
 | some env=>(X.ev true cond ⟨env,[],s'.st⟩).bind fun b s2=>(match b with
   | .bl true=>(X.ev false elt s2).bind fun e s3=>.ok (some e) ⟨s3.env,[],s3.st⟩
   | .bl false=>.ok none ⟨s2.env,[],s2.st⟩
   | _=>.bad)
 | none=>.bad
theorem Ee.nil (x:Ee X z z') (h:z.t.ow = []):z'.t.ow = []∧Stp X.fr (fun _=>False) z z':=⟨List.eq_nil_iff_forall_not_mem.mpr (fun i m=>by have:=x.ow i m;rw [h] at this;exact nomatch this),x.st.mono fun a ⟨i,m,_⟩=>by rw [h] at m;exact nomatch m⟩
theorem lh {t:Sta} (h:t.ow = []):(⟨t.env,[],t.st⟩:Sta)=t:=by cases t;cases h;rfl
end
structure Wr (S ch:List Addr) (h h':Heap):Prop where
 keep:∀ b o,h.get? b=some o→b ∉ S→b ∉ ch→h'.get? b=some o
 slot:∀ b o,h.get? b=some o→b ∉ ch→∃ sl,h'.get? b=some { o with slots:=sl }
 there:∀ b o,h.get? b=some o→∃ o',h'.get? b=some o'
section
variable {S ch ch':List Addr} {h h1 h2 h':Heap}
theorem Wr.trans (x:Wr S ch h h1) (y:Wr S ch h1 h2):Wr S ch h h2:=
 ⟨fun b o e n m=>y.keep b o (x.keep b o e n m) n m,fun b o e m=>let ⟨_,e1⟩:=x.slot b o e m;let ⟨sl,e2⟩:=y.slot b _ e1 m;⟨sl,e2⟩,fun b o e=>let ⟨_,e1⟩:=x.there b o e;y.there b _ e1⟩
theorem Wr.mono (x:Wr S ch h h') (k:∀ b∈ch,b∈ch'):Wr S ch' h h':=⟨fun b o e n m=>x.keep b o e n fun z=>m (k b z),fun b o e m=>x.slot b o e fun z=>m (k b z),x.there⟩
theorem Wr.kept (k:∀ b o,h.get? b=some o→h'.get? b=some o):Wr S ch h h':=⟨fun b o e _ _=>k b o e,fun b o e _=>⟨o.slots,k b o e⟩,fun b o e=>⟨o,k b o e⟩⟩
theorem Wr.set (ho:h.get? a=some o) (hd:o.data = .fields vs) (g:Array Value→Array Value):Wr S [a] h (h.update a (Obj.mapFields g)):=by
 have ot:∀ b,b≠a→(h.update a (Obj.mapFields g)).get? b=h.get? b:=fun b n=>Heap.get?_update_other h _ fun z=>n z.symm
 have nm:∀ b,b ∉ [a]→b≠a:=fun b m z=>m (by rw [z];exact List.mem_cons_self)
 refine ⟨fun b u e _ m=>by rw [ot b (nm b m)];exact e,fun b u e m=>⟨u.slots,by rw [ot b (nm b m)];exact e⟩,fun b u e=>?_⟩
 by_cases z:b=a
 ·subst z
  exact ⟨_,Heap.get?_update_self _ ho (Obj.isFreed_of_fields (Obj.data_mapFields hd g))⟩
 ·exact ⟨u,by rw [ot b z];exact e⟩
theorem Wr.slots (x:Heap.SlotsOnly S h h'):Wr S ch h h':=⟨fun b o e n _=>(x.2.1 b n).trans e,fun b o e _=>x.2.2 b o e,fun b o e=>let ⟨_,q⟩:=x.2.2 b o e;⟨_,q⟩⟩
end
theorem eJ (g:Array Value→Array Value) (o):(Obj.mapFields g o).dict=o.dict:=by
 obtain ⟨c,d,dt,sl⟩:=o
 cases dt <;> rfl
section
variable {M:Model} {A:Around} {E:Value→Shared→Prop} {s:Shared} {a T L:Addr} {cls fl:Value} {dx:Option Addr} {Q:Unit→Shared→Prop} {base:Heap} {env:Env} {outer:List Env} {S:List Addr}
theorem j0 (t:Tr s.heap a cls dx T fl) (hQ:∀ h',Tr h' a cls dx T (fr.elim .none fun f=>rawInt f)→Wr S [T] s.heap h'→Q () { s with heap:=h' }):wpAny M A (setFlight (.ref a) fr) Q E s:=by
 obtain ⟨oe,vs,oT,ts,he,hc,hd,h1,ne,hT,hdT,h3⟩:=t
 have z3:=(Array.getElem?_eq_some_iff.mp h3).1
 unfold setFlight
 refine wpAny_bind (wpAny_field he hd h1 ?_)
 rw [if_pos (show (Value.ref T != Value.none)=true by simp)]
 refine wpAny_setField hT hdT z3 (hQ _ ?_ (Wr.set hT hdT _))
 have dT:=Obj.data_mapFields hdT (·.setIfInBounds 3 (fr.elim Value.none fun f=>rawInt f))
 exact ⟨oe,vs,_,_,(Heap.get?_update_other _ _ ne).trans he,hc,hd,h1,ne,Heap.get?_update_self _ hT (Obj.isFreed_of_fields dT),dT,by simp [z3]⟩
theorem entry (hfr:A.frames=some (env :: outer)) (hl:s.heap.FunFrames base (env :: outer)) (hf:env.frame=some L) (he:s.heap.get? a=some oe) (hd:oe.data = .fields vs) (hz:1<vs.size)
 (hQ:∀ h' T,s.heap.get? T=none→Tr h' a oe.cls oe.dict T (rawInt L)→Wr (frs (env :: outer)) [a] s.heap h'→Q () { s with heap:=h' }) :
 wpAny M A (do let x ← frameOf env;let pl ← entryPlaceOf L hn;let b ← EntryCells.newEntry head x .none (rawInt L) .none pl;setField (.ref a) 1 b) Q E s:=by
 have na:a ∉ (env :: outer).filterMap (·.frame):=fun m=>by
  obtain ⟨_,o,ho,nf⟩:=hl.mem m
  rw [he] at ho
  cases ho
  exact nf vs hd
 refine wpAny_bind (wpAny_frameOf_fun hfr hl hf fun g hg=>wpAny_bind (wpAny_entryPlaceOf fun pl hp=>?_))
 unfold EntryCells.newEntry newFields;refine wpAny_bind (wpAny_newObj_type ?_ (IsPlace.sizeOk5 hp _ _ _ _ _))
 have ea:g.get? a=some oe:=(hg.2.1 a na).trans he
 generalize hu:([head,Value.ref L,Value.none,rawInt L,Value.none] ++ (if pl.isEmpty then List.replicate 6 Value.none else pl)).toArray=us
 have u3:us[3]? = some (rawInt L):=by rw [← hu];rfl
 have ea2:=Heap.get?_push_of_some (h:=g) { cls:=.type "traceback",dict:=none,data:=.fields us } ea
 have nT:g.objs.size≠a:=Nat.ne_of_gt (Heap.lt_size ea)
 refine wpAny_setField ea2 hd hz (hQ _ g.objs.size ?_ ?_ ?_)
 ·rw [hg.1];exact Heap.get?_none_of_le (Nat.le_refl _)
 ·have da:=Obj.data_mapFields hd (·.setIfInBounds 1 (Value.ref g.objs.size))
  exact ⟨_,_,_,us,Heap.get?_update_self _ ea2 (Obj.isFreed_of_fields da),⟨Obj.cls_mapFields _ _,eJ _ _⟩,da,by simp [hz],nT,(Heap.get?_update_other _ _ (Ne.symm nT)).trans (Heap.get?_push_size g rfl),rfl,u3⟩
 ·exact (Wr.slots (ch:=[a]) hg).trans ((Wr.kept fun b o e=>Heap.get?_push_of_some _ e).trans (Wr.set ea2 hd _))
theorem oP (hfr:A.frames=some (env :: outer)) (hl:s.heap.FunFrames base (env :: outer)) (hf:env.frame=some L) (x:Rw s.heap a cls dx)
 (hQ:∀ h' T,s.heap.get? T=none→Tr h' a cls dx T (rawInt L)→Wr (frs (env :: outer)) [a] s.heap h'→Q () { s with heap:=h' }):wpAny M A (noteFrame (.ref a) env) Q E s:=by
 obtain ⟨oe,vs,he,⟨rfl,rfl⟩,hd,h1⟩:=x
 unfold noteFrame
 simp only [hf]
 refine wpAny_bind (wpAny_field he hd h1 ?_)
 rw [if_neg (by decide)]
 exact entry hfr hl hf he hd (Array.getElem?_eq_some_iff.mp h1).1 hQ
theorem lW (hfr:A.frames=some (env :: outer)) (hl:s.heap.FunFrames base (env :: outer)) (hf:env.frame=some L) (x:Tr s.heap a cls dx T .none)
 (hQ:∀ h' T',s.heap.get? T'=none→Tr h' a cls dx T' (rawInt L)→Wr (frs (env :: outer)) [a,T] s.heap h'→Q () { s with heap:=h' }):wpAny M A (noteFrame (.ref a) env) Q E s:=by
 obtain ⟨oe,vs,oT,ts,he,⟨rfl,rfl⟩,hd,h1,ne,hT,hdT,h3⟩:=x
 unfold noteFrame
 simp only [hf]
 refine wpAny_bind (wpAny_field he hd h1 ?_)
 rw [if_pos (show (Value.ref T != Value.none)=true by simp)]
 refine wpAny_bind (wpAny_field hT hdT h3 ?_)
 rw [if_neg (show ¬ ((Value.none == rawInt L)=true) by simp [rawInt])]
 refine wpAny_bind (wpAny_setField hT hdT (Array.getElem?_eq_some_iff.mp h3).1 ?_)
 have w1:Wr (frs (env :: outer)) [T] s.heap _:=Wr.set hT hdT (·.setIfInBounds 3 Value.none)
 refine entry hfr (hl.of_keeps fun b o e nf=>⟨o,?_,rfl⟩) hf ((Heap.get?_update_other _ _ ne).trans he) hd (Array.getElem?_eq_some_iff.mp h1).1 fun h' T' n t w=>hQ h' T' ?_ t ((w1.mono (by simp)).trans (w.mono (by simp)))
 ·refine (Heap.get?_update_other _ _ fun z=>?_).trans e
  subst z
  rw [hT] at e
  cases e
  exact nf ts hdT
 ·cases q:s.heap.get? T' with
  | none=>rfl
  | some o=>
    obtain ⟨o',e'⟩:=w1.there T' o q
    rw [n] at e'
    cases e'
theorem lV (hf:env.frame=some L) (x:Tr s.heap a cls dx T (rawInt L)) (hQ:Q () s):wpAny M A (noteFrame (.ref a) env) Q E s:=by
 obtain ⟨oe,vs,oT,ts,he,⟨rfl,rfl⟩,hd,h1,ne,hT,hdT,h3⟩:=x
 unfold noteFrame
 simp only [hf]
 refine wpAny_bind (wpAny_field he hd h1 ?_)
 rw [if_pos (show (Value.ref T != Value.none)=true by simp)]
 refine wpAny_bind (wpAny_field hT hdT h3 ?_)
 rw [if_pos (show (rawInt L == rawInt L)=true by simp)]
 exact wpAny_pure hQ
end
section
variable {X:Cx} {z z' z0 z1:Z} {M:Model} {w:Addr→Prop}
theorem mV {h h':Heap}:∀ {l:List Env},h.FunFrames base l→(∀ b∈frs l,∀ o,h.get? b=some o→∃ sl,h'.get? b=some { o with slots:=sl })→h'.FunFrames base l
 | [],_,_=>trivial
 | v :: r,⟨a,⟨L,o,e1,e2,e3,e4⟩,q⟩,k=>by
   have hm:L∈frs (v :: r):=by unfold frs;rw [List.filterMap_cons,e1];exact List.mem_cons_self
   obtain ⟨sl,e5⟩:=k L hm o e3
   exact ⟨a,⟨L,_,e1,e2,e5,e4⟩,mV q fun b hb=>k b (by unfold frs;rw [List.filterMap_cons,e1];exact List.mem_cons_of_mem _ hb)⟩
theorem Rep.wr {h':Heap} {ch:List Addr} {t:Nat} (I:Rep X z) (y:Wr (frs X.fr) ch z.s.heap h') (hc:∀ b∈ch,Fre X z b∧¬ Own z b) (tk:X.tz≤t:=by first | assumption | exact HR.tk (by assumption) | exact HR.tk1 (by assumption) | exact (Rep.toHR (by assumption)).tk | exact (Rep.toHR (by assumption)).tk1 | exact Nat.le_succ_of_le (by assumption)):Rep X { z with s:={ z.s with heap:=h',toks:=t } }:=by
 have nG:∀ {b o},z.G b=some o→z.h b=some o→h'.get? b=some o:=fun e e'=>y.keep _ _ e' (fun m=>by rw [(I.ff _ m).1] at e;cases e) fun m=>by rw [(hc _ m).1.1] at e;cases e
 have sl:∀ b,Lc X b→∀ o,z.s.heap.get? b=some o→∃ sl,h'.get? b=some { o with slots:=sl }:=fun b l o e=>y.slot b o e fun m=>(hc b m).1.2.2.2 l
 have ck:∀ x c v,X.env.cells.lookup x=some c→z.s.heap.IsCell c v→h'.IsCell c v:=fun x c v e ⟨o,q,d⟩=>let ⟨_,q2⟩:=sl c (.inr ⟨x,e⟩) o q;⟨_,q2,d⟩
 refine ⟨⟨I.md,I.fm,I.hd,I.bs,fun b o e=>nG e (I.gh b o e),I.rl,I.rn,I.rg,fun n o p h1 h2=>(I.ob n o p h1 h2).mono (List.prefix_refl _) (.refl _) fun b hb o e=>?_,mV I.fu fun b hb o e=>y.slot b o e fun m=>(hc b m).1.2.2.1 hb,I.ff,I.br,I.os,tk⟩,I.ok,?_,fun x c e=>let ⟨v,q⟩:=I.ce x c e;⟨v,ck x c v e q⟩,I.fl,I.el,I.sl,I.en,fun i m=>?_,I.od⟩
 ·have mu:Mu z.ρ b:=⟨p,List.mem_of_getElem? h2,hb⟩
  exact y.keep b o e (fun m=>(I.ff b m).2 mu) fun m=>(hc b m).1.2.1 mu
 ·obtain ⟨m,⟨oL,es,ep,q,r⟩,hl⟩:=I.lo
  obtain ⟨_,q2⟩:=sl _ (.inl rfl) _ q
  exact ⟨m,⟨_,es,ep,q2,r⟩,fun j x w e1 e2 e3=>cL (fun c v e q=>ck x c v e q) (hl j x w e1 e2 e3)⟩
 ·obtain ⟨d,a,o,h1,h2,h3,r,f⟩:=I.eo i m
  exact ⟨d,a,o,h1,h2,h3,r.mono (List.prefix_refl _) (.refl _) fun b hb o e=>y.keep b o e (by rcases hb with rfl | rfl <;> exact f.2.2.1) fun mm=>(hc b mm).2 (by rcases hb with rfl | rfl <;> exact ⟨i,m,h2⟩),f⟩
theorem Stp.wr {h':Heap} {ch:List Addr} {t:Nat} (x:Stp fr w z0 z) (y:Wr (frs fr) ch z.s.heap h') (hc:∀ b∈ch,z0.h b=none):Stp fr w z0 { z with s:={ z.s with heap:=h',toks:=t } }:=by
 have nc:∀ {b o},z0.h b=some o→b ∉ ch:=fun e m=>by rw [hc _ m] at e;cases e
 refine ⟨x.pr,x.gg,x.gn,x.rn,fun a o e=>let ⟨o',e'⟩:=x.th a o e;y.there a o' e',fun a o e n m f=>y.keep a o (x.sm a o e n m f) f (nc e),fun a o e n m f=>?_⟩
 obtain ⟨sl,e1⟩:=x.sl a o e n m f
 obtain ⟨sl2,e2⟩:=y.slot a _ e1 (nc e)
 exact ⟨sl2,e2⟩
structure iC (X:Cx):Prop where
 fr:∃ e0 outer,X.fr=e0 :: outer∧e0.frame=X.env.frame
 frame:∃ L,X.env.frame=some L
theorem rF {c d:Env} (h:c.frame=d.frame) (e:Value):noteFrame e c=noteFrame e d:=by unfold noteFrame PySem.frameOf;rw [h]
inductive XN (X:Cx) (w:Addr→Prop) (z z':Z) (c:Nat) (l:List D) (e:Value) (fl:Value):Prop
 | mk (a:_) (T:_) (cls:_) (dx:_) (_:e = .ref a) (_:Stp X.fr w z z') (_:Rep X z') (_:XR X.W z' c l cls dx) (_:Nob X z z' a) (_:Tr z'.s.heap a cls dx T fl) (_:Nob X z z' T)
theorem XN.wr {h':Heap} {ch:List Addr} {a T:Addr} {fl:Value} (x:Stp X.fr w z z') (I:Rep X z') (r:XR X.W z' c l cls dx) (na:Nob X z z' a) (nT:Nob X z z' T) (y:Wr (frs X.fr) ch z'.s.heap h') (hc:∀ b∈ch,Nob X z z' b) (t:Tr h' a cls dx T fl):XN X w z { z' with s:={ z'.s with heap:=h' } } c l (.ref a) fl:=
 ⟨a,T,cls,dx,rfl,x.wr (t:=z'.s.toks) y fun b hb=>(hc b hb).1,I.wr (t:=z'.s.toks) y fun b hb=>(hc b hb).2,r,na,t,nT⟩
theorem dK {Q:Unit→Shared→Prop} {E:Value→Shared→Prop} (F:iC X) (x:Stp X.fr w z z') (I:Rep X z') (h:XO X z z' c l e) (hQ:∀ L h',X.env.frame=some L→XN X w z { z' with s:={ z'.s with heap:=h' } } c l e (rawInt L)→Q () { z'.s with heap:=h' }):wpAny M X.A (noteFrame e X.env) Q E z'.s:=by
 obtain ⟨e0,outer,hfr,hef⟩:=F.fr
 obtain ⟨L,hL⟩:=F.frame
 have hL0:=hef.trans hL
 rw [rF hef.symm]
 have fm:=I.fm
 have fu:=I.fu
 rw [hfr] at fm fu
 obtain ⟨a,cls,dx,rfl,r,na,t⟩:=h
 have new:∀ T,z'.h T=none→Nob X z z' T:=fun T n=>⟨x.no n,I.fre n⟩
 rcases t with t | ⟨T,fl,t,hfl,nT⟩
 ·refine oP fm fu hL0 t fun h' T n t' y=>hQ L h' hL (.wr x I r na (new T n) (by rw [hfr];exact y) (fun b hb=>?_) t')
  rw [List.mem_singleton.mp hb];exact na
 ·rcases hfl with rfl | ⟨L',hL',rfl⟩
  ·refine lW fm fu hL0 t fun h' T' n t' y=>hQ L h' hL (.wr x I r na (new T' n) (by rw [hfr];exact y) (fun b hb=>?_) t')
   rcases List.mem_cons.mp hb with q | q
   ·rw [q];exact na
   ·rw [List.mem_singleton.mp q];exact nT
  ·rw [hL] at hL';cases hL'
   exact lV hL0 t (hQ L z'.s.heap hL ⟨a,T,cls,dx,rfl,x,I,r,na,t,nT⟩)
theorem bo {fl:Value} {fr:Option Addr} {Q:Unit→Shared→Prop} {E:Value→Shared→Prop} {A:Around} (h:XN X w z z' c l e fl) (hQ:∀ h',XN X w z { z' with s:={ z'.s with heap:=h' } } c l e (fr.elim .none fun f=>rawInt f)→Q () { z'.s with heap:=h' }):wpAny M A (setFlight e fr) Q E z'.s:=by
 obtain ⟨a,T,cls,dx,rfl,x,I,r,na,t,nT⟩:=h
 exact j0 (S:=frs X.fr) t fun h' t' y=>hQ h' (.wr x I r na nT y (fun b hb=>by rw [List.mem_singleton.mp hb];exact nT) t')
theorem rK (F:iC X):PassesOwn M X.A X.env (PxS X z o):=fun e s' ⟨z',c,l,q,q2,x,I,h⟩=>by
 subst q
 unfold notedBy
 refine dK F x.st I h fun L h' hL hn=>?_
 obtain ⟨a,T,cls,dx,e1,_,_,_,_,t,_⟩:=id hn
 subst e1
 unfold cameBackBy
 obtain ⟨oe,vs,oT,ts,he,hc,hd,h1,r⟩:=id t
 refine wpAny_bind (wpAny_field he hd h1 ?_)
 rw [if_neg (show ¬ ((Value.ref T == Value.none)=true) by simp),hL]
 refine bo (z':={ z' with s:={ z'.s with heap:=h' } }) (fr:=some L) hn fun h2 hn2=>?_
 obtain ⟨a',T',cls',dx',e1,x2,I2,r2,na2,t2,nT2⟩:=hn2
 exact ⟨{ z' with s:={ z'.s with heap:=h2 } },c,l,rfl,q2,⟨x2,x.ow⟩,I2,a',cls',dx',e1,r2,na2,.inr ⟨T',_,t2,.inr ⟨L,hL,rfl⟩,nT2⟩⟩
theorem l5 {E:Value→Shared→Prop} {Q:Value→Shared→Prop} (F:iC X) (h:PxS X z o e s') (q:∀ z' c l a T cls dx,o = .exc c l z'.t→e = .ref a→Stp X.fr (Pv X z) z z'→Rep X z'→XR X.W z' c l cls dx→Nob X z z' a→Tr z'.s.heap a cls dx T .none→Nob X z z' T→Q e z'.s):wpAny M X.A (leaving X.env e) (fun _ s''=>Q e s'') E s':=by
 obtain ⟨z',c,l,e1,q2,x,I,h⟩:=h
 subst e1
 unfold leaving
 refine wpAny_bind (dK F x.st I h fun L h' hL hn=>bo (z':={ z' with s:={ z'.s with heap:=h' } }) (fr:=none) hn fun h2 hn2=>?_)
 obtain ⟨a,T,cls,dx,e1,x2,I2,r2,na2,t2,nT2⟩:=hn2
 exact q { z' with s:={ z'.s with heap:=h2 } } c l a T cls dx q2 e1 x2 I2 r2 na2 t2 nT2
end
section
variable {X:Cx} {sc:Scope} {N:List Str} {z z' z0 z1:Z}
def nN (M:Model) (A:Around) (E:Value→Shared→Prop) (use:Option (Value→Sem Unit)) (Q:Value→Shared→Prop) (acc:Value) (C:Addr) (fr:Option Addr) (r:Result) (s':Shared):Prop:=match r with
 | .error x=>∃ m,s'.heap.Ns C m∧∀ h',Heap.SameBut C s'.heap h'→∀ ce:Env,ce.frame=fr→wpAny M A (passOn "comprehension.variables-let-go" x ce:Sem Value) (fun _ _=>False) E { s' with heap:=h' }
 | r=>compPost M A E use Q acc C r s'
theorem tO {M:Model} {A:Around} {E Q:Value→Shared→Prop} {s:Shared} {env:Env} {e:Expr} {scope:Scope} {pos:Pos} {newAcc first:Sem Value} {g:Comprehension} {gs:List Comprehension} {cl:List (Str×Addr)} {use:Option (Value→Sem Unit)}
 (hcl:clausesOf e=g :: gs) (hs:∀ x,foldedSetIterable g.iter env x=pure x) (hclos:closureFor scope env=pure cl) (hkind:scope.kind = .function) (hnames:∀ x∈scope.names,x.2 = .local→scope.names.lookup x.1=some .local)
 (h:wpAny M A first (fun x s1=>wpAny M A (pyIter x) (fun it s2=>wpAny M A newAcc (fun acc s3=>wpAny M A (newFunctionEnv scope env.globals cl [] env.qual none .none (some env)) (fun ce s4=>codeAny M A (.compStart e 0 it acc { ce with scope:=relabel scope env }) (nN M A E use Q acc ce.locals ce.frame) s4) E s3) E s2) E s1) E s) :
 wpAny M A (comprehension e scope env pos newAcc false first use) Q E s:=by
 have id:∀ (x:Value) (s':Shared),E x s'→E x s':=fun _ _ y=>y
 unfold comprehension
 rw [hclos,hcl]
 refine wpAny_bind (wpAny_mono h (fun x s1 h1=>wpAny_bind (wpAny_standAt ?_)) id)
 refine wpAny_bind (wpAny_of_eq (hs x) (wpAny_bind (wpAny_holding (wpAny_mono h1 (fun it s2 h2=>?_) id))))
 refine wpAny_standIf (wpAny_bind (wpAny_mono h2 (fun acc s3 h3=>?_) id))
 refine wpAny_bind (wpAny_pure (wpAny_bind (wpAny_mono h3 (fun ce s4 h4=>?_) id)))
 dsimp only
 generalize hvs:(scope.names.filter fun x=>(x.2 == .local || x.2 == .cell) && x.1 != (".0":Str))=vs
 have hv:∀ x∈vs,x.2 = .local→Env.kindOf { ce with scope:=relabel scope env } x.1=some .local:=fun x m l=>lookup_relabel_local (hnames x (List.mem_filter.mp (hvs ▸ m)).1 l)
 have hr:∀ x∈vs.reverse,x.2 = .local→Env.kindOf { ce with scope:=relabel scope env } x.1=some .local:=fun x m=>hv x (List.mem_reverse.mp m)
 refine wpAny_holding (wpAny_bind (wpAny_attempt (wpAny_holding (wpAny_run (codeAny_mono h4 fun r s' hq=>?_)))))
 cases r with
 | error x=>
   obtain ⟨m,hn,hq⟩:=hq
   refine wpAny_bind (wpAny_holding (wpAny_comp_letGo (cenv:={ ce with scope:=relabel scope env }) hkind _ s' m hr hn fun h' m' _ sb=>?_))
   exact wpAny_mono (hq h' sb _ rfl) (fun _ _ f=>f.elim) id
 | ok f=>
   cases use with
   | none=>
     obtain ⟨m,hn,hq⟩:=hq
     exact wpAny_bind (wpAny_holding (wpAny_comp_letGo (cenv:={ ce with scope:=relabel scope env }) hkind _ s' m hr hn fun h' m' _ sb=>wpAny_pure (hq h' sb)))
   | some u=>
     refine wpAny_bind (wpAny_rule (wpAny_bind (wpAny_holding (wpAny_mono hq (fun _ s2 hq=>?_) id))))
     obtain ⟨m,hn,hq⟩:=hq
     exact wpAny_bind (wpAny_comp_letGo (cenv:={ ce with scope:=relabel scope env }) hkind _ s2 m (fun x hx=>(List.mem_append.mp hx).elim (fun q=>hr x (List.mem_of_mem_drop q)) fun q=>hr x (List.mem_of_mem_take q)) hn fun h' m' _ sb=>wpAny_pure (hq h' sb))
theorem nR {zr zn:Z} {E:Value→Shared→Prop} {o:Out D} {C L:Addr} (I:Rep X z) (Ir:Rep X zr) (er:zr.t.env=z.t.env∧zr.σ=z.σ∧zr.t.ow = []) (fC:C ∉ frs X.fr∧¬ Lc X C∧z.h C=none) (hL:X.env.frame=some L)
 (hn:XN (cxC X N sc C) (Own z) z zn c l e (rawInt L)) (pr:zr.ρ <+: zn.ρ) (gg:Sub zr.G zn.G) (q:o = .exc c l ⟨z.t.env,[],zn.t.st⟩) (hE:∀ u s',Px X z o u s'→E u s') :
 ∃ m,zn.s.heap.Ns C m∧∀ h',Heap.SameBut C zn.s.heap h'→∀ ce:Env,ce.frame=X.env.frame→wpAny X.M X.A (passOn "comprehension.variables-let-go" e ce:Sem Value) (fun _ _=>False) E { zn.s with heap:=h' }:=by
 obtain ⟨a,T,cls,dx,e1,S,J,r,na,t,nT⟩:=hn
 subst e1
 have If:=nQ I Ir er S J.toHR.out pr gg
 obtain ⟨m,hm,_⟩:=J.lo
 obtain ⟨oC,_,_,eC,_⟩:=id hm
 refine ⟨m,hm,fun h' sb ce hf=>?_⟩
 have k:∀ b o,b ∉ [C]→zn.s.heap.get? b=some o→h'.get? b=some o:=fun b o m e=>(sb.2 b fun w=>m (by rw [w];exact List.mem_singleton.mpr rfl)).trans e
 have S0:Stp X.fr (Own z) z { zn with t:=⟨z.t.env,[],zn.t.st⟩,σ:=z.σ }:=⟨S.pr,S.gg,S.gn,S.rn,S.th,S.sm,S.sl⟩
 have lC:Lc (cxC X N sc C) C:=.inl rfl
 obtain ⟨I4,S4,g4,n4⟩:=Rep.turn (X:=X) (s':={ zn.s with heap:=h' }) (tk:=If.toHR.tk) S0 If (fun b hb=>by rw [List.mem_singleton.mp hb];exact ⟨⟨fC.2.2,⟨(J.fl C lC).1,(J.fl C lC).2,fC.1,fC.2.1⟩,fun ⟨i,m,_⟩=>nomatch m⟩,oC,eC⟩) k ⟨rfl,rfl⟩
 have up:∀ {b},Nob (cxC X N sc C) z zn b→∀ {o},zn.h b=some o→b≠C∧h'.get? b=some o∧Nob X z (Z.up { zn with t:=⟨z.t.env,[],zn.t.st⟩,σ:=z.σ } { zn.s with heap:=h' }) b:=fun {b} nb {o} eb=>by
  have ne:b≠C:=fun w=>nb.2.1.2.2.2 (w ▸ lC)
  refine ⟨ne,(sb.2 b ne).trans eb,nb.1,⟨?_,nb.2.1.2.1,nb.2.1.2.2.1,fun l=>?_⟩,fun ⟨i,m,_⟩=>nomatch m⟩
  ·show (match zn.h b with | none=>h'.get? b | some _=>zn.G b)=none
   rw [eb];exact nb.2.1.1
  ·obtain ⟨o1,e1⟩:=I.lth l
   rw [nb.1] at e1;cases e1
 obtain ⟨oe,vs,oT,ts,he,hc,hd,h1,ne,hT,hdT,h3⟩:=t
 obtain ⟨neA,heA,nA⟩:=up na he
 obtain ⟨neT,heT,nTT⟩:=up nT hT
 unfold PySem.passOn
 refine wpAny_bind (wpAny_field heA hd h1 ?_)
 rw [if_neg (show ¬ ((Value.ref T == Value.none)=true) by simp),hf,hL]
 refine wpAny_bind (bo (X:=X) (w:=Own z) (z:=z) (c:=c) (l:=l) (z':=Z.up { zn with t:=⟨z.t.env,[],zn.t.st⟩,σ:=z.σ } { zn.s with heap:=h' }) (fr:=some L) (fl:=rawInt L) ⟨a,T,cls,dx,rfl,S4,I4,?_,nA,⟨oe,vs,oT,ts,heA,hc,hd,h1,ne,heT,hdT,h3⟩,nTT⟩ fun h2 hn2=>wpAny_throw ?_)
 ·obtain ⟨i,r1,r2,r3,r4,r5⟩:=r
  exact ⟨i,r1,r2,r3,r4,r5.imp_right fun ⟨d,od,vs,w1,w2,w3,w4⟩=>⟨d,od,vs,w1,g4 _ _ w2,w3,w4.mono (List.prefix_refl _) g4⟩⟩
 ·obtain ⟨a',T',cls',dx',e1,x2,I2,r2,na2,t2,nT2⟩:=hn2
  exact hE _ _ ⟨_,c,l,rfl,q,⟨x2,rfl,rfl,fun i m=>nomatch m⟩,I2,a',cls',dx',e1,r2,na2,.inr ⟨T',_,t2,.inr ⟨L,hL,rfl⟩,nT2⟩⟩
structure LcP (X:Cx) (N:List Str) (ee tg iter:Expr) (ifs:List Expr) (sc:Scope) (t:List Nat) (one:Bool) (it elt cond:E):Prop where
 hc:X.calm=true
 F:iC X
 L:Lcn X sc t.length N
 hi:LI X tg iter it
 hg:∀ C,LG (cxC X N sc C) tg t one
 hl:∀ i∈t,∀ x,N[i]? = some x→(relabel sc X.env).names.lookup x=some .local
 ht:∀ C,LTs (cxC X N sc C) ifs cond
 he:∀ C,LE (cxC X N sc C) ee elt
 hs:∀ x,foldedSetIterable iter X.env x=pure x
inductive LcJ (X Y:Cx) (z zr:Z) (env:List (Option D)) (ds:List D) (St:Nat→Heap→Prop) (fp wr:List Nat) (a:Nat) (o:Out D) (f:D→Sta→Out (Option D)) (n:Nat) (s:Shared):Prop
 | mk (i:Nat) (z':Z) (acc:List D) (vs:List Value) (ob:Obj) (_:z'.s=s) (_:n=ds.length - i) (_:i≤ds.length) (_:Stp X.fr (Own z) z z') (_:Rep Y z') (_:z'.t.ow = []) (_:St i z'.s.heap) (_:Fp Y z z' fp wr) (_:zr.ρ <+: z'.ρ) (_:Sub zr.G z'.G) (_:Nob Y z z' a) (_:z'.h a=some ob) (_:LsO ob vs) (_:RDs X.W z'.ρ z'.G acc vs) (_:o=(bH f (ds.drop i) acc z'.t).back env)
theorem jJ {ee tg iter:Expr} {ifs:List Expr} {t:List Nat} {one:Bool} {it elt cond:E} {pos p:Pos} {use:Option (Value→Sem Unit)} {Q:Value→Shared→Prop} {E:Value→Shared→Prop} {o:Out D} (P:LcP X N ee tg iter ifs sc t one it elt cond) (I:Rep X z) (e0:o=X.ev false (.lc t one it elt cond) z.t) (nb:o≠.bad) (hE:∀ u s',Px X z o u s'→E u s')
 (fin:∀ zf d D C m,Ee X z zf→Rep X zf→o = .ok d zf.t→FV X z zf d (.ref D)→Nob X z zf C→(∃ oC,zf.h C=some oC)→zf.s.heap.Ns C m→C≠D→compPost X.M X.A E use Q (.ref D) C (.ok .next) zf.s) :
 wpAny X.M X.A (comprehension (.ListComp ee [⟨tg,iter,ifs,0⟩] sc pos) sc X.env p (newList []) false (eval iter X.env) use) Q E z.s:=by
 have e0:o=(X.ev false it z.t).bind fun x s=>(match x with
  | .lst ds=>(bH (lcF X t one elt cond) ds [] ⟨List.replicate t.length none ++ s.env,[],s.st⟩).back s.env
  | _=>.bad):=e0
 have nb0:X.ev false it z.t≠.bad:=fun q=>nb (by rw [e0,q];rfl)
 refine tO rfl P.hs (jA (P.L.cells I.ok)) P.L.kind P.L.names (wpAny_mono (wpAny_toks_of I.tk (P.hi z I nb0)) (fun v s1 ⟨tk1,h1⟩=>wpAny_mono (wpAny_toks_of tk1 h1) (fun itv s2 ⟨tk2,h2⟩=>?_) fun _ _ w=>w.2.elim) fun u s' h=>hE u s' (by rw [e0];exact h.2.map))
 obtain ⟨z1,ds,a,fp,wr,St,q1,q2,x1,I1,q3,T,st1,f1⟩:=h2
 subst q1 q3
 have I1:=I1 tk2
 rw [q2] at e0
 have e0:o=(bH (lcF X t one elt cond) ds [] ⟨List.replicate t.length none ++ z1.t.env,[],z1.t.st⟩).back z1.t.env:=e0
 refine wpAny_newObj_type (wpAny_newFunctionEnv P.L.nocell (by intro y hy;simp at hy) (fun h1 hns hsb=>?_) P.L.kind)
 dsimp only at hns hsb ⊢
 generalize hD:z1.s.heap.objs.size=D at hns hsb ⊢
 have nD:z1.h D=none:=hD ▸ aB z1
 generalize hG:z1.s.heap.push { cls:=.type "list",dict:=none,data:=.seq ([]:List Value).toArray }=G1 at hns hsb ⊢
 have hC0:G1.objs.size=D+1:=by rw [← hG,Heap.size_push,hD]
 generalize hC:G1.objs.size=C at hns hsb ⊢ hC0
 have CD:C≠D:=by rw [hC0];exact Nat.succ_ne_self _
 have nC:z1.h C=none:=Heap.get?_none_of_le (by rw [hC0,hD];exact Nat.le_succ _)
 have up:∀ b o,G1.get? b=some o→h1.get? b=some o:=fun b o e=>hsb.extBut b o (hC ▸ Nat.ne_of_lt (Heap.lt_size e)) (Heap.get?_push_of_some _ e)
 have kp:∀ b o,z1.s.heap.get? b=some o→h1.get? b=some o:=fun b o e=>up b o (hG ▸ Heap.get?_push_of_some _ e)
 have gr:Gr z1.s { z1.s with heap:=h1,toks:=z1.s.toks+([]:List (Str×Value)).length }:=.hp kp
 have hDo:h1.get? D=some { cls:=.type "list",data:=.seq ([]:List Value).toArray }:=up _ _ (hG ▸ hD ▸ Heap.get?_push_size _ rfl)
 obtain ⟨Ir,xr⟩:=I1.rel fun _=>false
 have owr:(z1.rel fun _=>false).t.ow = []:=List.filter_eq_nil_iff.mpr fun _ _=>by simp
 have I2:=nU (k:=t.length) P.L Ir owr (s':={ z1.s with heap:=h1,toks:=z1.s.toks+([]:List (Str×Value)).length }) gr nC hns
 generalize hz2:(⟨(z1.rel fun _=>false).ρ,(z1.rel fun _=>false).G,⟨List.replicate t.length none ++ (z1.rel fun _=>false).t.env,[],(z1.rel fun _=>false).t.st⟩,List.replicate t.length none ++ (z1.rel fun _=>false).σ,{ z1.s with heap:=h1,toks:=z1.s.toks+([]:List (Str×Value)).length }⟩:Z)=z2 at I2
 have xa:=x1.trans xr
 have fD:=Ir.fre (a:=D) nD
 have fC:=Ir.fre (a:=C) nC
 have zD:z.h D=none:=x1.st.no nD
 have zC:z.h C=none:=x1.st.no nC
 have S2:Stp X.fr (Own z) z z2:=by
  subst hz2
  exact ⟨xa.st.pr,xa.st.gg,xa.st.gn,xa.st.rn,fun b o e=>let ⟨o',e'⟩:=xa.st.th b o e;⟨o',kp b o' e'⟩,fun b o e n w f=>kp b o (xa.st.sm b o e n w f),fun b o e n w f=>let ⟨sl,e'⟩:=xa.st.sl b o e n w f;⟨sl,kp b _ e'⟩⟩
 have nLD:¬ Lc X D:=fD.1.2.2.2
 have nLC:¬ Lc X C:=fC.1.2.2.2
 have nob2:∀ {b},z.h b=none→(z1.rel fun _=>false).G b=none→¬ Mu z1.ρ b→b ∉ frs X.fr→¬ Lc X b→b≠C→Nob (cxC X N sc C) z z2 b:=fun h0 h1 h2 h3 h4 h5=>by
  subst hz2
  exact ⟨h0,⟨h1,h2,h3,fun l=>(sQ l).elim h5 h4⟩,fun ⟨i,m,_⟩=>nomatch m⟩
 have nobD:Nob (cxC X N sc C) z z2 D:=nob2 zD fD.1.1 fD.1.2.1 fD.1.2.2.1 nLD (Ne.symm CD)
 have fp1:∀ b∈fp,∃ o,z1.h b=some o:=fun b hb=>(f1 b hb).elim (·.2) fun ⟨_,o,e⟩=>⟨o,I1.gh b o e⟩
 have fpn:∀ b∈fp,b≠D∧b≠C:=fun b hb=>by
  obtain ⟨o,e⟩:=fp1 b hb
  exact ⟨fun w=>(by rw [w,nD] at e;cases e),fun w=>(by rw [w,nC] at e;cases e)⟩
 have f2:Fp (cxC X N sc C) z z2 fp wr:=fun b hb=>by
  obtain ⟨o1,e1⟩:=fp1 b hb
  rcases f1 b hb with ⟨⟨n0,ff,no⟩,_⟩ | ⟨m,o,e⟩
  ·exact .inl ⟨nob2 n0 ((cN fun ⟨i,m,_,e⟩=>no ⟨i,m,e⟩).trans ff.1) ff.2.1 ff.2.2.1 ff.2.2.2 (fpn b hb).2,o1,by subst hz2;exact kp b o1 e1⟩
  ·exact .inr ⟨m,o,by subst hz2;exact xr.st.gg b o e⟩
 have pr2:(z1.rel fun _=>false).ρ <+: z2.ρ:=by subst hz2;exact List.prefix_refl _
 have gg2:Sub (z1.rel fun _=>false).G z2.G:=by subst hz2;exact .refl _
 have ow2:z2.t.ow = []:=by subst hz2;rfl
 have s2e:z2.s={ z1.s with heap:=h1,toks:=z1.s.toks+([]:List (Str×Value)).length }:=by subst hz2;rfl
 have hD2:z2.h D=some { cls:=.type "list",data:=.seq ([]:List Value).toArray }:=by show z2.s.heap.get? D=_;rw [s2e];exact hDo
 have st2:St 0 z2.s.heap:=by rw [s2e];exact T.keep _ _ _ st1 fun b _ o e=>kp b o e
 have e2:o=(bH (lcF X t one elt cond) ds [] z2.t).back z1.t.env:=by subst hz2;exact e0
 have loop:codeAny X.M X.A (.compLoop (.ListComp ee [⟨tg,iter,ifs,0⟩] sc pos) 0 (.ref a) (.ref D) (cxC X N sc C).env) (nN X.M X.A E use Q (.ref D) C X.env.frame) z2.s:=by
  refine codeAny_loop rfl (LcJ X (cxC X N sc C) z (z1.rel fun _=>false) z1.t.env ds St fp wr D o (lcF X t one elt cond)) (fun n s3 hI=>?_) (ds.length - 0) ⟨0,z2,[],[],_,rfl,rfl,Nat.zero_le _,S2,I2,ow2,st2,f2,pr2,gg2,nobD,hD2,⟨⟨_,rfl⟩,Nat.zero_le _⟩,rfl,by rw [List.drop_zero];exact e2⟩
  obtain ⟨i,z3,acc,vs,ob,e3,en,hi,S3,I3,ow3,st3,f3,p3,g3,nD3,hD3,lo3,ra3,q⟩:=hI
  subst e3
  show wpAny X.M X.A ((compTurn (.ListComp ee [⟨tg,iter,ifs,0⟩] sc pos) 0 (.ref a) (.ref D) (cxC X N sc C).env).onRaise (fun x=>do noteFrame x (cxC X N sc C).env;theTreesLotGoes x)) _ _ z3.s
  refine wpAny_noted ?_
  rw [compTurn_list]
  refine wpAny_bind (wpAny_standAt (wpAny_bind ?_))
  cases qd:ds[i]? with
  | none=>
    have hl:i=ds.length:=by rw [List.getElem?_eq_none_iff] at qd;omega
    subst hl
    refine wpAny_mono (wpAny_toks_of I3.tk (T.done (I3.hd P.hc) st3)) (fun r s4 ⟨tk4,er,os,k⟩=>?_) fun _ _ w=>w.2.elim
    subst er
    obtain ⟨I4,S4,g4,_⟩:=Rep.turn (X:=cxC X N sc C) S3 I3 (f3.wr T st3) k os tk4
    rw [List.drop_length] at q
    have nDw:D ∉ wr:=fun m=>(fpn D (T.sub D m)).1 rfl
    have If:=nQ I Ir ⟨x1.en,x1.sg,owr⟩ S4 I4.toHR.out p3 (g3.trans g4)
    obtain ⟨m,hn,_⟩:=I4.lo
    obtain ⟨n0,ff,no⟩:=nD3
    have GD:(z3.up s4).G D=none:=by show (match z3.h D with | none=>s4.heap.get? D | some _=>z3.G D)=none;rw [hD3];exact ff.1
    refine wpAny_pure (fin { z3.up s4 with t:=⟨z.t.env,[],z3.t.st⟩,σ:=z.σ } (.lst acc) D C m ⟨⟨S4.pr,S4.gg,S4.gn,S4.rn,S4.th,S4.sm,S4.sl⟩,rfl,rfl,fun i m=>nomatch m⟩ If (q.trans (by rw [x1.en];rfl)) ⟨D,.lst acc,rfl,zD,rfl,⟨ob,vs,rfl,k D ob nDw hD3,lo3,ra3.mono (List.prefix_refl _) g4⟩,⟨GD,ff.2.1,ff.2.2.1,nLD⟩,fun ⟨i,m,_⟩=>nomatch m⟩ ⟨zC,⟨(I4.fl C (.inl rfl)).1,(I4.fl C (.inl rfl)).2,fC.1.2.2.1,nLC⟩,fun ⟨i,m,_⟩=>nomatch m⟩ ?_ hn CD)
    obtain ⟨oC,_,_,eC,_⟩:=hn
    exact ⟨oC,eC⟩
  | some d=>
    have hil:i<ds.length:=(List.getElem?_eq_some_iff.mp qd).1
    rw [kf qd] at q
    have q:o=((lcF X t one elt cond d z3.t).bind fun o s'=>match o with
     | some e=>if acc.length<100000 then bH (lcF X t one elt cond) (ds.drop (i+1)) (acc ++ [e]) s' else .bad
     | none=>bH (lcF X t one elt cond) (ds.drop (i+1)) acc s').back z1.t.env:=q
    refine wpAny_mono (wpAny_toks_of I3.tk (T.item (I3.hd P.hc) qd st3)) (fun r s4 ⟨tk4,u,er,h4⟩=>?_) fun _ _ w=>w.2.elim
    subst er
    refine wpAny_bind (wpAny_mono (wpAny_toks_of tk4 h4) (fun _ s5 ⟨tk5,st5,os5,k5,rd5⟩=>?_) fun _ _ w=>w.2.elim)
    obtain ⟨I5,S5,g5,n5⟩:=Rep.turn (X:=cxC X N sc C) S3 I3 (f3.wr T st3) k5 os5 tk5
    have rd:=rd5 z3.ρ (z3.up s5).G (xr.st.pr.trans p3) ((xr.st.gg.trans g3).trans g5) fun a o e1 e2=>by rw [iy e1];exact e2
    have f5:=f3.up I3 g5 k5 fun b m _=>T.ex _ _ st5 b m
    have nDw:D ∉ wr:=fun m=>(fpn D (T.sub D m)).1 rfl
    have nD5:Nob (cxC X N sc C) z (z3.up s5) D:=⟨nD3.1,⟨by show (match z3.h D with | none=>s5.heap.get? D | some _=>z3.G D)=none;rw [hD3];exact nD3.2.1.1,nD3.2.1.2⟩,nD3.2.2⟩
    have hD5:(z3.up s5).h D=some ob:=k5 D ob nDw hD3
    cases qb:aE t one d z3.t.env with
    | none=>rw [show lcF X t one elt cond d z3.t = .bad by unfold lcF;rw [qb]] at q;exact absurd q nb
    | some env=>
      rw [show lcF X t one elt cond d z3.t=(X.ev true cond ⟨env,[],z3.t.st⟩).bind fun b s2=>(match b with
       | .bl true=>(X.ev false elt s2).bind fun e s3=>.ok (some e) ⟨s3.env,[],s3.st⟩
       | .bl false=>.ok none ⟨s2.env,[],s2.st⟩
       | _=>.bad) by unfold lcF;rw [qb];all_goals rfl] at q
      refine wpAny_bind (P.hg C (z3.up s5) (z3.up s5) d u env _ _ .refl I5 rd qb fun z6 _ I6 eρ y6 et eσ ek=>?_)
      have k6:=ek P.hl
      have ow6:z6.t.ow = []:=by rw [et];show z3.t.ow.filter _ = [];rw [ow3];rfl
      have t6:z6.t=⟨env,[],z3.t.st⟩:=by rw [et];show (⟨env,z3.t.ow.filter _,z3.t.st⟩:Sta)=_;rw [ow3];rfl
      have S56:Stp X.fr (fun b=>b=C) (z3.up s5) z6:=⟨y6.st.pr,y6.st.gg,fun b o e=>(by
       rcases y6.st.gn b o e with w | w | w
       ·exact .inl w
       ·exact .inr (.inl w)
       ·rcases w with ⟨j,m,_⟩ | l
        ·have:j∈z3.t.ow:=m
         rw [ow3] at this;exact nomatch this
        ·rw [(I6.fl b l).1] at e;cases e),y6.st.rn,y6.st.th,fun b o e _ w _=>k6 b o e w,fun b o e _ w _=>⟨o.slots,k6 b o e w⟩⟩
      have S6:Stp X.fr (Own z) z z6:=S5.trans S56 fun b w=>.inr (by rw [w];exact zC)
      obtain ⟨nD6,hD6⟩:=nD5.go y6 hD5
      have f6:=f5.go y6
      have st6:St (i+1) z6.s.heap:=T.keep _ _ _ st5 (f5.keep y6 I5 I6)
      rw [← t6] at q
      have nb6:(X.ev true cond z6.t).bind toB≠.bad:=fun w=>nb (by
       rw [q]
       cases qc:X.ev true cond z6.t with
       | ok b s2=>
         rw [qc] at w
         cases b with
         | bl b=>cases w
         | _=>rfl
       | exc c l s2=>rw [qc] at w;cases w
       | bad=>rfl)
      have p6:(z1.rel fun _=>false).ρ <+: z6.ρ:=p3.trans (eρ ▸ List.prefix_refl _)
      have g36:Sub z3.G z6.G:=g5.trans y6.st.gg
      refine wpAny_bind (wpAny_mono (P.ht C z6 I6 nb6) (fun b s7 ⟨z7,tb,e7,q7,x7,I7,r7⟩=>?_) fun u s' ⟨z7,c,l,e7,q7,x7,I7,xo⟩=>?_)
      rotate_left
      ·subst e7
       obtain ⟨ow7,S67⟩:=x7.nil ow6
       have qc:X.ev true cond z6.t = .exc c l z7.t:=by
        have q7:(X.ev true cond z6.t).bind toB = .exc c l z7.t:=q7
        cases qc:X.ev true cond z6.t with
        | ok b s2=>rw [qc] at q7;cases b <;> cases q7
        | exc c l s2=>rw [qc] at q7;cases q7;rfl
        | bad=>rw [qc] at q7;cases q7
       rw [qc] at q
       have S7:Stp X.fr (Own z) z z7:=S6.trans S67 fun _ w=>w.elim
       refine dK (X:=cxC X N sc C) (w:=Own z) (z:=z) (z':=z7) ⟨P.F.fr,P.F.frame⟩ S7 I7 (xo.less fun _=>S6.no) fun L h' hL hn=>?_
       exact nR I Ir ⟨x1.en,x1.sg,owr⟩ ⟨fC.1.2.2.1,nLC,zC⟩ hL hn (p6.trans x7.st.pr) ((g3.trans g36).trans x7.st.gg) (q.trans (by rw [x1.en];rfl)) hE
      subst e7
      obtain ⟨ow7,S67⟩:=x7.nil ow6
      have S7:Stp X.fr (Own z) z z7:=S6.trans S67 fun _ w=>w.elim
      obtain ⟨nD7,hD7⟩:=nD6.go x7.go hD6
      have f7:=f6.go x7.go
      have st7:St (i+1) z7.s.heap:=T.keep _ _ _ st6 (f6.keep x7.go I6 I7)
      have qc:X.ev true cond z6.t = .ok (.bl tb) z7.t:=by
       have q7:(X.ev true cond z6.t).bind toB = .ok tb z7.t:=q7
       cases qc:X.ev true cond z6.t with
       | ok b s2=>rw [qc] at q7;cases b <;> first | (cases q7;rfl) | cases q7
       | exc c l s2=>rw [qc] at q7;cases q7
       | bad=>rw [qc] at q7;cases q7
      rw [qc] at q
      have p7:(z1.rel fun _=>false).ρ <+: z7.ρ:=p3.trans ((eρ ▸ List.prefix_refl _:z3.ρ <+: z6.ρ).trans x7.st.pr)
      have g37:Sub z3.G z7.G:=(g5.trans y6.st.gg).trans x7.st.gg
      cases (show b=tb from r7)
      cases b with
      | false=>
        have q:o=(bH (lcF X t one elt cond) (ds.drop (i+1)) acc ⟨z7.t.env,[],z7.t.st⟩).back z1.t.env:=q
        rw [lh ow7] at q
        exact wpAny_pure ⟨rfl,ds.length - (i+1),by omega,i+1,z7,acc,vs,ob,rfl,rfl,hil,S7,I7,ow7,st7,f7,p7,g3.trans g37,nD7,hD7,lo3,ra3.mono ((eρ ▸ List.prefix_refl _:z3.ρ <+: z6.ρ).trans x7.st.pr) g37,q⟩
      | true=>
        have q:o=(((X.ev false elt z7.t).bind fun e s3=>Out.ok (some e) ⟨s3.env,[],s3.st⟩).bind fun o s'=>match o with
         | some e=>if acc.length<100000 then bH (lcF X t one elt cond) (ds.drop (i+1)) (acc ++ [e]) s' else .bad
         | none=>bH (lcF X t one elt cond) (ds.drop (i+1)) acc s').back z1.t.env:=q
        have nb7:X.ev false elt z7.t≠.bad:=fun w=>nb (by rw [q,w];rfl)
        refine wpAny_bind (wpAny_bind (wpAny_mono (P.he C false z7 I7 nb7) (fun v s8 ⟨z8,de,e8,q8,x8,I8,r8⟩=>?_) fun u s' ⟨z8,c,l,e8,q8,x8,I8,xo⟩=>?_))
        rotate_left
        ·subst e8
         obtain ⟨ow8,S78⟩:=x8.nil ow7
         rw [show X.ev false elt z7.t=_ from q8] at q
         have S8:Stp X.fr (Own z) z z8:=S7.trans S78 fun _ w=>w.elim
         refine dK (X:=cxC X N sc C) (w:=Own z) (z:=z) (z':=z8) ⟨P.F.fr,P.F.frame⟩ S8 I8 (xo.less fun _=>S7.no) fun L h' hL hn=>?_
         exact nR I Ir ⟨x1.en,x1.sg,owr⟩ ⟨fC.1.2.2.1,nLC,zC⟩ hL hn (p7.trans x8.st.pr) ((g3.trans g37).trans x8.st.gg) (q.trans (by rw [x1.en];rfl)) hE
        subst e8
        rw [show X.ev false elt z7.t=_ from q8] at q
        have q:o=(if acc.length<100000 then bH (lcF X t one elt cond) (ds.drop (i+1)) (acc ++ [de]) ⟨z8.t.env,[],z8.t.st⟩ else .bad).back z1.t.env:=q
        by_cases ca:acc.length<100000
        ·rw [if_pos ca] at q
         obtain ⟨ow8,S78⟩:=x8.nil ow7
         rw [lh ow8] at q
         have S8:Stp X.fr (Own z) z z8:=S7.trans S78 fun _ w=>w.elim
         obtain ⟨nD8,hD8⟩:=nD7.go x8.go hD7
         have f8:=f7.go x8.go
         have st8:St (i+1) z8.s.heap:=T.keep _ _ _ st7 (f7.keep x8.go I7 I8)
         obtain ⟨⟨n,rfl⟩,hz⟩:=lo3
         have ra8:=ra3.mono ((eρ ▸ List.prefix_refl _:z3.ρ <+: z6.ρ).trans (x7.st.pr.trans x8.st.pr)) (g37.trans x8.st.gg)
         have hl:vs.length<100000:=by rw [← ra8.len];exact ca
         refine wpAny_bind (call_meets PySem.F.slot_list_append ⟨_,hD8,rfl⟩ PySem.F.entry_list_append (PySem.F.args_list_append_2 _ _) (PySem.list_append D vs.toArray n v (by rw [List.size_toArray];exact Nat.le_of_lt (Nat.lt_of_lt_of_le hl (big (Nat.le_refl _))))) ⟨hD8,?_⟩)
         obtain ⟨⟨o1,u1,u3⟩,u2⟩:=cW (f:=(·.push v)) (ws:=vs ++ [v]) hD8 (by simp) (by rw [List.length_append];exact big (by simp;omega))
         have k9:∀ b o,b ∉ [D]→z8.h b=some o→(z8.s.heap.update D (Obj.mapSeq (·.push v))).get? b=some o:=fun b o m e=>(u2 b fun w=>m (by rw [w];exact List.mem_singleton.mpr rfl)).trans e
         obtain ⟨I9,S9,g9,_⟩:=Rep.turn (X:=cxC X N sc C) (s':={ z8.s with heap:=z8.s.heap.update D (Obj.mapSeq (·.push v)) }) S8 I8 (fun b hb=>by rw [List.mem_singleton.mp hb];exact ⟨nD8,_,hD8⟩) k9 ⟨rfl,rfl⟩
         refine wpAny_pure (wpAny_pure ⟨rfl,ds.length - (i+1),by omega,i+1,_,acc ++ [de],vs ++ [v],o1,rfl,rfl,hil,S9,I9,ow8,T.keep _ _ _ st8 fun b hb o e=>k9 b o (fun m=>(fpn b hb).1 (List.mem_singleton.mp m)) e,f8.up I8 g9 k9 fun b m hb=>absurd (List.mem_singleton.mp m) (fpn b hb).1,p7.trans x8.st.pr,((g3.trans g37).trans x8.st.gg).trans g9,⟨nD8.1,⟨?_,nD8.2.1.2⟩,nD8.2.2⟩,u1,u3,(ra8.mono (List.prefix_refl _) g9).app (.cons (r8.rd.mono (List.prefix_refl _) g9) rfl),q⟩)
         show (match z8.h D with | none=>_ | some _=>z8.G D)=none
         rw [hD8];exact nD8.2.1.1
        ·rw [if_neg ca] at q;exact absurd q nb
 rw [← s2e]
 exact codeAny_compStart_list loop (T.self (I1.hd P.hc) st2 loop)
theorem iW {ee tg iter:Expr} {ifs:List Expr} {t:List Nat} {one:Bool} {it elt cond:E} {pos:Pos} (P:LcP X N ee tg iter ifs sc t one it elt cond):LF X (.ListComp ee [⟨tg,iter,ifs,0⟩] sc pos) (.lc t one it elt cond):=fun z I nb=>by
 rw [eval_ListComp]
 refine jJ P I rfl nb (fun _ _ h=>h) fun zf d D C m x If e fv nC exC hn CD=>⟨m,hn,fun h' sb=>?_⟩
 have k:∀ b o,b ∉ [C]→zf.h b=some o→h'.get? b=some o:=fun b o m e=>(sb.2 b fun w=>m (by rw [w];exact List.mem_singleton.mpr rfl)).trans e
 obtain ⟨I4,S4,g4,_⟩:=Rep.turn (s':={ zf.s with heap:=h' }) x.st If (fun b hb=>by rw [List.mem_singleton.mp hb];exact ⟨nC,exC⟩) k ⟨rfl,rfl⟩
 obtain ⟨a,ob,ea,n,t1,r,f,no⟩:=fv
 have ea:a=D:=(Value.ref.inj ea).symm
 subst ea
 obtain ⟨oa,ha⟩:=r.th.1
 refine ⟨zf.up { zf.s with heap:=h' },d,rfl,e,⟨S4,x.sg,x.en,x.ow⟩,I4,a,ob,rfl,n,t1,r.mono (List.prefix_refl _) g4 fun b hb o e=>k b o (fun m=>?_) e,⟨?_,f.2⟩,no⟩
 ·have:b=a:=by rcases hb with w | w <;> exact w
  exact CD ((List.mem_singleton.mp m).symm.trans this)
 ·show (match zf.h a with | none=>h'.get? a | some _=>zf.G a)=none
  rw [ha];exact f.1
theorem wP {ee tg iter:Expr} {ifs:List Expr} {t:List Nat} {one:Bool} {it elt cond:E} {pos:Pos} (P:LcP X N ee tg iter ifs sc t one it elt cond):LE X (.ListComp ee [⟨tg,iter,ifs,0⟩] sc pos) (.lc t one it elt cond):=(iW P).le fun _=>rfl
theorem oB {ee tg iter:Expr} {ifs:List Expr} {t:List Nat} {one:Bool} {it elt cond:E} {pos pos' spos:Pos} {i:Nat} {x:Str} (hN:X.N.Nodup) (hi:X.N[i]? = some x) (hx:Loc X.env.scope x) (P:LcP X N ee tg iter ifs sc t one it elt cond):LS X (.Assign [.Name x pos'] (.ListComp ee [⟨tg,iter,ifs,0⟩] sc pos) spos) (.set i (.lc t one it elt cond)):=fun z I nb=>by
 obtain ⟨b,sw⟩:∃ b,swapsWith (.ListComp ee [⟨tg,iter,ifs,0⟩] sc pos) (some (.Name x pos')) spos.line X.env=pure b:=⟨_,rfl⟩
 cases b with
 | false=>exact eY hN hi hx (wP P) (fun _=>iW P) sw z I nb
 | true=>
   have nb1:X.ev false (.lc t one it elt cond) z.t≠.bad:=fun q=>nb (show Out.go (X.ev false (.lc t one it elt cond) z.t) _=_ by rw [q];rfl)
   rw [exec_Assign_Name_used _ _ _ _ sw]
   refine wpAny_bind (wpAny_standAt (wpAny_bind ?_))
   show wpAny _ X.A (do let _ ← comprehension (.ListComp ee [⟨tg,iter,ifs,0⟩] sc pos) sc X.env _ (newList []) false (eval iter X.env) (some (assign (.Name x pos') X.env))) _ _ z.s
   refine wpAny_bind (thn (jJ (use:=some (assign (.Name x pos') X.env)) (Q:=fun _ s'=>Ps X z (X.ex (.set i (.lc t one it elt cond)) z.t) .next s') P I rfl nb1 (fun u s' h=>PxS.of .refl h) fun zf d D C m x0 If e fv nC exC hn CD=>?_) fun _ s' hq=>wpAny_pure (wpAny_pure hq))
   show wpAny _ X.A (assign (.Name x pos') X.env (.ref D)) _ _ _
   refine wpAny_assign_Name (bA (own:=true) x0.go If hN hi hx fv fun s' a sb la I' g'=>?_)
   have Ca:C≠a:=fun w=>nC.2.1.2.2.2 (w ▸ la.1)
   refine ⟨m,hn.sameBut sb Ca,fun h' sb'=>?_⟩
   have k:∀ b o,b ∉ [C]→s'.heap.get? b=some o→h'.get? b=some o:=fun b o m e=>(sb'.2 b fun w=>m (by rw [w];exact List.mem_singleton.mpr rfl)).trans e
   obtain ⟨oC,eC⟩:=exC
   obtain ⟨I4,S4,g4,_⟩:=Rep.turn (z:={ zf with t:=stV zf.t i d true,σ:=zf.σ.set i (some (.ref D)),s:=s' }) (s':={ s' with heap:=h' }) g'.st I' (fun b hb=>by
    rw [List.mem_singleton.mp hb]
    refine ⟨⟨nC.1,nC.2.1,fun ⟨j,mj,ej⟩=>?_⟩,oC,(sb.2 C Ca).trans eC⟩
    by_cases q:j=i
    ·subst q
     have hl:j<zf.σ.length:=by rw [If.sl];exact (List.getElem?_eq_some_iff.mp hi).1
     have ej:(zf.σ.set j (some (.ref D)))[j]? = some (some (.ref C)):=ej
     rw [List.getElem?_set_self hl] at ej
     cases ej;exact CD rfl
    ·have ej:(zf.σ.set i (some (.ref D)))[j]? = some (some (.ref C)):=ej
     rw [List.getElem?_set_ne (Ne.symm q)] at ej
     have mj:j∈i :: zf.t.ow.filter (· != i):=mj
     rcases List.mem_cons.mp mj with w | w
     ·exact q w
     ·exact nC.2.2 ⟨j,(List.mem_filter.mp w).1,ej⟩) k ⟨rfl,rfl⟩
   refine nxt (z1:=Z.up { zf with t:=stV zf.t i d true,σ:=zf.σ.set i (some (.ref D)),s:=s' } { s' with heap:=h' }) ⟨S4,g'.ow⟩ I4 ?_
   show Out.go (X.ev false (.lc t one it elt cond) z.t) _=_
   rw [e]
   show ah.nx (ip zf.t i d true)=_
   have ld:qC d=true:=by
    obtain ⟨_,_,_,_,t,_⟩:=fv
    cases d <;> first | rfl | cases t
   unfold ip
   rw [ld];rfl
end
theorem ng {kp:List Nat} {env:List (Option D)} {i:Nat} {d:D}:(m9 kp env)[i]? = some (some d)↔i ∉ kp∧env[i]? = some (some d):=by
 unfold m9
 rw [List.getElem?_mapIdx]
 by_cases c:i∈kp
 ·simp [c]
 ·simp [c]
theorem gX {kp:List Nat} {s:Sta} {i:Nat}:i∈(hid kp s).ow↔i∈s.ow∧i ∉ kp:=by
 unfold hid
 simp
section
variable {X:Cx} {z z':Z} {kp:List Nat}
theorem Rep.hid (I:Rep X z):Rep X { z with t:=L2.Ev.hid kp z.t }:=by
 refine ⟨⟨I.md,I.fm,I.hd,I.bs,I.gh,I.rl,I.rn,I.rg,I.ob,I.fu,I.ff,I.br,I.os,I.tk⟩,I.ok,I.lo,I.ce,I.fl,?_,I.sl,fun i d n e=>?_,fun i m=>?_,fun i j a m1 m2 e1 e2=>I.od i j a (gX.mp m1).1 (gX.mp m2).1 e1 e2⟩
 ·show (m9 kp z.t.env).length=_
  unfold m9
  rw [List.length_mapIdx];exact I.el
 ·obtain ⟨h1,h2⟩:=ng.mp e
  exact I.en i d (fun m=>n (gX.mpr ⟨m,h1⟩)) h2
 ·obtain ⟨m1,m2⟩:=gX.mp m
  obtain ⟨d,a,o,h1,h2,h3,h4,h5⟩:=I.eo i m1
  exact ⟨d,a,o,ng.mpr ⟨m2,h1⟩,h2,h3,h4,h5⟩
end
section
variable {X:Cx} {z z0:Z}
theorem Rep.give {a:Addr} {o:O} (I:Rep X z) (f:Fre X z a) (no:¬ Own z a) (r:ObR X.W z.ρ z.G z.h (a,a) o):Rep X { z with ρ:=z.ρ ++ [(a,a)],t:=⟨z.t.env,z.t.ow,z.t.st ++ [o]⟩ }:=by
 have pre:z.ρ <+: z.ρ ++ [(a,a)]:=List.prefix_append _ _
 have eqa:∀ {b:Addr},(b=((a,a):Addr×Addr).1∨b=((a,a):Addr×Addr).2)→b=a:=fun h=>h.elim id id
 have old:∀ {i:Nat} {q:Addr×Addr} {b:Addr},z.ρ[i]? = some q→(b=q.1∨b=q.2)→b≠a:=fun h1 h2 e=>f.2.1 ⟨_,List.mem_of_getElem? h1,e ▸ h2⟩
 have nm:∀ {b:Addr},b≠a→¬ Mu z.ρ b→¬ Mu (z.ρ ++ [(a,a)]) b:=fun n m w=>(dk.mp w).elim m fun w=>n (eqa w)
 refine ⟨⟨I.md,I.fm,I.hd,I.bs,I.gh,by simp [I.rl],fun i j q1 q2 b h1 h2 h3 h4=>?_,fun b m=>?_,fun n o' q h1 h2=>?_,I.fu,fun b m=>⟨(I.ff b m).1,nm (fun w=>f.2.2.1 (w ▸ m)) (I.ff b m).2⟩,I.br,I.os,I.tk⟩,I.ok,I.lo,I.ce,fun b l=>⟨(I.fl b l).1,nm (fun w=>f.2.2.2 (w ▸ l)) (I.fl b l).2⟩,I.el,I.sl,fun i d n e=>let ⟨u,q,r⟩:=I.en i d n e;⟨u,q,r.mono pre (.refl _)⟩,fun i m=>?_,I.od⟩
 ·rcases aH h1 with a1 | ⟨a1,b1⟩
  ·rcases aH h2 with a2 | ⟨a2,b2⟩
   ·exact I.rn i j q1 q2 b a1 a2 h3 h4
   ·subst b2;exact absurd (eqa h4) (old a1 h3)
  ·subst b1
   rcases aH h2 with a2 | ⟨a2,b2⟩
   ·exact absurd (eqa h3) (old a2 h4)
   ·rw [a1,a2]
 ·rcases dk.mp m with m | m
  ·exact I.rg b m
  ·rw [eqa m];exact f.1
 ·rcases aH h2 with a2 | ⟨a2,b2⟩
  ·rcases aH h1 with a1 | ⟨a1,_⟩
   ·exact (I.ob n o' q a1 a2).mono pre (.refl _) fun _ _ _ e=>e
   ·have:=(List.getElem?_eq_some_iff.mp a2).1;rw [I.rl] at this;omega
  ·subst b2
   rcases aH h1 with a1 | ⟨_,b1⟩
   ·have:=(List.getElem?_eq_some_iff.mp a1).1;rw [← I.rl] at this;omega
   ·subst b1;exact r.mono pre (.refl _) fun _ _ _ e=>e
 ·obtain ⟨d,b,o,h1,h2,h3,r,g⟩:=I.eo i m
  exact ⟨d,b,o,h1,h2,h3,r.mono pre (.refl _) fun _ _ _ e=>e,g.1,nm (fun w=>no ⟨i,m,w ▸ h2⟩) g.2.1,g.2.2⟩
theorem nX {e:Expr} {c:E} (h:LF X e c):LE X e (.sto c):=fun br z I nb=>by
 have q0:X.ev br (.sto c) z.t=(X.ev false c z.t).bind xB:=rfl
 rw [q0] at nb ⊢
 refine wpAny_mono (h z I fun q=>nb (by rw [q];rfl)) (fun u s' ⟨z',d,e,q,y,I1,fv⟩=>?_) fun _ _ w=>w.map
 rw [q] at nb ⊢
 obtain ⟨a,o,h1,h2,h3,h4,h5,h6⟩:=fv
 cases d with
 | lst l=>
   cases h3
   refine ⟨{ z' with ρ:=z'.ρ ++ [(a,a)],t:=⟨z'.t.env,z'.t.ow,z'.t.st ++ [.lst l]⟩ },.ref z'.t.st.length,e,rfl,⟨⟨y.st.pr.trans (List.prefix_append _ _),y.st.gg,y.st.gn,fun b m=>?_,y.st.th,y.st.sm,y.st.sl⟩,y.sg,y.en,y.ow⟩,I1.give h5 h6 h4,.of ?_⟩
   ·rcases dk.mp m with m | m
    ·exact y.st.rn b m
    ·exact .inr ((show b=a from m.elim id id) ▸ h2)
   ·exact ⟨_,jR I1.toHR,h1⟩
 | _=>exact absurd rfl nb
end
mutual
theorem RD.flT {G2:Hp} (h:∀ b o,G b=some o→o.cls = .type "tuple"→G2 b=some o):∀ {d:D} {v},L2.Ev.flT d=true→RD W ρ G d v→RD W ρ2 G2 d v
 | .non,_,_,e=>e
 | .bl _,_,_,e=>e
 | .int _,_,_,e=>e
 | .str _,_,_,e=>e
 | .tup _,_,n,⟨a,o,vs,e,t,q,r⟩=>⟨a,o,vs,e,h _ _ t q.1,q,RDs.flT h n r⟩
 | .lst _,_,n,_=>nomatch n
 | .dic _ _,_,n,_=>nomatch n
 | .ins _ _,_,n,_=>nomatch n
 | .ref _,_,n,_=>nomatch n
theorem RDs.flT {G2:Hp} (h:∀ b o,G b=some o→o.cls = .type "tuple"→G2 b=some o):∀ {ds:List D} {vs},L2.Ev.flTs ds=true→RDs W ρ G ds vs→RDs W ρ2 G2 ds vs
 | [],_,_,e=>e
 | _ :: _,_,n,⟨v,r,e,t,q⟩=>by
   have n:(L2.Ev.flT _ && L2.Ev.flTs _)=true:=n
   rw [Bool.and_eq_true] at n
   exact ⟨v,r,e,RD.flT h n.1 t,RDs.flT h n.2 q⟩
end
section
variable {X:Cx} {z z0:Z}
theorem pT {env:List (Option D)} {i:Nat} {d:D} (h:(aM env)[i]? = some (some d)):env[i]? = some (some d)∧noR d=true:=by
 unfold aM at h
 rw [List.getElem?_map] at h
 cases q:env[i]? with
 | none=>rw [q] at h;cases h
 | some o=>cases o with
   | none=>rw [q] at h;cases h
   | some e=>
     rw [q] at h
     have h:some ((some e).bind fun d=>if noR d then some d else none)=some (some d):=h
     have h:=Option.some.inj h
     have h:(if noR e then some e else none)=some d:=h
     split at h
     ·cases h;exact ⟨rfl,by assumption⟩
     ·cases h
def Z.snap (z:Z) (a:Addr) (i:Nat) (l:List D):Z:=⟨[],fun b=>if b=a then z.h a else z.G b,⟨(aM z.t.env).set i (some (.lst l)),[],[]⟩,z.σ,z.s⟩
theorem Rep.snap {a b:Addr} {i n:Nat} {l:List D} (I:Rep X z) (o0:z.t.ow = []) (ei:z.t.env[i]? = some (some (.ref n))) (ep:z.ρ[n]? = some (a,b)) (es:z.t.st[n]? = some (.lst l)) (nl:aK l=true):Rep X (z.snap a i l):=by
 have mu:Mu z.ρ a:=⟨_,List.mem_of_getElem? ep,.inl rfl⟩
 obtain ⟨o,vs,hp2,ho,lo,rl⟩:=I.ob n _ _ es ep
 have ga:z.G a=none:=I.rg a mu
 have sb:Sub z.G (z.snap a i l).G:=fun c o e=>by
  show (if c=a then z.h a else z.G c)=_
  rw [if_neg fun w=>by rw [w,ga] at e;cases e];exact e
 have nn:∀ {c},c≠a→z.G c=none→(z.snap a i l).G c=none:=fun n e=>by show (if _=a then z.h a else z.G _)=_;rw [if_neg n];exact e
 refine ⟨⟨I.md,I.fm,I.hd,fun c o e=>sb c o (I.bs c o e),fun c o e=>?_,rfl,fun _ _ _ _ _ h=>by simp [Z.snap] at h,fun _ m=>(cB m).elim,fun _ _ _ h=>by simp [Z.snap] at h,I.fu,fun c m=>⟨nn (fun w=>(I.ff c m).2 (w ▸ mu)) (I.ff c m).1,cB⟩,I.br,I.os,I.tk⟩,I.ok,I.lo,I.ce,fun c m=>⟨nn (fun w=>(I.fl c m).2 (w ▸ mu)) (I.fl c m).1,cB⟩,?_,I.sl,fun j d _ e=>?_,(fun j m=>nomatch m),(fun j k c m=>nomatch m)⟩
 ·have e:(if c=a then z.h a else z.G c)=some o:=e
  by_cases q:c=a
  ·rw [if_pos q] at e;rw [q];exact e
  ·rw [if_neg q] at e;exact I.gh c o e
 ·show ((aM z.t.env).set i _).length=z.σ.length
  rw [List.length_set];unfold aM;rw [List.length_map];exact I.el
 ·have e:((aM z.t.env).set i (some (.lst l)))[j]? = some (some d):=e
  by_cases q:j=i
  ·subst q
   have hl:j<(aM z.t.env).length:=by unfold aM;rw [List.length_map];exact (List.getElem?_eq_some_iff.mp ei).1
   rw [List.getElem?_set_self hl] at e
   cases e
   obtain ⟨u,hu,ru⟩:=I.en j _ (by rw [o0];exact nofun) ei
   obtain ⟨p,e2,rfl⟩:=(ru:RD X.W z.ρ z.G (.ref n) u)
   rw [ep] at e2;cases e2
   exact ⟨_,hu,a,o,vs,rfl,by show (if a=a then z.h a else z.G a)=_;rw [if_pos rfl];exact ho,lo,bV nl (rl.mono (List.prefix_refl _) sb)⟩
  ·rw [List.getElem?_set_ne (Ne.symm q)] at e
   obtain ⟨e1,n1⟩:=pT e
   obtain ⟨u,hu,ru⟩:=I.en j d (by rw [o0];exact nofun) e1
   exact ⟨u,hu,jY n1 (ru.mono (List.prefix_refl _) sb)⟩
def Z.unsnap (z z2:Z) (a:Addr):Z:={ z with G:=fun b=>if b=a then none else z2.G b,s:=z2.s }
theorem Rep.unsnap {a b:Addr} {i n:Nat} {l:List D} {z2:Z} (I:Rep X z) (o0:z.t.ow = []) (ep:z.ρ[n]? = some (a,b)) (x:Ee X (z.snap a i l) z2) (J:Rep X z2):Rep X (z.unsnap z2 a)∧Ee X z (z.unsnap z2 a):=by
 have mu:Mu z.ρ a:=⟨_,List.mem_of_getElem? ep,.inl rfl⟩
 have ga:z.G a=none:=I.rg a mu
 have nO:∀ {c},¬ Own (z.snap a i l) c:=fun ⟨_,m,_⟩=>nomatch m
 have sm:∀ c o,z.h c=some o→c ∉ frs X.fr→z2.h c=some o:=fun c o e f=>x.st.sm c o e cB nO f
 have sl:∀ c o,z.h c=some o→∃ s,z2.h c=some { o with slots:=s }:=fun c o e=>by
  by_cases f:c∈frs X.fr
  ·exact x.st.sl c o e cB nO f
  ·exact ⟨o.slots,sm c o e f⟩
 have gg:Sub z.G (z.unsnap z2 a).G:=fun c o e=>by
  have ne:c≠a:=fun w=>by rw [w,ga] at e;cases e
  show (if c=a then none else z2.G c)=_
  rw [if_neg ne]
  refine x.st.gg c o ?_
  show (if c=a then z.h a else z.G c)=_
  rw [if_neg ne];exact e
 have gn:∀ c o,(z.unsnap z2 a).G c=some o→z.G c=some o∨z.h c=none:=fun c o e=>by
  have e:(if c=a then none else z2.G c)=some o:=e
  by_cases q:c=a
  ·rw [if_pos q] at e;cases e
  ·rw [if_neg q] at e
   rcases x.st.gn c o e with w | w | w
   ·have w:(if c=a then z.h a else z.G c)=some o:=w
    rw [if_neg q] at w;exact .inl w
   ·exact .inr w
   ·exact (nO w).elim
 refine ⟨I.grw J.tk (J.os.trans I.os.symm) J.br sm sl gg (fun c o e=>?_) fun c o e=>(gn c o e).imp_right I.fre,⟨List.prefix_refl _,gg,fun c o e=>(gn c o e).imp_right .inl,fun _ m=>.inl m,x.st.th,fun c o e _ _ f=>sm c o e f,fun c o e _ _ _=>sl c o e⟩,rfl,rfl,fun _ m=>m⟩
 have e:(if c=a then none else z2.G c)=some o:=e
 by_cases q:c=a
 ·rw [if_pos q] at e;cases e
 ·rw [if_neg q] at e;exact J.gh c o e
theorem k4 {i:Nat} {c:E} {e:Expr} {R R2:Z→Z→D→Value→Prop} (h:∀ z,Rep X z→X.ev false c z.t≠.bad→Wp X (eval e X.env) z (X.ev false c z.t) (R z)) (hR:∀ {z0 z:Z} {a b:Addr} {n:Nat} {l:List D} {z2:Z} {d:D} {u:Value},Ee X z0 z→Rep X z→z.t.ow = []→z.ρ[n]? = some (a,b)→z.t.st[n]? = some (.lst l)→Ee X (Z.snap z a i l) z2→Rep X z2→flX (fresh c) d=true→R (z.snap a i l) z2 d u→R2 z0 (z.unsnap z2 a) d u):∀ z,Rep X z→X.ev false (.snap i c) z.t≠.bad→Wp X (eval e X.env) z (X.ev false (.snap i c) z.t) (R2 z):=fun z I nb=>by
 have q0:X.ev false (.snap i c) z.t=(match z.t.env[i]? with
  | some (some (.ref n))=>(match z.t.st[n]? with
    | some (.lst l)=>if aK l=true then (noX (X.ev false c ⟨(aM z.t.env).set i (some (.lst l)),[],[]⟩)).bind fun d _=>if flX (fresh c) d=true then .ok d ⟨z.t.env,[],z.t.st⟩ else .bad else .bad
    | _=>.bad)
  | _=>.bad):=rfl
 cases q1:z.t.env[i]? with
 | none=>rw [q0,q1] at nb;exact absurd rfl nb
 | some o=>cases o with
   | none=>rw [q0,q1] at nb;exact absurd rfl nb
   | some d=>cases d with
     | ref n=>
       rw [q1] at q0
       dsimp only at q0
       cases q2:z.t.st[n]? with
       | none=>rw [q0,q2] at nb;exact absurd rfl nb
       | some ob=>cases ob with
         | lst l=>
           rw [q2] at q0
           dsimp only at q0
           by_cases nl:aK l=true
           ·rw [if_pos nl] at q0
            obtain ⟨I0,x0⟩:=I.rel fun _=>false
            have o0:(z.rel fun _=>false).t.ow = []:=List.filter_eq_nil_iff.mpr fun _ _=>by simp
            obtain ⟨⟨a,b⟩,ep⟩:∃ p,z.ρ[n]? = some p:=by
             have:=(List.getElem?_eq_some_iff.mp q2).1
             rw [← I.rl] at this
             exact ⟨_,List.getElem?_eq_getElem this⟩
            have J:=I0.snap (a:=a) (b:=b) (i:=i) (n:=n) (l:=l) o0 q1 ep q2 nl
            have nb2:X.ev false c ((z.rel fun _=>false).snap a i l).t≠.bad:=fun w=>nb (by rw [q0,show X.ev false c ⟨(aM z.t.env).set i (some (.lst l)),[],[]⟩ = .bad from w];rfl)
            refine wpAny_mono (h ((z.rel fun _=>false).snap a i l) J nb2) (fun u s' ⟨z2,d,e1,q3,x2,J2,r⟩=>?_) fun u s' ⟨z2,c',l',_,q3,_,_,_⟩=>absurd (by rw [q0,show X.ev false c ⟨(aM z.t.env).set i (some (.lst l)),[],[]⟩ = .exc c' l' z2.t from q3];rfl) nb
            rw [show X.ev false c ⟨(aM z.t.env).set i (some (.lst l)),[],[]⟩ = .ok d z2.t from q3] at q0
            have q0:X.ev false (.snap i c) z.t=if flX (fresh c) d=true then .ok d ⟨z.t.env,[],z.t.st⟩ else .bad:=q0
            by_cases fr:flX (fresh c) d=true
            ·rw [if_pos fr] at q0
             obtain ⟨I3,x3⟩:=I0.unsnap (a:=a) (b:=b) (i:=i) (n:=n) (l:=l) o0 ep x2 J2
             refine ⟨(z.rel fun _=>false).unsnap z2 a,d,e1,?_,x0.trans x3,I3,hR x0 I0 o0 ep q2 x2 J2 fr r⟩
             rw [q0]
             show Out.ok d _=Out.ok d ⟨z.t.env,z.t.ow.filter _,z.t.st⟩
             rw [show z.t.ow.filter (fun _=>false) = [] from o0]
            ·rw [if_neg fr] at q0;exact absurd q0 nb
           ·rw [if_neg nl] at q0;exact absurd q0 nb
         | _=>rw [q0,q2] at nb;exact absurd rfl nb
     | _=>rw [q0,q1] at nb;exact absurd rfl nb
theorem jh {z z2:Z} {a b:Addr} {i n:Nat} {l:List D} (I:Rep X z) (ep:z.ρ[n]? = some (a,b)) (es:z.t.st[n]? = some (.lst l)) (x:Ee X (z.snap a i l) z2):∀ c o,z2.G c=some o→o.cls = .type "tuple"→(z.unsnap z2 a).G c=some o:=fun c o e t=>by
 obtain ⟨o',vs,hp2,ho,⟨⟨k,rfl⟩,_⟩,rl⟩:=I.ob n _ _ es ep
 show (if c=a then none else z2.G c)=_
 rw [if_neg fun w=>?_]
 ·exact e
 ·subst w
  have:=x.st.gg c _ (show (if c=c then z.h c else z.G c)=some _ by rw [if_pos rfl];exact ho)
  rw [e] at this
  cases this
  exact absurd (Value.type.inj t) (by decide)
theorem qQ {i:Nat} {e:Expr} {c:E} (h:LE X e c) (hf:fresh c=false):LE X e (.snap i c):=fun br=>
 k4 (R:=fun _=>RV X.W false c) (R2:=fun _=>RV X.W br (.snap i c)) (h false) fun {z0 z a b n l z2 d u} x0 I o0 ep es x J f r=>.of (by
  rw [hf] at f
  exact RD.flT (jh I ep es x) f r.rd)
theorem ko {z0 z z2:Z} {a b:Addr} {i n:Nat} {l:List D} {d:D} {u:Value} (x0:Ee X z0 z) (I:Rep X z) (o0:z.t.ow = []) (ep:z.ρ[n]? = some (a,b)) (es:z.t.st[n]? = some (.lst l)) (x:Ee X (z.snap a i l) z2) (f:flR d=true) (r:FV X (z.snap a i l) z2 d u):FV X z0 (z.unsnap z2 a) d u:=by
 obtain ⟨a',o,rfl,h1,h2,h3,h4,h5⟩:=r
 cases d with
 | lst m=>
   cases h2
   obtain ⟨o,vs,q1,q2,q3,q4⟩:=h3
   refine ⟨a',.lst m,rfl,x0.st.no h1,rfl,⟨o,vs,q1,q2,q3,RDs.flT (jh I ep es x) f q4⟩,⟨?_,fun m=>?_,h4.2.2.1,h4.2.2.2⟩,fun ⟨j,m,_⟩=>by rw [show (z.unsnap z2 a).t.ow = [] from o0] at m;exact nomatch m⟩
   ·show (if a'=a then none else z2.G a')=none
    split
    ·rfl
    ·exact h4.1
   ·obtain ⟨o2,e2⟩:=I.th m
    rw [show z.h a'=none from h1] at e2;cases e2
 | _=>first | (cases h2;done) | cases f
theorem oO {z0 z z2:Z} {a C:Addr} {i:Nat} {l:List D} (x0:Ee X z0 z) (I:Rep X z) (o0:z.t.ow = []) (r:Nob X (z.snap a i l) z2 C):Nob X z0 (z.unsnap z2 a) C:=by
 refine ⟨x0.st.no r.1,⟨?_,fun m=>?_,r.2.1.2.2.1,r.2.1.2.2.2⟩,fun ⟨j,m,_⟩=>by rw [show (z.unsnap z2 a).t.ow = [] from o0] at m;exact nomatch m⟩
 ·show (if C=a then none else z2.G C)=none
  split
  ·rfl
  ·exact r.2.1.1
 ·obtain ⟨o2,e2⟩:=I.th m
  rw [show z.h C=none from r.1] at e2;cases e2
theorem eh {i:Nat} {e:Expr} {c:E} (h:LF X e c) (hf:fresh c=true):LF X e (.snap i c):=
 k4 (R:=FV X) (R2:=FV X) h fun {z0 z a b n l z2 d u} x0 I o0 ep es x J f r=>ko x0 I o0 ep es x (by rw [hf] at f;exact f) r
theorem rP {c:E} {i:Nat} {x:Str} {pos':Pos} {E:Value→Shared→Prop} {zf:Z} {d:D} {D' C:Addr} {m:Str→Option Value} (hN:X.N.Nodup) (hi:X.N[i]? = some x) (hx:Loc X.env.scope x) (hf:fresh c=true) (x0:Ee X z zf) (If:Rep X zf) (e1:X.ev false c z.t = .ok d zf.t) (fv:FV X z zf d (.ref D')) (nC:Nob X z zf C) (exC:∃ oC,zf.h C=some oC) (hn:zf.s.heap.Ns C m) (CD:C≠D') :
 compPost X.M X.A E (some (assign (.Name x pos') X.env)) (fun _ s'=>Ps X z (X.ex (.set i c) z.t) .next s') (.ref D') C (.ok .next) zf.s:=by
 show wpAny _ X.A (assign (.Name x pos') X.env (.ref D')) _ _ _
 refine wpAny_assign_Name (bA (own:=true) x0.go If hN hi hx fv fun s' a sb la I' g'=>?_)
 have Ca:C≠a:=fun w=>nC.2.1.2.2.2 (w ▸ la.1)
 refine ⟨m,hn.sameBut sb Ca,fun h' sb'=>?_⟩
 have k:∀ b o,b ∉ [C]→s'.heap.get? b=some o→h'.get? b=some o:=fun b o m e=>(sb'.2 b fun w=>m (by rw [w];exact List.mem_singleton.mpr rfl)).trans e
 obtain ⟨oC,eC⟩:=exC
 obtain ⟨I4,S4,g4,_⟩:=Rep.turn (z:={ zf with t:=stV zf.t i d true,σ:=zf.σ.set i (some (.ref D')),s:=s' }) (s':={ s' with heap:=h' }) g'.st I' (fun b hb=>by
  rw [List.mem_singleton.mp hb]
  refine ⟨⟨nC.1,nC.2.1,fun ⟨j,mj,ej⟩=>?_⟩,oC,(sb.2 C Ca).trans eC⟩
  by_cases q:j=i
  ·subst q
   have hl:j<zf.σ.length:=by rw [If.sl];exact (List.getElem?_eq_some_iff.mp hi).1
   have ej:(zf.σ.set j (some (.ref D')))[j]? = some (some (.ref C)):=ej
   rw [List.getElem?_set_self hl] at ej
   cases ej;exact CD rfl
  ·have ej:(zf.σ.set i (some (.ref D')))[j]? = some (some (.ref C)):=ej
   rw [List.getElem?_set_ne (Ne.symm q)] at ej
   have mj:j∈i :: zf.t.ow.filter (· != i):=mj
   rcases List.mem_cons.mp mj with w | w
   ·exact q w
   ·exact nC.2.2 ⟨j,(List.mem_filter.mp w).1,ej⟩) k ⟨rfl,rfl⟩
 refine nxt (z1:=Z.up { zf with t:=stV zf.t i d true,σ:=zf.σ.set i (some (.ref D')),s:=s' } { s' with heap:=h' }) ⟨S4,g'.ow⟩ I4 ?_
 show Out.go (X.ev false c z.t) _=_
 rw [e1]
 show ah.nx (ip zf.t i d (fresh c))=_
 have ld:qC d=true:=by
  obtain ⟨_,_,_,_,t,_⟩:=fv
  cases d <;> first | rfl | cases t
 unfold ip
 rw [ld,hf];rfl
theorem lQ {N:List Str} {sc:Scope} {ee tg iter:Expr} {ifs:List Expr} {t:List Nat} {one:Bool} {it elt cond:E} {pos pos' spos:Pos} {i j:Nat} {x:Str} (hN:X.N.Nodup) (hi:X.N[i]? = some x) (hx:Loc X.env.scope x) (P:LcP X N ee tg iter ifs sc t one it elt cond):LS X (.Assign [.Name x pos'] (.ListComp ee [⟨tg,iter,ifs,0⟩] sc pos) spos) (.set i (.snap j (.lc t one it elt cond))):=fun z I nb=>by
 obtain ⟨b,sw⟩:∃ b,swapsWith (.ListComp ee [⟨tg,iter,ifs,0⟩] sc pos) (some (.Name x pos')) spos.line X.env=pure b:=⟨_,rfl⟩
 cases b with
 | false=>exact eY hN hi hx ((eh (iW P) rfl).le fun _=>rfl) (fun _=>eh (iW P) rfl) sw z I nb
 | true=>
   have nb:X.ev false (.snap j (.lc t one it elt cond)) z.t≠.bad:=fun q=>nb (show Out.go (X.ev false (.snap j (.lc t one it elt cond)) z.t) _=_ by rw [q];rfl)
   rw [exec_Assign_Name_used _ _ _ _ sw]
   refine wpAny_bind (wpAny_standAt (wpAny_bind ?_))
   show wpAny _ X.A (do let _ ← comprehension (.ListComp ee [⟨tg,iter,ifs,0⟩] sc pos) sc X.env _ (newList []) false (eval iter X.env) (some (assign (.Name x pos') X.env))) _ _ z.s
   have q0:X.ev false (.snap j (.lc t one it elt cond)) z.t=(match z.t.env[j]? with
    | some (some (.ref n))=>(match z.t.st[n]? with
      | some (.lst l)=>if aK l=true then (noX (X.ev false (.lc t one it elt cond) ⟨(aM z.t.env).set j (some (.lst l)),[],[]⟩)).bind fun d _=>if flX true d=true then .ok d ⟨z.t.env,[],z.t.st⟩ else .bad else .bad
      | _=>.bad)
    | _=>.bad):=rfl
   cases q1:z.t.env[j]? with
   | none=>rw [q0,q1] at nb;exact absurd rfl nb
   | some o=>cases o with
     | none=>rw [q0,q1] at nb;exact absurd rfl nb
     | some d=>cases d with
       | ref n=>
         rw [q1] at q0
         dsimp only at q0
         cases q2:z.t.st[n]? with
         | none=>rw [q0,q2] at nb;exact absurd rfl nb
         | some ob=>cases ob with
           | lst l=>
             rw [q2] at q0
             dsimp only at q0
             by_cases nl:aK l=true
             ·rw [if_pos nl] at q0
              obtain ⟨I0,x0⟩:=I.rel fun _=>false
              have o0:(z.rel fun _=>false).t.ow = []:=List.filter_eq_nil_iff.mpr fun _ _=>by simp
              obtain ⟨⟨a,b⟩,ep⟩:∃ p,z.ρ[n]? = some p:=by
               have:=(List.getElem?_eq_some_iff.mp q2).1
               rw [← I.rl] at this
               exact ⟨_,List.getElem?_eq_getElem this⟩
              have J:=I0.snap (a:=a) (b:=b) (i:=j) (n:=n) (l:=l) o0 q1 ep q2 nl
              have nb2:X.ev false (.lc t one it elt cond) ((z.rel fun _=>false).snap a j l).t≠.bad:=fun w=>nb (by rw [q0,show X.ev false (.lc t one it elt cond) ⟨(aM z.t.env).set j (some (.lst l)),[],[]⟩ = .bad from w];rfl)
              refine wpAny_bind (thn (jJ (use:=some (assign (.Name x pos') X.env)) (z:=(z.rel fun _=>false).snap a j l) (Q:=fun _ s'=>Ps X z (X.ex (.set i (.snap j (.lc t one it elt cond))) z.t) .next s') P J rfl nb2 (fun u s' ⟨z',c',l',e,q3,_,_,_⟩=>absurd (by rw [q0,show X.ev false (.lc t one it elt cond) ⟨(aM z.t.env).set j (some (.lst l)),[],[]⟩ = .exc c' l' z'.t from q3];rfl) nb) fun zf d D' C m x2 If e fv nC exC hn CD=>?_) fun _ s' hq=>wpAny_pure (wpAny_pure hq))
              rw [show X.ev false (.lc t one it elt cond) ⟨(aM z.t.env).set j (some (.lst l)),[],[]⟩ = .ok d zf.t from e] at q0
              have q0:X.ev false (.snap j (.lc t one it elt cond)) z.t=if flX true d=true then .ok d ⟨z.t.env,[],z.t.st⟩ else .bad:=q0
              by_cases fr:flX true d=true
              ·rw [if_pos fr] at q0
               obtain ⟨I3,x3⟩:=I0.unsnap (a:=a) (b:=b) (i:=j) (n:=n) (l:=l) o0 ep x2 If
               refine rP (z:=z) (zf:=(z.rel fun _=>false).unsnap zf a) hN hi hx rfl (x0.trans x3) I3 ?_ (ko x0 I0 o0 ep q2 x2 fr fv) (oO x0 I0 o0 nC) exC hn CD
               rw [q0]
               show Out.ok d _=Out.ok d ⟨z.t.env,z.t.ow.filter _,z.t.st⟩
               rw [show z.t.ow.filter (fun _=>false) = [] from o0]
              ·rw [if_neg fr] at q0;exact absurd q0 nb
             ·rw [if_neg nl] at q0;exact absurd q0 nb
           | _=>rw [q0,q2] at nb;exact absurd rfl nb
       | _=>rw [q0,q1] at nb;exact absurd rfl nb
end
def cxF (X:Cx) (cal cal1:Nat→List D→List O→Res) (N:List Str) (qual:Str) (scope:Scope) (f:Addr) (cd:Value) (A:Around) (fr:List Env) (L:Addr):Cx:=
 { X with A:=A.deeper (envOfC qual scope L f cd),fr:=envOfC qual scope L f cd :: fr,N:=N,env:=envOfC qual scope L f cd,cal:=cal,cal1:=cal1 }
section
variable {X:Cx} {cal cal1:Nat→List D→List O→Res} {N ps:List Str} {qual:Str} {scope:Scope} {f:Addr} {cd:Value} {A:Around} {fr:List Env} {z z':Z} {k:Nat}
theorem ml {α β:Type} {ds:List α} {n i:Nat} {d:α} (h:(ds.map some ++ List.replicate n none)[i]? = some (some d)):ds[i]? = some d:=by
 by_cases hi:i<ds.length
 ·rw [List.getElem?_append_left (by simpa using hi),List.getElem?_map] at h
  cases e:ds[i]? with
  | none=>rw [e] at h;cases h
  | some a=>rw [e] at h;cases h;rfl
 ·rw [List.getElem?_append_right (by simpa using hi),List.getElem?_replicate] at h
  split at h <;> cases h
theorem pk {α:Type} {ds:List α} {n i:Nat} {d:α} (h:ds[i]? = some d):(ds.map some ++ List.replicate n none)[i]? = some (some d):=by
 have hi:=(List.getElem?_eq_some_iff.mp h).1
 rw [List.getElem?_append_left (by simpa using hi),List.getElem?_map,h];rfl
theorem j6 {es:List (Option D)} {n i:Nat} {d:D} (h:(es ++ List.replicate n none)[i]? = some (some d)):es[i]? = some (some d):=by
 by_cases hi:i<es.length
 ·rwa [List.getElem?_append_left hi] at h
 ·rw [List.getElem?_append_right (by omega),List.getElem?_replicate] at h
  split at h <;> cases h
theorem l8 {s1:Shared} {es:List (Option D)} {us:List Value} (S:dw N ps scope) (I:HR { X with A:=A,fr:=fr } z) (hr:aW (k+1) A) (hl:us.length=ps.length) (le:es.length=us.length) (r:∀ (i:Nat) (d:D),es[i]? = some (some d)→∃ v,us[i]? = some v∧RD X.W z.ρ z.G d v)
 (x:InCallC z.s z.s.heap.objs.size (bindL (envOfC qual scope z.s.heap.objs.size f cd).kindOf (ps.zip us) fun _=>none) (cellsFrom (z.s.heap.objs.size+1) scope.names []) (bindC (envOfC qual scope z.s.heap.objs.size f cd).kindOf (ps.zip us) fun _=>none) s1) (tk1:X.tz≤s1.toks) :
 Rep (cxF X cal cal1 N qual scope f cd A fr z.s.heap.objs.size) ⟨z.ρ,z.G,⟨es ++ List.replicate (N.length - ps.length) none,[],z.t.st⟩,us.map some ++ List.replicate (N.length - ps.length) none,s1⟩:=by
 have hpl:ps.length≤N.length:=by have:=congrArg List.length S.pre;rw [List.length_take] at this;omega
 obtain ⟨h1,tk,rfl,hk⟩:=x.done
 have fresh:∀ {c:Addr},z.s.heap.objs.size≤c→z.G c=none∧¬ Mu z.ρ c:=fun {c} h=>by
  have n:z.h c=none:=Heap.get?_none_of_le h
  refine ⟨?_,fun m=>by obtain ⟨o,e⟩:=I.th m;rw [n] at e;cases e⟩
  cases q:z.G c with
  | none=>rfl
  | some o=>have:=I.gh c o q;rw [n] at this;cases this
 have lcf:∀ {a},Lc (cxF X cal cal1 N qual scope f cd A fr z.s.heap.objs.size) a→z.s.heap.objs.size≤a:=fun h=>by
  rcases h with rfl | ⟨y,e⟩
  ·exact Nat.le_refl _
  ·exact Nat.le_of_lt (x.above y _ (PySem.mem_of_lookup e))
 have bn:X.base.get? z.s.heap.objs.size=none:=by
  cases q:X.base.get? z.s.heap.objs.size with
  | none=>rfl
  | some o=>have:=I.gh _ o (I.bs _ o q);rw [show z.h z.s.heap.objs.size=none from Heap.get?_none_of_le (Nat.le_refl _)] at this;cases this
 obtain ⟨oL,esL,epL,hoL,hdL,_⟩:=id x.toInCall.ns
 have gr:Gr z.s { z.s with heap:=h1,toks:=tk }:=.hp hk
 have G:=I.grow (am I.gh gr) tk1
 refine ⟨⟨I.md,Around.frames_deeper I.fm,I.hd,I.bs,G.gh,I.rl,I.rn,I.rg,G.ob,?_,fun b hb=>?_,I.br,I.os,tk1⟩,⟨by have:=(hr.deeper (envOfC qual scope z.s.heap.objs.size f cd)).un;show (A.deeper _).units+200<_;omega,S.kind,rfl,rfl,fun y w c e1 e2=>name_of_addr x.apart (PySem.mem_of_lookup e1) (PySem.mem_of_lookup e2),fun y hy=>?_⟩,⟨_,x.toInCall.ns,fun i y v e1 e2 e3=>?_⟩,fun y c h=>⟨_,x.cell y c h⟩,fun a l=>fresh (lcf l),by show (es ++ _).length=(us.map some ++ _).length;simp [le],by show (us.map some ++ _).length=N.length;rw [List.length_append,List.length_map,List.length_replicate];omega,fun i d _ e=>?_,(fun i m=>nomatch m),(fun i j a m=>nomatch m)⟩
 ·have kd:(envOfC qual scope z.s.heap.objs.size f cd).scope.kind≠ScopeKind.module:=by show scope.kind≠_;rw [S.kind];decide
  exact ⟨kd,⟨_,oL,rfl,bn,hoL,fun vs e=>by rw [hdL] at e;cases e⟩,G.fu⟩
 ·rcases List.mem_cons.mp (show b∈z.s.heap.objs.size :: frs fr from hb) with q | q
  ·rw [q];exact fresh (Nat.le_refl _)
  ·exact I.ff b q
 ·have hy:scope.names.lookup y=some .cell∨scope.names.lookup y=some .free:=hy
  rcases hy with hy | hy
  ·exact iF hy
  ·exact absurd rfl (S.nofree _ (PySem.mem_of_lookup hy))
 ·have hu:us[i]? = some v:=ml (β:=Unit) e2
  have hi:i<ps.length:=by rw [← hl];exact (List.getElem?_eq_some_iff.mp hu).1
  have hp:ps[i]? = some y:=by
   rw [← S.pre,List.getElem?_take_of_lt (by omega)];exact e1
  have ndP:ps.Nodup:=by rw [← S.pre];exact S.nd.sublist (List.take_sublist _ _)
  rcases S.par y (List.mem_of_getElem? hp) with k | k
  ·exact .inl ⟨k,fW ndP hp hu k⟩
  ·obtain ⟨c,e⟩:=iF (n:=z.s.heap.objs.size+1) k
   refine .inr ⟨.inl k,c,e,?_⟩
   have q:=x.cell y c e
   rw [fU ndP hp hu (by show scope.names.lookup y≠_;rw [k];decide)] at q
   exact q
 ·obtain ⟨v,e1,r1⟩:=r i d (j6 e)
  exact ⟨v,pk e1,r1⟩
theorem wm {name:Str} {params:Arguments} {body:List Stmt} {dV kV doc pm ct oc:Value} {an od:Option Addr} {osl:Array (Option Value)} {j:Nat} {c:S} (lk:X.K.lookup f=some ⟨oc,od,.func (PySem.W.fnOf name qual params body scope dV kV doc pm an cd ct),osl⟩) (hcd:PySem.W.codeIn X.K cd qual=true) (S:dw N ps scope) {df:List D} {dvs:List Value} (hj:X.Γ.fn[j]? = some ⟨ps.length,N.length,c,df⟩) (hdv:∀ ρ G,RDs X.W ρ G df dvs)
 (hb:∀ A fr L,aW k (A.deeper (envOfC qual scope L f cd))→LSs (cxF X cal cal1 N qual scope f cd A fr L) body c):FnC X (i9 X.Γ cal cal1) (k+1) j f (PySem.W.fnOf name qual params body scope dV kV doc pm an cd ct) ps dvs:=by
 have run:∀ ds st,i9 X.Γ cal cal1 j ds st=if (ds ++ df).length=ps.length then (match exS X.Γ cal cal1 c ⟨(ds ++ df).map some ++ List.replicate (N.length - ps.length) none,[],st⟩ with
  | .nx s=>.ok .non s.st
  | .rt d s=>.ok d s.st
  | .exc c l s=>.exc c l s.st
  | .bad=>.bad) else .bad:=fun ds st=>by unfold i9;rw [hj];all_goals rfl
 refine ⟨fun ds st nb=>?_,fun A fr z args us ds hr I hbd r nb=>?_⟩
 ·by_cases q:(ds ++ df).length=ps.length
  ·rw [← (hdv [] fun _=>none).len,← List.length_append];exact q
  ·rw [run,if_neg q] at nb;exact absurd rfl nb
 by_cases hl:(ds ++ df).length=ps.length
 rotate_left
 ·rw [run,if_neg hl] at nb;exact absurd rfl nb
 rw [run,if_pos hl] at nb ⊢
 have r:=r.app (hdv z.ρ z.G)
 generalize ds ++ df=ds at r hl nb ⊢
 generalize us ++ dvs=us at r hbd
 have KX:X.K.In z.s.heap:=I.kin
 have lim:z.s.heap.NoLimit:=I.md.nolimit.keeps (Rep.bk I)
 have hkind:∀ y∈ps.zip us,scope.names.lookup y.1=some .local∨(scope.names.lookup y.1=some .cell∧((cellsFrom (z.s.heap.objs.size+1) scope.names []).lookup y.1).isSome=true):=fun ⟨n,v⟩ hy=>by
  rcases S.par n (List.of_mem_zip hy).1 with q | q
  ·exact .inl q
  ·exact .inr ⟨q,PySem.W.cellsFrom_some _ _ _ (.inl q)⟩
 refine codeAny_call_function hr.depth (KX _ _ lk) rfl S.co S.gen rfl (PySem.W.codeRec_of KX hcd) (hbd _ _ _ _ ?_)
 refine aL I.tk (wpAny_newFunctionEnv_cells S.kind hkind fun env he s1 x tk1=>?_)
 subst he
 refine ⟨lim.keeps x.toInCall.keep,codeAny_func ?_⟩
 have J:=l8 (es:=ds.map some) (cal:=cal) (cal1:=cal1) S I hr (r.len ▸ hl) (by rw [List.length_map];exact r.len) (fun i d e=>r.get (by rw [List.getElem?_map,Option.map_eq_some_iff] at e;obtain ⟨_,e1,e2⟩:=e;cases e2;exact e1)) x tk1
 have hk:∀ b o,z.h b=some o→s1.heap.get? b=some o:=x.toInCall.keep
 have F:iC (cxF X cal cal1 N qual scope f cd A fr z.s.heap.objs.size):=⟨⟨_,fr,rfl,rfl⟩,⟨_,rfl⟩⟩
 have lcf:∀ {a o},z.h a=some o→¬ Lc (cxF X cal cal1 N qual scope f cd A fr z.s.heap.objs.size) a:=fun {a o} e h=>by
  have:z.s.heap.objs.size≤a:=by
   rcases h with rfl | ⟨y,e⟩
   ·exact Nat.le_refl _
   ·exact Nat.le_of_lt (x.above y _ (PySem.mem_of_lookup e))
  exact absurd (Heap.lt_size e) (Nat.not_lt.mpr this)
 have nofr:∀ {a o},z.h a=some o→a ∉ frs fr→a ∉ frs (envOfC qual scope z.s.heap.objs.size f cd :: fr):=fun {a o} e n m=>by
  rcases List.mem_cons.mp (show a∈z.s.heap.objs.size :: frs fr from m) with q | q
  ·exact absurd (Heap.lt_size e) (by rw [q];exact Nat.lt_irrefl _)
  ·exact n q
 have none1:∀ {a},s1.heap.get? a=none→z.h a=none:=fun {a} n=>by
  cases q:z.h a with
  | none=>rfl
  | some o=>rw [hk a o q] at n;cases n
 have back:∀ {z'},Stp (envOfC qual scope z.s.heap.objs.size f cd :: fr) (Pv (cxF X cal cal1 N qual scope f cd A fr z.s.heap.objs.size) ⟨z.ρ,z.G,⟨ds.map some ++ List.replicate (N.length - ps.length) none,[],z.t.st⟩,us.map some ++ List.replicate (N.length - ps.length) none,s1⟩) ⟨z.ρ,z.G,⟨ds.map some ++ List.replicate (N.length - ps.length) none,[],z.t.st⟩,us.map some ++ List.replicate (N.length - ps.length) none,s1⟩ z'→Rep (cxF X cal cal1 N qual scope f cd A fr z.s.heap.objs.size) z'→Stp fr NoW z z'∧HR { X with A:=A,fr:=fr } z':=fun {z'} y K=>by
  have nw:∀ {a o},z.h a=some o→¬ Pv (cxF X cal cal1 N qual scope f cd A fr z.s.heap.objs.size) ⟨z.ρ,z.G,⟨ds.map some ++ List.replicate (N.length - ps.length) none,[],z.t.st⟩,us.map some ++ List.replicate (N.length - ps.length) none,s1⟩ a:=fun e w=>w.elim (fun ⟨i,m,_⟩=>nomatch m) (lcf e)
  refine ⟨⟨y.pr,y.gg,fun a o e=>?_,fun a m=>(y.rn a m).imp_right none1,fun a o e=>y.th a o (hk a o e),fun a o e n _ m=>y.sm a o (hk a o e) n (nw e) (nofr e m),fun a o e n _ m=>y.sl a o (hk a o e) n (nw e) (List.mem_cons_of_mem _ m)⟩,⟨K.md,I.fm,I.hd,K.bs,K.gh,K.rl,K.rn,K.rg,K.ob,K.fu.2.2,fun b m=>K.ff b (List.mem_cons_of_mem _ m),K.br,K.os,K.tk⟩⟩
  rcases y.gn a o e with q | q | q
  ·exact .inl q
  ·exact .inr (.inl (none1 q))
  ·rcases q with ⟨i,m,_⟩ | l
   ·exact nomatch m
   ·rw [(K.fl a l).1] at e;cases e
 have nb2:(cxF X cal cal1 N qual scope f cd A fr z.s.heap.objs.size).ex c ⟨ds.map some ++ List.replicate (N.length - ps.length) none,[],z.t.st⟩≠.bad:=fun q=>nb (by rw [show exS X.Γ cal cal1 c ⟨ds.map some ++ List.replicate (N.length - ps.length) none,[],z.t.st⟩ = .bad from q])
 refine wpAny_mono (hb A fr z.s.heap.objs.size (hr.deeper _) _ J nb2) (fun fl s' hs=>?_) fun e s' hs=>l5 (Q:=fun e s''=>CRs { X with A:=A,fr:=fr } z _ (.error e) s'') F hs fun z' c' l a T cls dx q e1 y K xr na t nT=>?_
 ·cases q:exS X.Γ cal cal1 c ⟨ds.map some ++ List.replicate (N.length - ps.length) none,[],z.t.st⟩ with
  | nx t=>
    rw [show (cxF X cal cal1 N qual scope f cd A fr z.s.heap.objs.size).ex c _ = .nx t from q] at hs
    obtain ⟨rfl,z',e1,e2,y,K⟩:=hs
    subst e1 e2
    obtain ⟨b1,b2⟩:=back y.st K
    exact ⟨z',.non,rfl,rfl,b1,b2,rfl⟩
  | rt d t=>
    rw [show (cxF X cal cal1 N qual scope f cd A fr z.s.heap.objs.size).ex c _ = .rt d t from q] at hs
    obtain ⟨u,z',rfl,e1,e2,y,K,rd⟩:=hs
    subst e1
    obtain ⟨b1,b2⟩:=back y.st K
    exact ⟨z',d,rfl,by rw [e2],b1,b2,rd⟩
  | exc c' l t=>rw [show (cxF X cal cal1 N qual scope f cd A fr z.s.heap.objs.size).ex c _ = .exc c' l t from q] at hs;exact hs.elim
  | bad=>exact absurd q nb2
 ·obtain ⟨b1,b2⟩:=back y K
  have q:exS X.Γ cal cal1 c ⟨ds.map some ++ List.replicate (N.length - ps.length) none,[],z.t.st⟩ = .exc c' l z'.t:=q
  rw [q]
  exact ⟨z',c',l,rfl,rfl,b1,b2,a,T,cls,dx,e1,xr,t,⟨none1 na.1,na.2.1.1,na.2.1.2.1⟩,none1 nT.1,nT.2.1.1,nT.2.1.2.1⟩
end
end L2.Ev
end
section
namespace L2.Ev
open PySem.W
theorem mQ {K:Frag} {C:Addr} (Y:bJ K C) (od:Option Obj):findObj K C od "__class__" = some (.bind (.builtin "getset_descriptor.__get__") (.builtin "object.__class__")):=by
 obtain ⟨cd,hc⟩:=Option.isSome_iff_exists.mp Y.is
 unfold findObj
 rw [hc,Option.bind_some,Y.cl,Option.bind_some]
 simp [Y.sg,Y.tk]
section
variable {prog:Program} {w:World} {A:Around} {E:Value→Shared→Prop} {K:Frag} {C a:Addr} {o:Obj} {od:Option Obj} {h:Heap} {g:Array GenState} {d:Drawn} {t:Nat} {os:OsState}
theorem iG (Y:bJ K C) (X:K.In h) (I:InstAt h a o C od) (hq:Q () ⟨h,g,d,t,os⟩):wpAny M A (checkBuiltinCall "BaseException.__getattribute__" ⟨[.ref a,nameV],[]⟩) Q E ⟨h,g,d,t,os⟩:=by
 have k1:builtinKind "BaseException.__getattribute__" = some .slot:=by decide +kernel
 have k2:splitId "BaseException.__getattribute__" = some ("BaseException","__getattribute__"):=by decide +kernel
 have L:Looks M h (isInstance (.ref a) (.type "BaseException")) true:=(I.type (M:=M)).andThen (looks_mroIn X Y.be)
 have ha:=F.args_bexc_ga (.ref a) nameV
 simp only [checkBuiltinCall,k1,k2]
 refine wpAny_bind (L.at ?_)
 repeat (any_goals (first | assumption | wp_step))
theorem iJ {tk:Tok} {Q:Fin→Shared→Prop} (Y:bJ K C) (X:K.In h) (I:InstAt h a o C od) (hq:Q (.done (.ret (.ref C))) ⟨h,g,d,t,os⟩) :
 wpAny (model prog w) A (Builtin.«object.__getattribute__» ⟨[.ref a,.str "__class__" tk],[]⟩) Q E ⟨h,g,d,t,os⟩:=by
 have L0:=I.type (M:=model prog w)
 have L1:=looks_find (M:=model prog w) X I (mQ Y od)
 refine wpAny_bind (wpAny_pure (wpAny_bind (wpAny_pure (wpAny_bind (L0.at (wpAny_bind (L1.at ?_)))))))
 show wpAny _ _ (holding [Value.builtin "object.__class__"] (call (Value.builtin "getset_descriptor.__get__") [Value.builtin "object.__class__",Value.ref a,Value.ref C]) >>= ret) _ _ _
 exact wpAny_bind (wpAny_holding (wpAny_call (class_get (s:=⟨h,g,d,t,os⟩) X I Y.ob (wpAny_pure hq))))
theorem jy (Y:bJ K C) (X:K.In h) (I:InstAt h a o C od) (hq:Q (some (.ref C)) ⟨h,g,d,t+1,os⟩):wpAny (model prog w) A (getAttr? (.ref a) "__class__") Q E ⟨h,g,d,t,os⟩:=by
 have L0:=I.type (M:=model prog w)
 have L1:=looks_findIn (M:=model prog w) X Y.ga
 have L2:=looks_findIn (M:=model prog w) X Y.gn
 have G:=PySem.F.attrBase_ValueError.ga
 have b1:=G.bind (.ref a)
 unfold getAttr?;unfold getAttrBy?;unfold getAttrBy
 refine wpAny_bind (wpAny_mkText ?_)
 refine wpAny_bind (wpAny_attempt (wpAny_holding ?_))
 refine wpAny_bind (L0.at ?_)
 refine wpAny_bind (L1.at ?_)
 show wpAny _ _ (getAttrByItsOwn _ _ _ _ _ _) _ _ _
 unfold getAttrByItsOwn
 refine wpAny_bind (L2.at ?_)
 refine wpAny_bind (wpAny_attempt (wpAny_holding ?_))
 show wpAny _ _ (boundAndCalled _ _ _) _ _ _
 unfold boundAndCalled
 rw [b1]
 refine wpAny_bind (wpAny_pure ?_)
 refine wpAny_call (codeAny_call_builtin G.plain F.entry_bexc_ga (iG Y X I (iJ Y X I ?_)))
 exact handed_on rfl (wpAny_pure hq)
end
theorem mJ {K:Frag} (e:(clsIn K C).isSome=true):∃ c' d' cd' sl',K.lookup C=some ⟨c',d',.cls cd',sl'⟩:=by
 unfold clsIn at e
 split at e
 ·rename_i q;exact ⟨_,_,_,_,q⟩
 ·cases e
structure iB (K:Frag) (B:Addr):Prop where
 ty:typeIn K (.ref B)=some (.type "type")
 is:(clsIn K B).isSome=true
 be:mroIn K B (.type "BaseException")=some true
theorem kA {K:Frag} {M:Model} (X:K.In h) (e:(clsIn K C).isSome=true):Looks M h (isType (.ref C)) true:=by
 obtain ⟨c',d',cd',sl',hk⟩:=mJ e
 intro A' Q' E' s' k q
 unfold isType;unfold loadHead
 exact wpAny_bind (wpAny_loadPart (k _ _ (X _ _ hk)) (wpAny_pure q))
theorem eZ {K:Frag} {M:Model} {A:Around} {E:Value→Shared→Prop} {s:Shared} {a B C:Addr} {o:Obj} {Q:Bool→Shared→Prop} (X:K.In s.heap) (Y:iB K B) (he:s.heap.get? a=some o) (hc:o.cls = .ref C) {b:Bool} (hm:mroIn K C (.ref B)=some b) (hq:Q b s):wpAny M A (excMatches (.ref a) (.ref B)) Q E s:=by
 have L1:Looks M s.heap (isInstance (.ref B) (.type "tuple")) false:=(looks_typeIn X Y.ty).andThen (Looks.of_pure tc_notTuple)
 have L2:=kA (M:=M) X Y.is
 have L3:=looks_mroIn (M:=M) X Y.be
 have L4:=looks_mroIn (M:=M) X hm
 obtain ⟨h,g,d,t,os⟩:=s
 unfold excMatches isExcClass
 refine wpAny_bind (L1.at ?_)
 dsimp only
 rw [if_neg Bool.false_ne_true]
 refine wpAny_bind (wpAny_pure ?_)
 rw [List.forIn_cons]
 refine wpAny_bind (wpAny_bind (wpAny_bind (wpAny_bind (L2.at ?_))))
 rw [if_pos rfl]
 refine L3.at ?_
 rw [if_neg (show ¬ ((!true)=true) by decide)]
 refine wpAny_pure ?_
 dsimp only
 rw [List.forIn_nil]
 refine wpAny_pure ?_
 have T0:∀ {Q':Value→Shared→Prop},Q' (.ref C) ⟨h,g,d,t,os⟩→wpAny M A (typeOf (.ref a)) Q' E ⟨h,g,d,t,os⟩:=fun {Q'} q'=>by
  repeat (first | (with_reducible refine wpAny_loadPart_at he ?_;rw [hc]) | wp_step)
  exact q'
 refine wpAny_bind (T0 ?_)
 rw [List.forIn_cons]
 refine wpAny_bind (wpAny_bind (wpAny_bind (L4.at ?_)))
 cases b with
 | true=>rw [if_pos rfl];exact wpAny_pure (wpAny_pure (wpAny_pure hq))
 | false=>
   rw [if_neg Bool.false_ne_true]
   exact wpAny_pure (wpAny_pure (show wpAny M A (pure false) Q E _ from wpAny_pure hq))
def fj (bmB:List Value):List Value→Bool
 | []=>false
 | v :: r=>(v :: r) == bmB || match v with | .ref _=>fj bmB r | _=>false
theorem cM (hp:refuseLoop self "__setattr__" bmB=pure ()):∀ {l},fj bmB l=true→refuseLoop self "__setattr__" l=pure ()
 | [],e=>by cases e
 | v :: r,e=>by
   unfold fj at e
   rcases Bool.or_eq_true_iff.mp e with z | z
   ·rw [beq_iff_eq.mp z];exact hp
   ·split at z
    ·rw [refuseLoop_ref];exact cM hp z
    ·cases z
abbrev veB:List Value:=[.type "ValueError",.type "Exception",.type "BaseException",.type "object"]
abbrev exB:List Value:=[.type "Exception",.type "BaseException",.type "object"]
structure eA (K:Frag) (C:Addr):Prop where
 sa:findIn K (.ref C) "__setattr__" = some (some (.builtin "object.__setattr__"))
 over:((clsIn K C).any fun cd=>fj veB cd.mro || fj exB cd.mro)=true
 hd:((clsIn K C).any fun cd=>cd.hasDict)=true
 ob:mroIn K C (.type "object")=some true
section
variable {prog:Program} {w:World} {A:Around} {E:Value→Shared→Prop} {s:Shared} {K:Frag} {x C:Addr} {o:Obj} {vs:Array Value} {mA:Str→Option Value} {name:Str} {v:Value} {ns:List Str}
theorem gy (hn:s.heap.Ns1 d mA) (hw:Within mA ns) (hz:ns.length<1000)
 (hq:∀ h',h'.Ns1 d (fun y=>if y=name then some v else mA y)→Heap.SameBut d s.heap h'→Q (.done (.ret .none)) { s with heap:=h',toks:=s.toks+1 }):wpAny M A (Builtin.ObjectAttr.storeInDict d (.str name tk) name v) Q E s:=by
 unfold Builtin.ObjectAttr.storeInDict Builtin.ObjectAttr.newKeyGuard
 refine wpAny_bind (wpAny_pure (wpAny_bind (wpAny_nsSet1 hn fun h' n' sb=>?_)))
 obtain ⟨od,es,ep,e1,e2,e3⟩:=n'.count (Within.cons name v hw)
 have few:es.size≤sizeLine:=Nat.le_trans e3 (by rw [List.length_cons,sizeLine_eq];omega)
 refine wpAny_bind (wpAny_lookBehind e1 (by rw [e2];exact pastItsLine_dict (Nat.le_succ_of_le few)) ?_)
 exact wpAny_pure (hq h' n' sb)
theorem lJ (X:K.In s.heap) (Z:eA K C) (hf:findIn K (.ref C) name=some none) (hx:s.heap.get? x=some o) (hc:o.cls = .ref C) (hd:o.data = .fields vs)
 (hm:(o.dict=none∧∀ n,mA n=none)∨∃ d,o.dict=some d∧d≠x∧s.heap.Ns1 d mA) (hw:Within mA ns) (hz:ns.length<1000)
 (hq:∀ h' d t',h'.get? x=some { o with dict:=some d }→d≠x→h'.Ns1 d (fun y=>if y=name then some v else mA y)→(∀ b u,b≠x→b≠d→s.heap.get? b=some u→h'.get? b=some u) →
  (o.dict=some d∨(o.dict=none∧s.heap.get? d=none))→Q () { s with heap:=h',toks:=t' }):wpAny (model prog w) A (setAttr (.ref x) name v) Q E s:=by
 obtain ⟨od,I⟩:∃ od,InstAt s.heap x o C od:=by
  rcases hm with ⟨z,_⟩ | ⟨d,z,_,od,_,_,e,_⟩
  ·exact ⟨none,hx,hc,by unfold notCls;rw [hd],by rw [z];trivial⟩
  ·exact ⟨some od,hx,hc,by unfold notCls;rw [hd],by rw [z];exact e⟩
 have SF:=PySem.F.store_ValueError
 obtain ⟨cd,hcd,hov⟩:=any_some Z.over
 obtain ⟨cd',hcd',hhd⟩:=any_some Z.hd
 rw [hcd] at hcd'
 cases hcd'
 refine set_plain X I Z.sa ?_
 obtain ⟨h,g,d,t,os⟩:=s
 have sub:Looks (model prog w) h (isInstance (.ref x) (.type "object")) true:=I.type.andThen (looks_mroIn X Z.ob)
 refine codeAny_call_builtin SF.slot.plain SF.entry (@check_slot (model prog w) _ _ ⟨h,g,d,t+1,os⟩ "object.__setattr__" "object" "__setattr__" (.ref x) [.str name t,v] [] _ SF.kind SF.split sub (SF.args (.ref x) (.str name t) v) ?_)
 have lm:Looks (model prog w) h (mroOf (.ref C)) cd.mro:=(looks_clsIn X hcd).andThen .now
 rw [osa_eq,refuse_eq]
 have l0:=I.type (M:=model prog w)
 have lf:=looks_findIn (M:=model prog w) X hf
 refine wpAny_bind (wpAny_bind (l0.at (wpAny_bind (lm.at ?_))))
 rw [show refuseLoop (.ref x) "__setattr__" cd.mro=pure () from (Bool.or_eq_true_iff.mp hov).elim (cM (SF.passes _)) (cM (PySem.F.store_Exception.passes _))]
 refine wpAny_pure (wpAny_bind (l0.at (wpAny_bind (lf.at ?_))))
 refine wpAny_bind (wpAny_pure ?_)
 refine wpAny_bind (wpAny_pure ?_)
 have lc:=looks_clsIn (M:=model prog w) X hcd
 obtain ⟨oc,odi,oda,osl⟩:=o
 dsimp only at hc hd hm hx
 subst hc hd
 refine wpAny_bind (wpAny_bind (wpAny_loadPart hx (wpAny_bind (lc.at ?_))))
 rw [hhd]
 rcases hm with ⟨rfl,hmA⟩ | ⟨dx,rfl,hne,hns⟩
 ·obtain rfl:mA=fun _=>none:=funext hmA
  have hxs:x≠h.objs.size:=Nat.ne_of_lt (Heap.lt_size hx)
  have hx1:=Heap.get?_push_of_some { cls:=.type "dict",data:=.dict #[] } hx
  refine wpAny_bind (wpAny_alloc' (wpAny_bind (wpAny_update' hx1 ?_)))
  have hg:((h.push { cls:=.type "dict",data:=.dict #[] }).update x fun o=>{ cls:=o.cls,dict:=some h.objs.size,data:=o.data,slots:=o.slots }).get? h.objs.size=some { cls:=.type "dict",data:=.dict #[] }:=
   (Heap.get?_update_ne _ _ _ _ (Ne.symm hxs)).trans (Heap.get?_push_at rfl rfl)
  have hn0:((h.push { cls:=.type "dict",data:=.dict #[] }).update x fun o=>{ cls:=o.cls,dict:=some h.objs.size,data:=o.data,slots:=o.slots }).Ns h.objs.size (fun _=>none):=
   ⟨_,#[],_,hg,rfl,fun e he=>absurd he (by simp),fun _=>rfl⟩
  refine wpAny_pure (a:=some h.objs.size) ?_
  refine gy (Heap.Ns1.of_empty hn0) Within.nil (by decide) fun h' n' sb=>?_
  refine hq h' h.objs.size _ ?_ (Ne.symm hxs) n' (fun b u h1 h2 e=>?_) (.inr ⟨rfl,Heap.get?_none_of_le (Nat.le_refl _)⟩)
  ·refine (sb.2 x hxs).trans (Heap.get?_update_self _ hx1 rfl)
  ·exact (sb.2 b h2).trans ((Heap.get?_update_ne _ _ _ _ h1).trans (Heap.get?_push_of_some _ e))
 ·refine wpAny_pure (a:=some dx) ?_
  refine gy hns hw hz fun h' n' sb=>?_
  exact hq h' dx _ ((sb.2 x (Ne.symm hne)).trans hx) hne n' (fun b u _ h2 e=>(sb.2 b h2).trans e) (.inl rfl)
theorem mP (Y:bJ K C) (hh:hasDictIn K C=true) (X:K.In s.heap) (hf:findIn K (.ref C) name=some none) (hx:s.heap.get? x=some o) (hc:o.cls = .ref C) (hd:o.data = .fields vs) (hdi:o.dict=some d) (hn:s.heap.Ns1 d mA) (hv:mA name=some v) (hv':handedIn v=true)
 (hq:Q v { s with toks:=s.toks+1 }):wpAny (model prog w) A (getAttr (.ref x) name expr) Q E s:=by
 obtain ⟨od,ho,hl⟩:=gD hn
 have I:InstAt s.heap x o C (some od):=⟨hx,hc,by unfold notCls;rw [hd],by rw [hdi];exact ho⟩
 have fo:findObj K C (some od) name=some (.value v):=findObj_own hh hf rfl (by rw [hl,hv])
 obtain ⟨h,g,dr,t,os⟩:=s
 have l0:=I.type (M:=model prog w)
 have l1:=looks_findIn (M:=model prog w) X Y.ga
 have l2:=looks_findIn (M:=model prog w) X Y.gn
 have l3:=looks_find (M:=model prog w) X I fo
 have G:=PySem.F.attrBase_ValueError.ga
 have b1:=G.bind (.ref x)
 unfold getAttr getAttrBy
 refine wpAny_bind (wpAny_mkText (wpAny_holding (wpAny_bind (l0.at (wpAny_bind (l1.at ?_))))))
 show wpAny _ _ (getAttrByItsOwn _ _ _ _ _ _) _ _ _
 unfold getAttrByItsOwn
 refine wpAny_bind (l2.at (wpAny_bind (wpAny_attempt (wpAny_holding ?_))))
 unfold callGetattribute
 rw [show (expr && onTheHeap (Value.builtin "BaseException.__getattribute__"))=false from Bool.and_false _,if_neg Bool.false_ne_true]
 unfold boundAndCalled
 rw [b1]
 refine wpAny_bind (wpAny_pure ?_)
 refine wpAny_call (codeAny_call_builtin G.plain F.entry_bexc_ga (iG Y X I ?_))
 refine wpAny_bind (wpAny_pure (wpAny_bind (wpAny_pure (wpAny_bind (l0.at (wpAny_bind (l3.at ?_)))))))
 exact wpAny_pure (handed_on hv' hq)
end
structure fG (K:Frag) (C fI:Addr) (bmB:List Value) (newId:String):Prop where
 at_:∃ (nm q:Str) (N:Addr) (bs bm:List Value) (hdct:Bool) (sn:List Str) (sub:List Value) (ab:Bool) (col:Option Bool) (dd:Option Addr) (k0 k1 k2 k3 k5:Option Value),
  K.lookup C=some (excClassObj nm q C N bs bm hdct sn sub ab col dd k0 k1 k2 k3 k5 newId)∧tailIn K bmB bm=true
 init:findIn K (.ref C) "__init__" = some (some (.ref fI))
 fn:isFn K (.ref fI)=true
section
variable {prog:Program} {w:World} {A:Around} {E:Value→Shared→Prop} {K:Frag} {C fI:Addr} {rest bmB:List Value} {B newId initId:String} {h:Heap} {g:Array GenState} {d:Drawn} {t:Nat} {os:OsState}
abbrev gO (h:Heap) (C:Addr) (rest:List Value):Heap:=(h.push { cls:=.type "tuple",data:=.seq rest.toArray }).push { cls:=.ref C,data:=.fields #[.ref h.objs.size,.none,.none,.none,.bool false,.none] }
theorem eE (b) (u) (z:h.get? b=some u):(gO h C rest).get? b=some u:=Heap.get?_push_of_some _ (Heap.get?_push_of_some _ z)
theorem lD:Heap.MadeExcOf h (gO h C rest) (h.objs.size+1) (.ref C) rest where
 keeps:=eE
 new:=Heap.get?_none_of_le (Nat.le_succ _)
 there:=⟨h.objs.size,by heap_get,Heap.get?_none_of_le (Nat.le_refl _),Heap.get?_push_of_some _ (Heap.get?_push_at rfl rfl)⟩
theorem fL (F:ExcBaseFacts B newId initId bmB) (X:K.In h) (O:fG K C fI bmB newId) (hz:rest.length≤sizeLine)
 (hq:∀ h' e,Heap.MadeExcOf h h' e (.ref C) rest→wpAny (model prog w) A (call (.ref fI) (.ref e :: rest)) (fun r s'=>r = .none∧Q (.done (.ret (.ref e))) s') E ⟨h',g,d,t,os⟩) :
 wpAny (model prog w) A (Builtin.«type.__call__» ⟨.ref C :: rest,[]⟩) Q E ⟨h,g,d,t,os⟩:=by
 obtain ⟨nm,q,N,bs,bm,hdct,sn,sub,ab,col,dd,k0,k1,k2,k3,k5,l,tl⟩:=O.at_
 have c0:=X _ _ l
 have T:=tail_of_in X tl
 have X1:K.In (gO h C rest):=fun b u z=>eE b u (X b u z)
 have c1:=X1 _ _ l
 have m1:=(lD (h:=h) (C:=C) (rest:=rest))
 obtain ⟨tt,e1,_,_⟩:=id m1.there
 have self:(Value.ref C :: bm).contains (.ref C)=true:=by simp
 have l1:=looks_findIn (M:=model prog w) X1 O.init
 have l2:=fun self=>bind_fn (M:=model prog w) X1 self (beq_iff_eq.mp O.fn)
 repeat (first | with_reducible refine wpAny_loadPart_at c0 ?_ | with_reducible refine wpAny_madeBy_exc c0 ?_ | wp_step)
 refine codeAny_call_builtin_code (Code.quiet_builtin _ F.quiet) (wpAny_check_new_subT F T c0 (codeAny_exc_new_subT F T c0 ?_ hz))
 show wpAny _ _ _ _ _ _
 unfold isInstance
 repeat (first | with_reducible refine wpAny_loadPart_at e1 ?_ | (with_reducible refine wpAny_isSubtype_exc c1 ?_;rw [self]) | wp_step)
 refine l1.at (wpAny_holding (wpAny_bind ((l2 _).at ?_)))
 refine wpAny_bind (wpAny_mono (hq _ _ m1) (fun r s' z=>?_) fun _ _ z=>z)
 obtain ⟨rfl,z⟩:=z
 wp_walk
 exact z
theorem mO (F:ExcBaseFacts B newId initId bmB) (X:K.In h) (O:fG K C fI bmB newId) (hz:rest.length≤sizeLine)
 (hq:∀ h' e,Heap.MadeExcOf h h' e (.ref C) rest→wpAny (model prog w) (A.under (.builtin "type.__call__" ⟨.ref C :: rest,[]⟩)) (call (.ref fI) (.ref e :: rest)) (fun r s'=>r = .none∧Q (.ref e) s') E ⟨h',g,d,t,os⟩) :
 wpAny (model prog w) A (call (.ref C) rest) Q E ⟨h,g,d,t,os⟩:=by
 obtain ⟨nm,q,N,bs,bm,hdct,sn,sub,ab,col,dd,k0,k1,k2,k3,k5,l,tl⟩:=O.at_
 have c0:=X _ _ l
 have y1:=tc_lookup
 have y2:=tc_bind (.ref C)
 have y3:Shared.TypeIs ⟨h,g,d,t,os⟩ (.ref C) "type":=⟨_,c0,rfl⟩
 refine wpAny_call (codeAny_of_tree ?_)
 show wpAny _ _ (callAny (.ref C) _) _ _ _
 repeat (any_goals (first | assumption | with_reducible refine wpAny_loadPart_at c0 ?_ | wp_step))
 refine ⟨rfl,codeAny_call_builtin_at (Code.quiet_builtin _ (by decide +kernel)) entry_typeCall (wpAny_check_type_call_sub c0 ?_)⟩
 exact fL F X O hz fun h' e m=>hq h' e m
end
section
variable {M:Model} {A:Around} {E:Value→Shared→Prop} {s:Shared}
theorem l6 {K:Frag} {env:Env} {C:Addr} {x:Sem Value} {Q:Flow→Shared→Prop} (be:mroIn K C (.type "BaseException")=some true) (ty:typeIn K (.ref C)=some (.type "type")) (hh:A.handled=none)
 (h:wpAny M A x (fun v s1=>∃ p ob vs,v = .ref p∧K.In s1.heap∧s1.heap.get? p=some ob∧ob.cls = .ref C∧ob.data = .fields vs∧vs[1]? = some .none∧E (.ref p) s1) E s):wpAny M A (raiseStmt env (some x) none) Q E s:=by
 unfold raiseStmt
 refine wpAny_bind (wpAny_mono h (fun v s1 z=>?_) fun _ _ z=>z)
 obtain ⟨p,⟨oc,od,oda,osl⟩,vs,rfl,Xk,e1,e2,e3,e4,q⟩:=z
 simp only at e2 e3
 subst e2 e3
 obtain ⟨h1,g1,d1,t1,o1⟩:=s1
 have l0:Looks M h1 (typeOf (.ref p)) (.ref C):=(Looks.ld e1).andThen .now
 have l1:Looks M h1 (isInstance (.ref p) (.type "BaseException")) true:=l0.andThen (looks_mroIn Xk be)
 have l2:=looks_typeIn (M:=M) Xk ty
 have l3:Looks M h1 (isType (.ref p)) false:=(Looks.ld e1).andThen .now
 have l4:Looks M h1 (isExcClass (.ref p)) false:=l3.andThen .now
 refine wpAny_bind (wpAny_pure (wpAny_bind (wpAny_holding ?_)))
 unfold excFromValue raisedInstance setFlight
 refine wpAny_bind (l4.at ?_)
 rw [if_neg Bool.false_ne_true]
 refine wpAny_bind (l1.at ?_)
 rw [if_pos rfl]
 refine wpAny_pure (wpAny_bind (l3.at ?_))
 rw [if_neg Bool.false_ne_true]
 refine wpAny_bind (wpAny_bind (l0.at (wpAny_bind (l2.at ?_))))
 rw [if_pos (show (Value.type "type" == Value.type "type")=true by decide)]
 refine wpAny_pure (wpAny_bind (wpAny_bind (wpAny_field e1 rfl e4 ?_)))
 rw [if_neg (show ¬ ((Value.none != Value.none)=true) by decide)]
 exact wpAny_pure (wpAny_raiseNew_none hh q)
end
end L2.Ev
end
section
namespace L2.Ev
theorem lT {M:Model} {A:Around} {E:Value→Shared→Prop} {Q:Unit→Shared→Prop} {s:Shared} {env:Env} {n:Str} {m:Str→Option Value} {pos:Pos} (hl:env.kindOf n=some .local) (hn:s.heap.Ns env.locals m) (hp:(env.scope.kind == .class || (env.scope.kind == .module && env.locals != env.globals))=false)
 (h:∀ h' v,h'.Ns env.locals (fun y=>if y=n then v else m y)→Heap.SameBut env.locals s.heap h'→Q () { s with heap:=h',toks:=s.toks+1 }):wpAny M A (do bindName env n .none;unbindBehindTheSuite env n pos) Q E s:=by
 refine wpAny_bind (wpAny_bindName (wpAny_storeName_local hl hn (fun h1 n1 s1=>?_) hp))
 unfold unbindBehindTheSuite unbindName;refine wpAny_onRaise (wpAny_bind (wpAny_point (wpAny_bind ?_)))
 unfold deleteName;simp only [hl,hp];rw [if_neg (by decide)]
 refine wpAny_bind (wpAny_nsDel_keeps n1 fun h2 v n2 s2=>?_)
 simp only [if_true,Option.isSome_some,Bool.not_true,Bool.false_eq_true,if_false]
 refine wpAny_pure (wpAny_point (h h2 v ?_ (s1.trans s2)))
 have e:(fun y=>if y=n then v else if y=n then some Value.none else m y)=fun y=>if y=n then v else m y:=by
  funext y
  by_cases z:y=n <;> simp [z]
 rw [e] at n2
 exact n2
section
variable {X:Cx} {z z' z0 z1:Z} {w:Addr→Prop}
theorem vt {a C:Addr} {l:List (Str×Value)} {f:Str} {v:Value} {Q:Value→Shared→Prop} {b:Bool} (I:Rep X z) (h:ExO z.h a C l) (nl:l≠[]) (Y:bJ X.K C) (hh:PySem.W.hasDictIn X.K C=true) (hf:PySem.W.findIn X.K (.ref C) f=some none) (lk:l.lookup f=some v) (hv:PySem.W.handedIn v=true) (q:Q v { z.s with toks:=z.s.toks+1 }):wpAny X.M X.A (getAttr (.ref a) f b) Q NoE z.s:=by
 obtain ⟨o,vs,e1,e2,e3,e4⟩:=h
 rcases e4 with ⟨w,_⟩ | ⟨d,od,e5,e6,es,ep,e7⟩
 ·exact absurd w nl
 ·exact mP Y hh I.toHR.kin hf e1 e2 e3 e5 (mA:=fun n=>l.lookup n) ⟨od,es,ep,e6,e7⟩ lk hv q
abbrev ax (X:Cx) (e:Value):Cx:={ X with A:=X.A.mark (some e),calm:=false }
theorem Rep.suite (I:Rep X z):Rep (ax X e) z:=⟨⟨I.md,I.fm,(fun c=>nomatch c),I.bs,I.gh,I.rl,I.rn,I.rg,I.ob,I.fu,I.ff,I.br,I.os,I.tk⟩,⟨I.ok.un,I.ok.kd,I.ok.gl,I.ok.bl,I.ok.ci,I.ok.ch⟩,I.lo,I.ce,I.fl,I.el,I.sl,I.en,I.eo,I.od⟩
theorem Rep.unsuite (h:X.calm=true→X.A.handled=none) (I:Rep (ax X e) z):Rep X z:=⟨⟨I.md,I.fm,h,I.bs,I.gh,I.rl,I.rn,I.rg,I.ob,I.fu,I.ff,I.br,I.os,I.tk⟩,⟨I.ok.un,I.ok.kd,I.ok.gl,I.ok.bl,I.ok.ci,I.ok.ch⟩,I.lo,I.ce,I.fl,I.el,I.sl,I.en,I.eo,I.od⟩
theorem Go.unsuite (g:Go (ax X e) z z'):Go X z z':=⟨g.st,g.ow⟩
theorem Rep.gone {h':Heap} {t:Nat} {i:Nat} {x:Str} {m:Str→Option Value} {v:Option Value} (I:Rep X z) (hN:X.N.Nodup) (hi:X.N[i]? = some x) (hk:X.env.scope.names.lookup x=some .local) (lk:∀ (i:Nat) (x:Str) (u:Value),X.N[i]? = some x→z.σ[i]? = some (some u)→Vis X.env.scope x→jp X.env z.s.heap m x u)
 (hn:h'.Ns X.env.locals (fun y=>if y=x then v else m y)) (sb:Heap.SameBut X.env.locals z.s.heap h') (tk:X.tz≤t:=by first | assumption | exact HR.tk (by assumption) | exact HR.tk1 (by assumption) | exact (Rep.toHR (by assumption)).tk | exact (Rep.toHR (by assumption)).tk1 | exact Nat.le_succ_of_le (by assumption)):Rep X { z with t:=⟨z.t.env.set i none,z.t.ow.filter (· != i),z.t.st⟩,σ:=z.σ.set i none,s:={ z.s with heap:=h',toks:=t } }∧Go X z { z with t:=⟨z.t.env.set i none,z.t.ow.filter (· != i),z.t.st⟩,σ:=z.σ.set i none,s:={ z.s with heap:=h',toks:=t } }:=by
 have ne:∀ {b:Addr},b≠X.env.locals→h'.get? b=z.h b:=fun n=>sb.2 _ n
 have lL:Lc X X.env.locals:=.inl rfl
 have nG:∀ {b o},z.G b=some o→b≠X.env.locals:=fun e q=>by rw [q,(I.fl _ lL).1] at e;cases e
 have nM:∀ {b},Mu z.ρ b→b≠X.env.locals:=fun m q=>(I.fl _ lL).2 (q ▸ m)
 obtain ⟨oL,es,ep,hoL,hdL,_⟩:=id hn
 have ck:∀ y c u,X.env.cells.lookup y=some c→z.s.heap.IsCell c u→h'.IsCell c u:=fun y c u e q=>q.sameBut sb (I.cne y c e)
 have hiσ:i<z.σ.length:=by rw [I.sl];exact (List.getElem?_eq_some_iff.mp hi).1
 have mf:∀ {j},j∈z.t.ow.filter (· != i)→j∈z.t.ow∧j≠i:=fun m=>⟨(List.mem_filter.mp m).1,by simpa using (List.mem_filter.mp m).2⟩
 have fu:h'.FunFrames X.base X.fr:=gV (fun b o e nf=>by
  by_cases q:b=X.env.locals
  ·subst q;exact ⟨oL,hoL,fun vs e=>by rw [hdL] at e;cases e⟩
  ·exact ⟨o,(ne q).trans e,nf⟩) I.fu
 refine ⟨⟨⟨I.md,I.fm,I.hd,I.bs,fun b o e=>(ne (nG e)).trans (I.gh b o e),I.rl,I.rn,I.rg,fun n o p h1 h2=>(I.ob n o p h1 h2).mono (List.prefix_refl _) (.refl _) fun b hb o e=>(ne (nM ⟨p,List.mem_of_getElem? h2,hb⟩)).trans e,fu,I.ff,I.br,I.os,tk⟩,I.ok,⟨_,hn,fun j y u e1 e2 e3=>?_⟩,fun y c e=>let ⟨u,q⟩:=I.ce y c e;⟨u,ck y c u e q⟩,I.fl,by show (z.t.env.set i none).length=(z.σ.set i none).length;rw [List.length_set,List.length_set];exact I.el,by show (z.σ.set i none).length=_;rw [List.length_set];exact I.sl,fun j d n e=>?_,fun j mj=>?_,fun j k a m1 m2 e1 e2=>?_⟩,⟨⟨List.prefix_refl _,.refl _,fun _ _ e=>.inl e,fun _ m=>.inl m,fun b o e=>?_,fun b o e _ w _=>(ne fun q=>w (.inr (.inl q))).trans e,fun b o e _ w _=>⟨o.slots,(ne fun q=>w (.inr (.inl q))).trans e⟩⟩,fun b ⟨j,mj,e⟩=>?_⟩⟩
 ·by_cases q:j=i
  ·subst q
   rw [List.getElem?_set_self hiσ] at e2;cases e2
  ·rw [List.getElem?_set_ne (Ne.symm q)] at e2
   rcases lk j y u e1 e2 e3 with ⟨k,e⟩ | ⟨k,c,e,w⟩
   ·have:y≠x:=fun e=>q (fh hN e1 (e ▸ hi))
    exact .inl ⟨k,by simp [this,e]⟩
   ·exact .inr ⟨k,c,e,ck y c _ e w⟩
 ·have e:(z.t.env.set i none)[j]? = some (some d):=e
  by_cases q:j=i
  ·subst q
   rw [List.getElem?_set_self (by rw [I.el];exact hiσ)] at e;cases e
  ·rw [List.getElem?_set_ne (Ne.symm q)] at e
   obtain ⟨u,e1,r⟩:=I.en j d (fun m=>n (List.mem_filter.mpr ⟨m,by simpa using q⟩)) e
   exact ⟨u,(List.getElem?_set_ne (Ne.symm q)).trans e1,r⟩
 ·obtain ⟨m1,q⟩:=mf mj
  obtain ⟨d,a,o,h1,h2,h3,r,f⟩:=I.eo j m1
  exact ⟨d,a,o,(List.getElem?_set_ne (Ne.symm q)).trans h1,(List.getElem?_set_ne (Ne.symm q)).trans h2,h3,r.mono (List.prefix_refl _) (.refl _) fun b hb o e=>(ne fun w=>f.2.2.2 (by rcases hb with rfl | rfl <;> exact .inl w)).trans e,f⟩
 ·obtain ⟨a1,q1⟩:=mf m1
  obtain ⟨a2,q2⟩:=mf m2
  exact I.od j k a a1 a2 ((List.getElem?_set_ne (Ne.symm q1)).symm.trans e1) ((List.getElem?_set_ne (Ne.symm q2)).symm.trans e2)
 ·by_cases q:b=X.env.locals
  ·subst q;exact ⟨oL,hoL⟩
  ·exact ⟨o,(ne q).trans e⟩
 ·obtain ⟨m1,q⟩:=mf mj
  exact .inl ⟨j,m1,(List.getElem?_set_ne (Ne.symm q)).symm.trans e⟩
theorem pJ {a T:Addr} {fl cls:Value} {dx:Option Addr} (x:Stp X.fr w z z') (I:Rep X z') (r:XR X.W z' c l cls dx) (na:Nob X z z' a) (t:Tr z'.s.heap a cls dx T fl):∃ z2,z2.s=z'.s∧z2.t=z'.t∧Stp X.fr w z z2∧(∀ b,Own z2 b↔Own z' b)∧Rep X z2∧RD X.W z2.ρ z2.G (.ins c l) (.ref a)∧(z2.σ=z'.σ):=by
 obtain ⟨oe,vs,_,_,he,⟨hc,hd⟩,hda,_⟩:=t
 have gg:Sub z'.G fun b=>if b=a then some oe else z'.G b:=fun b o q=>by
  dsimp only
  by_cases c:b=a
  ·subst c;rw [na.2.1.1] at q;cases q
  ·rw [if_neg c];exact q
 have rd:RD X.W z'.ρ (fun b=>if b=a then some oe else z'.G b) (.ins c l) (.ref a):=by
  obtain ⟨i,h1,h2,h3,h4,h5⟩:=r
  subst h3
  rcases h5 with ⟨rfl,rfl⟩ | ⟨d,od,us,rfl,h6,h7,h8⟩
  ·exact ⟨a,i,[],rfl,h1,h4,.inr ⟨h2,oe,vs,if_pos rfl,hc,hda,.inl ⟨by simp,hd⟩⟩,rfl⟩
  ·exact ⟨a,i,us,rfl,h1,h4,.inr ⟨h2,oe,vs,if_pos rfl,hc,hda,.inr ⟨d,od,hd,gg _ _ h6,h7⟩⟩,h8.mono (List.prefix_refl _) gg⟩
 refine ⟨{ z' with G:=fun b=>if b=a then some oe else z'.G b },rfl,rfl,⟨x.pr,x.gg.trans gg,fun b o q=>?_,x.rn,x.th,x.sm,x.sl⟩,fun _=>.rfl,I.grw I.tk rfl I.br (fun _ _ e _=>e) (fun _ o e=>⟨o.slots,e⟩) gg (fun b o q=>?_) fun b o q=>?_,rd,rfl⟩
 all_goals
  have q:(if b=a then some oe else z'.G b)=some o:=q
  by_cases c:b=a
 ·subst c;exact .inr (.inl na.1)
 ·rw [if_neg c] at q;exact x.gn b o q
 ·subst c;rw [if_pos rfl] at q;cases q;exact he
 ·rw [if_neg c] at q;exact I.gh b o q
 ·subst c;exact .inr na.2
 ·rw [if_neg c] at q;exact .inl q
def ll (X:Cx) (j:Nat) (x:Str):Prop:=∃ i,X.W.ci[j]? = some i∧X.mg x=some (.ref i.ad)∧iB X.K i.ad∧∀ c k ic,X.Γ.cl[c]? = some k→X.W.ci[c]? = some ic→X.W.what[c]? = some 2→PySem.W.mroIn X.K ic.ad (.ref i.ad)=some (c == j || k.sup.contains j)
def HL (X:Cx) (hs:List ExceptHandler) (r:S):Prop:=∀ (z z1:Z) (c:Nat) (l:List D) (e:Value) (o:ah),XN X (Pv X z) z z1 c l e .none→(∀ a,Own z1 a→Own z a∨z.h a=none)→o=exS.hnd X.Γ X.cal X.cal1 r c l z1.t→o≠.bad→wpAny X.M X.A (handleBy e X.env hs) (Ps X z o) (PxS X z o) z1.s
theorem tY (F:iC X):HL X [] .skip:=fun z z1 c l e o hn ow e0 nb=>by
 obtain ⟨L,hL⟩:=F.frame
 have e0:o = .exc c l z1.t:=e0
 refine wpAny_handleBy_nil ?_
 obtain ⟨a,T,cls,dx,e1,_,_,_,_,t,_⟩:=id hn
 subst e1
 unfold PySem.passOn
 obtain ⟨oe,vs,oT,ts,he,hc,hd,h1,r⟩:=id t
 refine wpAny_bind (wpAny_field he hd h1 ?_)
 rw [if_neg (show ¬ ((Value.ref T == Value.none)=true) by simp),hL]
 refine wpAny_bind (bo (z':=z1) (fr:=some L) hn fun h2 hn2=>wpAny_throw ?_)
 obtain ⟨a',T',cls',dx',e1,x2,I2,r2,na2,t2,nT2⟩:=hn2
 exact ⟨{ z1 with s:={ z1.s with heap:=h2 } },c,l,rfl,e0,⟨x2,ow⟩,I2,a',cls',dx',e1,r2,na2,.inr ⟨T',_,t2,.inr ⟨L,hL,rfl⟩,nT2⟩⟩
theorem wu {j i:Nat} {Bn n:Str} {np hpos:Pos} {hs:List ExceptHandler} {suite:List Stmt} {b₀:Stmt} {b r:S} (hS:∀ e,LSs (ax X e) (b₀ :: suite) b) (hx:ll X j Bn) (hg:Gl X Bn) (hdb:(Bn == ("__debug__":Str))=false) (hN:X.N.Nodup) (hi:X.N[i]? = some n) (hl:X.env.scope.names.lookup n=some .local) (hr:HL X hs r):HL X (.ExceptHandler (some (.Name Bn np)) (some n) (b₀ :: suite) hpos :: hs) (.hand j (some i) b r):=fun z z1 c l e o hn3 ow1 e0 nb=>by
 have e0:o=(match cE X.Γ j c with
  | some true=>(match X.ex b ⟨z1.t.env.set i (some (.ins c l)),z1.t.ow.filter (· != i),z1.t.st⟩ with
    | .nx s=>.nx ⟨s.env.set i none,s.ow.filter (· != i),s.st⟩
    | .rt d s=>.rt d s
    | _=>.bad)
  | some false=>exS.hnd X.Γ X.cal X.cal1 r c l z1.t
  | none=>.bad):=e0
 obtain ⟨p,T,cls,dx,rfl,x3,I3,r3,na3,t3,nT3⟩:=id hn3
 refine wpAny_handleBy_cons (codeAny_handlers_test ?_) (fun z=>nomatch z)
 obtain ⟨ic,w1,w2,w3,w4⟩:=hx
 obtain ⟨i2,v1,v2,v3,v4,v5⟩:=id r3
 cases ek:X.Γ.cl[c]? with
 | none=>exact absurd (by rw [e0];unfold cE;rw [ek];rfl) nb
 | some k=>
   have hsub:=w4 c k i2 ek v1 v2
   rw [show cE X.Γ j c=some (c == j || k.sup.contains j) by unfold cE;rw [ek];rfl] at e0
   generalize (c == j || k.sup.contains j)=kk at e0 hsub
   refine aF (X:=ax X (.ref p)) (z:=z1) I3.suite hg w2 ?_ hdb
   obtain ⟨oe,vs,oT,tt,he,⟨hcl,hdi⟩,hda,_⟩:=id t3
   refine eZ I3.toHR.kin w3 he (hcl.trans v3) hsub ?_
   cases kk with
   | false=>exact hr z z1 c l _ o hn3 ow1 e0 nb
   | true=>
     have e0:o=(match X.ex b ⟨z1.t.env.set i (some (.ins c l)),z1.t.ow.filter (· != i),z1.t.st⟩ with
      | .nx s=>.nx ⟨s.env.set i none,s.ow.filter (· != i),s.st⟩
      | .rt d s=>.rt d s
      | _=>.bad):=e0
     show codeAny _ _ _ _ _
     refine codeAny_handlers_suite_as (bo (z':=z1) (fr:=none) hn3 fun h4 hn4=>?_)
     obtain ⟨p',T',cls',dx',ep,x4,I4,r4,na4,t4,nT4⟩:=hn4
     cases ep
     obtain ⟨z5,e5,t5,x5,o5,I5,rd5,s5⟩:=pJ x4 I4 r4 na4 t4
     rw [show ({ z1.s with heap:=h4 }:Shared)=z5.s from e5.symm]
     have g5:Go X z z5:=⟨x5,fun b ob=>ow1 b ((o5 b).mp ob)⟩
     refine bA (X:=ax X (.ref p)) (own:=false) (d:=.ins c l) (z:=z5) (z0:=z5) .refl I5.suite hN hi (.inl hl) rd5 fun s6 a6 _ _ I6 g6=>?_
     have t6:stV z5.t i (.ins c l) false=⟨z1.t.env.set i (some (.ins c l)),z1.t.ow.filter (· != i),z1.t.st⟩:=by rw [show z5.t=z1.t from t5];rfl
     rw [← t6] at e0
     have nb6:(ax X (.ref p)).ex b (stV z5.t i (.ins c l) false)≠.bad:=fun q=>nb (by rw [e0,show X.ex b (stV z5.t i (.ins c l) false) = .bad from q])
     refine wpAny_mono (hS (.ref p) { z5 with t:=stV z5.t i (.ins c l) false,σ:=z5.σ.set i (some (.ref p)),s:=s6 } I6 nb6) (fun f s7 h7=>?_) fun e s7 ⟨z7,c7,l7,_,q7,_,_,_⟩=>absurd (by rw [e0,show X.ex b (stV z5.t i (.ins c l) false)=_ from q7]) nb
     have fin:∀ z7,z7.s=s7→Go (ax X (.ref p)) { z5 with t:=stV z5.t i (.ins c l) false,σ:=z5.σ.set i (some (.ref p)),s:=s6 } z7→Rep (ax X (.ref p)) z7→(∀ z8,z8.t=⟨z7.t.env.set i none,z7.t.ow.filter (· != i),z7.t.st⟩→z8.ρ=z7.ρ→z8.G=z7.G→Go X z z8→Rep X z8→Ps X z o f z8.s)→wpAny X.M X.A (do bindName X.env n .none;unbindBehindTheSuite X.env n hpos) (fun _ s3=>Ps X z o f s3) (PxS X z o) s7:=fun z7 e7 g7 I7 hh=>by
      subst e7
      have J7:=I7.unsuite I3.hd
      obtain ⟨m,hn,lk⟩:=id J7.lo
      refine lT hl hn (by rw [I3.ok.kd];rfl) fun h8 v n8 s8=>?_
      obtain ⟨I8,g8⟩:=J7.gone (t:=z7.s.toks+1) hN hi hl lk n8 s8
      exact hh { z7 with t:=⟨z7.t.env.set i none,z7.t.ow.filter (· != i),z7.t.st⟩,σ:=z7.σ.set i none,s:={ z7.s with heap:=h8,toks:=z7.s.toks+1 } } rfl rfl rfl (((g5.trans g6.unsuite).trans g7.unsuite).trans g8) I8
     cases q7:X.ex b (stV z5.t i (.ins c l) false) with
     | nx t7=>
       rw [show (ax X (.ref p)).ex b (stV z5.t i (.ins c l) false) = .nx t7 from q7] at h7
       rw [q7] at e0
       obtain ⟨rfl,z7,e7,et7,g7,I7⟩:=h7
       refine fin z7 e7 g7 I7 fun z8 e8 _ _ g8 I8=>nxt g8 I8 ?_
       rw [e0,e8,et7]
     | rt d t7=>
       rw [show (ax X (.ref p)).ex b (stV z5.t i (.ins c l) false) = .rt d t7 from q7] at h7
       rw [q7] at e0
       obtain ⟨u,z7,rfl,e7,et7,g7,I7,rd7⟩:=h7
       refine fin z7 e7 g7 I7 fun z8 e8 r8 G8 g8 I8=>?_
       rw [e0]
       exact ⟨u,z8,rfl,rfl,by rw [e8];exact et7,g8,I8,by rw [r8,G8];exact rd7⟩
     | exc c7 l7 t7=>rw [q7] at e0;exact absurd e0 nb
     | bad=>exact absurd q7 nb6
theorem wv {j:Nat} {Bn:Str} {np hpos:Pos} {hs:List ExceptHandler} {suite:List Stmt} {b₀:Stmt} {b r:S} (hS:∀ e,LSs (ax X e) (b₀ :: suite) b) (hx:ll X j Bn) (hg:Gl X Bn) (hdb:(Bn == ("__debug__":Str))=false) (hr:HL X hs r):HL X (.ExceptHandler (some (.Name Bn np)) none (b₀ :: suite) hpos :: hs) (.hand j none b r):=fun z z1 c l e o hn3 ow1 e0 nb=>by
 have e0:o=(match cE X.Γ j c with
  | some true=>(match X.ex b z1.t with | .nx s=>.nx s | .rt d s=>.rt d s | _=>.bad)
  | some false=>exS.hnd X.Γ X.cal X.cal1 r c l z1.t
  | none=>.bad):=e0
 obtain ⟨p,T,cls,dx,rfl,x3,I3,r3,na3,t3,nT3⟩:=id hn3
 refine wpAny_handleBy_cons (codeAny_handlers_test ?_) (fun z=>nomatch z)
 obtain ⟨ic,w1,w2,w3,w4⟩:=hx
 obtain ⟨i2,v1,v2,v3,v4,v5⟩:=id r3
 cases ek:X.Γ.cl[c]? with
 | none=>exact absurd (by rw [e0];unfold cE;rw [ek];rfl) nb
 | some k=>
   have hsub:=w4 c k i2 ek v1 v2
   rw [show cE X.Γ j c=some (c == j || k.sup.contains j) by unfold cE;rw [ek];rfl] at e0
   generalize (c == j || k.sup.contains j)=kk at e0 hsub
   refine aF (X:=ax X (.ref p)) (z:=z1) I3.suite hg w2 ?_ hdb
   obtain ⟨oe,vs,oT,tt,he,⟨hcl,hdi⟩,hda,_⟩:=id t3
   refine eZ I3.toHR.kin w3 he (hcl.trans v3) hsub ?_
   cases kk with
   | false=>exact hr z z1 c l _ o hn3 ow1 e0 nb
   | true=>
     have e0:o=(match X.ex b z1.t with | .nx s=>.nx s | .rt d s=>.rt d s | _=>.bad):=e0
     show codeAny _ _ _ _ _
     refine codeAny_handlers_suite (bo (z':=z1) (fr:=none) hn3 fun h4 hn4=>?_)
     obtain ⟨p',T',cls',dx',ep,x4,I4,r4,na4,t4,nT4⟩:=hn4
     cases ep
     have g4:Go X z { z1 with s:={ z1.s with heap:=h4 } }:=⟨x4,ow1⟩
     have nb6:(ax X (.ref p)).ex b z1.t≠.bad:=fun q=>nb (by rw [e0,show X.ex b z1.t = .bad from q])
     refine wpAny_mono (hS (.ref p) { z1 with s:={ z1.s with heap:=h4 } } I4.suite nb6) (fun f s7 h7=>?_) fun e s7 ⟨z7,c7,l7,_,q7,_,_,_⟩=>absurd (by rw [e0,show X.ex b z1.t=_ from q7]) nb
     cases q7:X.ex b z1.t with
     | nx t7=>
       rw [show (ax X (.ref p)).ex b z1.t = .nx t7 from q7] at h7
       rw [q7] at e0
       obtain ⟨rfl,z7,e7,et7,g7,I7⟩:=h7
       subst e7
       exact nxt (g4.trans g7.unsuite) (I7.unsuite I3.hd) (by rw [e0,et7])
     | rt d t7=>
       rw [show (ax X (.ref p)).ex b z1.t = .rt d t7 from q7] at h7
       rw [q7] at e0
       obtain ⟨u,z7,rfl,e7,et7,g7,I7,rd7⟩:=h7
       subst e7
       show Ps X z o (.ret u) z7.s
       rw [e0]
       exact ⟨u,z7,rfl,rfl,et7,g4.trans g7.unsuite,I7.unsuite I3.hd,rd7⟩
     | exc c7 l7 t7=>rw [q7] at e0;exact absurd e0 nb
     | bad=>exact absurd q7 nb6
theorem uN {h0:ExceptHandler} {hs:List ExceptHandler} {pos:Pos} {body:List Stmt} {a r:S} (F:iC X) (hb:LSs X body a) (hh:HL X (h0 :: hs) r):LS X (.Try body (h0 :: hs) [] [] pos) (.try_ a r):=fun z I nb=>by
 have e0:X.ex (.try_ a r) z.t=(match X.ex a z.t with
  | .exc c l s=>exS.hnd X.Γ X.cal X.cal1 r c l s
  | r=>r):=rfl
 generalize X.ex (.try_ a r) z.t=o at e0 nb
 have nb1:X.ex a z.t≠.bad:=fun q=>nb (by rw [e0,q])
 refine wpAny_Try_except (wpAny_mono (hb z I nb1) (fun f s1 h=>?_) fun e s1 h=>?_)
 ·cases q:X.ex a z.t with
  | nx t=>rw [q] at h e0;obtain ⟨rfl,h⟩:=h;exact wpAny_execs_nil (show Ps X z o .next s1 by rw [e0];exact ⟨rfl,h⟩)
  | rt d t=>rw [q] at h e0;obtain ⟨u,z',rfl,h⟩:=h;exact show Ps X z o (.ret u) s1 by rw [e0];exact ⟨u,z',rfl,h⟩
  | exc c l t=>rw [q] at h;exact h.elim
  | bad=>exact absurd q nb1
 ·obtain ⟨z1,c,l,e1,q1,x1,I1,xo⟩:=h
  subst e1
  rw [q1] at e0
  exact dK F x1.st I1 xo fun L h2 hL hn2=>bo (z':={ z1 with s:={ z1.s with heap:=h2 } }) (fr:=none) hn2 fun h3 hn3=>hh z { z1 with s:={ z1.s with heap:=h3 } } c l e o hn3 x1.ow e0 nb
end
end L2.Ev
end
section
namespace L2.Ev
open PySem.W
theorem gC {K:Frag} {C p:Addr} (Y:bJ K C):KitX K (.ref p) (.ref C) (fun h=>∃ o od,InstAt h p o C od) where
 ty:=fun M h _ z=>let ⟨_,_,I⟩:=z;I.type
 it:=fun M h X _=>kA X Y.is
 ne:=fun h tp dd its n sl X e=>by
  obtain ⟨c',d',cd',sl',hk⟩:=mJ Y.is
  refine beq_eq_false_iff_ne.mpr fun z=>?_
  cases z
  rw [X _ _ hk] at e
  cases e
 ca:=fun {prog w A E Q s} X z hq=>by
  obtain ⟨_,_,I⟩:=z
  obtain ⟨h,g,d,t,os⟩:=s
  exact jy Y X I hq
theorem qE {K:Frag} {C J:Addr} {b:Bool} (Y:iB K J) (h:mroIn K C (.ref J)=some b) (hs:C=J→b=true):kitOne K (.ref C) (.ref J)=some b:=by
 unfold kitOne
 by_cases q:C=J
 ·subst q
  rw [if_pos (by simp),hs rfl]
 ·rw [if_neg (by simpa using q)]
  show (if ((clsIn K J).isSome && typeIn K (.ref J) == some (.type "type"))=true then subIn K (.ref C) (.ref J) else none)=_
  rw [if_pos (by rw [Y.is,Y.ty];rfl)]
  exact h
section
variable {X:Cx} {z:Z}
theorem iA {an:Nat→Str} (T:bt X an) {c:Nat} (h:d3 X.Γ c=true):∃ k i,X.Γ.cl[c]? = some k∧bX X an c k i∧k.what=2:=by
 unfold d3 at h
 split at h
 ·rename_i k e
  obtain ⟨i,ok⟩:=T c k e
  exact ⟨k,i,e,ok,by simpa using h⟩
 ·cases h
theorem um {an:Nat→Str} {j:Nat} {x:Str} (T:bt X an) (hx:Blt X "isinstance" (.builtin "isinstance")) (ix:ll X j x) (hg:Gl X x) (hd:(x == ("__debug__":Str))=false) (ha:LE X ea a) (he:starEach [ea,.Name x q] X.env=(false,eval ea X.env) :: starEach [.Name x q] X.env):LE X (.Call (.Name "isinstance" p) [ea,.Name x q] [] pos) (.isX a [j]):=fun br z I nb=>by
 obtain ⟨ij,hj,hm,Y,hr⟩:=ix
 exact aG (.inl ⟨_,rfl⟩) hx he rfl I (Calls.spliced_cons ((ha true).go .refl I rfl nb fun z1 x u y1 x1 I1 r1 e1=>Calls.spliced_cons (aF I1 hg hm (Calls.spliced_nil (b7 x1 I1 e1 nb fun d q=>by
  have cr:=r1.rb.cr0 I1
  cases x with
  | ins c l=>
    obtain ⟨a,i,vs,rfl,hc,hl,w,rs⟩:=(cr:RD X.W z1.ρ z1.G (.ins c l) u)
    have q:(if (d3 X.Γ c && [j].all (d3 X.Γ))=true then (X.Γ.cl[c]?).map fun k=>D.bl ([j].any fun j=>c == j || k.sup.contains j) else none)=some d:=q
    split at q
    ·rename_i hw
     simp only [List.all_cons,List.all_nil,Bool.and_true,Bool.and_eq_true] at hw
     obtain ⟨k,i',e1,ok,w2⟩:=iA T hw.1
     obtain ⟨kj,i'',e2,okj,wj⟩:=iA T hw.2
     have e3:=ok.ci
     rw [hc] at e3;cases e3
     have e4:=okj.ci
     rw [hj] at e4;cases e4
     rw [e1] at q
     cases q
     have wc:=ok.wh
     rw [w2] at wc
     have wjj:=okj.wh
     rw [wj] at wjj
     have m1:=hr c k i e1 hc wc
     have m2:=hr j kj ij e2 hj wjj
     have K1:=qE Y m1 fun z=>by
      rw [z,m2] at m1
      simpa using m1.symm
     have J:∃ o od,InstAt z1.s.heap a o i.ad od:=by
      rcases w with ⟨w1,_⟩ | ⟨_,w⟩
      ·rw [wc] at w1;cases w1
      ·obtain ⟨o,vs,g1,g2,g3,g4⟩:=w.sub I1.gh
       rcases g4 with ⟨_,g5⟩ | ⟨d,od,g5,g6,g7⟩
       ·exact ⟨o,none,g1,g2,by unfold notCls;rw [g3],by rw [g5];trivial⟩
       ·exact ⟨o,some od,g1,g2,by unfold notCls;rw [g3],by rw [g5];exact g6⟩
     simp only [List.any_cons,List.any_nil,Bool.or_false]
     exact kia_one (gC (ok.xc w2).1) I1.toHR.kin J K1 (fun z=>nomatch z) fun tk=>.old I1 .tok rfl
    ·cases q
  | _=>cases q)) hd)))
end
end L2.Ev
end
section
namespace L2.Ev
structure Pri (X:Cx) (p:Addr) (nm:List Str) (P:List Addr→List (Str×Value)→Heap→Prop):Prop where
 ex:∀ {ch l h},P ch l h→∀ b∈ch,∃ o,h.get? b=some o
 keep:∀ {ch l h h'},P ch l h→(∀ b∈ch,∀ o,h.get? b=some o→h'.get? b=some o)→P ch l h'
 set:∀ {A:Around} {s:Shared} {ch:List Addr} {l:List (Str×Value)} {f:Str} {v:Value} {Q:Unit→Shared→Prop} {E:Value→Shared→Prop},X.K.In s.heap→P ch l s.heap→f∈nm→f ∉ l.map (·.1)→l.length<900 →
  (∀ h' ch' t,P ch' (l ++ [(f,v)]) h'→(∀ b∈ch',b∈ch∨s.heap.get? b=none)→(∀ b∈ch,b∈ch')→(∀ b o,b ∉ ch→s.heap.get? b=some o→h'.get? b=some o)→Q () { s with heap:=h',toks:=t })→wpAny X.M A (setAttr (.ref p) f v) Q E s
theorem gE {f:Str} {v:Value}:∀ {l:List (Str×Value)},f ∉ l.map (·.1)→∀ g,(l ++ [(f,v)]).lookup g=if g=f then some v else l.lookup g
 | [],_,g=>by
   show (match g == f with | true=>some v | false=>none)=if g=f then some v else none
   by_cases c:g=f
   ·rw [if_pos c,beq_iff_eq.mpr c]
   ·rw [if_neg c,beq_eq_false_iff_ne.mpr c]
 | (a,b) :: r,h,g=>by
   have h':f≠a∧f ∉ r.map (·.1):=by simpa using h
   have ih:=gE (v:=v) h'.2 g
   show (match g == a with | true=>some b | false=>(r ++ [(f,v)]).lookup g)=if g=f then some v else (match g == a with | true=>some b | false=>r.lookup g)
   by_cases c:g=a
   ·have gf:g≠f:=fun w=>h'.1 (w.symm.trans c)
    rw [beq_iff_eq.mpr c,if_neg gf]
   ·rw [beq_eq_false_iff_ne.mpr c];exact ih
theorem pH (l:List (Str×Value)):PySem.Within (fun n=>l.lookup n) (l.map (·.1)):=fun y hy=>by
 cases q:l.lookup y with
 | none=>exact absurd q hy
 | some u=>
   obtain ⟨l1,l2,e1,_⟩:=List.lookup_eq_some_iff.mp q
   rw [e1];simp
section
variable {X:Cx} {z z' z0 z1:Z} {p C:Addr} {nm:List Str}
theorem kS (Z:eA X.K C) (na:∀ f∈nm,PySem.W.findIn X.K (.ref C) f=some none):Pri X p nm (fun ch l h=>∃ o vs,h.get? p=some o∧o.cls = .ref C∧o.data = .fields vs∧vs[1]? = some .none∧((l = []∧o.dict=none∧ch = [p])∨∃ d od,o.dict=some d∧d≠p∧ch = [p,d]∧h.get? d=some od∧NsO od l)) where
 ex:=fun ⟨o,vs,h1,_,_,_,h5⟩ b hb=>by
  rcases h5 with ⟨_,_,e⟩ | ⟨d,od,_,_,e,h6,_⟩
  ·rw [e] at hb;rw [List.mem_singleton.mp hb];exact ⟨o,h1⟩
  ·rw [e] at hb
   rcases List.mem_cons.mp hb with w | w
   ·rw [w];exact ⟨_,h1⟩
   ·rw [List.mem_singleton.mp w];exact ⟨od,h6⟩
 keep:=fun ⟨o,vs,h1,h2,h3,h4,h5⟩ k=>by
  rcases h5 with ⟨a,b,e⟩ | ⟨d,od,a,b,e,h6,h7⟩
  ·exact ⟨o,vs,k p (by rw [e];simp) _ h1,h2,h3,h4,.inl ⟨a,b,e⟩⟩
  ·exact ⟨o,vs,k p (by rw [e];simp) _ h1,h2,h3,h4,.inr ⟨d,od,a,b,e,k d (by rw [e];simp) _ h6,h7⟩⟩
 set:=fun {A s ch l f v Q E} hK ⟨o,vs,h1,h2,h3,h4,h5⟩ hf hn hz hq=>by
  refine lJ (mA:=fun n=>l.lookup n) (ns:=l.map (·.1)) hK Z (na f hf) h1 h2 h3 ?_ (pH l) (by rw [List.length_map];omega) fun h' d t g1 ne n k ds=>?_
  ·rcases h5 with ⟨rfl,b,_⟩ | ⟨d,od,a,b,_,h6,es,ep,h7⟩
   ·exact .inl ⟨b,fun _=>rfl⟩
   ·exact .inr ⟨d,a,b,od,es,ep,h6,h7⟩
  ·obtain ⟨od2,es,ep,e1,e2,e3,e4,e5⟩:=n
   refine hq h' [p,d] t ⟨_,vs,g1,h2,h3,h4,.inr ⟨d,od2,rfl,ne,rfl,e1,es,ep,e2,e3,e4,fun n=>(e5 n).trans (gE hn n).symm⟩⟩ (fun b hb=>?_) (fun b hb=>?_) fun b u nb e=>?_
   ·rcases h5 with ⟨_,b1,e⟩ | ⟨d',od,a,_,e,_⟩
    ·rcases List.mem_cons.mp hb with w | w
     ·left;rw [e,w];simp
     ·rw [List.mem_singleton.mp w]
      rcases ds with q | ⟨_,q⟩
      ·rw [b1] at q;cases q
      ·exact .inr q
    ·rcases ds with q | ⟨q,_⟩
     ·rw [a] at q;cases q;rw [e];exact .inl hb
     ·rw [a] at q;cases q
   ·rcases h5 with ⟨_,b1,e⟩ | ⟨d',od,a,_,e,_⟩
    ·rw [e] at hb;rw [List.mem_singleton.mp hb];simp
    ·rcases ds with q | ⟨q,_⟩
     ·rw [a] at q;cases q;rw [e] at hb;exact hb
     ·rw [a] at q;cases q
   ·have np:b≠p:=fun w=>by
     rcases h5 with ⟨_,_,e'⟩ | ⟨_,_,_,_,e',_⟩ <;> exact nb (by rw [e',w];simp)
    refine k b u np (fun w=>?_) e
    rcases ds with q | ⟨_,q⟩
    ·rcases h5 with ⟨_,b1,_⟩ | ⟨d',od,a,_,e',_⟩
     ·rw [b1] at q;cases q
     ·rw [a] at q;cases q;exact nb (by rw [e',w];simp)
    ·rw [w,q] at e;cases e
def Bas (X:Cx) (p:Addr) (P:List Addr→List (Str×Value)→Heap→Prop):Prop:=∀ {A:Around} {s:Shared} {ch:List Addr} {l:List (Str×Value)} {ur:List Value} {Q:Value→Shared→Prop} {E:Value→Shared→Prop},X.K.In s.heap→P ch l s.heap→ur.length≤sizeLine →
 (∀ h',P ch l h'→(∀ b∈ch,∃ o,h'.get? b=some o)→(∀ b o,b ∉ ch→s.heap.get? b=some o→h'.get? b=some o)→Q .none { s with heap:=h' })→wpAny X.M A (call (.builtin "ValueError.__init__") (.ref p :: ur)) Q E s
theorem pU {fI:Addr} (O:fG X.K C fI veB "ValueError.__new__") (Pr:Pri X p nm fun ch l h=>∃ o vs,h.get? p=some o∧o.cls = .ref C∧o.data = .fields vs∧vs[1]? = some .none∧((l = []∧o.dict=none∧ch = [p])∨∃ d od,o.dict=some d∧d≠p∧ch = [p,d]∧h.get? d=some od∧NsO od l)):Bas X p (fun ch l h=>∃ o vs,h.get? p=some o∧o.cls = .ref C∧o.data = .fields vs∧vs[1]? = some .none∧((l = []∧o.dict=none∧ch = [p])∨∃ d od,o.dict=some d∧d≠p∧ch = [p,d]∧h.get? d=some od∧NsO od l)):=fun {A s ch l ur Q E} K2 hP lz hq=>by
 have F:=PySem.F.excBase_ValueError
 obtain ⟨ob,fv,e1,e2,e3,e4,e5⟩:=id hP
 obtain ⟨nm',q',N,bs,bm,hdct,sn,sub,ab,col,dd,k0,k1,k2,k3,k5,l',tl⟩:=O.at_
 have sz:1<fv.size:=by
  cases Nat.lt_or_ge 1 fv.size with
  | inl h=>exact h
  | inr h=>rw [Array.getElem?_eq_none h] at e4;cases e4
 have z0:0<fv.size:=Nat.lt_of_succ_lt sz
 obtain ⟨h2,g2,d2,t2,o2⟩:=s
 refine wpAny_call (codeAny_call_builtin F.init.plain F.initEntry (wpAny_check_init_subT F (PySem.W.tail_of_in K2 tl) (K2 _ _ l') e1 e2 ?_))
 have e1':=Heap.get?_push_of_some (h:=h2) { cls:=.type "tuple",data:=.seq ur.toArray } e1
 obtain ⟨f0,e0⟩:∃ f0,fv[0]? = some f0:=⟨_,Array.getElem?_eq_getElem z0⟩
 unfold Builtin.«BaseException.__init__» Builtin.BaseException.bexcPut
 refine wpAny_bind (wpAny_newTuple ?_ lz)
 refine wpAny_bind (wpAny_bind (wpAny_field e1' e3 e0 (wpAny_bind (wpAny_setField e1' e3 z0 ?_))))
 have dT:=Obj.data_mapFields e3 (·.setIfInBounds 0 (Value.ref h2.objs.size))
 have gs:=Heap.get?_update_self (h:=h2.push { cls:=.type "tuple",data:=.seq ur.toArray }) (Obj.mapFields (·.setIfInBounds 0 (Value.ref h2.objs.size))) e1' (Obj.isFreed_of_fields dT)
 have ot:∀ b o,b≠p→h2.get? b=some o→((h2.push { cls:=.type "tuple",data:=.seq ur.toArray }).update p (Obj.mapFields (·.setIfInBounds 0 (Value.ref h2.objs.size)))).get? b=some o:=fun b o n e=>(Heap.get?_update_other _ _ (Ne.symm n)).trans (Heap.get?_push_of_some _ e)
 have fin:=hq ((h2.push { cls:=.type "tuple",data:=.seq ur.toArray }).update p (Obj.mapFields (·.setIfInBounds 0 (Value.ref h2.objs.size)))) ⟨_,_,gs,by rw [Obj.cls_mapFields];exact e2,dT,by rw [Array.getElem?_setIfInBounds_ne (by decide)];exact e4,e5.imp (fun ⟨a,b,c⟩=>⟨a,by rw [eJ];exact b,c⟩) fun ⟨d,od,a,b,c,e,f⟩=>⟨d,od,by rw [eJ];exact a,b,c,ot d od b e,f⟩⟩ (fun b hb=>by
  by_cases q:b=p
  ·rw [q];exact ⟨_,gs⟩
  ·obtain ⟨o,e⟩:=Pr.ex hP b hb
   exact ⟨o,ot b o q e⟩) (fun b o n e=>ot b o (fun q=>n (by rcases e5 with ⟨_,_,c⟩ | ⟨_,_,_,_,c,_⟩ <;> (rw [c,q];simp))) e)
 cases f0 <;> first | exact wpAny_pure (wpAny_pure fin) | exact wpAny_letGo (wpAny_pure fin)
structure rZ (K:Fg) (B:Addr):Prop where
 ga:PySem.W.specialIn K (.ref B) "__getattribute__" = some (some (.builtin "type.__getattribute__"))
 rd:PySem.W.readsIn K B (.type "type")=true
 at_:PySem.W.findCls K (.ref B) (.type "type") "__init__" = some (.val (.builtin "ValueError.__init__"))
structure FnI (X:Cx) (lv:Nat) (f:Addr) (fd:FuncData) (ps nm:List Str) (ck:Option (List Nat)):Prop where
 len:ps.length=nm.length+1
 run:∀ (A:Around) (fr:List Env) (z:Z) (args:Args) (us:List Value) (p:Addr) (P:List Addr→List (Str×Value)→Heap→Prop) (ch:List Addr),aW lv A→HR { X with A:=A,fr:=fr } z→BindsTo z.s fd args (ps.zip (.ref p :: us))→us.length=nm.length→Pri X p nm P→(∀ c,ck=some c→Bas X p P∧∀ i∈c,∃ (n:Nat) (t:Tok),us[i]? = some (.int n t)∧n<100000)→P ch [] z.s.heap→(∀ b∈ch,z.G b=none∧¬ Mu z.ρ b∧b ∉ frs fr) →
  codeAny X.M A (.call (.ref f) args) (fun r s'=>r = .ok (.ret .none)∧∃ ch',P ch' (nm.zip us) s'.heap∧(∀ b∈ch',b∈ch∨z.h b=none)∧(s'.os=z.s.os∧s'.gens=z.s.gens)∧(∀ b o,b ∉ ch→z.h b=some o→s'.heap.get? b=some o)) z.s
end
section
variable {X:Cx} {z z' z0 z1:Z}
theorem iE {C:Addr} {x:Str} {Q:Value→Shared→Prop} {E:Value→Shared→Prop} (I:Rep X z) (kp:PySem.W.keepIn X.K (.ref C)=true) (hg:Gl X x) (hm:X.mg x=some (.ref C)) (hd:(x == ("__debug__":Str))=false) (he:starEach (ea :: er) X.env=(false,eval ea X.env) :: starEach er X.env) (hpl:(backTo pos (starEach er X.env)).any (·.1)=false)
 (h:wpAny X.M X.A (spliced (backTo pos (starEach (ea :: er) X.env))) (fun us s'=>X.K.In s'.heap∧wpAny X.M X.A (call (.ref C) us) Q E s') E z.s):wpAny X.M X.A (eval (.Call (.Name x p) (ea :: er) [] pos) X.env) Q E z.s:=
 wpAny_Call_Name_kw (aF I hg hm (PySem.W.callWith_K (h₀:=X.base) I.md.kin kp h he hpl) hd)
theorem uu {x:Str} {j:Nat} {cl:Cl} {i:CI} (F:bB X X.cal1 lv cl.init f) (hr:aW (lv+1) X.A) (M:Mk X.K i.ad f) (hcl:X.Γ.cl[j]? = some cl) (hw:cl.what=0) (hci:X.W.ci[j]? = some i) (hwh:X.W.what[j]? = some 0) (hg:Gl X x) (hm:X.mg x=some (.ref i.ad)) (ha:LA X (ea :: er) es) (hd:(x == ("__debug__":Str))=false) (he:starEach (ea :: er) X.env=(false,eval ea X.env) :: starEach er X.env) (hpl:(backTo pos (starEach er X.env)).any (·.1)=false):LE X (.Call (.Name x p) (ea :: er) [] pos) (.new j es):=fun br z I nb=>
 iE I M.kp hg hm hd he hpl ((ha true pos).go .refl I rfl nb fun z1 l us y1 x1 I1 r1 e1=>⟨I1.toHR.kin,kY F hr M hcl hw hci hwh x1 I1 r1 e1 nb⟩)
theorem oA {x:Str} {j:Nat} {k:Cl} {i:CI} {fd:FuncData} {ps:List Str} {fI:Addr} {Bx nwI iniI:String} {bmB:List Value} {np cp pos:Pos} (Fb:ExcBaseFacts Bx nwI iniI bmB) (O:fG X.K i.ad fI bmB nwI) {ck:Option (List Nat)} (F:FnI X lv fI fd ps i.nm ck) (hk:ck=none∨(ck=some k.chk∧fG X.K i.ad fI veB "ValueError.__new__")) (hb:bI X.K fd ps []) (hr:aW (lv+1) X.A) (Z:eA X.K i.ad) (na:∀ f∈i.nm,PySem.W.findIn X.K (.ref i.ad) f=some none) (hcl:X.Γ.cl[j]? = some k) (hci:X.W.ci[j]? = some i) (hwh:X.W.what[j]? = some 2) (hn:i.nm.length=k.at_.length) (h0:k.at_.isEmpty=false)
 (be:PySem.W.mroIn X.K i.ad (.type "BaseException")=some true) (ty:PySem.W.typeIn X.K (.ref i.ad)=some (.type "type")) (kp:PySem.W.keepIn X.K (.ref i.ad)=true) (hc:X.calm=true) (hg:Gl X x) (hm:X.mg x=some (.ref i.ad)) (ha:LA X (ea :: er) es) (hd:(x == ("__debug__":Str))=false) (he:starEach (ea :: er) X.env=(false,eval ea X.env) :: starEach er X.env) (hpl:(backTo cp (starEach er X.env)).any (·.1)=false):LS X (.Raise (some (.Call (.Name x np) (ea :: er) [] cp)) none pos) (.rais j es):=fun z I nb=>by
 rw [arm_exec_Raise]
 refine wpAny_bind (wpAny_standAt (l6 (K:=X.K) (C:=i.ad) be ty (I.hd hc) (wpAny_bind ?_)))
 refine iE I kp hg hm hd he hpl ((ha false cp).gos (f:=fun l s=>if cC X.Γ j l then .exc j (eO X.Γ j l) s else .bad) .refl I rfl nb fun z1 l us y1 x1 I1 r1 e1=>⟨I1.toHR.kin,?_⟩)
 have rs:=r1.rds
 by_cases c:cC X.Γ j l=true
 rotate_left
 ·rw [if_neg c] at e1;exact absurd e1 nb
 rw [if_pos c] at e1
 have ea:eO X.Γ j l=l:=by unfold eO;rw [hcl];exact if_neg (by rw [h0];exact Bool.false_ne_true)
 rw [ea] at e1
 unfold cC at c
 rw [hcl] at c
 dsimp only at c
 rw [if_neg (by rw [h0];exact Bool.false_ne_true)] at c
 simp only [Bool.and_eq_true,decide_eq_true_eq] at c
 obtain ⟨⟨⟨c1,c2⟩,c3⟩,c4⟩:=c
 have c1:l.length=k.at_.length:=by simpa using c1
 have lu:us.length=i.nm.length:=by rw [← rs.len,c1,hn]
 have l0:l≠[]:=by intro w;rw [w] at c4;simp at c4
 refine mO (h:=z1.s.heap) (g:=z1.s.gens) (d:=z1.s.drawn) (t:=z1.s.toks) (os:=z1.s.os) Fb I1.toHR.kin O (by rw [← rs.len];exact big (by omega)) fun h' p m=>?_
 have kz:∀ b o,z1.h b=some o→h'.get? b=some o:=fun b o e=>m.keeps b o e
 have np:z1.h p=none:=m.new
 obtain ⟨tt,ht,_,_⟩:=m.there
 have g:Gr z1.s { z1.s with heap:=h' }:=⟨rfl,rfl,kz⟩
 have bd:=hb { z1.s with heap:=h' } (.ref p :: us) (I1.toHR.kin.keeps kz) (by rw [List.append_nil,List.length_cons,F.len,lu])
 rw [List.append_nil] at bd
 have H1:=(I1.toHR.grow (am I1.gh g) I1.tk).at (A:=X.A.under (.builtin "type.__call__" ⟨.ref i.ad :: us,[]⟩)) (fA i.ad us []) rfl
 have fp:=I1.fre np
 refine aL I1.tk (wpAny_call (codeAny_mono (F.run _ X.fr { z1 with s:={ z1.s with heap:=h' } } ⟨.ref p :: us,[]⟩ us p _ [p] (hr.make i.ad us []) H1 bd lu (kS Z na) (fun c e=>?_) ⟨_,_,ht,rfl,rfl,rfl,.inl ⟨rfl,rfl,rfl⟩⟩ fun b hb=>?_) fun r s' hq=>?_))
 ·rcases hk with w | ⟨w,O'⟩
  ·rw [w] at e;cases e
  ·rw [w] at e;cases e
   refine ⟨pU O' (kS Z na),fun j hj=>?_⟩
   have sm:=List.all_eq_true.mp c2 j hj
   cases q:l[j]? with
   | none=>rw [q] at sm;cases sm
   | some d=>
     obtain ⟨u,hu,ru⟩:=rs.get q
     rw [q] at sm
     cases d with
     | int n=>
       obtain ⟨t,rfl⟩:=ru
       unfold o9 at sm
       simp only [Bool.and_eq_true,decide_eq_true_eq] at sm
       obtain ⟨m,rfl⟩:=Int.eq_ofNat_of_zero_le sm.1
       exact ⟨m,t,hu,by omega⟩
     | _=>cases sm
 ·rw [List.mem_singleton.mp hb];exact ⟨fp.1.1,fp.1.2.1,fp.1.2.2.1⟩
 obtain ⟨rfl,ch',⟨o,vs,q1,q2,q3,q4,q5⟩,cc,os,kk⟩:=hq
 intro tk
 have gr:Gr z1.s s':=⟨os.1.trans g.os,os.2.trans g.gs,fun b o e=>kk b o (fun w=>by have e:z1.h b=some o:=e;rw [List.mem_singleton.mp w,np] at e;cases e) (kz b o e)⟩
 rcases q5 with ⟨w,_,_⟩ | ⟨d,od,q6,q7,q8,q9,q10⟩
 ·have:i.nm.zip us≠[]:=fun w=>by
   have hl:=rs.len
   have:0<l.length:=List.length_pos_iff.mpr l0
   have w0:(i.nm.zip us).length=0:=by rw [w];rfl
   rw [List.length_zip] at w0
   omega
  exact absurd w this
 have nd:z1.h d=none:=by
  rcases cc d (by rw [q8];simp) with w | w
  ·exact absurd (List.mem_singleton.mp w) q7
  ·cases q:z1.h d with
   | none=>rfl
   | some o=>have:=kz d o q;rw [show h'.get? d=none from w] at this;cases this
 have fd:=I1.fre nd
 have gw:Grw z1 (fun b=>if b=d then some od else z1.G b) s':=⟨gr,fun b o e=>by
  by_cases c:b=d
  ·subst c;rw [fd.1.1] at e;cases e
  ·rw [if_neg c];exact e,fun b o e=>by
  by_cases c:b=d
  ·subst c;rw [if_pos rfl] at e;cases e;exact q9
  ·rw [if_neg c] at e;exact gr.k b o (I1.gh b o e),fun b o e=>by
  by_cases c:b=d
  ·subst c;exact .inr nd
  ·rw [if_neg c] at e;exact .inl e⟩
 have I3:=I1.grow gw
 have pG:(if p=d then some od else z1.G p)=none:=by rw [if_neg (Ne.symm q7)];exact fp.1.1
 refine ⟨rfl,wpAny_bind (wpAny_standAt (wpAny_pure ⟨p,o,vs,rfl,I3.toHR.kin,q1,q2,q3,q4,{ z1 with G:=fun b=>if b=d then some od else z1.G b,s:=s' },j,l,rfl,e1,x1.trans gw.ee.go,I3,p,.ref i.ad,some d,rfl,⟨i,hci,hwh,rfl,by rw [c1,hn];exact Nat.le_refl _,.inr ⟨d,od,us,rfl,if_pos rfl,q10,rs.mono (List.prefix_refl _) gw.gg⟩⟩,⟨x1.st.no np,⟨pG,fp.1.2⟩,fp.2⟩,.inl ⟨o,vs,q1,⟨q2,q6⟩,q3,q4⟩⟩))⟩
def FnJ (X:Cx) (lv:Nat) (f:Addr) (fd:FuncData) (ps nm:List Str) (k:Cl) (C:Addr):Prop:=∃ ck,FnI X lv f fd ps nm ck∧(ck=none∨(ck=some k.chk∧fG X.K C f veB "ValueError.__new__"))
end
def ka (K:Fg) (C:Addr) (bmB:List Value) (newId:String):Prop:=∃ (nm q:Str) (N:Addr) (bs bm:List Value) (hdct:Bool) (sn:List Str) (sub:List Value) (ab:Bool) (col:Option Bool) (dd:Option Addr) (k0 k1 k2 k3 k5:Option Value),
 K.lookup C=some (excClassObj nm q C N bs bm hdct sn sub ab col dd k0 k1 k2 k3 k5 newId)∧PySem.W.nsOkIn K N=true∧PySem.W.nsIn K N "__init__" = some none∧PySem.W.tailIn K bmB bm=true
inductive TxP (X:Cx):List Expr→E→Prop
 | nil:TxP X [] .nil
 | c {x:Str} {j:Nat} {p:Pos} {r es}:x.length≤1000→TxP X r es→TxP X (.Constant (.str x) j p :: r) es
 | f {x:Str} {i:Nat} {p q:Pos} {r es}:X.N[i]? = some x→Vis X.env.scope x→((x == ("__debug__":Str)) || (x == ("__classdict__":Str)))=false→TxP X r es→TxP X (.FormattedValue (.Name x p) (-1) none q :: r) (.cons (.op .add (.v i) (.c (.int 0))) es)
 | r {x:Str} {i:Nat} {p q:Pos} {r es}:X.N[i]? = some x→Vis X.env.scope x→((x == ("__debug__":Str)) || (x == ("__classdict__":Str)))=false→TxP X r es→TxP X (.FormattedValue (.Name x p) 114 none q :: r) (.cons (.op .add (.v i) (.c (.str ""))) es)
 | g {x:Str} {j:Nat} {u:Value} {d:L2.Bk.Dk} {p q:Pos} {r es}:Gl X x→X.mg x=some u→X.Γ.gl[j]? = some d→aJ X.K d u=true→(x == ("__debug__":Str))=false→TxP X r es→TxP X (.FormattedValue (.Name x p) (-1) none q :: r) (.cons (.op .add (.g j) (.c (.int 0))) es)
section
variable {X:Cx} {z:Z}
theorem xE (t:Sta) (j:Nat) (es:E):X.evs false (.cons (.op .add (.g j) (.c (.int 0))) es) t = .bad∨∃ n,X.Γ.gl[j]?.map toD=some (.int n)∧X.evs false (.cons (.op .add (.g j) (.c (.int 0))) es) t=(X.evs false es t).bind fun l s=>.ok (.int (n+0) :: l) s:=by
 have h:X.evs false (.cons (.op .add (.g j) (.c (.int 0))) es) t=((Out.of t (X.Γ.gl[j]?.map toD)).bind fun x s=>Out.of s (opD .add (look s.st x) (.int 0))).bind (fun x s=>(X.evs false es s).bind fun l s=>.ok (x :: l) s):=rfl
 rw [h]
 cases X.Γ.gl[j]? with
 | none=>exact .inl rfl
 | some d=>cases d with
   | int n=>exact .inr ⟨n,rfl,rfl⟩
   | _=>exact .inl rfl
theorem xD (t:Sta) (i:Nat) (es:E):X.evs false (.cons (.op .add (.v i) (.c (.int 0))) es) t = .bad∨∃ n,t.env[i]? = some (some (.int n))∧X.evs false (.cons (.op .add (.v i) (.c (.int 0))) es) t=(X.evs false es t).bind fun l s=>.ok (.int (n+0) :: l) s:=by
 have h:X.evs false (.cons (.op .add (.v i) (.c (.int 0))) es) t=((match t.env[i]? with | some (some d)=>Out.ok d t | _=>.bad).bind fun x s=>Out.of s (opD .add (look s.st x) (.int 0))).bind (fun x s=>(X.evs false es s).bind fun l s=>.ok (x :: l) s):=rfl
 rw [h]
 rcases q:t.env[i]? with _ | (_ | d)
 ·exact .inl rfl
 ·exact .inl rfl
 ·cases d with
  | int n=>exact .inr ⟨n,rfl,rfl⟩
  | ref n=>
    have e:opD .add (look t.st (.ref n)) (.int 0)=none:=by
     rw [show look t.st (.ref n)=(match t.st[n]? with | some (.lst l)=>.lst l | some (.dic k l)=>.dic k l | _=>.ref n) from rfl]
     rcases t.st[n]? with _ | (_ | _ | _) <;> rfl
    refine .inl ?_
    show (Out.of t (opD .add (look t.st (.ref n)) (.int 0))).bind _=_
    rw [e];rfl
  | _=>exact .inl rfl
theorem xG (t:Sta) (i:Nat) (es:E):X.evs false (.cons (.op .add (.v i) (.c (.str ""))) es) t = .bad∨∃ x,t.env[i]? = some (some (.str x))∧X.evs false (.cons (.op .add (.v i) (.c (.str ""))) es) t=(X.evs false es t).bind fun l s=>.ok (.str (x ++ ("":Str)) :: l) s:=by
 have h:X.evs false (.cons (.op .add (.v i) (.c (.str ""))) es) t=((match t.env[i]? with | some (some d)=>Out.ok d t | _=>.bad).bind fun x s=>Out.of s (opD .add (look s.st x) (.str ""))).bind (fun x s=>(X.evs false es s).bind fun l s=>.ok (x :: l) s):=rfl
 rw [h]
 rcases q:t.env[i]? with _ | (_ | d)
 ·exact .inl rfl
 ·exact .inl rfl
 ·cases d with
  | str x=>
    by_cases c:x.length+("":Str).length≤100000
    ·have e:opD .add (look t.st (.str x)) (.str "")=some (.str (x ++ ("":Str))):=by show d5 _ _=_;unfold d5;rw [if_pos c]
     refine .inr ⟨x,rfl,?_⟩
     show (Out.of t (opD .add (look t.st (.str x)) (.str ""))).bind _=_
     rw [e];rfl
    ·have e:opD .add (look t.st (.str x)) (.str "")=none:=by show d5 _ _=_;unfold d5;rw [if_neg c]
     refine .inl ?_
     show (Out.of t (opD .add (look t.st (.str x)) (.str ""))).bind _=_
     rw [e];rfl
  | ref n=>
    have e:opD .add (look t.st (.ref n)) (.str "")=none:=by
     rw [show look t.st (.ref n)=(match t.st[n]? with | some (.lst l)=>.lst l | some (.dic k l)=>.dic k l | _=>.ref n) from rfl]
     rcases t.st[n]? with _ | (_ | _ | _) <;> rfl
    refine .inl ?_
    show (Out.of t (opD .add (look t.st (.ref n)) (.str ""))).bind _=_
    rw [e];rfl
  | _=>exact .inl rfl
theorem xF {es:List Expr} {c:E} (T:TxP X es c):∀ (t:Sta),X.evs false c t = .bad∨∃ l,X.evs false c t = .ok l t:=by
 induction T with
 | nil=>exact fun t=>.inr ⟨[],rfl⟩
 | c _ _ ih=>exact ih
 | @f x i p q r es h1 h2 h3 _ ih=>
   intro t
   rcases xD (X:=X) t i es with h | ⟨n,_,h⟩
   ·exact .inl h
   ·rcases ih t with e | ⟨l,e⟩
    ·rw [h,e];exact .inl rfl
    ·rw [h,e];exact .inr ⟨_,rfl⟩
 | @g x j u d p q r es h1 h2 h3 h4 h5 _ ih=>
   intro t
   rcases xE (X:=X) t j es with h | ⟨n,_,h⟩
   ·exact .inl h
   ·rcases ih t with e | ⟨l,e⟩
    ·rw [h,e];exact .inl rfl
    ·rw [h,e];exact .inr ⟨_,rfl⟩
 | @r x i p q r es h1 h2 h3 _ ih=>
   intro t
   rcases xG (X:=X) t i es with h | ⟨n,_,h⟩
   ·exact .inl h
   ·rcases ih t with e | ⟨l,e⟩
    ·rw [h,e];exact .inl rfl
    ·rw [h,e];exact .inr ⟨_,rfl⟩
theorem pP (x:Str):x ++ ("":Str)=x:=by
 cases x with
 | mk a=>show Str.mk (a ++ #[])=_;rw [Array.append_empty]
theorem kZ (I:Rep X z) {i:Nat} {d:D} (e:z.t.env[i]? = some (some d)) (h:toO d=none):∃ u,z.σ[i]? = some (some u)∧RD X.W z.ρ z.G d u:=by
 refine I.en i d (fun m=>?_) e
 obtain ⟨d',a,o,e1,_,e3,_⟩:=I.eo i m
 rw [e] at e1;cases e1
 rw [h] at e3;cases e3
theorem vq {Ex:Value→Shared→Prop} {es:List Expr} {c:E} (T:TxP X es c):∀ {z:Z} {acc:Str} {Q:Str→Shared→Prop} {l:List D},Rep X z→X.evs false c z.t = .ok l z.t→l.all gK=true→acc.length+10000 * es.length≤100000→(∀ out t,out.length≤100000→Q out { z.s with toks:=t })→Joins X.M X.A Ex (evalEach es X.env) acc Q z.s:=by
 have sz:∀ {n},n≤100000→n≤sizeLine:=fun h=>Nat.le_trans h (by decide)
 induction T with
 | nil=>exact fun I hs hk hl q=>q _ _ (by simpa using hl)
 | @c x j p r es hx _ ih=>
   intro z acc Q l I hs hk hl q
   rw [List.length_cons] at hl
   show wpAny _ _ (eval (.Constant (.str x) j p) X.env) _ _ _
   refine Calls.Constant_str ⟨x,_,rfl,sz (by rw [strLen_append];omega),?_⟩
   exact ih (z:={ z with s:={ z.s with toks:=z.s.toks+1 } }) (I.grow (am I.gh .tok)) hs hk (by rw [strLen_append];omega) q
 | @f x i p p2 r es hN hv hd _ ih=>
   intro z acc Q l I hs hk hl q
   rw [List.length_cons] at hl
   simp only [Bool.or_eq_false_iff] at hd
   rcases xD (X:=X) z.t i es with h | ⟨n,en,h⟩
   ·rw [h] at hs;cases hs
   rw [h] at hs
   rcases e:X.evs false es z.t with ⟨l',s'⟩ | ⟨c',y,s'⟩ | _
   ·rw [e] at hs
    cases hs
    rw [List.all_cons,Bool.and_eq_true] at hk
    obtain ⟨k1,k2⟩:=hk
    unfold gK at k1
    simp only [Bool.and_eq_true,decide_eq_true_eq] at k1
    obtain ⟨u,su,ru⟩:=kZ I en rfl
    obtain ⟨tk,rfl⟩:=ru
    obtain ⟨m,rfl⟩:=Int.eq_ofNat_of_zero_le (show 0≤n by omega)
    have hm:m<100000:=by omega
    have lt:=int_text_length_le10 (a:=(m:Int)) (k:=5) (by decide) hm
    have lg:(m:Int).natAbs.log2<1920:=by
     show m.log2<1920
     by_cases c:m=0
     ·subst c;decide
     ·exact Nat.lt_of_lt_of_le ((Nat.log2_lt (k:=17) c).mpr (by omega)) (by decide)
    have le:(Str.ofString (toString (m:Int))).length≤6:=by rw [PySem.ofString_length];exact lt
    refine FormattedValue_plain (cu I hN hv su (wpAny_formatField_int lg ⟨_,_,rfl,sz (by rw [strLen_append];omega),?_⟩) hd.1 hd.2)
    exact ih (z:={ z with s:={ z.s with toks:=z.s.toks+1+1 } }) (I.grow (am I.gh .tok)) e k2 (by rw [strLen_append];omega) q
   ·rw [e] at hs;cases hs
   ·rw [e] at hs;cases hs
 | @g x j u d p p2 r es hg hmg hj hk0 hd _ ih=>
   intro z acc Q l I hs hk hl q
   rw [List.length_cons] at hl
   rcases xE (X:=X) z.t j es with h | ⟨n,en,h⟩
   ·rw [h] at hs;cases hs
   rw [h] at hs
   rcases e:X.evs false es z.t with ⟨l',s'⟩ | ⟨c',y,s'⟩ | _
   ·rw [e] at hs
    cases hs
    rw [List.all_cons,Bool.and_eq_true] at hk
    obtain ⟨k1,k2⟩:=hk
    unfold gK at k1
    simp only [Bool.and_eq_true,decide_eq_true_eq] at k1
    rw [hj] at en
    have ru:RD X.W z.ρ z.G (.int n) u:=by have:=I.toHR.top hk0;rw [show toD d = .int n from Option.some.inj en] at this;exact this
    obtain ⟨tk,rfl⟩:=ru
    obtain ⟨m,rfl⟩:=Int.eq_ofNat_of_zero_le (show 0≤n by omega)
    have hm:m<100000:=by omega
    have lt:=int_text_length_le10 (a:=(m:Int)) (k:=5) (by decide) hm
    have lg:(m:Int).natAbs.log2<1920:=by
     show m.log2<1920
     by_cases c:m=0
     ·subst c;decide
     ·exact Nat.lt_of_lt_of_le ((Nat.log2_lt (k:=17) c).mpr (by omega)) (by decide)
    have le:(Str.ofString (toString (m:Int))).length≤6:=by rw [PySem.ofString_length];exact lt
    refine FormattedValue_plain (aF I hg hmg (wpAny_formatField_int lg ⟨_,_,rfl,sz (by rw [strLen_append];omega),?_⟩) hd)
    exact ih (z:={ z with s:={ z.s with toks:=z.s.toks+1+1 } }) (I.grow (am I.gh .tok)) e k2 (by rw [strLen_append];omega) q
   ·rw [e] at hs;cases hs
   ·rw [e] at hs;cases hs
 | @r x i p p2 r es hN hv hd _ ih=>
   intro z acc Q l I hs hk hl q
   rw [List.length_cons] at hl
   simp only [Bool.or_eq_false_iff] at hd
   rcases xG (X:=X) z.t i es with h | ⟨n,en,h⟩
   ·rw [h] at hs;cases hs
   rw [h] at hs
   rcases e:X.evs false es z.t with ⟨l',s'⟩ | ⟨c',y,s'⟩ | _
   ·rw [e] at hs
    cases hs
    rw [List.all_cons,Bool.and_eq_true] at hk
    obtain ⟨k1,k2⟩:=hk
    unfold gK at k1
    rw [pP] at k1
    have k1:(reprText n).length≤10000:=by simpa using k1
    obtain ⟨u,su,ru⟩:=kZ I en rfl
    obtain ⟨tk,rfl⟩:=ru
    have go:∀ t',X.tz≤t'→Joins X.M X.A Ex (evalEach r X.env) (acc ++ reprText n) Q { z.s with toks:=t' }:=fun t' tk=>ih (z:={ z with s:={ z.s with toks:=t' } }) (I.grow (am I.gh .tok) tk) e k2 (by rw [strLen_append];omega) q
    refine wpAny_FormattedValue_repr (cu I hN hv su (pyReprObj_str ?_ (sz (by omega))) hd.1 hd.2)
    exact wpAny_formatField_str ⟨_,_,rfl,sz (by rw [strLen_append];omega),go _ (by first | exact I.tk | exact I.tk1 | exact I.tk2)⟩ ⟨_,_,rfl,sz (by rw [strLen_append];omega),go _ (by first | exact I.tk | exact I.tk1 | exact I.tk2)⟩ (sz (by omega))
   ·rw [e] at hs;cases hs
   ·rw [e] at hs;cases hs
inductive TxA (X:Cx):Expr→E→Prop
 | c {x:Str} {j:Nat} {p:Pos}:x.length≤1000→TxA X (.Constant (.str x) j p) .nil
 | j {e1 e2:Expr} {r:List Expr} {p:Pos} {es:E}:TxP X (e1 :: e2 :: r) es→r.length≤8→TxA X (.JoinedStr (e1 :: e2 :: r) p) es
theorem vr {e:Expr} {c:E} (T:TxA X e c):∀ (t:Sta),X.evs false c t = .bad∨∃ l,X.evs false c t = .ok l t:=by
 cases T with
 | c _=>exact fun t=>.inr ⟨[],rfl⟩
 | j h _=>exact xF h
theorem rX {e:Expr} {c:E} {Q:Value→Shared→Prop} {Ex:Value→Shared→Prop} {l:List D} (T:TxA X e c) (I:Rep X z) (hs:X.evs false c z.t = .ok l z.t) (hk:l.all gK=true) (q:∀ u t,X.tz≤t→Q u { z.s with toks:=t }):wpAny X.M X.A (eval e X.env) Q Ex z.s:=by
 refine aL I.tk ?_
 cases T with
 | c _=>exact Calls.Constant_str (q _ _)
 | j h hr=>exact wpAny_JoinedStr (vq h I hs hk (by rw [List.length_cons,List.length_cons];show 0+_≤_;omega) fun out t ho=>⟨Nat.le_trans ho (by decide),q _ _⟩)
theorem lP {x:Str} {j:Nat} {k:Cl} {i:CI} {Bx nwI iniI:String} {bmB:List Value} {np cp pos:Pos} {e:Expr} {es:E} (F:ExcBaseFacts Bx nwI iniI bmB) (O:ka X.K i.ad bmB nwI) (hcl:X.Γ.cl[j]? = some k) (h0:k.at_.isEmpty=true) (hci:X.W.ci[j]? = some i) (hwh:X.W.what[j]? = some 2)
 (hc:X.calm=true) (hg:Gl X x) (hm:X.mg x=some (.ref i.ad)) (T:TxA X e es) (hd:(x == ("__debug__":Str))=false) (he:starEach [e] X.env = [(false,eval e X.env)]):LS X (.Raise (some (.Call (.Name x np) [e] [] cp)) none pos) (.rais j es):=fun z I nb=>by
 have eo:X.ex (.rais j es) z.t=(X.evs false es z.t).go fun l s=>if cC X.Γ j l then .exc j (eO X.Γ j l) s else .bad:=rfl
 rw [eo] at nb ⊢
 rcases vr T z.t with h | ⟨l,h⟩
 ·rw [h] at nb;exact absurd rfl nb
 rw [h] at nb ⊢
 have nb:(if cC X.Γ j l then ah.exc j (eO X.Γ j l) z.t else .bad)≠.bad:=nb
 show Ws X _ z (if cC X.Γ j l then ah.exc j (eO X.Γ j l) z.t else .bad)
 by_cases c:cC X.Γ j l=true
 rotate_left
 ·rw [if_neg c] at nb;exact absurd rfl nb
 rw [if_pos c]
 have ea:eO X.Γ j l = []:=by unfold eO;rw [hcl];exact if_pos h0
 rw [ea]
 unfold cC at c
 rw [hcl] at c
 dsimp only at c
 rw [if_pos h0] at c
 obtain ⟨nm,q,N,bs,bm,hdct,sn,sub,ab,col,dd,k0,k1,k2,k3,k5,z1,z2,z3,z4⟩:=O
 have KX:X.K.In z.s.heap:=I.toHR.kin
 have T':=PySem.W.tail_of_in KX z4
 refine wpAny_Raise_call_subT (C:=i.ad) (N:=N) (nm:=nm) (q:=q) (bs:=bs) (bm:=bm) (hdct:=hdct) (sn:=sn) (sub:=sub) (ab:=ab) (col:=col) (dd:=dd) (k0:=k0) (k1:=k1) (k2:=k2) (k3:=k3) (k5:=k5) (mN:=z.s.heap.nsMap N) F (T'.hasType F.hasBase) (I.hd hc) ?_ (PySem.W.nsMap_none_of_in KX z2 z3) (aF I hg hm ⟨rfl,?_⟩ hd)
 ·rw [he];rfl
 ·rw [he]
  show wpAny _ _ (evalArgs (.ref i.ad) true ((false,eval e X.env) :: backTo cp []) []) _ _ _
  refine Calls.evalArgs_plain (Calls.spliced_cons (rX T I h c fun u t tk=>Calls.spliced_nil ?_))
  refine ⟨rfl,by show 1≤sizeLine;rw [sizeLine_eq];decide,KX _ _ z1,Heap.Ns.of_isNs (PySem.W.isNs_of_in KX z2),T',fun h' a m=>?_⟩
  have kz:∀ b o,z.h b=some o→h'.get? b=some o:=fun b o e=>m.keeps b o e
  have np:z.h a=none:=m.new
  obtain ⟨tt,ht,_,_⟩:=m.there
  have g:Gr z.s { z.s with heap:=h',toks:=t }:=⟨rfl,rfl,kz⟩
  have gw:=am I.gh g
  have I3:=I.grow gw tk
  have fp:=I.fre np
  exact ⟨{ z with s:={ z.s with heap:=h',toks:=t } },j,[],rfl,rfl,gw.ee.go,I3,a,.ref i.ad,none,rfl,⟨i,hci,hwh,rfl,Nat.zero_le _,.inl ⟨rfl,rfl⟩⟩,⟨np,⟨fp.1.1,fp.1.2⟩,fp.2⟩,.inl ⟨_,_,ht,⟨rfl,rfl⟩,rfl,rfl⟩⟩
end
end L2.Ev
namespace L2.Ev
theorem ot_mk {K:Fg} {C:Addr} {bmB:List Value} {newId:String} {nm q:Str} {N:Addr} {bs bm:List Value} {hdct:Bool} {sn:List Str} {sub:List Value} {ab:Bool} {col:Option Bool} {dd:Option Addr} {k0 k1 k2 k3 k5:Option Value} (l:K.lookup C=some (excClassObj nm q C N bs bm hdct sn sub ab col dd k0 k1 k2 k3 k5 newId)) (o:PySem.W.nsOkIn K N=true) (i:PySem.W.nsIn K N "__init__" = some none) (t:PySem.W.tailIn K bmB bm=true):ka K C bmB newId:=⟨nm,q,N,bs,bm,hdct,sn,sub,ab,col,dd,k0,k1,k2,k3,k5,l,o,i,t⟩
theorem m5 {prog:Program} {w:World} {A:Around} {E:Value→Shared→Prop} {s:Shared} {Q:Option Value→Shared→Prop} {δ:Type} {R:δ→Value→Prop} {a:Addr} {D:List (Str×δ)} {z:Str} {tz:Tok} {d:δ}
 (T:KTD.TabOf R s.heap a D) (hat:KTD.datumAt z D=some d) (h:∀ v,R d v→Q (some v) { s with toks:=s.toks+1 }):wpAny (model prog w) A (dictGet a (.str z tz)) Q E s:=by
 obtain ⟨_,o,es,ep,ho,_,hd,hr⟩:=T
 obtain ⟨v,hv,hfl⟩:=hr.find_some hat
 have all:(es.all fun e=>isExactStrKey e.key)=true:=by
  obtain ⟨l⟩:=es
  simpa using hr.exact
 have hq:Q (findBy (fun k v=>v.isStr k) es z) { s with toks:=s.toks+1 }:=by
  rw [show findBy (fun k v=>v.isStr k) es z=some v by obtain ⟨l⟩:=es;simpa [findBy] using hv]
  exact h v hfl
 rw [findBy_of_findIdx?] at hq
 unfold dictGet
 refine wpAny_holding ?_
 refine wpAny_bind (wpAny_pyHash_str (wpAny_bind (KTD.kt_dictFind_strs (s:={ s with toks:=s.toks+1 }) ho hd all ?_)))
 cases hi:es.findIdx? fun e=>e.key.isStr z with
 | none=>
   rw [hi] at hq
   exact wpAny_pure hq
 | some i=>
   rw [hi] at hq
   exact wpAny_bind (wpAny_dictEntries (s:={ s with toks:=s.toks+1 }) ho hd (wpAny_pure hq))
theorem qz {prog:Program} {w:World} {A:Around} {E:Value→Shared→Prop} {s:Shared} {Q:Option Value→Shared→Prop} {δ:Type} {R:δ→Value→Prop} {a:Addr} {D:List (Str×δ)} {z:Str} {tz:Tok}
 (T:KTD.TabOf R s.heap a D) (hat:KTD.datumAt z D=none) (h:Q none { s with toks:=s.toks+1 }):wpAny (model prog w) A (dictGet a (.str z tz)) Q E s:=by
 obtain ⟨_,o,es,ep,ho,_,hd,hr⟩:=T
 have hv:=hr.find_none hat
 have all:(es.all fun e=>isExactStrKey e.key)=true:=by
  obtain ⟨l⟩:=es
  simpa using hr.exact
 have hq:Q (findBy (fun k v=>v.isStr k) es z) { s with toks:=s.toks+1 }:=by
  rw [show findBy (fun k v=>v.isStr k) es z=none by obtain ⟨l⟩:=es;simpa [findBy] using hv]
  exact h
 rw [findBy_of_findIdx?] at hq
 unfold dictGet
 refine wpAny_holding (wpAny_bind (wpAny_pyHash_str (wpAny_bind (KTD.kt_dictFind_strs (s:={ s with toks:=s.toks+1 }) ho hd all ?_))))
 cases hi:es.findIdx? fun e=>e.key.isStr z with
 | none=>
   rw [hi] at hq
   exact wpAny_pure hq
 | some i=>
   rw [hi] at hq
   exact wpAny_bind (wpAny_dictEntries (s:={ s with toks:=s.toks+1 }) ho hd (wpAny_pure hq))
section
variable {X:Cx} {z z1:Z} {a:Addr} {t:List (Str×L2.Bk.Dk)} {j:Nat} {x:Str}
abbrev TbL (X:Cx) (a:Addr) (t:List (Str×L2.Bk.Dk)):Prop:=KTD.tabLook (aJ X.K) (fun b=>X.K.lookup b) a t=true
theorem pn (I:HR X z) (hK:TbL X a t):KTD.TabOf (fun d v=>aJ X.K d v=true) z.s.heap a t:=KTD.tab_of_look (fun _ _ h=>h) (fun b o e=>I.kin b o e) hK
theorem uz (hg:Gl X x) (hm:X.mg x=some (.ref a)) (ht:X.Γ.tb[j]? = some t) (hK:TbL X a t) (hb:LE X eb b) (hs:gL eb) (hd:(x == ("__debug__":Str))=false) (hl:∀ r,letTemporaryGo (.Name x p) (.ref a) r=pure ()):LE X (.Subscript (.Name x p) eb pos) (.tab j b):=fun br z I nb=>
 Subscript_ (aF I hg hm ((hb true).go .refl I rfl nb fun z1 d u y1 x1 I1 r1 e1=>by
  rw [ht] at e1
  cases d with
  | str k=>
    obtain ⟨tz,rfl⟩:=(r1.rb.cr0 I1:RD X.W z1.ρ z1.G (.str k) u)
    have T:=pn I1.toHR hK
    have ty:z1.s.TypeIs (.ref a) "dict":=by obtain ⟨_,o,_,_,ho,hc,_⟩:=T;exact ⟨o,ho,hc.1⟩
    refine b7 x1 I1 e1 nb fun d q=>?_
    obtain ⟨d0,hat,rfl⟩:=Option.map_eq_some_iff.mp q
    refine subscriptTail_builtin ty slot_dict_getitem.lookup ?_ (hs _ _) hl
    unfold getItem
    refine wpAny_holding (wpAny_bind (wpAny_sequenceKey ty (by decide) (wpAny_bind (wpAny_callSpecial?_slot (name:=Str.ofString "__getitem__") ty slot_dict_getitem (wpAny_call_entry slot_dict_getitem ty entry_dict_getitem ?_ (args_dict_getitem _ _))))))
    show wpAny _ _ (dictGet a (.str k tz) >>= _) _ _ z1.s
    exact wpAny_bind (m5 T hat fun v hv=>wpAny_pure ⟨v,rfl,wpAny_pure (.old I1 .tok (I1.toHR.top hv))⟩)
  | _=>exact absurd e1 nb) hd)
theorem jd {k:Str} {tz:Tok} {Q:Bool→Shared→Prop} {E:Value→Shared→Prop} (I:HR X z) (hK:TbL X a t) (q:∀ n,Q (KTD.datumAt k t).isSome { z.s with toks:=n }):wpAny X.M X.A (contains (.ref a) (.str k tz)) Q E z.s:=by
 have T:=pn I hK
 have ty:z.s.TypeIs (.ref a) "dict":=by obtain ⟨_,o,_,_,ho,hc,_⟩:=T;exact ⟨o,ho,hc.1⟩
 have nsm:=T.1
 unfold contains
 refine wpAny_holding ?_
 refine wpAny_bind (wpAny_specialOf ty slot_dict_contains.lookup ?_)
 show wpAny _ _ (if (some (Value.builtin "dict.__contains__") == some Value.none)=true then _ else _) _ _ z.s
 rw [if_neg (by rw [beq_builtin_none];exact Bool.false_ne_true)]
 refine wpAny_bind (wpAny_callSpecialUnlessNone?_slot (name:=Str.ofString "__contains__") ty slot_dict_contains (wpAny_call_entry slot_dict_contains ty entry_dict_contains ?_ (args_dict_contains _ _)))
 show wpAny _ _ (dictGet a (.str k tz) >>= _) _ _ z.s
 cases hat:KTD.datumAt k t with
 | some d=>
   rw [hat] at q
   refine wpAny_bind (m5 T hat fun v _=>?_)
   show wpAny _ _ (ret (.bool true)) _ _ _
   exact wpAny_pure ⟨_,rfl,wpAny_truthy_bool (q _)⟩
 | none=>
   rw [hat] at q
   refine wpAny_bind (qz T hat ?_)
   show wpAny _ _ (Builtin.Dict.pendingKey? a (.str k tz) >>= _) _ _ _
   exact wpAny_bind (wpAny_pendingKey_other nsm (wpAny_pure ⟨_,rfl,wpAny_truthy_bool (q _)⟩))
theorem je {k:Str} {tz:Tok} {Q:Value→Shared→Prop} {E:Value→Shared→Prop} (I:HR X z) (hK:TbL X a t) (q:∀ n,Q (.bool (KTD.datumAt k t).isSome) { z.s with toks:=n }):wpAny X.M X.A (compareOp .In (.str k tz) (.ref a)) Q E z.s:=
 show wpAny _ _ (do return Value.bool (← contains (.ref a) (.str k tz))) _ _ z.s from wpAny_bind (jd I hK fun n=>wpAny_pure (q n))
theorem jf {k:Str} {tz:Tok} {Q:Value→Shared→Prop} {E:Value→Shared→Prop} (I:HR X z) (hK:TbL X a t) (q:∀ n,Q (.bool (!(KTD.datumAt k t).isSome)) { z.s with toks:=n }):wpAny X.M X.A (compareOp .NotIn (.str k tz) (.ref a)) Q E z.s:=
 show wpAny _ _ (do return Value.bool (!(← contains (.ref a) (.str k tz)))) _ _ z.s from wpAny_bind (jd I hK fun n=>wpAny_pure (q n))
theorem nY (hg:Gl X x) (hm:X.mg x=some (.ref a)) (ht:X.Γ.tb[j]? = some t) (hK:TbL X a t) (hb:LE X eb b) (hd:(x == ("__debug__":Str))=false) (h1:behindInMarks .In (.Name x p)=false):LE X (.Compare eb [.In] [.Name x p] pos) (.tabin j b):=fun br z I nb=>
 wpAny_Compare1 ((hb true).go .refl I rfl nb fun z1 d u y1 x1 I1 r1 e1=>by
  rw [ht] at e1
  cases d with
  | str k=>
    obtain ⟨tz,rfl⟩:=(r1.rb.cr0 I1:RD X.W z1.ρ z1.G (.str k) u)
    exact aF I1 hg hm (aL I1.tk (je I1.toHR hK fun n tk=>Dn.at x1 I1 e1 (.tok fun _ _ _=>rfl) tk)) hd
  | _=>exact absurd e1 nb) h1
theorem oE (hg:Gl X x) (hm:X.mg x=some (.ref a)) (ht:X.Γ.tb[j]? = some t) (hK:TbL X a t) (hb:LE X eb b) (hd:(x == ("__debug__":Str))=false) (h1:behindInMarks .In (.Name x p)=false):LT X (.Compare eb [.In] [.Name x p] pos) (.tabin j b):=fun z I nb=>
 wpAny_isTrue_Compare1 ((hb true).go .refl I (ak ..) nb fun z1 d u y1 x1 I1 r1 e1=>by
  rw [ht] at e1
  cases d with
  | str k=>
    obtain ⟨tz,rfl⟩:=(r1.rb.cr0 I1:RD X.W z1.ρ z1.G (.str k) u)
    exact aF I1 hg hm (aL I1.tk (je I1.toHR hK fun n tk=>(Dn.tok (X:=X) (z:=z1) (d:=.bl (KTD.datumAt k t).isSome) (n:=n) fun _ _ _=>rfl).tru x1 I1 e1 nb tk)) hd
  | _=>exact absurd e1 nb) h1
theorem nZ (hg:Gl X x) (hm:X.mg x=some (.ref a)) (ht:X.Γ.tb[j]? = some t) (hK:TbL X a t) (hb:LE X eb b) (hd:(x == ("__debug__":Str))=false) (h1:behindInMarks .NotIn (.Name x p)=false):LE X (.Compare eb [.NotIn] [.Name x p] pos) (.not (.tabin j b)):=fun br z I nb=>
 wpAny_Compare1 ((hb true).go .refl I (ak ..) nb fun z1 d u y1 x1 I1 r1 e1=>by
  rw [ht] at e1
  cases d with
  | str k=>
    obtain ⟨tz,rfl⟩:=(r1.rb.cr0 I1:RD X.W z1.ρ z1.G (.str k) u)
    exact aF I1 hg hm (aL I1.tk (jf I1.toHR hK fun n tk=>Dn.at x1 I1 e1 (.tok fun _ _ _=>rfl) tk)) hd
  | _=>exact absurd e1 nb) h1
theorem oF (hg:Gl X x) (hm:X.mg x=some (.ref a)) (ht:X.Γ.tb[j]? = some t) (hK:TbL X a t) (hb:LE X eb b) (hd:(x == ("__debug__":Str))=false) (h1:behindInMarks .NotIn (.Name x p)=false):LT X (.Compare eb [.NotIn] [.Name x p] pos) (.not (.tabin j b)):=fun z I nb=>
 wpAny_isTrue_Compare1 ((hb true).go .refl I ((congrArg (fun q=>Out.bind q toB) (ak ..)).trans (ak ..)) nb fun z1 d u y1 x1 I1 r1 e1=>by
  rw [ht] at e1
  cases d with
  | str k=>
    obtain ⟨tz,rfl⟩:=(r1.rb.cr0 I1:RD X.W z1.ρ z1.G (.str k) u)
    exact aF I1 hg hm (aL I1.tk (jf I1.toHR hK fun n tk=>(Dn.tok (X:=X) (z:=z1) (d:=.bl (!(KTD.datumAt k t).isSome)) (n:=n) fun _ _ _=>rfl).tru x1 I1 e1 nb tk)) hd
  | _=>exact absurd e1 nb) h1
end
section
variable {X:Cx} {z z1:Z}
structure M2 (X:Cx) (o:Expr) (m:Str) (apos:Pos) (e f:Expr) (cpos:Pos):Prop where
 base:attributeBase o m X.env (eval o X.env)=eval o X.env
 few:((backTo cpos (starEach [e,f] X.env)).all (fun x=>!x.1) && (backToKw cpos (keywordEach [] X.env)).all (fun x=>x.1.isSome) && decide (([e,f]:List Expr).length+([]:List Keyword).length+(if ([]:List Keyword).isEmpty then 0 else 1)<30))=true
 line:(apos.endLine == cpos.line)=true
 trees:backTo cpos (starEach [e,f] X.env) = [(false,eval e X.env),(false,eval f X.env)]
theorem jc:∀ {l ss vs},dQ l=some ss→RDs W ρ G l vs→StrsAre vs ss
 | [],ss,vs,e,r=>by cases e;cases (show vs = [] from r);exact .nil
 | d :: l,ss,vs,e,r=>by
   cases d with
   | str b=>
     obtain ⟨cs,q,rfl⟩:=Option.map_eq_some_iff.mp (show (dQ l).map (b :: ·)=some ss from e)
     obtain ⟨v,r',rfl,⟨t,rfl⟩,tl⟩:=r
     exact .cons b t (jc q tl)
   | _=>cases e
theorem qK {x:Str} (ha:LE X ea a) (m:M1 X (.Constant (.str x) j p) "join" apos ea cpos):LE X (.Call (.Attribute (.Constant (.str x) j p) "join" apos) [ea] [] cpos) (.join x a):=fun br z I nb=>
 wpAny_Call_method m.base m.few m.line PySem.F.plainAttrs_str PySem.F.slot_str_join PySem.F.type_str_join (Calls.Constant_str (by
  refine ⟨typeIs_str _ _ _,(fun b q=>by cases q),?_⟩
  rw [m.trees]
  have g:Gr z.s { z.s with toks:=z.s.toks+1 }:=.tok
  refine Calls.callWith_builtin rfl (Calls.evalArgs_plain (Calls.spliced_cons ((ha true).go (z:=z) (z1:={ z with s:={ z.s with toks:=z.s.toks+1 } }) (am I.gh g).ee (I.grow (am I.gh g)) rfl nb fun z1 d u y1 x1 I1 r1 e1=>Calls.spliced_nil (b7 x1 I1 e1 nb fun d2 e=>?_))))
  have cr:=r1.rb.cr I1
  revert e cr
  generalize look z1.t.st d=cc
  intro e cr
  cases cc with
  | lst l=>
    obtain ⟨ss,h1,h2⟩:=Option.bind_eq_some_iff.mp (show ((dQ l).bind fun ss=>if x.length≤64∧(ss.map (·.length)).sum≤100000∧ss.length≤1000 then some (D.str (Txt.join x ss)) else none)=some d2 from e)
    obtain ⟨c,rfl⟩:=aI h2
    obtain ⟨ad,o,vs,rfl,ho,⟨⟨n,rfl⟩,hz⟩,w⟩:=cr
    refine join_list (ys:=ss) (show z1.s.heap.IsList ad vs.toArray from ⟨_,ho,rfl,n,rfl⟩) (by simpa using jc h1 w) ?_ fun t' k=>.tok fun _ _ _=>⟨_,rfl⟩
    have:=Nat.mul_le_mul c.2.2 c.1
    omega
  | _=>cases e))
end
theorem jZ:typeLookup (.type "list_reverseiterator") "__len__" = pure none:=by rw [typeLookup_type,builtinLookup_eq_fast];kernel_rfl
theorem o4:typeLookup (.type "list_reverseiterator") "__length_hint__" = pure (some (.builtin "list_reverseiterator.__length_hint__")):=by rw [typeLookup_type,builtinLookup_eq_fast];kernel_rfl
section
variable {prog:Program} {w:World} {A:Around} {E:Value→Shared→Prop} {s:Shared}
theorem qw {R:Result→Shared→Prop} {r l S:Addr} {xs:Array Value} {c0:Nat} {res:Value} (hh:A.handled=none) (hn:xs.size≤sizeLine) (g:s.heap.IsRevIter r l ((xs.size:Int) - 1)) (gl:s.heap.IsList l xs) (ne:l≠r)
 (hS:s.heap.get? S=some { cls:=.type "list",data:=.seq #[] c0 }) (n1:S≠r) (n2:S≠l)
 (q:∀ h1 tk acc c1,(∀ b o,b≠S→b≠r→s.heap.get? b=some o→h1.get? b=some o)→h1.get? S=some { cls:=.type "list",dict:=none,data:=.seq acc c1,slots:=#[] }→ItemsOf (fun i v=>xs[xs.size - 1 - i]? = some v) acc xs.size→R (.ok (.ret res)) { s with heap:=h1,toks:=tk }) :
 wpAny (model prog w) A.in1 (Builtin.List.listExtendWith (.ref S) (.ref r) res)
  (fun fin s1=>match fin with | .done f=>R (.ok f) s1 | .again c1=>c1.quiet=true∧codeAny (model prog w) A c1 R s1) (fun e s1=>R (.error e) s1) s:=by
 have ty:=g.typeIs
 unfold Builtin.List.listExtendWith
 refine wpAny_bind (wpAny_typeOf ty ?_)
 have a1:Builtin.List.listSameRef (.ref S) (.ref r)=false:=by simp [Builtin.List.listSameRef,n1]
 have a2:(Value.type "list_reverseiterator" == Value.type "list")=false:=by decide
 have a3:(Value.type "list_reverseiterator" == Value.type "tuple")=false:=by decide
 simp only [a1,a2,a3,Bool.or_false,Bool.false_eq_true,if_false]
 refine wpAny_bind (wpAny_pyIter_revIter g (wpAny_bind (wpAny_holding ?_)))
 unfold Builtin.List.listLengthHint
 refine wpAny_bind (wpAny_specialOf ty jZ ?_)
 show wpAny _ A.in1 (specialOf (Value.ref r) (Str.ofString "__length_hint__") >>= fun _=>_) _ _ _
 refine wpAny_bind (wpAny_specialOf ty o4 ?_)
 have W:=(Walks.listRev (prog:=prog) (w:=w) (A:=A.in1) hh r l ne xs).toS
 have nS:S ∉ [r,l]:=by simp [n1,n2]
 have sp:splitId "list_reverseiterator.__length_hint__" = some ("list_reverseiterator","__length_hint__"):=by decide +kernel
 dsimp only
 simp only [sp]
 refine wpAny_bind (wpAny_isInstance (T:="list_reverseiterator") (b:=true) ty (by rw [isSubtype_type];kernel_rfl) ?_)
 refine wpAny_ite_split (fun z=>absurd z (by decide)) fun _=>?_
 refine wpAny_ite_split (fun _=>?_) (fun z=>absurd (by decide +kernel) z)
 refine wpAny_ite_split (fun z=>absurd z (by decide +kernel)) fun _=>wpAny_pure ?_
 refine wpAny_ite_split (fun z=>absurd z (by decide +kernel)) fun _=>?_
 refine wpAny_pure ⟨plainId_quiet F.plain_extend_loop _,codeAny_extend_loopS W hn S nS res xs.size 0 _ _ _ rfl (Nat.zero_le _) ⟨Nat.zero_le _,by simpa using g,gl⟩ hS (ItemsOf.nil _) fun s1 acc c1 hm hS1 hacc=>?_⟩
 rw [Moved.eq_with hm]
 refine q s1.heap s1.toks acc c1 (fun b o z1 z2 e=>hm.heap b o (fun z=>?_) e) hS1 hacc
 rcases List.mem_cons.mp z with z | z
 ·exact z1 z
 ·exact z2 (List.mem_singleton.mp z)
theorem gR {r l:Addr} {xs:Array Value} {Q:Value→Shared→Prop} (hh:A.handled=none) (hn:xs.size≤sizeLine) (g:s.heap.IsRevIter r l ((xs.size:Int) - 1)) (gl:s.heap.IsList l xs) (ne:l≠r)
 (q:∀ h1 tk acc c1,(∀ b o,b≠r→s.heap.get? b=some o→h1.get? b=some o)→h1.get? s.heap.objs.size=some { cls:=.type "list",dict:=none,data:=.seq acc c1,slots:=#[] }→ItemsOf (fun i v=>xs[xs.size - 1 - i]? = some v) acc xs.size →
  Q (.ref s.heap.objs.size) { s with heap:=h1,toks:=tk }):wpAny (model prog w) A (call (.type "list") [.ref r]) Q E s:=by
 refine callType_codes (Q₁:=fun obj s1=>obj = .ref s.heap.objs.size∧s1={ s with heap:=s.heap.push { cls:=.type "list",data:=.seq #[] } }) F.called_list (F.typeCall_list_1 _) F.entry_list_init (code_list_new _ ⟨rfl,rfl⟩) fun obj s1 z=>?_
 obtain ⟨e,e'⟩:=z
 subst e e'
 have hS:(s.heap.push { cls:=.type "list",data:=.seq #[] }).get? s.heap.objs.size=some { cls:=.type "list",data:=.seq #[] }:=Heap.get?_push_size _ rfl
 have rlt:r<s.heap.objs.size:=by obtain ⟨_,e,_⟩:=g;exact Heap.lt_size e
 have llt:l<s.heap.objs.size:=by obtain ⟨_,e,_⟩:=gl;exact Heap.lt_size e
 refine ⟨⟨_,hS,rfl⟩,F.args_list_init_2 _ _,?_⟩
 show wpAny _ _ (do let old ← Builtin.List.listItems (.ref s.heap.objs.size);Builtin.List.listUpdate (.ref s.heap.objs.size) (fun _=>#[]);letGo old.toList.reverse;Builtin.List.listExtendWith (.ref s.heap.objs.size) (.ref r) .none) _ _ _
 refine wpAny_bind ?_
 unfold Builtin.List.listItems
 refine wpAny_bind (wpAny_seqItems hS rfl (wpAny_pure ?_))
 show wpAny _ _ (updateSeq s.heap.objs.size (fun _=>#[]) >>= fun _=>letGo (#[]:Array Value).toList.reverse >>= fun _=>Builtin.List.listExtendWith (.ref s.heap.objs.size) (.ref r) .none) _ _ _
 refine wpAny_bind (wpAny_updateSeq hS rfl (wpAny_bind (wpAny_letGo ?_)))
 have oth:∀ b o,s.heap.get? b=some o→((s.heap.push { cls:=.type "list",data:=.seq #[] }).update s.heap.objs.size (Obj.mapSeq (fun _=>(#[]:Array Value)))).get? b=some o:=fun b o e=>
  (Heap.get?_update_other _ _ (Nat.ne_of_gt (Heap.lt_size e))).trans (Heap.get?_push_of_some _ e)
 refine qw (A:=A.in1) hh hn (g.at fun o e=>oth r o e) (gl.at fun o e=>oth l o e) ne (Heap.get?_update_self (Obj.mapSeq (fun _=>(#[]:Array Value))) hS rfl) (Nat.ne_of_gt rlt) (Nat.ne_of_gt llt) fun h1 tk acc c1 k1 k2 k3=>⟨rfl,?_⟩
 exact q h1 tk acc c1 (fun b o n1 e=>k1 b o (Nat.ne_of_lt (Heap.lt_size e)) n1 (oth b o e)) k2 k3
end
section
variable {X:Cx} {z z1:Z}
theorem lK {us:List Value} {acc:Array Value} (h:ItemsOf (fun i v=>us.toArray[us.toArray.size - 1 - i]? = some v) acc us.toArray.size):acc.toList=us.reverse:=by
 obtain ⟨h1,h2⟩:=h
 refine List.ext_getElem (by simpa using h1) fun i l1 l2=>?_
 have k:=h2 i acc[i] (Array.getElem?_eq_getElem (by simpa using l1))
 have l3:i<us.length:=by simpa using l2
 rw [List.getElem_reverse]
 have k':us[us.length - 1 - i]? = some acc[i]:=by simpa using k
 rw [List.getElem?_eq_getElem (by omega)] at k'
 simpa using (Option.some.inj k').symm
theorem uF {p1 p2 pos pos2:Pos} (hc:X.calm=true) (g1:Blt X "list" (.type "list")) (g2:Blt X "reversed" (.type "reversed")) (ha:LE X ea a) (hs:starEach [ea] X.env=(false,eval ea X.env) :: starEach [] X.env) (hs2:starEach [.Call (.Name "reversed" p2) [ea] [] pos2] X.env=(false,eval (.Call (.Name "reversed" p2) [ea] [] pos2) X.env) :: starEach [] X.env):LF X (.Call (.Name "list" p1) [.Call (.Name "reversed" p2) [ea] [] pos2] [] pos) (.bi .rev (.cons a .nil)):=fun z I nb=>
 aG (.inr ⟨_,rfl⟩) g1 hs2 rfl I (Calls.spliced_cons (aG (.inr ⟨_,rfl⟩) g2 hs rfl I (Calls.spliced_cons ((ha true).go .refl I (ev1 fun l s=>Out.of s (biD .rev (l.map (look s.st)))) nb fun z1 x u y1 x1 I1 r1 e1=>Calls.spliced_nil (by
  have cr:=r1.rb.cr I1
  have e1:X.ev false (.bi .rev (.cons a .nil)) z.t=Out.of z1.t (cX .rev (look z1.t.st x)):=e1
  revert e1 cr
  generalize look z1.t.st x=cc
  intro cr e1
  cases cc with
  | lst l=>
    obtain ⟨ad,o,vs,rfl,ho,⟨⟨n,rfl⟩,hz⟩,r⟩:=cr
    have pl:z1.s.heap.IsList ad vs.toArray:=⟨_,ho,rfl,n,rfl⟩
    refine call_reversed_list pl (Calls.spliced_nil ?_)
    refine aL I1.tk (gR (I1.hd hc) (by simp;omega) ⟨_,Heap.get?_push_size _ rfl,rfl,rfl⟩ (pl.at fun o e=>Heap.get?_push_of_some _ e) (Nat.ne_of_lt (Heap.lt_size ho)) fun h1 tk acc c1 k1 k2 k3 tk0=>?_)
    have w:=lK k3
    have nn:z1.h (z1.s.heap.push (revObj ad ((vs.toArray.size:Int) - 1))).objs.size=none:=Heap.get?_none_of_le (by rw [Heap.size_push];exact Nat.le_succ _)
    obtain ⟨z2,d,q1,q2,y,I2,fv⟩:=(Dw.lst (X:=X) (z:=z1) (s':={ z1.s with heap:=h1,toks:=tk }) (k:=c1) r.rev (.hp fun b o e=>k1 b o (Nat.ne_of_lt (Heap.lt_size e)) (Heap.get?_push_of_some _ e)) nn (by show h1.get? _=_;rw [k2,← w]) (by rw [List.length_reverse];exact hz)).pe I1 tk0
    exact ⟨z2,d,q1,e1.trans q2,x1.trans y,I2,fv.less x1⟩
  | _=>exact absurd e1 nb)))))
end
structure Zd where
 it:Addr
 fp:List Addr
 n:Nat
 P:Nat→Value→Prop
 St:Nat→Heap→Prop
structure ZOk (prog:Program) (w:World) (A:Around) (n:Nat) (l:List Zd) (z TI TO:Addr):Prop where
 dr:∀ d∈l,Draws prog w A d.it d.fp d.n d.P d.St∧n≤d.n∧d.it∈d.fp∧z ∉ d.fp∧TO ∉ d.fp∧TI≠d.it
 ap:∀ (i j:Nat) (d e:Zd),l[i]? = some d→l[j]? = some e→i≠j→d.it ∉ e.fp
 hd:∃ d r,l=d :: r∧d.n=n
 zT:z≠TI∧z≠TO∧TI≠TO
 sz:l.length≤sizeLine
end L2.Ev
end
section
namespace L2.Ev
def tA (h:Heap) (k:Bool) (a:Addr) (xs:Array Value):Prop:=(k=true∧h.IsTuple a xs)∨(k=false∧h.IsList a xs)
section
variable {prog:Program} {w:World} {A:Around} {E:Value→Shared→Prop} {s:Shared} {k k1 k2 k3:Bool} {a a1 a2 a3:Addr} {xs ys zs:Array Value}
theorem tA.push (h:tA h0 k a xs) (o:Obj):tA (h0.push o) k a xs:=h.imp (fun ⟨e,q⟩=>⟨e,Heap.IsTuple.push q o⟩) fun ⟨e,q⟩=>⟨e,Heap.IsList.push q o⟩
end
section
variable {X:Cx} {z z' z0 z1:Z} {tg:Expr}
theorem RDs.v {i:Nat} {d:D} {v:Value} (r:RDs W ρ G l vs) (e:l[i]? = some d) (q:vs.toArray[i]? = some v):RD W ρ G d v:=by
 obtain ⟨v',w1,w2⟩:=r.get e
 rw [show vs[i]? = some v by simpa using q] at w1;cases w1;exact w2
end
section
variable {X:Cx} {z:Z}
theorem qP {x:Str} {j:Nat} {cl:Cl} {i:CI} (F:bB X X.cal1 lv cl.init f) (hr:aW (lv+1) X.A) (M:Mk X.K i.ad f) (hcl:X.Γ.cl[j]? = some cl) (hw:cl.what=0) (hci:X.W.ci[j]? = some i) (hwh:X.W.what[j]? = some 0) (hg:Gl X x) (hm:X.mg x=some (.ref i.ad)) (hd:(x == ("__debug__":Str))=false):LE X (.Call (.Name x p) [] [] pos) (.new j .nil):=fun br z I nb=>
 wpAny_Call_Name_kw (aF I hg hm (PySem.W.callWith_K0 I.toHR.kin M.kp (kY F hr M hcl hw hci hwh .refl I (l:=[]) (us:=[]) (es:=.nil) trivial rfl nb)) hd)
end
end L2.Ev
end
section
namespace L2.Ev
open PySem.W
theorem pc {prog:Program} {w:World} {A:Around} {E:Value→Shared→Prop} {s:Shared} {x y:Str} {t u:Tok} {Q:Value→Shared→Prop} (hy:(y.length == 0)=false) (hz:x.length≤sizeLine) (hn:(Builtin.Str.partsBetween x (Builtin.Str.occurrences x y 0 x.length (x.length+1)) y.length).length≤sizeLine)
 (q:∀ (l:List (Str×Tok)) k,l.map (·.1)=Txt.split x y→Q (.ref s.heap.objs.size) { s with heap:=s.heap.push { cls:=.type "list",data:=.seq (strValues l).toArray },toks:=k }):wpAny (model prog w) A (call (.builtin "str.split") [.str x t,.str y u]) Q E s:=by
 have m:=fun {W} (k:Meets (Builtin.«str.split» ⟨[.str x t,.str y u],[]⟩) W)=>call_meets (prog:=prog) (w:=w) (A:=A) (Q:=Q) (E:=E) (s:=s) PySem.F.slot_str_split (typeIs_str _ _ _) PySem.F.entry_str_split (PySem.F.args_str_split_2 _ _) k
 cases c1:(decide (x.length<y.length) || decide (Builtin.Str.strKind x<Builtin.Str.strKind y)) with
 | true=>exact m (meets_str_split_cannot_occur x y t u c1) (q [(x,t)] s.toks (if_pos c1).symm)
 | false=>
   cases c2:(Builtin.Str.occurrences x y 0 x.length (x.length+1)).isEmpty with
   | true=>exact m (meets_str_split_not_found x y t u c1 hy c2) (q [(x,t)] s.toks ((if_neg (by rw [c1];decide)).trans (if_pos c2)).symm)
   | false=>
     refine m (meets_str_split_sep x y t u c1 hy c2 hz hn) ?_
     have e:=strsFrom_eq s.toks (Builtin.Str.partsBetween x (Builtin.Str.occurrences x y 0 x.length (x.length+1)) y.length)
     show wants Q E _ { s with toks:=_,heap:=s.heap.push { cls:=.type "list",data:=.seq (strsFrom s.toks _).toArray } }
     rw [e]
     exact q (numbered s.toks _) _ ((numbered_texts _ _).trans ((if_neg (by rw [c1];decide)).trans (if_neg (by rw [c2];decide))).symm)
section
variable {X:Cx} {z z1:Z}
theorem fw {W:Wd} {ρ:Rs} {G:Hp}:∀ (l:List (Str×Tok)),RDs W ρ G ((l.map (·.1)).map .str) (strValues l)
 | []=>rfl
 | (x,t) :: r=>.cons ⟨t,rfl⟩ (fw r)
theorem nW {y z':Str} {j1 j2:Nat} {p1 p2:Pos} (htz:0<X.tz) (hyz:(y == z')=false) (ha:LE X eo a) (base:attributeBase eo "replace" X.env (eval eo X.env)=eval eo X.env) (line:(apos.endLine == cpos.line)=true):LE X (.Call (.Attribute eo "replace" apos) [.Constant (.str y) j1 p1,.Constant (.str z') j2 p2] [] cpos) (.sm (.rep y z') a):=fun br z I nb=>by
 refine wpAny_Call_method base rfl line PySem.F.plainAttrs_str PySem.F.slot_str_replace PySem.F.type_str_replace ((ha true).go .refl I rfl nb fun z1 x u y1 x1 I1 r1 e1=>?_)
 cases x with
 | str x=>
   obtain ⟨t,rfl⟩:=(r1.rb.cr0 I1:RD X.W z1.ρ z1.G (.str x) u)
   refine ⟨typeIs_str _ _ _,(fun _ e=>nomatch e),?_⟩
   show wpAny _ _ (callWith _ _ _ [(false,eval (.Constant (.str y) j1 p1) X.env),(false,eval (.Constant (.str z') j2 p2) X.env)] []) _ _ _
   refine Calls.callWith_builtin rfl (Calls.evalArgs_plain (Calls.spliced_cons (Calls.Constant_str (Calls.spliced_cons (Calls.Constant_str (Calls.spliced_nil ?_))))))
   have e1:X.ev br (.sm (.rep y z') a) z.t=Out.of z1.t (if x.length≤10000∧z'.length≤100∧y.length=1 then some (.str (Txt.replace x y z')) else none):=e1
   by_cases c:x.length≤10000∧z'.length≤100∧y.length=1
   ·rw [if_pos c] at e1
    have:=I1.tk
    refine aL (Nat.le_succ_of_le I1.toHR.tk1) (SC.replace (Nat.ne_of_gt (Nat.lt_of_lt_of_le htz I1.tk)) (Nat.succ_ne_zero _) (Nat.ne_of_lt (Nat.lt_succ_self _)) hyz ?_ fun t' k tk=>Dn.at x1 I1 e1 (.tok fun _ _ _=>⟨_,rfl⟩) tk)
    have:=Nat.mul_le_mul (show x.length+1≤10001 by omega) c.2.1
    omega
   ·rw [if_neg c] at e1;exact absurd e1 nb
 | _=>exact absurd e1 nb
theorem ux {y:Str} {j1:Nat} {p1:Pos} (ha:LE X eo a) (base:attributeBase eo "split" X.env (eval eo X.env)=eval eo X.env) (line:(apos.endLine == cpos.line)=true):LE X (.Call (.Attribute eo "split" apos) [.Constant (.str y) j1 p1] [] cpos) (.sm (.spl y) a):=fun br z I nb=>by
 refine wpAny_Call_method base rfl line PySem.F.plainAttrs_str PySem.F.slot_str_split PySem.F.type_str_split ((ha true).go .refl I rfl nb fun z1 x u y1 x1 I1 r1 e1=>?_)
 cases x with
 | str x=>
   obtain ⟨t,rfl⟩:=(r1.rb.cr0 I1:RD X.W z1.ρ z1.G (.str x) u)
   refine ⟨typeIs_str _ _ _,(fun _ e=>nomatch e),?_⟩
   show wpAny _ _ (callWith _ _ _ [(false,eval (.Constant (.str y) j1 p1) X.env)] []) _ _ _
   refine Calls.callWith_builtin rfl (Calls.evalArgs_plain (Calls.spliced_cons (Calls.Constant_str (Calls.spliced_nil ?_))))
   have e1:X.ev br (.sm (.spl y) a) z.t=Out.of z1.t (if x.length≤60000∧y.length=1 then some (.lst ((Txt.split x y).map .str)) else none):=e1
   by_cases c:x.length≤60000∧y.length=1
   ·rw [if_pos c] at e1
    have h1:=StrLaws.occ_length_le x y 0 x.length (x.length+1)
    have sl:(65536:Nat)≤sizeLine:=by rw [sizeLine_eq];decide
    refine aL I1.toHR.tk1 (pc (by rw [c.2];rfl) (by omega) (by rw [length_partsBetween];omega) fun l k hl tk=>Dn.at x1 I1 e1 ?_ tk)
    have hz:(strValues l).length≤sizeLine:=by
     have e2:(strValues l).length=(Txt.split x y).length:=by rw [← hl,List.length_map];exact (fw (W:=X.W) (ρ:=z1.ρ) (G:=z1.G) l).len ▸ by rw [List.length_map,List.length_map]
     have e3:(Txt.split x y).length≤x.length+2:=by
      unfold Txt.split
      split
      ·simp
      ·split
       ·simp
       ·rw [length_partsBetween];omega
     omega
    have d:Dw X z1 (.lst ((Txt.split x y).map .str)) (.ref z1.s.heap.objs.size) { z1.s with heap:=z1.s.heap.push { cls:=.type "list",data:=.seq (strValues l).toArray },toks:=k }:=.lstn (hl ▸ fw l) hz
    exact d.dn I1
   ·rw [if_neg c] at e1;exact absurd e1 nb
 | _=>exact absurd e1 nb
theorem uj (ha:LE X eo a) (base:attributeBase eo "isdigit" X.env (eval eo X.env)=eval eo X.env) (line:(apos.endLine == cpos.line)=true):LE X (.Call (.Attribute eo "isdigit" apos) [] [] cpos) (.sm .dig a):=fun br z I nb=>by
 refine wpAny_Call_method base rfl line PySem.F.plainAttrs_str PySem.F.slot_str_isdigit PySem.F.type_str_isdigit ((ha true).go .refl I rfl nb fun z1 x u y1 x1 I1 r1 e1=>?_)
 cases x with
 | str x=>
   obtain ⟨t,rfl⟩:=(r1.rb.cr0 I1:RD X.W z1.ρ z1.G (.str x) u)
   refine ⟨typeIs_str _ _ _,(fun _ e=>nomatch e),?_⟩
   refine Calls.callWith_builtin rfl (PyProof.Rows.evalArgs_nil3 ?_)
   exact call_gives PySem.F.slot_str_isdigit (typeIs_str _ _ _) PySem.F.entry_str_isdigit (PySem.F.args_str_isdigit_1 _) (gives_str_isdigit x t) (Dn.at x1 I1 e1 (.old I1 .refl rfl))
 | _=>exact absurd e1 nb
theorem uy {y:Str} {j1:Nat} {p1:Pos} (ha:LE X eo a) (base:attributeBase eo "startswith" X.env (eval eo X.env)=eval eo X.env) (line:(apos.endLine == cpos.line)=true):LE X (.Call (.Attribute eo "startswith" apos) [.Constant (.str y) j1 p1] [] cpos) (.sm (.sta y) a):=fun br z I nb=>by
 refine wpAny_Call_method base rfl line PySem.F.plainAttrs_str PySem.F.slot_str_startswith PySem.F.type_str_startswith ((ha true).go .refl I rfl nb fun z1 x u y1 x1 I1 r1 e1=>?_)
 cases x with
 | str x=>
   obtain ⟨t,rfl⟩:=(r1.rb.cr0 I1:RD X.W z1.ρ z1.G (.str x) u)
   refine ⟨typeIs_str _ _ _,(fun _ e=>nomatch e),?_⟩
   show wpAny _ _ (callWith _ _ _ [(false,eval (.Constant (.str y) j1 p1) X.env)] []) _ _ _
   refine Calls.callWith_builtin rfl (Calls.evalArgs_plain (Calls.spliced_cons (Calls.Constant_str (Calls.spliced_nil ?_))))
   exact call_gives PySem.F.slot_str_startswith (typeIs_str _ _ _) PySem.F.entry_str_startswith (PySem.F.args_str_startswith_2 _ _) (gives_str_startswith x y _ _) (Dn.at x1 I1 e1 (.old I1 .tok rfl))
 | _=>exact absurd e1 nb
theorem qO {y:Str} {j1:Nat} {p1 pos:Pos} (ha:LE X eo a):LE X (.BinOp (.Constant (.str y) j1 p1) .Mult eo pos) (.sm (.mulc y) a):=fun br z I nb=>by
 have g:Gr z.s { z.s with toks:=z.s.toks+1 }:=.tok
 refine wpAny_BinOp (Calls.Constant_str ((ha true).go (z:=z) (z1:={ z with s:={ z.s with toks:=z.s.toks+1 } }) (am I.gh g).ee (I.grow (am I.gh g)) rfl nb fun z2 x v y2 x2 I2 r2 e2=>?_))
 cases x with
 | int n=>
   obtain ⟨t,rfl⟩:=(r2.rb.cr0 I2:RD X.W z2.ρ z2.G (.int n) v)
   have e2:X.ev br (.sm (.mulc y) a) z.t=Out.of z2.t (if -1000000≤n∧n≤10000∧y.length≤10 then some (.str (Txt.mul y n)) else none):=e2
   by_cases c:-1000000≤n∧n≤10000∧y.length≤10
   ·rw [if_pos c] at e2
    refine aL I2.tk (SB.mul ⟨by simp;omega,fun h1 _=>?_,fun h1 _=>?_⟩ fun t' k tk=>Dn.at x2 I2 e2 (.tok fun _ _ _=>⟨_,rfl⟩) tk)
    ·have:(10:Int)≤(2 ^ 63 - 1) / n:=(Int.le_ediv_iff_mul_le (by omega)).mpr (by omega)
     omega
    ·have e3:y.length * n.toNat≤10 * 10000:=Nat.mul_le_mul c.2.2 (by omega)
     unfold Builtin.Str.tooLong
     rw [sizeLine_eq]
     exact decide_eq_false (by omega)
   ·rw [if_neg c] at e2;exact absurd e2 nb
 | _=>exact absurd e2 nb
theorem Rep.stwe {s':Shared} {n:Nat} {o':O} {p:Addr×Addr} {e:Addr} (I:Rep X z) (ep:z.ρ[n]? = some p) (he:e=p.1∨e=p.2) (sb:∀ b,b≠e→s'.heap.get? b=z.h b) (r:ObR X.W z.ρ z.G s'.heap.get? p o') (os:s'.os=z.s.os) (gs:s'.gens=z.s.gens) (tk:X.tz≤s'.toks) :
 Rep X { z with t:=⟨z.t.env,z.t.ow,z.t.st.set n o'⟩,s:=s' }∧Ee X z { z with t:=⟨z.t.env,z.t.ow,z.t.st.set n o'⟩,s:=s' }:=by
 have mu:Mu z.ρ e:=⟨p,List.mem_of_getElem? ep,he⟩
 obtain ⟨I',g'⟩:=I.stw ep he sb r os gs tk
 have k:∀ b o,z.h b=some o→¬ Mu z.ρ b→s'.heap.get? b=some o:=fun b o w q=>(sb b fun z=>q (z ▸ mu)).trans w
 exact ⟨I',⟨List.prefix_refl _,.refl _,fun _ _ w=>.inl w,fun _ m=>.inl m,g'.st.th,fun b o w q _ _=>k b o w q,fun b o w q _ _=>⟨o.slots,k b o w q⟩⟩,rfl,rfl,fun _ m=>m⟩
theorem uw (ha:LE X eo a) (base:attributeBase eo "pop" X.env (eval eo X.env)=eval eo X.env) (line:(apos.endLine == cpos.line)=true):LE X (.Call (.Attribute eo "pop" apos) [] [] cpos) (.pop a):=fun br z I nb=>by
 refine wpAny_Call_method base rfl line PySem.F.plainAttrs_list PySem.F.slot_list_pop PySem.F.type_list_pop ((ha true).go .refl I rfl nb fun z1 x u y1 x1 I1 r1 e1=>?_)
 cases x with
 | ref n=>
   obtain ⟨p,ep,rfl⟩:=(r1.rb.cr0 I1:RD X.W z1.ρ z1.G (.ref n) u)
   have e1:X.ev br (.pop a) z.t=(match z1.t.st[n]? with
    | some (.lst l)=>(match l.getLast? with | some d=>.ok d ⟨z1.t.env,z1.t.ow,z1.t.st.set n (.lst l.dropLast)⟩ | none=>.bad)
    | _=>.bad):=e1
   cases q:z1.t.st[n]? with
   | none=>rw [q] at e1;exact absurd e1 nb
   | some ob=>
     rw [q] at e1
     cases ob with
     | lst l=>
       dsimp only at e1
       cases q2:l.getLast? with
       | none=>rw [q2] at e1;exact absurd e1 nb
       | some d=>
         rw [q2] at e1
         obtain ⟨o,vs,hp2,ho,⟨⟨k,rfl⟩,hz⟩,rl⟩:=I1.ob n _ p q ep
         refine ⟨⟨_,ho,rfl⟩,fun b q=>(by cases q;exact ⟨_,ho,rfl⟩),?_⟩
         refine Calls.callWith_builtin rfl (PyProof.Rows.evalArgs_nil3 ?_)
         have hl:l[l.length - 1]? = some d:=by rw [← List.getLast?_eq_getElem?];exact q2
         obtain ⟨v,hv,rv⟩:=rl.get hl
         have len:=rl.len
         have pos:l.length - 1<l.length:=(List.getElem?_eq_some_iff.mp hl).1
         have hv':vs.toArray[vs.toArray.size - 1]? = some v:=by simp only [List.size_toArray,List.getElem?_toArray];rw [← len];exact hv
         refine call_meets PySem.F.slot_list_pop ⟨_,ho,rfl⟩ PySem.F.entry_list_pop (PySem.F.args_list_pop_1 _) (PySem.MeetsSeq.list_pop_last p.1 vs.toArray k v hv' (by rw [List.size_toArray];exact hz)) ⟨ho,?_⟩
         have hf:(vs.toArray.eraseIdxIfInBounds (vs.toArray.size - 1))=vs.dropLast.toArray:=by
          have:vs.toArray.size - 1<vs.toArray.size:=by simp;omega
          simp only [Array.eraseIdxIfInBounds,this,dite_true]
          apply Array.ext'
          rw [Array.toList_eraseIdx]
          simp only [List.size_toArray]
          rw [List.eraseIdx_eq_take_drop_succ,List.dropLast_eq_take,List.drop_eq_nil_of_le (by omega),List.append_nil]
         obtain ⟨⟨o1,u1,u3⟩,u2⟩:=cW (f:=fun xs=>xs.eraseIdxIfInBounds (vs.toArray.size - 1)) (ws:=vs.dropLast) ho hf (by rw [List.length_dropLast];omega)
         obtain ⟨I3,g3⟩:=I1.stwe (s':={ z1.s with heap:=z1.s.heap.update p.1 (Obj.mapSeq fun xs=>xs.eraseIdxIfInBounds (vs.toArray.size - 1)) }) (o':=.lst l.dropLast) ep (.inl rfl) u2 ⟨o1,vs.dropLast,hp2,u1,u3,by rw [List.dropLast_eq_take,List.dropLast_eq_take,← len];exact rl.take _⟩ rfl rfl I1.tk
         exact ⟨_,d,rfl,e1,x1.trans g3,I3,.of rv⟩
     | _=>exact absurd e1 nb
 | _=>exact absurd e1 nb
end
section
variable {X:Cx} {z z1:Z} {tg:Expr}
theorem uG (hc:X.calm=true) (hx:Blt X "reversed" (.type "reversed")) (ha:LE X ea a) (he:starEach [ea] X.env=(false,eval ea X.env) :: starEach [] X.env):LI X tg (.Call (.Name "reversed" p) [ea] [] pos) (.it .rev (.cons a .nil)):=fun z I nb=>
 aG (Q:=fun v s1=>wpAny X.M X.A (pyIter v) (FI X z tg (X.ev false (.it .rev (.cons a .nil)) z.t)) NoE s1) (.inr ⟨_,rfl⟩) hx he rfl I (Calls.spliced_cons ((ha false).go .refl I (ev1 fun l s=>Out.of s ((itD .rev l).map D.lst)) nb fun z1 x u y1 x1 I1 r1 e1=>Calls.spliced_nil (by
  cases x with
  | lst l=>
    obtain ⟨a0,o,vs,rfl,g,⟨⟨n,rfl⟩,hz⟩,r⟩:=r1.rd
    have gl:z1.s.heap.IsList a0 vs.toArray:=⟨_,I1.gh _ _ g,rfl,n,rfl⟩
    have ne:=kB I1 g
    refine call_reversed_list gl ?_
    have gi:(z1.s.heap.push (revObj a0 ((vs.toArray.size:Int) - 1))).IsRevIter z1.s.heap.objs.size a0 ((vs.toArray.size:Int) - 1):=⟨_,Heap.get?_push_size _ rfl,rfl,rfl⟩
    refine wpAny_pyIter_revIter gi (eP (ds:=l.reverse) (wr:=[z1.s.heap.objs.size]) x1 I1 (.push (t:=z1.s.toks)) (Itr.walks (I1.hd hc) (by simp [r.len]) (fun A hA=>Walks.listRev hA _ a0 ne vs.toArray) (fun i h st b hb=>by rw [List.mem_singleton.mp hb];obtain ⟨_,⟨o,e,_⟩,_⟩:=st;exact ⟨o,e⟩) (fun st q=>let ⟨_,⟨o,e,c,d⟩,_⟩:=st;gv e c d (by decide) q) fun i v d p1 p2 ρ' G' h1 h2=>?_) ⟨Nat.zero_le _,by simpa using gi,gl.at fun o e=>Heap.get?_push_of_some _ e⟩ (fun b hb=>?_) e1)
    ·obtain ⟨v',w1,w2⟩:=(r.rev.mono h1 h2).get p2
     have w1:vs.reverse[i]? = some v':=w1
     have hi:i<vs.length:=by have:=(List.getElem?_eq_some_iff.mp w1).1;simpa using this
     rw [List.getElem?_reverse hi] at w1
     have p1:vs[vs.length - 1 - i]? = some v:=by simpa using p1
     rw [p1] at w1;cases w1;exact w2
    ·rcases List.mem_cons.mp hb with w | w
     ·rw [w];exact .inl ⟨aB z1,_,Heap.get?_push_size _ rfl⟩
     ·rw [List.mem_singleton.mp w];exact .inr ⟨fun m=>ne (List.mem_singleton.mp m),_,g⟩
  | _=>exact absurd e1 nb)))
theorem qZ (ho:LE X eo a) (he:LE X e c) (m:M1 X eo "extend" apos e cpos):LS X (.Expr (.Call (.Attribute eo "extend" apos) [e] [] cpos) pos) (.fext a c):=fun z I nb=>by
 have e0:X.ex (.fext a c) z.t=(X.ev true a z.t).go fun x s=>if d8 s.st x=true then (X.ev false c s).go fun d s=>exO x d s else .bad:=rfl
 refine wpAny_Expr_any (wpAny_Call_method m.base m.few m.line PySem.F.plainAttrs_list PySem.F.slot_list_extend PySem.F.type_list_extend ((ho true).gos .refl I e0 nb fun z1 x u y1 x1 I1 r1 e1=>?_)) I.quiet rfl
 by_cases c0:d8 z1.t.st x=true
 ·rw [if_pos c0] at e1
  obtain ⟨n,l,rfl,en⟩:=ky c0
  obtain ⟨p,ep,rfl⟩:=dP I1 r1.rb
  obtain ⟨o,vs,_,ho,⟨⟨k,rfl⟩,_⟩,_⟩:=I1.ob n _ p en ep
  refine ⟨⟨_,ho,rfl⟩,fun b q=>(by cases q;exact ⟨_,ho,rfl⟩),?_⟩
  rw [m.trees]
  refine Calls.callWith_builtin rfl (Calls.evalArgs_plain (Calls.spliced_cons ((he false).gos x1 I1 e1 nb fun z2 d w y2 x2 I2 r2 e2=>Calls.spliced_nil ?_)))
  have e2:X.ex (.fext a c) z.t=exO (.ref n) d z2.t:=e2
  unfold exO at e2
  dsimp only at e2
  cases q:z2.t.st[n]? with
  | none=>rw [q] at e2;exact absurd e2 nb
  | some ob=>
    rw [q] at e2
    cases ob with
    | lst l2=>
      cases d with
      | lst xs=>
        dsimp only at e2
        by_cases c2:l2.length+xs.length≤100000
        ·rw [if_pos c2] at e2
         have ep2:=dE y2.st.pr ep
         obtain ⟨o,vs,hp2,ho,⟨⟨k,rfl⟩,_⟩,rl⟩:=I2.ob n _ p q ep2
         obtain ⟨b,o,us,rfl,g,⟨⟨n2,rfl⟩,hz2⟩,rx⟩:=r2.rd
         have l1:=rl.len
         have l3:=rx.len
         have hz:vs.toArray.size+us.toArray.size≤sizeLine:=by simp only [List.size_toArray];exact big (by omega)
         refine call_meets PySem.F.slot_list_extend ⟨_,ho,rfl⟩ PySem.F.entry_list_extend (PySem.F.args_list_extend_2 _ _) (AutoSeq1.list_extend_list_list_0 p.1 vs.toArray k b us.toArray n2 ?_ (by omega) (by omega)) ⟨ho,I2.gh _ _ g,?_⟩
         ·rw [show Builtin.List.listTooLong (vs.toArray.size+us.toArray.size)=false from decide_eq_false (Nat.not_lt.mpr hz),Bool.and_false];exact fun h=>nomatch h
         obtain ⟨⟨o1,u1,u3⟩,u2⟩:=cW (f:=(· ++ us.toArray)) (ws:=vs ++ us) ho (by simp) (by rw [List.length_append];simpa using hz)
         obtain ⟨I3,g3⟩:=I2.stw (s':={ z2.s with heap:=z2.s.heap.update p.1 (Obj.mapSeq (· ++ us.toArray)) }) (o':=.lst (l2 ++ xs)) ep2 (.inl rfl) u2 ⟨o1,vs ++ us,hp2,u1,u3,rl.app rx⟩ rfl rfl
         exact nxt (x2.trans g3) I3 e2
        ·rw [if_neg c2] at e2;exact absurd e2 nb
      | _=>exact absurd e2 nb
    | _=>cases d <;> exact absurd e2 nb
 ·rw [if_neg c0] at e1;exact absurd e1 nb
def tC (X:Cx):Prop:=∀ (c:Nat) (k:Cl) (ic:CI),X.Γ.cl[c]? = some k→X.W.ci[c]? = some ic→X.W.what[c]? = some 2→PySem.W.mroIn X.K ic.ad (.type "ValueError")=some (k.sup.contains 1000)
theorem qJ {an:Nat→Str} (T:bt X an) (hx:Blt X "isinstance" (.builtin "isinstance")) (ht:Blt X "ValueError" (.type "ValueError")) (V:tC X) (ha:LE X ea a) (he:starEach [ea,.Name "ValueError" q] X.env=(false,eval ea X.env) :: starEach [.Name "ValueError" q] X.env):LE X (.Call (.Name "isinstance" p) [ea,.Name "ValueError" q] [] pos) (.isXv a):=fun br z I nb=>by
 exact aG (.inl ⟨_,rfl⟩) hx he rfl I (Calls.spliced_cons ((ha true).go .refl I rfl nb fun z1 x u y1 x1 I1 r1 e1=>Calls.spliced_cons (ht.ld I1 (Calls.spliced_nil (b7 x1 I1 e1 nb fun d q=>by
  have cr:=r1.rb.cr0 I1
  cases x with
  | ins c l=>
    obtain ⟨a,i,vs,rfl,hc,hl,w,rs⟩:=(cr:RD X.W z1.ρ z1.G (.ins c l) u)
    have q:(if d3 X.Γ c=true then (X.Γ.cl[c]?).map fun k=>D.bl (k.sup.contains 1000) else none)=some d:=q
    split at q
    ·rename_i hw
     obtain ⟨k,i',e1,ok,w2⟩:=iA T hw
     have e3:=ok.ci
     rw [hc] at e3;cases e3
     rw [e1] at q
     cases q
     have wc:=ok.wh
     rw [w2] at wc
     have K1:kitOne X.K (.ref i.ad) (.type "ValueError")=some (k.sup.contains 1000):=by
      unfold kitOne
      rw [if_neg (by simp)]
      exact V c k i e1 hc wc
     have J:∃ o od,InstAt z1.s.heap a o i.ad od:=by
      rcases w with ⟨w1,_⟩ | ⟨_,w⟩
      ·rw [wc] at w1;cases w1
      ·obtain ⟨o,vs,g1,g2,g3,g4⟩:=w.sub I1.gh
       rcases g4 with ⟨_,g5⟩ | ⟨d,od,g5,g6,g7⟩
       ·exact ⟨o,none,g1,g2,by unfold notCls;rw [g3],by rw [g5];trivial⟩
       ·exact ⟨o,some od,g1,g2,by unfold notCls;rw [g3],by rw [g5];exact g6⟩
     exact kia_one (gC (ok.xc w2).1) I1.toHR.kin J K1 (fun z=>nomatch z) fun tk=>.old I1 .tok rfl
    ·cases q
  | _=>cases q)))))
end
end L2.Ev
end
section
namespace L2.Ev
def cA (nm:NK) (x:Str):Bool:=match nm.lookup x with
 | some .local=>true
 | some .cell=>true
 | some .free=>true
 | _=>false
def bb (nm:NK) (x:Str):Bool:=nm.lookup x == some .globalImplicit
def aR:Expr→Bool
 | .Call (.Name id _) [] [] _=>id != "super"
 | _=>true
theorem af (h:ay e=true):starEach (e :: es) env=(false,eval e env) :: starEach es env:=by
 cases e <;> first | rfl | cases h
theorem fq (h:ay e=true):gL e:=by
 cases e <;> first | (intro o i;rfl) | cases h
theorem dj (h:ay e=true):behindInMarks op e=false:=by
 cases e <;> first | rfl | cases h
theorem gu (h:ay e=true):∀ x,foldedSetIterable e env x=pure x:=by
 cases e <;> first | (intro x;rfl) | cases h
theorem bj (h:∀ e∈es,ay e=true):(backTo pos (starEach es env)).any (·.1)=false:=by
 induction es with
 | nil=>rfl
 | cons e r ih=>
   rw [af (h e List.mem_cons_self)]
   have:=ih fun x hx=>h x (List.mem_cons_of_mem _ hx)
   show (false || (backTo pos (starEach r env)).any (·.1))=false
   rw [this];rfl
theorem bg {X:Cx} (hs:X.env.scope.names=nm) (h:cA nm x=true):Vis X.env.scope x:=by
 unfold cA at h
 unfold Vis
 rw [hs]
 split at h <;> first | (rename_i q;exact .inl q) | (rename_i q;exact .inr (.inl q)) | (rename_i q;exact .inr (.inr q)) | cases h
theorem aP (hs:X.env.scope.names=nm) (h:bb nm x=true):Gl X x:=by
 unfold bb at h
 show X.env.scope.names.lookup x=_
 rw [hs]
 simpa using h
structure Ns where
 gl:List Str
 tb:List Str
 fn:List Str
 at_:List Str
 bl:List Str
 rf:List Str:=[]
 me:List (Str×Nat×Nat):=[]
 ex:List Str:=[]
 nw:List Str:=[]
 mu:List Str:=[]
 nd:List Str:=[]
 hx:List Str:=[]
 hc:List Str:=[]
 xt:List Str:=[]
 kp:List Str:=[]
 alt:List (Str×Nat):=[]
 dn:List (Str×Nat×Nat):=[]
 fc:List Str:=[]
 oc:List Str:=[]
 e2:Bool:=false
 rl:List Str:=[]
 sn:List Str:=[]
 vx:Bool:=false
def Ns.an (T:Ns) (f:Nat):Str:=T.at_.getD f ""
abbrev Cx.to (X:Cx) (A:Around) (fr:List Env) (N:List Str) (e:Env) (cal cal1:Nat→List D→List O→Res):Cx:={ X with A:=A,fr:=fr,N:=N,env:=e,cal:=cal,cal1:=cal1 }
theorem HR.to {X:Cx} {A:Around} {fr:List Env} {N1 N2:List Str} {e1 e2:Env} {c1 c2 d1 d2:Nat→List D→List O→Res} (I:HR (X.to A fr N1 e1 c1 d1) z):HR (X.to A fr N2 e2 c2 d2) z:=⟨I.md,I.fm,I.hd,I.bs,I.gh,I.rl,I.rn,I.rg,I.ob,I.fu,I.ff,I.br,I.os,I.tk⟩
theorem FnC.to {X:Cx} {A:Around} {fr:List Env} {N:List Str} {e:Env} {c1 d1:Nat→List D→List O→Res} (h:FnC X cal lv j f fd ps dvs):FnC (X.to A fr N e c1 d1) cal lv j f fd ps dvs:=⟨h.len,fun A2 fr2 z args us ds r I b rd nb=>codeAny_mono (h.run A2 fr2 z args us ds r (HR.to (X:=X) (N1:=N) (e1:=e) (c1:=c1) (d1:=d1) I) b rd nb) fun q s' hq=>by
 cases q with
 | error x=>obtain ⟨z',c,l,a1,a2,a3,a4,a5⟩:=hq;exact ⟨z',c,l,a1,a2,a3,HR.to (X:=X) a4,a5⟩
 | ok fl=>cases fl with
   | ret u=>obtain ⟨z',d,a1,a2,a3,a4,a5⟩:=hq;exact ⟨z',d,a1,a2,a3,HR.to (X:=X) a4,a5⟩
   | _=>exact hq.elim⟩
theorem bB.to {X:Cx} {A:Around} {fr:List Env} {N:List Str} {e:Env} {c1 d1:Nat→List D→List O→Res} (h:bB X cal lv j f):bB (X.to A fr N e c1 d1) cal lv j f:=let ⟨fd,ps,dvs,a,b,c⟩:=h;⟨fd,ps,dvs,a.to,b,c⟩
theorem FnI.to {X:Cx} {A:Around} {fr:List Env} {N:List Str} {e:Env} {c1 d1:Nat→List D→List O→Res} (h:FnI X lv f fd ps nm ck):FnI (X.to A fr N e c1 d1) lv f fd ps nm ck:=⟨h.len,fun A2 fr2 z args us p P ch r I b lu H hB hP hc=>h.run A2 fr2 z args us p P ch r (HR.to (X:=X) (N1:=N) (e1:=e) (c1:=c1) (d1:=d1) I) b lu ⟨H.ex,H.keep,H.set⟩ hB hP hc⟩
theorem FnJ.to {X:Cx} {A:Around} {fr:List Env} {N:List Str} {e:Env} {c1 d1:Nat→List D→List O→Res} (h:FnJ X lv f fd ps nm k C):FnJ (X.to A fr N e c1 d1) lv f fd ps nm k C:=let ⟨ck,a,b⟩:=h;⟨ck,a.to,b⟩
structure CxOk (T:Ns) (X:Cx) (nm:NK) (N:List Str):Prop where
 hN:X.N=N
 nd:N.Nodup
 sc:X.env.scope.names=nm
 kd:X.env.scope.kind = .function
 calm:X.calm=true
 fns:∀ (j:Nat) (x:Str),T.fn[j]? = some x→∃ k f,bB X X.cal k j f∧aW k X.A∧X.mg x=some (.ref f)
 gls:∀ (j:Nat) (x:Str),T.gl[j]? = some x→∃ d u,X.Γ.gl[j]? = some d∧X.mg x=some u∧aJ X.K d u=true
 tbs:∀ (j:Nat) (x:Str),T.tb[j]? = some x→∃ t a,X.Γ.tb[j]? = some t∧X.mg x=some (.ref a)∧TbL X a t
 blt:∀ x∈T.bl,X.mg x=none
 cls:bt X T.an
 mts:∀ q∈T.me,∃ k f,bB X X.cal k q.2.2 f∧aW k X.A∧lr X T.an q.1 q.2.1 f
 nws:∀ (j:Nat) (x:Str),T.nw[j]? = some x→x≠""→∃ n f i cl,bB X X.cal1 n cl.init f∧aW (n+1) X.A∧Mk X.K i.ad f∧X.Γ.cl[j]? = some cl∧cl.what=0∧X.W.ci[j]? = some i∧X.W.what[j]? = some 0∧X.mg x=some (.ref i.ad)
 nds:∀ (j:Nat) (x:Str),T.nd[j]? = some x→x≠""→∃ n f fd ps i cl,FnI X n f fd ps i.nm none∧bI X.K fd ps []∧aW (n+1) X.A∧Mk X.K i.ad f∧Cls X.K i.ad∧(∀ f∈i.nm,cG X.K i.ad f)∧X.Γ.cl[j]? = some cl∧X.W.ci[j]? = some i∧X.W.what[j]? = some 1∧i.nm.length=cl.at_.length∧X.mg x=some (.ref i.ad)
 hxs:∀ (j:Nat) (x:Str),T.hx[j]? = some x→x≠""→ll X j x
 fr:iC X
 vxs:T.vx=true→tC X
abbrev GE (T:Ns) (nm:NK) (N:List Str) (e:Expr):={c:E // ∀ X,CxOk T X nm N→LE X e c∧(fresh c=true→LF X e c)}
abbrev GT (T:Ns) (nm:NK) (N:List Str) (e:Expr):={c:E // ∀ X,CxOk T X nm N→LT X e c}
abbrev GW (T:Ns) (nm:NK) (N:List Str) (e:Expr):={c:E // ∀ X,CxOk T X nm N→LW X e c}
abbrev GA (T:Ns) (nm:NK) (N:List Str) (es:List Expr):={c:E // ∀ X,CxOk T X nm N→LA X es c}
abbrev GO (T:Ns) (nm:NK) (N:List Str) (e:Option Expr):={c:E // ∀ X,CxOk T X nm N→LO X e c}
abbrev GI (T:Ns) (nm:NK) (N:List Str) (tg e:Expr):={c:E // ∀ X,CxOk T X nm N→LI X tg e c}
abbrev au (T:Ns):=∀ nm N e,Option (GE T nm N e)
abbrev fH (T:Ns):=∀ nm N e,Option (GT T nm N e)
theorem mk (h:LE X e c) (n:fresh c=false:=by rfl):LE X e c∧(fresh c=true→LF X e c):=⟨h,fun q=>by rw [n] at q;cases q⟩
theorem mkf (h:LF X e c) (hb:∀ br,X.ev br c=X.ev false c:=by intro _;rfl):LE X e c∧(fresh c=true→LF X e c):=⟨h.le hb,fun _=>h⟩
def yes (b:Bool):Option (PLift (b=true)):=match b with | true=>some ⟨rfl⟩ | false=>none
def no (b:Bool):Option (PLift (b=false)):=match b with | false=>some ⟨rfl⟩ | true=>none
def aD (x:Str):(l:List Str)→Option {i:Nat // l[i]? = some x}
 | []=>none
 | y :: r=>match h:y == x with
   | true=>some ⟨0,by rw [List.getElem?_cons_zero];congr;simpa using h⟩
   | false=>(aD x r).map fun i=>⟨i.1+1,by rw [List.getElem?_cons_succ];exact i.2⟩
def dnA (x:Str) (n:Nat) (l:List (Str×Nat×Nat)):List (Str×Nat):=match l.lookup x with
 | some q=>if n=q.1 then [(x,q.2)] else []
 | none=>[]
def xI (x:Str) (al:List (Str×Nat)) (l:List Str):Option {i:Nat // l[i]? = some x}:=match al.lookup x with
 | some j=>(match h:l[j]? with
   | some y=>(match h2:y == x with
     | true=>some ⟨j,by rw [h];congr;simpa using h2⟩
     | false=>none)
   | none=>none)
 | none=>aD x l
def lR (x:Str):(l:List Str)→Option (PLift (x∈l))
 | []=>none
 | y :: r=>match h:y == x with
   | true=>some ⟨by have:y=x:=by simpa using h
                    rw [this];exact List.mem_cons_self⟩
   | false=>(lR x r).map fun i=>⟨List.mem_cons_of_mem _ i.down⟩
section
variable {T:Ns} {nm:NK} {N:List Str}
def vM (T:Ns) (nm:NK) (N:List Str) (x:Str) (pos:Pos):Option (GE T nm N (.Name x pos)):=do
 let hd ← no (x == ("__debug__":Str))
 let hc ← no (x == ("__classdict__":Str))
 match hl:cA nm x with
 | true=>
   let i ← aD x N
   some ⟨.v i.1,fun X k=>mk (qR (by rw [k.hN];exact i.2) (bg k.sc hl) hd.down hc.down)⟩
 | false=>
   let hg ← yes (bb nm x)
   let j ← aD x T.gl
   some ⟨.g j.1,fun X k=>by
    obtain ⟨d,u,h1,h2,h3⟩:=k.gls j.1 x j.2
    exact mk (yy (aP k.sc hg.down) h2 hd.down h1 h3)⟩
def tH (T:Ns) (nm:NK) (N:List Str) (c:Const) (j:Nat) (pos:Pos):Option (GE T nm N (.Constant c j pos)):=match c with
 | .none=>some ⟨.c .non,fun X k=>mk sF⟩
 | .bool b=>some ⟨.c (.bl b),fun X k=>mk v7⟩
 | .int i=>some ⟨.c (.int i),fun X k=>mk sE⟩
 | .str x=>some ⟨.c (.str x),fun X k=>mk sG⟩
 | _=>none
def opP (op:Operator):Option {o:Op // ∀ X:Cx,Op2 X (binaryOp op) (opD o)}:=match op with
 | .Add=>some ⟨.add,fun X=>u9⟩
 | .Sub=>some ⟨.sub,fun X=>vc⟩
 | .Mult=>some ⟨.mul,fun X=>vb⟩
 | .FloorDiv=>some ⟨.fdiv,fun X=>rH⟩
 | .Mod=>some ⟨.mod,fun X=>va⟩
 | _=>none
def v8 (op:CmpOp):Option {o:Op // ∀ X:Cx,Op2 X (compareOp op) (opD o)}:=match op with
 | .Eq=>some ⟨.eq,fun X=>xi⟩
 | .NotEq=>some ⟨.ne,fun X=>xn⟩
 | .Lt=>some ⟨.lt,fun X=>xm⟩
 | .LtE=>some ⟨.le,fun X=>xl⟩
 | .Gt=>some ⟨.gt,fun X=>xj⟩
 | .In=>some ⟨.isin,fun X=>xk⟩
 | .NotIn=>some ⟨.notin,fun X=>oU⟩
 | _=>none
def dz (f:∀ e,Option (GE T nm N e)):(es:List Expr)→Option (GA T nm N es)
 | []=>some ⟨.nil,fun _ _=>nJ⟩
 | e :: r=>do
   let h ← yes (ay e)
   let a ← f e
   let b ← dz f r
   some ⟨.cons a.1 b.1,fun X k=>kH (a.2 X k).1 (b.2 X k) (af h.down)⟩
def sk (f:∀ e,Option (GE T nm N e)) (pos:Pos):(es:List Expr)→Option {c:E // ∀ X,CxOk T X nm N→LE X (.BoolOp .And es pos) c}
 | []=>none
 | [a]=>(f a).map fun x=>⟨x.1,fun X k=>(x.2 X k).1⟩
 | a :: b :: r=>do
   let x ← f a
   let y ← sk f pos (b :: r)
   some ⟨.and x.1 y.1,fun X k=>ue (x.2 X k).1 (y.2 X k)⟩
def vR (f:∀ e,Option (GE T nm N e)) (pos:Pos):(es:List Expr)→Option {c:E // ∀ X,CxOk T X nm N→LE X (.BoolOp .Or es pos) c}
 | []=>none
 | [a]=>(f a).map fun x=>⟨x.1,fun X k=>(x.2 X k).1⟩
 | a :: b :: r=>do
   let x ← f a
   let y ← vR f pos (b :: r)
   some ⟨.or x.1 y.1,fun X k=>wR (x.2 X k).1 (y.2 X k)⟩
def sj (g:∀ e,Option (GT T nm N e)) (pos:Pos):(es:List Expr)→Option (GW T nm N (.BoolOp .And es pos))
 | []=>none
 | [a]=>(g a).map fun x=>⟨x.1,fun X k=>rB (x.2 X k)⟩
 | a :: b :: r=>do
   let x ← g a
   let y ← sj g pos (b :: r)
   some ⟨.tand x.1 y.1,fun X k=>uS (x.2 X k) (y.2 X k)⟩
def vQ (g:∀ e,Option (GT T nm N e)) (pos:Pos):(es:List Expr)→Option (GW T nm N (.BoolOp .Or es pos))
 | []=>none
 | [a]=>(g a).map fun x=>⟨x.1,fun X k=>uT (x.2 X k)⟩
 | a :: b :: r=>do
   let x ← g a
   let y ← vQ g pos (b :: r)
   some ⟨.tor x.1 y.1,fun X k=>wX (x.2 X k) (y.2 X k)⟩
def vP (f:∀ e,Option (GE T nm N e)):(o:Option Expr)→Option (GO T nm N o)
 | none=>some ⟨.nil,fun X k=>qV⟩
 | some e=>do
   let a ← f e
   let h ← no (bc a.1)
   some ⟨a.1,fun X k=>qW h.down (a.2 X k).1⟩
end
end L2.Ev
end
section
namespace L2.Ev
open L2.Bw
theorem Draws.sh {prog:Program} {w:World} {A:Around} {it:Addr} {fp:List Addr} {n:Nat} {P:Nat→Value→Prop} {St:Nat→Heap→Prop} (D:Draws prog w A it fp n P St) (m:Nat):Draws prog w A it fp (m+n) (fun i v=>P (i - m) v) (fun i h=>m≤i∧St (i - m) h) where
 live:=fun i h st=>D.live _ h st.2
 frame:=fun i h h' st k=>⟨st.1,D.frame _ _ _ st.2 k⟩
 item:=fun i s Q E hi st hQ=>D.item (i - m) s Q E (by have:=st.1;omega) st.2 fun x h' tk p q sb=>hQ x h' tk p ⟨Nat.le_succ_of_le st.1,by rw [Nat.succ_sub st.1];exact q⟩ sb
 done:=fun s Q E st hE=>D.done s Q E (by have:=st.2;rwa [Nat.add_sub_cancel_left] at this) hE
theorem WalksT.sh {prog:Program} {w:World} {A:Around} {it:Addr} {fp wr:List Addr} {n:Nat} {Pt:Nat→Array Value→Prop} {St:Nat→Heap→Prop} {Mid:Nat→Addr→Heap→Prop} (m:Nat) (V:WalksT prog w A it fp wr (m+n) Pt St Mid):WalksT prog w A it fp wr n (fun i=>Pt (m+i)) (fun i=>St (m+i)) (fun i=>Mid (m+i)) where
 sub:=V.sub
 frame:=fun i=>V.frame (m+i)
 item:=fun i s Q E hi=>V.item (m+i) s Q E (Nat.add_lt_add_left hi m)
 go:=fun elts k pos i=>V.go elts k pos (m+i)
 apart:=fun i=>V.apart (m+i)
 done:=V.done
 self:=fun i=>V.self (m+i)
end L2.Ev
end
section
namespace L2.Bw
section
variable {prog:Program} {w:World} {A:Around} {R:Result→Shared→Prop} {it:Addr} {fp wr:List Addr} {n:Nat} {f:Nat→Int} {Z:Nat→Heap→Prop}
abbrev dS (f:Nat→Int):Nat→Value→Prop:=fun i v=>∃ t,v = .int (f i) t
abbrev cg (f:Nat→Int):Nat→Nat→Bool:=fun i j=>decide (f i>f j)
theorem uU (W:Walks prog w A.in1 it fp wr n (dS f) Z) (kws:List (Str×Value)) (B:Addr) (nB:B ∉ fp) :
 ∀ (k j:Nat) (s:Shared) (u:Value) (c:Nat),n - (j+1)=k→j+1≤n→Z (j+1) s.heap→dS f (argBest (cg f) j) u→s.heap.get? B=some { cls:=.type "list",dict:=none,data:=.seq #[u,u] c,slots:=#[] } →
 (∀ v h1 tk,dS f (argBest (cg f) (n - 1)) v→(∀ b o,b ∉ wr→b≠B→s.heap.get? b=some o→h1.get? b=some o)→R (.ok (.ret v)) { s with heap:=h1,toks:=tk }) →
 codeAny (model prog w) A (.builtin "max.loop" ⟨[.ref it,.none,.ref B],kws⟩) R s:=by
 have nw:B ∉ wr:=fun h=>nB (W.sub _ h)
 have nm:(toString "max" ++ toString ".loop":String) = "max.loop":=by decide
 have cmp:CmpOf prog w A.in1 .Gt (dS f) (cg f):=CmpOf.ints_gt f fun _ _ h=>h
 intro k
 induction k with
 | zero=>
   intro j s u c hk hj hz hu hB hR
   have e:j+1=n:=by omega
   refine codeAny_builtin F.entry_max_loop ?_
   rw [Around.under_plainId F.plain_max_loop _]
   show wpAny _ A.in1 (seqItems? (.ref B) >>= fun _=>_) _ _ s
   refine wpAny_bind (wpAny_seqItems hB rfl ?_)
   show wpAny _ A.in1 (tryCatch (pyNext (.ref it)) _ >>= fun _=>_) _ _ s
   refine wpAny_bind (wpAny_tryCatch (W.done s _ _ (e ▸ hz) fun h1 tk k1=>?_))
   show wpAny _ A.in1 (updateSeq B (fun _=>#[]) >>= fun _=>_) _ _ _
   refine wpAny_bind (wpAny_updateSeq (k1 B _ nw hB) rfl (wpAny_bind (wpAny_letGo (wpAny_pure ?_))))
   exact hR u _ tk (by rw [← e];exact hu) fun b o n1 n2 q=>(Heap.get?_update_other _ _ (Ne.symm n2)).trans (k1 b o n1 q)
 | succ k ih=>
   intro j s u c hk hj hz hu hB hR
   have lt:j+1<n:=by omega
   refine codeAny_builtin F.entry_max_loop ?_
   rw [Around.under_plainId F.plain_max_loop _]
   show wpAny _ A.in1 (seqItems? (.ref B) >>= fun _=>_) _ _ s
   refine wpAny_bind (wpAny_seqItems hB rfl ?_)
   show wpAny _ A.in1 (tryCatch (pyNext (.ref it)) _ >>= fun _=>_) _ _ s
   refine wpAny_bind (wpAny_tryCatch (W.item (j+1) s _ _ lt hz fun v h1 tk hv hz1 k1=>?_))
   have hB1:=k1 B _ nw hB
   show wpAny _ A.in1 (tryCatch (holding [v,v] (richCompare .Gt v u >>= _)) _ >>= fun _=>_) _ _ _
   refine wpAny_bind (wpAny_tryCatch (wpAny_holding (wpAny_bind (cmp (j+1) (argBest (cg f) j) v u _ _ _ hv hu ?_))))
   refine wpAny_bind (wpAny_holding (wpAny_truthy_bool (wpAny_bind (wpAny_letGo (wpAny_pure ?_)))))
   cases hb:cg f (j+1) (argBest (cg f) j) with
   | true=>
     simp only [if_true]
     refine wpAny_bind (wpAny_updateSeq hB1 rfl (wpAny_bind (wpAny_letGo ?_)))
     rw [nm]
     refine wpAny_pure ⟨plainId_quiet F.plain_max_loop _,ih (j+1) _ v _ (by omega) lt (W.frame _ _ _ hz1 fun b hbf o q=>(Heap.get?_update_other _ _ (fun z:B=b=>nB (by rw [z];exact hbf))).trans q) ?_ (Heap.get?_update_self _ hB1 rfl) fun v' h2 tk2 hv' k2=>?_⟩
     ·simp only [argBest,hb,if_true];exact hv
     ·exact hR v' h2 tk2 hv' fun b o n1 n2 q=>k2 b o n1 n2 ((Heap.get?_update_other _ _ (Ne.symm n2)).trans (k1 b o n1 q))
   | false=>
     simp only [Bool.false_eq_true,if_false]
     refine wpAny_bind (wpAny_letGo ?_)
     rw [nm]
     refine wpAny_pure ⟨plainId_quiet F.plain_max_loop _,ih (j+1) _ u c (by omega) lt hz1 ?_ hB1 fun v' h2 tk2 hv' k2=>hR v' h2 tk2 hv' fun b o n1 n2 q=>k2 b o n1 n2 (k1 b o n1 q)⟩
     simp only [argBest,hb,Bool.false_eq_true,if_false];exact hu
theorem ed (f:Nat→Int):∀ k i,i≤k→f i≤f (argBest (cg f) k)
 | 0,i,h=>by cases (show i=0 by omega);exact Int.le_refl _
 | k+1,i,h=>by
   unfold argBest
   cases hb:cg f (k+1) (argBest (cg f) k) with
   | true=>
     have hb':f (k+1)>f (argBest (cg f) k):=of_decide_eq_true hb
     simp only [if_true]
     by_cases e:i=k+1
     ·rw [e];exact Int.le_refl _
     ·have:=ed f k i (by omega);omega
   | false=>
     have hb':¬ f (k+1)>f (argBest (cg f) k):=of_decide_eq_false hb
     simp only [Bool.false_eq_true,if_false]
     by_cases e:i=k+1
     ·rw [e];omega
     ·exact ed f k i (by omega)
theorem gP (f:Nat→Int):∀ k,argBest (cg f) k≤k
 | 0=>Nat.le_refl _
 | k+1=>by
   unfold argBest
   cases cg f (k+1) (argBest (cg f) k) with
   | true=>exact Nat.le_refl _
   | false=>exact Nat.le_trans (gP f k) (Nat.le_succ _)
end
theorem mU (r:List Int):∀ x:Int,x≤r.foldl (fun a b=>if b>a then b else a) x∧(∀ y∈r,y≤r.foldl (fun a b=>if b>a then b else a) x)∧(r.foldl (fun a b=>if b>a then b else a) x=x∨r.foldl (fun a b=>if b>a then b else a) x∈r):=by
 induction r with
 | nil=>intro x;exact ⟨Int.le_refl _,fun y h=>(nomatch h),.inl rfl⟩
 | cons b r ih=>
   intro x
   have h:=ih (if b>x then b else x)
   rw [List.foldl_cons]
   obtain ⟨h1,h2,h3⟩:=h
   by_cases c:b>x
   ·rw [if_pos c] at h1 h2 h3 ⊢
    refine ⟨by omega,fun y hy=>?_,?_⟩
    ·rcases List.mem_cons.mp hy with rfl | hy
     ·exact h1
     ·exact h2 y hy
    ·rcases h3 with h3 | h3
     ·exact .inr (by rw [h3];exact List.mem_cons_self)
     ·exact .inr (List.mem_cons_of_mem _ h3)
   ·rw [if_neg c] at h1 h2 h3 ⊢
    refine ⟨h1,fun y hy=>?_,?_⟩
    ·rcases List.mem_cons.mp hy with rfl | hy
     ·omega
     ·exact h2 y hy
    ·rcases h3 with h3 | h3
     ·exact .inl h3
     ·exact .inr (List.mem_cons_of_mem _ h3)
theorem kN {d m:Int} {ns:List Int} (ne:ns≠[]) (hm:m∈ns) (hg:∀ y∈ns,y≤m):maxD d ns=m:=by
 cases ns with
 | nil=>exact absurd rfl ne
 | cons x r=>
   obtain ⟨h1,h2,h3⟩:=mU r x
   have k1:maxD d (x :: r)=r.foldl (fun a b=>if b>a then b else a) x:=rfl
   rw [k1]
   have a1:r.foldl (fun a b=>if b>a then b else a) x≤m:=by
    rcases h3 with h3 | h3
    ·rw [h3];exact hg x List.mem_cons_self
    ·exact hg _ (List.mem_cons_of_mem _ h3)
   have a2:m≤r.foldl (fun a b=>if b>a then b else a) x:=by
    rcases List.mem_cons.mp hm with rfl | hm
    ·exact h1
    ·exact h2 m hm
   omega
theorem cJ:∀ {us:List Value} {ns:List Int} {i:Nat} {v:Value},IntsAre us ns→us[i]? = some v→∃ t,v = .int (ns.getD i 0) t
 | _,_,_,_,.nil,e=>by simp at e
 | _,_,0,v,.cons _ t _,e=>by simp at e;subst e;exact ⟨t,by simp⟩
 | _,_,i+1,v,.cons _ _ r,e=>by
   obtain ⟨t,h⟩:=cJ (i:=i) r (by simpa using e)
   exact ⟨t,by simpa using h⟩
theorem uV {prog:Program} {w:World} {A:Around} {E:Value→Shared→Prop} {s:Shared} {l:Addr} {us:List Value} {ns:List Int} {d:Int} {td:Tok} {Q:Value→Shared→Prop} (hh:A.handled=none) (hl:s.heap.IsList l us.toArray) (hi:IntsAre us ns)
 (q:∀ t h1 tk,(∀ b o,s.heap.get? b=some o→h1.get? b=some o)→Q (.int (maxD d ns) t) { s with heap:=h1,toks:=tk }):wpAny (model prog w) A (call (.builtin "max") [.ref l] [("default",.int d td)]) Q E s:=by
 have nm:(toString "max" ++ toString ".loop":String) = "max.loop":=by decide
 have hlt:l<s.heap.objs.size:=by obtain ⟨_,e,_⟩:=hl;exact Heap.lt_size e
 refine wpAny_call (codeAny_call_builtin F.plain_max F.entry_max (wpAny_of_eq (a:=()) (by kernel_rfl) ?_))
 show wpAny _ A.in1 (Builtin.Builtins.bindParams "max" ["key","default"] 0 ⟨[],[("default",.int d td)]⟩ >>= fun _=>_) _ _ s
 refine wpAny_bind (wpAny_of_eq (a:=[none,some (.int d td)]) (by rfl) (wpAny_bind (wpAny_pure ?_)))
 refine wpAny_bind (wpAny_pyIter_list hl (wpAny_bind (wpAny_newObj_type ?_)))
 rw [nm]
 let it:Addr:=s.heap.objs.size
 generalize hh1:s.heap.push { cls:=.type "list_iterator",data:=.fields #[.ref l,.int 0 0] }=h1
 have sz1:h1.objs.size=s.heap.objs.size+1:=by rw [← hh1];exact Heap.size_push ..
 have kp1:∀ b o,s.heap.get? b=some o→h1.get? b=some o:=fun b o e=>by rw [← hh1];exact Heap.get?_push_of_some _ e
 have it1:h1.IsListIter s.heap.objs.size l 0:=by rw [← hh1];exact ⟨_,Heap.get?_push_size _ rfl,rfl,rfl⟩
 have W:=Walks.list (prog:=prog) (w:=w) (A:=A.in1) hh s.heap.objs.size l (Nat.ne_of_lt hlt) us.toArray
 have nB:h1.objs.size ∉ [s.heap.objs.size,l]:=fun hm=>by
  rw [sz1] at hm
  rcases List.mem_cons.mp hm with z | z
  ·exact absurd z (Nat.succ_ne_self _)
  ·rw [List.mem_singleton] at z;exact absurd hlt (by rw [← z];exact Nat.not_lt.mpr (Nat.le_succ _))
 have hlen:us.length=ns.length:=hi.length
 have hB:(h1.push { cls:=.type "list",dict:=none,data:=.seq ([]:List Value).toArray }).get? h1.objs.size=some { cls:=.type "list",dict:=none,data:=.seq #[] 0,slots:=#[] }:=Heap.get?_push_size _ rfl
 have st0:(h1.push { cls:=.type "list",dict:=none,data:=.seq ([]:List Value).toArray }).IsListIter s.heap.objs.size l 0∧(h1.push { cls:=.type "list",dict:=none,data:=.seq ([]:List Value).toArray }).IsList l us.toArray:=
  ⟨it1.at fun o e=>Heap.get?_push_of_some _ e,(hl.at fun o e=>kp1 l o e).at fun o e=>Heap.get?_push_of_some _ e⟩
 have back:∀ (h2:Heap),(∀ b o,b ∉ [s.heap.objs.size]→b≠h1.objs.size→(h1.push { cls:=.type "list",dict:=none,data:=.seq ([]:List Value).toArray }).get? b=some o→h2.get? b=some o)→∀ b o,s.heap.get? b=some o→h2.get? b=some o:=fun h2 k b o e=>by
  have lt:=Heap.lt_size e
  refine k b o (fun z=>?_) (fun z=>?_) (Heap.get?_push_of_some _ (kp1 b o e))
  ·rw [List.mem_singleton.mp z] at lt;exact Nat.lt_irrefl _ lt
  ·rw [z,sz1] at lt;exact absurd lt (Nat.not_lt.mpr (Nat.le_succ _))
 refine wpAny_pure ⟨plainId_quiet F.plain_max_loop _,?_⟩
 refine codeAny_builtin F.entry_max_loop ?_
 rw [Around.under_plainId F.plain_max_loop _]
 show wpAny _ A.in1 (seqItems? (.ref h1.objs.size) >>= fun _=>_) _ _ _
 refine wpAny_bind (wpAny_seqItems hB rfl ?_)
 show wpAny _ A.in1 (tryCatch (pyNext (.ref s.heap.objs.size)) _ >>= fun _=>_) _ _ _
 cases hns:ns with
 | nil=>
   have hz:us.toArray.size=0:=by rw [hns] at hlen;simpa using hlen
   refine wpAny_bind (wpAny_tryCatch (W.done _ _ _ (by rw [hz];exact st0) fun h2 tk k2=>?_))
   refine wpAny_bind (wpAny_rule (wpAny_pure ?_))
   have:=q td h2 tk (back h2 fun b o n1 n2 e=>k2 b o n1 e)
   rw [hns] at this
   exact this
 | cons x r=>
   have hz:0<us.toArray.size:=by rw [hns] at hlen;simp;rw [hlen];simp
   let f:Nat→Int:=fun i=>ns.getD i 0
   have P:∀ i v,us.toArray[i]? = some v→dS f i v:=fun i v e=>by
    have e':us[i]? = some v:=by simpa using e
    obtain ⟨t,ht⟩:=cJ hi e'
    exact ⟨t,ht⟩
   have W':Walks prog w A.in1 s.heap.objs.size [s.heap.objs.size,l] [s.heap.objs.size] us.toArray.size (dS f) (fun i h=>h.IsListIter s.heap.objs.size l i∧h.IsList l us.toArray):=
    { sub:=W.sub,frame:=W.frame,done:=W.done,self:=W.self,item:=fun i s Q E hi st hQ=>W.item i s Q E hi st fun v h' tk hP=>hQ v h' tk (P i v hP) }
   refine wpAny_bind (wpAny_tryCatch (W'.item 0 _ _ _ hz st0 fun v h2 tk hv st2 k2=>?_))
   have nBw:h1.objs.size ∉ [s.heap.objs.size]:=fun z=>nB (by rw [List.mem_singleton.mp z];exact List.mem_cons_self)
   have hB2:=k2 _ _ nBw hB
   show wpAny _ A.in1 (updateSeq h1.objs.size (fun _=>#[v,v]) >>= fun _=>_) _ _ _
   refine wpAny_bind (wpAny_updateSeq hB2 rfl ?_)
   rw [nm]
   refine wpAny_pure ⟨plainId_quiet F.plain_max_loop _,uU W' _ h1.objs.size nB _ 0 _ v _ rfl hz (W'.frame _ _ _ st2 fun b hb o e=>(Heap.get?_update_other _ _ (fun z:h1.objs.size=b=>nB (by rw [z];exact hb))).trans e) hv (Heap.get?_update_self _ hB2 rfl) fun v' h3 tk3 hv' k3=>?_⟩
   obtain ⟨t',e'⟩:=hv'
   have lt:=gP f (us.toArray.size - 1)
   have hmem:f (argBest (cg f) (us.toArray.size - 1))=maxD d ns:=by
    have hl2:argBest (cg f) (us.toArray.size - 1)<ns.length:=by simp at lt hz ⊢;omega
    refine (kN (by rw [hns];simp) ?_ fun y hy=>?_).symm
    ·show ns.getD _ 0∈ns
     rw [List.getD_eq_getElem?_getD,List.getElem?_eq_getElem hl2]
     exact List.getElem_mem _
    ·obtain ⟨i,hi',rfl⟩:=List.mem_iff_getElem.mp hy
     have:=ed f (us.toArray.size - 1) i (by simp;omega)
     have e2:f i=ns[i]:=by show ns.getD i 0=_;rw [List.getD_eq_getElem?_getD,List.getElem?_eq_getElem hi'];rfl
     rw [← e2];exact this
   have q':=q t' h3 tk3 (back h3 fun b o n1 n2 e=>k3 b o n1 n2 ((Heap.get?_update_other _ _ (Ne.symm n2)).trans (k2 b o n1 e)))
   subst e'
   rw [hmem]
   exact q'
section
variable {M:Model} {A:Around} {E:Value→Shared→Prop} {s:Shared} {env:Env} {pos:Pos} {e:Expr}
theorem mI {id:String} {rest:List Expr} {kws:List Keyword} {Q:Value→Shared→Prop}
 (h:wpAny M A (spliced (backTo pos (starEach (e :: rest) env))) (fun vs s1=>wpAny M A (evalAll ((backToKw pos (keywordEach kws env)).map (·.2))) (fun ks s2=>wpAny M A (call (.builtin id) vs (((backToKw pos (keywordEach kws env)).filterMap (·.1)).zip ks)) Q E s2) E s1) E s)
 (he:starEach (e :: rest) env=(false,eval e env) :: starEach rest env) (h1:(backTo pos (starEach (e :: rest) env)).any (·.1)=false) (h2:(backToKw pos (keywordEach kws env)).all (·.1.isSome)=true) (h3:(backToKw pos (keywordEach kws env)).any (·.1.isNone)=false) :
 wpAny M A (callWith pos (.builtin id) [] (backTo pos (starEach (e :: rest) env)) (backToKw pos (keywordEach kws env))) Q E s:=by
 have k:wpAny M A (evalArgs (.builtin id) true (backTo pos (starEach (e :: rest) env)) (backToKw pos (keywordEach kws env))) (fun a s1=>wpAny M A (call (.builtin id) ([] ++ a.pos) a.kw) Q E s1) E s:=by
  rw [he] at h ⊢
  exact evalArgs_kwB h2 h
 unfold callWith
 refine wpAny_bind (wpAny_holding (thn k fun a s1 q=>wpAny_bind (wpAny_standAt ?_)))
 simp only [h1,h3,Bool.or_false]
 exact wpAny_bind (wpAny_pure (wpAny_bind (thn q fun r s2 q2=>wpAny_bind (wpAny_holding (wpAny_point (wpAny_pure q2))))))
end
end L2.Bw
namespace L2.Ev
open L2.Bw
section
variable {X:Cx}
theorem qM {kp:Pos} (hc:X.calm=true) (hx:Blt X "max" (.builtin "max")) (ha:LE X ea a) (hb:LE X eb b) (he:starEach [ea] X.env=(false,eval ea X.env) :: starEach [] X.env):LE X (.Call (.Name "max" p) [ea] [⟨some "default",eb,kp⟩] pos) (.bi .max0 (.cons a (.cons b .nil))):=fun br z I nb=>by
 refine wpAny_Call_Name_kw (hx.ld I ?_)
 refine mI ?_ he (by rw [he];rfl) rfl rfl
 rw [he]
 refine Calls.spliced_cons ((ha true).go .refl I (ev2 fun l s=>Out.of s (biD .max0 (l.map (look s.st)))) nb fun z1 x u y1 x1 I1 r1 e1=>Calls.spliced_nil ?_)
 show wpAny _ _ (evalAll ((do let v ← eval eb X.env;standAt pos;pure v) :: [])) _ _ _
 refine wpAny_evalAll_cons (wpAny_bind ((hb true).go x1 I1 e1 nb fun z2 y v y2 x2 I2 r2 e2=>wpAny_bind (wpAny_standAt (wpAny_pure (wpAny_evalAll_nil ?_)))))
 refine b7 x2 I2 e2 nb fun d q=>?_
 have c1:=(r1.rb.st y2 I2).cr I2
 have c2:=r2.rb.cr I2
 have q:pV .max0 (look z2.t.st x) (look z2.t.st y)=some d:=q
 revert q c1 c2
 generalize look z2.t.st x=x'
 generalize look z2.t.st y=y'
 intro c1 c2 q
 cases x' with
 | lst l=>
   cases y' with
   | int d0=>
     obtain ⟨ns,q1,rfl⟩:=Option.map_eq_some_iff.mp q
     obtain ⟨a0,o,vs,rfl,g,⟨⟨n,rfl⟩,hz⟩,r⟩:=c1
     obtain ⟨t,rfl⟩:=(show ∃ t,v=Value.int d0 t from c2)
     exact uV (I2.hd hc) (show z2.s.heap.IsList a0 vs.toArray from ⟨_,g,rfl,n,rfl⟩) (ft q1 r) fun t h1 tk kp=>.flat (.hp kp) fun G=>⟨t,rfl⟩
   | _=>cases q
 | _=>cases q
end
section
variable {X:Cx} {z:Z}
theorem pZ (hc:X.calm=true):Bi1 X (.builtin "max") .max2:=fun z u x d I h e=>by
 cases x with
 | lst l=>
   have e:(match cj l with | some (n :: r)=>some (D.int (maxD 0 (n :: r))) | _=>none)=some d:=e
   cases q:cj l with
   | none=>rw [q] at e;cases e
   | some ns=>
     cases ns with
     | nil=>rw [q] at e;cases e
     | cons n0 r0=>
       rw [q] at e;cases e
       obtain ⟨a,o,vs,rfl,g,⟨⟨n,rfl⟩,hz⟩,r⟩:=h
       have hi:=ft q r
       have hlt:=Heap.lt_size g
       have hl:z.s.heap.IsList a vs.toArray:=⟨_,g,rfl,n,rfl⟩
       have hlen:vs.length=(n0 :: r0).length:=hi.length
       let f:Nat→Int:=fun i=>(n0 :: r0).getD i 0
       have P:∀ i v,vs.toArray[i]? = some v→dS f i v:=fun i v e=>cJ hi (by simpa using e)
       refine call_max_walk (wpAny_pyIter_list hl ?_)
       have W:=Walks.list (prog:=X.W.P) (w:=X.W.w) (A:=X.A.in1) (I.hd hc) z.s.heap.objs.size a (Nat.ne_of_lt hlt) vs.toArray
       refine ⟨z.s.heap.objs.size,[z.s.heap.objs.size,a],[z.s.heap.objs.size],vs.toArray.size,dS f,_,cg f,rfl,{ sub:=W.sub,frame:=W.frame,done:=W.done,self:=W.self,item:=fun i s Q E hi st hQ=>W.item i s Q E hi st fun v h' tk hP=>hQ v h' tk (P i v hP) },⟨⟨_,Heap.get?_push_size _ rfl,rfl,rfl⟩,hl.push _⟩,fun b hb=>?_,by simp [hlen],CmpOf.ints_gt f fun _ _ h=>h,fun v h' tk hv hk=>?_⟩
       ·show b<(z.s.heap.push _).objs.size
        rw [Heap.size_push]
        rcases List.mem_cons.mp hb with w | w
        ·rw [w];exact Nat.lt_succ_self _
        ·rw [List.mem_singleton.mp w];exact Nat.lt_succ_of_lt hlt
       ·obtain ⟨t,rfl⟩:=hv
        have lt:=gP f (vs.toArray.size - 1)
        have hl2:argBest (cg f) (vs.toArray.size - 1)<(n0 :: r0).length:=by simp at lt ⊢;simp at hlen;omega
        have em:f (argBest (cg f) (vs.toArray.size - 1))=maxD 0 (n0 :: r0):=by
         refine (kN (by simp) ?_ fun y hy=>?_).symm
         ·show (n0 :: r0).getD _ 0∈_
          rw [List.getD_eq_getElem?_getD,List.getElem?_eq_getElem hl2]
          exact List.getElem_mem _
         ·obtain ⟨i,hi',rfl⟩:=List.mem_iff_getElem.mp hy
          have:=ed f (vs.toArray.size - 1) i (by simp at hi' hlen ⊢;omega)
          have e2:f i=(n0 :: r0)[i]:=by show (n0 :: r0).getD i 0=_;rw [List.getD_eq_getElem?_getD,List.getElem?_eq_getElem hi'];rfl
          rw [← e2];exact this
        exact .flat (.hp fun b o e=>hk b o (fun hm=>by rw [List.mem_singleton.mp hm] at e;exact Nat.lt_irrefl _ (Heap.lt_size e)) (Heap.get?_push_of_some _ e)) fun G=>⟨t,by rw [em]⟩
 | _=>cases e
end
end L2.Ev
end
section
namespace L2.Ev
def isP (x y:Str):Option (PLift (x=y)):=match h:x == y with
 | true=>some ⟨by simpa using h⟩
 | false=>none
theorem iQ:fresh (.bi b es)=fresh (.bi b .nil):=by cases b <;> rfl
abbrev vv (x:Str) (b:Bi):Prop:=∀ X:Cx,X.calm=true→∃ f,FB f∧bootBuiltins x=some f∧((Bi1 X f b∧fresh (.bi b .nil)=false)∨tj X f b)
def xL:List {q:Str×Bi // vv q.1 q.2}:=[
 ⟨("len",.len),fun X c=>⟨_,.inl ⟨_,rfl⟩,boot_len,.inl ⟨tF,rfl⟩⟩⟩,
 ⟨("tuple",.tuple),fun X c=>⟨_,.inr ⟨_,rfl⟩,PyProof.Rows.boot_tuple,.inl ⟨mD,rfl⟩⟩⟩,
 ⟨("list",.list),fun X c=>⟨_,.inr ⟨_,rfl⟩,PyProof.Rows.boot_list,.inr pY⟩⟩,
 ⟨("max",.max2),fun X c=>⟨_,.inl ⟨_,rfl⟩,boot_max,.inl ⟨pZ c,rfl⟩⟩⟩,
 ⟨("int",.int),fun X c=>⟨_,.inr ⟨_,rfl⟩,PyProof.Rows.boot_int,.inl ⟨tE,rfl⟩⟩⟩]
abbrev vw (x:Str) (b:Bi):Prop:=fresh (.bi b .nil)=false∧∀ X:Cx,X.calm=true→∃ f,FB f∧bootBuiltins x=some f∧Bi2 X f b
def xM:List {q:Str×Bi // vw q.1 q.2}:=[
 ⟨("max",.max2),rfl,fun X c=>⟨_,.inl ⟨_,rfl⟩,boot_max,p0 c⟩⟩,
 ⟨("min",.min2),rfl,fun X c=>⟨_,.inl ⟨_,rfl⟩,boot_min,qe c⟩⟩]
def pW {P:Str→Bi→Prop} (x:Str):List {q:Str×Bi // P q.1 q.2}→Option {b:Bi // P x b}
 | []=>none
 | q :: r=>match isP q.1.1 x with
   | some h=>some ⟨q.1.2,by rw [← h.down];exact q.2⟩
   | none=>pW x r
abbrev vC (x:Str) (b:Bi):Prop:=(b = .isTup∨b = .isStr∨b = .isBool∨b = .isInt∨b = .isLst∨b = .isDic)∧bootBuiltins x=some (.type (tyN b))
def tys:List {q:Str×Bi // vC q.1 q.2}:=[⟨("tuple",.isTup),.inl rfl,PyProof.Rows.boot_tuple⟩,⟨("str",.isStr),.inr (.inl rfl),PyProof.Rows.boot_str⟩,⟨("bool",.isBool),.inr (.inr (.inl rfl)),PyProof.Rows.boot_bool⟩,⟨("int",.isInt),.inr (.inr (.inr (.inl rfl))),PyProof.Rows.boot_int⟩,⟨("list",.isLst),.inr (.inr (.inr (.inr (.inl rfl)))),PyProof.Rows.boot_list⟩]
section
variable {T:Ns} {nm:NK} {N:List Str}
def d4 (T:Ns) (nm:NK) (x:Str):Option (PLift (x∈T.bl∧bb nm x=true)):=do
 let m ← lR x T.bl
 let g ← yes (bb nm x)
 some ⟨m.down,g.down⟩
theorem aY (k:CxOk T X nm N) (h:x∈T.bl∧bb nm x=true) (hv:bootBuiltins x=some u) (hn:x≠"__name__":=by decide) (hd:(x == ("__debug__":Str))=false:=by decide):Blt X x u:=⟨aP k.sc h.2,k.blt x h.1,hv,hn,hd⟩
def xR (f:∀ e,Option (GE T nm N e)) (x:Str) (p:Pos) (hx:x≠"__name__") (hd:(x == ("__debug__":Str))=false) (m:x∈T.bl∧bb nm x=true):(es:List Expr)→(pos:Pos)→Option (GE T nm N (.Call (.Name x p) es [] pos))
 | [e],pos=>do
   let he ← yes (ay e)
   let a ← f e
   let b ← pW x xL
   some ⟨.bi b.1 (.cons a.1 .nil),fun X k=>by
    obtain ⟨fv,h1,h2,h3⟩:=b.2 X k.calm
    rcases h3 with ⟨h3,h4⟩ | h3
    ·exact mk (ug h3 h1 (aY k m h2 hx hd) (a.2 X k).1 (af he.down)) (iQ.trans h4)
    ·exact mkf (uC h3 h1 (aY k m h2 hx hd) (a.2 X k).1 (af he.down))⟩
 | [e,g],pos=>do
   let he ← yes (ay e)
   let hg ← yes (ay g)
   let a ← f e
   let c ← f g
   let b ← pW x xM
   some ⟨.bi b.1 (.cons a.1 (.cons c.1 .nil)),fun X k=>by
    obtain ⟨fv,h1,h2,h3⟩:=b.2.2 X k.calm
    exact mk (uh h3 h1 (aY k m h2 hx hd) (a.2 X k).1 (c.2 X k).1 (af he.down) (af hg.down)) (iQ.trans b.2.1)⟩
 | _,_=>none
def so (f:∀ e,Option (GE T nm N e)) (x:Str) (p:Pos) (e:Expr) (er:List Expr) (pos:Pos):Option (GE T nm N (.Call (.Name x p) (e :: er) [] pos)):=do
 let hd ← no (x == ("__debug__":Str))
 let hnm ← no (x == ("__name__":Str))
 let hg ← yes (bb nm x)
 match xI x (dnA x (er.length+1) T.dn ++ T.alt) T.fn with
 | some j=>
   let hn ← yes (er.all ay)
   let he ← yes (ay e)
   let a ← dz f (e :: er)
   some (if T.hc.contains x then ⟨.hcall j.1 a.1,fun X k=>by
    obtain ⟨n,fa,h1,h2,h3⟩:=k.fns j.1 x j.2
    exact mk (nV h1 h2 (aP k.sc hg.down) h3 (a.2 X k) hd.down (af he.down) (bj (List.all_eq_true.mp hn.down)))⟩ else ⟨.call j.1 a.1,fun X k=>by
    obtain ⟨n,fa,h1,h2,h3⟩:=k.fns j.1 x j.2
    exact mk (qH h1 h2 (aP k.sc hg.down) h3 (a.2 X k) hd.down (af he.down) (bj (List.all_eq_true.mp hn.down)))⟩)
 | none=>
   let m ← lR x T.bl
   xR f x p (by simpa using hnm.down) hd.down ⟨m.down,hg.down⟩ (e :: er) pos
def cIs (f:∀ e,Option (GE T nm N e)) (y:Str) (p:Pos) (ea:Expr) (x:Str) (q pos:Pos):Option (GE T nm N (.Call (.Name y p) [ea,.Name x q] [] pos)):=do
 let hy ← isP "isinstance" y
 let g1 ← d4 T nm "isinstance"
 let g2 ← d4 T nm x
 let b ← pW (P:=vC) x tys
 let hd ← no (x == ("__debug__":Str))
 let hnm ← no (x == ("__name__":Str))
 let he ← yes (ay ea)
 let a ← f ea
 some ⟨.bi b.1 (.cons a.1 .nil),fun X k=>by
  obtain rfl:=hy.down
  exact mk (wN b.2.1 (aY k g1.down PyProof.Rows.boot_isinstance) (aY k g2.down b.2.2 (by simpa using hnm.down) hd.down) (a.2 X k).1 (af he.down)) (by rcases b.2.1 with w | w | w | w | w | w <;> rw [w] <;> rfl)⟩
def yb (f:∀ e,Option (GE T nm N e)) (y:Str) (p:Pos) (ea:Expr) (x:Str) (q pos:Pos):Option (GE T nm N (.Call (.Name y p) [ea,.Name x q] [] pos)):=do
 let hy ← isP "isinstance" y
 let g1 ← d4 T nm "isinstance"
 let j ← aD x T.hx
 let hz ← no (x == ("":Str))
 let hd ← no (x == ("__debug__":Str))
 let hg ← yes (bb nm x)
 let he ← yes (ay ea)
 let a ← f ea
 some ⟨.isX a.1 [j.1],fun X k=>by
  obtain rfl:=hy.down
  exact mk (um k.cls (aY k g1.down PyProof.Rows.boot_isinstance) (k.hxs j.1 x j.2 (by simpa using hz.down)) (aP k.sc hg.down) hd.down (a.2 X k).1 (af he.down))⟩
def ya (f:∀ e,Option (GE T nm N e)) (y:Str) (p:Pos) (ea:Expr) (x1 x2 x3:Str) (q1 q2 q3:Pos) (k:Nat) (q pos:Pos):Option (GE T nm N (.Call (.Name y p) [ea,.Tuple [.Name x1 q1,.Name x2 q2,.Name x3 q3] k q] [] pos)):=none
def yf (f:∀ e,Option (GE T nm N e)) (x y:Str) (p1 p2:Pos) (ea:Expr) (pos2 pos:Pos):Option (GE T nm N (.Call (.Name x p1) [.Call (.Name y p2) [ea] [] pos2] [] pos)):=do
 let hx ← isP "list" x
 let hy ← isP "reversed" y
 let g1 ← d4 T nm "list"
 let g2 ← d4 T nm "reversed"
 let he ← yes (ay ea)
 let a ← f ea
 some ⟨.bi .rev (.cons a.1 .nil),fun X k=>by
  obtain rfl:=hx.down
  obtain rfl:=hy.down
  exact mkf (uF k.calm (aY k g1.down PyProof.Rows.boot_list) (aY k g2.down boot_reversed) (a.2 X k).1 (af he.down) rfl)⟩
def fY (f:∀ e,Option (GE T nm N e)) (tg e:Expr):Option (GI T nm N tg e):=(f e).map fun a=>⟨.itv a.1,fun X k=>yz k.calm (a.2 X k).1⟩
def cR1 (f:∀ e,Option (GE T nm N e)) (tg:Expr) (x:Str) (p:Pos) (a:Expr) (pos:Pos):Option (GI T nm N tg (.Call (.Name x p) [a] [] pos)):=do
 let hx ← isP "range" x
 let g ← d4 T nm "range"
 let he ← yes (ay a)
 let u ← f a
 some ⟨.it .range1 (.cons u.1 .nil),fun X k=>by
  obtain rfl:=hx.down
  exact lO k.calm (aY k g.down boot_range) (u.2 X k).1 (af he.down)⟩
def cRw (f:∀ e,Option (GE T nm N e)) (tg:Expr) (x:Str) (p:Pos) (a:Expr) (pos:Pos):Option (GI T nm N tg (.Call (.Name x p) [a] [] pos)):=do
 let hx ← isP "reversed" x
 let g ← d4 T nm "reversed"
 let he ← yes (ay a)
 let u ← f a
 some ⟨.it .rev (.cons u.1 .nil),fun X k=>by
  obtain rfl:=hx.down
  exact uG k.calm (aY k g.down PyProof.Rows.boot_reversed) (u.2 X k).1 (af he.down)⟩
def cR2 (f:∀ e,Option (GE T nm N e)) (tg:Expr) (x:Str) (p:Pos) (a b:Expr) (pos:Pos):Option (GI T nm N tg (.Call (.Name x p) [a,b] [] pos)):=none
def cE1 (f:∀ e,Option (GE T nm N e)) (ts:List Expr) (n:Nat) (tp:Pos) (x:Str) (p:Pos) (a:Expr) (pos:Pos):Option (GI T nm N (.Tuple ts n tp) (.Call (.Name x p) [a] [] pos)):=do
 let hx ← isP "enumerate" x
 let g ← d4 T nm "enumerate"
 let he ← yes (ay a)
 let u ← f a
 some ⟨.it .enum (.cons u.1 .nil),fun X k=>by
  obtain rfl:=hx.down
  exact qU k.calm (aY k g.down boot_enumerate) (u.2 X k).1 (af he.down)⟩
def cE2 (f:∀ e,Option (GE T nm N e)) (ts:List Expr) (n:Nat) (tp:Pos) (x y:Str) (p:Pos) (a b:Expr) (kp pos:Pos):Option (GI T nm N (.Tuple ts n tp) (.Call (.Name x p) [a] [⟨some y,b,kp⟩] pos)):=none
def cZ2 (f:∀ e,Option (GE T nm N e)) (ts:List Expr) (n:Nat) (tp:Pos) (x:Str) (p:Pos) (a b:Expr) (pos:Pos):Option (GI T nm N (.Tuple ts n tp) (.Call (.Name x p) [a,b] [] pos)):=none
def cZ3 (f:∀ e,Option (GE T nm N e)) (ts:List Expr) (n:Nat) (tp:Pos) (x:Str) (p:Pos) (a b c:Expr) (pos:Pos):Option (GI T nm N (.Tuple ts n tp) (.Call (.Name x p) [a,b,c] [] pos)):=none
def sy (f:∀ e,Option (GE T nm N e)):(tg e:Expr)→Option (GI T nm N tg e)
 | .Tuple ts n tp,.Call (.Name x p) [a] [] pos=>(cE1 f ts n tp x p a pos).orElse fun _=>fY f _ _
 | .Tuple ts n tp,.Call (.Name x p) [a] [⟨some y,b,kp⟩] pos=>cE2 f ts n tp x y p a b kp pos
 | .Tuple ts n tp,.Call (.Name x p) [a,b] [] pos=>(cZ2 f ts n tp x p a b pos).orElse fun _=>fY f _ _
 | .Tuple ts n tp,.Call (.Name x p) [a,b,c] [] pos=>(cZ3 f ts n tp x p a b c pos).orElse fun _=>fY f _ _
 | tg,.Call (.Name x p) [a] [] pos=>((cR1 f tg x p a pos).orElse fun _=>cRw f tg x p a pos).orElse fun _=>fY f _ _
 | tg,.Call (.Name x p) [a,b] [] pos=>(cR2 f tg x p a b pos).orElse fun _=>fY f _ _
 | tg,e=>fY f tg e
theorem aq (h:aR e=true):attributeBase e x env m=m:=by
 unfold attributeBase
 split
 ·have h':(_ != ("super":Str))=true:=h
  rw [if_pos (by rw [h'];rfl)]
 ·rfl
theorem ph (h:∀ e∈es,ay e=true):((backTo pos (starEach es env)).all fun x=>!x.1)=true:=by
 have:=bj (env:=env) (pos:=pos) h
 rw [List.all_eq_not_any_not]
 simpa using this
theorem oI (h1:aR o=true) (h2:∀ x∈es,ay x=true) (h3:es.length<30) (h4:(apos.endLine == pos.line)=true):eval (.Call (.Attribute o m apos) es [] pos) env=(do
 let ov ← eval o env
 standAt apos.atName
 let (f,first) ← holding [ov] (getMethod ov m (do return (← importBound o env).getD true))
 callWith pos f first (backTo pos (starEach es env)) (backToKw pos (keywordEach [] env))):=by
 have e0:eval (.Call (.Attribute o m apos) es [] pos) env=(do
  let ov ← attributeBase o m env (eval o env)
  standAt apos.atName
  methodCall o m apos pos env ov (es.length+([]:List Keyword).length) (backTo pos (starEach es env)) (backToKw pos (keywordEach [] env))):=rfl
 rw [e0,aq h1]
 have few:methodCallForm (es.length+([]:List Keyword).length) (backTo pos (starEach es env)) (backToKw pos (keywordEach [] env))=true:=by
  unfold methodCallForm
  rw [ph h2]
  simp only [Bool.true_and]
  show (true && decide (_<30))=true
  simp only [Bool.true_and]
  apply decide_eq_true
  exact h3
 congr 1
 funext ov
 congr 1
 funext _
 unfold methodCall
 simp only [few]
 have e1:methodCallPos true o env apos pos=pure pos:=by unfold methodCallPos;rw [h4];rfl
 simp only [e1]
 rfl
def uW (m:Str):(l:List (Str×Nat×Nat))→Option {q:Nat×Nat // (m,q.1,q.2)∈l}
 | []=>none
 | (y,c,j) :: r=>match isP y m with
   | some h=>some ⟨(c,j),by obtain rfl:=h.down;exact List.mem_cons_self⟩
   | none=>(uW m r).map fun i=>⟨i.1,List.mem_cons_of_mem _ i.2⟩
def yd (f:∀ e,Option (GE T nm N e)) (o:Expr) (m:Str) (ap:Pos):(args:List Expr)→(pos:Pos)→Option (GE T nm N (.Call (.Attribute o m ap) args [] pos))
 | [],pos=>do
   let q ← uW m T.me
   let hs ← yes (aR o)
   let hp ← yes (ap.endLine == pos.line)
   let a ← f o
   some ⟨.mth q.1.1 q.1.2 a.1 .nil,fun X k=>by
    obtain ⟨n,fa,h1,h2,h3⟩:=k.mts _ q.2
    exact mk (qN h1 h2 h3 (a.2 X k).1 (oI hs.down (fun x hx=>nomatch hx) (by decide) hp.down))⟩
 | e :: er,pos=>do
   let q ← uW m T.me
   let hs ← yes (aR o)
   let hp ← yes (ap.endLine == pos.line)
   let hn ← yes ((e :: er).all ay)
   let hl ← yes (decide ((e :: er).length<30))
   let a ← f o
   let b ← dz f (e :: er)
   some ⟨.mth q.1.1 q.1.2 a.1 b.1,fun X k=>by
    obtain ⟨n,fa,h1,h2,h3⟩:=k.mts _ q.2
    have hn':=List.all_eq_true.mp hn.down
    exact mk (uq h1 h2 h3 (a.2 X k).1 (b.2 X k) (af (hn' e List.mem_cons_self)) (bj fun x hx=>hn' x (List.mem_cons_of_mem _ hx)) (oI hs.down hn' (by simpa using hl.down) hp.down))⟩
def xY (f:∀ e,Option (GE T nm N e)) (o:Expr) (m:Str) (ap:Pos):(args:List Expr)→(pos:Pos)→Option (GE T nm N (.Call (.Attribute o m ap) args [] pos)):=fun _ _=>none
def v6 (f:∀ e,Option (GE T nm N e)) (m:Str) (ap:Pos):(o:Expr)→(args:List Expr)→(pos:Pos)→Option (GE T nm N (.Call (.Attribute o m ap) args [] pos)):=fun _ _ _=>none
def tJ (f:∀ e,Option (GE T nm N e)) (x:Str) (j:Nat) (p:Pos) (m:Str) (ap:Pos):(args:List Expr)→(pos:Pos)→Option (GE T nm N (.Call (.Attribute (.Constant (.str x) j p) m ap) args [] pos))
 | [e],pos=>do
   let hm ← isP "join" m
   let hp ← yes (ap.endLine == pos.line)
   let hn ← yes (ay e)
   let a ← f e
   some ⟨.join x a.1,fun X k=>by
    obtain rfl:=hm.down
    exact mk (qK (a.2 X k).1 ⟨aq rfl,by rw [af hn.down];rfl,hp.down,by rw [af hn.down];rfl⟩)⟩
 | _,_=>none
def xX (f:∀ e,Option (GE T nm N e)) (x:Str) (j1:Nat) (p1:Pos) (e:Expr) (p2:Pos) (y:Str) (j2:Nat) (p3 pos:Pos):Option (GE T nm N (.JoinedStr [.Constant (.str x) j1 p1,.FormattedValue e (-1) none p2,.Constant (.str y) j2 p3] pos)):=none
def yh (f:∀ e,Option (GE T nm N e)) (a:Expr) (lo:Option Expr) (st:Expr) (p2 pos:Pos):Option (GE T nm N (.Subscript a (.Slice lo none (some st) p2) pos)):=none
def vN (f:∀ e,Option (GE T nm N e)) (x:Str) (p:Pos):(args:List Expr)→(pos:Pos)→Option (GE T nm N (.Call (.Name x p) args [] pos))
 | [],pos=>do
   let j ← aD x T.nw
   let hz ← no (x == ("":Str))
   let hd ← no (x == ("__debug__":Str))
   let hg ← yes (bb nm x)
   some ⟨.new j.1 .nil,fun X k=>by
    obtain ⟨n,fa,i,cl,h1,h4,h5,h6,h7,h8,h9,h10⟩:=k.nws j.1 x j.2 (by simpa using hz.down)
    exact mk (qP h1 h4 h5 h6 h7 h8 h9 (aP k.sc hg.down) h10 hd.down)⟩
 | e :: er,pos=>do
   let j ← aD x T.nw
   let hz ← no (x == ("":Str))
   let hd ← no (x == ("__debug__":Str))
   let hg ← yes (bb nm x)
   let hn ← yes ((e :: er).all ay)
   let a ← dz f (e :: er)
   some ⟨.new j.1 a.1,fun X k=>by
    obtain ⟨n,fa,i,cl,h1,h4,h5,h6,h7,h8,h9,h10⟩:=k.nws j.1 x j.2 (by simpa using hz.down)
    have hn':=List.all_eq_true.mp hn.down
    exact mk (uu h1 h4 h5 h6 h7 h8 h9 (aP k.sc hg.down) h10 (a.2 X k) hd.down (af (hn' e List.mem_cons_self)) (bj fun y hy=>hn' y (List.mem_cons_of_mem _ hy)))⟩
def vO (f:∀ e,Option (GE T nm N e)) (x:Str) (p:Pos):(args:List Expr)→(pos:Pos)→Option (GE T nm N (.Call (.Name x p) args [] pos)):=fun _ _=>none
def vF (f:∀ e,Option (GE T nm N e)):(e:Expr)→Option (GE T nm N e)
 | .List es pos=>(dz f es).map fun x=>⟨.newl x.1,fun X k=>mk (kJ (x.2 X k))⟩
 | e=>(f e).map fun a=>match h:fresh a.1 with
   | true=>⟨.sto a.1,fun X k=>mk (nX ((a.2 X k).2 h))⟩
   | false=>a
def snA (T:Ns) (N:List Str):List Expr→Option Nat
 | []=>none
 | .Name x _ :: r=>if T.rl.contains x then (aD x N).map (·.1) else snA T N r
 | _ :: r=>snA T N r
def snW {e:Expr} (i:Nat) (a:GE T nm N e):GE T nm N e:=match h:fresh a.1 with
 | true=>⟨.snap i a.1,fun X k=>⟨(eh ((a.2 X k).2 h) h).le fun _=>rfl,fun _=>eh ((a.2 X k).2 h) h⟩⟩
 | false=>⟨.snap i a.1,fun X k=>⟨qQ (a.2 X k).1 h,fun q=>by rw [show fresh (.snap i a.1)=fresh a.1 from rfl,h] at q;cases q⟩⟩
def tG (f:∀ e,Option (GE T nm N e)) (x:Str) (p:Pos) (e:Expr) (er:List Expr) (pos:Pos):Option (GE T nm N (.Call (.Name x p) (e :: er) [] pos)):=do
 let a ← (match lR x T.mu with
  | some _=>so (vF f) x p e er pos
  | none=>so f x p e er pos)
 match lR x T.sn,snA T N (e :: er) with
 | some _,some i=>some (snW i a)
 | _,_=>some a
end
section
variable {T:Ns} {nm:NK} {N:List Str}
def vG (f:∀ e,Option (GE T nm N e)) (keys:List (Option Expr)) (vals:List Expr) (pos:Pos):Option (GE T nm N (.Dict keys vals pos)):=none
end
def d9 (fn:Bool) (nm:NK) (x:Str):Bool:=nm.lookup x == some .local || (fn && nm.lookup x == some .cell)
structure TgH (nm:NK) (N:List Str) (X:Cx):Prop where
 calm:X.calm=true
 hN:X.N=N
 nd:N.Nodup
 sc:X.env.scope.names=nm
theorem dq {fn:Bool} (h:TgH nm N X) (hl:d9 fn nm x=true):Loc X.env.scope x:=by
 have l1:nm.lookup x=some .local∨(fn=true∧nm.lookup x=some .cell):=by
  unfold d9 at hl
  simpa using hl
 show X.env.scope.names.lookup x=_∨X.env.scope.names.lookup x=_
 rw [h.sc]
 exact l1.imp id And.right
def Pl (nm:NK) (N:List Str) (t:List Nat):Prop:=∀ i∈t,∀ x,N[i]? = some x→nm.lookup x=some .local
theorem oW {nm:NK} {N:List Str} {i:Nat} {x:Str} (hi:N[i]? = some x) (hl:d9 false nm x=true):∀ y,N[i]? = some y→nm.lookup y=some .local:=fun y e=>by
 rw [hi] at e;cases e
 unfold d9 at hl
 simpa using hl
structure vB (fn:Bool) (nm:NK) (N:List Str) (es:List Expr) (t:List Nat):Prop where
 len:∀ env,(assignEach es env).length=t.length
 fst:∀ env,(assignEach es env).findIdx? (·.1)=none
 as_:∀ X,TgH nm N X→As X ((assignEach es X.env).map (·.2)) t
 pl:fn=false→Pl nm N t
def vo (fn:Bool) (nm:NK) (N:List Str):(es:List Expr)→Option {t:List Nat // vB fn nm N es t}
 | []=>some ⟨[],fun _=>rfl,fun _=>rfl,fun X h=>trivial,fun _ i m=>nomatch m⟩
 | .Name x p :: r=>do
   let i ← aD x N
   let hl ← yes (d9 fn nm x)
   let t ← vo fn nm N r
   some ⟨i.1 :: t.1,fun env=>congrArg (· + 1) (t.2.len env),fun env=>by
    show List.findIdx? _ ((false,assign (.Name x p) env) :: assignEach r env)=none
    rw [List.findIdx?_cons,t.2.fst env];rfl,fun X h=>⟨⟨x,by rw [h.hN];exact i.2,dq h hl.down,fun q=>wpAny_assign_Name q⟩,t.2.as_ X h⟩,fun hf j m y e=>by
    rcases List.mem_cons.mp m with w | w
    ·rw [w] at e;exact oW i.2 (hf ▸ hl.down) y e
    ·exact t.2.pl hf j w y e⟩
 | _=>none
def tgP (fn:Bool) (nm:NK) (N:List Str):(tg:Expr)→Option {q:List Nat×Bool // (∀ X,TgH nm N X→LG X tg q.1 q.2)∧(fn=false→Pl nm N q.1)}
 | .Name x p=>do
   let i ← aD x N
   let hl ← yes (d9 fn nm x)
   some ⟨([i.1],true),fun X h=>qT (by rw [h.hN];exact h.nd) (by rw [h.hN];exact i.2) (dq h hl.down),fun hf j m y e=>by rw [List.mem_singleton.mp m] at e;exact oW i.2 (hf ▸ hl.down) y e⟩
 | .Tuple es k p=>do
   let t ← vo fn nm N es
   some ⟨(t.1,false),fun X h=>n9 h.calm (by rw [h.hN];exact h.nd) (t.2.as_ X h) (t.2.len _) (t.2.fst _),t.2.pl⟩
 | _=>none
def dI:Expr→List Str
 | .Name x _=>[x]
 | .Tuple es _ _=>es.filterMap fun e=>match e with | .Name x _=>some x | _=>none
 | _=>[]
def dZ (nm:NK) (sc:Scope):NK:=sc.names.map fun y=>if (y.2 == .free && nm.lookup y.1 == some .cell)=true then (y.1,.cell) else (y.1,y.2)
def u8 (nm:NK) (p:Str×Str):Bool:=match nm.lookup p.1 with
 | some .local=>false
 | some .cell=>p.1 == p.2
 | some .free=>p.1 == p.2
 | _=>true
def ndB:List Str→Bool
 | []=>true
 | x :: r=>!r.contains x && ndB r
theorem sT:∀ {l},ndB l=true→l.Nodup
 | [],_=>List.nodup_nil
 | x :: r,h=>by
   have h':r.contains x=false∧ndB r=true:=by simpa [ndB] using h
   refine List.nodup_cons.mpr ⟨fun m=>?_,sT h'.2⟩
   have:r.contains x=true:=by simpa using m
   rw [h'.1] at this
   cases this
def iR (own:List Str) (N:List Str):List Str:=own ++ N.map fun y=>if own.contains y then ⟨y.cps.push (1200000+N.length)⟩ else y
def lcB (nm:NK) (N N':List Str) (sc:Scope) (k:Nat):Bool:=
 (sc.names.all fun y=>y.2 != .cell) && sc.kind == .function && (sc.names.all fun y=>y.2 != .local || sc.names.lookup y.1 == some .local) &&
 (sc.names.all fun y=>y.2 != .free || (nm.lookup y.1 == some .cell || nm.lookup y.1 == some .free)) && N'.length == k+N.length && ((N'.drop k).zip N).all (u8 (dZ nm sc)) && ndB N'
section
variable {T:Ns} {nm:NK} {N N':List Str} {X:Cx} {sc:Scope}
theorem dF (k:CxOk T X nm N):(relabel sc X.env).names=dZ nm sc:=by
 unfold relabel dZ
 dsimp only
 congr 1
 funext y
 rw [k.kd,show X.env.kindOf y.1=nm.lookup y.1 by rw [← k.sc];rfl]
 simp
theorem wM (k:CxOk T X nm N) (h:lcB nm N N' sc n=true):Lcn X sc n N'∧N'.Nodup:=by
 unfold lcB at h
 simp only [Bool.and_eq_true] at h
 obtain ⟨⟨⟨⟨⟨⟨h1,h2⟩,h3⟩,h4⟩,h5⟩,h6⟩,h7⟩:=h
 have kk:∀ x,X.env.kindOf x=nm.lookup x:=fun x=>by rw [← k.sc];rfl
 refine ⟨wL h1 (by simpa using h2) h3 (by simp only [kk];exact h4) (by rw [k.hN];simpa using h5) ?_,sT h7⟩
 rw [k.hN]
 have e:gH sc X.env=u8 (dZ nm sc):=by
  funext p
  unfold gH u8
  rw [dF k]
  all_goals rfl
 rw [e]
 exact h6
theorem bX.cx (h:bX X an c k i):bX (cxC X N' sc C) an c k i:=⟨h.ci,h.cls,h.na,h.wh,h.nm,h.nd,h.xc⟩
theorem CxOk.inner (k:CxOk T X nm N) (L:Lcn X sc n N') (nd:N'.Nodup) :CxOk T (cxC X N' sc C) (dZ nm sc) N' where
 hN:=rfl
 nd:=nd
 sc:=dF k
 kd:=L.kind
 calm:=k.calm
 fns:=fun j x h=>let ⟨n,f,h1,h2,h3⟩:=k.fns j x h;⟨n,f,bB.to (X:=X) h1,h2,h3⟩
 gls:=k.gls
 tbs:=k.tbs
 blt:=k.blt
 cls:=fun c cl h=>let ⟨i,h1⟩:=k.cls c cl h;⟨i,h1.cx⟩
 mts:=fun q h=>let ⟨n,f,h1,h2,⟨i,cl,a,b,c⟩⟩:=k.mts q h;⟨n,f,bB.to (X:=X) h1,h2,⟨i,cl,a,b.cx,c⟩⟩
 nws:=fun j x h hz=>let ⟨n,f,i,cl,h1,h2⟩:=k.nws j x h hz;⟨n,f,i,cl,bB.to (X:=X) h1,h2⟩
 nds:=fun j x h hz=>let ⟨n,f,fd,ps,i,cl,h1,h2⟩:=k.nds j x h hz;⟨n,f,fd,ps,i,cl,FnI.to (X:=X) h1,h2⟩
 hxs:=k.hxs
 fr:=⟨k.fr.fr,k.fr.frame⟩
 vxs:=k.vxs
def x9 (g:∀ e,Option (GT T nm N e)):(ifs:List Expr)→Option {c:E // ∀ X,CxOk T X nm N→LTs X ifs c}
 | []=>some ⟨.c (.bl true),fun X k=>rz⟩
 | [c]=>(g c).map fun x=>⟨x.1,fun X k=>rA (x.2 X k)⟩
 | _=>none
def vK (f:au T) (g:fH T) (nm:NK) (N:List Str) (ee tg iter:Expr) (ifs:List Expr) (sc:Scope):Option {q:(List Nat×Bool)×E×E×E // ∀ X,CxOk T X nm N→LcP X (iR (dI tg) N) ee tg iter ifs sc q.1.1 q.1.2 q.2.1 q.2.2.1 q.2.2.2}:=do
 let it ← sy (f nm N) tg iter
 let q ← tgP false (dZ nm sc) (iR (dI tg) N) tg
 let h0 ← yes (q.1.1.all fun i=>decide (i<q.1.1.length))
 let hl ← yes (lcB nm N (iR (dI tg) N) sc q.1.1.length)
 let c ← x9 (g (dZ nm sc) (iR (dI tg) N)) ifs
 let e ← f (dZ nm sc) (iR (dI tg) N) ee
 let hn ← yes (ay iter)
 some ⟨(q.1,it.1,e.1,c.1),fun X k=>by
  obtain ⟨L,nd⟩:=wM k hl.down
  exact ⟨k.calm,k.fr,L,it.2 X k,fun C=>q.2.1 (cxC X _ sc C) ⟨k.calm,rfl,nd,dF k⟩,fun i m x e=>by rw [dF k];exact q.2.2 rfl i m x e,fun C=>c.2 _ (k.inner L nd),fun C=>(e.2 _ (k.inner L nd)).1,gu hn.down⟩⟩
def cLC (f:au T) (g:fH T) (nm:NK) (N:List Str) (ee tg iter:Expr) (ifs:List Expr) (sc:Scope) (pos:Pos):Option (GE T nm N (.ListComp ee [⟨tg,iter,ifs,0⟩] sc pos)):=
 (vK f g nm N ee tg iter ifs sc).map fun q=>⟨.lc q.1.1.1 q.1.1.2 q.1.2.1 q.1.2.2.1 q.1.2.2.2,fun X k=>mkf (iW (q.2 X k))⟩
end
theorem j8 (h:(match e with | .Compare ..=>false | .BoolOp ..=>false | .UnaryOp ..=>false | .IfExp ..=>false | .NamedExpr ..=>false | _=>true)=true):isTrue e env whole=(do let v ← whole;standAt e.pos;holding [v] (truthy v)):=by
 cases e <;> first | rfl | cases h
section
variable {T:Ns}
abbrev GC (T:Ns) (nm:NK) (N:List Str) (e:Expr):={c:E // ∀ X,CxOk T X nm N→(LE X e c∧fresh c=false)∧LT X e c}
def qk (f:au T) (nm:NK) (N:List Str) (a:Expr) (op:CmpOp) (b:Expr) (pos:Pos):Option (GC T nm N (.Compare a [op] [b] pos)):=do
 let o ← v8 op
 let hb ← yes (ay b)
 let x ← f nm N a
 let y ← f nm N b
 some ⟨.op o.1 x.1 y.1,fun X k=>⟨⟨ui (o.2 X) (x.2 X k).1 (y.2 X k).1 (dj hb.down),rfl⟩,uP (o.2 X) (x.2 X k).1 (y.2 X k).1 (dj hb.down)⟩⟩
def tL (f:au T) (nm:NK) (N:List Str) (a:Expr) (x:Str) (p pos:Pos):Option (GC T nm N (.Compare a [.In] [.Name x p] pos)):=do
 let hd ← no (x == ("__debug__":Str))
 let hg ← yes (bb nm x)
 let j ← aD x T.tb
 let y ← f nm N a
 some ⟨.tabin j.1 y.1,fun X k=>by
  obtain ⟨t,ad,h1,h2,h3⟩:=k.tbs j.1 x j.2
  exact ⟨⟨nY (aP k.sc hg.down) h2 h1 h3 (y.2 X k).1 hd.down rfl,rfl⟩,oE (aP k.sc hg.down) h2 h1 h3 (y.2 X k).1 hd.down rfl⟩⟩
def tM (f:au T) (nm:NK) (N:List Str) (a:Expr) (x:Str) (p pos:Pos):Option (GC T nm N (.Compare a [.NotIn] [.Name x p] pos)):=do
 let hd ← no (x == ("__debug__":Str))
 let hg ← yes (bb nm x)
 let j ← aD x T.tb
 let y ← f nm N a
 some ⟨.not (.tabin j.1 y.1),fun X k=>by
  obtain ⟨t,ad,h1,h2,h3⟩:=k.tbs j.1 x j.2
  exact ⟨⟨nZ (aP k.sc hg.down) h2 h1 h3 (y.2 X k).1 hd.down rfl,rfl⟩,oF (aP k.sc hg.down) h2 h1 h3 (y.2 X k).1 hd.down rfl⟩⟩
def xU (f:au T) (nm:NK) (N:List Str) (a:Expr) (b:Expr) (pos:Pos):Option (GC T nm N (.Compare a [.Eq] [b] pos)):=none
def sq (f:au T) (nm:NK) (N:List Str):(a:Expr)→(ops:List CmpOp)→(bs:List Expr)→(pos:Pos)→Option (GC T nm N (.Compare a ops bs pos))
 | a,[.Is],[.Constant .none j p],pos=>(f nm N a).map fun x=>⟨.isN x.1,fun X k=>⟨⟨ul (x.2 X k).1 rfl,rfl⟩,uQ (x.2 X k).1 rfl⟩⟩
 | a,[.IsNot],[.Constant .none j p],pos=>(f nm N a).map fun x=>⟨.isNN x.1,fun X k=>⟨⟨qI (x.2 X k).1 rfl,rfl⟩,ry (x.2 X k).1 rfl⟩⟩
 | a,[.NotIn],[.Name x p],pos=>(tM f nm N a x p pos).orElse fun _=>qk f nm N a .NotIn (.Name x p) pos
 | a,[.In],[.Name x p],pos=>(tL f nm N a x p pos).orElse fun _=>qk f nm N a .In (.Name x p) pos
 | a,[.Eq],[.Tuple es k p],pos=>(xU f nm N a (.Tuple es k p) pos).orElse fun _=>qk f nm N a .Eq (.Tuple es k p) pos
 | a,[op],[b],pos=>qk f nm N a op b pos
 | _,_,_,_=>none
def yl (f:au T) (nm:NK) (N:List Str) (x:Str) (p:Pos) (b:Expr) (pos:Pos):Option (GE T nm N (.Subscript (.Name x p) b pos)):=do
 let hd ← no (x == ("__debug__":Str))
 let hg ← yes (bb nm x)
 let j ← aD x T.tb
 let hb ← yes (ay b)
 let y ← f nm N b
 some ⟨.tab j.1 y.1,fun X k=>by
  obtain ⟨t,ad,h1,h2,h3⟩:=k.tbs j.1 x j.2
  exact mk (uz (aP k.sc hg.down) h2 h1 h3 (y.2 X k).1 (fq hb.down) hd.down fun _=>rfl)⟩
def cIx (f:au T) (nm:NK) (N:List Str) (a b:Expr) (pos:Pos):Option (GE T nm N (.Subscript a b pos)):=do
 let hb ← yes (ay b)
 let x ← f nm N a
 let y ← f nm N b
 some ⟨.ix x.1 y.1,fun X k=>mk (wO (x.2 X k).1 (y.2 X k).1 (fq hb.down))⟩
theorem mR (e:T.an i=x) (T':bt X T.an) (hy:LE X a y) (hs:aR a=true):LE X (.Attribute a x pos) (.fld y i):=by
 subst e
 exact uk T' vt hy (aq hs)
theorem fS (h:T.at_[i]? = some x):T.an i=x:=by unfold Ns.an;rw [List.getD_eq_getElem?_getD,h];rfl
def jw {nm:NK} {N:List Str} (f:∀ e,Option (GE T nm N e)) (x:Str) (p:Pos) (e:Expr) (er:List Expr) (pos:Pos):Option (GE T nm N (.Call (.Name x p) (e :: er) [] pos)):=((tG f x p e er pos).orElse fun _=>vN f x p (e :: er) pos).orElse fun _=>vO f x p (e :: er) pos
def cUn (f:au T) (nm:NK) (N:List Str) (a:Expr) (pos:Pos):(op:UnaryOp)→Option (GE T nm N (.UnaryOp op a pos))
 | .USub=>(f nm N a).map fun x=>⟨.neg x.1,fun X k=>mk (ut (x.2 X k).1)⟩
 | .Not=>(f nm N a).map fun x=>⟨.not x.1,fun X k=>mk (uv (x.2 X k).1)⟩
 | _=>none
def yi (f:au T) (nm:NK) (N:List Str) (a:Expr) (lo:Option Expr) (p2 pos:Pos):(hi st:Option Expr)→Option (GE T nm N (.Subscript a (.Slice lo hi st p2) pos))
 | hi,none=>do
   let x ← f nm N a
   let l ← vP (f nm N) lo
   let h ← vP (f nm N) hi
   some ⟨.sl x.1 l.1 h.1,fun X k=>mk (wS (x.2 X k).1 (l.2 X k) (h.2 X k))⟩
 | none,some st=>yh (f nm N) a lo st p2 pos
 | _,_=>none
def cTa (f:au T) (nm:NK) (N:List Str) (b:Expr) (pos:Pos):(a:Expr)→Option (GE T nm N (.Subscript a b pos))
 | .Name x p=>yl f nm N x p b pos
 | _=>none
def yk (f:au T) (nm:NK) (N:List Str) (a:Expr) (pos:Pos):(b:Expr)→Option (GE T nm N (.Subscript a b pos))
 | .Slice lo hi st p2=>yi f nm N a lo p2 pos hi st
 | b=>(cTa f nm N b pos a).orElse fun _=>cIx f nm N a b pos
def vV (f:au T) (nm:NK) (N:List Str) (x y:Str) (p p2:Pos) (a:Expr) (pos2 pos:Pos):Option (GE T nm N (.Call (.Name x p) [.Call (.Name y p2) [a] [] pos2] [] pos)):=none
def cRv (f:au T) (nm:NK) (N:List Str) (x:Str) (p:Pos) (pos:Pos):(a:Expr)→Option (GE T nm N (.Call (.Name x p) [a] [] pos))
 | .Call (.Name y p2) [a] [] pos2=>(yf (f nm N) x y p p2 a pos2 pos).orElse fun _=>vV f nm N x y p p2 a pos2 pos
 | _=>none
theorem qh:bootBuiltins "ValueError" = some (.type "ValueError"):=by decide +kernel
def vJ {nm:NK} {N:List Str} (f:∀ e,Option (GE T nm N e)) (y:Str) (p:Pos) (ea:Expr) (x:Str) (q pos:Pos):Option (GE T nm N (.Call (.Name y p) [ea,.Name x q] [] pos)):=do
 let hy ← isP "isinstance" y
 let hx ← isP "ValueError" x
 let g1 ← d4 T nm "isinstance"
 let g2 ← d4 T nm "ValueError"
 let hv ← yes T.vx
 let he ← yes (ay ea)
 let a ← f ea
 some ⟨.isXv a.1,fun X k=>by
  obtain rfl:=hy.down
  obtain rfl:=hx.down
  exact mk (qJ k.cls (aY k g1.down PyProof.Rows.boot_isinstance) (aY k g2.down qh) (k.vxs hv.down) (a.2 X k).1 (af he.down))⟩
def cIz (f:au T) (nm:NK) (N:List Str) (x:Str) (p:Pos) (a:Expr) (pos:Pos):(b:Expr)→Option (GE T nm N (.Call (.Name x p) [a,b] [] pos))
 | .Name y q=>((cIs (f nm N) x p a y q pos).orElse fun _=>yb (f nm N) x p a y q pos).orElse fun _=>vJ (f nm N) x p a y q pos
 | .Tuple [.Name x1 q1,.Name x2 q2,.Name x3 q3] k q=>ya (f nm N) x p a x1 x2 x3 q1 q2 q3 k q pos
 | _=>none
def xT (f:au T) (nm:NK) (N:List Str) (x:Str) (p:Pos) (pos:Pos):(args:List Expr)→Option (GE T nm N (.Call (.Name x p) args [] pos))
 | []=>vN (f nm N) x p [] pos
 | [a]=>(cRv f nm N x p pos a).orElse fun _=>jw (f nm N) x p a [] pos
 | [a,b]=>(cIz f nm N x p a pos b).orElse fun _=>jw (f nm N) x p a [b] pos
 | e :: er=>jw (f nm N) x p e er pos
def cSJ (f:au T) (nm:NK) (N:List Str) (m:Str) (ap:Pos) (args:List Expr) (pos:Pos):(o:Expr)→Option (GE T nm N (.Call (.Attribute o m ap) args [] pos))
 | .Constant (.str x) j p=>tJ (f nm N) x j p m ap args pos
 | _=>none
def xS (f:au T) (nm:NK) (N:List Str) (o:Expr) (m:Str) (ap:Pos) (args:List Expr) (pos:Pos):Option (GE T nm N (.Call (.Attribute o m ap) args [] pos)):=
 (((cSJ f nm N m ap args pos o).orElse fun _=>v6 (f nm N) m ap o args pos).orElse fun _=>xY (f nm N) o m ap args pos).orElse fun _=>yd (f nm N) o m ap args pos
def cMx (f:au T) (nm:NK) (N:List Str) (x y:Str) (p:Pos) (a b:Expr) (kp pos:Pos):Option (GE T nm N (.Call (.Name x p) [a] [⟨some y,b,kp⟩] pos)):=do
 let hx ← isP "max" x
 let hy ← isP "default" y
 let g ← d4 T nm "max"
 let he ← yes (ay a)
 let u ← f nm N a
 let w ← f nm N b
 some ⟨.bi .max0 (.cons u.1 (.cons w.1 .nil)),fun X k=>by
  obtain rfl:=hx.down
  obtain rfl:=hy.down
  exact mk (qM k.calm (aY k g.down boot_max) (u.2 X k).1 (w.2 X k).1 (af he.down))⟩
def xZ (f:au T) (nm:NK) (N:List Str) (o:Expr) (m:Str) (ap:Pos):(args:List Expr)→(pos:Pos)→Option (GE T nm N (.Call (.Attribute o m ap) args [] pos)):=fun _ _=>none
def cSm (f:au T) (nm:NK) (N:List Str) (o:Expr) (m:Str) (ap pos:Pos):(args:List Expr)→Option (GE T nm N (.Call (.Attribute o m ap) args [] pos))
 | []=>do
   let hp ← yes (ap.endLine == pos.line)
   let hs ← yes (aR o)
   let a ← f nm N o
   match isP "isdigit" m,isP "pop" m with
   | some hm,_=>some ⟨.sm .dig a.1,fun X k=>by obtain rfl:=hm.down;exact mk (uj (a.2 X k).1 (aq hs.down) hp.down)⟩
   | _,some hm=>some ⟨.pop a.1,fun X k=>by obtain rfl:=hm.down;exact mk (uw (a.2 X k).1 (aq hs.down) hp.down)⟩
   | _,_=>none
 | [.Constant (.str y) j p]=>do
   let hp ← yes (ap.endLine == pos.line)
   let hs ← yes (aR o)
   let a ← f nm N o
   match isP "split" m,isP "startswith" m with
   | some hm,_=>some ⟨.sm (.spl y) a.1,fun X k=>by obtain rfl:=hm.down;exact mk (ux (a.2 X k).1 (aq hs.down) hp.down)⟩
   | _,some hm=>some ⟨.sm (.sta y) a.1,fun X k=>by obtain rfl:=hm.down;exact mk (uy (a.2 X k).1 (aq hs.down) hp.down)⟩
   | _,_=>none
 | _=>none
def cCl (f:au T) (nm:NK) (N:List Str) (pos:Pos) (args:List Expr):(fn:Expr)→(kw:List Keyword)→Option (GE T nm N (.Call fn args kw pos))
 | .Name x p,[]=>xT f nm N x p pos args
 | .Attribute o m ap,[]=>((cSm f nm N o m ap pos args).orElse fun _=>xZ f nm N o m ap args pos).orElse fun _=>xS f nm N o m ap args pos
 | .Name x p,[⟨some y,b,kp⟩]=>(match args with | [a]=>cMx f nm N x y p a b kp pos | _=>none)
 | _,_=>none
def cF2 (f:au T) (nm:NK) (N:List Str) (x:Str) (j1:Nat) (p1 pos:Pos):(b c:Expr)→Option (GE T nm N (.JoinedStr [.Constant (.str x) j1 p1,b,c] pos))
 | .FormattedValue e (.negSucc 0) none p2,.Constant (.str y) j2 p3=>xX (f nm N) x j1 p1 e p2 y j2 p3 pos
 | _,_=>none
def cJs (f:au T) (nm:NK) (N:List Str) (pos:Pos):(es:List Expr)→Option (GE T nm N (.JoinedStr es pos))
 | [.Constant (.str x) j1 p1,b,c]=>cF2 f nm N x j1 p1 pos b c
 | _=>none
def cDi (f:au T) (nm:NK) (N:List Str) (pos:Pos):(ks:List (Option Expr))→(vs:List Expr)→Option (GE T nm N (.Dict ks vs pos))
 | [],[]=>some ⟨.dic .nil,fun X k=>mkf qS⟩
 | ks,vs=>vG (f nm N) ks vs pos
def snI (T:Ns) (N:List Str):Expr→Option Nat
 | .Name x _=>if T.rl.contains x then (aD x N).map (·.1) else none
 | .Call (.Name y _) (.Name x _ :: _) _ _=>if T.rl.contains x && y != "len" && y != "range" then (aD x N).map (·.1) else none
 | _=>none
def yc (f:au T) (g:fH T) (nm:NK) (N:List Str) (ee:Expr) (sc:Scope) (pos:Pos):(gs:List Comprehension)→Option (GE T nm N (.ListComp ee gs sc pos))
 | [⟨tg,iter,ifs,0⟩]=>(cLC f g nm N ee tg iter ifs sc pos).map fun a=>match snI T N iter with | some i=>snW i a | none=>a
 | _=>none
def vL (f:au T) (nm:NK) (N:List Str) (b:Expr) (pos:Pos):(a:Expr)→(op:Operator)→Option (GE T nm N (.BinOp a op b pos))
 | .Constant (.str y) j p,.Mult=>(f nm N b).map fun x=>⟨.sm (.mulc y) x.1,fun X k=>mk (qO (x.2 X k).1)⟩
 | _,_=>none
def xz (f:au T) (g:fH T) (nm:NK) (N:List Str):(e:Expr)→Option (GE T nm N e)
 | .Name x pos=>vM T nm N x pos
 | .Constant c j pos=>tH T nm N c j pos
 | .BinOp a op b pos=>(vL f nm N b pos a op).orElse fun _=>do
   let o ← opP op
   let x ← f nm N a
   let y ← f nm N b
   some ⟨.op o.1 x.1 y.1,fun X k=>mk (wQ (o.2 X) (x.2 X k).1 (y.2 X k).1)⟩
 | .UnaryOp op a pos=>cUn f nm N a pos op
 | .BoolOp .And es pos=>do
   let x ← sk (f nm N) pos es
   let h ← no (fresh x.1)
   some ⟨x.1,fun X k=>mk (x.2 X k) h.down⟩
 | .BoolOp .Or es pos=>do
   let x ← vR (f nm N) pos es
   let h ← no (fresh x.1)
   some ⟨x.1,fun X k=>mk (x.2 X k) h.down⟩
 | .IfExp c a b pos=>do
   let t ← g nm N c
   let x ← f nm N a
   let y ← f nm N b
   some ⟨.ite t.1 x.1 y.1,fun X k=>mk (uo (t.2 X k) (x.2 X k).1 (y.2 X k).1)⟩
 | .Compare a ops bs pos=>(sq f nm N a ops bs pos).map fun x=>⟨x.1,fun X k=>mk (x.2 X k).1.1 (x.2 X k).1.2⟩
 | .Tuple es n pos=>(dz (f nm N) es).map fun x=>⟨.tup x.1,fun X k=>mk (n7 (x.2 X k))⟩
 | .List es pos=>(dz (f nm N) es).map fun x=>⟨.lst x.1,fun X k=>mkf (uE (x.2 X k))⟩
 | .Subscript a b pos=>yk f nm N a pos b
 | .Attribute a x pos=>do
   let i ← aD x T.at_
   let hs ← yes (aR a)
   let y ← f nm N a
   some ⟨.fld y.1 i.1,fun X k=>mk (mR (fS i.2) k.cls (y.2 X k).1 hs.down)⟩
 | .Call fn args kw pos=>cCl f nm N pos args fn kw
 | .JoinedStr es pos=>cJs f nm N pos es
 | .Dict keys vals pos=>cDi f nm N pos keys vals
 | .ListComp ee gs sc pos=>yc f g nm N ee sc pos gs
 | _=>none
def xA (f:au T) (g:fH T) (nm:NK) (N:List Str):(e:Expr)→Option (GT T nm N e)
 | .UnaryOp .Not a pos=>(g nm N a).map fun x=>⟨.tnot x.1,fun X k=>uR (x.2 X k)⟩
 | .BoolOp .And es pos=>(sj (g nm N) pos es).map fun x=>⟨x.1,fun X k=>sS (x.2 X k)⟩
 | .BoolOp .Or es pos=>(vQ (g nm N) pos es).map fun x=>⟨x.1,fun X k=>sS (x.2 X k)⟩
 | .Compare a ops bs pos=>(sq f nm N a ops bs pos).map fun x=>⟨x.1,fun X k=>(x.2 X k).2⟩
 | e=>do
   let h ← yes (match e with | .Compare ..=>false | .BoolOp ..=>false | .UnaryOp ..=>false | .IfExp ..=>false | .NamedExpr ..=>false | _=>true)
   let x ← f nm N e
   some ⟨.tv x.1,fun X k=>wW (x.2 X k).1 fun w=>j8 h.down⟩
theorem uf:LE X e .nil:=fun br z I nb=>absurd rfl nb
theorem uO:LT X e .nil:=fun z I nb=>absurd rfl nb
def lE (T:Ns):Nat→au T×fH T
 | 0=>(fun _ _ _=>none,fun _ _ _=>none)
 | k+1=>(fun nm N e=>some ((xz (lE T k).1 (lE T k).2 nm N e).getD ⟨.nil,fun X _=>mk uf⟩),fun nm N e=>some ((xA (lE T k).1 (lE T k).2 nm N e).getD ⟨.nil,fun X _=>uO⟩))
end
section
variable {α β:Type} {X:Cx} {z z0 z1:Z}
def Cx.on (X:Cx):Cx:={ X with tz:=1 }
theorem Rep.on (I:Rep X z) (h:0<z.s.toks):Rep X.on z:=⟨⟨I.md,I.fm,I.hd,I.bs,I.gh,I.rl,I.rn,I.rg,I.ob,I.fu,I.ff,I.br,I.os,h⟩,⟨I.ok.un,I.ok.kd,I.ok.gl,I.ok.bl,I.ok.ci,I.ok.ch⟩,I.lo,I.ce,I.fl,I.el,I.sl,I.en,I.eo,I.od⟩
theorem Rep.dn (I:Rep X.on z) (h:X.tz≤z.s.toks):Rep X z:=⟨⟨I.md,I.fm,I.hd,I.bs,I.gh,I.rl,I.rn,I.rg,I.ob,I.fu,I.ff,I.br,I.os,h⟩,⟨I.ok.un,I.ok.kd,I.ok.gl,I.ok.bl,I.ok.ci,I.ok.ch⟩,I.lo,I.ce,I.fl,I.el,I.sl,I.en,I.eo,I.od⟩
theorem Go.dn (g:Go X.on z z1):Go X z z1:=⟨g.st,g.ow⟩
theorem Ps.dn {o:ah} {f:Flow} {s':Shared} (tk:X.tz≤s'.toks) (h:Ps X.on z o f s'):Ps X z o f s':=by
 cases o with
 | nx t=>obtain ⟨e,z',rfl,b,y,I⟩:=h;exact ⟨e,z',rfl,b,y.dn,I.dn tk⟩
 | rt d t=>obtain ⟨u,z',e,rfl,b,y,I,r⟩:=h;exact ⟨u,z',e,rfl,b,y.dn,I.dn tk,r⟩
 | exc c l t=>exact h.elim
 | bad=>exact h.elim
theorem PxS.dn {o:ah} {e:Value} {s':Shared} (tk:X.tz≤s'.toks) (h:PxS X.on z o e s'):PxS X z o e s':=by
 obtain ⟨z',c,l,rfl,b,y,I,a,cls,dx,q,r,n,w⟩:=h
 exact ⟨z',c,l,rfl,b,y.dn,I.dn tk,a,cls,dx,q,r,n,w⟩
def JgT (X:Cx) (t:Sem β) (m:Sta→Out α) (R:Z→α→β→Prop):Prop:=∀ z,Rep X z→m z.t≠.bad→wpAny X.M X.A t (fun u s'=>Pe X z (m z.t) R u s'∧0<s'.toks) (Px X z (m z.t)) z.s
theorem JgT.go {γ:Type} {t:Sem β} {m:Sta→Out α} {R:Z→α→β→Prop} {f:α→Sta→Out γ} {o:Out γ} {K:β→Shared→Prop} (h:JgT X t m R) (x:Ee X z z1) (I:Rep X z1) (e:o=(m z1.t).bind f) (nb:o≠.bad)
 (k:∀ z2 d u,Ee X z1 z2→Ee X z z2→Rep X z2→R z2 d u→o=f d z2.t→0<z2.s.toks→K u z2.s):wpAny X.M X.A t K (Px X z o) z1.s:=by
 subst e
 refine wpAny_mono (h z1 I fun q=>nb (by rw [q];rfl)) (fun u s' ⟨⟨z2,d,e,q,y,I1,r⟩,tk⟩=>?_) fun u s' h=>(h.less x).map
 subst e;exact k z2 d u y (x.trans y) I1 r (by rw [q];rfl) tk
theorem JgT.gos {t:Sem β} {m:Sta→Out α} {R:Z→α→β→Prop} {f:α→Sta→ah} {o:ah} {K:β→Shared→Prop} (h:JgT X t m R) (x:Go X z z1) (I:Rep X z1) (e:o=(m z1.t).go f) (nb:o≠.bad)
 (k:∀ z2 d u,Ee X z1 z2→Go X z z2→Rep X z2→R z2 d u→o=f d z2.t→0<z2.s.toks→K u z2.s):wpAny X.M X.A t K (PxS X z o) z1.s:=by
 subst e
 refine wpAny_mono (h z1 I fun q=>nb (by rw [q];rfl)) (fun u s' ⟨⟨z2,d,e,q,y,I1,r⟩,tk⟩=>?_) fun u s' h=>.of x h
 subst e;exact k z2 d u y (x.trans y.go) I1 r (by rw [q];rfl) tk
theorem u6 {t:Sem Value} {o:Out D} {od:Option D} {br:Bool} {c:E} (x:Ee X z0 z) (I:Rep X z) (e:o=Out.of z.t od) (nb:o≠.bad) (h:∀ d,od=some d→wpAny X.M X.A t (fun v s'=>Dn X z d v s'∧0<s'.toks) (fun _ _=>False) z.s):wpAny X.M X.A t (fun u s'=>Pe X z0 o (RV X.W br c) u s'∧0<s'.toks) (Px X z0 o) z.s:=by
 cases od with
 | none=>exact absurd e nb
 | some d=>exact wpAny_mono (wpAny_toks_of I.tk (h d rfl)) (fun _ _ h=>⟨h.2.1.at x I e h.1,h.2.2⟩) fun _ _ z=>z.2.elim
theorem pX (z:Z) (u:Value) (x d:D) (h:CR X.W z x u) (e:cX .len x=some d) (I:Rep X z):wpAny X.M X.A (call (.builtin "len") [u]) (fun v s'=>Dn X z d v s'∧0<s'.toks) NoE z.s:=by
 have hn:=eW
 cases x with
 | tup l=>cases e;obtain ⟨a,o,vs,rfl,e1,t,r⟩:=h;have:=t.2.2;rw [r.len];exact len_tuple (tpt (I.gh _ _ e1) t) (by rw [List.size_toArray];omega) ⟨.tok fun _ _ _=>⟨_,rfl⟩,Nat.succ_pos _⟩
 | lst l=>cases e;obtain ⟨a,o,vs,rfl,e1,t,r⟩:=h;have:=t.2;rw [r.len];exact Calls.call_len_list (lsl e1 t) (by rw [List.size_toArray];omega) ⟨.tok fun _ _ _=>⟨_,rfl⟩,Nat.succ_pos _⟩
 | str y=>
   obtain ⟨hz,rfl⟩:=aI (show (if y.length≤100000 then some (D.int y.length) else none)=some d from e)
   obtain ⟨t,rfl⟩:=h;have:=big hz
   exact len_str (by omega) ⟨.tok fun _ _ _=>⟨_,rfl⟩,Nat.succ_pos _⟩
 | dic ks ds=>
   obtain ⟨hz,rfl⟩:=aI (show (if ks.length≤100000 then some (D.int ks.length) else none)=some d from e)
   obtain ⟨a,o,vs,rfl,m,e1,c1,l1,r1⟩:=h
   have n1:(ks.zip vs).length=ks.length:=by rw [List.length_zip,← r1.len,l1,Nat.min_self]
   have:=big hz
   refine call_len_dict m (c1.of e1) (by rw [n1];omega) ?_
   rw [n1]
   exact ⟨.tok fun _ _ _=>⟨_,rfl⟩,Nat.succ_pos _⟩
 | _=>cases e
theorem qL (hx:Blt X "len" (.builtin "len")) (ha:LE X ea a) (he:starEach [ea] X.env=(false,eval ea X.env) :: starEach [] X.env):JgT X (eval (.Call (.Name "len" p) [ea] [] pos) X.env) (X.ev true (.bi .len (.cons a .nil))) (RV X.W true (.bi .len (.cons a .nil))):=fun z I nb=>
 aG (.inl ⟨_,rfl⟩) hx he rfl I (Calls.spliced_cons ((ha true).go .refl I (ev1 fun l s=>Out.of s (biD .len (l.map (look s.st)))) nb fun z1 x u y1 x1 I1 r1 e1=>Calls.spliced_nil (u6 x1 I1 e1 nb fun d q=>pX z1 _ _ d (r1.rb.cr I1) q I1)))
theorem rr {o:Op} (ho:Op2 X (compareOp op) (opD o)) (ha:JgT X (eval ea X.env) (X.ev true a) (RV X.W true a)) (hb:LE X eb b) (hm:behindInMarks op eb=false):JgT X (isTrue (.Compare ea [op] [eb] pos) X.env (eval (.Compare ea [op] [eb] pos) X.env)) (fun t=>(X.ev true (.op o a b) t).bind toB) RT:=fun z I nb=>
 wpAny_isTrue_Compare1 (ha.go .refl I (ak ..) nb fun z1 x u y1 x1 I1 r1 e1 tk=>aL (n:=1) tk ((hb true).go x1 I1 (e1.trans (ak ..)) nb fun z2 y v y2 x2 I2 r2 e2 tk2=>by
  cases q:opD o (look z2.t.st x) (look z2.t.st y) with
  | none=>rw [q] at e2;exact absurd e2 nb
  | some d=>rw [q] at e2;exact wpAny_mono (wpAny_toks_of I2.tk (wpAny_toks_of (n:=1) tk2 (ho z2 u v _ _ d I2 ((r1.rb.st y2 I2).cr I2) (r2.rb.cr I2) q))) (fun c s' k=>wpAny_mono (wpAny_toks_of (n:=1) k.2.1 (k.2.2.tru x2 I2 e2 nb k.1)) (fun _ _ k=>⟨k.2,k.1⟩) fun _ _ k=>k.2) fun _ _ z=>z.2.2.elim)) hm
def LS0 (X:Cx) (st:Stmt) (c:S):Prop:=∀ z,Rep X z→X.ex c z.t≠.bad→wpAny X.M X.A (exec st X.env) (fun f s'=>Ps X z (X.ex c z.t) f s'∧0<s'.toks) (PxS X z (X.ex c z.t)) z.s
theorem uM (hc:JgT X (isTrue ec X.env (eval ec X.env)) (fun t=>(X.ev true c t).bind toB) RT) (ha:LSs X sa a) (hb:LSs X sb b):LS0 X (.If ec sa sb pos) (.ifs c a b):=fun z I nb=>by
 have e:X.ex (.ifs c a b) z.t=((X.ev true c z.t).bind toB).go fun t s=>if t then X.ex a s else X.ex b s:=by
  show Out.go (X.ev true c z.t) _=_
  cases X.ev true c z.t with
  | ok d s=>cases d <;> first | rfl | (rename_i t;cases t <;> rfl)
  | _=>rfl
 refine wpAny_If (hc.gos .refl I e nb fun z1 t u y x I1 r e1 tk=>?_)
 cases (show u=t from r)
 cases t with
 | true=>exact wpAny_mono (wpAny_toks_of (n:=1) tk (ha.at x I1 e1 nb)) (fun _ _ k=>⟨k.2,k.1⟩) fun _ _ k=>k.2
 | false=>exact wpAny_mono (wpAny_toks_of (n:=1) tk (hb.at x I1 e1 nb)) (fun _ _ k=>⟨k.2,k.1⟩) fun _ _ k=>k.2
theorem ou (h1:LS0 X tm a) (h2:LS X.on tn b) (h3:LSs X rest c):LSs X (tm :: tn :: rest) (.seq a (.seq b c)):=fun z I nb=>by
 have nb1:X.ex a z.t≠.bad:=fun q=>nb (show ah.go (X.ex a z.t) _=_ by rw [q];rfl)
 refine wpAny_execs_cons (wpAny_mono (h1 z I nb1) (fun f s1 ⟨q,tk⟩=>?_) fun u s' ⟨z',c,l,e,q,y,J,r⟩=>⟨z',c,l,e,show ah.go (X.ex a z.t) _=_ by rw [q];rfl,y,J,r⟩)
 cases qa:X.ex a z.t with
 | nx t=>
   rw [qa] at q
   obtain ⟨rfl,z1,rfl,rfl,x1,I1⟩:=q
   have e1:X.ex (.seq a (.seq b c)) z.t=(X.ex b z1.t).go fun s=>X.ex c s:=show ah.go (X.ex a z.t) _=_ by rw [qa];rfl
   have nb2:X.ex b z1.t≠.bad:=fun q=>nb (by rw [e1,q];rfl)
   refine wpAny_execs_cons (wpAny_mono (wpAny_toks_of I1.tk (h2 z1 (I1.on tk) nb2)) (fun f s2 ⟨tk2,q⟩=>?_) fun u s' ⟨tk2,w⟩=>?_)
   ·have q:=Ps.dn tk2 q
    cases qb:X.ex b z1.t with
    | nx t=>
      rw [show X.on.ex b z1.t=X.ex b z1.t from rfl,qb] at q
      obtain ⟨rfl,z2,rfl,rfl,x2,I2⟩:=q
      exact h3.at (x1.trans x2) I2 (e1.trans (by rw [qb];rfl)) nb
    | rt d t=>
      have e:=e1.trans (show _=ah.rt d t by rw [qb];rfl)
      rw [show X.on.ex b z1.t=X.ex b z1.t from rfl,qb] at q
      obtain ⟨u,z2,rfl,s2,s3,y,r⟩:=q
      show Ps X z (X.ex (.seq a (.seq b c)) z.t) (.ret u) _
      rw [e];exact ⟨u,z2,rfl,s2,s3,x1.trans y,r⟩
    | exc c l t=>rw [show X.on.ex b z1.t=X.ex b z1.t from rfl,qb] at q;exact q.elim
    | bad=>exact absurd qb nb2
   ·obtain ⟨z',c',l,e,q,y,J,r⟩:=PxS.dn tk2 w
    exact ⟨z',c',l,e,e1.trans (by rw [show X.ex b z1.t = .exc c' l z'.t from q];rfl),x1.trans y,J,r.less fun a n=>x1.st.no n⟩
 | rt d t=>
   have e:X.ex (.seq a (.seq b c)) z.t = .rt d t:=show ah.go (X.ex a z.t) _=_ by rw [qa];rfl
   rw [qa] at q
   obtain ⟨u,z1,rfl,r⟩:=q
   show Ps X z (X.ex (.seq a (.seq b c)) z.t) (.ret u) s1
   rw [e];exact ⟨u,z1,rfl,r⟩
 | exc c l t=>rw [qa] at q;exact q.elim
 | bad=>exact absurd qa nb1
end
def RaP (X:Cx) (j:Nat) (x:Str):Prop:=∃ (lv:Nat) (k:Cl) (i:CI) (fI:Addr) (fd:FuncData) (ps:List Str) (Bx nwI iniI:String) (bmB:List Value),ExcBaseFacts Bx nwI iniI bmB∧fG X.K i.ad fI bmB nwI∧FnJ X lv fI fd ps i.nm k i.ad∧bI X.K fd ps []∧aW (lv+1) X.A∧eA X.K i.ad∧(∀ f∈i.nm,PySem.W.findIn X.K (.ref i.ad) f=some none)∧X.Γ.cl[j]? = some k∧X.W.ci[j]? = some i∧X.W.what[j]? = some 2∧i.nm.length=k.at_.length∧PySem.W.mroIn X.K i.ad (.type "BaseException")=some true∧PySem.W.typeIn X.K (.ref i.ad)=some (.type "type")∧PySem.W.keepIn X.K (.ref i.ad)=true∧X.mg x=some (.ref i.ad)∧k.at_.isEmpty=false
def RtP (X:Cx) (j:Nat) (x:Str):Prop:=∃ (k:Cl) (i:CI) (Bx nwI iniI:String) (bmB:List Value),ExcBaseFacts Bx nwI iniI bmB∧ka X.K i.ad bmB nwI∧X.Γ.cl[j]? = some k∧k.at_.isEmpty=true∧X.W.ci[j]? = some i∧X.W.what[j]? = some 2∧X.mg x=some (.ref i.ad)
structure CxS (T:Ns) (X:Cx) (nm:NK) (N:List Str):Prop extends CxOk T X nm N where
 rs:∀ (j:Nat) (x:Str),T.ex[j]? = some x→x≠""→RaP X j x
 rt:∀ (j:Nat) (x:Str),T.xt[j]? = some x→x≠""→RtP X j x
abbrev GS (T:Ns) (nm:NK) (N:List Str) (st:Stmt):={c:S // ∀ X,CxS T X nm N→LS X st c}
abbrev GSs (T:Ns) (nm:NK) (N:List Str) (st:List Stmt):={c:S // ∀ X,CxS T X nm N→LSs X st c}
def hZ:Expr→Bool
 | .ListComp ..=>false
 | .SetComp ..=>false
 | .DictComp ..=>false
 | _=>true
theorem dD (h:hZ e=true):swapsWith e t l env=pure false:=by
 cases e <;> first | rfl | cases h
theorem oM :swapsWithSole [.Tuple es k p] e l env=pure false:=by
 cases e <;> rfl
def sU:Expr→Bool
 | .Tuple ..=>false
 | _=>true
theorem lU (h:sU e=true):swappedStores [.Tuple es k p] e env=pure none:=by
 cases e <;> first | rfl | cases h
section
variable {T:Ns} {nm:NK} {N:List Str}
theorem CxOk.tg (k:CxOk T X nm N):TgH nm N X:=⟨k.calm,k.hN,k.nd,k.sc⟩
theorem CxOk.at {i:Nat} {x:Str} (k:CxOk T X nm N) (h:N[i]? = some x):X.N[i]? = some x:=by rw [k.hN];exact h
theorem CxOk.ndx (k:CxOk T X nm N):X.N.Nodup:=by rw [k.hN];exact k.nd
def sA (f:au T) (nm:NK) (N:List Str) (x:Str) (p:Pos) (pos:Pos) (e:Expr):Option (GS T nm N (.Assign [.Name x p] e pos)):=do
 let i ← aD x N
 let hl ← yes (d9 true nm x)
 let hn ← yes (hZ e)
 let a ← f nm N e
 some ⟨.set i.1 a.1,fun X k=>eY k.ndx (k.at i.2) (dq k.tg hl.down) (a.2 X k.toCxOk).1 (a.2 X k.toCxOk).2 (dD hn.down)⟩
def yg (f:au T) (g:fH T) (nm:NK) (N:List Str) (x:Str) (p:Pos) (pos:Pos):(e:Expr)→Option (GS T nm N (.Assign [.Name x p] e pos))
 | .ListComp ee [⟨tg,iter,ifs,0⟩] sc pos2=>do
   let i ← aD x N
   let hl ← yes (d9 true nm x)
   let q ← vK f g nm N ee tg iter ifs sc
   some (match snI T N iter with | some j=>⟨.set i.1 (.snap j (.lc q.1.1.1 q.1.1.2 q.1.2.1 q.1.2.2.1 q.1.2.2.2)),fun X k=>lQ k.ndx (k.at i.2) (dq k.tg hl.down) (q.2 X k.toCxOk)⟩ | none=>⟨.set i.1 (.lc q.1.1.1 q.1.1.2 q.1.2.1 q.1.2.2.1 q.1.2.2.2),fun X k=>oB k.ndx (k.at i.2) (dq k.tg hl.down) (q.2 X k.toCxOk)⟩)
 | .List es lp=>(match lR x T.rf with
   | some _=>do
     let i ← aD x N
     let hl ← yes (d9 true nm x)
     let a ← dz (f nm N) es
     some ⟨.setR i.1 a.1,fun X k=>rp k.ndx (k.at i.2) (dq k.tg hl.down) (a.2 X k.toCxOk) (dD rfl)⟩
   | none=>sA f nm N x p pos (.List es lp))
 | e=>sA f nm N x p pos e
def xP (f:au T) (nm:NK) (N:List Str) (x:Str) (p:Pos) (m:Str) (ap:Pos) (e:Expr) (cp pos:Pos):Option (GS T nm N (.Expr (.Call (.Attribute (.Name x p) m ap) [e] [] cp) pos)):=do
 let hm ← isP "append" m
 let i ← aD x N
 let hl ← yes (cA nm x)
 let hd ← no (x == ("__debug__":Str))
 let hc ← no (x == ("__classdict__":Str))
 let he ← yes (ay e)
 let hp ← yes (ap.endLine == cp.line)
 let a ← f nm N e
 some ⟨.app i.1 a.1,fun X k=>by
  obtain rfl:=hm.down
  exact uH (k.at i.2) (bg k.sc hl.down) hd.down hc.down (a.2 X k.toCxOk).1 ⟨aq rfl,by rw [af he.down];rfl,hp.down,by rw [af he.down];rfl⟩⟩
def sr (f:au T) (nm:NK) (N:List Str) (o:Expr) (m:Str) (ap:Pos) (e:Expr) (cp pos:Pos):Option (GS T nm N (.Expr (.Call (.Attribute o m ap) [e] [] cp) pos)):=do
 let hm ← isP "append" m
 let he ← yes (ay e)
 let hp ← yes (ap.endLine == cp.line)
 let hs ← yes (aR o)
 let b ← f nm N o
 let a ← f nm N e
 some ⟨.fapp b.1 0 a.1,fun X k=>by
  obtain rfl:=hm.down
  exact qY (b.2 X k.toCxOk).1 (a.2 X k.toCxOk).1 ⟨aq hs.down,by rw [af he.down];rfl,hp.down,by rw [af he.down];rfl⟩⟩
def vH (f:au T) (nm:NK) (N:List Str) (o:Expr) (m:Str) (ap:Pos) (e:Expr) (cp pos:Pos):Option (GS T nm N (.Expr (.Call (.Attribute o m ap) [e] [] cp) pos)):=do
 let hm ← isP "extend" m
 let he ← yes (ay e)
 let hp ← yes (ap.endLine == cp.line)
 let hs ← yes (aR o)
 let b ← f nm N o
 let a ← f nm N e
 some ⟨.fext b.1 a.1,fun X k=>by
  obtain rfl:=hm.down
  exact qZ (b.2 X k.toCxOk).1 (a.2 X k.toCxOk).1 ⟨aq hs.down,by rw [af he.down];rfl,hp.down,by rw [af he.down];rfl⟩⟩
def xV (f:au T) (nm:NK) (N:List Str) (x:Str) (p:Pos) (m:Str) (ap:Pos) (e:Expr) (cp pos:Pos):Option (GS T nm N (.Expr (.Call (.Attribute (.Name x p) m ap) [e] [] cp) pos)):=none
def mF (f:au T) (nm:NK) (N:List Str) (e:Expr) (pos:Pos):Option (GS T nm N (.Expr e pos)):=do
 let hn ← yes (hZ e)
 let a ← f nm N e
 some ⟨.drop a.1,fun X k=>qX (a.2 X k.toCxOk).1 (dD hn.down)⟩
def vZ (f:au T) (nm:NK) (N:List Str) (j:Nat) (p:Pos) (k:Nat) (q pos:Pos):(ts vs:List Expr)→Option (GS T nm N (.Assign [.Tuple ts j p] (.Tuple vs k q) pos)):=fun _ _=>none
def ye (f:au T) (nm:NK) (N:List Str) (x:Str) (p:Pos) (eb:Expr) (p2:Pos) (ee:Expr) (pos:Pos):Option (GS T nm N (.Assign [.Subscript (.Name x p) eb p2] ee pos)):=do
 let i ← aD x N
 let hl ← yes (cA nm x)
 let hd ← no (x == ("__debug__":Str))
 let hc ← no (x == ("__classdict__":Str))
 let hn ← yes (ay eb)
 let b ← f nm N eb
 let e ← f nm N ee
 some ⟨.put (.v i.1) b.1 e.1,fun X k=>rm (k.at i.2) (bg k.sc hl.down) hd.down hc.down hn.down (b.2 X k.toCxOk).1 (e.2 X k.toCxOk).1⟩
def vS (f:au T) (nm:NK) (N:List Str) (eo eb:Expr) (p2:Pos) (ee:Expr) (pos:Pos):Option (GS T nm N (.Assign [.Subscript eo eb p2] ee pos)):=do
 let hn ← yes (ay eb)
 let o ← f nm N eo
 let hv ← no (isV o.1)
 let b ← f nm N eb
 let e ← f nm N ee
 some ⟨.put o.1 b.1 e.1,fun X k=>rj hn.down hv.down (o.2 X k.toCxOk).1 (b.2 X k.toCxOk).1 (e.2 X k.toCxOk).1⟩
def tI (f:au T) (nm:NK) (N:List Str) (x:Str) (np:Pos):(args:List Expr)→(cp pos:Pos)→Option (GS T nm N (.Raise (some (.Call (.Name x np) args [] cp)) none pos))
 | [],_,_=>none
 | e :: er,cp,pos=>do
   let j ← aD x T.ex
   let hz ← no (x == ("":Str))
   let hn ← yes ((e :: er).all ay)
   let hg ← yes (bb nm x)
   let hd ← no (x == ("__debug__":Str))
   let a ← dz (f nm N) (e :: er)
   some ⟨.rais j.1 a.1,fun X k=>by
    obtain ⟨lv,cl,i,fI,fd,ps,Bx,nwI,iniI,bmB,h1,h2,h3,h4,h5,h6,h7,h8,h9,h10,h11,h12,h13,h14,h15,h16⟩:=k.rs j.1 x j.2 (by simpa using hz.down)
    have hn':=List.all_eq_true.mp hn.down
    obtain ⟨ck,h3,hk⟩:=h3
    exact oA h1 h2 h3 hk h4 h5 h6 h7 h8 h9 h10 h11 h16 h12 h13 h14 k.calm (aP k.sc hg.down) h15 (a.2 X k.toCxOk) hd.down (af (hn' e List.mem_cons_self)) (bj fun y hy=>hn' y (List.mem_cons_of_mem _ hy))⟩
def mG (T:Ns) (nm:NK) (N:List Str):(es:List Expr)→Option {c:E // ∀ X,CxOk T X nm N→TxP X es c}
 | []=>some ⟨.nil,fun _ _=>.nil⟩
 | .Constant (.str x) j p :: r=>do
   let h ← yes (decide (x.length≤1000))
   let a ← mG T nm N r
   some ⟨a.1,fun X k=>.c (by simpa using h.down) (a.2 X k)⟩
 | .FormattedValue (.Name x p) (.negSucc 0) none q :: r=>(do
   let hl ← yes (bb nm x)
   let hd ← no (x == ("__debug__":Str))
   let j ← aD x T.gl
   let a ← mG T nm N r
   (some ⟨.cons (.op .add (.g j.1) (.c (.int 0))) a.1,fun X k=>by
    obtain ⟨d,u,h1,h2,h3⟩:=k.gls j.1 x j.2
    exact .g (aP k.sc hl.down) h2 h1 h3 hd.down (a.2 X k)⟩:Option {c:E // ∀ X,CxOk T X nm N→TxP X (.FormattedValue (.Name x p) (.negSucc 0) none q :: r) c})).orElse fun _=>do
   let i ← aD x N
   let hl ← yes (cA nm x)
   let hd ← no ((x == ("__debug__":Str)) || (x == ("__classdict__":Str)))
   let a ← mG T nm N r
   some ⟨.cons (.op .add (.v i.1) (.c (.int 0))) a.1,fun X k=>.f (by rw [k.hN];exact i.2) (bg k.sc hl.down) hd.down (a.2 X k)⟩
 | .FormattedValue (.Name x p) (.ofNat 114) none q :: r=>do
   let i ← aD x N
   let hl ← yes (cA nm x)
   let hd ← no ((x == ("__debug__":Str)) || (x == ("__classdict__":Str)))
   let a ← mG T nm N r
   some ⟨.cons (.op .add (.v i.1) (.c (.str ""))) a.1,fun X k=>.r (by rw [k.hN];exact i.2) (bg k.sc hl.down) hd.down (a.2 X k)⟩
 | _=>none
def yn (T:Ns) (nm:NK) (N:List Str):(e:Expr)→Option {c:E // ∀ X,CxOk T X nm N→TxA X e c}
 | .Constant (.str x) j p=>do
   let h ← yes (decide (x.length≤1000))
   some ⟨.nil,fun X k=>.c (by simpa using h.down)⟩
 | .JoinedStr (e1 :: e2 :: r) p=>do
   let h ← yes (decide (r.length≤8))
   let a ← mG T nm N (e1 :: e2 :: r)
   some ⟨a.1,fun X k=>.j (a.2 X k) (by simpa using h.down)⟩
 | _=>none
def ql (nm:NK) (N:List Str) (x:Str) (np:Pos):(args:List Expr)→(cp pos:Pos)→Option (GS T nm N (.Raise (some (.Call (.Name x np) args [] cp)) none pos))
 | [e],cp,pos=>do
   let j ← aD x T.xt
   let hz ← no (x == ("":Str))
   let hn ← yes (ay e)
   let hg ← yes (bb nm x)
   let hd ← no (x == ("__debug__":Str))
   let a ← yn T nm N e
   some ⟨.rais j.1 a.1,fun X k=>by
    obtain ⟨cl,i,Bx,nwI,iniI,bmB,h1,h2,h3,h4,h5,h6,h7⟩:=k.rt j.1 x j.2 (by simpa using hz.down)
    exact lP h1 h2 h3 h4 h5 h6 k.calm (aP k.sc hg.down) h7 (a.2 X k.toCxOk) hd.down (by rw [af hn.down];rfl)⟩
 | _,_,_=>none
def sx (nm:NK) (N:List Str) (y:Str) (p1:Pos) (x:Str) (p pos p2:Pos):Option (GS T nm N (.Assign [.Attribute (.Name y p1) x p] (.Dict [] [] p2) pos)×GS T nm N (.Assign [.Attribute (.Name y p1) x p] (.List [] p2) pos)):=do
 let j ← aD x T.at_
 let i ← aD y N
 let hl ← yes (cA nm y)
 let hd ← no (y == ("__debug__":Str))
 let hc ← no (y == ("__classdict__":Str))
 some (⟨.fld (.v i.1) j.1 (.dic .nil),fun X k=>by
  have h:=rc (X:=X) (p:=p) (pos:=pos) (p1:=p1) (p2:=p2) (f:=j.1) k.cls (k.at i.2) (bg k.sc hl.down) hd.down hc.down
  rw [fS j.2] at h
  exact h⟩,⟨.fld (.v i.1) j.1 (.lst .nil),fun X k=>by
  have h:=re (X:=X) (p:=p) (pos:=pos) (p1:=p1) (p2:=p2) (f:=j.1) k.cls (k.at i.2) (bg k.sc hl.down) hd.down hc.down
  rw [fS j.2] at h
  exact h⟩)
def xW (f:au T) (nm:NK) (N:List Str) (eo:Expr) (x:Str) (p:Pos) (ee:Expr) (pos:Pos):Option (GS T nm N (.Assign [.Attribute eo x p] ee pos)):=do
 let j ← aD x T.at_
 let o ← f nm N eo
 let e ← f nm N ee
 let hp ← yes (jX e.1)
 some ⟨.fld o.1 j.1 e.1,fun X k=>by
  have h:=uK (X:=X) (p:=p) (pos:=pos) (f:=j.1) k.cls hp.down (o.2 X k.toCxOk).1 (e.2 X k.toCxOk).1
  rw [fS j.2] at h
  exact h⟩
def vI (f:au T) (nm:NK) (N:List Str):(eo:Expr)→(x:Str)→(p:Pos)→(ee:Expr)→(pos:Pos)→Option (GS T nm N (.Assign [.Attribute eo x p] ee pos))
 | .Name y p1,x,p,.Dict [] [] p2,pos=>(sx nm N y p1 x p pos p2).map (·.1)
 | .Name y p1,x,p,.List [] p2,pos=>(sx nm N y p1 x p pos p2).map (·.2)
 | eo,x,p,ee,pos=>xW f nm N eo x p ee pos
def xJ:(op:Operator)→Option {o:Op // ∀ X:Cx,∃ g,pM X op o g}
 | .Sub=>some ⟨.sub,fun X=>⟨_,pS⟩⟩
 | .Add=>some ⟨.add,fun X=>⟨_,pR⟩⟩
 | _=>none
def xQ (nm:NK) (N:List Str) (op:Operator) (pos:Pos):(tg e:Expr)→Option (GS T nm N (.AugAssign tg op e pos))
 | .Attribute (.Name y p1) x p,.Constant (.int c) j p2=>do
   let o ← xJ op
   let a ← aD x T.at_
   let i ← aD y N
   let hl ← yes (cA nm y)
   let hd ← no (y == ("__debug__":Str))
   let hc ← no (y == ("__classdict__":Str))
   some ⟨.fld (.v i.1) a.1 (.op o.1 (.fld (.v i.1) a.1) (.c (.int c))),fun X k=>by
    obtain ⟨g,ar⟩:=o.2 X
    have h:=uI (X:=X) (p:=p) (pos:=pos) (p1:=p1) (p2:=p2) (j:=j) (c:=c) (f:=a.1) k.cls ar (k.at i.2) (bg k.sc hl.down) hd.down hc.down
    rw [fS a.2] at h
    exact h⟩
 | _,_=>none
structure jt (T:Ns) (X:Cx) (nm:NK) (N:List Str):Prop where
 hN:X.N=N
 nd:N.Nodup
 sc:X.env.scope.names=nm
 cls:bt X T.an
theorem CxOk.su (k:CxOk T X nm N) (e:Value):jt T (ax X e) nm N:=⟨k.hN,k.nd,k.sc,fun c cl h=>let ⟨i,h⟩:=k.cls c cl h;⟨i,h.ci,h.cls,h.na,h.wh,h.nm,h.nd,h.xc⟩⟩
def sC (nm:NK) (N:List Str):(e:Expr)→Option {c:E // fresh c=false∧∀ X,jt T X nm N→LE X e c}
 | .Name x pos=>do
   let hd ← no (x == ("__debug__":Str))
   let hc ← no (x == ("__classdict__":Str))
   let hl ← yes (cA nm x)
   let i ← aD x N
   some ⟨.v i.1,rfl,fun X k=>qR (by rw [k.hN];exact i.2) (bg k.sc hl.down) hd.down hc.down⟩
 | .Constant c j pos=>match c with
   | .none=>some ⟨.c .non,rfl,fun X k=>sF⟩
   | .bool b=>some ⟨.c (.bl b),rfl,fun X k=>v7⟩
   | .int i=>some ⟨.c (.int i),rfl,fun X k=>sE⟩
   | .str x=>some ⟨.c (.str x),rfl,fun X k=>sG⟩
   | _=>none
 | .Attribute (.Name y p) x pos=>do
   let hd ← no (y == ("__debug__":Str))
   let hc ← no (y == ("__classdict__":Str))
   let hl ← yes (cA nm y)
   let i ← aD y N
   let j ← aD x T.at_
   let hs ← yes (aR (.Name y p))
   some ⟨.fld (.v i.1) j.1,rfl,fun X k=>mR (fS j.2) k.cls (qR (by rw [k.hN];exact i.2) (bg k.sc hl.down) hd.down hc.down) hs.down⟩
 | _=>none
def vW (nm:NK) (N:List Str):(es:List Expr)→Option {c:E // ∀ X,jt T X nm N→LA X es c}
 | []=>some ⟨.nil,fun X k=>nJ⟩
 | e :: r=>do
   let h ← yes (ay e)
   let a ← sC (T:=T) nm N e
   let b ← vW nm N r
   some ⟨.cons a.1 b.1,fun X k=>kH (a.2.2 X k) (b.2 X k) (af h.down)⟩
def vY (nm:NK) (N:List Str):(e:Expr)→Option {c:E // fresh c=false∧∀ X,jt T X nm N→LE X e c}
 | .Tuple es n pos=>(vW (T:=T) nm N es).map fun a=>⟨.tup a.1,rfl,fun X k=>n7 (a.2 X k)⟩
 | e=>sC nm N e
def cSu (nm:NK) (N:List Str):(st:Stmt)→Option {c:S // ∀ X,jt T X nm N→LS X st c}
 | .Return (some e) pos=>(vY (T:=T) nm N e).map fun a=>⟨.ret a.1,fun X k=>hW (a.2.2 X k)⟩
 | .Assign [.Name x p] e pos=>do
   let i ← aD x N
   let hl ← yes (d9 true nm x)
   let hn ← yes (hZ e)
   let a ← vY (T:=T) nm N e
   some ⟨.set i.1 a.1,fun X k=>eY (by rw [k.hN];exact k.nd) (by rw [k.hN];exact i.2) (by
    have l1:nm.lookup x=some .local∨nm.lookup x=some .cell:=by have:=hl.down;unfold d9 at this;simpa using this
    show X.env.scope.names.lookup x=_∨X.env.scope.names.lookup x=_
    rw [k.sc];exact l1) (a.2.2 X k) (fun q=>by rw [a.2.1] at q;cases q) (dD hn.down)⟩
 | _=>none
theorem jN {st:Stmt}:LS X st (.hand 0 none .skip .skip):=fun z I nb=>absurd rfl nb
def vX (nm:NK) (N:List Str) (st:Stmt):{c:S // ∀ X,jt T X nm N→LS X st c}:=(cSu (T:=T) nm N st).getD ⟨.hand 0 none .skip .skip,fun X k=>jN⟩
def tK (nm:NK) (N:List Str):(st:List Stmt)→Option {c:S // ∀ X,jt T X nm N→LSs X st c}
 | []=>some ⟨.skip,fun X k=>oy⟩
 | [a]=>let x:=vX (T:=T) nm N a;some ⟨x.1,fun X k=>oz (x.2 X k)⟩
 | a :: b :: r=>do
   let x:=vX (T:=T) nm N a
   let y ← tK nm N (b :: r)
   some ⟨.seq x.1 y.1,fun X k=>kK (x.2 X k) (y.2 X k)⟩
def cHs (nm:NK) (N:List Str):(hs:List ExceptHandler)→Option {r:S // ∀ X,CxS T X nm N→HL X hs r}
 | []=>some ⟨.skip,fun X k=>tY k.fr⟩
 | .ExceptHandler (some (.Name Bn np)) (some x) (b₀ :: suite) hpos :: hs=>do
   let j ← aD Bn T.hx
   let hz ← no (Bn == ("":Str))
   let hg ← yes (bb nm Bn)
   let hd ← no (Bn == ("__debug__":Str))
   let i ← aD x N
   let hl ← yes (nm.lookup x == some .local)
   let b ← tK (T:=T) nm N (b₀ :: suite)
   let r ← cHs nm N hs
   some ⟨.hand j.1 (some i.1) b.1 r.1,fun X k=>wu (fun e=>b.2 _ (k.toCxOk.su e)) (k.hxs j.1 Bn j.2 (by simpa using hz.down)) (aP k.sc hg.down) hd.down k.ndx (k.at i.2) (by rw [k.sc];simpa using hl.down) (r.2 X k)⟩
 | .ExceptHandler (some (.Name Bn np)) none (b₀ :: suite) hpos :: hs=>do
   let j ← aD Bn T.hx
   let hz ← no (Bn == ("":Str))
   let hg ← yes (bb nm Bn)
   let hd ← no (Bn == ("__debug__":Str))
   let b ← tK (T:=T) nm N (b₀ :: suite)
   let r ← cHs nm N hs
   some ⟨.hand j.1 none b.1 r.1,fun X k=>wv (fun e=>b.2 _ (k.toCxOk.su e)) (k.hxs j.1 Bn j.2 (by simpa using hz.down)) (aP k.sc hg.down) hd.down (r.2 X k)⟩
 | _=>none
def ym (a:GSs T nm N body):(hs:List ExceptHandler)→(pos:Pos)→Option (GS T nm N (.Try body hs [] [] pos))
 | h0 :: hs,pos=>(cHs nm N (h0 :: hs)).map fun r=>⟨.try_ a.1 r.1,fun X k=>uN k.fr (a.2 X k) (r.2 X k)⟩
 | _,_=>none
def vT (f:au T) (nm:NK) (N:List Str) (er:List Expr) (p2 pos:Pos):Option (GS T nm N (.Return (some (.List er p2)) pos)):=none
def vU (f:au T) (nm:NK) (N:List Str) (e:Expr) (pos:Pos):Option (GS T nm N (.Return (some e) pos)):=do
 let a ← f nm N e
 match h:N.any (fun x=>T.mu.contains x) && fresh a.1 with
 | true=>some ⟨.ret (.sto a.1),fun X k=>hW (nX ((a.2 X k.toCxOk).2 (Bool.and_eq_true_iff.mp h).2))⟩
 | false=>some ⟨.ret a.1,fun X k=>hW (a.2 X k.toCxOk).1⟩
def cRp (f:au T) (nm:NK) (N:List Str) (h:∀ st,Option (GSs T nm N st)):(a b:Stmt)→(r:List Stmt)→Option (GSs T nm N (a :: b :: r))
 | .If (.Compare (.Call (.Name l p1) [ea] [] p2) [op] [eb] p3) sa sb p4,.Assign [.Name y p5] (.Call (.Attribute (.Call (.Attribute (.Name x p6) m1 ap1) [.Constant (.str y1) j1 q1,.Constant (.str z1) j2 q2] [] p7) m2 ap2) [.Constant (.str y2) j3 q3,.Constant (.str z2) j4 q4] [] p8) p9,r=>do
   let hl ← isP "len" l
   let hm1 ← isP "replace" m1
   let hm2 ← isP "replace" m2
   let g ← d4 T nm "len"
   let he ← yes (ay ea)
   let o ← v8 op
   let hb ← yes (ay eb)
   let a ← f nm N ea
   let b ← f nm N eb
   let c1 ← h sa
   let c2 ← h sb
   let i ← aD y N
   let hi ← yes (d9 true nm y)
   let k ← aD x N
   let hv ← yes (cA nm x)
   let hd ← no (x == ("__debug__":Str))
   let hc ← no (x == ("__classdict__":Str))
   let h1 ← no (y1 == z1)
   let h2 ← no (y2 == z2)
   let hp1 ← yes (ap1.endLine == p7.line)
   let hp2 ← yes (ap2.endLine == p8.line)
   let c3 ← h r
   some ⟨.seq (.ifs (.op o.1 (.bi .len (.cons a.1 .nil)) b.1) c1.1 c2.1) (.seq (.set i.1 (.sm (.rep y2 z2) (.sm (.rep y1 z1) (.v k.1)))) c3.1),fun X q=>by
    obtain rfl:=hl.down
    obtain rfl:=hm1.down
    obtain rfl:=hm2.down
    have E:LE X.on (.Name x p6) (.v k.1):=qR (X:=X.on) (q.at k.2) (bg q.sc hv.down) hd.down hc.down
    have E1:=nW (X:=X.on) (j1:=j1) (j2:=j2) (p1:=q1) (p2:=q2) Nat.one_pos h1.down E (aq rfl) hp1.down
    have E2:=nW (X:=X.on) (j1:=j3) (j2:=j4) (p1:=q3) (p2:=q4) Nat.one_pos h2.down E1 (aq rfl) hp2.down
    exact ou (uM (rr (o.2 X) (qL (aY q.toCxOk g.down boot_len) (a.2 X q.toCxOk).1 (by rw [af he.down])) (b.2 X q.toCxOk).1 (dj hb.down)) (c1.2 X q) (c2.2 X q)) (eY (X:=X.on) q.ndx (q.at i.2) (show Loc X.env.scope y from dq q.tg hi.down) E2 (fun z=>nomatch z) (dD rfl)) (c3.2 X q)⟩
 | _,_,_=>none
mutual
noncomputable def yj (f:au T) (g:fH T) (nm:NK) (N:List Str):(n:Nat)→(st:Stmt)→Option (GS T nm N st)
 | 0,_=>none
 | _+1,.Pass pos=>some ⟨.skip,fun X k=>ri⟩
 | _+1,.Return none pos=>some ⟨.ret (.c .non),fun X k=>ro⟩
 | _+1,.Return (some (.List er p2)) pos=>(vT f nm N er p2 pos).orElse fun _=>(f nm N (.List er p2)).map fun a=>⟨.ret a.1,fun X k=>hW (a.2 X k.toCxOk).1⟩
 | _+1,.Return (some e) pos=>vU f nm N e pos
 | _+1,.Expr (.Constant (.str x) j p) pos=>some ⟨.skip,fun X k=>uJ⟩
 | _+1,.Expr (.Call (.Attribute (.Attribute o2 f2 ap2) m ap) [e] [] cp) pos=>(sr f nm N (.Attribute o2 f2 ap2) m ap e cp pos).orElse fun _=>mF f nm N _ pos
 | _+1,.Expr (.Call (.Attribute (.Name x p) m ap) [e] [] cp) pos=>(((if T.rl.contains x then (sr f nm N (.Name x p) m ap e cp pos).orElse fun _=>vH f nm N (.Name x p) m ap e cp pos else none).orElse fun _=>xP f nm N x p m ap e cp pos).orElse fun _=>xV f nm N x p m ap e cp pos).orElse fun _=>mF f nm N _ pos
 | _+1,.Expr e pos=>mF f nm N e pos
 | _+1,.Assign [.Name x p] e pos=>yg f g nm N x p pos e
 | _+1,.Assign [.Subscript (.Name x p) eb p2] ee pos=>ye f nm N x p eb p2 ee pos
 | _+1,.Assign [.Subscript eo eb p2] ee pos=>vS f nm N eo eb p2 ee pos
 | _+1,.Raise (some (.Call (.Name x np) args [] cp)) none pos=>(tI f nm N x np args cp pos).orElse fun _=>ql nm N x np args cp pos
 | _+1,.Assign [.Attribute eo x p] ee pos=>vI f nm N eo x p ee pos
 | _+1,.AugAssign tg op e pos=>xQ nm N op pos tg e
 | _+1,.Assign [.Tuple ts j p] (.Tuple vs k q) pos=>vZ f nm N j p k q pos ts vs
 | _+1,.Assign [.Tuple es j p] e pos=>do
   let t ← vo true nm N es
   let h ← yes (sU e)
   let a ← f nm N e
   some ⟨.setT t.1 a.1,fun X k=>rq (a.2 X k.toCxOk).1 (n9 k.calm k.ndx (t.2.as_ X k.tg) (t.2.len _) (t.2.fst _)) oM (lU h.down) rfl⟩
 | n+1,.If e sa sb pos=>do
   let c ← g nm N e
   let a ← jx f g nm N n sa
   let b ← jx f g nm N n sb
   some ⟨.ifs c.1 a.1 b.1,fun X k=>wV (c.2 X k.toCxOk) (a.2 X k) (b.2 X k)⟩
 | n+1,.For tg iter body [] pos=>do
   let it ← sy (f nm N) tg iter
   let q ← tgP true nm N tg
   let hn ← yes (ay iter)
   let b ← jx f g nm N n body
   some ⟨.for_ q.1.1 q.1.2 it.1 b.1,fun X k=>uL k.calm (fun z o=>rK k.fr) (it.2 X k.toCxOk) (q.2.1 X k.tg) (b.2 X k) (gu hn.down)⟩
 | n+1,.Try body hs [] [] pos=>do
   let a ← jx f g nm N n body
   ym a hs pos
 | _,_=>none
noncomputable def cSt (f:au T) (g:fH T) (nm:NK) (N:List Str):(n:Nat)→(st:Stmt)→Option (GS T nm N st)
 | 0,st=>some ⟨.hand 0 none .skip .skip,fun X k=>jN⟩
 | n+1,st=>some ((yj f g nm N n st).getD ⟨.hand 0 none .skip .skip,fun X k=>jN⟩)
noncomputable def jx (f:au T) (g:fH T) (nm:NK) (N:List Str):(n:Nat)→(st:List Stmt)→Option (GSs T nm N st)
 | 0,_=>none
 | _+1,[]=>some ⟨.skip,fun X k=>oy⟩
 | n+1,[a]=>(cSt f g nm N n a).map fun x=>⟨x.1,fun X k=>oz (x.2 X k)⟩
 | n+1,a :: b :: r=>(cRp f nm N (jx f g nm N n) a b r).orElse fun _=>do
   let x ← cSt f g nm N n a
   let y ← jx f g nm N n (b :: r)
   some ⟨.seq x.1 y.1,fun X k=>kK (x.2 X k) (y.2 X k)⟩
end
end
def bR (st:Stmt):List Str:=(aA st).args.map (·.arg)
def jM (st:Stmt):List Str:=bR st ++ ((ao st).names.filter fun y=>(y.2 == .local || y.2 == .cell) && !(bR st).contains y.1).map (·.1)
def dfB (st:Stmt):Option Bool:=match (aA st).defaults with
 | [.Constant (.bool b) _ _]=>some b
 | _=>none
def DfV (K:Fg) (dV:Value):Option Bool→Prop
 | none=>dV = .none
 | some b=>∃ T o n,dV = .ref T∧K.lookup T=some o∧o.data = .seq #[.bool b] n
structure jo (K:Fg) (x qual:Str) (st:Stmt) (f:Addr) (fd:FuncData):Prop where
 ex:∃ (oc:Value) (od:Option Addr) (dV kV doc pm:Value) (an:Option Addr) (cdv ct:Value) (osl:Array (Option Value)),
  fd=PySem.W.fnOf x qual (aA st) (bG st) (ao st) dV kV doc pm an cdv ct∧K.lookup f=some ⟨oc,od,.func fd,osl⟩∧PySem.W.codeIn K cdv qual=true∧DfV K dV (dfB st)
 kp:PySem.W.keepIn K (.ref f)=true
def dfT (T:Ns) (st:Stmt):Option Bool:=if T.mu.contains "#d" then dfB st else none
def dfD:Option Bool→List D
 | some b=>[.bl b]
 | none=>[]
def dfU:Option Bool→List Value
 | some b=>[.bool b]
 | none=>[]
theorem v9:∀ (o:Option Bool) (ρ:Rs) (G:Hp),RDs W ρ G (dfD o) (dfU o)
 | none,_,_=>rfl
 | some b,_,_=>.cons rfl rfl
def dU (T:Ns) (st:Stmt):Option Fn:=(jx (lE T 200).1 (lE T 200).2 (ao st).names (jM st) 200 (bG st)).map fun c=>⟨(bR st).length,(jM st).length,c.1,dfD (dfT T st)⟩
structure pN (T:Ns) (X:Cx) (ad:List Addr) (lv:Nat):Prop where
 calm:X.calm=true
 fns:∀ (j:Nat) (f:Addr),ad[j]? = some f→∃ x qual st fd fn mu al fc oc,jo X.K x qual st f fd∧bI X.K fd (bR st) (dfU (dfT { T with mu:=mu,alt:=al,fc:=fc,oc:=oc } st))∧dw (jM st) (bR st) (ao st)∧X.Γ.fn[j]? = some fn∧dU { T with mu:=mu,alt:=al,fc:=fc,oc:=oc } st=some fn
 glb:∀ (j:Nat) (x:Str),T.fn[j]? = some x→∃ f,ad[j]? = some f∧X.mg x=some (.ref f)
 gls:∀ (j:Nat) (x:Str),T.gl[j]? = some x→∃ d u,X.Γ.gl[j]? = some d∧X.mg x=some u∧aJ X.K d u=true
 tbs:∀ (j:Nat) (x:Str),T.tb[j]? = some x→∃ t a,X.Γ.tb[j]? = some t∧X.mg x=some (.ref a)∧TbL X a t
 blt:∀ x∈T.bl,X.mg x=none
 cls:bt X T.an
 mts:∀ q∈T.me,∃ f,ad[q.2.2]? = some f∧lr X T.an q.1 q.2.1 f
 nws:∀ (j:Nat) (x:Str),T.nw[j]? = some x→x≠""→∃ f i cl,ad[cl.init]? = some f∧Mk X.K i.ad f∧X.Γ.cl[j]? = some cl∧cl.what=0∧X.W.ci[j]? = some i∧X.W.what[j]? = some 0∧X.mg x=some (.ref i.ad)
 nds:∀ (j:Nat) (x:Str),T.nd[j]? = some x→x≠""→∃ f fd ps i cl,FnI X lv f fd ps i.nm none∧bI X.K fd ps []∧Mk X.K i.ad f∧Cls X.K i.ad∧(∀ f∈i.nm,cG X.K i.ad f)∧X.Γ.cl[j]? = some cl∧X.W.ci[j]? = some i∧X.W.what[j]? = some 1∧i.nm.length=cl.at_.length∧X.mg x=some (.ref i.ad)
 rs:∀ (j:Nat) (x:Str),T.ex[j]? = some x→x≠""→∃ (k:Cl) (i:CI) (fI:Addr) (fd:FuncData) (ps:List Str) (Bx nwI iniI:String) (bmB:List Value),ExcBaseFacts Bx nwI iniI bmB∧fG X.K i.ad fI bmB nwI∧FnJ X lv fI fd ps i.nm k i.ad∧bI X.K fd ps []∧eA X.K i.ad∧(∀ f∈i.nm,PySem.W.findIn X.K (.ref i.ad) f=some none)∧X.Γ.cl[j]? = some k∧X.W.ci[j]? = some i∧X.W.what[j]? = some 2∧i.nm.length=k.at_.length∧PySem.W.mroIn X.K i.ad (.type "BaseException")=some true∧PySem.W.typeIn X.K (.ref i.ad)=some (.type "type")∧PySem.W.keepIn X.K (.ref i.ad)=true∧X.mg x=some (.ref i.ad)∧k.at_.isEmpty=false
 hxs:∀ (j:Nat) (x:Str),T.hx[j]? = some x→x≠""→ll X j x
 rt:∀ (j:Nat) (x:Str),T.xt[j]? = some x→x≠""→RtP X j x
 vxs:T.vx=true→tC X
section
variable {X:Cx} {T:Ns} {ad:List Addr} {lv:Nat}
theorem bX.to {A:Around} {fr:List Env} {N:List Str} {e:Env} {c1 d1:Nat→List D→List O→Res} (h:bX X an c k i):bX (X.to A fr N e c1 d1) an c k i:=⟨h.ci,h.cls,h.na,h.wh,h.nm,h.nd,h.xc⟩
theorem lY (Pg:pN T X ad lv) (n:Nat) (ih:∀ (j:Nat) (f:Addr),ad[j]? = some f→bB X (ag X.Γ n) (lv+1+n) j f) (ih1:∀ (j:Nat) (f:Addr),ad[j]? = some f→∃ m,m+1≤lv+1+n∧bB X (aU X.Γ n) m j f) {j:Nat} {f:Addr} (h:ad[j]? = some f):bB X (ag X.Γ (n+1)) (lv+1+(n+1)) j f:=by
 obtain ⟨x,qual,st,fd,fn,mu,al,fc,oc,Fu,b,Sc,hj,hc⟩:=Pg.fns j f h
 obtain ⟨oc',od,dV,kV,doc,pm,an,cd,ct,osl,rfl,lk,hcd,_⟩:=Fu.ex
 unfold dU at hc
 obtain ⟨c,_,rfl⟩:=Option.map_eq_some_iff.mp hc
 refine ⟨_,_,_,wm (cal:=ag X.Γ n) (cal1:=aU X.Γ n) (k:=lv+1+n) lk hcd Sc hj (v9 _) fun A fr L hr=>c.2 _ ⟨⟨rfl,Sc.nd,rfl,Sc.kind,Pg.calm,fun i y hy=>?_,Pg.gls,Pg.tbs,Pg.blt,fun c cl h=>let ⟨i,h⟩:=Pg.cls c cl h;⟨i,h.to⟩,fun q hq=>?_,fun i y hy hz=>?_,fun i y hy hz=>?_,Pg.hxs,⟨⟨_,fr,rfl,rfl⟩,⟨_,rfl⟩⟩,Pg.vxs⟩,fun i y hy hz=>?_,Pg.rt⟩,b,Fu.kp⟩
 ·obtain ⟨g,h1,h2⟩:=Pg.glb i y hy
  exact ⟨_,g,(ih i g h1).to,hr,h2⟩
 ·obtain ⟨g,h1,⟨i,k,a1,a2,a3⟩⟩:=Pg.mts q hq
  exact ⟨_,g,(ih _ g h1).to,hr,⟨i,k,a1,a2.to,a3⟩⟩
 ·obtain ⟨g,ci,cl,h1,h2⟩:=Pg.nws i y hy hz
  obtain ⟨m,hm,h3⟩:=ih1 _ g h1
  exact ⟨m,g,ci,cl,h3.to,hr.mono hm,h2⟩
 ·obtain ⟨g,fd,ps,ci,cl,h1,h2,h3⟩:=Pg.nds i y hy hz
  exact ⟨lv,g,fd,ps,ci,cl,h1.to,h2,hr.mono (by omega),h3⟩
 ·obtain ⟨k,ci,fI,fd,ps,Bx,nwI,iniI,bmB,h1,h2,h3,h4,h5⟩:=Pg.rs i y hy hz
  exact ⟨lv,k,ci,fI,fd,ps,Bx,nwI,iniI,bmB,h1,h2,h3.to,h4,hr.mono (by omega),h5⟩
theorem ki (Pg:pN T X ad lv) {j:Nat} {f:Addr} (h:ad[j]? = some f) {cal:Nat→List D→List O→Res} (no:∀ ds st,cal j ds st = .bad) (m:Nat):bB X cal m j f:=by
 obtain ⟨x,qual,st,fd,fn,mu,al,fc,oc,Fu,b,_⟩:=Pg.fns j f h
 exact ⟨fd,_,_,⟨fun ds st nb=>absurd (no ds st) nb,fun A fr z args us ds _ _ _ _ nb=>absurd (no ds _) nb⟩,b,Fu.kp⟩
theorem ik (Pg:pN T X ad lv):∀ (n j:Nat) (f:Addr),ad[j]? = some f→bB X (ag X.Γ n) (lv+1+n) j f
 | 0,j,f,h=>ki Pg h (fun _ _=>rfl) _
 | n+1,j,f,h=>lY Pg n (ik Pg n) (fun i g hg=>by
   match n with
   | 0=>exact ⟨0,by omega,ki Pg hg (fun _ _=>rfl) _⟩
   | n'+1=>exact ⟨lv+1+n',by omega,ik Pg n' i g hg⟩) h
end
theorem i5 {vs:List Value} {ns:List Int} (h:IntsAre vs ns):RDs W ρ G (ns.map D.int) vs:=by
 induction h with
 | nil=>exact rfl
 | cons n t h ih=>exact .cons ⟨t,rfl⟩ ih
theorem nK {X:Cx} {Γ:Gm} {n j k:Nat} {fa a:Addr} {s₁:Shared} {vs:List Value} {ns:List Int} (md:Mod X.K X.mg X.base) (hb:X.base=s₁.heap) (os:X.os=s₁.os) (hc:X.calm=true) (h0:X.tz=0) (hg:s₁.gens = #[])
 (ha:s₁.heap.get? a=some { cls:=.type "list",data:=.seq vs.toArray }) (hi:IntsAre vs ns) (hl:ns.length≤sizeLine) (hr:aW k callerA)
 (F:bB X (ag Γ n) k j fa) (hlaw:∃ st',ag Γ n j [.lst (ns.map .int)] [] = .ok (.bl true) st') :
 codeAny X.M callerA (.call (.ref fa) ⟨[.ref a],[]⟩) (fun r s'=>r = .ok (.ret (.bool true))∧OldK s₁.heap s'.heap∧s'.os=s₁.os∧AllBare s'.gens) s₁:=by
 obtain ⟨st',e⟩:=hlaw
 obtain ⟨fd,ps,dvs,F,hbd,_⟩:=F
 have hp:=F.len [.lst (ns.map .int)] [] (by rw [e];exact fun z=>nomatch z)
 have nm:∀ {b},¬ Mu ([]:Rs) b:=fun ⟨p,m,_⟩=>nomatch m
 have I:HR { X with A:=callerA,fr:=[] } ⟨[],s₁.heap.get?,⟨[],[],[]⟩,[],s₁⟩:=⟨md,rfl,fun _=>hr.hd,(fun b o e=>by rw [hb] at e;exact e),.refl _,rfl,(fun i j p q b h=>by simp at h),fun b m=>(nm m).elim,(fun n o p h=>by simp at h),trivial,(fun b m=>nomatch m),(by show AllBare s₁.gens;rw [hg];exact fun g h=>by simp at h),os.symm,(by show X.tz≤_;rw [h0];exact Nat.zero_le _)⟩
 refine codeAny_mono (F.run callerA [] ⟨[],s₁.heap.get?,⟨[],[],[]⟩,[],s₁⟩ ⟨[.ref a],[]⟩ [.ref a] [.lst (ns.map .int)] hr I (hbd s₁ [.ref a] (hb ▸ md.kin) (by rw [List.length_append];exact hp)) (.cons ⟨a,_,vs,rfl,ha,⟨⟨_,rfl⟩,by rw [hi.length];exact hl⟩,i5 hi⟩ rfl) (by rw [e];exact fun z=>nomatch z)) fun r s' hq=>?_
 rw [e] at hq
 cases r with
 | error u=>obtain ⟨_,_,_,_,z,_⟩:=hq;cases z
 | ok fl=>cases fl with
   | ret u=>
     obtain ⟨z',d,q1,q2,S,H,rd⟩:=hq
     subst q1
     cases q2
     cases (show u=Value.bool true from rd)
     have keep:∀ b o,s₁.heap.get? b=some o→z'.s.heap.get? b=some o:=fun b o e=>S.sm b o e nm (fun z=>z) (fun m=>nomatch m)
     exact ⟨rfl,OldK.of_keep keep,H.os.trans os,H.br⟩
   | _=>exact hq.elim
theorem rY {l:PySem.W.OpenLaw} {n k lv:Nat} {q:Program} {loose:List Str} {XP:(Str→Option Value)→Heap→Prop} {YP:World→Heap→Prop} {d:DefRec} {K:Params→Fg} {j:Nat} {Γ:Gm}
 (hn:l.most=some n) (hn2:n≤sizeLine) (hdf:d.params.defaults = []) (hr:aW lv callerA) (hY:∀ (w:World) (h:Heap),YP w h→(K w.params).In h)
 (F:∀ (w:World) (mg:Str→Option Value) (fa:Addr) (h:Heap) (os:OsState),(K w.params).In h→h.Ns mainGlobals mg→mg d.name=some (.ref fa)→Mod (K w.params) mg h →
  ∃ X:Cx,X.W.P=l.prog∧X.W.w=w∧X.K=K w.params∧X.mg=mg∧X.base=h∧X.os=os∧X.calm=true∧X.tz=0∧bB X (ag Γ k) lv j fa)
 (hlaw:∀ ns:List Int,ns.length≤n→∃ st',ag Γ k j [.lst (ns.map .int)] [] = .ok (.bl true) st'):PySem.W.WalkO q loose XP YP l.row.toRowW d [] (fun f vs=>PySem.call f vs):=by
 refine Att.attach_call hn hdf fun w s₀ s₁ mg mb fa o pm cd doc a vs ns G Y ho hd hcd hmg hobj hints hlen hg=>?_
 have KX:=hY w _ Y
 have md:Mod (K w.params) mg s₁.heap:=⟨KX,G.T.g,⟨mb,G.T.b,G.T.builtins⟩,G.T.nolimit⟩
 obtain ⟨X,e1,e2,e3,e4,e5,e6,e7,e8,hF⟩:=F w mg fa s₁.heap s₁.os KX G.T.g hmg md
 have:=nK (X:=X) (by rw [e3,e4,e5];exact md) e5 e6 e7 e8 hg hobj hints (Nat.le_trans hlen hn2) hr hF (hlaw ns hlen)
 rw [show X.M=model l.prog w by show model X.W.P X.W.w=_;rw [e1,e2]] at this
 exact this
def FnF (T:Ns) (K:Fg) (Γ:Gm) (j:Nat) (f:Addr):Prop:=∃ x qual st fd fn mu al fc oc,jo K x qual st f fd∧bI K fd (bR st) (dfU (dfT { T with mu:=mu,alt:=al,fc:=fc,oc:=oc } st))∧dw (jM st) (bR st) (ao st)∧Γ.fn[j]? = some fn∧dU { T with mu:=mu,alt:=al,fc:=fc,oc:=oc } st=some fn
theorem eX:∀ {ps:List Str} {us:List Value},ps.Nodup→us.length=ps.length→ps.filterMap (fun n=>((ps.zip us).lookup n).map (n,·))=ps.zip us
 | [],[],_,_=>rfl
 | p :: ps,u :: us,nd,hl=>by
   have ih:=eX (List.nodup_cons.mp nd).2 (by simpa using hl)
   rw [List.filterMap_cons]
   simp only [List.zip_cons_cons,List.lookup_cons,beq_self_eq_true,Option.map_some]
   congr 1
   have:∀ l:List Str,(∀ n∈l,n∈ps)→l.filterMap (fun n=>((match n == p with | true=>some u | false=>(ps.zip us).lookup n).map fun x=>(n,x)))=l.filterMap fun n=>((ps.zip us).lookup n).map fun x=>(n,x):=fun l=>by
    induction l with
    | nil=>intro _;rfl
    | cons n l ih=>
      intro h
      have q:(n == p)=false:=beq_eq_false_iff_ne.mpr fun e=>(List.nodup_cons.mp nd).1 (e ▸ h n List.mem_cons_self)
      rw [List.filterMap_cons,List.filterMap_cons,ih fun m hm=>h m (List.mem_cons_of_mem _ hm),q]
   exact (this ps fun _ h=>h).trans ih
 | [],_ :: _,_,hl=>by simp at hl
 | _ :: _,[],_,hl=>by simp at hl
theorem gF:∀ {ps:List Str} {us:List Value},us.length=ps.length→(ps.filter fun n=>((ps.zip us).lookup n).isNone) = []:=by
 intro ps us hl
 rw [List.filter_eq_nil_iff]
 intro n hn
 have:((ps.zip us).lookup n).isSome=true:=by
  induction ps generalizing us with
  | nil=>cases hn
  | cons p ps ih=>
    cases us with
    | nil=>simp at hl
    | cons u us=>
      rw [List.zip_cons_cons,List.lookup_cons]
      cases e:n == p with
      | true=>rfl
      | false=>
        rcases List.mem_cons.mp hn with q | q
        ·subst q;simp at e
        ·exact ih (by simpa using hl) q
 cases e:(ps.zip us).lookup n with
 | none=>rw [e] at this;cases this
 | some v=>simp
theorem eF {p:Arguments} {x q:Str} {body:List Stmt} {sc:Scope} {kV doc pm cd ct:Value} {an:Option Addr} {us:List Value} (h1:p.posonlyargs = []) (h2:p.kwonlyargs = []) (h3:p.vararg=none) (h4:p.kwarg=none) (nd:(p.args.map (·.arg)).Nodup) (hl:us.length=(p.args.map (·.arg)).length) :
 bindArgs (PySem.W.fnOf x q p body sc .none kV doc pm an cd ct) ⟨us,[]⟩=pure ((p.args.map (·.arg)).zip us):=by
 have e1:=gF hl
 have e2:=eX nd hl
 obtain ⟨a1,a2,a3,a4,a5,a6,a7⟩:=p
 cases h1;cases h2;cases h3;cases h4
 refine Eq.trans (if_neg (c:=((decide (us.length>(a2.map (·.arg)).length)) && true)=true) ?_) ?_
 ·rw [hl];simp
 refine Eq.trans (if_neg ?_) ?_
 ·show ¬ (!((a2.map (·.arg)).take ((a2.map (·.arg)).length - (List.drop (0 - (a2.map (·.arg)).length) ([]:List Value)).length) |>.filter fun n=>(((a2.map (·.arg)).zip us).lookup n).isNone).isEmpty)=true
  rw [List.drop_nil,List.length_nil,Nat.sub_zero,List.take_length,e1];exact fun h=>nomatch h
 have e3:∀ n:Nat,List.drop n ([]:List Value) = []:=fun _=>List.drop_nil
 show (forIn ((List.drop ((List.map Arg.arg a2).length - (List.drop (0 - (List.map Arg.arg a2).length) ([]:List Value)).length) (List.map Arg.arg a2)).zip (List.drop (0 - (List.map Arg.arg a2).length) ([]:List Value))) _ _ >>= _)=_
 rw [e3,List.zip_nil_right]
 show (pure ((List.map Arg.arg a2 ++ []).filterMap fun n=>(((List.map Arg.arg a2).zip us).lookup n).map (n,·)):Sem _)=_
 rw [List.append_nil]
 exact congrArg pure e2
theorem cQ {α β:Type}:∀ {qs:List α} {us:List β} {x:α} {v:β},us.length=qs.length→(qs ++ [x]).zip (us ++ [v])=qs.zip us ++ [(x,v)]
 | [],[],_,_,_=>rfl
 | _ :: _,_ :: _,_,_,h=>by rw [List.cons_append,List.cons_append,List.zip_cons_cons,cQ (by simpa using h)];rfl
 | [],_ :: _,_,_,h=>by simp at h
 | _ :: _,[],_,_,h=>by simp at h
theorem jk {α β:Type}:∀ {qs:List α} {us:List β} {x:α},us.length=qs.length→(qs ++ [x]).zip us=qs.zip us
 | [],[],_,_=>rfl
 | _ :: _,_ :: _,_,h=>by rw [List.cons_append,List.zip_cons_cons,jk (by simpa using h)];rfl
 | [],_ :: _,_,h=>by simp at h
 | _ :: _,[],_,h=>by simp at h
theorem oj {qs:List Str} {us:List Value} {x:Str} (h:x ∉ qs):((qs.zip us).lookup x)=none:=by
 induction qs generalizing us with
 | nil=>rfl
 | cons q r ih=>
   cases us with
   | nil=>rfl
   | cons u us=>
     rw [List.zip_cons_cons,List.lookup_cons]
     have:(x == q)=false:=beq_eq_false_iff_ne.mpr fun e=>h (e ▸ List.mem_cons_self)
     rw [this];exact ih fun m=>h (List.mem_cons_of_mem _ m)
theorem qg {s:Shared} {p:Arguments} {x q:Str} {body:List Stmt} {sc:Scope} {kV doc pm cd ct:Value} {an:Option Addr} {us:List Value} {T:Addr} {o:Obj} {b:Bool} {n:Nat} (h1:p.posonlyargs = []) (h2:p.kwonlyargs = []) (h3:p.vararg=none) (h4:p.kwarg=none) (nd:(p.args.map (·.arg)).Nodup) (ho:s.heap.get? T=some o) (hd:o.data = .seq #[.bool b] n) (hn:p.args≠[]) (ds:List Value) (hds:ds = []∨ds = [.bool b]) (hl:(us ++ ds).length=(p.args.map (·.arg)).length) :
 BindsTo s (PySem.W.fnOf x q p body sc (.ref T) kV doc pm an cd ct) ⟨us,[]⟩ ((p.args.map (·.arg)).zip (us ++ ds)):=by
 obtain ⟨a1,a2,a3,a4,a5,a6,a7⟩:=p
 cases h1;cases h2;cases h3;cases h4
 dsimp only at nd hl hn
 obtain ⟨qa,y,rfl⟩:∃ qa y,a2=qa ++ [y]:=⟨_,_,(List.dropLast_concat_getLast hn).symm⟩
 rw [List.map_append] at nd hl
 have nd2:=List.nodup_append.mp nd
 have yq:y.arg ∉ qa.map (·.arg):=fun m=>nd2.2.2 _ m _ (by simp) rfl
 refine BindsTo.of_defaults (T:=T) (items:=#[.bool b]) (n:=n) (o:=o) rfl ho hd rfl ?_
 obtain ⟨Q,hQ⟩:∃ Q,List.map (fun x:Arg=>x.arg) qa=Q:=⟨_,rfl⟩
 rw [hQ] at hl yq
 have lq:(List.map (fun x:Arg=>x.arg) (qa ++ [y]))=Q ++ [y.arg]:=by rw [List.map_append,hQ];rfl
 have hl:us.length+ds.length=Q.length+1:=by simpa using hl
 dsimp only
 rw [lq]
 have d1:ds.length≤1:=by rcases hds with rfl | rfl <;> simp
 obtain ⟨vs,r,lv,sl,tg⟩:∃ (vs:List Value) (r:List (Str×Value)),vs.length=Q.length∧(Q ++ [y.arg]).zip us=Q.zip vs ++ r∧((r = []∧(Q ++ [y.arg]).zip (us ++ ds)=Q.zip vs ++ [(y.arg,.bool b)])∨∃ v,r = [(y.arg,v)]∧(Q ++ [y.arg]).zip (us ++ ds)=Q.zip vs ++ [(y.arg,v)]):=by
  rcases hds with rfl | rfl
  ·have hne:us≠[]:=by rintro rfl;simp at hl
   obtain ⟨vs,v,rfl⟩:∃ vs v,us=vs ++ [v]:=⟨_,_,(List.dropLast_concat_getLast hne).symm⟩
   have lv:vs.length=Q.length:=by simpa using hl
   exact ⟨vs,[(y.arg,v)],lv,cQ lv,.inr ⟨v,rfl,by rw [List.append_nil];exact cQ lv⟩⟩
  ·have lv:us.length=Q.length:=by simpa using hl
   exact ⟨us,[],lv,by rw [List.append_nil];exact jk lv,.inl ⟨rfl,cQ lv⟩⟩
 have tk:(Q ++ [y.arg]).take Q.length=Q:=by rw [List.take_append_of_le_length (Nat.le_refl _),List.take_length]
 have dr:(Q ++ [y.arg]).drop Q.length = [y.arg]:=by rw [List.drop_append_of_le_length (Nat.le_refl _),List.drop_length];rfl
 have full:∀ (z:List Value) ,z.length=Q.length→∀ r,((Q.filter fun n=>((Q.zip z ++ r).lookup n).isNone)) = []:=fun z hz r=>by
  rw [List.filter_eq_nil_iff]
  intro n hn
  have e:=gF (ps:=Q) (us:=z) hz
  rw [List.filter_eq_nil_iff] at e
  have e:=e n hn
  cases q:(Q.zip z).lookup n with
  | none=>rw [q] at e;exact absurd rfl e
  | some v=>rw [List.lookup_append,q];simp
 have e0:List.drop (1 - (Q.length+1)) [Value.bool b] = [Value.bool b]:=by rw [show 1 - (Q.length+1)=0 by omega];rfl
 refine Eq.trans (if_neg ?_) ?_
 ·simp;omega
 have em:((some #[Value.bool b]).getD #[]).toList = [Value.bool b]:=rfl
 have ln:(List.map (fun x:Arg=>x.arg) ([]:List Arg) ++ (Q ++ [y.arg]))=Q ++ [y.arg]:=rfl
 rw [em,ln,List.length_append,List.length_singleton,List.length_singleton,e0,List.length_singleton,Nat.add_sub_cancel,tk,dr,sl]
 refine Eq.trans (if_neg ?_) ?_
 ·rw [full vs lv r];exact fun h=>nomatch h
 rw [List.zip_cons_cons,List.zip_nil_right]
 have lk:∀ w:Value,(Q ++ [y.arg]).filterMap (fun n=>((Q.zip vs ++ [(y.arg,w)]).lookup n).map (n,·))=Q.zip vs ++ [(y.arg,w)]:=fun w=>by
  have e:=eX (ps:=Q ++ [y.arg]) (us:=vs ++ [w]) (by rw [← hQ];exact nd) (by simp [lv])
  rwa [cQ lv] at e
 have out:=oj (us:=vs) yq
 have fin:∀ w r,(if (List.lookup y.arg (Q.zip vs ++ r)).isNone=true then pure (ForInStep.yield (Q.zip vs ++ r ++ [(y.arg,Value.bool b)])) else pure (ForInStep.yield (Q.zip vs ++ r)):Sem (ForInStep (List (Str×Value))))=pure (ForInStep.yield (Q.zip vs ++ [(y.arg,w)]))→(forIn [(y.arg,Value.bool b)] (Q.zip vs ++ r) (fun x s=>if (List.lookup x.fst s).isNone=true then pure (ForInStep.yield (s ++ [(x.fst,x.snd)])) else pure (ForInStep.yield s)):Sem _)=pure (Q.zip vs ++ [(y.arg,w)]):=fun w r h=>by
  show ((if (List.lookup y.arg (Q.zip vs ++ r)).isNone=true then pure (ForInStep.yield (Q.zip vs ++ r ++ [(y.arg,Value.bool b)])) else pure (ForInStep.yield (Q.zip vs ++ r)):Sem (ForInStep (List (Str×Value)))) >>= _)=_
  rw [h];rfl
 rcases tg with ⟨rfl,e⟩ | ⟨v,rfl,e⟩
 ·rw [e,fin (.bool b) [] (by rw [List.append_nil,out];rfl)]
  show (pure (List.filterMap _ (Q ++ [y.arg] ++ [])):Sem _)=_
  rw [List.append_nil];exact congrArg pure (lk _)
 ·rw [e,fin v [(y.arg,v)] (by rw [List.lookup_append,out];simp)]
  show (pure (List.filterMap _ (Q ++ [y.arg] ++ [])):Sem _)=_
  rw [List.append_nil];exact congrArg pure (lk _)
def fnC (st:Stmt):Bool:=(aA st).posonlyargs.isEmpty && (aA st).kwonlyargs.isEmpty && (aA st).vararg.isNone && (aA st).kwarg.isNone && (match (ao st).kind with | .function=>true | _=>false) && !(ao st).isCoroutine && !(ao st).isGenerator && ((dfB st).isNone || !(aA st).args.isEmpty) &&
 decide ((jM st).Nodup∧(jM st).take (bR st).length=bR st∧(∀ x∈bR st,(ao st).names.lookup x=some .local∨(ao st).names.lookup x=some .cell)∧∀ y∈(ao st).names,y.2≠.free)
theorem tU {st:Stmt} (h:fnC st=true):dw (jM st) (bR st) (ao st)∧(∀ {K:Fg} {x q:Str} {f:Addr} {fd:FuncData},Fun K x q st f fd→bI K fd (bR st) [])∧∀ {K:Fg} {x q:Str} {f:Addr} {fd:FuncData} (T:Ns),jo K x q st f fd→bI K fd (bR st) (dfU (dfT T st)):=by
 unfold fnC at h
 simp only [Bool.and_eq_true,decide_eq_true_eq,Bool.not_eq_true',List.isEmpty_iff,Option.isNone_iff_eq_none] at h
 obtain ⟨⟨⟨⟨⟨⟨⟨⟨h1,h2⟩,h3⟩,h4⟩,h5⟩,h6⟩,h7⟩,hna⟩,h8,h9,h10,h11⟩:=h
 have nd:(bR st).Nodup:=h9 ▸ h8.sublist (List.take_sublist _ _)
 refine ⟨⟨(by split at h5 <;> first | assumption | cases h5),h6,h7,h8,h9,h10,h11⟩,fun F=>F.binds fun _ _ _ _ _ _ us hl=>eF h1 h2 h3 h4 nd hl,fun T F=>?_⟩
 obtain ⟨oc,od,dV,kV,doc,pm,an,cdv,ct,osl,rfl,lk,hcd,dv⟩:=F.ex
 unfold dfT
 cases q:dfB st with
 | none=>
   rw [q] at dv
   cases (show dV = .none from dv)
   rw [show (if T.mu.contains "#d" = true then (none:Option Bool) else none)=none by split <;> rfl]
   exact .all fun us hl=>eF h1 h2 h3 h4 nd hl
 | some b=>
   rw [q] at dv
   obtain ⟨t,o,n,rfl,d1,d2⟩:=dv
   have na:(aA st).args≠[]:=fun e=>by rw [q,e] at hna;exact nomatch hna
   intro s us hK hl
   exact qg h1 h2 h3 h4 nd (hK _ _ d1) d2 na _ (by split <;> first | exact .inl rfl | exact .inr rfl) hl
def cT (T:Ns) (st:Stmt):Fn:=(dU T st).getD ⟨0,0,.skip,[]⟩
def FsL (K:Fg):List (Str×Str×Stmt)→List Addr→Prop
 | [],[]=>True
 | p :: r,f :: fs=>(∃ fd,jo K p.1 p.2.1 p.2.2 f fd)∧FsL K r fs
 | _,_=>False
theorem FsL.app {K:Fg}:∀ {l l' fs fs'},FsL K l fs→FsL K l' fs'→FsL K (l ++ l') (fs ++ fs')
 | [],_,[],_,_,h=>h
 | _ :: _,_,_ :: _,_,h,t=>⟨h.1,FsL.app h.2 t⟩
 | [],_,_ :: _,_,h,_=>h.elim
 | _ :: _,_,[],_,h,_=>h.elim
theorem FsL.len {K:Fg}:∀ {l fs},FsL K l fs→fs.length=l.length
 | [],[],_=>rfl
 | _ :: _,_ :: _,h=>congrArg (· + 1) h.2.len
 | [],_ :: _,h=>h.elim
 | _ :: _,[],h=>h.elim
theorem FsL.at {K:Fg}:∀ {l fs} {j:Nat} {f:Addr},FsL K l fs→fs[j]? = some f→∃ p fd,l[j]? = some p∧jo K p.1 p.2.1 p.2.2 f fd
 | [],[],j,f,_,e=>by simp at e
 | p :: l,g :: fs,0,f,h,e=>by simp at e;subst e;obtain ⟨fd,F⟩:=h.1;exact ⟨p,fd,rfl,F⟩
 | p :: l,g :: fs,j+1,f,h,e=>FsL.at (j:=j) h.2 (by simpa using e)
 | [],_ :: _,_,_,h,_=>h.elim
 | _ :: _,[],_,_,h,_=>h.elim
theorem wt {T:Ns} {ad:List Addr} {K:Fg} {Γ:Gm} {l:List (Str×Str×Stmt)} (hΓ:Γ.fn=l.map fun p=>cT T p.2.2) (hc:(l.all fun p=>fnC p.2.2 && (dU T p.2.2).isSome)=true) (h:FsL K l ad) {j:Nat} {f:Addr} (e:ad[j]? = some f):FnF T K Γ j f:=by
 obtain ⟨p,fd,e1,F⟩:=h.at e
 have c:=List.all_eq_true.mp hc p (List.mem_of_getElem? e1)
 rw [Bool.and_eq_true] at c
 obtain ⟨S,_,B⟩:=tU c.1
 refine ⟨_,_,_,fd,cT T p.2.2,T.mu,T.alt,T.fc,T.oc,F,B _ F,S,by rw [hΓ,List.getElem?_map,e1];rfl,?_⟩
 show dU T p.2.2=_
 cases q:dU T p.2.2 with
 | none=>rw [q] at c;exact nomatch c.2
 | some g=>unfold cT;rw [q];rfl
theorem _root_.L2.Fun.d {K:Fg} {x q:Str} {st:Stmt} {f:Addr} {fd:FuncData} (F:Fun K x q st f fd) (h:dfB st=none):jo K x q st f fd:=by
 obtain ⟨oc,od,kV,doc,pm,an,cdv,ct,osl,e,lk,hcd⟩:=F.ex
 exact ⟨⟨oc,od,.none,kV,doc,pm,an,cdv,ct,osl,e,lk,hcd,by rw [h];rfl⟩,F.kp⟩
def eB (K:Fg):List (Str×Stmt)→Prop
 | []=>True
 | p :: r=>(∃ f fd,jo K p.1 p.1 p.2 f fd∧PySem.W.nsIn K mainGlobals p.1=some (some (.ref f)))∧eB K r
theorem hl_cons {K:Fg} {x:Str} {st:Stmt} {f:Addr} {od an:Option Addr} {sl:Array (Option Value)} {oc kV dc pm cd ct:Value} (a:PySem.W.nsIn K mainGlobals x=some (some (.ref f)))
 (l:K.lookup f=some ⟨oc,od,.func (PySem.W.fnOf x x (aA st) (bG st) (ao st) .none kV dc pm an cd ct),sl⟩) (c:PySem.W.codeIn K cd x=true) (k:PySem.W.keepIn K (.ref f)=true) (d:dfB st=none) (t:eB K r):eB K ((x,st) :: r):=⟨⟨f,_,(jD l c k).d d,a⟩,t⟩
def ti (mg:Str→Option Value):List Str→List Addr→Prop
 | [],_=>True
 | x :: xs,f :: fs=>mg x=some (.ref f)∧ti mg xs fs
 | _ :: _,[]=>False
theorem eB.ad {K:Fg} {h:Heap} {mg:Str→Option Value} (Y:K.In h) (G:h.Ns mainGlobals mg):∀ {l},eB K l→∃ ad,FsL K (l.map fun p=>(p.1,p.1,p.2)) ad∧ti mg (l.map (·.1)) ad
 | [],_=>⟨[],trivial,trivial⟩
 | _ :: _,⟨⟨f,fd,F,n⟩,t⟩=>let ⟨ad,h1,h2⟩:=eB.ad Y G t;⟨f :: ad,⟨⟨fd,F⟩,h1⟩,PySem.W.mg_of Y G n,h2⟩
theorem dL {ad ms:List Addr} (h:ad.length=n):(ad ++ ms)[n+k]? = ms[k]?:=by rw [List.getElem?_append_right (by omega)];congr 1;omega
theorem mC :∀ {xs} {fs} {j:Nat} {x:Str},ti mg xs fs→xs[j]? = some x→∃ f,fs[j]? = some f∧mg x=some (.ref f)
 | [],_,_,_,_,e=>by simp at e
 | y :: xs,f :: fs,0,x,h,e=>by simp at e;subst e;exact ⟨f,rfl,h.1⟩
 | y :: xs,f :: fs,j+1,x,h,e=>by
   obtain ⟨g,h1,h2⟩:=mC (j:=j) h.2 (by simpa using e)
   exact ⟨g,by simpa using h1,h2⟩
 | _ :: _,[],_,_,h,_=>h.elim
def b5 {α:Type} (P:Nat→α→Prop):Nat→List α→Prop
 | _,[]=>True
 | j,x :: r=>P j x∧b5 P (j+1) r
theorem r6 :∀ {l:List α} {j i} {x:α},b5 P j l→l[i]? = some x→P (j+i) x
 | [],_,i,_,_,e=>by simp at e
 | g :: r,j,0,f,h,e=>by simp at e;subst e;exact h.1
 | g :: r,j,i+1,f,h,e=>by
   have:=r6 (i:=i) h.2 (by simpa using e)
   rw [show j+(i+1)=j+1+i by omega];exact this
theorem bu (h:b5 P 0 l) (e:l[i]? = some x):P i x:=by
 have:=r6 h e
 rwa [Nat.zero_add] at this
def jq (K:Fg) (C:Addr) (m qn:Str) (st:Stmt) (f:Addr):Prop:=(∃ fd,Fun K m qn st f fd)∧vA K C m f
theorem me_mk {K:Fg} {C f:Addr} {m qn:Str} {st:Stmt} {od an:Option Addr} {sl:Array (Option Value)} {oc kV dc pm cd ct:Value} (at_:PySem.W.findIn K (.ref C) m=some (some (.ref f))) (l:K.lookup f=some ⟨oc,od,.func (PySem.W.fnOf m qn (aA st) (bG st) (ao st) .none kV dc pm an cd ct),sl⟩) (fn:PySem.W.isFn K (.ref f)=true) (c:PySem.W.codeIn K cd qn=true) (k:PySem.W.keepIn K (.ref f)=true):jq K C m qn st f:=⟨⟨_,jD l c k⟩,at_,fn,k⟩
structure vy (K:Fg) (x:Str) (C:Addr):Prop where
 a:PySem.W.nsIn K mainGlobals x=some (some (.ref C))
 cls:Cls K C
 mks:PySem.W.makesIn K C=true
 kp:PySem.W.keepIn K (.ref C)=true
theorem cc_mk {K:Fg} (a:PySem.W.nsIn K mainGlobals x=some (some (.ref C))) (pg:PySem.W.plainGet K C Str.empty=true) (hd:PySem.W.hasDictIn K C=true) (po:PySem.W.plainOver K C=true) (sa:PySem.W.findIn K (.ref C) "__setattr__" = some (some (.builtin "object.__setattr__"))) (mk:PySem.W.makesIn K C=true) (kp:PySem.W.keepIn K (.ref C)=true):vy K x C:=⟨a,⟨pg,hd,po,sa⟩,mk,kp⟩
structure ly (K:Fg) (x qn:Str) (st:Stmt) (bmB:List Value) (nw:String) (C fI:Addr):Prop where
 a:PySem.W.nsIn K mainGlobals x=some (some (.ref C))
 own:fG K C fI bmB nw
 ini:∃ fd,Fun K "__init__" qn st fI fd
 st:eA K C
 fd:bJ K C
 hh:PySem.W.hasDictIn K C=true
 ec:iB K C
 kp:PySem.W.keepIn K (.ref C)=true
 me:PySem.W.mroIn K C (.ref C)=some true
theorem xc_mk {K:Fg} {x qn:Str} {st:Stmt} {bmB:List Value} {nw:String} {C fI:Addr} {nm q:Str} {N:Addr} {bs bm:List Value} {hdct:Bool} {sn:List Str} {sub:List Value} {ab:Bool} {col:Option Bool} {dd:Option Addr} {k0 k1 k2 k3 k5:Option Value} {od an:Option Addr} {sl:Array (Option Value)} {oc kV dc pm cd ct:Value}
 (a:PySem.W.nsIn K mainGlobals x=some (some (.ref C))) (l:K.lookup C=some (excClassObj nm q C N bs bm hdct sn sub ab col dd k0 k1 k2 k3 k5 nw)) (t:PySem.W.tailIn K bmB bm=true) (ini:PySem.W.findIn K (.ref C) "__init__" = some (some (.ref fI))) (fl:K.lookup fI=some ⟨oc,od,.func (PySem.W.fnOf "__init__" qn (aA st) (bG st) (ao st) .none kV dc pm an cd ct),sl⟩) (fn:PySem.W.isFn K (.ref fI)=true) (fc:PySem.W.codeIn K cd qn=true) (fk:PySem.W.keepIn K (.ref fI)=true)
 (ga:PySem.W.findIn K (.ref C) "__getattribute__" = some (some (.builtin "BaseException.__getattribute__"))) (gn:PySem.W.findIn K (.ref C) "__getattr__" = some none) (cl:PySem.W.findIn K (.ref C) "__class__" = some (some (.builtin "object.__class__"))) (sg:PySem.W.specialIn K (.builtin "object.__class__") "__get__" = some (some (.builtin "getset_descriptor.__get__"))) (tk:PySem.W.takesIn K (.builtin "object.__class__")=some true) (ob:PySem.W.mroIn K C (.type "object")=some true) (be:PySem.W.mroIn K C (.type "BaseException")=some true)
 (is:(PySem.W.clsIn K C).isSome=true) (kp:PySem.W.keepIn K (.ref C)=true) (tyC:PySem.W.typeIn K (.ref C)=some (.type "type")) (sa:PySem.W.findIn K (.ref C) "__setattr__" = some (some (.builtin "object.__setattr__"))) (ov:((PySem.W.clsIn K C).any fun cd=>fj veB cd.mro || fj exB cd.mro)=true) (hdc:((PySem.W.clsIn K C).any fun cd=>cd.hasDict)=true) (hh:PySem.W.hasDictIn K C=true) (me:PySem.W.mroIn K C (.ref C)=some true):ly K x qn st bmB nw C fI:=
 ⟨a,⟨⟨nm,q,N,bs,bm,hdct,sn,sub,ab,col,dd,k0,k1,k2,k3,k5,l,t⟩,ini,fn⟩,⟨_,jD fl fc fk⟩,⟨sa,ov,hdc,ob⟩,⟨ga,gn,cl,sg,tk,ob,be,is⟩,hh,⟨tyC,is,be⟩,kp,me⟩
structure mB (K:Fg) (x:Str) (C:Addr):Prop where
 a:PySem.W.nsIn K mainGlobals x=some (some (.ref C))
 fd:bJ K C
 hh:PySem.W.hasDictIn K C=true
 ec:iB K C
theorem xb_mk {K:Fg} {x:Str} {C:Addr} (a:PySem.W.nsIn K mainGlobals x=some (some (.ref C))) (ga:PySem.W.findIn K (.ref C) "__getattribute__" = some (some (.builtin "BaseException.__getattribute__"))) (gn:PySem.W.findIn K (.ref C) "__getattr__" = some none) (cl:PySem.W.findIn K (.ref C) "__class__" = some (some (.builtin "object.__class__"))) (sg:PySem.W.specialIn K (.builtin "object.__class__") "__get__" = some (some (.builtin "getset_descriptor.__get__"))) (tk:PySem.W.takesIn K (.builtin "object.__class__")=some true) (ob:PySem.W.mroIn K C (.type "object")=some true) (be:PySem.W.mroIn K C (.type "BaseException")=some true)
 (is:(PySem.W.clsIn K C).isSome=true) (tyC:PySem.W.typeIn K (.ref C)=some (.type "type")) (hh:PySem.W.hasDictIn K C=true):mB K x C:=⟨a,⟨ga,gn,cl,sg,tk,ob,be,is⟩,hh,⟨tyC,is,be⟩⟩
def GlL (K:Fg):List (Str×L2.Bk.Dk)→Prop
 | []=>True
 | p :: r=>(∃ u,PySem.W.nsIn K mainGlobals p.1=some (some u)∧aJ K p.2 u=true)∧GlL K r
theorem gl_cons {K:Fg} (a:PySem.W.nsIn K mainGlobals x=some (some u)) (b:aJ K d u=true) (t:GlL K r):GlL K ((x,d) :: r):=⟨⟨u,a,b⟩,t⟩
theorem GlL.at {K:Fg}:∀ {l} {j:Nat} {x:Str},GlL K l→(l.map (·.1))[j]? = some x→∃ d u,(l.map (·.2))[j]? = some d∧PySem.W.nsIn K mainGlobals x=some (some u)∧aJ K d u=true
 | [],_,_,_,e=>by simp at e
 | p :: _,0,_,⟨⟨u,h⟩,_⟩,e=>by simp at e;subst e;exact ⟨_,u,rfl,h⟩
 | _ :: _,j+1,_,h,e=>GlL.at (j:=j) h.2 (by simpa using e)
def ju (K:Fg):List (Str×List (Str×L2.Bk.Dk))→Prop
 | []=>True
 | p :: r=>(∃ a,PySem.W.nsIn K mainGlobals p.1=some (some (.ref a))∧KTD.tabLook (aJ K) (fun b=>K.lookup b) a p.2=true)∧ju K r
theorem tb_cons {K:Fg} {u:Addr} {d:List (Str×L2.Bk.Dk)} (a:PySem.W.nsIn K mainGlobals x=some (some (.ref u))) (b:KTD.tabLook (aJ K) (fun b=>K.lookup b) u d=true) (t:ju K r):ju K ((x,d) :: r):=⟨⟨u,a,b⟩,t⟩
theorem ju.at {K:Fg}:∀ {l} {j:Nat} {x:Str},ju K l→(l.map (·.1))[j]? = some x→∃ t a,(l.map (·.2))[j]? = some t∧PySem.W.nsIn K mainGlobals x=some (some (.ref a))∧KTD.tabLook (aJ K) (fun b=>K.lookup b) a t=true
 | [],_,_,_,e=>by simp at e
 | p :: _,0,_,⟨⟨u,h⟩,_⟩,e=>by simp at e;subst e;exact ⟨_,u,rfl,h⟩
 | _ :: _,j+1,_,h,e=>ju.at (j:=j) h.2 (by simpa using e)
def NoL (K:Fg):List Str→Prop
 | []=>True
 | x :: r=>PySem.W.nsIn K mainGlobals x=some none∧NoL K r
theorem nl_cons {K:Fg} (a:PySem.W.nsIn K mainGlobals x=some none) (t:NoL K r):NoL K (x :: r):=⟨a,t⟩
theorem NoL.at {K:Fg}:∀ {l},NoL K l→∀ x∈l,PySem.W.nsIn K mainGlobals x=some none
 | _ :: _,h,_,m=>(List.mem_cons.mp m).elim (fun e=>e ▸ h.1) (h.2.at _)
def NaL (K:Fg) (C:Addr):List Str→Prop
 | []=>True
 | x :: r=>PySem.W.findIn K (.ref C) x=some none∧NaL K C r
theorem NaL.at {K:Fg}:∀ {l},NaL K C l→∀ x∈l,PySem.W.findIn K (.ref C) x=some none
 | _ :: _,h,_,m=>(List.mem_cons.mp m).elim (fun e=>e ▸ h.1) (h.2.at _)
def MrL (K:Fg):List (Str×Str×Bool)→Prop
 | []=>True
 | p :: r=>(∃ C D:Addr,PySem.W.nsIn K mainGlobals p.1=some (some (.ref C))∧PySem.W.nsIn K mainGlobals p.2.1=some (some (.ref D))∧PySem.W.mroIn K C (.ref D)=some p.2.2)∧MrL K r
theorem mr_cons {K:Fg} {C D:Addr} {m n:Str} {o:Bool} (a:PySem.W.nsIn K mainGlobals m=some (some (.ref C))) (b:PySem.W.nsIn K mainGlobals n=some (some (.ref D))) (c:PySem.W.mroIn K C (.ref D)=some o) (t:MrL K r):MrL K ((m,n,o) :: r):=⟨⟨C,D,a,b,c⟩,t⟩
def VxL (K:Fg):List (Str×Bool)→Prop
 | []=>True
 | p :: r=>(∃ C:Addr,PySem.W.nsIn K mainGlobals p.1=some (some (.ref C))∧PySem.W.mroIn K C (.type "ValueError")=some p.2)∧VxL K r
theorem vx_cons {K:Fg} {C:Addr} {m:Str} {o:Bool} (a:PySem.W.nsIn K mainGlobals m=some (some (.ref C))) (b:PySem.W.mroIn K C (.type "ValueError")=some o) (tv:VxL K r):VxL K ((m,o) :: r):=⟨⟨C,a,b⟩,tv⟩
theorem VxL.at {K:Fg} {C:Addr} {m:Str} {o:Bool}:∀ {l},VxL K l→(m,o)∈l→PySem.W.nsIn K mainGlobals m=some (some (.ref C))→PySem.W.mroIn K C (.type "ValueError")=some o
 | p :: r,⟨⟨C',a,b⟩,t⟩,h,e=>by
   rcases List.mem_cons.mp h with q | q
   ·subst q
    rw [a] at e;cases e;exact b
   ·exact VxL.at t q e
theorem MrL.at {K:Fg} {C D:Addr} {m n:Str} {o:Bool}:∀ {l},MrL K l→(m,n,o)∈l→PySem.W.nsIn K mainGlobals m=some (some (.ref C))→PySem.W.nsIn K mainGlobals n=some (some (.ref D))→PySem.W.mroIn K C (.ref D)=some o
 | p :: r,⟨⟨C',D',a,b,c⟩,t⟩,h,e1,e2=>by
   rcases List.mem_cons.mp h with q | q
   ·subst q
    rw [e1] at a;cases a
    rw [e2] at b;cases b
    exact c
   ·exact MrL.at t q e1 e2
def KOf {K:Fg} {h:Heap} (_:K.In h):Fg:=K
theorem yr {Γ:Gm} {cal cal1:Nat→List D→List O→Res}:ev Γ cal cal1 br (.v i) s=(match s.env[i]? with | some (some d)=>.ok d (if br then s else un s i) | _=>.bad):=rfl
inductive IT where
 | fin (o:ah)
 | call (j:Nat) (ds:List D) (st:List O) (k:Res→IT)
 | call1 (j:Nat) (ds:List D) (st:List O) (k:Res→IT)
 | test (b:Bool) (k:Bool→IT)
 | opt (o:Option D) (k:D→IT)
 | sub (o:Out D) (k:D→Sta→IT) (kx:Nat→List D→Sta→IT)
 | subS (o:ah) (k:ah→IT)
def IT.bad:IT:=.fin .bad
def lcT (g:D→Sta→(Option D→Sta→IT)→IT):List D→List D→Sta→(D→Sta→IT)→IT
 | [],acc,s,k=>k (.lst acc) s
 | d :: r,acc,s,k=>g d s fun o s'=>match o with
   | some e=>.test (decide (acc.length<100000)) fun t=>if t then lcT g r (acc ++ [e]) s' k else .bad
   | none=>lcT g r acc s' k
def tV (g:D→Sta→(Sta→IT)→IT):List D→Sta→(Sta→IT)→IT
 | [],s,k=>k s
 | d :: r,s,k=>g d s fun s=>tV g r s k
def nk (st:List O) (p c:Nat):Bool:=match st[p]? with | some (.ins c' _)=>c' == c | _=>false
def tW (x y:D) (z:D):Option D:=match x,bF y with | .dic ks ds,some k=>some ((cY ks ds k).getD z) | _,_=>none
def lA (es:E) (s:Sta) (d:D) (st:List O) (k:D→Sta→IT):IT:=if s.ow.any fun i=>(bh es).contains i then .test (noL d && st.all jS) fun t=>k d ⟨s.env,s.ow.filter fun i=>!(bh es).contains i || (isLst s.env[i]? && t),st⟩ else k d (aft es s d st)
section
variable (Γ:Gm) (cal cal1:Nat→List D→List O→Res) (lp:Bool)
mutual
noncomputable def evT (br:Bool):E→Sta→(D→Sta→IT)→(Nat→List D→Sta→IT)→IT
 | .v i,s,k,kx=>(match s.env[i]? with | some (some d)=>k d (if br then s else un s i) | _=>.bad)
 | .c d,s,k,kx=>k d s
 | .g j,s,k,kx=>(match Γ.gl[j]?.map toD with | some d=>k d s | none=>.bad)
 | .op o a b,s,k,kx=>evT true a s (fun x s=>evT true b s (fun y s=>.opt (opD o (look s.st x) (look s.st y)) fun d=>k d s) kx) kx
 | .isN a,s,k,kx=>evT true a s (fun x s=>k (.bl (iS x)) s) kx
 | .isNN a,s,k,kx=>evT true a s (fun x s=>k (.bl (!iS x)) s) kx
 | .neg a,s,k,kx=>evT true a s (fun x s=>match x with | .int i=>k (.int (-i)) s | _=>.bad) kx
 | .not a,s,k,kx=>evT true a s (fun x s=>match x with | .bl b=>k (.bl (!b)) s | _=>.bad) kx
 | .and a b,s,k,kx=>evT false a s (fun x s=>match x with | .bl t=>.test t fun t=>if t then evT false b s k kx else k (.bl false) s | _=>.bad) kx
 | .or a b,s,k,kx=>evT false a s (fun x s=>match x with | .bl t=>.test t fun t=>if t then k (.bl true) s else evT false b s k kx | _=>.bad) kx
 | .ite c a b,s,k,kx=>evT true c s (fun x s=>match x with | .bl t=>.test t fun t=>if t then evT false a s k kx else evT false b s k kx | _=>.bad) kx
 | .chain o p a b c,s,k,kx=>evT true a s (fun x s=>evT true b s (fun y s=>.opt (opD o (look s.st x) (look s.st y)) fun d=>match d with
   | .bl t=>.test t fun t=>if t then evT true c s (fun z s=>.opt (opD p (look s.st y) (look s.st z)) fun d=>k d s) kx else k (.bl false) s
   | _=>.bad) kx) kx
 | .ix a b,s,k,kx=>evT true a s (fun x s=>evT true b s (fun y s=>.opt (ixD (look s.st x) y) fun d=>k d s) kx) kx
 | .sl a lo hi,s,k,kx=>evT true a s (fun x s=>
  let k3:=fun l s=>(if bc hi then .opt (slO (look s.st x) l none) fun d=>k d s else evT true hi s (fun z s=>match z with | .int h=>.opt (slO (look s.st x) l (some h)) fun d=>k d s | _=>.bad) kx)
  if bc lo then k3 none s else evT true lo s (fun z s=>match z with | .int l=>k3 (some l) s | _=>.bad) kx) kx
 | .sl3 a lo hi,s,k,kx=>evT true a s (fun x s=>
  let k3:=fun l s=>(if bc hi then .opt (mc (look s.st x) l none) fun d=>k d s else evT true hi s (fun z s=>match z with | .int h=>.opt (mc (look s.st x) l (some h)) fun d=>k d s | _=>.bad) kx)
  if bc lo then k3 none s else evT true lo s (fun z s=>match z with | .int l=>k3 (some l) s | _=>.bad) kx) kx
 | .tget j e d,s,k,kx=>evT true e s (fun x s=>evT false d s (fun z s=>match Γ.tb[j]?,x with | some t,.str y=>k (((KTD.datumAt y t).map toD).getD z) s | _,_=>.bad) kx) kx
 | .newd j es,s,k,kx=>cH false es s (fun l s=>.opt ((Γ.cl[j]?).bind fun k=>if k.what=1∧l.length=k.at_.length then some (D.ins j l) else none) fun d=>k d s) kx
 | .fld a f,s,k,kx=>evT true a s (fun x s=>.opt (jC Γ s.st x f) fun d=>k d s) kx
 | .tup es,s,k,kx=>cH false es s (fun l s=>if l.length≤100000 then k (.tup l) s else .bad) kx
 | .lst es,s,k,kx=>cH false es s (fun l s=>if l.length≤100000 then k (.lst l) s else .bad) kx
 | .newl es,s,k,kx=>cH false es s (fun l s=>if l.length≤100000 then k (.ref s.st.length) ⟨s.env,s.ow,s.st ++ [.lst l]⟩ else .bad) kx
 | .keep kp a,s,k,kx=>evT false a (hid (kp.filter s.ow.contains) s) (fun d s'=>k d ⟨s.env,s'.ow ++ kp.filter s.ow.contains,s'.st⟩) (fun _ _ _=>.bad)
 | .sto a,s,k,kx=>evT false a s (fun x s=>match x with | .lst l=>k (.ref s.st.length) ⟨s.env,s.ow,s.st ++ [.lst l]⟩ | _=>.bad) kx
 | .call j es,s,k,kx=>cH true es s (fun l s=>.call j l s.st fun r=>match r with | .ok d st=>lA es s d st k | .exc c l st=>kx c l (drp es s st) | .bad=>.bad) kx
 | .hcall j es,s,k,kx=>cH false es s (fun l s=>.test (aK l) fun t=>if t then .call j l [] fun r=>(match r with
  | .ok d st=>.test (noR d) fun t=>if t then k d s else k (shD s.st.length d) ⟨s.env,s.ow,s.st ++ st.map (shO s.st.length)⟩
  | .exc c l _=>.test (aK l) fun t=>if t then kx c l s else .bad
  | .bad=>.bad) else .bad) kx
 | .fcall own j es,s,k,kx=>cH false es s (fun l s=>.test (aK l) fun t=>if t then .call j l [] fun r=>(match r with
  | .ok d st=>.test (own && !nq d) fun t=>if t then .bad else .opt (wp st d) fun d=>k d s
  | .exc c l _=>.test (aK l) fun t=>if t then kx c l s else .bad
  | .bad=>.bad) else .bad) kx
 | .mth c j a es,s,k,kx=>evT true a s (fun x s=>match x with
   | .ref p=>.test (nk s.st p c) fun t=>if t then cH true es s (fun l s=>.call j (.ref p :: l) s.st fun r=>match r with | .ok d st=>lA es s d st k | .exc c l st=>kx c l (drp es s st) | .bad=>.bad) kx else .bad
   | _=>.bad) kx
 | .bi b es,s,k,kx=>cH true es s (fun l s=>.opt (biD b (l.map (look s.st))) fun d=>k d s) kx
 | .tab j e,s,k,kx=>evT true e s (fun x s=>match Γ.tb[j]?,x with | some t,.str y=>.opt ((KTD.datumAt y t).map toD) fun d=>k d s | _,_=>.bad) kx
 | .tabin j e,s,k,kx=>evT true e s (fun x s=>match Γ.tb[j]?,x with | some t,.str y=>k (.bl (KTD.datumAt y t).isSome) s | _,_=>.bad) kx
 | .lc t one it elt cond,s,k,kx=>evT false it s (fun x s=>match x with
   | .lst ds=>if lp then .sub ((bH (fun d s'=>(match aE t one d s'.env with
    | some env=>(ev Γ cal cal1 true cond ⟨env,[],s'.st⟩).bind fun b s2=>(match b with
      | .bl true=>(ev Γ cal cal1 false elt s2).bind fun e s3=>.ok (some e) ⟨s3.env,[],s3.st⟩
      | .bl false=>.ok none ⟨s2.env,[],s2.st⟩
      | _=>.bad)
    | none=>.bad)) ds [] ⟨List.replicate t.length none ++ s.env,[],s.st⟩)) (fun d s'=>k d ⟨s.env,[],s'.st⟩) (fun c l s'=>kx c l ⟨s.env,[],s'.st⟩)
     else lcT (fun d s' k'=>match aE t one d s'.env with
      | some env=>evT true cond ⟨env,[],s'.st⟩ (fun b s2=>match b with
        | .bl t=>.test t fun t=>if t then evT false elt s2 (fun e s3=>k' (some e) ⟨s3.env,[],s3.st⟩) (fun c l s'=>kx c l ⟨s.env,[],s'.st⟩) else k' none ⟨s2.env,[],s2.st⟩
        | _=>.bad) (fun c l s'=>kx c l ⟨s.env,[],s'.st⟩)
      | none=>.bad) ds [] ⟨List.replicate t.length none ++ s.env,[],s.st⟩ (fun d s'=>k d ⟨s.env,[],s'.st⟩)
   | _=>.bad) kx
 | .tand a b,s,k,kx=>evT true a s (fun x s=>match x with | .bl t=>.test t fun t=>if t then evT true b s k kx else k (.bl false) s | _=>.bad) kx
 | .tor a b,s,k,kx=>evT true a s (fun x s=>match x with | .bl t=>.test t fun t=>if t then k (.bl true) s else evT true b s k kx | _=>.bad) kx
 | .tnot a,s,k,kx=>evT true a s (fun x s=>match x with | .bl b=>k (.bl (!b)) s | _=>.bad) kx
 | .tv a,s,k,kx=>evT true a s (fun x s=>.opt ((rW (look s.st x)).map .bl) fun d=>k d s) kx
 | .it b es,s,k,kx=>cH false es s (fun l s=>.opt ((itD b l).map .lst) fun d=>k d s) kx
 | .itv a,s,k,kx=>evT false a s (fun x s=>match pF x with | some l=>k (.lst l) s | none=>.bad) kx
 | .dic es,s,k,kx=>cH false es s (fun l s=>.opt ((mK l).map fun p=>.dic p.1 p.2) fun d=>k d s) kx
 | .get a b c,s,k,kx=>evT true a s (fun x s=>.test (isDic (look s.st x)) fun t=>if t then evT true b s (fun y s=>evT false c s (fun z s=>.opt (tW (look s.st x) y z) fun d=>k d s) kx) kx else .bad) kx
 | .index a b,s,k,kx=>evT true a s (fun x s=>.test (qD x) fun t=>if t then evT true b s (fun y s=>.opt (wA x y) fun d=>k d s) kx else .bad) kx
 | .join x a,s,k,kx=>evT true a s (fun y s=>.opt (kF x (look s.st y)) fun d=>k d s) kx
 | .fmt x a y,s,k,kx=>evT true a s (fun v s=>.opt (wk x v y) fun d=>k d s) kx
 | .dicc ks es,s,k,kx=>cH false es s (fun l s=>.opt (sH ks l) fun d=>k d s) kx
 | .isXv a,s,k,kx=>evT true a s (fun x s=>.opt (sO Γ x) fun d=>k d s) kx
 | .snap i a,s,k,kx=>(match s.env[i]? with
   | some (some (.ref n))=>(match s.st[n]? with
     | some (.lst l)=>.test (aK l) fun t=>if t then evT false a ⟨(aM s.env).set i (some (.lst l)),[],[]⟩ (fun d _=>.test (flX (fresh a) d) fun t=>if t then k d ⟨s.env,[],s.st⟩ else .bad) (fun _ _ _=>.bad) else .bad
     | _=>.bad)
   | _=>.bad)
 | .sm q a,s,k,kx=>evT true a s (fun x s=>.opt (smO q x) fun d=>k d s) kx
 | .pop a,s,k,kx=>evT true a s (fun x s=>match x with
   | .ref n=>(match s.st[n]? with | some (.lst l)=>.opt l.getLast? fun d=>k d ⟨s.env,s.ow,s.st.set n (.lst l.dropLast)⟩ | _=>.bad)
   | _=>.bad) kx
 | .isX a js,s,k,kx=>evT true a s (fun x s=>.opt (wF Γ x js) fun d=>k d s) kx
 | .new j es,s,k,kx=>cH true es s (fun l s=>(match Γ.cl[j]? with
   | some q=>if q.what=1 then (if l.length=q.at_.length then k (.ins j l) (drp es s s.st) else .bad) else if q.what=0 then .call1 q.init (.ref s.st.length :: l) (s.st ++ [.ins j []]) fun r=>(match r with
    | .ok .non st=>k (.ref s.st.length) (aft es s .non st)
    | _=>.bad)
     else .bad
   | none=>.bad)) kx
 | _,_,_,_=>.bad
noncomputable def cH (br:Bool):E→Sta→(List D→Sta→IT)→(Nat→List D→Sta→IT)→IT
 | .nil,s,k,kx=>k [] s
 | .cons a r,s,k,kx=>evT br a s (fun x s=>cH br r s (fun l s=>k (x :: l) s) kx) kx
 | _,_,_,_=>.bad
end
def exT:S→Sta→(Sta→IT)→(D→Sta→IT)→(Nat→List D→Sta→IT)→IT
 | .skip,s,kn,kr,kx=>kn s
 | .seq a b,s,kn,kr,kx=>exT a s (fun s=>exT b s kn kr kx) kr kx
 | .set i e,s,kn,kr,kx=>evT Γ cal cal1 lp false e s (fun d s=>kn (ip s i d (fresh e))) kx
 | .setT l e,s,kn,kr,kx=>evT Γ cal cal1 lp false e s (fun d s=>match aE l false d s.env with | some env=>kn ⟨env,s.ow.filter fun i=>!l.contains i,s.st⟩ | none=>.bad) kx
 | .setR i es,s,kn,kr,kx=>cH Γ cal cal1 lp false es s (fun l s=>if l.length≤100000 then kn ⟨s.env.set i (some (.ref s.st.length)),s.ow.filter (· != i),s.st ++ [.lst l]⟩ else .bad) kx
 | .ret e,s,kn,kr,kx=>evT Γ cal cal1 lp false e s kr kx
 | .ifs c a b,s,kn,kr,kx=>evT Γ cal cal1 lp true c s (fun x s=>match x with | .bl t=>.test t fun t=>if t then exT a s kn kr kx else exT b s kn kr kx | _=>.bad) kx
 | .drop e,s,kn,kr,kx=>evT Γ cal cal1 lp false e s (fun _ s=>kn s) kx
 | .app i e,s,kn,kr,kx=>if s.ow.contains i && isLst s.env[i]? then evT Γ cal cal1 lp false e s (fun d s=>if s.ow.contains i then (match s.env[i]? with
  | some (some (.lst l))=>.test (decide (l.length<100000)) fun t=>if t then kn ⟨s.env.set i (some (.lst (l ++ [d]))),s.ow,s.st⟩ else .bad
  | _=>.bad) else .bad) kx else .bad
 | .ext i e,s,kn,kr,kx=>if s.ow.contains i && isLst s.env[i]? then evT Γ cal cal1 lp false e s (fun d s=>if s.ow.contains i then (match s.env[i]?,d with
  | some (some (.lst l)),.lst x=>.test (decide (l.length+x.length≤100000)) fun t=>if t then kn ⟨s.env.set i (some (.lst (l ++ x))),s.ow,s.st⟩ else .bad
  | _,_=>.bad) else .bad) kx else .bad
 | .put (.v i) b e,s,kn,kr,kx=>evT Γ cal cal1 lp false e s (fun d s=>(match s.env[i]? with
  | some (some x)=>evT Γ cal cal1 lp true b s (fun y s=>(match x with
    | .ref n=>(match (s.st[n]?).bind fun o=>fP o y d with | some o=>kn ⟨s.env,s.ow,s.st.set n o⟩ | none=>.bad)
    | x=>if s.ow.contains i then .opt (i4 x y d) fun y=>kn ⟨s.env.set i (some y),s.ow,s.st⟩ else .bad)) kx
  | _=>.bad)) kx
 | .fapp a f e,s,kn,kr,kx=>evT Γ cal cal1 lp true a s (fun x s=>.test (d8 s.st x) fun t=>if t then evT Γ cal cal1 lp false e s (fun d s=>(match x with
  | .ref n=>(match s.st[n]? with | some (.lst l)=>.test (decide (l.length<100000)) fun t=>if t then kn ⟨s.env,s.ow,s.st.set n (.lst (l ++ [d]))⟩ else .bad | _=>.bad)
  | _=>.bad)) kx else .bad) kx
 | .fext a e,s,kn,kr,kx=>evT Γ cal cal1 lp true a s (fun x s=>.test (d8 s.st x) fun t=>if t then evT Γ cal cal1 lp false e s (fun d s=>(match x with
  | .ref n=>(match s.st[n]?,d with | some (.lst l),.lst m=>.test (decide (l.length+m.length≤100000)) fun t=>if t then kn ⟨s.env,s.ow,s.st.set n (.lst (l ++ m))⟩ else .bad | _,_=>.bad)
  | _=>.bad)) kx else .bad) kx
 | .rais j es,s,kn,kr,kx=>cH Γ cal cal1 lp false es s (fun l s=>.test (cC Γ j l) fun t=>if t then kx j (eO Γ j l) s else .bad) kx
 | .try_ a hs,s,kn,kr,kx=>exT a s kn kr (fun c l s'=>hndT hs c l s' kn kr kx)
 | .for_ t one it b,s,kn,kr,kx=>evT Γ cal cal1 lp false it s (fun x s=>(match x with
  | .lst ds=>if lp then .subS (bL (fun d s=>match aE t one d s.env with | some env=>exS Γ cal cal1 b ⟨env,s.ow.filter fun i=>!t.contains i,s.st⟩ | none=>.bad) ds s) (fun o=>match o with | .nx s=>kn s | .rt d s=>kr d s | .exc c l s=>kx c l s | .bad=>.bad)
    else tV (fun d s k=>match aE t one d s.env with | some env=>exT b ⟨env,s.ow.filter fun i=>!t.contains i,s.st⟩ k kr kx | none=>.bad) ds s kn
  | _=>.bad)) kx
 | c,s,kn,kr,kx=>.subS (exS Γ cal cal1 c s) (fun o=>match o with | .nx s=>kn s | .rt d s=>kr d s | .exc c l s=>kx c l s | .bad=>.bad)
where hndT:S→Nat→List D→Sta→(Sta→IT)→(D→Sta→IT)→(Nat→List D→Sta→IT)→IT
 | .hand j (some i) b r,c,l,s,kn,kr,kx=>(match cE Γ j c with
  | some true=>exT b ⟨s.env.set i (some (.ins c l)),s.ow.filter (· != i),s.st⟩ (fun s=>kn ⟨s.env.set i none,s.ow.filter (· != i),s.st⟩) kr (fun _ _ _=>.bad)
  | some false=>hndT r c l s kn kr kx
  | none=>.bad)
 | .hand j none b r,c,l,s,kn,kr,kx=>(match cE Γ j c with
  | some true=>exT b s kn kr (fun _ _ _=>.bad)
  | some false=>hndT r c l s kn kr kx
  | none=>.bad)
 | .skip,c,l,s,kn,kr,kx=>kx c l s
 | _,_,_,_,_,_,_=>.bad
def aa:IT→ah
 | .fin o=>o
 | .call j ds st k=>aa (k (cal j ds st))
 | .call1 j ds st k=>aa (k (cal1 j ds st))
 | .test b k=>aa (k b)
 | .opt o k=>(match o with | some d=>aa (k d) | none=>.bad)
 | .sub o k kx=>(match o with | .ok d s=>aa (k d s) | .exc c l s=>aa (kx c l s) | .bad=>.bad)
 | .subS o k=>aa (k o)
end
def oc {α:Type} (x:Out α) (k:α→Sta→ah) (kx:Nat→List D→Sta→ah):ah:=match x with
 | .ok a s=>k a s
 | .exc c l s=>kx c l s
 | .bad=>.bad
theorem bq :oc (x.bind f) k kx=oc x (fun a s=>oc (f a s) k kx) kx:=by cases x <;> rfl
theorem bO (h:∀ a s,k a s=k' a s):oc x k kx=oc x k' kx:=by cases x <;> first | exact h _ _ | rfl
theorem ac (h:∀ a s,g a s=oc (f a s) k kx):oc x g kx=oc (x.bind f) k kx:=by
 rw [bq];exact bO h
section
variable {Γ:Gm} {cal cal1:Nat→List D→List O→Res} {lp:Bool}
theorem aT {k:D→Sta→IT} :aa cal cal1 (.opt o fun d=>k d s)=oc (.of s o) (fun d s=>aa cal cal1 (k d s)) kx:=by cases o <;> rfl
theorem ni [Decidable p] {k:D→Sta→IT} {kx:Nat→List D→Sta→ah}:aa cal cal1 (if p then k d s else .bad)=oc (if p then .ok d s else .bad) (fun d s=>aa cal cal1 (k d s)) kx:=by split <;> rfl
theorem ww {st:List O} {k:D→Sta→IT}:aa cal cal1 (lA es s d st k)=aa cal cal1 (k d (aft es s d st)):=by unfold lA;split <;> rfl
theorem sM {k:D→Sta→IT} {kx:Nat→List D→Sta→IT}:aa cal cal1 (.call j l s.st fun r=>match r with | .ok d st=>lA es s d st k | .exc c l st=>kx c l (drp es s st) | .bad=>.bad)=oc (fJ cal es j l s) (fun d s=>aa cal cal1 (k d s)) (fun c l s=>aa cal cal1 (kx c l s)):=by
 show aa cal cal1 (match cal j l s.st with | .ok d st=>lA es s d st k | .exc c l st=>kx c l (drp es s st) | .bad=>.bad)=_
 unfold fJ
 cases cal j l s.st <;> first | exact ww | rfl
theorem jI (h:∀ d s k,aa cal cal1 (g d s k)=oc (f d s) (fun o s=>aa cal cal1 (k o s)) kx):∀ (ds acc) (s) (k:D→Sta→IT),aa cal cal1 (lcT g ds acc s k)=oc (bH f ds acc s) (fun d s=>aa cal cal1 (k d s)) kx
 | [],acc,s,k=>rfl
 | d :: r,acc,s,k=>by
   show aa cal cal1 (g d s _)=oc ((f d s).bind _) _ _
   rw [h,bq]
   refine bO fun o s'=>?_
   cases o with
   | none=>exact jI h r acc s' k
   | some e=>
     dsimp only
     show aa cal cal1 (if decide (acc.length<100000)=true then lcT g r (acc ++ [e]) s' k else .bad)=_
     by_cases c:acc.length<100000
     ·rw [if_pos (decide_eq_true c),if_pos c];exact jI h r (acc ++ [e]) s' k
     ·rw [if_neg (by simpa using c),if_neg c];rfl
theorem rG {x:Out D}:oc (x.back env) k kx=oc x (fun d s'=>k d ⟨env,[],s'.st⟩) (fun c l s'=>kx c l ⟨env,[],s'.st⟩):=by cases x <;> rfl
theorem wy {x:Out D} {k:D→Sta→IT} {kx:Nat→List D→Sta→IT}:aa cal cal1 (.sub x k kx)=oc x (fun d s=>aa cal cal1 (k d s)) (fun c l s=>aa cal cal1 (kx c l s)):=by cases x <;> rfl
theorem wg :evT Γ cal cal1 lp br (.v i) s k kx=(match s.env[i]? with | some (some d)=>k d (if br then s else un s i) | _=>.bad):=rfl
theorem wf :evT Γ cal cal1 lp br (.g j) s k kx=(match Γ.gl[j]?.map toD with | some d=>k d s | none=>.bad):=rfl
theorem yp :ev Γ cal cal1 br (.g j) s = .of s (Γ.gl[j]?.map toD):=rfl
theorem aO:∀ e:E,(∀ br s k kx,aa cal cal1 (evT Γ cal cal1 lp br e s k kx)=oc (ev Γ cal cal1 br e s) (fun d s=>aa cal cal1 (k d s)) (fun c l s=>aa cal cal1 (kx c l s))) ∧
 (∀ br s k kx,aa cal cal1 (cH Γ cal cal1 lp br e s k kx)=oc (evs Γ cal cal1 br e s) (fun d s=>aa cal cal1 (k d s)) (fun c l s=>aa cal cal1 (kx c l s))):=by
 intro e
 induction e with
 | v i=>
   refine ⟨fun br s k kx=>?_,fun br s k kx=>rfl⟩
   rw [wg,yr]
   cases s.env[i]? with
   | none=>rfl
   | some o=>cases o <;> rfl
 | c d=>exact ⟨fun br s k kx=>rfl,fun br s k kx=>rfl⟩
 | g j=>
   refine ⟨fun br s k kx=>?_,fun br s k kx=>rfl⟩
   rw [wf,yp]
   cases Γ.gl[j]?.map toD <;> rfl
 | op o a b iha ihb=>exact ⟨fun br s k kx=>(iha.1 _ _ _ _).trans (ac fun x s=>(ihb.1 _ _ _ _).trans (ac fun y s=>aT)),fun br s k kx=>rfl⟩
 | isN a ih=>exact ⟨fun br s k kx=>(ih.1 _ _ _ _).trans (ac fun x s=>rfl),fun br s k kx=>rfl⟩
 | isNN a ih=>exact ⟨fun br s k kx=>(ih.1 _ _ _ _).trans (ac fun x s=>rfl),fun br s k kx=>rfl⟩
 | neg a ih=>exact ⟨fun br s k kx=>(ih.1 _ _ _ _).trans (ac fun x s=>by cases x <;> rfl),fun br s k kx=>rfl⟩
 | not a ih=>exact ⟨fun br s k kx=>(ih.1 _ _ _ _).trans (ac fun x s=>by cases x <;> rfl),fun br s k kx=>rfl⟩
 | and a b iha ihb=>exact ⟨fun br s k kx=>(iha.1 _ _ _ _).trans (ac fun x s=>by
  cases x with
  | bl t=>cases t with
    | true=>exact ihb.1 _ _ _ _
    | false=>rfl
  | _=>rfl),fun br s k kx=>rfl⟩
 | or a b iha ihb=>exact ⟨fun br s k kx=>(iha.1 _ _ _ _).trans (ac fun x s=>by
  cases x with
  | bl t=>cases t with
    | false=>exact ihb.1 _ _ _ _
    | true=>rfl
  | _=>rfl),fun br s k kx=>rfl⟩
 | ite c a b ihc iha ihb=>exact ⟨fun br s k kx=>(ihc.1 _ _ _ _).trans (ac fun x s=>by
  cases x with
  | bl t=>cases t with
    | true=>exact iha.1 _ _ _ _
    | false=>exact ihb.1 _ _ _ _
  | _=>rfl),fun br s k kx=>rfl⟩
 | chain o p a b c iha ihb ihc=>exact ⟨fun br s k kx=>(iha.1 _ _ _ _).trans (ac fun x s=>(ihb.1 _ _ _ _).trans (ac fun y s=>by
  show aa cal cal1 (.opt (opD o (look s.st x) (look s.st y)) _)=_
  cases opD o (look s.st x) (look s.st y) with
  | none=>rfl
  | some d=>cases d with
    | bl t=>cases t with
      | true=>exact (ihc.1 _ _ _ _).trans (ac fun z s=>aT)
      | false=>rfl
    | _=>rfl)),fun br s k kx=>rfl⟩
 | ix a b iha ihb=>exact ⟨fun br s k kx=>(iha.1 _ _ _ _).trans (ac fun x s=>(ihb.1 _ _ _ _).trans (ac fun y s=>aT)),fun br s k kx=>rfl⟩
 | sl a lo hi iha ihl ihh=>
   refine ⟨fun br s k kx=>(iha.1 _ _ _ _).trans (ac fun x s=>?_),fun br s k kx=>rfl⟩
   have k3:∀ l s,aa cal cal1 (if bc hi then .opt (slO (look s.st x) l none) fun d=>k d s else evT Γ cal cal1 lp true hi s (fun z s=>match z with | .int h=>.opt (slO (look s.st x) l (some h)) fun d=>k d s | _=>.bad) kx)=oc ((if bc hi then .ok none s else (ev Γ cal cal1 true hi s).bind toI).bind fun h s=>.of s (slO (look s.st x) l h)) (fun d s=>aa cal cal1 (k d s)) (fun c l s=>aa cal cal1 (kx c l s)):=fun l s=>by
    by_cases c:bc hi=true
    ·rw [if_pos c,if_pos c];exact aT
    ·rw [if_neg c,if_neg c,ihh.1,bq,bq]
     exact bO fun z s=>by cases z <;> first | exact aT | rfl
   by_cases c:bc lo=true
   ·dsimp only
    rw [if_pos c,if_pos c];exact k3 none s
   ·dsimp only
    rw [if_neg c,if_neg c,ihl.1,bq,bq]
    exact bO fun z s=>by cases z <;> first | exact k3 _ s | rfl
 | sl3 a lo hi iha ihl ihh=>
   refine ⟨fun br s k kx=>(iha.1 _ _ _ _).trans (ac fun x s=>?_),fun br s k kx=>rfl⟩
   have k3:∀ l s,aa cal cal1 (if bc hi then .opt (mc (look s.st x) l none) fun d=>k d s else evT Γ cal cal1 lp true hi s (fun z s=>match z with | .int h=>.opt (mc (look s.st x) l (some h)) fun d=>k d s | _=>.bad) kx)=oc ((if bc hi then .ok none s else (ev Γ cal cal1 true hi s).bind toI).bind fun h s=>.of s (mc (look s.st x) l h)) (fun d s=>aa cal cal1 (k d s)) (fun c l s=>aa cal cal1 (kx c l s)):=fun l s=>by
    by_cases c:bc hi=true
    ·rw [if_pos c,if_pos c];exact aT
    ·rw [if_neg c,if_neg c,ihh.1,bq,bq]
     exact bO fun z s=>by cases z <;> first | exact aT | rfl
   by_cases c:bc lo=true
   ·dsimp only
    rw [if_pos c,if_pos c];exact k3 none s
   ·dsimp only
    rw [if_neg c,if_neg c,ihl.1,bq,bq]
    exact bO fun z s=>by cases z <;> first | exact k3 _ s | rfl
 | tget j a b iha ihb=>exact ⟨fun br s k kx=>(iha.1 _ _ _ _).trans (ac fun x s=>(ihb.1 _ _ _ _).trans (ac fun y s=>by cases Γ.tb[j]? <;> cases x <;> rfl)),fun br s k kx=>rfl⟩
 | newd j es ih=>exact ⟨fun br s k kx=>(ih.2 _ _ _ _).trans (ac fun l s=>aT),fun br s k kx=>rfl⟩
 | fld a f ih=>exact ⟨fun br s k kx=>(ih.1 _ _ _ _).trans (ac fun x s=>aT),fun br s k kx=>rfl⟩
 | tup es ih=>exact ⟨fun br s k kx=>(ih.2 _ _ _ _).trans (ac fun l s=>ni),fun br s k kx=>rfl⟩
 | lst es ih=>exact ⟨fun br s k kx=>(ih.2 _ _ _ _).trans (ac fun l s=>ni),fun br s k kx=>rfl⟩
 | newl es ih=>exact ⟨fun br s k kx=>(ih.2 _ _ _ _).trans (ac fun l s=>by by_cases c:l.length≤100000 <;> simp only [c,if_true,if_false] <;> rfl),fun br s k kx=>rfl⟩
 | nil=>exact ⟨fun br s k kx=>rfl,fun br s k kx=>rfl⟩
 | cons a r iha ihr=>exact ⟨fun br s k kx=>rfl,fun br s k kx=>(iha.1 _ _ _ _).trans (ac fun x s=>(ihr.2 _ _ _ _).trans (ac fun l s=>rfl))⟩
 | call j es ih=>exact ⟨fun br s k kx=>(ih.2 _ _ _ _).trans (ac fun l s=>sM),fun br s k kx=>rfl⟩
 | hcall j es ih=>exact ⟨fun br s k kx=>(ih.2 _ _ _ _).trans (ac fun l s=>by
  show aa cal cal1 (if aK l=true then _ else .bad)=oc (qB cal j l s) _ _
  unfold qB
  split
  ·show aa cal cal1 (match cal j l [] with | .ok d _=>_ | .exc c l _=>_ | .bad=>_)=_
   cases cal j l [] with
   | ok d st=>show aa cal cal1 (if noR d=true then _ else _)=_;dsimp only;split <;> rfl
   | exc c l st=>show aa cal cal1 (if aK l=true then _ else .bad)=_;dsimp only;split <;> rfl
   | bad=>rfl
  ·rfl),fun br s k kx=>rfl⟩
 | fcall own j es ih=>exact ⟨fun br s k kx=>(ih.2 _ _ _ _).trans (ac fun l s=>by
  show aa cal cal1 (if aK l=true then _ else .bad)=oc (tT cal own j l s) _ _
  unfold tT
  split
  ·show aa cal cal1 (match cal j l [] with | .ok d _=>_ | .exc c l _=>_ | .bad=>_)=_
   cases cal j l [] with
   | ok d st=>
     show aa cal cal1 (if (own && !nq d)=true then _ else _)=_;dsimp only;split
     ·rfl
     ·exact aT
   | exc c l st=>show aa cal cal1 (if aK l=true then _ else .bad)=_;dsimp only;split <;> rfl
   | bad=>rfl
  ·rfl),fun br s k kx=>rfl⟩
 | mth c j a es iha ih=>exact ⟨fun br s k kx=>(iha.1 _ _ _ _).trans (ac fun x s=>by
  cases x with
  | ref p=>
    show aa cal cal1 (if nk s.st p c=true then _ else .bad)=_
    unfold nk
    dsimp only
    cases s.st[p]? with
    | none=>rfl
    | some o=>cases o with
      | ins c' l'=>
        dsimp only
        by_cases e:c'=c
        ·rw [if_pos (by simpa using e),if_pos e]
         exact (ih.2 _ _ _ _).trans (ac fun l s=>sM)
        ·rw [if_neg (by simpa using e),if_neg e];rfl
      | _=>rfl
  | _=>rfl),fun br s k kx=>rfl⟩
 | bi b es ih=>exact ⟨fun br s k kx=>(ih.2 _ _ _ _).trans (ac fun l s=>aT),fun br s k kx=>rfl⟩
 | tab j a ih=>exact ⟨fun br s k kx=>(ih.1 _ _ _ _).trans (ac fun x s=>by cases Γ.tb[j]? <;> cases x <;> first | exact aT | rfl),fun br s k kx=>rfl⟩
 | tabin j a ih=>exact ⟨fun br s k kx=>(ih.1 _ _ _ _).trans (ac fun x s=>by cases Γ.tb[j]? <;> cases x <;> rfl),fun br s k kx=>rfl⟩
 | tand a b iha ihb=>exact ⟨fun br s k kx=>(iha.1 _ _ _ _).trans (ac fun x s=>by
  cases x with
  | bl t=>cases t with
    | true=>exact ihb.1 _ _ _ _
    | false=>rfl
  | _=>rfl),fun br s k kx=>rfl⟩
 | tor a b iha ihb=>exact ⟨fun br s k kx=>(iha.1 _ _ _ _).trans (ac fun x s=>by
  cases x with
  | bl t=>cases t with
    | false=>exact ihb.1 _ _ _ _
    | true=>rfl
  | _=>rfl),fun br s k kx=>rfl⟩
 | tnot a ih=>exact ⟨fun br s k kx=>(ih.1 _ _ _ _).trans (ac fun x s=>by cases x <;> rfl),fun br s k kx=>rfl⟩
 | tv a ih=>exact ⟨fun br s k kx=>(ih.1 _ _ _ _).trans (ac fun x s=>aT),fun br s k kx=>rfl⟩
 | it b es ih=>exact ⟨fun br s k kx=>(ih.2 _ _ _ _).trans (ac fun l s=>aT),fun br s k kx=>rfl⟩
 | itv a ih=>exact ⟨fun br s k kx=>(ih.1 _ _ _ _).trans (ac fun x s=>by cases pF x <;> rfl),fun br s k kx=>rfl⟩
 | dic es ih=>exact ⟨fun br s k kx=>(ih.2 _ _ _ _).trans (ac fun l s=>aT),fun br s k kx=>rfl⟩
 | get a b c iha ihb ihc=>exact ⟨fun br s k kx=>(iha.1 _ _ _ _).trans (ac fun x s=>by
  show aa cal cal1 (if isDic (look s.st x)=true then _ else .bad)=_
  split
  ·refine (ihb.1 _ _ _ _).trans (ac fun y s=>(ihc.1 _ _ _ _).trans (ac fun z s=>?_))
   show aa cal cal1 (.opt (tW (look s.st x) y z) _)=_
   unfold tW
   cases look s.st x <;> cases bF y <;> rfl
  ·rfl),fun br s k kx=>rfl⟩
 | index a b iha ihb=>exact ⟨fun br s k kx=>(iha.1 _ _ _ _).trans (ac fun x s=>by
  show aa cal cal1 (if qD x=true then _ else _)=oc (if qD x=true then _ else _) _ _
  split
  ·exact (ihb.1 _ _ _ _).trans (ac fun y s=>aT)
  ·rfl),fun br s k kx=>rfl⟩
 | join x a ih=>exact ⟨fun br s k kx=>(ih.1 _ _ _ _).trans (ac fun y s=>aT),fun br s k kx=>rfl⟩
 | fmt x a y ih=>exact ⟨fun br s k kx=>(ih.1 _ _ _ _).trans (ac fun v s=>aT),fun br s k kx=>rfl⟩
 | dicc ks es ih=>exact ⟨fun br s k kx=>(ih.2 _ _ _ _).trans (ac fun l s=>aT),fun br s k kx=>rfl⟩
 | keep kp a ih=>exact ⟨fun br s k kx=>(ih.1 _ _ _ _).trans (by show oc (ev Γ cal cal1 false a _) _ _=oc ((noX (ev Γ cal cal1 false a _)).bind _) _ _;cases ev Γ cal cal1 false a (hid (kp.filter s.ow.contains) s) <;> rfl),fun br s k kx=>rfl⟩
 | sto a ih=>exact ⟨fun br s k kx=>(ih.1 _ _ _ _).trans (ac fun x s=>by cases x <;> rfl),fun br s k kx=>rfl⟩
 | isXv a ih=>exact ⟨fun br s k kx=>(ih.1 _ _ _ _).trans (ac fun x s=>aT),fun br s k kx=>rfl⟩
 | snap i a ih=>
   refine ⟨fun br s k kx=>?_,fun br s k kx=>rfl⟩
   show aa cal cal1 (match s.env[i]? with
    | some (some (.ref n))=>(match s.st[n]? with
      | some (.lst l)=>.test (aK l) fun t=>if t then evT Γ cal cal1 lp false a ⟨(aM s.env).set i (some (.lst l)),[],[]⟩ (fun d _=>.test (flX (fresh a) d) fun t=>if t then k d ⟨s.env,[],s.st⟩ else .bad) (fun _ _ _=>.bad) else .bad
      | _=>.bad)
    | _=>.bad)=oc (match s.env[i]? with
    | some (some (.ref n))=>(match s.st[n]? with
      | some (.lst l)=>if aK l=true then (noX (ev Γ cal cal1 false a ⟨(aM s.env).set i (some (.lst l)),[],[]⟩)).bind fun d _=>if flX (fresh a) d=true then .ok d ⟨s.env,[],s.st⟩ else .bad else .bad
      | _=>.bad)
    | _=>.bad) _ _
   cases s.env[i]? with
   | none=>rfl
   | some o=>cases o with
     | none=>rfl
     | some d=>cases d with
       | ref n=>
         dsimp only
         cases s.st[n]? with
         | none=>rfl
         | some o=>cases o with
           | lst l=>
             show aa cal cal1 (if aK l=true then _ else .bad)=_
             dsimp only
             split
             ·refine (ih.1 _ _ _ _).trans ?_
              show oc (ev Γ cal cal1 false a _) _ (fun _ _ _=>.bad)=_
              cases ev Γ cal cal1 false a ⟨(aM s.env).set i (some (.lst l)),[],[]⟩ with
              | ok d s'=>
                show aa cal cal1 (if flX (fresh a) d=true then k d _ else .bad)=oc (if flX (fresh a) d=true then Out.ok d _ else .bad) _ _
                split <;> rfl
              | _=>rfl
             ·rfl
           | _=>rfl
       | _=>rfl
 | sm q a ih=>exact ⟨fun br s k kx=>(ih.1 _ _ _ _).trans (ac fun x s=>aT),fun br s k kx=>rfl⟩
 | pop a ih=>exact ⟨fun br s k kx=>(ih.1 _ _ _ _).trans (ac fun x s=>by
  cases x with
  | ref n=>
    show aa cal cal1 (match s.st[n]? with | some (.lst l)=>.opt l.getLast? fun d=>k d ⟨s.env,s.ow,s.st.set n (.lst l.dropLast)⟩ | _=>.bad)=oc (match s.st[n]? with | some (.lst l)=>(match l.getLast? with | some d=>.ok d ⟨s.env,s.ow,s.st.set n (.lst l.dropLast)⟩ | none=>.bad) | _=>.bad) _ _
    cases s.st[n]? with
    | none=>rfl
    | some o=>cases o with
      | lst l=>dsimp only;cases l.getLast? <;> rfl
      | _=>rfl
  | _=>rfl),fun br s k kx=>rfl⟩
 | isX a js ih=>exact ⟨fun br s k kx=>(ih.1 _ _ _ _).trans (ac fun x s=>aT),fun br s k kx=>rfl⟩
 | lc t one it elt cond ihi ihe ihc=>
   refine ⟨fun br s k kx=>(ihi.1 _ _ _ _).trans (ac fun x s=>?_),fun br s k kx=>rfl⟩
   cases x with
   | lst ds=>
     dsimp only
     rw [rG]
     cases lp with
     | true=>rw [if_pos rfl];exact wy
     | false=>
       rw [if_neg Bool.false_ne_true]
       refine jI (f:=fun d s'=>(match aE t one d s'.env with
        | some env=>(ev Γ cal cal1 true cond ⟨env,[],s'.st⟩).bind fun b s2=>(match b with
          | .bl true=>(ev Γ cal cal1 false elt s2).bind fun e s3=>.ok (some e) ⟨s3.env,[],s3.st⟩
          | .bl false=>.ok none ⟨s2.env,[],s2.st⟩
          | _=>.bad)
        | none=>.bad)) (fun d s' k'=>?_) ds [] _ _
       cases aE t one d s'.env with
       | none=>rfl
       | some env=>
         refine (ihc.1 _ _ _ _).trans (ac fun b s2=>?_)
         cases b with
         | bl b=>cases b with
           | true=>exact (ihe.1 _ _ _ _).trans (ac fun e s3=>rfl)
           | false=>rfl
         | _=>rfl
   | _=>rfl
 | new j es ih=>exact ⟨fun br s k kx=>(ih.2 _ _ _ _).trans (ac fun l s=>by
  cases Γ.cl[j]? with
  | none=>rfl
  | some q=>
    dsimp only
    by_cases c1:q.what=1
    ·rw [if_pos c1,if_pos c1];exact ni
    ·rw [if_neg c1,if_neg c1]
     by_cases c0:q.what=0
     ·rw [if_pos c0,if_pos c0]
      show aa cal cal1 (match cal1 q.init (.ref s.st.length :: l) (s.st ++ [.ins j []]) with | .ok .non st=>k (.ref s.st.length) (aft es s .non st) | _=>.bad)=_
      cases cal1 q.init (.ref s.st.length :: l) (s.st ++ [.ins j []]) with
      | ok d st=>cases d <;> rfl
      | _=>rfl
     ·rw [if_neg c0,if_neg c0];rfl),fun br s k kx=>rfl⟩
end
def sc (x:ah) (kn:Sta→ah) (kr:D→Sta→ah) (kx:Nat→List D→Sta→ah):ah:=match x with
 | .nx s=>kn s
 | .rt d s=>kr d s
 | .exc c l s=>kx c l s
 | .bad=>.bad
theorem xx :sc (x.go f) kn kr kx=oc x (fun a s=>sc (f a s) kn kr kx) kx:=by cases x <;> rfl
theorem aC (h:∀ a s,g a s=sc (f a s) kn kr kx):oc x g kx=sc (x.go f) kn kr kx:=by
 rw [xx];exact bO h
theorem o7 :sc (x.go f) kn kr kx=sc x (fun s=>sc (f s) kn kr kx) kr kx:=by cases x <;> rfl
theorem ja (h:∀ s,kn s=kn' s) (h2:∀ c l s,kx c l s=kx' c l s):sc x kn kr kx=sc x kn' kr kx':=by cases x <;> first | exact h _ | exact h2 _ _ _ | rfl
section
variable {Γ:Gm} {cal cal1:Nat→List D→List O→Res} {lp:Bool}
theorem km (h:∀ d s k,aa cal cal1 (g d s k)=sc (f d s) (fun s=>aa cal cal1 (k s)) kr kx):∀ (ds) (s) (k:Sta→IT),aa cal cal1 (tV g ds s k)=sc (bL f ds s) (fun s=>aa cal cal1 (k s)) kr kx
 | [],s,k=>rfl
 | d :: r,s,k=>by
   show aa cal cal1 (g d s _)=sc ((f d s).go _) _ _ _
   rw [h,o7]
   exact ja (fun s=>km h r s k) fun _ _ _=>rfl
theorem dN {kn:Sta→IT} {kr:D→Sta→IT} {kx:Nat→List D→Sta→IT}:aa cal cal1 (.subS x (fun o=>match o with | .nx s=>kn s | .rt d s=>kr d s | .exc c l s=>kx c l s | .bad=>.bad))=sc x (fun s=>aa cal cal1 (kn s)) (fun d s=>aa cal cal1 (kr d s)) (fun c l s=>aa cal cal1 (kx c l s)):=by cases x <;> rfl
theorem wx {g:D→Sta} {kn:Sta→IT} {kr:D→Sta→ah} {kx:Nat→List D→Sta→ah}:aa cal cal1 (.opt o fun y=>kn (g y))=sc (match o with | some y=>.nx (g y) | none=>.bad) (fun s=>aa cal cal1 (kn s)) kr kx:=by cases o <;> rfl
theorem qu :exT Γ cal cal1 lp (.app i e) s kn kr kx=(if s.ow.contains i && isLst s.env[i]? then evT Γ cal cal1 lp false e s (fun d s=>if s.ow.contains i then (match s.env[i]? with
 | some (some (.lst l))=>.test (decide (l.length<100000)) fun t=>if t then kn ⟨s.env.set i (some (.lst (l ++ [d]))),s.ow,s.st⟩ else .bad
 | _=>.bad) else .bad) kx else .bad):=rfl
theorem qr :exS Γ cal cal1 (.app i e) s=(if s.ow.contains i && isLst s.env[i]? then (ev Γ cal cal1 false e s).go fun d s=>if s.ow.contains i then (match s.env[i]? with
 | some (some (.lst l))=>if l.length<100000 then .nx ⟨s.env.set i (some (.lst (l ++ [d]))),s.ow,s.st⟩ else .bad
 | _=>.bad) else .bad else .bad):=rfl
theorem qv :exT Γ cal cal1 lp (.ext i e) s kn kr kx=(if s.ow.contains i && isLst s.env[i]? then evT Γ cal cal1 lp false e s (fun d s=>if s.ow.contains i then (match s.env[i]?,d with
 | some (some (.lst l)),.lst x=>.test (decide (l.length+x.length≤100000)) fun t=>if t then kn ⟨s.env.set i (some (.lst (l ++ x))),s.ow,s.st⟩ else .bad
 | _,_=>.bad) else .bad) kx else .bad):=rfl
theorem qt :exS Γ cal cal1 (.ext i e) s=(if s.ow.contains i && isLst s.env[i]? then (ev Γ cal cal1 false e s).go fun d s=>if s.ow.contains i then (match s.env[i]?,d with
 | some (some (.lst l)),.lst x=>if l.length+x.length≤100000 then .nx ⟨s.env.set i (some (.lst (l ++ x))),s.ow,s.st⟩ else .bad
 | _,_=>.bad) else .bad else .bad):=rfl
theorem kt {kn:Sta→IT} {kr:D→Sta→ah} {kx:Nat→List D→Sta→ah} {c:Prop} [Decidable c] {z:Sta}:aa cal cal1 (.test (decide c) fun t=>if t then kn z else .bad)=sc (if c then .nx z else .bad) (fun s=>aa cal cal1 (kn s)) kr kx:=by
 show aa cal cal1 (if decide c=true then _ else .bad)=_
 by_cases h:c
 ·rw [if_pos (decide_eq_true h),if_pos h];rfl
 ·rw [if_neg (by simpa using h),if_neg h];rfl
theorem mM:∀ c:S,(∀ s kn kr kx,aa cal cal1 (exT Γ cal cal1 lp c s kn kr kx)=sc (exS Γ cal cal1 c s) (fun s=>aa cal cal1 (kn s)) (fun d s=>aa cal cal1 (kr d s)) (fun c l s=>aa cal cal1 (kx c l s))) ∧
 (∀ c' l s kn kr kx,aa cal cal1 (exT.hndT Γ cal cal1 lp c c' l s kn kr kx)=sc (exS.hnd Γ cal cal1 c c' l s) (fun s=>aa cal cal1 (kn s)) (fun d s=>aa cal cal1 (kr d s)) (fun c l s=>aa cal cal1 (kx c l s))):=by
 intro c
 have hb:∀ {c:S},(∀ c' l s kn kr kx,exT.hndT Γ cal cal1 lp c c' l s kn kr kx = .bad)→(∀ c' l s,exS.hnd Γ cal cal1 c c' l s = .bad)→(∀ c' l s kn kr kx,aa cal cal1 (exT.hndT Γ cal cal1 lp c c' l s kn kr kx)=sc (exS.hnd Γ cal cal1 c c' l s) (fun s=>aa cal cal1 (kn s)) (fun d s=>aa cal cal1 (kr d s)) (fun c l s=>aa cal cal1 (kx c l s))):=fun h1 h2 c' l s kn kr kx=>by rw [h1,h2];rfl
 induction c with
 | skip=>exact ⟨fun s kn kr kx=>rfl,fun _ _ _ _ _ _=>rfl⟩
 | seq a b iha ihb=>
   refine ⟨fun s kn kr kx=>(iha.1 _ _ _ _).trans ?_,hb (fun _ _ _ _ _ _=>rfl) fun _ _ _=>rfl⟩
   show _=sc ((exS Γ cal cal1 a s).go fun s=>exS Γ cal cal1 b s) _ _ _
   rw [o7]
   exact ja (fun s=>ihb.1 _ _ _ _) fun _ _ _=>rfl
 | set i e=>exact ⟨fun s kn kr kx=>((aO e).1 _ _ _ _).trans (aC fun d s=>rfl),hb (fun _ _ _ _ _ _=>rfl) fun _ _ _=>rfl⟩
 | setT l e=>exact ⟨fun s kn kr kx=>((aO e).1 _ _ _ _).trans (aC fun d s=>by cases aE l false d s.env <;> rfl),hb (fun _ _ _ _ _ _=>rfl) fun _ _ _=>rfl⟩
 | setR i es=>exact ⟨fun s kn kr kx=>((aO es).2 _ _ _ _).trans (aC fun l s=>by by_cases c:l.length≤100000 <;> simp only [c,if_true,if_false] <;> rfl),hb (fun _ _ _ _ _ _=>rfl) fun _ _ _=>rfl⟩
 | ret e=>exact ⟨fun s kn kr kx=>((aO e).1 _ _ _ _).trans (aC fun d s=>rfl),hb (fun _ _ _ _ _ _=>rfl) fun _ _ _=>rfl⟩
 | ifs c a b iha ihb=>exact ⟨fun s kn kr kx=>((aO c).1 _ _ _ _).trans (aC fun x s=>by
  cases x with
  | bl t=>cases t with
    | true=>exact iha.1 _ _ _ _
    | false=>exact ihb.1 _ _ _ _
  | _=>rfl),hb (fun _ _ _ _ _ _=>rfl) fun _ _ _=>rfl⟩
 | drop e=>exact ⟨fun s kn kr kx=>((aO e).1 _ _ _ _).trans (aC fun d s=>rfl),hb (fun _ _ _ _ _ _=>rfl) fun _ _ _=>rfl⟩
 | app i e=>
   refine ⟨fun s kn kr kx=>?_,hb (fun _ _ _ _ _ _=>rfl) fun _ _ _=>rfl⟩
   rw [qu,qr]
   split
   ·refine ((aO e).1 _ _ _ _).trans (aC fun d s=>?_)
    split
    ·split <;> first | exact kt | rfl
    ·rfl
   ·rfl
 | ext i e=>
   refine ⟨fun s kn kr kx=>?_,hb (fun _ _ _ _ _ _=>rfl) fun _ _ _=>rfl⟩
   rw [qv,qt]
   split
   ·refine ((aO e).1 _ _ _ _).trans (aC fun d s=>?_)
    split
    ·split <;> first | exact kt | rfl
    ·rfl
   ·rfl
 | put a b e=>
   refine ⟨fun s kn kr kx=>?_,hb (fun _ _ _ _ _ _=>rfl) fun _ _ _=>rfl⟩
   cases a with
   | v i=>
     refine ((aO e).1 _ _ _ _).trans (aC fun d s=>?_)
     cases s.env[i]? with
     | none=>rfl
     | some o=>cases o with
       | none=>rfl
       | some x=>
         refine ((aO b).1 _ _ _ _).trans (aC fun y s=>?_)
         cases x with
         | ref n=>
           dsimp only
           cases (s.st[n]?).bind fun o=>fP o y d <;> rfl
         | _=>
           dsimp only
           split
           ·exact wx
           ·rfl
   | _=>exact dN
 | fld a f e=>exact ⟨fun s kn kr kx=>dN,hb (fun _ _ _ _ _ _=>rfl) fun _ _ _=>rfl⟩
 | aug a f o e=>exact ⟨fun s kn kr kx=>dN,hb (fun _ _ _ _ _ _=>rfl) fun _ _ _=>rfl⟩
 | fapp a f e=>
   refine ⟨fun s kn kr kx=>((aO a).1 _ _ _ _).trans (aC fun x s=>?_),hb (fun _ _ _ _ _ _=>rfl) fun _ _ _=>rfl⟩
   show aa cal cal1 (if d8 s.st x=true then _ else .bad)=_
   split
   ·refine ((aO e).1 _ _ _ _).trans (aC fun d s=>?_)
    cases x with
    | ref n=>
      show aa cal cal1 (match s.st[n]? with | some (.lst l)=>.test (decide (l.length<100000)) fun t=>if t then kn ⟨s.env,s.ow,s.st.set n (.lst (l ++ [d]))⟩ else .bad | _=>.bad)=sc (match s.st[n]? with | some (.lst l)=>if l.length<100000 then .nx ⟨s.env,s.ow,s.st.set n (.lst (l ++ [d]))⟩ else .bad | _=>.bad) _ _ _
      cases s.st[n]? with
      | none=>rfl
      | some o=>cases o with
        | lst l=>exact kt
        | _=>rfl
    | _=>rfl
   ·rfl
 | fext a e=>
   refine ⟨fun s kn kr kx=>((aO a).1 _ _ _ _).trans (aC fun x s=>?_),hb (fun _ _ _ _ _ _=>rfl) fun _ _ _=>rfl⟩
   show aa cal cal1 (if d8 s.st x=true then _ else .bad)=_
   split
   ·refine ((aO e).1 _ _ _ _).trans (aC fun d s=>?_)
    cases x with
    | ref n=>
      show aa cal cal1 (match s.st[n]?,d with | some (.lst l),.lst m=>.test (decide (l.length+m.length≤100000)) fun t=>if t then kn ⟨s.env,s.ow,s.st.set n (.lst (l ++ m))⟩ else .bad | _,_=>.bad)=sc (match s.st[n]?,d with | some (.lst l),.lst m=>if l.length+m.length≤100000 then .nx ⟨s.env,s.ow,s.st.set n (.lst (l ++ m))⟩ else .bad | _,_=>.bad) _ _ _
      cases s.st[n]? with
      | none=>rfl
      | some o=>cases o with
        | lst l=>cases d <;> first | exact kt | rfl
        | _=>rfl
    | _=>rfl
   ·rfl
 | for_ t one it b ih=>
   refine ⟨fun s kn kr kx=>((aO it).1 _ _ _ _).trans (aC fun x s=>?_),hb (fun _ _ _ _ _ _=>rfl) fun _ _ _=>rfl⟩
   cases x with
   | lst ds=>
     dsimp only
     cases lp with
     | true=>rw [if_pos rfl];exact dN
     | false=>
       rw [if_neg Bool.false_ne_true]
       refine km (fun d s k=>?_) ds s kn
       cases aE t one d s.env with
       | none=>rfl
       | some env=>exact ih.1 _ _ _ _
   | _=>rfl
 | whl c b ih=>exact ⟨fun s kn kr kx=>dN,hb (fun _ _ _ _ _ _=>rfl) fun _ _ _=>rfl⟩
 | rais j es=>
   refine ⟨fun s kn kr kx=>((aO es).2 _ _ _ _).trans (aC fun l s=>?_),hb (fun _ _ _ _ _ _=>rfl) fun _ _ _=>rfl⟩
   show aa cal cal1 (if cC Γ j l=true then kx j (eO Γ j l) s else .bad)=_
   split <;> rfl
 | try_ a h iha ihh=>
   refine ⟨fun s kn kr kx=>(iha.1 _ _ _ _).trans ?_,hb (fun _ _ _ _ _ _=>rfl) fun _ _ _=>rfl⟩
   show _=sc (match exS Γ cal cal1 a s with | .exc c l s'=>exS.hnd Γ cal cal1 h c l s' | r=>r) _ _ _
   cases exS Γ cal cal1 a s with
   | exc c l s'=>exact ihh.2 _ _ _ _ _ _
   | _=>rfl
 | hand j i b r ihb ihr=>
   refine ⟨fun s kn kr kx=>dN,fun c' l s kn kr kx=>?_⟩
   cases i with
   | none=>
     show aa cal cal1 (match cE Γ j c' with | some true=>_ | some false=>exT.hndT Γ cal cal1 lp r c' l s kn kr kx | none=>.bad)=sc (match cE Γ j c' with | some true=>_ | some false=>exS.hnd Γ cal cal1 r c' l s | none=>.bad) _ _ _
     rcases cE Γ j c' with _ | (_ | _)
     ·rfl
     ·exact ihr.2 _ _ _ _ _ _
     ·refine (ihb.1 _ _ _ _).trans ?_
      cases exS Γ cal cal1 b s <;> rfl
   | some i=>
     show aa cal cal1 (match cE Γ j c' with | some true=>_ | some false=>exT.hndT Γ cal cal1 lp r c' l s kn kr kx | none=>.bad)=sc (match cE Γ j c' with | some true=>_ | some false=>exS.hnd Γ cal cal1 r c' l s | none=>.bad) _ _ _
     rcases cE Γ j c' with _ | (_ | _)
     ·rfl
     ·exact ihr.2 _ _ _ _ _ _
     ·refine (ihb.1 _ _ _ _).trans ?_
      cases exS Γ cal cal1 b ⟨s.env.set i (some (.ins c' l)),s.ow.filter (· != i),s.st⟩ <;> rfl
inductive An where
 | r (r:Res) | t (n:Nat) (b:Bool) | o (n:Nat) (d:D) | e (d:D) (s:Sta) | y (c:Nat) (l:List D) (s:Sta) | x (o:ah) | c
end
section
variable (cal cal1:Nat→List D→List O→Res)
def trc:IT→List An→Prop×ah
 | .fin o,[]=>(True,o)
 | .fin o,_=>(False,o)
 | .call j ds st k,.r a :: l=>((cal j ds st=a)∧(trc (k a) l).1,(trc (k a) l).2)
 | .call1 j ds st k,.r a :: l=>((cal1 j ds st=a)∧(trc (k a) l).1,(trc (k a) l).2)
 | .call j ds st k,.c :: l=>trc (k (cal j ds st)) l
 | .call1 j ds st k,.c :: l=>trc (k (cal1 j ds st)) l
 | .test b k,.t 0 a :: l=>((b=a)∧(trc (k a) l).1,(trc (k a) l).2)
 | .test b k,.t (n+1) a :: l=>trc (k b) (.t n a :: l)
 | .test b k,.o (n+1) a :: l=>trc (k b) (.o n a :: l)
 | .test b k,l=>trc (k b) l
 | .opt o k,.o 0 a :: l=>((o=some a)∧(trc (k a) l).1,(trc (k a) l).2)
 | .opt (some d) k,.o (n+1) a :: l=>trc (k d) (.o n a :: l)
 | .opt (some d) k,.t (n+1) a :: l=>trc (k d) (.t n a :: l)
 | .opt (some d) k,l=>trc (k d) l
 | .sub o k _,.e d s :: l=>((o = .ok d s)∧(trc (k d s) l).1,(trc (k d s) l).2)
 | .sub o _ kx,.y c m s :: l=>((o = .exc c m s)∧(trc (kx c m s) l).1,(trc (kx c m s) l).2)
 | .subS o k,.x a :: l=>((o=a)∧(trc (k a) l).1,(trc (k a) l).2)
 | _,_=>(False,.bad)
theorem j7:∀ (t) (l),(trc cal cal1 t l).1→aa cal cal1 t=(trc cal cal1 t l).2:=by
 intro t
 induction t with
 | fin o=>intro l h;cases l <;> first | rfl | exact h.elim
 | call j ds st k ih=>
   intro l h
   cases l with
   | nil=>exact h.elim
   | cons a l=>cases a with
     | r a=>obtain ⟨h1,h2⟩:=h;have:=ih a l h2;rw [← h1] at this ⊢;show aa cal cal1 (k (cal j ds st))=_;rw [h1] at this ⊢;exact this
     | c=>exact ih _ l h
     | _=>exact h.elim
 | call1 j ds st k ih=>
   intro l h
   cases l with
   | nil=>exact h.elim
   | cons a l=>cases a with
     | r a=>obtain ⟨h1,h2⟩:=h;show aa cal cal1 (k (cal1 j ds st))=_;rw [h1];exact ih a l h2
     | c=>exact ih _ l h
     | _=>exact h.elim
 | test b k ih=>
   intro l h
   show aa cal cal1 (k b)=_
   cases l with
   | nil=>exact ih b _ h
   | cons a l=>cases a with
     | t n a=>cases n with
       | zero=>obtain ⟨h1,h2⟩:=h;rw [h1];exact ih a l h2
       | succ n=>exact ih b _ h
     | o n a=>cases n with
       | zero=>exact ih b _ h
       | succ n=>exact ih b _ h
     | _=>exact ih b _ h
 | opt o k ih=>
   intro l h
   cases l with
   | nil=>cases o with
     | none=>exact h.elim
     | some d=>exact ih d _ h
   | cons a l=>cases a with
     | o n a=>cases n with
       | zero=>obtain ⟨rfl,h2⟩:=h;exact ih a l h2
       | succ n=>cases o with
         | none=>exact h.elim
         | some d=>exact ih d _ h
     | t n a=>cases n with
       | zero=>cases o with
         | none=>exact h.elim
         | some d=>exact ih d _ h
       | succ n=>cases o with
         | none=>exact h.elim
         | some d=>exact ih d _ h
     | _=>cases o with
        | none=>exact h.elim
        | some d=>exact ih d _ h
 | sub o k kx ih ihx=>
   intro l h
   cases l with
   | nil=>exact h.elim
   | cons a l=>cases a with
     | e d s=>obtain ⟨rfl,h2⟩:=h;exact ih d s l h2
     | y c m s=>obtain ⟨rfl,h2⟩:=h;exact ihx c m s l h2
     | _=>exact h.elim
 | subS o k ih=>
   intro l h
   cases l with
   | nil=>exact h.elim
   | cons a l=>cases a with
     | x a=>obtain ⟨h1,h2⟩:=h;show aa cal cal1 (k o)=_;rw [h1];exact ih a l h2
     | _=>exact h.elim
end
def xu:ah→Res
 | .nx s=>.ok .non s.st
 | .rt d s=>.ok d s.st
 | .exc c l s=>.exc c l s.st
 | .bad=>.bad
def rN (Γ:Gm) (cal cal1:Nat→List D→List O→Res) (lp:Bool) (j:Nat) (ds:List D) (st:List O) (l:List An):Prop×Res:=match Γ.fn[j]? with
 | some f=>if (ds ++ f.df).length=f.np then
  (fun p=>(p.1,xu p.2)) (trc cal cal1 (exT Γ cal cal1 lp f.body ⟨(ds ++ f.df).map some ++ List.replicate (f.ns - f.np) none,[],st⟩ (fun s=>.fin (.nx s)) (fun d s=>.fin (.rt d s)) (fun c l s=>.fin (.exc c l s))) l)
   else (False,.bad)
 | none=>(False,.bad)
theorem vg {st:List O} (l:List An) {P:Prop} {r:Res} (hp:P) (h:rN Γ cal cal1 lp j ds st l=(P,r)):i9 Γ cal cal1 j ds st=r:=by
 unfold rN at h
 unfold i9
 cases q:Γ.fn[j]? with
 | none=>rw [q] at h;have t:False=P:=congrArg Prod.fst h;exact (Eq.mpr t hp:False).elim
 | some f=>
   rw [q] at h
   dsimp only at h ⊢
   by_cases c:(ds ++ f.df).length=f.np
   ·rw [if_pos c] at h ⊢
    have h1:=congrArg Prod.fst h
    have h2:=congrArg Prod.snd h
    dsimp only at h1 h2
    have t:=j7 cal cal1 _ l (h1 ▸ hp)
    rw [(mM f.body).1] at t
    rw [← h2,← t]
    cases exS Γ cal cal1 f.body ⟨(ds ++ f.df).map some ++ List.replicate (f.ns - f.np) none,[],st⟩ <;> rfl
   ·rw [if_neg c] at h;have t:False=P:=congrArg Prod.fst h;exact (Eq.mpr t hp:False).elim
theorem tN (lp) {st:List O} (l:List An) {P:Prop} {r:Res} (hp:P) (h:rN Γ (ag Γ n) (aU Γ n) lp j ds st l=(P,r)):ag Γ (n+1) j ds st=r:=vg l hp h
theorem sI (lp) (l) {P:Prop} {o:ah} (hp:P) (h:trc cal cal1 (exT Γ cal cal1 lp c s (fun s=>.fin (.nx s)) (fun d s=>.fin (.rt d s)) (fun c l s=>.fin (.exc c l s))) l=(P,o)):exS Γ cal cal1 c s=o:=by
 have h1:=congrArg Prod.fst h
 have h2:=congrArg Prod.snd h
 dsimp only at h1 h2
 have t:=j7 cal cal1 _ l (h1 ▸ hp)
 rw [(mM c).1,h2] at t
 rw [← t]
 cases exS Γ cal cal1 c s <;> rfl
def sW:ah→Out D
 | .rt d s=>.ok d s
 | .exc c l s=>.exc c l s
 | _=>.bad
theorem wi (lp) (l) {P:Prop} {o:Out D} (hp:P) (h:(fun p:Prop×ah=>(p.1,sW p.2)) (trc cal cal1 (evT Γ cal cal1 lp br e s (fun d s=>.fin (.rt d s)) (fun c l s=>.fin (.exc c l s))) l)=(P,o)):ev Γ cal cal1 br e s=o:=by
 have h1:=congrArg Prod.fst h
 have h2:=congrArg Prod.snd h
 dsimp only at h1 h2
 have t:=j7 cal cal1 _ l (h1 ▸ hp)
 rw [(aO e).1] at t
 rw [← h2,← t]
 cases ev Γ cal cal1 br e s <;> rfl
theorem iP (h:f d s = .nx s1) (h2:bL f r s1=o):bL f (d :: r) s=o:=by
 show (f d s).go _=o
 rw [h];exact h2
theorem hO (h:f d s = .ok (some e) s1) (ha:acc.length<100000) (h2:bH f r (acc ++ [e]) s1=o):bH f (d :: r) acc s=o:=by
 show (f d s).bind _=o
 rw [h]
 show (if acc.length<100000 then bH f r (acc ++ [e]) s1 else .bad)=o
 rw [if_pos ha];exact h2
theorem kI (h:f d s = .ok none s1) (h2:bH f r acc s1=o):bH f (d :: r) acc s=o:=by
 show (f d s).bind _=o
 rw [h];exact h2
def gG:S→S
 | .seq a b=>(match gG a with | .skip=>gG b | x=>x)
 | .ifs _ a b=>(match gG a with | .skip=>gG b | x=>x)
 | .for_ _ _ _ b=>b
 | _=>.skip
def toR:ah→Res
 | .nx s=>.ok .non s.st
 | .rt d s=>.ok d s.st
 | .exc c l s=>.exc c l s.st
 | .bad=>.bad
def hdS:Nat→S→S
 | 0,.seq a _=>a
 | n+1,.seq a b=>.seq a (hdS n b)
 | _,s=>s
def tlS:Nat→S→S
 | 0,.seq _ b=>b
 | n+1,.seq _ b=>tlS n b
 | _,_=>.skip
theorem sK (x:ah):(x.go fun s=>.nx s)=x:=by cases x <;> rfl
theorem gm (n:Nat) (c:S) (s:Sta):exS Γ cal cal1 c s=(exS Γ cal cal1 (hdS n c) s).go fun s=>exS Γ cal cal1 (tlS n c) s:=by
 induction n generalizing c s with
 | zero=>cases c <;> first | rfl | exact (sK _).symm
 | succ n ih=>
   cases c with
   | seq a b=>
     show (exS Γ cal cal1 a s).go _=((exS Γ cal cal1 a s).go fun s=>exS Γ cal cal1 (hdS n b) s).go _
     cases exS Γ cal cal1 a s with
     | nx s=>exact ih b s
     | _=>rfl
   | _=>exact (sK _).symm
theorem tS (lp) (l) {P:Prop} {r:Res} (hp:P) (h:(fun p:Prop×ah=>(p.1,toR p.2)) (trc cal cal1 (exT Γ cal cal1 lp c s (fun s=>.fin (.nx s)) (fun d s=>.fin (.rt d s)) (fun c l s=>.fin (.exc c l s))) l)=(P,r)):toR (exS Γ cal cal1 c s)=r:=by
 have h1:=congrArg Prod.fst h
 have h2:=congrArg Prod.snd h
 dsimp only at h1 h2
 rw [← h2]
 exact congrArg toR (sI lp l (h1 ▸ hp) rfl)
theorem lF {n:Nat} {ds:List D} {st:List O} {r:Res} (k:Nat) (f:Fn) {s':Sta} (hf:Γ.fn[j]? = some f) (hl:(ds ++ f.df).length=f.np) (h1:exS Γ (ag Γ n) (aU Γ n) (hdS k f.body) ⟨(ds ++ f.df).map some ++ List.replicate (f.ns - f.np) none,[],st⟩ = .nx s') (h2:toR (exS Γ (ag Γ n) (aU Γ n) (tlS k f.body) s')=r):ag Γ (n+1) j ds st=r:=by
 show i9 Γ (ag Γ n) (aU Γ n) j ds st=r
 unfold i9
 rw [hf]
 dsimp only
 rw [if_pos hl,gm k,h1,← h2]
 rfl
class ToAn (α:Type) where
 an:Nat→α→An
instance:ToAn Res:=⟨fun _ a=>.r a⟩
instance:ToAn Bool:=⟨fun n b=>.t n b⟩
instance:ToAn (Option D):=⟨fun n o=>match o with | some d=>.o n d | none=>.c⟩
instance:ToAn (Out D):=⟨fun _ o=>match o with | .ok d s=>.e d s | .exc c l s=>.y c l s | _=>.c⟩
instance:ToAn ah:=⟨fun _ o=>.x o⟩
def AL (_:List An) (P:Prop):Prop:=P
theorem aX (n:Nat) {α:Type} [ToAn α] {x a:α} (h:x=a) {l:List An} {P:Prop} (t:AL l P):AL (ToAn.an n a :: l) (x=a∧P):=⟨h,t⟩
theorem aZ:AL [] True:=True.intro
theorem ae (lp) {st:List O} {l:List An} {P:Prop} {r:Res} (hp:AL l P) (h:rN Γ (ag Γ n) (aU Γ n) lp j ds st l=(P,r)):ag Γ (n+1) j ds st=r:=tN lp l hp h
theorem cD (lp) {l:List An} {P:Prop} {o:ah} (hp:AL l P) (h:trc cal cal1 (exT Γ cal cal1 lp c s (fun s=>.fin (.nx s)) (fun d s=>.fin (.rt d s)) (fun c l s=>.fin (.exc c l s))) l=(P,o)):exS Γ cal cal1 c s=o:=sI lp l hp h
theorem qp (lp) {l:List An} {P:Prop} {o:Out D} (hp:AL l P) (h:(fun p:Prop×ah=>(p.1,sW p.2)) (trc cal cal1 (evT Γ cal cal1 lp br e s (fun d s=>.fin (.rt d s)) (fun c l s=>.fin (.exc c l s))) l)=(P,o)):ev Γ cal cal1 br e s=o:=wi lp l hp h
theorem sJ (lp) {l:List An} {P:Prop} {r:Res} (hp:AL l P) (h:(fun p:Prop×ah=>(p.1,toR p.2)) (trc cal cal1 (exT Γ cal cal1 lp c s (fun s=>.fin (.nx s)) (fun d s=>.fin (.rt d s)) (fun c l s=>.fin (.exc c l s))) l)=(P,r)):toR (exS Γ cal cal1 c s)=r:=tS lp l hp h
def iO (Γ:Gm) (cal cal1:Nat→List D→List O→Res) (t:List Nat) (one:Bool) (b:S):D→Sta→ah:=fun d s=>match aE t one d s.env with | some env=>exS Γ cal cal1 b ⟨env,s.ow.filter fun i=>!t.contains i,s.st⟩ | none=>.bad
def lcQ (Γ:Gm) (cal cal1:Nat→List D→List O→Res) (t:List Nat) (one:Bool) (elt cond:E):D→Sta→Out (Option D):=fun d s'=>(match aE t one d s'.env with
 | some env=>(ev Γ cal cal1 true cond ⟨env,[],s'.st⟩).bind fun b s2=>(match b with
   | .bl true=>(ev Γ cal cal1 false elt s2).bind fun e s3=>.ok (some e) ⟨s3.env,[],s3.st⟩
   | .bl false=>.ok none ⟨s2.env,[],s2.st⟩
   | _=>.bad)
 | none=>.bad)
theorem cU {s:Sta} (hb:aE t one d s.env=some env) (h:exS Γ cal cal1 b ⟨env,s.ow.filter fun i=>!t.contains i,s.st⟩=o):iO Γ cal cal1 t one b d s=o:=by unfold iO;rw [hb];exact h
theorem jH {s:Sta} {cond elt:E} (hb:aE t one d s.env=some env) (hc:ev Γ cal cal1 true cond ⟨env,[],s.st⟩ = .ok (.bl true) s2) (h:ev Γ cal cal1 false elt s2 = .ok e s3):lcQ Γ cal cal1 t one elt cond d s = .ok (some e) ⟨s3.env,[],s3.st⟩:=by
 unfold lcQ
 rw [hb]
 dsimp only
 rw [hc]
 show (ev Γ cal cal1 false elt s2).bind _=_
 rw [h];rfl
theorem nP {s:Sta} {cond elt:E} (hb:aE t one d s.env=some env) (hc:ev Γ cal cal1 true cond ⟨env,[],s.st⟩ = .ok (.bl false) s2):lcQ Γ cal cal1 t one elt cond d s = .ok none ⟨s2.env,[],s2.st⟩:=by
 unfold lcQ
 rw [hb]
 dsimp only
 rw [hc];rfl
end L2.Ev
end
section
namespace L2.Lx
abbrev Ch:=List Nat
def ch (x:Str):Ch:=x.cps.toList
def mk (w:Ch):Str:=⟨w.toArray⟩
theorem oH (x:Str):mk (ch x)=x:=by cases x;rfl
theorem ch_inj {x y:Str} (h:ch x=ch y):x=y:=by rw [← oH x,h,oH]
theorem ch_app (x y:Str):ch (x ++ y)=ch x ++ ch y:=by
 show (x.cps ++ y.cps).toList=_
 rw [Array.toList_append];rfl
theorem ch_len (x:Str):x.length=(ch x).length:=by show x.cps.size=x.cps.toList.length;rw [Array.length_toList]
def spl (c:Nat):Ch→List Ch
 | []=>[[]]
 | x :: r=>if x=c then [] :: spl c r else match spl c r with | []=>[[x]] | w :: ws=>(x :: w) :: ws
def jz (z:Ch):List Ch→Ch
 | []=>[]
 | [p]=>p
 | p :: q :: r=>p ++ z ++ jz z (q :: r)
theorem spl_cons (c x:Nat) (r:Ch):spl c (x :: r)=if x=c then [] :: spl c r else match spl c r with | []=>[[x]] | w :: ws=>(x :: w) :: ws:=rfl
theorem j5 (c:Nat):∀ l,spl c l≠[]
 | []=>by simp [spl]
 | x :: r=>by
   unfold spl
   split
   ·simp
   ·split <;> simp
theorem cP (c:Nat):∀ l,c ∉ l→spl c l = [l]
 | [],_=>rfl
 | x :: r,h=>by
   have h1:x≠c:=fun e=>h (e ▸ List.mem_cons_self)
   unfold spl
   rw [if_neg h1,cP c r fun m=>h (List.mem_cons_of_mem _ m)]
theorem dH (c:Nat) (b:Ch):∀ a,spl c (a ++ c :: b)=spl c a ++ spl c b
 | []=>by rw [List.nil_append,spl_cons,if_pos rfl];rfl
 | x :: r=>by
   rw [List.cons_append,spl_cons,spl_cons,dH c b r]
   split
   ·rfl
   ·cases e:spl c r with
    | nil=>exact absurd e (j5 c r)
    | cons w ws=>rfl
theorem pb (c:Nat):∀ ps:List Ch,ps≠[]→(∀ p∈ps,c ∉ p)→spl c (jz [c] ps)=ps
 | [p],_,h=>cP c p (h p List.mem_cons_self)
 | p :: q :: r,_,h=>by
   show spl c (p ++ [c] ++ jz [c] (q :: r))=_
   rw [List.append_assoc]
   show spl c (p ++ c :: jz [c] (q :: r))=_
   rw [dH,cP c p (h p List.mem_cons_self),pb c (q :: r) (by simp) fun x m=>h x (List.mem_cons_of_mem _ m)]
   rfl
theorem nz (c:Nat) (z:Ch):∀ l:Ch,jz z (spl c l)=l.flatMap fun x=>if x=c then z else [x]
 | []=>rfl
 | x :: r=>by
   have ih:=nz c z r
   rw [List.flatMap_cons,← ih,spl_cons]
   by_cases h:x=c
   ·rw [if_pos h,if_pos h]
    cases e:spl c r with
    | nil=>exact absurd e (j5 c r)
    | cons w ws=>show [] ++ z ++ jz z (w :: ws)=_;rw [List.nil_append]
   ·rw [if_neg h,if_neg h]
    cases e:spl c r with
    | nil=>exact absurd e (j5 c r)
    | cons w ws=>cases ws with
      | nil=>rfl
      | cons v vs=>rfl
theorem gS (z:Str):∀ ps:List Str,ch (Str.join z ps)=jz (ch z) (ps.map ch)
 | []=>rfl
 | [p]=>rfl
 | p :: q :: r=>by
   show ch (p ++ z ++ Str.join z (q :: r))=_
   rw [ch_app,ch_app,gS z (q :: r)]
   rfl
theorem pd (x:Str) (y:Str):Txt.split x y≠[]:=by
 unfold Txt.split
 split
 ·simp
 ·split
  ·simp
  ·intro h
   have:=congrArg List.length h
   rw [length_partsBetween] at this
   cases this
theorem split_ch (x:Str) (c:Nat):(Txt.split x ⟨#[c]⟩).map ch=spl c (ch x):=by
 have h1:=gS ⟨#[c]⟩ (Txt.split x ⟨#[c]⟩)
 rw [StrLaws.join_split] at h1
 rw [h1]
 exact (pb c _ (by simp [pd]) fun p m=>by
  obtain ⟨q,hq,rfl⟩:=List.mem_map.mp m
  exact StrLaws.split_free x c q hq).symm
theorem split_mk (x:Str) (c:Nat):Txt.split x ⟨#[c]⟩=(spl c (ch x)).map mk:=by
 rw [← split_ch,List.map_map]
 exact (List.map_id' _).symm.trans (List.map_congr_left fun y _=>(oH y).symm)
theorem replace_ch (x z:Str) (c:Nat):ch (Txt.replace x ⟨#[c]⟩ z)=(ch x).flatMap fun y=>if y=c then ch z else [y]:=by
 rw [StrLaws.replace_one,gS,split_ch,nz]
def sp (x:Nat):Ch:=if x=40 then [32,40,32] else if x=41 then [32,41,32] else [x]
def lex (l:Ch):List Ch:=(spl 32 (l.flatMap sp)).filter fun w=>!w.isEmpty
theorem jK (a b:Ch):lex (a ++ 32 :: b)=lex a ++ lex b:=by
 unfold lex
 rw [List.flatMap_append,List.flatMap_cons,show sp 32 = [32] from rfl]
 rw [show [32] ++ b.flatMap sp=32 :: b.flatMap sp from rfl,dH,List.filter_append]
theorem dO (a b:Ch) (c:Nat) (h:c=40∨c=41):lex (a ++ c :: b)=lex a ++ [c] :: lex b:=by
 unfold lex
 rw [List.flatMap_append,List.flatMap_cons,show sp c = [32,c,32] by rcases h with rfl | rfl <;> rfl]
 show (spl 32 (_ ++ 32 :: ([c] ++ 32 :: _))).filter _=_
 rw [dH,dH,cP 32 [c] (by rcases h with rfl | rfl <;> simp),List.filter_append,List.filter_append]
 rfl
def Wd (w:Ch):Prop:=w≠[]∧∀ x∈w,x≠32∧x≠40∧x≠41
theorem qy {w:Ch} (h:∀ x∈w,x≠32∧x≠40∧x≠41):w.flatMap sp=w:=by
 induction w with
 | nil=>rfl
 | cons x r ih=>
   obtain ⟨h1,h2,h3⟩:=h x List.mem_cons_self
   rw [List.flatMap_cons,ih fun y m=>h y (List.mem_cons_of_mem _ m)]
   unfold sp
   rw [if_neg h2,if_neg h3];rfl
theorem jL {w:Ch} (h:Wd w):lex w = [w]:=by
 unfold lex
 rw [qy h.2,cP 32 w fun m=>(h.2 32 m).1 rfl]
 cases w with
 | nil=>exact absurd rfl h.1
 | cons x r=>rfl
def Sep (b:Ch):Prop:=b = []∨∃ x r,b=x :: r∧(x=32∨x=40∨x=41)
theorem uB {w b:Ch} (h:Wd w) (s:Sep b):lex (w ++ b)=w :: lex b:=by
 rcases s with rfl | ⟨x,r,rfl,q | q⟩
 ·rw [List.append_nil,jL h];rfl
 ·subst q
  rw [jK,jL h]
  rw [show (32 :: r:Ch) = [] ++ 32 :: r from rfl,jK];rfl
 ·rw [dO _ _ _ q,jL h]
  rw [show (x :: r:Ch) = [] ++ x :: r from rfl,dO _ _ _ q];rfl
def Tok (w:Ch):Prop:=w = [40]∨w = [41]∨Wd w
def Br (w:Ch):Prop:=w = [40]∨w = [41]
theorem uA {w b:Ch} (h:Tok w) (s:Br w∨Sep b):lex (w ++ b)=w :: lex b:=by
 rcases h with rfl | rfl | h
 ·exact dO [] b 40 (.inl rfl)
 ·exact dO [] b 41 (.inr rfl)
 ·rcases s with (rfl | rfl) | s
  ·exact dO [] b 40 (.inl rfl)
  ·exact dO [] b 41 (.inr rfl)
  ·exact uB h s
theorem hV (n:Nat) (b:Ch):lex (List.replicate n 32 ++ b)=lex b:=by
 induction n with
 | zero=>rfl
 | succ n ih=>rw [List.replicate_succ];exact (jK [] _).trans ih
def Con (T:Ch) (ws:List Ch) (br:Prop):Prop:=∀ b,br∨Sep b→lex (T ++ b)=ws ++ lex b
theorem bK {T:Ch} {ws:List Ch} {br:Prop} {w:Ch} (n:Nat) (h:Con T ws br) (tw:Tok w) (g:0<n∨br∨Br w):Con (T ++ (List.replicate n 32 ++ w)) (ws ++ [w]) (Br w):=fun b s=>by
 rw [List.append_assoc,List.append_assoc,h,hV,uA tw s,List.append_assoc]
 ·rfl
 ·cases n with
  | succ n=>exact .inr (.inr ⟨32,_,by rw [List.replicate_succ];rfl,.inl rfl⟩)
  | zero=>
    rcases g with g | g | g
    ·cases g
    ·exact .inl g
    ·rcases g with rfl | rfl
     ·exact .inr (.inr ⟨40,b,rfl,.inr (.inl rfl)⟩)
     ·exact .inr (.inr ⟨41,b,rfl,.inr (.inr rfl)⟩)
theorem Con.lex {T:Ch} {ws:List Ch} {br:Prop} (h:Con T ws br):L2.Lx.lex T=ws:=by
 have:=h [] (.inr (.inl rfl))
 rw [List.append_nil] at this
 rw [this];exact List.append_nil _
theorem lex_pad {T:Ch} {ws:List Ch} {br:Prop} (h:Con T ws br) (n m:Nat):L2.Lx.lex (List.replicate n 32 ++ (T ++ List.replicate m 32))=ws:=by
 rw [hV,h]
 ·have:=hV m []
  rw [List.append_nil] at this
  rw [this];exact List.append_nil _
 ·cases m with
  | zero=>exact .inr (.inl rfl)
  | succ m=>exact .inr (.inr ⟨32,_,by rw [List.replicate_succ],.inl rfl⟩)
end L2.Lx
end
section
namespace L2.K13
open L2.Bk L2.Ev
def top (i:Nat):Stmt:=PySem.Challenge.pw_blamewise_k13_kinds_written.main.body.getD i (.Pass ⟨0,0,0,0⟩)
def bx (s:Stmt) (j:Nat):Stmt:=match s with
 | .ClassDef _ _ _ body _ _ _ _ _ _ _=>body.getD j (.Pass ⟨0,0,0,0⟩)
 | _=>.Pass ⟨0,0,0,0⟩
def fnl:List (Str×Stmt):=(List.append [("read_kind",top 16),("words_in",top 17),("show_kind",top 19),("in_brackets",top 20),("_law_cell_at",top 22),("_law_alike",top 23),("_law_next",top 24),("_law_sort",top 25),("_law_kind",top 26),("_law_deep",top 27),("_law_spaced",top 28),("_law_joined",top 29),("_law_odd",top 30),("_law_spoiled",top 31),("_law_swapped",top 32),("_law_read",top 33)] [("_law_right",top 34),("_law_tower",top 35),("law",top 36)])
def mel:List (Str×Str×Stmt):=[("__init__","Reader.__init__",bx (top 18) 0),("peek","Reader.peek",bx (top 18) 1),("take","Reader.take",bx (top 18) 2),("need_closed","Reader.need_closed",bx (top 18) 3),("need_end","Reader.need_end",bx (top 18) 4),("read_one_kind","Reader.read_one_kind",bx (top 18) 11)]
def gll:List (Str×Dk):=[("MOST_DEPTH",(.int 6)),("SIMPLE_KINDS",(.tup [(.str "whole"),(.str "truth"),(.str "?")])),("MOST_SIGNS",(.int 2000))]
def iu:List (Str×Dk):=[("to",(.int 2)),("row",(.int 1)),("pair",(.int 2))]
def tbl:List (Str×List (Str×Dk)):=[("KIND_PARTS",iu)]
def T:Ns where
 gl:=gll.map (·.1)
 tb:=tbl.map (·.1)
 fn:=fnl.map (·.1)
 at_:=["place","kind","by","wanted","way","words","taken","nodes"]
 bl:=["len","max","range","tuple","int","isinstance","bool","str","list","enumerate","reversed","ValueError"]
 rf:=["_law_words"]
 mu:=["_law_kind","_law_spaced"]
 me:=[("peek",9,20),("take",9,21),("need_closed",9,22),("need_end",9,23),("read_one_kind",9,24)]
 ex:=["","","","","","","","","",""]
 nd:=["","","","","","","","","",""]
 nw:=["","","","","","","","","","Reader"]
 hx:=["BlameError","NoText","NoPart","TooMany","NoName","TooDeep","NoFit","NoLook","Parted",""]
 hc:=["read_kind"]
 xt:=["","NoText","","","","","","","",""]
 rl:=["_law_words","_law_xs"]
 sn:=["_law_joined","_law_spaced"]
 vx:=true
def Γ:Gm:=⟨gll.map (·.2),tbl.map (·.2),((fnl.map fun p=>(p.1,p.1,p.2)) ++ mel).map fun p=>cT T p.2.2,[⟨2,[],0,[],[1000],[]⟩,⟨2,[],0,[],[0,1000],[]⟩,⟨2,[],0,[],[0,1000],[]⟩,⟨2,[],0,[],[0,1000],[]⟩,⟨2,[0],0,[],[0,1000],[0]⟩,⟨2,[0],0,[],[0,1000],[0]⟩,⟨2,[0],0,[],[0,1000],[0]⟩,⟨2,[0],0,[],[0,1000],[0]⟩,⟨2,[0,1,2,3,4],0,[],[0,1000],[0,2]⟩,⟨0,[5,6,7],19,[],[],[]⟩]⟩
abbrev dX:Nat:=0
abbrev eR:Nat:=1
abbrev iU:Nat:=2
abbrev c9:Nat:=3
abbrev eQ:Nat:=4
abbrev dB:Nat:=5
abbrev a9:Nat:=6
abbrev iT:Nat:=7
abbrev bz:Nat:=8
abbrev bT:Nat:=9
def fN:Fn:=cT T (top 28)
abbrev fO:Nat:=10
def fM:Fn:=cT T (top 29)
abbrev bY:Nat:=11
abbrev jF:Nat:=12
abbrev bM:Nat:=13
abbrev bN:Nat:=14
abbrev dW:Nat:=15
abbrev bf:Nat:=16
abbrev gZ:Nat:=17
def cZ:Fn:=cT T (top 36)
abbrev sP:Nat:=18
abbrev c6:Nat:=20
abbrev c8:Nat:=21
abbrev aQ:Nat:=22
abbrev bS:Nat:=23
abbrev ai:Nat:=24
inductive L3 where
 | whole | truth | unt
 deriving DecidableEq
inductive H2 where
 | to | pair
 deriving DecidableEq
def L3.str:L3→Str
 | .whole=>"whole" | .truth=>"truth" | .unt=>"?"
def H2.str:H2→Str
 | .to=>"to" | .pair=>"pair"
inductive Kd where
 | lf (l:L3) | row (a:Kd) | two (h:H2) (a b:Kd)
def Kd.dep:Kd→Nat
 | .lf _=>1 | .row a=>1+a.dep | .two _ a b=>1+max a.dep b.dep
def Kd.toD:Kd→D
 | .lf l=>.tup [.str l.str]
 | .row a=>.tup [.str "row",a.toD]
 | .two h a b=>.tup [.str h.str,a.toD,b.toD]
def Kd.tok:Kd→List Str
 | .lf l=>[l.str]
 | .row a=>"(" :: "row" :: (a.tok ++ ([")"]:List Str))
 | .two h a b=>"(" :: h.str :: (a.tok ++ (b.tok ++ ([")"]:List Str)))
theorem Kd.dep1 (k:Kd):1≤k.dep:=by cases k <;> simp only [Kd.dep] <;> omega
theorem cv:∀ (k:Kd) (r:Nat),k.dep≤r→k.tok.length+3≤4 * 2 ^ (r - 1)
 | .lf l,r,h=>by have:=Nat.one_le_two_pow (n:=r - 1);simp only [Kd.tok,List.length_singleton];omega
 | .row a,r,h=>by
   simp only [Kd.dep] at h
   have h1:=a.dep1
   have u:=cv a (r - 1) (by omega)
   obtain ⟨q,rfl⟩:∃ q,r=q+2:=⟨r - 2,by omega⟩
   have h2:2 ^ (q+2 - 1)=2 * 2 ^ (q+2 - 1 - 1):=by rw [show q+2 - 1=(q+2 - 1 - 1)+1 by omega,Nat.pow_succ];simp only [Nat.add_sub_cancel];omega
   have h3:=Nat.one_le_two_pow (n:=q+2 - 1 - 1)
   simp only [Kd.tok,List.length_cons,List.length_append,List.length_nil]
   rw [h2];omega
 | .two h2 a b,r,h=>by
   simp only [Kd.dep] at h
   have h1:=a.dep1
   have u:=cv a (r - 1) (by omega)
   have v:=cv b (r - 1) (by omega)
   obtain ⟨q,rfl⟩:∃ q,r=q+2:=⟨r - 2,by omega⟩
   have h2:2 ^ (q+2 - 1)=2 * 2 ^ (q+2 - 1 - 1):=by rw [show q+2 - 1=(q+2 - 1 - 1)+1 by omega,Nat.pow_succ];simp only [Nat.add_sub_cancel];omega
   simp only [Kd.tok,List.length_cons,List.length_append,List.length_nil]
   rw [h2];omega
abbrev sD (l:List Str):List D:=l.map D.str
section
variable {n:Nat} {ws:List Str}
theorem xd {m:Int} (w:List D):ag Γ (n+1) a9 [.ref 1,.int m] [.lst w,.lst []] = .ok (.int 0) [.lst w,.lst []]:=by kernel_rfl
theorem xe {m:Int} (w:List D) (xs:List Int) (x:Int) (hm:0<m):ag Γ (n+1) a9 [.ref 1,.int m] [.lst w,.lst ((xs ++ [x]).map .int)] = .ok (.int (x % m)) [.lst w,.lst (xs.map .int)]:=by
 have e1:opD .eq (.lst ((xs ++ [x]).map .int)) (.lst [])=some (.bl false):=by rw [List.map_append];cases xs <;> rfl
 have e2:((xs ++ [x]).map D.int).getLast? = some (.int x):=by rw [List.map_append];exact List.getLast?_concat
 have e3:opD .mod (.int x) (.int m)=some (.int (x % m)):=by show (if 0<m then some (D.int (x % m)) else none)=_;rw [if_pos hm]
 have e4:((xs ++ [x]).map D.int).dropLast=xs.map .int:=by rw [List.map_append];exact List.dropLast_concat
 rw [← e4]
 exact (ae false (aX 0 (e1) (aX 1 (e2) (aX 0 (e3) aZ))) (by kernel_rfl))
theorem next (xs:List Int) (m:Int) (hm:0<m):∃ (r:Int) (xs':List Int),(0≤r∧r<m)∧∀ (n:Nat) (w:List D),ag Γ (n+1) a9 [.ref 1,.int m] [.lst w,.lst (xs.map .int)] = .ok (.int r) [.lst w,.lst (xs'.map .int)]:=by
 rcases List.eq_nil_or_concat xs with rfl | ⟨ys,y,rfl⟩
 ·exact ⟨0,[],⟨by omega,hm⟩,fun n w=>xd w⟩
 ·exact ⟨_,ys,⟨Int.emod_nonneg _ (by omega),Int.emod_lt_of_pos _ hm⟩,fun n w=>by rw [List.concat_eq_append];exact xe w ys y hm⟩
end
section
variable {n:Nat}
theorem a8 (a b:List Str):sD (a ++ b)=sD a ++ sD b:=List.map_append
theorem aS (l:List D) (d:D):ixD (.lst (l ++ [d])) (.int (-1))=some d:=by
 show ((ixN (l ++ [d]).length (-1)).bind fun j=>(l ++ [d])[j]?)=some d
 have h1:ixN (l ++ [d]).length (-1)=some l.length:=by
  unfold ixN;rw [List.length_append,List.length_singleton]
  simp
  omega
 rw [h1]
 simp
theorem dY (b:Bool) (r x:Int):b=(r == x)→opD .eq (.int r) (.int x)=some (.bl b):=fun e=>by subst e;rfl
theorem rD (w:Int) (h:0≤w∧w<7):w=0∨w=1∨w=2∨w=3∨w=4∨w=5∨w=6:=by omega
abbrev lpD:D:=.str "("
abbrev rpD:D:=.str ")"
theorem rU (w:List D) (a:Kd):(((w ++ [lpD]) ++ [.str "row"]) ++ sD a.tok) ++ [rpD]=w ++ sD (Kd.row a).tok:=by
 simp only [Kd.tok,sD,List.map_cons,List.map_append,List.map_nil,List.append_assoc,List.cons_append,List.nil_append]
theorem rV (w:List D) (h:H2) (a b:Kd):((((w ++ [lpD]) ++ [.str h.str]) ++ sD a.tok) ++ sD b.tok) ++ [rpD]=w ++ sD (Kd.two h a b).tok:=by
 simp only [Kd.tok,sD,List.map_cons,List.map_append,List.map_nil,List.append_assoc,List.cons_append,List.nil_append]
theorem kind:∀ (r:Nat),0<r→∀ (xs:List Int),∃ (k:Kd) (xs':List Int),k.dep≤r∧∀ n (w:List D),w.length+4 * 2 ^ r≤60000→ag Γ (n+r+1) bz [.ref 1,.int r,.ref 0] [.lst w,.lst (xs.map .int)] = .ok k.toD [.lst (w ++ sD k.tok),.lst (xs'.map .int)]
 | r+1,_,xs=>by
   obtain ⟨x,x1,hx,en⟩:=next xs 7 (by decide)
   have hp:2 ^ (r+1)=2 * 2 ^ r:=by rw [Nat.pow_succ];omega
   have h2p:=Nat.one_le_two_pow (n:=r)
   have leaf:∀ (l:L3),(∀ n (w:List D),w.length+4 * 2 ^ (r+1)≤60000→ag Γ (n+(r+1)+1) bz [.ref 1,.int ((r+1:Nat):Int),.ref 0] [.lst w,.lst (xs.map .int)] = .ok (Kd.lf l).toD [.lst (w ++ [.str l.str]),.lst (x1.map .int)])→∃ (k:Kd) (xs':List Int),k.dep≤r+1∧∀ n (w:List D),w.length+4 * 2 ^ (r+1)≤60000→ag Γ (n+(r+1)+1) bz [.ref 1,.int ((r+1:Nat):Int),.ref 0] [.lst w,.lst (xs.map .int)] = .ok k.toD [.lst (w ++ sD k.tok),.lst (xs'.map .int)]:=fun l h=>⟨.lf l,x1,by simp only [Kd.dep];omega,h⟩
   have c0:∀ (w:List D),w.length+4 * 2 ^ (r+1)≤60000→decide (w.length<100000)=true:=fun w hw=>decide_eq_true (by omega)
   by_cases h1:r=0
   ·subst h1
    rcases rD x hx with rfl | rfl | rfl | rfl | rfl | rfl | rfl
    ·exact leaf .whole fun n w hw=>(ae false (aX 0 (en (n+0) w) (aX 6 (c0 w hw) (aX 0 (aS w (.str "whole")) aZ))) (by kernel_rfl))
    ·exact leaf .truth fun n w hw=>(ae false (aX 0 (en (n+0) w) (aX 6 (c0 w hw) (aX 0 (aS w (.str "truth")) aZ))) (by kernel_rfl))
    ·exact leaf .unt fun n w hw=>(ae false (aX 0 (en (n+0) w) (aX 6 (c0 w hw) (aX 0 (aS w (.str "?")) aZ))) (by kernel_rfl))
    ·exact leaf .whole fun n w hw=>(ae false (aX 0 (en (n+0) w) (aX 6 (c0 w hw) (aX 0 (aS w (.str "whole")) aZ))) (by kernel_rfl))
    ·exact leaf .truth fun n w hw=>(ae false (aX 0 (en (n+0) w) (aX 6 (c0 w hw) (aX 0 (aS w (.str "truth")) aZ))) (by kernel_rfl))
    ·exact leaf .unt fun n w hw=>(ae false (aX 0 (en (n+0) w) (aX 6 (c0 w hw) (aX 0 (aS w (.str "?")) aZ))) (by kernel_rfl))
    ·exact leaf .whole fun n w hw=>(ae false (aX 0 (en (n+0) w) (aX 6 (c0 w hw) (aX 0 (aS w (.str "whole")) aZ))) (by kernel_rfl))
   ·have e1:opD .eq (.int ((r+1:Nat):Int)) (.int 1)=some (.bl false):=dY false _ _ (beq_eq_false_iff_ne.mpr (by omega)).symm
    have e2:((r+1:Nat):Int) - 1=(r:Nat):=by omega
    obtain ⟨a,x2,ha,ea⟩:=kind r (by omega) x1
    obtain ⟨b,x3,hb,eb⟩:=kind r (by omega) x2
    have c1:∀ (w:List D) (d:D),w.length+4 * 2 ^ (r+1)≤60000→decide ((w ++ [d]).length<100000)=true:=fun w d hw=>decide_eq_true (by rw [List.length_append,List.length_singleton];omega)
    have ta:=cv a r ha
    have tb:=cv b r hb
    have hr:2 ^ r=2 * 2 ^ (r - 1):=by obtain ⟨q,rfl⟩:∃ q,r=q+1:=⟨r - 1,by omega⟩;rw [Nat.pow_succ];simp only [Nat.add_sub_cancel];omega
    have la:∀ (w:List D) (h:Str),w.length+4 * 2 ^ (r+1)≤60000→((w ++ [lpD]) ++ [D.str h]).length+4 * 2 ^ r≤60000:=fun w h hw=>by simp only [List.length_append,List.length_singleton];omega
    have lb:∀ (w:List D) (h:Str),w.length+4 * 2 ^ (r+1)≤60000→(((w ++ [lpD]) ++ [D.str h]) ++ sD a.tok).length+4 * 2 ^ r≤60000:=fun w h hw=>by simp only [List.length_append,List.length_singleton,List.length_map];omega
    have ca:∀ (w:List D) (h:Str),w.length+4 * 2 ^ (r+1)≤60000→decide ((((w ++ [lpD]) ++ [D.str h]) ++ sD a.tok).length<100000)=true:=fun w h hw=>decide_eq_true (by have:=lb w h hw;omega)
    have cb:∀ (w:List D) (h:Str),w.length+4 * 2 ^ (r+1)≤60000→decide (((((w ++ [lpD]) ++ [D.str h]) ++ sD a.tok) ++ sD b.tok).length<100000)=true:=fun w h hw=>decide_eq_true (by have:=lb w h hw;simp only [List.length_append,List.length_singleton,List.length_map] at this ⊢;omega)
    have two:∀ (h:H2),(∀ n (w:List D),w.length+4 * 2 ^ (r+1)≤60000→ag Γ (n+(r+1)+1) bz [.ref 1,.int ((r+1:Nat):Int),.ref 0] [.lst w,.lst (xs.map .int)] = .ok (Kd.two h a b).toD [.lst (((((w ++ [lpD]) ++ [.str h.str]) ++ sD a.tok) ++ sD b.tok) ++ [rpD]),.lst (x3.map .int)])→∃ (k:Kd) (xs':List Int),k.dep≤r+1∧∀ n (w:List D),w.length+4 * 2 ^ (r+1)≤60000→ag Γ (n+(r+1)+1) bz [.ref 1,.int ((r+1:Nat):Int),.ref 0] [.lst w,.lst (xs.map .int)] = .ok k.toD [.lst (w ++ sD k.tok),.lst (xs'.map .int)]:=fun h q=>⟨.two h a b,x3,by simp only [Kd.dep];omega,fun n w hw=>by rw [q n w hw,rV]⟩
    have oS:opD .sub (.int ((r+1:Nat):Int)) (.int 1)=some (.int (r:Nat)):=congrArg (fun z=>some (D.int z)) e2
    rcases rD x hx with rfl | rfl | rfl | rfl | rfl | rfl | rfl
    ·exact leaf .whole fun n w hw=>(ae false (aX 0 (en (n+r) w) (aX 0 (e1) (aX 6 (c0 w hw) (aX 0 (aS w (.str "whole")) aZ)))) (by kernel_rfl))
    ·exact leaf .truth fun n w hw=>(ae false (aX 0 (en (n+r) w) (aX 0 (e1) (aX 6 (c0 w hw) (aX 0 (aS w (.str "truth")) aZ)))) (by kernel_rfl))
    ·exact leaf .unt fun n w hw=>(ae false (aX 0 (en (n+r) w) (aX 0 (e1) (aX 6 (c0 w hw) (aX 0 (aS w (.str "?")) aZ)))) (by kernel_rfl))
    ·exact two .to fun n w hw=>(ae false (aX 0 (en (n+r) w) (aX 0 (e1) (aX 6 (c0 w hw) (aX 1 (c1 w lpD hw) (aX 0 (oS) (aX 0 (ea n ((w ++ [lpD]) ++ [.str "to"]) (la w "to" hw)) (aX 2 (oS) (aX 0 (eb n (((w ++ [lpD]) ++ [.str "to"]) ++ sD a.tok) (lb w "to" hw)) (aX 2 (cb w "to" hw) aZ))))))))) (by kernel_rfl))
    ·exact two .pair fun n w hw=>(ae false (aX 0 (en (n+r) w) (aX 0 (e1) (aX 6 (c0 w hw) (aX 1 (c1 w lpD hw) (aX 0 (oS) (aX 0 (ea n ((w ++ [lpD]) ++ [.str "pair"]) (la w "pair" hw)) (aX 2 (oS) (aX 0 (eb n (((w ++ [lpD]) ++ [.str "pair"]) ++ sD a.tok) (lb w "pair" hw)) (aX 2 (cb w "pair" hw) aZ))))))))) (by kernel_rfl))
    ·refine ⟨.row a,x2,by simp only [Kd.dep];omega,fun n w hw=>?_⟩
     rw [← rU]
     exact (ae false (aX 0 (en (n+r) w) (aX 0 (e1) (aX 6 (c0 w hw) (aX 1 (c1 w lpD hw) (aX 0 (oS) (aX 0 (ea n ((w ++ [lpD]) ++ [.str "row"]) (la w "row" hw)) (aX 3 (ca w "row" hw) aZ))))))) (by kernel_rfl))
    ·exact two .pair fun n w hw=>(ae false (aX 0 (en (n+r) w) (aX 0 (e1) (aX 6 (c0 w hw) (aX 1 (c1 w lpD hw) (aX 0 (oS) (aX 0 (ea n ((w ++ [lpD]) ++ [.str "pair"]) (la w "pair" hw)) (aX 2 (oS) (aX 0 (eb n (((w ++ [lpD]) ++ [.str "pair"]) ++ sD a.tok) (lb w "pair" hw)) (aX 2 (cb w "pair" hw) aZ))))))))) (by kernel_rfl))
end
abbrev lpS:Str:="("
abbrev rpS:Str:=")"
abbrev blS:Str:=" "
def jn1 (s:Str×Str) (w:Str):Str×Str:=(if s.2=lpS∨w=rpS then s.1 ++ w else (s.1 ++ blS) ++ w,w)
def cm (ws:List Str):Str:=(ws.foldl jn1 (Str.empty,lpS)).1
abbrev jB:S:=gG fM.body
theorem jQ (a b:Str):opD .ne (.str a) (.str b)=some (.bl (!(a == b))):=rfl
theorem wZ {a b:Str} (h:a=b):opD .ne (.str a) (.str b)=some (.bl false):=by rw [jQ,h];simp
theorem oJ {a b:Str} (h:a≠b):opD .ne (.str a) (.str b)=some (.bl true):=by rw [jQ,beq_eq_false_iff_ne.mpr h];rfl
theorem az {a b:Str} (h:a.length+b.length≤100000):opD .add (.str a) (.str b)=some (.str (a ++ b)):=by
 show d5 _ _=_;unfold d5;rw [if_pos h]
theorem aw (a b:Str):(a ++ b).length=a.length+b.length:=by
 rw [L2.Lx.ch_len,L2.Lx.ch_len,L2.Lx.ch_len,L2.Lx.ch_app,List.length_append]
section
variable {m:Nat} {S:List O}
theorem kE (w0:D):∀ (ws:List Str) (t p:Str) (e:Option D),t.length+9 * ws.length≤90000→(∀ w∈ws,w.length≤8)→∃ e':Option D,bL (iO Γ (ag Γ m) (aU Γ m) [3] true jB) (sD ws) ⟨[some w0,some (.str t),some (.str p),e],[],S⟩ = .nx ⟨[some w0,some (.str (ws.foldl jn1 (t,p)).1),some (.str (ws.foldl jn1 (t,p)).2),e'],[],S⟩
 | [],t,p,e,_,_=>⟨e,rfl⟩
 | w :: ws,t,p,e,hl,hw=>by
   have w8:=hw w List.mem_cons_self
   have b1:blS.length=1:=rfl
   simp only [List.length_cons] at hl
   have go:∀ t',t'.length≤t.length+9→jn1 (t,p) w=(t',w)→iO Γ (ag Γ m) (aU Γ m) [3] true jB (.str w) ⟨[some w0,some (.str t),some (.str p),e],[],S⟩ = .nx ⟨[some w0,some (.str t'),some (.str w),some (.str w)],[],S⟩→∃ e':Option D,bL (iO Γ (ag Γ m) (aU Γ m) [3] true jB) (sD (w :: ws)) ⟨[some w0,some (.str t),some (.str p),e],[],S⟩ = .nx ⟨[some w0,some (.str ((w :: ws).foldl jn1 (t,p)).1),some (.str ((w :: ws).foldl jn1 (t,p)).2),e'],[],S⟩:=fun t' h1 h2 h3=>by
    obtain ⟨e',h⟩:=kE w0 ws t' w (some (.str w)) (by omega) fun y hy=>hw y (List.mem_cons_of_mem _ hy)
    refine ⟨e',iP h3 ?_⟩
    rw [List.foldl_cons,h2];exact h
   have a1:opD .add (.str t) (.str w)=some (.str (t ++ w)):=az (by omega)
   have a2:opD .add (.str t) (.str blS)=some (.str (t ++ blS)):=az (by omega)
   have a3:opD .add (.str (t ++ blS)) (.str w)=some (.str ((t ++ blS) ++ w)):=az (by rw [aw];omega)
   by_cases hp:p=lpS
   ·exact go (t ++ w) (by rw [aw];omega) (by unfold jn1;rw [if_pos (.inl hp)]) (cU rfl (cD false (aX 0 (wZ hp) (aX 2 (a1) aZ)) (by kernel_rfl)))
   ·by_cases hr:w=rpS
    ·exact go (t ++ w) (by rw [aw];omega) (by unfold jn1;rw [if_pos (.inr hr)]) (cU rfl (cD false (aX 0 (oJ hp) (aX 1 (wZ hr) (aX 1 (a1) aZ))) (by kernel_rfl)))
    ·exact go ((t ++ blS) ++ w) (by rw [aw,aw];omega) (by unfold jn1;rw [if_neg (not_or.mpr ⟨hp,hr⟩)]) (cU rfl (cD false (aX 0 (oJ hp) (aX 1 (oJ hr) (aX 1 (a2) (aX 0 (a3) aZ)))) (by kernel_rfl)))
theorem gA (ws:List Str) (hl:9 * ws.length≤90000) (hw:∀ w∈ws,w.length≤8):ag Γ (m+1) bY [.lst (sD ws)] S = .ok (.str (cm ws)) S:=by
 obtain ⟨e,h⟩:=kE (m:=m) (S:=S) (.lst (sD ws)) ws Str.empty lpS none (by rw [show Str.empty.length=0 from rfl];omega) hw
 exact (ae true (aX 0 (h) aZ) (by kernel_rfl))
end
open L2.Lx (ch Con Tok Br Wd bK Sep ch_app ch_len)
abbrev kws:List Str:=["(",")","whole","truth","?","to","pair","row"]
abbrev Kw (w:Str):Prop:=w∈kws
theorem eU {P:Str→Prop} (h:∀ w∈kws,P w) {w:Str} (k:Kw w):P w:=h w k
theorem di {w:Str} (k:Kw w):w.length≤8:=eU (P:=fun w=>w.length≤8) (by decide +kernel) k
theorem nH {w:Str} (k:Kw w):Tok (ch w):=eU (P:=fun w=>Tok (ch w)) (by
 intro w h
 simp only [kws,List.mem_cons,List.not_mem_nil,or_false] at h
 rcases h with rfl | rfl | rfl | rfl | rfl | rfl | rfl | rfl
 ·exact .inl (by decide +kernel)
 ·exact .inr (.inl (by decide +kernel))
 all_goals exact .inr (.inr ⟨by decide +kernel,by decide +kernel⟩)) k
def cK (w:Str):Bool:=w == lpS || w == rpS
theorem nF {w:Str} (k:Kw w):opD .notin (.str w) (.str "()")=some (.bl (!cK w)):=eU (P:=fun w=>opD .notin (.str w) (.str "()")=some (.bl (!cK w))) (by
 intro w h
 simp only [kws,List.mem_cons,List.not_mem_nil,or_false] at h
 rcases h with rfl | rfl | rfl | rfl | rfl | rfl | rfl | rfl <;> kernel_rfl) k
theorem si {w:Str} (h:cK w=true):Br (ch w):=by
 unfold cK at h
 rw [Bool.or_eq_true,beq_iff_eq,beq_iff_eq] at h
 rcases h with rfl | rfl
 ·exact .inl (by decide +kernel)
 ·exact .inr (by decide +kernel)
theorem wT (l:L3):Kw l.str:=by cases l <;> decide +kernel
theorem sL (h:H2):Kw h.str:=by cases h <;> decide +kernel
theorem oq:Kw lpS:=by decide +kernel
theorem sX:Kw rpS:=by decide +kernel
theorem bD:∀ (k:Kd),∀ w∈k.tok,Kw w
 | .lf l,w,h=>by simp only [Kd.tok,List.mem_singleton] at h;subst h;exact wT l
 | .row a,w,h=>by
   simp only [Kd.tok,List.mem_cons,List.mem_append,List.not_mem_nil,or_false] at h
   rcases h with rfl | rfl | h | rfl
   ·exact oq
   ·decide +kernel
   ·exact bD a w h
   ·exact sX
 | .two q a b,w,h=>by
   simp only [Kd.tok,List.mem_cons,List.mem_append,List.not_mem_nil,or_false] at h
   rcases h with rfl | rfl | h | h | rfl
   ·exact oq
   ·exact sL q
   ·exact bD a w h
   ·exact bD b w h
   ·exact sX
theorem jG:∀ (ws:List Str) (t p:Str) (acc:List (List Nat)),(∀ w∈ws,Tok (ch w))→Con (ch t) acc (Br (ch p))→Con (ch (ws.foldl jn1 (t,p)).1) (acc ++ ws.map ch) (Br (ch (ws.foldl jn1 (t,p)).2))
 | [],t,p,acc,_,h=>by rw [List.map_nil,List.append_nil];exact h
 | w :: ws,t,p,acc,hw,h=>by
   have tw:=hw w List.mem_cons_self
   have hs:=fun y hy=>hw y (List.mem_cons_of_mem _ hy)
   rw [List.foldl_cons,List.map_cons,show acc ++ ch w :: ws.map ch=(acc ++ [ch w]) ++ ws.map ch by simp]
   have c40:ch lpS = [40]:=by decide +kernel
   have c41:ch rpS = [41]:=by decide +kernel
   have c32:ch blS = [32]:=by decide +kernel
   unfold jn1
   by_cases c:p=lpS∨w=rpS
   ·rw [if_pos c]
    refine jG ws _ _ _ hs ?_
    rw [ch_app]
    exact bK 0 h tw (.inr (c.elim (fun (q:p=lpS)=>.inl (.inl (by rw [q];exact c40))) fun (q:w=rpS)=>.inr (.inr (by rw [q];exact c41))))
   ·rw [if_neg c]
    refine jG ws _ _ _ hs ?_
    rw [ch_app,ch_app,c32,List.append_assoc]
    exact bK 1 h tw (.inl Nat.one_pos)
theorem eS (ws:List Str) (hw:∀ w∈ws,Tok (ch w)):Con (ch (cm ws)) (ws.map ch) (Br (ch (ws.foldl jn1 (Str.empty,lpS)).2)):=by
 have:=jG ws Str.empty lpS [] hw (fun b _=>rfl)
 rw [List.nil_append] at this
 exact this
theorem nu:∀ (ws:List Str) (t p:Str),(∀ w∈ws,w.length≤8)→(ws.foldl jn1 (t,p)).1.length≤t.length+9 * ws.length
 | [],t,p,_=>Nat.le_refl _
 | w :: ws,t,p,h=>by
   have h1:=h w List.mem_cons_self
   have b1:blS.length=1:=rfl
   have:=nu ws (jn1 (t,p) w).1 w fun y hy=>h y (List.mem_cons_of_mem _ hy)
   have h2:(jn1 (t,p) w).1.length≤t.length+9:=by unfold jn1;dsimp only;split <;> simp only [aw] <;> omega
   rw [List.foldl_cons,List.length_cons]
   exact Nat.le_trans this (by omega)
theorem eT (ws:List Str) (h:∀ w∈ws,w.length≤8):(cm ws).length≤9 * ws.length:=by
 have:=nu ws Str.empty lpS h
 rw [show Str.empty.length=0 from rfl] at this
 unfold cm;omega
theorem o3 (k:Nat):∀ a:Array Nat,((List.replicate k #[32]).foldl (· ++ ·) a).toList=a.toList ++ List.replicate k 32:=by
 induction k with
 | zero=>intro a;simp
 | succ k ih=>intro a;rw [List.replicate_succ,List.foldl_cons,ih,Array.toList_append,List.append_assoc,List.replicate_succ];rfl
theorem fb (n:Int):ch (Txt.mul blS n)=List.replicate n.toNat 32:=by
 unfold Txt.mul
 split
 ·rw [show n.toNat=0 by omega];rfl
 ·split
  ·rename_i h
   have:n=1:=by
    rw [Bool.or_eq_true,beq_iff_eq,beq_iff_eq] at h
    rcases h with h | h
    ·exact h
    ·exact absurd h (by decide +kernel)
   subst this
   decide +kernel
  ·exact o3 _ #[]
theorem cq (n:Int):(Txt.mul blS n).length=n.toNat:=by rw [ch_len,fb,List.length_replicate]
theorem hX {n:Int} (h:-1000000≤n∧n≤10000):smO (.mulc blS) (.int n)=some (.str (Txt.mul blS n)):=by
 show (if _ then _ else _)=_
 rw [if_pos ⟨h.1,h.2,by decide +kernel⟩]
open L2.Lx (ch Con Tok Br Wd bK Sep ch_app ch_len)
section
variable {m:Nat}
theorem w9 {n:Nat} {q:Int}:ag Γ (n+1) a9 [.ref 0,.int q] [.lst []] = .ok (.int 0) [.lst []]:=by kernel_rfl
theorem xb {n:Nat} {q:Int} (xs:List Int) (x:Int) (hm:0<q):ag Γ (n+1) a9 [.ref 0,.int q] [.lst ((xs ++ [x]).map .int)] = .ok (.int (x % q)) [.lst (xs.map .int)]:=by
 have e1:opD .eq (.lst ((xs ++ [x]).map .int)) (.lst [])=some (.bl false):=by rw [List.map_append];cases xs <;> rfl
 have e2:((xs ++ [x]).map D.int).getLast? = some (.int x):=by rw [List.map_append];exact List.getLast?_concat
 have e3:opD .mod (.int x) (.int q)=some (.int (x % q)):=by show (if 0<q then some (D.int (x % q)) else none)=_;rw [if_pos hm]
 have e4:((xs ++ [x]).map D.int).dropLast=xs.map .int:=by rw [List.map_append];exact List.dropLast_concat
 rw [← e4]
 exact (ae false (aX 0 (e1) (aX 1 (e2) (aX 0 (e3) aZ))) (by kernel_rfl))
theorem w7 (xs:List Int) (q:Int) (hm:0<q):∃ (r:Int) (xs':List Int),(0≤r∧r<q)∧∀ (n:Nat),ag Γ (n+1) a9 [.ref 0,.int q] [.lst (xs.map .int)] = .ok (.int r) [.lst (xs'.map .int)]:=by
 rcases List.eq_nil_or_concat xs with rfl | ⟨ys,y,rfl⟩
 ·exact ⟨0,[],⟨by omega,hm⟩,fun n=>w9⟩
 ·exact ⟨_,ys,⟨Int.emod_nonneg _ (by omega),Int.emod_lt_of_pos _ hm⟩,fun n=>by rw [List.concat_eq_append];exact xb ys y hm⟩
abbrev sB:S:=gG fN.body
theorem k7 (w0:D):∀ (ws:List Str) (t p:Str) (acc:List (List Nat)) (xs:List Int) (e f:Option D),t.length+12 * ws.length≤90000→(∀ w∈ws,Kw w)→Kw p→Con (ch t) acc (Br (ch p)) →
 ∃ (t' p':Str) (xs':List Int) (e' f':Option D),bL (iO Γ (ag Γ (m+1)) (aU Γ (m+1)) [4] true sB) (sD ws) ⟨[some w0,some (.ref 0),some (.str t),some (.str p),e,f],[],[.lst (xs.map .int)]⟩ = .nx ⟨[some w0,some (.ref 0),some (.str t'),some (.str p'),e',f'],[],[.lst (xs'.map .int)]⟩∧Con (ch t') (acc ++ ws.map ch) (Br (ch p'))∧t'.length≤t.length+12 * ws.length
 | [],t,p,acc,xs,e,f,_,_,_,h=>⟨t,p,xs,e,f,rfl,by rw [List.map_nil,List.append_nil];exact h,Nat.le_refl _⟩
 | w :: ws,t,p,acc,xs,e,f,hl,hw,kp,h=>by
   obtain ⟨r,x1,hr,en⟩:=w7 xs 4 (by decide)
   have kw:=hw w List.mem_cons_self
   have w8:=di kw
   simp only [List.length_cons] at hl ⊢
   have go:∀ g:Int,(0≤g∧g<4)→(0<g.toNat∨Br (ch p)∨Br (ch w))→(∀ a1:smO (.mulc blS) (.int g)=some (.str (Txt.mul blS g)),∀ a2:opD .add (.str t) (.str (Txt.mul blS g))=some (.str (t ++ Txt.mul blS g)),∀ a3:opD .add (.str (t ++ Txt.mul blS g)) (.str w)=some (.str ((t ++ Txt.mul blS g) ++ w)),iO Γ (ag Γ (m+1)) (aU Γ (m+1)) [4] true sB (.str w) ⟨[some w0,some (.ref 0),some (.str t),some (.str p),e,f],[],[.lst (xs.map .int)]⟩ = .nx ⟨[some w0,some (.ref 0),some (.str ((t ++ Txt.mul blS g) ++ w)),some (.str w),some (.str w),some (.int g)],[],[.lst (x1.map .int)]⟩) →
    ∃ (t' p':Str) (xs':List Int) (e' f':Option D),bL (iO Γ (ag Γ (m+1)) (aU Γ (m+1)) [4] true sB) (sD (w :: ws)) ⟨[some w0,some (.ref 0),some (.str t),some (.str p),e,f],[],[.lst (xs.map .int)]⟩ = .nx ⟨[some w0,some (.ref 0),some (.str t'),some (.str p'),e',f'],[],[.lst (xs'.map .int)]⟩∧Con (ch t') (acc ++ (w :: ws).map ch) (Br (ch p'))∧t'.length≤t.length+12 * (ws.length+1):=fun g hg hs k=>by
    have lg:=cq g
    have l1:((t ++ Txt.mul blS g) ++ w).length≤t.length+12:=by rw [aw,aw,lg];omega
    have c1:Con (ch ((t ++ Txt.mul blS g) ++ w)) (acc ++ [ch w]) (Br (ch w)):=by
     rw [ch_app,ch_app,fb,List.append_assoc]
     exact bK g.toNat h (nH kw) hs
    obtain ⟨t',p',xs',e',f',q1,q2,q3⟩:=k7 w0 ws ((t ++ Txt.mul blS g) ++ w) w (acc ++ [ch w]) x1 (some (.str w)) (some (.int g)) (by omega) (fun y hy=>hw y (List.mem_cons_of_mem _ hy)) kw c1
    refine ⟨t',p',xs',e',f',iP (k (hX (by omega)) (az (by rw [lg];omega)) (az (by rw [aw,lg];omega))) q1,?_,by omega⟩
    rw [List.map_cons,show acc ++ ch w :: ws.map ch=(acc ++ [ch w]) ++ ws.map ch by simp]
    exact q2
   have n1:=nF kw
   have n2:=nF kp
   cases b1:cK w with
   | true=>
     rw [b1] at n1
     exact go r hr (.inr (.inr (si b1))) fun a1 a2 a3=>cU rfl (cD false (aX 0 (en m) (aX 0 (n1) (aX 2 (a1) (aX 0 (a2) (aX 0 (a3) aZ))))) (by kernel_rfl))
   | false=>
     rw [b1] at n1
     cases b2:cK p with
     | true=>
       rw [b2] at n2
       exact go r hr (.inr (.inl (si b2))) fun a1 a2 a3=>cU rfl (cD false (aX 0 (en m) (aX 0 (n1) (aX 1 (n2) (aX 1 (a1) (aX 0 (a2) (aX 0 (a3) aZ)))))) (by kernel_rfl))
     | false=>
       rw [b2] at n2
       have mx:pV .max2 (.int r) (.int 1)=some (.int (if 1>r then 1 else r)):=rfl
       refine go (if 1>r then 1 else r) (by split <;> omega) (.inl (by split <;> omega)) fun a1 a2 a3=>cU rfl (cD false (aX 0 (en m) (aX 0 (n1) (aX 1 (n2) (aX 2 (a1) (aX 0 (a2) (aX 0 (a3) aZ)))))) (by kernel_rfl))
theorem mh (ws:List Str) (hl:12 * ws.length≤80000) (hw:∀ w∈ws,Kw w) (xs:List Int):∃ (T:Str) (k:Nat) (xs':List Int) (p:Str),Con (ch T) (ws.map ch) (Br (ch p))∧T.length≤12 * ws.length∧k≤3∧ag Γ (m+2) fO [.lst (sD ws),.ref 0] [.lst (xs.map .int)] = .ok (.str (T ++ Txt.mul blS k)) [.lst (xs'.map .int)]:=by
 obtain ⟨T,p,x1,e,f,lp,hc,ht⟩:=k7 (m:=m) (.lst (sD ws)) ws Str.empty lpS [] xs none none (by rw [show Str.empty.length=0 from rfl];omega) hw oq (fun b _=>rfl)
 obtain ⟨r,x2,hr,en⟩:=w7 x1 3 (by decide)
 rw [show Str.empty.length=0 from rfl,Nat.zero_add] at ht
 rw [List.nil_append] at hc
 obtain ⟨k,rfl⟩:∃ k:Nat,r=k:=⟨r.toNat,by omega⟩
 have lg:=cq k
 have a1:smO (.mulc blS) (.int k)=some (.str (Txt.mul blS k)):=hX (by omega)
 have a2:opD .add (.str T) (.str (Txt.mul blS k))=some (.str (T ++ Txt.mul blS k)):=az (by rw [lg];omega)
 exact ⟨T,k,x2,p,hc,ht,by omega,(ae true (aX 0 (lp) (aX 0 (en m) (aX 0 (a1) (aX 0 (a2) aZ)))) (by kernel_rfl))⟩
end
open L2.Lx (ch Con Tok Br Wd bK Sep ch_app ch_len)
abbrev spL:Str:=" ( "
abbrev spR:Str:=" ) "
abbrev emS:Str:=""
def bP (T:Str):Str:=Txt.replace (Txt.replace T lpS spL) rpS spR
def aj (T:Str):List Str:=(Txt.split (bP T) blS).filter (fun w=>!(w == emS))
theorem pa (T:Str):ch (bP T)=(ch T).flatMap L2.Lx.sp:=by
 unfold bP
 rw [show rpS=(⟨#[41]⟩:Str) by decide +kernel,show lpS=(⟨#[40]⟩:Str) by decide +kernel,L2.Lx.replace_ch,L2.Lx.replace_ch,List.flatMap_assoc]
 refine congrArg (fun f=>List.flatMap f (ch T)) (funext fun x=>?_)
 unfold L2.Lx.sp
 by_cases h:x=40
 ·rw [if_pos h,if_pos h];decide +kernel
 ·rw [if_neg h,if_neg h,List.flatMap_cons,List.flatMap_nil,List.append_nil]
  by_cases g:x=41
  ·rw [if_pos g,if_pos g];decide +kernel
  ·rw [if_neg g,if_neg g]
theorem mo (T:Str):(aj T).map ch=L2.Lx.lex (ch T):=by
 have h1:=pa T
 unfold aj L2.Lx.lex
 rw [← h1,show blS=(⟨#[32]⟩:Str) by decide +kernel,← L2.Lx.split_ch,List.filter_map]
 refine congrArg (List.map ch) (List.filter_congr fun w _=>?_)
 show (!(w == emS)) = !(ch w).isEmpty
 by_cases e:w=emS
 ·subst e;decide +kernel
 ·rw [beq_eq_false_iff_ne.mpr e]
  cases q:ch w with
  | nil=>exact absurd (L2.Lx.ch_inj (q.trans (by decide +kernel))) e
  | cons a b=>rfl
theorem kM:∀ a b:List Str,a.map ch=b.map ch→a=b
 | [],[],_=>rfl
 | x :: a,y :: b,h=>by
   rw [List.map_cons,List.map_cons] at h
   rw [L2.Lx.ch_inj (List.cons.inj h).1,kM a b (List.cons.inj h).2]
theorem fF {T:Str} {ws:List Str} (h:L2.Lx.lex (ch T)=ws.map ch):aj T=ws:=by
 have:=(mo T).trans h
 exact kM _ _ this
section
variable {m:Nat} {S:List O}
abbrev wE:E:=.v 0
abbrev wC:E:=.op .ne (.v 0) (.c (.str emS))
theorem iz (t0 s0:D):∀ (l:List Str) (acc:List D) (e:Option D),acc.length+l.length<100000→∃ e':Option D,bH (lcQ Γ (ag Γ m) (aU Γ m) [0] true wE wC) (sD l) acc ⟨[e,some t0,some s0],[],S⟩ = .ok (.lst (acc ++ sD (l.filter (fun w=>!(w == emS))))) ⟨[e',some t0,some s0],[],S⟩
 | [],acc,e,_=>⟨e,by rw [List.filter_nil];simp [bH]⟩
 | w :: l,acc,e,h=>by
   simp only [List.length_cons] at h
   have ne:=jQ w emS
   have cd:ev Γ (ag Γ m) (aU Γ m) true wC ⟨[some (.str w),some t0,some s0],[],S⟩ = .ok (.bl (!(w == emS))) ⟨[some (.str w),some t0,some s0],[],S⟩:=(qp false (aX 0 (ne) aZ) (by kernel_rfl))
   cases b:!(w == emS) with
   | false=>
     obtain ⟨e',g⟩:=iz t0 s0 l acc (some (.str w)) (by omega)
     rw [b] at cd
     refine ⟨e',?_⟩
     rw [List.filter_cons,b]
     exact kI (nP rfl cd) g
   | true=>
     obtain ⟨e',g⟩:=iz t0 s0 l (acc ++ [.str w]) (some (.str w)) (by rw [List.length_append,List.length_singleton];omega)
     rw [b] at cd
     refine ⟨e',?_⟩
     rw [List.filter_cons,b]
     have el:ev Γ (ag Γ m) (aU Γ m) false wE ⟨[some (.str w),some t0,some s0],[],S⟩ = .ok (.str w) ⟨[some (.str w),some t0,some s0],[],S⟩:=rfl
     rw [List.append_assoc] at g
     exact hO (jH rfl cd el) (by omega) g
theorem k8 (c:Nat):∀ l:List Nat,(L2.Lx.spl c l).length≤l.length+1
 | []=>by simp [L2.Lx.spl]
 | x :: r=>by
   have ih:=k8 c r
   rw [L2.Lx.spl_cons]
   split
   ·simp only [List.length_cons];omega
   ·split
    ·simp
    ·rename_i q;rw [q] at ih;simp only [List.length_cons] at ih ⊢;omega
theorem rT (T:Str):(bP T).length≤3 * T.length:=by
 rw [ch_len,ch_len]
 have h1:=pa T
 rw [h1]
 generalize ch T=l
 induction l with
 | nil=>simp
 | cons x r ih=>
   rw [List.flatMap_cons,List.length_append,List.length_cons]
   have:(L2.Lx.sp x).length≤3:=by
    unfold L2.Lx.sp
    split
    ·simp
    ·split <;> simp
   omega
theorem ey (T:Str):(Txt.replace T lpS spL).length≤3 * T.length:=by
 rw [ch_len,ch_len,show lpS=(⟨#[40]⟩:Str) by decide +kernel,L2.Lx.replace_ch]
 generalize ch T=l
 induction l with
 | nil=>simp
 | cons x r ih=>
   rw [List.flatMap_cons,List.length_append,List.length_cons]
   have:(if x=40 then ch spL else [x]).length≤3:=by
    split
    ·decide +kernel
    ·simp
   omega
theorem jj (T:Str) (h:T.length≤2000):ag Γ (m+1) eR [.str T] S = .ok (.lst (sD (aj T))) S:=by
 have l1:=ey T
 have l2:=rT T
 have a0:cX .len (.str T)=some (.int T.length):=by show (if _ then _ else _)=_;rw [if_pos (by omega)]
 have a1:opD .gt (.int T.length) (.int 2000)=some (.bl false):=by show some (D.bl (decide _))=_;rw [decide_eq_false (by omega)]
 have a2:smO (.rep lpS spL) (.str T)=some (.str (Txt.replace T lpS spL)):=by show (if _ then _ else _)=_;rw [if_pos ⟨by omega,by decide +kernel,by decide +kernel⟩]
 have a3:smO (.rep rpS spR) (.str (Txt.replace T lpS spL))=some (.str (bP T)):=by show (if _ then _ else _)=_;rw [if_pos ⟨by omega,by decide +kernel,by decide +kernel⟩];rfl
 have a4:smO (.spl blS) (.str (bP T))=some (.lst (sD (Txt.split (bP T) blS))):=by show (if _ then _ else _)=_;rw [if_pos ⟨by omega,by decide +kernel⟩]
 have l3:(Txt.split (bP T) blS).length≤6001:=by
  have:=k8 32 (ch (bP T))
  rw [show blS=(⟨#[32]⟩:Str) by decide +kernel,L2.Lx.split_mk,List.length_map]
  rw [ch_len] at l2;omega
 obtain ⟨e,lp⟩:=iz (m:=m) (S:=S) (.str T) (.str (bP T)) (Txt.split (bP T) blS) [] none (by simp only [List.length_nil];omega)
 exact (ae true (aX 0 (a0) (aX 0 (a1) (aX 1 (a2) (aX 0 (a3) (aX 0 (a4) (aX 0 (lp) aZ)))))) (by kernel_rfl))
theorem pI (T:Str) (h:2000<T.length) (h2:T.length≤100000):ag Γ (m+1) eR [.str T] S = .exc 1 [] S:=by
 have a0:cX .len (.str T)=some (.int T.length):=by show (if _ then _ else _)=_;rw [if_pos (by omega)]
 have a1:opD .gt (.int T.length) (.int 2000)=some (.bl true):=by show some (D.bl (decide _))=_;rw [decide_eq_true (by omega)]
 exact (ae false (aX 0 (a0) (aX 0 (a1) aZ)) (by kernel_rfl))
end
open L2.Lx (ch Con Tok Br Wd bK Sep ch_app ch_len)
def Kd.shown:Kd→Str
 | .lf l=>l.str
 | .row a=>(lpS ++ Str.join blS ["row",a.shown]) ++ rpS
 | .two h a b=>(lpS ++ Str.join blS [h.str,a.shown,b.shown]) ++ rpS
def Kd.last:Kd→Str
 | .lf l=>l.str
 | _=>rpS
theorem qF (k:Kd):k.last≠lpS:=by
 cases k with
 | lf l=>cases l <;> decide +kernel
 | _=>exact (show rpS≠lpS by decide +kernel)
theorem kb (a b c:Str):(a ++ b) ++ c=a ++ (b ++ c):=L2.Lx.ch_inj (by simp only [ch_app,List.append_assoc])
def gap (t p:Str):Str:=if p=lpS then t else t ++ blS
theorem nv {t w:Str} (h:w≠rpS) (p:Str):jn1 (t,p) w=(gap t p ++ w,w):=by
 unfold jn1 gap
 by_cases c:p=lpS
 ·rw [if_pos (.inl c),if_pos c]
 ·rw [if_neg (not_or.mpr ⟨c,h⟩),if_neg c]
theorem wG (t p:Str):jn1 (t,p) rpS=(t ++ rpS,rpS):=by unfold jn1;rw [if_pos (.inr rfl)]
theorem mX (t:Str):gap t lpS=t:=if_pos rfl
theorem mY {t p:Str} (h:p≠lpS):gap t p=t ++ blS:=if_neg h
theorem kD:∀ (k:Kd) (t p:Str) (r:List Str),(k.tok ++ r).foldl jn1 (t,p)=r.foldl jn1 (gap t p ++ k.shown,k.last)
 | .lf l,t,p,r=>by
   show r.foldl jn1 (jn1 (t,p) l.str)=_
   rw [nv (by cases l <;> decide +kernel)];rfl
 | .row a,t,p,r=>by
   show ((a.tok ++ ([rpS]:List Str)) ++ r).foldl jn1 (jn1 (jn1 (t,p) lpS) "row")=_
   rw [nv (by decide +kernel),nv (by decide +kernel),mX,List.append_assoc,kD a,mY (by decide +kernel)]
   show r.foldl jn1 (jn1 _ rpS)=_
   rw [wG]
   show r.foldl jn1 (_,rpS)=r.foldl jn1 (_ ++ ((lpS ++ (("row" ++ blS) ++ a.shown)) ++ rpS),rpS)
   simp only [kb]
 | .two h a b,t,p,r=>by
   show ((a.tok ++ (b.tok ++ ([rpS]:List Str))) ++ r).foldl jn1 (jn1 (jn1 (t,p) lpS) h.str)=_
   rw [nv (by cases h <;> decide +kernel),nv (by decide +kernel),mX,List.append_assoc,kD a,mY (by cases h <;> decide +kernel),List.append_assoc,kD b,mY (qF a)]
   show r.foldl jn1 (jn1 _ rpS)=_
   rw [wG]
   show r.foldl jn1 (_,rpS)=r.foldl jn1 (_ ++ ((lpS ++ ((h.str ++ blS) ++ ((a.shown ++ blS) ++ b.shown))) ++ rpS),rpS)
   simp only [kb]
theorem cn (k:Kd):cm k.tok=k.shown:=by
 unfold cm
 have:=kD k Str.empty lpS []
 rw [List.append_nil] at this
 rw [this,mX]
 exact L2.Lx.ch_inj (by show ch (Str.empty ++ k.shown)=_;rw [ch_app];rfl)
open L2.Lx (ch ch_app ch_len)
section
variable {S:List O}
theorem yB (a:Nat):(1:Int)+L2.Bw.maxD 0 [(a:Int)]=((1+a:Nat):Int):=by show (1:Int)+a=_;omega
theorem max2 (a b:Nat):(1:Int)+L2.Bw.maxD 0 [(a:Int),(b:Int)]=((1+max a b:Nat):Int):=by
 show (1:Int)+(if (b:Int)>a then (b:Int) else a)=_
 split <;> omega
theorem eg:∀ (k:Kd) (n:Nat),ag Γ (n+k.dep) bT [k.toD] S = .ok (.int (k.dep:Nat)) S
 | .lf l,n=>by cases l <;> kernel_rfl
 | .row a,n=>by
   have ha:=eg a n
   rw [show n+(Kd.row a).dep=(n+a.dep)+1 by simp only [Kd.dep];omega]
   show ag Γ ((n+a.dep)+1) bT [(Kd.row a).toD] S = .ok (.int ((1+a.dep:Nat):Int)) S
   rw [← yB]
   exact (ae false (aX 0 (ha) aZ) (by kernel_rfl))
 | .two h a b,n=>by
   have ha:=eg a (n+(max a.dep b.dep - a.dep))
   have hb:=eg b (n+(max a.dep b.dep - b.dep))
   rw [show n+(max a.dep b.dep - a.dep)+a.dep=n+max a.dep b.dep by omega] at ha
   rw [show n+(max a.dep b.dep - b.dep)+b.dep=n+max a.dep b.dep by omega] at hb
   rw [show n+(Kd.two h a b).dep=(n+max a.dep b.dep)+1 by simp only [Kd.dep];omega]
   show ag Γ ((n+max a.dep b.dep)+1) bT [(Kd.two h a b).toD] S = .ok (.int ((1+max a.dep b.dep:Nat):Int)) S
   rw [← max2]
   exact (ae false (aX 0 (ha) (aX 0 (hb) aZ)) (by kernel_rfl))
theorem wH {a b:Str} (h:a.length+b.length≤90000):kF blS (.lst [.str a,.str b])=some (.str (Str.join blS [a,b])):=by
 rw [← StrLaws.glued_eq_join]
 show (if _ then _ else _)=_
 rw [if_pos ⟨by decide +kernel,by simp only [List.map_cons,List.map_nil,List.sum_cons,List.sum_nil];omega,by simp⟩];rfl
theorem wJ {a b c:Str} (h:a.length+b.length+c.length≤90000):kF blS (.lst [.str a,.str b,.str c])=some (.str (Str.join blS [a,b,c])):=by
 rw [← StrLaws.glued_eq_join]
 show (if _ then _ else _)=_
 rw [if_pos ⟨by decide +kernel,by simp only [List.map_cons,List.map_nil,List.sum_cons,List.sum_nil];omega,by simp⟩];rfl
theorem cV (k:Kd):k.shown.length≤9 * k.tok.length:=by rw [← cn];exact eT _ fun w h=>di (bD k w h)
theorem xN {n:Nat} {a b:Str} (h:a.length+b.length≤80000):ag Γ (n+1) c9 [.lst [.str a,.str b]] S = .ok (.str ((lpS ++ Str.join blS [a,b]) ++ rpS)) S:=by
 have l1:lpS.length=1:=rfl
 have l2:rpS.length=1:=rfl
 have l3:blS.length=1:=rfl
 have l4:(Str.join blS [a,b]).length=a.length+1+b.length:=by show ((a ++ blS) ++ b).length=_;rw [aw,aw,l3]
 have a1:=wH (a:=a) (b:=b) (by omega)
 have a2:opD .add (.str lpS) (.str (Str.join blS [a,b]))=some (.str (lpS ++ Str.join blS [a,b])):=az (by omega)
 have a3:opD .add (.str (lpS ++ Str.join blS [a,b])) (.str rpS)=some (.str ((lpS ++ Str.join blS [a,b]) ++ rpS)):=az (by rw [aw];omega)
 exact (ae false (aX 0 (a1) (aX 0 (a2) (aX 0 (a3) aZ))) (by kernel_rfl))
theorem xO {n:Nat} {a b c:Str} (h:a.length+b.length+c.length≤80000):ag Γ (n+1) c9 [.lst [.str a,.str b,.str c]] S = .ok (.str ((lpS ++ Str.join blS [a,b,c]) ++ rpS)) S:=by
 have l1:lpS.length=1:=rfl
 have l2:rpS.length=1:=rfl
 have l3:blS.length=1:=rfl
 have l4:(Str.join blS [a,b,c]).length=a.length+1+(b.length+1+c.length):=by show ((a ++ blS) ++ ((b ++ blS) ++ c)).length=_;simp only [aw,l3]
 have a1:=wJ (a:=a) (b:=b) (c:=c) (by omega)
 have a2:opD .add (.str lpS) (.str (Str.join blS [a,b,c]))=some (.str (lpS ++ Str.join blS [a,b,c])):=az (by omega)
 have a3:opD .add (.str (lpS ++ Str.join blS [a,b,c])) (.str rpS)=some (.str ((lpS ++ Str.join blS [a,b,c]) ++ rpS)):=az (by rw [aw];omega)
 exact (ae false (aX 0 (a1) (aX 0 (a2) (aX 0 (a3) aZ))) (by kernel_rfl))
theorem cO:∀ (k:Kd) (n:Nat),k.tok.length≤4000→ag Γ (n+k.dep+1) iU [k.toD] S = .ok (.str k.shown) S
 | .lf l,n,_=>by cases l <;> kernel_rfl
 | .row a,n,h=>by
   have h1:(Kd.row a).tok.length=a.tok.length+3:=by simp only [Kd.tok,List.length_cons,List.length_append,List.length_nil]
   have ha:=cO a n (by omega)
   have la:=cV a
   have hb:=xN (S:=S) (n:=n+a.dep) (a:="row") (b:=a.shown) (by rw [show Str.length "row" = 3 from rfl];omega)
   rw [show n+(Kd.row a).dep+1=(n+a.dep+1)+1 by simp only [Kd.dep];omega]
   exact (ae false (aX 0 (ha) (aX 0 (hb) aZ)) (by kernel_rfl))
 | .two h a b,n,hl=>by
   have h1:(Kd.two h a b).tok.length=a.tok.length+b.tok.length+3:=by simp only [Kd.tok,List.length_cons,List.length_append,List.length_nil];omega
   have ha:=cO a (n+(max a.dep b.dep - a.dep)) (by omega)
   have hb:=cO b (n+(max a.dep b.dep - b.dep)) (by omega)
   rw [show n+(max a.dep b.dep - a.dep)+a.dep=n+max a.dep b.dep by omega] at ha
   rw [show n+(max a.dep b.dep - b.dep)+b.dep=n+max a.dep b.dep by omega] at hb
   have la:=cV a
   have lb:=cV b
   have hc:=xO (S:=S) (n:=n+max a.dep b.dep) (a:=h.str) (b:=a.shown) (c:=b.shown) (by have:=di (sL h);omega)
   rw [show n+(Kd.two h a b).dep+1=(n+max a.dep b.dep+1)+1 by simp only [Kd.dep];omega]
   exact (ae false (aX 0 (ha) (aX 0 (hb) (aX 0 (hc) aZ))) (by kernel_rfl))
end
open L2.Lx (ch ch_app ch_len)
section
variable {S:List O} {n:Nat}
theorem tR (x:Str):opD .eq (.str x) (.str x)=some (.bl true):=by show some (D.bl (x == x))=_;rw [beq_self_eq_true]
theorem cR (x:Str):ag Γ (n+1) dB [.str x,.str x] S = .ok (.bl true) S:=(ae false (aX 12 (tR x) aZ) (by kernel_rfl))
theorem dy:∀ (k:Kd) (n:Nat),ag Γ (n+k.dep+1) dB [k.toD,k.toD] S = .ok (.bl true) S
 | .lf l,n=>by cases l <;> kernel_rfl
 | .row a,n=>by
   have ha:=dy a n
   have hs:=cR (S:=S) (n:=n+a.dep) "row"
   rw [show n+(Kd.row a).dep+1=(n+a.dep+1)+1 by simp only [Kd.dep];omega]
   exact (ae false (aX 0 (hs) (aX 0 (ha) aZ)) (by kernel_rfl))
 | .two h a b,n=>by
   have ha:=dy a (n+(max a.dep b.dep - a.dep))
   have hb:=dy b (n+(max a.dep b.dep - b.dep))
   have hs:=cR (S:=S) (n:=n+max a.dep b.dep) h.str
   rw [show n+(max a.dep b.dep - a.dep)+a.dep=n+max a.dep b.dep by omega] at ha
   rw [show n+(max a.dep b.dep - b.dep)+b.dep=n+max a.dep b.dep by omega] at hb
   rw [show n+(Kd.two h a b).dep+1=(n+max a.dep b.dep+1)+1 by simp only [Kd.dep];omega]
   exact (ae false (aX 0 (hs) (aX 0 (ha) (aX 0 (hb) aZ))) (by kernel_rfl))
abbrev RS (ws:List Str) (t:Nat):List O:=[.ins 9 [.lst (sD ws),.int t,.int 0]]
theorem wd {t k:Nat} (h:t=k):opD .eq (.int t) (.int k)=some (.bl true):=by subst h;show some (D.bl ((t:Int) == t))=_;rw [beq_self_eq_true]
theorem we {t k:Nat} (h:t≠k):opD .eq (.int t) (.int k)=some (.bl false):=by show some (D.bl ((t:Int) == k))=_;rw [beq_eq_false_iff_ne.mpr (by omega)]
theorem rI {ws:List Str} {t:Nat} (h:t=ws.length):ag Γ (n+1) c6 [.ref 0] (RS ws t) = .exc 1 [] (RS ws t):=by
 have e:opD .eq (.int t) (.int ((sD ws).length:Nat))=some (.bl true):=wd (by rw [List.length_map];exact h)
 exact (ae false (aX 3 (e) aZ) (by kernel_rfl))
theorem rJ {ws:List Str} {t:Nat} {w:Str} (h:ws[t]? = some w):ag Γ (n+1) c6 [.ref 0] (RS ws t) = .ok (.str w) (RS ws t):=by
 have ht:t<ws.length:=(List.getElem?_eq_some_iff.mp h).1
 have e:opD .eq (.int t) (.int ((sD ws).length:Nat))=some (.bl false):=we (by rw [List.length_map];omega)
 have e2:ixD (.lst (sD ws)) (.int t)=some (.str w):=cS (by rw [List.getElem?_map,h];rfl)
 exact (ae false (aX 3 (e) (aX 3 (e2) aZ)) (by kernel_rfl))
theorem iw {ws:List Str} {t:Nat} (h:t=ws.length):ag Γ (n+2) c8 [.ref 0] (RS ws t) = .exc 1 [] (RS ws t):=by
 have p:=rI (n:=n) h
 exact (ae false (aX 0 (p) aZ) (by kernel_rfl))
theorem pt {ws:List Str} {t m:Nat} {w:Str}:exS Γ (ag Γ m) (aU Γ m) (.fld (.v 0) 6 (.op .add (.fld (.v 0) 6) (.c (.int 1)))) ⟨[some (.ref 0),some (.str w)],[],RS ws t⟩ = .nx ⟨[some (.ref 0),some (.str w)],[],RS ws (t+1)⟩:=by kernel_rfl
theorem ez {ws:List Str} {t:Nat} {w:Str} (h:ws[t]? = some w):ag Γ (n+2) c8 [.ref 0] (RS ws t) = .ok (.str w) (RS ws (t+1)):=by
 have p:=rJ (n:=n) h
 have f:=pt (ws:=ws) (t:=t) (m:=n+1) (w:=w)
 exact (ae false (aX 0 (p) (aX 0 (f) aZ)) (by kernel_rfl))
def Ow (w:Str):Prop:=w.length≤100∧∀ c∈w.cps.toList,c<16 ^ 8
theorem jV {w:Str} (h:Ow w):opD .add (.str w) (.str emS)=some (.str (w ++ emS)):=az (by have:=h.1;rw [show emS.length=0 from rfl];omega)
theorem ie {w:Str} (h:Ow w):cC Γ 1 [.str (w ++ emS)]=true:=by
 have e:w ++ emS=w:=L2.Lx.ch_inj (by rw [ch_app,show ch emS = [] by decide +kernel,List.append_nil])
 rw [e]
 have h1:=StrLaws.reprText_len w h.2
 have h2:=h.1
 show (decide ((reprText w).length≤10000) && true)=true
 rw [decide_eq_true (by omega)];rfl
theorem eI {ws:List Str} {t:Nat} (h:t=ws.length):ag Γ (n+3) aQ [.ref 0] (RS ws t) = .exc 1 [] (RS ws t):=by
 have p:=iw (n:=n) h
 exact (ae false (aX 0 (p) aZ) (by kernel_rfl))
theorem gb {ws:List Str} {t:Nat} (h:ws[t]? = some rpS):ag Γ (n+3) aQ [.ref 0] (RS ws t) = .ok .non (RS ws (t+1)):=by
 have p:=ez (n:=n) h
 exact (ae false (aX 0 (p) aZ) (by kernel_rfl))
theorem f9 {ws:List Str} {t:Nat} {w:Str} (h:ws[t]? = some w) (hw:w≠rpS) (hl:Ow w):ag Γ (n+3) aQ [.ref 0] (RS ws t) = .exc 1 [] (RS ws (t+1)):=by
 have p:=ez (n:=n) h
 exact (ae false (aX 0 (p) (aX 0 (oJ hw) (aX 1 (jV hl) (aX 0 (ie hl) aZ)))) (by kernel_rfl))
end
open L2.Lx (ch ch_app ch_len)
theorem uD:∀ {l k:L3},l.str=k.str→l=k:=by intro l k;cases l <;> cases k <;> decide +kernel
theorem tX:∀ {l k:H2},l.str=k.str→l=k:=by intro l k;cases l <;> cases k <;> decide +kernel
theorem iX (l:L3):l.str≠lpS:=by cases l <;> decide +kernel
theorem gW (h:H2):h.str≠"row":=by cases h <;> decide +kernel
theorem bW:∀ (a b:Kd) (r q:List Str),a.tok ++ r=b.tok ++ q→a=b∧r=q
 | .lf l,.lf k,r,q,h=>by
   have h:=List.cons.inj (show l.str :: r=k.str :: q from h)
   exact ⟨by rw [uD h.1],h.2⟩
 | .lf l,.row b,r,q,h=>absurd (List.cons.inj (show l.str :: r=lpS :: _ from h)).1 (iX l)
 | .lf l,.two k b c,r,q,h=>absurd (List.cons.inj (show l.str :: r=lpS :: _ from h)).1 (iX l)
 | .row a,.lf k,r,q,h=>absurd (List.cons.inj (show lpS :: _=k.str :: q from h)).1.symm (iX k)
 | .two k a b,.lf l,r,q,h=>absurd (List.cons.inj (show lpS :: _=l.str :: q from h)).1.symm (iX l)
 | .row a,.two k b c,r,q,h=>absurd (List.cons.inj (List.cons.inj (show lpS :: ("row":Str) :: _=lpS :: k.str :: _ from h)).2).1.symm (gW k)
 | .two k b c,.row a,r,q,h=>absurd (List.cons.inj (List.cons.inj (show lpS :: k.str :: _=lpS :: ("row":Str) :: _ from h)).2).1 (gW k)
 | .row a,.row b,r,q,h=>by
   have h:=(List.cons.inj (List.cons.inj (show lpS :: ("row":Str) :: ((a.tok ++ ([rpS]:List Str)) ++ r)=lpS :: ("row":Str) :: ((b.tok ++ ([rpS]:List Str)) ++ q) from h)).2).2
   rw [List.append_assoc,List.append_assoc] at h
   have h3:=bW a b _ _ h
   exact ⟨by rw [h3.1],(List.cons.inj h3.2).2⟩
 | .two k a b,.two l c d,r,q,h=>by
   have h0:=List.cons.inj (List.cons.inj (show lpS :: k.str :: ((a.tok ++ (b.tok ++ ([rpS]:List Str))) ++ r)=lpS :: l.str :: ((c.tok ++ (d.tok ++ ([rpS]:List Str))) ++ q) from h)).2
   have e:=tX h0.1
   have h:=h0.2
   simp only [List.append_assoc] at h
   have h3:=bW a c _ _ h
   have h4:=bW b d _ _ h3.2
   exact ⟨by rw [e,h3.1,h4.1],(List.cons.inj h4.2).2⟩
inductive Rd (ws:List Str) (t d:Nat):Res→Prop
 | ok (k:Kd) (r:List Str):ws.drop t=k.tok ++ r→k.dep+d≤7→Rd ws t d (.ok k.toD (RS ws (t+k.tok.length)))
 | no (t':Nat):(∀ (k:Kd) (r:List Str),ws.drop t=k.tok ++ r→7<k.dep+d)→Rd ws t d (.exc 1 [] (RS ws t'))
theorem ba {ws:List Str} {t:Nat} {w:Str} (h:ws[t]? = some w):ws.drop t=w :: ws.drop (t+1):=by
 obtain ⟨h1,rfl⟩:=List.getElem?_eq_some_iff.mp h
 exact List.drop_eq_getElem_cons h1
theorem pv (k:Kd):k.tok≠[]:=by cases k <;> simp [Kd.tok]
theorem wB {w:Str} (h1:w≠"whole") (h2:w≠"truth") (h3:w≠"?"):opD .isin (.str w) (.tup [.str "whole",.str "truth",.str "?"])=some (.bl false):=by
 show some (D.bl (("whole":Str) == w || (("truth":Str) == w || (("?":Str) == w || false))))=_
 rw [beq_eq_false_iff_ne.mpr h1.symm,beq_eq_false_iff_ne.mpr h2.symm,beq_eq_false_iff_ne.mpr h3.symm];rfl
theorem wK {ws:List Str} {t:Nat} {w:Str} {k:Kd} {r:List Str} (h:ws[t]? = some w) (e:ws.drop t=k.tok ++ r):(∃ l:L3,w=l.str)∨w=lpS:=by
 rw [ba h] at e
 cases k with
 | lf l=>exact .inl ⟨l,(List.cons.inj e).1⟩
 | _=>exact .inr (List.cons.inj e).1
theorem hH {ws:List Str} {t:Nat} {k:Kd} {r:List Str} (h:ws[t]? = some lpS) (e:ws.drop t=k.tok ++ r):(∃ a,k = .row a∧ws.drop (t+1)=("row":Str) :: (a.tok ++ rpS :: r))∨∃ q a b,k = .two q a b∧ws.drop (t+1)=q.str :: (a.tok ++ (b.tok ++ rpS :: r)):=by
 rw [ba h] at e
 cases k with
 | lf l=>exact absurd (List.cons.inj e).1.symm (iX l)
 | row a=>exact .inl ⟨a,rfl,by rw [(List.cons.inj e).2];simp⟩
 | two q a b=>exact .inr ⟨q,a,b,rfl,by rw [(List.cons.inj e).2];simp⟩
theorem eM {ws a r:List Str} {t:Nat} (h:ws.drop t=a ++ r) (ht:t≤ws.length):t+a.length≤ws.length∧ws.drop (t+a.length)=r:=by
 have h1:=congrArg List.length h
 rw [List.length_drop,List.length_append] at h1
 refine ⟨by omega,?_⟩
 rw [← List.drop_drop,h]
 exact List.drop_left
theorem vn {w:Str} (h1:w≠"to") (h2:w≠"row") (h3:w≠"pair"):(!(KTD.datumAt w (tbl.map (·.2))[0]!).isSome)=true:=by
 show (!(KTD.datumAt w [("to",_),("row",_),("pair",_)]).isSome)=true
 simp only [KTD.datumAt]
 rw [if_neg (by simpa using h1),if_neg (by simpa using h2),if_neg (by simpa using h3)];rfl
theorem rL:∀ (q d:Nat),d+q=7→∀ (ws:List Str) (t n:Nat),(∀ w∈ws,Ow w)→t≤ws.length→∃ res,Rd ws t d res∧ag Γ (n+q+4) ai [.ref 0,.int (d:Nat)] (RS ws t)=res
 | 0,d,hd,ws,t,n,hw,_=>by
   have e0:opD .gt (.int (d:Nat)) (.int 6)=some (.bl true):=by show some (D.bl (decide _))=_;rw [decide_eq_true (by omega)]
   exact ⟨.exc 1 [] (RS ws t),.no t (fun k r _=>by have:=k.dep1;omega),(ae false (aX 0 (e0) aZ) (by kernel_rfl))⟩
 | q+1,d,hd,ws,t,n,hw,h0=>by
   have e0:opD .gt (.int (d:Nat)) (.int 6)=some (.bl false):=by show some (D.bl (decide _))=_;rw [decide_eq_false (by omega)]
   by_cases ht:t=ws.length
   ·have p1:=iw (n:=n+q+2) ht
    exact ⟨.exc 1 [] (RS ws t),.no t (fun k r e=>by rw [List.drop_eq_nil_of_le (by omega)] at e;exact absurd (List.append_eq_nil_iff.mp e.symm).1 (pv k)),(ae false (aX 0 (e0) (aX 0 (p1) aZ)) (by kernel_rfl))⟩
   obtain ⟨w,h1⟩:∃ w,ws[t]? = some w:=⟨_,List.getElem?_eq_getElem (by omega)⟩
   have p1:=ez (n:=n+q+2) h1
   have o1:=hw w (List.mem_of_getElem? h1)
   have lf:∀ l:L3,w=l.str→ag Γ (n+(q+1)+4) ai [.ref 0,.int (d:Nat)] (RS ws t) = .ok (Kd.lf l).toD (RS ws (t+1))→∃ res,Rd ws t d res∧ag Γ (n+(q+1)+4) ai [.ref 0,.int (d:Nat)] (RS ws t)=res:=fun l e h=>⟨_,.ok (.lf l) (ws.drop (t+1)) (by rw [ba h1,e];rfl) (by simp only [Kd.dep];omega),h⟩
   by_cases c1:w = "whole"
   ·subst c1;exact lf .whole rfl (ae false (aX 0 (e0) (aX 0 (p1) aZ)) (by kernel_rfl))
   by_cases c2:w = "truth"
   ·subst c2;exact lf .truth rfl (ae false (aX 0 (e0) (aX 0 (p1) aZ)) (by kernel_rfl))
   by_cases c3:w = "?"
   ·subst c3;exact lf .unt rfl (ae false (aX 0 (e0) (aX 0 (p1) aZ)) (by kernel_rfl))
   have i1:=wB c1 c2 c3
   have nl:∀ l:L3,w≠l.str:=fun l=>by cases l <;> assumption
   by_cases c4:w=lpS
   ·subst c4
    by_cases ht2:t+1=ws.length
    ·have p2:=iw (n:=n+q+2) ht2
     refine ⟨.exc 1 [] (RS ws (t+1)),.no (t+1) (fun k r e=>?_),(ae false (aX 0 (e0) (aX 0 (p1) (aX 0 (p2) aZ))) (by kernel_rfl))⟩
     have z:ws.drop (t+1) = []:=List.drop_eq_nil_of_le (by omega)
     rcases hH h1 e with ⟨a,_,e⟩ | ⟨q,a,b,_,e⟩ <;> (rw [z] at e;cases e)
    have l1:t<ws.length:=(List.getElem?_eq_some_iff.mp h1).1
    obtain ⟨h,h2⟩:∃ h,ws[t+1]? = some h:=⟨_,List.getElem?_eq_getElem (by omega)⟩
    have p2:=ez (n:=n+q+2) h2
    have o2:=hw h (List.mem_of_getElem? h2)
    have dr:=ba h2
    have l2:t+2≤ws.length:=by omega
    obtain ⟨ra,hra,ea⟩:=rL q (d+1) (by omega) ws (t+2) n hw l2
    by_cases cr:h = "row"
    ·subst cr
     have noR:∀ t',(∀ (a:Kd) (r:List Str),ws.drop (t+2)=a.tok ++ rpS :: r→7<a.dep+(d+1))→ag Γ (n+(q+1)+4) ai [.ref 0,.int (d:Nat)] (RS ws t) = .exc 1 [] (RS ws t')→∃ res,Rd ws t d res∧ag Γ (n+(q+1)+4) ai [.ref 0,.int (d:Nat)] (RS ws t)=res:=fun t' hn h=>⟨_,.no t' (fun k r e=>by
      rcases hH h1 e with ⟨a,rfl,e2⟩ | ⟨q,a,b,rfl,e2⟩
      ·rw [dr] at e2
       have:=hn a r (List.cons.inj e2).2
       simp only [Kd.dep];omega
      ·rw [dr] at e2
       exact absurd (List.cons.inj e2).1.symm (gW q)),h⟩
     cases hra with
     | no t' hn=>exact noR t' (fun a r e=>hn a _ e) (ae false (aX 0 (e0) (aX 0 (p1) (aX 0 (p2) (aX 0 (ea) aZ)))) (by kernel_rfl))
     | ok a r1 e1 d1=>
       obtain ⟨l3,e3⟩:=eM e1 l2
       have un:∀ (a':Kd) (r:List Str),ws.drop (t+2)=a'.tok ++ rpS :: r→r1=rpS :: r:=fun a' r e=>(bW a a' r1 (rpS :: r) (e1.symm.trans e)).2
       by_cases hx:t+2+a.tok.length=ws.length
       ·have p3:=eI (n:=n+q+1) hx
        exact noR (t+2+a.tok.length) (fun a' r e=>by have:=un a' r e;rw [← e3,List.drop_eq_nil_of_le (by omega)] at this;cases this) (ae false (aX 0 (e0) (aX 0 (p1) (aX 0 (p2) (aX 0 (ea) (aX 0 (p3) aZ))))) (by kernel_rfl))
       obtain ⟨x,h3⟩:∃ x,ws[t+2+a.tok.length]? = some x:=⟨_,List.getElem?_eq_getElem (by omega)⟩
       by_cases cx:x=rpS
       ·subst cx
        have p3:=gb (n:=n+q+1) h3
        refine ⟨_,.ok (.row a) (ws.drop (t+2+a.tok.length+1)) ?_ (by simp only [Kd.dep];omega),?_⟩
        ·rw [ba h1,dr,e1,← e3,ba h3];simp [Kd.tok]
        ·rw [show t+(Kd.row a).tok.length=t+2+a.tok.length+1 by simp only [Kd.tok,List.length_cons,List.length_append,List.length_nil];omega]
         exact (ae false (aX 0 (e0) (aX 0 (p1) (aX 0 (p2) (aX 0 (ea) (aX 0 (p3) aZ))))) (by kernel_rfl))
       ·have p3:=f9 (n:=n+q+1) h3 cx (hw x (List.mem_of_getElem? h3))
        exact noR (t+2+a.tok.length+1) (fun a' r e=>by have:=un a' r e;rw [← e3,ba h3] at this;exact absurd (List.cons.inj this).1 cx) (ae false (aX 0 (e0) (aX 0 (p1) (aX 0 (p2) (aX 0 (ea) (aX 0 (p3) aZ))))) (by kernel_rfl))
    by_cases ct:∃ k:H2,h=k.str
    ·obtain ⟨k,rfl⟩:=ct
     have noT:∀ t',(∀ (a b:Kd) (r:List Str),ws.drop (t+2)=a.tok ++ (b.tok ++ rpS :: r)→7<max a.dep b.dep+(d+1))→ag Γ (n+(q+1)+4) ai [.ref 0,.int (d:Nat)] (RS ws t) = .exc 1 [] (RS ws t')→∃ res,Rd ws t d res∧ag Γ (n+(q+1)+4) ai [.ref 0,.int (d:Nat)] (RS ws t)=res:=fun t' hn h=>⟨_,.no t' (fun k' r e=>by
      rcases hH h1 e with ⟨a,rfl,e2⟩ | ⟨k2,a,b,rfl,e2⟩
      ·rw [dr] at e2
       exact absurd (List.cons.inj e2).1 (gW k)
      ·rw [dr] at e2
       have:=hn a b r (List.cons.inj e2).2
       simp only [Kd.dep];omega),h⟩
     cases hra with
     | no t' hn=>exact noT t' (fun a b r e=>by have:=hn a _ e;omega) (by cases k <;> exact (ae false (aX 0 (e0) (aX 0 (p1) (aX 0 (p2) (aX 0 (ea) aZ)))) (by kernel_rfl)))
     | ok a r1 e1 d1=>
       obtain ⟨l3,e3⟩:=eM e1 l2
       obtain ⟨rb,hrb,eb⟩:=rL q (d+1) (by omega) ws (t+2+a.tok.length) n hw l3
       have un:∀ (a' b':Kd) (r:List Str),ws.drop (t+2)=a'.tok ++ (b'.tok ++ rpS :: r)→a=a'∧ws.drop (t+2+a.tok.length)=b'.tok ++ rpS :: r:=fun a' b' r e=>by
        have:=bW a a' r1 _ (e1.symm.trans e)
        exact ⟨this.1,e3.trans this.2⟩
       cases hrb with
       | no t' hn=>exact noT t' (fun a' b' r e=>by have h5:=un a' b' r e;have:=hn b' _ h5.2;omega) (by cases k <;> exact (ae false (aX 0 (e0) (aX 0 (p1) (aX 0 (p2) (aX 0 (ea) (aX 0 (eb) aZ))))) (by kernel_rfl)))
       | ok b r2 e4 d2=>
         obtain ⟨l4,e5⟩:=eM e4 l3
         have un2:∀ (a' b':Kd) (r:List Str),ws.drop (t+2)=a'.tok ++ (b'.tok ++ rpS :: r)→r2=rpS :: r:=fun a' b' r e=>(bW b b' r2 (rpS :: r) (e4.symm.trans (un a' b' r e).2)).2
         by_cases hx:t+2+a.tok.length+b.tok.length=ws.length
         ·have p3:=eI (n:=n+q+1) hx
          exact noT (t+2+a.tok.length+b.tok.length) (fun a' b' r e=>by have:=un2 a' b' r e;rw [← e5,List.drop_eq_nil_of_le (by omega)] at this;cases this) (by cases k <;> exact (ae false (aX 0 (e0) (aX 0 (p1) (aX 0 (p2) (aX 0 (ea) (aX 0 (eb) (aX 0 (p3) aZ)))))) (by kernel_rfl)))
         obtain ⟨x,h3⟩:∃ x,ws[t+2+a.tok.length+b.tok.length]? = some x:=⟨_,List.getElem?_eq_getElem (by omega)⟩
         by_cases cx:x=rpS
         ·subst cx
          have p3:=gb (n:=n+q+1) h3
          refine ⟨_,.ok (.two k a b) (ws.drop (t+2+a.tok.length+b.tok.length+1)) ?_ (by simp only [Kd.dep];omega),?_⟩
          ·rw [ba h1,dr,e1,← e3,e4,← e5,ba h3];simp [Kd.tok]
          ·rw [show t+(Kd.two k a b).tok.length=t+2+a.tok.length+b.tok.length+1 by simp only [Kd.tok,List.length_cons,List.length_append,List.length_nil];omega]
           cases k <;> exact (ae false (aX 0 (e0) (aX 0 (p1) (aX 0 (p2) (aX 0 (ea) (aX 0 (eb) (aX 0 (p3) aZ)))))) (by kernel_rfl))
         ·have p3:=f9 (n:=n+q+1) h3 cx (hw x (List.mem_of_getElem? h3))
          exact noT (t+2+a.tok.length+b.tok.length+1) (fun a' b' r e=>by have:=un2 a' b' r e;rw [← e5,ba h3] at this;exact absurd (List.cons.inj this).1 cx) (by cases k <;> exact (ae false (aX 0 (e0) (aX 0 (p1) (aX 0 (p2) (aX 0 (ea) (aX 0 (eb) (aX 0 (p3) aZ)))))) (by kernel_rfl)))
    ·have nt:∀ k:H2,h≠k.str:=fun k e=>ct ⟨k,e⟩
     refine ⟨.exc 1 [] (RS ws (t+2)),.no (t+2) (fun k r e=>?_),(ae false (aX 0 (e0) (aX 0 (p1) (aX 0 (p2) (aX 0 (vn (nt .to) cr (nt .pair)) (aX 0 (jV o2) (aX 0 (ie o2) aZ)))))) (by kernel_rfl))⟩
     rcases hH h1 e with ⟨a,rfl,e2⟩ | ⟨k2,a,b,rfl,e2⟩
     ·rw [dr] at e2;exact absurd (List.cons.inj e2).1 cr
     ·rw [dr] at e2;exact absurd (List.cons.inj e2).1 (nt k2)
   ·refine ⟨.exc 1 [] (RS ws (t+1)),.no (t+1) (fun k r e=>?_),(ae false (aX 0 (e0) (aX 0 (p1) (aX 0 (i1) (aX 1 (oJ c4) (aX 1 (jV o1) (aX 0 (ie o1) aZ)))))) (by kernel_rfl))⟩
    rcases wK h1 e with ⟨l,e⟩ | e
    ·exact absurd e (nl l)
    ·exact absurd e c4
open L2.Lx (ch ch_app ch_len)
section
variable {n:Nat} {S:List O}
theorem ini (ws:List Str):aU Γ (n+2) 19 [.ref 0,.lst (sD ws)] [.ins 9 []] = .ok .non (RS ws 0):=by kernel_rfl
theorem tQ {ws:List Str}:ag Γ (n+1) bS [.ref 0] (RS ws ws.length) = .ok .non (RS ws ws.length):=by
 have e:opD .lt (.int (ws.length:Nat)) (.int ((sD ws).length:Nat))=some (.bl false):=by show some (D.bl (decide _))=_;rw [decide_eq_false (by rw [List.length_map];omega)]
 exact (ae false (aX 3 (e) aZ) (by kernel_rfl))
theorem tP {ws:List Str} {t:Nat} (h:t<ws.length):ag Γ (n+1) bS [.ref 0] (RS ws t) = .exc 1 [] (RS ws t):=by
 have e:opD .lt (.int (t:Nat)) (.int ((sD ws).length:Nat))=some (.bl true):=by show some (D.bl (decide _))=_;rw [decide_eq_true (by rw [List.length_map];omega)]
 exact (ae false (aX 3 (e) aZ) (by kernel_rfl))
theorem xw {T:Str} {k:Kd} (h:T.length≤2000) (hk:aj T=k.tok) (hd:k.dep≤6) (hw:∀ w∈aj T,Ow w):ag Γ (n+12) dX [.str T] [] = .ok k.toD (RS (aj T) (aj T).length):=by
 have w0:=jj (S:=[]) (m:=n+10) T h
 have i0:=ini (n:=n+9) (aj T)
 obtain ⟨res,hr,er⟩:=rL 6 1 rfl (aj T) 0 (n+1) hw (Nat.zero_le _)
 cases hr with
 | no t' hn=>have:=hn k [] (by rw [List.drop_zero,hk,List.append_nil]);omega
 | ok k2 r e d=>
   rw [List.drop_zero] at e
   have z:=bW k2 k r [] (e.symm.trans (by rw [hk,List.append_nil]))
   obtain ⟨rfl,rfl⟩:=z
   have l:0+k2.tok.length=(aj T).length:=by rw [hk];omega
   rw [l] at er
   have e0:=tQ (n:=n+10) (ws:=aj T)
   exact (ae false (aX 0 (w0) (aX 0 (i0) (aX 0 (er) (aX 0 (e0) aZ)))) (by kernel_rfl))
theorem xv {T:Str} (h:2000<T.length∨∀ k:Kd,aj T=k.tok→6<k.dep) (h5:T.length≤90000) (hw:T.length≤2000→∀ w∈aj T,Ow w):∃ st,ag Γ (n+12) dX [.str T] [] = .exc 1 [] st:=by
 by_cases hl:2000<T.length
 ·have w0:=pI (S:=[]) (m:=n+10) T hl (by omega)
  exact ⟨[],(ae false (aX 0 (w0) aZ) (by kernel_rfl))⟩
 have hk:=h.resolve_left hl
 have w0:=jj (S:=[]) (m:=n+10) T (by omega)
 have i0:=ini (n:=n+9) (aj T)
 obtain ⟨res,hr,er⟩:=rL 6 1 rfl (aj T) 0 (n+1) (hw (by omega)) (Nat.zero_le _)
 cases hr with
 | no t' hn=>exact ⟨RS (aj T) t',(ae false (aX 0 (w0) (aX 0 (i0) (aX 0 (er) aZ))) (by kernel_rfl))⟩
 | ok k r e d=>
   rw [List.drop_zero] at e
   have l:0+k.tok.length<(aj T).length:=by
    cases r with
    | nil=>rw [List.append_nil] at e;have:=hk k e;omega
    | cons a b=>rw [e,List.length_append,List.length_cons];omega
   have e0:=tP (n:=n+10) (ws:=aj T) l
   exact ⟨RS (aj T) (0+k.tok.length),(ae false (aX 0 (w0) (aX 0 (i0) (aX 0 (er) (aX 0 (e0) aZ)))) (by kernel_rfl))⟩
theorem rS:ag Γ (n+1) iT [.ins 1 []] S = .ok (.str "refused") S:=by kernel_rfl
theorem fe:∀ k:Kd,noR k.toD=true
 | .lf l=>rfl
 | .row a=>by show (true && (noR a.toD && true))=true;rw [fe a];rfl
 | .two h a b=>by show (true && (noR a.toD && (noR b.toD && true)))=true;rw [fe a,fe b];rfl
theorem wU {T:Str} {k:Kd} (h:T.length≤2000) (hk:aj T=k.tok) (hd:k.dep≤6) (hw:∀ w∈aj T,Ow w):ag Γ (n+13) dW [.str T] S = .ok (.tup [.str "read",k.toD]) S:=by
 have r:=xw (n:=n) h hk hd hw
 exact (ae false (aX 0 (r) (aX 0 (fe k) aZ)) (by kernel_rfl))
theorem sR {T:Str} (h:2000<T.length∨∀ k:Kd,aj T=k.tok→6<k.dep) (h5:T.length≤90000) (hw:T.length≤2000→∀ w∈aj T,Ow w):ag Γ (n+13) dW [.str T] S = .ok (.tup [.str "refused",.non]) S:=by
 obtain ⟨st,r⟩:=xv (n:=n) h h5 hw
 have s:=rS (n:=n+11) (S:=S)
 exact (ae false (aX 0 (r) (aX 0 (s) aZ)) (by kernel_rfl))
theorem o6 {T:Str} {k:Kd} (hk:aj T=k.tok) (hd:k.dep≤6) (h5:T.length≤90000) (hw:T.length≤2000→∀ w∈aj T,Ow w):ag Γ (n+14) bf [.str T,k.toD,.bl true] S = .ok (.bl true) S:=by
 have a0:cX .len (.str T)=some (.int T.length):=by show (if _ then _ else _)=_;rw [if_pos (by omega)]
 by_cases hl:2000<T.length
 ·have a1:opD .gt (.int (T.length:Nat)) (.int 2000)=some (.bl true):=by show some (D.bl (decide _))=_;rw [decide_eq_true (by omega)]
  have r:=sR (n:=n) (S:=S) (.inl hl) h5 hw
  exact (ae false (aX 0 (r) (aX 2 (a0) (aX 0 (a1) aZ))) (by kernel_rfl))
 ·have a1:opD .gt (.int (T.length:Nat)) (.int 2000)=some (.bl false):=by show some (D.bl (decide _))=_;rw [decide_eq_false (by omega)]
  have r:=wU (n:=n) (S:=S) (by omega) hk hd (hw (by omega))
  have al:=dy (S:=S) k (n+(12 - k.dep))
  rw [show n+(12 - k.dep)+k.dep+1=n+13 by omega] at al
  exact (ae false (aX 0 (r) (aX 2 (a0) (aX 0 (a1) (aX 0 (al) aZ)))) (by kernel_rfl))
theorem i7 {T:Str} {kd:D} (h:∀ k:Kd,aj T=k.tok→6<k.dep) (h5:T.length≤90000) (hw:T.length≤2000→∀ w∈aj T,Ow w):ag Γ (n+14) bf [.str T,kd,.bl false] S = .ok (.bl true) S:=by
 have r:=sR (n:=n) (S:=S) (.inr h) h5 hw
 exact (ae false (aX 0 (r) aZ) (by kernel_rfl))
end
open L2.Lx (ch ch_app ch_len)
theorem bv (a:Int) {b:Int} (hb:0<b∧b<2 ^ 200):opD .fdiv (.int a) (.int b)=some (.int (a / b)):=by show (if 0<b∧b<2 ^ 200 then some (D.int (a / b)) else none)=_;rw [if_pos hb]
theorem aN {a b k:Int} (h:a % b=k) (hb:0<b):opD .mod (.int a) (.int b)=some (.int k):=by show (if 0<b then some (D.int (a % b)) else none)=_;rw [if_pos hb,h]
theorem wY (c:Int):c % 3=0∨c % 3=1∨c % 3=2:=by omega
theorem rC (c:Int):c % 2=0∨c % 2=1:=by omega
abbrev vf:D:=.str "row"
abbrev jg:D:=.str "to"
abbrev paD:D:=.str "pair"
abbrev unD:D:=.str "?"
abbrev unT:Kd:=.lf .unt
section
theorem s9:∀ (m:Nat) (c:Int),∃ k:Kd,k.dep=m+1∧k.tok.length≤4 * (m+1)∧∀ (n:Nat) (w:List D),w.length+5 * (m+1)≤60000→ag Γ (n+m+1) gZ [.int c,.int ((m+1:Nat):Int),.ref 0] [.lst w] = .ok k.toD [.lst (w ++ sD k.tok)]
 | 0,c=>by
   have t:∀ w:List D,w.length+5 * (0+1)≤60000→decide (w.length<100000)=true:=fun w h=>decide_eq_true (by omega)
   rcases wY c with h | h | h
   ·exact ⟨.lf .whole,rfl,by decide,fun n w hw=>(ae false (aX 3 (aN h (by decide)) (aX 1 (t w hw) (aX 0 (aS w (.str "whole")) aZ))) (by kernel_rfl))⟩
   ·exact ⟨.lf .truth,rfl,by decide,fun n w hw=>(ae false (aX 3 (aN h (by decide)) (aX 1 (t w hw) (aX 0 (aS w (.str "truth")) aZ))) (by kernel_rfl))⟩
   ·exact ⟨.lf .unt,rfl,by decide,fun n w hw=>(ae false (aX 3 (aN h (by decide)) (aX 1 (t w hw) (aX 0 (aS w (.str "?")) aZ))) (by kernel_rfl))⟩
 | m+1,c=>by
   obtain ⟨a,da,la,ea⟩:=s9 m (c / 6)
   have e1:opD .eq (.int ((m+1+1:Nat):Int)) (.int 1)=some (.bl false):=dY false _ _ (beq_eq_false_iff_ne.mpr (by omega)).symm
   have oS:opD .sub (.int ((m+1+1:Nat):Int)) (.int 1)=some (.int ((m+1:Nat):Int)):=congrArg (fun z=>some (D.int z)) (by omega)
   have x0:∀ (w:List D) (h:Str),w.length+5 * (m+1+1)≤60000→decide (w.length+([lpD,.str h]:List D).length≤100000)=true:=fun w h hw=>decide_eq_true (by simp only [List.length_cons,List.length_nil];omega)
   have la':(sD a.tok).length≤4 * (m+1):=by rw [List.length_map];exact la
   rcases wY c with h | h | h
   ·refine ⟨.row a,by simp only [Kd.dep];omega,by simp only [Kd.tok,List.length_cons,List.length_append,List.length_nil];omega,fun n w hw=>?_⟩
    have ea':=ea n (w ++ [lpD,vf]) (by simp only [List.length_append,List.length_cons,List.length_nil];omega)
    have x1:decide (((w ++ [lpD,vf]) ++ sD a.tok).length<100000)=true:=decide_eq_true (by simp only [List.length_append,List.length_cons,List.length_nil];omega)
    rw [show w ++ sD (Kd.row a).tok=((w ++ [lpD,vf]) ++ sD a.tok) ++ [rpD] by simp [Kd.tok]]
    exact (ae false (aX 0 (e1) (aX 1 (aN h (by decide)) (aX 2 (x0 w "row" hw) (aX 7 (bv c (b:=6) (by decide)) (aX 0 (oS) (aX 0 (ea') (aX 2 (x1) aZ))))))) (by kernel_rfl))
   ·have z1:=bv c (b:=3) (by decide)
    rcases rC (c / 3) with j | j
    ·refine ⟨.two .to a unT,by simp only [Kd.dep];omega,by simp only [Kd.tok,List.length_cons,List.length_append,List.length_nil];omega,fun n w hw=>?_⟩
     have ea':=ea n (w ++ [lpD,jg]) (by simp only [List.length_append,List.length_cons,List.length_nil];omega)
     have x1:decide (((w ++ [lpD,jg]) ++ sD a.tok).length<100000)=true:=decide_eq_true (by simp only [List.length_append,List.length_cons,List.length_nil];omega)
     have x2:decide ((((w ++ [lpD,jg]) ++ sD a.tok) ++ [unD]).length<100000)=true:=decide_eq_true (by simp only [List.length_append,List.length_cons,List.length_nil];omega)
     rw [show w ++ sD (Kd.two .to a unT).tok=(((w ++ [lpD,jg]) ++ sD a.tok) ++ [unD]) ++ [rpD] by simp [Kd.tok,H2.str,L3.str]]
     exact (ae false (aX 0 (e1) (aX 1 (aN h (by decide)) (aX 2 (x0 w "to" hw) (aX 6 (z1) (aX 0 (aN j (by decide)) (aX 2 (bv c (b:=6) (by decide)) (aX 0 (oS) (aX 0 (ea') (aX 3 (z1) (aX 0 (aN j (by decide)) (aX 3 (x1) (aX 2 (x2) aZ)))))))))))) (by kernel_rfl))
    ·refine ⟨.two .to unT a,by simp only [Kd.dep];omega,by simp only [Kd.tok,List.length_cons,List.length_append,List.length_nil];omega,fun n w hw=>?_⟩
     have ea':=ea n ((w ++ [lpD,jg]) ++ [unD]) (by simp only [List.length_append,List.length_cons,List.length_nil];omega)
     have x1:decide ((w ++ [lpD,jg]).length<100000)=true:=decide_eq_true (by simp only [List.length_append,List.length_cons,List.length_nil];omega)
     have x2:decide ((((w ++ [lpD,jg]) ++ [unD]) ++ sD a.tok).length<100000)=true:=decide_eq_true (by simp only [List.length_append,List.length_cons,List.length_nil];omega)
     rw [show w ++ sD (Kd.two .to unT a).tok=(((w ++ [lpD,jg]) ++ [unD]) ++ sD a.tok) ++ [rpD] by simp [Kd.tok,H2.str,L3.str]]
     exact (ae false (aX 0 (e1) (aX 1 (aN h (by decide)) (aX 2 (x0 w "to" hw) (aX 6 (z1) (aX 0 (aN j (by decide)) (aX 3 (x1) (aX 3 (z1) (aX 0 (aN j (by decide)) (aX 2 (bv c (b:=6) (by decide)) (aX 0 (oS) (aX 0 (ea') (aX 2 (x2) aZ)))))))))))) (by kernel_rfl))
   ·have z1:=bv c (b:=3) (by decide)
    rcases rC (c / 3) with j | j
    ·refine ⟨.two .pair a unT,by simp only [Kd.dep];omega,by simp only [Kd.tok,List.length_cons,List.length_append,List.length_nil];omega,fun n w hw=>?_⟩
     have ea':=ea n (w ++ [lpD,paD]) (by simp only [List.length_append,List.length_cons,List.length_nil];omega)
     have x1:decide (((w ++ [lpD,paD]) ++ sD a.tok).length<100000)=true:=decide_eq_true (by simp only [List.length_append,List.length_cons,List.length_nil];omega)
     have x2:decide ((((w ++ [lpD,paD]) ++ sD a.tok) ++ [unD]).length<100000)=true:=decide_eq_true (by simp only [List.length_append,List.length_cons,List.length_nil];omega)
     rw [show w ++ sD (Kd.two .pair a unT).tok=(((w ++ [lpD,paD]) ++ sD a.tok) ++ [unD]) ++ [rpD] by simp [Kd.tok,H2.str,L3.str]]
     exact (ae false (aX 0 (e1) (aX 1 (aN h (by decide)) (aX 2 (x0 w "pair" hw) (aX 6 (z1) (aX 0 (aN j (by decide)) (aX 2 (bv c (b:=6) (by decide)) (aX 0 (oS) (aX 0 (ea') (aX 3 (z1) (aX 0 (aN j (by decide)) (aX 3 (x1) (aX 2 (x2) aZ)))))))))))) (by kernel_rfl))
    ·refine ⟨.two .pair unT a,by simp only [Kd.dep];omega,by simp only [Kd.tok,List.length_cons,List.length_append,List.length_nil];omega,fun n w hw=>?_⟩
     have ea':=ea n ((w ++ [lpD,paD]) ++ [unD]) (by simp only [List.length_append,List.length_cons,List.length_nil];omega)
     have x1:decide ((w ++ [lpD,paD]).length<100000)=true:=decide_eq_true (by simp only [List.length_append,List.length_cons,List.length_nil];omega)
     have x2:decide ((((w ++ [lpD,paD]) ++ [unD]) ++ sD a.tok).length<100000)=true:=decide_eq_true (by simp only [List.length_append,List.length_cons,List.length_nil];omega)
     rw [show w ++ sD (Kd.two .pair unT a).tok=(((w ++ [lpD,paD]) ++ [unD]) ++ sD a.tok) ++ [rpD] by simp [Kd.tok,H2.str,L3.str]]
     exact (ae false (aX 0 (e1) (aX 1 (aN h (by decide)) (aX 2 (x0 w "pair" hw) (aX 6 (z1) (aX 0 (aN j (by decide)) (aX 3 (x1) (aX 3 (z1) (aX 0 (aN j (by decide)) (aX 2 (bv c (b:=6) (by decide)) (aX 0 (oS) (aX 0 (ea') (aX 2 (x2) aZ)))))))))))) (by kernel_rfl))
end
open L2.Lx (ch ch_app ch_len)
def v1 (w:Str):Int:=if w=lpS then 1 else if w=rpS then -1 else 0
def v2 (w:Str):Int:=if w = "whole" then 1 else if w = "truth" then 1 else if w = "?" then 1 else if w = "to" then -1 else if w = "pair" then -1 else 0
def v3 (w:Str):Int:=if w=lpS then -1 else if w = "row" then 1 else if w = "to" then 1 else if w = "pair" then 1 else 0
def vs (v:Str→Int):List Str→Int
 | []=>0
 | w :: r=>v w+vs v r
theorem aV (v:Str→Int):∀ a b,vs v (a ++ b)=vs v a+vs v b
 | [],b=>by simp [vs]
 | w :: a,b=>by show v w+vs v (a ++ b)=v w+vs v a+vs v b;rw [aV v a b];omega
theorem du:∀ k:Kd,vs v1 k.tok=0
 | .lf l=>by cases l <;> decide +kernel
 | .row a=>by
   show v1 lpS+(v1 "row" + vs v1 (a.tok ++ ([rpS]:List Str)))=0
   rw [aV,du a];decide +kernel
 | .two h a b=>by
   show v1 lpS+(v1 h.str+vs v1 (a.tok ++ (b.tok ++ ([rpS]:List Str))))=0
   rw [aV,aV,du a,du b];cases h <;> decide +kernel
theorem fB:∀ k:Kd,vs v2 k.tok=1
 | .lf l=>by cases l <;> decide +kernel
 | .row a=>by
   show v2 lpS+(v2 "row" + vs v2 (a.tok ++ ([rpS]:List Str)))=1
   rw [aV,fB a];decide +kernel
 | .two h a b=>by
   show v2 lpS+(v2 h.str+vs v2 (a.tok ++ (b.tok ++ ([rpS]:List Str))))=1
   rw [aV,aV,fB a,fB b];cases h <;> decide +kernel
theorem fE:∀ k:Kd,vs v3 k.tok=0
 | .lf l=>by cases l <;> decide +kernel
 | .row a=>by
   show v3 lpS+(v3 "row" + vs v3 (a.tok ++ ([rpS]:List Str)))=0
   rw [aV,fE a];decide +kernel
 | .two h a b=>by
   show v3 lpS+(v3 h.str+vs v3 (a.tok ++ (b.tok ++ ([rpS]:List Str))))=0
   rw [aV,aV,fE a,fE b];cases h <;> decide +kernel
theorem nI {w:Str} (h:Kw w):v1 w≠0∨v2 w≠0∨v3 w≠0:=eU (P:=fun w=>v1 w≠0∨v2 w≠0∨v3 w≠0) (by decide +kernel) h
theorem uZ {k:Kd} {a b:List Str} {w:Str} (e:k.tok=a ++ w :: b) (k':Kd):a ++ b≠k'.tok:=fun h=>by
 have kw:=nI (bD k w (by rw [e];simp))
 have g:∀ v,vs v k.tok=vs v k'.tok+v w:=fun v=>by rw [e,← h,aV,aV];show _+(v w+_)=_;omega
 have:=g v1;have:=g v2;have:=g v3
 simp only [du,fB,fE] at *
 omega
theorem oK {k:Kd} {a b:List Str} {w:Str} (e:k.tok=a ++ b) (kw:Kw w) (k':Kd):a ++ w :: b≠k'.tok:=fun h=>by
 have kw:=nI kw
 have g:∀ v,vs v k'.tok=vs v k.tok+v w:=fun v=>by rw [e,← h,aV,aV];show _+(v w+_)=_;omega
 have:=g v1;have:=g v2;have:=g v3
 simp only [du,fB,fE] at *
 omega
theorem xh {ws:List Str} {w:Str} (h:w∈ws) (n:¬ Kw w) (k':Kd):ws≠k'.tok:=fun e=>n (bD k' w (e ▸ h))
theorem xg {k:Kd} {a b:List Str} {w x:Str} (e:k.tok=a ++ w :: b) (hx:v1 x≠v1 w) (k':Kd):a ++ x :: b≠k'.tok:=fun h=>by
 have h1:=du k
 have h2:=du k'
 rw [e,aV] at h1
 rw [← h,aV] at h2
 have h1:vs v1 a+(v1 w+vs v1 b)=0:=h1
 have h2:vs v1 a+(v1 x+vs v1 b)=0:=h2
 omega
open L2.Lx (ch ch_app ch_len Tok)
abbrev fi:Str:="!\"#$&'*+,-./0123456789:;<=>@ABCDEFGHIJKLMNOPQRSTUVWXYZ[\\]^_`abcdefghijklmnopqrstuvwxyz{|}~"
abbrev one (x:Nat):Str:=⟨#[x]⟩
def gd (w:Str):Bool:=!kws.contains w && !(ch w).isEmpty && (ch w).all (fun x=>x != 32 && x != 40 && x != 41 && decide (x<1000)) && decide (w.length≤8)
def Gw (w:Str):Prop:=Tok (ch w)∧Ow w∧w.length≤8
theorem mZ {w:Str} (h:gd w=true):¬ Kw w∧Gw w:=by
 unfold gd at h
 simp only [Bool.and_eq_true,Bool.not_eq_true',decide_eq_true_eq] at h
 obtain ⟨⟨⟨h1,h2⟩,h3⟩,h4⟩:=h
 have h5:∀ x∈ch w,(x≠32∧x≠40∧x≠41)∧x<1000:=fun x hx=>by
  have:=List.all_eq_true.mp h3 x hx
  simpa [and_assoc] using this
 refine ⟨fun k=>?_,.inr (.inr ⟨fun e=>?_,fun x hx=>(h5 x hx).1⟩),⟨by omega,fun c hc=>?_⟩,h4⟩
 ·have:=List.contains_iff_mem.mpr k
  rw [h1] at this;cases this
 ·rw [e] at h2;cases h2
 ·have:c<1000:=(h5 c hc).2
  omega
theorem iV {w:Str} (k:Kw w):Gw w:=⟨nH k,⟨by have:=di k;omega,fun c hc=>by
 have:(kws.all fun w=>w.cps.toList.all fun c=>decide (c<1000))=true:=by decide +kernel
 have:=of_decide_eq_true (List.all_eq_true.mp (List.all_eq_true.mp this w k) c hc)
 omega⟩,di k⟩
theorem u4 {x:Nat} (h:x∈fi.cps.toList):gd (one x)=true∧∀ w∈kws,cK w=false→gd (w ++ one x)=true∧gd (one x ++ w)=true:=by
 have:(fi.cps.toList.all fun x=>gd (one x) && kws.all fun w=>cK w || (gd (w ++ one x) && gd (one x ++ w)))=true:=by decide +kernel
 have:=List.all_eq_true.mp this x h
 rw [Bool.and_eq_true] at this
 refine ⟨this.1,fun w hw hb=>?_⟩
 have:=List.all_eq_true.mp this.2 w hw
 rw [hb,Bool.false_or,Bool.and_eq_true] at this
 exact this
section
variable {S:List O} {R:List O}
theorem u5 (c:Int):∃ x:Nat,x∈fi.cps.toList∧∀ n,ag Γ (n+1) jF [.int c] S = .ok (.str (one x)) S:=by
 have hl:fi.cps.toList.length=90:=by decide +kernel
 obtain ⟨r,hr⟩:∃ r:Nat,c % 90=r:=⟨(c % 90).toNat,by omega⟩
 have rl:r<fi.cps.toList.length:=by omega
 have e:ixD (.str fi) (.int (c % 90))=some (.str (one fi.cps.toList[r])):=by
  rw [hr]
  show (if fi.length≤100000 then (atI fi.cps.toList r).map fun c=>D.str ⟨#[c]⟩ else none)=_
  rw [if_pos (by decide +kernel),cS (List.getElem?_eq_getElem rl)];rfl
 exact ⟨fi.cps.toList[r],List.getElem_mem rl,fun n=>(ae false (aX 2 (e) aZ) (by kernel_rfl))⟩
theorem dM (ws:List Str) (i:Nat) (h:i≤ws.length):Ev.cutD (sD ws) none (some (i:Int))=sD (ws.take i):=by
 unfold Ev.cutD
 have e:HT.sIx (sD ws).length (sD ws).length (some (i:Int))=i:=by
  show (if (i:Int)<0 then ((i:Int)+((sD ws).length:Int)).toNat else min (i:Int).toNat (sD ws).length)=i
  rw [if_neg (by omega),List.length_map];omega
 rw [e]
 show ((sD ws).drop 0).take (i - 0)=_
 rw [List.drop_zero,Nat.sub_zero]
 exact List.map_take.symm
theorem b6 (ws:List Str) (i:Nat) (h:i≤ws.length):Ev.cutD (sD ws) (some (i:Int)) none=sD (ws.drop i):=by
 unfold Ev.cutD
 have e:HT.sIx (sD ws).length 0 (some (i:Int))=i:=by
  show (if (i:Int)<0 then ((i:Int)+((sD ws).length:Int)).toNat else min (i:Int).toNat (sD ws).length)=i
  rw [if_neg (by omega),List.length_map];omega
 rw [e]
 show ((sD ws).drop i).take ((sD ws).length - i)=_
 rw [List.take_of_length_le (by rw [List.length_drop];omega)]
 exact List.map_drop.symm
theorem eD {a b:List D} (h:a.length+b.length≤100000):opD .add (.lst a) (.lst b)=some (.lst (a ++ b)):=by show d5 _ _=_;unfold d5;rw [if_pos h]
theorem sN {w:Str} (k:Kw w):opD .isin (.str w) (.tup [.str lpS,.str rpS])=some (.bl (cK w)):=eU (P:=fun w=>opD .isin (.str w) (.tup [.str lpS,.str rpS])=some (.bl (cK w))) (by
 intro w h
 simp only [kws,List.mem_cons,List.not_mem_nil,or_false] at h
 rcases h with rfl | rfl | rfl | rfl | rfl | rfl | rfl | rfl <;> kernel_rfl) k
def Nk (k:Kd) (a:List Str):Prop:=(∀ w∈a,Gw w)∧a.length≤k.tok.length+1∧∀ k':Kd,a≠k'.tok
theorem jb {ws:List Str} {i:Nat} {w:Str} (h:ws[i]? = some w):ws=ws.take i ++ w :: ws.drop (i+1):=by rw [← ba h,List.take_append_drop]
theorem xy (k:Kd) (i:Nat) (hi:i<k.tok.length) (hl:k.tok.length≤4000) (way:Int) (hw:0≤way∧way<4) (x:Nat) (hx:x∈fi.cps.toList):∃ a:List Str,Nk k a∧∀ n,ag Γ (n+1) bM [.ref 0,.int way,.int (i:Nat),.str (one x)] (.lst (sD k.tok) :: R) = .ok (.lst (sD a)) (.lst (sD k.tok) :: R):=by
 obtain ⟨w,hw0⟩:∃ w,k.tok[i]? = some w:=⟨_,List.getElem?_eq_getElem hi⟩
 have sp:=jb hw0
 have kw:=bD k w (List.mem_of_getElem? hw0)
 have gk:∀ y∈k.tok,Gw y:=fun y hy=>iV (bD k y hy)
 have gt:∀ y∈k.tok.take i,Gw y:=fun y hy=>gk y (List.mem_of_mem_take hy)
 have g0:∀ y∈k.tok.drop i,Gw y:=fun y hy=>gk y (List.mem_of_mem_drop hy)
 have g1:∀ y∈k.tok.drop (i+1),Gw y:=fun y hy=>gk y (List.mem_of_mem_drop hy)
 have lt:(sD (k.tok.take i)).length≤4000:=by rw [List.length_map,List.length_take];omega
 have l0:(sD (k.tok.drop i)).length≤4000:=by rw [List.length_map,List.length_drop];omega
 have l1:(sD (k.tok.drop (i+1))).length≤4000:=by rw [List.length_map,List.length_drop];omega
 have ix:ixD (.lst (sD k.tok)) (.int (i:Nat))=some (.str w):=cS (by rw [List.getElem?_map,hw0];rfl)
 have d0:k.tok=k.tok.take i ++ k.tok.drop i:=(List.take_append_drop i k.tok).symm
 have og:=u4 hx
 have c1:(i:Int)+1=((i+1:Nat):Int):=by omega
 rcases (show way=0∨way=1∨way=2∨way=3 by omega) with rfl | rfl | h
 ·refine ⟨k.tok.take i ++ k.tok.drop (i+1),⟨fun y hy=>(List.mem_append.mp hy).elim (gt y) (g1 y),?_,uZ sp⟩,fun n=>?_⟩
  ·rw [List.length_append,List.length_take,List.length_drop];omega
  ·have ad:opD .add (.lst (Ev.cutD (sD k.tok) none (some (i:Int)))) (.lst (Ev.cutD (sD k.tok) (some ((i:Int)+1)) none))=some (.lst (sD (k.tok.take i ++ k.tok.drop (i+1)))):=by
    rw [c1,dM _ _ (by omega),b6 _ _ (by omega),a8];exact eD (by omega)
   exact (ae false (aX 5 (ad) aZ) (by kernel_rfl))
 ·refine ⟨k.tok.take (i+1) ++ k.tok.drop i,⟨fun y hy=>(List.mem_append.mp hy).elim (fun q=>gk y (List.mem_of_mem_take q)) (g0 y),?_,fun k' h=>?_⟩,fun n=>?_⟩
  ·rw [List.length_append,List.length_take,List.length_drop];omega
  ·have e:k.tok.take (i+1) ++ k.tok.drop i=k.tok.take i ++ w :: k.tok.drop i:=by
    rw [List.take_succ,hw0];simp
   rw [e] at h
   exact oK d0 kw k' h
  ·have lt2:(sD (k.tok.take (i+1))).length≤4000:=by rw [List.length_map,List.length_take];omega
   have ad:opD .add (.lst (Ev.cutD (sD k.tok) none (some ((i:Int)+1)))) (.lst (Ev.cutD (sD k.tok) (some (i:Int)) none))=some (.lst (sD (k.tok.take (i+1) ++ k.tok.drop i))):=by
    rw [c1,dM _ _ (by omega),b6 _ _ (by omega),a8];exact eD (by omega)
   exact (ae false (aX 7 (ad) aZ) (by kernel_rfl))
 ·have h2:opD .eq (.int way) (.int 0)=some (.bl false):=dY false _ _ (beq_eq_false_iff_ne.mpr (by omega)).symm
  have h3:opD .eq (.int way) (.int 1)=some (.bl false):=dY false _ _ (beq_eq_false_iff_ne.mpr (by omega)).symm
  have ib:=sN kw
  have gx:=mZ og.1
  have gen:∀ (y:Str) (b:List Str),¬ Kw y→Gw y→(∀ z∈b,Gw z)→b.length≤k.tok.length - i→(∀ n,ag Γ (n+1) bM [.ref 0,.int way,.int (i:Nat),.str (one x)] (.lst (sD k.tok) :: R) = .ok (.lst (sD (k.tok.take i ++ ([y]:List Str) ++ b))) (.lst (sD k.tok) :: R))→∃ a:List Str,Nk k a∧∀ n,ag Γ (n+1) bM [.ref 0,.int way,.int (i:Nat),.str (one x)] (.lst (sD k.tok) :: R) = .ok (.lst (sD a)) (.lst (sD k.tok) :: R):=fun y b q1 q2 q3 q4 q5=>⟨_,⟨fun z hz=>by
   rw [List.append_assoc,List.mem_append,List.mem_append,List.mem_singleton] at hz
   rcases hz with hz | hz | hz
   ·exact gt z hz
   ·exact hz ▸ q2
   ·exact q3 z hz,by rw [List.length_append,List.length_append,List.length_take,List.length_singleton];omega,xh (w:=y) (by simp) q1⟩,q5⟩
  cases b:cK w with
  | true=>
    rw [b] at ib
    refine gen (one x) (k.tok.drop i) gx.1 gx.2 g0 (Nat.le_of_eq List.length_drop) fun n=>?_
    have a1:opD .add (.lst (Ev.cutD (sD k.tok) none (some (i:Int)))) (.lst [.str (one x)])=some (.lst (sD (k.tok.take i ++ ([one x]:List Str)))):=by
     rw [dM _ _ (by omega),a8];exact eD (by simp only [List.length_singleton];omega)
    have a2:opD .add (.lst (sD (k.tok.take i ++ ([one x]:List Str)))) (.lst (Ev.cutD (sD k.tok) (some (i:Int)) none))=some (.lst (sD (k.tok.take i ++ ([one x]:List Str) ++ k.tok.drop i))):=by
     rw [b6 _ _ (by omega),a8 (_ ++ _)];exact eD (by rw [a8,List.length_append];show _+1+_≤_;omega)
    exact (ae false (aX 0 (h2) (aX 1 (h3) (aX 1 (ix) (aX 0 (ib) (aX 2 (a1) (aX 1 (a2) aZ)))))) (by kernel_rfl))
  | false=>
    rw [b] at ib
    have gg:=og.2 w kw b
    have w8:=di kw
    have x1:(one x).length=1:=rfl
    cases dg:Txt.isdigit (one x) with
    | true=>
      have g:=mZ gg.1
      refine gen (w ++ one x) (k.tok.drop (i+1)) g.1 g.2 g1 (by rw [List.length_drop];omega) fun n=>?_
      have sd:smO .dig (.str (one x))=some (.bl true):=congrArg (fun z=>some (D.bl z)) dg
      have a0:opD .add (.str w) (.str (one x))=some (.str (w ++ one x)):=az (by omega)
      have a1:opD .add (.lst (Ev.cutD (sD k.tok) none (some (i:Int)))) (.lst [.str (w ++ one x)])=some (.lst (sD (k.tok.take i ++ ([w ++ one x]:List Str)))):=by
       rw [dM _ _ (by omega),a8];exact eD (by simp only [List.length_singleton];omega)
      have a2:opD .add (.lst (sD (k.tok.take i ++ ([w ++ one x]:List Str)))) (.lst (Ev.cutD (sD k.tok) (some ((i:Int)+1)) none))=some (.lst (sD (k.tok.take i ++ ([w ++ one x]:List Str) ++ k.tok.drop (i+1)))):=by
       rw [c1,b6 _ _ (by omega),a8 (_ ++ _)];exact eD (by rw [a8,List.length_append];show _+1+_≤_;omega)
      exact (ae false (aX 0 (h2) (aX 1 (h3) (aX 1 (ix) (aX 0 (ib) (aX 1 (sd) (aX 3 (ix) (aX 0 (a0) (aX 0 (a1) (aX 2 (a2) aZ))))))))) (by kernel_rfl))
    | false=>
      have g:=mZ gg.2
      refine gen (one x ++ w) (k.tok.drop (i+1)) g.1 g.2 g1 (by rw [List.length_drop];omega) fun n=>?_
      have sd:smO .dig (.str (one x))=some (.bl false):=congrArg (fun z=>some (D.bl z)) dg
      have a0:opD .add (.str (one x)) (.str w)=some (.str (one x ++ w)):=az (by omega)
      have a1:opD .add (.lst (Ev.cutD (sD k.tok) none (some (i:Int)))) (.lst [.str (one x ++ w)])=some (.lst (sD (k.tok.take i ++ ([one x ++ w]:List Str)))):=by
       rw [dM _ _ (by omega),a8];exact eD (by simp only [List.length_singleton];omega)
      have a2:opD .add (.lst (sD (k.tok.take i ++ ([one x ++ w]:List Str)))) (.lst (Ev.cutD (sD k.tok) (some ((i:Int)+1)) none))=some (.lst (sD (k.tok.take i ++ ([one x ++ w]:List Str) ++ k.tok.drop (i+1)))):=by
       rw [c1,b6 _ _ (by omega),a8 (_ ++ _)];exact eD (by rw [a8,List.length_append];show _+1+_≤_;omega)
      exact (ae false (aX 0 (h2) (aX 1 (h3) (aX 1 (ix) (aX 0 (ib) (aX 1 (sd) (aX 3 (ix) (aX 0 (a0) (aX 0 (a1) (aX 2 (a2) aZ))))))))) (by kernel_rfl))
end
open L2.Lx (ch ch_app ch_len Tok)
section
variable {R:List O}
theorem bU:∀ ws:List Str,aK (sD ws)=true
 | []=>rfl
 | w :: ws=>by show (true && aK (sD ws))=true;rw [bU ws];rfl
def br:Nat→List Str→List Nat
 | _,[]=>[]
 | i,w :: r=>if cK w=true then i :: br (i+1) r else br (i+1) r
abbrev brD (l:List Nat):List D:=l.map fun (j:Nat)=>D.int j
theorem sf:∀ (ws:List Str) (i j:Nat),j∈br i ws→∃ w,i≤j∧ws[j - i]? = some w∧cK w=true
 | w :: ws,i,j,h=>by
   have go:j∈br (i+1) ws→∃ w',i≤j∧(w :: ws)[j - i]? = some w'∧cK w'=true:=fun h=>by
    obtain ⟨y,h1,h2,h3⟩:=sf ws (i+1) j h
    refine ⟨y,by omega,?_,h3⟩
    rw [show j - i=(j - (i+1))+1 by omega,List.getElem?_cons_succ];exact h2
   unfold br at h
   split at h
   ·rename_i b
    rcases List.mem_cons.mp h with rfl | h
    ·exact ⟨w,Nat.le_refl _,by rw [Nat.sub_self];rfl,b⟩
    ·exact go h
   ·exact go h
abbrev bE:E:=.v 0
abbrev bC:E:=.op .isin (.v 1) (.tup (.cons (.c (.str lpS)) (.cons (.c (.str rpS)) .nil)))
theorem gQ {m:Nat} (W c:D):∀ (ws:List Str) (i:Nat) (acc:List D) (e f:Option D),(∀ w∈ws,Kw w)→acc.length+ws.length<90000→∃ e' f':Option D,bH (lcQ Γ (ag Γ m) (aU Γ m) [0,1] false bE bC) (cz (i:Nat) (sD ws)) acc ⟨[e,f,some W,some c,none,none,none,none],[],[]⟩ = .ok (.lst (acc ++ brD (br i ws))) ⟨[e',f',some W,some c,none,none,none,none],[],[]⟩
 | [],i,acc,e,f,_,_=>⟨e,f,by show Out.ok _ _=_;rw [show acc ++ brD (br i [])=acc from List.append_nil _]⟩
 | w :: ws,i,acc,e,f,hk,hl=>by
   simp only [List.length_cons] at hl
   have kw:=hk w List.mem_cons_self
   have hs:=fun y hy=>hk y (List.mem_cons_of_mem _ hy)
   have ib:=sN kw
   have cd:ev Γ (ag Γ m) (aU Γ m) true bC ⟨[some (.int (i:Nat)),some (.str w),some W,some c,none,none,none,none],[],[]⟩ = .ok (.bl (cK w)) ⟨[some (.int (i:Nat)),some (.str w),some W,some c,none,none,none,none],[],[]⟩:=(qp false (aX 0 (ib) aZ) (by kernel_rfl))
   unfold br
   cases b:cK w with
   | false=>
     obtain ⟨e',f',h⟩:=gQ W c ws (i+1) acc (some (.int (i:Nat))) (some (.str w)) hs (by omega)
     rw [b] at cd
     exact ⟨e',f',kI (nP rfl cd) h⟩
   | true=>
     obtain ⟨e',f',h⟩:=gQ W c ws (i+1) (acc ++ [.int (i:Nat)]) (some (.int (i:Nat))) (some (.str w)) hs (by rw [List.length_append,List.length_singleton];omega)
     rw [b] at cd
     have el:ev Γ (ag Γ m) (aU Γ m) false bE ⟨[some (.int (i:Nat)),some (.str w),some W,some c,none,none,none,none],[],[]⟩ = .ok (.int (i:Nat)) ⟨[some (.int (i:Nat)),some (.str w),some W,some c,none,none,none,none],[],[]⟩:=rfl
     rw [List.append_assoc] at h
     exact ⟨e',f',hO (jH rfl cd el) (by omega) h⟩
theorem iM:∀ l:List Nat,flTs (brD l)=true
 | []=>rfl
 | a :: l=>by show (true && flTs (brD l))=true;rw [iM l];rfl
abbrev more (x:Str):List D:=[.str "whole",.str "truth",.str "?",.str "to",.str "row",.str "pair",.str x]
theorem uX (s:Int) (h:0≤s∧s<7):∃ m:Str,Kw m∧v1 m≠v1 lpS∧ixD (.lst (more rpS)) (.int s)=some (.str m):=by
 rcases rD s h with rfl | rfl | rfl | rfl | rfl | rfl | rfl <;> exact ⟨_,by decide +kernel,by decide +kernel,rfl⟩
theorem uY (s:Int) (h:0≤s∧s<7):∃ m:Str,Kw m∧v1 m≠v1 rpS∧ixD (.lst (more lpS)) (.int s)=some (.str m):=by
 rcases rD s h with rfl | rfl | rfl | rfl | rfl | rfl | rfl <;> exact ⟨_,by decide +kernel,by decide +kernel,rfl⟩
theorem yE (k:Kd) (hl:k.tok.length≤4000) (c:Int) (n:Nat):∃ a:List Str,Nk k a∧ag Γ (n+1) bN [.ref 0,.int c] (.lst (sD k.tok) :: R) = .ok (.lst (sD a)) (.lst (sD k.tok) :: R):=by
 have hk:=bD k
 have gk:∀ y∈k.tok,Gw y:=fun y hy=>iV (hk y hy)
 obtain ⟨e,f,lp⟩:=gQ (m:=n) (.lst (sD k.tok)) (.int c) k.tok 0 [] none none hk (by simp only [List.length_nil];omega)
 have fl:flX true (.lst (brD (br 0 k.tok)))=true:=iM _
 cases hb:br 0 k.tok with
 | nil=>
   have e1:opD .eq (.lst (brD (br 0 k.tok))) (.lst [])=some (.bl true):=by rw [hb];rfl
   have ad:opD .add (.lst (sD k.tok)) (.lst [.str "whole"])=some (.lst (sD (k.tok ++ (["whole"]:List Str)))):=by rw [a8];exact eD (by rw [List.length_map];show _+1≤_;omega)
   exact ⟨k.tok ++ (["whole"]:List Str),⟨fun y hy=>by
    rcases List.mem_append.mp hy with hy | hy
    ·exact gk y hy
    ·rw [List.mem_singleton.mp hy];exact iV (by decide +kernel),by rw [List.length_append,List.length_singleton];exact Nat.le_refl _,oK (w:="whole") (List.append_nil _).symm (by decide +kernel)⟩,(ae true (aX 0 (bU k.tok) (aX 0 (lp) (aX 0 (fl) (aX 0 (e1) (aX 1 (ad) aZ))))) (by kernel_rfl))⟩
 | cons b0 bs=>
   have e1:opD .eq (.lst (brD (br 0 k.tok))) (.lst [])=some (.bl false):=by rw [hb];rfl
   have ln:0<(br 0 k.tok).length:=by rw [hb];simp
   obtain ⟨r,hr⟩:∃ r:Nat,c % ((br 0 k.tok).length:Int)=r:=⟨(c % ((br 0 k.tok).length:Int)).toNat,by have:=Int.emod_nonneg c (b:=((br 0 k.tok).length:Int)) (by omega);omega⟩
   have rl:r<(br 0 k.tok).length:=by have:=Int.emod_lt_of_pos c (b:=((br 0 k.tok).length:Int)) (by omega);omega
   have m1:opD .mod (.int c) (.int ((brD (br 0 k.tok)).length:Nat))=some (.int (r:Nat)):=by rw [List.length_map];exact aN hr (by omega)
   obtain ⟨j,hj⟩:∃ j,(br 0 k.tok)[r]? = some j:=⟨_,List.getElem?_eq_getElem rl⟩
   have i1:ixD (.lst (brD (br 0 k.tok))) (.int (r:Nat))=some (.int (j:Nat)):=cS (by rw [List.getElem?_map,hj];rfl)
   obtain ⟨w,_,hw,bw⟩:=sf k.tok 0 j (List.mem_of_getElem? hj)
   rw [Nat.sub_zero] at hw
   have jl:j<k.tok.length:=(List.getElem?_eq_some_iff.mp hw).1
   have sp:=jb hw
   have i2:ixD (.lst (sD k.tok)) (.int (j:Nat))=some (.str w):=cS (by rw [List.getElem?_map,hw];rfl)
   have z1:=bv c (b:=7) (by decide)
   obtain ⟨s,hs⟩:∃ s:Int,c / 7 % 7=s:=⟨_,rfl⟩
   have s7:0≤s∧s<7:=by omega
   have z2:=aN hs (by decide)
   have c1:(j:Int)+1=((j+1:Nat):Int):=by omega
   have lt:(sD (k.tok.take j)).length≤4000:=by rw [List.length_map,List.length_take];omega
   have l1:(sD (k.tok.drop (j+1))).length≤4000:=by rw [List.length_map,List.length_drop];omega
   have gen:∀ (y:Str),Kw y→v1 y≠v1 w→(∀ (a1:opD .add (.lst (Ev.cutD (sD k.tok) none (some (j:Int)))) (.lst [.str y])=some (.lst (sD (k.tok.take j ++ ([y]:List Str))))) (a2:opD .add (.lst (sD (k.tok.take j ++ ([y]:List Str)))) (.lst (Ev.cutD (sD k.tok) (some ((j:Int)+1)) none))=some (.lst (sD (k.tok.take j ++ ([y]:List Str) ++ k.tok.drop (j+1))))),ag Γ (n+1) bN [.ref 0,.int c] (.lst (sD k.tok) :: R) = .ok (.lst (sD (k.tok.take j ++ ([y]:List Str) ++ k.tok.drop (j+1)))) (.lst (sD k.tok) :: R))→∃ a:List Str,Nk k a∧ag Γ (n+1) bN [.ref 0,.int c] (.lst (sD k.tok) :: R) = .ok (.lst (sD a)) (.lst (sD k.tok) :: R):=fun y q1 q2 q3=>⟨_,⟨fun z hz=>by
    rw [List.append_assoc,List.mem_append,List.mem_append,List.mem_singleton] at hz
    rcases hz with hz | hz | hz
    ·exact gk z (List.mem_of_mem_take hz)
    ·exact hz ▸ iV q1
    ·exact gk z (List.mem_of_mem_drop hz),by rw [List.length_append,List.length_append,List.length_take,List.length_singleton,List.length_drop];omega,fun k' h=>xg sp q2 k' (by rw [← h,List.append_assoc];rfl)⟩,q3 (by rw [dM _ _ (by omega),a8];exact eD (by simp only [List.length_singleton];omega)) (by rw [c1,b6 _ _ (by omega),a8 (_ ++ _)];exact eD (by rw [a8,List.length_append];show _+1+_≤_;omega))⟩
   by_cases cw:w=lpS
   ·subst cw
    obtain ⟨y,q1,q2,q3⟩:=uX s s7
    exact gen y q1 q2 fun a1 a2=>(ae true (aX 0 (bU k.tok) (aX 0 (lp) (aX 0 (fl) (aX 0 (e1) (aX 2 (m1) (aX 0 (i1) (aX 0 (i2) (aX 2 (z1) (aX 0 (z2) (aX 0 (q3) (aX 1 (a1) (aX 2 (a2) aZ)))))))))))) (by kernel_rfl))
   ·have cr:w=rpS:=by unfold cK at bw;rw [Bool.or_eq_true,beq_iff_eq,beq_iff_eq] at bw;exact bw.resolve_left cw
    subst cr
    obtain ⟨y,q1,q2,q3⟩:=uY s s7
    exact gen y q1 q2 fun a1 a2=>(ae true (aX 0 (bU k.tok) (aX 0 (lp) (aX 0 (fl) (aX 0 (e1) (aX 2 (m1) (aX 0 (i1) (aX 0 (i2) (aX 2 (z1) (aX 0 (z2) (aX 0 (q3) (aX 1 (a1) (aX 2 (a2) aZ)))))))))))) (by kernel_rfl))
end
open L2.Lx (ch ch_app ch_len Tok Con Br)
theorem cI {Γ:Gm} {c1 c2:Nat→List D→List O→Res} (n:Nat) {c:S} {s s1:Sta} {r:Res} (h:exS Γ c1 c2 (hdS n c) s = .nx s1) (h2:toR (exS Γ c1 c2 (tlS n c) s1)=r):toR (exS Γ c1 c2 c s)=r:=by rw [gm n,h];exact h2
def Tx (T:Str) (a:List Str):Prop:=aj T=a∧T.length≤90000
theorem sZ {a:List Str} (h:∀ w∈a,Gw w):∀ w∈a,Tok (ch w):=fun w hw=>(h w hw).1
theorem gJ {a:List Str} (h:∀ w∈a,Gw w) (hl:a.length≤4000):Tx (cm a) a:=⟨fF (eS a (sZ h)).lex,Nat.le_trans (eT a fun w hw=>(h w hw).2.2) (by omega)⟩
section
variable {S:List O} {n:Nat} {k:Kd} {T:Str}
theorem nE (k:Kd):∀ w∈k.tok,Gw w:=fun w hw=>iV (bD k w hw)
theorem kG (h:Tx T k.tok):ag Γ (n+14) bf [.str T,k.toD,.bl (decide (k.dep≤6))] S = .ok (.bl true) S:=by
 have hw:T.length≤2000→∀ w∈aj T,Ow w:=fun _ w hw=>(nE k w (h.1 ▸ hw)).2.1
 by_cases g:k.dep≤6
 ·rw [decide_eq_true g];exact o6 h.1 g h.2 hw
 ·rw [decide_eq_false g]
  refine i7 (fun k' e=>?_) h.2 hw
  have:=bW k k' [] [] (by rw [List.append_nil,List.append_nil,← h.1,e])
  rw [← this.1];omega
theorem ny {a:List Str} {kd:D} (h:Tx T a) (hg:∀ w∈a,Gw w) (hn:∀ k':Kd,a≠k'.tok):ag Γ (n+14) bf [.str T,kd,.bl false] S = .ok (.bl true) S:=
 i7 (fun k' e=>absurd (h.1.symm.trans e) (hn k')) h.2 fun _ w hw=>(hg w (h.1 ▸ hw)).2.1
end
section
variable {R:List O} {ns c room:D}
abbrev lS (s c:D) (room:D) (k:Kd) (U:Str) (e8 e9 e10:Option D) (R:List O):Sta:=⟨[some s,some c,some room,some (.ref 0),some k.toD,some (.bl (decide (k.dep≤6))),some (.str k.shown),some (.str U),e8,e9,e10],[],.lst (sD k.tok) :: R⟩
theorem pA (s:D) (c:Int) (room:D) (k:Kd) (U:Str) (hd:k.dep≤8) (hl:k.tok.length≤4000):exS Γ (ag Γ 249) (aU Γ 249) (hdS 0 (tlS 7 cZ.body)) (lS s (.int c) room k U none none none R) = .nx (lS s (.int c) room k U none none none R):=by
 have z1:=bv c (b:=5) (by decide)
 have sh:=cO (S:=.lst (sD k.tok) :: R) k (248 - k.dep) hl
 rw [show 248 - k.dep+k.dep+1=249 by omega] at sh
 have al:=cR (S:=.lst (sD k.tok) :: R) (n:=248) k.shown
 rcases rC (c / 5) with h | h
 ·by_cases g:k.dep≤6
  ·have e:decide (k.dep≤6)=true:=decide_eq_true g
   unfold lS;rw [e]
   exact (cD false (aX 0 (z1) (aX 0 (aN h (by decide)) (aX 0 (sh) (aX 0 (al) aZ)))) (by kernel_rfl))
  ·have e:decide (k.dep≤6)=false:=decide_eq_false g
   unfold lS;rw [e]
   exact (cD false (aX 0 (z1) (aX 0 (aN h (by decide)) aZ)) (by kernel_rfl))
 ·exact (cD false (aX 0 (z1) (aX 0 (aN h (by decide)) aZ)) (by kernel_rfl))
theorem pB (s:D) (c:D) (room:D) (k:Kd) (U:Str) (h1:Tx k.shown k.tok) (h2:Tx U k.tok):exS Γ (ag Γ 249) (aU Γ 249) (hdS 0 (tlS 0 (tlS 7 cZ.body))) (lS s c room k U none none none R) = .nx (lS s c room k U none none none R):=by
 have j1:=kG (S:=.lst (sD k.tok) :: R) (n:=235) h1
 have j2:=kG (S:=.lst (sD k.tok) :: R) (n:=235) h2
 exact (cD false (aX 0 (j1) (aX 0 (j2) aZ)) (by kernel_rfl))
end
open L2.Lx (ch ch_app ch_len Tok Con Br)
section
variable {R:List O}
theorem pC (s:D) (c:Int) (room:D) (k:Kd) (U:Str) (hl:k.tok.length≤3900):∃ e8:Option D,exS Γ (ag Γ 249) (aU Γ 249) (hdS 0 (tlS 0 (tlS 0 (tlS 7 cZ.body)))) (lS s (.int c) room k U none none none R) = .nx (lS s (.int c) room k U e8 none none R):=by
 have z10:=bv c (b:=10) (by decide)
 rcases rC (c / 10) with h | h
 ·have z20:=bv c (b:=20) (by decide)
  have z80:=bv c (b:=80) (by decide)
  obtain ⟨way,hw⟩:∃ w,c / 20 % 4=w:=⟨_,rfl⟩
  have hw4:0≤way∧way<4:=by omega
  have m4:=aN hw (by decide)
  have lp:0<k.tok.length:=by have:=pv k;cases e:k.tok with
   | nil=>exact absurd e this
   | cons a b=>simp
  obtain ⟨i,hi⟩:∃ i:Nat,c / 80 % (k.tok.length:Int)=i:=⟨(c / 80 % (k.tok.length:Int)).toNat,by have:=Int.emod_nonneg (c / 80) (b:=(k.tok.length:Int)) (by omega);omega⟩
  have il:i<k.tok.length:=by have:=Int.emod_lt_of_pos (c / 80) (b:=(k.tok.length:Int)) (by omega);omega
  have mi:opD .mod (.int (c / 80)) (.int ((sD k.tok).length:Nat))=some (.int (i:Nat)):=by rw [List.length_map];exact aN hi (by omega)
  obtain ⟨x,hx,ox⟩:=u5 (S:=.lst (sD k.tok) :: R) (c / 80+((sD k.tok).length:Nat))
  obtain ⟨a,na,ea⟩:=xy (R:=R) k i il (by omega) way hw4 x hx
  have fin:∀ a:List Str,Nk k a→ag Γ 249 bY [.lst (sD a)] (.lst (sD k.tok) :: R) = .ok (.str (cm a)) (.lst (sD k.tok) :: R)∧ag Γ 249 bf [.str (cm a),k.toD,.bl false] (.lst (sD k.tok) :: R) = .ok (.bl true) (.lst (sD k.tok) :: R):=fun a na=>⟨gA (m:=248) a (by have:=na.2.1;omega) fun w hw=>(na.1 w hw).2.2,ny (n:=235) (gJ na.1 (by have:=na.2.1;omega)) na.1 na.2.2⟩
  by_cases w3:way=3
  ·subst w3
   obtain ⟨b,nb,eb⟩:=yE (R:=R) k (by omega) (c / 80) 248
   obtain ⟨f1,f2⟩:=fin b nb
   exact ⟨some (.lst (sD b)),(cD false (aX 0 (z10) (aX 0 (aN h (by decide)) (aX 2 (z20) (aX 0 (m4) (aX 0 (z80) (aX 1 (mi) (aX 0 (z80) (aX 0 (ox 248) (aX 0 (ea 248) (aX 0 (z20) (aX 0 (m4) (aX 2 (z80) (aX 0 (eb) (aX 0 (f1) (aX 0 (f2) aZ))))))))))))))) (by kernel_rfl))⟩
  ·have e3:opD .eq (.int way) (.int 3)=some (.bl false):=dY false _ _ (beq_eq_false_iff_ne.mpr w3).symm
   obtain ⟨f1,f2⟩:=fin a na
   exact ⟨some (.lst (sD a)),(cD false (aX 0 (z10) (aX 0 (aN h (by decide)) (aX 2 (z20) (aX 0 (m4) (aX 0 (z80) (aX 1 (mi) (aX 0 (z80) (aX 0 (ox 248) (aX 0 (ea 248) (aX 0 (z20) (aX 0 (m4) (aX 0 (e3) (aX 0 (f1) (aX 0 (f2) aZ)))))))))))))) (by kernel_rfl))⟩
 ·exact ⟨none,(cD false (aX 0 (z10) (aX 0 (aN h (by decide)) aZ)) (by kernel_rfl))⟩
end
open L2.Lx (ch ch_app ch_len Tok Con Br)
section
variable {R:List O}
theorem lH (k:Kd):Con (ch k.shown) (k.tok.map ch) (Br (ch (k.tok.foldl jn1 (Str.empty,lpS)).2)):=by
 have:=eS k.tok (sZ (nE k))
 rw [cn] at this;exact this
theorem ji (k:Kd) (hl:k.tok.length≤4000):Tx k.shown k.tok:=by have:=gJ (nE k) hl;rw [cn] at this;exact this
theorem vp {T:Str} {k:Kd} {p:Prop} (h:Con (ch T) (k.tok.map ch) p) (hl:T.length≤80000) (a b:Int) (ha:a≤2100) (hb:b≤2100):Tx ((Txt.mul blS a ++ T) ++ Txt.mul blS b) k.tok:=by
 refine ⟨fF ?_,by rw [aw,aw,cq,cq];omega⟩
 rw [ch_app,ch_app,fb,fb,List.append_assoc]
 exact L2.Lx.lex_pad h _ _
def mW (x:Int):Int:=if (0:Int)>x then 0 else x
theorem yA {x:Int} (h:x≤2003):0≤mW x∧mW x≤2003:=by unfold mW;split <;> omega
theorem pD (s:D) (c:Int) (room:D) (k:Kd) (U:Str) (hl:k.tok.length≤3900) (e8:Option D):∃ e9 e10:Option D,exS Γ (ag Γ 249) (aU Γ 249) (hdS 0 (tlS 0 (tlS 0 (tlS 0 (tlS 7 cZ.body))))) (lS s (.int c) room k U e8 none none R) = .nx (lS s (.int c) room k U e8 e9 e10 R):=by
 have z80:=bv c (b:=80) (by decide)
 obtain ⟨w,hw⟩:∃ w,c / 80 % 4=w:=⟨_,rfl⟩
 have m4:=aN hw (by decide)
 by_cases w1:w=1
 ·subst w1
  have z3:=bv c (b:=320) (by decide)
  obtain ⟨r,hr⟩:∃ r,c / 320 % 6=r:=⟨_,rfl⟩
  have m6:=aN hr (by decide)
  obtain ⟨r3,h3⟩:∃ r,c % 3=r:=⟨_,rfl⟩
  have m3:=aN h3 (by decide)
  have sl:=cV k
  have a0:cX .len (.str k.shown)=some (.int k.shown.length):=by show (if _ then _ else _)=_;rw [if_pos (by omega)]
  have mb:=yA (x:=1998+r - (k.shown.length:Nat)) (by omega)
  have mu:opD .mul (.int (mW (1998+r - (k.shown.length:Nat)))) (.int r3)=some (.int (mW (1998+r - (k.shown.length:Nat)) * r3)):=by
   show (if _ then _ else _)=_
   rw [if_pos (.inl (.inl (by omega)))]
  have fd:=bv (mW (1998+r - (k.shown.length:Nat)) * r3) (b:=2) (by decide)
  have wb:0≤mW (1998+r - (k.shown.length:Nat)) * r3 / 2∧mW (1998+r - (k.shown.length:Nat)) * r3 / 2≤mW (1998+r - (k.shown.length:Nat)):=by rcases (show r3=0∨r3=1∨r3=2 by omega) with h | h | h <;> rw [h] <;> omega
  obtain ⟨wI,hwI⟩:∃ x,mW (1998+r - (k.shown.length:Nat)) * r3 / 2=x:=⟨_,rfl⟩
  rw [hwI] at wb fd
  have s1:=hX (n:=wI) (by omega)
  have wl:=cq wI
  have a1:opD .add (.str (Txt.mul blS wI)) (.str k.shown)=some (.str (Txt.mul blS wI ++ k.shown)):=az (by omega)
  have a2:cX .len (.str (Txt.mul blS wI))=some (.int (Txt.mul blS wI).length):=by show (if _ then _ else _)=_;rw [if_pos (by omega)]
  have s2:=hX (n:=mW (1998+r - (k.shown.length:Nat)) - ((Txt.mul blS wI).length:Nat)) (by omega)
  have a3:opD .add (.str (Txt.mul blS wI ++ k.shown)) (.str (Txt.mul blS (mW (1998+r - (k.shown.length:Nat)) - ((Txt.mul blS wI).length:Nat))))=some (.str ((Txt.mul blS wI ++ k.shown) ++ Txt.mul blS (mW (1998+r - (k.shown.length:Nat)) - ((Txt.mul blS wI).length:Nat)))):=az (by rw [aw,cq (mW (1998+r - (k.shown.length:Nat)) - _)];omega)
  have j:=kG (S:=.lst (sD k.tok) :: R) (n:=235) (vp (lH k) (by omega) wI (mW (1998+r - (k.shown.length:Nat)) - ((Txt.mul blS wI).length:Nat)) (by omega) (by omega))
  exact ⟨some (.int (mW (1998+r - (k.shown.length:Nat)))),some (.str (Txt.mul blS wI)),(cD false (aX 0 (z80) (aX 0 (m4) (aX 2 (z3) (aX 0 (m6) (aX 1 (a0) (aX 2 (m3) (aX 0 (mu) (aX 0 (fd) (aX 0 (s1) (aX 0 (a1) (aX 0 (a2) (aX 1 (s2) (aX 0 (a3) (aX 0 (j) aZ)))))))))))))) (by kernel_rfl))⟩
 ·have e1:opD .eq (.int w) (.int 1)=some (.bl false):=dY false _ _ (beq_eq_false_iff_ne.mpr w1).symm
  exact ⟨none,none,(cD false (aX 0 (z80) (aX 0 (m4) (aX 0 (e1) aZ))) (by kernel_rfl))⟩
theorem pE (s:D) (c:D) (room:D) (k:Kd) (U:Str) (hd:k.dep≤8) (hl:k.tok.length≤3900) (e8 e9 e10:Option D):toR (exS Γ (ag Γ 249) (aU Γ 249) (tlS 0 (tlS 0 (tlS 0 (tlS 0 (tlS 7 cZ.body))))) (lS s c room k U e8 e9 e10 R)) = .ok (.bl true) (.lst (sD k.tok) :: R):=by
 have j:=kG (S:=.lst (sD k.tok) :: R) (n:=235) (ji k (by omega))
 have sh:=cO (S:=.lst (sD k.tok) :: R) k (248 - k.dep) (by omega)
 rw [show 248 - k.dep+k.dep+1=249 by omega] at sh
 have al:=cR (S:=.lst (sD k.tok) :: R) (n:=248) k.shown
 unfold lS
 by_cases g:k.dep≤6
 ·have e:decide (k.dep≤6)=true:=decide_eq_true g
  rw [e] at j ⊢
  exact (sJ false (aX 0 (j) (aX 0 (sh) (aX 0 (al) aZ))) (by kernel_rfl))
 ·have e:decide (k.dep≤6)=false:=decide_eq_false g
  rw [e] at j ⊢
  exact (sJ false (aX 0 (j) aZ) (by kernel_rfl))
theorem yF (s:D) (c:Int) (room:D) (k:Kd) (U:Str) (hd:k.dep≤8) (hl:k.tok.length≤3900) (hU:Tx U k.tok):toR (exS Γ (ag Γ 249) (aU Γ 249) (tlS 7 cZ.body) (lS s (.int c) room k U none none none R)) = .ok (.bl true) (.lst (sD k.tok) :: R):=by
 obtain ⟨e8,h8⟩:=pC (R:=R) s c room k U hl
 obtain ⟨e9,e10,h9⟩:=pD (R:=R) s c room k U hl e8
 exact cI 0 (pA s c room k U hd (by omega)) (cI 0 (pB s (.int c) room k U (ji k (by omega)) hU) (cI 0 h8 (cI 0 h9 (pE s (.int c) room k U hd hl e8 e9 e10))))
end
open L2.Lx (ch ch_app ch_len Tok Con Br)
theorem oQ:∀ ns:List Int,aK (ns.map .int)=true
 | []=>rfl
 | a :: l=>by show (true && aK (l.map .int))=true;rw [oQ l];rfl
theorem rR {Γ:Gm} {c1 c2:Nat→List D→List O→Res} {i n:Nat} {a:E} {s s2:Sta} {l:List D} {env:List (Option D)} {d:D} (h1:s.env[i]? = some (some (.ref n))) (h2:s.st[n]? = some (.lst l)) (h3:aK l=true) (h4:aM s.env=env) (h5:ev Γ c1 c2 false a ⟨env.set i (some (.lst l)),[],[]⟩ = .ok d s2) (h6:flX (Ev.fresh a) d=true) (br:Bool):ev Γ c1 c2 br (.snap i a) s = .ok d ⟨s.env,[],s.st⟩:=by
 subst h4
 simp only [ev,h1,h2,h3,h5,Out.bind,if_true]
 show (if flX (Ev.fresh a) d=true then Out.ok d ⟨s.env,[],s.st⟩ else Out.bad)=_
 rw [if_pos h6]
section
variable {m:Nat}
theorem kg (E:List (Option D)):∀ (l:List Int) (acc:List D) (e:Option D),acc.length+l.length<90000→∃ e':Option D,bH (lcQ Γ (ag Γ m) (aU Γ m) [0] true (.op .fdiv (.v 0) (.c (.int 7))) (.c (.bl true))) (l.map .int) acc ⟨e :: E,[],[]⟩ = .ok (.lst (acc ++ (l.map (· / 7)).map .int)) ⟨e' :: E,[],[]⟩
 | [],acc,e,_=>⟨e,by show Out.ok _ _=_;rw [List.map_nil,List.map_nil,List.append_nil]⟩
 | x :: l,acc,e,h=>by
   simp only [List.length_cons] at h
   obtain ⟨e',g⟩:=kg E l (acc ++ [.int (x / 7)]) (some (.int x)) (by rw [List.length_append,List.length_singleton];omega)
   have z:=bv x (b:=7) (by decide)
   have el:ev Γ (ag Γ m) (aU Γ m) false (.op .fdiv (.v 0) (.c (.int 7))) ⟨some (.int x) :: E,[],[]⟩ = .ok (.int (x / 7)) ⟨some (.int x) :: E,[],[]⟩:=(qp false (aX 0 (z) aZ) (by kernel_rfl))
   rw [List.append_assoc] at g
   exact ⟨e',hO (jH rfl rfl el) (by omega) g⟩
end
abbrev e7:E:=.call 10 (.cons (.v 3) (.cons (.sto (.lc [0] true (.it .rev (.cons (.v 0) .nil)) (.op .fdiv (.v 0) (.c (.int 7))) (.c (.bl true)))) .nil))
theorem cell (ns:List Int) (k n:Nat) (S:List O):∃ c:Int,ag Γ (n+1) eQ [.lst (ns.map .int),.int k] S = .ok (.int c) S:=by
 by_cases c:k<ns.length
 ·have e1:decide ((k:Int)<((ns.map D.int).length:Nat))=true:=by rw [List.length_map];exact decide_eq_true (by omega)
  have e2:ixD (.lst (ns.map D.int)) (.int (k:Int))=some (.int ns[k]):=by
   refine cS ?_
   rw [List.getElem?_map,List.getElem?_eq_getElem c]
   rfl
  exact ⟨ns[k],(ae false (aX 2 (e1) (aX 0 (e2) aZ)) (by kernel_rfl))⟩
 ·have e1:decide ((k:Int)<((ns.map D.int).length:Nat))=false:=by rw [List.length_map];exact decide_eq_false (by omega)
  exact ⟨0,(ae false (aX 2 (e1) aZ) (by kernel_rfl))⟩
section
variable {R:List O}
theorem st7 (ns:List Int) (hn:ns.length≤63) (c room:D) (hc:noR c=true) (hr:noR room=true) (k:Kd) (hl:k.tok.length≤3900):∃ U:Str,Tx U k.tok∧exS Γ (ag Γ 249) (aU Γ 249) (hdS 0 (tlS 6 cZ.body)) ⟨[some (.lst (ns.map .int)),some c,some room,some (.ref 0),some k.toD,some (.bl (decide (k.dep≤6))),some (.str k.shown),none,none,none,none],[],.lst (sD k.tok) :: R⟩ = .nx (lS (.lst (ns.map .int)) c room k U none none none R):=by
 obtain ⟨T,q,xs',p,hcon,hT,hq,es⟩:=mh (m:=247) k.tok (by omega) (bD k) (ns.reverse.map (· / 7))
 refine ⟨T ++ Txt.mul blS q,⟨fF ?_,by rw [aw,cq];omega⟩,?_⟩
 ·have:=L2.Lx.lex_pad hcon 0 q
  rw [ch_app,fb];exact this
 ·obtain ⟨e,lp⟩:=kg (m:=249) [some (.lst (ns.map .int)),some c,some room,some (.lst (sD k.tok)),some k.toD,some (.bl (decide (k.dep≤6))),some (.str k.shown),none,none,none,none] ns.reverse [] none (by rw [List.length_reverse];simp only [List.length_nil];omega)
  rw [List.map_reverse] at lp
  have hv:ev Γ (ag Γ 249) (aU Γ 249) false e7 ⟨[some (.lst (ns.map .int)),some c,some room,some (.lst (sD k.tok)),some k.toD,some (.bl (decide (k.dep≤6))),some (.str k.shown),none,none,none,none],[],[]⟩ = .ok (.str (T ++ Txt.mul blS q)) ⟨[some (.lst (ns.map .int)),some c,some room,some (.lst (sD k.tok)),some k.toD,some (.bl (decide (k.dep≤6))),some (.str k.shown),none,none,none,none],[],[.lst (xs'.map .int)]⟩:=(qp true (aX 0 (lp) (aX 0 (es) aZ)) (by kernel_rfl))
  have hb:aM [some (.lst (ns.map .int)),some c,some room,some (.ref 0),some k.toD,some (.bl (decide (k.dep≤6))),some (.str k.shown),none,none,none,none] = [some (.lst (ns.map .int)),some c,some room,none,some k.toD,some (.bl (decide (k.dep≤6))),some (.str k.shown),none,none,none,none]:=by
   simp [aM,noR,oQ,hc,hr,fe]
  have hs:hdS 0 (tlS 6 cZ.body) = .set 7 (.snap 3 e7):=by kernel_rfl
  rw [hs]
  show (ev Γ (ag Γ 249) (aU Γ 249) false (.snap 3 e7) _).go _=_
  rw [rR (i:=3) (n:=0) rfl rfl (bU _) hb hv rfl]
  rfl
abbrev s0 (ns:List Int):Sta:=⟨[some (.lst (ns.map .int)),none,none,none,none,none,none,none,none,none,none],[],[]⟩
theorem eV (ns:List Int) (hn:ns.length≤63) (c:Int) (room:D) (hr:noR room=true) (k:Kd) (hd:k.dep≤8) (hl:k.tok.length≤3900) (h6:exS Γ (ag Γ 249) (aU Γ 249) (hdS 6 cZ.body) (s0 ns) = .nx ⟨[some (.lst (ns.map .int)),some (.int c),some room,some (.ref 0),some k.toD,some (.bl (decide (k.dep≤6))),some (.str k.shown),none,none,none,none],[],.lst (sD k.tok) :: R⟩):∃ st':List O,ag Γ 250 sP [.lst (ns.map .int)] [] = .ok (.bl true) st':=by
 obtain ⟨U,hU,h7⟩:=st7 (R:=R) ns hn (.int c) room rfl hr k hl
 exact ⟨_,lF 6 cZ rfl rfl h6 (cI 0 h7 (yF (R:=R) (.lst (ns.map .int)) c room k U hd hl hU))⟩
end
theorem le6 (k:Kd):opD .le (.int (k.dep:Nat)) (.int 6)=some (.bl (decide (k.dep≤6))):=by
 show some (D.bl (decide ((k.dep:Int)≤6)))=_
 rw [decide_eq_decide.mpr (show (k.dep:Int)≤6↔k.dep≤6 by omega)]
theorem uc (ns:List Int) (hn:ns.length≤63):∃ st':List O,ag Γ 250 sP [.lst (ns.map .int)] [] = .ok (.bl true) st':=by
 obtain ⟨c,hc⟩:=cell ns 0 248 []
 have z5:=bv c (b:=5) (by decide)
 have deep:∀ (k:Kd) (S:List O),k.dep≤8→ag Γ 249 bT [k.toD] S = .ok (.int (k.dep:Nat)) S:=fun k S h=>by
  have:=eg (S:=S) k (249 - k.dep)
  rw [show 249 - k.dep+k.dep=249 by omega] at this;exact this
 have jn:∀ k:Kd,k.tok.length≤4000→ag Γ 249 bY [.lst (sD k.tok)] [] = .ok (.str k.shown) []:=fun k h=>by
  rw [← cn];exact gA (m:=248) k.tok (by omega) fun w hw=>di (bD k w hw)
 by_cases c2:c % 5=2
 ·obtain ⟨d,hd⟩:=cell ns 1 248 [.lst []]
  obtain ⟨r,hr⟩:∃ r:Nat,c / 5 % 4=r:=⟨(c / 5 % 4).toNat,by omega⟩
  obtain ⟨k,kd,kl,ek⟩:=s9 (r+4) d
  have r4:r<4:=by omega
  have ek:=ek (244 - r) [] (by simp only [List.length_nil];omega)
  rw [show 244 - r+(r+4)+1=249 by omega,List.nil_append] at ek
  have ad:opD .add (.int 5) (.int (r:Nat))=some (.int ((r+4+1:Nat):Int)):=congrArg (fun z=>some (D.int z)) (by omega)
  exact eV (R:=[]) ns hn c (.int 6) rfl k (by omega) (by omega) (cD false (aX 0 (hc) (aX 0 (aN c2 (by decide)) (aX 2 (aN c2 (by decide)) (aX 0 (hd) (aX 0 (z5) (aX 0 (aN hr (by decide)) (aX 0 (ad) (aX 0 (ek) (aX 0 (deep k [.lst (sD k.tok)] (by omega)) (aX 0 (le6 k) (aX 0 (bU k.tok) (aX 0 (jn k (by omega)) aZ)))))))))))) (by kernel_rfl))
 ·obtain ⟨xs,eL⟩:∃ xs:List Int,(Ev.cutD (ns.map .int) (some 1) (some 120)).reverse=xs.map .int:=⟨(((ns.drop (HT.sIx (ns.map D.int).length 0 (some 1))).take (HT.sIx (ns.map D.int).length (ns.map D.int).length (some 120) - HT.sIx (ns.map D.int).length 0 (some 1)))).reverse,by unfold Ev.cutD;rw [List.map_reverse,List.map_take,List.map_drop]⟩
  have e2:∀ r:Int,c % 5=r→opD .eq (.int r) (.int 2)=some (.bl false):=fun r h=>dY false _ _ (beq_eq_false_iff_ne.mpr (by omega)).symm
  by_cases c1:c % 5=1
  ·obtain ⟨k,xs',kd,ek⟩:=kind 8 (by decide) xs
   have tl:=cv k 8 kd
   have ek:=ek 240 [] (by decide)
   rw [List.nil_append,← eL] at ek
   exact eV (R:=[.lst (xs'.map .int)]) ns hn c (.int 8) rfl k kd (by omega) (cD false (aX 0 (hc) (aX 0 (aN c1 (by decide)) (aX 2 (aN c1 (by decide)) (aX 0 (ek) (aX 0 (deep k [.lst (sD k.tok),.lst (xs'.map .int)] kd) (aX 0 (le6 k) (aX 0 (bU k.tok) (aX 0 (jn k (by omega)) aZ)))))))) (by kernel_rfl))
  ·obtain ⟨k,xs',kd,ek⟩:=kind 6 (by decide) xs
   have tl:=cv k 6 kd
   have ek:=ek 242 [] (by decide)
   rw [List.nil_append,← eL] at ek
   obtain ⟨r,hr⟩:∃ r,c % 5=r:=⟨_,rfl⟩
   have e1:opD .eq (.int r) (.int 1)=some (.bl false):=dY false _ _ (beq_eq_false_iff_ne.mpr (by omega)).symm
   exact eV (R:=[.lst (xs'.map .int)]) ns hn c (.int 6) rfl k (by omega) (by omega) (cD false (aX 0 (hc) (aX 0 (aN hr (by decide)) (aX 0 (e1) (aX 1 (aN hr (by decide)) (aX 0 (e2 r hr) (aX 0 (ek) (aX 0 (deep k [.lst (sD k.tok),.lst (xs'.map .int)] (by omega)) (aX 0 (le6 k) (aX 0 (bU k.tok) (aX 0 (jn k (by omega)) aZ)))))))))) (by kernel_rfl))
def gM (K:Fg):Prop:=∃ C:Addr,mB K "BlameError" C∧NaL K C []
def mw (K:Fg):Prop:=∃ C:Addr,mB K "NoText" C∧ka K C veB "ValueError.__new__"∧NaL K C []
def mv (K:Fg):Prop:=∃ C:Addr,mB K "NoPart" C∧NaL K C []
def lx (K:Fg):Prop:=∃ C:Addr,mB K "TooMany" C∧NaL K C []
def mt (K:Fg):Prop:=∃ C fI:Addr,ly K "NoName" "NoName.__init__" (bx (top 6) 0) veB "ValueError.__new__" C fI∧NaL K C ["place"]
def lw (K:Fg):Prop:=∃ C fI:Addr,ly K "TooDeep" "TooDeep.__init__" (bx (top 7) 0) veB "ValueError.__new__" C fI∧NaL K C ["place"]
def pO (K:Fg):Prop:=∃ C fI:Addr,ly K "NoFit" "NoFit.__init__" (bx (top 8) 0) veB "ValueError.__new__" C fI∧NaL K C ["place"]
def mq (K:Fg):Prop:=∃ C fI:Addr,ly K "NoLook" "NoLook.__init__" (bx (top 9) 0) veB "ValueError.__new__" C fI∧NaL K C ["place"]
def my (K:Fg):Prop:=∃ C fI:Addr,ly K "Parted" "Parted.__init__" (bx (top 10) 0) veB "ValueError.__new__" C fI∧NaL K C ["place","kind","by","wanted","way"]
def mz (K:Fg):Prop:=∃ C f0 f1 f2 f3 f4 f5:Addr,vy K "Reader" C∧NaL K C ["words","taken","nodes"]∧jq K C "__init__" "Reader.__init__" (bx (top 18) 0) f0∧jq K C "peek" "Reader.peek" (bx (top 18) 1) f1∧jq K C "take" "Reader.take" (bx (top 18) 2) f2∧jq K C "need_closed" "Reader.need_closed" (bx (top 18) 3) f3∧jq K C "need_end" "Reader.need_end" (bx (top 18) 4) f4∧jq K C "read_one_kind" "Reader.read_one_kind" (bx (top 18) 11) f5
def mrl:List (Str×Str×Bool):=(List.append [("BlameError","BlameError",true),("NoText","BlameError",true),("NoPart","BlameError",true),("TooMany","BlameError",true),("NoName","BlameError",true),("TooDeep","BlameError",true),("NoFit","BlameError",true),("NoLook","BlameError",true),("Parted","BlameError",true),("BlameError","NoText",false),("NoText","NoText",true),("NoPart","NoText",false),("TooMany","NoText",false),("NoName","NoText",false),("TooDeep","NoText",false),("NoFit","NoText",false)] (List.append [("NoLook","NoText",false),("Parted","NoText",false),("BlameError","NoPart",false),("NoText","NoPart",false),("NoPart","NoPart",true),("TooMany","NoPart",false),("NoName","NoPart",false),("TooDeep","NoPart",false),("NoFit","NoPart",false),("NoLook","NoPart",false),("Parted","NoPart",false),("BlameError","TooMany",false),("NoText","TooMany",false),("NoPart","TooMany",false),("TooMany","TooMany",true),("NoName","TooMany",false)] (List.append [("TooDeep","TooMany",false),("NoFit","TooMany",false),("NoLook","TooMany",false),("Parted","TooMany",false),("BlameError","NoName",false),("NoText","NoName",false),("NoPart","NoName",false),("TooMany","NoName",false),("NoName","NoName",true),("TooDeep","NoName",false),("NoFit","NoName",false),("NoLook","NoName",false),("Parted","NoName",false),("BlameError","TooDeep",false),("NoText","TooDeep",false),("NoPart","TooDeep",false)] (List.append [("TooMany","TooDeep",false),("NoName","TooDeep",false),("TooDeep","TooDeep",true),("NoFit","TooDeep",false),("NoLook","TooDeep",false),("Parted","TooDeep",false),("BlameError","NoFit",false),("NoText","NoFit",false),("NoPart","NoFit",false),("TooMany","NoFit",false),("NoName","NoFit",false),("TooDeep","NoFit",false),("NoFit","NoFit",true),("NoLook","NoFit",false),("Parted","NoFit",false),("BlameError","NoLook",false)] (List.append [("NoText","NoLook",false),("NoPart","NoLook",false),("TooMany","NoLook",false),("NoName","NoLook",false),("TooDeep","NoLook",false),("NoFit","NoLook",false),("NoLook","NoLook",true),("Parted","NoLook",false),("BlameError","Parted",false),("NoText","Parted",false),("NoPart","Parted",false),("TooMany","Parted",false),("NoName","Parted",false),("TooDeep","Parted",false),("NoFit","Parted",false),("NoLook","Parted",false)] [("Parted","Parted",true)])))))
def vxl:List (Str×Bool):=[("BlameError",true),("NoText",true),("NoPart",true),("TooMany",true),("NoName",true),("TooDeep",true),("NoFit",true),("NoLook",true),("Parted",true)]
structure Txt (K:Fg):Prop where
 fn:eB K fnl
 gl:GlL K gll
 tl:ju K tbl
 bl:NoL K T.bl
 mr:MrL K mrl
 vx:VxL K vxl
 bi_BlameError:∃ B,PySem.W.nsIn K mainGlobals "BlameError" = some (some (.ref B))∧rZ K B
 x_BlameError:gM K
 x_NoText:mw K
 x_NoPart:mv K
 x_TooMany:lx K
 x_NoName:mt K
 x_TooDeep:lw K
 x_NoFit:pO K
 x_NoLook:mq K
 x_Parted:my K
 x_Reader:mz K
theorem tx:(((fnl.map fun p=>(p.1,p.1,p.2)) ++ mel).all fun p=>fnC p.2.2 && (dU T p.2.2).isSome)=true:=by kernel_rfl
theorem tD {P:Program} {w:World} {K:Fg} {h:Heap} {mg:Str→Option Value} {fa:Addr} {os:OsState} (Y:K.In h) (G:h.Ns mainGlobals mg) (hfa:mg "law" = some (.ref fa)) (T':Txt K) :
 ∃ X:Cx,X.W.P=P∧X.W.w=w∧X.K=K∧X.mg=mg∧X.base=h∧X.os=os∧X.calm=true∧X.tz=0∧bB X (ag Γ 250) 252 18 fa:=by
 obtain ⟨ad,hF,hG⟩:=T'.fn.ad Y G
 obtain ⟨C_BlameError,yG,na_BlameError⟩:=T'.x_BlameError
 obtain ⟨C_NoText,yL,ot_NoText,na_NoText⟩:=T'.x_NoText
 obtain ⟨C_NoPart,yN,na_NoPart⟩:=T'.x_NoPart
 obtain ⟨C_TooMany,yI,na_TooMany⟩:=T'.x_TooMany
 obtain ⟨C_NoName,fi_NoName,yK,na_NoName⟩:=T'.x_NoName
 obtain ⟨fd_NoName,Fi_NoName⟩:=yK.ini
 obtain ⟨C_TooDeep,fi_TooDeep,yH,na_TooDeep⟩:=T'.x_TooDeep
 obtain ⟨fd_TooDeep,Fi_TooDeep⟩:=yH.ini
 obtain ⟨C_NoFit,fi_NoFit,yO,na_NoFit⟩:=T'.x_NoFit
 obtain ⟨fd_NoFit,Fi_NoFit⟩:=yO.ini
 obtain ⟨C_NoLook,fi_NoLook,yJ,na_NoLook⟩:=T'.x_NoLook
 obtain ⟨fd_NoLook,Fi_NoLook⟩:=yJ.ini
 obtain ⟨C_Parted,fi_Parted,yM,na_Parted⟩:=T'.x_Parted
 obtain ⟨fd_Parted,Fi_Parted⟩:=yM.ini
 obtain ⟨C_Reader,a_Reader___init__,a_Reader_peek,a_Reader_take,a_Reader_need_closed,a_Reader_need_end,a_Reader_read_one_kind,yQ,na_Reader,⟨⟨fd_Reader___init__,F_Reader___init__⟩,M_Reader___init__⟩,⟨⟨fd_Reader_peek,F_Reader_peek⟩,M_Reader_peek⟩,⟨⟨fd_Reader_take,F_Reader_take⟩,M_Reader_take⟩,⟨⟨fd_Reader_need_closed,F_Reader_need_closed⟩,M_Reader_need_closed⟩,⟨⟨fd_Reader_need_end,F_Reader_need_end⟩,M_Reader_need_end⟩,⟨⟨fd_Reader_read_one_kind,F_Reader_read_one_kind⟩,M_Reader_read_one_kind⟩⟩:=T'.x_Reader
 let X:Cx:=⟨⟨P,w,[⟨C_BlameError,[]⟩,⟨C_NoText,[]⟩,⟨C_NoPart,[]⟩,⟨C_TooMany,[]⟩,⟨C_NoName,["place"]⟩,⟨C_TooDeep,["place"]⟩,⟨C_NoFit,["place"]⟩,⟨C_NoLook,["place"]⟩,⟨C_Parted,["place","kind","by","wanted","way"]⟩,⟨C_Reader,["words","taken","nodes"]⟩],[2,2,2,2,2,2,2,2,2,0]⟩,K,mg,h,os,Γ,fun _ _ _=>.bad,fun _ _ _=>.bad,callerA,[],[],envOfC "" (ao (top 0)) 0 0 .none,true,0⟩
 have hB_BlameError:∀ (b:Str) (c:List Nat),some (("BlameError":Str),c)=some (b,c)→∃ B,mg b=some (.ref B)∧rZ K B:=fun b c e=>by cases e;obtain ⟨B,h1,h2⟩:=T'.bi_BlameError;exact ⟨B,PySem.W.mg_of Y G h1,h2⟩
 have hM:FsL K mel [a_Reader___init__,a_Reader_peek,a_Reader_take,a_Reader_need_closed,a_Reader_need_end,a_Reader_read_one_kind]:=⟨⟨_,F_Reader___init__.d (by kernel_rfl)⟩,⟨_,F_Reader_peek.d (by kernel_rfl)⟩,⟨_,F_Reader_take.d (by kernel_rfl)⟩,⟨_,F_Reader_need_closed.d (by kernel_rfl)⟩,⟨_,F_Reader_need_end.d (by kernel_rfl)⟩,⟨_,F_Reader_read_one_kind.d (by kernel_rfl)⟩,trivial⟩
 have yR:bX X T.an 0 ⟨2,[],0,[],[1000],[]⟩ ⟨C_BlameError,[]⟩:=⟨rfl,(fun z=>absurd rfl z),na_BlameError.at,rfl,(show ([]:List Str)=List.map T.an [] by decide +kernel),(show ([]:List Str).Nodup by decide +kernel),fun _=>⟨yG.fd,yG.hh⟩⟩
 have yX:bX X T.an 1 ⟨2,[],0,[],[0,1000],[]⟩ ⟨C_NoText,[]⟩:=⟨rfl,(fun z=>absurd rfl z),na_NoText.at,rfl,(show ([]:List Str)=List.map T.an [] by decide +kernel),(show ([]:List Str).Nodup by decide +kernel),fun _=>⟨yL.fd,yL.hh⟩⟩
 have yW:bX X T.an 2 ⟨2,[],0,[],[0,1000],[]⟩ ⟨C_NoPart,[]⟩:=⟨rfl,(fun z=>absurd rfl z),na_NoPart.at,rfl,(show ([]:List Str)=List.map T.an [] by decide +kernel),(show ([]:List Str).Nodup by decide +kernel),fun _=>⟨yN.fd,yN.hh⟩⟩
 have yT:bX X T.an 3 ⟨2,[],0,[],[0,1000],[]⟩ ⟨C_TooMany,[]⟩:=⟨rfl,(fun z=>absurd rfl z),na_TooMany.at,rfl,(show ([]:List Str)=List.map T.an [] by decide +kernel),(show ([]:List Str).Nodup by decide +kernel),fun _=>⟨yI.fd,yI.hh⟩⟩
 have yV:bX X T.an 4 ⟨2,[0],0,[],[0,1000],[0]⟩ ⟨C_NoName,["place"]⟩:=⟨rfl,(fun z=>absurd rfl z),na_NoName.at,rfl,(show (["place"]:List Str)=List.map T.an [0] by decide +kernel),(show (["place"]:List Str).Nodup by decide +kernel),fun _=>⟨yK.fd,yK.hh⟩⟩
 have yS:bX X T.an 5 ⟨2,[0],0,[],[0,1000],[0]⟩ ⟨C_TooDeep,["place"]⟩:=⟨rfl,(fun z=>absurd rfl z),na_TooDeep.at,rfl,(show (["place"]:List Str)=List.map T.an [0] by decide +kernel),(show (["place"]:List Str).Nodup by decide +kernel),fun _=>⟨yH.fd,yH.hh⟩⟩
 have k_NoFit:bX X T.an 6 ⟨2,[0],0,[],[0,1000],[0]⟩ ⟨C_NoFit,["place"]⟩:=⟨rfl,(fun z=>absurd rfl z),na_NoFit.at,rfl,(show (["place"]:List Str)=List.map T.an [0] by decide +kernel),(show (["place"]:List Str).Nodup by decide +kernel),fun _=>⟨yO.fd,yO.hh⟩⟩
 have yU:bX X T.an 7 ⟨2,[0],0,[],[0,1000],[0]⟩ ⟨C_NoLook,["place"]⟩:=⟨rfl,(fun z=>absurd rfl z),na_NoLook.at,rfl,(show (["place"]:List Str)=List.map T.an [0] by decide +kernel),(show (["place"]:List Str).Nodup by decide +kernel),fun _=>⟨yJ.fd,yJ.hh⟩⟩
 have yY:bX X T.an 8 ⟨2,[0,1,2,3,4],0,[],[0,1000],[0,2]⟩ ⟨C_Parted,["place","kind","by","wanted","way"]⟩:=⟨rfl,(fun z=>absurd rfl z),na_Parted.at,rfl,(show (["place","kind","by","wanted","way"]:List Str)=List.map T.an [0,1,2,3,4] by decide +kernel),(show (["place","kind","by","wanted","way"]:List Str).Nodup by decide +kernel),fun _=>⟨yM.fd,yM.hh⟩⟩
 have yP:bX X T.an 9 ⟨0,[5,6,7],19,[],[],[]⟩ ⟨C_Reader,["words","taken","nodes"]⟩:=⟨rfl,fun _=>yQ.cls,na_Reader.at,rfl,(show (["words","taken","nodes"]:List Str)=List.map T.an [5,6,7] by decide +kernel),(show (["words","taken","nodes"]:List Str).Nodup by decide +kernel),fun z=>absurd z (by decide)⟩
 have Pg:pN T X (ad ++ [a_Reader___init__,a_Reader_peek,a_Reader_take,a_Reader_need_closed,a_Reader_need_end,a_Reader_read_one_kind]) 1:=by
  refine ⟨rfl,fun j f e=>wt rfl tx (hF.app hM) e,fun j x e=>?_,fun j x e=>?_,fun j x e=>?_,fun x e=>PySem.W.mg_none_of Y G (T'.bl.at x e),fun c k e=>?_,fun q e=>?_,fun j x e hz=>?_,fun j x e hz=>?_,fun j x e hz=>?_,fun j x e hz=>?_,fun j x e hz=>?_,fun e=>?_⟩
  ·obtain ⟨f,h1,h2⟩:=mC hG e
   exact ⟨f,List.getElem?_append_left (List.getElem?_eq_some_iff.mp h1).1 ▸ h1,h2⟩
  ·obtain ⟨d,u,h1,h2,h3⟩:=T'.gl.at e
   exact ⟨d,u,h1,PySem.W.mg_of Y G h2,h3⟩
  ·obtain ⟨t,a,h1,h2,h3⟩:=T'.tl.at e
   exact ⟨t,a,h1,PySem.W.mg_of Y G h2,h3⟩
  ·exact bu (P:=fun (c:Nat) (k:Cl)=>∃ i,bX X T.an c k i) (show b5 _ 0 Γ.cl from ⟨⟨_,yR⟩,⟨_,yX⟩,⟨_,yW⟩,⟨_,yT⟩,⟨_,yV⟩,⟨_,yS⟩,⟨_,k_NoFit⟩,⟨_,yU⟩,⟨_,yY⟩,⟨_,yP⟩,trivial⟩) e
  ·obtain ⟨i,e⟩:=List.mem_iff_getElem?.mp e
   exact bu (P:=fun (_:Nat) (q:Str×Nat×Nat)=>∃ f,(ad ++ [a_Reader___init__,a_Reader_peek,a_Reader_take,a_Reader_need_closed,a_Reader_need_end,a_Reader_read_one_kind])[q.2.2]? = some f∧lr X T.an q.1 q.2.1 f) (show b5 _ 0 T.me from ⟨⟨a_Reader_peek,dL (n:=19) (k:=1) hF.len,⟨_,_,rfl,yP,rfl,M_Reader_peek,(show ("peek":Str) ∉ (["words","taken","nodes"]:List Str) by decide +kernel)⟩⟩,⟨a_Reader_take,dL (n:=19) (k:=2) hF.len,⟨_,_,rfl,yP,rfl,M_Reader_take,(show ("take":Str) ∉ (["words","taken","nodes"]:List Str) by decide +kernel)⟩⟩,⟨a_Reader_need_closed,dL (n:=19) (k:=3) hF.len,⟨_,_,rfl,yP,rfl,M_Reader_need_closed,(show ("need_closed":Str) ∉ (["words","taken","nodes"]:List Str) by decide +kernel)⟩⟩,⟨a_Reader_need_end,dL (n:=19) (k:=4) hF.len,⟨_,_,rfl,yP,rfl,M_Reader_need_end,(show ("need_end":Str) ∉ (["words","taken","nodes"]:List Str) by decide +kernel)⟩⟩,⟨a_Reader_read_one_kind,dL (n:=19) (k:=5) hF.len,⟨_,_,rfl,yP,rfl,M_Reader_read_one_kind,(show ("read_one_kind":Str) ∉ (["words","taken","nodes"]:List Str) by decide +kernel)⟩⟩,trivial⟩) e
  ·exact bu (P:=fun (j:Nat) (x:Str)=>x≠("":Str)→∃ f i cl,(ad ++ [a_Reader___init__,a_Reader_peek,a_Reader_take,a_Reader_need_closed,a_Reader_need_end,a_Reader_read_one_kind])[cl.init]? = some f∧Mk K i.ad f∧Γ.cl[j]? = some cl∧cl.what=0∧X.W.ci[j]? = some i∧X.W.what[j]? = some 0∧mg x=some (.ref i.ad)) (show b5 _ 0 T.nw from ⟨(fun z=>absurd rfl z),(fun z=>absurd rfl z),(fun z=>absurd rfl z),(fun z=>absurd rfl z),(fun z=>absurd rfl z),(fun z=>absurd rfl z),(fun z=>absurd rfl z),(fun z=>absurd rfl z),(fun z=>absurd rfl z),(fun _=>⟨a_Reader___init__,⟨C_Reader,_⟩,_,dL (n:=19) (k:=0) hF.len,⟨yQ.mks,M_Reader___init__.at_,M_Reader___init__.fn,yQ.kp⟩,rfl,rfl,rfl,rfl,PySem.W.mg_of Y G yQ.a⟩),trivial⟩) e hz
  ·exact bu (P:=fun (j:Nat) (x:Str)=>x≠("":Str)→∃ f fd ps i cl,FnI X 1 f fd ps i.nm none∧bI K fd ps []∧Mk K i.ad f∧Cls K i.ad∧(∀ f∈i.nm,cG K i.ad f)∧Γ.cl[j]? = some cl∧X.W.ci[j]? = some i∧X.W.what[j]? = some 1∧i.nm.length=cl.at_.length∧mg x=some (.ref i.ad)) (show b5 _ 0 T.nd from ⟨(fun z=>absurd rfl z),(fun z=>absurd rfl z),(fun z=>absurd rfl z),(fun z=>absurd rfl z),(fun z=>absurd rfl z),(fun z=>absurd rfl z),(fun z=>absurd rfl z),(fun z=>absurd rfl z),(fun z=>absurd rfl z),(fun z=>absurd rfl z),trivial⟩) e hz
  ·exact bu (P:=fun (j:Nat) (x:Str)=>x≠("":Str)→∃ (k:Cl) (i:CI) (fI:Addr) (fd:FuncData) (ps:List Str) (Bx nwI iniI:String) (bmB:List Value),ExcBaseFacts Bx nwI iniI bmB∧fG K i.ad fI bmB nwI∧FnJ X 1 fI fd ps i.nm k i.ad∧bI K fd ps []∧eA K i.ad∧(∀ f∈i.nm,PySem.W.findIn K (.ref i.ad) f=some none)∧Γ.cl[j]? = some k∧X.W.ci[j]? = some i∧X.W.what[j]? = some 2∧i.nm.length=k.at_.length∧PySem.W.mroIn K i.ad (.type "BaseException")=some true∧PySem.W.typeIn K (.ref i.ad)=some (.type "type")∧PySem.W.keepIn K (.ref i.ad)=true∧mg x=some (.ref i.ad)∧k.at_.isEmpty=false) (show b5 _ 0 T.ex from ⟨(fun z=>absurd rfl z),(fun z=>absurd rfl z),(fun z=>absurd rfl z),(fun z=>absurd rfl z),(fun z=>absurd rfl z),(fun z=>absurd rfl z),(fun z=>absurd rfl z),(fun z=>absurd rfl z),(fun z=>absurd rfl z),(fun z=>absurd rfl z),trivial⟩) e hz
  ·exact bu (P:=fun (j:Nat) (x:Str)=>x≠("":Str)→ll X j x) (show b5 _ 0 T.hx from ⟨(fun _=>⟨⟨C_BlameError,_⟩,rfl,PySem.W.mg_of Y G yG.a,yG.ec,fun c k ic h1 h2 h3=>bu (P:=fun (c:Nat) (k:Cl)=>∀ ic,X.W.ci[c]? = some ic→X.W.what[c]? = some 2→PySem.W.mroIn K ic.ad (.ref C_BlameError)=some (c == 0 || k.sup.contains 0)) (show b5 _ 0 Γ.cl from ⟨(fun _ e _=>by cases e;exact T'.mr.at (by decide +kernel) yG.a yG.a),(fun _ e _=>by cases e;exact T'.mr.at (by decide +kernel) yL.a yG.a),(fun _ e _=>by cases e;exact T'.mr.at (by decide +kernel) yN.a yG.a),(fun _ e _=>by cases e;exact T'.mr.at (by decide +kernel) yI.a yG.a),(fun _ e _=>by cases e;exact T'.mr.at (by decide +kernel) yK.a yG.a),(fun _ e _=>by cases e;exact T'.mr.at (by decide +kernel) yH.a yG.a),(fun _ e _=>by cases e;exact T'.mr.at (by decide +kernel) yO.a yG.a),(fun _ e _=>by cases e;exact T'.mr.at (by decide +kernel) yJ.a yG.a),(fun _ e _=>by cases e;exact T'.mr.at (by decide +kernel) yM.a yG.a),(fun _ _ z=>absurd z (by show some 0≠some 2;decide)),trivial⟩) h1 ic h2 h3⟩),(fun _=>⟨⟨C_NoText,_⟩,rfl,PySem.W.mg_of Y G yL.a,yL.ec,fun c k ic h1 h2 h3=>bu (P:=fun (c:Nat) (k:Cl)=>∀ ic,X.W.ci[c]? = some ic→X.W.what[c]? = some 2→PySem.W.mroIn K ic.ad (.ref C_NoText)=some (c == 1 || k.sup.contains 1)) (show b5 _ 0 Γ.cl from ⟨(fun _ e _=>by cases e;exact T'.mr.at (by decide +kernel) yG.a yL.a),(fun _ e _=>by cases e;exact T'.mr.at (by decide +kernel) yL.a yL.a),(fun _ e _=>by cases e;exact T'.mr.at (by decide +kernel) yN.a yL.a),(fun _ e _=>by cases e;exact T'.mr.at (by decide +kernel) yI.a yL.a),(fun _ e _=>by cases e;exact T'.mr.at (by decide +kernel) yK.a yL.a),(fun _ e _=>by cases e;exact T'.mr.at (by decide +kernel) yH.a yL.a),(fun _ e _=>by cases e;exact T'.mr.at (by decide +kernel) yO.a yL.a),(fun _ e _=>by cases e;exact T'.mr.at (by decide +kernel) yJ.a yL.a),(fun _ e _=>by cases e;exact T'.mr.at (by decide +kernel) yM.a yL.a),(fun _ _ z=>absurd z (by show some 0≠some 2;decide)),trivial⟩) h1 ic h2 h3⟩),(fun _=>⟨⟨C_NoPart,_⟩,rfl,PySem.W.mg_of Y G yN.a,yN.ec,fun c k ic h1 h2 h3=>bu (P:=fun (c:Nat) (k:Cl)=>∀ ic,X.W.ci[c]? = some ic→X.W.what[c]? = some 2→PySem.W.mroIn K ic.ad (.ref C_NoPart)=some (c == 2 || k.sup.contains 2)) (show b5 _ 0 Γ.cl from ⟨(fun _ e _=>by cases e;exact T'.mr.at (by decide +kernel) yG.a yN.a),(fun _ e _=>by cases e;exact T'.mr.at (by decide +kernel) yL.a yN.a),(fun _ e _=>by cases e;exact T'.mr.at (by decide +kernel) yN.a yN.a),(fun _ e _=>by cases e;exact T'.mr.at (by decide +kernel) yI.a yN.a),(fun _ e _=>by cases e;exact T'.mr.at (by decide +kernel) yK.a yN.a),(fun _ e _=>by cases e;exact T'.mr.at (by decide +kernel) yH.a yN.a),(fun _ e _=>by cases e;exact T'.mr.at (by decide +kernel) yO.a yN.a),(fun _ e _=>by cases e;exact T'.mr.at (by decide +kernel) yJ.a yN.a),(fun _ e _=>by cases e;exact T'.mr.at (by decide +kernel) yM.a yN.a),(fun _ _ z=>absurd z (by show some 0≠some 2;decide)),trivial⟩) h1 ic h2 h3⟩),(fun _=>⟨⟨C_TooMany,_⟩,rfl,PySem.W.mg_of Y G yI.a,yI.ec,fun c k ic h1 h2 h3=>bu (P:=fun (c:Nat) (k:Cl)=>∀ ic,X.W.ci[c]? = some ic→X.W.what[c]? = some 2→PySem.W.mroIn K ic.ad (.ref C_TooMany)=some (c == 3 || k.sup.contains 3)) (show b5 _ 0 Γ.cl from ⟨(fun _ e _=>by cases e;exact T'.mr.at (by decide +kernel) yG.a yI.a),(fun _ e _=>by cases e;exact T'.mr.at (by decide +kernel) yL.a yI.a),(fun _ e _=>by cases e;exact T'.mr.at (by decide +kernel) yN.a yI.a),(fun _ e _=>by cases e;exact T'.mr.at (by decide +kernel) yI.a yI.a),(fun _ e _=>by cases e;exact T'.mr.at (by decide +kernel) yK.a yI.a),(fun _ e _=>by cases e;exact T'.mr.at (by decide +kernel) yH.a yI.a),(fun _ e _=>by cases e;exact T'.mr.at (by decide +kernel) yO.a yI.a),(fun _ e _=>by cases e;exact T'.mr.at (by decide +kernel) yJ.a yI.a),(fun _ e _=>by cases e;exact T'.mr.at (by decide +kernel) yM.a yI.a),(fun _ _ z=>absurd z (by show some 0≠some 2;decide)),trivial⟩) h1 ic h2 h3⟩),(fun _=>⟨⟨C_NoName,_⟩,rfl,PySem.W.mg_of Y G yK.a,yK.ec,fun c k ic h1 h2 h3=>bu (P:=fun (c:Nat) (k:Cl)=>∀ ic,X.W.ci[c]? = some ic→X.W.what[c]? = some 2→PySem.W.mroIn K ic.ad (.ref C_NoName)=some (c == 4 || k.sup.contains 4)) (show b5 _ 0 Γ.cl from ⟨(fun _ e _=>by cases e;exact T'.mr.at (by decide +kernel) yG.a yK.a),(fun _ e _=>by cases e;exact T'.mr.at (by decide +kernel) yL.a yK.a),(fun _ e _=>by cases e;exact T'.mr.at (by decide +kernel) yN.a yK.a),(fun _ e _=>by cases e;exact T'.mr.at (by decide +kernel) yI.a yK.a),(fun _ e _=>by cases e;exact T'.mr.at (by decide +kernel) yK.a yK.a),(fun _ e _=>by cases e;exact T'.mr.at (by decide +kernel) yH.a yK.a),(fun _ e _=>by cases e;exact T'.mr.at (by decide +kernel) yO.a yK.a),(fun _ e _=>by cases e;exact T'.mr.at (by decide +kernel) yJ.a yK.a),(fun _ e _=>by cases e;exact T'.mr.at (by decide +kernel) yM.a yK.a),(fun _ _ z=>absurd z (by show some 0≠some 2;decide)),trivial⟩) h1 ic h2 h3⟩),(fun _=>⟨⟨C_TooDeep,_⟩,rfl,PySem.W.mg_of Y G yH.a,yH.ec,fun c k ic h1 h2 h3=>bu (P:=fun (c:Nat) (k:Cl)=>∀ ic,X.W.ci[c]? = some ic→X.W.what[c]? = some 2→PySem.W.mroIn K ic.ad (.ref C_TooDeep)=some (c == 5 || k.sup.contains 5)) (show b5 _ 0 Γ.cl from ⟨(fun _ e _=>by cases e;exact T'.mr.at (by decide +kernel) yG.a yH.a),(fun _ e _=>by cases e;exact T'.mr.at (by decide +kernel) yL.a yH.a),(fun _ e _=>by cases e;exact T'.mr.at (by decide +kernel) yN.a yH.a),(fun _ e _=>by cases e;exact T'.mr.at (by decide +kernel) yI.a yH.a),(fun _ e _=>by cases e;exact T'.mr.at (by decide +kernel) yK.a yH.a),(fun _ e _=>by cases e;exact T'.mr.at (by decide +kernel) yH.a yH.a),(fun _ e _=>by cases e;exact T'.mr.at (by decide +kernel) yO.a yH.a),(fun _ e _=>by cases e;exact T'.mr.at (by decide +kernel) yJ.a yH.a),(fun _ e _=>by cases e;exact T'.mr.at (by decide +kernel) yM.a yH.a),(fun _ _ z=>absurd z (by show some 0≠some 2;decide)),trivial⟩) h1 ic h2 h3⟩),(fun _=>⟨⟨C_NoFit,_⟩,rfl,PySem.W.mg_of Y G yO.a,yO.ec,fun c k ic h1 h2 h3=>bu (P:=fun (c:Nat) (k:Cl)=>∀ ic,X.W.ci[c]? = some ic→X.W.what[c]? = some 2→PySem.W.mroIn K ic.ad (.ref C_NoFit)=some (c == 6 || k.sup.contains 6)) (show b5 _ 0 Γ.cl from ⟨(fun _ e _=>by cases e;exact T'.mr.at (by decide +kernel) yG.a yO.a),(fun _ e _=>by cases e;exact T'.mr.at (by decide +kernel) yL.a yO.a),(fun _ e _=>by cases e;exact T'.mr.at (by decide +kernel) yN.a yO.a),(fun _ e _=>by cases e;exact T'.mr.at (by decide +kernel) yI.a yO.a),(fun _ e _=>by cases e;exact T'.mr.at (by decide +kernel) yK.a yO.a),(fun _ e _=>by cases e;exact T'.mr.at (by decide +kernel) yH.a yO.a),(fun _ e _=>by cases e;exact T'.mr.at (by decide +kernel) yO.a yO.a),(fun _ e _=>by cases e;exact T'.mr.at (by decide +kernel) yJ.a yO.a),(fun _ e _=>by cases e;exact T'.mr.at (by decide +kernel) yM.a yO.a),(fun _ _ z=>absurd z (by show some 0≠some 2;decide)),trivial⟩) h1 ic h2 h3⟩),(fun _=>⟨⟨C_NoLook,_⟩,rfl,PySem.W.mg_of Y G yJ.a,yJ.ec,fun c k ic h1 h2 h3=>bu (P:=fun (c:Nat) (k:Cl)=>∀ ic,X.W.ci[c]? = some ic→X.W.what[c]? = some 2→PySem.W.mroIn K ic.ad (.ref C_NoLook)=some (c == 7 || k.sup.contains 7)) (show b5 _ 0 Γ.cl from ⟨(fun _ e _=>by cases e;exact T'.mr.at (by decide +kernel) yG.a yJ.a),(fun _ e _=>by cases e;exact T'.mr.at (by decide +kernel) yL.a yJ.a),(fun _ e _=>by cases e;exact T'.mr.at (by decide +kernel) yN.a yJ.a),(fun _ e _=>by cases e;exact T'.mr.at (by decide +kernel) yI.a yJ.a),(fun _ e _=>by cases e;exact T'.mr.at (by decide +kernel) yK.a yJ.a),(fun _ e _=>by cases e;exact T'.mr.at (by decide +kernel) yH.a yJ.a),(fun _ e _=>by cases e;exact T'.mr.at (by decide +kernel) yO.a yJ.a),(fun _ e _=>by cases e;exact T'.mr.at (by decide +kernel) yJ.a yJ.a),(fun _ e _=>by cases e;exact T'.mr.at (by decide +kernel) yM.a yJ.a),(fun _ _ z=>absurd z (by show some 0≠some 2;decide)),trivial⟩) h1 ic h2 h3⟩),(fun _=>⟨⟨C_Parted,_⟩,rfl,PySem.W.mg_of Y G yM.a,yM.ec,fun c k ic h1 h2 h3=>bu (P:=fun (c:Nat) (k:Cl)=>∀ ic,X.W.ci[c]? = some ic→X.W.what[c]? = some 2→PySem.W.mroIn K ic.ad (.ref C_Parted)=some (c == 8 || k.sup.contains 8)) (show b5 _ 0 Γ.cl from ⟨(fun _ e _=>by cases e;exact T'.mr.at (by decide +kernel) yG.a yM.a),(fun _ e _=>by cases e;exact T'.mr.at (by decide +kernel) yL.a yM.a),(fun _ e _=>by cases e;exact T'.mr.at (by decide +kernel) yN.a yM.a),(fun _ e _=>by cases e;exact T'.mr.at (by decide +kernel) yI.a yM.a),(fun _ e _=>by cases e;exact T'.mr.at (by decide +kernel) yK.a yM.a),(fun _ e _=>by cases e;exact T'.mr.at (by decide +kernel) yH.a yM.a),(fun _ e _=>by cases e;exact T'.mr.at (by decide +kernel) yO.a yM.a),(fun _ e _=>by cases e;exact T'.mr.at (by decide +kernel) yJ.a yM.a),(fun _ e _=>by cases e;exact T'.mr.at (by decide +kernel) yM.a yM.a),(fun _ _ z=>absurd z (by show some 0≠some 2;decide)),trivial⟩) h1 ic h2 h3⟩),(fun z=>absurd rfl z),trivial⟩) e hz
  ·exact bu (P:=fun (j:Nat) (x:Str)=>x≠("":Str)→RtP X j x) (show b5 _ 0 T.xt from ⟨(fun z=>absurd rfl z),(fun _=>⟨_,⟨C_NoText,_⟩,_,_,_,_,PySem.F.excBase_ValueError,ot_NoText,rfl,rfl,rfl,rfl,PySem.W.mg_of Y G yL.a⟩),(fun z=>absurd rfl z),(fun z=>absurd rfl z),(fun z=>absurd rfl z),(fun z=>absurd rfl z),(fun z=>absurd rfl z),(fun z=>absurd rfl z),(fun z=>absurd rfl z),(fun z=>absurd rfl z),trivial⟩) e hz
  ·exact fun c k ic h1 h2 h3=>bu (P:=fun (c:Nat) (k:Cl)=>∀ ic,X.W.ci[c]? = some ic→X.W.what[c]? = some 2→PySem.W.mroIn K ic.ad (.type "ValueError")=some (k.sup.contains 1000)) (show b5 _ 0 Γ.cl from ⟨(fun _ e _=>by cases e;exact T'.vx.at (by decide +kernel) yG.a),(fun _ e _=>by cases e;exact T'.vx.at (by decide +kernel) yL.a),(fun _ e _=>by cases e;exact T'.vx.at (by decide +kernel) yN.a),(fun _ e _=>by cases e;exact T'.vx.at (by decide +kernel) yI.a),(fun _ e _=>by cases e;exact T'.vx.at (by decide +kernel) yK.a),(fun _ e _=>by cases e;exact T'.vx.at (by decide +kernel) yH.a),(fun _ e _=>by cases e;exact T'.vx.at (by decide +kernel) yO.a),(fun _ e _=>by cases e;exact T'.vx.at (by decide +kernel) yJ.a),(fun _ e _=>by cases e;exact T'.vx.at (by decide +kernel) yM.a),(fun _ _ z=>absurd z (by show some 0≠some 2;decide)),trivial⟩) h1 ic h2 h3
 obtain ⟨f,h1,h2⟩:=mC hG (j:=18) (x:="law") rfl
 rw [hfa] at h2
 cases h2
 exact ⟨X,rfl,rfl,rfl,rfl,rfl,rfl,rfl,rfl,ik Pg 250 18 fa (List.getElem?_append_left (List.getElem?_eq_some_iff.mp h1).1 ▸ h1)⟩
theorem walk {l:PySem.W.OpenLaw} {q:Program} {loose:List Str} {XP:(Str→Option Value)→Heap→Prop} {YP:World→Heap→Prop} {d:DefRec} {K:Params→Fg} (hn:l.most=some 63) (hdf:d.params.defaults = []) (hd:d.name = "law")
 (hY:∀ (w:World) (h:Heap),YP w h→(K w.params).In h) (F:∀ (w:World) (h:Heap) (Y:(K w.params).In h),Txt (KOf Y)):PySem.W.WalkO q loose XP YP l.row.toRowW d [] (fun f vs=>PySem.call f vs):=
 rY (n:=63) hn (by decide) hdf ⟨rfl,by decide,by decide⟩ hY (fun w mg fa h os Y G e md=>tD Y G (hd ▸ e) (F w h Y)) (fun ns h=>uc ns h)
end L2.K13
end
section
open PySem PySem.W PyProof.Rows
namespace PySem.W.Fast
def tw4986940105213368986:Nat:=0
def tw6697766272540850876:Nat:=0
def tw4851981407551658070:Nat:=0
def tw11768069299011702997:Nat:=0
def tw458043093495735105:Nat:=0
def tw4696225398100572664:Nat:=0
def tw7777848675304764700:Nat:=0
def tw1440657019919102555:Nat:=0
def tw7450914680971423197:Nat:=0
def tw11015451073763599169:Nat:=0
def tw6023691720903144045:Nat:=0
def tw11198246671823542950:Nat:=0
def tw15814292963768422205:Nat:=0
def tw15802966148496417044:Nat:=0
def tw3811336522809904230:Nat:=0
def tw4134066487683977692:Nat:=0
def tw16971185698588184412:Nat:=0
def tw8750140375363616370:Nat:=0
def tw487683660956182419:Nat:=0
def tw16885899548346987749:Nat:=0
def tw11044644757242081283:Nat:=0
def tw6221726204235020570:Nat:=0
def tw18005450616130527222:Nat:=0
def tw16901720378740378459:Nat:=0
def tw8511219230333041554:Nat:=0
def tw12057298652422859422:Nat:=0
def tw12003507044126771047:Nat:=0
def tw8262311032424486867:Nat:=0
def tw3751727816078418228:Nat:=0
def tw1099924618880038024:Nat:=0
def tw10945927268441697975:Nat:=0
def tw7569827499793049161:Nat:=0
def tw10683266131501715161:Nat:=0
def tw12907414953982076237:Nat:=0
def tw3279608084073803303:Nat:=0
def tw5326740889327415164:Nat:=0
def tw9942468611162026830:Nat:=0
def tw1757279340630763489:Nat:=0
def tw15614387865227154131:Nat:=0
def tw18022490433232262483:Nat:=0
def tw10541019831271748541:Nat:=0
def tw3238433187514271572:Nat:=0
def tw4942516979908608304:Nat:=0
def tw2372372450021867067:Nat:=0
def tw10060771149587494750:Nat:=0
def tw6734316530748450428:Nat:=0
def tw10964728805602936803:Nat:=0
def tw8665233725440815260:Nat:=0
def tw17110084568403002420:Nat:=0
def tw11475484047724876161:Nat:=0
def tw6387974662384716753:Nat:=0
def tw5159283897168510899:Nat:=0
def tw3239013929346618714:Nat:=0
def tw1730246156597193134:Nat:=0
def tw1405153737027155281:Nat:=0
def tw3801431493454139907:Nat:=0
def tw13180538719678865015:Nat:=0
def tw14277423652143216648:Nat:=0
def tw17071125137745629098:Nat:=0
def tw6755350375312279373:Nat:=0
def tw4079166439512772672:Nat:=0
def tw10552357300786277777:Nat:=0
def tw8131170835877215518:Nat:=0
def tw16807456656339335848:Nat:=0
def tw7567259429527473180:Nat:=0
def tw4820711856841936209:Nat:=0
def tw16600181450803151075:Nat:=0
def tw9796152244864433208:Nat:=0
def tw6521479801862871882:Nat:=0
def tw18112026563797157629:Nat:=0
def tw8948901603223446186:Nat:=0
def tw1048759445287217828:Nat:=0
def tw15307031926918532413:Nat:=0
def tw6198793899515155576:Nat:=0
def tw18210988657314177014:Nat:=0
def tw2914597257486581502:Nat:=0
def tw463279932105808440:Nat:=0
def tw17484204435033897435:Nat:=0
def tw13816000789370991126:Nat:=0
def tw9298384807772117935:Nat:=0
def tw14851830374692123441:Nat:=0
def tw8966969389217649111:Nat:=0
def tw6448509976102918607:Nat:=0
def tw2667902260274635275:Nat:=0
def tw6305978927903238413:Nat:=0
def tw17311759367592024844:Nat:=0
def tw829978785638465719:Nat:=0
def tw8461278267129993015:Nat:=0
def tw15115533733768028303:Nat:=0
def tw6119413677099639977:Nat:=0
def tw5800027863888420207:Nat:=0
def tw13656956618304146123:Nat:=0
def tw1880126925890546336:Nat:=0
def tw9893713617627785671:Nat:=0
def tw4862417403686033061:Nat:=0
def tw3949393921184192873:Nat:=0
def tw16118532676239683819:Nat:=0
def tw17018426450016305053:Nat:=0
def tw14004541470695045521:Nat:=0
def tw16410862684079648455:Nat:=0
def tw13069088822172906831:Nat:=0
def tw1174424929771379420:Nat:=0
def tw8591835444444400868:Nat:=0
def tw3425105981291065224:Nat:=0
def tw15116936195667807133:Nat:=0
def tw4717131811894886141:Nat:=0
def tw8428674192848819193:Nat:=0
def tw10498850139521821227:Nat:=0
def tw459793175466276643:Nat:=0
def tw3687975521928328890:Nat:=0
def tw17474814756991381688:Nat:=0
def tw10995072787672526312:Nat:=0
def tw16020448890386125870:Nat:=0
def tw578647148854952349:Nat:=0
def tw9655570114088228949:Nat:=0
def tw12379699246158561521:Nat:=0
def tw5274647333186777016:Nat:=0
def tw9948695913026177963:Nat:=0
def tw7342717179252862909:Nat:=0
def tw2980125461529042902:Nat:=0
def tw14703528694116171064:Nat:=0
def tw17364770166933391281:Nat:=0
def tw9852667758438108409:Nat:=0
def tw7642155562942313154:Nat:=0
def tw6472133211718094421:Nat:=0
def tw6027489290894073816:Nat:=0
def tw4457320325091255496:Nat:=0
def tw2987214994475068332:Nat:=0
def tw13922959523095636584:Nat:=0
def tw10426186546997589302:Nat:=0
def tw6084276802400021191:Nat:=0
def tw10695068485896999465:Nat:=0
def tw4762881629554503073:Nat:=0
def tw1373165424956957519:Nat:=0
def tw6862034027690433024:Nat:=0
def tw7584721809675014796:Nat:=0
def tw7560014868491508105:Nat:=0
def tw4722430724888230895:Nat:=0
def tw2668575148779437533:Nat:=0
def tw16977143058701826637:Nat:=0
def tw16827144507894733721:Nat:=0
def tw10740112795796016083:Nat:=0
def tw5411113608739320870:Nat:=0
def tw3075781543810915885:Nat:=0
def tw13256152879553946198:Nat:=0
def tw5282216315231141607:Nat:=0
def tw7225428342864033743:Nat:=0
def tw9417022344097396448:Nat:=0
def tw8872351845319503377:Nat:=0
def tw9316848081948255654:Nat:=0
def tw12767242936207531145:Nat:=0
def tw10530248720824559870:Nat:=0
def tw12746469574453051973:Nat:=0
def tw9251108644274495018:Nat:=0
def tw9245167143080699261:Nat:=0
def tw3109614258496657364:Nat:=0
def tw12674618845818453064:Nat:=0
def tw7439497842190863295:Nat:=0
def tw10739423445904000441:Nat:=0
def tw4965336331267056053:Nat:=0
def tw8436065022416987223:Nat:=0
def tw16800579592512058622:Nat:=0
def tw8032282107003979981:Nat:=0
def tw9476362773846556178:Nat:=0
def tw6830069542235409551:Nat:=0
def tw5987665140237175097:Nat:=0
def tw11072565087617213009:Nat:=0
def tw7575836942018330023:Nat:=0
def tw5866393729844351737:Nat:=0
def tw12487884330505141479:Nat:=0
def tw18119877437264112200:Nat:=0
def tw1456561572525619236:Nat:=0
def tw17896280943862676925:Nat:=0
def tw15950406795381556875:Nat:=0
def tw5367657712821185573:Nat:=0
def tw1098650042557360434:Nat:=0
def tw3182505305995871292:Nat:=0
def tw6805491373486610499:Nat:=0
def tw11216971620282957248:Nat:=0
def tw9907940069390357270:Nat:=0
def tw6668696029201801943:Nat:=0
def tw6048238847671237587:Nat:=0
def tw5201715469388210660:Nat:=0
def tw4596127401619627827:Nat:=0
def tw16371410808808411545:Nat:=0
def tw15830918017253897137:Nat:=0
def tw14767407060088412976:Nat:=0
def tw13012478561464804945:Nat:=0
def tw11225837363243717096:Nat:=0
def tw10233782894400406249:Nat:=0
def tw10086961387893588433:Nat:=0
def tw4051646122664839179:Nat:=0
def tw4490768783000422199:Nat:=0
def tw14541138430927984084:Nat:=0
def tw9065808629198604826:Nat:=0
def tw8990478976830366764:Nat:=0
def tw2427126171624825789:Nat:=0
def tw12819158416358854410:Nat:=0
def tw7320349746455161980:Nat:=0
def tw7891429972447452601:Nat:=0
def tw1946235864707947837:Nat:=0
def tw4989722213722203440:Nat:=0
def tw4471377737949617597:Nat:=0
def tw14624902864720506081:Nat:=0
def tw9246832796320225096:Nat:=0
def tw767698664538660731:Nat:=0
def tw7412361022334263246:Nat:=0
def tw681270641809802917:Nat:=0
def tw5130129922487870838:Nat:=0
def tw4072345114987515433:Nat:=0
def tw2891074159053435183:Nat:=0
def tw2368723923092780914:Nat:=0
def tw2091066073538173329:Nat:=0
def tw16989726783639219267:Nat:=0
def tw16171834808846779190:Nat:=0
def tw15392819357924202595:Nat:=0
def tw15146514141069155546:Nat:=0
def tw13801180439111052468:Nat:=0
def tw12862739539942968313:Nat:=0
def tw1092668689286861323:Nat:=0
def tw9635293550641980464:Nat:=0
def tw2251665873748361070:Nat:=0
def tw15652983104509803413:Nat:=0
def tw14062933393984140486:Nat:=0
def tw16527580753974125934:Nat:=0
def tw28806570458742354:Nat:=0
def tw10615597853204360330:Nat:=0
def tw8649426646662075536:Nat:=0
def tw7239117835956901227:Nat:=0
def tw4585886354534170545:Nat:=0
def tw3219347109329772851:Nat:=0
def tw2953735305091434064:Nat:=0
def tw18100176973871744092:Nat:=0
def tw17379517599436673649:Nat:=0
def tw15062842758992912625:Nat:=0
def tw12784421628433140389:Nat:=0
def tw12378760624233322398:Nat:=0
def tw11472585450443176938:Nat:=0
def tw11374999708705106587:Nat:=0
def tw2244475517157803161:Nat:=0
def tw10689754981213470104:Nat:=0
def tw1665562468190137450:Nat:=0
def tw7826749665833445764:Nat:=0
def tw6575134042196761754:Nat:=0
def tw15696412235676698228:Nat:=0
def tw7405227196890609130:Nat:=0
def tw7262967990586424876:Nat:=0
def tw4743939749648434408:Nat:=0
def tw4002587075206405840:Nat:=0
def tw3686624521992329399:Nat:=0
def tw3148388505076183084:Nat:=0
def tw2009680621863590519:Nat:=0
def tw1692701073203329399:Nat:=0
def tw1306766507892021175:Nat:=0
def tw11428828140810073090:Nat:=0
def tw10173176952095840786:Nat:=0
def tw7744160263516317360:Nat:=0
def tw17668763527335080124:Nat:=0
def tw15846709529505802556:Nat:=0
def tw11213326220925475898:Nat:=0
def tw8396315185320166617:Nat:=0
def tw7272703507713729030:Nat:=0
def tw4996957991232668637:Nat:=0
def tw3589779673919190491:Nat:=0
def tw16878293699978840976:Nat:=0
def tw12629826039467823786:Nat:=0
def tw11688157036558052685:Nat:=0
def tw773216929645828003:Nat:=0
def tw5872960570416596100:Nat:=0
def tw3741004418853606226:Nat:=0
def tw11201903171366491904:Nat:=0
def tw10042315438915418227:Nat:=0
def tw6259304602351389524:Nat:=0
def tw2042248223215562589:Nat:=0
def tw1876307294933978845:Nat:=0
def tw1814379580201346648:Nat:=0
def tw13245599392514085835:Nat:=0
def tw11583459534226891630:Nat:=0
def tw8667301195225073992:Nat:=0
def tw7692508585223962785:Nat:=0
def tw3186840377320519010:Nat:=0
def tw18122878077814884346:Nat:=0
def tw17612694473722575025:Nat:=0
def tw17405342158243442284:Nat:=0
def tw11659126227476531663:Nat:=0
def tw997714318711390661:Nat:=0
def tw9735190169065427599:Nat:=0
def tw8900812290952003106:Nat:=0
def tw8696959129589410724:Nat:=0
def tw6142897372349442638:Nat:=0
def tw4634528470864458209:Nat:=0
def tw4483208072116938881:Nat:=0
def tw4457642817528688322:Nat:=0
def tw4201634196786256406:Nat:=0
def tw3745277711974150124:Nat:=0
def tw3036822273664445931:Nat:=0
def tw298782575706408901:Nat:=0
def tw2702379042551323119:Nat:=0
def tw18166682893239153566:Nat:=0
def tw16028685536328846101:Nat:=0
def tw15323514479549024340:Nat:=0
def tw14543547986178491568:Nat:=0
def tw14319567462096368351:Nat:=0
def tw13949772604956798390:Nat:=0
def tw13666045898461570558:Nat:=0
def tw13339023737799173624:Nat:=0
def tw13040119114267417758:Nat:=0
def tw12684251162531327353:Nat:=0
def tw11386088817400361667:Nat:=0
def tw11190620841388087159:Nat:=0
def tw11092552587471578584:Nat:=0
def tw10703596696832597640:Nat:=0
def tw10130757378638492373:Nat:=0
def tw287662218064880050:Nat:=0
def tw16667756092619838246:Nat:=0
def tw9964223205067799455:Nat:=0
def tw9787406300741354371:Nat:=0
def tw9534109136165099624:Nat:=0
def tw936397567462499849:Nat:=0
def tw9214722048104414290:Nat:=0
def tw8987183373713060618:Nat:=0
def tw838694679574996335:Nat:=0
def tw8222992569939030281:Nat:=0
def tw8112790693682193356:Nat:=0
def tw7923584415364719794:Nat:=0
def tw7777266065895744304:Nat:=0
def tw7254012583741226962:Nat:=0
def tw7172784260041548087:Nat:=0
def tw6787523782438399048:Nat:=0
def tw6691190150783344183:Nat:=0
def tw664806439994969088:Nat:=0
def tw6500445088016857464:Nat:=0
def tw6097989112174527278:Nat:=0
def tw5990867845855190757:Nat:=0
def tw4925698466773995716:Nat:=0
def tw4840328227684470199:Nat:=0
def tw4681050583037953241:Nat:=0
def tw4659134824603286196:Nat:=0
def tw434192074608524684:Nat:=0
def tw4320389643703673859:Nat:=0
def tw4254846272972991305:Nat:=0
def tw3957820220572949312:Nat:=0
def tw3815418929127417890:Nat:=0
def tw2861557826155658144:Nat:=0
def tw2751121320863893087:Nat:=0
def tw2340853322934476226:Nat:=0
def tw1953429745308677552:Nat:=0
def tw18352991592598732282:Nat:=0
def tw18211731754154625881:Nat:=0
def tw17957075599822166449:Nat:=0
def tw16989397000839572756:Nat:=0
def tw16773919052704227649:Nat:=0
def tw16713145784943759014:Nat:=0
def tw16595329495396415313:Nat:=0
def tw16416257451530400131:Nat:=0
def tw15984909657291317294:Nat:=0
def tw15966804668611853047:Nat:=0
def tw15505725870425876931:Nat:=0
def tw15277544444030790416:Nat:=0
def tw15071683327109545793:Nat:=0
def tw14728137877238568231:Nat:=0
def tw14522168969577268690:Nat:=0
def tw13775385275255966855:Nat:=0
def tw13744985285776684949:Nat:=0
def tw13623820352569044465:Nat:=0
def tw13579271571708716023:Nat:=0
def tw13147516694037132009:Nat:=0
def tw1257246126715301984:Nat:=0
def tw12490068638811248611:Nat:=0
def tw12397338554408452951:Nat:=0
def tw12218030939005626866:Nat:=0
def tw11964283263223509656:Nat:=0
def tw1184444473658139749:Nat:=0
def tw11793469972864063000:Nat:=0
def tw11489061023298485714:Nat:=0
def tw1110133260816545509:Nat:=0
def tw1102257894920174724:Nat:=0
def tw1085574778886506866:Nat:=0
def tw10641763449236639587:Nat:=0
def tw10590517511491447291:Nat:=0
def tw10528807377258865660:Nat:=0
def tw10370095783316985471:Nat:=0
def tw10103198170799661830:Nat:=0
end PySem.W.Fast
set_option maxRecDepth 100000 in
set_option maxHeartbeats 0 in
theorem PySem.Challenge.cw_blamewise_k13_kinds_written_holds : PySem.Challenge.rw_blamewise_k13_kinds_written.Holds := by
 w_on;o_law;k_head;(case hw=>w_witness2)
 k_fill
 refine L2.K13.walk (l:=PySem.Challenge.rw_blamewise_k13_kinds_written) rfl rfl rfl (fun w h Y=>PySem.W.kIn_of Y) ?F
 case F=>
  intro w h KX
  dsimp only [L2.Ev.KOf]
  refine' L2.K13.Txt.mk ?fn ?gl ?tl ?bl ?mr ?vx ?bi_BlameError ?x_BlameError ?x_NoText ?x_NoPart ?x_TooMany ?x_NoName ?x_TooDeep ?x_NoFit ?x_NoLook ?x_Parted ?x_Reader
  (case fn=>(repeat (first | (apply L2.Ev.hl_cons;(case a=>k_is);(case l=>k_is);(case c=>k_is);(case k=>k_is);(case d=>kernel_rfl)) | (apply L2.Ev.hl_consD;(case a=>k_is);(case l=>k_is);(case c=>k_is);(case k=>k_is);(case g=>k_is);(case d=>kernel_rfl))));exact trivial)
  (case gl=>(repeat (apply L2.Ev.gl_cons;(case a=>k_is);(case b=>kernel_rfl)));exact trivial)
  (case tl=>(repeat (apply L2.Ev.tb_cons;(case a=>k_is);(case b=>kernel_rfl)));exact trivial)
  (case bl=>(repeat (apply L2.Ev.nl_cons;(case a=>k_is)));exact trivial)
  (case mr=>(repeat (apply L2.Ev.mr_cons;(case a=>k_is);(case b=>k_is);(case c=>k_is)));exact trivial)
  (case vx=>(repeat (apply L2.Ev.vx_cons;(case a=>k_is);(case b=>k_is)));exact trivial)
  (case bi_BlameError=>(refine' ⟨_,?bi0,?bi1,?bi2,?bi3⟩;(case bi0=>k_is);(case bi1=>k_is);(case bi2=>k_is);(case bi3=>k_is)))
  (case x_BlameError=>(refine' ⟨_,L2.Ev.xb_mk ?a ?ga ?gn ?cl ?sg ?tk ?ob ?be ?is ?tyC ?hh,trivial⟩;(case a=>k_is);(case ga=>k_is);(case gn=>k_is);(case cl=>k_is);(case sg=>k_is);(case tk=>k_is);(case ob=>k_is);(case be=>k_is);(case is=>kernel_rfl);(case tyC=>k_is);(case hh=>k_is)))
  (case x_NoText=>(refine' ⟨_,L2.Ev.xb_mk ?a ?ga ?gn ?cl ?sg ?tk ?ob ?be ?is ?tyC ?hh,L2.Ev.ot_mk ?ol ?oo ?oi ?ot,trivial⟩;(case a=>k_is);(case ol=>k_is);(case oo=>kernel_rfl);(case oi=>k_is);(case ot=>kernel_rfl);(case ga=>k_is);(case gn=>k_is);(case cl=>k_is);(case sg=>k_is);(case tk=>k_is);(case ob=>k_is);(case be=>k_is);(case is=>kernel_rfl);(case tyC=>k_is);(case hh=>k_is)))
  (case x_NoPart=>(refine' ⟨_,L2.Ev.xb_mk ?a ?ga ?gn ?cl ?sg ?tk ?ob ?be ?is ?tyC ?hh,trivial⟩;(case a=>k_is);(case ga=>k_is);(case gn=>k_is);(case cl=>k_is);(case sg=>k_is);(case tk=>k_is);(case ob=>k_is);(case be=>k_is);(case is=>kernel_rfl);(case tyC=>k_is);(case hh=>k_is)))
  (case x_TooMany=>(refine' ⟨_,L2.Ev.xb_mk ?a ?ga ?gn ?cl ?sg ?tk ?ob ?be ?is ?tyC ?hh,trivial⟩;(case a=>k_is);(case ga=>k_is);(case gn=>k_is);(case cl=>k_is);(case sg=>k_is);(case tk=>k_is);(case ob=>k_is);(case be=>k_is);(case is=>kernel_rfl);(case tyC=>k_is);(case hh=>k_is)))
  (case x_NoName=>(refine' ⟨_,_,L2.Ev.xc_mk ?a ?l ?tq ?ini ?fl ?fn ?fc ?fk ?ga ?gn ?cl ?sg ?tk ?ob ?be ?is ?kp ?tyC ?sa ?ov ?hdc ?hh ?me,?n0,trivial⟩;(case a=>k_is);(case l=>k_is);(case tq=>kernel_rfl);(case ini=>k_is);(case fl=>k_is);(case fn=>k_is);(case fc=>k_is);(case fk=>k_is);(case ga=>k_is);(case gn=>k_is);(case cl=>k_is);(case sg=>k_is);(case tk=>k_is);(case ob=>k_is);(case be=>k_is);(case is=>kernel_rfl);(case kp=>k_is);(case tyC=>k_is);(case sa=>k_is);(case ov=>kernel_rfl);(case hdc=>kernel_rfl);(case hh=>k_is);(case me=>k_is);(case n0=>k_is)))
  (case x_TooDeep=>(refine' ⟨_,_,L2.Ev.xc_mk ?a ?l ?tq ?ini ?fl ?fn ?fc ?fk ?ga ?gn ?cl ?sg ?tk ?ob ?be ?is ?kp ?tyC ?sa ?ov ?hdc ?hh ?me,?n0,trivial⟩;(case a=>k_is);(case l=>k_is);(case tq=>kernel_rfl);(case ini=>k_is);(case fl=>k_is);(case fn=>k_is);(case fc=>k_is);(case fk=>k_is);(case ga=>k_is);(case gn=>k_is);(case cl=>k_is);(case sg=>k_is);(case tk=>k_is);(case ob=>k_is);(case be=>k_is);(case is=>kernel_rfl);(case kp=>k_is);(case tyC=>k_is);(case sa=>k_is);(case ov=>kernel_rfl);(case hdc=>kernel_rfl);(case hh=>k_is);(case me=>k_is);(case n0=>k_is)))
  (case x_NoFit=>(refine' ⟨_,_,L2.Ev.xc_mk ?a ?l ?tq ?ini ?fl ?fn ?fc ?fk ?ga ?gn ?cl ?sg ?tk ?ob ?be ?is ?kp ?tyC ?sa ?ov ?hdc ?hh ?me,?n0,trivial⟩;(case a=>k_is);(case l=>k_is);(case tq=>kernel_rfl);(case ini=>k_is);(case fl=>k_is);(case fn=>k_is);(case fc=>k_is);(case fk=>k_is);(case ga=>k_is);(case gn=>k_is);(case cl=>k_is);(case sg=>k_is);(case tk=>k_is);(case ob=>k_is);(case be=>k_is);(case is=>kernel_rfl);(case kp=>k_is);(case tyC=>k_is);(case sa=>k_is);(case ov=>kernel_rfl);(case hdc=>kernel_rfl);(case hh=>k_is);(case me=>k_is);(case n0=>k_is)))
  (case x_NoLook=>(refine' ⟨_,_,L2.Ev.xc_mk ?a ?l ?tq ?ini ?fl ?fn ?fc ?fk ?ga ?gn ?cl ?sg ?tk ?ob ?be ?is ?kp ?tyC ?sa ?ov ?hdc ?hh ?me,?n0,trivial⟩;(case a=>k_is);(case l=>k_is);(case tq=>kernel_rfl);(case ini=>k_is);(case fl=>k_is);(case fn=>k_is);(case fc=>k_is);(case fk=>k_is);(case ga=>k_is);(case gn=>k_is);(case cl=>k_is);(case sg=>k_is);(case tk=>k_is);(case ob=>k_is);(case be=>k_is);(case is=>kernel_rfl);(case kp=>k_is);(case tyC=>k_is);(case sa=>k_is);(case ov=>kernel_rfl);(case hdc=>kernel_rfl);(case hh=>k_is);(case me=>k_is);(case n0=>k_is)))
  (case x_Parted=>(refine' ⟨_,_,L2.Ev.xc_mk ?a ?l ?tq ?ini ?fl ?fn ?fc ?fk ?ga ?gn ?cl ?sg ?tk ?ob ?be ?is ?kp ?tyC ?sa ?ov ?hdc ?hh ?me,?n0,?n1,?n2,?n3,?n4,trivial⟩;(case a=>k_is);(case l=>k_is);(case tq=>kernel_rfl);(case ini=>k_is);(case fl=>k_is);(case fn=>k_is);(case fc=>k_is);(case fk=>k_is);(case ga=>k_is);(case gn=>k_is);(case cl=>k_is);(case sg=>k_is);(case tk=>k_is);(case ob=>k_is);(case be=>k_is);(case is=>kernel_rfl);(case kp=>k_is);(case tyC=>k_is);(case sa=>k_is);(case ov=>kernel_rfl);(case hdc=>kernel_rfl);(case hh=>k_is);(case me=>k_is);(case n0=>k_is);(case n1=>k_is);(case n2=>k_is);(case n3=>k_is);(case n4=>k_is)))
  (case x_Reader=>(refine' ⟨_,_,_,_,_,_,_,L2.Ev.cc_mk ?a ?pg ?hd ?po ?sa ?mk ?kp,⟨?n0,?n1,?n2,trivial⟩,L2.Ev.me_mk ?at0 ?fl0 ?fn0 ?fc0 ?fk0,L2.Ev.me_mk ?at1 ?fl1 ?fn1 ?fc1 ?fk1,L2.Ev.me_mk ?at2 ?fl2 ?fn2 ?fc2 ?fk2,L2.Ev.me_mk ?at3 ?fl3 ?fn3 ?fc3 ?fk3,L2.Ev.me_mk ?at4 ?fl4 ?fn4 ?fc4 ?fk4,L2.Ev.me_mk ?at5 ?fl5 ?fn5 ?fc5 ?fk5⟩;(case a=>k_is);(case pg=>k_is);(case hd=>k_is);(case po=>k_is);(case sa=>k_is);(case mk=>k_is);(case kp=>k_is);(case n0=>k_is);(case n1=>k_is);(case n2=>k_is);(case at0=>k_is);(case fl0=>k_is);(case fn0=>k_is);(case fc0=>k_is);(case fk0=>k_is);(case at1=>k_is);(case fl1=>k_is);(case fn1=>k_is);(case fc1=>k_is);(case fk1=>k_is);(case at2=>k_is);(case fl2=>k_is);(case fn2=>k_is);(case fc2=>k_is);(case fk2=>k_is);(case at3=>k_is);(case fl3=>k_is);(case fn3=>k_is);(case fc3=>k_is);(case fk3=>k_is);(case at4=>k_is);(case fl4=>k_is);(case fn4=>k_is);(case fc4=>k_is);(case fk4=>k_is);(case at5=>k_is);(case fl5=>k_is);(case fn5=>k_is);(case fc5=>k_is);(case fk5=>k_is)))
end
