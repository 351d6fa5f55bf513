import PyProof.Rows.All
import Wide.All
import OpenK.AllK
import Wide.FinOn
import Lean
import PyProof.EqAt
import PyProof.EqKinds
import PyProof.TupleCall
import PyProof.ListMulRoad
import KE.KDictOf
import KE.LcSums
import PyProof.StrWalks
import KE.KTabLook
import PySem.Challenge.RW_blamewise_k68_whole_plain_by_a_model
open PySem PySem.Spec PyProof.Rows
set_option compiler.extract_closed false
noncomputable section
local macro_rules|`($d:declaration)=>do let r:=d.raw;let k:=r[1].getKind;if (k==`Lean.Parser.Command.definition||k==`Lean.Parser.Command.abbrev)&&r[0][4].getNumArgs==0 then return r.setArg 0 (r[0].setArg 4 (Lean.mkNullNode #[Lean.mkNode `Lean.Parser.Command.noncomputable #[Lean.mkAtom "noncomputable"]])) else Lean.Macro.throwUnsupported
set_option hygiene false
local macro_rules|`($a<|>$b)=>`(A $a $b)
abbrev Fg:=PySem.W.Frag
abbrev NK:=List (Str×NameKind)
set_option Elab.async false
set_option linter.all false
set_option maxRecDepth 100000
set_option maxHeartbeats 8000000
set_option Elab.async false
set_option linter.all false
set_option maxRecDepth 100000
namespace L2
abbrev Key:=Sum Int Str
def gP:Key→Value→Bool
 | .inl k,v=>Value.isInt k v
 | .inr x,v=>Value.isStrOf x v
def ye (w:World):Key→Int
 | .inl k=>hashInt k
 | .inr x=>hashStr w x
theorem aB:∀ {k} {v},gP k v=true→(∃ i t,k=Sum.inl i∧v=Value.int i t)∨(∃ x t,k=Sum.inr x∧v=Value.str x t)
 | .inl i,v,h=>by
   obtain ⟨t,e⟩:=Value.isInt_shape (k:=i) (v:=v) h
   exact .inl ⟨i,t,rfl,e⟩
 | .inr x,v,h=>by
   obtain ⟨t,e⟩:=Value.isStrOf_shape (x:=x) (v:=v) h
   exact .inr ⟨x,t,rfl,e⟩
theorem mQ (i) (t):gP (.inl i) (.int i t)=true:=by simp [gP,Value.isInt]
theorem mR (x) (t):gP (.inr x) (.str x t)=true:=by simp [gP,Value.isStrOf]
theorem ul (a b):decide ((Sum.inl a:Key)=Sum.inl b)=(a == b):=by
 by_cases e:a=b
 ·subst e;simp
 ·have h:¬ (Sum.inl a:Key)=Sum.inl b:=fun q=>e (Sum.inl.inj q)
  rw [decide_eq_false h]
  exact (beq_eq_false_iff_ne.mpr e).symm
theorem uq (a b):decide ((Sum.inr a:Key)=Sum.inr b)=decide (a=b):=by
 by_cases e:a=b
 ·subst e;simp
 ·have h:¬ (Sum.inr a:Key)=Sum.inr b:=fun q=>e (Sum.inr.inj q)
  rw [decide_eq_false h,decide_eq_false e]
theorem um (a) (b):decide ((Sum.inl a:Key)=Sum.inr b)=false:=decide_eq_false (fun q=>nomatch q)
theorem uo (a) (b):decide ((Sum.inr a:Key)=Sum.inl b)=false:=decide_eq_false (fun q=>nomatch q)
def aI (prog:Program) (w:World):PySem.KeyKind prog w Key where
 is:=gP
 hash:=ye w
 inj:=fun v a b ha hb=>by
  rcases aB ha with ⟨i,t,rfl,rfl⟩ | ⟨x,t,rfl,rfl⟩
  ·rcases aB hb with ⟨j,u,rfl,e⟩ | ⟨y,u,rfl,e⟩
   ·injection e with e1 _;rw [e1]
   ·exact nomatch e
  ·rcases aB hb with ⟨j,u,rfl,e⟩ | ⟨y,u,rfl,e⟩
   ·exact nomatch e
   ·injection e with e1 _;rw [e1]
 byValue:=fun k v h=>by
  rcases aB h with ⟨i,t,rfl,rfl⟩ | ⟨x,t,rfl,rfl⟩ <;> rfl
 pyHash:=fun hv h=>by
  rcases aB hv with ⟨i,t,rfl,rfl⟩ | ⟨x,t,rfl,rfl⟩
  ·exact wpAny_pyHash_int h
  ·exact wpAny_pyHash_str h
 eqBool:=fun hu hv h=>by
  rcases aB hu with ⟨i,t,rfl,rfl⟩ | ⟨x,t,rfl,rfl⟩
  ·rcases aB hv with ⟨j,u,rfl,rfl⟩ | ⟨y,u,rfl,rfl⟩
   ·rw [ul] at h;exact wpAny_eqBool_int h
   ·rw [um] at h;exact SeqAt.EqAt.int_str i t y u _ _ _ _ h
  ·rcases aB hv with ⟨j,u,rfl,rfl⟩ | ⟨y,u,rfl,rfl⟩
   ·rw [uo] at h;exact SeqAt.EqAt.str_int x t j u _ _ _ _ h
   ·rw [uq] at h;exact wpAny_eqBool_str h
 «strs»:=fun k x t v h=>by
  rcases aB h with ⟨i,u,rfl,e⟩ | ⟨y,u,rfl,e⟩
  ·exact nomatch e
  ·injection e with e1 _
   subst e1
   cases v <;> rfl
theorem jF (prog) (w) (i) (t):(aI prog w).is (.inl i) (.int i t)=true:=mQ i t
theorem ez (prog) (w) (x) (t):(aI prog w).is (.inr x) (.str x t)=true:=mR x t
end L2
namespace L2
structure Mod (K:Fg) (mg:Str→Option Value) (base:Heap):Prop where
 kin:K.In base
 glob:base.Ns mainGlobals mg
 blt:∃ mb,base.Ns builtinsNs mb∧∀ x:Str,x≠"__name__"→mb x=bootBuiltins x
 nolimit:base.NoLimit
def frs (l:List Env):List Addr:=l.filterMap (·.frame)
def Vis (sc:Scope) (x:Str):Prop:=sc.names.lookup x=some .local∨sc.names.lookup x=some .cell∨sc.names.lookup x=some .free
def Loc (sc:Scope) (x:Str):Prop:=sc.names.lookup x=some .local∨sc.names.lookup x=some .cell
def j7 (env:Env) (h:Heap) (m:Str→Option Value) (x:Str) (u:Value):Prop:=
 (env.kindOf x=some .local∧m x=some u)∨((env.kindOf x=some .cell∨env.kindOf x=some .free)∧∃ c,env.cells.lookup x=some c∧h.IsCell c (some u))
section
variable {X:Cx} {pins:List (Addr×Obj)} {σ:List (Option V)} {H H':Hp} {s:Shared} {h':Heap}
theorem fL {N:List Str} (hN:N.Nodup) {i j:Nat} {x:Str} (a:N[i]? = some x) (b:N[j]? = some x):i=j:=by
 obtain ⟨h1,e1⟩:=List.getElem?_eq_some_iff.mp a
 obtain ⟨h2,e2⟩:=List.getElem?_eq_some_iff.mp b
 exact (List.getElem_inj hN).mp (e1.trans e2.symm)
end
theorem thn (h:wpAny M A t Q E s) (hQ:∀ a s,Q a s→Q' a s):wpAny M A t Q' E s:=wpAny_mono h hQ fun _ _ x=>x
end L2
namespace L2
theorem ji (ho:s.heap.get? it=some o) (hc:o.cls = .type n) (hd:o.data = .fields vs)
 (hn:["enumerate","zip","dict_itemiterator","dict_reverseitemiterator","odict_iterator","itertools.zip_longest","itertools.pairwise"].contains n=false) (hQ:Q () s):wpAny M A (letOwnedTupleGo tg (.ref it) u) Q E s:=by
 unfold letOwnedTupleGo
 cases tg <;> first
  | exact wpAny_pure hQ
  | (cases u <;> first
   | exact wpAny_pure hQ
   | (refine wpAny_bind (wpAny_load ho ?_)
      rw [hc,hd]
      show wpAny M A (if (["enumerate","zip","dict_itemiterator","dict_reverseitemiterator","odict_iterator","itertools.zip_longest","itertools.pairwise"].contains n && vs[0]? == some (rawInt _))=true then _ else _) Q E s
      rw [if_neg (by intro h;rw [hn,Bool.false_and] at h;cases h)]
      exact wpAny_pure hQ))
end L2
namespace L2
section
variable {X:Cx} {a b c:Expr} {ta tb tc:TE} {pos:Pos}
def tJ (i j:Int):Prop:=(-(2 ^ 64)<i∧i<2 ^ 64)∨(-(2 ^ 64)<j∧j<2 ^ 64)
theorem tJ.ok (h:tJ i j):IntMulOk i j:=by
 rcases h with ⟨h1,h2⟩ | ⟨h1,h2⟩
 ·exact .of_left (intBits_le_64 h1 h2)
 ·exact .of_right (intBits_le_64 h1 h2)
theorem k7 (k):(0:Int)≤2 ^ k:=by
 rw [two_pow_cast]
 exact Int.natCast_nonneg _
end
section
variable {X:Cx} {a b c:Expr} {ta tb tc:TE} {pos:Pos}
theorem iw:(sizeLine:Nat)<2 ^ 63:=by rw [sizeLine_eq];decide
end
end L2
namespace L2
structure j8 (h:Heap) (x dx C:Addr) (mA:Str→Option Value):Prop where
 obj:h.get? x=some (PySem.W.instObj C dx)
 ns:h.Ns1 dx mA
 ne:dx≠x
theorem gQ {h:Heap} {dx:Addr} {mA:Str→Option Value} (n:h.Ns1 dx mA):∃ od,h.get? dx=some od∧∀ name,PySem.W.lookIn name od=some (mA name):=by
 obtain ⟨o,es,ep,ho,hd,hk,_,hm⟩:=n
 refine ⟨o,ho,fun name=>?_⟩
 have e:=hm name
 unfold nsFind findBy at e
 rw [← Array.find?_toList] at e
 unfold PySem.W.lookIn
 rw [hd]
 dsimp only
 split
 ·rename_i y q
  rw [q] at e
  exact congrArg some e
 ·rename_i q
  rw [q] at e
  have a:es.toList.any (·.refKey)=false:=by
   rw [List.any_eq_false]
   intro y hy
   obtain ⟨z,t,hkey⟩:=hk y (Array.mem_toList_iff.mp hy)
   simp [DictEntry.refKey,hkey]
  have a':¬ es.toList.any (·.refKey)=true:=by rw [a];exact Bool.false_ne_true
  rw [if_neg a']
  exact congrArg some e
theorem j8.look (I:j8 h x dx C mA):∃ od,PySem.W.InstAt h x (PySem.W.instObj C dx) C (some od)∧∀ name,PySem.W.lookIn name od=some (mA name):=
 let ⟨od,ho,hl⟩:=gQ I.ns
 ⟨od,⟨I.obj,rfl,rfl,ho⟩,hl⟩
section
variable {prog:Program} {w:World} {A:Around} {E:Value→Shared→Prop} {s:Shared} {K:Fg} {x dx C f:Addr} {mA:Str→Option Value} {name:Str} {v:Value}
theorem du (X:K.In s.heap) (I:j8 s.heap x dx C mA) (hg:PySem.W.plainGet K C name=true) (hh:PySem.W.hasDictIn K C=true)
 (ha:PySem.W.findIn K (.ref C) name=some none) (hv:mA name=some v) (hv':PySem.W.handedIn v=true) (h:Q v { s with toks:=s.toks+1 }) :
 wpAny (model prog w) A (getAttr (.ref x) name expr) Q E s:=by
 obtain ⟨od,J,hl⟩:=I.look
 exact PySem.W.get_value X J (PySem.W.plainGet_of hg).1 (PySem.W.findObj_own hh ha rfl (by rw [hl,hv])) hv' h
theorem oP (X:K.In s.heap) (I:j8 s.heap x dx C mA) (hg:PySem.W.plainGet K C name=true)
 (hf:PySem.W.findIn K (.ref C) name=some (some (.ref f))) (ht:PySem.W.isFn K (.ref f)=true) (hv:mA name=none) (h:Q (.ref f,[.ref x]) s) :
 wpAny (model prog w) A (getMethod (.ref x) name pl) Q E s:=by
 obtain ⟨od,J,hl⟩:=I.look
 exact PySem.W.method_fn X J (PySem.W.plainGet_of hg).1 (PySem.W.plainGet_of hg).2 hf (beq_iff_eq.mp ht) (by show (PySem.W.lookIn name od).map (·.isSome)=some false;rw [hl,hv];rfl) h
theorem mr (X:K.In s.heap) (I:j8 s.heap x dx C mA)
 (hs:PySem.W.findIn K (.ref C) "__setattr__" = some (some (.builtin "object.__setattr__"))) (hp:PySem.W.plainOver K C=true) (ht:PySem.W.takerIn K C name=some none) (hh:PySem.W.hasDictIn K C=true)
 (hw:PySem.Within mA ns) (hsz:ns.length≤sizeLine)
 (h:∀ h',j8 h' x dx C (fun y=>if y=name then some v else mA y)→Heap.SameBut dx s.heap h'→Q () { s with heap:=h',toks:=s.toks+2 }) :
 wpAny (model prog w) A (setAttr (.ref x) name v) Q E s:=by
 obtain ⟨od,J,hl⟩:=I.look
 refine PySem.W.set_plain X J hs (PySem.W.osa_open (s:={ s with toks:=s.toks+1 }) (r:=none) X J hp ht fun b=>?_)
 obtain ⟨cd,hc,hd'⟩:=PySem.W.any_some hh
 have hx:s.heap.get? x=some ⟨.ref C,some dx,.plain,#[]⟩:=I.obj
 refine wpAny_bind (wpAny_pure (wpAny_bind (wpAny_bind (wpAny_loadPart hx (wpAny_bind (PySem.W.Looks.here (s:={ s with toks:=s.toks+1 }) (PySem.W.looks_clsIn X hc) ?_))))))
 rw [hd']
 refine wpAny_pure (a:=some dx) (wpAny_bind (wpAny_pure (wpAny_bind ?_)))
 refine wpAny_nsSet1 (s:={ s with toks:=s.toks+1 }) I.ns fun h' hn2 hs2=>?_
 obtain ⟨oD,esD,epD,hoD,hdD,hcD⟩:=hn2.count (PySem.Within.cons name v hw)
 refine wpAny_bind (wpAny_lookBehind hoD (by rw [hdD];exact pastItsLine_dict (Nat.le_trans hcD (by rw [List.length_cons];omega))) ?_)
 exact wpAny_pure (h _ ⟨(hs2.2 _ (Ne.symm I.ne)).trans I.obj,hn2,I.ne⟩ hs2)
theorem jE (X:K.In s.heap) (hm:PySem.W.makesIn K C=true)
 (hi:PySem.W.findIn K (.ref C) "__init__" = some (some (.ref f))) (hf:PySem.W.typeIn K (.ref f)=some (.type "function"))
 (h:codeAny (model prog w) (A.under (.builtin "type.__call__" ⟨.ref C :: vs,kw⟩)) (.call (.ref f) ⟨.ref (s.heap.objs.size+1) :: vs,kw⟩) (PySem.W.InitBack (s.heap.objs.size+1) R)
  { s with heap:=(s.heap.push PySem.W.emptyDict).push (PySem.W.instObj C s.heap.objs.size) }) :
 codeAny (model prog w) A (.call (.ref C) ⟨vs,kw⟩) R s:=by
 obtain ⟨hh,g,d,t,os⟩:=s
 exact PySem.W.make_core (PySem.W.makes_of X hm) (PySem.W.looks_findIn X hi) (fun self=>PySem.W.bind_fn X self hf) (.inl rfl) h
end
structure Cls (K:Fg) (C:Addr):Prop where
 pg:PySem.W.plainGet K C Str.empty=true
 hd:PySem.W.hasDictIn K C=true
 po:PySem.W.plainOver K C=true
 sa:PySem.W.findIn K (.ref C) "__setattr__" = some (some (.builtin "object.__setattr__"))
theorem Cls.get {K:Fg} {C:Addr} (c:Cls K C) (f:Str):PySem.W.plainGet K C f=true:=c.pg
def b8 (K:Fg) (C:Addr) (f:Str):Prop:=PySem.W.findIn K (.ref C) f=some none
theorem b8.taker {K:Fg} {C:Addr} {f:Str} (n:b8 K C f):PySem.W.takerIn K C f=some none:=by
 unfold PySem.W.takerIn
 rw [show PySem.W.findIn K (.ref C) f=some none from n]
 rfl
structure vR (K:Fg) (C:Addr) (m:Str) (f:Addr):Prop where
 at_:PySem.W.findIn K (.ref C) m=some (some (.ref f))
 fn:PySem.W.isFn K (.ref f)=true
 kp:PySem.W.keepIn K (.ref f)=true
section
variable {X:Cx} {pins:List (Addr×Obj)} {σ:St} {H:Hp} {s:Shared} {a C dx:Addr} {fs:List (Str×V)} {f:Str} {v:V} {A:Around} {E:Value→Shared→Prop}
theorem qy (hb:attributeBase e f env (eval e env)=eval e env)
 (h:wpAny (model prog w) A (eval e env) (fun o s₁=>wpAny (model prog w) A (getAttr o f true) Q E s₁) E s):wpAny (model prog w) A (eval (.Attribute e f pos) env) Q E s:=
 Attribute_any_ h (by rw [arm_eval_Attribute,hb])
end
end L2
namespace L2
structure aX (k:Nat) (A:Around):Prop where
 hd:A.handled=none
 dp:A.depth+k+5<recursionLimit
 un:A.units+16 * k+200<cLine
theorem aX.mono (r:aX k A) (h:j≤k):aX j A:=⟨r.hd,by have:=r.dp;omega,by have:=r.un;omega⟩
theorem aX.deeper (r:aX (k+1) A) (env):aX k (A.deeper env):=
 ⟨r.hd,by have:=r.dp;show A.depth+1+k+5<_;omega,by have:=r.un;show A.units+3+16 * k+200<_;omega⟩
theorem kG {A:Around} {C:Addr} {us:List Value} {kw:List (Str×Value)}:(A.under (.builtin "type.__call__" ⟨.ref C :: us,kw⟩)).depth=A.depth+1:=by
 first | rfl | simp [Around.under,Code.weight,Code.isCreation,Code.isGuard,Code.isCaller,Code.frames,Code.isFrame,guardIds]
theorem kH {A:Around} {C:Addr} {us:List Value} {kw:List (Str×Value)}:(A.under (.builtin "type.__call__" ⟨.ref C :: us,kw⟩)).units=A.units+1:=by
 first | rfl | simp [Around.under,Code.cUnits,Code.frames,Code.isFrame]
theorem aX.make (r:aX (k+1) A) (C) (us) (kw):aX k (A.under (.builtin "type.__call__" ⟨.ref C :: us,kw⟩)):=
 ⟨r.hd,by have:=r.dp;rw [kG];omega,by have:=r.un;rw [kH];omega⟩
theorem aX.depth (r:aX k A):A.depth<recursionLimit:=by have:=r.dp;omega
def bI (K:Fg) (fd:FuncData) (ps:List Str) (ds:List Value):Prop:=
 ∀ (s:Shared) (us:List Value),K.In s.heap→(us ++ ds).length=ps.length→BindsTo s fd ⟨us,[]⟩ (ps.zip (us ++ ds))
theorem bI.all {K:Fg} {fd:FuncData} {ps:List Str} (h:∀ us:List Value,us.length=ps.length→bindArgs fd ⟨us,[]⟩=pure (ps.zip us)):bI K fd ps []:=fun s us _ hl=>by
 rw [List.append_nil] at hl ⊢
 exact .of_eq (h us hl)
section
variable {X:Cx} {CX:CXT} {k:Nat} {f C:Addr} {fd:FuncData} {ps:List Str} {sp:Sp} {dvs:List V} {ds:List Value} {E:XK} {x m:Str} {p pos apos:Pos} {e o:Expr} {es:List Expr} {ta:TE} {t:TA}
structure Mk (K:Fg) (C f:Addr):Prop where
 makes:PySem.W.makesIn K C=true
 init:PySem.W.findIn K (.ref C) "__init__" = some (some (.ref f))
 fn:PySem.W.isFn K (.ref f)=true
 kp:PySem.W.keepIn K (.ref C)=true
end
structure cX (N P:List Str) (sc:Scope):Prop where
 kind:sc.kind = .function
 co:sc.isCoroutine=false
 gen:sc.isGenerator=false
 nd:N.Nodup
 pre:N.take P.length=P
 par:∀ x∈P,sc.names.lookup x=some .local∨sc.names.lookup x=some .cell
 nofree:∀ y∈sc.names,y.2≠.free
theorem gJ {kindOf:Str→Option NameKind} {x:Str}:∀ {binds:List (Str×Value)} {m:Str→Option Value},(∀ v,(x,v) ∉ binds)→bindL kindOf binds m x=m x
 | [],_,_=>rfl
 | (n,v) :: r,m,h=>by
   unfold bindL
   rw [gJ fun w hw=>h w (List.mem_cons_of_mem _ hw)]
   split
   ·have:x≠n:=by rintro rfl;exact h v List.mem_cons_self
    simp [this]
   ·rfl
theorem gH {kindOf:Str→Option NameKind} {x:Str}:∀ {binds:List (Str×Value)} {m:Str→Option Value},(∀ v,(x,v) ∉ binds)→bindC kindOf binds m x=m x
 | [],_,_=>rfl
 | (n,v) :: r,m,h=>by
   unfold bindC
   rw [gH fun w hw=>h w (List.mem_cons_of_mem _ hw)]
   split
   ·rfl
   ·have:x≠n:=by rintro rfl;exact h v List.mem_cons_self
    simp [this]
theorem gI {kindOf:Str→Option NameKind} {x:Str} {v:Value}:∀ {P:List Str} {vs:List Value} {i:Nat} {m:Str→Option Value},P.Nodup→P[i]? = some x→vs[i]? = some v→kindOf x=some .local →
 bindL kindOf (P.zip vs) m x=some v
 | [],_,_,_,_,h,_,_=>by simp at h
 | _ :: _,[],_,_,_,_,h,_=>by simp at h
 | p :: P,w :: vs,0,m,nd,h1,h2,hk=>by
   simp at h1 h2;subst h1;subst h2
   show bindL kindOf ((p,w) :: P.zip vs) m p=_
   unfold bindL
   rw [gJ fun v hv=>(List.nodup_cons.mp nd).1 (List.of_mem_zip hv).1,if_pos hk]
   simp
 | p :: P,w :: vs,i+1,m,nd,h1,h2,hk=>by
   show bindL kindOf ((p,w) :: P.zip vs) m x=_
   unfold bindL
   exact gI (i:=i) (List.nodup_cons.mp nd).2 (by simpa using h1) (by simpa using h2) hk
theorem gG {kindOf:Str→Option NameKind} {x:Str} {v:Value}:∀ {P:List Str} {vs:List Value} {i:Nat} {m:Str→Option Value},P.Nodup→P[i]? = some x→vs[i]? = some v→kindOf x≠some .local →
 bindC kindOf (P.zip vs) m x=some v
 | [],_,_,_,_,h,_,_=>by simp at h
 | _ :: _,[],_,_,_,_,h,_=>by simp at h
 | p :: P,w :: vs,0,m,nd,h1,h2,hk=>by
   simp at h1 h2;subst h1;subst h2
   show bindC kindOf ((p,w) :: P.zip vs) m p=_
   unfold bindC
   rw [gH fun v hv=>(List.nodup_cons.mp nd).1 (List.of_mem_zip hv).1,if_neg hk]
   simp
 | p :: P,w :: vs,i+1,m,nd,h1,h2,hk=>by
   show bindC kindOf ((p,w) :: P.zip vs) m x=_
   unfold bindC
   exact gG (i:=i) (List.nodup_cons.mp nd).2 (by simpa using h1) (by simpa using h2) hk
theorem i8 {sc:Scope} {n:Nat} {x:Str} (h:sc.names.lookup x=some .cell):∃ c,(cellsFrom n sc.names []).lookup x=some c:=by
 have q:=PySem.W.cellsFrom_some sc.names n [] (.inl h)
 exact Option.isSome_iff_exists.mp q
end L2
namespace HT
open PySem PyProof.Rows
section
variable {prog:Program} {w:World} {A:Around} {E:Value→Shared→Prop} {s:Shared}
theorem cat_tup (ht:IsTup s.heap t vs.toArray) (hb:IsTup s.heap b ws.toArray) (hv:vs≠[])
 (h1:ws = []→Q (.ref t) s) (h2:ws≠[]→Q (.ref s.heap.objs.size) { s with heap:=s.heap.push { cls:=.type "tuple",data:=.seq (vs ++ ws).toArray } })
 (hsz:vs.length+ws.length≤sizeLine):wpAny (model prog w) A (binaryOp .Add (.ref t) (.ref b)) Q E s:=by
 obtain ⟨⟨cls,dd,data,sl⟩,ho,hc,n,hd⟩:=id ht
 obtain ⟨⟨cls2,dd2,data2,sl2⟩,ho2,hc2,n2,hd2⟩:=id hb
 simp only at hc hd hc2 hd2
 subst hc hd hc2 hd2
 have e:vs.toArray ++ ws.toArray=(vs ++ ws).toArray:=by simp
 by_cases hw:ws = []
 ·exact concat_meets ⟨_,ho,rfl⟩ ⟨_,ho2,rfl⟩ noFill_tuple_add seq_tuple_add PySem.F.slot_tuple_add PySem.F.entry_tuple_add (PySem.F.args_tuple_add_2 _ _)
   (tuple_addW1 t b vs.toArray ws.toArray n n2 dd dd2 sl sl2 (by simpa using hv) (by simp [hw])) ⟨ho,ho2,h1 hw⟩
 ·refine concat_meets ⟨_,ho,rfl⟩ ⟨_,ho2,rfl⟩ noFill_tuple_add seq_tuple_add PySem.F.slot_tuple_add PySem.F.entry_tuple_add (PySem.F.args_tuple_add_2 _ _)
   (tuple_addW2 t b vs.toArray ws.toArray n n2 dd dd2 sl sl2 (by simpa using hv) (by simpa using hw) (by rw [List.size_toArray,List.size_toArray];exact hsz)) ⟨ho,ho2,?_⟩
  rw [e]
  exact h2 hw
def sIx (n d:Nat):Option Int→Nat
 | none=>d
 | some v=>if v<0 then (v+(n:Int)).toNat else min v.toNat n
theorem vA (n d) (hd:d≤n) (o):sIx n d o≤n:=by
 cases o with
 | none=>exact hd
 | some v=>
   show (if v<0 then (v+(n:Int)).toNat else min v.toNat n)≤n
   by_cases hv:v<0
   ·rw [if_pos hv];omega
   ·rw [if_neg hv];exact Nat.min_le_right _ _
theorem ll (v:Int) (n d:Nat):(if v<0 then max (v+(n:Int)) 0 else min v (n:Int))=((sIx n d (some v):Nat):Int):=by
 show (if v<0 then max (v+(n:Int)) 0 else min v (n:Int))=(((if v<0 then (v+(n:Int)).toNat else min v.toNat n):Nat):Int)
 by_cases hv:v<0
 ·simp only [if_pos hv];omega
 ·simp only [if_neg hv];omega
theorem kb (lo hi:Option Int) (n:Nat):Builtin.Slice.sliceAdjust lo hi 1 (n:Int)=(((sIx n 0 lo:Nat):Int),((sIx n n hi:Nat):Int)):=by
 have h1:¬ ((1:Int)<0):=by omega
 unfold Builtin.Slice.sliceAdjust
 simp only [h1,if_false]
 refine Prod.ext ?_ ?_
 ·cases lo with
  | none=>rfl
  | some v=>exact ll v n 0
 ·cases hi with
  | none=>rfl
  | some v=>exact ll v n n
theorem kN (i j:Nat):Builtin.Slice.slicePlaces (i:Int) (j:Int) 1=j - i:=by
 unfold Builtin.Slice.slicePlaces
 have h1:(1:Int)>0:=by omega
 simp only [h1,if_true,Int.ediv_one]
 split <;> omega
theorem fQ (p:IsPart v o) (h:Q o s):wpAny (model prog w) A (Builtin.Slice.slicePartIndex v) Q E s:=by
 cases p with
 | none=>exact slicePart_none h
 | int i t=>exact slicePart_int h
theorem cu {sl:Addr} {vl vu:Value} {lo hi:Option Int} {n:Nat} {Q:Int×Int×Nat→Shared→Prop} (hs:s.heap.IsSliceOf sl vl vu .none) (pl:IsPart vl lo) (pu:IsPart vu hi)
 (h:Q (((sIx n 0 lo:Nat):Int),1,sIx n n hi - sIx n 0 lo) s):wpAny (model prog w) A (Builtin.Slice.sliceApplied (.ref sl) (pure (n:Int))) Q E s:=by
 obtain ⟨os,hos,hcs,hds⟩:=id hs
 unfold Builtin.Slice.sliceApplied Builtin.Slice.sliceFields
 refine wpAny_bind (wpAny_bind (wpAny_field hos hds (x:=vl) rfl (wpAny_bind (wpAny_field hos hds (x:=vu) rfl (wpAny_bind (wpAny_field hos hds (x:=.none) rfl (wpAny_pure ?_)))))))
 refine wpAny_bind (slicePart_none ?_)
 show wpAny _ _ (if ((1:Int) == 0)=true then _ else _) _ _ s
 rw [if_neg (by decide)]
 refine wpAny_bind (fQ pl (wpAny_bind (fQ pu (wpAny_bind (wpAny_pure ?_)))))
 show wpAny _ _ (match Builtin.Slice.sliceAdjust lo hi 1 (n:Int) with | (lo,hi)=>pure (lo,(1:Int),Builtin.Slice.slicePlaces lo hi 1)) _ _ s
 rw [kb lo hi n]
 show wpAny _ _ (pure (((sIx n 0 lo:Nat):Int),(1:Int),Builtin.Slice.slicePlaces ((sIx n 0 lo:Nat):Int) ((sIx n n hi:Nat):Int) 1)) _ _ s
 rw [kN]
 exact wpAny_pure h
theorem pO (xs:Array Value) (i k:Nat):((List.range k).filterMap fun (m:Nat)=>xs[((i:Int)+(m:Int) * 1).toNat]?).toArray=((xs.toList.drop i).take k).toArray:=by
 have e:(fun (m:Nat)=>xs[((i:Int)+(m:Int) * 1).toNat]?)=fun m=>xs[i+m]?:=by
  funext m
  have:((i:Int)+(m:Int) * 1).toNat=i+m:=by omega
  rw [this]
 rw [e]
 have:=pick_run xs i k
 rw [List.filterMap_map] at this
 have e2:((fun x=>xs[x]?) ∘ fun x=>i+x)=fun m=>xs[i+m]?:=rfl
 rw [e2] at this
 rw [this]
theorem getItem_tuple_cut {t sl:Addr} {items:Array Value} {vl vu:Value} {lo hi:Option Int} {Q:Value→Shared→Prop} (ht:IsTup s.heap t items) (hs:s.heap.IsSliceOf sl vl vu .none) (pl:IsPart vl lo) (pu:IsPart vu hi)
 (hw:¬ (sIx items.size 0 lo=0∧sIx items.size items.size hi=items.size))
 (h:Q (.ref s.heap.objs.size) { s with heap:=s.heap.push { cls:=.type "tuple",data:=.seq ((items.toList.drop (sIx items.size 0 lo)).take (sIx items.size items.size hi - sIx items.size 0 lo)).toArray } })
 (hsz:items.size≤sizeLine):wpAny (model prog w) A (getItem (.ref t) (.ref sl)) Q E s:=by
 have htake:sizeOk (.seq ((items.toList.drop (sIx items.size 0 lo)).take (sIx items.size items.size hi - sIx items.size 0 lo)).toArray):=by
  show ((items.toList.drop (sIx items.size 0 lo)).take (sIx items.size items.size hi - sIx items.size 0 lo)).toArray.size≤sizeLine
  rw [List.size_toArray,List.length_take,List.length_drop,Array.length_toList]
  omega
 have hj:sIx items.size items.size hi≤items.size:=vA _ _ (Nat.le_refl _) hi
 obtain ⟨os,hos,hcs,hds⟩:=id hs
 have hTs:s.TypeIs (.ref sl) "slice":=⟨os,hos,hcs⟩
 unfold getItem
 try with_reducible refine wpAny_holding ?_
 first | refine wpAny_bind (wpAny_pure ?_) | skip
 refine wpAny_bind (wpAny_sequenceKey ht.typeIs (by decide) ?_)
 refine wpAny_bind (wpAny_callSpecial?_slot (name:=Str.ofString "__getitem__") ht.typeIs PyProof.Rows.slot_tuple_getitem
  (wpAny_call_entry PyProof.Rows.slot_tuple_getitem ht.typeIs entry_tuple_getitem ?_ (args_tuple_getitem _ _)))
 show wpAny _ _ (Builtin.Tuple.tupleItemsOf (.ref t) >>= _) _ _ s
 refine wpAny_bind (tupleItemsOf_ ht ?_)
 refine wpAny_bind (wpAny_typeOf hTs ?_)
 rw [if_pos (by decide)]
 refine wpAny_bind (cu hs pl pu ?_)
 have hno:¬ ((((sIx items.size 0 lo:Nat):Int) == 0 && (1:Int) == 1 && (sIx items.size items.size hi - sIx items.size 0 lo) == items.size)=true):=by
  intro q
  rw [Bool.and_eq_true,Bool.and_eq_true] at q
  have q1:((sIx items.size 0 lo:Nat):Int)=0:=eq_of_beq q.1.1
  have q2:sIx items.size items.size hi - sIx items.size 0 lo=items.size:=eq_of_beq q.2
  exact hw ⟨by omega,by omega⟩
 show wpAny _ _ (if (((sIx items.size 0 lo:Nat):Int) == 0 && (1:Int) == 1 && (sIx items.size items.size hi - sIx items.size 0 lo) == items.size)=true then _ else _) _ _ s
 rw [if_neg hno,pO]
 first
  | exact wpAny_bind (m:=Builtin.Tuple.tupleExact _) (wpAny_newObj_type (wpAny_pure ⟨_,rfl,wpAny_pure h⟩) htake)
  | exact wpAny_bind (m:=Builtin.Tuple.tupleExact _) (wpAny_newObj_type (wpAny_bind (wpAny_pure (wpAny_pure ⟨_,rfl,wpAny_pure h⟩))) htake)
  | exact wpAny_bind (wpAny_bind (m:=Builtin.Tuple.tupleExact _) (wpAny_newObj_type (wpAny_pure (wpAny_pure ⟨_,rfl,wpAny_pure h⟩)) htake))
  | exact wpAny_bind (wpAny_bind (m:=Builtin.Tuple.tupleExact _) (wpAny_newObj_type (wpAny_pure ⟨_,rfl,wpAny_pure h⟩) htake))
end
end HT
namespace L2
def ixN (n:Nat) (i:Int):Option Nat:=if 0≤i then (if i<n then some i.toNat else none) else if -(n:Int)≤i then some (i+n).toNat else none
def atI {α:Type} (xs:List α) (i:Int):Option α:=(ixN xs.length i).bind fun j=>xs[j]?
theorem lM (h:ixN n i=some j):seqIndex? i n=some j∧j<n∧-(n:Int)≤i∧i<n:=by
 unfold ixN at h
 by_cases h0:0≤i
 ·rw [if_pos h0] at h
  by_cases h1:i<n
  ·rw [if_pos h1] at h
   have e:i.toNat=j:=Option.some.inj h
   exact ⟨by rw [seqIndex_of h0 h1,e],by omega,by omega,h1⟩
  ·rw [if_neg h1] at h;cases h
 ·rw [if_neg h0] at h
  by_cases h1:-(n:Int)≤i
  ·rw [if_pos h1] at h
   have e:(i+n).toNat=j:=Option.some.inj h
   exact ⟨by rw [seqIndex_neg (by omega) h1,e],by omega,h1,by omega⟩
  ·rw [if_neg h1] at h;cases h
theorem hB (h:atI xs i=some v):∃ j,seqIndex? i xs.length=some j∧xs[j]? = some v∧j<xs.length∧-(xs.length:Int)≤i∧i<xs.length:=by
 unfold atI at h
 cases e:ixN xs.length i with
 | none=>rw [e] at h;cases h
 | some j=>
   rw [e] at h
   obtain ⟨h1,h2,h3,h4⟩:=lM e
   exact ⟨j,h1,h,h2,h3,h4⟩
theorem bf {α:Type} {xs:List α} {j:Nat} {v:α} (h:xs[j]? = some v):atI xs (j:Int)=some v:=by
 have hj:j<xs.length:=(List.getElem?_eq_some_iff.mp h).1
 have e:ixN xs.length (j:Int)=some j:=by
  unfold ixN
  rw [if_pos (by omega),if_pos (by omega)];simp
 unfold atI;rw [e];exact h
section
variable {X:Cx} {a b:Expr} {ta tb:TE} {pos:Pos}
theorem iQ (lo hi) (n):(sliceBounds lo hi none n).1=((HT.sIx n 0 lo:Nat):Int)∧(sliceBounds lo hi none n).2.1=((HT.sIx n n hi:Nat):Int)∧(sliceBounds lo hi none n).2.2=1:=by
 refine ⟨?_,?_,rfl⟩
 ·cases lo with
  | none=>simp [sliceBounds,HT.sIx]
  | some i=>
    simp only [sliceBounds,HT.sIx,Option.getD_none,show (1:Int)>0 by decide,if_true]
    by_cases h:i<0
    ·simp only [h,if_true] <;> omega
    ·simp only [h,if_false] <;> omega
 ·cases hi with
  | none=>simp [sliceBounds,HT.sIx]
  | some i=>
    simp only [sliceBounds,HT.sIx,Option.getD_none,show (1:Int)>0 by decide,if_true]
    by_cases h:i<0
    ·simp only [h,if_true] <;> omega
    ·simp only [h,if_false] <;> omega
theorem gC (its:List Value) (lo hi:Option Int):slicePick its.toArray lo hi none=((its.drop (HT.sIx its.length 0 lo)).take (HT.sIx its.length its.length hi - HT.sIx its.length 0 lo)).toArray:=by
 obtain ⟨h1,h2,h3⟩:=iQ lo hi its.toArray.size
 unfold slicePick
 rw [h1,h2,h3]
 simp only [sliceRange_one,pick_run,List.size_toArray] <;> rfl
variable {o e:Expr} {es:List Expr} {to:TE} {t:TA} {name:Str} {apos cpos:Pos} {T id:String} {r:V→List V→Hp→VK→Prop}
end
end L2
namespace Att
open PySem PySem.W PySem.Calls PyProof.Rows
theorem eF :∀ (ns) (vs),WellAll P h vs (ns.map WData.int)→IntsAre vs ns:=by
 intro ns
 induction ns with
 | nil=>
   intro vs w
   rw [List.map_nil] at w
   cases w
   exact .nil
 | cons n ns ih=>
   intro vs w
   rw [List.map_cons] at w
   cases w with
   | cons a b=>
     cases a
     exact .cons _ _ (ih _ b)
theorem nF {l:OpenLaw} {n:Nat} (hn:l.most=some n) {P:Params} {h:Heap} {args:List WData} {vals:List Value}
 (hpre:l.row.toRowW.claim.pre args=true) (hwl:WellAll P h vals args) :
 ∃ a vs ns,vals = [Value.ref a]∧args = [WData.list (ns.map WData.int)]∧h.get? a=some { cls:=.type "list",data:=.seq vs.toArray }∧IntsAre vs ns∧ns.length≤n:=by
 have hsh:WShape.hasAll [] args [.list .int]=true:=(pre_splitW hpre).1
 have hc:l.pre.holds [] { args:=args }=true:=(pre_splitW hpre).2
 obtain ⟨d,r,rfl,h1,h2⟩:=hasAllW_cons hsh
 obtain rfl:=hasAllW_nil h2
 obtain ⟨xs,rfl,h3⟩:=hasW_list h1
 obtain ⟨ns,rfl⟩:=items_int h3
 have hlen:ns.length≤n:=by
  unfold OpenLaw.pre at hc
  have h4:(WTm.not (.lt (.lit (.int (n:Int))) (.len (.arg 0)))).holds [] { args:=[.list (ns.map .int)] }=true:=by
   have h4:=(holds_andW hc).1
   rw [hn] at h4
   exact h4
  have h5:=condW_of h4 (w_not (w_lt w_lit (w_len_list (w_arg rfl))))
  rw [List.length_map] at h5
  refine Nat.le_of_not_lt fun q=>?_
  have q':(n:Int)<((ns.length:Nat):Int):=by omega
  first
   | (rw [decide_eq_true q'] at h5;exact absurd h5 (by decide))
   | (simp at h5;omega)
 cases hwl with
 | cons w1 w2=>
   cases w2
   cases w1 with
   | list ho hall=>exact ⟨_,_,ns,rfl,rfl,ho,eF ns _ hall,hlen⟩
theorem nv (l:OpenLaw) (args:List WData):l.row.toRowW.claim.post args (.bool true) args=true:=
 postW_of (r:=l.row.toRowW) (X:=(true == true))
  (show WShape.has [] (.bool true) .bool=true by first | rfl | decide | simp [WShape.has,WShape.arms,WShape.armsAll])
  (show (WTm.eq .res (.lit (.bool true))).value [] { args:=args,res:=some (.bool true),after:=args }=some (.bool (true == true)) from w_eq_bool (w_res rfl) w_lit) rfl
theorem attach_call {l:OpenLaw} {n:Nat} {q:Program} {loose:List Str} {XP:(Str→Option Value)→Heap→Prop} {YP:World→Heap→Prop} {d:DefRec}
 (hn:l.most=some n) (hdf:d.params.defaults = [])
 (call:∀ (w:World) (s₀ s₁:Shared) (mg mb:Str→Option Value) (fa:Addr) (o:Obj) (pm cd doc:Value) (a:Addr) (vs:List Value) (ns:List Int),
  Ground q loose [] XP w s₀ mg mb s₁.heap→YP w s₁.heap →
  s₁.heap.get? fa=some o→o.data = .func (docDef d.name d.params d.body d.scope pm cd doc)→s₁.heap.CodeRec cd d.name→mg d.name=some (.ref fa) →
  s₁.heap.get? a=some { cls:=.type "list",data:=.seq vs.toArray }→IntsAre vs ns→ns.length≤n→s₁.gens = #[] →
  codeAny (model l.prog w) callerA (.call (.ref fa) ⟨[.ref a],[]⟩) (fun r s'=>r = .ok (.ret (.bool true))∧OldK s₁.heap s'.heap∧s'.os=s₁.os∧AllBare s'.gens) s₁) :
 WalkO q loose XP YP l.row.toRowW d [] (fun f vs=>PySem.call f vs):=by
 intro w s₀ s₁ mg mb G Y fa o pm cd doc dV kV ho hd hcd hD hmg hg args vals as hpre hlay hrd hwl hlo
 obtain rfl:dV = .none:=Dflts.none hD hdf
 obtain rfl:kV = .none:=Dflts.noKw hD
 obtain ⟨a,vs,ns,rfl,rfl,hobj,hints,hlen⟩:=nF hn hpre hwl
 refine enter_call (codeAny_mono (call w s₀ s₁ mg mb fa o pm cd doc a vs ns G Y ho (fd_plain hd) hcd hmg hobj hints hlen hg) fun r s' hq=>?_)
 obtain ⟨rfl,h2,h3,h4⟩:=hq
 exact ⟨.inl ⟨.bool true,.bool true,[],rfl,fun _=>rfl,.bool true,nv l _,fun _=>⟨List.Pairwise.nil,fun _ hm=>(nomatch hm)⟩⟩,h2,h3,h4⟩
end Att
namespace L2
def aU (s:Stmt):Arguments:=match s with
 | .FunctionDef _ a _ _ _ _ _ _ _ _=>a
 | _=>{ posonlyargs:=[],args:=[],vararg:=none,kwonlyargs:=[],kw_defaults:=[],kwarg:=none,defaults:=[] }
def bM (s:Stmt):List Stmt:=match s with
 | .FunctionDef _ _ b _ _ _ _ _ _ _=>b
 | _=>[]
def aw (s:Stmt):Scope:=match s with
 | .FunctionDef _ _ _ _ _ _ sc _ _ _=>sc
 | _=>{ kind:=.function,names:=[],isGenerator:=false,isCoroutine:=false }
structure Fun (K:Fg) (x qual:Str) (st:Stmt) (f:Addr) (fd:FuncData):Prop where
 ex:∃ (oc:Value) (od:Option Addr) (kV doc pm:Value) (an:Option Addr) (cdv ct:Value) (osl:Array (Option Value)),
  fd=PySem.W.fnOf x qual (aU st) (bM st) (aw st) .none kV doc pm an cdv ct∧K.lookup f=some ⟨oc,od,.func fd,osl⟩∧PySem.W.codeIn K cdv qual=true
 kp:PySem.W.keepIn K (.ref f)=true
section
variable {P:Program} {w:World} {K:Fg} {mg:Str→Option Value} {base:Heap}
theorem Fun.binds {x qual:Str} {st:Stmt} {f:Addr} {fd:FuncData} {ps:List Str} (F:Fun K x qual st f fd)
 (h:∀ (kV doc pm:Value) (an:Option Addr) (cdv ct:Value) (us:List Value),us.length=ps.length→bindArgs (PySem.W.fnOf x qual (aU st) (bM st) (aw st) .none kV doc pm an cdv ct) ⟨us,[]⟩=pure (ps.zip us)):bI K fd ps []:=by
 obtain ⟨oc,od,kV,doc,pm,an,cdv,ct,osl,rfl,lk,hcd⟩:=F.ex
 exact .all (h kV doc pm an cdv ct)
theorem kt {x qual:Str} {st:Stmt} {f:Addr} {oc:Value} {od an:Option Addr} {osl:Array (Option Value)} {kV doc pm cdv ct:Value} (l:K.lookup f=some ⟨oc,od,.func (PySem.W.fnOf x qual (aU st) (bM st) (aw st) .none kV doc pm an cdv ct),osl⟩)
 (c:PySem.W.codeIn K cdv qual=true) (k:PySem.W.keepIn K (.ref f)=true):Fun K x qual st f (PySem.W.fnOf x qual (aU st) (bM st) (aw st) .none kV doc pm an cdv ct):=⟨⟨oc,od,kV,doc,pm,an,cdv,ct,osl,rfl,l,c⟩,k⟩
end
end L2
section
namespace L2.Bk
open PySem
inductive Dk where
 | non
 | int (i:Int)
 | bl (b:Bool)
 | str (x:Str)
 | tup (xs:List Dk)
def sumI:List Int→Int
 | []=>0
 | x :: r=>x+sumI r
end L2.Bk
namespace L2.Bw
def maxD (d:Int):List Int→Int
 | []=>d
 | x :: r=>r.foldl (fun a b=>if b>a then b else a) x
end L2.Bw
namespace L2.Ev
inductive D where
 | non | bl (b:Bool) | int (i:Int) | str (x:Str) | tup (l:List D) | lst (l:List D) | dic (k:List Key) (l:List D) | ins (c:Nat) (l:List D) | ref (n:Nat)
inductive O where
 | lst (l:List D) | dic (k:List Key) (l:List D) | ins (c:Nat) (l:List D)
inductive Op where
 | add | sub | mul | fdiv | mod | pow | shl | shr | band | bxor | eq | ne | lt | le | gt | ge | isin | notin
 deriving DecidableEq
inductive Bi where
 | len | tuple | list | all | max0 | sum | abs | str | int | range1 | range2 | zip2 | zip3 | enum | enum2 | rev | dict | max2 | min2 | isTup | isStr | isInt | isBool | isLst | isDic
 deriving DecidableEq
inductive E where
 | v (i:Nat) | c (d:D) | g (j:Nat) | op (o:Op) (a b:E) | isN (a:E) | isNN (a:E) | neg (a:E) | not (a:E) | and (a b:E) | or (a b:E) | ite (c a b:E)
 | chain (o p:Op) (a b c:E)
 | ix (a b:E) | sl (a lo hi:E) | fld (a:E) (f:Nat) | tup (es:E) | lst (es:E) | dic (es:E) | nil | cons (a es:E)
 | call (j:Nat) (es:E) | hcall (j:Nat) (es:E) | mth (c j:Nat) (a es:E) | new (j:Nat) (es:E) | bi (b:Bi) (es:E) | join (x:Str) (a:E) | get (a b c:E) | index (a b:E) | isX (a:E) (js:List Nat)
 | lc (t:List Nat) (one:Bool) (it elt cond:E)
 | tab (j:Nat) (e:E) | tabin (j:Nat) (e:E)
 | newl (es:E)
 | sl3 (a lo st:E) | tget (j:Nat) (e d:E) | newd (j:Nat) (es:E) | fmt (x:Str) (a:E) (y:Str) | dicc (ks:List Str) (es:E)
 | tand (a b:E) | tor (a b:E) | tnot (a:E) | tv (a:E) | it (b:Bi) (es:E) | itv (a:E)
inductive S where
 | skip | seq (a b:S) | set (i:Nat) (e:E) | setT (l:List Nat) (e:E) | setR (i:Nat) (es:E) | ret (e:E) | ifs (c:E) (a b:S) | drop (e:E)
 | app (i:Nat) (e:E) | ext (i:Nat) (e:E) | put (a b e:E) | fld (a:E) (f:Nat) (e:E) | aug (a:E) (f:Nat) (o:Op) (e:E) | fapp (a:E) (f:Nat) (e:E)
 | for_ (t:List Nat) (one:Bool) (it:E) (b:S) | whl (c:E) (b:S) | rais (j:Nat) (es:E) | try_ (a:S) (hs:S) | hand (j:Nat) (i:Option Nat) (b rest:S)
def fl:D→Bool
 | .non=>true | .bl _=>true | .int _=>true | .str _=>true | _=>false
def eqf:D→D→Bool
 | .non,.non=>true
 | .bl a,.bl b=>a == b
 | .bl a,.int b=>(if a then 1 else 0) == b
 | .int a,.int b=>a == b
 | .int a,.bl b=>a == (if b then 1 else 0)
 | .str a,.str b=>a == b
 | _,_=>false
def sh:D→Nat
 | .non=>0 | .bl _=>0 | .int _=>0 | .str _=>0 | .tup _=>1 | .lst _=>2 | _=>3
def eq0 (d e:D):Option Bool:=
 if sh d=3∨sh e=3 then none else if sh d=0∧sh e=0 then some (eqf d e) else if sh d=sh e then none else some false
def cH (f:D→D→Option Bool):List D→List D→Option Bool
 | d :: a,e :: b=>(match f d e with | none=>none | some x=>(cH f a b).map (x && ·))
 | _,_=>some true
def eqv:Nat→D→D→Option Bool
 | 0,d,e=>eq0 d e
 | n+1,.tup a,.tup b=>(cH (eqv n) a b).map (· && a.length == b.length)
 | n+1,.lst a,.lst b=>if a.length=b.length then cH (eqv n) a b else some false
 | _+1,d,e=>eq0 d e
end L2.Ev
namespace L2.Ev
structure Fn where
 np:Nat
 ns:Nat
 body:S
structure Cl where
 what:Nat
 at_:List Nat
 init:Nat
 me:List (Nat×Nat)
 sup:List Nat
 chk:List Nat:=[]
def toD:L2.Bk.Dk→D
 | .non=>.non
 | .int i=>.int i
 | .bl b=>.bl b
 | .str x=>.str x
 | .tup l=>.tup (toDs l)
where toDs:List L2.Bk.Dk→List D
 | []=>[]
 | d :: r=>toD d :: toDs r
structure Gm where
 gl:List L2.Bk.Dk
 tb:List (List (Str×L2.Bk.Dk))
 fn:List Fn
 cl:List Cl
structure Sta where
 env:List (Option D)
 ow:List Nat
 st:List O
inductive Out (α:Type) where
 | ok (a:α) (s:Sta) | exc (c:Nat) (l:List D) (s:Sta) | bad
inductive Res where
 | ok (d:D) (st:List O) | exc (c:Nat) (l:List D) (st:List O) | bad
inductive am where
 | nx (s:Sta) | rt (d:D) (s:Sta) | exc (c:Nat) (l:List D) (s:Sta) | bad
def Out.bind {α β:Type} (x:Out α) (f:α→Sta→Out β):Out β:=match x with
 | .ok a s=>f a s
 | .exc c l s=>.exc c l s
 | .bad=>.bad
def Out.of {α:Type} (s:Sta):Option α→Out α
 | some a=>.ok a s
 | none=>.bad
def Out.go {α:Type} (x:Out α) (f:α→Sta→am):am:=match x with
 | .ok a s=>f a s
 | .exc c l s=>.exc c l s
 | .bad=>.bad
def am.go (x:am) (f:Sta→am):am:=match x with
 | .nx s=>f s
 | y=>y
def jo:D→Bool
 | .non=>true | _=>false
def un (s:Sta) (i:Nat):Sta:=⟨s.env,s.ow.filter (· != i),s.st⟩
def look (st:List O):D→D
 | .ref n=>(match st[n]? with | some (.lst l)=>.lst l | some (.dic k l)=>.dic k l | _=>.ref n)
 | d=>d
def bo:D→Option Key
 | .int i=>some (.inl i)
 | .str x=>some (.inr x)
 | _=>none
def cf:List Key→List D→Key→Option D
 | k :: ks,d :: ds,x=>if k=x then some d else cf ks ds x
 | _,_,_=>none
def eJ:List Key→List D→Key→D→List D
 | k :: ks,d :: ds,x,e=>(if k=x then e else d) :: eJ ks ds x e
 | _,ds,_,_=>ds
def bp (ks:List Key) (ds:List D) (x:Key) (e:D):List Key×List D:=if ks.any (fun k=>decide (k=x))=true then (ks,eJ ks ds x e) else (ks ++ [x],ds ++ [e])
def inD (d:D):List D→Option Bool
 | []=>some false
 | e :: r=>match eqv 55 e d with | none=>none | some b=>(inD d r).map (b || ·)
def dk (n:Nat) (d:D):Option D:=if n≤100000 then some d else none
def opI (o:Op) (i j:Int):Option D:=match o with
 | .add=>some (.int (i+j))
 | .sub=>some (.int (i - j))
 | .mul=>if ((-(2 ^ 64)<i∧i<2 ^ 64)∨(-(2 ^ 64)<j∧j<2 ^ 64))∨(i.natAbs<2 ^ 400∧j.natAbs<2 ^ 400) then some (.int (i * j)) else none
 | .fdiv=>if 0<j∧j<2 ^ 200 then some (.int (i / j)) else none
 | .mod=>if 0<j then some (.int (i % j)) else none
 | .pow=>if 0≤j∧j≤1000000∧i.natAbs<2 ^ 64 then some (.int (i ^ j.toNat)) else none
 | .shl=>if 0≤j∧j≤1000000∧i.natAbs<2 ^ 64 then some (.int (i * 2 ^ j.toNat)) else none
 | .shr=>if 0≤j then some (.int (i / 2 ^ j.toNat)) else none
 | .band=>some (.int (Builtin.bitAnd i j))
 | .bxor=>some (.int (Builtin.bitXor i j))
 | .lt=>some (.bl (decide (i<j)))
 | .le=>some (.bl (decide (i≤j)))
 | .gt=>some (.bl (decide (j<i)))
 | .ge=>some (.bl (decide (j≤i)))
 | _=>none
def opD (o:Op) (a b:D):Option D:=match o with
 | .eq=>(eqv 55 a b).map .bl
 | .ne=>(eqv 55 a b).map fun x=>.bl (!x)
 | .isin=>(match b with | .str y=>(match a with | .str x=>some (.bl (Txt.contains y x)) | _=>none) | .lst l=>(inD a l).map .bl | .tup l=>(inD a l).map .bl | .dic ks ds=>(bo a).map fun k=>.bl (cf ks ds k).isSome | _=>none)
 | .notin=>(match b with | .lst l=>(inD a l).map fun x=>.bl (!x) | .tup l=>(inD a l).map fun x=>.bl (!x) | .dic ks ds=>(bo a).map fun k=>.bl (!(cf ks ds k).isSome) | _=>none)
 | _=>match a,b with
   | .int i,.int j=>opI o i j
   | .str x,.str y=>if o = .add then dk (x.length+y.length) (.str (x ++ y)) else none
   | .tup x,.tup y=>if o = .add then dk (x.length+y.length) (.tup (x ++ y)) else none
   | .lst x,.lst y=>if o = .add then dk (x.length+y.length) (.lst (x ++ y)) else none
   | _,_=>none
def sD:D→Option Bool
 | .bl b=>some b
 | .tup l=>some (!l.isEmpty)
 | .lst l=>some (!l.isEmpty)
 | .int i=>some (i != 0)
 | .non=>some false
 | _=>none
def ixD (a b:D):Option D:=match a,b with
 | .tup l,.int i=>atI l i
 | .lst l,.int i=>atI l i
 | .str x,.int i=>if x.length≤100000 then (atI x.cps.toList i).map fun c=>.str ⟨#[c]⟩ else none
 | .dic ks ds,k=>(bo k).bind fun k=>cf ks ds k
 | _,_=>none
def mF (xs:List D) (lo hi:Option Int):List D:=(xs.drop (HT.sIx xs.length 0 lo)).take (HT.sIx xs.length xs.length hi - HT.sIx xs.length 0 lo)
def slO (a:D) (l h:Option Int):Option D:=match a with
 | .tup x=>some (.tup (mF x l h))
 | .lst x=>some (.lst (mF x l h))
 | .str x=>if x.length≤100000 then some (.str (Txt.slice x l h)) else none
 | _=>none
def cn {α:Type} (xs:List α) (lo:Option Int) (st:Int):List α:=(sliceRange (sliceBounds lo none (some st) xs.length).1 (sliceBounds lo none (some st) xs.length).2.1 (sliceBounds lo none (some st) xs.length).2.2).filterMap (xs[·]?)
def kW (a:D) (l st:Option Int):Option D:=match a,st with
 | .lst x,some k=>if k=0 then none else some (.lst (cn x l k))
 | _,_=>none
def isDic:D→Bool
 | .dic _ _=>true
 | _=>false
def bc:E→Bool
 | .nil=>true
 | _=>false
def toI (d:D) (s:Sta):Out (Option Int):=match d with | .int i=>.ok (some i) s | _=>.bad
def bR:List D→Option (List Int)
 | []=>some []
 | .int i :: r=>(bR r).map (i :: ·)
 | _=>none
def sH:List D→Option (List Bool)
 | []=>some []
 | .bl i :: r=>(sH r).map (i :: ·)
 | _=>none
def cS:List D→Option (List Str)
 | []=>some []
 | .str i :: r=>(cS r).map (i :: ·)
 | _=>none
def fZ (b:Bi) (x:D):Option D:=match b,x with
 | .len,.tup l=>some (.int l.length)
 | .len,.lst l=>some (.int l.length)
 | .len,.str x=>if x.length≤100000 then some (.int x.length) else none
 | .tuple,.lst l=>some (.tup l)
 | .tuple,.tup l=>some (.tup l)
 | .list,.tup l=>some (.lst l)
 | .list,.lst l=>some (.lst l)
 | .rev,.lst l=>some (.lst l.reverse)
 | .all,.lst l=>(sH l).map fun bs=>.bl (bs.all id)
 | .sum,.lst l=>(bR l).map fun ns=>.int (L2.Bk.sumI ns)
 | .abs,.int i=>some (.int (if i<0 then -i else i))
 | .str,.int i=>if i.natAbs.log2<1920 then some (.str (Str.ofString (toString i))) else none
 | .int,.int i=>some (.int i)
 | .int,.bl k=>some (.int (if k then 1 else 0))
 | .int,.str x=>if x.length≤640 then (PySem.intText? x).map .int else none
 | .dict,.dic k l=>some (.dic k l)
 | .isTup,d=>(match d with | .tup _=>some (.bl true) | .ref _=>none | .ins _ _=>none | _=>some (.bl false))
 | .isStr,d=>(match d with | .str _=>some (.bl true) | .ref _=>none | .ins _ _=>none | _=>some (.bl false))
 | .isBool,d=>(match d with | .bl _=>some (.bl true) | .ref _=>none | .ins _ _=>none | _=>some (.bl false))
 | .isInt,d=>(match d with | .bl _=>some (.bl true) | .int _=>some (.bl true) | .ref _=>none | .ins _ _=>none | _=>some (.bl false))
 | .isLst,d=>(match d with | .lst _=>some (.bl true) | .ref _=>none | .ins _ _=>none | _=>some (.bl false))
 | .isDic,d=>(match d with | .dic _ _=>some (.bl true) | .ref _=>none | .ins _ _=>none | _=>some (.bl false))
 | _,_=>none
def vV (b:Bi) (x y:D):Option D:=match b,x,y with
 | .max0,.lst l,.int d=>(bR l).map fun ns=>.int (L2.Bw.maxD d ns)
 | .max2,.int i,.int j=>some (.int (if j>i then j else i))
 | .min2,.int i,.int j=>some (.int (if j<i then j else i))
 | _,_,_=>none
def biD (b:Bi) (ds:List D):Option D:=match ds with
 | [x]=>fZ b x
 | [x,y]=>vV b x y
 | _=>none
def qY:Key→D
 | .inl i=>.int i
 | .inr x=>.str x
def qg:D→Option (List D)
 | .lst l=>some l
 | .tup l=>some l
 | .dic ks _=>some (ks.map qY)
 | .str x=>if x.cps.all (· < 128)=true then some (x.cps.toList.map fun c=>.str ⟨#[c]⟩) else none
 | _=>none
def iN (lo:Int) (n:Nat):List D:=(List.range n).map fun (i:Nat)=>.int (lo+i)
def vM:List D→List D→List D
 | a :: r,b :: q=>.tup [a,b] :: vM r q
 | _,_=>[]
def tH:List D→List D→List D→List D
 | a :: r,b :: q,c :: p=>.tup [a,b,c] :: tH r q p
 | _,_,_=>[]
def bu:Int→List D→List D
 | i,a :: r=>.tup [.int i,a] :: bu (i+1) r
 | _,[]=>[]
def ya (b:Bi) (x:D):Option (List D):=match b,x with
 | .range1,.int j=>if -(2 ^ 62)≤j∧j<2 ^ 62 then some (iN 0 j.toNat) else none
 | .enum,.lst x=>some (bu 0 x)
 | _,_=>none
def yb (b:Bi) (x y:D):Option (List D):=match b,x,y with
 | .range2,.int i,.int j=>if (-(2 ^ 62)≤i∧i<2 ^ 62∧-(2 ^ 62)≤j∧j<2 ^ 62) then some (iN i (j - i).toNat) else none
 | .zip2,.lst x,.lst y=>some (vM x y)
 | .zip2,.tup x,.tup y=>if x.length≤y.length then some (vM x y) else none
 | .enum2,.tup x,.int n=>if Builtin.SmallTypes.fitsIndex n=true then some (bu n x) else none
 | _,_,_=>none
def yc (b:Bi) (x y z:D):Option (List D):=match b,x,y,z with
 | .zip3,.tup x,.lst y,.lst z=>if x.length≤y.length∧x.length≤z.length then some (tH x y z) else none
 | _,_,_,_=>none
def itD (b:Bi) (ds:List D):Option (List D):=match ds with
 | [x]=>ya b x
 | [x,y]=>yb b x y
 | [x,y,z]=>yc b x y z
 | _=>none
def ko (Γ:Gm) (st:List O) (d:D) (f:Nat):Option D:=match d with
 | .ins c l=>(Γ.cl[c]?).bind fun k=>l[k.at_.idxOf f]?
 | .ref n=>(match st[n]? with | some (.ins c l)=>(Γ.cl[c]?).bind fun k=>l[k.at_.idxOf f]? | _=>none)
 | _=>none
def aD (t:List Nat) (one:Bool) (d:D) (env:List (Option D)):Option (List (Option D)):=
 if one then (match t with | [i]=>some (env.set i (some d)) | _=>none)
 else (match d with
  | .tup l=>if l.length=t.length then some ((t.zip l).foldl (fun e p=>e.set p.1 (some p.2)) env) else none
  | .lst l=>if l.length=t.length then some ((t.zip l).foldl (fun e p=>e.set p.1 (some p.2)) env) else none
  | _=>none)
def noX {α:Type}:Out α→Out α
 | .exc _ _ _=>.bad
 | o=>o
def aN (f:D→Sta→Out (Option D)):List D→List D→Sta→Out D
 | [],acc,s=>.ok (.lst acc) s
 | d :: r,acc,s=>(f d s).bind fun o s'=>match o with
   | some e=>if acc.length<100000 then aN f r (acc ++ [e]) s' else .bad
   | none=>aN f r acc s'
mutual
noncomputable def noL:D→Bool
 | .lst _=>false
 | .tup l=>jG l
 | .dic _ l=>jG l
 | .ins _ l=>jG l
 | _=>true
noncomputable def jG:List D→Bool
 | []=>true
 | d :: r=>noL d && jG r
end
mutual
noncomputable def noR:D→Bool
 | .ref _=>false
 | .tup l=>bW l
 | .lst l=>bW l
 | .dic _ l=>bW l
 | .ins _ l=>bW l
 | _=>true
noncomputable def bW:List D→Bool
 | []=>true
 | d :: r=>noR d && bW r
end
def mY:O→Bool
 | .lst _=>false
 | .dic _ l=>jG l
 | .ins _ l=>jG l
def bV:E→List Nat
 | .cons (.v i) r=>i :: bV r
 | .cons _ r=>bV r
 | _=>[]
def isLst:Option (Option D)→Bool
 | some (some (.lst _))=>true
 | _=>false
def aft (es:E) (s:Sta) (d:D) (st:List O):Sta:=⟨s.env,s.ow.filter fun i=>!(bV es).contains i || (isLst s.env[i]? && (noL d && st.all mY)),st⟩
def drp (es:E) (s:Sta) (st:List O):Sta:=⟨s.env,s.ow.filter fun i=>!(bV es).contains i,st⟩
def oh:List D→Option (List Key×List D)
 | []=>some ([],[])
 | [_]=>none
 | k :: d :: r=>(bo k).bind fun k=>(oh r).bind fun p=>if p.1.contains k then none else some (k :: p.1,d :: p.2)
def oR (x:Str):List D→Nat→Option Nat
 | .str y :: r,j=>if y=x then some j else oR x r (j+1)
 | _,_=>none
def oW (x:Str) (y:D):Option D:=match y with
 | .lst l=>(cS l).bind fun ss=>if x.length≤64∧(ss.map (·.length)).sum≤100000∧ss.length≤1000 then some (.str (Txt.join x ss)) else none
 | _=>none
def oM (x:Str) (v:D) (y:Str):Option D:=match v with
 | .str z=>if x.length≤1000∧z.length≤100000∧y.length≤1000 then some (.str (((Str.empty ++ x) ++ z) ++ y)) else none
 | _=>none
def lr (ks:List Str) (l:List D):Option D:=if ks.length=l.length∧ks.Nodup∧ks.length≤15∧ks≠[] then some (.dic (ks.map .inr) l) else none
section
variable (Γ:Gm) (cal cal1:Nat→List D→List O→Res)
def gb (es:E) (j:Nat) (ds:List D) (s:Sta):Out D:=match cal j ds s.st with
 | .ok d st=>.ok d (aft es s d st)
 | .exc c l st=>.exc c l (drp es s st)
 | .bad=>.bad
def qO (j:Nat) (ds:List D) (s:Sta):Out D:=if bW ds then (match cal j ds [] with
 | .ok d _=>if noR d then .ok d s else .bad
 | .exc c l _=>if bW l then .exc c l s else .bad
 | .bad=>.bad) else .bad
mutual
noncomputable def ev (br:Bool):E→Sta→Out D
 | .v i,s=>(match s.env[i]? with | some (some d)=>.ok d (if br then s else un s i) | _=>.bad)
 | .c d,s=>.ok d s
 | .g j,s=>.of s (Γ.gl[j]?.map toD)
 | .op o a b,s=>(ev true a s).bind fun x s=>(ev true b s).bind fun y s=>.of s (opD o (look s.st x) (look s.st y))
 | .isN a,s=>(ev true a s).bind fun x s=>.ok (.bl (jo x)) s
 | .isNN a,s=>(ev true a s).bind fun x s=>.ok (.bl (!jo x)) s
 | .neg a,s=>(ev true a s).bind fun x s=>(match x with | .int i=>.ok (.int (-i)) s | _=>.bad)
 | .not a,s=>(ev true a s).bind fun x s=>(match x with | .bl b=>.ok (.bl (!b)) s | _=>.bad)
 | .and a b,s=>(ev false a s).bind fun x s=>(match x with | .bl true=>ev false b s | .bl false=>.ok (.bl false) s | _=>.bad)
 | .or a b,s=>(ev false a s).bind fun x s=>(match x with | .bl false=>ev false b s | .bl true=>.ok (.bl true) s | _=>.bad)
 | .ite c a b,s=>(ev true c s).bind fun x s=>(match x with | .bl true=>ev false a s | .bl false=>ev false b s | _=>.bad)
 | .chain o p a b c,s=>(ev true a s).bind fun x s=>(ev true b s).bind fun y s=>(match opD o (look s.st x) (look s.st y) with
   | some (.bl true)=>(ev true c s).bind fun z s=>.of s (opD p (look s.st y) (look s.st z))
   | some (.bl false)=>.ok (.bl false) s
   | _=>.bad)
 | .ix a b,s=>(ev true a s).bind fun x s=>(ev true b s).bind fun y s=>.of s (ixD (look s.st x) y)
 | .sl a lo hi,s=>(ev true a s).bind fun x s=>(if bc lo then .ok none s else (ev true lo s).bind toI).bind fun l s=>(if bc hi then .ok none s else (ev true hi s).bind toI).bind fun h s=>.of s (slO (look s.st x) l h)
 | .sl3 a lo st,s=>(ev true a s).bind fun x s=>(if bc lo then .ok none s else (ev true lo s).bind toI).bind fun l s=>(if bc st then .ok none s else (ev true st s).bind toI).bind fun z s=>.of s (kW (look s.st x) l z)
 | .tget j e d,s=>(ev true e s).bind fun x s=>(ev false d s).bind fun z s=>(match Γ.tb[j]?,x with | some t,.str k=>.ok (((KTD.datumAt k t).map toD).getD z) s | _,_=>.bad)
 | .newd j es,s=>(evs false es s).bind fun l s=>.of s ((Γ.cl[j]?).bind fun k=>if k.what=1∧l.length=k.at_.length then some (D.ins j l) else none)
 | .fld a f,s=>(ev true a s).bind fun x s=>.of s (ko Γ s.st x f)
 | .tup es,s=>(evs false es s).bind fun l s=>if l.length≤100000 then .ok (.tup l) s else .bad
 | .lst es,s=>(evs false es s).bind fun l s=>if l.length≤100000 then .ok (.lst l) s else .bad
 | .newl es,s=>(evs false es s).bind fun l s=>if l.length≤100000 then .ok (.ref s.st.length) ⟨s.env,s.ow,s.st ++ [.lst l]⟩ else .bad
 | .call j es,s=>(evs true es s).bind fun l s=>gb cal es j l s
 | .hcall j es,s=>(evs false es s).bind fun l s=>qO cal j l s
 | .mth c j a es,s=>(ev true a s).bind fun x s=>(match x with
   | .ref p=>(match s.st[p]? with
     | some (.ins c' _)=>if c'=c then (evs true es s).bind fun l s=>gb cal es j (x :: l) s else .bad
     | _=>.bad)
   | _=>.bad)
 | .bi b es,s=>(evs true es s).bind fun l s=>.of s (biD b (l.map (look s.st)))
 | .tab j e,s=>(ev true e s).bind fun x s=>(match Γ.tb[j]?,x with | some t,.str k=>.of s ((KTD.datumAt k t).map toD) | _,_=>.bad)
 | .tabin j e,s=>(ev true e s).bind fun x s=>(match Γ.tb[j]?,x with | some t,.str k=>.ok (.bl (KTD.datumAt k t).isSome) s | _,_=>.bad)
 | .lc t one it elt cond,s=>(ev false it s).bind fun x s=>(match x with
   | .lst ds=>(aN (fun d s'=>(match aD t one d s'.env with
     | some env=>(noX (ev true cond ⟨env,[],s'.st⟩)).bind fun b s2=>(match b with
       | .bl true=>(noX (ev false elt s2)).bind fun e s3=>.ok (some e) ⟨s3.env,[],s3.st⟩
       | .bl false=>.ok none ⟨s2.env,[],s2.st⟩
       | _=>.bad)
     | none=>.bad)) ds [] ⟨List.replicate t.length none ++ s.env,[],s.st⟩).bind fun d s'=>.ok d ⟨s.env,[],s'.st⟩
   | _=>.bad)
 | .tand a b,s=>(ev true a s).bind fun x s=>(match x with | .bl true=>ev true b s | .bl false=>.ok (.bl false) s | _=>.bad)
 | .tor a b,s=>(ev true a s).bind fun x s=>(match x with | .bl true=>.ok (.bl true) s | .bl false=>ev true b s | _=>.bad)
 | .tnot a,s=>(ev true a s).bind fun x s=>(match x with | .bl b=>.ok (.bl (!b)) s | _=>.bad)
 | .tv a,s=>(ev true a s).bind fun x s=>.of s ((sD (look s.st x)).map .bl)
 | .it b es,s=>(evs false es s).bind fun l s=>.of s ((itD b l).map .lst)
 | .itv a,s=>(ev false a s).bind fun x s=>.of s ((qg x).map .lst)
 | .dic es,s=>(evs false es s).bind fun l s=>.of s ((oh l).map fun p=>.dic p.1 p.2)
 | .get a b c,s=>(ev true a s).bind fun x s=>if isDic (look s.st x)=true then (ev true b s).bind fun y s=>(ev false c s).bind fun z s=>(match look s.st x,bo y with
   | .dic ks ds,some k=>.ok ((cf ks ds k).getD z) s
   | _,_=>.bad) else .bad
 | .index a b,s=>(ev true a s).bind fun x s=>(ev true b s).bind fun y s=>(match look s.st x,y with
   | .tup l,.str k=>if l.length≤1000 then .of s ((oR k l 0).map fun j=>.int j) else .bad
   | .lst l,.str k=>if l.length≤1000 then .of s ((oR k l 0).map fun j=>.int j) else .bad
   | _,_=>.bad)
 | .join x a,s=>(ev true a s).bind fun y s=>.of s (oW x (look s.st y))
 | .fmt x a y,s=>(ev true a s).bind fun v s=>.of s (oM x v y)
 | .dicc ks es,s=>(evs false es s).bind fun l s=>.of s (lr ks l)
 | .isX a js,s=>(ev true a s).bind fun x s=>(match x with
   | .ins c _=>.of s ((Γ.cl[c]?).map fun k=>.bl (js.any fun j=>c == j || k.sup.contains j))
   | _=>.bad)
 | .new j es,s=>(evs true es s).bind fun l s=>(match Γ.cl[j]? with
   | some k=>if k.what=1 then (if l.length=k.at_.length then .ok (.ins j l) (drp es s s.st) else .bad)
     else if k.what=0 then (match cal1 k.init (.ref s.st.length :: l) (s.st ++ [.ins j []]) with
      | .ok .non st=>.ok (.ref s.st.length) (aft es s .non st)
      | _=>.bad)
     else .bad
   | none=>.bad)
 | _,_=>.bad
noncomputable def evs (br:Bool):E→Sta→Out (List D)
 | .nil,s=>.ok [] s
 | .cons a r,s=>(ev br a s).bind fun x s=>(evs br r s).bind fun l s=>.ok (x :: l) s
 | _,_=>.bad
end
end
end L2.Ev
namespace L2.Ev
def bb:E→Bool
 | .lst _=>true | .lc ..=>true | .bi .list _=>true | .bi .rev _=>true | .bi .dict _=>true | .dic _=>true | _=>false
def ui:D→Bool
 | .lst _=>true | .dic _ _=>true | _=>false
def kS (s:Sta) (i:Nat) (d:D) (f:Bool):Sta:=⟨s.env.set i (some d),if f && ui d then i :: s.ow.filter (· != i) else s.ow.filter (· != i),s.st⟩
def pY (l:List D) (i:Int) (d:D):Option (List D):=(ixN l.length i).map fun j=>l.set j d
def iL (o:O) (k d:D):Option O:=match o with
 | .lst l=>(match k with | .int i=>(pY l i d).map .lst | _=>none)
 | .dic ks ds=>(bo k).bind fun k=>if ks.length<100000 then some (.dic (bp ks ds k d).1 (bp ks ds k d).2) else none
 | _=>none
def kP (o:D) (k d:D):Option D:=match o with
 | .lst l=>(match k with | .int i=>(pY l i d).map .lst | _=>none)
 | .dic ks ds=>(bo k).bind fun k=>if ks.length<100000 then some (.dic (bp ks ds k d).1 (bp ks ds k d).2) else none
 | _=>none
def dN (Γ:Gm) (o:O) (f:Nat) (d:D):Option O:=match o with
 | .ins c l=>(Γ.cl[c]?).bind fun k=>if k.at_.length<1000 then (if k.at_.idxOf f<l.length then some (.ins c (l.set (k.at_.idxOf f) d)) else if k.at_.idxOf f=l.length∧k.at_.idxOf f<k.at_.length then some (.ins c (l ++ [d])) else none) else none
 | _=>none
def vH:Option D→Bool
 | some (.int n)=>decide (0≤n) && decide (n<100000)
 | _=>false
def gU (Γ:Gm) (j:Nat) (l:List D):Bool:=match Γ.cl[j]? with
 | some k=>l.length == k.at_.length && k.chk.all (fun i=>vH l[i]?) && decide (l.length≤1000) && !l.isEmpty
 | none=>false
def aQ (f:D→Sta→am):List D→Sta→am
 | [],s=>.nx s
 | d :: r,s=>(f d s).go fun s=>aQ f r s
def tF (c:Sta→Out D) (f:Sta→am):Nat→Sta→am
 | 0,_=>.bad
 | m+1,s=>(c s).go fun x s=>match x with | .bl true=>(f s).go fun s=>tF c f m s | .bl false=>.nx s | _=>.bad
section
variable (Γ:Gm) (cal cal1:Nat→List D→List O→Res)
def exS:S→Sta→am
 | .skip,s=>.nx s
 | .seq a b,s=>(exS a s).go fun s=>exS b s
 | .set i e,s=>(ev Γ cal cal1 false e s).go fun d s=>.nx (kS s i d (bb e))
 | .setT l e,s=>(ev Γ cal cal1 false e s).go fun d s=>(match aD l false d s.env with | some env=>.nx ⟨env,s.ow.filter fun i=>!l.contains i,s.st⟩ | none=>.bad)
 | .setR i es,s=>(evs Γ cal cal1 false es s).go fun l s=>if l.length≤100000 then .nx ⟨s.env.set i (some (.ref s.st.length)),s.ow.filter (· != i),s.st ++ [.lst l]⟩ else .bad
 | .ret e,s=>(ev Γ cal cal1 false e s).go fun d s=>.rt d s
 | .ifs c a b,s=>(ev Γ cal cal1 true c s).go fun x s=>(match x with | .bl true=>exS a s | .bl false=>exS b s | _=>.bad)
 | .drop e,s=>(ev Γ cal cal1 false e s).go fun _ s=>.nx s
 | .app i e,s=>if s.ow.contains i && isLst s.env[i]? then (ev Γ cal cal1 false e s).go fun d s=>if s.ow.contains i then (match s.env[i]? with
  | some (some (.lst l))=>if l.length<100000 then .nx ⟨s.env.set i (some (.lst (l ++ [d]))),s.ow,s.st⟩ else .bad
  | _=>.bad) else .bad else .bad
 | .ext i e,s=>if s.ow.contains i && isLst s.env[i]? then (ev Γ cal cal1 false e s).go fun d s=>if s.ow.contains i then (match s.env[i]?,d with
  | some (some (.lst l)),.lst x=>if l.length+x.length≤100000 then .nx ⟨s.env.set i (some (.lst (l ++ x))),s.ow,s.st⟩ else .bad
  | _,_=>.bad) else .bad else .bad
 | .put (.v i) b e,s=>(ev Γ cal cal1 false e s).go fun d s=>(match s.env[i]? with
  | some (some x)=>(ev Γ cal cal1 true b s).go fun k s=>(match x with
    | .ref n=>(match (s.st[n]?).bind fun o=>iL o k d with | some o=>.nx ⟨s.env,s.ow,s.st.set n o⟩ | none=>.bad)
    | x=>if s.ow.contains i then (match kP x k d with | some y=>.nx ⟨s.env.set i (some y),s.ow,s.st⟩ | none=>.bad) else .bad)
  | _=>.bad)
 | .put a b e,s=>(ev Γ cal cal1 false e s).go fun d s=>(ev Γ cal cal1 true a s).go fun x s=>(ev Γ cal cal1 true b s).go fun k s=>(match x with
  | .ref n=>(match (s.st[n]?).bind fun o=>iL o k d with | some o=>.nx ⟨s.env,s.ow,s.st.set n o⟩ | none=>.bad)
  | _=>.bad)
 | .fld a f e,s=>(match e with
  | .lst .nil=>(ev Γ cal cal1 true a s).go fun x s=>(match x with
    | .ref n=>(match (s.st[n]?).bind fun o=>dN Γ o f (.ref s.st.length) with | some o=>.nx ⟨s.env,s.ow,(s.st ++ [O.lst []]).set n o⟩ | none=>.bad)
    | _=>.bad)
  | .dic .nil=>(ev Γ cal cal1 true a s).go fun x s=>(match x with
    | .ref n=>(match (s.st[n]?).bind fun o=>dN Γ o f (.ref s.st.length) with | some o=>.nx ⟨s.env,s.ow,(s.st ++ [O.dic [] []]).set n o⟩ | none=>.bad)
    | _=>.bad)
  | e=>(ev Γ cal cal1 false e s).go fun d s=>(ev Γ cal cal1 true a s).go fun x s=>(match x with
    | .ref n=>(match (s.st[n]?).bind fun o=>dN Γ o f d with | some o=>.nx ⟨s.env,s.ow,s.st.set n o⟩ | none=>.bad)
    | _=>.bad))
 | .aug a f o e,s=>(ev Γ cal cal1 true a s).go fun x s=>(match x with
  | .ref n=>(match ko Γ s.st x f with
    | some (.int i)=>(ev Γ cal cal1 false e s).go fun d s=>(match d with
      | .int j=>(match opI o i j,s.st[n]? with
        | some y,some ob=>(match dN Γ ob f y with | some ob=>.nx ⟨s.env,s.ow,s.st.set n ob⟩ | none=>.bad)
        | _,_=>.bad)
      | _=>.bad)
    | _=>.bad)
  | _=>.bad)
 | .fapp a f e,s=>(ev Γ cal cal1 true (.fld a f) s).go fun x s=>(ev Γ cal cal1 false e s).go fun d s=>(match x with
  | .ref n=>(match s.st[n]? with | some (.lst l)=>if l.length<100000 then .nx ⟨s.env,s.ow,s.st.set n (.lst (l ++ [d]))⟩ else .bad | _=>.bad)
  | _=>.bad)
 | .for_ t one it b,s=>(ev Γ cal cal1 false it s).go fun x s=>(match x with
  | .lst ds=>aQ (fun d s=>match aD t one d s.env with | some env=>exS b ⟨env,s.ow.filter fun i=>!t.contains i,s.st⟩ | none=>.bad) ds s
  | _=>.bad)
 | .whl c b,s=>tF (ev Γ cal cal1 true c) (exS b) 100000 s
 | .rais j es,s=>(evs Γ cal cal1 false es s).go fun l s=>if gU Γ j l then .exc j l s else .bad
 | .try_ a hs,s=>(match exS a s with
  | .exc c l s'=>hnd hs c l s'
  | r=>r)
 | _,_=>.bad
where hnd:S→Nat→List D→Sta→am
 | .hand j (some i) b _,c,l,s=>if ((Γ.cl[c]?).any fun k=>c == j || k.sup.contains j) then
  (match exS b ⟨s.env.set i (some (.ins c l)),s.ow.filter (· != i),s.st⟩ with
   | .nx s=>.nx ⟨s.env.set i none,s.ow.filter (· != i),s.st⟩
   | .rt d s=>.rt d s
   | _=>.bad) else .bad
 | .hand j none b _,c,l,s=>if ((Γ.cl[c]?).any fun k=>c == j || k.sup.contains j) then (match exS b s with | .nx s=>.nx s | .rt d s=>.rt d s | _=>.bad) else .bad
 | _,_,_,_=>.bad
end
def jR (Γ:Gm) (cal cal1:Nat→List D→List O→Res) (j:Nat) (ds:List D) (st:List O):Res:=match Γ.fn[j]? with
 | some f=>if ds.length=f.np then (match exS Γ cal cal1 f.body ⟨ds.map some ++ List.replicate (f.ns - f.np) none,[],st⟩ with
   | .nx s=>.ok .non s.st
   | .rt d s=>.ok d s.st
   | .exc c l s=>.exc c l s.st
   | .bad=>.bad) else .bad
 | none=>.bad
def nZ (Γ:Gm):Nat→(Nat→List D→List O→Res)×(Nat→List D→List O→Res)
 | 0=>(fun _ _ _=>.bad,fun _ _ _=>.bad)
 | n+1=>(jR Γ (nZ Γ n).1 (nZ Γ n).2,(nZ Γ n).1)
def af (Γ:Gm) (n:Nat):Nat→List D→List O→Res:=(nZ Γ n).1
def aE (Γ:Gm) (n:Nat):Nat→List D→List O→Res:=(nZ Γ n).2
structure CI where
 ad:Addr
 nm:List Str
structure Wd where
 P:Program
 w:World
 ci:List CI
 what:List Nat
abbrev Hp:=Addr→Option Obj
abbrev Rs:=List (Addr×Addr)
def TpO (o:Obj) (l:List Value):Prop:=o.cls = .type "tuple"∧(∃ n,o.data = .seq l.toArray n)∧l.length≤sizeLine
def LsO (o:Obj) (l:List Value):Prop:=(∃ n,o={ cls:=.type "list",data:=.seq l.toArray n })∧l.length≤sizeLine
def DcO (W:Wd) (o:Obj) (l:List (Key×Value)):Prop:=∃ es ep,o.ExactDict∧o.data = .dict es ep∧KeysOf (aI W.P W.w) es∧Pairs (aI W.P W.w) es.toList l∧(l.map (·.1)).Nodup∧l.length≤sizeLine
def NsO (o:Obj) (l:List (Str×Value)):Prop:=∃ es ep,o.data = .dict es ep∧StrKeys es∧UniqKeys es∧∀ n,nsFind es n=l.lookup n
def InO (h:Hp) (a dx C:Addr) (l:List (Str×Value)):Prop:=h a=some (PySem.W.instObj C dx)∧dx≠a∧l.length≤1000∧∃ o,h dx=some o∧NsO o l
def ExO (h:Hp) (a C:Addr) (l:List (Str×Value)):Prop:=∃ o vs,h a=some o∧o.cls = .ref C∧o.data = .fields vs∧((l = []∧o.dict=none)∨∃ d od,o.dict=some d∧h d=some od∧NsO od l)
mutual
noncomputable def RD (W:Wd) (ρ:Rs) (G:Hp):D→Value→Prop
 | .non,v=>v = .none
 | .bl b,v=>v = .bool b
 | .int i,v=>∃ t,v = .int i t
 | .str x,v=>∃ t,v = .str x t
 | .tup ds,v=>∃ a o vs,v = .ref a∧G a=some o∧TpO o vs∧RDs W ρ G ds vs
 | .lst ds,v=>∃ a o vs,v = .ref a∧G a=some o∧LsO o vs∧RDs W ρ G ds vs
 | .dic ks ds,v=>∃ a o vs,v = .ref a∧(a == sysModules)=false∧G a=some o∧DcO W o (ks.zip vs)∧ks.length=ds.length∧RDs W ρ G ds vs
 | .ins c ds,v=>∃ a i vs,v = .ref a∧W.ci[c]? = some i∧ds.length≤i.nm.length∧((W.what[c]? = some 1∧∃ dx,InO G a dx i.ad (i.nm.zip vs))∨(W.what[c]? = some 2∧ExO G a i.ad (i.nm.zip vs)))∧RDs W ρ G ds vs
 | .ref n,v=>∃ p,ρ[n]? = some p∧v = .ref p.1
noncomputable def RDs (W:Wd) (ρ:Rs) (G:Hp):List D→List Value→Prop
 | [],vs=>vs = []
 | d :: ds,vs=>∃ v r,vs=v :: r∧RD W ρ G d v∧RDs W ρ G ds r
end
def Sub (G H:Hp):Prop:=∀ a o,G a=some o→H a=some o
theorem Sub.refl (G):Sub G G:=fun _ _ e=>e
theorem Sub.trans (h:Sub G H) (i:Sub H I):Sub G I:=fun a o e=>i a o (h a o e)
section
variable {W:Wd} {ρ ρ':Rs} {G G' H H':Hp}
theorem iJ (h:ρ <+: ρ') {n:Nat} (e:ρ[n]? = some a):ρ'[n]? = some a:=by
 obtain ⟨t,rfl⟩:=h
 rw [List.getElem?_append_left (List.getElem?_eq_some_iff.mp e).1];exact e
theorem InO.sub (h:Sub G G'):InO G a dx C l→InO G' a dx C l:=fun ⟨x,n,z,o,e,r⟩=>⟨h _ _ x,n,z,o,h _ _ e,r⟩
theorem ExO.sub (h:Sub G G'):ExO G a C l→ExO G' a C l:=fun ⟨o,vs,e,c,d,r⟩=>⟨o,vs,h _ _ e,c,d,r.elim .inl fun ⟨d,od,q,e,r⟩=>.inr ⟨d,od,q,h _ _ e,r⟩⟩
mutual
theorem RD.mono (hp:ρ <+: ρ') (h:Sub G G'):∀ {d:D} {v},RD W ρ G d v→RD W ρ' G' d v
 | .non,_,e=>e
 | .bl _,_,e=>e
 | .int _,_,e=>e
 | .str _,_,e=>e
 | .tup _,_,⟨a,o,vs,e,t,q,r⟩=>⟨a,o,vs,e,h _ _ t,q,RDs.mono hp h r⟩
 | .lst _,_,⟨a,o,vs,e,t,q,r⟩=>⟨a,o,vs,e,h _ _ t,q,RDs.mono hp h r⟩
 | .dic _ _,_,⟨a,o,vs,e,m,t,q,l,r⟩=>⟨a,o,vs,e,m,h _ _ t,q,l,RDs.mono hp h r⟩
 | .ins _ _,_,⟨a,i,vs,e,hc,l,t,r⟩=>⟨a,i,vs,e,hc,l,t.elim (fun ⟨w,dx,q⟩=>.inl ⟨w,dx,q.sub h⟩) (fun ⟨w,q⟩=>.inr ⟨w,q.sub h⟩),RDs.mono hp h r⟩
 | .ref _,_,⟨a,e,q⟩=>⟨a,iJ hp e,q⟩
theorem RDs.mono (hp:ρ <+: ρ') (h:Sub G G'):∀ {ds} {vs},RDs W ρ G ds vs→RDs W ρ' G' ds vs
 | [],_,e=>e
 | _ :: _,_,⟨v,r,e,t,q⟩=>⟨v,r,e,RD.mono hp h t,RDs.mono hp h q⟩
end
theorem RDs.cons (h:RD W ρ G d v) (t:RDs W ρ G ds vs):RDs W ρ G (d :: ds) (v :: vs):=⟨v,vs,rfl,h,t⟩
theorem iM:∀ {ds vs},RDs W ρ G ds vs↔Paired (RD W ρ G) ds vs
 | [],vs=>⟨fun h=>by cases (show vs = [] from h);exact .nil,fun h=>by cases h;exact rfl⟩
 | d :: ds,vs=>⟨fun ⟨v,r,e,h,t⟩=>e ▸ .cons h (iM.mp t),fun h=>by cases h with | cons h t=>exact .cons h (iM.mpr t)⟩
theorem RDs.len (h:RDs W ρ G ds vs):ds.length=vs.length:=(iM.mp h).length
theorem RDs.get:∀ {ds} {vs} {i:Nat} {d:D},RDs W ρ G ds vs→ds[i]? = some d→∃ v,vs[i]? = some v∧RD W ρ G d v
 | [],_,_,_,_,e=>by simp at e
 | d :: ds,vs,0,d',⟨v,r,e,h,_⟩,e'=>by subst e;simp at e';subst e';exact ⟨v,rfl,h⟩
 | d :: ds,vs,i+1,d',⟨v,r,e,_,t⟩,e'=>by
   subst e
   obtain ⟨u,h1,h2⟩:=RDs.get (i:=i) t (by simpa using e')
   exact ⟨u,by simpa using h1,h2⟩
theorem RDs.app:∀ {ds es} {vs us},RDs W ρ G ds vs→RDs W ρ G es us→RDs W ρ G (ds ++ es) (vs ++ us)
 | [],_,vs,_,h,t=>by cases (show vs = [] from h);exact t
 | d :: ds,es,vs,us,⟨v,r,e,h,t'⟩,t=>by subst e;exact .cons h (RDs.app t' t)
theorem RDs.drop:∀ {ds} {vs} (n),RDs W ρ G ds vs→RDs W ρ G (ds.drop n) (vs.drop n)
 | _,_,0,h=>h
 | [],vs,n+1,h=>by cases (show vs = [] from h);exact rfl
 | d :: ds,vs,n+1,⟨v,r,e,h,t⟩=>by subst e;exact RDs.drop n t
theorem RDs.take:∀ {ds} {vs} (n),RDs W ρ G ds vs→RDs W ρ G (ds.take n) (vs.take n)
 | _,_,0,_=>rfl
 | [],vs,n+1,h=>by cases (show vs = [] from h);exact rfl
 | d :: ds,vs,n+1,⟨v,r,e,h,t⟩=>by subst e;exact .cons h (RDs.take n t)
theorem RDs.set:∀ {ds} {vs} (n) {d} {v},RDs W ρ G ds vs→RD W ρ G d v→RDs W ρ G (ds.set n d) (vs.set n v)
 | [],vs,_,_,_,h,_=>by cases (show vs = [] from h);exact rfl
 | d :: ds,vs,0,_,_,⟨v,r,e,h,t⟩,q=>by subst e;exact .cons q t
 | d :: ds,vs,n+1,_,_,⟨v,r,e,h,t⟩,q=>by subst e;exact .cons h (RDs.set n t q)
theorem RDs.rev:∀ {ds} {vs},RDs W ρ G ds vs→RDs W ρ G ds.reverse vs.reverse
 | [],vs,h=>by cases (show vs = [] from h);exact rfl
 | d :: ds,vs,⟨v,r,e,h,t⟩=>by subst e;rw [List.reverse_cons,List.reverse_cons];exact (RDs.rev t).app (.cons h rfl)
end
def ObR (W:Wd) (ρ:Rs) (G h:Hp) (p:Addr×Addr):O→Prop
 | .lst ds=>∃ o vs,p.2=p.1∧h p.1=some o∧LsO o vs∧RDs W ρ G ds vs
 | .dic ks ds=>∃ o vs,p.2=p.1∧(p.1 == sysModules)=false∧h p.1=some o∧DcO W o (ks.zip vs)∧ks.length=ds.length∧RDs W ρ G ds vs
 | .ins c ds=>∃ i vs,W.ci[c]? = some i∧W.what[c]? = some 0∧ds.length≤i.nm.length∧InO h p.1 p.2 i.ad (i.nm.zip vs)∧RDs W ρ G ds vs
theorem ObR.mono (hp:ρ <+: ρ') (g:Sub G G') (k:∀ a,a=p.1∨a=p.2→∀ o,h a=some o→h' a=some o):∀ {o},ObR W ρ G h p o→ObR W ρ' G' h' p o
 | .lst _,⟨o,vs,z,e,q,r⟩=>⟨o,vs,z,k _ (.inl rfl) _ e,q,r.mono hp g⟩
 | .dic _ _,⟨o,vs,z,m,e,q,l,r⟩=>⟨o,vs,z,m,k _ (.inl rfl) _ e,q,l,r.mono hp g⟩
 | .ins _ _,⟨i,vs,c,w,l,⟨e,n,z,o,e2,q⟩,r⟩=>⟨i,vs,c,w,l,⟨k _ (.inl rfl) _ e,n,z,o,k _ (.inr rfl) _ e2,q⟩,r.mono hp g⟩
theorem ObR.th:∀ {o},ObR W ρ G h p o→(∃ o,h p.1=some o)∧∃ o,h p.2=some o
 | .lst _,⟨o,vs,z,e,_⟩=>⟨⟨o,e⟩,z ▸ ⟨o,e⟩⟩
 | .dic _ _,⟨o,vs,z,m,e,_⟩=>⟨⟨o,e⟩,z ▸ ⟨o,e⟩⟩
 | .ins _ _,⟨i,vs,c,w,l,⟨e,n,z,o,e2,q⟩,r⟩=>⟨⟨_,e⟩,⟨_,e2⟩⟩
def toO:D→Option O
 | .lst l=>some (.lst l)
 | .dic k l=>some (.dic k l)
 | _=>none
structure Cx where
 W:Wd
 K:Fg
 mg:Str→Option Value
 base:Heap
 os:OsState
 Γ:Gm
 cal:Nat→List D→List O→Res
 cal1:Nat→List D→List O→Res
 A:Around
 fr:List Env
 N:List Str
 env:Env
 calm:Bool
abbrev Cx.ev (X:Cx) (br:Bool) (e:E):Sta→Out D:=Ev.ev X.Γ X.cal X.cal1 br e
abbrev Cx.evs (X:Cx) (br:Bool) (e:E):Sta→Out (List D):=Ev.evs X.Γ X.cal X.cal1 br e
abbrev Cx.ex (X:Cx) (c:S):Sta→am:=Ev.exS X.Γ X.cal X.cal1 c
abbrev Cx.M (X:Cx):Model:=model X.W.P X.W.w
structure Z where
 ρ:Rs
 G:Hp
 t:Sta
 σ:List (Option Value)
 s:Shared
abbrev Z.h (z:Z):Hp:=z.s.heap.get?
def Mu (ρ:Rs) (a:Addr):Prop:=∃ p∈ρ,a=p.1∨a=p.2
def Own (z:Z) (a:Addr):Prop:=∃ i∈z.t.ow,z.σ[i]? = some (some (.ref a))
def Lc (X:Cx) (a:Addr):Prop:=a=X.env.locals∨∃ x,X.env.cells.lookup x=some a
structure HR (X:Cx) (z:Z):Prop where
 md:Mod X.K X.mg X.base
 fm:X.A.frames=some X.fr
 hd:X.calm=true→X.A.handled=none
 bs:∀ b o,X.base.get? b=some o→z.G b=some o
 gh:Sub z.G z.h
 rl:z.ρ.length=z.t.st.length
 rn:∀ (i j:Nat) (p q:Addr×Addr) (a:Addr),z.ρ[i]? = some p→z.ρ[j]? = some q→(a=p.1∨a=p.2)→(a=q.1∨a=q.2)→i=j
 rg:∀ a,Mu z.ρ a→z.G a=none
 ob:∀ (n:Nat) (o:O) (p:Addr×Addr),z.t.st[n]? = some o→z.ρ[n]? = some p→ObR X.W z.ρ z.G z.h p o
 fu:z.s.heap.FunFrames X.base X.fr
 ff:∀ b∈frs X.fr,z.G b=none∧¬ Mu z.ρ b
 br:AllBare z.s.gens
 os:z.s.os=X.os
structure COk (X:Cx):Prop where
 un:X.A.units+200<cLine
 kd:X.env.scope.kind = .function
 gl:X.env.globals=mainGlobals
 bl:X.env.builtins=builtinsNs
 ci:∀ x y c,X.env.cells.lookup x=some c→X.env.cells.lookup y=some c→x=y
 ch:∀ x,(X.env.kindOf x=some .cell∨X.env.kindOf x=some .free)→∃ c,X.env.cells.lookup x=some c
def Fre (X:Cx) (z:Z) (a:Addr):Prop:=z.G a=none∧¬ Mu z.ρ a∧a ∉ frs X.fr∧¬ Lc X a
structure Rep (X:Cx) (z:Z):Prop extends HR X z where
 ok:COk X
 lo:∃ m,z.s.heap.Ns X.env.locals m∧∀ (i:Nat) (x:Str) (u:Value),X.N[i]? = some x→z.σ[i]? = some (some u)→Vis X.env.scope x→j7 X.env z.s.heap m x u
 ce:∀ x c,X.env.cells.lookup x=some c→∃ v,z.s.heap.IsCell c v
 fl:∀ a,Lc X a→z.G a=none∧¬ Mu z.ρ a
 el:z.t.env.length=z.σ.length
 sl:z.σ.length=X.N.length
 en:∀ (i:Nat) (d:D),i ∉ z.t.ow→z.t.env[i]? = some (some d)→∃ u,z.σ[i]? = some (some u)∧RD X.W z.ρ z.G d u
 eo:∀ (i:Nat),i∈z.t.ow→∃ d a o,z.t.env[i]? = some (some d)∧z.σ[i]? = some (some (.ref a))∧toO d=some o∧ObR X.W z.ρ z.G z.h (a,a) o∧Fre X z a
 od:∀ (i j:Nat) (a:Addr),i∈z.t.ow→j∈z.t.ow→z.σ[i]? = some (some (.ref a))→z.σ[j]? = some (some (.ref a))→i=j
structure Stp (fr:List Env) (w:Addr→Prop) (z z':Z):Prop where
 pr:z.ρ <+: z'.ρ
 gg:Sub z.G z'.G
 gn:∀ a o,z'.G a=some o→z.G a=some o∨z.h a=none∨w a
 rn:∀ a,Mu z'.ρ a→Mu z.ρ a∨z.h a=none
 th:∀ a o,z.h a=some o→∃ o',z'.h a=some o'
 sm:∀ a o,z.h a=some o→¬ Mu z.ρ a→¬ w a→a ∉ frs fr→z'.h a=some o
 sl:∀ a o,z.h a=some o→¬ Mu z.ρ a→¬ w a→a∈frs fr→∃ sl,z'.h a=some { o with slots:=sl }
theorem Stp.no (x:Stp fr w z z') (e:z'.h a=none):z.h a=none:=by
 cases q:z.h a with
 | none=>rfl
 | some o=>obtain ⟨o',e'⟩:=x.th a o q;rw [e] at e';cases e'
theorem Stp.refl:Stp fr w z z:=⟨List.prefix_refl _,.refl _,fun _ _ e=>.inl e,fun _ h=>.inl h,fun _ o e=>⟨o,e⟩,fun _ _ e _ _ _=>e,fun _ o e _ _ _=>⟨o.slots,e⟩⟩
theorem Stp.trans (x:Stp fr w z z1) (y:Stp fr w1 z1 z2) (k:∀ a,w1 a→w a∨z.h a=none):Stp fr w z z2:=by
 have nm:∀ a o,z.h a=some o→¬ Mu z.ρ a→¬ Mu z1.ρ a:=fun a o e n m=>(x.rn a m).elim n fun q=>by rw [q] at e;cases e
 have nw:∀ a o,z.h a=some o→¬ w a→¬ w1 a:=fun a o e n m=>(k a m).elim n fun q=>by rw [q] at e;cases e
 refine ⟨x.pr.trans y.pr,x.gg.trans y.gg,fun a o e=>?_,fun a m=>?_,fun a o e=>?_,fun a o e n m f=>y.sm a o (x.sm a o e n m f) (nm a o e n) (nw a o e m) f,fun a o e n m f=>?_⟩
 ·rcases y.gn a o e with q | q | q
  ·exact x.gn a o q
  ·exact .inr (.inl (x.no q))
  ·exact .inr ((k a q).symm)
 ·rcases y.rn a m with q | q
  ·exact x.rn a q
  ·exact .inr (x.no q)
 ·obtain ⟨o1,e1⟩:=x.th a o e;exact y.th a o1 e1
 ·obtain ⟨sl,e1⟩:=x.sl a o e n m f
  obtain ⟨sl2,e2⟩:=y.sl a _ e1 (nm a o e n) (nw a o e m) f
  exact ⟨sl2,e2⟩
theorem Stp.mono (x:Stp fr w z z') (k:∀ a,w a→w' a):Stp fr w' z z':=⟨x.pr,x.gg,fun a o e=>(x.gn a o e).imp_right (·.imp_right (k a)),x.rn,x.th,fun a o e n m=>x.sm a o e n fun q=>m (k a q),fun a o e n m=>x.sl a o e n fun q=>m (k a q)⟩
structure Ee (X:Cx) (z z':Z):Prop where
 st:Stp X.fr (Own z) z z'
 sg:z'.σ=z.σ
 en:z'.t.env=z.t.env
 ow:∀ i∈z'.t.ow,i∈z.t.ow
theorem Ee.refl:Ee X z z:=⟨.refl,rfl,rfl,fun _ h=>h⟩
theorem Ee.own (x:Ee X z z'):Own z' a→Own z a:=fun ⟨i,m,e⟩=>⟨i,x.ow i m,x.sg ▸ e⟩
theorem Ee.trans (x:Ee X z z1) (y:Ee X z1 z2):Ee X z z2:=⟨x.st.trans y.st fun _ o=>.inl (x.own o),y.sg.trans x.sg,y.en.trans x.en,fun i m=>x.ow i (y.ow i m)⟩
def Pv (X:Cx) (z:Z) (a:Addr):Prop:=Own z a∨Lc X a
structure Go (X:Cx) (z z':Z):Prop where
 st:Stp X.fr (Pv X z) z z'
 ow:∀ a,Own z' a→Own z a∨z.h a=none
theorem Go.refl:Go X z z:=⟨.refl,fun _ o=>.inl o⟩
theorem Go.trans (x:Go X z z1) (y:Go X z1 z2):Go X z z2:=by
 refine ⟨x.st.trans y.st fun a o=>o.elim (fun q=>(x.ow a q).imp_left .inl) fun q=>.inl (.inr q),fun a o=>?_⟩
 rcases y.ow a o with q | q
 ·exact x.ow a q
 ·exact .inr (x.st.no q)
theorem Ee.go (x:Ee X z z'):Go X z z':=⟨x.st.mono fun _=>.inl,fun _ o=>.inl (x.own o)⟩
def RB (W:Wd) (z:Z) (d:D) (u:Value):Prop:=RD W z.ρ z.G d u∨∃ i∈z.t.ow,z.σ[i]? = some (some u)∧z.t.env[i]? = some (some d)
def RV (W:Wd) (br:Bool) (c:E) (z:Z) (d:D) (u:Value):Prop:=RD W z.ρ z.G d u∨(br=true∧∃ i,c = .v i∧i∈z.t.ow∧z.σ[i]? = some (some u)∧z.t.env[i]? = some (some d))
theorem RV.of (h:RD W z.ρ z.G d u):RV W br c z d u:=.inl h
theorem RV.rd (h:RV W false c z d u):RD W z.ρ z.G d u:=h.elim id fun ⟨z,_⟩=>nomatch z
theorem RV.rb (h:RV W br c z d u):RB W z d u:=h.elim .inl fun ⟨_,i,_,m,e⟩=>.inr ⟨i,m,e⟩
theorem RD.st (h:RD W z.ρ z.G d u) (x:Stp fr w z z'):RD W z'.ρ z'.G d u:=h.mono x.pr x.gg
theorem RV.st (h:RV X.W br c z d u) (x:Ee X z z') (I:Rep X z'):RV X.W br c z' d u:=by
 rcases h with h | ⟨b,i,hc,m,e1,e2⟩
 ·exact .inl (h.st x.st)
 ·by_cases q:i∈z'.t.ow
  ·exact .inr ⟨b,i,hc,q,x.sg ▸ e1,x.en ▸ e2⟩
  ·obtain ⟨u',e3,r⟩:=I.en i d q (x.en ▸ e2)
   rw [x.sg,e1] at e3;cases e3
   exact .inl r
theorem RB.st (h:RB X.W z d u) (x:Ee X z z') (I:Rep X z'):RB X.W z' d u:=by
 rcases h with h | ⟨i,m,e1,e2⟩
 ·exact .inl (h.st x.st)
 ·by_cases q:i∈z'.t.ow
  ·exact .inr ⟨i,q,x.sg ▸ e1,x.en ▸ e2⟩
  ·obtain ⟨u',e3,r⟩:=I.en i d q (x.en ▸ e2)
   rw [x.sg,e1] at e3;cases e3
   exact .inl r
def CR (W:Wd) (z:Z):D→Value→Prop
 | .lst ds,v=>∃ a o vs,v = .ref a∧z.h a=some o∧LsO o vs∧RDs W z.ρ z.G ds vs
 | .dic ks ds,v=>∃ a o vs,v = .ref a∧(a == sysModules)=false∧z.h a=some o∧DcO W o (ks.zip vs)∧ks.length=ds.length∧RDs W z.ρ z.G ds vs
 | d,v=>RD W z.ρ z.G d v
theorem CR.of (I:HR X z):∀ {d},RD X.W z.ρ z.G d u→CR X.W z d u
 | .non,h=>h
 | .bl _,h=>h
 | .int _,h=>h
 | .str _,h=>h
 | .ref _,h=>h
 | .ins _ _,h=>h
 | .tup _,h=>h
 | .lst _,⟨a,o,vs,e,g,r⟩=>⟨a,o,vs,e,I.gh _ _ g,r⟩
 | .dic _ _,⟨a,o,vs,e,m,g,r⟩=>⟨a,o,vs,e,m,I.gh _ _ g,r⟩
theorem CR.ob {d:D} (e:toO d=some o) (h:ObR W z.ρ z.G z.h (a,b) o):CR W z d (.ref a):=by
 cases d <;> cases e
 ·obtain ⟨o,vs,_,r⟩:=h;exact ⟨a,o,vs,rfl,r⟩
 ·obtain ⟨o,vs,_,r⟩:=h;exact ⟨a,o,vs,rfl,r⟩
theorem RB.cr0 (I:Rep X z) (h:RB X.W z d u):CR X.W z d u:=by
 rcases h with h | ⟨i,m,e1,e2⟩
 ·exact .of I.toHR h
 ·obtain ⟨d',a,o,e3,e4,e5,r,_⟩:=I.eo i m
  rw [e1] at e4;cases e4
  rw [e2] at e3;cases e3
  exact .ob e5 r
theorem RB.cr (I:Rep X z) (h:RB X.W z d u):CR X.W z (look z.t.st d) u:=by
 have c:=h.cr0 I
 cases d with
 | ref n=>
   obtain ⟨p,e,rfl⟩:=(show RD X.W z.ρ z.G (.ref n) u from c)
   show CR X.W z (match z.t.st[n]? with | some (.lst l)=>.lst l | some (.dic k l)=>.dic k l | _=>.ref n) _
   cases q:z.t.st[n]? with
   | none=>exact c
   | some o=>
     have r:=I.ob n o p q e
     cases o with
     | lst l=>exact .ob (d:=.lst l) rfl r
     | dic k l=>exact .ob (d:=.dic k l) rfl r
     | ins _ _=>exact c
 | _=>exact c
structure Gr (s s':Shared):Prop where
 os:s'.os=s.os
 gs:s'.gens=s.gens
 k:∀ b o,s.heap.get? b=some o→s'.heap.get? b=some o
theorem Gr.refl:Gr s s:=⟨rfl,rfl,fun _ _ e=>e⟩
theorem Gr.tok {s:Shared} {t:Nat}:Gr s { s with toks:=t }:=⟨rfl,rfl,fun _ _ e=>e⟩
theorem Gr.hp {s:Shared} {h:Heap} {t:Nat} (k:∀ b o,s.heap.get? b=some o→h.get? b=some o):Gr s { s with heap:=h,toks:=t }:=⟨rfl,rfl,k⟩
theorem Gr.push {s:Shared} {o:Obj} {t:Nat}:Gr s { s with heap:=s.heap.push o,toks:=t }:=.hp fun _ _ e=>Heap.get?_push_of_some _ e
structure Grw (z:Z) (G':Hp) (s':Shared):Prop where
 gr:Gr z.s s'
 gg:Sub z.G G'
 gh:Sub G' s'.heap.get?
 gn:∀ a o,G' a=some o→z.G a=some o∨z.h a=none
theorem nfu {h h':Heap} (x:h.FunFrames base l) (k:∀ b o,h.get? b=some o→h'.get? b=some o):h'.FunFrames base l:=x.of_keeps fun b o e _=>⟨o,k b o e,rfl⟩
theorem HR.th (I:HR X z) (m:Mu z.ρ a):∃ o,z.h a=some o:=by
 obtain ⟨p,hp,e⟩:=m
 obtain ⟨n,hn⟩:=List.mem_iff_getElem?.mp hp
 have lt:n<z.t.st.length:=by rw [← I.rl];exact (List.getElem?_eq_some_iff.mp hn).1
 obtain ⟨h1,h2⟩:=(I.ob n _ p (List.getElem?_eq_getElem lt) hn).th
 rcases e with rfl | rfl
 ·exact h1
 ·exact h2
theorem HR.fth (I:HR X z) (m:b∈frs X.fr):∃ o,z.h b=some o:=let ⟨_,o,e,_⟩:=I.fu.mem m;⟨o,e⟩
section
variable {X:Cx} {z:Z} {G':Hp} {s':Shared}
theorem HR.grow (I:HR X z) (g:Grw z G' s'):HR X { z with G:=G',s:=s' }:=by
 have nn:∀ {a:Addr},(∃ o,z.h a=some o)→z.G a=none→G' a=none:=fun {a} ⟨o,e⟩ n=>by
  cases q:G' a with
  | none=>rfl
  | some o'=>rcases g.gn a o' q with z | z;rw [n] at z;cases z;rw [z] at e;cases e
 exact ⟨I.md,I.fm,I.hd,fun b o e=>g.gg _ _ (I.bs b o e),g.gh,I.rl,I.rn,fun a m=>nn (I.th m) (I.rg a m),fun n o p h1 h2=>(I.ob n o p h1 h2).mono (List.prefix_refl _) g.gg fun a _ o e=>g.gr.k a o e,nfu I.fu g.gr.k,fun b m=>⟨nn (I.fth m) (I.ff b m).1,(I.ff b m).2⟩,by rw [g.gr.gs];exact I.br,g.gr.os.trans I.os⟩
theorem Rep.lth (I:Rep X z) (l:Lc X a):∃ o,z.h a=some o:=by
 rcases l with rfl | ⟨x,e⟩
 ·obtain ⟨m,⟨o,_,_,e,_⟩,_⟩:=I.lo;exact ⟨o,e⟩
 ·obtain ⟨v,o,e,_⟩:=I.ce x a e;exact ⟨o,e⟩
theorem Rep.oth (I:Rep X z) (o:Own z a):Fre X z a∧∃ o,z.h a=some o:=by
 obtain ⟨i,m,e⟩:=o
 obtain ⟨d,b,o,_,e2,_,r,f⟩:=I.eo i m
 rw [e] at e2;cases e2
 exact ⟨f,r.th.1⟩
theorem cO {h h':Heap} (k:∀ c v,env.cells.lookup x=some c→h.IsCell c v→h'.IsCell c v) (l:j7 env h m x u):j7 env h' m x u:=l.imp_right fun ⟨a,c,e,q⟩=>⟨a,c,e,k c _ e q⟩
theorem Rep.fre (I:Rep X z) (n:z.h a=none):Fre X z a∧¬ Own z a:=by
 have no:∀ {P:Prop},(P→∃ o,z.h a=some o)→¬ P:=fun k p=>by obtain ⟨o,e⟩:=k p;rw [n] at e;cases e
 refine ⟨⟨?_,no I.th,no I.fth,no I.lth⟩,no fun o=>(I.oth o).2⟩
 cases q:z.G a with
 | none=>rfl
 | some o=>have:=I.gh a o q;rw [n] at this;cases this
theorem tw {h h':Heap} (sl:∀ b o,h.get? b=some o→∃ sl,h'.get? b=some { o with slots:=sl }) (n:h.Ns a m):h'.Ns a m:=let ⟨o,es,ep,e,r⟩:=n;let ⟨_,q⟩:=sl a o e;⟨_,es,ep,q,r⟩
theorem eM {h h':Heap} (sl:∀ b o,h.get? b=some o→∃ sl,h'.get? b=some { o with slots:=sl }) (n:h.IsCell c v):h'.IsCell c v:=let ⟨o,e,d⟩:=n;let ⟨_,q⟩:=sl c o e;⟨_,q,d⟩
theorem Rep.grw (I:Rep X z) (os:s'.os=z.s.os) (br:AllBare s'.gens) (k:∀ b o,z.h b=some o→b ∉ frs X.fr→s'.heap.get? b=some o) (sl:∀ b o,z.h b=some o→∃ sl,s'.heap.get? b=some { o with slots:=sl })
 (gg:Sub z.G G') (gh:Sub G' s'.heap.get?) (gn:∀ a o,G' a=some o→z.G a=some o∨(Fre X z a∧¬ Own z a)):Rep X { z with G:=G',s:=s' }:=by
 have nn:∀ {a:Addr},¬ (Fre X z a∧¬ Own z a)→z.G a=none→G' a=none:=fun {a} f n=>by
  cases q:G' a with
  | none=>rfl
  | some o'=>rcases gn a o' q with z | z;rw [n] at z;cases z;exact (f z).elim
 refine ⟨⟨I.md,I.fm,I.hd,fun b o e=>gg _ _ (I.bs b o e),gh,I.rl,I.rn,fun a m=>nn (fun f=>f.1.2.1 m) (I.rg a m),fun n o p h1 h2=>(I.ob n o p h1 h2).mono (List.prefix_refl _) gg fun a ha o e=>k a o e fun m=>(I.ff a m).2 ⟨p,List.mem_of_getElem? h2,ha⟩,I.fu.of_keeps fun b o e _=>let ⟨_,q⟩:=sl b o e;⟨_,q,rfl⟩,fun b m=>⟨nn (fun f=>f.1.2.2.1 m) (I.ff b m).1,(I.ff b m).2⟩,br,os.trans I.os⟩,I.ok,?_,fun x c e=>let ⟨v,q⟩:=I.ce x c e;⟨v,eM sl q⟩,fun a l=>⟨nn (fun f=>f.1.2.2.2 l) (I.fl a l).1,(I.fl a l).2⟩,I.el,I.sl,fun i d n e=>let ⟨u,q,r⟩:=I.en i d n e;⟨u,q,r.mono (List.prefix_refl _) gg⟩,fun i m=>?_,I.od⟩
 ·obtain ⟨m,hn,hl⟩:=I.lo
  exact ⟨m,tw sl hn,fun i x u h1 h2 h3=>cO (fun c v _ q=>eM sl q) (hl i x u h1 h2 h3)⟩
 ·obtain ⟨d,a,o,h1,h2,h3,r,f⟩:=I.eo i m
  exact ⟨d,a,o,h1,h2,h3,r.mono (List.prefix_refl _) gg fun b hb o e=>k b o e (by rcases hb with rfl | rfl <;> exact f.2.2.1),nn (fun f=>f.2 ⟨i,m,h2⟩) f.1,f.2⟩
theorem Rep.grow (I:Rep X z) (g:Grw z G' s'):Rep X { z with G:=G',s:=s' }:=I.grw g.gr.os (by rw [g.gr.gs];exact I.br) (fun b o e _=>g.gr.k b o e) (fun b o e=>⟨o.slots,g.gr.k b o e⟩) g.gg g.gh fun a o e=>(g.gn a o e).imp_right I.fre
theorem Grw.stp (g:Grw z G' s'):Stp fr w z { z with G:=G',s:=s' }:=⟨List.prefix_refl _,g.gg,fun a o e=>(g.gn a o e).imp_right .inl,fun _ m=>.inl m,fun a o e=>⟨o,g.gr.k a o e⟩,fun a o e _ _ _=>g.gr.k a o e,fun a o e _ _ _=>⟨o.slots,g.gr.k a o e⟩⟩
theorem Grw.ee (g:Grw z G' s'):Ee X z { z with G:=G',s:=s' }:=⟨g.stp,rfl,rfl,fun _ h=>h⟩
end
def Z.up (z:Z) (s':Shared):Z:={ z with G:=fun a=>match z.h a with | none=>s'.heap.get? a | some _=>z.G a,s:=s' }
theorem d8 {z:Z} {s':Shared} (n:z.h a=none):(z.up s').G a=s'.heap.get? a:=by show (match z.h a with | none=>s'.heap.get? a | some _=>z.G a)=_;rw [n]
theorem bH {z:Z} {s':Shared} (I:Sub z.G z.h) (g:Gr z.s s'):Grw z (z.up s').G s':=by
 refine ⟨g,fun a o e=>?_,fun a o e=>?_,fun a o e=>?_⟩
 ·show (match z.h a with | none=>s'.heap.get? a | some _=>z.G a)=_
  rw [I a o e];exact e
 ·revert e
  show (match z.h a with | none=>s'.heap.get? a | some _=>z.G a)=_→_
  cases q:z.h a with
  | none=>exact fun e=>e
  | some u=>exact fun e=>g.k a o (I a o e)
 ·cases q:z.h a with
  | none=>exact .inr rfl
  | some u=>
    revert e
    show (match z.h a with | none=>s'.heap.get? a | some _=>z.G a)=_→_
    rw [q];exact .inl
theorem ak {z:Z} {s':Shared} (I:Sub z.G z.h) (g:Gr z.s s'):Grw z z.G s':=⟨g,.refl _,fun a o e=>g.k a o (I a o e),fun _ _ e=>.inl e⟩
def iX (z:Z) (p:Nat→Bool) (a:Addr):Prop:=∃ i∈z.t.ow,p i=false∧z.σ[i]? = some (some (.ref a))
open Classical in
noncomputable def Z.rel (z:Z) (p:Nat→Bool):Z:={ z with t:=⟨z.t.env,z.t.ow.filter p,z.t.st⟩,G:=fun a=>if iX z p a then z.h a else z.G a }
theorem eR {z:Z} (h:iX z p a):(z.rel p).G a=z.h a:=if_pos h
theorem cQ {z:Z} (h:¬ iX z p a):(z.rel p).G a=z.G a:=if_neg h
theorem iH {d:D} (e:toO d=some o) (r:ObR W ρ G h (a,b) o) (g:Sub G G') (q:G' a=h a):RD W ρ G' d (.ref a):=by
 cases d <;> cases e
 ·obtain ⟨o,vs,_,e,l,t⟩:=r;exact ⟨a,o,vs,rfl,q.trans e,l,t.mono (List.prefix_refl _) g⟩
 ·obtain ⟨o,vs,_,m,e,l,n,t⟩:=r;exact ⟨a,o,vs,rfl,m,q.trans e,l,n,t.mono (List.prefix_refl _) g⟩
theorem Rep.rel (I:Rep X z) (p:Nat→Bool):Rep X (z.rel p)∧Ee X z (z.rel p):=by
 have own:∀ {a},iX z p a→Own z a:=fun ⟨i,m,_,e⟩=>⟨i,m,e⟩
 have gg:Sub z.G (z.rel p).G:=fun a o e=>by
  by_cases q:iX z p a
  ·rw [(I.oth (own q)).1.1] at e;cases e
  ·rw [cQ q];exact e
 have nn:∀ {a},¬ Own z a→z.G a=none→(z.rel p).G a=none:=fun n g=>by rw [cQ fun q=>n (own q)];exact g
 refine ⟨⟨⟨I.md,I.fm,I.hd,fun b o e=>gg _ _ (I.bs b o e),fun a o e=>?_,I.rl,I.rn,fun a m=>nn (fun q=>(I.oth q).1.2.1 m) (I.rg a m),fun n o p h1 h2=>(I.ob n o p h1 h2).mono (List.prefix_refl _) gg fun _ _ _ e=>e,I.fu,fun b m=>⟨nn (fun q=>(I.oth q).1.2.2.1 m) (I.ff b m).1,(I.ff b m).2⟩,I.br,I.os⟩,I.ok,I.lo,I.ce,fun a l=>⟨nn (fun q=>(I.oth q).1.2.2.2 l) (I.fl a l).1,(I.fl a l).2⟩,I.el,I.sl,fun i d n e=>?_,fun i m=>?_,fun i j a m1 m2=>I.od i j a (List.mem_filter.mp m1).1 (List.mem_filter.mp m2).1⟩,⟨⟨List.prefix_refl _,gg,fun a o e=>?_,fun _ m=>.inl m,fun a o e=>⟨o,e⟩,fun _ _ e _ _ _=>e,fun _ o e _ _ _=>⟨o.slots,e⟩⟩,rfl,rfl,fun i m=>(List.mem_filter.mp m).1⟩⟩
 ·by_cases q:iX z p a
  ·rw [eR q] at e;exact e
  ·rw [cQ q] at e;exact I.gh a o e
 ·by_cases m:i∈z.t.ow
  ·have pf:p i=false:=by
    cases q:p i with
    | false=>rfl
    | true=>exact absurd (List.mem_filter.mpr ⟨m,q⟩) n
   obtain ⟨d',a,o,h1,h2,h3,r,f⟩:=I.eo i m
   rw [show z.t.env[i]? = some (some d) from e] at h1;cases h1
   exact ⟨_,h2,iH h3 r gg (eR ⟨i,m,pf,h2⟩)⟩
  ·obtain ⟨u,q,r⟩:=I.en i d m e
   exact ⟨u,q,r.mono (List.prefix_refl _) gg⟩
 ·obtain ⟨m1,m2⟩:=List.mem_filter.mp m
  obtain ⟨d',a,o,h1,h2,h3,r,f⟩:=I.eo i m1
  refine ⟨d',a,o,h1,h2,h3,r.mono (List.prefix_refl _) gg fun _ _ _ e=>e,?_,f.2⟩
  refine (cQ fun ⟨j,mj,pj,ej⟩=>?_).trans f.1
  rw [I.od j i a mj m1 ej h2,m2] at pj;cases pj
 ·by_cases q:iX z p a
  ·exact .inr (.inr (own q))
  ·rw [cQ q] at e;exact .inl e
def Tr (h:Heap) (a:Addr) (cls:Value) (dx:Option Addr) (T:Addr) (fl:Value):Prop:=
 ∃ oe vs oT ts,h.get? a=some oe∧(oe.cls=cls∧oe.dict=dx)∧oe.data = .fields vs∧vs[1]? = some (.ref T)∧T≠a∧h.get? T=some oT∧oT.data = .fields ts∧ts[3]? = some fl
def Rw (h:Heap) (a:Addr) (cls:Value) (dx:Option Addr):Prop:=∃ oe vs,h.get? a=some oe∧(oe.cls=cls∧oe.dict=dx)∧oe.data = .fields vs∧vs[1]? = some .none
def XR (W:Wd) (z:Z) (c:Nat) (l:List D) (cls:Value) (dx:Option Addr):Prop:=∃ i,W.ci[c]? = some i∧W.what[c]? = some 2∧cls = .ref i.ad∧l.length≤i.nm.length ∧
 ((l = []∧dx=none)∨∃ d od vs,dx=some d∧z.G d=some od∧NsO od (i.nm.zip vs)∧RDs W z.ρ z.G l vs)
def Nob (X:Cx) (z z':Z) (a:Addr):Prop:=z.h a=none∧Fre X z' a∧¬ Own z' a
def XO (X:Cx) (z z':Z) (c:Nat) (l:List D) (e:Value):Prop:=∃ a cls dx,e = .ref a∧XR X.W z' c l cls dx∧Nob X z z' a ∧
 (Rw z'.s.heap a cls dx∨∃ T fl,Tr z'.s.heap a cls dx T fl∧(fl = .none∨fl=rawInt X.env.locals)∧Nob X z z' T)
theorem XO.less (h:XO X z1 z' c l e) (k:∀ a,z1.h a=none→z.h a=none):XO X z z' c l e:=by
 obtain ⟨a,cls,dx,e,r,n,h⟩:=h
 exact ⟨a,cls,dx,e,r,⟨k a n.1,n.2⟩,h.imp_right fun ⟨T,fl,t,q,n⟩=>⟨T,fl,t,q,k T n.1,n.2⟩⟩
section
variable {α β γ δ:Type} {X:Cx}
def Pe (X:Cx) (z:Z) (o:Out α) (R:Z→α→β→Prop) (u:β) (s':Shared):Prop:=∃ z' d,z'.s=s'∧o = .ok d z'.t∧Ee X z z'∧Rep X z'∧R z' d u
def Px (X:Cx) (z:Z) (o:Out α) (x:Value) (s':Shared):Prop:=∃ z' c l,z'.s=s'∧o = .exc c l z'.t∧Ee X z z'∧Rep X z'∧XO X z z' c l x
abbrev Wp (X:Cx) (t:Sem β) (z:Z) (o:Out α) (R:Z→α→β→Prop):Prop:=wpAny X.M X.A t (Pe X z o R) (Px X z o) z.s
def Jg (X:Cx) (t:Sem β) (m:Sta→Out α) (R:Z→α→β→Prop):Prop:=∀ z,Rep X z→m z.t≠.bad→Wp X t z (m z.t) R
theorem Pe.less {z1:Z} {o:Out α} {R:Z→α→β→Prop} (x:Ee X z z1) (h:Pe X z1 o R u s'):Pe X z o R u s':=let ⟨z',d,e,q,y,r⟩:=h;⟨z',d,e,q,x.trans y,r⟩
theorem Px.less {z1:Z} {o:Out α} (x:Ee X z z1) (h:Px X z1 o u s'):Px X z o u s':=let ⟨z',c,l,e,q,y,r,n⟩:=h;⟨z',c,l,e,q,x.trans y,r,n.less fun _=>x.st.no⟩
theorem Px.map {o:Out α} {f:α→Sta→Out γ} (h:Px X z o u s'):Px X z (o.bind f) u s':=let ⟨z',c,l,e,q,r⟩:=h;⟨z',c,l,e,by rw [q];rfl,r⟩
theorem Wp.less {t:Sem β} {z1:Z} {o:Out α} {R:Z→α→β→Prop} (x:Ee X z z1) (h:Wp X t z1 o R):wpAny X.M X.A t (Pe X z o R) (Px X z o) z1.s:=wpAny_mono h (fun _ _ h=>h.less x) fun _ _ h=>h.less x
theorem Jg.go {t:Sem β} {m:Sta→Out α} {R:Z→α→β→Prop} {f:α→Sta→Out γ} {o:Out γ} {K:β→Shared→Prop} (h:Jg X t m R) (x:Ee X z z1) (I:Rep X z1) (e:o=(m z1.t).bind f) (nb:o≠.bad)
 (k:∀ z2 d u,Ee X z1 z2→Ee X z z2→Rep X z2→R z2 d u→o=f d z2.t→K u z2.s):wpAny X.M X.A t K (Px X z o) z1.s:=by
 subst e
 refine wpAny_mono (h z1 I fun q=>nb (by rw [q];rfl)) (fun u s' ⟨z2,d,e,q,y,I1,r⟩=>?_) fun u s' h=>(h.less x).map
 subst e;exact k z2 d u y (x.trans y) I1 r (by rw [q];rfl)
theorem Jg.at {t:Sem β} {m:Sta→Out α} {R:Z→α→β→Prop} {o:Out α} (h:Jg X t m R) (x:Ee X z z1) (I:Rep X z1) (e:o=m z1.t) (nb:o≠.bad):wpAny X.M X.A t (Pe X z o R) (Px X z o) z1.s:=by subst e;exact (h z1 I nb).less x
def Dn (X:Cx) (z:Z) (d:D) (u:Value) (s':Shared):Prop:=Gr z.s s'∧RD X.W z.ρ (z.up s').G d u
theorem Dn.pe (I:Rep X z) (h:Dn X z d u s'):Pe X z (.ok d z.t) (RV X.W br c) u s':=⟨z.up s',d,rfl,rfl,(bH I.gh h.1).ee,I.grow (bH I.gh h.1),.of h.2⟩
theorem Dn.old (I:Rep X z) {s':Shared} (g:Gr z.s s') (h:RD X.W z.ρ z.G d u):Dn X z d u s':=⟨g,h.mono (List.prefix_refl _) (bH I.gh g).gg⟩
theorem Dn.at (x:Ee X z0 z) (I:Rep X z) (e:o = .ok d z.t) (h:Dn X z d u s'):Pe X z0 o (RV X.W br c) u s':=e ▸ (h.pe I).less x
theorem cm {t:Sem Value} {o:Out D} (x:Ee X z0 z) (I:Rep X z) (e:o=Out.of z.t od) (nb:o≠.bad) (h:∀ d,od=some d→wpAny X.M X.A t (Dn X z d) (fun _ _=>False) z.s):wpAny X.M X.A t (Pe X z0 o (RV X.W br c)) (Px X z0 o) z.s:=by
 cases od with
 | none=>exact absurd e nb
 | some d=>exact wpAny_mono (h d rfl) (fun _ _ h=>h.at x I e) fun _ _ z=>z.elim
end
theorem big (h:n≤100000):n≤sizeLine:=Nat.le_trans h (by rw [sizeLine_eq];decide)
theorem jc:∀ {ds es} {b},cH f ds es=some b→(∀ j (h1:j<ds.length) (h2:j<es.length),∃ c,f ds[j] es[j]=some c)∧b=(List.range (min ds.length es.length)).all fun j=>(f (ds[j]?.getD .non) (es[j]?.getD .non)).getD false
 | [],es,b,h=>by cases h;exact ⟨fun j h=>absurd h (Nat.not_lt_zero _),by simp⟩
 | d :: ds,[],b,h=>by cases h;exact ⟨fun j _ h=>absurd h (Nat.not_lt_zero _),by simp⟩
 | d :: ds,e :: es,b,h=>by
   unfold cH at h
   cases q:f d e with
   | none=>rw [q] at h;cases h
   | some x=>
     rw [q] at h
     cases q2:cH f ds es with
     | none=>rw [q2] at h;cases h
     | some y=>
       rw [q2] at h
       cases h
       obtain ⟨i1,i2⟩:=jc q2
       refine ⟨fun j h1 h2=>?_,?_⟩
       ·cases j with
        | zero=>exact ⟨x,q⟩
        | succ j=>exact i1 j (Nat.lt_of_succ_lt_succ h1) (Nat.lt_of_succ_lt_succ h2)
       ·have m:min (d :: ds).length (e :: es).length=min ds.length es.length+1:=by simp only [List.length_cons];omega
        rw [m,List.range_succ_eq_map,List.all_cons,List.all_map,i2]
        simp only [List.getElem?_cons_zero,Option.getD_some,q]
        rfl
theorem sh4 (d):sh d=0∨sh d=1∨sh d=2∨sh d=3:=by cases d <;> simp [sh]
theorem vE (f:sh d=1):∃ l,d = .tup l:=by cases d <;> first | exact ⟨_,rfl⟩ | cases f
theorem vD (f:sh d=2):∃ l,d = .lst l:=by cases d <;> first | exact ⟨_,rfl⟩ | cases f
theorem oA (h:eq0 d e=some b):(sh d=0∧sh e=0∧b=eqf d e)∨(b=false∧((sh d=0∧(sh e=1∨sh e=2))∨((sh d=1∨sh d=2)∧sh e=0)∨(sh d=1∧sh e=2)∨(sh d=2∧sh e=1))):=by
 unfold eq0 at h
 split at h
 ·cases h
 ·rename_i h3
  split at h
  ·rename_i h0;cases h;exact .inl ⟨h0.1,h0.2,rfl⟩
  ·split at h
   ·cases h
   ·cases h
    refine .inr ⟨rfl,?_⟩
    rename_i h0 h1
    have a:=sh4 d
    have b:=sh4 e
    omega
theorem mI (h:eqv (n+1) d e=some b):(∃ da db y,d = .tup da∧e = .tup db∧cH (eqv n) da db=some y∧b=(y && da.length == db.length)) ∨
 (∃ da db,d = .lst da∧e = .lst db∧((da.length=db.length∧cH (eqv n) da db=some b)∨(da.length≠db.length∧b=false)))∨eq0 d e=some b:=by
 cases d with
 | tup da=>cases e with
   | tup db=>
     obtain ⟨y,a,c⟩:=Option.map_eq_some_iff.mp (show (cH (eqv n) da db).map (· && da.length == db.length)=some b from h)
     exact .inl ⟨da,db,y,rfl,rfl,a,c.symm⟩
   | _=>exact .inr (.inr h)
 | lst da=>cases e with
   | lst db=>
     have h':(if da.length=db.length then cH (eqv n) da db else some false)=some b:=h
     split at h'
     ·rename_i z;exact .inr (.inl ⟨da,db,rfl,rfl,.inl ⟨z,h'⟩⟩)
     ·rename_i z;cases h';exact .inr (.inl ⟨da,db,rfl,rfl,.inr ⟨z,rfl⟩⟩)
   | _=>exact .inr (.inr h)
 | _=>exact .inr (.inr h)
open SeqAt
def E3 (A:Around) (s:Shared) (u v:Value) (b:Bool):Prop:=EqAt A s u v b∧RcAt A s u v b∧RcNeAt A s u v (!b)
theorem qI (f1:sh d=0) (f2:sh e=0) (h1:RD W ρ G d u) (h2:RD W ρ G e v):(u=v→eqf d e=true)∧∀ A s,E3 A s u v (eqf d e):=by
 cases d with
 | non=>
   cases (show u=Value.none from h1)
   cases e with
   | non=>cases (show v=Value.none from h2);exact ⟨fun _=>rfl,fun A s=>⟨.same _,.none_none,.none_none⟩⟩
   | bl b=>cases (show v=Value.bool b from h2);exact ⟨nofun,fun A s=>⟨.none_bool _,.none_bool _,.none_bool _⟩⟩
   | int b=>obtain ⟨t,rfl⟩:=(show ∃ t,v=Value.int b t from h2);exact ⟨nofun,fun A s=>⟨.none_int _ _,.none_int _ _,.none_int _ _⟩⟩
   | str b=>obtain ⟨t,rfl⟩:=(show ∃ t,v=Value.str b t from h2);exact ⟨nofun,fun A s=>⟨.none_str _ _,.none_str _ _,.none_str _ _⟩⟩
   | _=>cases f2
 | bl a=>
   cases (show u=Value.bool a from h1)
   cases e with
   | non=>cases (show v=Value.none from h2);exact ⟨nofun,fun A s=>⟨.bool_none _,.bool_none _,.bool_none _⟩⟩
   | bl b=>cases (show v=Value.bool b from h2);exact ⟨fun z=>by cases z;exact beq_self_eq_true a,fun A s=>⟨.bool_bool _ _,.bool_bool _ _,.bool_bool _ _⟩⟩
   | int b=>obtain ⟨t,rfl⟩:=(show ∃ t,v=Value.int b t from h2);exact ⟨nofun,fun A s=>⟨.bool_int _ _ _,.bool_int _ _ _,.bool_int _ _ _⟩⟩
   | str b=>obtain ⟨t,rfl⟩:=(show ∃ t,v=Value.str b t from h2);exact ⟨nofun,fun A s=>⟨.bool_str _ _ _,.bool_str _ _ _,.bool_str _ _ _⟩⟩
   | _=>cases f2
 | int a=>
   obtain ⟨t,rfl⟩:=(show ∃ t,u=Value.int a t from h1)
   cases e with
   | non=>cases (show v=Value.none from h2);exact ⟨nofun,fun A s=>⟨.int_none _ _,.int_none _ _,.int_none _ _⟩⟩
   | bl b=>cases (show v=Value.bool b from h2);exact ⟨nofun,fun A s=>⟨.int_bool _ _ _,.int_bool _ _ _,.int_bool _ _ _⟩⟩
   | int b=>obtain ⟨t,rfl⟩:=(show ∃ t,v=Value.int b t from h2);exact ⟨fun z=>by cases z;exact beq_self_eq_true a,fun A s=>⟨.int_int _ _ _ _,.int_int _ _ _ _,.int_int _ _ _ _⟩⟩
   | str b=>obtain ⟨t,rfl⟩:=(show ∃ t,v=Value.str b t from h2);exact ⟨nofun,fun A s=>⟨.int_str _ _ _ _,.int_str _ _ _ _,.int_str _ _ _ _⟩⟩
   | _=>cases f2
 | str a=>
   obtain ⟨t,rfl⟩:=(show ∃ t,u=Value.str a t from h1)
   cases e with
   | non=>cases (show v=Value.none from h2);exact ⟨nofun,fun A s=>⟨.str_none _ _,.str_none _ _,.str_none _ _⟩⟩
   | bl b=>cases (show v=Value.bool b from h2);exact ⟨nofun,fun A s=>⟨.str_bool _ _ _,.str_bool _ _ _,.str_bool _ _ _⟩⟩
   | int b=>obtain ⟨t,rfl⟩:=(show ∃ t,v=Value.int b t from h2);exact ⟨nofun,fun A s=>⟨.str_int _ _ _ _,.str_int _ _ _ _,.str_int _ _ _ _⟩⟩
   | str b=>obtain ⟨t,rfl⟩:=(show ∃ t,v=Value.str b t from h2);exact ⟨fun z=>by cases z;exact beq_self_eq_true a,fun A s=>⟨.str_str _ _ _ _,.str_str _ _ _ _,.str_str _ _ _ _⟩⟩
   | _=>cases f2
 | _=>cases f1
theorem hV {s:Shared} (f:sh d=0) (h:RD W ρ G d u) (hu:A.units<cLine):(∀ b,u≠.ref b)∧∀ b its,(s.heap.IsTuple b its∨s.heap.IsList b its)→E3 A s u (.ref b) false∧E3 A s (.ref b) u false:=by
 cases d with
 | non=>cases (show u=Value.none from h);exact ⟨nofun,fun b its p=>p.elim (fun p=>⟨⟨.none_tuple p hu,.none_tuple p hu,.none_tuple p hu⟩,.tuple_none p hu,.tuple_none p hu,.tuple_none p hu⟩) fun p=>⟨⟨.none_list p hu,.none_list p hu,.none_list p hu⟩,.list_none p hu,.list_none p hu,.list_none p hu⟩⟩
 | bl k=>cases (show u=Value.bool k from h);exact ⟨nofun,fun b its p=>p.elim (fun p=>⟨⟨.bool_tuple k p hu,.bool_tuple k p hu,.bool_tuple k p hu⟩,.tuple_bool k p hu,.tuple_bool k p hu,.tuple_bool k p hu⟩) fun p=>⟨⟨.bool_list k p hu,.bool_list k p hu,.bool_list k p hu⟩,.list_bool k p hu,.list_bool k p hu,.list_bool k p hu⟩⟩
 | int k=>obtain ⟨t,rfl⟩:=(show ∃ t,u=Value.int k t from h);exact ⟨nofun,fun b its p=>p.elim (fun p=>⟨⟨.int_tuple k t p hu,.int_tuple k t p hu,.int_tuple k t p hu⟩,.tuple_int k t p hu,.tuple_int k t p hu,.tuple_int k t p hu⟩) fun p=>⟨⟨.int_list k t p hu,.int_list k t p hu,.int_list k t p hu⟩,.list_int k t p hu,.list_int k t p hu,.list_int k t p hu⟩⟩
 | str k=>obtain ⟨t,rfl⟩:=(show ∃ t,u=Value.str k t from h);exact ⟨nofun,fun b its p=>p.elim (fun p=>⟨⟨.str_tuple k t p hu,.str_tuple k t p hu,.str_tuple k t p hu⟩,.tuple_str k t p hu,.tuple_str k t p hu,.tuple_str k t p hu⟩) fun p=>⟨⟨.str_list k t p hu,.str_list k t p hu,.str_list k t p hu⟩,.list_str k t p hu,.list_str k t p hu,.list_str k t p hu⟩⟩
 | _=>cases f
theorem CR.fl (f:sh d=0) (h:CR W z d u):RD W z.ρ z.G d u:=by cases d <;> first | exact h | cases f
theorem tpt {h:Heap} (e:h.get? a=some o) (t:TpO o l):h.IsTuple a l.toArray:=⟨o,e,t.1,t.2.1⟩
theorem lsl {h:Heap} (e:h.get? a=some o) (t:LsO o l):h.IsList a l.toArray:=by obtain ⟨⟨n,rfl⟩,_⟩:=t;exact ⟨_,e,rfl,n,rfl⟩
theorem E3.refs (ne:l=b→k=true) (h:RcAt A s (.ref l) (.ref b) k) (h2:RcNeAt A s (.ref l) (.ref b) (!k)):E3 A s (.ref l) (.ref b) k:=by
 refine ⟨?_,h,h2⟩
 by_cases q:l=b
 ·subst q;rw [ne rfl];exact .same _
 ·exact .of_refs q h
theorem e3 (I:HR X z):∀ (n:Nat) {d e u v b},eqv n d e=some b→CR X.W z d u→CR X.W z e v→(u=v→b=true)∧∀ A,A.units+n+1<cLine→E3 A z.s u v b:=by
 have low:∀ {d e u v b},eq0 d e=some b→CR X.W z d u→CR X.W z e v→(u=v→b=true)∧∀ A,A.units<cLine→E3 A z.s u v b:=by
  intro d e u v b h h1 h2
  have it:∀ {d:D} {u:Value},(sh d=1∨sh d=2)→CR X.W z d u→∃ a its,u = .ref a∧((sh d=1∧z.s.heap.IsTuple a its)∨(sh d=2∧z.s.heap.IsList a its)):=fun {d u} f h=>by
   rcases f with f | f
   ·obtain ⟨l,rfl⟩:=vE f;obtain ⟨a,o,vs,rfl,e,t,_⟩:=h;exact ⟨a,_,rfl,.inl ⟨rfl,tpt (I.gh _ _ e) t⟩⟩
   ·obtain ⟨l,rfl⟩:=vD f;obtain ⟨a,o,vs,rfl,e,t,_⟩:=h;exact ⟨a,_,rfl,.inr ⟨rfl,lsl e t⟩⟩
  rcases oA h with ⟨f1,f2,rfl⟩ | ⟨rfl,c⟩
  ·obtain ⟨p,q⟩:=qI f1 f2 (h1.fl f1) (h2.fl f2);exact ⟨p,fun A _=>q A _⟩
  ·rcases c with ⟨c1,c2⟩ | ⟨c1,c2⟩ | ⟨c1,c2⟩ | ⟨c1,c2⟩
   ·obtain ⟨a,its,rfl,w⟩:=it c2 h2
    have w:=w.imp And.right And.right
    exact ⟨fun q=>absurd q ((hV (s:=z.s) (A:={ }) c1 (h1.fl c1) (by decide)).1 a),fun A hu=>((hV c1 (h1.fl c1) hu).2 a its w).1⟩
   ·obtain ⟨a,its,rfl,w⟩:=it c1 h1
    have w:=w.imp And.right And.right
    exact ⟨fun q=>absurd q.symm ((hV (s:=z.s) (A:={ }) c2 (h2.fl c2) (by decide)).1 a),fun A hu=>((hV c2 (h2.fl c2) hu).2 a its w).2⟩
   ·obtain ⟨a,i1,rfl,w1⟩:=it (.inl c1) h1
    obtain ⟨b,i2,rfl,w2⟩:=it (.inr c2) h2
    have w1:=w1.resolve_right fun z=>by omega
    have w2:=w2.resolve_left fun z=>by omega
    exact ⟨fun q=>absurd (Value.ref.inj q).symm (ne_of_list_tuple w2.2 w1.2),fun A hu=>⟨.tuple_list w1.2 w2.2 hu,.tuple_list w1.2 w2.2 hu,.tuple_list w1.2 w2.2 hu⟩⟩
   ·obtain ⟨a,i1,rfl,w1⟩:=it (.inr c1) h1
    obtain ⟨b,i2,rfl,w2⟩:=it (.inl c2) h2
    have w1:=w1.resolve_left fun z=>by omega
    have w2:=w2.resolve_right fun z=>by omega
    exact ⟨fun q=>absurd (Value.ref.inj q) (ne_of_list_tuple w1.2 w2.2),fun A hu=>⟨.list_tuple w1.2 w2.2 hu,.list_tuple w1.2 w2.2 hu,.list_tuple w1.2 w2.2 hu⟩⟩
 intro n
 induction n with
 | zero=>intro d e u v b h h1 h2;obtain ⟨p,q⟩:=low h h1 h2;exact ⟨p,fun A hu=>q A (by omega)⟩
 | succ n ih=>
   intro d e u v b h h1 h2
   have items:∀ {da db:List D} {vs ws:List Value} {y:Bool},cH (eqv n) da db=some y→RDs X.W z.ρ z.G da vs→RDs X.W z.ρ z.G db ws→(vs=ws→y=true)∧∃ f:Nat→Bool,(List.range (min vs.toArray.size ws.toArray.size)).all f=y∧∀ A,A.units+n+1<cLine→∀ j (h1:j<vs.toArray.size) (h2:j<ws.toArray.size),EqAt A z.s vs.toArray[j] ws.toArray[j] (f j):=by
    intro da db vs ws y q r1 r2
    obtain ⟨q1,q2⟩:=jc q
    have l3:=r1.len
    have l4:=r2.len
    have one:∀ j (h1:j<vs.length) (h2:j<ws.length),∃ c,(eqv n (da[j]?.getD .non) (db[j]?.getD .non)).getD false=c∧(vs[j]=ws[j]→c=true)∧∀ A,A.units+n+1<cLine→EqAt A z.s vs[j] ws[j] c:=fun j h1 h2=>by
     have e1:=List.getElem?_eq_getElem (l:=da) (i:=j) (by omega)
     have e2:=List.getElem?_eq_getElem (l:=db) (i:=j) (by omega)
     obtain ⟨x1,f1,w1⟩:=r1.get e1
     obtain ⟨y1,f2,w2⟩:=r2.get e2
     rw [List.getElem?_eq_getElem h1] at f1;rw [List.getElem?_eq_getElem h2] at f2;cases f1;cases f2
     obtain ⟨c,hc⟩:=q1 j (by omega) (by omega)
     obtain ⟨p,q⟩:=ih hc (.of I w1) (.of I w2)
     exact ⟨c,by rw [e1,e2];simp only [Option.getD_some,hc],p,fun A hu=>(q A hu).1⟩
    refine ⟨fun q=>?_,fun j=>(eqv n (da[j]?.getD .non) (db[j]?.getD .non)).getD false,?_,fun A hu j h1 h2=>?_⟩
    ·subst q
     rw [q2,List.all_eq_true]
     intro j hj
     have hj:=List.mem_range.mp hj
     obtain ⟨c,e,p,_⟩:=one j (by omega) (by omega)
     rw [e];exact p rfl
    ·rw [q2,List.size_toArray,List.size_toArray,← l3,← l4]
    ·rw [List.size_toArray] at h1 h2
     obtain ⟨c,e,_,p⟩:=one j h1 h2
     show EqAt A z.s vs[j] ws[j] ((eqv n (da[j]?.getD .non) (db[j]?.getD .non)).getD false)
     rw [e];exact p A hu
   rcases mI h with ⟨da,db,y,rfl,rfl,q,rfl⟩ | ⟨da,db,rfl,rfl,q⟩ | h
   ·obtain ⟨a,o,vs,rfl,t,to,r1⟩:=h1
    obtain ⟨a',o',ws,rfl,t',to',r2⟩:=h2
    obtain ⟨sm,f,val,its⟩:=items q r1 r2
    have l3:=r1.len
    have l4:=r2.len
    have same:a=a'→(y && da.length == db.length)=true:=fun z=>by
     subst z
     rw [t] at t';cases t'
     obtain ⟨n1,e1⟩:=to.2.1
     obtain ⟨n2,e2⟩:=to'.2.1
     rw [e1] at e2
     injection e2 with e2
     have e:vs=ws:=by simpa using congrArg Array.toList e2
     rw [sm e,l3,l4,e];simp
    have lz:(vs.toArray.size == ws.toArray.size)=(da.length == db.length):=by rw [l3,l4];rfl
    refine ⟨fun z=>same (Value.ref.inj z),fun A hu=>.refs same ?_ ?_⟩
    ·rw [← val,← lz];exact .tuples (tpt (I.gh _ _ t) to) (tpt (I.gh _ _ t') to') (by omega) (its _ (show A.units+1+n+1<cLine by omega))
    ·rw [← val,← lz];exact .tuples (tpt (I.gh _ _ t) to) (tpt (I.gh _ _ t') to') (by omega) (its _ (show A.units+1+n+1<cLine by omega))
   ·obtain ⟨a,o,vs,rfl,t,to,r1⟩:=h1
    obtain ⟨a',o',ws,rfl,t',to',r2⟩:=h2
    have l3:=r1.len
    have l4:=r2.len
    have sv:a=a'→vs=ws:=fun z=>by
     subst z
     rw [t] at t';cases t'
     obtain ⟨⟨n1,rfl⟩,_⟩:=to
     obtain ⟨⟨n2,e2⟩,_⟩:=to'
     injection e2 with _ _ e2
     injection e2 with e2
     simpa using congrArg Array.toList e2
    rcases q with ⟨hl,q⟩ | ⟨hl,rfl⟩
    ·obtain ⟨sm,f,val,its⟩:=items q r1 r2
     have m:min vs.toArray.size ws.toArray.size=vs.toArray.size:=by simp;omega
     rw [m] at val
     refine ⟨fun z=>sm (sv (Value.ref.inj z)),fun A hu=>.refs (fun z=>sm (sv z)) ?_ ?_⟩
     ·rw [← val];exact .lists (lsl t to) (lsl t' to') (by simp;omega) (by omega) (its _ (show A.units+1+n+1<cLine by omega))
     ·rw [← val];exact .lists (lsl t to) (lsl t' to') (by simp;omega) (by omega) (its _ (show A.units+1+n+1<cLine by omega))
    ·have ne:a=a'→false=true:=fun z=>by rw [sv z] at l3;omega
     exact ⟨fun z=>ne (Value.ref.inj z),fun A hu=>.refs ne (.lists_lengths (lsl t to) (lsl t' to') (by simp;omega) (by omega)) (.lists_lengths (lsl t to) (lsl t' to') (by simp;omega) (by omega))⟩
   ·obtain ⟨p,q⟩:=low h h1 h2;exact ⟨p,fun A hu=>q A (by omega)⟩
theorem lI:∀ {l} {b},inD d l=some b→(∀ j (h:j<l.length),∃ c,eqv 55 l[j] d=some c)∧b=l.any fun e=>(eqv 55 e d).getD false
 | [],b,h=>by cases h;exact ⟨fun j h=>absurd h (Nat.not_lt_zero _),rfl⟩
 | e :: r,b,h=>by
   unfold inD at h
   cases q:eqv 55 e d with
   | none=>rw [q] at h;cases h
   | some x=>
     rw [q] at h
     obtain ⟨y,q2,rfl⟩:=Option.map_eq_some_iff.mp h
     obtain ⟨i1,i2⟩:=lI q2
     refine ⟨fun j h=>?_,by rw [List.any_cons,q,i2];rfl⟩
     cases j with
     | zero=>exact ⟨x,q⟩
     | succ j=>exact i1 j (Nat.lt_of_succ_lt_succ h)
theorem dw (I:HR X z) (hu:A.units+57<cLine) (q:inD d l=some b) (r:RDs X.W z.ρ z.G l vs) (hd:CR X.W z d v):∃ e:Value→Bool,(∀ y,y∈vs.toArray→EqAt A z.s y v (e y))∧vs.toArray.any e=b:=by
 obtain ⟨q1,q2⟩:=lI q
 have l3:=r.len
 have eqs:∀ j (h1:j<vs.length) (h2:j<l.length),EqAt A z.s vs[j] v ((eqv 55 l[j] d).getD false):=fun j h1 h2=>by
  obtain ⟨x1,e1,w1⟩:=r.get (List.getElem?_eq_getElem h2)
  rw [List.getElem?_eq_getElem h1] at e1;cases e1
  obtain ⟨c,hc⟩:=q1 j h2
  rw [hc]
  exact ((e3 I 55 hc (.of I w1) hd).2 A (by omega)).1
 have cl:∀ y,Decidable (∃ j,∃ (h1:j<vs.length) (h2:j<l.length),vs[j]=y∧(eqv 55 l[j] d).getD false=true):=fun y=>Classical.propDecidable _
 refine ⟨fun y=>@decide _ (cl y),fun y hy=>?_,?_⟩
 ·rcases Classical.em (∃ j,∃ (h1:j<vs.length) (h2:j<l.length),vs[j]=y∧(eqv 55 l[j] d).getD false=true) with c | c
  ·obtain ⟨j,h1,h2,e,t⟩:=id c
   have w:=eqs j h1 h2
   rw [e,t] at w
   dsimp only
   rw [show @decide _ (cl y)=true from @decide_eq_true _ (cl y) c]
   exact w
  ·obtain ⟨j,h1,e⟩:=List.getElem_of_mem (by simpa using hy)
   have w:=eqs j h1 (by omega)
   have t:(eqv 55 l[j] d).getD false=false:=Bool.eq_false_iff.mpr fun t=>c ⟨j,h1,by omega,e,t⟩
   rw [t,e] at w
   dsimp only
   rw [show @decide _ (cl y)=false from @decide_eq_false _ (cl y) c]
   exact w
 ·rw [q2,List.any_toArray,Bool.eq_iff_iff,List.any_eq_true,List.any_eq_true]
  constructor
  ·rintro ⟨y,hy,t⟩
   obtain ⟨j,h1,h2,e,t⟩:=@of_decide_eq_true _ (cl _) t
   exact ⟨l[j],List.getElem_mem h2,t⟩
  ·rintro ⟨e,he,t⟩
   obtain ⟨j,h2,rfl⟩:=List.getElem_of_mem he
   exact ⟨vs[j]'(by omega),List.getElem_mem _,@decide_eq_true _ (cl _) ⟨j,by omega,h2,rfl,t⟩⟩
end L2.Ev
end
section
namespace HT
section
variable {prog:Program} {w:World} {A:Around} {E:Value→Shared→Prop} {s:Shared}
theorem getItem_tuple_all {lo hi:Option Int} {Q:Value→Shared→Prop} (ht:IsTup s.heap t items) (hs:s.heap.IsSliceOf sl vl vu .none) (pl:IsPart vl lo) (pu:IsPart vu hi)
 (hw:sIx items.size 0 lo=0∧sIx items.size items.size hi=items.size) (h:Q (.ref t) s):wpAny (model prog w) A (getItem (.ref t) (.ref sl)) Q E s:=by
 obtain ⟨os,hos,hcs,hds⟩:=id hs
 have hTs:s.TypeIs (.ref sl) "slice":=⟨os,hos,hcs⟩
 unfold getItem
 try with_reducible refine wpAny_holding ?_
 first | refine wpAny_bind (wpAny_pure ?_) | skip
 refine wpAny_bind (wpAny_sequenceKey ht.typeIs (by decide) ?_)
 refine wpAny_bind (wpAny_callSpecial?_slot (name:=Str.ofString "__getitem__") ht.typeIs PyProof.Rows.slot_tuple_getitem
  (wpAny_call_entry PyProof.Rows.slot_tuple_getitem ht.typeIs entry_tuple_getitem ?_ (args_tuple_getitem _ _)))
 show wpAny _ _ (Builtin.Tuple.tupleItemsOf (.ref t) >>= _) _ _ s
 refine wpAny_bind (tupleItemsOf_ ht ?_)
 refine wpAny_bind (wpAny_typeOf hTs ?_)
 rw [if_pos (by decide)]
 refine wpAny_bind (cu hs pl pu ?_)
 have hyes:(((sIx items.size 0 lo:Nat):Int) == 0 && (1:Int) == 1 && (sIx items.size items.size hi - sIx items.size 0 lo) == items.size)=true:=by
  rw [hw.1,hw.2]
  simp
 show wpAny _ _ (if (((sIx items.size 0 lo:Nat):Int) == 0 && (1:Int) == 1 && (sIx items.size items.size hi - sIx items.size 0 lo) == items.size)=true then _ else _) _ _ s
 rw [if_pos hyes]
 show wpAny _ _ (Builtin.Tuple.tupleIsExact (.ref t) >>= _) _ _ s
 refine wpAny_bind ?_
 unfold Builtin.Tuple.tupleIsExact
 refine wpAny_bind (wpAny_typeOf ht.typeIs (wpAny_pure ?_))
 rw [if_pos (by decide)]
 refine wpAny_bind (wpAny_rule ?_)
 first
  | exact wpAny_pure ⟨_,rfl,wpAny_pure h⟩
  | exact wpAny_bind (wpAny_pure (wpAny_pure ⟨_,rfl,wpAny_pure h⟩))
  | exact wpAny_bind (wpAny_bind (wpAny_pure (wpAny_pure ⟨_,rfl,wpAny_pure h⟩)))
end
end HT
namespace L2.Ev
abbrev NoE:Value→Shared→Prop:=fun _ _=>False
theorem aC {c:Prop} [Decidable c] {a d:α} (e:(if c then some a else none)=some d):c∧a=d:=by
 by_cases h:c
 ·rw [if_pos h] at e;exact ⟨h,Option.some.inj e⟩
 ·rw [if_neg h] at e;cases e
section
variable {X:Cx} {z:Z}
theorem aA (z:Z):z.h z.s.heap.objs.size=none:=Heap.get?_none_of_le (Nat.le_refl _)
theorem Dn.tok {n:Nat} (h:∀ W ρ G,RD W ρ G d u):Dn X z d u { z.s with toks:=n }:=⟨.tok,h ..⟩
theorem Dn.tup (I:Rep X z) (r:RDs X.W z.ρ z.G l vs) (g:Gr z.s s') (n:z.h a=none) (e:s'.heap.get? a=some o) (t:TpO o vs):Dn X z (.tup l) (.ref a) s':=
 ⟨g,a,o,vs,rfl,(d8 n).trans e,t,r.mono (List.prefix_refl _) (bH I.gh g).gg⟩
theorem p8 (hz:vs.length≤sizeLine):TpO { cls:=.type "tuple",data:=.seq vs.toArray n } vs:=⟨rfl,⟨n,rfl⟩,hz⟩
theorem Dn.tupn (I:Rep X z) (r:RDs X.W z.ρ z.G l vs) (hz:vs.length≤sizeLine) {n t:Nat}:Dn X z (.tup l) (.ref z.s.heap.objs.size) { z.s with heap:=z.s.heap.push { cls:=.type "tuple",data:=.seq vs.toArray n },toks:=t }:=
 .tup I r .push (aA z) (Heap.get?_push_size _ rfl) (p8 hz)
def Dw (X:Cx) (z:Z) (d:D) (u:Value) (s':Shared):Prop:=Gr z.s s'∧∃ a o,u = .ref a∧z.h a=none∧toO d=some o∧ObR X.W z.ρ z.G s'.heap.get? (a,a) o
theorem Dw.dn (I:Rep X z) (h:Dw X z d u s'):Dn X z d u s':=by
 obtain ⟨g,a,o,rfl,n,e,r⟩:=h
 exact ⟨g,iH e r (bH I.gh g).gg (d8 n)⟩
def FV (X:Cx) (z0 z:Z) (d:D) (u:Value):Prop:=∃ a o,u = .ref a∧z0.h a=none∧toO d=some o∧ObR X.W z.ρ z.G z.h (a,a) o∧Fre X z a∧¬ Own z a
theorem Dw.pe (I:Rep X z) (h:Dw X z d u s'):Pe X z (.ok d z.t) (FV X z) u s':=by
 obtain ⟨g,a,o,rfl,n,e,r⟩:=h
 have f:=I.fre n
 exact ⟨{ z with s:=s' },d,rfl,rfl,(ak I.gh g).ee,I.grow (ak I.gh g),a,o,rfl,n,e,r,f⟩
theorem Dw.lst (r:RDs X.W z.ρ z.G l vs) (g:Gr z.s s') (n:z.h a=none) (e:s'.heap.get? a=some { cls:=.type "list",data:=.seq vs.toArray k }) (hz:vs.length≤sizeLine):Dw X z (.lst l) (.ref a) s':=⟨g,a,.lst l,rfl,n,rfl,_,vs,rfl,e,⟨⟨k,rfl⟩,hz⟩,r⟩
theorem Dw.lstn (r:RDs X.W z.ρ z.G l vs) (hz:vs.length≤sizeLine) {n t:Nat}:Dw X z (.lst l) (.ref z.s.heap.objs.size) { z.s with heap:=z.s.heap.push { cls:=.type "list",data:=.seq vs.toArray n },toks:=t }:=.lst r .push (aA z) (Heap.get?_push_size _ rfl) hz
def Op2 (X:Cx) (f:Value→Value→Sem Value) (g:D→D→Option D):Prop:=∀ z u v d1 d2 d,Rep X z→CR X.W z d1 u→CR X.W z d2 v→g d1 d2=some d→wpAny X.M X.A (f u v) (Dn X z d) NoE z.s
theorem wE (ho:o≠.add∧o≠.eq∧o≠.ne∧o≠.isin∧o≠.notin) (e:opD o d1 d2=some d):∃ i j,d1 = .int i∧d2 = .int j∧opI o i j=some d:=by
 obtain ⟨n1,n2,n3,n4,n5⟩:=ho
 unfold opD at e
 split at e
 ·exact absurd rfl n2
 ·exact absurd rfl n3
 ·exact absurd rfl n4
 ·exact absurd rfl n5
 ·split at e
  ·exact ⟨_,_,rfl,rfl,e⟩
  all_goals first | (cases e;done) | (rw [if_neg n1] at e;cases e)
theorem dZ {f:Value→Value→Sem Value} (ho:o≠.add∧o≠.eq∧o≠.ne∧o≠.isin∧o≠.notin)
 (rule:∀ (i j:Int) (t u:Tok) (d:D) (s:Shared) (Q:Value→Shared→Prop),opI o i j=some d→(∀ (v:Value) (n:Nat),(∀ W ρ G,RD W ρ G d v)→Q v { s with toks:=n })→wpAny X.M X.A (f (.int i t) (.int j u)) Q NoE s):Op2 X f (opD o):=fun z u v d1 d2 d I h1 h2 e=>by
 obtain ⟨i,j,rfl,rfl,e2⟩:=wE ho e
 obtain ⟨t,rfl⟩:=h1
 obtain ⟨t',rfl⟩:=h2
 exact rule i j t t' d z.s _ e2 fun v n h=>.tok h
theorem vr:Op2 X (binaryOp .Sub) (opD .sub):=dZ (by decide) fun _ _ _ _ _ _ _ e k=>by cases e;exact sub_int (k _ _ fun _ _ _=>⟨_,rfl⟩)
theorem vn:Op2 X (binaryOp .Mult) (opD .mul):=dZ (by decide) fun _ _ _ _ _ _ _ e k=>by
 obtain ⟨c,rfl⟩:=aC e
 refine mul_int (k _ _ fun _ _ _=>⟨_,rfl⟩) ?_
 rcases c with h | ⟨h1,h2⟩
 ·exact tJ.ok h
 ·exact mulOk_of_bits (m:=400) (n:=400) (intBits_le_iff.mpr h1) (intBits_le_iff.mpr h2) (by decide)
theorem rZ:Op2 X (binaryOp .FloorDiv) (opD .fdiv):=dZ (by decide) fun i j _ _ _ _ _ e k=>by
 obtain ⟨⟨h1,h2⟩,rfl⟩:=aC e
 refine floordiv_int (by omega) (by rw [Int.fdiv_eq_ediv_of_nonneg i (by omega)];exact k _ _ fun _ _ _=>⟨_,rfl⟩) (.inl (PyProof.noPylong_of_log2 ?_))
 have h:j.natAbs.log2<200:=(Nat.log2_lt (by omega)).2 (by omega)
 omega
theorem vm:Op2 X (binaryOp .Mod) (opD .mod):=dZ (by decide) fun i j _ _ _ _ _ e k=>by
 obtain ⟨c,rfl⟩:=aC e
 exact mod_int' (by omega) (by rw [Int.fmod_eq_emod_of_nonneg i (by omega)];exact k _ _ fun _ _ _=>⟨_,rfl⟩)
theorem vo:Op2 X (binaryOp .Pow) (opD .pow):=dZ (by decide) fun _ _ _ _ _ _ _ e k=>by
 obtain ⟨c,rfl⟩:=aC e;exact pow_int_small c.1 c.2.1 c.2.2 (k _ _ fun _ _ _=>⟨_,rfl⟩)
theorem vp:Op2 X (binaryOp .LShift) (opD .shl):=dZ (by decide) fun _ _ _ _ _ _ _ e k=>by
 obtain ⟨c,rfl⟩:=aC e;exact lshift_int_small c.1 c.2.1 c.2.2 (k _ _ fun _ _ _=>⟨_,rfl⟩)
theorem vq:Op2 X (binaryOp .RShift) (opD .shr):=dZ (by decide) fun i _ _ _ _ _ _ e k=>by
 obtain ⟨c,rfl⟩:=aC e;exact rshift_int c (by rw [Int.fdiv_eq_ediv_of_nonneg i (k7 _)];exact k _ _ fun _ _ _=>⟨_,rfl⟩)
theorem vk:Op2 X (binaryOp .BitAnd) (opD .band):=dZ (by decide) fun _ _ _ _ _ _ _ e k=>by cases e;exact and_int (k _ _ fun _ _ _=>⟨_,rfl⟩)
theorem vt:Op2 X (binaryOp .BitXor) (opD .bxor):=dZ (by decide) fun _ _ _ _ _ _ _ e k=>by cases e;exact xor_int (k _ _ fun _ _ _=>⟨_,rfl⟩)
theorem xb:Op2 X (compareOp .Lt) (opD .lt):=dZ (by decide) fun _ _ _ _ _ s _ e k=>by cases e;exact lt_int (k _ s.toks fun _ _ _=>rfl)
theorem w9:Op2 X (compareOp .LtE) (opD .le):=dZ (by decide) fun _ _ _ _ _ s _ e k=>by cases e;exact le_int (k _ s.toks fun _ _ _=>rfl)
theorem wZ:Op2 X (compareOp .Gt) (opD .gt):=dZ (by decide) fun _ _ _ _ _ s _ e k=>by cases e;exact gt_int (k _ s.toks fun _ _ _=>rfl)
theorem wY:Op2 X (compareOp .GtE) (opD .ge):=dZ (by decide) fun _ _ _ _ _ s _ e k=>by cases e;exact ge_int (k _ s.toks fun _ _ _=>rfl)
theorem vj:Op2 X (binaryOp .Add) (opD .add):=fun z u v d1 d2 d I h1 h2 e=>by
 have chk:∀ {n:Nat} {a:D},dk n a=some d→n≤sizeLine∧a=d:=fun e=>let ⟨c,q⟩:=aC e;⟨big c,q⟩
 cases d1 with
 | int i=>cases d2 with
   | int j=>cases e;obtain ⟨t,rfl⟩:=h1;obtain ⟨t',rfl⟩:=h2;exact add_int (.tok fun _ _ _=>⟨_,rfl⟩)
   | _=>cases e
 | str i=>cases d2 with
   | str j=>obtain ⟨hz,rfl⟩:=chk e;obtain ⟨t,rfl⟩:=h1;obtain ⟨t',rfl⟩:=h2;exact add_str (fun t' tk=>.tok fun _ _ _=>⟨_,rfl⟩) hz
   | _=>cases e
 | tup a=>cases d2 with
   | tup b=>
     obtain ⟨hz,rfl⟩:=chk e
     obtain ⟨p,o1,vs,rfl,e1,t1,r1⟩:=id h1
     obtain ⟨q,o2,ws,rfl,e2,t2,r2⟩:=id h2
     have l1:=r1.len
     have l2:=r2.len
     have k1:=tpt (I.gh _ _ e1) t1
     have k2:=tpt (I.gh _ _ e2) t2
     cases vs with
     | nil=>
       cases (show a = [] from List.length_eq_zero_iff.mp l1)
       obtain ⟨⟨cls,dd,data,sl⟩,ho,hc,n,hd⟩:=id k1
       obtain ⟨⟨cls2,dd2,data2,sl2⟩,ho2,hc2,n2,hd2⟩:=id k2
       simp only at hc hd hc2 hd2
       subst hc hd hc2 hd2
       exact concat_meets ⟨_,ho,rfl⟩ ⟨_,ho2,rfl⟩ noFill_tuple_add seq_tuple_add PySem.F.slot_tuple_add PySem.F.entry_tuple_add (PySem.F.args_tuple_add_2 _ _) (tuple_addW0 p q #[] ws.toArray n n2 dd dd2 sl sl2 rfl) ⟨ho,ho2,.old I .refl h2⟩
     | cons v0 vs=>
       refine HT.cat_tup k1 k2 (by simp) (fun w=>?_) (fun _=>.tupn I (r1.app r2) (by rw [List.length_append];omega)) (by omega)
       subst w
       cases (show b = [] from List.length_eq_zero_iff.mp l2)
       rw [List.append_nil]
       exact .old I .refl h1
   | _=>cases e
 | lst a=>cases d2 with
   | lst b=>
     obtain ⟨hz,rfl⟩:=chk e
     obtain ⟨p,o1,vs,rfl,e1,⟨⟨n1,rfl⟩,_⟩,r1⟩:=h1
     obtain ⟨q,o2,ws,rfl,e2,⟨⟨n2,rfl⟩,_⟩,r2⟩:=h2
     have l1:=r1.len
     have l2:=r2.len
     refine PySem.P.add_list e1 e2 ?_ (by rw [List.size_toArray,List.size_toArray];omega)
     rw [show vs.toArray ++ ws.toArray=(vs ++ ws).toArray by simp]
     exact (Dw.lstn (r1.app r2) (by rw [List.length_append];omega)).dn I
   | _=>cases e
 | _=>cases e
end
end L2.Ev
end
section
namespace L2.Ev
open PyProof.Rows.LSm
section
variable {X:Cx} {z:Z}
theorem dX (e:bo d=some k) (h:CR W z d u):(aI P w).is k u=true:=by
 cases d with
 | int i=>cases e;obtain ⟨t,rfl⟩:=h;exact jF P w i t
 | str i=>cases e;obtain ⟨t,rfl⟩:=h;exact ez P w i t
 | _=>cases e
theorem DcO.of {h:Heap} (e:h.get? a=some o) (d:DcO W o l):h.DictOf (aI W.P W.w) a l:=let ⟨es,ep,x,y,a,b,c,_⟩:=d;⟨o,es,ep,e,x,y,a,b,c⟩
theorem cW:∀ {ks} {ds} {vs} {k:Key},ks.length=ds.length→RDs W ρ G ds vs→match cf ks ds k with | some d=>∃ v,valueAt (ks.zip vs) k=some v∧RD W ρ G d v | none=>valueAt (ks.zip vs) k=none
 | [],[],vs,k,_,_=>rfl
 | [],_ :: _,_,_,h,_=>by cases h
 | _ :: _,[],_,_,h,_=>by cases h
 | q :: ks,e :: ds,vs,k,h,r=>by
   obtain ⟨v,ws,rfl,r1,r2⟩:=r
   have ih:=cW (k:=k) (Nat.succ.inj h) r2
   unfold cf
   by_cases c:q=k
   ·rw [if_pos c];exact ⟨v,by simp [valueAt,List.find?_cons,c],r1⟩
   ·rw [if_neg c]
    have n:valueAt ((q :: ks).zip (v :: ws)) k=valueAt (ks.zip ws) k:=by simp [valueAt,List.find?_cons,c]
    rw [n];exact ih
theorem qe (hl:ks.length=ds.length) (r:RDs W ρ G ds vs) (e:cf ks ds k=some d):∃ v,valueAt (ks.zip vs) k=some v∧RD W ρ G d v:=by have:=cW (k:=k) hl r;rw [e] at this;exact this
theorem p9 (hl:ks.length=ds.length) (r:RDs W ρ G ds vs):(valueAt (ks.zip vs) k).isSome=(cf ks ds k).isSome:=by
 have:=cW (k:=k) hl r
 cases q:cf ks ds k with
 | none=>rw [q] at this;rw [this];rfl
 | some d=>rw [q] at this;obtain ⟨v,e,_⟩:=this;rw [e];rfl
theorem wX:Op2 X (compareOp .Eq) (opD .eq):=fun z u v d1 d2 d I h1 h2 e=>by
 obtain ⟨b,q,rfl⟩:=Option.map_eq_some_iff.mp (show (eqv 55 d1 d2).map D.bl=some d from e)
 exact ((e3 I.toHR 55 q h1 h2).2 X.A (by have:=I.ok.un;omega)).2.1 _ _ _ _ (.tok fun _ _ _=>rfl)
theorem xd:Op2 X (compareOp .NotEq) (opD .ne):=fun z u v d1 d2 d I h1 h2 e=>by
 obtain ⟨b,q,rfl⟩:=Option.map_eq_some_iff.mp (show (eqv 55 d1 d2).map (fun x=>D.bl (!x))=some d from e)
 exact ((e3 I.toHR 55 q h1 h2).2 X.A (by have:=I.ok.un;omega)).2.2 _ _ _ _ (.tok fun _ _ _=>rfl)
theorem w8:Op2 X (compareOp .In) (opD .isin):=fun z u v d1 d2 d I h1 h2 e=>by
 have un:X.A.in1.units+57<cLine:=by have:=I.ok.un;show X.A.units+1+57<_;omega
 cases d2 with
 | str y=>cases d1 with
   | str x=>cases e;obtain ⟨t,rfl⟩:=h1;obtain ⟨t',rfl⟩:=h2;exact SB.contains (.tok fun _ _ _=>rfl)
   | _=>cases e
 | lst l=>
   obtain ⟨b,q,rfl⟩:=Option.map_eq_some_iff.mp (show (inD d1 l).map D.bl=some d from e)
   obtain ⟨a,o,vs,rfl,e1,t,r⟩:=h2
   obtain ⟨f,hf,rfl⟩:=dw I.toHR un q r h1
   exact SeqAt.in_listAt f (lsl e1 t) hf (.tok fun _ _ _=>rfl)
 | tup l=>
   obtain ⟨b,q,rfl⟩:=Option.map_eq_some_iff.mp (show (inD d1 l).map D.bl=some d from e)
   obtain ⟨a,o,vs,rfl,e1,t,r⟩:=h2
   obtain ⟨f,hf,rfl⟩:=dw I.toHR un q r h1
   exact SeqAt.in_tupleAt f (tpt (I.gh _ _ e1) t) hf (.tok fun _ _ _=>rfl)
 | dic ks l=>
   obtain ⟨k,q,rfl⟩:=Option.map_eq_some_iff.mp (show ((bo d1).map fun k=>D.bl (cf ks l k).isSome)=some d from e)
   obtain ⟨a,o,vs,rfl,m,e1,t,hl,r⟩:=h2
   exact wpAny_in_of (dX q h1) m (t.of e1).mapOf (by rw [p9 hl r];exact .tok fun _ _ _=>rfl)
 | _=>cases e
theorem pM:Op2 X (compareOp .NotIn) (opD .notin):=fun z u v d1 d2 d I h1 h2 e=>by
 have un:X.A.in1.units+57<cLine:=by have:=I.ok.un;show X.A.units+1+57<_;omega
 cases d2 with
 | lst l=>
   obtain ⟨b,q,rfl⟩:=Option.map_eq_some_iff.mp (show (inD d1 l).map (fun x=>D.bl (!x))=some d from e)
   obtain ⟨a,o,vs,rfl,e1,t,r⟩:=h2
   obtain ⟨f,hf,rfl⟩:=dw I.toHR un q r h1
   exact SeqAt.notIn_listAt f (lsl e1 t) hf (.tok fun _ _ _=>rfl)
 | tup l=>
   obtain ⟨b,q,rfl⟩:=Option.map_eq_some_iff.mp (show (inD d1 l).map (fun x=>D.bl (!x))=some d from e)
   obtain ⟨a,o,vs,rfl,e1,t,r⟩:=h2
   obtain ⟨f,hf,rfl⟩:=dw I.toHR un q r h1
   exact SeqAt.notIn_tupleAt f (tpt (I.gh _ _ e1) t) hf (.tok fun _ _ _=>rfl)
 | dic ks l=>
   obtain ⟨k,q,rfl⟩:=Option.map_eq_some_iff.mp (show ((bo d1).map fun k=>D.bl (!(cf ks l k).isSome))=some d from e)
   obtain ⟨a,o,vs,rfl,m,e1,t,hl,r⟩:=h2
   exact wpAny_notIn_of (dX q h1) m (t.of e1).mapOf (by rw [p9 hl r];exact .tok fun _ _ _=>rfl)
 | _=>cases e
def vQ (X:Cx) (z:Z) (u i:Value) (d:D):Prop:=∃ T id,typeLookup (.type T) "__getitem__" = pure (some (.builtin id))∧z.s.TypeIs u T∧wpAny X.M X.A (getItem u i) (Dn X z d) NoE z.s
theorem RDs.at (r:RDs W ρ G ds vs) (e:atI ds i=some d):∃ v,atI vs i=some v∧RD W ρ G d v:=by
 unfold atI at e ⊢
 rw [← r.len]
 cases q:ixN ds.length i with
 | none=>rw [q] at e;cases e
 | some j=>rw [q] at e;exact r.get e
theorem yd {d1 d2:D} {u v:Value} (I:Rep X z) (h1:CR X.W z d1 u) (h2:CR X.W z d2 v) (e:ixD d1 d2=some d):vQ X z u v d:=by
 have hn:=iw
 cases d1 with
 | tup l=>cases d2 with
   | int i=>
     obtain ⟨a,o,vs,rfl,e1,t,r⟩:=h1
     obtain ⟨tk,rfl⟩:=h2
     obtain ⟨w,ew,rw'⟩:=r.at (show atI l i=some d from e)
     obtain ⟨j,g1,g2,g3,g4,g5⟩:=hB ew
     have p:=tpt (I.gh _ _ e1) t
     have hz:=t.2.2
     exact ⟨_,_,slot_tuple_getitem.lookup,⟨_,I.gh _ _ e1,t.1⟩,getItem_tuple (j:=j) p (by omega) (by omega) g1 (by simpa using g2) (.old I .refl rw')⟩
   | _=>cases e
 | lst l=>cases d2 with
   | int i=>
     obtain ⟨a,o,vs,rfl,e1,t,r⟩:=h1
     obtain ⟨tk,rfl⟩:=h2
     obtain ⟨w,ew,rw'⟩:=r.at (show atI l i=some d from e)
     obtain ⟨j,g1,g2,g3,g4,g5⟩:=hB ew
     have p:=lsl e1 t
     have hz:=t.2
     refine ⟨_,_,slot_list_getitem.lookup,p.typeIs,?_⟩
     by_cases h0:0≤i
     ·have hj:i.toNat=j:=by rw [seqIndex_of h0 g5] at g1;exact Option.some.inj g1
      exact wpAny_getItem_list p h0 (by omega) (by rw [hj];simpa using g2) (.old I .refl rw')
     ·have hj:(i+(vs.toArray.size:Int)).toNat=j:=by rw [seqIndex_neg (by omega) g4] at g1;exact Option.some.inj g1
      exact wpAny_getItem_list_neg p (by omega) g4 (by omega) (by rw [hj];simpa using g2) (.old I .refl rw')
   | _=>cases e
 | str y=>cases d2 with
   | int i=>
     obtain ⟨hz,e⟩:y.length≤100000∧(atI y.cps.toList i).map (fun c=>D.str ⟨#[c]⟩)=some d:=by
      unfold ixD at e;dsimp only at e;split at e
      ·rename_i c;exact ⟨c,e⟩
      ·cases e
     obtain ⟨c,q,rfl⟩:=Option.map_eq_some_iff.mp e
     obtain ⟨t,rfl⟩:=h1
     obtain ⟨t',rfl⟩:=h2
     obtain ⟨j,g1,g2,g3,g4,g5⟩:=hB q
     have hl:y.cps.toList.length=y.length:=by simp [Str.length]
     rw [hl] at g1 g4 g5
     exact ⟨_,_,slot_str_getitem.lookup,typeIs_str _ y t,getItem_str (c:=c) (by
      have e1:decide (i < -(2 ^ 63:Int))=false:=decide_eq_false (by omega)
      have e2:decide (i≥2 ^ 63)=false:=decide_eq_false (by omega)
      rw [e1,e2,Bool.or_false]) (by rw [g1];simpa using g2) (.tok fun _ _ _=>⟨_,rfl⟩)⟩
   | _=>cases e
 | dic ks l=>
   have e':((bo d2).bind fun k=>cf ks l k)=some d:=by cases d2 <;> exact e
   obtain ⟨k,q,e'⟩:=Option.bind_eq_some_iff.mp e'
   obtain ⟨a,o,vs,rfl,m,e1,t,hl,r⟩:=h1
   obtain ⟨w,ew,rw'⟩:=qe hl r e'
   exact ⟨_,_,PySem.F.slot_dict_getitem.lookup,(t.of e1).typeIs,wpAny_getItem_of (dX q h2) (t.of e1).mapOf ew (.old I .tok rw')⟩
 | _=>cases e
theorem RDs.cut (r:RDs W ρ G ds vs) (lo hi):RDs W ρ G (mF ds lo hi) ((vs.drop (HT.sIx vs.length 0 lo)).take (HT.sIx vs.length vs.length hi - HT.sIx vs.length 0 lo)):=by
 unfold mF
 rw [r.len]
 exact (r.drop _).take _
theorem yo {d1:D} {u vl vu:Value} {lo hi:Option Int} (I:Rep X z) (h1:CR X.W z d1 u) (hs:z.s.heap.IsSliceOf sl vl vu .none) (pl:IsPart vl lo) (pu:IsPart vu hi) (e:slO d1 lo hi=some d):vQ X z u (.ref sl) d:=by
 have cl:∀ (vs:List Value),((vs.drop (HT.sIx vs.length 0 lo)).take (HT.sIx vs.length vs.length hi - HT.sIx vs.length 0 lo)).length≤vs.length:=fun vs=>by rw [List.length_take,List.length_drop];omega
 cases d1 with
 | tup l=>
   cases e
   obtain ⟨a,o,vs,rfl,e1,t,r⟩:=id h1
   have p:=tpt (I.gh _ _ e1) t
   refine ⟨"tuple",_,slot_tuple_getitem.lookup,⟨_,I.gh _ _ e1,t.1⟩,?_⟩
   by_cases w:HT.sIx vs.length 0 lo=0∧HT.sIx vs.length vs.length hi=vs.length
   ·refine HT.getItem_tuple_all p hs pl pu w ?_
    have e:mF l lo hi=l:=by
     unfold mF
     rw [r.len,w.1,w.2,Nat.sub_zero,List.drop_zero,← r.len,List.take_length]
    rw [e]
    exact .old I .refl h1
   ·exact HT.getItem_tuple_cut p hs pl pu w (.tupn I (r.cut lo hi) (Nat.le_trans (cl vs) t.2.2)) t.2.2
 | lst l=>
   cases e
   obtain ⟨a,o,vs,rfl,e1,t,r⟩:=h1
   refine ⟨"list",_,slot_list_getitem.lookup,(lsl e1 t).typeIs,wpAny_getItem_list_slice (lsl e1 t) hs pl pu .none (by simp) ?_ (by rw [List.size_toArray];exact t.2)⟩
   rw [gC]
   exact (Dw.lstn (r.cut lo hi) (Nat.le_trans (cl vs) t.2)).dn I
 | str y=>
   obtain ⟨hz,rfl⟩:=aC (show (if y.length≤100000 then some (D.str (Txt.slice y lo hi)) else none)=some d from e)
   obtain ⟨t,rfl⟩:=h1
   have fin:Nat.le (Txt.slice y lo hi).length sizeLine∧∀ t' k,Dn X z (.str (Txt.slice y lo hi)) (.str (Txt.slice y lo hi) t') { z.s with toks:=k }:=⟨Nat.le_trans (Txt.slice_le y _ _) (big hz),fun t' k=>.tok fun _ _ _=>⟨t',rfl⟩⟩
   refine ⟨"str",_,PySem.F.slot_str_getitem.lookup,typeIs_str _ _ _,?_⟩
   cases pl <;> cases pu
   ·exact wpAny_getItem_str_slice (l:=none) (u:=none) (st:=none) hs rfl (post_val_or_str fin)
   ·exact wpAny_getItem_str_slice (l:=none) (u:=some (_,_)) (st:=none) hs rfl (post_val_or_str fin)
   ·exact wpAny_getItem_str_slice (l:=some (_,_)) (u:=none) (st:=none) hs rfl (post_val_or_str fin)
   ·exact wpAny_getItem_str_slice (l:=some (_,_)) (u:=some (_,_)) (st:=none) hs rfl (post_val_or_str fin)
 | _=>cases e
def Bi1 (X:Cx) (f:Value) (b:Bi):Prop:=∀ z u x d,Rep X z→CR X.W z x u→fZ b x=some d→wpAny X.M X.A (call f [u]) (Dn X z d) NoE z.s
def qo (X:Cx) (f:Value) (b:Bi):Prop:=∀ z u x d,Rep X z→CR X.W z x u→fZ b x=some d→wpAny X.M X.A (call f [u]) (Dw X z d) NoE z.s
theorem tO:Bi1 X (.builtin "len") .len:=fun z u x d I h e=>by
 have hn:=iw
 cases x with
 | tup l=>cases e;obtain ⟨a,o,vs,rfl,e1,t,r⟩:=h;have:=t.2.2;rw [r.len];exact len_tuple (tpt (I.gh _ _ e1) t) (by rw [List.size_toArray];omega) (.tok fun _ _ _=>⟨_,rfl⟩)
 | lst l=>cases e;obtain ⟨a,o,vs,rfl,e1,t,r⟩:=h;have:=t.2;rw [r.len];exact Calls.call_len_list (lsl e1 t) (by rw [List.size_toArray];omega) (.tok fun _ _ _=>⟨_,rfl⟩)
 | str y=>
   obtain ⟨hz,rfl⟩:=aC (show (if y.length≤100000 then some (D.int y.length) else none)=some d from e)
   obtain ⟨t,rfl⟩:=h;have:=big hz
   exact len_str (by omega) (.tok fun _ _ _=>⟨_,rfl⟩)
 | _=>cases e
theorem nW:Bi1 X (.type "tuple") .tuple:=fun z u x d I h e=>by
 cases x with
 | tup l=>cases e;obtain ⟨a,o,vs,rfl,e1,t,r⟩:=id h;exact call_tuple_same (tpt (I.gh _ _ e1) t) (.old I .refl h)
 | lst l=>
   cases e
   obtain ⟨a,o,vs,rfl,e1,t,r⟩:=h
   refine call_tuple_list (lsl e1 t) (fun h' kp=>?_) (by rw [List.size_toArray];exact t.2)
   have nn:z.h h'.objs.size=none:=by
    cases q:z.h h'.objs.size with
    | none=>rfl
    | some o=>exact absurd (Heap.lt_size (kp _ o q)) (Nat.lt_irrefl _)
   exact .tup I r (.hp (t:=z.s.toks) fun b o e=>Heap.get?_push_of_some _ (kp b o e)) nn (Heap.get?_push_size _ rfl) (p8 t.2)
 | _=>cases e
theorem qD:qo X (.type "list") .list:=fun z u x d I h e=>by
 cases x with
 | tup l=>
   cases e
   obtain ⟨a,o,vs,rfl,e1,t,r⟩:=h
   obtain ⟨n,hd⟩:=t.2.1
   exact call_list_seq a (.inr rfl) (I.gh _ _ e1) t.1 hd (fun h' c' kp e=>.lst r (.hp (t:=z.s.toks) kp) (aA z) e t.2.2) (by rw [List.size_toArray];exact t.2.2)
 | lst l=>
   cases e
   obtain ⟨a,o,vs,rfl,e1,⟨⟨n,rfl⟩,hz⟩,r⟩:=h
   exact call_list_seq a (.inl rfl) e1 rfl rfl (fun h' c' kp e=>.lst r (.hp (t:=z.s.toks) kp) (aA z) e hz) (by rw [List.size_toArray];exact hz)
 | _=>cases e
theorem HR.sysm (I:HR X z):sysModules<z.s.heap.objs.size:=Nat.lt_trans (by decide) (I.md.glob.keeps fun b o e=>I.gh _ _ (I.bs b o e)).lt
theorem qC:qo X (.type "dict") .dict:=fun z u x d I h e=>by
 cases x with
 | dic ks l=>
   cases e
   obtain ⟨a,o,vs,rfl,m,e1,t,hl,r⟩:=h
   have hz:(ks.zip vs).length≤sizeLine:=by obtain ⟨_,_,_,_,_,_,_,q⟩:=t;exact q
   refine kt_call_dict (knd:=aI X.W.P X.W.w) m (t.of e1) hz fun h' hd' sb=>?_
   obtain ⟨o',es,ep,e2,x,y,a1,a2,a3⟩:=hd'
   exact ⟨.hp (t:=z.s.toks) fun b o e=>(sb.2 b (Nat.ne_of_lt (Heap.lt_size e))).trans (Heap.get?_push_of_some _ e),_,.dic ks l,rfl,aA z,rfl,o',vs,rfl,beq_eq_false_iff_ne.mpr (Nat.ne_of_gt I.sysm),e2,⟨es,ep,x,y,a1,a2,a3,hz⟩,hl,r⟩
 | _=>cases e
theorem tM:Bi1 X (.builtin "abs") .abs:=fun z u x d I h e=>by
 cases x with
 | int i=>cases e;obtain ⟨t,rfl⟩:=h;exact call_abs_int fun u tk=>.tok fun _ _ _=>⟨_,rfl⟩
 | _=>cases e
theorem tP:Bi1 X (.type "str") .str:=fun z u x d I h e=>by
 cases x with
 | int i=>obtain ⟨hz,rfl⟩:=aC (show (if i.natAbs.log2<1920 then some (D.str (Str.ofString (toString i))) else none)=some d from e);obtain ⟨t,rfl⟩:=h;exact PySem.P.str_of_int hz (.tok fun _ _ _=>⟨_,rfl⟩)
 | _=>cases e
theorem tN:Bi1 X (.type "int") .int:=fun z u x d I h e=>by
 cases x with
 | int i=>cases e;obtain ⟨t,rfl⟩:=h;exact call_int_int (.tok fun _ _ _=>⟨_,rfl⟩)
 | bl i=>cases e;cases (show u=Value.bool i from h);exact call_int_bool (.tok fun _ _ _=>⟨_,rfl⟩)
 | str y=>
   obtain ⟨hz,e⟩:y.length≤640∧(PySem.intText? y).map D.int=some d:=by
    unfold fZ at e;dsimp only at e;split at e
    ·rename_i c;exact ⟨c,e⟩
    ·cases e
   obtain ⟨n,q,rfl⟩:=Option.map_eq_some_iff.mp e
   obtain ⟨t,rfl⟩:=h
   exact PySem.W.KIN.call_text q hz (.tok fun _ _ _=>⟨_,rfl⟩)
 | _=>cases e
def Bi2 (X:Cx) (f:Value) (b:Bi):Prop:=∀ z u v x y d,Rep X z→CR X.W z x u→CR X.W z y v→vV b x y=some d→wpAny X.M X.A (call f [u,v]) (Dn X z d) NoE z.s
theorem qE (hc:X.calm=true):Bi2 X (.builtin "max") .max2:=fun z u v x y d I h1 h2 e=>by
 cases x with
 | int i=>cases y with
   | int j=>
     cases e;obtain ⟨t,rfl⟩:=h1;obtain ⟨t',rfl⟩:=h2
     refine max_two_ints (I.hd hc) fun h' tk k=>⟨.hp k,?_⟩
     by_cases hj:j>i
     ·rw [if_pos hj,if_pos hj];exact ⟨_,rfl⟩
     ·rw [if_neg hj,if_neg hj];exact ⟨_,rfl⟩
   | _=>cases e
 | _=>cases e
theorem qF (hc:X.calm=true):Bi2 X (.builtin "min") .min2:=fun z u v x y d I h1 h2 e=>by
 cases x with
 | int i=>cases y with
   | int j=>
     cases e;obtain ⟨t,rfl⟩:=h1;obtain ⟨t',rfl⟩:=h2
     refine min_two_ints (I.hd hc) fun h' tk k=>⟨.hp k,?_⟩
     by_cases hj:j<i
     ·rw [if_pos hj,if_pos hj];exact ⟨_,rfl⟩
     ·rw [if_neg hj,if_neg hj];exact ⟨_,rfl⟩
   | _=>cases e
 | _=>cases e
def tyN:Bi→String
 | .isTup=>"tuple" | .isStr=>"str" | .isBool=>"bool" | .isInt=>"int" | .isDic=>"dict" | _=>"list"
theorem vW (hb:b = .isTup∨b = .isStr∨b = .isBool∨b = .isInt∨b = .isLst∨b = .isDic) {u:Value} (I:Rep X z) (h:CR X.W z x u) (e:fZ b x=some d):wpAny X.M X.A (call (.builtin "isinstance") [u,.type (tyN b)]) (Dn X z d) NoE z.s:=by
 have kin:X.K.In z.s.heap:=I.md.kin.keeps fun b o e=>I.gh _ _ (I.bs b o e)
 have go:∀ {tn:String},fZ b x=(PySem.W.kitOne [] (.type tn) (.type (tyN b))).map D.bl→(∀ v,PySem.W.kitOne [] (.type tn) (.type (tyN b))=some v→(∀ n,Dn X z (.bl v) (.bool v) { z.s with toks:=n })→wpAny X.M X.A (call (.builtin "isinstance") [u,.type (tyN b)]) (Dn X z (.bl v)) NoE z.s)→wpAny X.M X.A (call (.builtin "isinstance") [u,.type (tyN b)]) (Dn X z d) NoE z.s:=fun q k=>by
  rw [q] at e
  obtain ⟨v,e1,rfl⟩:=Option.map_eq_some_iff.mp e
  exact k v e1 fun n=>.tok fun _ _ _=>rfl
 cases x with
 | non=>cases (show u=Value.none from h);exact go (tn:="NoneType") (by rcases hb with rfl | rfl | rfl | rfl | rfl | rfl <;> kernel_rfl) fun v q k=>PySem.W.kia_one PySem.W.kitx_none kin True.intro q (fun z=>nomatch z) k
 | bl y=>cases (show u=Value.bool y from h);exact go (tn:="bool") (by rcases hb with rfl | rfl | rfl | rfl | rfl | rfl <;> kernel_rfl) fun v q k=>PySem.W.kia_one PySem.W.kitx_bool kin True.intro q (fun z=>nomatch z) k
 | int y=>obtain ⟨t,rfl⟩:=(show ∃ t,u=Value.int y t from h);exact go (tn:="int") (by rcases hb with rfl | rfl | rfl | rfl | rfl | rfl <;> kernel_rfl) fun v q k=>PySem.W.kia_one PySem.W.kitx_int kin True.intro q (fun z=>nomatch z) k
 | str y=>obtain ⟨t,rfl⟩:=(show ∃ t,u=Value.str y t from h);exact go (tn:="str") (by rcases hb with rfl | rfl | rfl | rfl | rfl | rfl <;> kernel_rfl) fun v q k=>PySem.W.kia_one PySem.W.kitx_str kin True.intro q (fun z=>nomatch z) k
 | tup l=>obtain ⟨a,o,vs,rfl,e1,t,r⟩:=h;exact go (tn:="tuple") (by rcases hb with rfl | rfl | rfl | rfl | rfl | rfl <;> kernel_rfl) fun v q k=>PySem.W.kia_one PySem.W.kitx_tuple kin ⟨o,I.gh _ _ e1,t.1⟩ q (fun z=>nomatch z) k
 | lst l=>obtain ⟨a,o,vs,rfl,e1,⟨⟨n,rfl⟩,_⟩,r⟩:=h;exact go (tn:="list") (by rcases hb with rfl | rfl | rfl | rfl | rfl | rfl <;> kernel_rfl) fun v q k=>PySem.W.kia_one PySem.W.kitx_list kin ⟨_,e1,rfl⟩ q (fun z=>nomatch z) k
 | dic ks l=>obtain ⟨a,o,vs,rfl,m,e1,⟨_,_,c,_⟩,hl,r⟩:=h;exact go (tn:="dict") (by rcases hb with rfl | rfl | rfl | rfl | rfl | rfl <;> kernel_rfl) fun v q k=>PySem.W.kia_one PySem.W.kitx_dict kin ⟨o,e1,c.1⟩ q (fun z=>nomatch z) k
 | _=>rcases hb with rfl | rfl | rfl | rfl | rfl | rfl <;> cases e
end
end L2.Ev
end
section
namespace L2.Ev
def toB (d:D) (s:Sta):Out Bool:=match d with | .bl b=>.ok b s | _=>.bad
def RT (_:Z) (b c:Bool):Prop:=c=b
def RVs (W:Wd) (br:Bool):E→Z→List D→List Value→Prop
 | .cons a r,z,d :: ds,u :: us=>RV W br a z d u∧RVs W br r z ds us
 | .nil,_,[],[]=>True
 | _,_,_,_=>False
def LE (X:Cx) (e:Expr) (c:E):Prop:=∀ br,Jg X (eval e X.env) (X.ev br c) (RV X.W br c)
def LF (X:Cx) (e:Expr) (c:E):Prop:=∀ z,Rep X z→X.ev false c z.t≠.bad→Wp X (eval e X.env) z (X.ev false c z.t) (FV X z)
def LT (X:Cx) (e:Expr) (c:E):Prop:=Jg X (isTrue e X.env (eval e X.env)) (fun t=>(X.ev true c t).bind toB) RT
def LW (X:Cx) (e:Expr) (c:E):Prop:=∀ wh,Jg X (isTrue e X.env wh) (fun t=>(X.ev true c t).bind toB) RT
def LA (X:Cx) (es:List Expr) (c:E):Prop:=∀ br pos,Jg X (spliced (backTo pos (starEach es X.env))) (X.evs br c) (RVs X.W br c)
theorem av (x:Out α) (f:α→Sta→Out β) (g:β→Sta→Out γ):(x.bind f).bind g=x.bind fun a s=>(f a s).bind g:=by cases x <;> rfl
theorem xk (h:RB X.W z (.bl b) u) (I:Rep X z):u = .bool b:=(h.cr0 I:RD X.W z.ρ z.G (.bl b) u)
section
variable {X:Cx} {z z0 z1:Z} {br:Bool}
theorem Rep.bk (I:HR X z):∀ b o,X.base.get? b=some o→z.s.heap.get? b=some o:=fun b o e=>I.gh _ _ (I.bs b o e)
theorem HR.kin (I:HR X z):X.K.In z.s.heap:=I.md.kin.keeps (Rep.bk I)
theorem cE {i:Nat} {x:Str} {Q:Value→Shared→Prop} {E:Value→Shared→Prop} (I:Rep X z) (hN:X.N[i]? = some x) (hv:Vis X.env.scope x) (e:z.σ[i]? = some (some u)) (q:Q u z.s) (hd:(x == ("__debug__":Str))=false) (hc:(x == ("__classdict__":Str))=false):wpAny X.M X.A (eval (.Name x pos) X.env) Q E z.s:=by
 obtain ⟨m,hn,hl⟩:=I.lo
 rcases hl i x u hN e hv with ⟨hk,hm⟩ | ⟨hk,c,hc',hcell⟩
 ·exact wpAny_Name (wpAny_loadName_local I.ok.kd hk hn hm q) hd
 ·rcases hk with hk | hk
  ·exact wpAny_Name (wpAny_loadName_cell I.ok.kd hk hc' hcell q) hd
  ·exact wpAny_Name (wpAny_loadName_free I.ok.kd hk hc' hcell q hc) hd
theorem Rep.slot {i:Nat} {d:D} (I:Rep X z) (e:z.t.env[i]? = some (some d)):∃ u,z.σ[i]? = some (some u)∧RB X.W z d u:=by
 by_cases m:i∈z.t.ow
 ·obtain ⟨d',a,o,h1,h2,_⟩:=I.eo i m
  exact ⟨_,h2,.inr ⟨i,m,h2,e⟩⟩
 ·obtain ⟨u,q,r⟩:=I.en i d m e
  exact ⟨u,q,.inl r⟩
theorem uL {i:Nat} {x:Str} (hN:X.N[i]? = some x) (hv:Vis X.env.scope x) (hd:(x == ("__debug__":Str))=false) (hc:(x == ("__classdict__":Str))=false):LE X (.Name x pos) (.v i):=fun br z I nb=>by
 have en:∃ d,z.t.env[i]? = some (some d):=by
  cases q:z.t.env[i]? with
  | none=>exact absurd (show X.ev br (.v i) z.t = .bad by show (match z.t.env[i]? with | some (some d)=>Out.ok d (if br then z.t else un z.t i) | _=>.bad)=_;rw [q]) nb
  | some o=>cases o with
    | none=>exact absurd (show X.ev br (.v i) z.t = .bad by show (match z.t.env[i]? with | some (some d)=>Out.ok d (if br then z.t else un z.t i) | _=>.bad)=_;rw [q]) nb
    | some d=>exact ⟨d,rfl⟩
 obtain ⟨d,q⟩:=en
 have e:X.ev br (.v i) z.t = .ok d (if br then z.t else un z.t i):=by show (match z.t.env[i]? with | some (some d)=>Out.ok d (if br then z.t else un z.t i) | _=>.bad)=_;rw [q]
 obtain ⟨u,q1,r⟩:=I.slot q
 rw [e]
 refine cE I hN hv q1 ?_ hd hc
 cases br with
 | true=>
   refine ⟨z,d,rfl,rfl,.refl,I,?_⟩
   by_cases m:i∈z.t.ow
   ·exact .inr ⟨rfl,i,rfl,m,q1,q⟩
   ·obtain ⟨u',q2,r2⟩:=I.en i d m q
    rw [q1] at q2;cases q2;exact .inl r2
 | false=>
   obtain ⟨I2,x2⟩:=I.rel (fun j=>j != i)
   refine ⟨z.rel fun j=>j != i,d,rfl,rfl,x2,I2,?_⟩
   obtain ⟨u',q2,r2⟩:=I2.en i d (fun m=>by simp [Z.rel] at m) q
   rw [show z.σ[i]? = some (some u') from q2] at q1;cases q1;exact .inl r2
theorem ri (h:∀ z,wpAny X.M X.A (eval e X.env) (Dn X z d) NoE z.s):LE X e (.c d):=fun br z I nb=>wpAny_mono (h z) (fun _ _ k=>k.pe I) fun _ _ z=>z.elim
theorem sR:LE X (.Constant .none j pos) (.c .non):=ri fun _=>Constant_none (.tok fun _ _ _=>rfl)
theorem wm:LE X (.Constant (.bool b) j pos) (.c (.bl b)):=ri fun _=>Constant_bool (.tok fun _ _ _=>rfl)
theorem sQ:LE X (.Constant (.int i) j pos) (.c (.int i)):=ri fun _=>wpAny_Constant_int (.tok fun _ _ _=>⟨_,rfl⟩)
theorem sS:LE X (.Constant (.str x) j pos) (.c (.str x)):=ri fun _=>Calls.Constant_str (.tok fun _ _ _=>⟨_,rfl⟩)
def Gl (X:Cx) (x:Str):Prop:=X.env.kindOf x=some .globalImplicit
theorem bC {Q:Value→Shared→Prop} {E:Value→Shared→Prop} (I:Rep X z) (hg:Gl X x) (hm:X.mg x=some u) (h:Q u z.s) (hd:(x == ("__debug__":Str))=false):wpAny X.M X.A (eval (.Name x pos) X.env) Q E z.s:=
 Calls.Name_function_global I.ok.kd hg (Calls.loadGlobal_global (by rw [I.ok.gl];exact I.md.glob.keeps (Rep.bk I.toHR)) hm h) hd
theorem uv {Q:Value→Shared→Prop} {E:Value→Shared→Prop} (I:Rep X z) (hg:Gl X x) (hm:X.mg x=none) (hv:bootBuiltins x=some u) (h:Q u z.s) (hn:x≠"__name__") (hd:(x == ("__debug__":Str))=false):wpAny X.M X.A (eval (.Name x pos) X.env) Q E z.s:=by
 obtain ⟨mb,h1,h2⟩:=I.md.blt
 exact Calls.Name_function_global I.ok.kd hg (Calls.loadGlobal_builtin (by rw [I.ok.gl];exact I.md.glob.keeps (Rep.bk I.toHR)) hm (by rw [I.ok.bl];exact h1.keeps (Rep.bk I.toHR)) ((h2 x hn).trans hv) h) hd
def aM (K:Fg):L2.Bk.Dk→Value→Bool
 | .str x,v=>(match v with | .str y _=>decide (y=x) | _=>false)
 | .int i,v=>(match v with | .int j _=>decide (j=i) | _=>false)
 | .bl b,v=>(match v with | .bool c=>decide (c=b) | _=>false)
 | .non,v=>(match v with | .none=>true | _=>false)
 | .tup ds,v=>(match v with
   | .ref a=>(match K.lookup a with
     | some o=>o.cls == .type "tuple" && (match o.data with | .seq its _=>decide (its.size≤1000) && lookDs K ds its.toList | _=>false)
     | none=>false)
   | _=>false)
where lookDs (K:Fg):List L2.Bk.Dk→List Value→Bool
 | [],vs=>vs.isEmpty
 | d :: ds,vs=>(match vs with | v :: r=>aM K d v && lookDs K ds r | []=>false)
mutual
theorem pU {K:Fg} {G:Hp} (k:∀ a o,K.lookup a=some o→G a=some o):∀ d v,aM K d v=true→RD W ρ G (toD d) v
 | .str x,v,h=>by cases v <;> simp only [aM] at h <;> first | cases h | exact ⟨_,by rw [of_decide_eq_true h]⟩
 | .int x,v,h=>by cases v <;> simp only [aM] at h <;> first | cases h | exact ⟨_,by rw [of_decide_eq_true h]⟩
 | .bl x,v,h=>by cases v <;> simp only [aM] at h <;> first | cases h | exact (by rw [of_decide_eq_true h];rfl)
 | .non,v,h=>by cases v <;> simp only [aM] at h <;> first | exact (rfl:RD W ρ G .non .none) | cases h
 | .tup ds,v,h=>by
   cases v with
   | ref a=>
     simp only [aM] at h
     cases q:K.lookup a with
     | none=>rw [q] at h;cases h
     | some o=>
       rw [q] at h
       dsimp only at h
       rw [Bool.and_eq_true] at h
       obtain ⟨h1,h2⟩:=h
       cases qd:o.data with
       | seq its n=>
         rw [qd] at h2
         dsimp only at h2
         rw [Bool.and_eq_true] at h2
         have hz:its.size≤1000:=of_decide_eq_true h2.1
         exact ⟨a,o,its.toList,rfl,k a o q,⟨by simpa using h1,⟨n,by simpa using qd⟩,by rw [Array.length_toList,sizeLine_eq];omega⟩,mn k ds _ h2.2⟩
       | _=>rw [qd] at h2;cases h2
   | _=>simp [aM] at h
theorem mn {K:Fg} {G:Hp} (k:∀ a o,K.lookup a=some o→G a=some o):∀ ds vs,aM.lookDs K ds vs=true→RDs W ρ G (toD.toDs ds) vs
 | [],vs,h=>by cases vs with
   | nil=>exact rfl
   | cons _ _=>simp [aM.lookDs] at h
 | d :: ds,vs,h=>by cases vs with
   | nil=>simp [aM.lookDs] at h
   | cons v r=>
     simp only [aM.lookDs,Bool.and_eq_true] at h
     exact .cons (pU k d v h.1) (mn k ds r h.2)
end
theorem HR.top (I:HR X z) (h:aM X.K d u=true):RD X.W z.ρ z.G (toD d) u:=pU (fun a o e=>I.bs a o (I.md.kin a o e)) d u h
theorem yf {j:Nat} (hg:Gl X x) (hm:X.mg x=some u) (hd:(x == ("__debug__":Str))=false) (e:X.Γ.gl[j]? = some d) (h:aM X.K d u=true):LE X (.Name x pos) (.g j):=fun br z I nb=>by
 have q:X.ev br (.g j) z.t = .ok (toD d) z.t:=by show Out.of z.t (X.Γ.gl[j]?.map toD)=_;rw [e];rfl
 rw [q]
 exact bC I hg hm ⟨z,toD d,rfl,rfl,.refl,I,.of (I.toHR.top h)⟩ hd
theorem wN {o:Op} (ho:Op2 X (binaryOp op) (opD o)) (ha:LE X ea a) (hb:LE X eb b):LE X (.BinOp ea op eb pos) (.op o a b):=fun br z I nb=>
 wpAny_BinOp ((ha true).go .refl I rfl nb fun z1 x u y1 x1 I1 r1 e1=>(hb true).go x1 I1 e1 nb fun z2 y v y2 x2 I2 r2 e2=>cm x2 I2 e2 nb fun d q=>ho z2 u v _ _ d I2 ((r1.rb.st y2 I2).cr I2) (r2.rb.cr I2) q)
theorem uA {o:Op} (ho:Op2 X (compareOp op) (opD o)) (ha:LE X ea a) (hb:LE X eb b) (hm:behindInMarks op eb=false):LE X (.Compare ea [op] [eb] pos) (.op o a b):=fun br z I nb=>
 wpAny_Compare1 ((ha true).go .refl I rfl nb fun z1 x u y1 x1 I1 r1 e1=>(hb true).go x1 I1 e1 nb fun z2 y v y2 x2 I2 r2 e2=>cm x2 I2 e2 nb fun d q=>ho z2 u v _ _ d I2 ((r1.rb.st y2 I2).cr I2) (r2.rb.cr I2) q) hm
theorem Dn.tru {o:Out Bool} {s':Shared} (x:Ee X z0 z) (I:Rep X z) (e:o=(Out.ok d z.t).bind toB) (nb:o≠.bad) (h:Dn X z d u s'):wpAny X.M X.A (truthy u) (Pe X z0 o RT) (Px X z0 o) s':=by
 cases d with
 | bl b=>
   cases (show u=Value.bool b from h.2)
   exact wpAny_truthy_bool ⟨z.up s',b,rfl,e,x.trans (bH I.gh h.1).ee,I.grow (bH I.gh h.1),rfl⟩
 | _=>exact absurd e nb
theorem u4 {o:Op} (ho:Op2 X (compareOp op) (opD o)) (ha:LE X ea a) (hb:LE X eb b) (hm:behindInMarks op eb=false):LT X (.Compare ea [op] [eb] pos) (.op o a b):=fun z I nb=>
 wpAny_isTrue_Compare1 ((ha true).go .refl I (av ..) nb fun z1 x u y1 x1 I1 r1 e1=>(hb true).go x1 I1 (e1.trans (av ..)) nb fun z2 y v y2 x2 I2 r2 e2=>by
  cases q:opD o (look z2.t.st x) (look z2.t.st y) with
  | none=>rw [q] at e2;exact absurd e2 nb
  | some d=>rw [q] at e2;exact wpAny_mono (ho z2 u v _ _ d I2 ((r1.rb.st y2 I2).cr I2) (r2.rb.cr I2) q) (fun c s' k=>k.tru x2 I2 e2 nb) fun _ _ z=>z.elim) hm
theorem iF (I:Rep X z) (h:RB X.W z d u):(u == Value.none)=jo d:=by
 rcases h with h | ⟨i,m,e1,e2⟩
 ·cases d with
  | non=>cases (show u=_ from h);rfl
  | bl b=>cases (show u=_ from h);rfl
  | int b=>obtain ⟨t,rfl⟩:=h;rfl
  | str b=>obtain ⟨t,rfl⟩:=h;rfl
  | tup l=>obtain ⟨a,_,_,rfl,_⟩:=h;rfl
  | lst l=>obtain ⟨a,_,_,rfl,_⟩:=h;rfl
  | dic k l=>obtain ⟨a,_,_,rfl,_⟩:=h;rfl
  | ins c l=>obtain ⟨a,_,_,rfl,_⟩:=h;rfl
  | ref n=>obtain ⟨a,_,rfl⟩:=h;rfl
 ·obtain ⟨d',a,o,h1,h2,h3,_⟩:=I.eo i m
  rw [e1] at h2;cases h2
  rw [e2] at h1;cases h1
  cases d <;> first | rfl | cases h3
theorem cz (b:Bool) {z:Z}:Dn X z (.bl b) (.bool b) z.s:=.tok (n:=z.s.toks) fun _ _ _=>rfl
theorem uD (ha:LE X ea a) (h1:behindInMarks .Is (.Constant .none j pos')=false):LE X (.Compare ea [.Is] [.Constant .none j pos'] pos) (.isN a):=fun br z I nb=>
 wpAny_Compare1 ((ha true).go .refl I rfl nb fun z1 x u y1 x1 I1 r1 e1=>Constant_none (is_none_gen (by rw [iF I1 r1.rb];exact (cz _).at x1 I1 e1))) h1
theorem rp (ha:LE X ea a) (h1:behindInMarks .IsNot (.Constant .none j pos')=false):LE X (.Compare ea [.IsNot] [.Constant .none j pos'] pos) (.isNN a):=fun br z I nb=>
 wpAny_Compare1 ((ha true).go .refl I rfl nb fun z1 x u y1 x1 I1 r1 e1=>Constant_none (isnot_none_gen (by rw [iF I1 r1.rb];exact (cz _).at x1 I1 e1))) h1
theorem u5 (ha:LE X ea a) (h1:behindInMarks .Is (.Constant .none j pos')=false):LT X (.Compare ea [.Is] [.Constant .none j pos'] pos) (.isN a):=fun z I nb=>
 wpAny_isTrue_Compare1 ((ha true).go .refl I (av ..) nb fun z1 x u y1 x1 I1 r1 e1=>Constant_none (is_none_gen (by rw [iF I1 r1.rb];exact (cz _).tru x1 I1 e1 nb))) h1
theorem rS (ha:LE X ea a) (h1:behindInMarks .IsNot (.Constant .none j pos')=false):LT X (.Compare ea [.IsNot] [.Constant .none j pos'] pos) (.isNN a):=fun z I nb=>
 wpAny_isTrue_Compare1 ((ha true).go .refl I (av ..) nb fun z1 x u y1 x1 I1 r1 e1=>Constant_none (isnot_none_gen (by rw [iF I1 r1.rb];exact (cz _).tru x1 I1 e1 nb))) h1
theorem uG (ha:LE X ea a):LE X (.UnaryOp .USub ea pos) (.neg a):=fun br z I nb=>
 UnaryOp_ ((ha true).go .refl I rfl nb fun z1 x u y1 x1 I1 r1 e1=>by
  cases x with
  | int i=>obtain ⟨t,rfl⟩:=(r1.rb.cr0 I1:CR X.W z1 (.int i) u);exact neg_int ((Dn.tok fun _ _ _=>⟨_,rfl⟩:Dn X z1 (.int (-i)) _ _).at x1 I1 e1)
  | _=>exact absurd e1 nb)
theorem uI (ha:LE X ea a):LE X (.UnaryOp .Not ea pos) (.not a):=fun br z I nb=>
 UnaryOp_ ((ha true).go .refl I rfl nb fun z1 x u y1 x1 I1 r1 e1=>by
  cases x with
  | bl b=>cases xk r1.rb I1;exact not_of (wpAny_truthy_bool ((cz _).at x1 I1 e1))
  | _=>exact absurd e1 nb)
theorem uw (ha:LE X ea a) (hb:LE X (.BoolOp .And (eb :: r) pos) b):LE X (.BoolOp .And (ea :: eb :: r) pos) (.and a b):=fun br z I nb=>
 BoolOp_and ((ha false).go .refl I rfl nb fun z1 x u y1 x1 I1 r1 e1=>by
  cases x with
  | bl c=>
    cases (show u=Value.bool c from r1.rd)
    refine wpAny_truthy_bool ?_
    cases c with
    | true=>exact wpAny_mono ((hb false).at x1 I1 e1 nb) (fun u s' ⟨z',d,e,q,y,I',r⟩=>⟨z',d,e,q,y,I',.of r.rd⟩) fun _ _ h=>h
    | false=>exact (cz _).at x1 I1 e1
  | _=>exact absurd e1 nb)
theorem wO (ha:LE X ea a) (hb:LE X (.BoolOp .Or (eb :: r) pos) b):LE X (.BoolOp .Or (ea :: eb :: r) pos) (.or a b):=fun br z I nb=>
 BoolOp_or ((ha false).go .refl I rfl nb fun z1 x u y1 x1 I1 r1 e1=>by
  cases x with
  | bl c=>
    cases (show u=Value.bool c from r1.rd)
    refine wpAny_truthy_bool ?_
    cases c with
    | false=>exact wpAny_mono ((hb false).at x1 I1 e1 nb) (fun u s' ⟨z',d,e,q,y,I',r⟩=>⟨z',d,e,q,y,I',.of r.rd⟩) fun _ _ h=>h
    | true=>exact (cz _).at x1 I1 e1
  | _=>exact absurd e1 nb)
theorem tf (h:LW X e c):LT X e c:=h _
theorem rV (ha:LT X ea a):LW X (.BoolOp .And [ea] pos) a:=fun wh z I nb=>isTrue_and (thn (ha z I nb) fun c s1 e=>by
 cases c with
 | true=>exact isTrue_and_nil e
 | false=>exact e)
theorem u9 (ha:LT X ea a):LW X (.BoolOp .Or [ea] pos) a:=fun wh z I nb=>isTrue_or (thn (ha z I nb) fun c s1 e=>by
 cases c with
 | false=>exact isTrue_or_nil e
 | true=>exact e)
theorem RT.pe (x:Ee X z0 z) (I:Rep X z) (e:o = .ok b z.t):Pe X z0 o RT b z.s:=⟨z,b,rfl,e,x,I,rfl⟩
theorem tB (x:Out D) (f:Bool→Sta→Out β):(x.bind toB).bind f=x.bind fun d s=>match d with | .bl b=>f b s | _=>.bad:=by
 cases x with
 | ok d s=>cases d <;> rfl
 | _=>rfl
theorem u8 (ha:LT X ea a) (hb:LW X (.BoolOp .And (eb :: r) pos) b):LW X (.BoolOp .And (ea :: eb :: r) pos) (.tand a b):=fun wh z I nb=>by
 have e:(X.ev true (.tand a b) z.t).bind toB=((X.ev true a z.t).bind toB).bind fun c s=>if c then (X.ev true b s).bind toB else .ok false s:=by
  rw [tB];show Out.bind (Out.bind _ _) _=_;rw [av];congr 1;funext d s
  cases d <;> first | rfl | (rename_i c;cases c <;> rfl)
 refine isTrue_and (ha.go .refl I e nb fun z1 c u y1 x1 I1 r1 e1=>?_)
 cases (show u=c from r1)
 cases c with
 | true=>exact (hb wh).at x1 I1 e1 nb
 | false=>exact RT.pe x1 I1 e1
theorem wU (ha:LT X ea a) (hb:LW X (.BoolOp .Or (eb :: r) pos) b):LW X (.BoolOp .Or (ea :: eb :: r) pos) (.tor a b):=fun wh z I nb=>by
 have e:(X.ev true (.tor a b) z.t).bind toB=((X.ev true a z.t).bind toB).bind fun c s=>if c then .ok true s else (X.ev true b s).bind toB:=by
  rw [tB];show Out.bind (Out.bind _ _) _=_;rw [av];congr 1;funext d s
  cases d <;> first | rfl | (rename_i c;cases c <;> rfl)
 refine isTrue_or (ha.go .refl I e nb fun z1 c u y1 x1 I1 r1 e1=>?_)
 cases (show u=c from r1)
 cases c with
 | false=>exact (hb wh).at x1 I1 e1 nb
 | true=>exact RT.pe x1 I1 e1
theorem u6 (ha:LT X ea a):LT X (.UnaryOp .Not ea pos) (.tnot a):=fun z I nb=>by
 have e:(X.ev true (.tnot a) z.t).bind toB=((X.ev true a z.t).bind toB).bind fun c s=>.ok (!c) s:=by
  rw [tB];show Out.bind (Out.bind _ _) _=_;rw [av];congr 1;funext d s
  cases d <;> rfl
 exact isTrue_not (ha.go .refl I e nb fun z1 c u y1 x1 I1 r1 e1=>by
  cases (show u=c from r1)
  exact RT.pe x1 I1 e1)
theorem uE (hc:LT X ec c) (ha:LE X ea a) (hb:LE X eb b):LE X (.IfExp ec ea eb pos) (.ite c a b):=fun br z I nb=>by
 have e:X.ev br (.ite c a b) z.t=((X.ev true c z.t).bind toB).bind fun c s=>if c then X.ev false a s else X.ev false b s:=by
  rw [tB];show Out.bind _ _=_;congr 1;funext d s
  cases d <;> first | rfl | (rename_i c;cases c <;> rfl)
 refine wpAny_IfExp (hc.go .refl I e nb fun z1 c u y1 x1 I1 r1 e1=>?_)
 cases (show u=c from r1)
 cases c with
 | true=>exact wpAny_mono ((ha false).at x1 I1 e1 nb) (fun u s' ⟨z',d,e,q,y,I',r⟩=>⟨z',d,e,q,y,I',.of r.rd⟩) fun _ _ h=>h
 | false=>exact wpAny_mono ((hb false).at x1 I1 e1 nb) (fun u s' ⟨z',d,e,q,y,I',r⟩=>⟨z',d,e,q,y,I',.of r.rd⟩) fun _ _ h=>h
theorem xz {d:D} {u:Value} (I:Rep X z) (h:CR X.W z d u) (e:sD d=some b):wpAny X.M X.A (truthy u) (fun c s'=>c=b∧Gr z.s s') NoE z.s:=by
 have hl:=iw
 cases d with
 | non=>cases e;cases (show u=_ from h);exact truthy_none ⟨rfl,.refl⟩
 | bl c=>cases e;cases (show u=_ from h);exact wpAny_truthy_bool ⟨rfl,.refl⟩
 | int i=>cases e;obtain ⟨t,rfl⟩:=h;exact PySem.P.truthy_int ⟨rfl,.refl⟩
 | tup l=>
   cases e;obtain ⟨a,o,vs,rfl,e1,t,r⟩:=h;have:=t.2.2
   refine truthy_tuple (tpt (I.gh _ _ e1) t) (by rw [List.size_toArray];omega) ⟨?_,.tok⟩
   have:=r.len;cases l <;> cases vs <;> first | rfl | cases this
 | lst l=>
   cases e;obtain ⟨a,o,vs,rfl,e1,t,r⟩:=h;have:=t.2
   refine wpAny_truthy_list (lsl e1 t) (by rw [List.size_toArray];omega) ⟨?_,.tok⟩
   have:=r.len;cases l <;> cases vs <;> first | rfl | cases this
 | _=>cases e
theorem wT (ha:LE X ea a) (he:∀ whole,isTrue ea X.env whole=(do let v ← whole;standAt ea.pos;holding [v] (truthy v))):LT X ea (.tv a):=fun z I nb=>
 isTrue_plain ((ha true).go .refl I (av ..) nb fun z1 x u y1 x1 I1 r1 e1=>by
  cases q:sD (look z1.t.st x) with
  | none=>rw [q] at e1;exact absurd e1 nb
  | some b=>
    rw [q] at e1
    refine wpAny_mono (xz I1 (r1.rb.cr I1) q) (fun c s' ⟨h,g⟩=>?_) fun _ _ z=>z.elim
    subst h
    exact ⟨z1.up s',c,rfl,e1,x1.trans (bH I1.gh g).ee,I1.grow (bH I1.gh g),rfl⟩) (he _)
theorem o4 {o p:Op} (ho:Op2 X (compareOp op) (opD o)) (hp:Op2 X (compareOp op') (opD p)) (ha:LE X ea a) (hb:LE X eb b) (hc:LE X ec c) (hm:lastMarks [op,op'] [eb,ec]=false):LE X (.Compare ea [op,op'] [eb,ec] pos) (.chain o p a b c):=fun br z I nb=>
 Compare_chain ((ha true).go .refl I rfl nb fun z1 x u y1 x1 I1 r1 e1=>chain_link ((hb true).go x1 I1 e1 nb fun z2 y v y2 x2 I2 r2 e2=>by
  cases q:opD o (look z2.t.st x) (look z2.t.st y) with
  | none=>rw [q] at e2;exact absurd e2 nb
  | some d=>
    rw [q] at e2
    refine wpAny_mono (ho z2 u v _ _ d I2 ((r1.rb.st y2 I2).cr I2) (r2.rb.cr I2) q) (fun w s' k=>?_) fun _ _ z=>z.elim
    cases d with
    | bl t=>
      cases (show w=Value.bool t from k.2)
      have g:=bH I2.gh k.1
      refine wpAny_truthy_bool ?_
      cases t with
      | false=>exact ite_ff (k.at x2 I2 e2)
      | true=>exact ite_tt (chain_last ((hc true).go (x2.trans g.ee) (I2.grow g) e2 nb fun z4 w' v' y4 x4 I4 r4 e4=>cm x4 I4 e4 nb fun d q=>hp z4 v v' _ _ d I4 (((r2.rb.st g.ee (I2.grow g)).st y4 I4).cr I4) (r4.rb.cr I4) q))
    | _=>exact absurd e2 nb)) hm
end
section
variable {X:Cx} {z z0 z1:Z} {br:Bool}
def gZ (b:Expr):Prop:=∀ o i,subscripted b false o i=operate [o,i] (getItem o i)
theorem wL (ha:LE X ea a) (hb:LE X eb b) (hs:gZ eb):LE X (.Subscript ea eb pos) (.ix a b):=fun br z I nb=>
 Subscript_ ((ha true).go .refl I rfl nb fun z1 x u y1 x1 I1 r1 e1=>(hb true).go x1 I1 e1 nb fun z2 y v y2 x2 I2 r2 e2=>cm x2 I2 e2 nb fun d q=>by
  obtain ⟨T,id,h1,h2,h3⟩:=yd I2 ((r1.rb.st y2 I2).cr I2) (r2.rb.cr0 I2) q
  exact tail_any h2 h1 h3 (hs _ _))
def Cx.prt (X:Cx) (c:E) (s:Sta):Out (Option Int):=if bc c then .ok none s else (X.ev true c s).bind toI
def LO (X:Cx) (e:Option Expr) (c:E):Prop:=Jg X (evalPart e X.env) (X.prt c) fun _ o u=>IsPart u o
theorem rG:LO X none .nil:=fun z I nb=>by rw [evalPart_none];exact wpAny_pure ⟨z,none,rfl,rfl,.refl,I,.none⟩
theorem lQ (n:bc a=false) (ha:LE X ea a):LO X (some ea) a:=fun z I nb=>by
 rw [evalPart_some]
 have e:X.prt a z.t=(X.ev true a z.t).bind toI:=by unfold Cx.prt;rw [n];rfl
 refine (ha true).go .refl I e nb fun z1 x u y1 x1 I1 r1 e1=>?_
 cases x with
 | int i=>obtain ⟨t,rfl⟩:=(r1.rb.cr0 I1:CR X.W z1 (.int i) u);exact ⟨z1,some i,rfl,e1,x1,I1,.int i t⟩
 | _=>exact absurd e1 nb
theorem CR.grow {s':Shared} (g:Grw z G' s'):∀ {d},CR W z d u→CR W { z with G:=G',s:=s' } d u
 | .lst _,⟨a,o,vs,e,q,t,r⟩=>⟨a,o,vs,e,g.gr.k _ _ q,t,r.mono (List.prefix_refl _) g.gg⟩
 | .dic _ _,⟨a,o,vs,e,m,q,t,l,r⟩=>⟨a,o,vs,e,m,g.gr.k _ _ q,t,l,r.mono (List.prefix_refl _) g.gg⟩
 | .non,h=>h
 | .bl _,h=>h
 | .int _,h=>h
 | .str _,h=>h
 | .tup _,h=>RD.mono (List.prefix_refl _) g.gg h
 | .ins _ _,h=>RD.mono (List.prefix_refl _) g.gg h
 | .ref _,h=>RD.mono (List.prefix_refl _) g.gg h
theorem wP {lo hi:Option Expr} {pos p2:Pos} (ha:LE X ea a) (hl:LO X lo l) (hh:LO X hi h):LE X (.Subscript ea (.Slice lo hi none p2) pos) (.sl a l h):=fun br z I nb=>
 Subscript_ ((ha true).go (f:=fun x s=>(X.prt l s).bind fun l s=>(X.prt h s).bind fun h s=>.of s (slO (look s.st x) l h)) .refl I rfl nb fun z1 x u y1 x1 I1 r1 e1=>wpAny_Slice (hl.go x1 I1 e1 nb fun z2 lo' vl y2 x2 I2 r2 e2=>hh.go x2 I2 e2 nb fun z3 hi' vu y3 x3 I3 r3 e3=>by
  rw [evalPart_none]
  refine wpAny_pure ?_
  have g:=ak (s':={ z3.s with heap:=z3.s.heap.push { cls:=.type "slice",data:=.fields #[vl,vu,.none] } }) I3.gh (.push (t:=z3.s.toks))
  have I4:=I3.grow g
  show wpAny X.M X.A (subscriptTail ea (.Slice lo hi none p2) u (.ref z3.s.heap.objs.size)) _ _ { z3.s with heap:=z3.s.heap.push { cls:=.type "slice",data:=.fields #[vl,vu,.none] } }
  refine cm (z:={ z3 with s:=_ }) (x3.trans g.ee) I4 e3 nb fun d q=>?_
  obtain ⟨T,id,h1,h2,h3⟩:=yo I4 ((((r1.rb.st y2 I2).st y3 I3).cr I3).grow g) (Heap.IsSliceOf.new ..) r2 r3 q
  exact tail_any (ops:=[.ref z3.s.heap.objs.size,u]) h2 h1 h3 (by with_unfolding_all rfl)))
theorem RVs.rds:∀ {c ds us},RVs W false c z ds us→RDs W z.ρ z.G ds us
 | .cons _ _,_ :: _,_ :: _,h=>.cons h.1.rd (RVs.rds h.2)
 | .nil,[],[],_=>rfl
theorem ur:LA X [] .nil:=fun br pos z I nb=>Calls.spliced_nil ⟨z,[],rfl,rfl,.refl,I,trivial⟩
theorem qZ (ha:LE X ea a) (hr:LA X er r) (hs:starEach (ea :: er) X.env=(false,eval ea X.env) :: starEach er X.env):LA X (ea :: er) (.cons a r):=fun br pos z I nb=>by
 rw [hs]
 show wpAny _ _ (spliced ((false,eval ea X.env) :: backTo pos (starEach er X.env))) _ _ _
 exact Calls.spliced_cons ((ha br).go .refl I rfl nb fun z1 x u y1 x1 I1 r1 e1=>(hr br pos).go x1 I1 e1 nb fun z2 l us y2 x2 I2 r2 e2=>⟨z2,x :: l,rfl,e2,x2,I2,r1.st y2 I2,r2⟩)
theorem o9 (h:LA X es c):LE X (.Tuple es x1 pos) (.tup c):=fun br z I nb=>
 wpAny_Tuple_spliced ((h false pos).go (f:=fun l s=>if l.length≤100000 then Out.ok (D.tup l) s else .bad) .refl I rfl nb fun z1 l us y1 x1 I1 r1 e1=>by
  by_cases c:l.length≤100000
  ·rw [if_pos c] at e1
   have hz:us.length≤sizeLine:=by rw [← r1.rds.len];exact big c
   exact ⟨hz,Dn.at x1 I1 e1 (.tupn (t:=z1.s.toks) I1 r1.rds hz)⟩
  ·rw [if_neg c] at e1;exact absurd e1 nb)
theorem FV.less (x:Ee X z0 z1) (h:FV X z1 z d u):FV X z0 z d u:=let ⟨a,o,e,n,r⟩:=h;⟨a,o,e,x.st.no n,r⟩
theorem uP (h:LA X es c):LF X (.List es pos) (.lst c):=fun z I nb=>
 wpAny_List_spliced ((h false pos).go (f:=fun l s=>if l.length≤100000 then Out.ok (D.lst l) s else .bad) .refl I rfl nb fun z1 l us y1 x1 I1 r1 e1=>by
  by_cases c:l.length≤100000
  ·rw [if_pos c] at e1
   have hz:us.length≤sizeLine:=by rw [← r1.rds.len];exact big c
   obtain ⟨z2,d,q,q2,y,I2,fv⟩:=(Dw.lstn (X:=X) (t:=z1.s.toks) (n:=0) r1.rds hz).pe I1
   exact ⟨hz,z2,d,q,e1.trans q2,x1.trans y,I2,fv.less x1⟩
  ·rw [if_neg c] at e1;exact absurd e1 nb)
theorem FV.rd (x:Ee X z0 z) (I:Rep X z) (h:FV X z0 z d u) (e:o = .ok d z.t):Pe X z0 o (RV X.W br c) u z.s:=by
 obtain ⟨a,ob,rfl,n,t,r,f,no⟩:=h
 obtain ⟨oa,ha⟩:=r.th.1
 have gg:Sub z.G fun b=>if b=a then some oa else z.G b:=fun b o q=>by
  dsimp only
  by_cases c:b=a
  ·subst c;rw [f.1] at q;cases q
  ·rw [if_neg c];exact q
 refine ⟨{ z with G:=fun b=>if b=a then some oa else z.G b },d,rfl,e,⟨⟨x.st.pr,x.st.gg.trans gg,fun b o q=>?_,x.st.rn,x.st.th,x.st.sm,x.st.sl⟩,x.sg,x.en,x.ow⟩,I.grw rfl I.br (fun _ _ e _=>e) (fun _ o e=>⟨o.slots,e⟩) gg (fun b o q=>?_) fun b o q=>?_,.of (iH t r gg (by dsimp only;rw [if_pos rfl];exact ha.symm))⟩
 ·by_cases c:b=a
  ·subst c;exact .inr (.inl n)
  ·have q:(if b=a then some oa else z.G b)=some o:=q
   rw [if_neg c] at q;exact x.st.gn b o q
 ·have q:(if b=a then some oa else z.G b)=some o:=q
  by_cases c:b=a
  ·subst c;rw [if_pos rfl] at q;cases q;exact ha
  ·rw [if_neg c] at q;exact I.gh b o q
 ·have q:(if b=a then some oa else z.G b)=some o:=q
  by_cases c:b=a
  ·subst c;exact .inr ⟨f,no⟩
  ·rw [if_neg c] at q;exact .inl q
theorem LF.le (h:LF X e c) (hb:∀ br,X.ev br c=X.ev false c):LE X e c:=fun br z I nb=>by
 rw [hb] at nb ⊢
 exact wpAny_mono (h z I nb) (fun u s' ⟨z',d,q,e,x,I',f⟩=>by subst q;exact f.rd x I' e) fun _ _ h=>h
theorem rC:LF X (.Dict [] [] pos) (.dic .nil):=fun z I nb=>wpAny_Dict_empty (Dw.pe I ⟨.push (t:=z.s.toks),_,.dic [] [],rfl,aA z,rfl,_,[],rfl,beq_eq_false_iff_ne.mpr (Nat.ne_of_gt I.sysm),Heap.get?_push_size _ rfl,by
 obtain ⟨o,es,ep,h1,h2,h3,h4,h5,h6⟩:=Heap.DictOf.new (knd:=aI X.W.P X.W.w) z.s.heap
 rw [Heap.get?_push_size _ rfl] at h1
 cases h1
 exact ⟨es,ep,h2,h3,h4,h5,h6,Nat.zero_le _⟩,rfl,rfl⟩)
theorem ev1 (f:List D→Sta→Out β):(X.evs br (.cons a .nil) t).bind f=(X.ev br a t).bind fun x s=>f [x] s:=by
 show ((X.ev br a t).bind fun x s=>Out.ok [x] s).bind f=_
 rw [av];rfl
theorem ev2 (f:List D→Sta→Out β):(X.evs br (.cons a (.cons b .nil)) t).bind f=(X.ev br a t).bind fun x s=>(X.ev br b s).bind fun y s=>f [x,y] s:=by
 show ((X.ev br a t).bind fun x s=>((X.ev br b s).bind fun y s=>Out.ok [y] s).bind fun l s=>Out.ok (x :: l) s).bind f=_
 rw [av];congr 1;funext x s;rw [av,av];rfl
def Blt (X:Cx) (x:Str) (u:Value):Prop:=Gl X x∧X.mg x=none∧bootBuiltins x=some u∧x≠"__name__"∧(x == ("__debug__":Str))=false
theorem Blt.ld {Q:Value→Shared→Prop} {E:Value→Shared→Prop} (h:Blt X x u) (I:Rep X z) (q:Q u z.s):wpAny X.M X.A (eval (.Name x pos) X.env) Q E z.s:=uv I h.1 h.2.1 h.2.2.1 q h.2.2.2.1 h.2.2.2.2
theorem bg {f:Value} {Q:Value→Shared→Prop} {E:Value→Shared→Prop} (hf:(∃ id,f = .builtin id)∨∃ T,f = .type T) (hx:Blt X x f) (he:starEach (e :: er) X.env=(false,eval e X.env) :: starEach er X.env) (hpl:(backTo pos (starEach er X.env)).any (·.1)=false) (I:Rep X z)
 (h:wpAny X.M X.A (spliced ((false,eval e X.env) :: backTo pos (starEach er X.env))) (fun us s'=>wpAny X.M X.A (call f us) Q E s') E z.s):wpAny X.M X.A (eval (.Call (.Name x p) (e :: er) [] pos) X.env) Q E z.s:=by
 refine wpAny_Call_Name_kw (hx.ld I ?_)
 have h:wpAny X.M X.A (spliced (backTo pos (starEach (e :: er) X.env))) (fun us s'=>wpAny X.M X.A (call f us) Q E s') E z.s:=by rw [he];exact h
 rcases hf with ⟨id,rfl⟩ | ⟨T,rfl⟩
 ·exact callWith_builtin1 h he hpl
 ·exact callWith_type1 h he hpl
abbrev FB (f:Value):Prop:=(∃ id,f = .builtin id)∨∃ T,f = .type T
theorem uy {f:Value} (hb:Bi1 X f b) (hf:FB f) (hx:Blt X x f) (ha:LE X ea a) (he:starEach [ea] X.env=(false,eval ea X.env) :: starEach [] X.env):LE X (.Call (.Name x p) [ea] [] pos) (.bi b (.cons a .nil)):=fun br z I nb=>
 bg hf hx he rfl I (Calls.spliced_cons ((ha true).go .refl I (ev1 fun l s=>Out.of s (biD b (l.map (look s.st)))) nb fun z1 x u y1 x1 I1 r1 e1=>Calls.spliced_nil (cm x1 I1 e1 nb fun d q=>hb z1 _ _ d I1 (r1.rb.cr I1) q)))
theorem uN {f:Value} (hb:qo X f b) (hf:FB f) (hx:Blt X x f) (ha:LE X ea a) (he:starEach [ea] X.env=(false,eval ea X.env) :: starEach [] X.env):LF X (.Call (.Name x p) [ea] [] pos) (.bi b (.cons a .nil)):=fun z I nb=>
 bg hf hx he rfl I (Calls.spliced_cons ((ha true).go .refl I (ev1 fun l s=>Out.of s (biD b (l.map (look s.st)))) nb fun z1 x u y1 x1 I1 r1 e1=>Calls.spliced_nil (by
  cases q:fZ b (look z1.t.st x) with
  | none=>exact absurd (e1.trans (show Out.of z1.t (fZ b (look z1.t.st x)) = .bad by rw [q];rfl)) nb
  | some d=>
    refine wpAny_mono (hb z1 _ _ d I1 (r1.rb.cr I1) q) (fun v s' k=>?_) fun _ _ z=>z.elim
    obtain ⟨z2,d,q1,q2,y,I2,fv⟩:=k.pe I1
    exact ⟨z2,d,q1,(e1.trans (show Out.of z1.t (fZ b (look z1.t.st x))=_ by rw [q];rfl)).trans q2,x1.trans y,I2,fv.less x1⟩)))
theorem uz {f:Value} (hb:Bi2 X f b) (hf:FB f) (hx:Blt X x f) (ha:LE X ea a) (hc:LE X ec c) (he:starEach [ea,ec] X.env=(false,eval ea X.env) :: starEach [ec] X.env) (he2:starEach [ec] X.env=(false,eval ec X.env) :: starEach [] X.env):LE X (.Call (.Name x p) [ea,ec] [] pos) (.bi b (.cons a (.cons c .nil))):=fun br z I nb=>
 bg hf hx he (by rw [he2];rfl) I (by
  rw [he2]
  exact Calls.spliced_cons ((ha true).go .refl I (ev2 fun l s=>Out.of s (biD b (l.map (look s.st)))) nb fun z1 x u y1 x1 I1 r1 e1=>Calls.spliced_cons ((hc true).go x1 I1 e1 nb fun z2 y v y2 x2 I2 r2 e2=>Calls.spliced_nil (cm x2 I2 e2 nb fun d q=>hb z2 _ _ _ _ d I2 ((r1.rb.st y2 I2).cr I2) (r2.rb.cr I2) q))))
theorem wK (hb:b = .isTup∨b = .isStr∨b = .isBool∨b = .isInt∨b = .isLst∨b = .isDic) (hx:Blt X "isinstance" (.builtin "isinstance")) (ht:Blt X x (.type (tyN b))) (ha:LE X ea a) (he:starEach [ea,.Name x q] X.env=(false,eval ea X.env) :: starEach [.Name x q] X.env):LE X (.Call (.Name "isinstance" p) [ea,.Name x q] [] pos) (.bi b (.cons a .nil)):=fun br z I nb=>
 bg (.inl ⟨_,rfl⟩) hx he rfl I (Calls.spliced_cons ((ha true).go .refl I (ev1 fun l s=>Out.of s (biD b (l.map (look s.st)))) nb fun z1 x u y1 x1 I1 r1 e1=>Calls.spliced_cons (ht.ld I1 (Calls.spliced_nil (cm x1 I1 e1 nb fun d q=>vW hb I1 (r1.rb.cr I1) q)))))
structure dR (K:Fg) (C:Addr):Prop where
 ga:PySem.W.findIn K (.ref C) "__getattribute__" = some (some (.builtin "BaseException.__getattribute__"))
 gn:PySem.W.findIn K (.ref C) "__getattr__" = some none
 cl:PySem.W.findIn K (.ref C) "__class__" = some (some (.builtin "object.__class__"))
 sg:PySem.W.specialIn K (.builtin "object.__class__") "__get__" = some (some (.builtin "getset_descriptor.__get__"))
 tk:PySem.W.takesIn K (.builtin "object.__class__")=some true
 ob:PySem.W.mroIn K C (.type "object")=some true
 be:PySem.W.mroIn K C (.type "BaseException")=some true
 is:(PySem.W.clsIn K C).isSome=true
structure di (X:Cx) (an:Nat→Str) (c:Nat) (k:Cl) (i:CI):Prop where
 ci:X.W.ci[c]? = some i
 cls:k.what≠2→Cls X.K i.ad
 na:∀ f∈i.nm,b8 X.K i.ad f
 wh:X.W.what[c]? = some k.what
 nm:i.nm=k.at_.map an
 nd:i.nm.Nodup
 xc:k.what=2→dR X.K i.ad∧PySem.W.hasDictIn X.K i.ad=true
theorem qk {names:List Str} {vs:List Value} {f:Str} {v:Value} (hn:names.Nodup) {j:Nat} (h1:names[j]? = some f) (h2:vs[j]? = some v):(names.zip vs).lookup f=some v:=by
 induction names generalizing vs j with
 | nil=>simp at h1
 | cons n r ih=>
   cases vs with
   | nil=>simp at h2
   | cons w vs=>
     show (match f == n with | true=>some w | false=>(r.zip vs).lookup f)=some v
     cases j with
     | zero=>simp at h1 h2;subst h1 h2;simp
     | succ j=>
       have h3:r[j]? = some f:=by simpa using h1
       have ne:f≠n:=fun z=>by subst z;exact (List.nodup_cons.mp hn).1 (List.mem_of_getElem? h3)
       rw [show (f == n)=false by simpa using ne]
       exact ih (List.nodup_cons.mp hn).2 h3 (by simpa using h2)
theorem InO.objm {s:Shared} (h:InO s.heap.get? a dx C l):j8 s.heap a dx C fun n=>l.lookup n:=let ⟨e,n,_,o,e2,es,ep,r⟩:=h;⟨e,⟨o,es,ep,e2,r⟩,n⟩
theorem gV:∀ {d v},RD W ρ G d v→PySem.W.handedIn v=true
 | .non,_,h=>by cases (show _=_ from h);rfl
 | .bl _,_,h=>by cases (show _=_ from h);rfl
 | .int _,_,⟨_,h⟩=>h ▸ rfl
 | .str _,_,⟨_,h⟩=>h ▸ rfl
 | .tup _,_,⟨_,_,_,h,_⟩=>h ▸ rfl
 | .lst _,_,⟨_,_,_,h,_⟩=>h ▸ rfl
 | .dic _ _,_,⟨_,_,_,h,_⟩=>h ▸ rfl
 | .ins _ _,_,⟨_,_,_,h,_⟩=>h ▸ rfl
 | .ref _,_,⟨_,_,h⟩=>h ▸ rfl
abbrev bY (X:Cx) (an:Nat→Str):Prop:=∀ (c:Nat) (k:Cl),X.Γ.cl[c]? = some k→∃ i,di X an c k i
theorem jd (T:bY X an) {c f:Nat} {l:List D} {d2:D} (e:((X.Γ.cl[c]?).bind fun k=>l[k.at_.idxOf f]?)=some d2):∃ k i,∃ j:Nat,X.Γ.cl[c]? = some k∧di X an c k i∧l[j]? = some d2∧(l.length≤i.nm.length→i.nm[j]? = some (an f)):=by
 obtain ⟨k,q,e⟩:=Option.bind_eq_some_iff.mp e
 obtain ⟨i,ok⟩:=T c k q
 refine ⟨k,i,k.at_.idxOf f,q,ok,e,fun hl=>?_⟩
 have h1:k.at_.idxOf f<l.length:=(List.getElem?_eq_some_iff.mp e).1
 have h2:k.at_.idxOf f<k.at_.length:=by rw [ok.nm,List.length_map] at hl;omega
 rw [ok.nm,List.getElem?_map,List.getElem?_eq_getElem h2]
 simp
theorem oJ (T:bY X an) (I:Rep X z) {n f:Nat} {d:D} {p:Addr×Addr} (ea:z.ρ[n]? = some p) (e:ko X.Γ z.t.st (.ref n) f=some d):∃ C fs v,InO z.h p.1 p.2 C fs∧Cls X.K C∧b8 X.K C (an f)∧fs.lookup (an f)=some v∧RD X.W z.ρ z.G d v:=by
 unfold ko at e
 dsimp only at e
 cases q:z.t.st[n]? with
 | none=>rw [q] at e;cases e
 | some o=>
   rw [q] at e
   cases o with
   | ins c l=>
     dsimp only at e
     obtain ⟨k,i',j,e1,ok,e2,e3⟩:=jd T e
     obtain ⟨i,vs,w1,w2,w3,w4,w5⟩:=I.ob n _ p q ea
     have e4:=ok.ci
     rw [w1] at e4;cases e4
     obtain ⟨v,ev,rv⟩:=w5.get e2
     have wz:k.what≠2:=by have:=ok.wh;rw [w2] at this;have e:=Option.some.inj this;omega
     exact ⟨i'.ad,_,v,w4,ok.cls wz,ok.na _ (List.mem_of_getElem? (e3 w3)),qk ok.nd (e3 w3) ev,rv⟩
   | _=>cases e
theorem ky {Q:Value→Shared→Prop} {E:Value→Shared→Prop} {A:Around} (I:Rep X z) (h:InO z.h a dx C fs) (c:Cls X.K C) (n:b8 X.K C f) (l:fs.lookup f=some v) (r:RD X.W z.ρ z.G d v) (q:Q v { z.s with toks:=z.s.toks+1 }):wpAny X.M A (getAttr (.ref a) f b) Q E z.s:=
 du I.toHR.kin (InO.objm h) (c.get f) c.hd n l (gV r) q
theorem uB (T:bY X an) (xr:∀ {z:Z} {a C:Addr} {l:List (Str×Value)} {f:Str} {v:Value} {Q:Value→Shared→Prop} {b:Bool},Rep X z→ExO z.h a C l→l≠[]→dR X.K C→PySem.W.hasDictIn X.K C=true→PySem.W.findIn X.K (.ref C) f=some none→l.lookup f=some v→PySem.W.handedIn v=true→Q v { z.s with toks:=z.s.toks+1 }→wpAny X.M X.A (getAttr (.ref a) f b) Q NoE z.s)
 (ha:LE X ea a) (hb:attributeBase ea (an f) X.env (eval ea X.env)=eval ea X.env):LE X (.Attribute ea (an f) pos) (.fld a f):=fun br z I nb=>
 qy hb ((ha true).go .refl I rfl nb fun z1 x u y1 x1 I1 r1 e1=>cm x1 I1 e1 nb fun d q=>by
  have cr:=r1.rb.cr0 I1
  cases x with
  | ins c l=>
    obtain ⟨a,i,vs,rfl,hc,hl,w,rs⟩:=(cr:RD X.W z1.ρ z1.G (.ins c l) u)
    obtain ⟨k,i',j,e1,ok,e2,e3⟩:=jd T (show ((X.Γ.cl[c]?).bind fun k=>l[k.at_.idxOf f]?)=some d from q)
    have e4:=ok.ci
    rw [hc] at e4;cases e4
    obtain ⟨v,ev,rv⟩:=rs.get e2
    have lk:=qk ok.nd (e3 hl) ev
    have mem:an f∈i.nm:=List.mem_of_getElem? (e3 hl)
    rcases w with ⟨w1,dx,ga⟩ | ⟨w2,w⟩
    ·have w3:k.what≠2:=by have:=ok.wh;rw [w1] at this;have e:=Option.some.inj this;omega
     exact ky I1 (ga.sub I1.gh) (ok.cls w3) (ok.na _ mem) lk rv (.old I1 .tok rv)
    ·have w3:k.what=2:=by have:=ok.wh;rw [w2] at this;exact (Option.some.inj this).symm
     exact xr I1 (w.sub I1.gh) (fun z=>by rw [z] at lk;cases lk) (ok.xc w3).1 (ok.xc w3).2 (ok.na _ mem) lk (gV rv) (.old I1 .tok rv)
  | ref n=>
    obtain ⟨p,ep,rfl⟩:=(cr:RD X.W z1.ρ z1.G (.ref n) u)
    obtain ⟨C,fs,v,h1,h2,h3,h4,h5⟩:=oJ T I1 ep q
    exact ky I1 h1 h2 h3 h4 h5 (.old I1 .tok h5)
  | _=>cases q)
end
abbrev NoW:Addr→Prop:=fun _=>False
def XC (X:Cx) (z z':Z) (c:Nat) (l:List D) (e:Value):Prop:=∃ a T cls dx,e = .ref a∧XR X.W z' c l cls dx∧Tr z'.s.heap a cls dx T .none∧(z.h a=none∧z'.G a=none∧¬ Mu z'.ρ a)∧z.h T=none∧z'.G T=none∧¬ Mu z'.ρ T
def CRs (X:Cx) (z:Z) (r:Res) (q:Result) (s':Shared):Prop:=match q with
 | .ok (.ret u)=>∃ z' d,z'.s=s'∧r = .ok d z'.t.st∧Stp X.fr NoW z z'∧HR X z'∧RD X.W z'.ρ z'.G d u
 | .error e=>∃ z' c l,z'.s=s'∧r = .exc c l z'.t.st∧Stp X.fr NoW z z'∧HR X z'∧XC X z z' c l e
 | _=>False
structure FnC (X:Cx) (cal:Nat→List D→List O→Res) (lv j:Nat) (f:Addr) (fd:FuncData) (ps:List Str):Prop where
 len:∀ ds st,cal j ds st≠.bad→ds.length=ps.length
 run:∀ (A:Around) (fr:List Env) (z:Z) (args:Args) (us:List Value) (ds:List D),aX lv A→HR { X with A:=A,fr:=fr } z→BindsTo z.s fd args (ps.zip us)→RDs X.W z.ρ z.G ds us→cal j ds z.t.st≠.bad →
  codeAny X.M A (.call (.ref f) args) (CRs { X with A:=A,fr:=fr } z (cal j ds z.t.st)) z.s
def bK (X:Cx) (cal:Nat→List D→List O→Res) (lv j:Nat) (f:Addr):Prop:=∃ fd ps,FnC X cal lv j f fd ps∧bI X.K fd ps []∧PySem.W.keepIn X.K (.ref f)=true
mutual
theorem mc {G G':Hp} (k:∀ a o,G a=some o→(∀ l,¬ LsO o l)→G' a=some o):∀ {d:D} {v},noL d=true→RD W ρ G d v→RD W ρ G' d v
 | .non,_,_,e=>e
 | .bl _,_,_,e=>e
 | .int _,_,_,e=>e
 | .str _,_,_,e=>e
 | .ref _,_,_,e=>e
 | .tup _,_,n,⟨a,o,vs,e,t,q,r⟩=>⟨a,o,vs,e,k _ _ t fun l ⟨⟨_,z⟩,_⟩=>by have:=q.1;rw [z] at this;exact absurd this (show Value.type "list"≠.type "tuple" by decide),q,cq k n r⟩
 | .dic _ _,_,n,⟨a,o,vs,e,m,t,q,l,r⟩=>⟨a,o,vs,e,m,k _ _ t fun l ⟨⟨_,z⟩,_⟩=>by obtain ⟨_,_,x,_⟩:=q;have:=x.1;rw [z] at this;exact absurd this (show Value.type "list"≠.type "dict" by decide),q,l,cq k n r⟩
 | .ins _ _,_,n,⟨a,i,vs,e,hc,l,t,r⟩=>⟨a,i,vs,e,hc,l,t.elim (fun ⟨w,dx,q1,q2,q3,o,q4,q5⟩=>.inl ⟨w,dx,k _ _ q1 (fun l ⟨⟨_,z⟩,_⟩=>by injection z with z;cases z),q2,q3,o,k _ _ q4 (pL q5),q5⟩) (fun ⟨w,o,vs,q1,q2,q3,q4⟩=>.inr ⟨w,o,vs,k _ _ q1 (fun l ⟨⟨_,z⟩,_⟩=>by rw [z] at q3;cases q3),q2,q3,q4.elim .inl fun ⟨d,od,p1,p2,p3⟩=>.inr ⟨d,od,p1,k _ _ p2 (pL p3),p3⟩⟩),cq k n r⟩
 | .lst _,_,n,_=>by cases n
theorem cq {G G':Hp} (k:∀ a o,G a=some o→(∀ l,¬ LsO o l)→G' a=some o):∀ {ds:List D} {vs},jG ds=true→RDs W ρ G ds vs→RDs W ρ G' ds vs
 | [],_,_,e=>e
 | _ :: _,_,n,⟨v,r,e,t,q⟩=>by
   have n:(noL _ && jG _)=true:=n
   rw [Bool.and_eq_true] at n
   exact ⟨v,r,e,mc k n.1 t,cq k n.2 q⟩
theorem pL (h:NsO o m):∀ l,¬ LsO o l:=fun l ⟨⟨_,z⟩,_⟩=>by obtain ⟨_,_,q,_⟩:=h;rw [z] at q;cases q
end
section
variable {X:Cx} {z z':Z} {br:Bool}
theorem Stp.slots (S:Stp fr NoW z z') (n:¬ Mu z.ρ a) (e:z.h a=some o):∃ sl,z'.h a=some { o with slots:=sl }:=by
 by_cases f:a∈frs fr
 ·exact S.sl a o e n id f
 ·exact ⟨o.slots,S.sm a o e n id f⟩
open Classical in
theorem Rep.back (I:Rep X z) (p q:Nat→Bool) (S:Stp X.fr NoW (z.rel p) z') (H:HR X z') (pq:∀ i,p i=true→q i=true) (hq:∀ i∈z.t.ow,q i=true→p i=true∨(isLst z.t.env[i]? = true∧z'.t.st.all mY=true)) :
 ∃ zf,zf.s=z'.s∧zf.t=⟨z.t.env,z.t.ow.filter q,z'.t.st⟩∧zf.ρ=z'.ρ∧Rep X zf∧Ee X z zf∧(∀ a,z.h a=none→zf.G a=z'.G a)∧(∀ a o,z'.G a=some o→(∀ l,¬ LsO o l)→zf.G a=some o)∧((∀ i∈z.t.ow,q i=true→p i=true)→Sub z'.G zf.G):=by
 obtain ⟨Ir,xr⟩:=I.rel p
 let Rm:Addr→Prop:=fun a=>∃ i∈z.t.ow,q i=true∧z.σ[i]? = some (some (.ref a))
 have own:∀ {a},Rm a→Own z a:=fun ⟨i,m,_,e⟩=>⟨i,m,e⟩
 let G2:Hp:=fun a=>if Rm a then none else z'.G a
 have yes:∀ {a},Rm a→G2 a=none:=fun h=>if_pos h
 have no:∀ {a},¬ Rm a→G2 a=z'.G a:=fun h=>if_neg h
 have g2s:Sub G2 z'.G:=fun a o e=>by
  by_cases c:Rm a
  ·rw [yes c] at e;cases e
  ·rw [no c] at e;exact e
 have gz:Sub z.G G2:=fun a o e=>by
  by_cases c:Rm a
  ·rw [(I.oth (own c)).1.1] at e;cases e
  ·rw [no c];exact S.gg _ _ (xr.st.gg _ _ e)
 have hold:∀ {i:Nat} {a:Addr},i∈z.t.ow→p i=true→z.σ[i]? = some (some (.ref a))→z'.G a=none:=fun {i a} m pi es=>by
  obtain ⟨f,o',e'⟩:=I.oth ⟨i,m,es⟩
  have n:(z.rel p).G a=none:=(cQ fun ⟨j,mj,pj,ej⟩=>by rw [I.od j i a mj m ej es,pi] at pj;cases pj).trans f.1
  cases w:z'.G a with
  | none=>rfl
  | some o=>
    rcases S.gn a o w with w | w | w
    ·rw [n] at w;cases w
    ·rw [show (z.rel p).h a=z.h a from rfl,e'] at w;cases w
    ·exact w.elim
 have gp:∀ {a o},Rm a→z'.G a=some o→(∃ l,LsO o l)∧z'.t.st.all mY=true∧¬ ∀ i∈z.t.ow,q i=true→p i=true:=fun {a o} ⟨i,m,qi,es⟩ e=>by
  by_cases pi:p i=true
  ·rw [hold m pi es] at e;cases e
  ·obtain ⟨li,al⟩:=(hq i m qi).resolve_left pi
   obtain ⟨d,b,ob,h1,h2,h3,r,f⟩:=I.eo i m
   rw [es] at h2;cases h2
   refine ⟨?_,al,fun w=>pi (w i m qi)⟩
   rw [h1] at li
   cases d with
   | lst ds=>
     cases h3
     obtain ⟨oo,vs,_,e1,l1,_⟩:=r
     have:=S.gg a oo ((eR ⟨i,m,by simpa using pi,es⟩).trans e1)
     rw [e] at this;cases this
     exact ⟨vs,l1⟩
   | _=>cases li
 have kp:∀ a o,z'.G a=some o→(∀ l,¬ LsO o l)→G2 a=some o:=fun a o e n=>by
  by_cases c:Rm a
  ·obtain ⟨⟨l,h⟩,_⟩:=gp c e;exact absurd h (n l)
  ·rw [no c];exact e
 have kq:(∀ i∈z.t.ow,q i=true→p i=true)→Sub z'.G G2:=fun w a o e=>by
  by_cases c:Rm a
  ·exact absurd w (gp c e).2.2
  ·rw [no c];exact e
 have nn:∀ {a},z'.G a=none→G2 a=none:=fun {a} e=>by
  by_cases c:Rm a
  ·exact yes c
  ·rw [no c];exact e
 have rh:∀ {a},(z.rel p).h a=z.h a:=rfl
 have same:∀ a,¬ Mu z.ρ a→∀ o,z.h a=some o→∃ sl,z'.h a=some { o with slots:=sl }:=fun a n o e=>S.slots n e
 have nmu:∀ {a o},z.h a=some o→¬ Mu z.ρ a→¬ Mu z'.ρ a:=fun {a o} e n m=>(S.rn a m).elim n fun w=>by rw [rh,e] at w;cases w
 have nG:∀ {a o},z.h a=some o→(z.rel p).G a=none→z'.G a=none:=fun {a o} e n=>by
  cases w:z'.G a with
  | none=>rfl
  | some o'=>
    rcases S.gn a o' w with w | w | w
    ·rw [n] at w;cases w
    ·rw [rh,e] at w;cases w
    ·exact w.elim
 have ob2:∀ (n:Nat) (o:O) (pp:Addr×Addr),z'.t.st[n]? = some o→z'.ρ[n]? = some pp→ObR X.W z'.ρ G2 z'.h pp o:=fun n o pp h1 h2=>by
  by_cases w:∀ i∈z.t.ow,q i=true→p i=true
  ·exact (H.ob n o pp h1 h2).mono (List.prefix_refl _) (kq w) fun _ _ _ e=>e
  ·by_cases al:z'.t.st.all mY=true
   ·have nl:=List.all_eq_true.mp al o (List.mem_of_getElem? h1)
    cases o with
    | lst l=>cases nl
    | dic ks l=>obtain ⟨o,vs,a1,a2,a3,a4,a5,a6⟩:=H.ob n _ pp h1 h2;exact ⟨o,vs,a1,a2,a3,a4,a5,cq kp nl a6⟩
    | ins c l=>obtain ⟨i,vs,a1,a2,a3,a4,a5⟩:=H.ob n _ pp h1 h2;exact ⟨i,vs,a1,a2,a3,a4,cq kp nl a5⟩
   ·exact absurd (fun i m qi=>(hq i m qi).resolve_right fun v=>al v.2) w
 refine ⟨⟨z'.ρ,G2,⟨z.t.env,z.t.ow.filter q,z'.t.st⟩,z.σ,z'.s⟩,rfl,rfl,rfl,⟨⟨H.md,H.fm,H.hd,fun b o e=>gz _ _ (I.bs b o e),g2s.trans H.gh,H.rl,H.rn,fun a m=>nn (H.rg a m),ob2,H.fu,fun b m=>⟨nn (H.ff b m).1,(H.ff b m).2⟩,H.br,H.os⟩,I.ok,?_,fun x c e=>?_,fun a l=>?_,I.el,I.sl,fun i d n e=>?_,fun i m=>?_,fun i j a m1 m2=>I.od i j a (List.mem_filter.mp m1).1 (List.mem_filter.mp m2).1⟩,⟨⟨S.pr,gz,fun a o e=>?_,S.rn,S.th,fun a o e n w f=>S.sm a o e n id f,fun a o e n w f=>S.sl a o e n id f⟩,rfl,rfl,fun i m=>(List.mem_filter.mp m).1⟩,fun a e=>?_,kp,kq⟩
 ·obtain ⟨m,hn,hl⟩:=I.lo
  have cl:∀ c v,(∃ x,X.env.cells.lookup x=some c)→z.s.heap.IsCell c v→z'.s.heap.IsCell c v:=fun c v ⟨x,ex⟩ ⟨o,e,d⟩=>let ⟨_,w⟩:=same c (I.fl c (.inr ⟨x,ex⟩)).2 o e;⟨_,w,d⟩
  obtain ⟨oL,es,ep,eL,r⟩:=hn
  obtain ⟨sl,w⟩:=same _ (I.fl _ (.inl rfl)).2 oL eL
  exact ⟨m,⟨_,es,ep,w,r⟩,fun i x u h1 h2 h3=>cO (fun c v e q=>cl c v ⟨x,e⟩ q) (hl i x u h1 h2 h3)⟩
 ·obtain ⟨v,o,e1,d⟩:=I.ce x c e
  obtain ⟨sl,w⟩:=same c (I.fl c (.inr ⟨x,e⟩)).2 o e1
  exact ⟨v,_,w,d⟩
 ·obtain ⟨o,e⟩:=I.lth l
  exact ⟨nn (nG e (Ir.fl a l).1),nmu e (I.fl a l).2⟩
 ·by_cases m:i∈z.t.ow
  ·obtain ⟨d',a,o,h1,h2,h3,r,f⟩:=I.eo i m
   rw [show z.t.env[i]? = some (some d) from e] at h1;cases h1
   have qf:¬ q i=true:=fun w=>n (List.mem_filter.mpr ⟨m,w⟩)
   have pf:p i=false:=by cases w:p i with
    | false=>rfl
    | true=>exact absurd (pq i w) qf
   obtain ⟨oa,ea⟩:=r.th.1
   refine ⟨_,h2,iH h3 (r.mono (h':=z.h) S.pr (Sub.refl _) fun _ _ _ e=>e) gz ?_⟩
   have nr:¬ Rm a:=fun ⟨j,mj,qj,ej⟩=>by rw [I.od j i a mj m ej h2] at qj;exact qf qj
   exact (no nr).trans ((S.gg a oa ((eR ⟨i,m,pf,h2⟩).trans ea)).trans ea.symm)
  ·obtain ⟨u,w,r⟩:=I.en i d m e
   exact ⟨u,w,r.mono S.pr gz⟩
 ·obtain ⟨m1,m2⟩:=List.mem_filter.mp m
  obtain ⟨d',a,o,h1,h2,h3,r,f⟩:=I.eo i m1
  obtain ⟨oa,ea⟩:=r.th.1
  refine ⟨d',a,o,h1,h2,h3,r.mono S.pr gz fun b hb o e=>?_,yes ⟨i,m1,m2,h2⟩,nmu ea f.2.1,f.2.2⟩
  have hb:b=a:=hb.elim id id
  subst hb
  exact S.sm b o e f.2.1 id f.2.2.1
 ·rcases S.gn a o (g2s a o e) with w | w | w
  ·by_cases c:iX z p a
   ·obtain ⟨i,m,_,e⟩:=c;exact .inr (.inr ⟨i,m,e⟩)
   ·rw [cQ c] at w;exact .inl w
  ·exact .inr (.inl w)
  ·exact w.elim
 ·exact no fun c=>by obtain ⟨o,w⟩:=(I.oth (own c)).2;rw [e] at w;cases w
theorem eS (I:Rep X (z.rel p)) (gg:Sub z.G (z.rel p).G) (k:∀ i∈bV c,p i=false):∀ {c' ds us},(∀ i∈bV c',i∈bV c)→RVs X.W true c' z ds us→RDs X.W z.ρ (z.rel p).G ds us
 | .cons a r,d :: ds,u :: us,hs,h=>by
   refine .cons ?_ (eS I gg k (c':=r) (fun i m=>hs i (by cases a <;> first | exact List.mem_cons_of_mem _ m | exact m)) h.2)
   rcases h.1 with h | ⟨_,i,rfl,m,e1,e2⟩
   ·exact h.mono (List.prefix_refl _) gg
   ·obtain ⟨u',q,r⟩:=I.en i d (fun w=>by have:=(List.mem_filter.mp w).2;rw [k i (hs i List.mem_cons_self)] at this;cases this) e2
    rw [show z.σ[i]? = some (some u') from q] at e1;cases e1;exact r
 | .nil,[],[],_,_=>rfl
theorem fP {o:Out D} (F:bK X X.cal lv j f) (hr:aX lv X.A) (x:Ee X z0 z) (I:Rep X z) (rd:RDs X.W z.ρ (z.rel fun i=>!(bV es).contains i).G ds us) (e:o=gb X.cal es j ds z.t) (nb:o≠.bad):wpAny X.M X.A (call (.ref f) us) (Pe X z0 o (RV X.W br c)) (Px X z0 o) z.s:=by
 obtain ⟨Ir,xr⟩:=I.rel fun i=>!(bV es).contains i
 obtain ⟨fd,ps,F,hb,kp⟩:=F
 subst e
 have nbc:X.cal j ds z.t.st≠.bad:=fun q=>nb (by unfold gb;rw [q])
 have hl:us.length=ps.length:=rd.len ▸ F.len _ _ nbc
 have bd:=hb z.s us I.toHR.kin (by rw [List.append_nil];exact hl)
 rw [List.append_nil] at bd
 refine wpAny_call (codeAny_mono (F.run X.A X.fr (z.rel fun i=>!(bV es).contains i) ⟨us,[]⟩ us ds hr Ir.toHR bd rd nbc) fun q s' hq=>?_)
 cases q with
 | error e=>
   obtain ⟨z',c,l,rfl,er,S,H,a,T,cls,dx,rfl,xr',tr,⟨na,ga,ma⟩,nT,gT,mT⟩:=hq
   obtain ⟨zf,e1,e2,e3,If,xf,k1,k2,k3⟩:=I.back (fun i=>!(bV es).contains i) _ S H (fun _ h=>h) fun _ _ h=>.inl h
   have nob:∀ {b:Addr},z.h b=none→z'.G b=none→¬ Mu z'.ρ b→Nob X z zf b:=fun {b} n g m=>by
    have ⟨f,no⟩:=I.fre n
    exact ⟨n,⟨(k1 b n).trans g,e3 ▸ m,f.2.2⟩,fun w=>no (xf.own w)⟩
   refine Px.less x ⟨zf,c,l,e1,by unfold gb;rw [show X.cal j ds z.t.st=_ from er,e2];rfl,xf,If,a,cls,dx,rfl,?_,nob na ga ma,.inr ⟨T,.none,e1 ▸ tr,.inl rfl,nob nT gT mT⟩⟩
   obtain ⟨i,a1,a2,a3,a4,a5⟩:=xr'
   refine ⟨i,a1,a2,a3,a4,a5.imp_right fun ⟨d,od,vs,b1,b2,b3,b4⟩=>⟨d,od,vs,b1,k2 _ _ b2 (pL b3),b3,?_⟩⟩
   rw [e3];exact b4.mono (List.prefix_refl _) (k3 fun _ _ h=>h)
 | ok fl=>
   cases fl with
   | ret u=>
     obtain ⟨z',d,rfl,er,S,H,r⟩:=hq
     obtain ⟨zf,e1,e2,e3,If,xf,k1,k2,k3⟩:=I.back (fun i=>!(bV es).contains i) (fun i=>!(bV es).contains i || (isLst z.t.env[i]? && (noL d && z'.t.st.all mY))) S H (fun i h=>by rw [h];rfl) fun i _ h=>by
      cases w:(!(bV es).contains i) with
      | true=>exact .inl rfl
      | false=>rw [w,Bool.false_or,Bool.and_eq_true,Bool.and_eq_true] at h;exact .inr ⟨h.1,h.2.2⟩
     refine Pe.less x ⟨zf,d,e1,by unfold gb;rw [show X.cal j ds z.t.st=_ from er,e2];rfl,xf,If,.of ?_⟩
     rw [e3]
     cases w:noL d with
     | true=>exact mc k2 w r
     | false=>exact r.mono (List.prefix_refl _) (k3 fun i _ h=>by rw [w,Bool.false_and,Bool.and_false,Bool.or_false] at h;exact h)
   | next=>exact hq.elim
   | brk=>exact hq.elim
   | cont=>exact hq.elim
theorem fg {es:E}:∀ i∈bV es,(!(bV es).contains i)=false:=fun i m=>by simpa using m
theorem rj {x:Str} (F:bK X X.cal lv j f) (hr:aX lv X.A) (hg:Gl X x) (hm:X.mg x=some (.ref f)) (ha:LA X (ea :: er) es) (hd:(x == ("__debug__":Str))=false) (he:starEach (ea :: er) X.env=(false,eval ea X.env) :: starEach er X.env) (hpl:(backTo pos (starEach er X.env)).any (·.1)=false):LE X (.Call (.Name x p) (ea :: er) [] pos) (.call j es):=fun br z I nb=>
 wpAny_Call_Name_kw (bC I hg hm (PySem.W.callWith_K (h₀:=X.base) I.md.kin (let ⟨_,_,_,_,k⟩:=F;k) ((ha true pos).go .refl I rfl nb fun z1 l us y1 x1 I1 r1 e1=>⟨I1.toHR.kin,fP F hr x1 I1 (eS (I1.rel _).1 (I1.rel _).2.st.gg fg (fun _ h=>h) r1) e1 nb⟩) he hpl) hd)
end
mutual
theorem pT:∀ {d:D} {v},noR d=true→RD W ρ G d v→RD W ρ' G d v
 | .non,_,_,e=>e
 | .bl _,_,_,e=>e
 | .int _,_,_,e=>e
 | .str _,_,_,e=>e
 | .ref _,_,n,_=>by cases n
 | .tup _,_,n,⟨a,o,vs,e,t,q,r⟩=>⟨a,o,vs,e,t,q,cF n r⟩
 | .lst _,_,n,⟨a,o,vs,e,t,q,r⟩=>⟨a,o,vs,e,t,q,cF n r⟩
 | .dic _ _,_,n,⟨a,o,vs,e,m,t,q,l,r⟩=>⟨a,o,vs,e,m,t,q,l,cF n r⟩
 | .ins _ _,_,n,⟨a,i,vs,e,hc,l,t,r⟩=>⟨a,i,vs,e,hc,l,t,cF n r⟩
theorem cF:∀ {ds:List D} {vs},bW ds=true→RDs W ρ G ds vs→RDs W ρ' G ds vs
 | [],_,_,e=>e
 | _ :: _,_,n,⟨v,r,e,t,q⟩=>by
   have n:(noR _ && bW _)=true:=n
   rw [Bool.and_eq_true] at n
   exact ⟨v,r,e,pT n.1 t,cF n.2 q⟩
end
section
variable {X:Cx} {z z' z0:Z} {br:Bool}
abbrev Z.bare (z:Z):Z:={ z with ρ:=[],t:=⟨z.t.env,z.t.ow,[]⟩ }
theorem gR:¬ Mu [] a:=fun ⟨_,h,_⟩=>nomatch h
theorem HR.bare (I:HR X z):HR X z.bare:=⟨I.md,I.fm,I.hd,I.bs,I.gh,rfl,fun _ _ _ _ _ h=>by simp at h,fun _ m=>(gR m).elim,fun _ _ _ h=>by simp at h,I.fu,fun b m=>⟨(I.ff b m).1,gR⟩,I.br,I.os⟩
theorem Rep.hout (I:Rep X z) (S:Stp X.fr NoW z.bare z') (H:HR X z'):Rep X { z with G:=z'.G,s:=z'.s }∧Ee X z { z with G:=z'.G,s:=z'.s }:=by
 have gn:∀ a o,z'.G a=some o→z.G a=some o∨z.h a=none:=fun a o e=>(S.gn a o e).imp_right fun w=>w.elim id False.elim
 exact ⟨I.grw (H.os.trans I.os.symm) H.br (fun b o e f=>S.sm b o e gR id f) (fun b o e=>S.slots gR e) S.gg H.gh fun a o e=>(gn a o e).imp_right I.fre,⟨List.prefix_refl _,S.gg,fun a o e=>(gn a o e).imp_right .inl,fun _ m=>.inl m,S.th,fun a o e _ _ f=>S.sm a o e gR id f,fun a o e _ _ f=>S.sl a o e gR id f⟩,rfl,rfl,fun _ h=>h⟩
theorem o6 {x:Str} (F:bK X X.cal lv j f) (hr:aX lv X.A) (hg:Gl X x) (hm:X.mg x=some (.ref f)) (ha:LA X (ea :: er) es) (hd:(x == ("__debug__":Str))=false) (he:starEach (ea :: er) X.env=(false,eval ea X.env) :: starEach er X.env) (hpl:(backTo pos (starEach er X.env)).any (·.1)=false):LE X (.Call (.Name x p) (ea :: er) [] pos) (.hcall j es):=fun br z I nb=>
 wpAny_Call_Name_kw (bC I hg hm (PySem.W.callWith_K (h₀:=X.base) I.md.kin (let ⟨_,_,_,_,k⟩:=F;k) ((ha false pos).go .refl I rfl nb fun z1 l us y1 x1 I1 r1 e1=>⟨I1.toHR.kin,by
  obtain ⟨fd,ps,F,hb,kp⟩:=F
  unfold qO at e1
  by_cases nr:bW l=true
  ·rw [if_pos nr] at e1
   have nbc:X.cal j l []≠.bad:=fun q=>by rw [q] at e1;exact nb e1
   have rd:RDs X.W z1.bare.ρ z1.bare.G l us:=cF nr r1.rds
   have hl:us.length=ps.length:=rd.len ▸ F.len _ _ nbc
   have bd:=hb z1.s us I1.toHR.kin (by rw [List.append_nil];exact hl)
   rw [List.append_nil] at bd
   refine wpAny_call (codeAny_mono (F.run X.A X.fr z1.bare ⟨us,[]⟩ us l hr I1.toHR.bare bd rd nbc) fun q s' hq=>?_)
   cases q with
   | error e=>
     obtain ⟨z',c,l',rfl,er,S,H,a,T,cls,dx,rfl,xr',tr,⟨na,ga,ma⟩,nT,gT,mT⟩:=hq
     rw [show X.cal j l []=_ from er] at e1
     obtain ⟨If,xf⟩:=I1.hout S H
     by_cases n2:bW l'=true
     ·have e1:=e1.trans (if_pos n2)
      have nob:∀ {b:Addr},z1.h b=none→z'.G b=none→Nob X z1 { z1 with G:=z'.G,s:=z'.s } b:=fun {b} n g=>by
       have ⟨f,no⟩:=I1.fre n
       exact ⟨n,⟨g,f.2⟩,no⟩
      refine Px.less x1 ⟨{ z1 with G:=z'.G,s:=z'.s },c,l',rfl,e1,xf,If,a,cls,dx,rfl,?_,nob na ga,.inr ⟨T,.none,tr,.inl rfl,nob nT gT⟩⟩
      obtain ⟨i,a1,a2,a3,a4,a5⟩:=xr'
      exact ⟨i,a1,a2,a3,a4,a5.imp_right fun ⟨d,od,vs,b1,b2,b3,b4⟩=>⟨d,od,vs,b1,b2,b3,cF n2 b4⟩⟩
     ·exact absurd (e1.trans (if_neg n2)) nb
   | ok fl=>
     cases fl with
     | ret u=>
       obtain ⟨z',d,rfl,er,S,H,r⟩:=hq
       rw [show X.cal j l []=_ from er] at e1
       obtain ⟨If,xf⟩:=I1.hout S H
       by_cases n2:noR d=true
       ·have e1:=e1.trans (show (if noR d=true then Out.ok d z1.t else Out.bad)=_ from if_pos n2)
        exact Pe.less x1 ⟨{ z1 with G:=z'.G,s:=z'.s },d,rfl,e1,xf,If,.of (pT n2 r)⟩
       ·exact absurd (e1.trans (show (if noR d=true then Out.ok d z1.t else Out.bad)=_ from if_neg n2)) nb
     | next=>exact hq.elim
     | brk=>exact hq.elim
     | cont=>exact hq.elim
  ·rw [if_neg nr] at e1;exact absurd e1 nb⟩) he hpl) hd)
structure mx (X:Cx) (an:Nat→Str) (m:Str) (c:Nat) (f:Addr):Prop where
 ex:∃ i k,X.Γ.cl[c]? = some k∧di X an c k i∧k.what=0∧vR X.K i.ad m f∧m ∉ i.nm
theorem ql {l:List Str} {vs:List Value} (h:m ∉ l):(l.zip vs).lookup m=none:=by
 induction l generalizing vs with
 | nil=>rfl
 | cons n r ih=>
   cases vs with
   | nil=>rfl
   | cons w vs=>
     show (match m == n with | true=>some w | false=>(r.zip vs).lookup m)=none
     rw [show (m == n)=false from beq_eq_false_iff_ne.mpr fun z=>h (by rw [z];exact List.mem_cons_self)]
     exact ih fun z=>h (List.mem_cons_of_mem _ z)
theorem lV {n:Nat} {l:List D} {p:Addr×Addr} {Q:Value×List Value→Shared→Prop} {E:Value→Shared→Prop} {pl:Sem Bool} (M:mx X an m c f) (I:Rep X z) (e:z.t.st[n]? = some (.ins c l)) (ep:z.ρ[n]? = some p) (q:Q (.ref f,[.ref p.1]) z.s):wpAny X.M X.A (getMethod (.ref p.1) m pl) Q E z.s:=by
 obtain ⟨i,k,hc,ok,w,hm,nm⟩:=M.ex
 obtain ⟨i',vs,w1,w2,w3,w4,w5⟩:=I.ob n _ p e ep
 have e4:=ok.ci
 rw [w1] at e4;cases e4
 exact oP I.toHR.kin (InO.objm w4) ((ok.cls (by omega)).get m) hm.at_ hm.fn (ql nm) q
theorem lW {o:Out D} {f:List D→Sta→Out D} {x:D} (e:o=(match x with
 | .ref p=>(match z.t.st[p]? with
   | some (.ins c' _)=>if c'=c then (X.evs true es z.t).bind fun l s=>gb X.cal es j (x :: l) s else .bad
   | _=>.bad)
 | _=>.bad)) (nb:o≠.bad):∃ n l,x = .ref n∧z.t.st[n]? = some (.ins c l)∧o=(X.evs true es z.t).bind fun l s=>gb X.cal es j (.ref n :: l) s:=by
 cases x with
 | ref n=>
   dsimp only at e
   cases q:z.t.st[n]? with
   | none=>rw [q] at e;exact absurd e nb
   | some ob=>
     rw [q] at e
     cases ob with
     | ins c' l=>
       dsimp only at e
       by_cases h:c'=c
       ·subst h;rw [if_pos rfl] at e;exact ⟨n,l,rfl,q,e⟩
       ·rw [if_neg h] at e;exact absurd e nb
     | _=>exact absurd e nb
 | _=>exact absurd e nb
theorem uF (F:bK X X.cal lv j f) (hr:aX lv X.A) (M:mx X an m c f) (ho:LE X eo a) (ha:LA X (ea :: er) es) (he:starEach (ea :: er) X.env=(false,eval ea X.env) :: starEach er X.env) (hpl:(backTo pos (starEach er X.env)).any (·.1)=false)
 (ht:eval (.Call (.Attribute eo m apos) (ea :: er) [] pos) X.env=(do
  let ov ← eval eo X.env
  standAt apos.atName
  let (f,first) ← holding [ov] (getMethod ov m pl)
  callWith pos f first (backTo pos (starEach (ea :: er) X.env)) (backToKw pos (keywordEach [] X.env)))):LE X (.Call (.Attribute eo m apos) (ea :: er) [] pos) (.mth c j a es):=fun br z I nb=>
 PySem.W.methodCall_KW (pl:=pl) ((ho true).go .refl I rfl nb fun z1 x u y1 x1 I1 r1 e1=>by
  obtain ⟨n,l,rfl,q,e1⟩:=lW (f:=fun _ _=>.bad) e1 nb
  obtain ⟨p,ep,rfl⟩:=(r1.rb.cr0 I1:RD X.W z1.ρ z1.G (.ref n) u)
  exact lV M I1 q ep (PySem.W.callWith_K (first:=[.ref p.1]) (h₀:=X.base) I.md.kin (let ⟨_,_,_,_,k⟩:=F;k) ((ha true pos).go x1 I1 e1 nb fun z2 l us y2 x2 I2 r2 e2=>⟨I2.toHR.kin,fP (us:=.ref p.1 :: us) F hr x2 I2 (.cons (d:=.ref n) ⟨p,iJ y2.st.pr ep,rfl⟩ (eS (I2.rel _).1 (I2.rel _).2.st.gg fg (fun _ h=>h) r2)) e2 nb⟩) he hpl)) ht
theorem rx (F:bK X X.cal lv j f) (hr:aX lv X.A) (M:mx X an m c f) (ho:LE X eo a)
 (ht:eval (.Call (.Attribute eo m apos) [] [] pos) X.env=(do
  let ov ← eval eo X.env
  standAt apos.atName
  let (f,first) ← holding [ov] (getMethod ov m pl)
  callWith pos f first (backTo pos (starEach [] X.env)) (backToKw pos (keywordEach [] X.env)))):LE X (.Call (.Attribute eo m apos) [] [] pos) (.mth c j a .nil):=fun br z I nb=>
 PySem.W.methodCall_KW (pl:=pl) ((ho true).go .refl I rfl nb fun z1 x u y1 x1 I1 r1 e1=>by
  obtain ⟨n,l,rfl,q,e1⟩:=lW (f:=fun _ _=>.bad) e1 nb
  obtain ⟨p,ep,rfl⟩:=(r1.rb.cr0 I1:RD X.W z1.ρ z1.G (.ref n) u)
  exact lV M I1 q ep (PySem.W.callWith_K0 (first:=[.ref p.1]) I1.toHR.kin (let ⟨_,_,_,_,k⟩:=F;k) (fP (us:=[.ref p.1]) (es:=.nil) F hr x1 I1 (.cons (d:=.ref n) (ds:=[]) ⟨p,ep,rfl⟩ rfl) e1 nb))) ht
theorem dQ (C:Addr) (us:List Value) (kw:List (Str×Value)):(X.A.under (.builtin "type.__call__" ⟨.ref C :: us,kw⟩)).frames=X.A.frames:=by simp [Around.under,Code.envs,Code.isFrame,pushEnvs]
theorem iA:Mu (ρ ++ [p]) a↔Mu ρ a∨a=p.1∨a=p.2:=by
 constructor
 ·rintro ⟨q,h,e⟩
  rcases List.mem_append.mp h with h | h
  ·exact .inl ⟨q,h,e⟩
  ·cases List.mem_singleton.mp h;exact .inr e
 ·rintro (⟨q,h,e⟩ | e)
  ·exact ⟨q,List.mem_append_left _ h,e⟩
  ·exact ⟨p,List.mem_append_right _ List.mem_cons_self,e⟩
theorem cj {l:List α} (e:(l ++ [a])[n]? = some b):l[n]? = some b∨(n=l.length∧b=a):=by
 rcases Nat.lt_trichotomy n l.length with h | h | h
 ·rw [List.getElem?_append_left h] at e;exact .inl e
 ·subst h;rw [List.getElem?_append_right (Nat.le_refl _),Nat.sub_self] at e;cases e;exact .inr ⟨rfl,rfl⟩
 ·rw [List.getElem?_append_right (Nat.le_of_lt h),List.getElem?_eq_none (by simp;omega)] at e;cases e
theorem HR.snoc (I:HR X z) (g:Gr z.s s') (hp:z.h p.1=none∧z.h p.2=none) (r:ObR X.W (z.ρ ++ [p]) z.G s'.heap.get? p o):HR X { z with ρ:=z.ρ ++ [p],t:=⟨z.t.env,z.t.ow,z.t.st ++ [o]⟩,s:=s' }∧Stp X.fr w z { z with ρ:=z.ρ ++ [p],t:=⟨z.t.env,z.t.ow,z.t.st ++ [o]⟩,s:=s' }:=by
 have nn:∀ {a:Addr},(a=p.1∨a=p.2)→z.h a=none:=fun h=>h.elim (fun e=>e ▸ hp.1) fun e=>e ▸ hp.2
 have pre:z.ρ <+: z.ρ ++ [p]:=List.prefix_append _ _
 have no:∀ {a:Addr} {P:Prop},(a=p.1∨a=p.2)→(∃ o,z.h a=some o)→P:=fun h ⟨o,e⟩=>by rw [nn h] at e;cases e
 have old:∀ {i:Nat} {q:Addr×Addr} {a:Addr},z.ρ[i]? = some q→(a=q.1∨a=q.2)→∃ o,z.h a=some o:=fun h1 h2=>I.th ⟨_,List.mem_of_getElem? h1,h2⟩
 refine ⟨⟨I.md,I.fm,I.hd,I.bs,fun a o e=>g.k a o (I.gh a o e),by simp [I.rl],fun i j q1 q2 a h1 h2 h3 h4=>?_,fun a m=>?_,fun n o' q h1 h2=>?_,nfu I.fu g.k,fun b m=>⟨(I.ff b m).1,fun w=>(iA.mp w).elim (I.ff b m).2 fun w=>no w (I.fth m)⟩,by show AllBare s'.gens;rw [g.gs];exact I.br,g.os.trans I.os⟩,⟨pre,.refl _,fun _ _ e=>.inl e,fun a m=>(iA.mp m).imp_right nn,fun a o e=>⟨o,g.k a o e⟩,fun a o e _ _ _=>g.k a o e,fun a o e _ _ _=>⟨o.slots,g.k a o e⟩⟩⟩
 ·rcases cj h1 with a1 | ⟨a1,b1⟩
  ·rcases cj h2 with a2 | ⟨a2,b2⟩
   ·exact I.rn i j q1 q2 a a1 a2 h3 h4
   ·subst b2;exact no h4 (old a1 h3)
  ·subst b1
   rcases cj h2 with a2 | ⟨a2,b2⟩
   ·exact no h3 (old a2 h4)
   ·rw [a1,a2]
 ·rcases iA.mp m with m | m
  ·exact I.rg a m
  ·cases q:z.G a with
   | none=>rfl
   | some o=>exact no m ⟨o,I.gh a o q⟩
 ·rcases cj h2 with a2 | ⟨a2,b2⟩
  ·rcases cj h1 with a1 | ⟨a1,_⟩
   ·exact (I.ob n o' q a1 a2).mono pre (.refl _) fun a _ o e=>g.k a o e
   ·have:=(List.getElem?_eq_some_iff.mp a2).1;rw [I.rl] at this;omega
  ·subst b2
   rcases cj h1 with a1 | ⟨_,b1⟩
   ·have:=(List.getElem?_eq_some_iff.mp a1).1;rw [← I.rl] at this;omega
   ·subst b1;exact r
theorem HR.at {A:Around} (I:HR X z) (f:A.frames=X.A.frames) (h:A.handled=X.A.handled):HR { X with A:=A } z:=⟨I.md,f.trans I.fm,fun c=>h.trans (I.hd c),I.bs,I.gh,I.rl,I.rn,I.rg,I.ob,I.fu,I.ff,I.br,I.os⟩
theorem so {o:Out D} {j:Nat} {cl:Cl} {i:CI} (F:bK X X.cal1 lv cl.init f) (hr:aX (lv+1) X.A) (M:Mk X.K i.ad f) (hcl:X.Γ.cl[j]? = some cl) (hw:cl.what=0) (hci:X.W.ci[j]? = some i) (hwh:X.W.what[j]? = some 0) (x:Ee X z0 z) (I:Rep X z) (r:RVs X.W true es z l us)
 (e:o=(match X.Γ.cl[j]? with
 | some k=>if k.what=1 then (if l.length=k.at_.length then .ok (.ins j l) (drp es z.t z.t.st) else .bad)
   else if k.what=0 then (match X.cal1 k.init (.ref z.t.st.length :: l) (z.t.st ++ [.ins j []]) with
    | .ok .non st=>.ok (.ref z.t.st.length) (aft es z.t .non st)
    | _=>.bad)
   else .bad
 | none=>.bad)) (nb:o≠.bad):wpAny X.M X.A (call (.ref i.ad) us) (Pe X z0 o (RV X.W br c)) (Px X z0 o) z.s:=by
 rw [hcl] at e
 dsimp only at e
 rw [if_neg (by omega),if_pos hw] at e
 obtain ⟨Ir,xr⟩:=I.rel fun i=>!(bV es).contains i
 obtain ⟨fd,ps,F,hb,kp⟩:=F
 have nbc:X.cal1 cl.init (.ref z.t.st.length :: l) (z.t.st ++ [.ins j []])≠.bad:=fun q=>by rw [q] at e;exact nb e
 have g:Gr z.s { z.s with heap:=(z.s.heap.push PySem.W.emptyDict).push (PySem.W.instObj i.ad z.s.heap.objs.size) }:=⟨rfl,rfl,fun b o e=>Heap.get?_push_of_some _ (Heap.get?_push_of_some _ e)⟩
 have e1:(z.s.heap.push PySem.W.emptyDict).get? z.s.heap.objs.size=some PySem.W.emptyDict:=Heap.get?_push_size z.s.heap rfl
 have e2:((z.s.heap.push PySem.W.emptyDict).push (PySem.W.instObj i.ad z.s.heap.objs.size)).get? (z.s.heap.objs.size+1)=some (PySem.W.instObj i.ad z.s.heap.objs.size):=by
  have:=Heap.get?_push_size (z.s.heap.push PySem.W.emptyDict) (o:=PySem.W.instObj i.ad z.s.heap.objs.size) rfl
  rwa [Heap.size_push] at this
 have hn:z.h (z.s.heap.objs.size+1)=none∧z.h z.s.heap.objs.size=none:=⟨Heap.get?_none_of_le (Nat.le_succ _),Heap.get?_none_of_le (Nat.le_refl _)⟩
 have ne:z.s.heap.objs.size≠z.s.heap.objs.size+1:=Nat.ne_of_lt (Nat.lt_succ_self _)
 obtain ⟨H1,S1⟩:=HR.snoc (w:=NoW) (p:=(z.s.heap.objs.size+1,z.s.heap.objs.size)) (o:=.ins j []) Ir.toHR g hn ⟨i,[],hci,hwh,Nat.zero_le _,⟨e2,ne,by simp,_,Heap.get?_push_of_some _ e1,#[],_,rfl,(fun e he=>absurd he (by simp)),.nil,fun n=>by cases i.nm <;> rfl⟩,rfl⟩
 have at0:(z.ρ ++ [(z.s.heap.objs.size+1,z.s.heap.objs.size)])[z.t.st.length]? = some (z.s.heap.objs.size+1,z.s.heap.objs.size):=by rw [List.getElem?_append_right (by rw [I.rl];exact Nat.le_refl _),I.rl,Nat.sub_self];rfl
 have rd0:=eS Ir xr.st.gg fg (fun _ h=>h) r
 have rd:RDs X.W (z.ρ ++ [(z.s.heap.objs.size+1,z.s.heap.objs.size)]) (z.rel fun i=>!(bV es).contains i).G (.ref z.t.st.length :: l) (.ref (z.s.heap.objs.size+1) :: us):=.cons ⟨_,at0,rfl⟩ (rd0.mono (List.prefix_append _ _) (.refl _))
 have hl:=F.len _ _ nbc
 rw [rd.len] at hl
 have bd:=hb { z.s with heap:=(z.s.heap.push PySem.W.emptyDict).push (PySem.W.instObj i.ad z.s.heap.objs.size) } (.ref (z.s.heap.objs.size+1) :: us) (I.toHR.kin.keeps g.k) (by rw [List.append_nil];exact hl)
 rw [List.append_nil] at bd
 refine wpAny_call (jE (f:=f) I.toHR.kin M.makes M.init (beq_iff_eq.mp M.fn) (codeAny_mono (F.run _ X.fr _ ⟨.ref (z.s.heap.objs.size+1) :: us,[]⟩ _ _ (hr.make i.ad us []) (H1.at (dQ i.ad us []) rfl) bd rd nbc) fun q s' hq=>?_))
 cases q with
 | error e'=>obtain ⟨z',c,l',_,er,_⟩:=hq;rw [show X.cal1 cl.init (.ref z.t.st.length :: l) (z.t.st ++ [.ins j []])=_ from er] at e;exact absurd e nb
 | ok fl=>
   cases fl with
   | ret u=>
     obtain ⟨z',d,rfl,er,S,H,r⟩:=hq
     rw [show X.cal1 cl.init (.ref z.t.st.length :: l) (z.t.st ++ [.ins j []])=_ from er] at e
     cases d with
     | non=>
       refine ⟨(show u = .none from r),?_⟩
       have S2:Stp X.fr NoW (z.rel fun i=>!(bV es).contains i) z':=S1.trans S fun _ h=>h.elim
       have H2:HR X z':=H.at (X:={ X with A:=_,fr:=X.fr }) (A:=X.A) (dQ i.ad us []).symm rfl
       obtain ⟨zf,f1,f2,f3,If,xf,k1,k2,k3⟩:=I.back (fun i=>!(bV es).contains i) (fun i=>!(bV es).contains i || (isLst z.t.env[i]? && (noL .non && z'.t.st.all mY))) S2 H2 (fun i h=>by rw [h];rfl) fun i _ h=>by
        cases w:(!(bV es).contains i) with
        | true=>exact .inl rfl
        | false=>rw [w,Bool.false_or,Bool.and_eq_true,Bool.and_eq_true] at h;exact .inr ⟨h.1,h.2.2⟩
       refine Pe.less x ⟨zf,.ref z.t.st.length,f1,by rw [e,f2];rfl,xf,If,.of ⟨(z.s.heap.objs.size+1,z.s.heap.objs.size),?_,rfl⟩⟩
       rw [f3]
       exact iJ S.pr at0
     | _=>exact absurd e nb
   | next=>exact hq.elim
   | brk=>exact hq.elim
   | cont=>exact hq.elim
end
def Ps (X:Cx) (z:Z) (o:am) (f:Flow) (s':Shared):Prop:=match o with
 | .nx t=>f = .next∧∃ z',z'.s=s'∧z'.t=t∧Go X z z'∧Rep X z'
 | .rt d t=>∃ u z',f = .ret u∧z'.s=s'∧z'.t.st=t.st∧Go X z z'∧Rep X z'∧RD X.W z'.ρ z'.G d u
 | _=>False
def PxS (X:Cx) (z:Z) (o:am) (x:Value) (s':Shared):Prop:=∃ z' c l,z'.s=s'∧o = .exc c l z'.t∧Go X z z'∧Rep X z'∧XO X z z' c l x
abbrev Ws (X:Cx) (t:Sem Flow) (z:Z) (o:am):Prop:=wpAny X.M X.A t (Ps X z o) (PxS X z o) z.s
def LS (X:Cx) (st:Stmt) (c:S):Prop:=∀ z,Rep X z→X.ex c z.t≠.bad→Ws X (exec st X.env) z (X.ex c z.t)
def LSs (X:Cx) (st:List Stmt) (c:S):Prop:=∀ z,Rep X z→X.ex c z.t≠.bad→Ws X (execs st X.env) z (X.ex c z.t)
section
variable {X:Cx} {z z' z0 z1:Z}
theorem Ps.less (x:Go X z z1) (h:Ps X z1 o f s'):Ps X z o f s':=by
 cases o with
 | nx t=>obtain ⟨e,z',a,b,y,I⟩:=h;exact ⟨e,z',a,b,x.trans y,I⟩
 | rt d t=>obtain ⟨u,z',e,a,b,y,I⟩:=h;exact ⟨u,z',e,a,b,x.trans y,I⟩
 | _=>exact h
theorem PxS.less (x:Go X z z1) (h:PxS X z1 o u s'):PxS X z o u s':=let ⟨z',c,l,e,q,y,I,n⟩:=h;⟨z',c,l,e,q,x.trans y,I,n.less fun _=>x.st.no⟩
theorem PxS.of {m:Out α} (x:Go X z z1) (h:Px X z1 m u s') {f:α→Sta→am}:PxS X z (m.go f) u s':=let ⟨z',c,l,e,q,y,I,n⟩:=h;⟨z',c,l,e,by rw [q];rfl,x.trans y.go,I,n.less fun _=>x.st.no⟩
theorem Jg.gos {t:Sem β} {m:Sta→Out α} {R:Z→α→β→Prop} {f:α→Sta→am} {o:am} {K:β→Shared→Prop} (h:Jg X t m R) (x:Go X z z1) (I:Rep X z1) (e:o=(m z1.t).go f) (nb:o≠.bad)
 (k:∀ z2 d u,Ee X z1 z2→Go X z z2→Rep X z2→R z2 d u→o=f d z2.t→K u z2.s):wpAny X.M X.A t K (PxS X z o) z1.s:=by
 subst e
 refine wpAny_mono (h z1 I fun q=>nb (by rw [q];rfl)) (fun u s' ⟨z2,d,e,q,y,I1,r⟩=>?_) fun u s' h=>.of x h
 subst e;exact k z2 d u y (x.trans y.go) I1 r (by rw [q];rfl)
theorem nxt (x:Go X z z1) (I:Rep X z1) (e:o = .nx z1.t):Ps X z o .next z1.s:=by subst e;exact ⟨rfl,z1,rfl,rfl,x,I⟩
theorem LSs.at (h:LSs X sts c) (x:Go X z z1) (I:Rep X z1) (e:o=X.ex c z1.t) (nb:o≠.bad):wpAny X.M X.A (execs sts X.env) (Ps X z o) (PxS X z o) z1.s:=by subst e;exact wpAny_mono (h z1 I nb) (fun _ _ h=>h.less x) fun _ _ h=>h.less x
theorem pt:LSs X [] .skip:=fun z I _=>wpAny_execs_nil (nxt .refl I rfl)
theorem pv (h:LS X tm c):LSs X [tm] c:=fun z I nb=>wpAny_execs_cons (thn (h z I nb) fun f s1 q=>by
 cases f with
 | next=>exact wpAny_execs_nil q
 | ret v=>exact q
 | brk=>exact q
 | cont=>exact q)
theorem lR (h1:LS X tm a) (h2:LSs X rest b):LSs X (tm :: rest) (.seq a b):=fun z I nb=>by
 have nb1:X.ex a z.t≠.bad:=fun q=>nb (show am.go (X.ex a z.t) _=_ by rw [q];rfl)
 refine wpAny_execs_cons (wpAny_mono (h1 z I nb1) (fun f s1 q=>?_) fun u s' ⟨z',c,l,e,q,r⟩=>⟨z',c,l,e,show am.go (X.ex a z.t) _=_ by rw [q];rfl,r⟩)
 cases qa:X.ex a z.t with
 | nx t=>
   rw [qa] at q
   obtain ⟨rfl,z1,rfl,rfl,x1,I1⟩:=q
   exact h2.at x1 I1 (show am.go (X.ex a z.t) _=_ by rw [qa];rfl) nb
 | rt d t=>
   have e:X.ex (.seq a b) z.t = .rt d t:=show am.go (X.ex a z.t) _=_ by rw [qa];rfl
   rw [qa] at q
   obtain ⟨u,z1,rfl,r⟩:=q
   show Ps X z (X.ex (.seq a b) z.t) (.ret u) s1
   rw [e];exact ⟨u,z1,rfl,r⟩
 | exc c l t=>rw [qa] at q;exact q.elim
 | bad=>exact absurd qa nb1
theorem lS (h:∀ z,Rep X z→wpAny X.M X.A (exec tm X.env) (fun f s'=>f = .next∧Gr z.s s') NoE z.s):LS X tm .skip:=fun z I _=>wpAny_mono (h z I) (fun f s' ⟨e,g⟩=>by subst e;exact nxt (z1:={ z with s:=s' }) (ak I.gh g).ee.go (I.grow (ak I.gh g)) rfl) fun _ _ z=>z.elim
theorem rM:LS X (.Pass pos) .skip:=lS fun _ _=>wpAny_Pass ⟨rfl,.refl⟩
theorem Rep.quiet (I:Rep X z):interactive X.env=false:=by simp [interactive,I.ok.kd]
theorem uV:LS X (.Expr (.Constant (.str x) j pos) pos') .skip:=lS fun z I=>wpAny_Expr (Calls.Constant_str (show _∧_ from ⟨rfl,.tok⟩)) I.quiet
theorem rJ (he:LE X e c) (hs:swapsWith e none pos.line X.env=pure false):LS X (.Expr e pos) (.drop c):=fun z I nb=>wpAny_Expr_any ((he false).gos .refl I rfl nb fun z1 d u y x I1 r e1=>nxt x I1 e1) I.quiet hs
theorem iz (he:LE X e c):LS X (.Return (some e) pos) (.ret c):=fun z I nb=>wpAny_Return_some ((he false).gos .refl I rfl nb fun z1 d u y x I1 r e1=>by
 show Ps X z (X.ex (.ret c) z.t) _ _
 rw [e1];exact ⟨u,z1,rfl,rfl,rfl,x,I1,r.rd⟩)
theorem rO:LS X (.Return none pos) (.ret (.c .non)):=fun z I nb=>wpAny_Return_none ⟨.none,z,rfl,rfl,rfl,.refl,I,rfl⟩
theorem wS (hc:LT X ec c) (ha:LSs X sa a) (hb:LSs X sb b):LS X (.If ec sa sb pos) (.ifs c a b):=fun z I nb=>by
 have e:X.ex (.ifs c a b) z.t=((X.ev true c z.t).bind toB).go fun t s=>if t then X.ex a s else X.ex b s:=by
  show Out.go (X.ev true c z.t) _=_
  cases X.ev true c z.t with
  | ok d s=>cases d <;> first | rfl | (rename_i t;cases t <;> rfl)
  | _=>rfl
 refine wpAny_If (hc.gos .refl I e nb fun z1 t u y x I1 r e1=>?_)
 cases (show u=t from r)
 cases t with
 | true=>exact ha.at x I1 e1 nb
 | false=>exact hb.at x I1 e1 nb
def Vl (X:Cx) (z0 z:Z) (own:Bool) (d:D) (u:Value):Prop:=match own with
 | false=>RD X.W z.ρ z.G d u
 | true=>FV X z0 z d u
def stV (t:Sta) (i:Nat) (d:D) (own:Bool):Sta:=⟨t.env.set i (some d),if own then i :: t.ow.filter (· != i) else t.ow.filter (· != i),t.st⟩
theorem ie {h h' base:Heap} (k:∀ b o,h.get? b=some o→(∀ vs,o.data≠.fields vs)→∃ o',h'.get? b=some o'∧∀ vs,o'.data≠.fields vs):∀ {l:List Env},h.FunFrames base l→h'.FunFrames base l
 | [],_=>trivial
 | _ :: _,⟨a,⟨L,o,e1,e2,e3,e4⟩,r⟩=>let ⟨o',q1,q2⟩:=k L o e3 e4;⟨a,⟨L,o',e1,e2,q1,q2⟩,ie k r⟩
theorem Rep.put {s':Shared} {i:Nat} {own:Bool} {d:D} {u:Value} (x0:Go X z0 z) (I:Rep X z) (sb:Heap.SameBut a z.s.heap s'.heap) (la:Lc X a) (th:∃ o,s'.heap.get? a=some o∧∀ vs,o.data≠.fields vs) (os:s'.os=z.s.os) (gs:s'.gens=z.s.gens) (vl:Vl X z0 z own d u) (hi:i<X.N.length)
 (lo:∃ m,s'.heap.Ns X.env.locals m∧∀ (j:Nat) (x:Str) (w:Value),X.N[j]? = some x→(z.σ.set i (some u))[j]? = some (some w)→Vis X.env.scope x→j7 X.env s'.heap m x w)
 (ce:∀ x c,X.env.cells.lookup x=some c→∃ v,s'.heap.IsCell c v):Rep X { z with t:=stV z.t i d own,σ:=z.σ.set i (some u),s:=s' }∧Go X z0 { z with t:=stV z.t i d own,σ:=z.σ.set i (some u),s:=s' }:=by
 have ne:∀ {b:Addr},¬ Lc X b→s'.heap.get? b=z.h b:=fun n=>sb.2 _ fun e=>n (e ▸ la)
 have nG:∀ {b o},z.G b=some o→¬ Lc X b:=fun e l=>by rw [(I.fl _ l).1] at e;cases e
 have nM:∀ {b},Mu z.ρ b→¬ Lc X b:=fun m l=>(I.fl _ l).2 m
 have hiσ:i<z.σ.length:=by rw [I.sl];exact hi
 have ow:∀ {j},j∈(stV z.t i d own).ow→(j=i∧own=true)∨(j≠i∧j∈z.t.ow):=fun {j} m=>by
  cases own with
  | true=>
    rcases List.mem_cons.mp (show j∈i :: z.t.ow.filter (· != i) from m) with w | w
    ·exact .inl ⟨w,rfl⟩
    ·have:=List.mem_filter.mp w;exact .inr ⟨by simpa using this.2,this.1⟩
  | false=>have:=List.mem_filter.mp (show j∈z.t.ow.filter (· != i) from m);exact .inr ⟨by simpa using this.2,this.1⟩
 have wo:∀ {j},j≠i→j∈z.t.ow→j∈(stV z.t i d own).ow:=fun {j} n m=>by
  have w:j∈z.t.ow.filter (· != i):=List.mem_filter.mpr ⟨m,by simpa using n⟩
  cases own with
  | true=>exact List.mem_cons_of_mem _ w
  | false=>exact w
 have get:∀ {j},j≠i→(z.σ.set i (some u))[j]? = z.σ[j]?:=fun h=>List.getElem?_set_ne (Ne.symm h)
 have gete:∀ {j},j≠i→(z.t.env.set i (some d))[j]? = z.t.env[j]?:=fun h=>List.getElem?_set_ne (Ne.symm h)
 have gi:(z.σ.set i (some u))[i]? = some (some u):=List.getElem?_set_self hiσ
 have gie:(z.t.env.set i (some d))[i]? = some (some d):=List.getElem?_set_self (by rw [I.el];exact hiσ)
 have fu:s'.heap.FunFrames X.base X.fr:=ie (fun b o e nf=>by
  by_cases q:b=a
  ·subst q;exact th
  ·exact ⟨o,(sb.2 b q).trans e,nf⟩) I.fu
 have th':∀ b o,z.h b=some o→∃ o',s'.heap.get? b=some o':=fun b o e=>by
  by_cases q:b=a
  ·subst q;exact th.imp fun _ h=>h.1
  ·exact ⟨o,(sb.2 b q).trans e⟩
 have S:Stp X.fr (Pv X z) z { z with t:=stV z.t i d own,σ:=z.σ.set i (some u),s:=s' }:=⟨List.prefix_refl _,.refl _,fun _ _ e=>.inl e,fun _ m=>.inl m,th',fun b o e _ w _=>(ne fun l=>w (.inr l)).trans e,fun b o e _ w _=>⟨o.slots,(ne fun l=>w (.inr l)).trans e⟩⟩
 refine ⟨⟨⟨I.md,I.fm,I.hd,I.bs,fun b o e=>(ne (nG e)).trans (I.gh b o e),I.rl,I.rn,I.rg,fun n o p h1 h2=>(I.ob n o p h1 h2).mono (List.prefix_refl _) (.refl _) fun b hb o e=>(ne (nM ⟨p,List.mem_of_getElem? h2,hb⟩)).trans e,fu,I.ff,by show AllBare s'.gens;rw [gs];exact I.br,os.trans I.os⟩,I.ok,lo,ce,I.fl,by show (z.t.env.set i (some d)).length=(z.σ.set i (some u)).length;rw [List.length_set,List.length_set];exact I.el,by show (z.σ.set i (some u)).length=_;rw [List.length_set];exact I.sl,fun j d' n e=>?_,fun j m=>?_,fun j k b m1 m2 e1 e2=>?_⟩,x0.st.trans S fun b w=>w.elim (fun w=>(x0.ow b w).imp_left .inl) fun w=>.inl (.inr w),fun b ⟨j,m,e⟩=>?_⟩
 ·by_cases q:j=i
  ·subst q
   rw [show (z.t.env.set j (some d))[j]? = some (some d') from e] at gie;cases gie
   cases own with
   | true=>exact absurd List.mem_cons_self n
   | false=>exact ⟨u,gi,vl⟩
  ·obtain ⟨w,e1,r⟩:=I.en j d' (fun m=>n (wo q m)) ((gete q).symm.trans e)
   exact ⟨w,(get q).trans e1,r⟩
 ·rcases ow m with ⟨rfl,rfl⟩ | ⟨q,m⟩
  ·obtain ⟨b,o,rfl,_,t,r,f,no⟩:=vl
   exact ⟨d,b,o,gie,gi,t,r.mono (List.prefix_refl _) (.refl _) fun c hc o e=>(ne (by rcases hc with rfl | rfl <;> exact f.2.2.2)).trans e,f⟩
  ·obtain ⟨d',b,o,h1,h2,h3,r,f⟩:=I.eo j m
   exact ⟨d',b,o,(gete q).trans h1,(get q).trans h2,h3,r.mono (List.prefix_refl _) (.refl _) fun c hc o e=>(ne (by rcases hc with rfl | rfl <;> exact f.2.2.2)).trans e,f⟩
 ·have new:∀ {k:Nat} {b:Addr},own=true→k∈z.t.ow→(z.σ.set i (some u))[i]? = some (some (.ref b))→z.σ[k]? = some (some (.ref b))→False:=fun {k b} ho mk w1 w2=>by
   subst ho
   obtain ⟨b',o,rfl,_,t,r,f,no⟩:=vl
   rw [gi] at w1;cases w1
   exact no ⟨k,mk,w2⟩
  rcases ow m1 with ⟨h1,ho⟩ | ⟨q1,n1⟩ <;> rcases ow m2 with ⟨h2,ho2⟩ | ⟨q2,n2⟩
  ·exact h1.trans h2.symm
  ·exact (new ho n2 (h1 ▸ e1) ((get q2).symm.trans e2)).elim
  ·exact (new ho2 n1 (h2 ▸ e2) ((get q1).symm.trans e1)).elim
  ·exact I.od j k b n1 n2 ((get q1).symm.trans e1) ((get q2).symm.trans e2)
 ·rcases ow m with ⟨rfl,rfl⟩ | ⟨q,m⟩
  ·obtain ⟨b',o,rfl,n,_⟩:=vl
   rw [show (z.σ.set j (some (.ref b')))[j]? = some (some (.ref b)) from e] at gi;cases gi
   exact .inr n
  ·exact x0.ow b ⟨j,m,(get q).symm.trans e⟩
theorem Rep.cne (I:Rep X z):∀ x c,X.env.cells.lookup x=some c→c≠X.env.locals:=fun x c e q=>by
 obtain ⟨v,o,ho,hd⟩:=I.ce x c e
 obtain ⟨m,⟨o',es,ep,ho',hd',_⟩,_⟩:=I.lo
 rw [q,ho'] at ho;cases ho;rw [hd'] at hd;cases hd
theorem bU {i:Nat} {x:Str} {own:Bool} {d:D} {u:Value} {Q:Unit→Shared→Prop} {E:Value→Shared→Prop} (x0:Go X z0 z) (I:Rep X z) (hN:X.N.Nodup) (hi:X.N[i]? = some x) (hx:Loc X.env.scope x) (vl:Vl X z0 z own d u)
 (h:∀ s' a,Heap.SameBut a z.s.heap s'.heap→Lc X a∧(X.env.scope.names.lookup x=some .local→a=X.env.locals)→Rep X { z with t:=stV z.t i d own,σ:=z.σ.set i (some u),s:=s' }→Go X z0 { z with t:=stV z.t i d own,σ:=z.σ.set i (some u),s:=s' }→Q () s'):wpAny X.M X.A (storeName X.env x u) Q E z.s:=by
 obtain ⟨m,hn,hl⟩:=id I.lo
 have hcls:(X.env.scope.kind == .class || (X.env.scope.kind == .module && X.env.locals != X.env.globals))=false:=by rw [I.ok.kd];rfl
 have il:i<X.N.length:=(List.getElem?_eq_some_iff.mp hi).1
 have hiσ:i<z.σ.length:=by rw [I.sl];exact il
 rcases hx with hk | hk
 ·refine wpAny_storeName_local hk hn (fun h' hn' hs=>?_) hcls
  have ⟨oL,es,ep,hoL,hdL,_⟩:=hn'
  have lo:∀ (j:Nat) (y:Str) (w:Value),X.N[j]? = some y→(z.σ.set i (some u))[j]? = some (some w)→Vis X.env.scope y→j7 X.env h' (fun y=>if y=x then some u else m y) y w:=fun j y w e1 e2 e3=>by
   by_cases hj:j=i
   ·subst hj
    rw [hi] at e1;cases e1
    rw [List.getElem?_set_self hiσ] at e2;cases e2
    exact .inl ⟨hk,by simp⟩
   ·rw [List.getElem?_set_ne (Ne.symm hj)] at e2
    rcases hl j y w e1 e2 e3 with ⟨k,e⟩ | ⟨k,c,e,q⟩
    ·have:y≠x:=fun e=>hj (fL hN e1 (e ▸ hi))
     exact .inl ⟨k,by simp [this,e]⟩
    ·exact .inr ⟨k,c,e,q.sameBut hs (I.cne y c e)⟩
  obtain ⟨I',g'⟩:=Rep.put (s':={ z.s with heap:=h',toks:=z.s.toks+1 }) x0 I hs (.inl rfl) ⟨oL,hoL,fun vs e=>by rw [hdL] at e;cases e⟩ rfl rfl vl il ⟨_,hn',lo⟩ fun y c e=>let ⟨v,q⟩:=I.ce y c e;⟨v,q.sameBut hs (I.cne y c e)⟩
  exact h _ _ hs ⟨.inl rfl,fun _=>rfl⟩ I' g'
 ·obtain ⟨c,hc⟩:=I.ok.ch x (.inl hk)
  obtain ⟨w',q0⟩:=I.ce x c hc
  refine wpAny_storeName_cell I.ok.kd hk hc q0 (fun h' hc' hs=>?_)
  have ⟨oc,hoc,hdc⟩:=hc'
  have lo:∀ (j:Nat) (y:Str) (w:Value),X.N[j]? = some y→(z.σ.set i (some u))[j]? = some (some w)→Vis X.env.scope y→j7 X.env h' m y w:=fun j y w e1 e2 e3=>by
   by_cases hj:j=i
   ·subst hj
    rw [hi] at e1;cases e1
    rw [List.getElem?_set_self hiσ] at e2;cases e2
    exact .inr ⟨.inl hk,c,hc,hc'⟩
   ·rw [List.getElem?_set_ne (Ne.symm hj)] at e2
    rcases hl j y w e1 e2 e3 with q | ⟨k,c',e,q⟩
    ·exact .inl q
    ·refine .inr ⟨k,c',e,q.sameBut hs ?_⟩
     rintro rfl
     exact hj (fL hN e1 (I.ok.ci _ _ _ e hc ▸ hi))
  have ce:∀ y c',X.env.cells.lookup y=some c'→∃ v,h'.IsCell c' v:=fun y c' e=>by
   by_cases hcc:c'=c
   ·subst hcc;exact ⟨_,hc'⟩
   ·obtain ⟨w2,q2⟩:=I.ce y c' e
    exact ⟨w2,q2.sameBut hs hcc⟩
  obtain ⟨I',g'⟩:=Rep.put (s':={ z.s with heap:=h' }) x0 I hs (.inr ⟨x,hc⟩) ⟨oc,hoc,fun vs e=>by rw [hdc] at e;cases e⟩ rfl rfl vl il ⟨m,hn.sameBut hs (Ne.symm (I.cne x c hc)),lo⟩ ce
  exact h _ _ hs ⟨.inr ⟨x,hc⟩,fun e=>by rw [show X.env.scope.names.lookup x=some .cell from hk] at e;cases e⟩ I' g'
theorem kE (hN:X.N.Nodup) (hi:X.N[i]? = some x) (hx:Loc X.env.scope x) (he:LE X e c) (hf:bb c=true→LF X e c) (hs:swapsWith e (some (.Name x pos')) pos.line X.env=pure false):LS X (.Assign [.Name x pos'] e pos) (.set i c):=fun z I nb=>by
 refine wpAny_Assign_Name ?_ hs
 cases f:bb c with
 | false=>
   refine (he false).gos .refl I rfl nb fun z1 d u y x0 I1 r e1=>bU (own:=false) x0 I1 hN hi hx r.rd fun s' a _ _ I' g'=>nxt (z1:={ z1 with t:=stV z1.t i d false,σ:=z1.σ.set i (some u),s:=s' }) g' I' ?_
   rw [e1];unfold kS;rw [f];rfl
 | true=>
   have nb1:X.ev false c z.t≠.bad:=fun q=>nb (show Out.go (X.ev false c z.t) _=_ by rw [q];rfl)
   refine wpAny_mono (hf f z I nb1) (fun u s' ⟨z1,d,q1,q2,y,I1,fv⟩=>?_) fun u s' h=>.of .refl h
   subst q1
   refine bU (own:=true) y.go I1 hN hi hx fv fun s' a _ _ I' g'=>nxt (z1:={ z1 with t:=stV z1.t i d true,σ:=z1.σ.set i (some u),s:=s' }) g' I' ?_
   show Out.go (X.ev false c z.t) _=_
   rw [q2]
   show am.nx (kS z1.t i d (bb c))=_
   unfold kS
   have ld:ui d=true:=by
    obtain ⟨_,_,_,_,t,_⟩:=fv
    cases d <;> first | rfl | cases t
   rw [f,ld];rfl
end
def aJ:Expr→Bool
 | .Starred ..=>false
 | .Set ..=>false
 | .Slice ..=>false
 | _=>true
section
variable {X:Cx} {z z' z0 z1:Z}
theorem vg {o:O} {hp:Hp} (q:ObR W ρ G hp (a,b) o) (e:∃ d:D,toO d=some o):∃ ob,hp a=some ob∧∀ vs,ob.data≠.fields vs:=by
 obtain ⟨d,e⟩:=e
 cases d <;> cases e
 ·obtain ⟨o,vs,_,q,⟨⟨n,rfl⟩,_⟩,_⟩:=q;exact ⟨_,q,nofun⟩
 ·obtain ⟨o,vs,_,_,q,⟨es,ep,_,w,_⟩,_⟩:=q;exact ⟨_,q,fun v z=>by rw [w] at z;cases z⟩
theorem Rep.ownw {s':Shared} {i:Nat} {d':D} {o':O} (I:Rep X z) (m:i∈z.t.ow) (ea:z.σ[i]? = some (some (.ref a))) (t:toO d'=some o') (sb:∀ b,b≠a→s'.heap.get? b=z.h b) (r:ObR X.W z.ρ z.G s'.heap.get? (a,a) o') (os:s'.os=z.s.os) (gs:s'.gens=z.s.gens) :
 Rep X { z with t:=⟨z.t.env.set i (some d'),z.t.ow,z.t.st⟩,s:=s' }∧Go X z { z with t:=⟨z.t.env.set i (some d'),z.t.ow,z.t.st⟩,s:=s' }:=by
 obtain ⟨f,oa,ha⟩:=I.oth ⟨i,m,ea⟩
 have nM:∀ {b},Mu z.ρ b→b≠a:=fun h e=>f.2.1 (e ▸ h)
 have nG:∀ {b o},z.G b=some o→b≠a:=fun h e=>by rw [e,f.1] at h;cases h
 have nL:∀ {b},Lc X b→b≠a:=fun h e=>f.2.2.2 (e ▸ h)
 have nf:∀ {b},b∈frs X.fr→b≠a:=fun h e=>f.2.2.1 (e ▸ h)
 obtain ⟨on,hn,_⟩:=vg r ⟨d',t⟩
 have hie:i<z.t.env.length:=by obtain ⟨d,_,_,e,_⟩:=I.eo i m;exact (List.getElem?_eq_some_iff.mp e).1
 have ck:∀ x c v,X.env.cells.lookup x=some c→z.s.heap.IsCell c v→s'.heap.IsCell c v:=fun x c v e ⟨o,q,d⟩=>⟨o,(sb c (nL (.inr ⟨x,e⟩))).trans q,d⟩
 have fu:s'.heap.FunFrames X.base X.fr:=by
  have:∀ {l:List Env},(∀ b∈frs l,b≠a)→z.s.heap.FunFrames X.base l→s'.heap.FunFrames X.base l:=fun {l}=>by
   induction l with
   | nil=>exact fun _ _=>trivial
   | cons v r ih=>
     intro hs ⟨k,⟨L,o,e1,e2,e3,e4⟩,q⟩
     have hm:L∈frs (v :: r):=by unfold frs;rw [List.filterMap_cons,e1];exact List.mem_cons_self
     exact ⟨k,⟨L,o,e1,e2,(sb L (hs L hm)).trans e3,e4⟩,ih (fun b hb=>hs b (by unfold frs;rw [List.filterMap_cons,e1];exact List.mem_cons_of_mem _ hb)) q⟩
  exact this (fun b h=>nf h) I.fu
 refine ⟨⟨⟨I.md,I.fm,I.hd,I.bs,fun b o e=>(sb b (nG e)).trans (I.gh b o e),I.rl,I.rn,I.rg,fun n o p h1 h2=>(I.ob n o p h1 h2).mono (List.prefix_refl _) (.refl _) fun b hb o e=>(sb b (nM ⟨p,List.mem_of_getElem? h2,hb⟩)).trans e,fu,I.ff,by show AllBare s'.gens;rw [gs];exact I.br,os.trans I.os⟩,I.ok,?_,fun x c e=>let ⟨v,q⟩:=I.ce x c e;⟨v,ck x c v e q⟩,I.fl,by show (z.t.env.set i (some d')).length=_;rw [List.length_set];exact I.el,I.sl,fun j d n e=>?_,fun j mj=>?_,I.od⟩,⟨List.prefix_refl _,.refl _,fun _ _ e=>.inl e,fun _ m=>.inl m,fun b o e=>?_,fun b o e _ w _=>(sb b fun q=>w (.inl (q ▸ ⟨i,m,ea⟩))).trans e,fun b o e _ w _=>⟨o.slots,(sb b fun q=>w (.inl (q ▸ ⟨i,m,ea⟩))).trans e⟩⟩,fun b ⟨j,mj,e⟩=>.inl ⟨j,mj,e⟩⟩
 ·obtain ⟨mm,⟨oL,es,ep,q,r⟩,hl⟩:=I.lo
  exact ⟨mm,⟨oL,es,ep,(sb _ (nL (.inl rfl))).trans q,r⟩,fun j x w e1 e2 e3=>cO (fun c v e q=>ck x c v e q) (hl j x w e1 e2 e3)⟩
 ·have q:j≠i:=fun q=>n (q ▸ m)
  exact I.en j d n ((List.getElem?_set_ne (Ne.symm q)).symm.trans e)
 ·by_cases q:j=i
  ·subst q;exact ⟨d',a,o',List.getElem?_set_self hie,ea,t,r,f⟩
  ·obtain ⟨d,b,o,h1,h2,h3,r,f⟩:=I.eo j mj
   have nb:b≠a:=fun w=>q (I.od j i b mj m h2 (w ▸ ea))
   exact ⟨d,b,o,(List.getElem?_set_ne (Ne.symm q)).trans h1,h2,h3,r.mono (List.prefix_refl _) (.refl _) fun c hc o e=>(sb c (by rcases hc with rfl | rfl <;> exact nb)).trans e,f⟩
 ·by_cases q:b=a
  ·subst q;exact ⟨on,hn⟩
  ·exact ⟨o,(sb b q).trans e⟩
theorem Rep.stw {s':Shared} {n:Nat} {o':O} {p:Addr×Addr} {e:Addr} (I:Rep X z) (ep:z.ρ[n]? = some p) (he:e=p.1∨e=p.2) (sb:∀ b,b≠e→s'.heap.get? b=z.h b) (r:ObR X.W z.ρ z.G s'.heap.get? p o') (os:s'.os=z.s.os) (gs:s'.gens=z.s.gens) :
 Rep X { z with t:=⟨z.t.env,z.t.ow,z.t.st.set n o'⟩,s:=s' }∧Go X z { z with t:=⟨z.t.env,z.t.ow,z.t.st.set n o'⟩,s:=s' }:=by
 have mu:Mu z.ρ e:=⟨p,List.mem_of_getElem? ep,he⟩
 have nG:∀ {b o},z.G b=some o→b≠e:=fun h q=>by rw [q,I.rg e mu] at h;cases h
 have nL:∀ {b},Lc X b→b≠e:=fun h q=>(I.fl _ h).2 (q ▸ mu)
 have nf:∀ {b},b∈frs X.fr→b≠e:=fun h q=>(I.ff _ h).2 (q ▸ mu)
 have nO:∀ {b},Own z b→b≠e:=fun h q=>(I.oth h).1.2.1 (q ▸ mu)
 have ck:∀ x c v,X.env.cells.lookup x=some c→z.s.heap.IsCell c v→s'.heap.IsCell c v:=fun x c v e ⟨o,q,d⟩=>⟨o,(sb c (nL (.inr ⟨x,e⟩))).trans q,d⟩
 have fu:s'.heap.FunFrames X.base X.fr:=by
  have:∀ {l:List Env},(∀ b∈frs l,b≠e)→z.s.heap.FunFrames X.base l→s'.heap.FunFrames X.base l:=fun {l}=>by
   induction l with
   | nil=>exact fun _ _=>trivial
   | cons v r ih=>
     intro hs ⟨k,⟨L,o,e1,e2,e3,e4⟩,q⟩
     have hm:L∈frs (v :: r):=by unfold frs;rw [List.filterMap_cons,e1];exact List.mem_cons_self
     exact ⟨k,⟨L,o,e1,e2,(sb L (hs L hm)).trans e3,e4⟩,ih (fun b hb=>hs b (by unfold frs;rw [List.filterMap_cons,e1];exact List.mem_cons_of_mem _ hb)) q⟩
  exact this (fun b h=>nf h) I.fu
 obtain ⟨⟨o1,h1⟩,⟨o2,h2⟩⟩:=r.th
 have hn:n<z.t.st.length:=by rw [← I.rl];exact (List.getElem?_eq_some_iff.mp ep).1
 refine ⟨⟨⟨I.md,I.fm,I.hd,I.bs,fun b o w=>(sb b (nG w)).trans (I.gh b o w),by show _=(z.t.st.set n o').length;rw [List.length_set];exact I.rl,I.rn,I.rg,fun k o q h1 h2=>?_,fu,I.ff,by show AllBare s'.gens;rw [gs];exact I.br,os.trans I.os⟩,I.ok,?_,fun x c w=>let ⟨v,q⟩:=I.ce x c w;⟨v,ck x c v w q⟩,I.fl,I.el,I.sl,I.en,fun j mj=>?_,I.od⟩,⟨List.prefix_refl _,.refl _,fun _ _ w=>.inl w,fun _ m=>.inl m,fun b o w=>?_,fun b o w q _ _=>(sb b fun z=>q (z ▸ mu)).trans w,fun b o w q _ _=>⟨o.slots,(sb b fun z=>q (z ▸ mu)).trans w⟩⟩,fun b w=>.inl w⟩
 ·by_cases c:k=n
  ·subst c
   have h1:(z.t.st.set k o')[k]? = some o:=h1
   rw [List.getElem?_set_self hn] at h1;cases h1
   rw [show z.ρ[k]? = some q from h2] at ep;cases ep
   exact r
  ·exact (I.ob k o q ((List.getElem?_set_ne (Ne.symm c)).symm.trans h1) h2).mono (List.prefix_refl _) (.refl _) fun b hb o w=>(sb b fun w'=>c (I.rn k n q p b h2 ep hb (w' ▸ he))).trans w
 ·obtain ⟨mm,⟨oL,es,ep,q,r⟩,hl⟩:=I.lo
  exact ⟨mm,⟨oL,es,ep,(sb _ (nL (.inl rfl))).trans q,r⟩,fun j x w e1 e2 e3=>cO (fun c v e q=>ck x c v e q) (hl j x w e1 e2 e3)⟩
 ·obtain ⟨d,b,o,h1,h2,h3,r,f⟩:=I.eo j mj
  exact ⟨d,b,o,h1,h2,h3,r.mono (List.prefix_refl _) (.refl _) fun c hc o w=>(sb c (by rcases hc with rfl | rfl <;> exact nO ⟨j,mj,h2⟩)).trans w,f⟩
 ·by_cases q:b=e
  ·rcases he with w | w
   ·exact ⟨o1,by rw [q,w];exact h1⟩
   ·exact ⟨o2,by rw [q,w];exact h2⟩
  ·exact ⟨o,(sb b q).trans w⟩
structure M1 (X:Cx) (o:Expr) (m:Str) (apos:Pos) (e:Expr) (cpos:Pos):Prop where
 base:attributeBase o m X.env (eval o X.env)=eval o X.env
 few:((backTo cpos (starEach [e] X.env)).all (fun x=>!x.1) && (backToKw cpos (keywordEach [] X.env)).all (fun x=>x.1.isSome) && decide (([e]:List Expr).length+([]:List Keyword).length+(if ([]:List Keyword).isEmpty then 0 else 1)<30))=true
 line:(apos.endLine == cpos.line)=true
 trees:backTo cpos (starEach [e] X.env) = [(false,eval e X.env)]
theorem l6 {i:Nat} (I:Rep X z) (m:i∈z.t.ow) (e:z.t.env[i]? = some (some (.lst l))):∃ a vs n,z.σ[i]? = some (some (.ref a))∧z.h a=some { cls:=.type "list",data:=.seq vs.toArray n }∧RDs X.W z.ρ z.G l vs:=by
 obtain ⟨d,a,o,h1,h2,h3,r,f⟩:=I.eo i m
 rw [e] at h1;cases h1;cases h3
 obtain ⟨o,vs,_,q,⟨⟨n,rfl⟩,_⟩,r⟩:=r
 exact ⟨a,vs,n,h2,q,r⟩
theorem iV {z:Z} {vs ws:List Value} {f:Array Value→Array Value} (e:z.h a=some { cls:=.type "list",data:=.seq vs.toArray n }) (hf:f vs.toArray=ws.toArray) (hz:ws.length≤sizeLine):(∃ o,(z.s.heap.update a (Obj.mapSeq f)).get? a=some o∧LsO o ws)∧∀ b,b≠a→(z.s.heap.update a (Obj.mapSeq f)).get? b=z.h b:=
 ⟨⟨_,Heap.get?_update_self _ e rfl,⟨_,by simp only [Obj.mapSeq,hf];rfl⟩,hz⟩,fun b n=>Heap.get?_update_other _ _ (Ne.symm n)⟩
theorem uT {i:Nat} {x:Str} (hN:X.N[i]? = some x) (hv:Vis X.env.scope x) (hd:(x == ("__debug__":Str))=false) (hcd:(x == ("__classdict__":Str))=false) (he:LE X e c) (m:M1 X (.Name x p) "append" apos e cpos):LS X (.Expr (.Call (.Attribute (.Name x p) "append" apos) [e] [] cpos) pos) (.app i c):=fun z I nb=>by
 have e0:X.ex (.app i c) z.t=(if z.t.ow.contains i && isLst z.t.env[i]? then (X.ev false c z.t).go fun d s=>if s.ow.contains i then (match s.env[i]? with
  | some (some (.lst l))=>if l.length<100000 then .nx ⟨s.env.set i (some (.lst (l ++ [d]))),s.ow,s.st⟩ else .bad
  | _=>.bad) else .bad else .bad):=rfl
 by_cases c0:(z.t.ow.contains i && isLst z.t.env[i]?)=true
 ·rw [if_pos c0] at e0
  rw [Bool.and_eq_true] at c0
  have mi:i∈z.t.ow:=by simpa using c0.1
  obtain ⟨l,el⟩:∃ l,z.t.env[i]? = some (some (.lst l)):=by
   have:=c0.2
   unfold isLst at this
   split at this
   ·rename_i l q;exact ⟨l,q⟩
   ·cases this
  obtain ⟨a,vs,n,es,ha,r⟩:=l6 I mi el
  refine wpAny_Expr_any (wpAny_Call_method m.base m.few m.line PySem.F.plainAttrs_list PySem.F.slot_list_append PySem.F.type_list_append (cE I hN hv es ⟨⟨_,ha,rfl⟩,fun b q=>(by cases q;exact ⟨_,ha,rfl⟩),?_⟩ hd hcd)) I.quiet rfl
  rw [m.trees]
  refine Calls.callWith_builtin rfl (Calls.evalArgs_plain (Calls.spliced_cons ((he false).gos .refl I e0 nb fun z1 d u y x1 I1 r1 e1=>Calls.spliced_nil ?_)))
  by_cases c1:z1.t.ow.contains i=true
  ·rw [if_pos c1] at e1
   have m1:i∈z1.t.ow:=by simpa using c1
   have el1:z1.t.env[i]? = some (some (.lst l)):=by rw [y.en];exact el
   rw [el1] at e1
   dsimp only at e1
   obtain ⟨a',vs,n,es',ha,r⟩:=l6 I1 m1 el1
   rw [y.sg,es] at es';cases es'
   by_cases c2:l.length<100000
   ·rw [if_pos c2] at e1
    have hz:vs.length<100000:=by rw [← r.len];exact c2
    refine call_meets PySem.F.slot_list_append ⟨_,ha,rfl⟩ PySem.F.entry_list_append (PySem.F.args_list_append_2 _ _) (PySem.list_append a vs.toArray n u (by rw [List.size_toArray];exact Nat.le_of_lt (Nat.lt_of_lt_of_le hz (big (Nat.le_refl _))))) ⟨ha,?_⟩
    obtain ⟨⟨o1,u1,u3⟩,u2⟩:=iV (f:=(·.push u)) (ws:=vs ++ [u]) ha (by simp) (by rw [List.length_append];exact big (by simp;omega))
    obtain ⟨I2,g2⟩:=I1.ownw (s':={ z1.s with heap:=z1.s.heap.update a (Obj.mapSeq (·.push u)) }) (d':=.lst (l ++ [d])) m1 (by rw [y.sg];exact es) rfl u2 ⟨o1,vs ++ [u],rfl,u1,u3,r.app (.cons r1.rd rfl)⟩ rfl rfl
    exact nxt (x1.trans g2) I2 e1
   ·rw [if_neg c2] at e1;exact absurd e1 nb
  ·rw [if_neg c1] at e1;exact absurd e1 nb
 ·rw [if_neg c0] at e0;exact absurd e0 nb
theorem mh:∀ {ks} {ds} {vs} {k} {d} {v},ks.length=ds.length→RDs W ρ G ds vs→RD W ρ G d v→∃ us,RDs W ρ G (eJ ks ds k d) us∧(ks.zip vs).map (fun kv=>if kv.1=k then (kv.1,v) else kv)=ks.zip us
 | [],[],vs,k,d,v,_,h,_=>⟨vs,h,rfl⟩
 | [],_ :: _,_,_,_,_,l,_,_=>by cases l
 | _ :: _,[],_,_,_,_,l,_,_=>by cases l
 | q :: ks,e :: ds,vs,k,d,v,l,⟨u,r,ev,h1,h2⟩,rd=>by
   subst ev
   obtain ⟨us,h3,h4⟩:=mh (k:=k) (Nat.succ.inj l) h2 rd
   by_cases c:q=k
   ·refine ⟨v :: us,⟨v,us,rfl,by rw [if_pos c];exact rd,h3⟩,?_⟩
    show (if q=k then (q,v) else (q,u)) :: (ks.zip r).map _=(q,v) :: ks.zip us
    rw [if_pos c,h4]
   ·refine ⟨u :: us,⟨u,us,rfl,by rw [if_neg c];exact h1,h3⟩,?_⟩
    show (if q=k then (q,v) else (q,u)) :: (ks.zip r).map _=(q,u) :: ks.zip us
    rw [if_neg c,h4]
theorem dM:∀ {ks} {ds} {k} {d},(eJ ks ds k d).length=ds.length
 | [],_,_,_=>by unfold eJ;rfl
 | _ :: _,[],_,_=>by unfold eJ;rfl
 | _ :: ks,_ :: ds,k,d=>by show (eJ ks ds k d).length+1=ds.length+1;rw [dM]
theorem gF:∀ {ks:List Key} {vs:List Value} {k:Key},ks.length=vs.length→((ks.zip vs).any fun kv=>decide (kv.1=k))=ks.any fun q=>decide (q=k)
 | [],_,_,_=>rfl
 | _ :: _,[],_,l=>by cases l
 | q :: ks,v :: vs,k,l=>by
   show (decide (q=k) || (ks.zip vs).any _)=(decide (q=k) || ks.any _)
   rw [gF (Nat.succ.inj l)]
theorem nz (l:ks.length=ds.length) (r:RDs W ρ G ds vs) (rd:RD W ρ G d v):∃ us,stored (ks.zip vs) k v=(bp ks ds k d).1.zip us∧(bp ks ds k d).1.length=(bp ks ds k d).2.length∧RDs W ρ G (bp ks ds k d).2 us∧(bp ks ds k d).1.length≤ks.length+1:=by
 have lv:ks.length=vs.length:=l.trans r.len
 unfold stored bp
 rw [gF lv]
 split
 ·obtain ⟨us,h1,h2⟩:=mh (k:=k) l r rd
  exact ⟨us,h2,by show ks.length=(eJ ks ds k d).length;rw [dM,l],h1,Nat.le_succ _⟩
 ·exact ⟨vs ++ [v],by rw [List.zip_append lv];rfl,by simp [l],r.app (.cons rd rfl),by simp⟩
theorem pS {A:Around} {E:Value→Shared→Prop} {Q:Unit→Shared→Prop} {x y k d:D} {o:O} {kv v:Value} (t:toO x=some o) (r:ObR X.W z.ρ z.G z.h (a,b) o) (rk:CR X.W z k kv) (rd:RD X.W z.ρ z.G d v) (e:kP x k d=some y)
 (h:∀ s' o',toO y=some o'→(∀ b,b≠a→s'.heap.get? b=z.h b)→ObR X.W z.ρ z.G s'.heap.get? (a,b) o'→s'.os=z.s.os→s'.gens=z.s.gens→Q () s'):wpAny X.M A (setItem (.ref a) kv v) Q E z.s:=by
 cases x <;> cases t
 ·rename_i l
  obtain ⟨o,vs,hb,ho,⟨⟨n,rfl⟩,hz⟩,r⟩:=r
  cases k with
  | int i=>
    obtain ⟨tk,rfl⟩:=(rk:RD X.W z.ρ z.G (.int i) kv)
    obtain ⟨l',e1,rfl⟩:=Option.map_eq_some_iff.mp (show (pY l i d).map D.lst=some y from e)
    obtain ⟨j,e2,rfl⟩:=Option.map_eq_some_iff.mp (show (ixN l.length i).map (fun j=>l.set j d)=some l' from e1)
    obtain ⟨h1,h2,h3,h4⟩:=lM e2
    have hl:=r.len
    have hn:=iw
    obtain ⟨⟨o1,u1,u3⟩,u2⟩:=iV (z:=z) (f:=(·.setIfInBounds j v)) (ws:=vs.set j v) ho (by simp) (by rw [List.length_set];exact hz)
    have q:Q () { z.s with heap:=z.s.heap.update a (Obj.mapSeq (·.setIfInBounds j v)) }:=h _ _ rfl u2 ⟨o1,_,hb,u1,u3,r.set j rd⟩ rfl rfl
    by_cases h0:0≤i
    ·have hk:i.toNat=j:=by rw [seqIndex_of h0 h4] at h1;exact Option.some.inj h1
     exact PySem.W.ki_setAt ho h0 (by omega) (by rw [List.size_toArray,← hl];exact h4) (by rw [hk];exact q)
    ·have hk:(i+(vs.toArray.size:Int)).toNat=j:=by
      rw [seqIndex_neg (by omega) h3] at h1
      rw [List.size_toArray,← hl]
      exact Option.some.inj h1
     exact PySem.W.ki_setBack ho (by omega) (by rw [List.size_toArray,← hl];exact h3) (by omega) (by rw [hk];exact q)
  | _=>cases e
 ·rename_i ks ds
  obtain ⟨o,vs,hb,hs,ho,dc,hl,r⟩:=r
  obtain ⟨kk,e1,e2⟩:=Option.bind_eq_some_iff.mp (show ((bo k).bind fun k=>if ks.length<100000 then some (D.dic (bp ks ds k d).1 (bp ks ds k d).2) else none)=some y from e)
  by_cases c:ks.length<100000
  ·rw [if_pos c] at e2
   cases e2
   obtain ⟨us,h3,h4,h5,h6⟩:=nz (k:=kk) hl r rd
   refine wpAny_setItem_pairs (hsz:=by obtain ⟨_,_,_,_,_,_,_,w⟩:=dc;exact w) (dX e1 rk) (dc.of ho) fun h' dd hs'=>?_
   rw [h3] at dd
   obtain ⟨o1,es,ep,w1,w2,w3,w4,w5,w6⟩:=dd
   exact h _ _ rfl hs'.2 ⟨o1,us,hb,hs,w1,⟨es,ep,w2,w3,w4,w5,w6,by rw [List.length_zip];exact big (by omega)⟩,h4,h5⟩ rfl rfl
  ·rw [if_neg c] at e2;cases e2
theorem vv {o o':O} (e:iL o k d=some o'):∃ x y,toO x=some o∧kP x k d=some y∧toO y=some o':=by
 cases o with
 | lst l=>
   cases k with
   | int i=>obtain ⟨l',e1,rfl⟩:=Option.map_eq_some_iff.mp (show (pY l i d).map O.lst=some o' from e);exact ⟨.lst l,.lst l',rfl,by show (pY l i d).map D.lst=_;rw [e1];rfl,rfl⟩
   | _=>cases e
 | dic ks ds=>
   obtain ⟨kk,e1,e2⟩:=Option.bind_eq_some_iff.mp (show ((bo k).bind fun k=>if ks.length<100000 then some (O.dic (bp ks ds k d).1 (bp ks ds k d).2) else none)=some o' from e)
   by_cases c:ks.length<100000
   ·rw [if_pos c] at e2;cases e2
    exact ⟨.dic ks ds,.dic (bp ks ds kk d).1 (bp ks ds kk d).2,rfl,by show ((bo k).bind fun k=>if ks.length<100000 then some (D.dic (bp ks ds k d).1 (bp ks ds k d).2) else none)=_;rw [e1];exact if_pos c,rfl⟩
   ·rw [if_neg c] at e2;cases e2
 | ins _ _=>cases e
theorem my (h:aJ i=true):∀ v,assign (o.Subscript i pos) env v=(do
 let ov ← holding [v] (eval o env)
 let iv ← holding [v,ov] (eval i env)
 standAt pos
 holding [v,ov,iv] (setItem ov iv v)
 release [v,ov,iv] []):=by
 cases i <;> first | (intro v;rfl) | cases h
theorem pJ :swapsWithSole [.Subscript o i p] e l env=pure false:=by
 cases e <;> rfl
theorem kK :swappedStores [.Subscript o i p] e env=pure none:=by
 cases e <;> rfl
theorem qw {K:Value→Shared→Prop} {E:Value→Shared→Prop} {Q:Flow→Shared→Prop} {s:Shared} (hn:aJ eb=true) (h:wpAny X.M X.A (eval ee X.env) K E s) (k:∀ v s',K v s'→wpAny X.M X.A (eval eo X.env) (fun ov s2=>wpAny X.M X.A (eval eb X.env) (fun iv s3=>wpAny X.M X.A (setItem ov iv v) (fun _ s4=>Q .next s4) E s3) E s2) E s'):wpAny X.M X.A (exec (.Assign [.Subscript eo eb p2] ee pos) X.env) Q E s:=by
 refine wpAny_Assign_stores (thn h fun v s1 q=>?_) pJ kK
 show wpAny _ _ (assign (eo.Subscript eb p2) X.env v) _ _ _
 rw [my hn]
 exact wpAny_bind (wpAny_holding (thn (k v s1 q) fun ov s2 q=>wpAny_bind (wpAny_holding (thn q fun iv s3 q=>wpAny_bind (wpAny_standAt (wpAny_bind (wpAny_holding (thn q fun _ s4 q=>wpAny_release q))))))))
theorem vw {n:Nat} {kv v:Value} {p:Addr×Addr} {E:Value→Shared→Prop} {o:am} (x:Go X z0 z) (I:Rep X z) (ep:z.ρ[n]? = some p) (rk:CR X.W z k kv) (rd:RD X.W z.ρ z.G d v) (e:o=(match (z.t.st[n]?).bind fun o=>iL o k d with | some o=>.nx ⟨z.t.env,z.t.ow,z.t.st.set n o⟩ | none=>.bad)) (nb:o≠.bad):wpAny X.M X.A (setItem (.ref p.1) kv v) (fun _ s4=>Ps X z0 o .next s4) E z.s:=by
 cases q:(z.t.st[n]?).bind fun o=>iL o k d with
 | none=>rw [q] at e;exact absurd e nb
 | some o'=>
   rw [q] at e
   obtain ⟨ob,q1,q2⟩:=Option.bind_eq_some_iff.mp q
   obtain ⟨x1,y1,t1,t2,t3⟩:=vv q2
   have r:=I.ob n ob p q1 ep
   have hp:p=(p.1,p.2):=rfl
   refine pS t1 (hp ▸ r) rk rd t2 fun s' o1 t4 sb r' os gs=>?_
   rw [t3] at t4;cases t4
   obtain ⟨I2,g2⟩:=I.stw ep (.inl rfl) sb r' os gs
   exact nxt (z1:={ z with t:=⟨z.t.env,z.t.ow,z.t.st.set n o'⟩,s:=s' }) (x.trans g2) I2 e
theorem rN {i:Nat} {x:Str} (hN:X.N[i]? = some x) (hv:Vis X.env.scope x) (hd:(x == ("__debug__":Str))=false) (hcd:(x == ("__classdict__":Str))=false) (hn:aJ eb=true) (hb:LE X eb b) (he:LE X ee e):LS X (.Assign [.Subscript (.Name x p) eb p2] ee pos) (.put (.v i) b e):=fun z I nb=>by
 refine qw hn ((he false).gos (K:=fun v s'=>∃ z1 d,z1.s=s'∧Go X z z1∧Rep X z1∧RD X.W z1.ρ z1.G d v∧X.ex (.put (.v i) b e) z.t=(match z1.t.env[i]? with
  | some (some x)=>(X.ev true b z1.t).go fun k s=>(match x with
    | .ref n=>(match (s.st[n]?).bind fun o=>iL o k d with | some o=>.nx ⟨s.env,s.ow,s.st.set n o⟩ | none=>.bad)
    | x=>if s.ow.contains i then (match kP x k d with | some y=>.nx ⟨s.env.set i (some y),s.ow,s.st⟩ | none=>.bad) else .bad)
  | _=>.bad)) .refl I rfl nb fun z1 d u y x1 I1 r1 e1=>⟨z1,d,rfl,x1,I1,r1.rd,e1⟩) fun v s' ⟨z1,d,q,x1,I1,r1,e1⟩=>?_
 subst q
 cases q:z1.t.env[i]? with
 | none=>rw [q] at e1;exact absurd e1 nb
 | some o0=>
   cases o0 with
   | none=>rw [q] at e1;exact absurd e1 nb
   | some x0=>
     rw [q] at e1
     obtain ⟨u,hu,_⟩:=I1.slot q
     refine cE I1 hN hv hu ((hb true).gos x1 I1 e1 nb fun z2 kd kv y2 x2 I2 r2 e2=>?_) hd hcd
     have q2:z2.t.env[i]? = some (some x0):=by rw [y2.en];exact q
     have hu2:z2.σ[i]? = some (some u):=by rw [y2.sg];exact hu
     have own:∀ x1:D,x0=x1→X.ex (.put (.v i) b e) z.t=(if z2.t.ow.contains i then (match kP x1 kd d with | some y=>.nx ⟨z2.t.env.set i (some y),z2.t.ow,z2.t.st⟩ | none=>.bad) else .bad)→wpAny X.M X.A (setItem u kv v) (fun _ s4=>Ps X z (X.ex (.put (.v i) b e) z.t) .next s4) (PxS X z (X.ex (.put (.v i) b e) z.t)) z2.s:=fun x1 ex e3=>by
      subst ex
      by_cases c:z2.t.ow.contains i=true
      ·rw [if_pos c] at e3
       have m2:i∈z2.t.ow:=by simpa using c
       obtain ⟨d0,a,o,h1,h2,h3,r,f⟩:=I2.eo i m2
       rw [q2] at h1;cases h1
       rw [hu2] at h2;cases h2
       cases q3:kP x0 kd d with
       | none=>rw [q3] at e3;exact absurd e3 nb
       | some y=>
         rw [q3] at e3
         refine pS h3 r (r2.rb.cr0 I2) (r1.st y2.st) q3 fun s' o' t sb r' os gs=>?_
         obtain ⟨I3,g3⟩:=I2.ownw (s':=s') m2 hu2 t sb r' os gs
         exact nxt (z1:={ z2 with t:=⟨z2.t.env.set i (some y),z2.t.ow,z2.t.st⟩,s:=s' }) (x2.trans g3) I3 e3
      ·rw [if_neg c] at e3;exact absurd e3 nb
     cases x0 with
     | ref n=>
       have nm:i ∉ z2.t.ow:=fun m=>by
        obtain ⟨d0,a,o,h1,h2,h3,_⟩:=I2.eo i m
        rw [q2] at h1;cases h1;cases h3
       obtain ⟨u',hu',p,ep,rfl⟩:=I2.en i _ nm q2
       rw [hu2] at hu';cases hu'
       exact vw x2 I2 ep (r2.rb.cr0 I2) (r1.st y2.st) e2 nb
     | _=>exact own _ rfl e2
end
section
variable {X:Cx} {z z' z0 z1:Z} {an:Nat→Str}
theorem Rep.snoc {s':Shared} {p:Addr×Addr} {o:O} (I:Rep X z) (g:Gr z.s s') (hp:z.h p.1=none∧z.h p.2=none) (r:ObR X.W (z.ρ ++ [p]) z.G s'.heap.get? p o):Rep X { z with ρ:=z.ρ ++ [p],t:=⟨z.t.env,z.t.ow,z.t.st ++ [o]⟩,s:=s' }∧Ee X z { z with ρ:=z.ρ ++ [p],t:=⟨z.t.env,z.t.ow,z.t.st ++ [o]⟩,s:=s' }:=by
 obtain ⟨H,S⟩:=HR.snoc (w:=Own z) I.toHR g hp r
 have pre:z.ρ <+: z.ρ ++ [p]:=List.prefix_append _ _
 have nm:∀ {a},(∃ o,z.h a=some o)→¬ Mu z.ρ a→¬ Mu (z.ρ ++ [p]) a:=fun ⟨o,e⟩ n w=>(iA.mp w).elim n fun w=>by
  rcases w with w | w
  ·rw [w,hp.1] at e;cases e
  ·rw [w,hp.2] at e;cases e
 have sl:∀ b o,z.s.heap.get? b=some o→∃ sl,s'.heap.get? b=some { o with slots:=sl }:=fun b o e=>⟨o.slots,g.k b o e⟩
 refine ⟨⟨H,I.ok,?_,fun x c e=>let ⟨v,q⟩:=I.ce x c e;⟨v,eM sl q⟩,fun a l=>⟨(I.fl a l).1,nm (I.lth l) (I.fl a l).2⟩,I.el,I.sl,fun i d n e=>let ⟨u,q,r⟩:=I.en i d n e;⟨u,q,r.mono pre (.refl _)⟩,fun i m=>?_,I.od⟩,S,rfl,rfl,fun _ h=>h⟩
 ·obtain ⟨m,hn,hl⟩:=I.lo
  exact ⟨m,tw sl hn,fun i x u h1 h2 h3=>cO (fun c v _ q=>eM sl q) (hl i x u h1 h2 h3)⟩
 ·obtain ⟨d,a,o,h1,h2,h3,r,f⟩:=I.eo i m
  exact ⟨d,a,o,h1,h2,h3,r.mono pre (.refl _) fun b _ o e=>g.k b o e,f.1,nm r.th.1 f.2.1,f.2.2⟩
theorem pF (I:HR X z):(z.ρ ++ [p])[z.t.st.length]? = some p:=by rw [List.getElem?_append_right (by rw [I.rl];exact Nat.le_refl _),I.rl,Nat.sub_self];rfl
theorem mv {y:Value}:∀ {nm:List Str} {vs:List Value} {j:Nat},nm.Nodup→nm[j]? = some f→j<vs.length→∀ g,(nm.zip (vs.set j y)).lookup g=if g=f then some y else (nm.zip vs).lookup g
 | [],_,_,_,h,_,_=>by simp at h
 | _ :: _,[],_,_,_,h,_=>by simp at h
 | n :: nm,v :: vs,0,nd,h,_,g=>by
   have e:n=f:=by simpa using h
   subst e
   show (match g == n with | true=>some y | false=>(nm.zip vs).lookup g)=if g=n then some y else (match g == n with | true=>some v | false=>(nm.zip vs).lookup g)
   by_cases c:g=n
   ·rw [if_pos c,beq_iff_eq.mpr c]
   ·rw [if_neg c,beq_eq_false_iff_ne.mpr c]
 | n :: nm,v :: vs,j+1,nd,h,hl,g=>by
   have h':nm[j]? = some f:=by simpa using h
   have ne:n≠f:=fun z=>by subst z;exact (List.nodup_cons.mp nd).1 (List.mem_of_getElem? h')
   have ih:=mv (y:=y) (List.nodup_cons.mp nd).2 h' (by simpa using hl) g
   show (match g == n with | true=>some v | false=>(nm.zip (vs.set j y)).lookup g)=if g=f then some y else (match g == n with | true=>some v | false=>(nm.zip vs).lookup g)
   by_cases c:g=n
   ·rw [if_neg fun w=>ne (c ▸ w),beq_iff_eq.mpr c]
   ·rw [beq_eq_false_iff_ne.mpr c];exact ih
theorem j5 {y:Value}:∀ {nm:List Str} {vs:List Value},nm.Nodup→nm[vs.length]? = some f→∀ g,(nm.zip (vs ++ [y])).lookup g=if g=f then some y else (nm.zip vs).lookup g
 | [],_,_,h,_=>by simp at h
 | n :: nm,[],nd,h,g=>by
   have e:n=f:=by simpa using h
   subst e
   rw [List.nil_append,List.zip_cons_cons,List.zip_nil_right,List.zip_nil_right]
   show (match g == n with | true=>some y | false=>none)=if g=n then some y else none
   by_cases c:g=n
   ·rw [if_pos c,beq_iff_eq.mpr c]
   ·rw [if_neg c,beq_eq_false_iff_ne.mpr c]
 | n :: nm,v :: vs,nd,h,g=>by
   have h':nm[vs.length]? = some f:=by simpa using h
   have ne:n≠f:=fun z=>by subst z;exact (List.nodup_cons.mp nd).1 (List.mem_of_getElem? h')
   have ih:=j5 (y:=y) (List.nodup_cons.mp nd).2 h' g
   show (match g == n with | true=>some v | false=>(nm.zip (vs ++ [y])).lookup g)=if g=f then some y else (match g == n with | true=>some v | false=>(nm.zip vs).lookup g)
   by_cases c:g=n
   ·rw [if_neg fun w=>ne (c ▸ w),beq_iff_eq.mpr c]
   ·rw [beq_eq_false_iff_ne.mpr c];exact ih
theorem sq (h:dN Γ (.ins c l) f d=some o):∃ k,Γ.cl[c]? = some k∧k.at_.length<1000∧((k.at_.idxOf f<l.length∧o = .ins c (l.set (k.at_.idxOf f) d))∨(k.at_.idxOf f=l.length∧k.at_.idxOf f<k.at_.length∧o = .ins c (l ++ [d]))):=by
 have h:((Γ.cl[c]?).bind fun k=>if k.at_.length<1000 then (if k.at_.idxOf f<l.length then some (O.ins c (l.set (k.at_.idxOf f) d)) else if k.at_.idxOf f=l.length∧k.at_.idxOf f<k.at_.length then some (.ins c (l ++ [d])) else none) else none)=some o:=h
 obtain ⟨k,hk,h⟩:=Option.bind_eq_some_iff.mp h
 refine ⟨k,hk,?_⟩
 by_cases z0:k.at_.length<1000
 ·rw [if_pos z0] at h
  refine ⟨z0,?_⟩
  by_cases z:k.at_.idxOf f<l.length
  ·rw [if_pos z] at h;cases h;exact .inl ⟨z,rfl⟩
  ·rw [if_neg z] at h
   by_cases z2:k.at_.idxOf f=l.length∧k.at_.idxOf f<k.at_.length
   ·rw [if_pos z2] at h;cases h;exact .inr ⟨z2.1,z2.2,rfl⟩
   ·rw [if_neg z2] at h;cases h
 ·rw [if_neg z0] at h;cases h
theorem vC (T:bY X an) (I:Rep X z) {n f:Nat} {p:Addr×Addr} {d:D} {v:Value} {o o':O} {A:Around} {Q:Unit→Shared→Prop} {E:Value→Shared→Prop} (ep:z.ρ[n]? = some p) (rd:RD X.W z.ρ z.G d v) (q:z.t.st[n]? = some o) (e:dN X.Γ o f d=some o')
 (h:∀ s',Rep X { z with t:=⟨z.t.env,z.t.ow,z.t.st.set n o'⟩,s:=s' }→Go X z { z with t:=⟨z.t.env,z.t.ow,z.t.st.set n o'⟩,s:=s' }→Q () s'):wpAny X.M A (setAttr (.ref p.1) (an f) v) Q E z.s:=by
 have ob:=I.ob n o p q ep
 cases o with
 | ins c l=>
   obtain ⟨k,hk,h1000,alt⟩:=sq e
   obtain ⟨i',vs,w1,w2,w3,w4,w5⟩:=ob
   obtain ⟨i,C⟩:=T c k hk
   rw [C.ci] at w1
   have ii:i=i':=Option.some.inj w1
   subst ii
   have lnm:i.nm.length=k.at_.length:=by rw [C.nm,List.length_map]
   have wz:k.what≠2:=by have:=C.wh;rw [w2] at this;have e:=Option.some.inj this;omega
   have lv:=w5.len
   have hj:k.at_.idxOf f<k.at_.length:=by
    rcases alt with ⟨z,_⟩ | ⟨_,z,_⟩
    ·omega
    ·exact z
   have hn:i.nm[k.at_.idxOf f]? = some (an f):=by rw [C.nm,List.getElem?_map,List.getElem?_eq_getElem hj];simp
   have cl:=C.cls wz
   have na:=C.na _ (List.mem_of_getElem? hn)
   refine mr (ns:=i.nm) I.toHR.kin (InO.objm w4) cl.sa cl.po na.taker cl.hd (fun y hy=>?_) (by rw [lnm];exact Nat.le_trans (Nat.le_of_lt h1000) (big (by omega))) fun h' om sb=>?_
   ·cases qq:(i.nm.zip vs).lookup y with
    | none=>exact absurd qq hy
    | some u=>
      obtain ⟨l1,l2,e1,_⟩:=List.lookup_eq_some_iff.mp qq
      exact (List.of_mem_zip (show (y,u)∈i.nm.zip vs by rw [e1];simp)).1
   ·have done:∀ vs' l',o' = .ins c l'→RDs X.W z.ρ z.G l' vs'→l'.length≤i.nm.length→(∀ g,(i.nm.zip vs').lookup g=if g=an f then some v else (i.nm.zip vs).lookup g)→Q () { z.s with heap:=h',toks:=z.s.toks+2 }:=fun vs' l' eo r hl lk=>by
     subst eo
     obtain ⟨od,es,ep',e1,e2,e3,e4,e5⟩:=om.ns
     obtain ⟨I2,g2⟩:=I.stw (s':={ z.s with heap:=h',toks:=z.s.toks+2 }) (o':=.ins c l') ep (.inr rfl) (fun b hb=>sb.2 b hb) ⟨i,vs',C.ci,w2,hl,⟨om.obj,om.ne,by rw [List.length_zip];omega,od,e1,es,ep',e2,e3,e4,fun nn=>(e5 nn).trans (lk nn).symm⟩,r⟩ rfl rfl
     exact h _ I2 g2
    rcases alt with ⟨z,eo⟩ | ⟨z,_,eo⟩
    ·exact done _ _ eo (w5.set _ rd) (by rw [List.length_set];exact w3) (mv C.nd hn (by omega))
    ·exact done _ _ eo (w5.app (.cons rd rfl)) (by rw [List.length_append];simp;omega) (j5 C.nd (by rw [← lv,← z];exact hn))
 | _=>cases e
theorem iO (T:bY X an) (x:Go X z0 z) (I:Rep X z) {n f:Nat} {p:Addr×Addr} {d:D} {v:Value} {A:Around} {E:Value→Shared→Prop} {o:am} (ep:z.ρ[n]? = some p) (rd:RD X.W z.ρ z.G d v) (e:o=(match (z.t.st[n]?).bind fun o=>dN X.Γ o f d with | some o=>.nx ⟨z.t.env,z.t.ow,z.t.st.set n o⟩ | none=>.bad)) (nb:o≠.bad):wpAny X.M A (setAttr (.ref p.1) (an f) v) (fun _ s'=>Ps X z0 o .next s') E z.s:=by
 cases q:(z.t.st[n]?).bind fun o=>dN X.Γ o f d with
 | none=>rw [q] at e;exact absurd e nb
 | some o'=>
   rw [q] at e
   obtain ⟨ob,q1,q2⟩:=Option.bind_eq_some_iff.mp q
   exact vC T I ep rd q1 q2 fun s' I2 g2=>nxt (z1:={ z with t:=⟨z.t.env,z.t.ow,z.t.st.set n o'⟩,s:=s' }) (x.trans g2) I2 e
def kO:E→Bool
 | .lst .nil=>false
 | .dic .nil=>false
 | _=>true
theorem gM (h:kO e=true):X.ex (.fld a f e) s=(X.ev false e s).go fun d s=>(X.ev true a s).go fun x s=>(match x with
        | .ref n=>(match (s.st[n]?).bind fun o=>dN X.Γ o f d with | some o=>.nx ⟨s.env,s.ow,s.st.set n o⟩ | none=>.bad)
        | _=>.bad):=by
 cases e with
 | lst es=>cases es <;> first | rfl | cases h
 | dic es=>cases es <;> first | rfl | cases h
 | _=>rfl
theorem dH :swapsWith e (some (.Attribute o x p)) l env=pure false:=by
 cases e <;> rfl
theorem kQ (I:Rep X z) (h:RB X.W z (.ref n) u):∃ p,z.ρ[n]? = some p∧u = .ref p.1:=h.cr0 I
theorem uW (T:bY X an) (hp:kO e=true) (ho:LE X eo a) (he:LE X ee e):LS X (.Assign [.Attribute eo (an f) p] ee pos) (.fld a f e):=fun z I nb=>plainObj_wpAny_Assign_Attribute ((he false).gos .refl I (gM hp) nb fun z1 d v y1 x1 I1 r1 e1=>(ho true).gos x1 I1 e1 nb fun z2 x u y2 x2 I2 r2 e2=>by
 cases x with
 | ref n=>
   obtain ⟨p,ep,rfl⟩:=kQ I2 r2.rb
   exact iO T x2 I2 ep (r1.rd.st y2.st) e2 nb
 | _=>exact absurd e2 nb) dH
theorem lZ (T:bY X an) {o:am} {o0:O} {s':Shared} {a:Addr} {i:Nat} {x:Str} (I:Rep X z) (g:Gr z.s s') (ha:z.h a=none) (r:∀ ρ,ObR X.W ρ z.G s'.heap.get? (a,a) o0) (hN:X.N[i]? = some x) (hv:Vis X.env.scope x) (hd:(x == ("__debug__":Str))=false) (hcd:(x == ("__classdict__":Str))=false)
 (e:o=((X.ev true (.v i) z.t).go fun x s=>(match x with
  | .ref n=>(match (s.st[n]?).bind fun o=>dN X.Γ o f (.ref s.st.length) with | some o=>.nx ⟨s.env,s.ow,(s.st ++ [o0]).set n o⟩ | none=>.bad)
  | _=>.bad))) (nb:o≠.bad):wpAny X.M X.A (eval (.Name x p1) X.env) (fun ov s2=>wpAny X.M X.A (setAttr ov (an f) (.ref a)) (fun _ s3=>Ps X z o .next s3) (PxS X z o) s2) (PxS X z o) s':=by
 obtain ⟨I1,x1⟩:=I.snoc (p:=(a,a)) g ⟨ha,ha⟩ (r _)
 have ev:X.ev true (.v i) z.t=(match z.t.env[i]? with | some (some d)=>.ok d z.t | _=>.bad):=rfl
 rw [ev] at e
 cases q:z.t.env[i]? with
 | none=>rw [q] at e;exact absurd e nb
 | some oo=>cases oo with
   | none=>rw [q] at e;exact absurd e nb
   | some d=>
     rw [q] at e
     obtain ⟨u,hu,ru⟩:=I1.slot (i:=i) (d:=d) q
     refine cE I1 hN hv hu ?_ hd hcd
     cases d with
     | ref n=>
       obtain ⟨p,ep,rfl⟩:=kQ I1 ru
       have e:o=(match (z.t.st[n]?).bind fun o=>dN X.Γ o f (.ref z.t.st.length) with | some o=>.nx ⟨z.t.env,z.t.ow,(z.t.st ++ [o0]).set n o⟩ | none=>.bad):=e
       refine iO T x1.go I1 ep (show RD X.W (z.ρ ++ [(a,a)]) z.G (.ref z.t.st.length) (.ref a) from ⟨_,pF I.toHR,rfl⟩) (e.trans ?_) nb
       show _=(match ((z.t.st ++ [o0])[n]?).bind fun o=>dN X.Γ o f (.ref z.t.st.length) with | some o=>am.nx ⟨z.t.env,z.t.ow,(z.t.st ++ [o0]).set n o⟩ | none=>am.bad)
       cases q1:z.t.st[n]? with
       | none=>rw [q1] at e;exact absurd e nb
       | some w=>rw [List.getElem?_append_left (List.getElem?_eq_some_iff.mp q1).1,q1]
     | _=>exact absurd e nb
theorem rK (T:bY X an) (hN:X.N[i]? = some x) (hv:Vis X.env.scope x) (hd:(x == ("__debug__":Str))=false) (hcd:(x == ("__classdict__":Str))=false):LS X (.Assign [.Attribute (.Name x p1) (an f) p] (.Dict [] [] p2) pos) (.fld (.v i) f (.dic .nil)):=fun z I nb=>plainObj_wpAny_Assign_Attribute (wpAny_Dict_empty (lZ (o0:=.dic [] []) T I (.push (t:=z.s.toks)) (aA z) (fun ρ=>⟨_,[],rfl,beq_eq_false_iff_ne.mpr (Nat.ne_of_gt I.sysm),Heap.get?_push_size _ rfl,by
 obtain ⟨o,es,ep,h1,h2,h3,h4,h5,h6⟩:=Heap.DictOf.new (knd:=aI X.W.P X.W.w) z.s.heap
 rw [Heap.get?_push_size _ rfl] at h1
 cases h1
 exact ⟨es,ep,h2,h3,h4,h5,h6,Nat.zero_le _⟩,rfl,rfl⟩) hN hv hd hcd rfl nb)) dH
theorem rL (T:bY X an) (hN:X.N[i]? = some x) (hv:Vis X.env.scope x) (hd:(x == ("__debug__":Str))=false) (hcd:(x == ("__classdict__":Str))=false):LS X (.Assign [.Attribute (.Name x p1) (an f) p] (.List [] p2) pos) (.fld (.v i) f (.lst .nil)):=fun z I nb=>plainObj_wpAny_Assign_Attribute (wpAny_List_spliced (Calls.spliced_nil ⟨Nat.zero_le _,lZ (o0:=.lst []) T I (.push (t:=z.s.toks)) (aA z) (fun ρ=>⟨_,[],rfl,Heap.get?_push_size _ rfl,⟨⟨_,rfl⟩,Nat.zero_le _⟩,rfl⟩) hN hv hd hcd rfl nb⟩)) dH
theorem rW {es:List D} {us:List Value} {o:Out D} (x:Ee X z0 z) (I:Rep X z) (r:RDs X.W z.ρ z.G es us) (hz:es.length≤100000) (e:o = .ok (.ref z.t.st.length) ⟨z.t.env,z.t.ow,z.t.st ++ [.lst es]⟩):Pe X z0 o (RV X.W br c) (.ref z.s.heap.objs.size) { z.s with heap:=z.s.heap.push { cls:=.type "list",data:=.seq us.toArray } }:=by
 obtain ⟨I1,x1⟩:=I.snoc (p:=(z.s.heap.objs.size,z.s.heap.objs.size)) (o:=.lst es) (.push (t:=z.s.toks)) ⟨aA z,aA z⟩ ⟨_,us,rfl,Heap.get?_push_size _ rfl,⟨⟨_,rfl⟩,by rw [← r.len];exact big hz⟩,r.mono (List.prefix_append _ _) (.refl _)⟩
 exact ⟨_,.ref z.t.st.length,rfl,e,x.trans x1,I1,.of (show RD X.W (z.ρ ++ [_]) z.G (.ref z.t.st.length) _ from ⟨_,pF I.toHR,rfl⟩)⟩
theorem iu (h:LA X er es):LE X (.List er pos) (.newl es):=fun br z I nb=>wpAny_List_spliced ((h false pos).go (f:=fun l s=>if l.length≤100000 then Out.ok (D.ref s.st.length) ⟨s.env,s.ow,s.st ++ [.lst l]⟩ else .bad) .refl I rfl nb fun z1 l us y1 x1 I1 r1 e1=>by
 by_cases c:l.length≤100000
 ·rw [if_pos c] at e1
  exact ⟨by rw [← r1.rds.len];exact big c,rW x1 I1 r1.rds c e1⟩
 ·rw [if_neg c] at e1;exact absurd e1 nb)
theorem rP (hN:X.N.Nodup) (hi:X.N[i]? = some x) (hx:Loc X.env.scope x) (h:LA X er es) (hs:swapsWith (.List er lp) (some (.Name x pos')) pos.line X.env=pure false):LS X (.Assign [.Name x pos'] (.List er lp) pos) (.setR i es):=fun z I nb=>wpAny_Assign_Name (by
 have e:X.ex (.setR i es) z.t=(X.ev false (.newl es) z.t).go fun d s=>.nx (stV s i d false):=by
  show Out.go (X.evs false es z.t) _=Out.go (Out.bind (X.evs false es z.t) _) _
  cases X.evs false es z.t with
  | ok l s=>show (if l.length≤100000 then _ else _)=Out.go (if l.length≤100000 then _ else _) _;by_cases c:l.length≤100000 <;> simp only [c,if_true,if_false] <;> rfl
  | _=>rfl
 exact (iu h false).gos .refl I e nb fun z1 d u y x0 I1 r e1=>bU (own:=false) x0 I1 hN hi hx r.rd fun s' a _ _ I' g'=>nxt (z1:={ z1 with t:=stV z1.t i d false,σ:=z1.σ.set i (some u),s:=s' }) g' I' e1) hs
theorem ph {st:List O} {x:D} {w:Int} (h:look st x = .int w):x = .int w:=by
 cases x with
 | ref n=>unfold look at h;dsimp only at h;split at h <;> cases h
 | _=>exact h
structure qm (X:Cx) (op:Operator) (o:Op) (g:Int→Int→Int):Prop where
 op:∀ {A:Around} {s:Shared} {i j:Int} {t u:Tok} {Q:Value→Shared→Prop} {E:Value→Shared→Prop},Q (.int (g i j) s.toks) { s with toks:=s.toks+1 }→wpAny X.M A (inplaceOp op (.int i t) (.int j u)) Q E s
 od:∀ i j,opD o (.int i) (.int j)=some (.int (g i j))
 oi:∀ x c d,opD o x (.int c)=some d→∃ w,x = .int w
theorem qA:qm X .Sub .sub (· - ·):=⟨isub_int,fun _ _=>rfl,fun x c d h=>by cases x <;> first | exact ⟨_,rfl⟩ | cases h⟩
theorem qz:qm X .Add .add (· + ·):=⟨iadd_int,fun _ _=>rfl,fun x c d h=>by cases x <;> first | exact ⟨_,rfl⟩ | cases h⟩
theorem uU (T:bY X an) {o:Op} (ar:qm X op o g) (hN:X.N[i]? = some x) (hv:Vis X.env.scope x) (hd:(x == ("__debug__":Str))=false) (hcd:(x == ("__classdict__":Str))=false):LS X (.AugAssign (.Attribute (.Name x p1) (an f) p) op (.Constant (.int c) j p2) pos) (.fld (.v i) f (.op o (.fld (.v i) f) (.c (.int c)))):=fun z I nb=>by
 have e:=gM (X:=X) (a:=.v i) (f:=f) (s:=z.t) (e:=.op o (.fld (.v i) f) (.c (.int c))) rfl
 have e:X.ex (.fld (.v i) f (.op o (.fld (.v i) f) (.c (.int c)))) z.t=((((X.ev true (.v i) z.t).bind fun x s=>Out.of s (ko X.Γ s.st x f)).bind fun x s=>Out.of s (opD o (look s.st x) (.int c))).go fun d s=>(X.ev true (.v i) s).go fun x s=>(match x with
  | .ref n=>(match (s.st[n]?).bind fun o=>dN X.Γ o f d with | some o=>.nx ⟨s.env,s.ow,s.st.set n o⟩ | none=>.bad)
  | _=>.bad)):=e
 have ev:X.ev true (.v i) z.t=(match z.t.env[i]? with | some (some d)=>.ok d z.t | _=>.bad):=rfl
 revert nb
 generalize X.ex (.fld (.v i) f (.op o (.fld (.v i) f) (.c (.int c)))) z.t=oo at e
 intro nb
 refine wpAny_AugAssign_AttributeAny ?_
 cases q:z.t.env[i]? with
 | none=>rw [ev,q] at e;exact absurd e nb
 | some ow=>cases ow with
   | none=>rw [ev,q] at e;exact absurd e nb
   | some d=>
     rw [q] at ev
     rw [ev] at e
     obtain ⟨u,hu,ru⟩:=I.slot q
     refine cE I hN hv hu ?_ hd hcd
     cases q1:ko X.Γ z.t.st d f with
     | none=>simp only [Out.bind,q1,Out.of] at e;exact absurd e nb
     | some x=>
       simp only [Out.bind,q1,Out.of] at e
       cases q2:opD o (look z.t.st x) (.int c) with
       | none=>simp only [q2] at e;exact absurd e nb
       | some d2=>
         simp only [q2] at e
         obtain ⟨w,hw⟩:=ar.oi _ _ _ q2
         rw [hw] at q2
         obtain rfl:=ph hw
         obtain rfl:=Option.some.inj ((ar.od w c).symm.trans q2)
         have e:oo=((X.ev true (.v i) z.t).go fun x s=>(match x with
          | .ref n=>(match (s.st[n]?).bind fun o=>dN X.Γ o f (.int (g w c)) with | some o=>.nx ⟨s.env,s.ow,s.st.set n o⟩ | none=>.bad)
          | _=>.bad)):=e
         rw [ev] at e
         cases d with
         | ref n=>
           obtain ⟨p,ep,rfl⟩:=kQ I ru
           obtain ⟨C,fs,v,h1,h2,h3,h4,h5⟩:=oJ T I ep q1
           have h6:=h5
           obtain ⟨t,ht⟩:∃ t,v = .int w t:=h6
           subst ht
           refine ky I h1 h2 h3 h4 h5 (wpAny_Constant_int (ar.op ?_))
           have gr:Gr z.s { z.s with toks:=z.s.toks+1+1+1 }:=.tok
           exact iO (z:={ z with s:={ z.s with toks:=z.s.toks+1+1+1 } }) T (ak I.gh gr).ee.go (I.grow (ak I.gh gr)) ep (show RD X.W z.ρ z.G (.int (g w c)) _ from ⟨_,rfl⟩) e nb
         | _=>exact absurd e nb
end
section
variable {prog:Program} {w:World} {A:Around} {E:Value→Shared→Prop} {s:Shared}
theorem gL {it l:Addr} {items:Array Value} (hne:l≠it):∀ (n i:Nat) (s:Shared) (Q:List Value→Shared→Prop),s.heap.IsListIter it l i→s.heap.IsList l items→i+n≤items.size →
 (∀ h',h'.IsListIter it l (i+n)→Heap.SameBut it s.heap h'→Q ((items.toList.drop i).take n) { s with heap:=h' })→wpAny (model prog w) A (draw (.ref it) n) Q E s
 | 0,i,s,Q,hit,_,_,hQ=>by
   show wpAny _ _ (pure []) Q E s
   exact wpAny_pure (by simpa using hQ s.heap hit (Heap.SameBut.refl ..))
 | n+1,i,s,Q,hit,ht,hle,hQ=>by
   have hlt:i<items.size:=by omega
   show wpAny _ _ (pyNext (.ref it) >>= _) Q E s
   refine wpAny_bind (wpAny_pyNext_list_item hit ht (x:=items[i]) (by simp [hlt]) fun h₁ hit₁ hs₁=>?_)
   refine wpAny_bind (wpAny_holding (gL hne n (i+1) _ _ hit₁ (ht.extBut hs₁.extBut hne) (by omega) fun h₂ hit₂ hs₂=>wpAny_pure ?_))
   have hd:items.toList.drop i=items[i] :: items.toList.drop (i+1):=by simp [List.drop_eq_getElem_cons,hlt]
   have:=hQ h₂ (by rw [show i+(n+1)=i+1+n by omega];exact hit₂) (hs₁.trans hs₂)
   rw [hd,List.take_succ_cons] at this
   exact this
theorem d6 {l:Addr} {items:Array Value} {Q:List Value→Shared→Prop} (hh:A.handled=none) (ht:s.heap.IsList l items)
 (hQ:∀ h',Heap.ExtBut s.heap.objs.size s.heap h'→Q items.toList { s with heap:=h' }):wpAny (model prog w) A (unpackItems (.ref l) items.size none) Q E s:=by
 have hlt:l≠s.heap.objs.size:=by obtain ⟨o,ho,_⟩:=ht;exact Nat.ne_of_lt (Heap.lt_size ho)
 unfold unpackItems
 refine wpAny_bind ?_
 unfold notIterableAtAll
 refine wpAny_bind (wpAny_specialOf ht.typeIs slot_list_iter.lookup ?_)
 refine wpAny_pure ?_
 simp only [Bool.false_eq_true,if_false]
 refine wpAny_bind (wpAny_holding (wpAny_pyIter_list ht ?_))
 refine wpAny_bind (wpAny_holding (gL hlt items.size 0 _ _ ⟨_,Heap.get?_push_size _ rfl,rfl,rfl⟩ (ht.push _) (by omega) fun h₁ hit₁ hs₁=>?_))
 have hall:List.take items.size (List.drop 0 items.toList)=items.toList:=by
  rw [List.drop_zero];exact List.take_of_length_le (by simp)
 rw [hall]
 rw [if_neg (by simp)]
 have ht₁:h₁.IsList l items:=(ht.push _).extBut hs₁.extBut hlt
 refine wpAny_bind (wpAny_holding (wpAny_pyNext_list_end hh hit₁ ht₁ (by simp) fun h₂ he₂=>?_))
 simp only [Option.isSome_none,Bool.false_eq_true,if_false]
 exact wpAny_pure (hQ h₂ fun b o hb e=>he₂ b o hb (hs₁.extBut b o hb (Heap.get?_push_of_some _ e)))
end
section
variable {X:Cx} {z z' z0 z1:Z}
def binds (env:List (Option D)) (l:List (Nat×D)):List (Option D):=l.foldl (fun e p=>e.set p.1 (some p.2)) env
def vX (t:Sta) (ts:List Nat) (ds:List D):Sta:=⟨binds t.env (ts.zip ds),t.ow.filter fun i=>!ts.contains i,t.st⟩
def As (X:Cx):List (Value→Sem Unit)→List Nat→Prop
 | f :: fs,i :: t=>(∃ x,X.N[i]? = some x∧Loc X.env.scope x∧∀ {v Q E s},wpAny X.M X.A (storeName X.env x v) Q E s→wpAny X.M X.A (f v) Q E s)∧As X fs t
 | [],[]=>True
 | _,_=>False
theorem nU {Q:Unit→Shared→Prop} {E:Value→Shared→Prop} (hN:X.N.Nodup):∀ {fs t ds us z},As X fs t→Go X z0 z→Rep X z→RDs X.W z.ρ z.G ds us→ds.length=t.length→(∀ z',Go X z0 z'→Rep X z'→z'.ρ=z.ρ→z'.G=z.G→z'.t=vX z.t t ds→(∀ j,j ∉ t→z'.σ[j]? = z.σ[j]?)→((∀ i∈t,∀ x,X.N[i]? = some x→X.env.scope.names.lookup x=some .local)→∀ b o,z.h b=some o→b≠X.env.locals→z'.h b=some o)→Q () z'.s)→wpAny X.M X.A (assignInOrder fs us) Q E z.s
 | [],[],[],us,z,_,x,I,r,_,h=>assignInOrder_nil (h z x I rfl rfl (by
   have:z.t.ow.filter (fun i=>!([]:List Nat).contains i)=z.t.ow:=List.filter_eq_self.mpr fun _ _=>rfl
   show z.t=⟨z.t.env,_,z.t.st⟩
   rw [this]) (fun _ _=>rfl) fun _ _ _ e _=>e)
 | f :: fs,i :: t,d :: ds,us,z,⟨⟨x',h1,h2,h3⟩,ha⟩,x,I,r,hl,h=>by
   obtain ⟨u,vs,rfl,r1,r2⟩:=r
   refine assignInOrder_cons (h3 (bU (own:=false) x I hN h1 h2 r1 fun s' a sb la I' g'=>?_))
   refine nU hN (z:={ z with t:=stV z.t i d false,σ:=z.σ.set i (some u),s:=s' }) ha g' I' r2 (Nat.succ.inj hl) fun z' gz Iz eρ eG et eσ ek=>h z' gz Iz eρ eG (et.trans ?_) (fun j nj=>?_) fun lc b o e nb=>ek (fun i' m=>lc i' (List.mem_cons_of_mem _ m)) b o ((sb.2 b fun q=>nb (q.trans (la.2 (lc i List.mem_cons_self x' h1)))).trans e) nb
   ·show (⟨binds (z.t.env.set i (some d)) (t.zip ds),(z.t.ow.filter (· != i)).filter (fun j=>!t.contains j),z.t.st⟩:Sta)=⟨binds (z.t.env.set i (some d)) (t.zip ds),z.t.ow.filter (fun j=>!(i :: t).contains j),z.t.st⟩
    rw [List.filter_filter]
    congr 1
    refine List.filter_congr fun j _=>?_
    rw [List.contains_cons,Bool.not_or,Bool.and_comm];rfl
   ·rw [List.mem_cons,not_or] at nj
    exact (eσ j nj.2).trans (List.getElem?_set_ne (Ne.symm nj.1))
 | [],_ :: _,_,_,_,h,_,_,_,_,_=>h.elim
 | _ :: _,[],_,_,_,h,_,_,_,_,_=>h.elim
 | [],[],_ :: _,_,_,_,_,_,_,hl,_=>by cases hl
 | _ :: _,_ :: _,[],_,_,_,_,_,_,hl,_=>by cases hl
def LG (X:Cx) (tg:Expr) (t:List Nat) (one:Bool):Prop:=∀ (z0 z:Z) (d:D) (u:Value) (env:List (Option D)) (Q:Unit→Shared→Prop) (E:Value→Shared→Prop),Go X z0 z→Rep X z→RD X.W z.ρ z.G d u→aD t one d z.t.env=some env →
 (∀ z',Go X z0 z'→Rep X z'→z'.ρ=z.ρ→Go X z z'→z'.t=⟨env,z.t.ow.filter fun i=>!t.contains i,z.t.st⟩→(∀ j,j ∉ t→z'.σ[j]? = z.σ[j]?)→((∀ i∈t,∀ x,X.N[i]? = some x→X.env.scope.names.lookup x=some .local)→∀ b o,z.h b=some o→b≠X.env.locals→z'.h b=some o)→Q () z'.s)→wpAny X.M X.A (assign tg X.env u) Q E z.s
theorem rE (hN:X.N.Nodup) (hi:X.N[i]? = some x) (hx:Loc X.env.scope x):LG X (.Name x pos) [i] true:=fun z0 z d u env Q E x0 I r e h=>by
 cases (show some (z.t.env.set i (some d))=some env from e)
 refine wpAny_assign_Name (bU (own:=false) .refl I hN hi hx r fun s' a sb la I' g'=>h { z with t:=stV z.t i d false,σ:=z.σ.set i (some u),s:=s' } (x0.trans g') I' rfl g' ?_ (fun j nj=>?_) fun lc b o e nb=>(sb.2 b fun q=>nb (q.trans (la.2 (lc i (List.mem_singleton.mpr rfl) x hi)))).trans e)
 ·show (⟨_,z.t.ow.filter (· != i),z.t.st⟩:Sta)=⟨_,z.t.ow.filter (fun j=>![i].contains j),z.t.st⟩
  congr 1
  refine List.filter_congr fun j _=>?_
  by_cases c:j=i <;> simp [c]
 ·exact List.getElem?_set_ne fun w=>nj (by rw [w];exact List.mem_singleton.mpr rfl)
theorem jY {n:Nat} {Q:List Value→Shared→Prop} {E:Value→Shared→Prop} {d:D} {l:List D} (hc:X.calm=true) (I:Rep X z) (r:RD X.W z.ρ z.G d u) (e:d = .tup l∨d = .lst l) (hn:l.length=n) (q:∀ s' us,Gr z.s s'→RDs X.W z.ρ z.G l us→Q us s'):wpAny X.M X.A (unpackItems u n none) Q E z.s:=by
 subst hn
 rcases e with rfl | rfl
 ·obtain ⟨a,o,vs,rfl,g,⟨tc,⟨k,td⟩,tl⟩,r⟩:=r
  rw [show l.length=vs.toArray.size by simp [r.len]]
  exact wpAny_unpackItems_tuple (I.hd hc) (show z.s.heap.IsTuple a vs.toArray from ⟨o,I.gh _ _ g,tc,⟨k,td⟩⟩) fun h' hx=>q _ _ (.hp (t:=z.s.toks) fun b o e=>hx b o (Nat.ne_of_lt (Heap.lt_size e)) e) (by simpa using r)
 ·obtain ⟨a,o,vs,rfl,g,⟨⟨k,rfl⟩,tl⟩,r⟩:=r
  rw [show l.length=vs.toArray.size by simp [r.len]]
  exact d6 (I.hd hc) (show z.s.heap.IsList a vs.toArray from ⟨_,I.gh _ _ g,rfl,⟨k,rfl⟩⟩) fun h' hx=>q _ _ (.hp (t:=z.s.toks) fun b o e=>hx b o (Nat.ne_of_lt (Heap.lt_size e)) e) (by simpa using r)
theorem iZ (e:aD t false d env=some env'):∃ l,(d = .tup l∨d = .lst l)∧l.length=t.length∧env'=binds env (t.zip l):=by
 cases d with
 | tup l=>obtain ⟨c,e⟩:=aC (show (if l.length=t.length then some (binds env (t.zip l)) else none)=some env' from e);cases e;exact ⟨l,.inl rfl,c,rfl⟩
 | lst l=>obtain ⟨c,e⟩:=aC (show (if l.length=t.length then some (binds env (t.zip l)) else none)=some env' from e);cases e;exact ⟨l,.inr rfl,c,rfl⟩
 | _=>cases e
theorem pc {es:List Expr} {k:Nat} {pos:Pos} (hc:X.calm=true) (hN:X.N.Nodup) (ha:As X ((assignEach es X.env).map (·.2)) t) (hn:(assignEach es X.env).length=t.length) (hst:(assignEach es X.env).findIdx? (·.1)=none):LG X (.Tuple es k pos) t false:=fun z0 z d u env Q E x0 I r e h=>by
 obtain ⟨l,dl,hl,rfl⟩:=iZ e
 rw [assign_Tuple]
 refine wpAny_bind (wpAny_standAt ?_)
 unfold unpack
 rw [hn,hst]
 refine wpAny_bind (wpAny_holding (jY hc I r dl hl fun s' us g rs=>?_))
 exact nU (z:={ z with s:=s' }) hN ha (ak I.gh g).ee.go (I.grow (ak I.gh g)) rs hl fun z' gz Iz eρ eG et eσ ek=>h z' (x0.trans gz) Iz eρ gz et eσ fun lc b o e nb=>ek lc b o (g.k b o e) nb
theorem rQ (he:LE X e c) (hg:LG X tg t false) (hs:swapsWithSole [tg] e pos.line X.env=pure false) (hw:swappedStores [tg] e X.env=pure none) (h1:(assignEach [tg] X.env).map (·.2) = [assign tg X.env]):LS X (.Assign [tg] e pos) (.setT t c):=fun z I nb=>wpAny_Assign_stores ((he false).gos .refl I rfl nb fun z1 d u y x0 I1 r e1=>by
 rw [h1]
 cases q:aD t false d z1.t.env with
 | none=>rw [q] at e1;exact absurd e1 nb
 | some env=>
   rw [q] at e1
   exact hg z z1 d u env _ _ x0 I1 r.rd q fun z' gz Iz _ _ et _ _=>nxt gz Iz (by rw [et];exact e1)) hs hw
theorem py {x1 x2:Str} {i1 i2:Nat} {es:List Expr} {k:Nat} {tp:Pos} (hc:X.calm=true) (he:LE X e c) (hN:X.N.Nodup) (h1:X.N[i1]? = some x1) (h2:X.N[i2]? = some x2) (l1:Loc X.env.scope x1) (l2:Loc X.env.scope x2) (ne:i1≠i2)
 (hs:swapsWithSole [.Tuple es k tp] e pos.line X.env=pure false) (hw:swappedStores [.Tuple es k tp] e X.env=pure (some [x1,x2])):LS X (.Assign [.Tuple es k tp] e pos) (.setT [i1,i2] c):=fun z I nb=>Assign_Tuple_swapped (names:=[x1,x2]) ((he false).gos .refl I rfl nb fun z1 d u y x0 I1 r e1=>by
 cases q:aD [i1,i2] false d z1.t.env with
 | none=>rw [q] at e1;exact absurd e1 nb
 | some env=>
   rw [q] at e1
   obtain ⟨l,dl,hl,rfl⟩:=iZ q
   refine jY hc I1 r.rd dl hl fun s' us g rs=>?_
   show wpAny _ _ (assignInOrder [bindName X.env x2,bindName X.env x1] us.reverse) _ _ s'
   refine nU (t:=[i2,i1]) (ds:=l.reverse) (z:={ z1 with s:=s' }) hN ⟨⟨x2,h2,l2,fun h=>bindName_ h⟩,⟨x1,h1,l1,fun h=>bindName_ h⟩,trivial⟩ (x0.trans (ak I1.gh g).ee.go) (I1.grow (ak I1.gh g)) rs.rev (by rw [List.length_reverse];exact hl) fun z' gz Iz eρ eG et _ _=>nxt gz Iz (e1.trans ?_)
   rw [et]
   match l,hl with
   | [d1,d2],_=>
     show am.nx ⟨(z1.t.env.set i1 (some d1)).set i2 (some d2),z1.t.ow.filter (fun j=>![i1,i2].contains j),z1.t.st⟩=am.nx ⟨(z1.t.env.set i2 (some d2)).set i1 (some d1),z1.t.ow.filter (fun j=>![i2,i1].contains j),z1.t.st⟩
     rw [List.set_comm _ _ ne]
     congr 2
     refine List.filter_congr fun j _=>?_
     by_cases c1:j=i1 <;> by_cases c2:j=i2 <;> simp [c1,c2]) hs hw
end
structure Itr (W:Wd) (tg:Expr) (it:Addr) (fp wr:List Addr) (ds:List D) (ρ:Rs) (G:Hp) (St:Nat→Heap→Prop):Prop where
 sub:∀ b∈wr,b∈fp
 keep:∀ i h h',St i h→(∀ b∈fp,∀ o,h.get? b=some o→h'.get? b=some o)→St i h'
 ex:∀ i h,St i h→∀ b∈wr,∃ o,h.get? b=some o
 item:∀ {A:Around} {i:Nat} {d:D} {s:Shared},A.handled=none→ds[i]? = some d→St i s.heap→wpAny (model W.P W.w) A (pyNext (.ref it)) (fun r s1=>∃ u,r=some u∧wpAny (model W.P W.w) A (letOwnedTupleGo tg (.ref it) u) (fun _ s2=>St (i+1) s2.heap∧(s2.os=s.os∧s2.gens=s.gens)∧(∀ b o,b ∉ wr→s.heap.get? b=some o→s2.heap.get? b=some o) ∧
  ∀ ρ' G',ρ <+: ρ'→Sub G G'→(∀ a o,s.heap.get? a=none→s2.heap.get? a=some o→G' a=some o)→RD W ρ' G' d u) NoE s1) NoE s
 done:∀ {A:Around} {s:Shared},A.handled=none→St ds.length s.heap→wpAny (model W.P W.w) A (pyNext (.ref it)) (fun r s2=>r=none∧(s2.os=s.os∧s2.gens=s.gens)∧∀ b o,b ∉ wr→s.heap.get? b=some o→s2.heap.get? b=some o) NoE s
 self:∀ {A:Around} {i:Nat} {s:Shared} {Q:Value→Shared→Prop} {E:Value→Shared→Prop},A.handled=none→St i s.heap→Q (.ref it) s→wpAny (model W.P W.w) A (pyIter (.ref it)) Q E s
def Fp (X:Cx) (z0 z:Z) (fp wr:List Addr):Prop:=∀ b∈fp,(Nob X z0 z b∧∃ o,z.h b=some o)∨(b ∉ wr∧∃ o,z.G b=some o)
section
variable {X:Cx} {z z' z0 z1:Z}
theorem Nob.go (x:Go X z z') (n:Nob X z0 z b) (e:z.h b=some o):Nob X z0 z' b∧z'.h b=some o:=by
 obtain ⟨n0,⟨f1,f2,f3,f4⟩,f5⟩:=n
 have no:∀ {P:Prop},z.h b=none→P:=fun w=>by rw [w] at e;cases e
 refine ⟨⟨n0,⟨?_,fun m=>(x.st.rn b m).elim f2 no,f3,f4⟩,fun w=>(x.ow b w).elim f5 no⟩,x.st.sm b o e f2 (fun w=>w.elim f5 f4) f3⟩
 cases q:z'.G b with
 | none=>rfl
 | some o'=>
   rcases x.st.gn b o' q with w | w | w
   ·rw [f1] at w;cases w
   ·exact no w
   ·exact (w.elim f5 f4).elim
theorem Fp.go (x:Go X z z') (f:Fp X z0 z fp wr):Fp X z0 z' fp wr:=fun b hb=>(f b hb).imp (fun ⟨n,o,e⟩=>let ⟨a,b⟩:=n.go x e;⟨a,o,b⟩) fun ⟨n,o,e⟩=>⟨n,o,x.st.gg b o e⟩
theorem Fp.keep (x:Go X z z') (I:Rep X z) (I':Rep X z') (f:Fp X z0 z fp wr):∀ b∈fp,∀ o,z.h b=some o→z'.h b=some o:=fun b hb o e=>by
 rcases f b hb with ⟨n,o',e'⟩ | ⟨_,o',e'⟩
 ·exact (n.go x e).2
 ·rw [I.gh b o' e'] at e;cases e;exact I'.gh b _ (x.st.gg b _ e')
theorem Rep.turn {s':Shared} {wr:List Addr} {w:Addr→Prop} (x:Stp X.fr w z0 z) (I:Rep X z) (hw:∀ b∈wr,Nob X z0 z b∧∃ o,z.h b=some o) (k:∀ b o,b ∉ wr→z.h b=some o→s'.heap.get? b=some o) (os:s'.os=z.s.os∧s'.gens=z.s.gens):Rep X (z.up s')∧Stp X.fr w z0 (z.up s')∧Sub z.G (z.up s').G∧∀ b∈wr,Nob X z0 (z.up s') b:=by
 have gd:∀ a,(z.up s').G a=match z.h a with | none=>s'.heap.get? a | some _=>z.G a:=fun _=>rfl
 have nG:∀ {b o},z.G b=some o→b ∉ wr:=fun e m=>by rw [(hw _ m).1.2.1.1] at e;cases e
 have nM:∀ {b},Mu z.ρ b→b ∉ wr:=fun h m=>(hw _ m).1.2.1.2.1 h
 have nf:∀ {b},b∈frs X.fr→b ∉ wr:=fun h m=>(hw _ m).1.2.1.2.2.1 h
 have nL:∀ {b},Lc X b→b ∉ wr:=fun h m=>(hw _ m).1.2.1.2.2.2 h
 have nO:∀ {b},Own z b→b ∉ wr:=fun h m=>(hw _ m).1.2.2 h
 have gg:Sub z.G (z.up s').G:=fun a o e=>by rw [gd,I.gh a o e];exact e
 have nn:∀ {a:Addr},(∃ o,z.h a=some o)→z.G a=none→(z.up s').G a=none:=fun {a} ⟨o,e⟩ n=>by rw [gd,e];exact n
 have gh:Sub (z.up s').G s'.heap.get?:=fun a o e=>by
  rw [gd] at e
  cases q:z.h a with
  | none=>rw [q] at e;exact e
  | some u=>rw [q] at e;exact k a o (nG e) (I.gh a o e)
 have ck:∀ x c v,X.env.cells.lookup x=some c→z.s.heap.IsCell c v→s'.heap.IsCell c v:=fun x c v e ⟨o,q,d⟩=>⟨o,k c o (nL (.inr ⟨x,e⟩)) q,d⟩
 have fu:s'.heap.FunFrames X.base X.fr:=by
  have:∀ {l:List Env},(∀ b∈frs l,b ∉ wr)→z.s.heap.FunFrames X.base l→s'.heap.FunFrames X.base l:=fun {l}=>by
   induction l with
   | nil=>exact fun _ _=>trivial
   | cons v r ih=>
     intro hs ⟨a,⟨L,o,e1,e2,e3,e4⟩,q⟩
     have hm:L∈frs (v :: r):=by unfold frs;rw [List.filterMap_cons,e1];exact List.mem_cons_self
     exact ⟨a,⟨L,o,e1,e2,k L o (hs L hm) e3,e4⟩,ih (fun b hb=>hs b (by unfold frs;rw [List.filterMap_cons,e1];exact List.mem_cons_of_mem _ hb)) q⟩
  exact this (fun b h=>nf h) I.fu
 have gn:∀ a o,(z.up s').G a=some o→z.G a=some o∨z.h a=none:=fun a o e=>by
  rw [gd] at e
  cases q:z.h a with
  | none=>exact .inr rfl
  | some u=>rw [q] at e;exact .inl e
 refine ⟨⟨⟨I.md,I.fm,I.hd,fun b o e=>gg _ _ (I.bs b o e),gh,I.rl,I.rn,fun a m=>nn (I.th m) (I.rg a m),fun n o p h1 h2=>(I.ob n o p h1 h2).mono (List.prefix_refl _) gg fun a ha o e=>k a o (nM ⟨p,List.mem_of_getElem? h2,ha⟩) e,fu,fun b m=>⟨nn (I.fth m) (I.ff b m).1,(I.ff b m).2⟩,by show AllBare s'.gens;rw [os.2];exact I.br,os.1.trans I.os⟩,I.ok,?_,fun x c e=>let ⟨v,q⟩:=I.ce x c e;⟨v,ck x c v e q⟩,fun a l=>⟨nn (I.lth l) (I.fl a l).1,(I.fl a l).2⟩,I.el,I.sl,fun i d n e=>let ⟨u,q,r⟩:=I.en i d n e;⟨u,q,r.mono (List.prefix_refl _) gg⟩,fun i m=>?_,I.od⟩,⟨x.pr,x.gg.trans gg,fun a o e=>?_,x.rn,fun a o e=>?_,fun a o e n w f=>?_,fun a o e n w f=>?_⟩,gg,fun b hb=>let ⟨⟨n0,f,no⟩,ex⟩:=hw b hb;⟨n0,⟨nn ex f.1,f.2⟩,no⟩⟩
 ·obtain ⟨m,⟨oL,es,ep,q,r⟩,hl⟩:=I.lo
  exact ⟨m,⟨oL,es,ep,k _ _ (nL (.inl rfl)) q,r⟩,fun j x w e1 e2 e3=>cO (fun c v e q=>ck x c v e q) (hl j x w e1 e2 e3)⟩
 ·obtain ⟨d,a,o,h1,h2,h3,r,f⟩:=I.eo i m
  exact ⟨d,a,o,h1,h2,h3,r.mono (List.prefix_refl _) gg fun c hc o e=>k c o (by rcases hc with rfl | rfl <;> exact nO ⟨i,m,h2⟩) e,nn r.th.1 f.1,f.2⟩
 ·rcases gn a o e with w | w
  ·exact x.gn a o w
  ·exact .inr (.inl (x.no w))
 ·obtain ⟨o1,e1⟩:=x.th a o e
  by_cases m:a∈wr
  ·rw [(hw a m).1.1] at e;cases e
  ·exact ⟨o1,k a o1 m e1⟩
 ·exact k a o (fun m=>by rw [(hw a m).1.1] at e;cases e) (x.sm a o e n w f)
 ·obtain ⟨sl,q⟩:=x.sl a o e n w f
  exact ⟨sl,k a _ (fun m=>by rw [(hw a m).1.1] at e;cases e) q⟩
theorem Fp.up {s':Shared} {wr wr':List Addr} (I:Rep X z) (f:Fp X z0 z fp wr) (g:Sub z.G (z.up s').G) (k:∀ b o,b ∉ wr'→z.h b=some o→s'.heap.get? b=some o) (ex:∀ b∈wr',b∈fp→∃ o,s'.heap.get? b=some o):Fp X z0 (z.up s') fp wr:=fun b hb=>(f b hb).imp (fun ⟨⟨n0,ff,no⟩,o',e'⟩=>⟨⟨n0,⟨by show (match z.h b with | none=>s'.heap.get? b | some _=>z.G b)=none;rw [e'];exact ff.1,ff.2⟩,no⟩,by
 by_cases m:b∈wr'
 ·exact ex b m hb
 ·exact ⟨o',k b o' m e'⟩⟩) fun ⟨m,o',e'⟩=>⟨m,o',g b o' e'⟩
theorem Fp.wr {wr:List Addr} {St:Nat→Heap→Prop} (T:Itr W tg it fp wr ds ρ G St) (st:St i z.s.heap) (f:Fp X z0 z fp wr):∀ b∈wr,Nob X z0 z b∧∃ o,z.h b=some o:=fun b hb=>(f b (T.sub b hb)).elim id fun ⟨n,_⟩=>absurd hb n
def LI (X:Cx) (tg e:Expr) (c:E):Prop:=∀ z,Rep X z→X.ev false c z.t≠.bad→wpAny X.M X.A (eval e X.env) (fun v s1=>wpAny X.M X.A (pyIter v) (fun itv s2=>∃ z1 ds it fp wr St,z1.s=s2∧X.ev false c z.t = .ok (.lst ds) z1.t∧Ee X z z1∧Rep X z1∧itv = .ref it∧Itr X.W tg it fp wr ds z1.ρ z1.G St∧St 0 s2.heap∧Fp X z z1 fp wr) NoE s1) (Px X z (X.ev false c z.t)) z.s
def FI (X:Cx) (z:Z) (tg:Expr) (o:Out D) (itv:Value) (s2:Shared):Prop:=∃ z1 ds it fp wr St,z1.s=s2∧o = .ok (.lst ds) z1.t∧Ee X z z1∧Rep X z1∧itv = .ref it∧Itr X.W tg it fp wr ds z1.ρ z1.G St∧St 0 s2.heap∧Fp X z z1 fp wr
theorem ly {ds:List α} {i:Nat} (h:ds[i]? = some d):ds.drop i=d :: ds.drop (i+1):=by
 obtain ⟨hi,rfl⟩:=List.getElem?_eq_some_iff.mp h
 exact List.drop_eq_getElem_cons hi
theorem uX {t:List Nat} {one:Bool} (hc:X.calm=true) (hp:∀ z o,PassesOwn X.M X.A X.env (PxS X z o)) (hi:LI X tg iter it) (hg:LG X tg t one) (hb:LSs X body b) (hs:∀ x,foldedSetIterable iter X.env x=pure x):LS X (.For tg iter body [] pos) (.for_ t one it b):=fun z I nb=>by
 let f:D→Sta→am:=fun d s=>match aD t one d s.env with | some env=>X.ex b ⟨env,s.ow.filter fun i=>!t.contains i,s.st⟩ | none=>.bad
 have e0:X.ex (.for_ t one it b) z.t=(X.ev false it z.t).go fun x s=>(match x with | .lst ds=>aQ f ds s | _=>.bad):=rfl
 generalize X.ex (.for_ t one it b) z.t=o at e0 nb
 have nb0:X.ev false it z.t≠.bad:=fun q=>nb (by rw [e0,q];rfl)
 refine wpAny_For (wpAny_mono (hi z I nb0) (fun v s1 h1=>wpAny_mono h1 (fun itv s2 h2=>?_) fun _ _ w=>w.elim) fun u s' h=>?_) hs
 rotate_left
 ·rw [e0];exact .of .refl h
 obtain ⟨z1,ds,a,fp,wr,St,q1,q2,x1,I1,q3,T,st1,f1⟩:=h2
 subst q1 q3
 rw [q2] at e0
 have e0:o=aQ f ds z1.t:=e0
 refine codeAny_forLoop_any (fun n s'=>∃ i z',z'.s=s'∧n=ds.length - i∧i≤ds.length∧Go X z z'∧Rep X z'∧St i s'.heap∧Fp X z z' fp wr∧z1.ρ <+: z'.ρ∧Sub z1.G z'.G∧o=aQ f (ds.drop i) z'.t) ?_ (ds.length - 0) ⟨0,z1,rfl,rfl,Nat.zero_le _,x1.go,I1,st1,f1,List.prefix_refl _,.refl _,by rw [List.drop_zero];exact e0⟩
 rintro n s3 ⟨i,z3,e3,en,hi,x3,I3,st3,f3,p3,g3,q⟩
 subst e3
 cases qd:ds[i]? with
 | none=>
   have hl:i=ds.length:=by rw [List.getElem?_eq_none_iff] at qd;omega
   subst hl
   refine wpAny_passesOwn (hp z o) (wpAny_mono (T.done (I3.hd hc) st3) (fun r s4 ⟨er,os,k⟩=>?_) fun _ _ w=>w.elim)
   subst er
   obtain ⟨I4,x4,_⟩:=I3.turn x3.st (f3.wr T st3) k os
   rw [List.drop_length] at q
   exact wpAny_execs_nil (nxt (z1:=z3.up s4) ⟨x4,x3.ow⟩ I4 q)
 | some d=>
   have hil:i<ds.length:=(List.getElem?_eq_some_iff.mp qd).1
   rw [ly qd] at q
   have q:o=(f d z3.t).go fun s=>aQ f (ds.drop (i+1)) s:=q
   refine wpAny_passesOwn (hp z o) (wpAny_mono (T.item (I3.hd hc) qd st3) (fun r s4 ⟨u,er,h4⟩=>?_) fun _ _ w=>w.elim)
   subst er
   refine wpAny_passesOwn (hp z o) (wpAny_mono h4 (fun _ s5 ⟨st5,os5,k5,rd5⟩=>?_) fun _ _ w=>w.elim)
   have hw:=f3.wr T st3
   obtain ⟨I5,x5',g5,n5⟩:=I3.turn x3.st hw k5 os5
   have x5:Go X z (z3.up s5):=⟨x5',x3.ow⟩
   have rd:=rd5 z3.ρ (z3.up s5).G p3 (g3.trans g5) fun a o e1 e2=>by rw [d8 e1];exact e2
   have f5:Fp X z (z3.up s5) fp wr:=f3.up I3 g5 k5 fun b m _=>T.ex _ _ st5 b m
   cases qb:aD t one d z3.t.env with
   | none=>exact absurd (show o = .bad by rw [q];show am.go (match aD t one d z3.t.env with | some env=>X.ex b ⟨env,z3.t.ow.filter fun i=>!t.contains i,z3.t.st⟩ | none=>.bad) _=_;rw [qb];rfl) nb
   | some env=>
     have q:o=(X.ex b ⟨env,z3.t.ow.filter fun i=>!t.contains i,z3.t.st⟩).go fun s=>aQ f (ds.drop (i+1)) s:=by rw [q];show am.go (match aD t one d z3.t.env with | some env=>X.ex b ⟨env,z3.t.ow.filter fun i=>!t.contains i,z3.t.st⟩ | none=>.bad) _=_;rw [qb]
     refine wpAny_passesOwn (hp z o) (hg z (z3.up s5) d u env _ _ x5 I5 rd qb fun z6 x6 I6 eρ y6 et eσ _=>?_)
     rw [← show z6.t=(⟨env,z3.t.ow.filter fun i=>!t.contains i,z3.t.st⟩:Sta) from et] at q
     have nb6:X.ex b z6.t≠.bad:=fun w=>nb (by rw [q,w];rfl)
     refine wpAny_passesOwn (hp z o) (wpAny_mono (hb z6 I6 nb6) (fun fl s7 h7=>?_) fun u s' h=>?_)
     ·cases qx:X.ex b z6.t with
      | nx t7=>
        rw [qx] at h7 q
        obtain ⟨rfl,z7,e7,et7,x7,I7⟩:=h7
        subst e7 et7
        exact ⟨ds.length - (i+1),by omega,i+1,z7,rfl,rfl,hil,x6.trans x7,I7,T.keep _ _ _ st5 ((f5.keep (y6.trans x7) I5 I7)),f5.go (y6.trans x7),(p3.trans (eρ ▸ List.prefix_refl _:z3.ρ <+: z6.ρ)).trans x7.st.pr,(g3.trans g5).trans (y6.st.gg.trans x7.st.gg),q⟩
      | rt d7 t7=>
        rw [qx] at h7 q
        obtain ⟨u7,z7,rfl,r7⟩:=h7
        have:=Ps.less x6 (show Ps X z6 (.rt d7 t7) (.ret u7) s7 from ⟨u7,z7,rfl,r7⟩)
        show Ps X z o (.ret u7) s7
        rw [q];exact this
      | exc c l t7=>rw [qx] at h7;exact h7.elim
      | bad=>exact absurd qx nb6
     ·obtain ⟨z7,c,l,e7,qx,r7⟩:=h.less x6
      exact ⟨z7,c,l,e7,by rw [q,qx];rfl,r7⟩
end
theorem ij {h:Heap} (n:h.objs.size≤a):h.get? a=none:=Heap.get?_none_of_le n
section
variable {W:Wd} {tg:Expr} {it:Addr} {fp wr:List Addr} {ds:List D} {ρ:Rs} {G:Hp} {St:Nat→Heap→Prop}
theorem Itr.walks {P:Nat→Value→Prop} {A0:Around} (h0:A0.handled=none) {n:Nat} (hn:ds.length=n) (w:∀ A,A.handled=none→Walks W.P W.w A it fp wr n P St) (ex:∀ i h,St i h→∀ b∈wr,∃ o,h.get? b=some o) (go:∀ {A:Around} {s:Shared} {u:Value} {Q:Unit→Shared→Prop} {E:Value→Shared→Prop} {i:Nat},St i s.heap→Q () s→wpAny (model W.P W.w) A (letOwnedTupleGo tg (.ref it) u) Q E s)
 (hP:∀ i v d,P i v→ds[i]? = some d→∀ ρ' G',ρ <+: ρ'→Sub G G'→RD W ρ' G' d v):Itr W tg it fp wr ds ρ G St where
 sub:=(w A0 h0).sub
 keep:=(w A0 h0).frame
 ex:=ex
 item:=fun {A i d s} h e st=>(w A h).item i s _ _ (hn ▸ (List.getElem?_eq_some_iff.mp e).1) st fun v h' tk p st' k=>⟨v,rfl,go (s:={ s with heap:=h',toks:=tk }) st' ⟨st',⟨rfl,rfl⟩,fun b o n q=>k b o n q,fun ρ' G' h1 h2 _=>hP i v d p e ρ' G' h1 h2⟩⟩
 done:=fun {A s} h st=>(w A h).done s _ _ (hn ▸ st) fun h' tk k=>⟨rfl,⟨rfl,rfl⟩,k⟩
 self:=fun {A i s Q E} h st q=>(w A h).self i s Q E st q
theorem Itr.walksT {Pt:Nat→Array Value→Prop} {Mid:Nat→Addr→Heap→Prop} {A0:Around} {elts:List Expr} {k:Nat} {pos:Pos} (h0:A0.handled=none) {n:Nat} (hn:ds.length=n) (w:∀ A,A.handled=none→WalksT W.P W.w A it fp wr n Pt St Mid) (ex:∀ i h,St i h→∀ b∈wr,∃ o,h.get? b=some o)
 (hP:∀ i vals d,Pt i vals→ds[i]? = some d→vals.size≤sizeLine∧∃ l,d = .tup l∧∀ ρ' G',ρ <+: ρ'→Sub G G'→RDs W ρ' G' l vals.toList):Itr W (.Tuple elts k pos) it fp wr ds ρ G St where
 sub:=(w A0 h0).sub
 keep:=(w A0 h0).frame
 ex:=ex
 item:=fun {A i d s} h e st=>(w A h).item i s _ _ (hn ▸ (List.getElem?_eq_some_iff.mp e).1) st fun T vals h' tk p hT tup mid kk=>⟨.ref T,rfl,(w A h).go elts k pos i T { s with heap:=h',toks:=tk } _ _ mid fun h2 st2 k2=>⟨st2,⟨rfl,rfl⟩,fun b o n q=>k2 b o n (kk b o n q),fun ρ' G' h1 h3 h4=>by
  obtain ⟨hz,l,rfl,r⟩:=hP i vals d p e
  obtain ⟨o,e1,e2,n,e3⟩:=tup
  exact ⟨T,o,vals.toList,rfl,h4 T o (ij hT) (k2 T o ((w A h).apart i T h' mid) e1),⟨e2,⟨n,by simpa using e3⟩,by simpa using hz⟩,r ρ' G' h1 h3⟩⟩⟩
 done:=fun {A s} h st=>(w A h).done s _ _ (hn ▸ st) fun h' tk k=>⟨rfl,⟨rfl,rfl⟩,k⟩
 self:=fun {A i s Q E} h st q=>(w A h).self i s Q E st q
end
section
variable {X:Cx} {z z' z0 z1:Z} {tg:Expr}
theorem fj {s2:Shared} {o:Out D} {ds:List D} {it:Addr} {fp wr:List Addr} {St:Nat→Heap→Prop} (x:Ee X z z1) (I:Rep X z1) (g:Gr z1.s s2) (T:Itr X.W tg it fp wr ds z1.ρ z1.G St) (st:St 0 s2.heap) (hf:∀ b∈fp,(z1.h b=none∧∃ o,s2.heap.get? b=some o)∨(b ∉ wr∧∃ o,z1.G b=some o)) (e:o = .ok (.lst ds) z1.t):FI X z tg o (.ref it) s2:=
 ⟨{ z1 with s:=s2 },ds,it,fp,wr,St,rfl,e,x.trans (ak I.gh g).ee,I.grow (ak I.gh g),rfl,T,st,fun b hb=>(hf b hb).imp_left fun ⟨n,ex⟩=>⟨⟨x.st.no n,I.fre n⟩,ex⟩⟩
theorem oU (I:Rep X z) (e:z.G a=some o):a≠z.s.heap.objs.size:=Nat.ne_of_lt (Heap.lt_size (I.gh a o e))
theorem yh (hc:X.calm=true) (ha:LE X e a):LI X tg e (.itv a):=fun z I nb=>(ha false).go (K:=fun v s1=>wpAny X.M X.A (pyIter v) (FI X z tg (X.ev false (.itv a) z.t)) NoE s1) .refl I rfl nb fun z1 d u y x1 I1 r1 e1=>by
 have r:=r1.rd
 cases d with
 | lst l=>
   obtain ⟨p,o,vs,rfl,g,⟨⟨n,rfl⟩,hz⟩,r⟩:=r
   have ne:=oU I1 g
   refine wpAny_pyIter_list (show z1.s.heap.IsList p vs.toArray from ⟨_,I1.gh _ _ g,rfl,n,rfl⟩) (fj (wr:=[z1.s.heap.objs.size]) x1 I1 (.push (t:=z1.s.toks)) (Itr.walks (I1.hd hc) (by simp [r.len]) (fun A hA=>Walks.list hA _ p ne vs.toArray) (fun i h st b hb=>by rw [List.mem_singleton.mp hb];obtain ⟨⟨o,e,_⟩,_⟩:=st;exact ⟨o,e⟩) (fun st q=>let ⟨⟨o,e,c,d⟩,_⟩:=st;ji e c d (by decide) q) fun i v d p1 p2 ρ' G' h1 h2=>?_) ⟨⟨_,Heap.get?_push_size _ rfl,rfl,rfl⟩,⟨_,Heap.get?_push_of_some _ (I1.gh _ _ g),rfl,n,rfl⟩⟩ (fun b hb=>?_) e1)
   ·obtain ⟨v',w1,w2⟩:=(r.mono h1 h2).get p2
    rw [show vs[i]? = some v by simpa using p1] at w1;cases w1;exact w2
   ·rcases List.mem_cons.mp hb with w | w
    ·rw [w];exact .inl ⟨aA z1,_,Heap.get?_push_size _ rfl⟩
    ·rw [List.mem_singleton.mp w];exact .inr ⟨fun m=>ne (List.mem_singleton.mp m),_,g⟩
 | tup l=>
   obtain ⟨p,o,vs,rfl,g,⟨tc,⟨n,td⟩,hz⟩,r⟩:=r
   have ne:=oU I1 g
   refine wpAny_pyIter_tuple (show z1.s.heap.IsTuple p vs.toArray from ⟨_,I1.gh _ _ g,tc,n,td⟩) (fj (wr:=[z1.s.heap.objs.size]) x1 I1 (.push (t:=z1.s.toks)) (Itr.walks (I1.hd hc) (by simp [r.len]) (fun A hA=>Walks.tuple hA _ p ne vs.toArray) (fun i h st b hb=>by rw [List.mem_singleton.mp hb];obtain ⟨⟨o,e,_⟩,_⟩:=st;exact ⟨o,e⟩) (fun st q=>let ⟨⟨o,e,c,d⟩,_⟩:=st;ji e c d (by decide) q) fun i v d p1 p2 ρ' G' h1 h2=>?_) ⟨⟨_,Heap.get?_push_size _ rfl,rfl,rfl⟩,⟨_,Heap.get?_push_of_some _ (I1.gh _ _ g),tc,n,td⟩⟩ (fun b hb=>?_) e1)
   ·obtain ⟨v',w1,w2⟩:=(r.mono h1 h2).get p2
    rw [show vs[i]? = some v by simpa using p1] at w1;cases w1;exact w2
   ·rcases List.mem_cons.mp hb with w | w
    ·rw [w];exact .inl ⟨aA z1,_,Heap.get?_push_size _ rfl⟩
    ·rw [List.mem_singleton.mp w];exact .inr ⟨fun m=>ne (List.mem_singleton.mp m),_,g⟩
 | dic ks l=>
   obtain ⟨p,o,vs,rfl,hs,g,⟨es,ep,c1,c2,c3,c4,c5,hz⟩,hl,r⟩:=r
   have ne:=oU I1 g
   have dm:Heap.DictAt (aI X.W.P X.W.w) z1.s.heap p (ks.zip vs) ep:=⟨o,es,I1.gh _ _ g,c1,c2,c3,c4,c5⟩
   have lk:ks.length=vs.length:=hl.trans r.len
   have lz:(ks.zip vs).length=(ks.map qY).length:=by rw [List.length_zip,List.length_map];omega
   refine wpAny_pyIter_dict hs dm (fj (ds:=ks.map qY) (wr:=[z1.s.heap.objs.size]) x1 I1 (.push (t:=z1.s.toks)) (Itr.walks (I1.hd hc) lz.symm (fun A hA=>Walks.dictKeys (knd:=aI X.W.P X.W.w) hA _ p ne (ks.zip vs) ep) (fun i h st b hb=>by rw [List.mem_singleton.mp hb];obtain ⟨⟨o,e,_⟩,_⟩:=st;exact ⟨o,e⟩) (fun st q=>let ⟨⟨o,e,c,d⟩,_⟩:=st;ji e c d (by decide) q) fun i v d p1 p2 ρ' G' h1 h2=>?_) ⟨⟨_,Heap.get?_push_size _ rfl,rfl,rfl⟩,⟨o,es,Heap.get?_push_of_some _ (I1.gh _ _ g),c1,c2,c3,c4,c5⟩⟩ (fun b hb=>?_) e1)
   ·obtain ⟨k,u,w1,w2⟩:=p1
    have kk:ks[i]? = some k:=by
     have:=List.getElem?_zip_eq_some.mp w1;exact this.1
    rw [List.getElem?_map,kk] at p2
    cases p2
    rcases aB w2 with ⟨j,t,rfl,rfl⟩ | ⟨x,t,rfl,rfl⟩
    ·exact ⟨t,rfl⟩
    ·exact ⟨t,rfl⟩
   ·rcases List.mem_cons.mp hb with w | w
    ·rw [w];exact .inl ⟨aA z1,_,Heap.get?_push_size _ rfl⟩
    ·rw [List.mem_singleton.mp w];exact .inr ⟨fun m=>ne (List.mem_singleton.mp m),_,g⟩
 | str y=>
   obtain ⟨t,rfl⟩:=r
   have e1:X.ev false (.itv a) z.t=Out.of z1.t ((if y.cps.all (· < 128)=true then some (y.cps.toList.map fun c=>D.str ⟨#[c]⟩) else none).map D.lst):=e1
   by_cases hy:y.cps.all (· < 128)=true
   ·rw [if_pos hy] at e1
    refine wpAny_pyIter_ascii hy (fj (ds:=y.cps.toList.map fun c=>.str ⟨#[c]⟩) (wr:=[z1.s.heap.objs.size]) x1 I1 (.push (t:=z1.s.toks)) (Itr.walks (I1.hd hc) (by simp) (fun A hA=>Walks.strAscii hA _ y t) (fun i h st b hb=>by rw [List.mem_singleton.mp hb];obtain ⟨o,e,_⟩:=st;exact ⟨o,e⟩) (fun st q=>let ⟨o,e,c,d⟩:=st;ji e c d (by decide) q) fun i v d p1 p2 ρ' G' h1 h2=>?_) ⟨_,Heap.get?_push_size _ rfl,rfl,rfl⟩ (fun b hb=>?_) e1)
    ·obtain ⟨c,u,w1,rfl⟩:=p1
     rw [List.getElem?_map,Array.getElem?_toList,w1] at p2
     cases p2;exact ⟨u,rfl⟩
    ·rw [List.mem_singleton.mp hb];exact .inl ⟨aA z1,_,Heap.get?_push_size _ rfl⟩
   ·rw [if_neg hy] at e1;exact absurd e1 nb
 | _=>exact absurd e1 nb
theorem si {a:Int}:(iN a n).length=n:=by simp [iN]
theorem jJ {lo hi:Int} {t u v:Tok} {tk:Nat} {o:Out D} (hc:X.calm=true) (x:Ee X z z1) (I:Rep X z1) (h1:-(2 ^ 62)≤lo) (h2:lo<2 ^ 62) (h3:-(2 ^ 62)≤hi) (h4:hi<2 ^ 62) (e:o = .ok (.lst (iN lo (hi - lo).toNat)) z1.t):wpAny X.M X.A (pyIter (.ref z1.s.heap.objs.size)) (FI X z tg o) NoE { z1.s with heap:=z1.s.heap.push { cls:=.type "range",data:=.fields #[.int lo t,.int hi u,.int 1 v] },toks:=tk }:=by
 refine wpAny_pyIter_range (IsRange.new ..) (small_one h1 h2 h3 h4) ?_
 have e2:(((hi - lo).toNat:Nat):Int) - ((0:Nat):Int)=Builtin.Range.rangeSize lo hi 1:=by rw [rangeSize_one];split <;> omega
 have g0:Gr z1.s { z1.s with heap:=z1.s.heap.push { cls:=.type "range",data:=.fields #[.int lo t,.int hi u,.int 1 v] },toks:=tk }:=.push
 have I2:=I.grow (ak I.gh g0)
 refine fj (z1:={ z1 with s:={ z1.s with heap:=z1.s.heap.push { cls:=.type "range",data:=.fields #[.int lo t,.int hi u,.int 1 v] },toks:=tk } }) (ds:=iN lo (hi - lo).toNat) (x.trans (ak I.gh g0).ee) I2 (.push (t:=tk)) (Itr.walks (I.hd hc) si (fun A hA=>Walks.range hA _ lo 1 (hi - lo).toNat) (fun i h st b hb=>by rw [List.mem_singleton.mp hb];exact ⟨_,st⟩) (fun st q=>ji st rfl rfl (by decide) q) fun i v d p1 p2 ρ' G' _ _=>?_) ?_ (fun b hb=>?_) e
 ·obtain ⟨t,rfl⟩:=p1
  unfold iN at p2
  rw [List.getElem?_map,Option.map_eq_some_iff] at p2
  obtain ⟨j,p3,rfl⟩:=p2
  obtain ⟨hj,hj2⟩:=List.getElem?_eq_some_iff.mp p3
  rw [List.getElem_range] at hj2
  subst hj2
  exact ⟨t,by rw [Int.mul_one]⟩
 ·show IsRangeIter _ _ (lo+((0:Nat):Int) * 1) ((((hi - lo).toNat:Nat):Int) - ((0:Nat):Int)) 1
  rw [e2,show lo+((0:Nat):Int) * 1=lo by simp]
  exact Heap.get?_push_size _ rfl
 ·rw [List.mem_singleton.mp hb];exact .inl ⟨aA { z1 with s:=_ },_,Heap.get?_push_size _ rfl⟩
theorem mU (hc:X.calm=true) (hx:Blt X "range" (.type "range")) (ha:LE X ea a) (he:starEach [ea] X.env=(false,eval ea X.env) :: starEach [] X.env):LI X tg (.Call (.Name "range" p) [ea] [] pos) (.it .range1 (.cons a .nil)):=fun z I nb=>
 bg (Q:=fun v s1=>wpAny X.M X.A (pyIter v) (FI X z tg (X.ev false (.it .range1 (.cons a .nil)) z.t)) NoE s1) (.inr ⟨_,rfl⟩) hx he rfl I (Calls.spliced_cons ((ha false).go .refl I (ev1 fun l s=>Out.of s ((itD .range1 l).map D.lst)) nb fun z1 x u y1 x1 I1 r1 e1=>Calls.spliced_nil (by
  cases x with
  | int j=>
    obtain ⟨t,rfl⟩:=r1.rd
    have e1:X.ev false (.it .range1 (.cons a .nil)) z.t=Out.of z1.t ((if -(2 ^ 62)≤j∧j<2 ^ 62 then some (iN 0 j.toNat) else none).map D.lst):=e1
    by_cases c:-(2 ^ 62)≤j∧j<2 ^ 62
    ·rw [if_pos c] at e1
     exact call_range_1 (jJ hc x1 I1 (by omega) (by omega) c.1 c.2 (by rw [Int.sub_zero];exact e1))
    ·rw [if_neg c] at e1;exact absurd e1 nb
  | _=>exact absurd e1 nb)))
theorem mV (hc:X.calm=true) (hx:Blt X "range" (.type "range")) (ha:LE X ea a) (hb:LE X eb b) (he:starEach [ea,eb] X.env=(false,eval ea X.env) :: starEach [eb] X.env) (he2:starEach [eb] X.env=(false,eval eb X.env) :: starEach [] X.env):LI X tg (.Call (.Name "range" p) [ea,eb] [] pos) (.it .range2 (.cons a (.cons b .nil))):=fun z I nb=>
 bg (Q:=fun v s1=>wpAny X.M X.A (pyIter v) (FI X z tg (X.ev false (.it .range2 (.cons a (.cons b .nil))) z.t)) NoE s1) (.inr ⟨_,rfl⟩) hx he (by rw [he2];rfl) I (by
  rw [he2]
  exact Calls.spliced_cons ((ha false).go .refl I (ev2 fun l s=>Out.of s ((itD .range2 l).map D.lst)) nb fun z1 x u y1 x1 I1 r1 e1=>Calls.spliced_cons ((hb false).go x1 I1 e1 nb fun z2 y v y2 x2 I2 r2 e2=>Calls.spliced_nil (by
   cases x with
   | int i=>
     cases y with
     | int j=>
       obtain ⟨t,rfl⟩:=r1.rd
       obtain ⟨t',rfl⟩:=r2.rd
       have e1:X.ev false (.it .range2 (.cons a (.cons b .nil))) z.t=Out.of z2.t ((if (-(2 ^ 62)≤i∧i<2 ^ 62∧-(2 ^ 62)≤j∧j<2 ^ 62) then some (iN i (j - i).toNat) else none).map D.lst):=e2
       by_cases c:(-(2 ^ 62)≤i∧i<2 ^ 62∧-(2 ^ 62)≤j∧j<2 ^ 62)
       ·rw [if_pos c] at e1
        exact call_range_2 (jJ hc x2 I2 c.1 c.2.1 c.2.2.1 c.2.2.2 e1)
       ·rw [if_neg c] at e1;exact absurd e1 nb
     | _=>exact absurd e2 nb
   | _=>exact absurd (e2.trans (by cases y <;> rfl)) nb))))
theorem hX:∀ {l:List D} {i:Nat} {j:Int},(bu j l)[i]? = (l[i]?).map fun d=>.tup [.int (j+i),d]
 | [],_,_=>by unfold bu;simp
 | a :: r,0,j=>by unfold bu;simp
 | a :: r,i+1,j=>by
   unfold bu
   rw [List.getElem?_cons_succ,List.getElem?_cons_succ,hX]
   congr 1;funext d;congr 3;omega
theorem fh:∀ {l:List D} {j:Int},(bu j l).length=l.length
 | [],_=>by unfold bu;rfl
 | a :: r,j=>by unfold bu;rw [List.length_cons,List.length_cons,fh]
theorem rF {es:List Expr} {k:Nat} {tp:Pos} (hc:X.calm=true) (hx:Blt X "enumerate" (.type "enumerate")) (ha:LE X ea a) (he:starEach [ea] X.env=(false,eval ea X.env) :: starEach [] X.env):LI X (.Tuple es k tp) (.Call (.Name "enumerate" p) [ea] [] pos) (.it .enum (.cons a .nil)):=fun z I nb=>
 bg (Q:=fun v s1=>wpAny X.M X.A (pyIter v) (FI X z (.Tuple es k tp) (X.ev false (.it .enum (.cons a .nil)) z.t)) NoE s1) (.inr ⟨_,rfl⟩) hx he rfl I (Calls.spliced_cons ((ha false).go .refl I (ev1 fun l s=>Out.of s ((itD .enum l).map D.lst)) nb fun z1 x u y1 x1 I1 r1 e1=>Calls.spliced_nil (by
  cases x with
  | lst l=>
    obtain ⟨a0,o,vs,rfl,g,⟨⟨n,rfl⟩,hz⟩,r⟩:=r1.rd
    have hlt:=Heap.lt_size (I1.gh _ _ g)
    refine call_enumerate_1 (I1.gh _ _ g) fun h' g1 g2 hsz kp=>wpAny_pyIter_enum g1 (fj (ds:=bu 0 l) x1 I1 (s2:={ z1.s with heap:=h' }) (.hp (t:=z1.s.toks) kp) (Itr.walksT (I1.hd hc) (by rw [fh];simp [r.len]) (fun A hA=>WalksT.enumerate hA (z1.s.heap.objs.size+1) z1.s.heap.objs.size a0 (Nat.succ_ne_self _) (Nat.ne_of_lt (Nat.lt_succ_of_lt hlt)) (Nat.ne_of_lt hlt) vs.toArray) (fun i h st b hb=>?_) fun i vals d p1 p2=>?_) ⟨⟨_,g1⟩,g2,⟨_,kp _ _ (I1.gh _ _ g),rfl,n,rfl⟩⟩ (fun b hb=>?_) e1)
    ·obtain ⟨⟨old,e1⟩,⟨o2,e2,_⟩,_⟩:=st
     rcases List.mem_cons.mp hb with w | w
     ·rw [w];exact ⟨_,e1⟩
     ·rw [List.mem_singleton.mp w];exact ⟨o2,e2⟩
    ·obtain ⟨t,v,p3,rfl⟩:=p1
     rw [hX,Option.map_eq_some_iff] at p2
     obtain ⟨d',p4,rfl⟩:=p2
     refine ⟨by simp [sizeLine_eq],_,rfl,fun ρ' G' h1 h2=>?_⟩
     obtain ⟨v',w1,w2⟩:=(r.mono h1 h2).get p4
     rw [show vs[i]? = some v by simpa using p3] at w1;cases w1
     exact .cons ⟨t,by rw [Int.zero_add]⟩ (.cons w2 rfl)
    ·rcases List.mem_cons.mp hb with w | w
     ·rw [w];exact .inl ⟨ij (Nat.le_succ _),_,g1⟩
     ·rcases List.mem_cons.mp w with w | w
      ·obtain ⟨o2,e2,_⟩:=g2
       rw [w];exact .inl ⟨aA z1,_,e2⟩
      ·rw [List.mem_singleton.mp w]
       refine .inr ⟨fun m=>?_,_,g⟩
       rcases List.mem_cons.mp m with q | q
       ·exact Nat.ne_of_lt (Nat.lt_succ_of_lt hlt) q
       ·exact Nat.ne_of_lt hlt (List.mem_singleton.mp q)
  | _=>exact absurd e1 nb)))
end
def gc (env:Env):NK→List (Str×Addr)→List (Str×Addr)
 | [],cs=>cs
 | y :: r,cs=>gc env r (if (y.2 == NameKind.free)=true then (match env.cells.lookup y.1 with | some a=>(y.1,a) :: cs | none=>cs) else cs)
theorem cb :∀ {l:List (Str×β)} {p:Str×β},p∈l→∃ c,l.lookup p.1=some c
 | [],_,h=>nomatch h
 | (a,b) :: r,p,h=>by
   cases e:p.1 == a with
   | true=>exact ⟨b,by simp only [List.lookup_cons,e]⟩
   | false=>
     rcases List.mem_cons.mp h with q | q
     ·subst q;simp at e
     ·obtain ⟨c,hc⟩:=cb q
      exact ⟨c,by simp only [List.lookup_cons,e];exact hc⟩
theorem ja :∀ {ns} {cs} {p:Str×Addr},p∈gc env ns cs→p∈cs∨env.cells.lookup p.1=some p.2
 | [],_,_,h=>.inl h
 | y :: r,cs,p,h=>by
   rcases ja (ns:=r) h with q | q
   ·by_cases hk:(y.2 == NameKind.free)=true
    ·rw [if_pos hk] at q
     cases e:env.cells.lookup y.1 with
     | none=>rw [e] at q;exact .inl q
     | some a=>
       rw [e] at q
       rcases List.mem_cons.mp q with rfl | q
       ·exact .inr e
       ·exact .inl q
    ·rw [if_neg hk] at q;exact .inl q
   ·exact .inr q
theorem gK :∀ {ns} {cs} {p:Str×Addr},p∈cs→p∈gc env ns cs
 | [],_,_,h=>h
 | y :: r,cs,p,h=>by
   refine gK (ns:=r) ?_
   by_cases hk:(y.2 == NameKind.free)=true
   ·rw [if_pos hk]
    cases e:env.cells.lookup y.1 with
    | none=>exact h
    | some a=>exact List.mem_cons_of_mem _ h
   ·rw [if_neg hk];exact h
theorem fb :∀ {ns} {cs} {y:Str×NameKind} {c},y∈ns→y.2 = .free→env.cells.lookup y.1=some c→(y.1,c)∈gc env ns cs
 | z :: r,cs,y,c,h,hf,hc=>by
   rcases List.mem_cons.mp h with rfl | h
   ·refine gK (ns:=r) ?_
    rw [if_pos (by rw [hf];rfl),hc]
    exact List.mem_cons_self
   ·exact fb (ns:=r) h hf hc
theorem c9
 (hf:∀ y cs,f y cs=if (y.2 == NameKind.free)=true then (do let a ← cellOf env y.1;pure (ForInStep.yield ((y.1,a) :: cs))) else pure (ForInStep.yield cs)) :
 ∀ (ns) (cs),(∀ y∈ns,y.2 = .free→∃ c,env.cells.lookup y.1=some c)→(forIn ns cs f:Sem _)=pure (gc env ns cs)
 | [],cs,_=>rfl
 | y :: r,cs,h=>by
   rw [List.forIn_cons,hf]
   by_cases hk:(y.2 == NameKind.free)=true
   ·obtain ⟨c,hc⟩:=h y List.mem_cons_self (by simpa using hk)
    have e1:cellOf env y.1=pure c:=by unfold cellOf;rw [hc]
    rw [if_pos hk,e1]
    have ih:=c9 hf r ((y.1,c) :: cs) fun z hz=>h z (List.mem_cons_of_mem _ hz)
    show (forIn r ((y.1,c) :: cs) f:Sem _)=pure (gc env r _)
    rw [ih,if_pos hk,hc]
   ·have ih:=c9 hf r cs fun z hz=>h z (List.mem_cons_of_mem _ hz)
    rw [if_neg hk]
    show (forIn r cs f:Sem _)=pure (gc env r _)
    rw [ih,if_neg hk]
theorem ki (h:∀ y∈sc.names,y.2 = .free→∃ c,env.cells.lookup y.1=some c):closureFor sc env=pure (gc env sc.names []):=by
 simp only [closureFor]
 rw [c9 (env:=env) (fun y cs=>by obtain ⟨n,kd⟩:=y;by_cases hk:(kd == NameKind.free)=true <;> simp [hk]) sc.names [] h]
 rfl
def cxC (X:Cx) (N:List Str) (sc:Scope) (C:Addr):Cx:={ X with N:=N,env:=compEnvC sc (gc X.env sc.names []) C X.env }
def gS (sc:Scope) (env:Env) (p:Str×Str):Bool:=match (relabel sc env).names.lookup p.1 with
 | some .local=>false
 | some .cell=>p.1 == p.2
 | some .free=>p.1 == p.2
 | _=>true
structure Lcn (X:Cx) (sc:Scope) (k:Nat) (N:List Str):Prop where
 nocell:∀ y∈sc.names,y.2≠.cell
 kind:sc.kind = .function
 names:∀ y∈sc.names,y.2 = .local→sc.names.lookup y.1=some .local
 fr:∀ y∈sc.names,y.2 = .free→X.env.kindOf y.1=some .cell∨X.env.kindOf y.1=some .free
 len:N.length=k+X.N.length
 old:((N.drop k).zip X.N).all (gS sc X.env)=true
theorem wH (h1:(sc.names.all fun y=>y.2 != .cell)=true) (h2:sc.kind = .function) (h3:(sc.names.all fun y=>y.2 != .local || sc.names.lookup y.1 == some .local)=true)
 (h4:(sc.names.all fun y=>y.2 != .free || (X.env.kindOf y.1 == some .cell || X.env.kindOf y.1 == some .free))=true) (h5:N.length=k+X.N.length) (h6:((N.drop k).zip X.N).all (gS sc X.env)=true):Lcn X sc k N where
 nocell:=fun y hy=>by have:=List.all_eq_true.mp h1 y hy;simpa using this
 kind:=h2
 names:=fun y hy hl=>by have:=List.all_eq_true.mp h3 y hy;simpa [hl] using this
 fr:=fun y hy hl=>by have:=List.all_eq_true.mp h4 y hy;simpa [hl] using this
 len:=h5
 old:=h6
section
variable {X:Cx} {sc:Scope} {k:Nat} {N:List Str} {z z' z0 z1:Z} {C:Addr}
theorem Lcn.cells (L:Lcn X sc k N) (ok:COk X):∀ y∈sc.names,y.2 = .free→∃ c,X.env.cells.lookup y.1=some c:=fun y hy hf=>ok.ch y.1 (L.fr y hy hf)
theorem jb (e:(gc X.env sc.names []).lookup x=some c):X.env.cells.lookup x=some c:=by
 rcases ja (PySem.mem_of_lookup e) with q | q
 ·exact nomatch q
 ·exact q
theorem bZ (L:Lcn X sc k N) (e:(relabel sc X.env).names.lookup x=some kd) (hk:kd = .cell∨kd = .free):(x,NameKind.free)∈sc.names:=by
 have hm:=PySem.mem_of_lookup e
 obtain ⟨⟨n,k'⟩,hy,q⟩:=List.mem_map.mp hm
 dsimp only at q
 by_cases hc:(k' == NameKind.free && X.env.scope.kind == .function && X.env.kindOf n == some .cell)=true
 ·rw [if_pos hc] at q
  have e1:n=x:=congrArg Prod.fst q
  have e2:k' = .free:=by simp at hc;exact hc.1.1
  subst e1 e2
  exact hy
 ·rw [if_neg hc] at q
  have e1:n=x:=congrArg Prod.fst q
  have e2:k'=kd:=congrArg Prod.snd q
  subst e1 e2
  rcases hk with rfl | rfl
  ·exact absurd rfl (L.nocell _ hy)
  ·exact hy
theorem mE (L:Lcn X sc k N) (hi:N[i]? = some x) (hk:k≤i) (v:Vis (relabel sc X.env) x):X.N[i - k]? = some x∧(x,NameKind.free)∈sc.names:=by
 have hlt:i<N.length:=(List.getElem?_eq_some_iff.mp hi).1
 have hl:=L.len
 have h2:i - k<X.N.length:=by omega
 have e1:(N.drop k)[i - k]? = some x:=by rw [List.getElem?_drop];rw [show k+(i - k)=i by omega];exact hi
 have e2:X.N[i - k]? = some X.N[i - k]:=List.getElem?_eq_getElem h2
 have hz:((N.drop k).zip X.N)[i - k]? = some (x,X.N[i - k]):=by rw [List.getElem?_zip_eq_some];exact ⟨e1,e2⟩
 have ho:=List.all_eq_true.mp L.old _ (List.mem_of_getElem? hz)
 have v':(relabel sc X.env).names.lookup x=some .local∨(relabel sc X.env).names.lookup x=some .cell∨(relabel sc X.env).names.lookup x=some .free:=v
 unfold gS at ho
 rcases v' with q | q | q
 ·simp only [q] at ho;cases ho
 ·simp only [q] at ho
  have e3:x=X.N[i - k]:=by simpa using ho
  exact ⟨by rw [e2,← e3],bZ L q (.inl rfl)⟩
 ·simp only [q] at ho
  have e3:x=X.N[i - k]:=by simpa using ho
  exact ⟨by rw [e2,← e3],bZ L q (.inr rfl)⟩
theorem HR.cx (I:HR X z):HR (cxC X N sc C) z:=⟨I.md,I.fm,I.hd,I.bs,I.gh,I.rl,I.rn,I.rg,I.ob,I.fu,I.ff,I.br,I.os⟩
theorem HR.out (I:HR (cxC X N sc C) z):HR X z:=⟨I.md,I.fm,I.hd,I.bs,I.gh,I.rl,I.rn,I.rg,I.ob,I.fu,I.ff,I.br,I.os⟩
theorem sZ (h:Lc (cxC X N sc C) a):a=C∨Lc X a:=h.imp_right fun ⟨x,e⟩=>.inr ⟨x,jb e⟩
theorem o3 {s':Shared} {m:Str→Option Value} (L:Lcn X sc k N) (I:Rep X z) (ow:z.t.ow = []) (g:Gr z.s s') (hC:z.h C=none) (hn:s'.heap.Ns C m):Rep (cxC X N sc C) ⟨z.ρ,z.G,⟨List.replicate k none ++ z.t.env,[],z.t.st⟩,List.replicate k none ++ z.σ,s'⟩:=by
 have H:=(I.toHR.grow (ak I.gh g)).cx (N:=N) (sc:=sc) (C:=C)
 have ck:∀ {c:Addr} {v:Option Value},z.s.heap.IsCell c v→s'.heap.IsCell c v:=fun ⟨o,e,d⟩=>⟨o,g.k _ o e,d⟩
 have fC:=I.fre hC
 refine ⟨⟨H.md,H.fm,H.hd,H.bs,H.gh,H.rl,H.rn,H.rg,H.ob,H.fu,H.ff,H.br,H.os⟩,⟨I.ok.un,L.kind,I.ok.gl,I.ok.bl,fun x y c h1 h2=>I.ok.ci x y c (jb h1) (jb h2),fun x hx=>?_⟩,⟨m,hn,fun i x v h1 h2 h3=>?_⟩,fun x c e=>let ⟨v,q⟩:=I.ce x c (jb e);⟨v,ck q⟩,fun a l=>?_,by show (List.replicate k none ++ z.t.env).length=(List.replicate k none ++ z.σ).length;rw [List.length_append,List.length_append,I.el];simp,by show (List.replicate k none ++ z.σ).length=N.length;rw [List.length_append,List.length_replicate,L.len,I.sl],fun i d _ e=>?_,(fun i m=>nomatch m),(fun i j a m=>nomatch m)⟩
 ·have hx':(relabel sc X.env).names.lookup x=some .cell∨(relabel sc X.env).names.lookup x=some .free:=hx
  have hm:(x,NameKind.free)∈sc.names:=by
   rcases hx' with q | q
   ·exact bZ L q (.inl rfl)
   ·exact bZ L q (.inr rfl)
  obtain ⟨c,hc⟩:=L.cells I.ok _ hm rfl
  exact cb (fb hm rfl hc)
 ·have hki:k≤i:=by
   by_cases q:i<k
   ·rw [List.getElem?_append_left (by simpa using q),List.getElem?_replicate,if_pos q] at h2
    cases h2
   ·omega
  rw [List.getElem?_append_right (by simpa using hki),List.length_replicate] at h2
  obtain ⟨hx,hm⟩:=mE L h1 hki h3
  have hkx:=L.fr _ hm rfl
  have hvis:Vis X.env.scope x:=by
   rcases hkx with q | q
   ·exact .inr (.inl q)
   ·exact .inr (.inr q)
  obtain ⟨m0,_,hl⟩:=I.lo
  rcases hl (i - k) x v hx h2 hvis with ⟨q,_⟩ | ⟨_,c,hc,hcell⟩
  ·rcases hkx with z | z
   ·rw [show X.env.kindOf x=some .cell from z] at q;cases q
   ·rw [show X.env.kindOf x=some .free from z] at q;cases q
  ·obtain ⟨c',hc'⟩:=cb (fb hm rfl hc)
   have e:=jb hc'
   rw [hc] at e;cases e
   refine .inr ⟨?_,c,hc',ck hcell⟩
   have v':(relabel sc X.env).names.lookup x=some .local∨(relabel sc X.env).names.lookup x=some .cell∨(relabel sc X.env).names.lookup x=some .free:=h3
   rcases v' with z | z | z
   ·exfalso
    have hlt:i<N.length:=(List.getElem?_eq_some_iff.mp h1).1
    have hl':=L.len
    have h2':i - k<X.N.length:=by omega
    have hz:((N.drop k).zip X.N)[i - k]? = some (x,X.N[i - k]):=by
     rw [List.getElem?_zip_eq_some]
     exact ⟨by rw [List.getElem?_drop,show k+(i - k)=i by omega];exact h1,List.getElem?_eq_getElem h2'⟩
    have ho:=List.all_eq_true.mp L.old _ (List.mem_of_getElem? hz)
    unfold gS at ho
    simp only [z] at ho
    cases ho
   ·exact .inl z
   ·exact .inr z
 ·rcases sZ l with rfl | l
  ·exact ⟨fC.1.1,fC.1.2.1⟩
  ·exact I.fl a l
 ·have hki:k≤i:=by
   by_cases q:i<k
   ·have e:(List.replicate k none ++ z.t.env)[i]? = some (some d):=e
    rw [List.getElem?_append_left (by simpa using q),List.getElem?_replicate,if_pos q] at e
    cases e
   ·omega
  have e:(List.replicate k none ++ z.t.env)[i]? = some (some d):=e
  rw [List.getElem?_append_right (by simpa using hki),List.length_replicate] at e
  obtain ⟨u,e1,r⟩:=I.en (i - k) d (by rw [ow];exact nofun) e
  exact ⟨u,by show (List.replicate k none ++ z.σ)[i]? = _;rw [List.getElem?_append_right (by simpa using hki),List.length_replicate];exact e1,r⟩
theorem uu {zr:Z} (I:Rep X z) (Ir:Rep X zr) (er:zr.t.env=z.t.env∧zr.σ=z.σ∧zr.t.ow = []) (S:Stp X.fr (Own z) z z') (H:HR X z') (pr:zr.ρ <+: z'.ρ) (gg:Sub zr.G z'.G):Rep X { z' with t:=⟨z.t.env,[],z'.t.st⟩,σ:=z.σ }:=by
 have sl:∀ b o,z.h b=some o→¬ Mu z.ρ b→¬ Own z b→∃ sl,z'.s.heap.get? b=some { o with slots:=sl }:=fun b o e n w=>by
  by_cases f:b∈frs X.fr
  ·exact S.sl b o e n w f
  ·exact ⟨o.slots,S.sm b o e n w f⟩
 have nO:∀ {a},Lc X a→¬ Own z a:=fun l w=>(I.oth w).1.2.2.2 l
 have ck:∀ x c v,X.env.cells.lookup x=some c→z.s.heap.IsCell c v→z'.s.heap.IsCell c v:=fun x c v e ⟨o,q,d⟩=>by
  have l:Lc X c:=.inr ⟨x,e⟩
  obtain ⟨s,q2⟩:=sl c o q (I.fl c l).2 (nO l)
  exact ⟨_,q2,d⟩
 refine ⟨⟨H.md,H.fm,H.hd,H.bs,H.gh,H.rl,H.rn,H.rg,H.ob,H.fu,H.ff,H.br,H.os⟩,I.ok,?_,fun x c e=>let ⟨v,q⟩:=I.ce x c e;⟨v,ck x c v e q⟩,fun a l=>⟨?_,fun m=>(S.rn a m).elim (I.fl a l).2 fun w=>?_⟩,I.el,I.sl,fun i d _ e=>?_,(fun i m=>nomatch m),(fun i j a m=>nomatch m)⟩
 ·obtain ⟨m,⟨oL,es,ep,q,r⟩,hl⟩:=I.lo
  have l:Lc X X.env.locals:=.inl rfl
  obtain ⟨s,q2⟩:=sl _ _ q (I.fl _ l).2 (nO l)
  exact ⟨m,⟨_,es,ep,q2,r⟩,fun j x w e1 e2 e3=>cO (fun c v e q=>ck x c v e q) (hl j x w e1 e2 e3)⟩
 ·cases q:z'.G a with
  | none=>rfl
  | some o=>
    obtain ⟨o1,e1⟩:=I.lth l
    rcases S.gn a o q with w | w | w
    ·rw [(I.fl a l).1] at w;cases w
    ·rw [w] at e1;cases e1
    ·exact absurd w (nO l)
 ·obtain ⟨o1,e1⟩:=I.lth l
  rw [w] at e1;cases e1
 ·obtain ⟨u,e1,r⟩:=Ir.en i d (by rw [er.2.2];exact nofun) (by rw [er.1];exact e)
  exact ⟨u,er.2.1 ▸ e1,r.mono pr gg⟩
def LTs (Y:Cx) (ifs:List Expr) (c:E):Prop:=Jg Y (forIn ifs true fun c r=>if r=true then do let ok ← isTrue c Y.env (eval c Y.env);pure (ForInStep.yield ok) else pure (ForInStep.yield r)) (fun t=>(Y.ev true c t).bind toB) RT
theorem rT:LTs X [] (.c (.bl true)):=fun z I nb=>wpAny_tests_nil ⟨z,true,rfl,rfl,.refl,I,rfl⟩
theorem rU (h:LT X e c):LTs X [e] c:=fun z I nb=>wpAny_tests_one (h z I nb)
def lcF (X:Cx) (t:List Nat) (one:Bool) (elt cond:E) (d:D) (s':Sta):Out (Option D):=match aD t one d s'.env with
 | some env=>(noX (X.ev true cond ⟨env,[],s'.st⟩)).bind fun b s2=>(match b with
   | .bl true=>(noX (X.ev false elt s2)).bind fun e s3=>.ok (some e) ⟨s3.env,[],s3.st⟩
   | .bl false=>.ok none ⟨s2.env,[],s2.st⟩
   | _=>.bad)
 | none=>.bad
theorem Ee.nil (x:Ee X z z') (h:z.t.ow = []):z'.t.ow = []∧Stp X.fr (fun _=>False) z z':=⟨List.eq_nil_iff_forall_not_mem.mpr (fun i m=>by have:=x.ow i m;rw [h] at this;exact nomatch this),x.st.mono fun a ⟨i,m,_⟩=>by rw [h] at m;exact nomatch m⟩
theorem mt {t:Sta} (h:t.ow = []):(⟨t.env,[],t.st⟩:Sta)=t:=by cases t;cases h;rfl
end
section
variable {X:Cx} {sc:Scope} {N:List Str} {z z' z0 z1:Z}
structure LcP (X:Cx) (N:List Str) (ee tg iter:Expr) (ifs:List Expr) (sc:Scope) (t:List Nat) (one:Bool) (it elt cond:E):Prop where
 hc:X.calm=true
 L:Lcn X sc t.length N
 hi:LI X tg iter it
 hg:∀ C,LG (cxC X N sc C) tg t one
 hl:∀ i∈t,∀ x,N[i]? = some x→(relabel sc X.env).names.lookup x=some .local
 ht:∀ C,LTs (cxC X N sc C) ifs cond
 he:∀ C,LE (cxC X N sc C) ee elt
 hs:∀ x,foldedSetIterable iter X.env x=pure x
theorem oZ {ee tg iter:Expr} {ifs:List Expr} {t:List Nat} {one:Bool} {it elt cond:E} {pos p:Pos} {use:Option (Value→Sem Unit)} {Q:Value→Shared→Prop} {E:Value→Shared→Prop} {o:Out D} (P:LcP X N ee tg iter ifs sc t one it elt cond) (I:Rep X z) (e0:o=X.ev false (.lc t one it elt cond) z.t) (nb:o≠.bad) (hE:∀ u s',Px X z o u s'→E u s')
 (fin:∀ zf d D C m,Ee X z zf→Rep X zf→o = .ok d zf.t→FV X z zf d (.ref D)→Nob X z zf C→(∃ oC,zf.h C=some oC)→zf.s.heap.Ns C m→C≠D→compPost X.M X.A E use Q (.ref D) C (.ok .next) zf.s) :
 wpAny X.M X.A (comprehension (.ListComp ee [⟨tg,iter,ifs,0⟩] sc pos) sc X.env p (newList []) false (eval iter X.env) use) Q E z.s:=by
 have e0:o=(X.ev false it z.t).bind fun x s=>(match x with
  | .lst ds=>(aN (lcF X t one elt cond) ds [] ⟨List.replicate t.length none ++ s.env,[],s.st⟩).bind fun d s'=>.ok d ⟨s.env,[],s'.st⟩
  | _=>.bad):=e0
 have nb0:X.ev false it z.t≠.bad:=fun q=>nb (by rw [e0,q];rfl)
 refine wpAny_comprehension_free rfl P.hs (ki (P.L.cells I.ok)) P.L.kind P.L.names (wpAny_mono (P.hi z I nb0) (fun v s1 h1=>wpAny_mono h1 (fun itv s2 h2=>?_) fun _ _ w=>w.elim) fun u s' h=>hE u s' (by rw [e0];exact h.map))
 obtain ⟨z1,ds,a,fp,wr,St,q1,q2,x1,I1,q3,T,st1,f1⟩:=h2
 subst q1 q3
 rw [q2] at e0
 have e0:o=(aN (lcF X t one elt cond) ds [] ⟨List.replicate t.length none ++ z1.t.env,[],z1.t.st⟩).bind fun d s'=>.ok d ⟨z1.t.env,[],s'.st⟩:=e0
 refine wpAny_newObj_type (wpAny_newFunctionEnv P.L.nocell (by intro y hy;simp at hy) (fun h1 hns hsb=>?_) P.L.kind)
 dsimp only at hns hsb ⊢
 generalize hD:z1.s.heap.objs.size=D at hns hsb ⊢
 have nD:z1.h D=none:=hD ▸ aA z1
 generalize hG:z1.s.heap.push { cls:=.type "list",dict:=none,data:=.seq ([]:List Value).toArray }=G1 at hns hsb ⊢
 have hC0:G1.objs.size=D+1:=by rw [← hG,Heap.size_push,hD]
 generalize hC:G1.objs.size=C at hns hsb ⊢ hC0
 have CD:C≠D:=by rw [hC0];exact Nat.succ_ne_self _
 have nC:z1.h C=none:=Heap.get?_none_of_le (by rw [hC0,hD];exact Nat.le_succ _)
 have up:∀ b o,G1.get? b=some o→h1.get? b=some o:=fun b o e=>hsb.extBut b o (hC ▸ Nat.ne_of_lt (Heap.lt_size e)) (Heap.get?_push_of_some _ e)
 have kp:∀ b o,z1.s.heap.get? b=some o→h1.get? b=some o:=fun b o e=>up b o (hG ▸ Heap.get?_push_of_some _ e)
 have gr:Gr z1.s { z1.s with heap:=h1,toks:=z1.s.toks+([]:List (Str×Value)).length }:=.hp kp
 have hDo:h1.get? D=some { cls:=.type "list",data:=.seq ([]:List Value).toArray }:=up _ _ (hG ▸ hD ▸ Heap.get?_push_size _ rfl)
 obtain ⟨Ir,xr⟩:=I1.rel fun _=>false
 have owr:(z1.rel fun _=>false).t.ow = []:=List.filter_eq_nil_iff.mpr fun _ _=>by simp
 have I2:=o3 (k:=t.length) P.L Ir owr (s':={ z1.s with heap:=h1,toks:=z1.s.toks+([]:List (Str×Value)).length }) gr nC hns
 generalize hz2:(⟨(z1.rel fun _=>false).ρ,(z1.rel fun _=>false).G,⟨List.replicate t.length none ++ (z1.rel fun _=>false).t.env,[],(z1.rel fun _=>false).t.st⟩,List.replicate t.length none ++ (z1.rel fun _=>false).σ,{ z1.s with heap:=h1,toks:=z1.s.toks+([]:List (Str×Value)).length }⟩:Z)=z2 at I2
 have xa:=x1.trans xr
 have fD:=Ir.fre (a:=D) nD
 have fC:=Ir.fre (a:=C) nC
 have zD:z.h D=none:=x1.st.no nD
 have zC:z.h C=none:=x1.st.no nC
 have S2:Stp X.fr (Own z) z z2:=by
  subst hz2
  exact ⟨xa.st.pr,xa.st.gg,xa.st.gn,xa.st.rn,fun b o e=>let ⟨o',e'⟩:=xa.st.th b o e;⟨o',kp b o' e'⟩,fun b o e n w f=>kp b o (xa.st.sm b o e n w f),fun b o e n w f=>let ⟨sl,e'⟩:=xa.st.sl b o e n w f;⟨sl,kp b _ e'⟩⟩
 have nLD:¬ Lc X D:=fD.1.2.2.2
 have nLC:¬ Lc X C:=fC.1.2.2.2
 have nob2:∀ {b},z.h b=none→(z1.rel fun _=>false).G b=none→¬ Mu z1.ρ b→b ∉ frs X.fr→¬ Lc X b→b≠C→Nob (cxC X N sc C) z z2 b:=fun h0 h1 h2 h3 h4 h5=>by
  subst hz2
  exact ⟨h0,⟨h1,h2,h3,fun l=>(sZ l).elim h5 h4⟩,fun ⟨i,m,_⟩=>nomatch m⟩
 have nobD:Nob (cxC X N sc C) z z2 D:=nob2 zD fD.1.1 fD.1.2.1 fD.1.2.2.1 nLD (Ne.symm CD)
 have fp1:∀ b∈fp,∃ o,z1.h b=some o:=fun b hb=>(f1 b hb).elim (·.2) fun ⟨_,o,e⟩=>⟨o,I1.gh b o e⟩
 have fpn:∀ b∈fp,b≠D∧b≠C:=fun b hb=>by
  obtain ⟨o,e⟩:=fp1 b hb
  exact ⟨fun w=>(by rw [w,nD] at e;cases e),fun w=>(by rw [w,nC] at e;cases e)⟩
 have f2:Fp (cxC X N sc C) z z2 fp wr:=fun b hb=>by
  obtain ⟨o1,e1⟩:=fp1 b hb
  rcases f1 b hb with ⟨⟨n0,ff,no⟩,_⟩ | ⟨m,o,e⟩
  ·exact .inl ⟨nob2 n0 ((cQ fun ⟨i,m,_,e⟩=>no ⟨i,m,e⟩).trans ff.1) ff.2.1 ff.2.2.1 ff.2.2.2 (fpn b hb).2,o1,by subst hz2;exact kp b o1 e1⟩
  ·exact .inr ⟨m,o,by subst hz2;exact xr.st.gg b o e⟩
 have pr2:(z1.rel fun _=>false).ρ <+: z2.ρ:=by subst hz2;exact List.prefix_refl _
 have gg2:Sub (z1.rel fun _=>false).G z2.G:=by subst hz2;exact .refl _
 have ow2:z2.t.ow = []:=by subst hz2;rfl
 have s2e:z2.s={ z1.s with heap:=h1,toks:=z1.s.toks+([]:List (Str×Value)).length }:=by subst hz2;rfl
 have hD2:z2.h D=some { cls:=.type "list",data:=.seq ([]:List Value).toArray }:=by show z2.s.heap.get? D=_;rw [s2e];exact hDo
 have st2:St 0 z2.s.heap:=by rw [s2e];exact T.keep _ _ _ st1 fun b _ o e=>kp b o e
 have e2:o=(aN (lcF X t one elt cond) ds [] z2.t).bind fun d s'=>.ok d ⟨z1.t.env,[],s'.st⟩:=by subst hz2;exact e0
 have rH:codeAny X.M X.A (.compLoop (.ListComp ee [⟨tg,iter,ifs,0⟩] sc pos) 0 (.ref a) (.ref D) (cxC X N sc C).env) (compPost X.M X.A E use Q (.ref D) C) z2.s:=by
  refine codeAny_loop rfl (fun n s'=>∃ i z' acc vs ob,z'.s=s'∧n=ds.length - i∧i≤ds.length∧Stp X.fr (Own z) z z'∧Rep (cxC X N sc C) z'∧z'.t.ow = []∧St i z'.s.heap∧Fp (cxC X N sc C) z z' fp wr∧(z1.rel fun _=>false).ρ <+: z'.ρ∧Sub (z1.rel fun _=>false).G z'.G∧Nob (cxC X N sc C) z z' D∧z'.h D=some ob∧LsO ob vs∧RDs X.W z'.ρ z'.G acc vs∧o=(aN (lcF X t one elt cond) (ds.drop i) acc z'.t).bind fun d s'=>.ok d ⟨z1.t.env,[],s'.st⟩) (fun n s3 hI=>?_) (ds.length - 0) ⟨0,z2,[],[],_,rfl,rfl,Nat.zero_le _,S2,I2,ow2,st2,f2,pr2,gg2,nobD,hD2,⟨⟨_,rfl⟩,Nat.zero_le _⟩,rfl,by rw [List.drop_zero];exact e2⟩
  obtain ⟨i,z3,acc,vs,ob,e3,en,hi,S3,I3,ow3,st3,f3,p3,g3,nD3,hD3,lo3,ra3,q⟩:=hI
  subst e3
  show wpAny X.M X.A ((compTurn (.ListComp ee [⟨tg,iter,ifs,0⟩] sc pos) 0 (.ref a) (.ref D) (cxC X N sc C).env).onRaise (fun x=>do noteFrame x (cxC X N sc C).env;theTreesLotGoes x)) _ _ z3.s
  refine wpAny_noted ?_
  rw [compTurn_list]
  refine wpAny_bind (wpAny_standAt (wpAny_bind ?_))
  cases qd:ds[i]? with
  | none=>
    have hl:i=ds.length:=by rw [List.getElem?_eq_none_iff] at qd;omega
    subst hl
    refine wpAny_mono (T.done (I3.hd P.hc) st3) (fun r s4 ⟨er,os,k⟩=>?_) fun _ _ w=>w.elim
    subst er
    obtain ⟨I4,S4,g4,_⟩:=Rep.turn (X:=cxC X N sc C) S3 I3 (f3.wr T st3) k os
    rw [List.drop_length] at q
    have nDw:D ∉ wr:=fun m=>(fpn D (T.sub D m)).1 rfl
    have If:=uu I Ir ⟨x1.en,x1.sg,owr⟩ S4 I4.toHR.out p3 (g3.trans g4)
    obtain ⟨m,hn,_⟩:=I4.lo
    obtain ⟨n0,ff,no⟩:=nD3
    have GD:(z3.up s4).G D=none:=by show (match z3.h D with | none=>s4.heap.get? D | some _=>z3.G D)=none;rw [hD3];exact ff.1
    refine wpAny_pure (fin { z3.up s4 with t:=⟨z.t.env,[],z3.t.st⟩,σ:=z.σ } (.lst acc) D C m ⟨⟨S4.pr,S4.gg,S4.gn,S4.rn,S4.th,S4.sm,S4.sl⟩,rfl,rfl,fun i m=>nomatch m⟩ If (q.trans (by rw [x1.en];rfl)) ⟨D,.lst acc,rfl,zD,rfl,⟨ob,vs,rfl,k D ob nDw hD3,lo3,ra3.mono (List.prefix_refl _) g4⟩,⟨GD,ff.2.1,ff.2.2.1,nLD⟩,fun ⟨i,m,_⟩=>nomatch m⟩ ⟨zC,⟨(I4.fl C (.inl rfl)).1,(I4.fl C (.inl rfl)).2,fC.1.2.2.1,nLC⟩,fun ⟨i,m,_⟩=>nomatch m⟩ ?_ hn CD)
    obtain ⟨oC,_,_,eC,_⟩:=hn
    exact ⟨oC,eC⟩
  | some d=>
    have hil:i<ds.length:=(List.getElem?_eq_some_iff.mp qd).1
    rw [ly qd] at q
    have q:o=((lcF X t one elt cond d z3.t).bind fun o s'=>match o with
     | some e=>if acc.length<100000 then aN (lcF X t one elt cond) (ds.drop (i+1)) (acc ++ [e]) s' else .bad
     | none=>aN (lcF X t one elt cond) (ds.drop (i+1)) acc s').bind fun d s'=>.ok d ⟨z1.t.env,[],s'.st⟩:=q
    refine wpAny_mono (T.item (I3.hd P.hc) qd st3) (fun r s4 ⟨u,er,h4⟩=>?_) fun _ _ w=>w.elim
    subst er
    refine wpAny_bind (wpAny_mono h4 (fun _ s5 ⟨st5,os5,k5,rd5⟩=>?_) fun _ _ w=>w.elim)
    obtain ⟨I5,S5,g5,n5⟩:=Rep.turn (X:=cxC X N sc C) S3 I3 (f3.wr T st3) k5 os5
    have rd:=rd5 z3.ρ (z3.up s5).G (xr.st.pr.trans p3) ((xr.st.gg.trans g3).trans g5) fun a o e1 e2=>by rw [d8 e1];exact e2
    have f5:=f3.up I3 g5 k5 fun b m _=>T.ex _ _ st5 b m
    have nDw:D ∉ wr:=fun m=>(fpn D (T.sub D m)).1 rfl
    have nD5:Nob (cxC X N sc C) z (z3.up s5) D:=⟨nD3.1,⟨by show (match z3.h D with | none=>s5.heap.get? D | some _=>z3.G D)=none;rw [hD3];exact nD3.2.1.1,nD3.2.1.2⟩,nD3.2.2⟩
    have hD5:(z3.up s5).h D=some ob:=k5 D ob nDw hD3
    cases qb:aD t one d z3.t.env with
    | none=>rw [show lcF X t one elt cond d z3.t = .bad by unfold lcF;rw [qb]] at q;exact absurd q nb
    | some env=>
      rw [show lcF X t one elt cond d z3.t=(noX (X.ev true cond ⟨env,[],z3.t.st⟩)).bind fun b s2=>(match b with
       | .bl true=>(noX (X.ev false elt s2)).bind fun e s3=>.ok (some e) ⟨s3.env,[],s3.st⟩
       | .bl false=>.ok none ⟨s2.env,[],s2.st⟩
       | _=>.bad) by unfold lcF;rw [qb];all_goals rfl] at q
      refine wpAny_bind (P.hg C (z3.up s5) (z3.up s5) d u env _ _ .refl I5 rd qb fun z6 _ I6 eρ y6 et eσ ek=>?_)
      have k6:=ek P.hl
      have ow6:z6.t.ow = []:=by rw [et];show z3.t.ow.filter _ = [];rw [ow3];rfl
      have t6:z6.t=⟨env,[],z3.t.st⟩:=by rw [et];show (⟨env,z3.t.ow.filter _,z3.t.st⟩:Sta)=_;rw [ow3];rfl
      have S56:Stp X.fr (fun b=>b=C) (z3.up s5) z6:=⟨y6.st.pr,y6.st.gg,fun b o e=>(by
       rcases y6.st.gn b o e with w | w | w
       ·exact .inl w
       ·exact .inr (.inl w)
       ·rcases w with ⟨j,m,_⟩ | l
        ·have:j∈z3.t.ow:=m
         rw [ow3] at this;exact nomatch this
        ·rw [(I6.fl b l).1] at e;cases e),y6.st.rn,y6.st.th,fun b o e _ w _=>k6 b o e w,fun b o e _ w _=>⟨o.slots,k6 b o e w⟩⟩
      have S6:Stp X.fr (Own z) z z6:=S5.trans S56 fun b w=>.inr (by rw [w];exact zC)
      obtain ⟨nD6,hD6⟩:=nD5.go y6 hD5
      have f6:=f5.go y6
      have st6:St (i+1) z6.s.heap:=T.keep _ _ _ st5 (f5.keep y6 I5 I6)
      rw [← t6] at q
      have nb6:(X.ev true cond z6.t).bind toB≠.bad:=fun w=>nb (by
       rw [q]
       cases qc:X.ev true cond z6.t with
       | ok b s2=>
         rw [qc] at w
         cases b with
         | bl b=>cases w
         | _=>rfl
       | exc c l s2=>rfl
       | bad=>rfl)
      refine wpAny_bind (wpAny_mono (P.ht C z6 I6 nb6) (fun b s7 ⟨z7,tb,e7,q7,x7,I7,r7⟩=>?_) fun u s' ⟨z7,c,l,e7,q7,_⟩=>?_)
      rotate_left
      ·refine absurd ?_ nb
       rw [q]
       have q7:(X.ev true cond z6.t).bind toB = .exc c l z7.t:=q7
       cases qc:X.ev true cond z6.t with
       | ok b s2=>rw [qc] at q7;cases b <;> cases q7
       | exc c l s2=>rfl
       | bad=>rw [qc] at q7;cases q7
      subst e7
      obtain ⟨ow7,S67⟩:=x7.nil ow6
      have S7:Stp X.fr (Own z) z z7:=S6.trans S67 fun _ w=>w.elim
      obtain ⟨nD7,hD7⟩:=nD6.go x7.go hD6
      have f7:=f6.go x7.go
      have st7:St (i+1) z7.s.heap:=T.keep _ _ _ st6 (f6.keep x7.go I6 I7)
      have qc:X.ev true cond z6.t = .ok (.bl tb) z7.t:=by
       have q7:(X.ev true cond z6.t).bind toB = .ok tb z7.t:=q7
       cases qc:X.ev true cond z6.t with
       | ok b s2=>rw [qc] at q7;cases b <;> first | (cases q7;rfl) | cases q7
       | exc c l s2=>rw [qc] at q7;cases q7
       | bad=>rw [qc] at q7;cases q7
      rw [qc] at q
      have p7:(z1.rel fun _=>false).ρ <+: z7.ρ:=p3.trans ((eρ ▸ List.prefix_refl _:z3.ρ <+: z6.ρ).trans x7.st.pr)
      have g37:Sub z3.G z7.G:=(g5.trans y6.st.gg).trans x7.st.gg
      cases (show b=tb from r7)
      cases b with
      | false=>
        have q:o=(aN (lcF X t one elt cond) (ds.drop (i+1)) acc ⟨z7.t.env,[],z7.t.st⟩).bind fun d s'=>.ok d ⟨z1.t.env,[],s'.st⟩:=q
        rw [mt ow7] at q
        exact wpAny_pure ⟨rfl,ds.length - (i+1),by omega,i+1,z7,acc,vs,ob,rfl,rfl,hil,S7,I7,ow7,st7,f7,p7,g3.trans g37,nD7,hD7,lo3,ra3.mono ((eρ ▸ List.prefix_refl _:z3.ρ <+: z6.ρ).trans x7.st.pr) g37,q⟩
      | true=>
        have q:o=(((noX (X.ev false elt z7.t)).bind fun e s3=>Out.ok (some e) ⟨s3.env,[],s3.st⟩).bind fun o s'=>match o with
         | some e=>if acc.length<100000 then aN (lcF X t one elt cond) (ds.drop (i+1)) (acc ++ [e]) s' else .bad
         | none=>aN (lcF X t one elt cond) (ds.drop (i+1)) acc s').bind fun d s'=>.ok d ⟨z1.t.env,[],s'.st⟩:=q
        have nb7:X.ev false elt z7.t≠.bad:=fun w=>nb (by rw [q,w];rfl)
        refine wpAny_bind (wpAny_bind (wpAny_mono (P.he C false z7 I7 nb7) (fun v s8 ⟨z8,de,e8,q8,x8,I8,r8⟩=>?_) fun u s' ⟨z8,c,l,e8,q8,_⟩=>absurd (by rw [q,show X.ev false elt z7.t=_ from q8];rfl) nb))
        subst e8
        rw [show X.ev false elt z7.t=_ from q8] at q
        have q:o=(if acc.length<100000 then aN (lcF X t one elt cond) (ds.drop (i+1)) (acc ++ [de]) ⟨z8.t.env,[],z8.t.st⟩ else .bad).bind fun d s'=>.ok d ⟨z1.t.env,[],s'.st⟩:=q
        by_cases ca:acc.length<100000
        ·rw [if_pos ca] at q
         obtain ⟨ow8,S78⟩:=x8.nil ow7
         rw [mt ow8] at q
         have S8:Stp X.fr (Own z) z z8:=S7.trans S78 fun _ w=>w.elim
         obtain ⟨nD8,hD8⟩:=nD7.go x8.go hD7
         have f8:=f7.go x8.go
         have st8:St (i+1) z8.s.heap:=T.keep _ _ _ st7 (f7.keep x8.go I7 I8)
         obtain ⟨⟨n,rfl⟩,hz⟩:=lo3
         have ra8:=ra3.mono ((eρ ▸ List.prefix_refl _:z3.ρ <+: z6.ρ).trans (x7.st.pr.trans x8.st.pr)) (g37.trans x8.st.gg)
         have hl:vs.length<100000:=by rw [← ra8.len];exact ca
         refine wpAny_bind (call_meets PySem.F.slot_list_append ⟨_,hD8,rfl⟩ PySem.F.entry_list_append (PySem.F.args_list_append_2 _ _) (PySem.list_append D vs.toArray n v (by rw [List.size_toArray];exact Nat.le_of_lt (Nat.lt_of_lt_of_le hl (big (Nat.le_refl _))))) ⟨hD8,?_⟩)
         obtain ⟨⟨o1,u1,u3⟩,u2⟩:=iV (f:=(·.push v)) (ws:=vs ++ [v]) hD8 (by simp) (by rw [List.length_append];exact big (by simp;omega))
         have k9:∀ b o,b ∉ [D]→z8.h b=some o→(z8.s.heap.update D (Obj.mapSeq (·.push v))).get? b=some o:=fun b o m e=>(u2 b fun w=>m (by rw [w];exact List.mem_singleton.mpr rfl)).trans e
         obtain ⟨I9,S9,g9,_⟩:=Rep.turn (X:=cxC X N sc C) (s':={ z8.s with heap:=z8.s.heap.update D (Obj.mapSeq (·.push v)) }) S8 I8 (fun b hb=>by rw [List.mem_singleton.mp hb];exact ⟨nD8,_,hD8⟩) k9 ⟨rfl,rfl⟩
         refine wpAny_pure (wpAny_pure ⟨rfl,ds.length - (i+1),by omega,i+1,_,acc ++ [de],vs ++ [v],o1,rfl,rfl,hil,S9,I9,ow8,T.keep _ _ _ st8 fun b hb o e=>k9 b o (fun m=>(fpn b hb).1 (List.mem_singleton.mp m)) e,f8.up I8 g9 k9 fun b m hb=>absurd (List.mem_singleton.mp m) (fpn b hb).1,p7.trans x8.st.pr,((g3.trans g37).trans x8.st.gg).trans g9,⟨nD8.1,⟨?_,nD8.2.1.2⟩,nD8.2.2⟩,u1,u3,(ra8.mono (List.prefix_refl _) g9).app (.cons (r8.rd.mono (List.prefix_refl _) g9) rfl),q⟩)
         show (match z8.h D with | none=>_ | some _=>z8.G D)=none
         rw [hD8];exact nD8.2.1.1
        ·rw [if_neg ca] at q;exact absurd q nb
 rw [← s2e]
 exact codeAny_compStart_list rH (T.self (I1.hd P.hc) st2 rH)
theorem pb {ee tg iter:Expr} {ifs:List Expr} {t:List Nat} {one:Bool} {it elt cond:E} {pos:Pos} (P:LcP X N ee tg iter ifs sc t one it elt cond):LF X (.ListComp ee [⟨tg,iter,ifs,0⟩] sc pos) (.lc t one it elt cond):=fun z I nb=>by
 rw [eval_ListComp]
 refine oZ P I rfl nb (fun _ _ h=>h) fun zf d D C m x If e fv nC exC hn CD=>⟨m,hn,fun h' sb=>?_⟩
 have k:∀ b o,b ∉ [C]→zf.h b=some o→h'.get? b=some o:=fun b o m e=>(sb.2 b fun w=>m (by rw [w];exact List.mem_singleton.mpr rfl)).trans e
 obtain ⟨I4,S4,g4,_⟩:=Rep.turn (s':={ zf.s with heap:=h' }) x.st If (fun b hb=>by rw [List.mem_singleton.mp hb];exact ⟨nC,exC⟩) k ⟨rfl,rfl⟩
 obtain ⟨a,ob,ea,n,t1,r,f,no⟩:=fv
 have ea:a=D:=(Value.ref.inj ea).symm
 subst ea
 obtain ⟨oa,ha⟩:=r.th.1
 refine ⟨zf.up { zf.s with heap:=h' },d,rfl,e,⟨S4,x.sg,x.en,x.ow⟩,I4,a,ob,rfl,n,t1,r.mono (List.prefix_refl _) g4 fun b hb o e=>k b o (fun m=>?_) e,⟨?_,f.2⟩,no⟩
 ·have:b=a:=by rcases hb with w | w <;> exact w
  exact CD ((List.mem_singleton.mp m).symm.trans this)
 ·show (match zf.h a with | none=>h'.get? a | some _=>zf.G a)=none
  rw [ha];exact f.1
theorem wM {ee tg iter:Expr} {ifs:List Expr} {t:List Nat} {one:Bool} {it elt cond:E} {pos:Pos} (P:LcP X N ee tg iter ifs sc t one it elt cond):LE X (.ListComp ee [⟨tg,iter,ifs,0⟩] sc pos) (.lc t one it elt cond):=(pb P).le fun _=>rfl
theorem px {ee tg iter:Expr} {ifs:List Expr} {t:List Nat} {one:Bool} {it elt cond:E} {pos pos' spos:Pos} {i:Nat} {x:Str} (hN:X.N.Nodup) (hi:X.N[i]? = some x) (hx:Loc X.env.scope x) (P:LcP X N ee tg iter ifs sc t one it elt cond):LS X (.Assign [.Name x pos'] (.ListComp ee [⟨tg,iter,ifs,0⟩] sc pos) spos) (.set i (.lc t one it elt cond)):=fun z I nb=>by
 obtain ⟨b,sw⟩:∃ b,swapsWith (.ListComp ee [⟨tg,iter,ifs,0⟩] sc pos) (some (.Name x pos')) spos.line X.env=pure b:=⟨_,rfl⟩
 cases b with
 | false=>exact kE hN hi hx (wM P) (fun _=>pb P) sw z I nb
 | true=>
   have nb1:X.ev false (.lc t one it elt cond) z.t≠.bad:=fun q=>nb (show Out.go (X.ev false (.lc t one it elt cond) z.t) _=_ by rw [q];rfl)
   rw [exec_Assign_Name_used _ _ _ _ sw]
   refine wpAny_bind (wpAny_standAt (wpAny_bind ?_))
   show wpAny _ X.A (do let _ ← comprehension (.ListComp ee [⟨tg,iter,ifs,0⟩] sc pos) sc X.env _ (newList []) false (eval iter X.env) (some (assign (.Name x pos') X.env))) _ _ z.s
   refine wpAny_bind (thn (oZ (use:=some (assign (.Name x pos') X.env)) (Q:=fun _ s'=>Ps X z (X.ex (.set i (.lc t one it elt cond)) z.t) .next s') P I rfl nb1 (fun u s' h=>PxS.of .refl h) fun zf d D C m x0 If e fv nC exC hn CD=>?_) fun _ s' hq=>wpAny_pure (wpAny_pure hq))
   show wpAny _ X.A (assign (.Name x pos') X.env (.ref D)) _ _ _
   refine wpAny_assign_Name (bU (own:=true) x0.go If hN hi hx fv fun s' a sb la I' g'=>?_)
   have Ca:C≠a:=fun w=>nC.2.1.2.2.2 (w ▸ la.1)
   refine ⟨m,hn.sameBut sb Ca,fun h' sb'=>?_⟩
   have k:∀ b o,b ∉ [C]→s'.heap.get? b=some o→h'.get? b=some o:=fun b o m e=>(sb'.2 b fun w=>m (by rw [w];exact List.mem_singleton.mpr rfl)).trans e
   obtain ⟨oC,eC⟩:=exC
   obtain ⟨I4,S4,g4,_⟩:=Rep.turn (z:={ zf with t:=stV zf.t i d true,σ:=zf.σ.set i (some (.ref D)),s:=s' }) (s':={ s' with heap:=h' }) g'.st I' (fun b hb=>by
    rw [List.mem_singleton.mp hb]
    refine ⟨⟨nC.1,nC.2.1,fun ⟨j,mj,ej⟩=>?_⟩,oC,(sb.2 C Ca).trans eC⟩
    by_cases q:j=i
    ·subst q
     have hl:j<zf.σ.length:=by rw [If.sl];exact (List.getElem?_eq_some_iff.mp hi).1
     have ej:(zf.σ.set j (some (.ref D)))[j]? = some (some (.ref C)):=ej
     rw [List.getElem?_set_self hl] at ej
     cases ej;exact CD rfl
    ·have ej:(zf.σ.set i (some (.ref D)))[j]? = some (some (.ref C)):=ej
     rw [List.getElem?_set_ne (Ne.symm q)] at ej
     have mj:j∈i :: zf.t.ow.filter (· != i):=mj
     rcases List.mem_cons.mp mj with w | w
     ·exact q w
     ·exact nC.2.2 ⟨j,(List.mem_filter.mp w).1,ej⟩) k ⟨rfl,rfl⟩
   refine nxt (z1:=Z.up { zf with t:=stV zf.t i d true,σ:=zf.σ.set i (some (.ref D)),s:=s' } { s' with heap:=h' }) ⟨S4,g'.ow⟩ I4 ?_
   show Out.go (X.ev false (.lc t one it elt cond) z.t) _=_
   rw [e]
   show am.nx (kS zf.t i d true)=_
   have ld:ui d=true:=by
    obtain ⟨_,_,_,_,t,_⟩:=fv
    cases d <;> first | rfl | cases t
   unfold kS
   rw [ld];rfl
end
structure Wr (S ch:List Addr) (h h':Heap):Prop where
 keep:∀ b o,h.get? b=some o→b ∉ S→b ∉ ch→h'.get? b=some o
 slot:∀ b o,h.get? b=some o→b ∉ ch→∃ sl,h'.get? b=some { o with slots:=sl }
 there:∀ b o,h.get? b=some o→∃ o',h'.get? b=some o'
section
variable {S ch ch':List Addr} {h h1 h2 h':Heap}
theorem Wr.trans (x:Wr S ch h h1) (y:Wr S ch h1 h2):Wr S ch h h2:=
 ⟨fun b o e n m=>y.keep b o (x.keep b o e n m) n m,fun b o e m=>let ⟨_,e1⟩:=x.slot b o e m;let ⟨sl,e2⟩:=y.slot b _ e1 m;⟨sl,e2⟩,fun b o e=>let ⟨_,e1⟩:=x.there b o e;y.there b _ e1⟩
theorem Wr.mono (x:Wr S ch h h') (k:∀ b∈ch,b∈ch'):Wr S ch' h h':=⟨fun b o e n m=>x.keep b o e n fun z=>m (k b z),fun b o e m=>x.slot b o e fun z=>m (k b z),x.there⟩
theorem Wr.kept (k:∀ b o,h.get? b=some o→h'.get? b=some o):Wr S ch h h':=⟨fun b o e _ _=>k b o e,fun b o e _=>⟨o.slots,k b o e⟩,fun b o e=>⟨o,k b o e⟩⟩
theorem Wr.set (ho:h.get? a=some o) (hd:o.data = .fields vs) (g:Array Value→Array Value):Wr S [a] h (h.update a (Obj.mapFields g)):=by
 have ot:∀ b,b≠a→(h.update a (Obj.mapFields g)).get? b=h.get? b:=fun b n=>Heap.get?_update_other h _ fun z=>n z.symm
 have nm:∀ b,b ∉ [a]→b≠a:=fun b m z=>m (by rw [z];exact List.mem_cons_self)
 refine ⟨fun b u e _ m=>by rw [ot b (nm b m)];exact e,fun b u e m=>⟨u.slots,by rw [ot b (nm b m)];exact e⟩,fun b u e=>?_⟩
 by_cases z:b=a
 ·subst z
  exact ⟨_,Heap.get?_update_self _ ho (Obj.isFreed_of_fields (Obj.data_mapFields hd g))⟩
 ·exact ⟨u,by rw [ot b z];exact e⟩
theorem Wr.slots (x:Heap.SlotsOnly S h h'):Wr S ch h h':=⟨fun b o e n _=>(x.2.1 b n).trans e,fun b o e _=>x.2.2 b o e,fun b o e=>let ⟨_,q⟩:=x.2.2 b o e;⟨_,q⟩⟩
end
theorem ol (g:Array Value→Array Value) (o):(Obj.mapFields g o).dict=o.dict:=by
 obtain ⟨c,d,dt,sl⟩:=o
 cases dt <;> rfl
section
variable {M:Model} {A:Around} {E:Value→Shared→Prop} {s:Shared} {a T L:Addr} {cls fl:Value} {dx:Option Addr} {Q:Unit→Shared→Prop} {base:Heap} {env:Env} {outer:List Env} {S:List Addr}
theorem kT (t:Tr s.heap a cls dx T fl) (hQ:∀ h',Tr h' a cls dx T (fr.elim .none fun f=>rawInt f)→Wr S [T] s.heap h'→Q () { s with heap:=h' }):wpAny M A (setFlight (.ref a) fr) Q E s:=by
 obtain ⟨oe,vs,oT,ts,he,hc,hd,h1,ne,hT,hdT,h3⟩:=t
 have z3:=(Array.getElem?_eq_some_iff.mp h3).1
 unfold setFlight
 refine wpAny_bind (wpAny_field he hd h1 ?_)
 rw [if_pos (show (Value.ref T != Value.none)=true by simp)]
 refine wpAny_setField hT hdT z3 (hQ _ ?_ (Wr.set hT hdT _))
 have dT:=Obj.data_mapFields hdT (·.setIfInBounds 3 (fr.elim Value.none fun f=>rawInt f))
 exact ⟨oe,vs,_,_,(Heap.get?_update_other _ _ ne).trans he,hc,hd,h1,ne,Heap.get?_update_self _ hT (Obj.isFreed_of_fields dT),dT,by simp [z3]⟩
theorem entry (hfr:A.frames=some (env :: outer)) (hl:s.heap.FunFrames base (env :: outer)) (hf:env.frame=some L) (he:s.heap.get? a=some oe) (hd:oe.data = .fields vs) (hz:1<vs.size)
 (hQ:∀ h' T,s.heap.get? T=none→Tr h' a oe.cls oe.dict T (rawInt L)→Wr (frs (env :: outer)) [a] s.heap h'→Q () { s with heap:=h' }) :
 wpAny M A (do let x ← frameOf env;let pl ← entryPlaceOf L hn;let b ← EntryCells.newEntry head x .none (rawInt L) .none pl;setField (.ref a) 1 b) Q E s:=by
 have na:a ∉ (env :: outer).filterMap (·.frame):=fun m=>by
  obtain ⟨_,o,ho,nf⟩:=hl.mem m
  rw [he] at ho
  cases ho
  exact nf vs hd
 refine wpAny_bind (wpAny_frameOf_fun hfr hl hf fun g hg=>wpAny_bind (wpAny_entryPlaceOf fun pl hp=>?_))
 unfold EntryCells.newEntry newFields;refine wpAny_bind (wpAny_newObj_type ?_ (IsPlace.sizeOk5 hp _ _ _ _ _))
 have ea:g.get? a=some oe:=(hg.2.1 a na).trans he
 generalize hu:([head,Value.ref L,Value.none,rawInt L,Value.none] ++ (if pl.isEmpty then List.replicate 6 Value.none else pl)).toArray=us
 have u3:us[3]? = some (rawInt L):=by rw [← hu];rfl
 have ea2:=Heap.get?_push_of_some (h:=g) { cls:=.type "traceback",dict:=none,data:=.fields us } ea
 have nT:g.objs.size≠a:=Nat.ne_of_gt (Heap.lt_size ea)
 refine wpAny_setField ea2 hd hz (hQ _ g.objs.size ?_ ?_ ?_)
 ·rw [hg.1];exact Heap.get?_none_of_le (Nat.le_refl _)
 ·have da:=Obj.data_mapFields hd (·.setIfInBounds 1 (Value.ref g.objs.size))
  exact ⟨_,_,_,us,Heap.get?_update_self _ ea2 (Obj.isFreed_of_fields da),⟨Obj.cls_mapFields _ _,ol _ _⟩,da,by simp [hz],nT,(Heap.get?_update_other _ _ (Ne.symm nT)).trans (Heap.get?_push_size g rfl),rfl,u3⟩
 ·exact (Wr.slots (ch:=[a]) hg).trans ((Wr.kept fun b o e=>Heap.get?_push_of_some _ e).trans (Wr.set ea2 hd _))
theorem pK (hfr:A.frames=some (env :: outer)) (hl:s.heap.FunFrames base (env :: outer)) (hf:env.frame=some L) (x:Rw s.heap a cls dx)
 (hQ:∀ h' T,s.heap.get? T=none→Tr h' a cls dx T (rawInt L)→Wr (frs (env :: outer)) [a] s.heap h'→Q () { s with heap:=h' }):wpAny M A (noteFrame (.ref a) env) Q E s:=by
 obtain ⟨oe,vs,he,⟨rfl,rfl⟩,hd,h1⟩:=x
 unfold noteFrame
 simp only [hf]
 refine wpAny_bind (wpAny_field he hd h1 ?_)
 rw [if_neg (by decide)]
 exact entry hfr hl hf he hd (Array.getElem?_eq_some_iff.mp h1).1 hQ
theorem nu (hfr:A.frames=some (env :: outer)) (hl:s.heap.FunFrames base (env :: outer)) (hf:env.frame=some L) (x:Tr s.heap a cls dx T .none)
 (hQ:∀ h' T',s.heap.get? T'=none→Tr h' a cls dx T' (rawInt L)→Wr (frs (env :: outer)) [a,T] s.heap h'→Q () { s with heap:=h' }):wpAny M A (noteFrame (.ref a) env) Q E s:=by
 obtain ⟨oe,vs,oT,ts,he,⟨rfl,rfl⟩,hd,h1,ne,hT,hdT,h3⟩:=x
 unfold noteFrame
 simp only [hf]
 refine wpAny_bind (wpAny_field he hd h1 ?_)
 rw [if_pos (show (Value.ref T != Value.none)=true by simp)]
 refine wpAny_bind (wpAny_field hT hdT h3 ?_)
 rw [if_neg (show ¬ ((Value.none == rawInt L)=true) by simp [rawInt])]
 refine wpAny_bind (wpAny_setField hT hdT (Array.getElem?_eq_some_iff.mp h3).1 ?_)
 have w1:Wr (frs (env :: outer)) [T] s.heap _:=Wr.set hT hdT (·.setIfInBounds 3 Value.none)
 refine entry hfr (hl.of_keeps fun b o e nf=>⟨o,?_,rfl⟩) hf ((Heap.get?_update_other _ _ ne).trans he) hd (Array.getElem?_eq_some_iff.mp h1).1 fun h' T' n t w=>hQ h' T' ?_ t ((w1.mono (by simp)).trans (w.mono (by simp)))
 ·refine (Heap.get?_update_other _ _ fun z=>?_).trans e
  subst z
  rw [hT] at e
  cases e
  exact nf ts hdT
 ·cases q:s.heap.get? T' with
  | none=>rfl
  | some o=>
    obtain ⟨o',e'⟩:=w1.there T' o q
    rw [n] at e'
    cases e'
theorem nq (hf:env.frame=some L) (x:Tr s.heap a cls dx T (rawInt L)) (hQ:Q () s):wpAny M A (noteFrame (.ref a) env) Q E s:=by
 obtain ⟨oe,vs,oT,ts,he,⟨rfl,rfl⟩,hd,h1,ne,hT,hdT,h3⟩:=x
 unfold noteFrame
 simp only [hf]
 refine wpAny_bind (wpAny_field he hd h1 ?_)
 rw [if_pos (show (Value.ref T != Value.none)=true by simp)]
 refine wpAny_bind (wpAny_field hT hdT h3 ?_)
 rw [if_pos (show (rawInt L == rawInt L)=true by simp)]
 exact wpAny_pure hQ
end
section
variable {X:Cx} {z z' z0 z1:Z} {M:Model} {w:Addr→Prop}
theorem oO {h h':Heap}:∀ {l:List Env},h.FunFrames base l→(∀ b∈frs l,∀ o,h.get? b=some o→∃ sl,h'.get? b=some { o with slots:=sl })→h'.FunFrames base l
 | [],_,_=>trivial
 | v :: r,⟨a,⟨L,o,e1,e2,e3,e4⟩,q⟩,k=>by
   have hm:L∈frs (v :: r):=by unfold frs;rw [List.filterMap_cons,e1];exact List.mem_cons_self
   obtain ⟨sl,e5⟩:=k L hm o e3
   exact ⟨a,⟨L,_,e1,e2,e5,e4⟩,oO q fun b hb=>k b (by unfold frs;rw [List.filterMap_cons,e1];exact List.mem_cons_of_mem _ hb)⟩
theorem Rep.wr {h':Heap} {ch:List Addr} {t:Nat} (I:Rep X z) (y:Wr (frs X.fr) ch z.s.heap h') (hc:∀ b∈ch,Fre X z b∧¬ Own z b):Rep X { z with s:={ z.s with heap:=h',toks:=t } }:=by
 have nG:∀ {b o},z.G b=some o→z.h b=some o→h'.get? b=some o:=fun e e'=>y.keep _ _ e' (fun m=>by rw [(I.ff _ m).1] at e;cases e) fun m=>by rw [(hc _ m).1.1] at e;cases e
 have sl:∀ b,Lc X b→∀ o,z.s.heap.get? b=some o→∃ sl,h'.get? b=some { o with slots:=sl }:=fun b l o e=>y.slot b o e fun m=>(hc b m).1.2.2.2 l
 have ck:∀ x c v,X.env.cells.lookup x=some c→z.s.heap.IsCell c v→h'.IsCell c v:=fun x c v e ⟨o,q,d⟩=>let ⟨_,q2⟩:=sl c (.inr ⟨x,e⟩) o q;⟨_,q2,d⟩
 refine ⟨⟨I.md,I.fm,I.hd,I.bs,fun b o e=>nG e (I.gh b o e),I.rl,I.rn,I.rg,fun n o p h1 h2=>(I.ob n o p h1 h2).mono (List.prefix_refl _) (.refl _) fun b hb o e=>?_,oO I.fu fun b hb o e=>y.slot b o e fun m=>(hc b m).1.2.2.1 hb,I.ff,I.br,I.os⟩,I.ok,?_,fun x c e=>let ⟨v,q⟩:=I.ce x c e;⟨v,ck x c v e q⟩,I.fl,I.el,I.sl,I.en,fun i m=>?_,I.od⟩
 ·have mu:Mu z.ρ b:=⟨p,List.mem_of_getElem? h2,hb⟩
  exact y.keep b o e (fun m=>(I.ff b m).2 mu) fun m=>(hc b m).1.2.1 mu
 ·obtain ⟨m,⟨oL,es,ep,q,r⟩,hl⟩:=I.lo
  obtain ⟨_,q2⟩:=sl _ (.inl rfl) _ q
  exact ⟨m,⟨_,es,ep,q2,r⟩,fun j x w e1 e2 e3=>cO (fun c v e q=>ck x c v e q) (hl j x w e1 e2 e3)⟩
 ·obtain ⟨d,a,o,h1,h2,h3,r,f⟩:=I.eo i m
  exact ⟨d,a,o,h1,h2,h3,r.mono (List.prefix_refl _) (.refl _) fun b hb o e=>y.keep b o e (by rcases hb with rfl | rfl <;> exact f.2.2.1) fun mm=>(hc b mm).2 (by rcases hb with rfl | rfl <;> exact ⟨i,m,h2⟩),f⟩
theorem Stp.wr {h':Heap} {ch:List Addr} {t:Nat} (x:Stp fr w z0 z) (y:Wr (frs fr) ch z.s.heap h') (hc:∀ b∈ch,z0.h b=none):Stp fr w z0 { z with s:={ z.s with heap:=h',toks:=t } }:=by
 have nc:∀ {b o},z0.h b=some o→b ∉ ch:=fun e m=>by rw [hc _ m] at e;cases e
 refine ⟨x.pr,x.gg,x.gn,x.rn,fun a o e=>let ⟨o',e'⟩:=x.th a o e;y.there a o' e',fun a o e n m f=>y.keep a o (x.sm a o e n m f) f (nc e),fun a o e n m f=>?_⟩
 obtain ⟨sl,e1⟩:=x.sl a o e n m f
 obtain ⟨sl2,e2⟩:=y.slot a _ e1 (nc e)
 exact ⟨sl2,e2⟩
structure j6 (X:Cx):Prop where
 fr:∃ outer,X.fr=X.env :: outer
 frame:X.env.frame=some X.env.locals
def XN (X:Cx) (w:Addr→Prop) (z z':Z) (c:Nat) (l:List D) (e:Value) (fl:Value):Prop:=∃ a T cls dx,e = .ref a∧Stp X.fr w z z'∧Rep X z'∧XR X.W z' c l cls dx∧Nob X z z' a∧Tr z'.s.heap a cls dx T fl∧Nob X z z' T
theorem XN.wr {h':Heap} {ch:List Addr} {a T:Addr} {fl:Value} (x:Stp X.fr w z z') (I:Rep X z') (r:XR X.W z' c l cls dx) (na:Nob X z z' a) (nT:Nob X z z' T) (y:Wr (frs X.fr) ch z'.s.heap h') (hc:∀ b∈ch,Nob X z z' b) (t:Tr h' a cls dx T fl):XN X w z { z' with s:={ z'.s with heap:=h' } } c l (.ref a) fl:=
 ⟨a,T,cls,dx,rfl,x.wr (t:=z'.s.toks) y fun b hb=>(hc b hb).1,I.wr (t:=z'.s.toks) y fun b hb=>(hc b hb).2,r,na,t,nT⟩
theorem eT {Q:Unit→Shared→Prop} {E:Value→Shared→Prop} (F:j6 X) (x:Stp X.fr w z z') (I:Rep X z') (h:XO X z z' c l e) (hQ:∀ h',XN X w z { z' with s:={ z'.s with heap:=h' } } c l e (rawInt X.env.locals)→Q () { z'.s with heap:=h' }):wpAny M X.A (noteFrame e X.env) Q E z'.s:=by
 obtain ⟨outer,hfr⟩:=F.fr
 have fm:=I.fm
 have fu:=I.fu
 rw [hfr] at fm fu
 obtain ⟨a,cls,dx,rfl,r,na,t⟩:=h
 have new:∀ T,z'.h T=none→Nob X z z' T:=fun T n=>⟨x.no n,I.fre n⟩
 rcases t with t | ⟨T,fl,t,hfl,nT⟩
 ·refine pK fm fu F.frame t fun h' T n t' y=>hQ h' (.wr x I r na (new T n) (by rw [hfr];exact y) (fun b hb=>?_) t')
  rw [List.mem_singleton.mp hb];exact na
 ·rcases hfl with rfl | rfl
  ·refine nu fm fu F.frame t fun h' T' n t' y=>hQ h' (.wr x I r na (new T' n) (by rw [hfr];exact y) (fun b hb=>?_) t')
   rcases List.mem_cons.mp hb with q | q
   ·rw [q];exact na
   ·rw [List.mem_singleton.mp q];exact nT
  ·exact nq F.frame t (hQ z'.s.heap ⟨a,T,cls,dx,rfl,x,I,r,na,t,nT⟩)
theorem bP {fl:Value} {fr:Option Addr} {Q:Unit→Shared→Prop} {E:Value→Shared→Prop} {A:Around} (h:XN X w z z' c l e fl) (hQ:∀ h',XN X w z { z' with s:={ z'.s with heap:=h' } } c l e (fr.elim .none fun f=>rawInt f)→Q () { z'.s with heap:=h' }):wpAny M A (setFlight e fr) Q E z'.s:=by
 obtain ⟨a,T,cls,dx,rfl,x,I,r,na,t,nT⟩:=h
 exact kT (S:=frs X.fr) t fun h' t' y=>hQ h' (.wr x I r na nT y (fun b hb=>by rw [List.mem_singleton.mp hb];exact nT) t')
theorem se (F:j6 X):PassesOwn M X.A X.env (PxS X z o):=fun e s' ⟨z',c,l,q,q2,x,I,h⟩=>by
 subst q
 unfold notedBy
 refine eT F x.st I h fun h' hn=>?_
 obtain ⟨a,T,cls,dx,e1,_,_,_,_,t,_⟩:=id hn
 subst e1
 unfold cameBackBy
 obtain ⟨oe,vs,oT,ts,he,hc,hd,h1,r⟩:=id t
 refine wpAny_bind (wpAny_field he hd h1 ?_)
 rw [if_neg (show ¬ ((Value.ref T == Value.none)=true) by simp),F.frame]
 refine bP (z':={ z' with s:={ z'.s with heap:=h' } }) (fr:=some X.env.locals) hn fun h2 hn2=>?_
 obtain ⟨a',T',cls',dx',e1,x2,I2,r2,na2,t2,nT2⟩:=hn2
 exact ⟨{ z' with s:={ z'.s with heap:=h2 } },c,l,rfl,q2,⟨x2,x.ow⟩,I2,a',cls',dx',e1,r2,na2,.inr ⟨T',_,t2,.inr rfl,nT2⟩⟩
theorem nA {E:Value→Shared→Prop} {Q:Value→Shared→Prop} (F:j6 X) (h:PxS X z o e s') (q:∀ z' c l a T cls dx,o = .exc c l z'.t→e = .ref a→Stp X.fr (Pv X z) z z'→Rep X z'→XR X.W z' c l cls dx→Nob X z z' a→Tr z'.s.heap a cls dx T .none→Nob X z z' T→Q e z'.s):wpAny M X.A (leaving X.env e) (fun _ s''=>Q e s'') E s':=by
 obtain ⟨z',c,l,e1,q2,x,I,h⟩:=h
 subst e1
 unfold leaving
 refine wpAny_bind (eT F x.st I h fun h' hn=>bP (z':={ z' with s:={ z'.s with heap:=h' } }) (fr:=none) hn fun h2 hn2=>?_)
 obtain ⟨a,T,cls,dx,e1,x2,I2,r2,na2,t2,nT2⟩:=hn2
 exact q { z' with s:={ z'.s with heap:=h2 } } c l a T cls dx q2 e1 x2 I2 r2 na2 t2 nT2
end
def cxF (X:Cx) (cal cal1:Nat→List D→List O→Res) (N:List Str) (qual:Str) (scope:Scope) (f:Addr) (cd:Value) (A:Around) (fr:List Env) (L:Addr):Cx:=
 { X with A:=A.deeper (envOfC qual scope L f cd),fr:=envOfC qual scope L f cd :: fr,N:=N,env:=envOfC qual scope L f cd,cal:=cal,cal1:=cal1 }
section
variable {X:Cx} {cal cal1:Nat→List D→List O→Res} {N ps:List Str} {qual:Str} {scope:Scope} {f:Addr} {cd:Value} {A:Around} {fr:List Env} {z z':Z} {k:Nat}
theorem nH {α β:Type} {ds:List α} {n i:Nat} {d:α} (h:(ds.map some ++ List.replicate n none)[i]? = some (some d)):ds[i]? = some d:=by
 by_cases hi:i<ds.length
 ·rw [List.getElem?_append_left (by simpa using hi),List.getElem?_map] at h
  cases e:ds[i]? with
  | none=>rw [e] at h;cases h
  | some a=>rw [e] at h;cases h;rfl
 ·rw [List.getElem?_append_right (by simpa using hi),List.getElem?_replicate] at h
  split at h <;> cases h
theorem fR {α:Type} {ds:List α} {n i:Nat} {d:α} (h:ds[i]? = some d):(ds.map some ++ List.replicate n none)[i]? = some (some d):=by
 have hi:=(List.getElem?_eq_some_iff.mp h).1
 rw [List.getElem?_append_left (by simpa using hi),List.getElem?_map,h];rfl
theorem kX {es:List (Option D)} {n i:Nat} {d:D} (h:(es ++ List.replicate n none)[i]? = some (some d)):es[i]? = some (some d):=by
 by_cases hi:i<es.length
 ·rwa [List.getElem?_append_left hi] at h
 ·rw [List.getElem?_append_right (by omega),List.getElem?_replicate] at h
  split at h <;> cases h
theorem gW {s1:Shared} {es:List (Option D)} {us:List Value} (S:cX N ps scope) (I:HR { X with A:=A,fr:=fr } z) (hr:aX (k+1) A) (hl:us.length=ps.length) (le:es.length=us.length) (r:∀ (i:Nat) (d:D),es[i]? = some (some d)→∃ v,us[i]? = some v∧RD X.W z.ρ z.G d v)
 (x:InCallC z.s z.s.heap.objs.size (bindL (envOfC qual scope z.s.heap.objs.size f cd).kindOf (ps.zip us) fun _=>none) (cellsFrom (z.s.heap.objs.size+1) scope.names []) (bindC (envOfC qual scope z.s.heap.objs.size f cd).kindOf (ps.zip us) fun _=>none) s1) :
 Rep (cxF X cal cal1 N qual scope f cd A fr z.s.heap.objs.size) ⟨z.ρ,z.G,⟨es ++ List.replicate (N.length - ps.length) none,[],z.t.st⟩,us.map some ++ List.replicate (N.length - ps.length) none,s1⟩:=by
 have hpl:ps.length≤N.length:=by have:=congrArg List.length S.pre;rw [List.length_take] at this;omega
 obtain ⟨h1,tk,rfl,hk⟩:=x.done
 have bb:∀ {c:Addr},z.s.heap.objs.size≤c→z.G c=none∧¬ Mu z.ρ c:=fun {c} h=>by
  have n:z.h c=none:=Heap.get?_none_of_le h
  refine ⟨?_,fun m=>by obtain ⟨o,e⟩:=I.th m;rw [n] at e;cases e⟩
  cases q:z.G c with
  | none=>rfl
  | some o=>have:=I.gh c o q;rw [n] at this;cases this
 have lcf:∀ {a},Lc (cxF X cal cal1 N qual scope f cd A fr z.s.heap.objs.size) a→z.s.heap.objs.size≤a:=fun h=>by
  rcases h with rfl | ⟨y,e⟩
  ·exact Nat.le_refl _
  ·exact Nat.le_of_lt (x.above y _ (PySem.mem_of_lookup e))
 have bn:X.base.get? z.s.heap.objs.size=none:=by
  cases q:X.base.get? z.s.heap.objs.size with
  | none=>rfl
  | some o=>have:=I.gh _ o (I.bs _ o q);rw [show z.h z.s.heap.objs.size=none from Heap.get?_none_of_le (Nat.le_refl _)] at this;cases this
 obtain ⟨oL,esL,epL,hoL,hdL,_⟩:=id x.toInCall.ns
 have gr:Gr z.s { z.s with heap:=h1,toks:=tk }:=.hp hk
 have G:=I.grow (ak I.gh gr)
 refine ⟨⟨I.md,Around.frames_deeper I.fm,I.hd,I.bs,G.gh,I.rl,I.rn,I.rg,G.ob,?_,fun b hb=>?_,I.br,I.os⟩,⟨by have:=(hr.deeper (envOfC qual scope z.s.heap.objs.size f cd)).un;show (A.deeper _).units+200<_;omega,S.kind,rfl,rfl,fun y w c e1 e2=>name_of_addr x.apart (PySem.mem_of_lookup e1) (PySem.mem_of_lookup e2),fun y hy=>?_⟩,⟨_,x.toInCall.ns,fun i y v e1 e2 e3=>?_⟩,fun y c h=>⟨_,x.cell y c h⟩,fun a l=>bb (lcf l),by show (es ++ _).length=(us.map some ++ _).length;simp [le],by show (us.map some ++ _).length=N.length;rw [List.length_append,List.length_map,List.length_replicate];omega,fun i d _ e=>?_,(fun i m=>nomatch m),(fun i j a m=>nomatch m)⟩
 ·have kd:(envOfC qual scope z.s.heap.objs.size f cd).scope.kind≠ScopeKind.module:=by show scope.kind≠_;rw [S.kind];decide
  exact ⟨kd,⟨_,oL,rfl,bn,hoL,fun vs e=>by rw [hdL] at e;cases e⟩,G.fu⟩
 ·rcases List.mem_cons.mp (show b∈z.s.heap.objs.size :: frs fr from hb) with q | q
  ·rw [q];exact bb (Nat.le_refl _)
  ·exact I.ff b q
 ·have hy:scope.names.lookup y=some .cell∨scope.names.lookup y=some .free:=hy
  rcases hy with hy | hy
  ·exact i8 hy
  ·exact absurd rfl (S.nofree _ (PySem.mem_of_lookup hy))
 ·have hu:us[i]? = some v:=nH (β:=Unit) e2
  have hi:i<ps.length:=by rw [← hl];exact (List.getElem?_eq_some_iff.mp hu).1
  have hp:ps[i]? = some y:=by
   rw [← S.pre,List.getElem?_take_of_lt (by omega)];exact e1
  have ndP:ps.Nodup:=by rw [← S.pre];exact S.nd.sublist (List.take_sublist _ _)
  rcases S.par y (List.mem_of_getElem? hp) with k | k
  ·exact .inl ⟨k,gI ndP hp hu k⟩
  ·obtain ⟨c,e⟩:=i8 (n:=z.s.heap.objs.size+1) k
   refine .inr ⟨.inl k,c,e,?_⟩
   have q:=x.cell y c e
   rw [gG ndP hp hu (by show scope.names.lookup y≠_;rw [k];decide)] at q
   exact q
 ·obtain ⟨v,e1,r1⟩:=r i d (kX e)
  exact ⟨v,fR e1,r1⟩
theorem ww {name:Str} {params:Arguments} {body:List Stmt} {dV kV doc pm ct oc:Value} {an od:Option Addr} {osl:Array (Option Value)} {j:Nat} {c:S} (lk:X.K.lookup f=some ⟨oc,od,.func (PySem.W.fnOf name qual params body scope dV kV doc pm an cd ct),osl⟩) (hcd:PySem.W.codeIn X.K cd qual=true) (S:cX N ps scope) (hj:X.Γ.fn[j]? = some ⟨ps.length,N.length,c⟩)
 (hb:∀ A fr L,aX k (A.deeper (envOfC qual scope L f cd))→LSs (cxF X cal cal1 N qual scope f cd A fr L) body c):FnC X (jR X.Γ cal cal1) (k+1) j f (PySem.W.fnOf name qual params body scope dV kV doc pm an cd ct) ps:=by
 have run:∀ ds st,jR X.Γ cal cal1 j ds st=if ds.length=ps.length then (match exS X.Γ cal cal1 c ⟨ds.map some ++ List.replicate (N.length - ps.length) none,[],st⟩ with
  | .nx s=>.ok .non s.st
  | .rt d s=>.ok d s.st
  | .exc c l s=>.exc c l s.st
  | .bad=>.bad) else .bad:=fun ds st=>by unfold jR;rw [hj];all_goals rfl
 refine ⟨fun ds st nb=>?_,fun A fr z args us ds hr I hbd r nb=>?_⟩
 ·by_cases q:ds.length=ps.length
  ·exact q
  ·rw [run,if_neg q] at nb;exact absurd rfl nb
 by_cases hl:ds.length=ps.length
 rotate_left
 ·rw [run,if_neg hl] at nb;exact absurd rfl nb
 rw [run,if_pos hl] at nb ⊢
 have KX:X.K.In z.s.heap:=I.kin
 have lim:z.s.heap.NoLimit:=I.md.nolimit.keeps (Rep.bk I)
 have hkind:∀ y∈ps.zip us,scope.names.lookup y.1=some .local∨(scope.names.lookup y.1=some .cell∧((cellsFrom (z.s.heap.objs.size+1) scope.names []).lookup y.1).isSome=true):=fun ⟨n,v⟩ hy=>by
  rcases S.par n (List.of_mem_zip hy).1 with q | q
  ·exact .inl q
  ·exact .inr ⟨q,PySem.W.cellsFrom_some _ _ _ (.inl q)⟩
 refine codeAny_call_function hr.depth (KX _ _ lk) rfl S.co S.gen rfl (PySem.W.codeRec_of KX hcd) (hbd _ _ _ _ ?_)
 refine wpAny_newFunctionEnv_cells S.kind hkind fun env he s1 x=>?_
 subst he
 refine ⟨lim.keeps x.toInCall.keep,codeAny_func ?_⟩
 have J:=gW (es:=ds.map some) (cal:=cal) (cal1:=cal1) S I hr (r.len ▸ hl) (by rw [List.length_map];exact r.len) (fun i d e=>r.get (by rw [List.getElem?_map,Option.map_eq_some_iff] at e;obtain ⟨_,e1,e2⟩:=e;cases e2;exact e1)) x
 have hk:∀ b o,z.h b=some o→s1.heap.get? b=some o:=x.toInCall.keep
 have F:j6 (cxF X cal cal1 N qual scope f cd A fr z.s.heap.objs.size):=⟨⟨fr,rfl⟩,rfl⟩
 have lcf:∀ {a o},z.h a=some o→¬ Lc (cxF X cal cal1 N qual scope f cd A fr z.s.heap.objs.size) a:=fun {a o} e h=>by
  have:z.s.heap.objs.size≤a:=by
   rcases h with rfl | ⟨y,e⟩
   ·exact Nat.le_refl _
   ·exact Nat.le_of_lt (x.above y _ (PySem.mem_of_lookup e))
  exact absurd (Heap.lt_size e) (Nat.not_lt.mpr this)
 have nofr:∀ {a o},z.h a=some o→a ∉ frs fr→a ∉ frs (envOfC qual scope z.s.heap.objs.size f cd :: fr):=fun {a o} e n m=>by
  rcases List.mem_cons.mp (show a∈z.s.heap.objs.size :: frs fr from m) with q | q
  ·exact absurd (Heap.lt_size e) (by rw [q];exact Nat.lt_irrefl _)
  ·exact n q
 have none1:∀ {a},s1.heap.get? a=none→z.h a=none:=fun {a} n=>by
  cases q:z.h a with
  | none=>rfl
  | some o=>rw [hk a o q] at n;cases n
 have back:∀ {z'},Stp (envOfC qual scope z.s.heap.objs.size f cd :: fr) (Pv (cxF X cal cal1 N qual scope f cd A fr z.s.heap.objs.size) ⟨z.ρ,z.G,⟨ds.map some ++ List.replicate (N.length - ps.length) none,[],z.t.st⟩,us.map some ++ List.replicate (N.length - ps.length) none,s1⟩) ⟨z.ρ,z.G,⟨ds.map some ++ List.replicate (N.length - ps.length) none,[],z.t.st⟩,us.map some ++ List.replicate (N.length - ps.length) none,s1⟩ z'→Rep (cxF X cal cal1 N qual scope f cd A fr z.s.heap.objs.size) z'→Stp fr NoW z z'∧HR { X with A:=A,fr:=fr } z':=fun {z'} y K=>by
  have nw:∀ {a o},z.h a=some o→¬ Pv (cxF X cal cal1 N qual scope f cd A fr z.s.heap.objs.size) ⟨z.ρ,z.G,⟨ds.map some ++ List.replicate (N.length - ps.length) none,[],z.t.st⟩,us.map some ++ List.replicate (N.length - ps.length) none,s1⟩ a:=fun e w=>w.elim (fun ⟨i,m,_⟩=>nomatch m) (lcf e)
  refine ⟨⟨y.pr,y.gg,fun a o e=>?_,fun a m=>(y.rn a m).imp_right none1,fun a o e=>y.th a o (hk a o e),fun a o e n _ m=>y.sm a o (hk a o e) n (nw e) (nofr e m),fun a o e n _ m=>y.sl a o (hk a o e) n (nw e) (List.mem_cons_of_mem _ m)⟩,⟨K.md,I.fm,I.hd,K.bs,K.gh,K.rl,K.rn,K.rg,K.ob,K.fu.2.2,fun b m=>K.ff b (List.mem_cons_of_mem _ m),K.br,K.os⟩⟩
  rcases y.gn a o e with q | q | q
  ·exact .inl q
  ·exact .inr (.inl (none1 q))
  ·rcases q with ⟨i,m,_⟩ | l
   ·exact nomatch m
   ·rw [(K.fl a l).1] at e;cases e
 have nb2:(cxF X cal cal1 N qual scope f cd A fr z.s.heap.objs.size).ex c ⟨ds.map some ++ List.replicate (N.length - ps.length) none,[],z.t.st⟩≠.bad:=fun q=>nb (by rw [show exS X.Γ cal cal1 c ⟨ds.map some ++ List.replicate (N.length - ps.length) none,[],z.t.st⟩ = .bad from q])
 refine wpAny_mono (hb A fr z.s.heap.objs.size (hr.deeper _) _ J nb2) (fun fl s' hs=>?_) fun e s' hs=>nA (Q:=fun e s''=>CRs { X with A:=A,fr:=fr } z _ (.error e) s'') F hs fun z' c' l a T cls dx q e1 y K xr na t nT=>?_
 ·cases q:exS X.Γ cal cal1 c ⟨ds.map some ++ List.replicate (N.length - ps.length) none,[],z.t.st⟩ with
  | nx t=>
    rw [show (cxF X cal cal1 N qual scope f cd A fr z.s.heap.objs.size).ex c _ = .nx t from q] at hs
    obtain ⟨rfl,z',e1,e2,y,K⟩:=hs
    subst e1 e2
    obtain ⟨b1,b2⟩:=back y.st K
    exact ⟨z',.non,rfl,rfl,b1,b2,rfl⟩
  | rt d t=>
    rw [show (cxF X cal cal1 N qual scope f cd A fr z.s.heap.objs.size).ex c _ = .rt d t from q] at hs
    obtain ⟨u,z',rfl,e1,e2,y,K,rd⟩:=hs
    subst e1
    obtain ⟨b1,b2⟩:=back y.st K
    exact ⟨z',d,rfl,by rw [e2],b1,b2,rd⟩
  | exc c' l t=>rw [show (cxF X cal cal1 N qual scope f cd A fr z.s.heap.objs.size).ex c _ = .exc c' l t from q] at hs;exact hs.elim
  | bad=>exact absurd q nb2
 ·obtain ⟨b1,b2⟩:=back y K
  have q:exS X.Γ cal cal1 c ⟨ds.map some ++ List.replicate (N.length - ps.length) none,[],z.t.st⟩ = .exc c' l z'.t:=q
  rw [q]
  exact ⟨z',c',l,rfl,rfl,b1,b2,a,T,cls,dx,e1,xr,t,⟨none1 na.1,na.2.1.1,na.2.1.2.1⟩,none1 nT.1,nT.2.1.1,nT.2.1.2.1⟩
end
end L2.Ev
end
section
namespace L2.Ev
open PySem.W
section
variable {prog:Program} {w:World} {A:Around} {E:Value→Shared→Prop} {K:Frag} {C a:Addr} {o:Obj} {od:Option Obj} {h:Heap} {g:Array GenState} {d:Drawn} {t:Nat} {os:OsState}
theorem n9 (Y:dR K C) (X:K.In h) (I:InstAt h a o C od) (hq:Q () ⟨h,g,d,t,os⟩):wpAny M A (checkBuiltinCall "BaseException.__getattribute__" ⟨[.ref a,nameV],[]⟩) Q E ⟨h,g,d,t,os⟩:=by
 have k1:builtinKind "BaseException.__getattribute__" = some .slot:=by decide +kernel
 have k2:splitId "BaseException.__getattribute__" = some ("BaseException","__getattribute__"):=by decide +kernel
 have L:Looks M h (isInstance (.ref a) (.type "BaseException")) true:=(I.type (M:=M)).andThen (looks_mroIn X Y.be)
 have ha:=F.args_bexc_ga (.ref a) nameV
 simp only [checkBuiltinCall,k1,k2]
 refine wpAny_bind (L.at ?_)
 repeat (any_goals (first | assumption | wp_step))
end
theorem t8 {K:Frag} (e:(clsIn K C).isSome=true):∃ c' d' cd' sl',K.lookup C=some ⟨c',d',.cls cd',sl'⟩:=by
 unfold clsIn at e
 split at e
 ·rename_i q;exact ⟨_,_,_,_,q⟩
 ·cases e
structure nJ (K:Frag) (B:Addr):Prop where
 ty:typeIn K (.ref B)=some (.type "type")
 is:(clsIn K B).isSome=true
 be:mroIn K B (.type "BaseException")=some true
theorem qU {K:Frag} {M:Model} (X:K.In h) (e:(clsIn K C).isSome=true):Looks M h (isType (.ref C)) true:=by
 obtain ⟨c',d',cd',sl',hk⟩:=t8 e
 intro A' Q' E' s' k q
 unfold isType;unfold loadHead
 exact wpAny_bind (wpAny_loadPart (k _ _ (X _ _ hk)) (wpAny_pure q))
theorem fJ {K:Frag} {M:Model} {A:Around} {E:Value→Shared→Prop} {s:Shared} {a B C:Addr} {o:Obj} {Q:Bool→Shared→Prop} (X:K.In s.heap) (Y:nJ K B) (he:s.heap.get? a=some o) (hc:o.cls = .ref C) (hm:mroIn K C (.ref B)=some true) (hq:Q true s):wpAny M A (excMatches (.ref a) (.ref B)) Q E s:=by
 have L1:Looks M s.heap (isInstance (.ref B) (.type "tuple")) false:=(looks_typeIn X Y.ty).andThen (Looks.of_pure tc_notTuple)
 have L2:=qU (M:=M) X Y.is
 have L3:=looks_mroIn (M:=M) X Y.be
 have L4:=looks_mroIn (M:=M) X hm
 obtain ⟨h,g,d,t,os⟩:=s
 unfold excMatches isExcClass
 refine wpAny_bind (L1.at ?_)
 dsimp only
 rw [if_neg Bool.false_ne_true]
 refine wpAny_bind (wpAny_pure ?_)
 rw [List.forIn_cons]
 refine wpAny_bind (wpAny_bind (wpAny_bind (wpAny_bind (L2.at ?_))))
 rw [if_pos rfl]
 refine L3.at ?_
 rw [if_neg (show ¬ ((!true)=true) by decide)]
 refine wpAny_pure ?_
 dsimp only
 rw [List.forIn_nil]
 refine wpAny_pure ?_
 have T0:∀ {Q':Value→Shared→Prop},Q' (.ref C) ⟨h,g,d,t,os⟩→wpAny M A (typeOf (.ref a)) Q' E ⟨h,g,d,t,os⟩:=fun {Q'} q'=>by
  repeat (first | (with_reducible refine wpAny_loadPart_at he ?_;rw [hc]) | wp_step)
  exact q'
 refine wpAny_bind (T0 ?_)
 rw [List.forIn_cons]
 refine wpAny_bind (wpAny_bind (wpAny_bind (L4.at ?_)))
 rw [if_pos rfl]
 exact wpAny_pure (wpAny_pure (wpAny_pure hq))
def fM (bmB:List Value):List Value→Bool
 | []=>false
 | v :: r=>(v :: r) == bmB || match v with | .ref _=>fM bmB r | _=>false
theorem cP (hp:refuseLoop self "__setattr__" bmB=pure ()):∀ {l},fM bmB l=true→refuseLoop self "__setattr__" l=pure ()
 | [],e=>by cases e
 | v :: r,e=>by
   unfold fM at e
   rcases Bool.or_eq_true_iff.mp e with z | z
   ·rw [beq_iff_eq.mp z];exact hp
   ·split at z
    ·rw [refuseLoop_ref];exact cP hp z
    ·cases z
abbrev veB:List Value:=[.type "ValueError",.type "Exception",.type "BaseException",.type "object"]
abbrev exB:List Value:=[.type "Exception",.type "BaseException",.type "object"]
structure eU (K:Frag) (C:Addr):Prop where
 sa:findIn K (.ref C) "__setattr__" = some (some (.builtin "object.__setattr__"))
 over:((clsIn K C).any fun cd=>fM veB cd.mro || fM exB cd.mro)=true
 hd:((clsIn K C).any fun cd=>cd.hasDict)=true
 ob:mroIn K C (.type "object")=some true
section
variable {prog:Program} {w:World} {A:Around} {E:Value→Shared→Prop} {s:Shared} {K:Frag} {x C:Addr} {o:Obj} {vs:Array Value} {mA:Str→Option Value} {name:Str} {v:Value} {ns:List Str}
theorem gO (hn:s.heap.Ns1 d mA) (hw:Within mA ns) (hz:ns.length<1000)
 (hq:∀ h',h'.Ns1 d (fun y=>if y=name then some v else mA y)→Heap.SameBut d s.heap h'→Q (.done (.ret .none)) { s with heap:=h',toks:=s.toks+1 }):wpAny M A (Builtin.ObjectAttr.storeInDict d (.str name tk) name v) Q E s:=by
 unfold Builtin.ObjectAttr.storeInDict Builtin.ObjectAttr.newKeyGuard
 refine wpAny_bind (wpAny_pure (wpAny_bind (wpAny_nsSet1 hn fun h' n' sb=>?_)))
 obtain ⟨od,es,ep,e1,e2,e3⟩:=n'.count (Within.cons name v hw)
 have few:es.size≤sizeLine:=Nat.le_trans e3 (by rw [List.length_cons,sizeLine_eq];omega)
 refine wpAny_bind (wpAny_lookBehind e1 (by rw [e2];exact pastItsLine_dict (Nat.le_succ_of_le few)) ?_)
 exact wpAny_pure (hq h' n' sb)
theorem mK (X:K.In s.heap) (Z:eU K C) (hf:findIn K (.ref C) name=some none) (hx:s.heap.get? x=some o) (hc:o.cls = .ref C) (hd:o.data = .fields vs)
 (hm:(o.dict=none∧∀ n,mA n=none)∨∃ d,o.dict=some d∧d≠x∧s.heap.Ns1 d mA) (hw:Within mA ns) (hz:ns.length<1000)
 (hq:∀ h' d t',h'.get? x=some { o with dict:=some d }→d≠x→h'.Ns1 d (fun y=>if y=name then some v else mA y)→(∀ b u,b≠x→b≠d→s.heap.get? b=some u→h'.get? b=some u) →
  (o.dict=some d∨(o.dict=none∧s.heap.get? d=none))→Q () { s with heap:=h',toks:=t' }):wpAny (model prog w) A (setAttr (.ref x) name v) Q E s:=by
 obtain ⟨od,I⟩:∃ od,InstAt s.heap x o C od:=by
  rcases hm with ⟨z,_⟩ | ⟨d,z,_,od,_,_,e,_⟩
  ·exact ⟨none,hx,hc,by unfold notCls;rw [hd],by rw [z];trivial⟩
  ·exact ⟨some od,hx,hc,by unfold notCls;rw [hd],by rw [z];exact e⟩
 have SF:=PySem.F.store_ValueError
 obtain ⟨cd,hcd,hov⟩:=any_some Z.over
 obtain ⟨cd',hcd',hhd⟩:=any_some Z.hd
 rw [hcd] at hcd'
 cases hcd'
 refine set_plain X I Z.sa ?_
 obtain ⟨h,g,d,t,os⟩:=s
 have sub:Looks (model prog w) h (isInstance (.ref x) (.type "object")) true:=I.type.andThen (looks_mroIn X Z.ob)
 refine codeAny_call_builtin SF.slot.plain SF.entry (@check_slot (model prog w) _ _ ⟨h,g,d,t+1,os⟩ "object.__setattr__" "object" "__setattr__" (.ref x) [.str name t,v] [] _ SF.kind SF.split sub (SF.args (.ref x) (.str name t) v) ?_)
 have lm:Looks (model prog w) h (mroOf (.ref C)) cd.mro:=(looks_clsIn X hcd).andThen .now
 rw [osa_eq,refuse_eq]
 have l0:=I.type (M:=model prog w)
 have lf:=looks_findIn (M:=model prog w) X hf
 refine wpAny_bind (wpAny_bind (l0.at (wpAny_bind (lm.at ?_))))
 rw [show refuseLoop (.ref x) "__setattr__" cd.mro=pure () from (Bool.or_eq_true_iff.mp hov).elim (cP (SF.passes _)) (cP (PySem.F.store_Exception.passes _))]
 refine wpAny_pure (wpAny_bind (l0.at (wpAny_bind (lf.at ?_))))
 refine wpAny_bind (wpAny_pure ?_)
 refine wpAny_bind (wpAny_pure ?_)
 have lc:=looks_clsIn (M:=model prog w) X hcd
 obtain ⟨oc,odi,oda,osl⟩:=o
 dsimp only at hc hd hm hx
 subst hc hd
 refine wpAny_bind (wpAny_bind (wpAny_loadPart hx (wpAny_bind (lc.at ?_))))
 rw [hhd]
 rcases hm with ⟨rfl,hmA⟩ | ⟨dx,rfl,hne,hns⟩
 ·obtain rfl:mA=fun _=>none:=funext hmA
  have hxs:x≠h.objs.size:=Nat.ne_of_lt (Heap.lt_size hx)
  have hx1:=Heap.get?_push_of_some { cls:=.type "dict",data:=.dict #[] } hx
  refine wpAny_bind (wpAny_alloc' (wpAny_bind (wpAny_update' hx1 ?_)))
  have hg:((h.push { cls:=.type "dict",data:=.dict #[] }).update x fun o=>{ cls:=o.cls,dict:=some h.objs.size,data:=o.data,slots:=o.slots }).get? h.objs.size=some { cls:=.type "dict",data:=.dict #[] }:=
   (Heap.get?_update_ne _ _ _ _ (Ne.symm hxs)).trans (Heap.get?_push_at rfl rfl)
  have hn0:((h.push { cls:=.type "dict",data:=.dict #[] }).update x fun o=>{ cls:=o.cls,dict:=some h.objs.size,data:=o.data,slots:=o.slots }).Ns h.objs.size (fun _=>none):=
   ⟨_,#[],_,hg,rfl,fun e he=>absurd he (by simp),fun _=>rfl⟩
  refine wpAny_pure (a:=some h.objs.size) ?_
  refine gO (Heap.Ns1.of_empty hn0) Within.nil (by decide) fun h' n' sb=>?_
  refine hq h' h.objs.size _ ?_ (Ne.symm hxs) n' (fun b u h1 h2 e=>?_) (.inr ⟨rfl,Heap.get?_none_of_le (Nat.le_refl _)⟩)
  ·refine (sb.2 x hxs).trans (Heap.get?_update_self _ hx1 rfl)
  ·exact (sb.2 b h2).trans ((Heap.get?_update_ne _ _ _ _ h1).trans (Heap.get?_push_of_some _ e))
 ·refine wpAny_pure (a:=some dx) ?_
  refine gO hns hw hz fun h' n' sb=>?_
  exact hq h' dx _ ((sb.2 x (Ne.symm hne)).trans hx) hne n' (fun b u _ h2 e=>(sb.2 b h2).trans e) (.inl rfl)
theorem oH (Y:dR K C) (hh:hasDictIn K C=true) (X:K.In s.heap) (hf:findIn K (.ref C) name=some none) (hx:s.heap.get? x=some o) (hc:o.cls = .ref C) (hd:o.data = .fields vs) (hdi:o.dict=some d) (hn:s.heap.Ns1 d mA) (hv:mA name=some v) (hv':handedIn v=true)
 (hq:Q v { s with toks:=s.toks+1 }):wpAny (model prog w) A (getAttr (.ref x) name expr) Q E s:=by
 obtain ⟨od,ho,hl⟩:=gQ hn
 have I:InstAt s.heap x o C (some od):=⟨hx,hc,by unfold notCls;rw [hd],by rw [hdi];exact ho⟩
 have fo:findObj K C (some od) name=some (.value v):=findObj_own hh hf rfl (by rw [hl,hv])
 obtain ⟨h,g,dr,t,os⟩:=s
 have l0:=I.type (M:=model prog w)
 have l1:=looks_findIn (M:=model prog w) X Y.ga
 have l2:=looks_findIn (M:=model prog w) X Y.gn
 have l3:=looks_find (M:=model prog w) X I fo
 have G:=PySem.F.attrBase_ValueError.ga
 have b1:=G.bind (.ref x)
 unfold getAttr getAttrBy
 refine wpAny_bind (wpAny_mkText (wpAny_holding (wpAny_bind (l0.at (wpAny_bind (l1.at ?_))))))
 show wpAny _ _ (getAttrByItsOwn _ _ _ _ _ _) _ _ _
 unfold getAttrByItsOwn
 refine wpAny_bind (l2.at (wpAny_bind (wpAny_attempt (wpAny_holding ?_))))
 unfold callGetattribute
 rw [show (expr && onTheHeap (Value.builtin "BaseException.__getattribute__"))=false from Bool.and_false _,if_neg Bool.false_ne_true]
 unfold boundAndCalled
 rw [b1]
 refine wpAny_bind (wpAny_pure ?_)
 refine wpAny_call (codeAny_call_builtin G.plain F.entry_bexc_ga (n9 Y X I ?_))
 refine wpAny_bind (wpAny_pure (wpAny_bind (wpAny_pure (wpAny_bind (l0.at (wpAny_bind (l3.at ?_)))))))
 exact wpAny_pure (handed_on hv' hq)
end
structure j9 (K:Frag) (C fI:Addr) (bmB:List Value) (newId:String):Prop where
 at_:∃ (nm q:Str) (N:Addr) (bs bm:List Value) (hdct:Bool) (sn:List Str) (sub:List Value) (ab:Bool) (col:Option Bool) (dd:Option Addr) (k0 k1 k2 k3 k5:Option Value),
  K.lookup C=some (excClassObj nm q C N bs bm hdct sn sub ab col dd k0 k1 k2 k3 k5 newId)∧tailIn K bmB bm=true
 init:findIn K (.ref C) "__init__" = some (some (.ref fI))
 fn:isFn K (.ref fI)=true
section
variable {prog:Program} {w:World} {A:Around} {E:Value→Shared→Prop} {K:Frag} {C fI:Addr} {rest bmB:List Value} {B newId initId:String} {h:Heap} {g:Array GenState} {d:Drawn} {t:Nat} {os:OsState}
abbrev hH (h:Heap) (C:Addr) (rest:List Value):Heap:=(h.push { cls:=.type "tuple",data:=.seq rest.toArray }).push { cls:=.ref C,data:=.fields #[.ref h.objs.size,.none,.none,.none,.bool false,.none] }
theorem eY (b) (u) (z:h.get? b=some u):(hH h C rest).get? b=some u:=Heap.get?_push_of_some _ (Heap.get?_push_of_some _ z)
theorem mz:Heap.MadeExcOf h (hH h C rest) (h.objs.size+1) (.ref C) rest where
 keeps:=eY
 new:=Heap.get?_none_of_le (Nat.le_succ _)
 there:=⟨h.objs.size,by heap_get,Heap.get?_none_of_le (Nat.le_refl _),Heap.get?_push_of_some _ (Heap.get?_push_at rfl rfl)⟩
theorem gj (F:ExcBaseFacts B newId initId bmB) (X:K.In h) (O:j9 K C fI bmB newId) (hz:rest.length≤sizeLine)
 (hq:∀ h' e,Heap.MadeExcOf h h' e (.ref C) rest→wpAny (model prog w) A (call (.ref fI) (.ref e :: rest)) (fun r s'=>r = .none∧Q (.done (.ret (.ref e))) s') E ⟨h',g,d,t,os⟩) :
 wpAny (model prog w) A (Builtin.«type.__call__» ⟨.ref C :: rest,[]⟩) Q E ⟨h,g,d,t,os⟩:=by
 obtain ⟨nm,q,N,bs,bm,hdct,sn,sub,ab,col,dd,k0,k1,k2,k3,k5,l,tl⟩:=O.at_
 have c0:=X _ _ l
 have T:=tail_of_in X tl
 have X1:K.In (hH h C rest):=fun b u z=>eY b u (X b u z)
 have c1:=X1 _ _ l
 have m1:=(mz (h:=h) (C:=C) (rest:=rest))
 obtain ⟨tt,e1,_,_⟩:=id m1.there
 have self:(Value.ref C :: bm).contains (.ref C)=true:=by simp
 have l1:=looks_findIn (M:=model prog w) X1 O.init
 have l2:=fun self=>bind_fn (M:=model prog w) X1 self (beq_iff_eq.mp O.fn)
 repeat (first | with_reducible refine wpAny_loadPart_at c0 ?_ | with_reducible refine wpAny_madeBy_exc c0 ?_ | wp_step)
 refine codeAny_call_builtin_code (Code.quiet_builtin _ F.quiet) (wpAny_check_new_subT F T c0 (codeAny_exc_new_subT F T c0 ?_ hz))
 show wpAny _ _ _ _ _ _
 unfold isInstance
 repeat (first | with_reducible refine wpAny_loadPart_at e1 ?_ | (with_reducible refine wpAny_isSubtype_exc c1 ?_;rw [self]) | wp_step)
 refine l1.at (wpAny_holding (wpAny_bind ((l2 _).at ?_)))
 refine wpAny_bind (wpAny_mono (hq _ _ m1) (fun r s' z=>?_) fun _ _ z=>z)
 obtain ⟨rfl,z⟩:=z
 wp_walk
 exact z
theorem oG (F:ExcBaseFacts B newId initId bmB) (X:K.In h) (O:j9 K C fI bmB newId) (hz:rest.length≤sizeLine)
 (hq:∀ h' e,Heap.MadeExcOf h h' e (.ref C) rest→wpAny (model prog w) (A.under (.builtin "type.__call__" ⟨.ref C :: rest,[]⟩)) (call (.ref fI) (.ref e :: rest)) (fun r s'=>r = .none∧Q (.ref e) s') E ⟨h',g,d,t,os⟩) :
 wpAny (model prog w) A (call (.ref C) rest) Q E ⟨h,g,d,t,os⟩:=by
 obtain ⟨nm,q,N,bs,bm,hdct,sn,sub,ab,col,dd,k0,k1,k2,k3,k5,l,tl⟩:=O.at_
 have c0:=X _ _ l
 have y1:=tc_lookup
 have y2:=tc_bind (.ref C)
 have y3:Shared.TypeIs ⟨h,g,d,t,os⟩ (.ref C) "type":=⟨_,c0,rfl⟩
 refine wpAny_call (codeAny_of_tree ?_)
 show wpAny _ _ (callAny (.ref C) _) _ _ _
 repeat (any_goals (first | assumption | with_reducible refine wpAny_loadPart_at c0 ?_ | wp_step))
 refine ⟨rfl,codeAny_call_builtin_at (Code.quiet_builtin _ (by decide +kernel)) entry_typeCall (wpAny_check_type_call_sub c0 ?_)⟩
 exact gj F X O hz fun h' e m=>hq h' e m
end
section
variable {M:Model} {A:Around} {E:Value→Shared→Prop} {s:Shared}
theorem nB {K:Frag} {env:Env} {C:Addr} {x:Sem Value} {Q:Flow→Shared→Prop} (be:mroIn K C (.type "BaseException")=some true) (ty:typeIn K (.ref C)=some (.type "type")) (hh:A.handled=none)
 (h:wpAny M A x (fun v s1=>∃ p ob vs,v = .ref p∧K.In s1.heap∧s1.heap.get? p=some ob∧ob.cls = .ref C∧ob.data = .fields vs∧vs[1]? = some .none∧E (.ref p) s1) E s):wpAny M A (raiseStmt env (some x) none) Q E s:=by
 unfold raiseStmt
 refine wpAny_bind (wpAny_mono h (fun v s1 z=>?_) fun _ _ z=>z)
 obtain ⟨p,⟨oc,od,oda,osl⟩,vs,rfl,Xk,e1,e2,e3,e4,q⟩:=z
 simp only at e2 e3
 subst e2 e3
 obtain ⟨h1,g1,d1,t1,o1⟩:=s1
 have l0:Looks M h1 (typeOf (.ref p)) (.ref C):=(Looks.ld e1).andThen .now
 have l1:Looks M h1 (isInstance (.ref p) (.type "BaseException")) true:=l0.andThen (looks_mroIn Xk be)
 have l2:=looks_typeIn (M:=M) Xk ty
 have l3:Looks M h1 (isType (.ref p)) false:=(Looks.ld e1).andThen .now
 have l4:Looks M h1 (isExcClass (.ref p)) false:=l3.andThen .now
 refine wpAny_bind (wpAny_pure (wpAny_bind (wpAny_holding ?_)))
 unfold excFromValue raisedInstance setFlight
 refine wpAny_bind (l4.at ?_)
 rw [if_neg Bool.false_ne_true]
 refine wpAny_bind (l1.at ?_)
 rw [if_pos rfl]
 refine wpAny_pure (wpAny_bind (l3.at ?_))
 rw [if_neg Bool.false_ne_true]
 refine wpAny_bind (wpAny_bind (l0.at (wpAny_bind (l2.at ?_))))
 rw [if_pos (show (Value.type "type" == Value.type "type")=true by decide)]
 refine wpAny_pure (wpAny_bind (wpAny_bind (wpAny_field e1 rfl e4 ?_)))
 rw [if_neg (show ¬ ((Value.none != Value.none)=true) by decide)]
 exact wpAny_pure (wpAny_raiseNew_none hh q)
end
end L2.Ev
end
section
namespace L2.Ev
theorem mX {M:Model} {A:Around} {E:Value→Shared→Prop} {Q:Unit→Shared→Prop} {s:Shared} {env:Env} {n:Str} {m:Str→Option Value} {pos:Pos} (hl:env.kindOf n=some .local) (hn:s.heap.Ns env.locals m) (hp:(env.scope.kind == .class || (env.scope.kind == .module && env.locals != env.globals))=false)
 (h:∀ h' v,h'.Ns env.locals (fun y=>if y=n then v else m y)→Heap.SameBut env.locals s.heap h'→Q () { s with heap:=h',toks:=s.toks+1 }):wpAny M A (do bindName env n .none;unbindBehindTheSuite env n pos) Q E s:=by
 refine wpAny_bind (wpAny_bindName (wpAny_storeName_local hl hn (fun h1 n1 s1=>?_) hp))
 unfold unbindBehindTheSuite unbindName;refine wpAny_onRaise (wpAny_bind (wpAny_point (wpAny_bind ?_)))
 unfold deleteName;simp only [hl,hp];rw [if_neg (by decide)]
 refine wpAny_bind (wpAny_nsDel_keeps n1 fun h2 v n2 s2=>?_)
 simp only [if_true,Option.isSome_some,Bool.not_true,Bool.false_eq_true,if_false]
 refine wpAny_pure (wpAny_point (h h2 v ?_ (s1.trans s2)))
 have e:(fun y=>if y=n then v else if y=n then some Value.none else m y)=fun y=>if y=n then v else m y:=by
  funext y
  by_cases z:y=n <;> simp [z]
 rw [e] at n2
 exact n2
section
variable {X:Cx} {z z' z0 z1:Z} {w:Addr→Prop}
theorem vK {a C:Addr} {l:List (Str×Value)} {f:Str} {v:Value} {Q:Value→Shared→Prop} {b:Bool} (I:Rep X z) (h:ExO z.h a C l) (nl:l≠[]) (Y:dR X.K C) (hh:PySem.W.hasDictIn X.K C=true) (hf:PySem.W.findIn X.K (.ref C) f=some none) (lk:l.lookup f=some v) (hv:PySem.W.handedIn v=true) (q:Q v { z.s with toks:=z.s.toks+1 }):wpAny X.M X.A (getAttr (.ref a) f b) Q NoE z.s:=by
 obtain ⟨o,vs,e1,e2,e3,e4⟩:=h
 rcases e4 with ⟨w,_⟩ | ⟨d,od,e5,e6,es,ep,e7⟩
 ·exact absurd w nl
 ·exact oH Y hh I.toHR.kin hf e1 e2 e3 e5 (mA:=fun n=>l.lookup n) ⟨od,es,ep,e6,e7⟩ lk hv q
abbrev aH (X:Cx) (e:Value):Cx:={ X with A:=X.A.mark (some e),calm:=false }
theorem Rep.suite (I:Rep X z):Rep (aH X e) z:=⟨⟨I.md,I.fm,(fun c=>nomatch c),I.bs,I.gh,I.rl,I.rn,I.rg,I.ob,I.fu,I.ff,I.br,I.os⟩,⟨I.ok.un,I.ok.kd,I.ok.gl,I.ok.bl,I.ok.ci,I.ok.ch⟩,I.lo,I.ce,I.fl,I.el,I.sl,I.en,I.eo,I.od⟩
theorem Rep.unsuite (h:X.calm=true→X.A.handled=none) (I:Rep (aH X e) z):Rep X z:=⟨⟨I.md,I.fm,h,I.bs,I.gh,I.rl,I.rn,I.rg,I.ob,I.fu,I.ff,I.br,I.os⟩,⟨I.ok.un,I.ok.kd,I.ok.gl,I.ok.bl,I.ok.ci,I.ok.ch⟩,I.lo,I.ce,I.fl,I.el,I.sl,I.en,I.eo,I.od⟩
theorem Go.unsuite (g:Go (aH X e) z z'):Go X z z':=⟨g.st,g.ow⟩
theorem Rep.gone {h':Heap} {t:Nat} {i:Nat} {x:Str} {m:Str→Option Value} {v:Option Value} (I:Rep X z) (hN:X.N.Nodup) (hi:X.N[i]? = some x) (hk:X.env.scope.names.lookup x=some .local) (lk:∀ (i:Nat) (x:Str) (u:Value),X.N[i]? = some x→z.σ[i]? = some (some u)→Vis X.env.scope x→j7 X.env z.s.heap m x u)
 (hn:h'.Ns X.env.locals (fun y=>if y=x then v else m y)) (sb:Heap.SameBut X.env.locals z.s.heap h'):Rep X { z with t:=⟨z.t.env.set i none,z.t.ow.filter (· != i),z.t.st⟩,σ:=z.σ.set i none,s:={ z.s with heap:=h',toks:=t } }∧Go X z { z with t:=⟨z.t.env.set i none,z.t.ow.filter (· != i),z.t.st⟩,σ:=z.σ.set i none,s:={ z.s with heap:=h',toks:=t } }:=by
 have ne:∀ {b:Addr},b≠X.env.locals→h'.get? b=z.h b:=fun n=>sb.2 _ n
 have lL:Lc X X.env.locals:=.inl rfl
 have nG:∀ {b o},z.G b=some o→b≠X.env.locals:=fun e q=>by rw [q,(I.fl _ lL).1] at e;cases e
 have nM:∀ {b},Mu z.ρ b→b≠X.env.locals:=fun m q=>(I.fl _ lL).2 (q ▸ m)
 obtain ⟨oL,es,ep,hoL,hdL,_⟩:=id hn
 have ck:∀ y c u,X.env.cells.lookup y=some c→z.s.heap.IsCell c u→h'.IsCell c u:=fun y c u e q=>q.sameBut sb (I.cne y c e)
 have hiσ:i<z.σ.length:=by rw [I.sl];exact (List.getElem?_eq_some_iff.mp hi).1
 have mf:∀ {j},j∈z.t.ow.filter (· != i)→j∈z.t.ow∧j≠i:=fun m=>⟨(List.mem_filter.mp m).1,by simpa using (List.mem_filter.mp m).2⟩
 have fu:h'.FunFrames X.base X.fr:=ie (fun b o e nf=>by
  by_cases q:b=X.env.locals
  ·subst q;exact ⟨oL,hoL,fun vs e=>by rw [hdL] at e;cases e⟩
  ·exact ⟨o,(ne q).trans e,nf⟩) I.fu
 refine ⟨⟨⟨I.md,I.fm,I.hd,I.bs,fun b o e=>(ne (nG e)).trans (I.gh b o e),I.rl,I.rn,I.rg,fun n o p h1 h2=>(I.ob n o p h1 h2).mono (List.prefix_refl _) (.refl _) fun b hb o e=>(ne (nM ⟨p,List.mem_of_getElem? h2,hb⟩)).trans e,fu,I.ff,I.br,I.os⟩,I.ok,⟨_,hn,fun j y u e1 e2 e3=>?_⟩,fun y c e=>let ⟨u,q⟩:=I.ce y c e;⟨u,ck y c u e q⟩,I.fl,by show (z.t.env.set i none).length=(z.σ.set i none).length;rw [List.length_set,List.length_set];exact I.el,by show (z.σ.set i none).length=_;rw [List.length_set];exact I.sl,fun j d n e=>?_,fun j mj=>?_,fun j k a m1 m2 e1 e2=>?_⟩,⟨⟨List.prefix_refl _,.refl _,fun _ _ e=>.inl e,fun _ m=>.inl m,fun b o e=>?_,fun b o e _ w _=>(ne fun q=>w (.inr (.inl q))).trans e,fun b o e _ w _=>⟨o.slots,(ne fun q=>w (.inr (.inl q))).trans e⟩⟩,fun b ⟨j,mj,e⟩=>?_⟩⟩
 ·by_cases q:j=i
  ·subst q
   rw [List.getElem?_set_self hiσ] at e2;cases e2
  ·rw [List.getElem?_set_ne (Ne.symm q)] at e2
   rcases lk j y u e1 e2 e3 with ⟨k,e⟩ | ⟨k,c,e,w⟩
   ·have:y≠x:=fun e=>q (fL hN e1 (e ▸ hi))
    exact .inl ⟨k,by simp [this,e]⟩
   ·exact .inr ⟨k,c,e,ck y c _ e w⟩
 ·have e:(z.t.env.set i none)[j]? = some (some d):=e
  by_cases q:j=i
  ·subst q
   rw [List.getElem?_set_self (by rw [I.el];exact hiσ)] at e;cases e
  ·rw [List.getElem?_set_ne (Ne.symm q)] at e
   obtain ⟨u,e1,r⟩:=I.en j d (fun m=>n (List.mem_filter.mpr ⟨m,by simpa using q⟩)) e
   exact ⟨u,(List.getElem?_set_ne (Ne.symm q)).trans e1,r⟩
 ·obtain ⟨m1,q⟩:=mf mj
  obtain ⟨d,a,o,h1,h2,h3,r,f⟩:=I.eo j m1
  exact ⟨d,a,o,(List.getElem?_set_ne (Ne.symm q)).trans h1,(List.getElem?_set_ne (Ne.symm q)).trans h2,h3,r.mono (List.prefix_refl _) (.refl _) fun b hb o e=>(ne fun w=>f.2.2.2 (by rcases hb with rfl | rfl <;> exact .inl w)).trans e,f⟩
 ·obtain ⟨a1,q1⟩:=mf m1
  obtain ⟨a2,q2⟩:=mf m2
  exact I.od j k a a1 a2 ((List.getElem?_set_ne (Ne.symm q1)).symm.trans e1) ((List.getElem?_set_ne (Ne.symm q2)).symm.trans e2)
 ·by_cases q:b=X.env.locals
  ·subst q;exact ⟨oL,hoL⟩
  ·exact ⟨o,(ne q).trans e⟩
 ·obtain ⟨m1,q⟩:=mf mj
  exact .inl ⟨j,m1,(List.getElem?_set_ne (Ne.symm q)).symm.trans e⟩
theorem qh {a T:Addr} {fl cls:Value} {dx:Option Addr} (x:Stp X.fr w z z') (I:Rep X z') (r:XR X.W z' c l cls dx) (na:Nob X z z' a) (t:Tr z'.s.heap a cls dx T fl):∃ z2,z2.s=z'.s∧z2.t=z'.t∧Stp X.fr w z z2∧(∀ b,Own z2 b↔Own z' b)∧Rep X z2∧RD X.W z2.ρ z2.G (.ins c l) (.ref a)∧(z2.σ=z'.σ):=by
 obtain ⟨oe,vs,_,_,he,⟨hc,hd⟩,hda,_⟩:=t
 have gg:Sub z'.G fun b=>if b=a then some oe else z'.G b:=fun b o q=>by
  dsimp only
  by_cases c:b=a
  ·subst c;rw [na.2.1.1] at q;cases q
  ·rw [if_neg c];exact q
 have rd:RD X.W z'.ρ (fun b=>if b=a then some oe else z'.G b) (.ins c l) (.ref a):=by
  obtain ⟨i,h1,h2,h3,h4,h5⟩:=r
  subst h3
  rcases h5 with ⟨rfl,rfl⟩ | ⟨d,od,us,rfl,h6,h7,h8⟩
  ·exact ⟨a,i,[],rfl,h1,h4,.inr ⟨h2,oe,vs,if_pos rfl,hc,hda,.inl ⟨by simp,hd⟩⟩,rfl⟩
  ·exact ⟨a,i,us,rfl,h1,h4,.inr ⟨h2,oe,vs,if_pos rfl,hc,hda,.inr ⟨d,od,hd,gg _ _ h6,h7⟩⟩,h8.mono (List.prefix_refl _) gg⟩
 refine ⟨{ z' with G:=fun b=>if b=a then some oe else z'.G b },rfl,rfl,⟨x.pr,x.gg.trans gg,fun b o q=>?_,x.rn,x.th,x.sm,x.sl⟩,fun _=>.rfl,I.grw rfl I.br (fun _ _ e _=>e) (fun _ o e=>⟨o.slots,e⟩) gg (fun b o q=>?_) fun b o q=>?_,rd,rfl⟩
 all_goals
  have q:(if b=a then some oe else z'.G b)=some o:=q
  by_cases c:b=a
 ·subst c;exact .inr (.inl na.1)
 ·rw [if_neg c] at q;exact x.gn b o q
 ·subst c;rw [if_pos rfl] at q;cases q;exact he
 ·rw [if_neg c] at q;exact I.gh b o q
 ·subst c;exact .inr na.2
 ·rw [if_neg c] at q;exact .inl q
def nN (X:Cx) (j:Nat) (x:Str):Prop:=∃ i,X.W.ci[j]? = some i∧X.mg x=some (.ref i.ad)∧nJ X.K i.ad∧∀ c k ic,X.Γ.cl[c]? = some k→X.W.ci[c]? = some ic→(c == j || k.sup.contains j)=true→PySem.W.mroIn X.K ic.ad (.ref i.ad)=some true
theorem uY {j i:Nat} {Bn n:Str} {np hpos pos:Pos} {body suite:List Stmt} {b₀:Stmt} {a b:S} (F:j6 X) (hc:X.calm=true) (hb:LSs X body a) (hS:∀ e,LSs (aH X e) (b₀ :: suite) b) (hx:nN X j Bn) (hg:Gl X Bn) (hdb:(Bn == ("__debug__":Str))=false) (hN:X.N.Nodup) (hi:X.N[i]? = some n) (hl:X.env.scope.names.lookup n=some .local) :
 LS X (.Try body [.ExceptHandler (some (.Name Bn np)) (some n) (b₀ :: suite) hpos] [] [] pos) (.try_ a (.hand j (some i) b .skip)):=fun z I nb=>by
 have e0:X.ex (.try_ a (.hand j (some i) b .skip)) z.t=(match X.ex a z.t with
  | .exc c l s=>if ((X.Γ.cl[c]?).any fun k=>c == j || k.sup.contains j) then
    (match X.ex b ⟨s.env.set i (some (.ins c l)),s.ow.filter (· != i),s.st⟩ with
     | .nx s=>.nx ⟨s.env.set i none,s.ow.filter (· != i),s.st⟩
     | .rt d s=>.rt d s
     | _=>.bad) else .bad
  | r=>r):=rfl
 generalize X.ex (.try_ a (.hand j (some i) b .skip)) z.t=o at e0 nb
 have nb1:X.ex a z.t≠.bad:=fun q=>nb (by rw [e0,q])
 refine wpAny_Try_except (wpAny_mono (hb z I nb1) (fun f s1 h=>?_) fun e s1 h=>?_)
 ·cases q:X.ex a z.t with
  | nx t=>rw [q] at h e0;obtain ⟨rfl,h⟩:=h;exact wpAny_execs_nil (show Ps X z o .next s1 by rw [e0];exact ⟨rfl,h⟩)
  | rt d t=>rw [q] at h e0;obtain ⟨u,z',rfl,h⟩:=h;exact show Ps X z o (.ret u) s1 by rw [e0];exact ⟨u,z',rfl,h⟩
  | exc c l t=>rw [q] at h;exact h.elim
  | bad=>exact absurd q nb1
 ·obtain ⟨z1,c,l,e1,q1,x1,I1,xo⟩:=h
  subst e1
  rw [q1] at e0
  dsimp only at e0
  by_cases cond:((X.Γ.cl[c]?).any fun k=>c == j || k.sup.contains j)=true
  rotate_left
  ·rw [if_neg cond] at e0;exact absurd e0 nb
  rw [if_pos cond] at e0
  refine eT F x1.st I1 xo fun h2 hn2=>bP (z':={ z1 with s:={ z1.s with heap:=h2 } }) (fr:=none) hn2 fun h3 hn3=>?_
  obtain ⟨p,T,cls,dx,rfl,x3,I3,r3,na3,t3,nT3⟩:=id hn3
  refine wpAny_handleBy_cons ?_ (fun z=>nomatch z)
  refine codeAny_handlers_test ?_
  obtain ⟨ic,w1,w2,w3,w4⟩:=hx
  obtain ⟨i2,v1,v2,v3,v4,v5⟩:=id r3
  obtain ⟨k,ek,kk⟩:∃ k,X.Γ.cl[c]? = some k∧(c == j || k.sup.contains j)=true:=by
   cases q:X.Γ.cl[c]? with
   | none=>rw [q] at cond;cases cond
   | some kc=>rw [q] at cond;exact ⟨kc,rfl,cond⟩
  have hsub:=w4 c k i2 ek v1 kk
  refine bC (X:=aH X (.ref p)) (z:={ z1 with s:={ z1.s with heap:=h3 } }) I3.suite hg w2 ?_ hdb
  obtain ⟨oe,vs,oT,tt,he,⟨hcl,hdi⟩,hda,_⟩:=id t3
  refine fJ I3.toHR.kin w3 he (hcl.trans v3) hsub ?_
  show codeAny _ _ _ _ _
  refine codeAny_handlers_suite_as (bP (z':={ z1 with s:={ z1.s with heap:=h3 } }) (fr:=none) hn3 fun h4 hn4=>?_)
  obtain ⟨p',T',cls',dx',ep,x4,I4,r4,na4,t4,nT4⟩:=hn4
  cases ep
  obtain ⟨z5,e5,t5,x5,o5,I5,rd5,s5⟩:=qh x4 I4 r4 na4 t4
  rw [show ({ z1.s with heap:=h4 }:Shared)=z5.s from e5.symm]
  have g5:Go X z z5:=⟨x5,fun b ob=>x1.ow b ((o5 b).mp ob)⟩
  refine bU (X:=aH X (.ref p)) (own:=false) (d:=.ins c l) (z:=z5) (z0:=z5) .refl I5.suite hN hi (.inl hl) rd5 fun s6 a6 _ _ I6 g6=>?_
  have t6:stV z5.t i (.ins c l) false=⟨z1.t.env.set i (some (.ins c l)),z1.t.ow.filter (· != i),z1.t.st⟩:=by rw [show z5.t=z1.t from t5];rfl
  rw [← t6] at e0
  have nb6:(aH X (.ref p)).ex b (stV z5.t i (.ins c l) false)≠.bad:=fun q=>nb (by rw [e0,show X.ex b (stV z5.t i (.ins c l) false) = .bad from q])
  refine wpAny_mono (hS (.ref p) { z5 with t:=stV z5.t i (.ins c l) false,σ:=z5.σ.set i (some (.ref p)),s:=s6 } I6 nb6) (fun f s7 h7=>?_) fun e s7 ⟨z7,c7,l7,_,q7,_⟩=>absurd (by rw [e0,show X.ex b (stV z5.t i (.ins c l) false)=_ from q7]) nb
  have fin:∀ z7,z7.s=s7→Go (aH X (.ref p)) { z5 with t:=stV z5.t i (.ins c l) false,σ:=z5.σ.set i (some (.ref p)),s:=s6 } z7→Rep (aH X (.ref p)) z7→(∀ z8,z8.t=⟨z7.t.env.set i none,z7.t.ow.filter (· != i),z7.t.st⟩→z8.ρ=z7.ρ→z8.G=z7.G→Go X z z8→Rep X z8→Ps X z o f z8.s)→wpAny X.M X.A (do bindName X.env n .none;unbindBehindTheSuite X.env n hpos) (fun _ s3=>Ps X z o f s3) (PxS X z o) s7:=fun z7 e7 g7 I7 hh=>by
   subst e7
   have J7:=I7.unsuite I.hd
   obtain ⟨m,hn,lk⟩:=id J7.lo
   refine mX hl hn (by rw [I.ok.kd];rfl) fun h8 v n8 s8=>?_
   obtain ⟨I8,g8⟩:=J7.gone (t:=z7.s.toks+1) hN hi hl lk n8 s8
   exact hh { z7 with t:=⟨z7.t.env.set i none,z7.t.ow.filter (· != i),z7.t.st⟩,σ:=z7.σ.set i none,s:={ z7.s with heap:=h8,toks:=z7.s.toks+1 } } rfl rfl rfl (((g5.trans g6.unsuite).trans g7.unsuite).trans g8) I8
  cases q7:X.ex b (stV z5.t i (.ins c l) false) with
  | nx t7=>
    rw [show (aH X (.ref p)).ex b (stV z5.t i (.ins c l) false) = .nx t7 from q7] at h7
    rw [q7] at e0
    obtain ⟨rfl,z7,e7,et7,g7,I7⟩:=h7
    refine fin z7 e7 g7 I7 fun z8 e8 _ _ g8 I8=>nxt g8 I8 ?_
    rw [e0,e8,et7]
  | rt d t7=>
    rw [show (aH X (.ref p)).ex b (stV z5.t i (.ins c l) false) = .rt d t7 from q7] at h7
    rw [q7] at e0
    obtain ⟨u,z7,rfl,e7,et7,g7,I7,rd7⟩:=h7
    refine fin z7 e7 g7 I7 fun z8 e8 r8 G8 g8 I8=>?_
    rw [e0]
    exact ⟨u,z8,rfl,rfl,by rw [e8];exact et7,g8,I8,by rw [r8,G8];exact rd7⟩
  | exc c7 l7 t7=>rw [q7] at e0;exact absurd e0 nb
  | bad=>exact absurd q7 nb6
theorem rR {j:Nat} {Bn:Str} {np hpos pos:Pos} {body suite:List Stmt} {b₀:Stmt} {a b:S} (F:j6 X) (hc:X.calm=true) (hb:LSs X body a) (hS:∀ e,LSs (aH X e) (b₀ :: suite) b) (hx:nN X j Bn) (hg:Gl X Bn) (hdb:(Bn == ("__debug__":Str))=false) :
 LS X (.Try body [.ExceptHandler (some (.Name Bn np)) none (b₀ :: suite) hpos] [] [] pos) (.try_ a (.hand j none b .skip)):=fun z I nb=>by
 have e0:X.ex (.try_ a (.hand j none b .skip)) z.t=(match X.ex a z.t with
  | .exc c l s=>if ((X.Γ.cl[c]?).any fun k=>c == j || k.sup.contains j) then (match X.ex b s with | .nx s=>.nx s | .rt d s=>.rt d s | _=>.bad) else .bad
  | r=>r):=rfl
 generalize X.ex (.try_ a (.hand j none b .skip)) z.t=o at e0 nb
 have nb1:X.ex a z.t≠.bad:=fun q=>nb (by rw [e0,q])
 refine wpAny_Try_except (wpAny_mono (hb z I nb1) (fun f s1 h=>?_) fun e s1 h=>?_)
 ·cases q:X.ex a z.t with
  | nx t=>rw [q] at h e0;obtain ⟨rfl,h⟩:=h;exact wpAny_execs_nil (show Ps X z o .next s1 by rw [e0];exact ⟨rfl,h⟩)
  | rt d t=>rw [q] at h e0;obtain ⟨u,z',rfl,h⟩:=h;exact show Ps X z o (.ret u) s1 by rw [e0];exact ⟨u,z',rfl,h⟩
  | exc c l t=>rw [q] at h;exact h.elim
  | bad=>exact absurd q nb1
 ·obtain ⟨z1,c,l,e1,q1,x1,I1,xo⟩:=h
  subst e1
  rw [q1] at e0
  dsimp only at e0
  by_cases cond:((X.Γ.cl[c]?).any fun k=>c == j || k.sup.contains j)=true
  rotate_left
  ·rw [if_neg cond] at e0;exact absurd e0 nb
  rw [if_pos cond] at e0
  refine eT F x1.st I1 xo fun h2 hn2=>bP (z':={ z1 with s:={ z1.s with heap:=h2 } }) (fr:=none) hn2 fun h3 hn3=>?_
  obtain ⟨p,T,cls,dx,rfl,x3,I3,r3,na3,t3,nT3⟩:=id hn3
  refine wpAny_handleBy_cons ?_ (fun z=>nomatch z)
  refine codeAny_handlers_test ?_
  obtain ⟨ic,w1,w2,w3,w4⟩:=hx
  obtain ⟨i2,v1,v2,v3,v4,v5⟩:=id r3
  obtain ⟨k,ek,kk⟩:∃ k,X.Γ.cl[c]? = some k∧(c == j || k.sup.contains j)=true:=by
   cases q:X.Γ.cl[c]? with
   | none=>rw [q] at cond;cases cond
   | some kc=>rw [q] at cond;exact ⟨kc,rfl,cond⟩
  have hsub:=w4 c k i2 ek v1 kk
  refine bC (X:=aH X (.ref p)) (z:={ z1 with s:={ z1.s with heap:=h3 } }) I3.suite hg w2 ?_ hdb
  obtain ⟨oe,vs,oT,tt,he,⟨hcl,hdi⟩,hda,_⟩:=id t3
  refine fJ I3.toHR.kin w3 he (hcl.trans v3) hsub ?_
  show codeAny _ _ _ _ _
  refine codeAny_handlers_suite (bP (z':={ z1 with s:={ z1.s with heap:=h3 } }) (fr:=none) hn3 fun h4 hn4=>?_)
  obtain ⟨p',T',cls',dx',ep,x4,I4,r4,na4,t4,nT4⟩:=hn4
  cases ep
  have g4:Go X z { z1 with s:={ z1.s with heap:=h4 } }:=⟨x4,x1.ow⟩
  have nb6:(aH X (.ref p)).ex b z1.t≠.bad:=fun q=>nb (by rw [e0,show X.ex b z1.t = .bad from q])
  refine wpAny_mono (hS (.ref p) { z1 with s:={ z1.s with heap:=h4 } } I4.suite nb6) (fun f s7 h7=>?_) fun e s7 ⟨z7,c7,l7,_,q7,_⟩=>absurd (by rw [e0,show X.ex b z1.t=_ from q7]) nb
  cases q7:X.ex b z1.t with
  | nx t7=>
    rw [show (aH X (.ref p)).ex b z1.t = .nx t7 from q7] at h7
    rw [q7] at e0
    obtain ⟨rfl,z7,e7,et7,g7,I7⟩:=h7
    subst e7
    exact nxt (g4.trans g7.unsuite) (I7.unsuite I.hd) (by rw [e0,et7])
  | rt d t7=>
    rw [show (aH X (.ref p)).ex b z1.t = .rt d t7 from q7] at h7
    rw [q7] at e0
    obtain ⟨u,z7,rfl,e7,et7,g7,I7,rd7⟩:=h7
    subst e7
    show Ps X z o (.ret u) z7.s
    rw [e0]
    exact ⟨u,z7,rfl,rfl,et7,g4.trans g7.unsuite,I7.unsuite I.hd,rd7⟩
  | exc c7 l7 t7=>rw [q7] at e0;exact absurd e0 nb
  | bad=>exact absurd q7 nb6
end
structure Pri (X:Cx) (p:Addr) (nm:List Str) (P:List Addr→List (Str×Value)→Heap→Prop):Prop where
 ex:∀ {ch l h},P ch l h→∀ b∈ch,∃ o,h.get? b=some o
 keep:∀ {ch l h h'},P ch l h→(∀ b∈ch,∀ o,h.get? b=some o→h'.get? b=some o)→P ch l h'
 set:∀ {A:Around} {s:Shared} {ch:List Addr} {l:List (Str×Value)} {f:Str} {v:Value} {Q:Unit→Shared→Prop} {E:Value→Shared→Prop},X.K.In s.heap→P ch l s.heap→f∈nm→f ∉ l.map (·.1)→l.length<900 →
  (∀ h' ch' t,P ch' (l ++ [(f,v)]) h'→(∀ b∈ch',b∈ch∨s.heap.get? b=none)→(∀ b∈ch,b∈ch')→(∀ b o,b ∉ ch→s.heap.get? b=some o→h'.get? b=some o)→Q () { s with heap:=h',toks:=t })→wpAny X.M A (setAttr (.ref p) f v) Q E s
theorem dY {f:Str} {v:Value}:∀ {l:List (Str×Value)},f ∉ l.map (·.1)→∀ g,(l ++ [(f,v)]).lookup g=if g=f then some v else l.lookup g
 | [],_,g=>by
   show (match g == f with | true=>some v | false=>none)=if g=f then some v else none
   by_cases c:g=f
   ·rw [if_pos c,beq_iff_eq.mpr c]
   ·rw [if_neg c,beq_eq_false_iff_ne.mpr c]
 | (a,b) :: r,h,g=>by
   have h':f≠a∧f ∉ r.map (·.1):=by simpa using h
   have ih:=dY (v:=v) h'.2 g
   show (match g == a with | true=>some b | false=>(r ++ [(f,v)]).lookup g)=if g=f then some v else (match g == a with | true=>some b | false=>r.lookup g)
   by_cases c:g=a
   ·have gf:g≠f:=fun w=>h'.1 (w.symm.trans c)
    rw [beq_iff_eq.mpr c,if_neg gf]
   ·rw [beq_eq_false_iff_ne.mpr c];exact ih
theorem j0 (l:List (Str×Value)):PySem.Within (fun n=>l.lookup n) (l.map (·.1)):=fun y hy=>by
 cases q:l.lookup y with
 | none=>exact absurd q hy
 | some u=>
   obtain ⟨l1,l2,e1,_⟩:=List.lookup_eq_some_iff.mp q
   rw [e1];simp
section
variable {X:Cx} {z z' z0 z1:Z} {p C:Addr} {nm:List Str}
theorem r0 (cl:Cls X.K C) (na:∀ f∈nm,b8 X.K C f):Pri X p nm (fun ch l h=>∃ dx,ch = [p,dx]∧InO h.get? p dx C l) where
 ex:=fun ⟨dx,e,h1,h2,h3,o,h4,h5⟩ b hb=>by
  subst e
  rcases List.mem_cons.mp hb with w | w
  ·rw [w];exact ⟨_,h1⟩
  ·rw [List.mem_singleton.mp w];exact ⟨o,h4⟩
 keep:=fun ⟨dx,e,h1,h2,h3,o,h4,h5⟩ k=>⟨dx,e,k p (by rw [e];simp) _ h1,h2,h3,o,k dx (by rw [e];simp) _ h4,h5⟩
 set:=fun {A s ch l f v Q E} hK ⟨dx,e,io⟩ hf hn hz hq=>by
  subst e
  refine mr (ns:=l.map (·.1)) hK (InO.objm io) cl.sa cl.po (na f hf).taker cl.hd (j0 l) (by rw [List.length_map];exact Nat.le_trans (Nat.le_of_lt hz) (big (by omega))) fun h' om sb=>?_
  obtain ⟨od,es,ep,e1,e2,e3,e4,e5⟩:=om.ns
  exact hq h' [p,dx] _ ⟨dx,rfl,om.obj,om.ne,by rw [List.length_append];simp;omega,od,e1,es,ep,e2,e3,e4,fun n=>(e5 n).trans (dY hn n).symm⟩ (fun b hb=>.inl hb) (fun b hb=>hb) fun b o nb e=>(sb.2 b fun w=>nb (by rw [w];simp)).trans e
theorem r6 (Z:eU X.K C) (na:∀ f∈nm,PySem.W.findIn X.K (.ref C) f=some none):Pri X p nm (fun ch l h=>∃ o vs,h.get? p=some o∧o.cls = .ref C∧o.data = .fields vs∧vs[1]? = some .none∧((l = []∧o.dict=none∧ch = [p])∨∃ d od,o.dict=some d∧d≠p∧ch = [p,d]∧h.get? d=some od∧NsO od l)) where
 ex:=fun ⟨o,vs,h1,_,_,_,h5⟩ b hb=>by
  rcases h5 with ⟨_,_,e⟩ | ⟨d,od,_,_,e,h6,_⟩
  ·rw [e] at hb;rw [List.mem_singleton.mp hb];exact ⟨o,h1⟩
  ·rw [e] at hb
   rcases List.mem_cons.mp hb with w | w
   ·rw [w];exact ⟨_,h1⟩
   ·rw [List.mem_singleton.mp w];exact ⟨od,h6⟩
 keep:=fun ⟨o,vs,h1,h2,h3,h4,h5⟩ k=>by
  rcases h5 with ⟨a,b,e⟩ | ⟨d,od,a,b,e,h6,h7⟩
  ·exact ⟨o,vs,k p (by rw [e];simp) _ h1,h2,h3,h4,.inl ⟨a,b,e⟩⟩
  ·exact ⟨o,vs,k p (by rw [e];simp) _ h1,h2,h3,h4,.inr ⟨d,od,a,b,e,k d (by rw [e];simp) _ h6,h7⟩⟩
 set:=fun {A s ch l f v Q E} hK ⟨o,vs,h1,h2,h3,h4,h5⟩ hf hn hz hq=>by
  refine mK (mA:=fun n=>l.lookup n) (ns:=l.map (·.1)) hK Z (na f hf) h1 h2 h3 ?_ (j0 l) (by rw [List.length_map];omega) fun h' d t g1 ne n k ds=>?_
  ·rcases h5 with ⟨rfl,b,_⟩ | ⟨d,od,a,b,_,h6,es,ep,h7⟩
   ·exact .inl ⟨b,fun _=>rfl⟩
   ·exact .inr ⟨d,a,b,od,es,ep,h6,h7⟩
  ·obtain ⟨od2,es,ep,e1,e2,e3,e4,e5⟩:=n
   refine hq h' [p,d] t ⟨_,vs,g1,h2,h3,h4,.inr ⟨d,od2,rfl,ne,rfl,e1,es,ep,e2,e3,e4,fun n=>(e5 n).trans (dY hn n).symm⟩⟩ (fun b hb=>?_) (fun b hb=>?_) fun b u nb e=>?_
   ·rcases h5 with ⟨_,b1,e⟩ | ⟨d',od,a,_,e,_⟩
    ·rcases List.mem_cons.mp hb with w | w
     ·left;rw [e,w];simp
     ·rw [List.mem_singleton.mp w]
      rcases ds with q | ⟨_,q⟩
      ·rw [b1] at q;cases q
      ·exact .inr q
    ·rcases ds with q | ⟨q,_⟩
     ·rw [a] at q;cases q;rw [e];exact .inl hb
     ·rw [a] at q;cases q
   ·rcases h5 with ⟨_,b1,e⟩ | ⟨d',od,a,_,e,_⟩
    ·rw [e] at hb;rw [List.mem_singleton.mp hb];simp
    ·rcases ds with q | ⟨q,_⟩
     ·rw [a] at q;cases q;rw [e] at hb;exact hb
     ·rw [a] at q;cases q
   ·have np:b≠p:=fun w=>by
     rcases h5 with ⟨_,_,e'⟩ | ⟨_,_,_,_,e',_⟩ <;> exact nb (by rw [e',w];simp)
    refine k b u np (fun w=>?_) e
    rcases ds with q | ⟨_,q⟩
    ·rcases h5 with ⟨_,b1,_⟩ | ⟨d',od,a,_,e',_⟩
     ·rw [b1] at q;cases q
     ·rw [a] at q;cases q;exact nb (by rw [e',w];simp)
    ·rw [w,q] at e;cases e
inductive mw (X:Cx):List Stmt→List (Str×Nat)→Prop
 | nil:mw X [] []
 | cons {s0 x:Str} {f:Str} {i:Nat} {p1 p2 p3 pos:Pos} {r l}:X.N[0]? = some s0→X.N[i]? = some x→Vis X.env.scope s0→Vis X.env.scope x→((s0 == ("__debug__":Str)) || (s0 == ("__classdict__":Str)) || (x == ("__debug__":Str)) || (x == ("__classdict__":Str)))=false→mw X r l→mw X (.Assign [.Attribute (.Name s0 p1) f p2] (.Name x p3) pos :: r) ((f,i) :: l)
theorem qS {P:List Addr→List (Str×Value)→Heap→Prop} (H:Pri X p nm P) {body:List Stmt} {l:List (Str×Nat)} (B:mw X body l):∀ (z:Z) (ch:List Addr) (l0:List (Str×Value)) (vs:List Value),Rep X z→z.σ[0]? = some (some (.ref p))→P ch l0 z.s.heap→(∀ b∈ch,Fre X z b∧¬ Own z b)→(∀ q∈l,q.1∈nm)→(l0.map (·.1) ++ l.map (·.1)).Nodup→l0.length+l.length<900→l.map (fun q=>z.σ[q.2]?)=vs.map (fun v=>some (some v)) →
 wpAny X.M X.A (execs body X.env) (fun fl s'=>fl = .next∧∃ ch',P ch' (l0 ++ (l.map (·.1)).zip vs) s'.heap∧(∀ b∈ch',b∈ch∨z.h b=none)∧(s'.os=z.s.os∧s'.gens=z.s.gens)∧(∀ b o,b ∉ ch→z.h b=some o→s'.heap.get? b=some o)) NoE z.s:=by
 induction B with
 | nil=>exact fun z ch l0 vs I _ hP hf _ _ _ _=>wpAny_execs_nil ⟨rfl,ch,by simpa using hP,fun b hb=>.inl hb,⟨rfl,rfl⟩,fun _ _ _ e=>e⟩
 | @cons s0 x f i p1 p2 p3 pos r l n0 ni v0 vi hd B ih=>
   intro z ch l0 vs I h0 hP hf hm nd hz hv
   simp only [Bool.or_eq_false_iff] at hd
   obtain ⟨⟨⟨d1,d2⟩,d3⟩,d4⟩:=hd
   match vs,hv with
   | [],hv=>cases hv
   | v :: vs,hv=>
     rw [List.map_cons,List.map_cons] at hv
     injection hv with hv1 hv2
     have nf:f ∉ l0.map (·.1)∧(l0.map (·.1) ++ [f] ++ l.map (·.1)).Nodup:=by
      rw [List.map_cons] at nd
      refine ⟨fun m=>?_,by simpa using nd⟩
      exact (List.nodup_append.mp nd).2.2 f m f List.mem_cons_self rfl
     refine wpAny_execs_cons (plainObj_wpAny_Assign_Attribute (cE I ni vi hv1 (cE I n0 v0 h0 (H.set I.toHR.kin hP (hm _ List.mem_cons_self) nf.1 (by simp at hz;omega) fun h' ch' t hP' c1 c2 k=>?_) d1 d2) d3 d4) dH)
     have W:Wr (frs X.fr) ch z.s.heap h':=⟨fun b o e _ n=>k b o n e,fun b o e n=>⟨o.slots,k b o n e⟩,fun b o e=>by
      by_cases m:b∈ch
      ·exact H.ex hP' b (c2 b m)
      ·exact ⟨o,k b o m e⟩⟩
     have I1:Rep X { z with s:={ z.s with heap:=h',toks:=t } }:=I.wr W hf
     have f1:∀ b∈ch',Fre X z b∧¬ Own z b:=fun b hb=>(c1 b hb).elim (hf b) fun n=>I.fre n
     refine wpAny_mono (ih { z with s:={ z.s with heap:=h',toks:=t } } ch' (l0 ++ [(f,v)]) vs I1 h0 hP' f1 (fun q m=>hm q (List.mem_cons_of_mem _ m)) (by rw [List.map_append];exact nf.2) (by simp at hz ⊢;omega) hv2) (fun fl s' ⟨e,ch2,q1,q2,q3,q5⟩=>⟨e,ch2,by rw [List.append_assoc] at q1;exact q1,fun b hb=>?_,q3,fun b o n e=>?_⟩) fun _ _ w=>w
     ·rcases q2 b hb with w | w
      ·exact c1 b w
      ·refine .inr ?_
       cases q:z.h b with
       | none=>rfl
       | some o=>obtain ⟨o',e'⟩:=W.there b o q;rw [show h'.get? b=none from w] at e';cases e'
     ·by_cases m:b∈ch'
      ·rcases c1 b m with w | w
       ·exact absurd w n
       ·rw [show z.h b=none from w] at e;cases e
      ·exact q5 b o m (k b o n e)
structure FnI (X:Cx) (lv:Nat) (f:Addr) (fd:FuncData) (ps nm:List Str):Prop where
 len:ps.length=nm.length+1
 run:∀ (A:Around) (fr:List Env) (z:Z) (args:Args) (us:List Value) (p:Addr) (P:List Addr→List (Str×Value)→Heap→Prop) (ch:List Addr),aX lv A→HR { X with A:=A,fr:=fr } z→BindsTo z.s fd args (ps.zip (.ref p :: us))→us.length=nm.length→Pri X p nm P→P ch [] z.s.heap→(∀ b∈ch,z.G b=none∧¬ Mu z.ρ b∧b ∉ frs fr) →
  codeAny X.M A (.call (.ref f) args) (fun r s'=>r = .ok (.ret .none)∧∃ ch',P ch' (nm.zip us) s'.heap∧(∀ b∈ch',b∈ch∨z.h b=none)∧(s'.os=z.s.os∧s'.gens=z.s.gens)∧(∀ b o,b ∉ ch→z.h b=some o→s'.heap.get? b=some o)) z.s
theorem ue {name qual:Str} {params:Arguments} {body:List Stmt} {scope:Scope} {dV kV doc pm ct oc cd:Value} {an od:Option Addr} {osl:Array (Option Value)} {ps:List Str} {f:Addr} {k:Nat} {l:List (Str×Nat)} (lk:X.K.lookup f=some ⟨oc,od,.func (PySem.W.fnOf name qual params body scope dV kV doc pm an cd ct),osl⟩) (hcd:PySem.W.codeIn X.K cd qual=true) (S:cX ps ps scope) (hn:ps.length=nm.length+1) (nd:nm.Nodup) (h9:nm.length<900) (hl:l=nm.zip (List.range' 1 nm.length))
 (hb:∀ A fr L,mw (cxF X X.cal X.cal1 ps qual scope f cd A fr L) body l):FnI X (k+1) f (PySem.W.fnOf name qual params body scope dV kV doc pm an cd ct) ps nm:=by
 refine ⟨hn,fun A fr z args us p P ch hr I hbd hlu H hP hc=>?_⟩
 have hl2:(Value.ref p :: us).length=ps.length:=by rw [List.length_cons];omega
 have KX:X.K.In z.s.heap:=I.kin
 have lim:z.s.heap.NoLimit:=I.md.nolimit.keeps (Rep.bk I)
 have hkind:∀ y∈ps.zip (.ref p :: us),scope.names.lookup y.1=some .local∨(scope.names.lookup y.1=some .cell∧((cellsFrom (z.s.heap.objs.size+1) scope.names []).lookup y.1).isSome=true):=fun ⟨n,v⟩ hy=>by
  rcases S.par n (List.of_mem_zip hy).1 with q | q
  ·exact .inl q
  ·exact .inr ⟨q,PySem.W.cellsFrom_some _ _ _ (.inl q)⟩
 refine codeAny_call_function hr.depth (KX _ _ lk) rfl S.co S.gen rfl (PySem.W.codeRec_of KX hcd) (hbd _ _ _ _ ?_)
 refine wpAny_newFunctionEnv_cells S.kind hkind fun env he s1 x=>?_
 subst he
 refine ⟨lim.keeps x.toInCall.keep,codeAny_func ?_⟩
 have hk:∀ b o,z.h b=some o→s1.heap.get? b=some o:=x.toInCall.keep
 have J:=gW (es:=List.replicate (Value.ref p :: us).length none) (cal:=X.cal) (cal1:=X.cal1) S I hr hl2 (List.length_replicate ..) (fun i d e=>by rw [List.getElem?_replicate] at e;split at e <;> cases e) x
 have lcf:∀ {a o},z.h a=some o→¬ Lc (cxF X X.cal X.cal1 ps qual scope f cd A fr z.s.heap.objs.size) a:=fun {a o} e h=>by
  have:z.s.heap.objs.size≤a:=by
   rcases h with rfl | ⟨y,e⟩
   ·exact Nat.le_refl _
   ·exact Nat.le_of_lt (x.above y _ (PySem.mem_of_lookup e))
  exact absurd (Heap.lt_size e) (Nat.not_lt.mpr this)
 have noz:∀ {b},b∈ch→∃ o,z.h b=some o:=fun hb=>H.ex hP _ hb
 have hP1:P ch [] s1.heap:=H.keep hP fun b _ o e=>hk b o e
 have fc:∀ b∈ch,Fre (cxF X X.cal X.cal1 ps qual scope f cd A fr z.s.heap.objs.size) ⟨z.ρ,z.G,⟨List.replicate (Value.ref p :: us).length none ++ List.replicate (ps.length - ps.length) none,[],z.t.st⟩,(Value.ref p :: us).map some ++ List.replicate (ps.length - ps.length) none,s1⟩ b∧¬ Own ⟨z.ρ,z.G,⟨List.replicate (Value.ref p :: us).length none ++ List.replicate (ps.length - ps.length) none,[],z.t.st⟩,(Value.ref p :: us).map some ++ List.replicate (ps.length - ps.length) none,s1⟩ b:=fun b hb=>by
  obtain ⟨o,e⟩:=noz hb
  obtain ⟨c1,c2,c3⟩:=hc b hb
  refine ⟨⟨c1,c2,fun m=>?_,lcf e⟩,fun ⟨i,m,_⟩=>nomatch m⟩
  rcases List.mem_cons.mp (show b∈z.s.heap.objs.size :: frs fr from m) with q | q
  ·exact absurd (Heap.lt_size e) (by rw [q];exact Nat.lt_irrefl _)
  ·exact c3 q
 have lm:l.map (·.1)=nm:=by rw [hl,List.map_fst_zip (by simp)]
 have H':Pri (cxF X X.cal X.cal1 ps qual scope f cd A fr z.s.heap.objs.size) p nm P:=⟨H.ex,H.keep,H.set⟩
 refine wpAny_mono (qS H' (hb A fr z.s.heap.objs.size) _ ch [] us J (fR (n:=ps.length - ps.length) (i:=0) rfl) hP1 fc (fun q m=>by rw [← lm];exact List.mem_map_of_mem m) (by rw [lm];simpa using nd) (by have:=congrArg List.length lm;rw [List.length_map] at this;simp;omega) ?_) (fun fl s' ⟨e,ch',q1,q2,q3,q5⟩=>?_) fun _ _ w=>w.elim
 ·rw [hl]
  refine List.ext_getElem? fun i=>?_
  rw [List.getElem?_map,List.getElem?_map]
  cases q:us[i]? with
  | none=>
    have:¬ i<us.length:=fun h=>by rw [List.getElem?_eq_getElem h] at q;cases q
    rw [List.getElem?_eq_none (by rw [List.length_zip,List.length_range'];omega)];rfl
  | some v=>
    have hi:i<us.length:=(List.getElem?_eq_some_iff.mp q).1
    have e1:(nm.zip (List.range' 1 nm.length))[i]? = some (nm[i]'(by omega),1+i):=by rw [List.getElem?_zip_eq_some];exact ⟨List.getElem?_eq_getElem _,by rw [List.getElem?_range' (by omega)];simp⟩
    rw [e1]
    show some (((Value.ref p :: us).map some ++ List.replicate (ps.length - ps.length) none)[1+i]?)=some (some (some v))
    rw [fR (d:=v) (by rw [Nat.add_comm,List.getElem?_cons_succ];exact q)]
 ·subst e
  rw [lm] at q1
  have none1:∀ {a},s1.heap.get? a=none→z.h a=none:=fun {a} n=>by
   cases q:z.h a with
   | none=>rfl
   | some o=>rw [hk a o q] at n;cases n
  obtain ⟨h1,tk,e1,_⟩:=x.done
  exact ⟨rfl,ch',q1,fun b hb=>(q2 b hb).imp_right none1,⟨q3.1.trans (by rw [e1]),q3.2.trans (by rw [e1])⟩,fun b o n e=>q5 b o n (hk b o e)⟩
end
section
variable {X:Cx} {z z' z0 z1:Z}
theorem eZ {C:Addr} {x:Str} {Q:Value→Shared→Prop} {E:Value→Shared→Prop} (I:Rep X z) (kp:PySem.W.keepIn X.K (.ref C)=true) (hg:Gl X x) (hm:X.mg x=some (.ref C)) (hd:(x == ("__debug__":Str))=false) (he:starEach (ea :: er) X.env=(false,eval ea X.env) :: starEach er X.env) (hpl:(backTo pos (starEach er X.env)).any (·.1)=false)
 (h:wpAny X.M X.A (spliced (backTo pos (starEach (ea :: er) X.env))) (fun us s'=>X.K.In s'.heap∧wpAny X.M X.A (call (.ref C) us) Q E s') E z.s):wpAny X.M X.A (eval (.Call (.Name x p) (ea :: er) [] pos) X.env) Q E z.s:=
 wpAny_Call_Name_kw (bC I hg hm (PySem.W.callWith_K (h₀:=X.base) I.md.kin kp h he hpl) hd)
theorem uH {x:Str} {j:Nat} {cl:Cl} {i:CI} (F:bK X X.cal1 lv cl.init f) (hr:aX (lv+1) X.A) (M:Mk X.K i.ad f) (hcl:X.Γ.cl[j]? = some cl) (hw:cl.what=0) (hci:X.W.ci[j]? = some i) (hwh:X.W.what[j]? = some 0) (hg:Gl X x) (hm:X.mg x=some (.ref i.ad)) (ha:LA X (ea :: er) es) (hd:(x == ("__debug__":Str))=false) (he:starEach (ea :: er) X.env=(false,eval ea X.env) :: starEach er X.env) (hpl:(backTo pos (starEach er X.env)).any (·.1)=false):LE X (.Call (.Name x p) (ea :: er) [] pos) (.new j es):=fun br z I nb=>
 eZ I M.kp hg hm hd he hpl ((ha true pos).go .refl I rfl nb fun z1 l us y1 x1 I1 r1 e1=>⟨I1.toHR.kin,so F hr M hcl hw hci hwh x1 I1 r1 e1 nb⟩)
theorem ry {x:Str} {j:Nat} {cl:Cl} {i:CI} {fd:FuncData} {ps:List Str} (F:FnI X lv f fd ps i.nm) (hb:bI X.K fd ps []) (hr:aX (lv+1) X.A) (M:Mk X.K i.ad f) (C:Cls X.K i.ad) (na:∀ f∈i.nm,b8 X.K i.ad f) (hcl:X.Γ.cl[j]? = some cl) (hci:X.W.ci[j]? = some i) (hwh:X.W.what[j]? = some 1) (hn:i.nm.length=cl.at_.length) (hg:Gl X x) (hm:X.mg x=some (.ref i.ad)) (ha:LA X (ea :: er) es) (hd:(x == ("__debug__":Str))=false) (he:starEach (ea :: er) X.env=(false,eval ea X.env) :: starEach er X.env) (hpl:(backTo pos (starEach er X.env)).any (·.1)=false):LE X (.Call (.Name x p) (ea :: er) [] pos) (.newd j es):=fun br z I nb=>
 eZ I M.kp hg hm hd he hpl ((ha false pos).go .refl I rfl nb fun z1 l us y1 x1 I1 r1 e1=>⟨I1.toHR.kin,cm x1 I1 e1 nb fun d q=>by
  rw [hcl] at q
  obtain ⟨⟨_,hl⟩,rfl⟩:=aC (show (if cl.what=1∧l.length=cl.at_.length then some (D.ins j l) else none)=some d from q)
  have rs:=r1.rds
  have lu:us.length=i.nm.length:=by rw [← rs.len,hl,hn]
  have g:Gr z1.s { z1.s with heap:=(z1.s.heap.push PySem.W.emptyDict).push (PySem.W.instObj i.ad z1.s.heap.objs.size) }:=⟨rfl,rfl,fun b o e=>Heap.get?_push_of_some _ (Heap.get?_push_of_some _ e)⟩
  have e1:(z1.s.heap.push PySem.W.emptyDict).get? z1.s.heap.objs.size=some PySem.W.emptyDict:=Heap.get?_push_size z1.s.heap rfl
  have e2:((z1.s.heap.push PySem.W.emptyDict).push (PySem.W.instObj i.ad z1.s.heap.objs.size)).get? (z1.s.heap.objs.size+1)=some (PySem.W.instObj i.ad z1.s.heap.objs.size):=by
   have:=Heap.get?_push_size (z1.s.heap.push PySem.W.emptyDict) (o:=PySem.W.instObj i.ad z1.s.heap.objs.size) rfl
   rwa [Heap.size_push] at this
  have n1:z1.h (z1.s.heap.objs.size+1)=none:=Heap.get?_none_of_le (Nat.le_succ _)
  have n0:=aA z1
  have ne:z1.s.heap.objs.size≠z1.s.heap.objs.size+1:=Nat.ne_of_lt (Nat.lt_succ_self _)
  have bd:=hb { z1.s with heap:=(z1.s.heap.push PySem.W.emptyDict).push (PySem.W.instObj i.ad z1.s.heap.objs.size) } (.ref (z1.s.heap.objs.size+1) :: us) (I1.toHR.kin.keeps g.k) (by rw [List.append_nil,List.length_cons,F.len,lu])
  rw [List.append_nil] at bd
  have H1:=(I1.toHR.grow (ak I1.gh g)).at (A:=X.A.under (.builtin "type.__call__" ⟨.ref i.ad :: us,[]⟩)) (dQ i.ad us []) rfl
  refine wpAny_call (jE (f:=f) I1.toHR.kin M.makes M.init (beq_iff_eq.mp M.fn) (codeAny_mono (F.run _ X.fr { z1 with s:={ z1.s with heap:=(z1.s.heap.push PySem.W.emptyDict).push (PySem.W.instObj i.ad z1.s.heap.objs.size) } } ⟨.ref (z1.s.heap.objs.size+1) :: us,[]⟩ us _ _ [z1.s.heap.objs.size+1,z1.s.heap.objs.size] (hr.make i.ad us []) H1 bd lu (r0 C na) ⟨_,rfl,e2,ne,Nat.zero_le _,_,Heap.get?_push_of_some _ e1,#[],_,rfl,(fun e he=>absurd he (by simp)),.nil,fun _=>rfl⟩ fun b hb=>?_) fun r s' hq=>?_))
  ·rcases List.mem_cons.mp hb with w | w
   ·rw [w];exact ⟨(I1.fre n1).1.1,(I1.fre n1).1.2.1,(I1.fre n1).1.2.2.1⟩
   ·rw [List.mem_singleton.mp w];exact ⟨(I1.fre n0).1.1,(I1.fre n0).1.2.1,(I1.fre n0).1.2.2.1⟩
  ·obtain ⟨rfl,ch',⟨dx,ec,io⟩,c1,os,k⟩:=hq
   have gr:Gr z1.s s':=⟨os.1,os.2,fun b o e=>k b o (fun m=>by
    have e:z1.h b=some o:=e
    rcases List.mem_cons.mp m with w | w
    ·rw [w,n1] at e;cases e
    ·rw [List.mem_singleton.mp w,n0] at e;cases e) (g.k b o e)⟩
   have nd:z1.h dx=none:=by
    rcases c1 dx (by rw [ec];simp) with w | w
    ·rcases List.mem_cons.mp w with w | w
     ·rw [w];exact n1
     ·rw [List.mem_singleton.mp w];exact n0
    ·cases q:z1.h dx with
     | none=>rfl
     | some o=>exact absurd (g.k dx o q) (by rw [show ((z1.s.heap.push PySem.W.emptyDict).push (PySem.W.instObj i.ad z1.s.heap.objs.size)).get? dx=none from w];exact fun z=>nomatch z)
   obtain ⟨i1,i2,i3,oo,i4,i5⟩:=io
   exact ⟨rfl,gr,_,i,us,rfl,hci,by rw [hl,hn];exact Nat.le_refl _,.inl ⟨hwh,dx,(d8 n1).trans i1,i2,i3,oo,(d8 nd).trans i4,i5⟩,rs.mono (List.prefix_refl _) (bH I1.gh gr).gg⟩⟩)
theorem pw {x:Str} {j:Nat} {k:Cl} {i:CI} {fd:FuncData} {ps:List Str} {fI:Addr} {Bx nwI iniI:String} {bmB:List Value} {np cp pos:Pos} (Fb:ExcBaseFacts Bx nwI iniI bmB) (O:j9 X.K i.ad fI bmB nwI) (F:FnI X lv fI fd ps i.nm) (hb:bI X.K fd ps []) (hr:aX (lv+1) X.A) (Z:eU X.K i.ad) (na:∀ f∈i.nm,PySem.W.findIn X.K (.ref i.ad) f=some none) (hcl:X.Γ.cl[j]? = some k) (hci:X.W.ci[j]? = some i) (hwh:X.W.what[j]? = some 2) (hn:i.nm.length=k.at_.length)
 (be:PySem.W.mroIn X.K i.ad (.type "BaseException")=some true) (ty:PySem.W.typeIn X.K (.ref i.ad)=some (.type "type")) (kp:PySem.W.keepIn X.K (.ref i.ad)=true) (hc:X.calm=true) (hg:Gl X x) (hm:X.mg x=some (.ref i.ad)) (ha:LA X (ea :: er) es) (hd:(x == ("__debug__":Str))=false) (he:starEach (ea :: er) X.env=(false,eval ea X.env) :: starEach er X.env) (hpl:(backTo cp (starEach er X.env)).any (·.1)=false):LS X (.Raise (some (.Call (.Name x np) (ea :: er) [] cp)) none pos) (.rais j es):=fun z I nb=>by
 rw [arm_exec_Raise]
 refine wpAny_bind (wpAny_standAt (nB (K:=X.K) (C:=i.ad) be ty (I.hd hc) (wpAny_bind ?_)))
 refine eZ I kp hg hm hd he hpl ((ha false cp).gos (f:=fun l s=>if gU X.Γ j l then .exc j l s else .bad) .refl I rfl nb fun z1 l us y1 x1 I1 r1 e1=>⟨I1.toHR.kin,?_⟩)
 have rs:=r1.rds
 by_cases c:gU X.Γ j l=true
 rotate_left
 ·rw [if_neg c] at e1;exact absurd e1 nb
 rw [if_pos c] at e1
 unfold gU at c
 rw [hcl] at c
 simp only [Bool.and_eq_true,decide_eq_true_eq] at c
 obtain ⟨⟨⟨c1,c2⟩,c3⟩,c4⟩:=c
 have c1:l.length=k.at_.length:=by simpa using c1
 have lu:us.length=i.nm.length:=by rw [← rs.len,c1,hn]
 have l0:l≠[]:=by intro w;rw [w] at c4;simp at c4
 refine oG (h:=z1.s.heap) (g:=z1.s.gens) (d:=z1.s.drawn) (t:=z1.s.toks) (os:=z1.s.os) Fb I1.toHR.kin O (by rw [← rs.len];exact big (by omega)) fun h' p m=>?_
 have kz:∀ b o,z1.h b=some o→h'.get? b=some o:=fun b o e=>m.keeps b o e
 have np:z1.h p=none:=m.new
 obtain ⟨tt,ht,_,_⟩:=m.there
 have g:Gr z1.s { z1.s with heap:=h' }:=⟨rfl,rfl,kz⟩
 have bd:=hb { z1.s with heap:=h' } (.ref p :: us) (I1.toHR.kin.keeps kz) (by rw [List.append_nil,List.length_cons,F.len,lu])
 rw [List.append_nil] at bd
 have H1:=(I1.toHR.grow (ak I1.gh g)).at (A:=X.A.under (.builtin "type.__call__" ⟨.ref i.ad :: us,[]⟩)) (dQ i.ad us []) rfl
 have fp:=I1.fre np
 refine wpAny_call (codeAny_mono (F.run _ X.fr { z1 with s:={ z1.s with heap:=h' } } ⟨.ref p :: us,[]⟩ us p _ [p] (hr.make i.ad us []) H1 bd lu (r6 Z na) ⟨_,_,ht,rfl,rfl,rfl,.inl ⟨rfl,rfl,rfl⟩⟩ fun b hb=>?_) fun r s' hq=>?_)
 ·rw [List.mem_singleton.mp hb];exact ⟨fp.1.1,fp.1.2.1,fp.1.2.2.1⟩
 obtain ⟨rfl,ch',⟨o,vs,q1,q2,q3,q4,q5⟩,cc,os,kk⟩:=hq
 have gr:Gr z1.s s':=⟨os.1.trans g.os,os.2.trans g.gs,fun b o e=>kk b o (fun w=>by have e:z1.h b=some o:=e;rw [List.mem_singleton.mp w,np] at e;cases e) (kz b o e)⟩
 rcases q5 with ⟨w,_,_⟩ | ⟨d,od,q6,q7,q8,q9,q10⟩
 ·have:i.nm.zip us≠[]:=fun w=>by
   have hl:=rs.len
   have:0<l.length:=List.length_pos_iff.mpr l0
   have w0:(i.nm.zip us).length=0:=by rw [w];rfl
   rw [List.length_zip] at w0
   omega
  exact absurd w this
 have nd:z1.h d=none:=by
  rcases cc d (by rw [q8];simp) with w | w
  ·exact absurd (List.mem_singleton.mp w) q7
  ·cases q:z1.h d with
   | none=>rfl
   | some o=>have:=kz d o q;rw [show h'.get? d=none from w] at this;cases this
 have fd:=I1.fre nd
 have gw:Grw z1 (fun b=>if b=d then some od else z1.G b) s':=⟨gr,fun b o e=>by
  by_cases c:b=d
  ·subst c;rw [fd.1.1] at e;cases e
  ·rw [if_neg c];exact e,fun b o e=>by
  by_cases c:b=d
  ·subst c;rw [if_pos rfl] at e;cases e;exact q9
  ·rw [if_neg c] at e;exact gr.k b o (I1.gh b o e),fun b o e=>by
  by_cases c:b=d
  ·subst c;exact .inr nd
  ·rw [if_neg c] at e;exact .inl e⟩
 have I3:=I1.grow gw
 have pG:(if p=d then some od else z1.G p)=none:=by rw [if_neg (Ne.symm q7)];exact fp.1.1
 refine ⟨rfl,wpAny_bind (wpAny_standAt (wpAny_pure ⟨p,o,vs,rfl,I3.toHR.kin,q1,q2,q3,q4,{ z1 with G:=fun b=>if b=d then some od else z1.G b,s:=s' },j,l,rfl,e1,x1.trans gw.ee.go,I3,p,.ref i.ad,some d,rfl,⟨i,hci,hwh,rfl,by rw [c1,hn];exact Nat.le_refl _,.inr ⟨d,od,us,rfl,if_pos rfl,q10,rs.mono (List.prefix_refl _) gw.gg⟩⟩,⟨x1.st.no np,⟨pG,fp.1.2⟩,fp.2⟩,.inl ⟨o,vs,q1,⟨q2,q6⟩,q3,q4⟩⟩))⟩
end
theorem ku {prog:Program} {w:World} {A:Around} {E:Value→Shared→Prop} {s:Shared} {Q:Option Value→Shared→Prop} {δ:Type} {R:δ→Value→Prop} {a:Addr} {D:List (Str×δ)} {z:Str} {tz:Tok} {d:δ}
 (T:KTD.TabOf R s.heap a D) (hat:KTD.datumAt z D=some d) (h:∀ v,R d v→Q (some v) { s with toks:=s.toks+1 }):wpAny (model prog w) A (dictGet a (.str z tz)) Q E s:=by
 obtain ⟨_,o,es,ep,ho,_,hd,hr⟩:=T
 obtain ⟨v,hv,hfl⟩:=hr.find_some hat
 have all:(es.all fun e=>isExactStrKey e.key)=true:=by
  obtain ⟨l⟩:=es
  simpa using hr.exact
 have hq:Q (findBy (fun k v=>v.isStr k) es z) { s with toks:=s.toks+1 }:=by
  rw [show findBy (fun k v=>v.isStr k) es z=some v by obtain ⟨l⟩:=es;simpa [findBy] using hv]
  exact h v hfl
 rw [findBy_of_findIdx?] at hq
 unfold dictGet
 refine wpAny_holding ?_
 refine wpAny_bind (wpAny_pyHash_str (wpAny_bind (KTD.kt_dictFind_strs (s:={ s with toks:=s.toks+1 }) ho hd all ?_)))
 cases hi:es.findIdx? fun e=>e.key.isStr z with
 | none=>
   rw [hi] at hq
   exact wpAny_pure hq
 | some i=>
   rw [hi] at hq
   exact wpAny_bind (wpAny_dictEntries (s:={ s with toks:=s.toks+1 }) ho hd (wpAny_pure hq))
theorem lH {prog:Program} {w:World} {A:Around} {E:Value→Shared→Prop} {s:Shared} {Q:Option Value→Shared→Prop} {δ:Type} {R:δ→Value→Prop} {a:Addr} {D:List (Str×δ)} {z:Str} {tz:Tok}
 (T:KTD.TabOf R s.heap a D) (hat:KTD.datumAt z D=none) (h:Q none { s with toks:=s.toks+1 }):wpAny (model prog w) A (dictGet a (.str z tz)) Q E s:=by
 obtain ⟨_,o,es,ep,ho,_,hd,hr⟩:=T
 have hv:=hr.find_none hat
 have all:(es.all fun e=>isExactStrKey e.key)=true:=by
  obtain ⟨l⟩:=es
  simpa using hr.exact
 have hq:Q (findBy (fun k v=>v.isStr k) es z) { s with toks:=s.toks+1 }:=by
  rw [show findBy (fun k v=>v.isStr k) es z=none by obtain ⟨l⟩:=es;simpa [findBy] using hv]
  exact h
 rw [findBy_of_findIdx?] at hq
 unfold dictGet
 refine wpAny_holding (wpAny_bind (wpAny_pyHash_str (wpAny_bind (KTD.kt_dictFind_strs (s:={ s with toks:=s.toks+1 }) ho hd all ?_))))
 cases hi:es.findIdx? fun e=>e.key.isStr z with
 | none=>
   rw [hi] at hq
   exact wpAny_pure hq
 | some i=>
   rw [hi] at hq
   exact wpAny_bind (wpAny_dictEntries (s:={ s with toks:=s.toks+1 }) ho hd (wpAny_pure hq))
section
variable {X:Cx} {z z1:Z} {a:Addr} {t:List (Str×L2.Bk.Dk)} {j:Nat} {x:Str}
abbrev TbL (X:Cx) (a:Addr) (t:List (Str×L2.Bk.Dk)):Prop:=KTD.tabLook (aM X.K) (fun b=>X.K.lookup b) a t=true
theorem iT (I:HR X z) (hK:TbL X a t):KTD.TabOf (fun d v=>aM X.K d v=true) z.s.heap a t:=KTD.tab_of_look (fun _ _ h=>h) (fun b o e=>I.kin b o e) hK
theorem uK (hg:Gl X x) (hm:X.mg x=some (.ref a)) (ht:X.Γ.tb[j]? = some t) (hK:TbL X a t) (hb:LE X eb b) (hs:gZ eb) (hd:(x == ("__debug__":Str))=false) (hl:∀ r,letTemporaryGo (.Name x p) (.ref a) r=pure ()):LE X (.Subscript (.Name x p) eb pos) (.tab j b):=fun br z I nb=>
 Subscript_ (bC I hg hm ((hb true).go .refl I rfl nb fun z1 d u y1 x1 I1 r1 e1=>by
  rw [ht] at e1
  cases d with
  | str k=>
    obtain ⟨tz,rfl⟩:=(r1.rb.cr0 I1:RD X.W z1.ρ z1.G (.str k) u)
    have T:=iT I1.toHR hK
    have ty:z1.s.TypeIs (.ref a) "dict":=by obtain ⟨_,o,_,_,ho,hc,_⟩:=T;exact ⟨o,ho,hc.1⟩
    refine cm x1 I1 e1 nb fun d q=>?_
    obtain ⟨d0,hat,rfl⟩:=Option.map_eq_some_iff.mp q
    refine subscriptTail_builtin ty slot_dict_getitem.lookup ?_ (hs _ _) hl
    unfold getItem
    refine wpAny_holding (wpAny_bind (wpAny_sequenceKey ty (by decide) (wpAny_bind (wpAny_callSpecial?_slot (name:=Str.ofString "__getitem__") ty slot_dict_getitem (wpAny_call_entry slot_dict_getitem ty entry_dict_getitem ?_ (args_dict_getitem _ _))))))
    show wpAny _ _ (dictGet a (.str k tz) >>= _) _ _ z1.s
    exact wpAny_bind (ku T hat fun v hv=>wpAny_pure ⟨v,rfl,wpAny_pure (.old I1 .tok (I1.toHR.top hv))⟩)
  | _=>exact absurd e1 nb) hd)
theorem jW {k:Str} {tz:Tok} {Q:Value→Shared→Prop} {E:Value→Shared→Prop} (I:HR X z) (hK:TbL X a t) (q:∀ n,Q (.bool (KTD.datumAt k t).isSome) { z.s with toks:=n }):wpAny X.M X.A (compareOp .In (.str k tz) (.ref a)) Q E z.s:=by
 have T:=iT I hK
 have ty:z.s.TypeIs (.ref a) "dict":=by obtain ⟨_,o,_,_,ho,hc,_⟩:=T;exact ⟨o,ho,hc.1⟩
 have nsm:=T.1
 show wpAny _ _ (do return Value.bool (← contains (.ref a) (.str k tz))) _ _ z.s
 refine wpAny_bind ?_
 unfold contains
 refine wpAny_holding ?_
 refine wpAny_bind (wpAny_specialOf ty slot_dict_contains.lookup ?_)
 show wpAny _ _ (if (some (Value.builtin "dict.__contains__") == some Value.none)=true then _ else _) _ _ z.s
 rw [if_neg (by rw [beq_builtin_none];exact Bool.false_ne_true)]
 refine wpAny_bind (wpAny_callSpecialUnlessNone?_slot (name:=Str.ofString "__contains__") ty slot_dict_contains (wpAny_call_entry slot_dict_contains ty entry_dict_contains ?_ (args_dict_contains _ _)))
 show wpAny _ _ (dictGet a (.str k tz) >>= _) _ _ z.s
 cases hat:KTD.datumAt k t with
 | some d=>
   rw [hat] at q
   refine wpAny_bind (ku T hat fun v _=>?_)
   show wpAny _ _ (ret (.bool true)) _ _ _
   exact wpAny_pure ⟨_,rfl,wpAny_truthy_bool (wpAny_pure (q _))⟩
 | none=>
   rw [hat] at q
   refine wpAny_bind (lH T hat ?_)
   show wpAny _ _ (Builtin.Dict.pendingKey? a (.str k tz) >>= _) _ _ _
   exact wpAny_bind (wpAny_pendingKey_other nsm (wpAny_pure ⟨_,rfl,wpAny_truthy_bool (wpAny_pure (q _))⟩))
theorem o7 (hg:Gl X x) (hm:X.mg x=some (.ref a)) (ht:X.Γ.tb[j]? = some t) (hK:TbL X a t) (hb:LE X eb b) (hd:(x == ("__debug__":Str))=false) (h1:behindInMarks .In (.Name x p)=false):LE X (.Compare eb [.In] [.Name x p] pos) (.tabin j b):=fun br z I nb=>
 wpAny_Compare1 ((hb true).go .refl I rfl nb fun z1 d u y1 x1 I1 r1 e1=>by
  rw [ht] at e1
  cases d with
  | str k=>
    obtain ⟨tz,rfl⟩:=(r1.rb.cr0 I1:RD X.W z1.ρ z1.G (.str k) u)
    exact bC I1 hg hm (jW I1.toHR hK fun n=>Dn.at x1 I1 e1 (.tok fun _ _ _=>rfl)) hd
  | _=>exact absurd e1 nb) h1
theorem pA (hg:Gl X x) (hm:X.mg x=some (.ref a)) (ht:X.Γ.tb[j]? = some t) (hK:TbL X a t) (hb:LE X eb b) (hd:(x == ("__debug__":Str))=false) (h1:behindInMarks .In (.Name x p)=false):LT X (.Compare eb [.In] [.Name x p] pos) (.tabin j b):=fun z I nb=>
 wpAny_isTrue_Compare1 ((hb true).go .refl I (av ..) nb fun z1 d u y1 x1 I1 r1 e1=>by
  rw [ht] at e1
  cases d with
  | str k=>
    obtain ⟨tz,rfl⟩:=(r1.rb.cr0 I1:RD X.W z1.ρ z1.G (.str k) u)
    exact bC I1 hg hm (jW I1.toHR hK fun n=>(Dn.tok (X:=X) (z:=z1) (d:=.bl (KTD.datumAt k t).isSome) (n:=n) fun _ _ _=>rfl).tru x1 I1 e1 nb) hd
  | _=>exact absurd e1 nb) h1
end
section
variable {X:Cx} {z z1:Z}
structure M2 (X:Cx) (o:Expr) (m:Str) (apos:Pos) (e f:Expr) (cpos:Pos):Prop where
 base:attributeBase o m X.env (eval o X.env)=eval o X.env
 few:((backTo cpos (starEach [e,f] X.env)).all (fun x=>!x.1) && (backToKw cpos (keywordEach [] X.env)).all (fun x=>x.1.isSome) && decide (([e,f]:List Expr).length+([]:List Keyword).length+(if ([]:List Keyword).isEmpty then 0 else 1)<30))=true
 line:(apos.endLine == cpos.line)=true
 trees:backTo cpos (starEach [e,f] X.env) = [(false,eval e X.env),(false,eval f X.env)]
theorem lG {o:Option D} {ov:Option Value} (h:match o with | some d=>∃ v,ov=some v∧RD W ρ G d v | none=>ov=none) (r:RD W ρ G d0 u0):RD W ρ G (o.getD d0) (ov.getD u0):=by
 cases o with
 | none=>rw [h];exact r
 | some d=>obtain ⟨v,rfl,r⟩:=h;exact r
theorem oj {ks:List Key} {ds:List D} (h:CR X.W z (.dic ks ds) u):∃ a,u = .ref a∧z.s.TypeIs u "dict"∧∀ b,u = .ref b→∃ ob,z.s.heap.get? b=some ob∧ob.dict=none:=by
 obtain ⟨a,o,vs,rfl,_,e,⟨_,_,x,_⟩,_⟩:=h
 exact ⟨a,rfl,⟨o,e,x.1⟩,fun b q=>by cases q;exact ⟨o,e,x.2.1⟩⟩
theorem jn (h:isDic d=true):∃ ks ds,d = .dic ks ds:=by cases d <;> first | exact ⟨_,_,rfl⟩ | cases h
theorem ro (ha:LE X eo a) (hb:LE X eb b) (hc:LE X ec c) (m:M2 X eo "get" apos eb ec cpos):LE X (.Call (.Attribute eo "get" apos) [eb,ec] [] cpos) (.get a b c):=fun br z I nb=>
 wpAny_Call_method m.base m.few m.line PySem.F.plainAttrs_dict PySem.F.slot_dict_get PySem.F.type_dict_get ((ha true).go .refl I rfl nb fun z1 x u y1 x1 I1 r1 e1=>by
  by_cases hd:isDic (look z1.t.st x)=true
  ·rw [if_pos hd] at e1
   obtain ⟨ks,ds,ed⟩:=jn hd
   have cr:=r1.rb.cr I1
   rw [ed] at cr
   obtain ⟨ad,rfl,t1,t2⟩:=oj cr
   refine ⟨t1,t2,?_⟩
   rw [m.trees]
   refine Calls.callWith_builtin rfl (Calls.evalArgs_plain (Calls.spliced_cons ((hb true).go x1 I1 e1 nb fun z2 y iv y2 x2 I2 r2 e2=>Calls.spliced_cons ((hc false).go x2 I2 e2 nb fun z3 w fv y3 x3 I3 r3 e3=>Calls.spliced_nil ?_))))
   have cr3:=((r1.rb.st y2 I2).st y3 I3).cr I3
   cases q:look z3.t.st x with
   | dic ks ds=>
     cases q2:bo y with
     | none=>rw [q,q2] at e3;exact absurd e3 nb
     | some k=>
       rw [q] at cr3
       rw [q,q2] at e3
       obtain ⟨ad',o,vs,e',hs,ho,dc,hl,r⟩:=cr3
       cases e'
       have dd:=dc.of ho
       exact call_meetsIn PySem.F.slot_dict_get dd.typeIs PySem.F.entry_dict_get (PySem.F.args_dict_get_3 _ _ _) (meets_dict_get_default (aI X.W.P X.W.w) ad (dX q2 ((r2.rb.st y3 I3).cr0 I3)) hs fv) ⟨_,dd.mapOf,Dn.at x3 I3 e3 (.old I3 .tok (lG (cW hl r) r3.rd))⟩
   | _=>rw [q] at e3;exact absurd e3 nb
  ·rw [if_neg hd] at e1;exact absurd e1 nb)
theorem rm (ha:LE X eo a) (hb:LE X eb b) (m:M1 X eo "get" apos eb cpos):LE X (.Call (.Attribute eo "get" apos) [eb] [] cpos) (.get a b (.c .non)):=fun br z I nb=>
 wpAny_Call_method m.base m.few m.line PySem.F.plainAttrs_dict PySem.F.slot_dict_get PySem.F.type_dict_get ((ha true).go .refl I rfl nb fun z1 x u y1 x1 I1 r1 e1=>by
  by_cases hd:isDic (look z1.t.st x)=true
  ·rw [if_pos hd] at e1
   obtain ⟨ks,ds,ed⟩:=jn hd
   have cr:=r1.rb.cr I1
   rw [ed] at cr
   obtain ⟨ad,rfl,t1,t2⟩:=oj cr
   refine ⟨t1,t2,?_⟩
   rw [m.trees]
   refine Calls.callWith_builtin rfl (Calls.evalArgs_plain (Calls.spliced_cons ((hb true).go x1 I1 e1 nb fun z3 y iv y3 x3 I3 r2 e3=>Calls.spliced_nil ?_)))
   have e3:X.ev br (.get a b (.c .non)) z.t=(match look z3.t.st x,bo y with
    | .dic ks ds,some k=>.ok ((cf ks ds k).getD .non) z3.t
    | _,_=>.bad):=e3
   have cr3:=(r1.rb.st y3 I3).cr I3
   cases q:look z3.t.st x with
   | dic ks ds=>
     cases q2:bo y with
     | none=>rw [q,q2] at e3;exact absurd e3 nb
     | some k=>
       rw [q] at cr3
       rw [q,q2] at e3
       obtain ⟨ad',o,vs,e',hs,ho,dc,hl,r⟩:=cr3
       cases e'
       have dd:=dc.of ho
       exact call_meetsIn PySem.F.slot_dict_get dd.typeIs PySem.F.entry_dict_get (PySem.F.args_dict_get_2 _ _) (meets_dict_get (aI X.W.P X.W.w) ad (dX q2 (r2.rb.cr0 I3)) hs) ⟨_,dd.mapOf,Dn.at x3 I3 e3 (.old I3 .tok (lG (cW hl r) rfl))⟩
   | _=>rw [q] at e3;exact absurd e3 nb
  ·rw [if_neg hd] at e1;exact absurd e1 nb)
theorem rz {ad:Addr} {t:List (Str×L2.Bk.Dk)} {j:Nat} {x:Str} (hg:Gl X x) (hm:X.mg x=some (.ref ad)) (ht:X.Γ.tb[j]? = some t) (hK:TbL X ad t) (hd:(x == ("__debug__":Str))=false) (hb:LE X eb b) (hc:LE X ec c) (m:M2 X (.Name x p) "get" apos eb ec cpos):LE X (.Call (.Attribute (.Name x p) "get" apos) [eb,ec] [] cpos) (.tget j b c):=fun br z I nb=>
 wpAny_Call_method m.base m.few m.line PySem.F.plainAttrs_dict PySem.F.slot_dict_get PySem.F.type_dict_get (bC I hg hm (by
  obtain ⟨_,o1,_,_,ho1,hc1,_⟩:=id (iT I.toHR hK)
  refine ⟨⟨o1,ho1,hc1.1⟩,fun b q=>(by cases q;exact ⟨o1,ho1,hc1.2.1⟩),?_⟩
  rw [m.trees]
  refine Calls.callWith_builtin rfl (Calls.evalArgs_plain (Calls.spliced_cons ((hb true).go .refl I rfl nb fun z2 y iv y2 x2 I2 r2 e2=>Calls.spliced_cons ((hc false).go x2 I2 e2 nb fun z3 w fv y3 x3 I3 r3 e3=>Calls.spliced_nil ?_))))
  rw [ht] at e3
  cases y with
  | str k=>
    obtain ⟨tz,rfl⟩:=(r2.rb.cr0 I2:RD X.W z2.ρ z2.G (.str k) iv)
    have T:=iT I3.toHR hK
    have ty':z3.s.TypeIs (.ref ad) "dict":=by obtain ⟨_,o,_,_,ho,hc,_⟩:=T;exact ⟨o,ho,hc.1⟩
    have nsm:=T.1
    have e3:X.ev br (.tget j b c) z.t = .ok (((KTD.datumAt k t).map toD).getD w) z3.t:=e3
    refine wpAny_call_entry PySem.F.slot_dict_get ty' PySem.F.entry_dict_get ?_ (PySem.F.args_dict_get_3 _ _ _)
    show wpAny _ _ (dictGet ad (.str k tz) >>= _) _ _ z3.s
    cases hat:KTD.datumAt k t with
    | some d=>
      rw [hat] at e3
      exact wpAny_bind (ku T hat fun v hv=>wpAny_pure ⟨v,rfl,Dn.at x3 I3 e3 (.old I3 .tok (I3.toHR.top hv))⟩)
    | none=>
      rw [hat] at e3
      refine wpAny_bind (lH T hat ?_)
      show wpAny _ _ (Builtin.Dict.missed ad (.str k tz) >>= _) _ _ _
      exact wpAny_bind (wpAny_missed_other nsm (wpAny_pure ⟨fv,rfl,Dn.at x3 I3 e3 (.old I3 .tok r3.rd)⟩))
  | _=>exact absurd e3 nb) hd)
theorem jU:∀ {l ss vs},cS l=some ss→RDs W ρ G l vs→StrsAre vs ss
 | [],ss,vs,e,r=>by cases e;cases (show vs = [] from r);exact .nil
 | d :: l,ss,vs,e,r=>by
   cases d with
   | str b=>
     obtain ⟨cs,q,rfl⟩:=Option.map_eq_some_iff.mp (show (cS l).map (b :: ·)=some ss from e)
     obtain ⟨v,r',rfl,⟨t,rfl⟩,tl⟩:=r
     exact .cons b t (jU q tl)
   | _=>cases e
theorem rq {x:Str} (ha:LE X ea a) (m:M1 X (.Constant (.str x) j p) "join" apos ea cpos):LE X (.Call (.Attribute (.Constant (.str x) j p) "join" apos) [ea] [] cpos) (.join x a):=fun br z I nb=>
 wpAny_Call_method m.base m.few m.line PySem.F.plainAttrs_str PySem.F.slot_str_join PySem.F.type_str_join (Calls.Constant_str (by
  refine ⟨typeIs_str _ _ _,(fun b q=>by cases q),?_⟩
  rw [m.trees]
  have g:Gr z.s { z.s with toks:=z.s.toks+1 }:=.tok
  refine Calls.callWith_builtin rfl (Calls.evalArgs_plain (Calls.spliced_cons ((ha true).go (z:=z) (z1:={ z with s:={ z.s with toks:=z.s.toks+1 } }) (ak I.gh g).ee (I.grow (ak I.gh g)) rfl nb fun z1 d u y1 x1 I1 r1 e1=>Calls.spliced_nil (cm x1 I1 e1 nb fun d2 e=>?_))))
  have cr:=r1.rb.cr I1
  revert e cr
  generalize look z1.t.st d=cc
  intro e cr
  cases cc with
  | lst l=>
    obtain ⟨ss,h1,h2⟩:=Option.bind_eq_some_iff.mp (show ((cS l).bind fun ss=>if x.length≤64∧(ss.map (·.length)).sum≤100000∧ss.length≤1000 then some (D.str (Txt.join x ss)) else none)=some d2 from e)
    obtain ⟨c,rfl⟩:=aC h2
    obtain ⟨ad,o,vs,rfl,ho,⟨⟨n,rfl⟩,hz⟩,w⟩:=cr
    refine join_list (ys:=ss) (show z1.s.heap.IsList ad vs.toArray from ⟨_,ho,rfl,n,rfl⟩) (by simpa using jU h1 w) ?_ fun t' k=>.tok fun _ _ _=>⟨_,rfl⟩
    have:=Nat.mul_le_mul c.2.2 c.1
    omega
  | _=>cases e))
theorem uC {x y:Str} (hx:x.length≤1000) (hy:y.length≤1000) (ha:LE X ea a):LE X (.JoinedStr [.Constant (.str x) j1 p1,.FormattedValue ea (-1) none p2,.Constant (.str y) j2 p3] pos) (.fmt x a y):=fun br z I nb=>by
 have l0:Str.empty.length=0:=rfl
 have sz:∀ n,n≤200000→n≤sizeLine:=fun n h=>Nat.le_trans h (by decide)
 have g:Gr z.s { z.s with toks:=z.s.toks+1 }:=.tok
 refine wpAny_JoinedStr ?_
 show wpAny _ _ (eval (.Constant (.str x) j1 p1) X.env) _ _ _
 refine Calls.Constant_str ⟨x,_,rfl,sz _ (by rw [strLen_append,l0];omega),?_⟩
 show wpAny _ _ (eval (.FormattedValue ea (-1) none p2) X.env) _ _ _
 refine FormattedValue_plain ((ha true).go (z:=z) (z1:={ z with s:={ z.s with toks:=z.s.toks+1 } }) (ak I.gh g).ee (I.grow (ak I.gh g)) rfl nb fun z1 d u y1 x1 I1 r1 e1=>?_)
 cases d with
 | str k=>
   obtain ⟨tk,rfl⟩:=(r1.rb.cr0 I1:RD X.W z1.ρ z1.G (.str k) u)
   cases q:oM x (.str k) y with
   | none=>rw [q] at e1;exact absurd e1 nb
   | some d2=>
     rw [q] at e1
     obtain ⟨c,rfl⟩:=aC (show (if x.length≤1000∧k.length≤100000∧y.length≤1000 then some (D.str (((Str.empty ++ x) ++ k) ++ y)) else none)=some d2 from q)
     have fin:∀ n tt,∃ k' t',Value.str k tt = .str k' t'∧((Str.empty ++ x) ++ k').length≤sizeLine∧Joins X.M X.A (Px X z (X.ev br (.fmt x a y) z.t)) (evalEach [.Constant (.str y) j2 p3] X.env) ((Str.empty ++ x) ++ k') (fun out s₁=>out.length≤sizeLine∧Pe X z (X.ev br (.fmt x a y) z.t) (RV X.W br (.fmt x a y)) (.str out s₁.toks) { s₁ with toks:=s₁.toks+1 }) { z1.s with toks:=n }:=fun n tt=>⟨k,tt,rfl,sz _ (by rw [strLen_append,strLen_append,l0];omega),by
      show wpAny _ _ (eval (.Constant (.str y) j2 p3) X.env) _ _ _
      exact Calls.Constant_str ⟨y,_,rfl,sz _ (by rw [strLen_append,strLen_append,strLen_append,l0];omega),sz _ (by rw [strLen_append,strLen_append,strLen_append,l0];omega),Dn.at x1 I1 e1 (.tok fun _ _ _=>⟨_,rfl⟩)⟩⟩
     exact wpAny_formatField_str (fin z1.s.toks tk) (fin _ _) (sz _ (by omega))
 | _=>exact absurd e1 nb
end
theorem kR:typeLookup (.type "list_reverseiterator") "__len__" = pure none:=by rw [typeLookup_type,builtinLookup_eq_fast];kernel_rfl
theorem pV:typeLookup (.type "list_reverseiterator") "__length_hint__" = pure (some (.builtin "list_reverseiterator.__length_hint__")):=by rw [typeLookup_type,builtinLookup_eq_fast];kernel_rfl
section
variable {prog:Program} {w:World} {A:Around} {E:Value→Shared→Prop} {s:Shared}
theorem qN {R:Result→Shared→Prop} {r l S:Addr} {xs:Array Value} {c0:Nat} {res:Value} (hh:A.handled=none) (hn:xs.size≤sizeLine) (g:s.heap.IsRevIter r l ((xs.size:Int) - 1)) (gl:s.heap.IsList l xs) (ne:l≠r)
 (hS:s.heap.get? S=some { cls:=.type "list",data:=.seq #[] c0 }) (n1:S≠r) (n2:S≠l)
 (q:∀ h1 tk acc c1,(∀ b o,b≠S→b≠r→s.heap.get? b=some o→h1.get? b=some o)→h1.get? S=some { cls:=.type "list",dict:=none,data:=.seq acc c1,slots:=#[] }→ItemsOf (fun i v=>xs[xs.size - 1 - i]? = some v) acc xs.size→R (.ok (.ret res)) { s with heap:=h1,toks:=tk }) :
 wpAny (model prog w) A.in1 (Builtin.List.listExtendWith (.ref S) (.ref r) res)
  (fun fin s1=>match fin with | .done f=>R (.ok f) s1 | .again c1=>c1.quiet=true∧codeAny (model prog w) A c1 R s1) (fun e s1=>R (.error e) s1) s:=by
 have ty:=g.typeIs
 unfold Builtin.List.listExtendWith
 refine wpAny_bind (wpAny_typeOf ty ?_)
 have a1:Builtin.List.listSameRef (.ref S) (.ref r)=false:=by simp [Builtin.List.listSameRef,n1]
 have a2:(Value.type "list_reverseiterator" == Value.type "list")=false:=by decide
 have a3:(Value.type "list_reverseiterator" == Value.type "tuple")=false:=by decide
 simp only [a1,a2,a3,Bool.or_false,Bool.false_eq_true,if_false]
 refine wpAny_bind (wpAny_pyIter_revIter g (wpAny_bind (wpAny_holding ?_)))
 unfold Builtin.List.listLengthHint
 refine wpAny_bind (wpAny_specialOf ty kR ?_)
 show wpAny _ A.in1 (specialOf (Value.ref r) (Str.ofString "__length_hint__") >>= fun _=>_) _ _ _
 refine wpAny_bind (wpAny_specialOf ty pV ?_)
 have W:=(Walks.listRev (prog:=prog) (w:=w) (A:=A.in1) hh r l ne xs).toS
 have nS:S ∉ [r,l]:=by simp [n1,n2]
 have sp:splitId "list_reverseiterator.__length_hint__" = some ("list_reverseiterator","__length_hint__"):=by decide +kernel
 dsimp only
 simp only [sp]
 refine wpAny_bind (wpAny_isInstance (T:="list_reverseiterator") (b:=true) ty (by rw [isSubtype_type];kernel_rfl) ?_)
 refine wpAny_ite_split (fun z=>absurd z (by decide)) fun _=>?_
 refine wpAny_ite_split (fun _=>?_) (fun z=>absurd (by decide +kernel) z)
 refine wpAny_ite_split (fun z=>absurd z (by decide +kernel)) fun _=>wpAny_pure ?_
 refine wpAny_ite_split (fun z=>absurd z (by decide +kernel)) fun _=>?_
 refine wpAny_pure ⟨plainId_quiet F.plain_extend_loop _,codeAny_extend_loopS W hn S nS res xs.size 0 _ _ _ rfl (Nat.zero_le _) ⟨Nat.zero_le _,by simpa using g,gl⟩ hS (ItemsOf.nil _) fun s1 acc c1 hm hS1 hacc=>?_⟩
 rw [Moved.eq_with hm]
 refine q s1.heap s1.toks acc c1 (fun b o z1 z2 e=>hm.heap b o (fun z=>?_) e) hS1 hacc
 rcases List.mem_cons.mp z with z | z
 ·exact z1 z
 ·exact z2 (List.mem_singleton.mp z)
theorem hO {r l:Addr} {xs:Array Value} {Q:Value→Shared→Prop} (hh:A.handled=none) (hn:xs.size≤sizeLine) (g:s.heap.IsRevIter r l ((xs.size:Int) - 1)) (gl:s.heap.IsList l xs) (ne:l≠r)
 (q:∀ h1 tk acc c1,(∀ b o,b≠r→s.heap.get? b=some o→h1.get? b=some o)→h1.get? s.heap.objs.size=some { cls:=.type "list",dict:=none,data:=.seq acc c1,slots:=#[] }→ItemsOf (fun i v=>xs[xs.size - 1 - i]? = some v) acc xs.size →
  Q (.ref s.heap.objs.size) { s with heap:=h1,toks:=tk }):wpAny (model prog w) A (call (.type "list") [.ref r]) Q E s:=by
 refine callType_codes (Q₁:=fun obj s1=>obj = .ref s.heap.objs.size∧s1={ s with heap:=s.heap.push { cls:=.type "list",data:=.seq #[] } }) F.called_list (F.typeCall_list_1 _) F.entry_list_init (code_list_new _ ⟨rfl,rfl⟩) fun obj s1 z=>?_
 obtain ⟨e,e'⟩:=z
 subst e e'
 have hS:(s.heap.push { cls:=.type "list",data:=.seq #[] }).get? s.heap.objs.size=some { cls:=.type "list",data:=.seq #[] }:=Heap.get?_push_size _ rfl
 have rlt:r<s.heap.objs.size:=by obtain ⟨_,e,_⟩:=g;exact Heap.lt_size e
 have llt:l<s.heap.objs.size:=by obtain ⟨_,e,_⟩:=gl;exact Heap.lt_size e
 refine ⟨⟨_,hS,rfl⟩,F.args_list_init_2 _ _,?_⟩
 show wpAny _ _ (do let old ← Builtin.List.listItems (.ref s.heap.objs.size);Builtin.List.listUpdate (.ref s.heap.objs.size) (fun _=>#[]);letGo old.toList.reverse;Builtin.List.listExtendWith (.ref s.heap.objs.size) (.ref r) .none) _ _ _
 refine wpAny_bind ?_
 unfold Builtin.List.listItems
 refine wpAny_bind (wpAny_seqItems hS rfl (wpAny_pure ?_))
 show wpAny _ _ (updateSeq s.heap.objs.size (fun _=>#[]) >>= fun _=>letGo (#[]:Array Value).toList.reverse >>= fun _=>Builtin.List.listExtendWith (.ref s.heap.objs.size) (.ref r) .none) _ _ _
 refine wpAny_bind (wpAny_updateSeq hS rfl (wpAny_bind (wpAny_letGo ?_)))
 have oth:∀ b o,s.heap.get? b=some o→((s.heap.push { cls:=.type "list",data:=.seq #[] }).update s.heap.objs.size (Obj.mapSeq (fun _=>(#[]:Array Value)))).get? b=some o:=fun b o e=>
  (Heap.get?_update_other _ _ (Nat.ne_of_gt (Heap.lt_size e))).trans (Heap.get?_push_of_some _ e)
 refine qN (A:=A.in1) hh hn (g.at fun o e=>oth r o e) (gl.at fun o e=>oth l o e) ne (Heap.get?_update_self (Obj.mapSeq (fun _=>(#[]:Array Value))) hS rfl) (Nat.ne_of_gt rlt) (Nat.ne_of_gt llt) fun h1 tk acc c1 k1 k2 k3=>⟨rfl,?_⟩
 exact q h1 tk acc c1 (fun b o n1 e=>k1 b o (Nat.ne_of_lt (Heap.lt_size e)) n1 (oth b o e)) k2 k3
end
section
variable {X:Cx} {z z1:Z}
theorem mN {us:List Value} {acc:Array Value} (h:ItemsOf (fun i v=>us.toArray[us.toArray.size - 1 - i]? = some v) acc us.toArray.size):acc.toList=us.reverse:=by
 obtain ⟨h1,h2⟩:=h
 refine List.ext_getElem (by simpa using h1) fun i l1 l2=>?_
 have k:=h2 i acc[i] (Array.getElem?_eq_getElem (by simpa using l1))
 have l3:i<us.length:=by simpa using l2
 rw [List.getElem_reverse]
 have k':us[us.length - 1 - i]? = some acc[i]:=by simpa using k
 rw [List.getElem?_eq_getElem (by omega)] at k'
 simpa using (Option.some.inj k').symm
theorem uQ {p1 p2 pos pos2:Pos} (hc:X.calm=true) (g1:Blt X "list" (.type "list")) (g2:Blt X "reversed" (.type "reversed")) (ha:LE X ea a) (hs:starEach [ea] X.env=(false,eval ea X.env) :: starEach [] X.env) (hs2:starEach [.Call (.Name "reversed" p2) [ea] [] pos2] X.env=(false,eval (.Call (.Name "reversed" p2) [ea] [] pos2) X.env) :: starEach [] X.env):LF X (.Call (.Name "list" p1) [.Call (.Name "reversed" p2) [ea] [] pos2] [] pos) (.bi .rev (.cons a .nil)):=fun z I nb=>
 bg (.inr ⟨_,rfl⟩) g1 hs2 rfl I (Calls.spliced_cons (bg (.inr ⟨_,rfl⟩) g2 hs rfl I (Calls.spliced_cons ((ha true).go .refl I (ev1 fun l s=>Out.of s (biD .rev (l.map (look s.st)))) nb fun z1 x u y1 x1 I1 r1 e1=>Calls.spliced_nil (by
  have cr:=r1.rb.cr I1
  have e1:X.ev false (.bi .rev (.cons a .nil)) z.t=Out.of z1.t (fZ .rev (look z1.t.st x)):=e1
  revert e1 cr
  generalize look z1.t.st x=cc
  intro cr e1
  cases cc with
  | lst l=>
    obtain ⟨ad,o,vs,rfl,ho,⟨⟨n,rfl⟩,hz⟩,r⟩:=cr
    have pl:z1.s.heap.IsList ad vs.toArray:=⟨_,ho,rfl,n,rfl⟩
    refine call_reversed_list pl (Calls.spliced_nil ?_)
    refine hO (I1.hd hc) (by simp;omega) ⟨_,Heap.get?_push_size _ rfl,rfl,rfl⟩ (pl.at fun o e=>Heap.get?_push_of_some _ e) (Nat.ne_of_lt (Heap.lt_size ho)) fun h1 tk acc c1 k1 k2 k3=>?_
    have w:=mN k3
    have nn:z1.h (z1.s.heap.push (revObj ad ((vs.toArray.size:Int) - 1))).objs.size=none:=Heap.get?_none_of_le (by rw [Heap.size_push];exact Nat.le_succ _)
    obtain ⟨z2,d,q1,q2,y,I2,fv⟩:=(Dw.lst (X:=X) (z:=z1) (s':={ z1.s with heap:=h1,toks:=tk }) (k:=c1) r.rev (.hp fun b o e=>k1 b o (Nat.ne_of_lt (Heap.lt_size e)) (Heap.get?_push_of_some _ e)) nn (by show h1.get? _=_;rw [k2,← w]) (by rw [List.length_reverse];exact hz)).pe I1
    exact ⟨z2,d,q1,e1.trans q2,x1.trans y,I2,fv.less x1⟩
  | _=>exact absurd e1 nb)))))
end
theorem nI {ps:List α} {i:Nat} (h:i<ps.length):ps.take (i+1)=ps.take i ++ [ps[i]]:=by
 rw [List.take_add_one,List.getElem?_eq_getElem h];rfl
theorem gX:∀ (xs:List Int) (y:Int),L2.Bk.sumI (xs ++ [y])=L2.Bk.sumI xs+y
 | [],y=>by show y+0=0+y;omega
 | x :: r,y=>by show x+L2.Bk.sumI (r ++ [y])=x+L2.Bk.sumI r+y;rw [gX r y];omega
theorem eA (ns:List Int):∀ k,k≤ns.length→preSum (fun i=>(ns[i]?).getD 0) k=L2.Bk.sumI (ns.take k)
 | 0,_=>rfl
 | k+1,h=>by
   have hk:k<ns.length:=h
   have e:preSum (fun i=>(ns[i]?).getD 0) (k+1)=preSum (fun i=>(ns[i]?).getD 0) k+(ns[k]?).getD 0:=rfl
   rw [e,eA ns k (by omega),nI hk,gX,List.getElem?_eq_getElem hk]
   rfl
theorem jL (r:RDs W ρ G ds vs):∀ js:List Nat,RDs W ρ G (js.filterMap (ds[·]?)) (js.filterMap (vs[·]?))
 | []=>rfl
 | j :: js=>by
   have ih:=jL r js
   rw [List.filterMap_cons,List.filterMap_cons]
   cases q:ds[j]? with
   | none=>
     have:vs[j]? = none:=by
      rw [List.getElem?_eq_none_iff] at q ⊢
      rw [← r.len];exact q
     rw [this];exact ih
   | some x=>
     obtain ⟨u,hu,ru⟩:=r.get q
     rw [hu];exact .cons ru ih
theorem pP (xs:List α) (lo) (k) (h0:k≠0):(cn xs lo k).length≤xs.length:=by
 unfold cn
 refine Nat.le_trans (List.length_filterMap_le _ _) (Nat.le_trans (sliceRange_len_le _ _ _ (by simpa [sliceBounds] using h0)) ?_)
 simp only [sliceBounds,Option.getD_some]
 by_cases hp:k>0
 ·simp only [hp,if_true]
  cases lo with
  | none=>simp
  | some i=>dsimp only;omega
 ·simp only [hp,if_false]
  cases lo with
  | none=>dsimp only;omega
  | some i=>dsimp only;omega
section
variable {X:Cx} {z z1:Z}
theorem lK:∀ {l ns vs} {i:Nat} {v:Value},bR l=some ns→RDs W ρ G l vs→vs[i]? = some v→∃ t,v = .int ((ns[i]?).getD 0) t
 | [],ns,vs,i,v,e,r,h=>by cases (show vs = [] from r);simp at h
 | d :: l,ns,vs,i,v,e,r,h=>by
   cases d with
   | int b=>
     obtain ⟨cs,q,rfl⟩:=Option.map_eq_some_iff.mp (show (bR l).map (b :: ·)=some ns from e)
     obtain ⟨w,r',rfl,⟨t,rfl⟩,tl⟩:=r
     cases i with
     | zero=>simp at h;exact ⟨t,by rw [← h];rfl⟩
     | succ i=>exact lK (i:=i) q tl (by simpa using h)
   | _=>cases e
theorem jl:∀ {l ns},bR l=some ns→ns.length=l.length
 | [],ns,e=>by cases e;rfl
 | d :: l,ns,e=>by
   cases d with
   | int b=>obtain ⟨cs,q,rfl⟩:=Option.map_eq_some_iff.mp (show (bR l).map (b :: ·)=some ns from e);rw [List.length_cons,List.length_cons,jl q]
   | _=>cases e
theorem tQ (hc:X.calm=true):Bi1 X (.builtin "sum") .sum:=fun z u x d I h e=>by
 cases x with
 | lst l=>
   obtain ⟨ns,q,rfl⟩:=Option.map_eq_some_iff.mp (show (bR l).map (fun ns=>D.int (L2.Bk.sumI ns))=some d from e)
   obtain ⟨a,o,vs,rfl,ho,⟨⟨n,rfl⟩,hz⟩,r⟩:=h
   have hi:z.s.heap.IsList a vs.toArray:=⟨_,ho,rfl,n,rfl⟩
   have hlt:=Heap.lt_size ho
   refine call_sum_walkG (wpAny_pyIter_list hi ⟨z.s.heap.objs.size,[z.s.heap.objs.size,a],[z.s.heap.objs.size],vs.toArray.size,_,_,fun i=>(ns[i]?).getD 0,rfl,Walks.list (A:=X.A.in1) (I.hd hc) _ a (Nat.ne_of_lt hlt) vs.toArray,
    ⟨⟨_,Heap.get?_push_size _ rfl,rfl,rfl⟩,hi.push _⟩,fun b hb=>?_,fun i v hP=>lK q r (by simpa using hP),fun h' tk t' hk=>⟨.hp fun b o e=>hk b o (fun hm=>?_) (Heap.get?_push_of_some _ e),?_⟩⟩)
   ·show b<(z.s.heap.push _).objs.size
    rw [Heap.size_push]
    rcases List.mem_cons.mp hb with rfl | hb
    ·exact Nat.lt_succ_self _
    ·rw [List.mem_singleton.mp hb];exact Nat.lt_succ_of_lt hlt
   ·rw [List.mem_singleton.mp hm] at e;exact Nat.lt_irrefl _ (Heap.lt_size e)
   ·exact ⟨t',by rw [List.size_toArray,← r.len,← jl q,eA ns _ (Nat.le_refl _),List.take_length]⟩
 | _=>cases e
theorem uJ {lo:Option Expr} {est:Expr} {pos p2:Pos} (ha:LE X ea a) (hl:LO X lo l) (hh:LO X (some est) h):LE X (.Subscript ea (.Slice lo none (some est) p2) pos) (.sl3 a l h):=fun br z I nb=>
 Subscript_ ((ha true).go (f:=fun x s=>(X.prt l s).bind fun l s=>(X.prt h s).bind fun w s=>.of s (kW (look s.st x) l w)) .refl I rfl nb fun z1 x u y1 x1 I1 r1 e1=>wpAny_Slice (hl.go x1 I1 e1 nb fun z2 lo' vl y2 x2 I2 r2 e2=>by
  rw [evalPart_none]
  refine wpAny_pure (hh.go x2 I2 e2 nb fun z3 st' vu y3 x3 I3 r3 e3=>?_)
  have g:=ak (s':={ z3.s with heap:=z3.s.heap.push { cls:=.type "slice",data:=.fields #[vl,.none,vu] } }) I3.gh (.push (t:=z3.s.toks))
  have I4:=I3.grow g
  show wpAny X.M X.A (subscriptTail ea (.Slice lo none (some est) p2) u (.ref z3.s.heap.objs.size)) _ _ { z3.s with heap:=z3.s.heap.push { cls:=.type "slice",data:=.fields #[vl,.none,vu] } }
  refine cm (z:={ z3 with s:=_ }) (x3.trans g.ee) I4 e3 nb fun d q=>?_
  have cr:=(((r1.rb.st y2 I2).st y3 I3).cr I3).grow g
  revert q cr
  generalize look z3.t.st x=cc
  intro q cr
  cases cc with
  | lst xs=>
    cases st' with
    | none=>cases q
    | some k=>
      have q:(if k=0 then none else some (D.lst (cn xs lo' k)))=some d:=q
      by_cases k0:k=0
      ·rw [if_pos k0] at q;cases q
      ·rw [if_neg k0] at q
       cases q
       obtain ⟨ad,o,vs,rfl,ho,⟨⟨n,rfl⟩,hz⟩,r⟩:=cr
       have hi:Heap.IsList (z3.s.heap.push { cls:=.type "slice",data:=.fields #[vl,.none,vu] }) ad vs.toArray:=⟨_,ho,rfl,n,rfl⟩
       refine tail_any (ops:=[.ref ad,.ref z3.s.heap.objs.size]) (show Shared.TypeIs _ (.ref ad) "list" from ⟨_,ho,rfl⟩) slot_list_getitem.lookup ?_ (by with_unfolding_all rfl)
       refine wpAny_getItem_list_slice hi (Heap.IsSliceOf.new ..) r2 .none r3 (by simpa using k0) ?_ (by rw [List.size_toArray] <;> omega)
       have e1:slicePick vs.toArray lo' none (some k)=(cn vs lo' k).toArray:=by
        unfold slicePick cn
        simp
       rw [e1]
       have e2:cn vs lo' k=(sliceRange (sliceBounds lo' none (some k) xs.length).1 (sliceBounds lo' none (some k) xs.length).2.1 (sliceBounds lo' none (some k) xs.length).2.2).filterMap (vs[·]?):=by
        unfold cn
        rw [← r.len]
       exact (Dw.lstn (X:=X) (z:={ z3 with s:={ z3.s with heap:=z3.s.heap.push { cls:=.type "slice",data:=.fields #[vl,.none,vu] } } }) (t:=z3.s.toks) (n:=0) (by rw [e2];exact jL r _) (Nat.le_trans (pP vs lo' k k0) hz)).dn I4
  | _=>cases q))
end
def cL (nm:NK) (x:Str):Bool:=match nm.lookup x with
 | some .local=>true
 | some .cell=>true
 | some .free=>true
 | _=>false
def bJ (nm:NK) (x:Str):Bool:=nm.lookup x == some .globalImplicit
def aT:Expr→Bool
 | .Call (.Name id _) [] [] _=>id != "super"
 | _=>true
theorem aj (h:aJ e=true):starEach (e :: es) env=(false,eval e env) :: starEach es env:=by
 cases e <;> first | rfl | cases h
theorem fO (h:aJ e=true):gZ e:=by
 cases e <;> first | (intro o i;rfl) | cases h
theorem fH (h:aJ e=true):behindInMarks op e=false:=by
 cases e <;> first | rfl | cases h
theorem gN (h:aJ e=true):∀ x,foldedSetIterable e env x=pure x:=by
 cases e <;> first | (intro x;rfl) | cases h
theorem aZ (h:∀ e∈es,aJ e=true):(backTo pos (starEach es env)).any (·.1)=false:=by
 induction es with
 | nil=>rfl
 | cons e r ih=>
   rw [aj (h e List.mem_cons_self)]
   have:=ih fun x hx=>h x (List.mem_cons_of_mem _ hx)
   show (false || (backTo pos (starEach r env)).any (·.1))=false
   rw [this];rfl
theorem bD {X:Cx} (hs:X.env.scope.names=nm) (h:cL nm x=true):Vis X.env.scope x:=by
 unfold cL at h
 unfold Vis
 rw [hs]
 split at h <;> first | (rename_i q;exact .inl q) | (rename_i q;exact .inr (.inl q)) | (rename_i q;exact .inr (.inr q)) | cases h
theorem bx (hs:X.env.scope.names=nm) (h:bJ nm x=true):Gl X x:=by
 unfold bJ at h
 show X.env.scope.names.lookup x=_
 rw [hs]
 simpa using h
structure Ns where
 gl:List Str
 tb:List Str
 fn:List Str
 at_:List Str
 bl:List Str
 rf:List Str:=[]
 me:List (Str×Nat×Nat):=[]
 ex:List Str:=[]
 nw:List Str:=[]
 mu:List Str:=[]
 nd:List Str:=[]
 hx:List Str:=[]
 hc:List Str:=[]
def Ns.an (T:Ns) (f:Nat):Str:=T.at_.getD f ""
abbrev Cx.to (X:Cx) (A:Around) (fr:List Env) (N:List Str) (e:Env) (cal cal1:Nat→List D→List O→Res):Cx:={ X with A:=A,fr:=fr,N:=N,env:=e,cal:=cal,cal1:=cal1 }
theorem HR.to {X:Cx} {A:Around} {fr:List Env} {N1 N2:List Str} {e1 e2:Env} {c1 c2 d1 d2:Nat→List D→List O→Res} (I:HR (X.to A fr N1 e1 c1 d1) z):HR (X.to A fr N2 e2 c2 d2) z:=⟨I.md,I.fm,I.hd,I.bs,I.gh,I.rl,I.rn,I.rg,I.ob,I.fu,I.ff,I.br,I.os⟩
theorem FnC.to {X:Cx} {A:Around} {fr:List Env} {N:List Str} {e:Env} {c1 d1:Nat→List D→List O→Res} (h:FnC X cal lv j f fd ps):FnC (X.to A fr N e c1 d1) cal lv j f fd ps:=⟨h.len,fun A2 fr2 z args us ds r I b rd nb=>codeAny_mono (h.run A2 fr2 z args us ds r (HR.to (X:=X) (N1:=N) (e1:=e) (c1:=c1) (d1:=d1) I) b rd nb) fun q s' hq=>by
 cases q with
 | error x=>obtain ⟨z',c,l,a1,a2,a3,a4,a5⟩:=hq;exact ⟨z',c,l,a1,a2,a3,HR.to (X:=X) a4,a5⟩
 | ok fl=>cases fl with
   | ret u=>obtain ⟨z',d,a1,a2,a3,a4,a5⟩:=hq;exact ⟨z',d,a1,a2,a3,HR.to (X:=X) a4,a5⟩
   | _=>exact hq.elim⟩
theorem bK.to {X:Cx} {A:Around} {fr:List Env} {N:List Str} {e:Env} {c1 d1:Nat→List D→List O→Res} (h:bK X cal lv j f):bK (X.to A fr N e c1 d1) cal lv j f:=let ⟨fd,ps,a,b,c⟩:=h;⟨fd,ps,a.to,b,c⟩
theorem FnI.to {X:Cx} {A:Around} {fr:List Env} {N:List Str} {e:Env} {c1 d1:Nat→List D→List O→Res} (h:FnI X lv f fd ps nm):FnI (X.to A fr N e c1 d1) lv f fd ps nm:=⟨h.len,fun A2 fr2 z args us p P ch r I b lu H hP hc=>h.run A2 fr2 z args us p P ch r (HR.to (X:=X) (N1:=N) (e1:=e) (c1:=c1) (d1:=d1) I) b lu ⟨H.ex,H.keep,H.set⟩ hP hc⟩
structure CxOk (T:Ns) (X:Cx) (nm:NK) (N:List Str):Prop where
 hN:X.N=N
 nd:N.Nodup
 sc:X.env.scope.names=nm
 kd:X.env.scope.kind = .function
 calm:X.calm=true
 fns:∀ (j:Nat) (x:Str),T.fn[j]? = some x→∃ k f,bK X X.cal k j f∧aX k X.A∧X.mg x=some (.ref f)
 gls:∀ (j:Nat) (x:Str),T.gl[j]? = some x→∃ d u,X.Γ.gl[j]? = some d∧X.mg x=some u∧aM X.K d u=true
 tbs:∀ (j:Nat) (x:Str),T.tb[j]? = some x→∃ t a,X.Γ.tb[j]? = some t∧X.mg x=some (.ref a)∧TbL X a t
 blt:∀ x∈T.bl,X.mg x=none
 cls:bY X T.an
 mts:∀ q∈T.me,∃ k f,bK X X.cal k q.2.2 f∧aX k X.A∧mx X T.an q.1 q.2.1 f
 nws:∀ (j:Nat) (x:Str),T.nw[j]? = some x→x≠""→∃ n f i cl,bK X X.cal1 n cl.init f∧aX (n+1) X.A∧Mk X.K i.ad f∧X.Γ.cl[j]? = some cl∧cl.what=0∧X.W.ci[j]? = some i∧X.W.what[j]? = some 0∧X.mg x=some (.ref i.ad)
 nds:∀ (j:Nat) (x:Str),T.nd[j]? = some x→x≠""→∃ n f fd ps i cl,FnI X n f fd ps i.nm∧bI X.K fd ps []∧aX (n+1) X.A∧Mk X.K i.ad f∧Cls X.K i.ad∧(∀ f∈i.nm,b8 X.K i.ad f)∧X.Γ.cl[j]? = some cl∧X.W.ci[j]? = some i∧X.W.what[j]? = some 1∧i.nm.length=cl.at_.length∧X.mg x=some (.ref i.ad)
abbrev GE (T:Ns) (nm:NK) (N:List Str) (e:Expr):={c:E // ∀ X,CxOk T X nm N→LE X e c∧(bb c=true→LF X e c)}
abbrev GT (T:Ns) (nm:NK) (N:List Str) (e:Expr):={c:E // ∀ X,CxOk T X nm N→LT X e c}
abbrev GW (T:Ns) (nm:NK) (N:List Str) (e:Expr):={c:E // ∀ X,CxOk T X nm N→LW X e c}
abbrev GA (T:Ns) (nm:NK) (N:List Str) (es:List Expr):={c:E // ∀ X,CxOk T X nm N→LA X es c}
abbrev GO (T:Ns) (nm:NK) (N:List Str) (e:Option Expr):={c:E // ∀ X,CxOk T X nm N→LO X e c}
abbrev GI (T:Ns) (nm:NK) (N:List Str) (tg e:Expr):={c:E // ∀ X,CxOk T X nm N→LI X tg e c}
abbrev aL (T:Ns):=∀ nm N e,Option (GE T nm N e)
abbrev fY (T:Ns):=∀ nm N e,Option (GT T nm N e)
theorem mk (h:LE X e c) (n:bb c=false:=by rfl):LE X e c∧(bb c=true→LF X e c):=⟨h,fun q=>by rw [n] at q;cases q⟩
theorem mkf (h:LF X e c) (hb:∀ br,X.ev br c=X.ev false c:=by intro _;rfl):LE X e c∧(bb c=true→LF X e c):=⟨h.le hb,fun _=>h⟩
def yes (b:Bool):Option (PLift (b=true)):=match b with | true=>some ⟨rfl⟩ | false=>none
def no (b:Bool):Option (PLift (b=false)):=match b with | false=>some ⟨rfl⟩ | true=>none
def aR (x:Str):(l:List Str)→Option {i:Nat // l[i]? = some x}
 | []=>none
 | y :: r=>match h:y == x with
   | true=>some ⟨0,by rw [List.getElem?_cons_zero];congr;simpa using h⟩
   | false=>(aR x r).map fun i=>⟨i.1+1,by rw [List.getElem?_cons_succ];exact i.2⟩
def pB (x:Str):(l:List Str)→Option (PLift (x∈l))
 | []=>none
 | y :: r=>match h:y == x with
   | true=>some ⟨by have:y=x:=by simpa using h
                    rw [this];exact List.mem_cons_self⟩
   | false=>(pB x r).map fun i=>⟨List.mem_cons_of_mem _ i.down⟩
section
variable {T:Ns} {nm:NK} {N:List Str}
def wa (T:Ns) (nm:NK) (N:List Str) (x:Str) (pos:Pos):Option (GE T nm N (.Name x pos)):=do
 let hd ← no (x == ("__debug__":Str))
 let hc ← no (x == ("__classdict__":Str))
 match hl:cL nm x with
 | true=>
   let i ← aR x N
   some ⟨.v i.1,fun X k=>mk (uL (by rw [k.hN];exact i.2) (bD k.sc hl) hd.down hc.down)⟩
 | false=>
   let hg ← yes (bJ nm x)
   let j ← aR x T.gl
   some ⟨.g j.1,fun X k=>by
    obtain ⟨d,u,h1,h2,h3⟩:=k.gls j.1 x j.2
    exact mk (yf (bx k.sc hg.down) h2 hd.down h1 h3)⟩
def tT (T:Ns) (nm:NK) (N:List Str) (c:Const) (j:Nat) (pos:Pos):Option (GE T nm N (.Constant c j pos)):=match c with
 | .none=>some ⟨.c .non,fun X k=>mk sR⟩
 | .bool b=>some ⟨.c (.bl b),fun X k=>mk wm⟩
 | .int i=>some ⟨.c (.int i),fun X k=>mk sQ⟩
 | .str x=>some ⟨.c (.str x),fun X k=>mk sS⟩
 | _=>none
def opP (op:Operator):Option {o:Op // ∀ X:Cx,Op2 X (binaryOp op) (opD o)}:=match op with
 | .Add=>some ⟨.add,fun X=>vj⟩
 | .Sub=>some ⟨.sub,fun X=>vr⟩
 | .Mult=>some ⟨.mul,fun X=>vn⟩
 | .FloorDiv=>some ⟨.fdiv,fun X=>rZ⟩
 | .Mod=>some ⟨.mod,fun X=>vm⟩
 | .Pow=>some ⟨.pow,fun X=>vo⟩
 | .LShift=>some ⟨.shl,fun X=>vp⟩
 | .RShift=>some ⟨.shr,fun X=>vq⟩
 | .BitAnd=>some ⟨.band,fun X=>vk⟩
 | .BitXor=>some ⟨.bxor,fun X=>vt⟩
 | _=>none
def t9 (op:CmpOp):Option {o:Op // ∀ X:Cx,Op2 X (compareOp op) (opD o)}:=match op with
 | .Eq=>some ⟨.eq,fun X=>wX⟩
 | .NotEq=>some ⟨.ne,fun X=>xd⟩
 | .Lt=>some ⟨.lt,fun X=>xb⟩
 | .LtE=>some ⟨.le,fun X=>w9⟩
 | .Gt=>some ⟨.gt,fun X=>wZ⟩
 | .GtE=>some ⟨.ge,fun X=>wY⟩
 | .In=>some ⟨.isin,fun X=>w8⟩
 | .NotIn=>some ⟨.notin,fun X=>pM⟩
 | _=>none
def cG (f:∀ e,Option (GE T nm N e)):(es:List Expr)→Option (GA T nm N es)
 | []=>some ⟨.nil,fun _ _=>ur⟩
 | e :: r=>do
   let h ← yes (aJ e)
   let a ← f e
   let b ← cG f r
   some ⟨.cons a.1 b.1,fun X k=>qZ (a.2 X k).1 (b.2 X k) (aj h.down)⟩
def sJ (f:∀ e,Option (GE T nm N e)) (pos:Pos):(es:List Expr)→Option {c:E // ∀ X,CxOk T X nm N→LE X (.BoolOp .And es pos) c}
 | []=>none
 | [a]=>(f a).map fun x=>⟨x.1,fun X k=>(x.2 X k).1⟩
 | a :: b :: r=>do
   let x ← f a
   let y ← sJ f pos (b :: r)
   some ⟨.and x.1 y.1,fun X k=>uw (x.2 X k).1 (y.2 X k)⟩
def wf (f:∀ e,Option (GE T nm N e)) (pos:Pos):(es:List Expr)→Option {c:E // ∀ X,CxOk T X nm N→LE X (.BoolOp .Or es pos) c}
 | []=>none
 | [a]=>(f a).map fun x=>⟨x.1,fun X k=>(x.2 X k).1⟩
 | a :: b :: r=>do
   let x ← f a
   let y ← wf f pos (b :: r)
   some ⟨.or x.1 y.1,fun X k=>wO (x.2 X k).1 (y.2 X k)⟩
def sI (g:∀ e,Option (GT T nm N e)) (pos:Pos):(es:List Expr)→Option (GW T nm N (.BoolOp .And es pos))
 | []=>none
 | [a]=>(g a).map fun x=>⟨x.1,fun X k=>rV (x.2 X k)⟩
 | a :: b :: r=>do
   let x ← g a
   let y ← sI g pos (b :: r)
   some ⟨.tand x.1 y.1,fun X k=>u8 (x.2 X k) (y.2 X k)⟩
def we (g:∀ e,Option (GT T nm N e)) (pos:Pos):(es:List Expr)→Option (GW T nm N (.BoolOp .Or es pos))
 | []=>none
 | [a]=>(g a).map fun x=>⟨x.1,fun X k=>u9 (x.2 X k)⟩
 | a :: b :: r=>do
   let x ← g a
   let y ← we g pos (b :: r)
   some ⟨.tor x.1 y.1,fun X k=>wU (x.2 X k) (y.2 X k)⟩
def tU (f:∀ e,Option (GE T nm N e)):(o:Option Expr)→Option (GO T nm N o)
 | none=>some ⟨.nil,fun X k=>rG⟩
 | some e=>do
   let a ← f e
   let h ← no (bc a.1)
   some ⟨a.1,fun X k=>lQ h.down (a.2 X k).1⟩
end
end L2.Ev
end
section
namespace L2.Bw
theorem qT (a1:typeLookup (.type T) "__init__" = pure (some (.builtin "object.__init__"))) (a2:Bind.madeBy (.type T)=pure (some newId))
 (a3:(some newId != some "object.__new__")=true) (a4:more≠[]):Meets (Builtin.«object.__init__» ⟨me :: more,kws⟩) (fun _ R s=>s.TypeIs me T∧R (.ok (.ret .none)) s):=by
 refine Meets.of_wp fun prog w A R s q=>?_
 obtain ⟨ty,q⟩:=q
 cases more with
 | nil=>exact absurd rfl a4
 | cons b more=>
   repeat (any_goals (first | assumption | wp_step))
   exact ⟨_,rfl,q⟩
section
variable {prog:Program} {w:World} {A:Around} {E:Value→Shared→Prop} {s:Shared}
theorem i7 (ft:TypeCalled T newId "object.__init__") (ne:(some newId != some "object.__new__")=true) (na:args≠[])
 (c1:checkTypeCall T ⟨args,kws⟩=pure ()) (c2:checkBuiltinCall newId ⟨.type T :: args,kws⟩=pure ()) (e1:entryFor table newId=some Bn) (g:Meets (Bn ⟨.type T :: args,kws⟩) S) (h:S A.in1 (wants Q1 E) s)
 (hn:∀ obj s1,Q1 obj s1→s1.TypeIs obj T∧argsOk "object.__init__" ⟨obj :: args,kws⟩∧Q obj s1):wpAny (model prog w) A (call (.type T) args kws) Q E s:=by
 obtain ⟨c,tl,m1⟩:=ft.mro
 have m2:=ft.made
 have m3:=ft.sub
 refine wpAny_call (codeAny_of_tree ?_)
 show wpAny _ _ (callAny (.type T) _) _ _ _
 refine wpAny_pure ⟨Code.quiet_builtin _ (by decide +kernel),codeAny_builtin F.entry_type_call ?_⟩
 rw [Around.under_plain (weight_type_call_type T args kws) (units_type_call_type T args kws)]
 have m4:=ft.notType
 have m5:=ft.canCreate
 repeat (any_goals (first | assumption | wp_step))
 refine codeAny_mono (codeAny_call_builtin ft.plain e1 (wpAny_of_eq c2 (g prog w A.in1 _ s h))) fun r s1 q1=>?_
 cases r with
 | error e=>exact q1
 | ok fl=>
   cases fl with
   | ret obj=>
     obtain ⟨ty,ok,qq⟩:=hn _ _ q1
     have m6:=ft.init.lookup
     have m7:=ft.init.bind obj
     repeat (any_goals (first | assumption | wp_step))
     refine codeAny_mono (codeAny_call_builtin ft.init.plain F.entry_object_init (ft.init.check _ _ _ _ _ _ _ _ ty ok (qT m6 m2 ne na prog w A.in1 (wants (fun r s2=>r = .none∧Q obj s2) E) s1 ⟨ty,rfl,qq⟩))) fun r2 s2 q2=>?_
     cases r2 with
     | error e=>exact q2
     | ok f2=>
       cases f2 with
       | ret r=>
         obtain ⟨e,q3⟩:=q2
         subst e
         repeat (any_goals (first | assumption | wp_step))
       | _=>exact q2.elim
   | _=>exact q1.elim
theorem oz (t) (n) (tk) (hn:Builtin.SmallTypes.fitsIndex n=true) (items) :
 Meets (Builtin.«enumerate.__new__» ⟨[.type "enumerate",.ref t],[("start",.int n tk)]⟩) (fun _ R s=>s.heap.IsTuple t items ∧
  R (.ok (.ret (.ref (s.heap.push { cls:=.type "tuple_iterator",data:=.fields #[.ref t,.int 0 0] }).objs.size)))
    { s with heap:=(s.heap.push { cls:=.type "tuple_iterator",data:=.fields #[.ref t,.int 0 0] }).push { cls:=.type "enumerate",data:=.fields #[.none,.bool false,.ref s.heap.objs.size,rawInt n,.none,.none] } }):=
 .of_wp fun prog w A R s h=>by
  obtain ⟨hp,g,d,tk',os⟩:=s
  obtain ⟨ht,h⟩:=h
  have sub:=sub_enumerate
  wp_walk
  refine wpAny_stack_any fun st=>wpAny_pure ?_
  split
  ·rename_i c _ _ _ _ _
   cases (c == Value.type "enumerate")
   ·wp_walk using wpAny_pyIter_tuple ht
    exact ⟨_,rfl,h⟩
   ·wp_walk using wpAny_pyIter_tuple ht
    exact ⟨_,rfl,h⟩
  ·wp_walk using wpAny_pyIter_tuple ht
   exact ⟨_,rfl,h⟩
theorem pH (g:s.heap.IsTupleIter it t i) (gt:s.heap.IsTuple t xs) (gx:xs[i]? = some x)
 (q:∀ h1,h1.IsTupleIter it t (i+1)→Heap.SameBut it s.heap h1→Q x { s with heap:=h1 }):wpAny (model prog w) A (Builtin.SmallTypes.nextOf (.ref it)) Q E s:=by
 obtain ⟨o,eo,co,dd⟩:=id g
 obtain ⟨ot,et,_,nt,dt⟩:=gt
 unfold Builtin.SmallTypes.nextOf
 refine wpAny_bind (wpAny_callSpecial?_slot (name:=Str.ofString "__next__") g.typeIs F.slot_tuple_iterator_next (wpAny_call_entry F.slot_tuple_iterator_next g.typeIs F.entry_tuple_iterator_next ?_ (F.args_tuple_iterator_next_1 _)))
 show wpAny _ _ (field (.ref it) 0 >>= fun _=>_) _ _ s
 refine wpAny_bind (wpAny_field eo dd (x:=.ref t) rfl ?_)
 show wpAny _ _ (if (Value.ref t == Value.none)=true then _ else _) _ _ s
 have nn:¬ ((Value.ref t == Value.none)=true):=Bool.false_ne_true
 rw [if_neg nn]
 show wpAny _ _ (field (.ref it) 1 >>= fun _=>_) _ _ s
 refine wpAny_bind (wpAny_field eo dd (x:=.int i 0) rfl ?_)
 show wpAny _ _ (seqItems? (.ref t) >>= fun _=>_) _ _ s
 refine wpAny_bind (wpAny_seqItems et dt ?_)
 simp only [Int.toNat_natCast,gx]
 refine wpAny_bind (wpAny_setField eo dd (by simp) (wpAny_pure ⟨x,rfl,wpAny_pure (q _ ⟨_,Heap.get?_update_self _ eo (Obj.isFreed_of_fields (Obj.data_mapFields dd _)),(Obj.cls_mapFields ..).trans co,?_⟩ (Heap.SameBut.update ..))⟩))
 rw [Obj.data_mapFields dd]
 simp [rawInt]
theorem mH (ge:IsEnum s.heap e it j old) (g:s.heap.IsTupleIter it t i) (gt:s.heap.IsTuple t xs) (gx:xs[i]? = some x) (ne:e≠it)
 (q:∀ h1 tk,IsEnumOut h1 e it (j+1) x s.heap.objs.size→h1.IsTupleIter it t (i+1)→h1.get? s.heap.objs.size=some { cls:=.type "tuple",data:=.seq #[.int j tk,x] } →
  (∀ b o,b≠e→b≠it→s.heap.get? b=some o→h1.get? b=some o)→Q (some (.ref s.heap.objs.size)) { s with heap:=h1,toks:=tk+1 }):wpAny (model prog w) A (pyNext (.ref e)) Q E s:=by
 have ty:s.TypeIs (.ref e) "enumerate":=⟨_,ge,rfl⟩
 unfold pyNext
 refine wpAny_bind (wpAny_attempt (wpAny_callSpecial?_slot (name:=Str.ofString "__next__") ty F.slot_enumerate_next (wpAny_call_entry F.slot_enumerate_next ty F.entry_enumerate_next ?_ (F.args_enumerate_next_1 _))))
 obtain ⟨hp,gs,d,tk0,os⟩:=s
 show wpAny _ _ (field (.ref e) 2 >>= fun _=>_) _ _ _
 refine wpAny_bind (wpAny_field ge rfl (x:=.ref it) rfl ?_)
 refine wpAny_bind (pH g gt gx fun h1 g1 s1=>?_)
 replace s1:Heap.SameBut it hp h1:=s1
 have e1:IsEnum h1 e it j old:=(s1.2 e ne).trans ge
 show wpAny _ _ (field (.ref e) 3 >>= fun _=>_) _ _ ⟨h1,gs,d,tk0,os⟩
 refine wpAny_bind (wpAny_field e1 rfl (x:=rawInt j) rfl ?_)
 show wpAny _ _ (field (.ref e) 4 >>= fun _=>_) _ _ ⟨h1,gs,d,tk0,os⟩
 refine wpAny_bind (wpAny_field e1 rfl (x:=.none) rfl ?_)
 show wpAny _ _ (mkInt j >>= fun _=>_) _ _ ⟨h1,gs,d,tk0,os⟩
 refine wpAny_bind (wpAny_mkInt ?_)
 show wpAny _ _ (setField (.ref e) 3 (rawInt (j+1)) >>= fun _=>_) _ _ ⟨h1,gs,d,tk0+1,os⟩
 refine wpAny_bind (wpAny_setField_rec e1 (by simp) fun h2 e2 s2=>?_)
 replace s2:Heap.SameBut e h1 h2:=s2
 replace e2:IsEnum h2 e it (j+1) old:=e2
 show wpAny _ _ (setField (.ref e) 4 .none >>= fun _=>_) _ _ ⟨h2,gs,d,tk0+1,os⟩
 refine wpAny_bind (wpAny_setField_rec e2 (by simp) fun h3 e3 s3=>?_)
 replace s3:Heap.SameBut e h2 h3:=s3
 replace e3:IsEnum h3 e it (j+1) old:=e3
 show wpAny _ _ (newTuple [.int j tk0,x] >>= fun _=>_) _ _ ⟨h3,gs,d,tk0+1,os⟩
 refine wpAny_bind (wpAny_newTuple ?_)
 have e4:IsEnum (h3.push { cls:=.type "tuple",data:=.seq #[.int j tk0,x] }) e it (j+1) old:=Heap.get?_push_of_some _ e3
 generalize hh4:h3.push { cls:=.type "tuple",data:=.seq #[.int j tk0,x] }=h4 at e4
 have sz:h3.objs.size=hp.objs.size:=by rw [s3.1,s2.1,s1.1]
 have lt:e<hp.objs.size:=Heap.lt_size ge
 have t4:h4.get? hp.objs.size=some { cls:=.type "tuple",data:=.seq #[.int j tk0,x] }:=by rw [← hh4,← sz];exact Heap.get?_push_size _ rfl
 have k4:∀ b o,b≠e→b≠it→hp.get? b=some o→h4.get? b=some o:=fun b o n1 n2 hb=>by
  rw [← hh4];exact Heap.get?_push_of_some _ (s3.extBut b o n1 (s2.extBut b o n1 (s1.extBut b o n2 hb)))
 have g4:h4.IsTupleIter it t (i+1):=g1.at fun o y=>by
  rw [← hh4];exact Heap.get?_push_of_some _ (s3.extBut it o (Ne.symm ne) (s2.extBut it o (Ne.symm ne) y))
 show wpAny _ _ (Builtin.SmallTypes.ownedTupleIsFree (.ref e) >>= fun _=>_) _ _ ⟨h4,gs,d,tk0+1,os⟩
 rw [sz]
 clear hh4 e3 s3 e2 s2 e1 s1 g1 sz h3 h2 h1
 refine wpAny_bind ?_
 unfold Builtin.SmallTypes.ownedTupleIsFree
 refine wpAny_bind (wpAny_field e4 rfl (x:=.none) rfl (wpAny_pure ?_))
 simp only [if_true]
 refine wpAny_bind (wpAny_rule (wpAny_bind (wpAny_field e4 rfl (x:=old) rfl ?_)))
 refine wpAny_bind (wpAny_setField_rec e4 (by simp) fun h5 e5 s5=>?_)
 replace s5:Heap.SameBut e h4 h5:=s5
 replace e5:IsEnum h5 e it (j+1) x:=e5
 show wpAny _ _ (Builtin.SmallTypes.ownedTupleHandOut (.ref e) (.ref hp.objs.size) >>= fun _=>_) _ _ ⟨h5,gs,d,tk0+1,os⟩
 refine wpAny_bind ?_
 unfold Builtin.SmallTypes.ownedTupleHandOut
 refine wpAny_bind (wpAny_setField_rec e5 (by simp) fun h6 e6 s6=>?_)
 replace s6:Heap.SameBut e h5 h6:=s6
 replace e6:IsEnumOut h6 e it (j+1) x hp.objs.size:=e6
 refine wpAny_setField_rec e6 (by simp) fun h7 e7 s7=>?_
 replace s7:Heap.SameBut e h6 h7:=s7
 replace e7:IsEnumOut h7 e it (j+1) x hp.objs.size:=e7
 have up:∀ b o,b≠e→h4.get? b=some o→h7.get? b=some o:=fun b o n1 y=>s7.extBut b o n1 (s6.extBut b o n1 (s5.extBut b o n1 y))
 refine wpAny_bind (wpAny_letGo (wpAny_pure ⟨_,rfl,wpAny_pure ?_⟩))
 exact q h7 tk0 e7 (g4.at fun o y=>up it o (Ne.symm ne) y) (up _ _ (Nat.ne_of_gt lt) t4) fun b o n1 n2 y=>up b o n1 (k4 b o n1 n2 y)
theorem iC (hh:A.handled=none) (g:s.heap.IsTupleIter it t i) (gt:s.heap.IsTuple t xs) (gx:xs[i]? = none)
 (q:∀ h1 x,Heap.ExtBut it s.heap h1→(∃ o,h1.get? x=some o∧o.cls = .type "StopIteration")→E (.ref x) { s with heap:=h1 }):wpAny (model prog w) A (Builtin.SmallTypes.nextOf (.ref it)) Q E s:=by
 obtain ⟨o,eo,co,dd⟩:=id g
 obtain ⟨ot,et,_,nt,dt⟩:=gt
 unfold Builtin.SmallTypes.nextOf
 refine wpAny_bind (wpAny_callSpecial?_slot (name:=Str.ofString "__next__") g.typeIs F.slot_tuple_iterator_next (wpAny_call_entry F.slot_tuple_iterator_next g.typeIs F.entry_tuple_iterator_next ?_ (F.args_tuple_iterator_next_1 _)))
 show wpAny _ _ (field (.ref it) 0 >>= fun _=>_) _ _ s
 refine wpAny_bind (wpAny_field eo dd (x:=.ref t) rfl ?_)
 show wpAny _ _ (if (Value.ref t == Value.none)=true then _ else _) _ _ s
 have nn:¬ ((Value.ref t == Value.none)=true):=Bool.false_ne_true
 rw [if_neg nn]
 show wpAny _ _ (field (.ref it) 1 >>= fun _=>_) _ _ s
 refine wpAny_bind (wpAny_field eo dd (x:=.int i 0) rfl ?_)
 show wpAny _ _ (seqItems? (.ref t) >>= fun _=>_) _ _ s
 refine wpAny_bind (wpAny_seqItems et dt ?_)
 simp only [Int.toNat_natCast,gx]
 refine wpAny_bind (wpAny_rule (wpAny_bind (wpAny_setField eo dd (by simp) ?_)))
 show wpAny _ _ (newExc (.type "StopIteration") [] >>= fun _=>_) _ _ _
 refine wpAny_bind ?_
 simp only [newExc,newTuple]
 refine wpAny_bind (wpAny_newObj_type ?_ (by size_fits))
 refine wpAny_bind (m:=firstArgMember _ _) (wpAny_of_eq (a:=Value.none) (by first | rfl | (simp only [firstArgMember];rfl)) (wpAny_newObj_type ?_ (by size_fits)))
 simp only [raiseNew]
 refine wpAny_bind (wpAny_handled ?_)
 first | rw [show A.in1.handled=none from hh] | rw [hh]
 exact wpAny_bind (wpAny_pure (wpAny_throw (q _ _ (((Heap.SameBut.update ..).extBut.push _).push _) ⟨_,Heap.get?_push_size _ rfl,rfl⟩)))
theorem oy (hh:A.handled=none) (ge:IsEnum s.heap e it j old) (g:s.heap.IsTupleIter it t i) (gt:s.heap.IsTuple t xs) (gx:xs[i]? = none)
 (q:∀ h1,Heap.ExtBut it s.heap h1→Q none { s with heap:=h1 }):wpAny (model prog w) A (pyNext (.ref e)) Q E s:=by
 have ty:s.TypeIs (.ref e) "enumerate":=⟨_,ge,rfl⟩
 unfold pyNext
 refine wpAny_bind (wpAny_attempt (wpAny_callSpecial?_slot (name:=Str.ofString "__next__") ty F.slot_enumerate_next (wpAny_call_entry F.slot_enumerate_next ty F.entry_enumerate_next ?_ (F.args_enumerate_next_1 _))))
 show wpAny _ _ (field (.ref e) 2 >>= fun _=>_) _ _ _
 refine wpAny_bind (wpAny_field ge rfl (x:=.ref it) rfl ?_)
 refine wpAny_bind (iC hh g gt gx fun h1 x k1 k2=>?_)
 obtain ⟨o,ho,hc⟩:=k2
 exact wpAny_bind (wpAny_isInstance (T:="StopIteration") (b:=true) ⟨o,ho,hc⟩ isSubtype_stop (wpAny_pure (q _ k1)))
end
section
variable {prog:Program} {w:World} {A:Around} {E:Value→Shared→Prop} {s:Shared}
theorem mD {rest:List Expr} {kws:List Keyword} {Q:Value→Shared→Prop}
 (h:wpAny M A (spliced (backTo pos (starEach (e :: rest) env))) (fun vs s1=>wpAny M A (evalAll ((backToKw pos (keywordEach kws env)).map (·.2))) (fun ks s2=>wpAny M A (call (.type T) vs (((backToKw pos (keywordEach kws env)).filterMap (·.1)).zip ks)) Q E s2) E s1) E s)
 (he:starEach (e :: rest) env=(false,eval e env) :: starEach rest env) (h1:(backTo pos (starEach (e :: rest) env)).any (·.1)=false) (h2:(backToKw pos (keywordEach kws env)).all (·.1.isSome)=true) (h3:(backToKw pos (keywordEach kws env)).any (·.1.isNone)=false) :
 wpAny M A (callWith pos (.type T) [] (backTo pos (starEach (e :: rest) env)) (backToKw pos (keywordEach kws env))) Q E s:=by
 have k:wpAny M A (evalArgs (.type T) true (backTo pos (starEach (e :: rest) env)) (backToKw pos (keywordEach kws env))) (fun a s1=>wpAny M A (call (.type T) ([] ++ a.pos) a.kw) Q E s1) E s:=by
  rw [he] at h ⊢
  exact evalArgs_kwB h2 h
 unfold callWith
 refine wpAny_bind (wpAny_holding (thn k fun a s1 q=>wpAny_bind (wpAny_standAt ?_)))
 simp only [h1,h3,Bool.or_false]
 exact wpAny_bind (wpAny_pure (wpAny_bind (thn q fun r s2 q2=>wpAny_bind (wpAny_holding (wpAny_point (wpAny_pure q2))))))
theorem mG (hn:Builtin.SmallTypes.fitsIndex n=true) (ht:s.heap.IsTuple t xs)
 (h:Q (.ref (s.heap.push { cls:=.type "tuple_iterator",data:=.fields #[.ref t,.int 0 0] }).objs.size)
  { s with heap:=(s.heap.push { cls:=.type "tuple_iterator",data:=.fields #[.ref t,.int 0 0] }).push { cls:=.type "enumerate",data:=.fields #[.none,.bool false,.ref s.heap.objs.size,rawInt n,.none,.none] } }) :
 wpAny (model prog w) A (call (.type "enumerate") [.ref t] [("start",.int n tk)]) Q E s:=by
 refine i7 (Q1:=fun obj s1=>obj = .ref (s.heap.push { cls:=.type "tuple_iterator",data:=.fields #[.ref t,.int 0 0] }).objs.size∧s1={ s with heap:=(s.heap.push { cls:=.type "tuple_iterator",data:=.fields #[.ref t,.int 0 0] }).push { cls:=.type "enumerate",data:=.fields #[.none,.bool false,.ref s.heap.objs.size,rawInt n,.none,.none] } })
  F.called_enumerate (by decide) (by simp) (by kernel_rfl) (by kernel_rfl) F.entry_enumerate_new (oz t n tk hn xs) ⟨ht,rfl,rfl⟩ fun obj s1 q=>?_
 obtain ⟨e,e'⟩:=q
 subst e e'
 exact ⟨⟨_,Heap.get?_push_size _ rfl,rfl⟩,by first | (simp [argsOk];done) | (unfold argsOk;kernel_rfl) | (unfold argsOk;decide +kernel) | kernel_rfl,h⟩
end
end L2.Bw
namespace L2.Ev
open L2.Bw
theorem mO {es:List Expr} {k:Nat} {tp:Pos} {a e it:Addr} {lo:Int} {l:List D} {vs:List Value} (ne:e≠it) (ae:a≠e) (ai:a≠it) (r:RDs W ρ G l vs):Itr W (.Tuple es k tp) e [e,it,a] [e,it] (bu lo l) ρ G (fun i h=>(∃ old,IsEnum h e it (lo+i) old)∧h.IsTupleIter it a i∧h.IsTuple a vs.toArray) where
 sub:=by simp
 keep:=fun i h h' ⟨⟨old,h1⟩,h2,⟨o,h3,h4⟩⟩ kp=>⟨⟨old,kp e (by simp) _ h1⟩,h2.at fun o q=>kp it (by simp) o q,⟨o,kp a (by simp) _ h3,h4⟩⟩
 ex:=fun i h ⟨⟨old,h1⟩,⟨o2,e2,_⟩,_⟩ b hb=>by
  rcases List.mem_cons.mp hb with w | w
  ·rw [w];exact ⟨_,h1⟩
  ·rw [List.mem_singleton.mp w];exact ⟨o2,e2⟩
 item:=fun {A i d s} hh hd ⟨⟨old,h1⟩,h2,h3⟩=>by
  rw [hX,Option.map_eq_some_iff] at hd
  obtain ⟨d',hd,rfl⟩:=hd
  obtain ⟨u,hu,_⟩:=r.get hd
  refine mH h1 h2 h3 (x:=u) (by simpa using hu) ne fun h' tk ho hi ht kp=>⟨_,rfl,?_⟩
  refine wpAny_letOwnedTupleGo_enum ho fun h'' he' hs'=>?_
  replace hs':Heap.SameBut e h' h'':=hs'
  replace he':IsEnum h'' e it (lo+i+1) u:=he'
  have zT:=(hs'.2 s.heap.objs.size (Nat.ne_of_gt (Heap.lt_size h1))).trans ht
  have kp':∀ b o,b ∉ [e,it]→s.heap.get? b=some o→h''.get? b=some o:=fun b o hb q=>(hs'.2 b (fun z=>hb (z ▸ List.mem_cons_self))).trans (kp b o (fun z=>hb (z ▸ List.mem_cons_self)) (fun z=>hb (z ▸ List.mem_cons_of_mem _ List.mem_cons_self)) q)
  refine ⟨⟨⟨u,?_⟩,hi.at fun o q=>(hs'.2 it (Ne.symm ne)).trans q,?_⟩,⟨rfl,rfl⟩,kp',fun ρ' G' g1 g2 g3=>⟨s.heap.objs.size,_,[.int (lo+i) tk,u],rfl,g3 _ _ (ij (Nat.le_refl _)) zT,⟨rfl,⟨0,rfl⟩,by simp [sizeLine_eq]⟩,.cons ⟨tk,rfl⟩ (.cons ?_ rfl)⟩⟩
  ·have z:lo+((i+1:Nat):Int)=lo+(i:Int)+1:=by omega
   rw [z];exact he'
  ·obtain ⟨o,h4,h5⟩:=h3
   exact ⟨o,kp' a o (by simp [ae,ai]) h4,h5⟩
  ·obtain ⟨v',w1,w2⟩:=(r.mono g1 g2).get hd
   rw [hu] at w1;cases w1;exact w2
 done:=fun {A s} hh ⟨⟨old,h1⟩,h2,h3⟩=>by
  rw [fh] at h2
  exact oy hh h1 h2 h3 (by simp [r.len]) fun h' kp=>⟨rfl,⟨rfl,rfl⟩,fun b o hb q=>kp b o (fun z=>hb (z ▸ List.mem_cons_of_mem _ List.mem_cons_self)) q⟩
 self:=fun {A i s Q E} hh ⟨⟨old,h1⟩,_⟩ q=>wpAny_pyIter_enum h1 q
section
variable {X:Cx} {z z1:Z}
theorem pd {es:List Expr} {k:Nat} {tp kp:Pos} (hc:X.calm=true) (hx:Blt X "enumerate" (.type "enumerate")) (ha:LE X ea a) (hb:LE X eb b) (he:starEach [ea] X.env=(false,eval ea X.env) :: starEach [] X.env):LI X (.Tuple es k tp) (.Call (.Name "enumerate" p) [ea] [⟨some "start",eb,kp⟩] pos) (.it .enum2 (.cons a (.cons b .nil))):=fun z I nb=>by
 refine wpAny_Call_Name_kw (hx.ld I ?_)
 refine mD (Q:=fun v s1=>wpAny X.M X.A (pyIter v) (FI X z (.Tuple es k tp) (X.ev false (.it .enum2 (.cons a (.cons b .nil))) z.t)) NoE s1) ?_ he (by rw [he];rfl) rfl rfl
 rw [he]
 refine Calls.spliced_cons ((ha false).go .refl I (ev2 fun l s=>Out.of s ((itD .enum2 l).map D.lst)) nb fun z1 x u y1 x1 I1 r1 e1=>Calls.spliced_nil ?_)
 show wpAny _ _ (evalAll ((do let v ← eval eb X.env;standAt pos;pure v) :: [])) _ _ _
 refine wpAny_evalAll_cons (wpAny_bind ((hb false).go x1 I1 e1 nb fun z2 y v y2 x2 I2 r2 e2=>wpAny_bind (wpAny_standAt (wpAny_pure (wpAny_evalAll_nil ?_)))))
 cases x with
 | tup l=>
   cases y with
   | int n=>
     obtain ⟨ad,o,vs,rfl,g,⟨tc,⟨m,td⟩,hz⟩,r⟩:=r1.rd.st y2.st
     obtain ⟨tz,rfl⟩:=r2.rd
     have e2:X.ev false (.it .enum2 (.cons a (.cons b .nil))) z.t=Out.of z2.t ((if Builtin.SmallTypes.fitsIndex n=true then some (bu n l) else none).map D.lst):=e2
     by_cases hn:Builtin.SmallTypes.fitsIndex n=true
     ·rw [if_pos hn] at e2
      have ht:z2.s.heap.IsTuple ad vs.toArray:=⟨o,I2.gh _ _ g,tc,m,td⟩
      have hlt:=Heap.lt_size (I2.gh _ _ g)
      have hsz:(z2.s.heap.push { cls:=.type "tuple_iterator",data:=.fields #[.ref ad,.int 0 0] }).objs.size=z2.s.heap.objs.size+1:=Heap.size_push ..
      refine mG hn ht (wpAny_pyIter_enum (Heap.get?_push_size _ rfl) ?_)
      rw [hsz]
      have kk:∀ b o,z2.s.heap.get? b=some o→((z2.s.heap.push { cls:=.type "tuple_iterator",data:=.fields #[.ref ad,.int 0 0] }).push { cls:=.type "enumerate",data:=.fields #[.none,.bool false,.ref z2.s.heap.objs.size,rawInt n,.none,.none] }).get? b=some o:=fun b o e=>Heap.get?_push_of_some _ (Heap.get?_push_of_some _ e)
      have ge:IsEnum ((z2.s.heap.push { cls:=.type "tuple_iterator",data:=.fields #[.ref ad,.int 0 0] }).push { cls:=.type "enumerate",data:=.fields #[.none,.bool false,.ref z2.s.heap.objs.size,rawInt n,.none,.none] }) (z2.s.heap.objs.size+1) z2.s.heap.objs.size n .none:=by rw [← hsz];exact Heap.get?_push_size _ rfl
      have gi:((z2.s.heap.push { cls:=.type "tuple_iterator",data:=.fields #[.ref ad,.int 0 0] }).push { cls:=.type "enumerate",data:=.fields #[.none,.bool false,.ref z2.s.heap.objs.size,rawInt n,.none,.none] }).get? z2.s.heap.objs.size=some { cls:=.type "tuple_iterator",data:=.fields #[.ref ad,.int 0 0] }:=Heap.get?_push_of_some _ (Heap.get?_push_size _ rfl)
      refine fj (ds:=bu n l) x2 I2 (.hp (t:=z2.s.toks) kk) (mO (Nat.succ_ne_self _) (Nat.ne_of_lt (Nat.lt_succ_of_lt hlt)) (Nat.ne_of_lt hlt) r) ⟨⟨.none,by rw [show n+((0:Nat):Int)=n by omega];exact ge⟩,⟨_,gi,rfl,rfl⟩,⟨o,kk _ _ (I2.gh _ _ g),tc,m,td⟩⟩ (fun b hb=>?_) e2
      rcases List.mem_cons.mp hb with w | w
      ·rw [w];exact .inl ⟨ij (Nat.le_succ _),_,ge⟩
      ·rcases List.mem_cons.mp w with w | w
       ·rw [w];exact .inl ⟨aA z2,_,gi⟩
       ·rw [List.mem_singleton.mp w]
        refine .inr ⟨fun q=>?_,_,g⟩
        rcases List.mem_cons.mp q with q | q
        ·exact Nat.ne_of_lt (Nat.lt_succ_of_lt hlt) q
        ·exact Nat.ne_of_lt hlt (List.mem_singleton.mp q)
     ·rw [if_neg hn] at e2;exact absurd e2 nb
   | _=>exact absurd e2 nb
 | _=>exact absurd (e2.trans (by cases y <;> rfl)) nb
end
end L2.Ev
end
section
namespace L2.Ev
def isP (x y:Str):Option (PLift (x=y)):=match h:x == y with
 | true=>some ⟨by simpa using h⟩
 | false=>none
theorem jh:bb (.bi b es)=bb (.bi b .nil):=by cases b <;> rfl
abbrev vN (x:Str) (b:Bi):Prop:=∀ X:Cx,X.calm=true→∃ f,FB f∧bootBuiltins x=some f∧((Bi1 X f b∧bb (.bi b .nil)=false)∨qo X f b)
def xB:List {q:Str×Bi // vN q.1 q.2}:=[
 ⟨("len",.len),fun X c=>⟨_,.inl ⟨_,rfl⟩,boot_len,.inl ⟨tO,rfl⟩⟩⟩,
 ⟨("tuple",.tuple),fun X c=>⟨_,.inr ⟨_,rfl⟩,PyProof.Rows.boot_tuple,.inl ⟨nW,rfl⟩⟩⟩,
 ⟨("list",.list),fun X c=>⟨_,.inr ⟨_,rfl⟩,PyProof.Rows.boot_list,.inr qD⟩⟩,
 ⟨("dict",.dict),fun X c=>⟨_,.inr ⟨_,rfl⟩,PyProof.Rows.boot_dict,.inr qC⟩⟩,
 ⟨("sum",.sum),fun X c=>⟨_,.inl ⟨_,rfl⟩,boot_sum,.inl ⟨tQ c,rfl⟩⟩⟩,
 ⟨("abs",.abs),fun X c=>⟨_,.inl ⟨_,rfl⟩,boot_abs,.inl ⟨tM,rfl⟩⟩⟩,
 ⟨("str",.str),fun X c=>⟨_,.inr ⟨_,rfl⟩,PyProof.Rows.boot_str,.inl ⟨tP,rfl⟩⟩⟩,
 ⟨("int",.int),fun X c=>⟨_,.inr ⟨_,rfl⟩,PyProof.Rows.boot_int,.inl ⟨tN,rfl⟩⟩⟩]
abbrev vO (x:Str) (b:Bi):Prop:=bb (.bi b .nil)=false∧∀ X:Cx,X.calm=true→∃ f,FB f∧bootBuiltins x=some f∧Bi2 X f b
def xC:List {q:Str×Bi // vO q.1 q.2}:=[
 ⟨("max",.max2),rfl,fun X c=>⟨_,.inl ⟨_,rfl⟩,boot_max,qE c⟩⟩,
 ⟨("min",.min2),rfl,fun X c=>⟨_,.inl ⟨_,rfl⟩,boot_min,qF c⟩⟩]
def qB {P:Str→Bi→Prop} (x:Str):List {q:Str×Bi // P q.1 q.2}→Option {b:Bi // P x b}
 | []=>none
 | q :: r=>match isP q.1.1 x with
   | some h=>some ⟨q.1.2,by rw [← h.down];exact q.2⟩
   | none=>qB x r
abbrev vT (x:Str) (b:Bi):Prop:=(b = .isTup∨b = .isStr∨b = .isBool∨b = .isInt∨b = .isLst∨b = .isDic)∧bootBuiltins x=some (.type (tyN b))
def tys:List {q:Str×Bi // vT q.1 q.2}:=[⟨("tuple",.isTup),.inl rfl,PyProof.Rows.boot_tuple⟩,⟨("str",.isStr),.inr (.inl rfl),PyProof.Rows.boot_str⟩,⟨("bool",.isBool),.inr (.inr (.inl rfl)),PyProof.Rows.boot_bool⟩,⟨("int",.isInt),.inr (.inr (.inr (.inl rfl))),PyProof.Rows.boot_int⟩,⟨("list",.isLst),.inr (.inr (.inr (.inr (.inl rfl)))),PyProof.Rows.boot_list⟩,⟨("dict",.isDic),.inr (.inr (.inr (.inr (.inr rfl)))),PyProof.Rows.boot_dict⟩]
section
variable {T:Ns} {nm:NK} {N:List Str}
def i6 (T:Ns) (nm:NK) (x:Str):Option (PLift (x∈T.bl∧bJ nm x=true)):=do
 let m ← pB x T.bl
 let g ← yes (bJ nm x)
 some ⟨m.down,g.down⟩
theorem bQ (k:CxOk T X nm N) (h:x∈T.bl∧bJ nm x=true) (hv:bootBuiltins x=some u) (hn:x≠"__name__":=by decide) (hd:(x == ("__debug__":Str))=false:=by decide):Blt X x u:=⟨bx k.sc h.2,k.blt x h.1,hv,hn,hd⟩
def xF (f:∀ e,Option (GE T nm N e)) (x:Str) (p:Pos) (hx:x≠"__name__") (hd:(x == ("__debug__":Str))=false) (m:x∈T.bl∧bJ nm x=true):(es:List Expr)→(pos:Pos)→Option (GE T nm N (.Call (.Name x p) es [] pos))
 | [e],pos=>do
   let he ← yes (aJ e)
   let a ← f e
   let b ← qB x xB
   some ⟨.bi b.1 (.cons a.1 .nil),fun X k=>by
    obtain ⟨fv,h1,h2,h3⟩:=b.2 X k.calm
    rcases h3 with ⟨h3,h4⟩ | h3
    ·exact mk (uy h3 h1 (bQ k m h2 hx hd) (a.2 X k).1 (aj he.down)) (jh.trans h4)
    ·exact mkf (uN h3 h1 (bQ k m h2 hx hd) (a.2 X k).1 (aj he.down))⟩
 | [e,g],pos=>do
   let he ← yes (aJ e)
   let hg ← yes (aJ g)
   let a ← f e
   let c ← f g
   let b ← qB x xC
   some ⟨.bi b.1 (.cons a.1 (.cons c.1 .nil)),fun X k=>by
    obtain ⟨fv,h1,h2,h3⟩:=b.2.2 X k.calm
    exact mk (uz h3 h1 (bQ k m h2 hx hd) (a.2 X k).1 (c.2 X k).1 (aj he.down) (aj hg.down)) (jh.trans b.2.1)⟩
 | _,_=>none
def sK (f:∀ e,Option (GE T nm N e)) (x:Str) (p:Pos) (e:Expr) (er:List Expr) (pos:Pos):Option (GE T nm N (.Call (.Name x p) (e :: er) [] pos)):=do
 let hd ← no (x == ("__debug__":Str))
 let hnm ← no (x == ("__name__":Str))
 let hg ← yes (bJ nm x)
 match aR x T.fn with
 | some j=>
   let hn ← yes (er.all aJ)
   let he ← yes (aJ e)
   let a ← cG f (e :: er)
   some (if T.hc.contains x then ⟨.hcall j.1 a.1,fun X k=>by
    obtain ⟨n,fa,h1,h2,h3⟩:=k.fns j.1 x j.2
    exact mk (o6 h1 h2 (bx k.sc hg.down) h3 (a.2 X k) hd.down (aj he.down) (aZ (List.all_eq_true.mp hn.down)))⟩ else ⟨.call j.1 a.1,fun X k=>by
    obtain ⟨n,fa,h1,h2,h3⟩:=k.fns j.1 x j.2
    exact mk (rj h1 h2 (bx k.sc hg.down) h3 (a.2 X k) hd.down (aj he.down) (aZ (List.all_eq_true.mp hn.down)))⟩)
 | none=>
   let m ← pB x T.bl
   xF f x p (by simpa using hnm.down) hd.down ⟨m.down,hg.down⟩ (e :: er) pos
def cIs (f:∀ e,Option (GE T nm N e)) (y:Str) (p:Pos) (ea:Expr) (x:Str) (q pos:Pos):Option (GE T nm N (.Call (.Name y p) [ea,.Name x q] [] pos)):=do
 let hy ← isP "isinstance" y
 let g1 ← i6 T nm "isinstance"
 let g2 ← i6 T nm x
 let b ← qB (P:=vT) x tys
 let hd ← no (x == ("__debug__":Str))
 let hnm ← no (x == ("__name__":Str))
 let he ← yes (aJ ea)
 let a ← f ea
 some ⟨.bi b.1 (.cons a.1 .nil),fun X k=>by
  obtain rfl:=hy.down
  exact mk (wK b.2.1 (bQ k g1.down PyProof.Rows.boot_isinstance) (bQ k g2.down b.2.2 (by simpa using hnm.down) hd.down) (a.2 X k).1 (aj he.down)) (by rcases b.2.1 with w | w | w | w | w | w <;> rw [w] <;> rfl)⟩
def xP (f:∀ e,Option (GE T nm N e)) (x y:Str) (p1 p2:Pos) (ea:Expr) (pos2 pos:Pos):Option (GE T nm N (.Call (.Name x p1) [.Call (.Name y p2) [ea] [] pos2] [] pos)):=do
 let hx ← isP "list" x
 let hy ← isP "reversed" y
 let g1 ← i6 T nm "list"
 let g2 ← i6 T nm "reversed"
 let he ← yes (aJ ea)
 let a ← f ea
 some ⟨.bi .rev (.cons a.1 .nil),fun X k=>by
  obtain rfl:=hx.down
  obtain rfl:=hy.down
  exact mkf (uQ k.calm (bQ k g1.down PyProof.Rows.boot_list) (bQ k g2.down boot_reversed) (a.2 X k).1 (aj he.down) rfl)⟩
def lh (f:∀ e,Option (GE T nm N e)) (tg e:Expr):Option (GI T nm N tg e):=(f e).map fun a=>⟨.itv a.1,fun X k=>yh k.calm (a.2 X k).1⟩
def cR1 (f:∀ e,Option (GE T nm N e)) (tg:Expr) (x:Str) (p:Pos) (a:Expr) (pos:Pos):Option (GI T nm N tg (.Call (.Name x p) [a] [] pos)):=do
 let hx ← isP "range" x
 let g ← i6 T nm "range"
 let he ← yes (aJ a)
 let u ← f a
 some ⟨.it .range1 (.cons u.1 .nil),fun X k=>by
  obtain rfl:=hx.down
  exact mU k.calm (bQ k g.down boot_range) (u.2 X k).1 (aj he.down)⟩
def cR2 (f:∀ e,Option (GE T nm N e)) (tg:Expr) (x:Str) (p:Pos) (a b:Expr) (pos:Pos):Option (GI T nm N tg (.Call (.Name x p) [a,b] [] pos)):=do
 let hx ← isP "range" x
 let g ← i6 T nm "range"
 let he ← yes (aJ a)
 let hb ← yes (aJ b)
 let u ← f a
 let v ← f b
 some ⟨.it .range2 (.cons u.1 (.cons v.1 .nil)),fun X k=>by
  obtain rfl:=hx.down
  exact mV k.calm (bQ k g.down boot_range) (u.2 X k).1 (v.2 X k).1 (aj he.down) (aj hb.down)⟩
def cE1 (f:∀ e,Option (GE T nm N e)) (ts:List Expr) (n:Nat) (tp:Pos) (x:Str) (p:Pos) (a:Expr) (pos:Pos):Option (GI T nm N (.Tuple ts n tp) (.Call (.Name x p) [a] [] pos)):=do
 let hx ← isP "enumerate" x
 let g ← i6 T nm "enumerate"
 let he ← yes (aJ a)
 let u ← f a
 some ⟨.it .enum (.cons u.1 .nil),fun X k=>by
  obtain rfl:=hx.down
  exact rF k.calm (bQ k g.down boot_enumerate) (u.2 X k).1 (aj he.down)⟩
def cE2 (f:∀ e,Option (GE T nm N e)) (ts:List Expr) (n:Nat) (tp:Pos) (x y:Str) (p:Pos) (a b:Expr) (kp pos:Pos):Option (GI T nm N (.Tuple ts n tp) (.Call (.Name x p) [a] [⟨some y,b,kp⟩] pos)):=do
 let hx ← isP "enumerate" x
 let hy ← isP "start" y
 let g ← i6 T nm "enumerate"
 let he ← yes (aJ a)
 let u ← f a
 let w ← f b
 some ⟨.it .enum2 (.cons u.1 (.cons w.1 .nil)),fun X k=>by
  obtain rfl:=hx.down
  obtain rfl:=hy.down
  exact pd k.calm (bQ k g.down boot_enumerate) (u.2 X k).1 (w.2 X k).1 (aj he.down)⟩
def sO (f:∀ e,Option (GE T nm N e)):(tg e:Expr)→Option (GI T nm N tg e)
 | .Tuple ts n tp,.Call (.Name x p) [a] [] pos=>(cE1 f ts n tp x p a pos).orElse fun _=>lh f _ _
 | .Tuple ts n tp,.Call (.Name x p) [a] [⟨some y,b,kp⟩] pos=>cE2 f ts n tp x y p a b kp pos
 | tg,.Call (.Name x p) [a] [] pos=>(cR1 f tg x p a pos).orElse fun _=>lh f _ _
 | tg,.Call (.Name x p) [a,b] [] pos=>(cR2 f tg x p a b pos).orElse fun _=>lh f _ _
 | tg,e=>lh f tg e
theorem aY (h:aT e=true):attributeBase e x env m=m:=by
 unfold attributeBase
 split
 ·have h':(_ != ("super":Str))=true:=h
  rw [if_pos (by rw [h'];rfl)]
 ·rfl
theorem p0 (h:∀ e∈es,aJ e=true):((backTo pos (starEach es env)).all fun x=>!x.1)=true:=by
 have:=aZ (env:=env) (pos:=pos) h
 rw [List.all_eq_not_any_not]
 simpa using this
theorem pC (h1:aT o=true) (h2:∀ x∈es,aJ x=true) (h3:es.length<30) (h4:(apos.endLine == pos.line)=true):eval (.Call (.Attribute o m apos) es [] pos) env=(do
 let ov ← eval o env
 standAt apos.atName
 let (f,first) ← holding [ov] (getMethod ov m (do return (← importBound o env).getD true))
 callWith pos f first (backTo pos (starEach es env)) (backToKw pos (keywordEach [] env))):=by
 have e0:eval (.Call (.Attribute o m apos) es [] pos) env=(do
  let ov ← attributeBase o m env (eval o env)
  standAt apos.atName
  methodCall o m apos pos env ov (es.length+([]:List Keyword).length) (backTo pos (starEach es env)) (backToKw pos (keywordEach [] env))):=rfl
 rw [e0,aY h1]
 have few:methodCallForm (es.length+([]:List Keyword).length) (backTo pos (starEach es env)) (backToKw pos (keywordEach [] env))=true:=by
  unfold methodCallForm
  rw [p0 h2]
  simp only [Bool.true_and]
  show (true && decide (_<30))=true
  simp only [Bool.true_and]
  apply decide_eq_true
  exact h3
 congr 1
 funext ov
 congr 1
 funext _
 unfold methodCall
 simp only [few]
 have e1:methodCallPos true o env apos pos=pure pos:=by unfold methodCallPos;rw [h4];rfl
 simp only [e1]
 rfl
def vb (m:Str):(l:List (Str×Nat×Nat))→Option {q:Nat×Nat // (m,q.1,q.2)∈l}
 | []=>none
 | (y,c,j) :: r=>match isP y m with
   | some h=>some ⟨(c,j),by obtain rfl:=h.down;exact List.mem_cons_self⟩
   | none=>(vb m r).map fun i=>⟨i.1,List.mem_cons_of_mem _ i.2⟩
def xN (f:∀ e,Option (GE T nm N e)) (o:Expr) (m:Str) (ap:Pos):(args:List Expr)→(pos:Pos)→Option (GE T nm N (.Call (.Attribute o m ap) args [] pos))
 | [],pos=>do
   let q ← vb m T.me
   let hs ← yes (aT o)
   let hp ← yes (ap.endLine == pos.line)
   let a ← f o
   some ⟨.mth q.1.1 q.1.2 a.1 .nil,fun X k=>by
    obtain ⟨n,fa,h1,h2,h3⟩:=k.mts _ q.2
    exact mk (rx h1 h2 h3 (a.2 X k).1 (pC hs.down (fun x hx=>nomatch hx) (by decide) hp.down))⟩
 | e :: er,pos=>do
   let q ← vb m T.me
   let hs ← yes (aT o)
   let hp ← yes (ap.endLine == pos.line)
   let hn ← yes ((e :: er).all aJ)
   let hl ← yes (decide ((e :: er).length<30))
   let a ← f o
   let b ← cG f (e :: er)
   some ⟨.mth q.1.1 q.1.2 a.1 b.1,fun X k=>by
    obtain ⟨n,fa,h1,h2,h3⟩:=k.mts _ q.2
    have hn':=List.all_eq_true.mp hn.down
    exact mk (uF h1 h2 h3 (a.2 X k).1 (b.2 X k) (aj (hn' e List.mem_cons_self)) (aZ fun x hx=>hn' x (List.mem_cons_of_mem _ hx)) (pC hs.down hn' (by simpa using hl.down) hp.down))⟩
def xK (f:∀ e,Option (GE T nm N e)) (o:Expr) (m:Str) (ap:Pos):(args:List Expr)→(pos:Pos)→Option (GE T nm N (.Call (.Attribute o m ap) args [] pos))
 | [e],pos=>do
   let hm ← isP "get" m
   let hs ← yes (aT o)
   let hp ← yes (ap.endLine == pos.line)
   let hn ← yes (aJ e)
   let a ← f o
   let b ← f e
   some ⟨.get a.1 b.1 (.c .non),fun X k=>by
    obtain rfl:=hm.down
    exact mk (rm (a.2 X k).1 (b.2 X k).1 ⟨aY hs.down,by rw [aj hn.down];rfl,hp.down,by rw [aj hn.down];rfl⟩)⟩
 | [e,g],pos=>do
   let hm ← isP "get" m
   let hs ← yes (aT o)
   let hp ← yes (ap.endLine == pos.line)
   let hn ← yes (aJ e)
   let hg ← yes (aJ g)
   let a ← f o
   let b ← f e
   let c ← f g
   some ⟨.get a.1 b.1 c.1,fun X k=>by
    obtain rfl:=hm.down
    exact mk (ro (a.2 X k).1 (b.2 X k).1 (c.2 X k).1 ⟨aY hs.down,by rw [aj hn.down,aj hg.down];rfl,hp.down,by rw [aj hn.down,aj hg.down];rfl⟩)⟩
 | _,_=>none
def wk (f:∀ e,Option (GE T nm N e)) (m:Str) (ap:Pos):(o:Expr)→(args:List Expr)→(pos:Pos)→Option (GE T nm N (.Call (.Attribute o m ap) args [] pos))
 | .Name x p,[e,g],pos=>do
   let hm ← isP "get" m
   let hd ← no (x == ("__debug__":Str))
   let hg ← yes (bJ nm x)
   let j ← aR x T.tb
   let hs ← yes (aT (.Name x p))
   let hp ← yes (ap.endLine == pos.line)
   let hn ← yes (aJ e)
   let hg2 ← yes (aJ g)
   let b ← f e
   let c ← f g
   some ⟨.tget j.1 b.1 c.1,fun X k=>by
    obtain rfl:=hm.down
    obtain ⟨t,ad,h1,h2,h3⟩:=k.tbs j.1 x j.2
    exact mk (rz (bx k.sc hg.down) h2 h1 h3 hd.down (b.2 X k).1 (c.2 X k).1 ⟨aY hs.down,by rw [aj hn.down,aj hg2.down];rfl,hp.down,by rw [aj hn.down,aj hg2.down];rfl⟩)⟩
 | _,_,_=>none
def tW (f:∀ e,Option (GE T nm N e)) (x:Str) (j:Nat) (p:Pos) (m:Str) (ap:Pos):(args:List Expr)→(pos:Pos)→Option (GE T nm N (.Call (.Attribute (.Constant (.str x) j p) m ap) args [] pos))
 | [e],pos=>do
   let hm ← isP "join" m
   let hp ← yes (ap.endLine == pos.line)
   let hn ← yes (aJ e)
   let a ← f e
   some ⟨.join x a.1,fun X k=>by
    obtain rfl:=hm.down
    exact mk (rq (a.2 X k).1 ⟨aY rfl,by rw [aj hn.down];rfl,hp.down,by rw [aj hn.down];rfl⟩)⟩
 | _,_=>none
def xJ (f:∀ e,Option (GE T nm N e)) (x:Str) (j1:Nat) (p1:Pos) (e:Expr) (p2:Pos) (y:Str) (j2:Nat) (p3 pos:Pos):Option (GE T nm N (.JoinedStr [.Constant (.str x) j1 p1,.FormattedValue e (-1) none p2,.Constant (.str y) j2 p3] pos)):=do
 let hx ← yes (decide (x.length≤1000))
 let hy ← yes (decide (y.length≤1000))
 let a ← f e
 some ⟨.fmt x a.1 y,fun X k=>mk (uC (by simpa using hx.down) (by simpa using hy.down) (a.2 X k).1)⟩
def xR (f:∀ e,Option (GE T nm N e)) (a:Expr) (lo:Option Expr) (st:Expr) (p2 pos:Pos):Option (GE T nm N (.Subscript a (.Slice lo none (some st) p2) pos)):=do
 let x ← f a
 let l ← tU f lo
 let h ← f st
 let hn ← no (bc h.1)
 some ⟨.sl3 x.1 l.1 h.1,fun X k=>mk (uJ (x.2 X k).1 (l.2 X k) (lQ hn.down (h.2 X k).1))⟩
def wb (f:∀ e,Option (GE T nm N e)) (x:Str) (p:Pos):(args:List Expr)→(pos:Pos)→Option (GE T nm N (.Call (.Name x p) args [] pos))
 | [],pos=>none
 | e :: er,pos=>do
   let j ← aR x T.nw
   let hz ← no (x == ("":Str))
   let hd ← no (x == ("__debug__":Str))
   let hg ← yes (bJ nm x)
   let hn ← yes ((e :: er).all aJ)
   let a ← cG f (e :: er)
   some ⟨.new j.1 a.1,fun X k=>by
    obtain ⟨n,fa,i,cl,h1,h4,h5,h6,h7,h8,h9,h10⟩:=k.nws j.1 x j.2 (by simpa using hz.down)
    have hn':=List.all_eq_true.mp hn.down
    exact mk (uH h1 h4 h5 h6 h7 h8 h9 (bx k.sc hg.down) h10 (a.2 X k) hd.down (aj (hn' e List.mem_cons_self)) (aZ fun y hy=>hn' y (List.mem_cons_of_mem _ hy)))⟩
def wd (f:∀ e,Option (GE T nm N e)) (x:Str) (p:Pos):(args:List Expr)→(pos:Pos)→Option (GE T nm N (.Call (.Name x p) args [] pos))
 | [],pos=>none
 | e :: er,pos=>do
   let j ← aR x T.nd
   let hz ← no (x == ("":Str))
   let hd ← no (x == ("__debug__":Str))
   let hg ← yes (bJ nm x)
   let hn ← yes ((e :: er).all aJ)
   let a ← cG f (e :: er)
   some ⟨.newd j.1 a.1,fun X k=>by
    obtain ⟨n,fa,fd,ps,i,cl,h1,h2,h3,h4,h5,h6,h7,h8,h9,h10,h11⟩:=k.nds j.1 x j.2 (by simpa using hz.down)
    have hn':=List.all_eq_true.mp hn.down
    exact mk (ry h1 h2 h3 h4 h5 h6 h7 h8 h9 h10 (bx k.sc hg.down) h11 (a.2 X k) hd.down (aj (hn' e List.mem_cons_self)) (aZ fun y hy=>hn' y (List.mem_cons_of_mem _ hy)))⟩
def vZ (f:∀ e,Option (GE T nm N e)):(e:Expr)→Option (GE T nm N e)
 | .List er pos=>(cG f er).map fun a=>⟨.newl a.1,fun X k=>mk (iu (a.2 X k))⟩
 | e=>f e
def tS (f:∀ e,Option (GE T nm N e)) (x:Str) (p:Pos) (e:Expr) (er:List Expr) (pos:Pos):Option (GE T nm N (.Call (.Name x p) (e :: er) [] pos)):=
 match pB x T.mu with
 | some _=>sK (vZ f) x p e er pos
 | none=>sK f x p e er pos
end
section
variable {X:Cx} {z:Z} {pos:Pos}
def LP (X:Cx) (pos:Pos) (ay:List (Option Expr)) (vals:List Expr) (ks:List Str) (es:E):Prop:=
 Jg X (evalPairs (pairTrees ay vals X.env pos)) (X.evs false es) fun z ds us=>∃ vs,Carries (aI X.W.P X.W.w) us ((ks.map Sum.inr:List Key).zip vs)∧RDs X.W z.ρ z.G ds vs
theorem uS:LP X pos [] [] [] .nil:=fun z I nb=>pairTrees_nil_walk ⟨z,[],rfl,rfl,.refl,I,[],True.intro,rfl⟩
theorem rI (ha:LE X e a) (hr:LP X pos ay vals ks es):LP X pos (some (.Constant (.str x) j p) :: ay) (e :: vals) (x :: ks) (.cons a es):=fun z I nb=>
 pairTrees_cons_walk (Calls.Constant_str (by
  have g:=ak (s':={ z.s with toks:=z.s.toks+1 }) I.gh .tok
  exact (ha false).go (z:=z) (z1:={ z with s:={ z.s with toks:=z.s.toks+1 } }) g.ee (I.grow g) rfl nb fun z1 d u y1 x1 I1 r1 e1=>hr.go x1 I1 e1 nb fun z2 l us y2 x2 I2 r2 e2=>by
   obtain ⟨vs,c,r⟩:=r2
   exact ⟨z2,d :: l,rfl,e2,x2,I2,u :: vs,⟨ez _ _ _ _,rfl,c⟩,.cons (r1.rd.st y2.st) r⟩))
theorem rD (h:LP X pos ay vals ks es) (hall:ay.all (·.isSome)=true) (hl:ay.length=vals.length) (h0:ay≠[]) (h15:ay.length≤15):LF X (.Dict ay vals pos) (.dicc ks es):=fun z I nb=>by
 have g:=ak (s':={ z.s with heap:=z.s.heap.push { cls:=.type "dict",data:=.dict #[] } }) I.gh (.push (t:=z.s.toks))
 have I1:=I.grow g
 have f:=I.fre (aA z)
 have nob1:Nob X z { z with s:={ z.s with heap:=z.s.heap.push { cls:=.type "dict",data:=.dict #[] } } } z.s.heap.objs.size:=⟨aA z,f.1,f.2⟩
 have d0:=Heap.DictOf.new (knd:=aI X.W.P X.W.w) z.s.heap
 refine wpAny_Dict_walk (knd:=aI X.W.P X.W.w) hall hl h0 h15 (h.go (z:=z) (z1:={ z with s:={ z.s with heap:=z.s.heap.push { cls:=.type "dict",data:=.dict #[] } } }) (f:=fun l s=>.of s (lr ks l)) g.ee I1 rfl nb fun z2 l us y2 x2 I2 r2 e2=>?_)
 obtain ⟨vs,c,r⟩:=r2
 unfold lr at e2
 by_cases q:ks.length=l.length∧ks.Nodup∧ks.length≤15∧ks≠[]
 ·rw [if_pos q] at e2
  obtain ⟨o,es,ep,h1,h2,h3,h4,h5,h6⟩:=d0
  obtain ⟨n2,hp2⟩:=nob1.go y2.go h1
  have lv:(ks.map Sum.inr:List Key).length=vs.length:=by rw [List.length_map,q.1];exact r.len
  have km:((ks.map Sum.inr:List Key).zip vs).map (·.1)=ks.map Sum.inr:=by rw [List.map_fst_zip];exact Nat.le_of_eq lv
  have nd:(((ks.map Sum.inr:List Key).zip vs).map (·.1)).Nodup:=by rw [km];exact List.Pairwise.map _ (fun a b h w=>h (Sum.inr.inj w)) q.2.1
  refine ⟨_,c,⟨o,es,ep,hp2,h2,h3,h4,h5,h6⟩,fun h' hd sb=>?_⟩
  rw [merged_nil_of_nodup _ nd] at hd
  obtain ⟨o',es',ep',h1',h2',h3',h4',h5',h6'⟩:=hd
  obtain ⟨I3,S3,g3,n3⟩:=Rep.turn (s':={ z2.s with heap:=h',toks:=z2.s.toks+us.length }) (wr:=[z.s.heap.objs.size]) x2.st I2 (fun b m=>by cases List.mem_singleton.mp m;exact ⟨n2,o,hp2⟩) (fun b o m e=>(sb.2 b fun w=>m (w ▸ List.mem_singleton.mpr rfl)).trans e) ⟨rfl,rfl⟩
  obtain ⟨m0,m1,m2⟩:=n3 _ (List.mem_singleton.mpr rfl)
  exact ⟨z2.up _,.dic (ks.map .inr) l,rfl,e2,⟨S3,x2.sg,x2.en,x2.ow⟩,I3,z.s.heap.objs.size,.dic (ks.map .inr) l,rfl,m0,rfl,⟨o',vs,rfl,beq_eq_false_iff_ne.mpr (Nat.ne_of_gt I.sysm),h1',⟨es',ep',h2',h3',h4',h5',h6',by rw [List.length_zip,← lv,Nat.min_self,List.length_map];exact Nat.le_trans q.2.2.1 (by decide)⟩,by rw [List.length_map];exact q.1,r.mono (List.prefix_refl _) g3⟩,m1,m2⟩
 ·rw [if_neg q] at e2;exact absurd e2 nb
end
section
variable {T:Ns} {nm:NK} {N:List Str}
def nY (f:∀ e,Option (GE T nm N e)) (pos:Pos):(ay:List (Option Expr))→(vals:List Expr)→Option {q:List Str×E // ay.all (·.isSome)=true∧ay.length=vals.length∧∀ X,CxOk T X nm N→LP X pos ay vals q.1 q.2}
 | [],[]=>some ⟨([],.nil),rfl,rfl,fun X k=>uS⟩
 | some (.Constant (.str x) j p) :: ks,e :: vs=>do
   let a ← f e
   let q ← nY f pos ks vs
   some ⟨(x :: q.1.1,.cons a.1 q.1.2),by simpa using q.2.1,by simp [q.2.2.1],fun X k=>rI (a.2 X k).1 (q.2.2.2 X k)⟩
 | _,_=>none
def v7 (f:∀ e,Option (GE T nm N e)) (ay:List (Option Expr)) (vals:List Expr) (pos:Pos):Option (GE T nm N (.Dict ay vals pos)):=do
 let q ← nY f pos ay vals
 let h15 ← yes (decide (ay.length≤15))
 let h0 ← no ay.isEmpty
 some ⟨.dicc q.1.1 q.1.2,fun X k=>mkf (rD (q.2.2.2 X k) q.2.1 q.2.2.1 (by simpa using h0.down) (by simpa using h15.down))⟩
end
def fG (fn:Bool) (nm:NK) (x:Str):Bool:=nm.lookup x == some .local || (fn && nm.lookup x == some .cell)
structure TgH (nm:NK) (N:List Str) (X:Cx):Prop where
 calm:X.calm=true
 hN:X.N=N
 nd:N.Nodup
 sc:X.env.scope.names=nm
theorem fT {fn:Bool} (h:TgH nm N X) (hl:fG fn nm x=true):Loc X.env.scope x:=by
 have l1:nm.lookup x=some .local∨(fn=true∧nm.lookup x=some .cell):=by
  unfold fG at hl
  simpa using hl
 show X.env.scope.names.lookup x=_∨X.env.scope.names.lookup x=_
 rw [h.sc]
 exact l1.imp id And.right
def Pl (nm:NK) (N:List Str) (t:List Nat):Prop:=∀ i∈t,∀ x,N[i]? = some x→nm.lookup x=some .local
theorem pQ {nm:NK} {N:List Str} {i:Nat} {x:Str} (hi:N[i]? = some x) (hl:fG false nm x=true):∀ y,N[i]? = some y→nm.lookup y=some .local:=fun y e=>by
 rw [hi] at e;cases e
 unfold fG at hl
 simpa using hl
structure vS (fn:Bool) (nm:NK) (N:List Str) (es:List Expr) (t:List Nat):Prop where
 len:∀ env,(assignEach es env).length=t.length
 fst:∀ env,(assignEach es env).findIdx? (·.1)=none
 as_:∀ X,TgH nm N X→As X ((assignEach es X.env).map (·.2)) t
 pl:fn=false→Pl nm N t
def vI (fn:Bool) (nm:NK) (N:List Str):(es:List Expr)→Option {t:List Nat // vS fn nm N es t}
 | []=>some ⟨[],fun _=>rfl,fun _=>rfl,fun X h=>trivial,fun _ i m=>nomatch m⟩
 | .Name x p :: r=>do
   let i ← aR x N
   let hl ← yes (fG fn nm x)
   let t ← vI fn nm N r
   some ⟨i.1 :: t.1,fun env=>congrArg (· + 1) (t.2.len env),fun env=>by
    show List.findIdx? _ ((false,assign (.Name x p) env) :: assignEach r env)=none
    rw [List.findIdx?_cons,t.2.fst env];rfl,fun X h=>⟨⟨x,by rw [h.hN];exact i.2,fT h hl.down,fun q=>wpAny_assign_Name q⟩,t.2.as_ X h⟩,fun hf j m y e=>by
    rcases List.mem_cons.mp m with w | w
    ·rw [w] at e;exact pQ i.2 (hf ▸ hl.down) y e
    ·exact t.2.pl hf j w y e⟩
 | _=>none
def tgP (fn:Bool) (nm:NK) (N:List Str):(tg:Expr)→Option {q:List Nat×Bool // (∀ X,TgH nm N X→LG X tg q.1 q.2)∧(fn=false→Pl nm N q.1)}
 | .Name x p=>do
   let i ← aR x N
   let hl ← yes (fG fn nm x)
   some ⟨([i.1],true),fun X h=>rE (by rw [h.hN];exact h.nd) (by rw [h.hN];exact i.2) (fT h hl.down),fun hf j m y e=>by rw [List.mem_singleton.mp m] at e;exact pQ i.2 (hf ▸ hl.down) y e⟩
 | .Tuple es k p=>do
   let t ← vI fn nm N es
   some ⟨(t.1,false),fun X h=>pc h.calm (by rw [h.hN];exact h.nd) (t.2.as_ X h) (t.2.len _) (t.2.fst _),t.2.pl⟩
 | _=>none
def dO:Expr→List Str
 | .Name x _=>[x]
 | .Tuple es _ _=>es.filterMap fun e=>match e with | .Name x _=>some x | _=>none
 | _=>[]
def eB (nm:NK) (sc:Scope):NK:=sc.names.map fun y=>if (y.2 == .free && nm.lookup y.1 == some .cell)=true then (y.1,.cell) else (y.1,y.2)
def vh (nm:NK) (p:Str×Str):Bool:=match nm.lookup p.1 with
 | some .local=>false
 | some .cell=>p.1 == p.2
 | some .free=>p.1 == p.2
 | _=>true
def ndB:List Str→Bool
 | []=>true
 | x :: r=>!r.contains x && ndB r
theorem tj:∀ {l},ndB l=true→l.Nodup
 | [],_=>List.nodup_nil
 | x :: r,h=>by
   have h':r.contains x=false∧ndB r=true:=by simpa [ndB] using h
   refine List.nodup_cons.mpr ⟨fun m=>?_,tj h'.2⟩
   have:r.contains x=true:=by simpa using m
   rw [h'.1] at this
   cases this
def jj (own:List Str) (N:List Str):List Str:=own ++ N.map fun y=>if own.contains y then ⟨y.cps.push (1200000+N.length)⟩ else y
def lcB (nm:NK) (N N':List Str) (sc:Scope) (k:Nat):Bool:=
 (sc.names.all fun y=>y.2 != .cell) && sc.kind == .function && (sc.names.all fun y=>y.2 != .local || sc.names.lookup y.1 == some .local) &&
 (sc.names.all fun y=>y.2 != .free || (nm.lookup y.1 == some .cell || nm.lookup y.1 == some .free)) && N'.length == k+N.length && ((N'.drop k).zip N).all (vh (eB nm sc)) && ndB N'
section
variable {T:Ns} {nm:NK} {N N':List Str} {X:Cx} {sc:Scope}
theorem dL (k:CxOk T X nm N):(relabel sc X.env).names=eB nm sc:=by
 unfold relabel eB
 dsimp only
 congr 1
 funext y
 rw [k.kd,show X.env.kindOf y.1=nm.lookup y.1 by rw [← k.sc];rfl]
 simp
theorem wI (k:CxOk T X nm N) (h:lcB nm N N' sc n=true):Lcn X sc n N'∧N'.Nodup:=by
 unfold lcB at h
 simp only [Bool.and_eq_true] at h
 obtain ⟨⟨⟨⟨⟨⟨h1,h2⟩,h3⟩,h4⟩,h5⟩,h6⟩,h7⟩:=h
 have kk:∀ x,X.env.kindOf x=nm.lookup x:=fun x=>by rw [← k.sc];rfl
 refine ⟨wH h1 (by simpa using h2) h3 (by simp only [kk];exact h4) (by rw [k.hN];simpa using h5) ?_,tj h7⟩
 rw [k.hN]
 have e:gS sc X.env=vh (eB nm sc):=by
  funext p
  unfold gS vh
  rw [dL k]
  all_goals rfl
 rw [e]
 exact h6
theorem di.cx (h:di X an c k i):di (cxC X N' sc C) an c k i:=⟨h.ci,h.cls,h.na,h.wh,h.nm,h.nd,h.xc⟩
theorem CxOk.inner (k:CxOk T X nm N) (L:Lcn X sc n N') (nd:N'.Nodup) :CxOk T (cxC X N' sc C) (eB nm sc) N' where
 hN:=rfl
 nd:=nd
 sc:=dL k
 kd:=L.kind
 calm:=k.calm
 fns:=fun j x h=>let ⟨n,f,h1,h2,h3⟩:=k.fns j x h;⟨n,f,bK.to (X:=X) h1,h2,h3⟩
 gls:=k.gls
 tbs:=k.tbs
 blt:=k.blt
 cls:=fun c cl h=>let ⟨i,h1⟩:=k.cls c cl h;⟨i,h1.cx⟩
 mts:=fun q h=>let ⟨n,f,h1,h2,⟨i,cl,a,b,c⟩⟩:=k.mts q h;⟨n,f,bK.to (X:=X) h1,h2,⟨i,cl,a,b.cx,c⟩⟩
 nws:=fun j x h hz=>let ⟨n,f,i,cl,h1,h2⟩:=k.nws j x h hz;⟨n,f,i,cl,bK.to (X:=X) h1,h2⟩
 nds:=fun j x h hz=>let ⟨n,f,fd,ps,i,cl,h1,h2⟩:=k.nds j x h hz;⟨n,f,fd,ps,i,cl,FnI.to (X:=X) h1,h2⟩
def xL (g:∀ e,Option (GT T nm N e)):(ifs:List Expr)→Option {c:E // ∀ X,CxOk T X nm N→LTs X ifs c}
 | []=>some ⟨.c (.bl true),fun X k=>rT⟩
 | [c]=>(g c).map fun x=>⟨x.1,fun X k=>rU (x.2 X k)⟩
 | _=>none
def v9 (f:aL T) (g:fY T) (nm:NK) (N:List Str) (ee tg iter:Expr) (ifs:List Expr) (sc:Scope):Option {q:(List Nat×Bool)×E×E×E // ∀ X,CxOk T X nm N→LcP X (jj (dO tg) N) ee tg iter ifs sc q.1.1 q.1.2 q.2.1 q.2.2.1 q.2.2.2}:=do
 let it ← sO (f nm N) tg iter
 let q ← tgP false (eB nm sc) (jj (dO tg) N) tg
 let h0 ← yes (q.1.1.all fun i=>decide (i<q.1.1.length))
 let hl ← yes (lcB nm N (jj (dO tg) N) sc q.1.1.length)
 let c ← xL (g (eB nm sc) (jj (dO tg) N)) ifs
 let e ← f (eB nm sc) (jj (dO tg) N) ee
 let hn ← yes (aJ iter)
 some ⟨(q.1,it.1,e.1,c.1),fun X k=>by
  obtain ⟨L,nd⟩:=wI k hl.down
  exact ⟨k.calm,L,it.2 X k,fun C=>q.2.1 (cxC X _ sc C) ⟨k.calm,rfl,nd,dL k⟩,fun i m x e=>by rw [dL k];exact q.2.2 rfl i m x e,fun C=>c.2 _ (k.inner L nd),fun C=>(e.2 _ (k.inner L nd)).1,gN hn.down⟩⟩
def cLC (f:aL T) (g:fY T) (nm:NK) (N:List Str) (ee tg iter:Expr) (ifs:List Expr) (sc:Scope) (pos:Pos):Option (GE T nm N (.ListComp ee [⟨tg,iter,ifs,0⟩] sc pos)):=
 (v9 f g nm N ee tg iter ifs sc).map fun q=>⟨.lc q.1.1.1 q.1.1.2 q.1.2.1 q.1.2.2.1 q.1.2.2.2,fun X k=>mkf (pb (q.2 X k))⟩
end
theorem kZ (h:(match e with | .Compare ..=>false | .BoolOp ..=>false | .UnaryOp ..=>false | .IfExp ..=>false | .NamedExpr ..=>false | _=>true)=true):isTrue e env whole=(do let v ← whole;standAt e.pos;holding [v] (truthy v)):=by
 cases e <;> first | rfl | cases h
section
variable {T:Ns}
theorem pz {X:Cx} {o p:Op} (ho:Op2 X (compareOp op) (opD o)) (hp:Op2 X (compareOp op') (opD p)) (ha:LE X ea a) (hb:LE X eb b) (hc:LE X ec c) (hm:lastMarks [op,op'] [eb,ec]=false):LT X (.Compare ea [op,op'] [eb,ec] pos) (.chain o p a b c):=fun z I nb=>
 isTrue_chain ((ha true).go .refl I (av ..) nb fun z1 x u y1 x1 I1 r1 e1=>test_link ((hb true).go x1 I1 (e1.trans (av ..)) nb fun z2 y v y2 x2 I2 r2 e2=>by
  cases q:opD o (look z2.t.st x) (look z2.t.st y) with
  | none=>rw [q] at e2;exact absurd e2 nb
  | some d=>
    rw [q] at e2
    refine wpAny_mono (ho z2 u v _ _ d I2 ((r1.rb.st y2 I2).cr I2) (r2.rb.cr I2) q) (fun w s' k=>?_) fun _ _ z=>z.elim
    cases d with
    | bl t=>
      cases (show w=Value.bool t from k.2)
      have g:=bH I2.gh k.1
      refine wpAny_truthy_bool ?_
      cases t with
      | false=>exact ite_ff ⟨z2.up s',false,rfl,e2,x2.trans g.ee,I2.grow g,rfl⟩
      | true=>exact ite_tt (test_last ((hc true).go (x2.trans g.ee) (I2.grow g) (e2.trans (av ..)) nb fun z4 w' v' y4 x4 I4 r4 e4=>by
        cases q4:opD p (look z4.t.st y) (look z4.t.st w') with
        | none=>rw [q4] at e4;exact absurd e4 nb
        | some d4=>rw [q4] at e4;exact wpAny_mono (hp z4 v v' _ _ d4 I4 (((r2.rb.st g.ee (I2.grow g)).st y4 I4).cr I4) (r4.rb.cr I4) q4) (fun c s' k=>k.tru x4 I4 e4 nb) fun _ _ z=>z.elim))
    | _=>exact absurd e2 nb)) hm
abbrev GC (T:Ns) (nm:NK) (N:List Str) (e:Expr):={c:E // ∀ X,CxOk T X nm N→(LE X e c∧bb c=false)∧LT X e c}
def v6 (f:aL T) (nm:NK) (N:List Str) (a:Expr) (op:CmpOp) (b:Expr) (pos:Pos):Option (GC T nm N (.Compare a [op] [b] pos)):=do
 let o ← t9 op
 let hb ← yes (aJ b)
 let x ← f nm N a
 let y ← f nm N b
 some ⟨.op o.1 x.1 y.1,fun X k=>⟨⟨uA (o.2 X) (x.2 X k).1 (y.2 X k).1 (fH hb.down),rfl⟩,u4 (o.2 X) (x.2 X k).1 (y.2 X k).1 (fH hb.down)⟩⟩
def tY (f:aL T) (nm:NK) (N:List Str) (a:Expr) (x:Str) (p pos:Pos):Option (GC T nm N (.Compare a [.In] [.Name x p] pos)):=do
 let hd ← no (x == ("__debug__":Str))
 let hg ← yes (bJ nm x)
 let j ← aR x T.tb
 let y ← f nm N a
 some ⟨.tabin j.1 y.1,fun X k=>by
  obtain ⟨t,ad,h1,h2,h3⟩:=k.tbs j.1 x j.2
  exact ⟨⟨o7 (bx k.sc hg.down) h2 h1 h3 (y.2 X k).1 hd.down rfl,rfl⟩,pA (bx k.sc hg.down) h2 h1 h3 (y.2 X k).1 hd.down rfl⟩⟩
def sL (f:aL T) (nm:NK) (N:List Str):(a:Expr)→(ops:List CmpOp)→(bs:List Expr)→(pos:Pos)→Option (GC T nm N (.Compare a ops bs pos))
 | a,[.Is],[.Constant .none j p],pos=>(f nm N a).map fun x=>⟨.isN x.1,fun X k=>⟨⟨uD (x.2 X k).1 rfl,rfl⟩,u5 (x.2 X k).1 rfl⟩⟩
 | a,[.IsNot],[.Constant .none j p],pos=>(f nm N a).map fun x=>⟨.isNN x.1,fun X k=>⟨⟨rp (x.2 X k).1 rfl,rfl⟩,rS (x.2 X k).1 rfl⟩⟩
 | a,[.In],[.Name x p],pos=>(tY f nm N a x p pos).orElse fun _=>v6 f nm N a .In (.Name x p) pos
 | a,[op],[b],pos=>v6 f nm N a op b pos
 | a,[op,op'],[b,c],pos=>do
   let o ← t9 op
   let o' ← t9 op'
   let h ← no (lastMarks [op,op'] [b,c])
   let x ← f nm N a
   let y ← f nm N b
   let z ← f nm N c
   some ⟨.chain o.1 o'.1 x.1 y.1 z.1,fun X k=>⟨⟨o4 (o.2 X) (o'.2 X) (x.2 X k).1 (y.2 X k).1 (z.2 X k).1 h.down,rfl⟩,pz (o.2 X) (o'.2 X) (x.2 X k).1 (y.2 X k).1 (z.2 X k).1 h.down⟩⟩
 | _,_,_,_=>none
def xV (f:aL T) (nm:NK) (N:List Str) (x:Str) (p:Pos) (b:Expr) (pos:Pos):Option (GE T nm N (.Subscript (.Name x p) b pos)):=do
 let hd ← no (x == ("__debug__":Str))
 let hg ← yes (bJ nm x)
 let j ← aR x T.tb
 let hb ← yes (aJ b)
 let y ← f nm N b
 some ⟨.tab j.1 y.1,fun X k=>by
  obtain ⟨t,ad,h1,h2,h3⟩:=k.tbs j.1 x j.2
  exact mk (uK (bx k.sc hg.down) h2 h1 h3 (y.2 X k).1 (fO hb.down) hd.down fun _=>rfl)⟩
def cIx (f:aL T) (nm:NK) (N:List Str) (a b:Expr) (pos:Pos):Option (GE T nm N (.Subscript a b pos)):=do
 let hb ← yes (aJ b)
 let x ← f nm N a
 let y ← f nm N b
 some ⟨.ix x.1 y.1,fun X k=>mk (wL (x.2 X k).1 (y.2 X k).1 (fO hb.down))⟩
theorem oI (e:T.an i=x) (T':bY X T.an) (hy:LE X a y) (hs:aT a=true):LE X (.Attribute a x pos) (.fld y i):=by
 subst e
 exact uB T' vK hy (aY hs)
theorem gE (h:T.at_[i]? = some x):T.an i=x:=by unfold Ns.an;rw [List.getD_eq_getElem?_getD,h];rfl
def kh {nm:NK} {N:List Str} (f:∀ e,Option (GE T nm N e)) (x:Str) (p:Pos) (e:Expr) (er:List Expr) (pos:Pos):Option (GE T nm N (.Call (.Name x p) (e :: er) [] pos)):=((tS f x p e er pos).orElse fun _=>wb f x p (e :: er) pos).orElse fun _=>wd f x p (e :: er) pos
def cUn (f:aL T) (nm:NK) (N:List Str) (a:Expr) (pos:Pos):(op:UnaryOp)→Option (GE T nm N (.UnaryOp op a pos))
 | .USub=>(f nm N a).map fun x=>⟨.neg x.1,fun X k=>mk (uG (x.2 X k).1)⟩
 | .Not=>(f nm N a).map fun x=>⟨.not x.1,fun X k=>mk (uI (x.2 X k).1)⟩
 | _=>none
def xS (f:aL T) (nm:NK) (N:List Str) (a:Expr) (lo:Option Expr) (p2 pos:Pos):(hi st:Option Expr)→Option (GE T nm N (.Subscript a (.Slice lo hi st p2) pos))
 | hi,none=>do
   let x ← f nm N a
   let l ← tU (f nm N) lo
   let h ← tU (f nm N) hi
   some ⟨.sl x.1 l.1 h.1,fun X k=>mk (wP (x.2 X k).1 (l.2 X k) (h.2 X k))⟩
 | none,some st=>xR (f nm N) a lo st p2 pos
 | _,_=>none
def cTa (f:aL T) (nm:NK) (N:List Str) (b:Expr) (pos:Pos):(a:Expr)→Option (GE T nm N (.Subscript a b pos))
 | .Name x p=>xV f nm N x p b pos
 | _=>none
def xU (f:aL T) (nm:NK) (N:List Str) (a:Expr) (pos:Pos):(b:Expr)→Option (GE T nm N (.Subscript a b pos))
 | .Slice lo hi st p2=>xS f nm N a lo p2 pos hi st
 | b=>(cTa f nm N b pos a).orElse fun _=>cIx f nm N a b pos
def cRv (f:aL T) (nm:NK) (N:List Str) (x:Str) (p:Pos) (pos:Pos):(a:Expr)→Option (GE T nm N (.Call (.Name x p) [a] [] pos))
 | .Call (.Name y p2) [a] [] pos2=>xP (f nm N) x y p p2 a pos2 pos
 | _=>none
def cIz (f:aL T) (nm:NK) (N:List Str) (x:Str) (p:Pos) (a:Expr) (pos:Pos):(b:Expr)→Option (GE T nm N (.Call (.Name x p) [a,b] [] pos))
 | .Name y q=>cIs (f nm N) x p a y q pos
 | _=>none
def xH (f:aL T) (nm:NK) (N:List Str) (x:Str) (p:Pos) (pos:Pos):(args:List Expr)→Option (GE T nm N (.Call (.Name x p) args [] pos))
 | []=>wb (f nm N) x p [] pos
 | [a]=>(cRv f nm N x p pos a).orElse fun _=>kh (f nm N) x p a [] pos
 | [a,b]=>(cIz f nm N x p a pos b).orElse fun _=>kh (f nm N) x p a [b] pos
 | e :: er=>kh (f nm N) x p e er pos
def cSJ (f:aL T) (nm:NK) (N:List Str) (m:Str) (ap:Pos) (args:List Expr) (pos:Pos):(o:Expr)→Option (GE T nm N (.Call (.Attribute o m ap) args [] pos))
 | .Constant (.str x) j p=>tW (f nm N) x j p m ap args pos
 | _=>none
def xG (f:aL T) (nm:NK) (N:List Str) (o:Expr) (m:Str) (ap:Pos) (args:List Expr) (pos:Pos):Option (GE T nm N (.Call (.Attribute o m ap) args [] pos)):=
 (((cSJ f nm N m ap args pos o).orElse fun _=>wk (f nm N) m ap o args pos).orElse fun _=>xK (f nm N) o m ap args pos).orElse fun _=>xN (f nm N) o m ap args pos
def cCl (f:aL T) (nm:NK) (N:List Str) (pos:Pos) (args:List Expr):(fn:Expr)→(kw:List Keyword)→Option (GE T nm N (.Call fn args kw pos))
 | .Name x p,[]=>xH f nm N x p pos args
 | .Attribute o m ap,[]=>xG f nm N o m ap args pos
 | _,_=>none
def cF2 (f:aL T) (nm:NK) (N:List Str) (x:Str) (j1:Nat) (p1 pos:Pos):(b c:Expr)→Option (GE T nm N (.JoinedStr [.Constant (.str x) j1 p1,b,c] pos))
 | .FormattedValue e (.negSucc 0) none p2,.Constant (.str y) j2 p3=>xJ (f nm N) x j1 p1 e p2 y j2 p3 pos
 | _,_=>none
def cJs (f:aL T) (nm:NK) (N:List Str) (pos:Pos):(es:List Expr)→Option (GE T nm N (.JoinedStr es pos))
 | [.Constant (.str x) j1 p1,b,c]=>cF2 f nm N x j1 p1 pos b c
 | _=>none
def cDi (f:aL T) (nm:NK) (N:List Str) (pos:Pos):(ks:List (Option Expr))→(vs:List Expr)→Option (GE T nm N (.Dict ks vs pos))
 | [],[]=>some ⟨.dic .nil,fun X k=>mkf rC⟩
 | ks,vs=>v7 (f nm N) ks vs pos
def xM (f:aL T) (g:fY T) (nm:NK) (N:List Str) (ee:Expr) (sc:Scope) (pos:Pos):(gs:List Comprehension)→Option (GE T nm N (.ListComp ee gs sc pos))
 | [⟨tg,iter,ifs,0⟩]=>cLC f g nm N ee tg iter ifs sc pos
 | _=>none
def xw (f:aL T) (g:fY T) (nm:NK) (N:List Str):(e:Expr)→Option (GE T nm N e)
 | .Name x pos=>wa T nm N x pos
 | .Constant c j pos=>tT T nm N c j pos
 | .BinOp a op b pos=>do
   let o ← opP op
   let x ← f nm N a
   let y ← f nm N b
   some ⟨.op o.1 x.1 y.1,fun X k=>mk (wN (o.2 X) (x.2 X k).1 (y.2 X k).1)⟩
 | .UnaryOp op a pos=>cUn f nm N a pos op
 | .BoolOp .And es pos=>do
   let x ← sJ (f nm N) pos es
   let h ← no (bb x.1)
   some ⟨x.1,fun X k=>mk (x.2 X k) h.down⟩
 | .BoolOp .Or es pos=>do
   let x ← wf (f nm N) pos es
   let h ← no (bb x.1)
   some ⟨x.1,fun X k=>mk (x.2 X k) h.down⟩
 | .IfExp c a b pos=>do
   let t ← g nm N c
   let x ← f nm N a
   let y ← f nm N b
   some ⟨.ite t.1 x.1 y.1,fun X k=>mk (uE (t.2 X k) (x.2 X k).1 (y.2 X k).1)⟩
 | .Compare a ops bs pos=>(sL f nm N a ops bs pos).map fun x=>⟨x.1,fun X k=>mk (x.2 X k).1.1 (x.2 X k).1.2⟩
 | .Tuple es n pos=>(cG (f nm N) es).map fun x=>⟨.tup x.1,fun X k=>mk (o9 (x.2 X k))⟩
 | .List es pos=>(cG (f nm N) es).map fun x=>⟨.lst x.1,fun X k=>mkf (uP (x.2 X k))⟩
 | .Subscript a b pos=>xU f nm N a pos b
 | .Attribute a x pos=>do
   let i ← aR x T.at_
   let hs ← yes (aT a)
   let y ← f nm N a
   some ⟨.fld y.1 i.1,fun X k=>mk (oI (gE i.2) k.cls (y.2 X k).1 hs.down)⟩
 | .Call fn args kw pos=>cCl f nm N pos args fn kw
 | .JoinedStr es pos=>cJs f nm N pos es
 | .Dict ay vals pos=>cDi f nm N pos ay vals
 | .ListComp ee gs sc pos=>xM f g nm N ee sc pos gs
 | _=>none
def xx (f:aL T) (g:fY T) (nm:NK) (N:List Str):(e:Expr)→Option (GT T nm N e)
 | .UnaryOp .Not a pos=>(g nm N a).map fun x=>⟨.tnot x.1,fun X k=>u6 (x.2 X k)⟩
 | .BoolOp .And es pos=>(sI (g nm N) pos es).map fun x=>⟨x.1,fun X k=>tf (x.2 X k)⟩
 | .BoolOp .Or es pos=>(we (g nm N) pos es).map fun x=>⟨x.1,fun X k=>tf (x.2 X k)⟩
 | .Compare a ops bs pos=>(sL f nm N a ops bs pos).map fun x=>⟨x.1,fun X k=>(x.2 X k).2⟩
 | e=>do
   let h ← yes (match e with | .Compare ..=>false | .BoolOp ..=>false | .UnaryOp ..=>false | .IfExp ..=>false | .NamedExpr ..=>false | _=>true)
   let x ← f nm N e
   some ⟨.tv x.1,fun X k=>wT (x.2 X k).1 fun w=>kZ h.down⟩
theorem ux:LE X e .nil:=fun br z I nb=>absurd rfl nb
theorem uZ:LT X e .nil:=fun z I nb=>absurd rfl nb
def mB (T:Ns):Nat→aL T×fY T
 | 0=>(fun _ _ _=>none,fun _ _ _=>none)
 | k+1=>(fun nm N e=>some ((xw (mB T k).1 (mB T k).2 nm N e).getD ⟨.nil,fun X _=>mk ux⟩),fun nm N e=>some ((xx (mB T k).1 (mB T k).2 nm N e).getD ⟨.nil,fun X _=>uZ⟩))
end
def RaP (X:Cx) (j:Nat) (x:Str):Prop:=∃ (lv:Nat) (k:Cl) (i:CI) (fI:Addr) (fd:FuncData) (ps:List Str) (Bx nwI iniI:String) (bmB:List Value),ExcBaseFacts Bx nwI iniI bmB∧j9 X.K i.ad fI bmB nwI∧FnI X lv fI fd ps i.nm∧bI X.K fd ps []∧aX (lv+1) X.A∧eU X.K i.ad∧(∀ f∈i.nm,PySem.W.findIn X.K (.ref i.ad) f=some none)∧X.Γ.cl[j]? = some k∧X.W.ci[j]? = some i∧X.W.what[j]? = some 2∧i.nm.length=k.at_.length∧PySem.W.mroIn X.K i.ad (.type "BaseException")=some true∧PySem.W.typeIn X.K (.ref i.ad)=some (.type "type")∧PySem.W.keepIn X.K (.ref i.ad)=true∧X.mg x=some (.ref i.ad)
structure CxS (T:Ns) (X:Cx) (nm:NK) (N:List Str):Prop extends CxOk T X nm N where
 fr:j6 X
 rs:∀ (j:Nat) (x:Str),T.ex[j]? = some x→x≠""→RaP X j x
 hxs:∀ (j:Nat) (x:Str),T.hx[j]? = some x→x≠""→nN X j x
abbrev GS (T:Ns) (nm:NK) (N:List Str) (st:Stmt):={c:S // ∀ X,CxS T X nm N→LS X st c}
abbrev GSs (T:Ns) (nm:NK) (N:List Str) (st:List Stmt):={c:S // ∀ X,CxS T X nm N→LSs X st c}
def iE:Expr→Bool
 | .ListComp ..=>false
 | .SetComp ..=>false
 | .DictComp ..=>false
 | _=>true
theorem eO (h:iE e=true):swapsWith e t l env=pure false:=by
 cases e <;> first | rfl | cases h
theorem jH :swapsWithSole [.Tuple es k p] e l env=pure false:=by
 cases e <;> rfl
def tu:Expr→Bool
 | .Tuple ..=>false
 | _=>true
theorem mZ (h:tu e=true):swappedStores [.Tuple es k p] e env=pure none:=by
 cases e <;> first | rfl | cases h
def mM:Expr→Bool
 | .Starred ..=>true
 | _=>false
theorem sy {x1 x2:Str} {p1 p2 p q:Pos} {e1 e2:Expr} {j k:Nat} {env:Env} (hb:env.blockKind = .function) (k1:env.kindOf x1=some .local) (k2:env.kindOf x2=some .local) (hl:(p2.line == p1.line)=true) (ne:(x1 == x2)=false) (s1:mM e1=false) (s2:mM e2=false)
 (hf:(foldedForSure 8 e1 && foldedForSure 8 e2)=false) (hc:(constantsAlone 8 e1 && constantsAlone 8 e2)=false):swappedStores [.Tuple [.Name x1 p1,.Name x2 p2] j p] (.Tuple [e1,e2] k q) env=pure (some [x1,x2]):=by
 unfold swappedStores
 dsimp only
 rw [if_neg fun z=>by have z:(env.blockKind != ScopeKind.function)=true:=z;rw [hb] at z;exact absurd z (by decide)]
 rw [if_neg fun z=>by have z:(mM e1 || (mM e2 || false))=true:=z;rw [s1,s2] at z;exact absurd z (by decide)]
 have c1:(env.kindOf x1 == some NameKind.local && p1.line == p1.line)=true:=by rw [k1];simp
 have c2:(env.kindOf x2 == some NameKind.local && p2.line == p1.line)=true:=by rw [k2,hl];rfl
 have e:([Expr.Name x1 p1,.Name x2 p2].filterMap fun
  | .Name id pos=>if env.kindOf id == some .local && pos.line == p1.line then some id else none
  | _=>none) = [x1,x2]:=by
  rw [List.filterMap_cons,List.filterMap_cons,List.filterMap_nil]
  dsimp only
  rw [if_pos c1,if_pos c2]
 have ed:[x1,x2].eraseDups = [x1,x2]:=by
  have n2:(x2 == x1)=false:=by rw [beq_eq_false_iff_ne] at ne ⊢;exact Ne.symm ne
  simp [List.eraseDups_cons,n2]
 generalize hN:List.filterMap _ _=N
 obtain rfl:N = [x1,x2]:=hN.symm.trans e
 rw [if_neg fun z=>by rw [ed] at z;exact absurd z (by simp)]
 rw [if_neg fun z=>by have z:(foldedForSure 8 e1 && (foldedForSure 8 e2 && true))=true:=z;rw [Bool.and_true,hf] at z;cases z]
 rw [if_neg fun z=>by have z:(constantsAlone 8 e1 && (constantsAlone 8 e2 && true))=true:=z;rw [Bool.and_true,hc] at z;cases z]
section
variable {T:Ns} {nm:NK} {N:List Str}
theorem CxOk.tg (k:CxOk T X nm N):TgH nm N X:=⟨k.calm,k.hN,k.nd,k.sc⟩
theorem CxOk.at {i:Nat} {x:Str} (k:CxOk T X nm N) (h:N[i]? = some x):X.N[i]? = some x:=by rw [k.hN];exact h
theorem CxOk.ndx (k:CxOk T X nm N):X.N.Nodup:=by rw [k.hN];exact k.nd
def sP (f:aL T) (nm:NK) (N:List Str) (x:Str) (p:Pos) (pos:Pos) (e:Expr):Option (GS T nm N (.Assign [.Name x p] e pos)):=do
 let i ← aR x N
 let hl ← yes (fG true nm x)
 let hn ← yes (iE e)
 let a ← f nm N e
 some ⟨.set i.1 a.1,fun X k=>kE k.ndx (k.at i.2) (fT k.tg hl.down) (a.2 X k.toCxOk).1 (a.2 X k.toCxOk).2 (eO hn.down)⟩
def xQ (f:aL T) (g:fY T) (nm:NK) (N:List Str) (x:Str) (p:Pos) (pos:Pos):(e:Expr)→Option (GS T nm N (.Assign [.Name x p] e pos))
 | .ListComp ee [⟨tg,iter,ifs,0⟩] sc pos2=>do
   let i ← aR x N
   let hl ← yes (fG true nm x)
   let q ← v9 f g nm N ee tg iter ifs sc
   some ⟨.set i.1 (.lc q.1.1.1 q.1.1.2 q.1.2.1 q.1.2.2.1 q.1.2.2.2),fun X k=>px k.ndx (k.at i.2) (fT k.tg hl.down) (q.2 X k.toCxOk)⟩
 | .List es lp=>(match pB x T.rf with
   | some _=>do
     let i ← aR x N
     let hl ← yes (fG true nm x)
     let a ← cG (f nm N) es
     some ⟨.setR i.1 a.1,fun X k=>rP k.ndx (k.at i.2) (fT k.tg hl.down) (a.2 X k.toCxOk) (eO rfl)⟩
   | none=>sP f nm N x p pos (.List es lp))
 | e=>sP f nm N x p pos e
def xD (f:aL T) (nm:NK) (N:List Str) (x:Str) (p:Pos) (m:Str) (ap:Pos) (e:Expr) (cp pos:Pos):Option (GS T nm N (.Expr (.Call (.Attribute (.Name x p) m ap) [e] [] cp) pos)):=do
 let hm ← isP "append" m
 let i ← aR x N
 let hl ← yes (cL nm x)
 let hd ← no (x == ("__debug__":Str))
 let hc ← no (x == ("__classdict__":Str))
 let he ← yes (aJ e)
 let hp ← yes (ap.endLine == cp.line)
 let a ← f nm N e
 some ⟨.app i.1 a.1,fun X k=>by
  obtain rfl:=hm.down
  exact uT (k.at i.2) (bD k.sc hl.down) hd.down hc.down (a.2 X k.toCxOk).1 ⟨aY rfl,by rw [aj he.down];rfl,hp.down,by rw [aj he.down];rfl⟩⟩
def sM (f:aL T) (nm:NK) (N:List Str) (e:Expr) (pos:Pos):Option (GS T nm N (.Expr e pos)):=do
 let hn ← yes (iE e)
 let a ← f nm N e
 some ⟨.drop a.1,fun X k=>rJ (a.2 X k.toCxOk).1 (eO hn.down)⟩
def wj (f:aL T) (nm:NK) (N:List Str) (j:Nat) (p:Pos) (k:Nat) (q pos:Pos):(ts vs:List Expr)→Option (GS T nm N (.Assign [.Tuple ts j p] (.Tuple vs k q) pos))
 | [.Name x1 p1,.Name x2 p2],[e1,e2]=>do
   let i1 ← aR x1 N
   let i2 ← aR x2 N
   let l1 ← yes (nm.lookup x1 == some .local)
   let l2 ← yes (nm.lookup x2 == some .local)
   let hl ← yes (p2.line == p1.line)
   let ne ← no (x1 == x2)
   let s1 ← no (mM e1)
   let s2 ← no (mM e2)
   let hf ← no (foldedForSure 8 e1 && foldedForSure 8 e2)
   let hc ← no (constantsAlone 8 e1 && constantsAlone 8 e2)
   let a ← cG (f nm N) [e1,e2]
   some ⟨.setT [i1.1,i2.1] (.tup a.1),fun X c=>by
    have k1:X.env.scope.names.lookup x1=some .local:=by rw [c.sc];simpa using l1.down
    have k2:X.env.scope.names.lookup x2=some .local:=by rw [c.sc];simpa using l2.down
    have n12:i1.1≠i2.1:=fun z=>by
     have h:=i1.2
     rw [z,i2.2] at h
     have h:=Option.some.inj h
     have:=ne.down
     rw [h] at this
     simp at this
    have hb:X.env.blockKind = .function:=by unfold Env.blockKind;rw [c.kd];rfl
    exact py c.calm (o9 (a.2 X c.toCxOk)) c.ndx (c.at i1.2) (c.at i2.2) (.inl k1) (.inl k2) n12 jH (sy hb k1 k2 hl.down ne.down s1.down s2.down hf.down hc.down)⟩
 | _,_=>none
def xO (f:aL T) (nm:NK) (N:List Str) (x:Str) (p:Pos) (eb:Expr) (p2:Pos) (ee:Expr) (pos:Pos):Option (GS T nm N (.Assign [.Subscript (.Name x p) eb p2] ee pos)):=do
 let i ← aR x N
 let hl ← yes (cL nm x)
 let hd ← no (x == ("__debug__":Str))
 let hc ← no (x == ("__classdict__":Str))
 let hn ← yes (aJ eb)
 let b ← f nm N eb
 let e ← f nm N ee
 some ⟨.put (.v i.1) b.1 e.1,fun X k=>rN (k.at i.2) (bD k.sc hl.down) hd.down hc.down hn.down (b.2 X k.toCxOk).1 (e.2 X k.toCxOk).1⟩
def tV (f:aL T) (nm:NK) (N:List Str) (x:Str) (np:Pos):(args:List Expr)→(cp pos:Pos)→Option (GS T nm N (.Raise (some (.Call (.Name x np) args [] cp)) none pos))
 | [],_,_=>none
 | e :: er,cp,pos=>do
   let j ← aR x T.ex
   let hz ← no (x == ("":Str))
   let hn ← yes ((e :: er).all aJ)
   let hg ← yes (bJ nm x)
   let hd ← no (x == ("__debug__":Str))
   let a ← cG (f nm N) (e :: er)
   some ⟨.rais j.1 a.1,fun X k=>by
    obtain ⟨lv,cl,i,fI,fd,ps,Bx,nwI,iniI,bmB,h1,h2,h3,h4,h5,h6,h7,h8,h9,h10,h11,h12,h13,h14,h15⟩:=k.rs j.1 x j.2 (by simpa using hz.down)
    have hn':=List.all_eq_true.mp hn.down
    exact pw h1 h2 h3 h4 h5 h6 h7 h8 h9 h10 h11 h12 h13 h14 k.calm (bx k.sc hg.down) h15 (a.2 X k.toCxOk) hd.down (aj (hn' e List.mem_cons_self)) (aZ fun y hy=>hn' y (List.mem_cons_of_mem _ hy))⟩
def sN (nm:NK) (N:List Str) (y:Str) (p1:Pos) (x:Str) (p pos p2:Pos):Option (GS T nm N (.Assign [.Attribute (.Name y p1) x p] (.Dict [] [] p2) pos)×GS T nm N (.Assign [.Attribute (.Name y p1) x p] (.List [] p2) pos)):=do
 let j ← aR x T.at_
 let i ← aR y N
 let hl ← yes (cL nm y)
 let hd ← no (y == ("__debug__":Str))
 let hc ← no (y == ("__classdict__":Str))
 some (⟨.fld (.v i.1) j.1 (.dic .nil),fun X k=>by
  have h:=rK (X:=X) (p:=p) (pos:=pos) (p1:=p1) (p2:=p2) (f:=j.1) k.cls (k.at i.2) (bD k.sc hl.down) hd.down hc.down
  rw [gE j.2] at h
  exact h⟩,⟨.fld (.v i.1) j.1 (.lst .nil),fun X k=>by
  have h:=rL (X:=X) (p:=p) (pos:=pos) (p1:=p1) (p2:=p2) (f:=j.1) k.cls (k.at i.2) (bD k.sc hl.down) hd.down hc.down
  rw [gE j.2] at h
  exact h⟩)
def xI (f:aL T) (nm:NK) (N:List Str) (eo:Expr) (x:Str) (p:Pos) (ee:Expr) (pos:Pos):Option (GS T nm N (.Assign [.Attribute eo x p] ee pos)):=do
 let j ← aR x T.at_
 let o ← f nm N eo
 let e ← f nm N ee
 let hp ← yes (kO e.1)
 some ⟨.fld o.1 j.1 e.1,fun X k=>by
  have h:=uW (X:=X) (p:=p) (pos:=pos) (f:=j.1) k.cls hp.down (o.2 X k.toCxOk).1 (e.2 X k.toCxOk).1
  rw [gE j.2] at h
  exact h⟩
def v8 (f:aL T) (nm:NK) (N:List Str):(eo:Expr)→(x:Str)→(p:Pos)→(ee:Expr)→(pos:Pos)→Option (GS T nm N (.Assign [.Attribute eo x p] ee pos))
 | .Name y p1,x,p,.Dict [] [] p2,pos=>(sN nm N y p1 x p pos p2).map (·.1)
 | .Name y p1,x,p,.List [] p2,pos=>(sN nm N y p1 x p pos p2).map (·.2)
 | eo,x,p,ee,pos=>xI f nm N eo x p ee pos
def xA:(op:Operator)→Option {o:Op // ∀ X:Cx,∃ g,qm X op o g}
 | .Sub=>some ⟨.sub,fun X=>⟨_,qA⟩⟩
 | .Add=>some ⟨.add,fun X=>⟨_,qz⟩⟩
 | _=>none
def xE (nm:NK) (N:List Str) (op:Operator) (pos:Pos):(tg e:Expr)→Option (GS T nm N (.AugAssign tg op e pos))
 | .Attribute (.Name y p1) x p,.Constant (.int c) j p2=>do
   let o ← xA op
   let a ← aR x T.at_
   let i ← aR y N
   let hl ← yes (cL nm y)
   let hd ← no (y == ("__debug__":Str))
   let hc ← no (y == ("__classdict__":Str))
   some ⟨.fld (.v i.1) a.1 (.op o.1 (.fld (.v i.1) a.1) (.c (.int c))),fun X k=>by
    obtain ⟨g,ar⟩:=o.2 X
    have h:=uU (X:=X) (p:=p) (pos:=pos) (p1:=p1) (p2:=p2) (j:=j) (c:=c) (f:=a.1) k.cls ar (k.at i.2) (bD k.sc hl.down) hd.down hc.down
    rw [gE a.2] at h
    exact h⟩
 | _,_=>none
structure qs (T:Ns) (X:Cx) (nm:NK) (N:List Str):Prop where
 hN:X.N=N
 nd:N.Nodup
 sc:X.env.scope.names=nm
 cls:bY X T.an
theorem CxOk.su (k:CxOk T X nm N) (e:Value):qs T (aH X e) nm N:=⟨k.hN,k.nd,k.sc,fun c cl h=>let ⟨i,h⟩:=k.cls c cl h;⟨i,h.ci,h.cls,h.na,h.wh,h.nm,h.nd,h.xc⟩⟩
def wi (nm:NK) (N:List Str):(e:Expr)→Option {c:E // bb c=false∧∀ X,qs T X nm N→LE X e c}
 | .Name x pos=>do
   let hd ← no (x == ("__debug__":Str))
   let hc ← no (x == ("__classdict__":Str))
   let hl ← yes (cL nm x)
   let i ← aR x N
   some ⟨.v i.1,rfl,fun X k=>uL (by rw [k.hN];exact i.2) (bD k.sc hl.down) hd.down hc.down⟩
 | .Constant c j pos=>match c with
   | .none=>some ⟨.c .non,rfl,fun X k=>sR⟩
   | .bool b=>some ⟨.c (.bl b),rfl,fun X k=>wm⟩
   | .int i=>some ⟨.c (.int i),rfl,fun X k=>sQ⟩
   | .str x=>some ⟨.c (.str x),rfl,fun X k=>sS⟩
   | _=>none
 | .Attribute (.Name y p) x pos=>do
   let hd ← no (y == ("__debug__":Str))
   let hc ← no (y == ("__classdict__":Str))
   let hl ← yes (cL nm y)
   let i ← aR y N
   let j ← aR x T.at_
   let hs ← yes (aT (.Name y p))
   some ⟨.fld (.v i.1) j.1,rfl,fun X k=>oI (gE j.2) k.cls (uL (by rw [k.hN];exact i.2) (bD k.sc hl.down) hd.down hc.down) hs.down⟩
 | _=>none
def cSu (nm:NK) (N:List Str):(st:Stmt)→Option {c:S // ∀ X,qs T X nm N→LS X st c}
 | .Return (some e) pos=>(wi (T:=T) nm N e).map fun a=>⟨.ret a.1,fun X k=>iz (a.2.2 X k)⟩
 | .Assign [.Name x p] e pos=>do
   let i ← aR x N
   let hl ← yes (fG true nm x)
   let hn ← yes (iE e)
   let a ← wi (T:=T) nm N e
   some ⟨.set i.1 a.1,fun X k=>kE (by rw [k.hN];exact k.nd) (by rw [k.hN];exact i.2) (by
    have l1:nm.lookup x=some .local∨nm.lookup x=some .cell:=by have:=hl.down;unfold fG at this;simpa using this
    show X.env.scope.names.lookup x=_∨X.env.scope.names.lookup x=_
    rw [k.sc];exact l1) (a.2.2 X k) (fun q=>by rw [a.2.1] at q;cases q) (eO hn.down)⟩
 | _=>none
def tX (nm:NK) (N:List Str):(st:List Stmt)→Option {c:S // ∀ X,qs T X nm N→LSs X st c}
 | []=>some ⟨.skip,fun X k=>pt⟩
 | [a]=>(cSu nm N a).map fun x=>⟨x.1,fun X k=>pv (x.2 X k)⟩
 | a :: b :: r=>do
   let x ← cSu nm N a
   let y ← tX nm N (b :: r)
   some ⟨.seq x.1 y.1,fun X k=>lR (x.2 X k) (y.2 X k)⟩
def xW (a:GSs T nm N body):(hs:List ExceptHandler)→(pos:Pos)→Option (GS T nm N (.Try body hs [] [] pos))
 | [.ExceptHandler (some (.Name Bn np)) (some x) (b₀ :: suite) hpos],pos=>do
   let j ← aR Bn T.hx
   let hz ← no (Bn == ("":Str))
   let hg ← yes (bJ nm Bn)
   let hd ← no (Bn == ("__debug__":Str))
   let i ← aR x N
   let hl ← yes (nm.lookup x == some .local)
   let b ← tX (T:=T) nm N (b₀ :: suite)
   some ⟨.try_ a.1 (.hand j.1 (some i.1) b.1 .skip),fun X k=>uY k.fr k.calm (a.2 X k) (fun e=>b.2 _ (k.toCxOk.su e)) (k.hxs j.1 Bn j.2 (by simpa using hz.down)) (bx k.sc hg.down) hd.down k.ndx (k.at i.2) (by rw [k.sc];simpa using hl.down)⟩
 | [.ExceptHandler (some (.Name Bn np)) none (b₀ :: suite) hpos],pos=>do
   let j ← aR Bn T.hx
   let hz ← no (Bn == ("":Str))
   let hg ← yes (bJ nm Bn)
   let hd ← no (Bn == ("__debug__":Str))
   let b ← tX (T:=T) nm N (b₀ :: suite)
   some ⟨.try_ a.1 (.hand j.1 none b.1 .skip),fun X k=>rR k.fr k.calm (a.2 X k) (fun e=>b.2 _ (k.toCxOk.su e)) (k.hxs j.1 Bn j.2 (by simpa using hz.down)) (bx k.sc hg.down) hd.down⟩
 | _,_=>none
theorem pn {st:Stmt}:LS X st (.hand 0 none .skip .skip):=fun z I nb=>absurd rfl nb
def wg (f:aL T) (nm:NK) (N:List Str) (er:List Expr) (p2 pos:Pos):Option (GS T nm N (.Return (some (.List er p2)) pos)):=do
 let _ ← yes (N.any fun x=>T.mu.contains x)
 let a ← cG (f nm N) er
 some ⟨.ret (.newl a.1),fun X k=>iz (iu (a.2 X k.toCxOk))⟩
mutual
noncomputable def xT (f:aL T) (g:fY T) (nm:NK) (N:List Str):(n:Nat)→(st:Stmt)→Option (GS T nm N st)
 | 0,_=>none
 | _+1,.Pass pos=>some ⟨.skip,fun X k=>rM⟩
 | _+1,.Return none pos=>some ⟨.ret (.c .non),fun X k=>rO⟩
 | _+1,.Return (some (.List er p2)) pos=>(wg f nm N er p2 pos).orElse fun _=>(f nm N (.List er p2)).map fun a=>⟨.ret a.1,fun X k=>iz (a.2 X k.toCxOk).1⟩
 | _+1,.Return (some e) pos=>(f nm N e).map fun a=>⟨.ret a.1,fun X k=>iz (a.2 X k.toCxOk).1⟩
 | _+1,.Expr (.Constant (.str x) j p) pos=>some ⟨.skip,fun X k=>uV⟩
 | _+1,.Expr (.Call (.Attribute (.Name x p) m ap) [e] [] cp) pos=>(xD f nm N x p m ap e cp pos).orElse fun _=>sM f nm N _ pos
 | _+1,.Expr e pos=>sM f nm N e pos
 | _+1,.Assign [.Name x p] e pos=>xQ f g nm N x p pos e
 | _+1,.Assign [.Subscript (.Name x p) eb p2] ee pos=>xO f nm N x p eb p2 ee pos
 | _+1,.Raise (some (.Call (.Name x np) args [] cp)) none pos=>tV f nm N x np args cp pos
 | _+1,.Assign [.Attribute eo x p] ee pos=>v8 f nm N eo x p ee pos
 | _+1,.AugAssign tg op e pos=>xE nm N op pos tg e
 | _+1,.Assign [.Tuple ts j p] (.Tuple vs k q) pos=>wj f nm N j p k q pos ts vs
 | _+1,.Assign [.Tuple es j p] e pos=>do
   let t ← vI true nm N es
   let h ← yes (tu e)
   let a ← f nm N e
   some ⟨.setT t.1 a.1,fun X k=>rQ (a.2 X k.toCxOk).1 (pc k.calm k.ndx (t.2.as_ X k.tg) (t.2.len _) (t.2.fst _)) jH (mZ h.down) rfl⟩
 | n+1,.If e sa sb pos=>do
   let c ← g nm N e
   let a ← mC f g nm N n sa
   let b ← mC f g nm N n sb
   some ⟨.ifs c.1 a.1 b.1,fun X k=>wS (c.2 X k.toCxOk) (a.2 X k) (b.2 X k)⟩
 | n+1,.For tg iter body [] pos=>do
   let it ← sO (f nm N) tg iter
   let q ← tgP true nm N tg
   let hn ← yes (aJ iter)
   let b ← mC f g nm N n body
   some ⟨.for_ q.1.1 q.1.2 it.1 b.1,fun X k=>uX k.calm (fun z o=>se k.fr) (it.2 X k.toCxOk) (q.2.1 X k.tg) (b.2 X k) (gN hn.down)⟩
 | n+1,.Try body hs [] [] pos=>do
   let a ← mC f g nm N n body
   xW a hs pos
 | _,_=>none
noncomputable def cSt (f:aL T) (g:fY T) (nm:NK) (N:List Str):(n:Nat)→(st:Stmt)→Option (GS T nm N st)
 | 0,st=>some ⟨.hand 0 none .skip .skip,fun X k=>pn⟩
 | n+1,st=>some ((xT f g nm N n st).getD ⟨.hand 0 none .skip .skip,fun X k=>pn⟩)
noncomputable def mC (f:aL T) (g:fY T) (nm:NK) (N:List Str):(n:Nat)→(st:List Stmt)→Option (GSs T nm N st)
 | 0,_=>none
 | _+1,[]=>some ⟨.skip,fun X k=>pt⟩
 | n+1,[a]=>(cSt f g nm N n a).map fun x=>⟨x.1,fun X k=>pv (x.2 X k)⟩
 | n+1,a :: b :: r=>do
   let x ← cSt f g nm N n a
   let y ← mC f g nm N n (b :: r)
   some ⟨.seq x.1 y.1,fun X k=>lR (x.2 X k) (y.2 X k)⟩
end
end
def bt (st:Stmt):List Str:=(aU st).args.map (·.arg)
def jC (st:Stmt):List Str:=bt st ++ ((aw st).names.filter fun y=>(y.2 == .local || y.2 == .cell) && !(bt st).contains y.1).map (·.1)
def fe (T:Ns) (st:Stmt):Option Fn:=(mC (mB T 200).1 (mB T 200).2 (aw st).names (jC st) 200 (bM st)).map fun c=>⟨(bt st).length,(jC st).length,c.1⟩
structure qr (T:Ns) (X:Cx) (ad:List Addr) (lv:Nat):Prop where
 calm:X.calm=true
 fns:∀ (j:Nat) (f:Addr),ad[j]? = some f→∃ x qual st fd fn,Fun X.K x qual st f fd∧bI X.K fd (bt st) []∧cX (jC st) (bt st) (aw st)∧X.Γ.fn[j]? = some fn∧fe T st=some fn
 glb:∀ (j:Nat) (x:Str),T.fn[j]? = some x→∃ f,ad[j]? = some f∧X.mg x=some (.ref f)
 gls:∀ (j:Nat) (x:Str),T.gl[j]? = some x→∃ d u,X.Γ.gl[j]? = some d∧X.mg x=some u∧aM X.K d u=true
 tbs:∀ (j:Nat) (x:Str),T.tb[j]? = some x→∃ t a,X.Γ.tb[j]? = some t∧X.mg x=some (.ref a)∧TbL X a t
 blt:∀ x∈T.bl,X.mg x=none
 cls:bY X T.an
 mts:∀ q∈T.me,∃ f,ad[q.2.2]? = some f∧mx X T.an q.1 q.2.1 f
 nws:∀ (j:Nat) (x:Str),T.nw[j]? = some x→x≠""→∃ f i cl,ad[cl.init]? = some f∧Mk X.K i.ad f∧X.Γ.cl[j]? = some cl∧cl.what=0∧X.W.ci[j]? = some i∧X.W.what[j]? = some 0∧X.mg x=some (.ref i.ad)
 nds:∀ (j:Nat) (x:Str),T.nd[j]? = some x→x≠""→∃ f fd ps i cl,FnI X lv f fd ps i.nm∧bI X.K fd ps []∧Mk X.K i.ad f∧Cls X.K i.ad∧(∀ f∈i.nm,b8 X.K i.ad f)∧X.Γ.cl[j]? = some cl∧X.W.ci[j]? = some i∧X.W.what[j]? = some 1∧i.nm.length=cl.at_.length∧X.mg x=some (.ref i.ad)
 rs:∀ (j:Nat) (x:Str),T.ex[j]? = some x→x≠""→∃ (k:Cl) (i:CI) (fI:Addr) (fd:FuncData) (ps:List Str) (Bx nwI iniI:String) (bmB:List Value),ExcBaseFacts Bx nwI iniI bmB∧j9 X.K i.ad fI bmB nwI∧FnI X lv fI fd ps i.nm∧bI X.K fd ps []∧eU X.K i.ad∧(∀ f∈i.nm,PySem.W.findIn X.K (.ref i.ad) f=some none)∧X.Γ.cl[j]? = some k∧X.W.ci[j]? = some i∧X.W.what[j]? = some 2∧i.nm.length=k.at_.length∧PySem.W.mroIn X.K i.ad (.type "BaseException")=some true∧PySem.W.typeIn X.K (.ref i.ad)=some (.type "type")∧PySem.W.keepIn X.K (.ref i.ad)=true∧X.mg x=some (.ref i.ad)
 hxs:∀ (j:Nat) (x:Str),T.hx[j]? = some x→x≠""→nN X j x
section
variable {X:Cx} {T:Ns} {ad:List Addr} {lv:Nat}
theorem di.to {A:Around} {fr:List Env} {N:List Str} {e:Env} {c1 d1:Nat→List D→List O→Res} (h:di X an c k i):di (X.to A fr N e c1 d1) an c k i:=⟨h.ci,h.cls,h.na,h.wh,h.nm,h.nd,h.xc⟩
theorem ny (Pg:qr T X ad lv) (n:Nat) (ih:∀ (j:Nat) (f:Addr),ad[j]? = some f→bK X (af X.Γ n) (lv+1+n) j f) (ih1:∀ (j:Nat) (f:Addr),ad[j]? = some f→∃ m,m+1≤lv+1+n∧bK X (aE X.Γ n) m j f) {j:Nat} {f:Addr} (h:ad[j]? = some f):bK X (af X.Γ (n+1)) (lv+1+(n+1)) j f:=by
 obtain ⟨x,qual,st,fd,fn,Fu,b,Sc,hj,hc⟩:=Pg.fns j f h
 obtain ⟨oc,od,kV,doc,pm,an,cd,ct,osl,rfl,lk,hcd⟩:=Fu.ex
 unfold fe at hc
 obtain ⟨c,_,rfl⟩:=Option.map_eq_some_iff.mp hc
 refine ⟨_,_,ww (cal:=af X.Γ n) (cal1:=aE X.Γ n) (k:=lv+1+n) lk hcd Sc hj fun A fr L hr=>c.2 _ ⟨⟨rfl,Sc.nd,rfl,Sc.kind,Pg.calm,fun i y hy=>?_,Pg.gls,Pg.tbs,Pg.blt,fun c cl h=>let ⟨i,h⟩:=Pg.cls c cl h;⟨i,h.to⟩,fun q hq=>?_,fun i y hy hz=>?_,fun i y hy hz=>?_⟩,⟨⟨fr,rfl⟩,rfl⟩,fun i y hy hz=>?_,fun i y hy hz=>?_⟩,b,Fu.kp⟩
 ·obtain ⟨g,h1,h2⟩:=Pg.glb i y hy
  exact ⟨_,g,(ih i g h1).to,hr,h2⟩
 ·obtain ⟨g,h1,⟨i,k,a1,a2,a3⟩⟩:=Pg.mts q hq
  exact ⟨_,g,(ih _ g h1).to,hr,⟨i,k,a1,a2.to,a3⟩⟩
 ·obtain ⟨g,ci,cl,h1,h2⟩:=Pg.nws i y hy hz
  obtain ⟨m,hm,h3⟩:=ih1 _ g h1
  exact ⟨m,g,ci,cl,h3.to,hr.mono hm,h2⟩
 ·obtain ⟨g,fd,ps,ci,cl,h1,h2,h3⟩:=Pg.nds i y hy hz
  exact ⟨lv,g,fd,ps,ci,cl,h1.to,h2,hr.mono (by omega),h3⟩
 ·obtain ⟨k,ci,fI,fd,ps,Bx,nwI,iniI,bmB,h1,h2,h3,h4,h5⟩:=Pg.rs i y hy hz
  exact ⟨lv,k,ci,fI,fd,ps,Bx,nwI,iniI,bmB,h1,h2,h3.to,h4,hr.mono (by omega),h5⟩
 ·exact Pg.hxs i y hy hz
theorem lD (Pg:qr T X ad lv) {j:Nat} {f:Addr} (h:ad[j]? = some f) {cal:Nat→List D→List O→Res} (no:∀ ds st,cal j ds st = .bad) (m:Nat):bK X cal m j f:=by
 obtain ⟨x,qual,st,fd,fn,Fu,b,_⟩:=Pg.fns j f h
 exact ⟨fd,_,⟨fun ds st nb=>absurd (no ds st) nb,fun A fr z args us ds _ _ _ _ nb=>absurd (no ds _) nb⟩,b,Fu.kp⟩
theorem iK (Pg:qr T X ad lv):∀ (n j:Nat) (f:Addr),ad[j]? = some f→bK X (af X.Γ n) (lv+1+n) j f
 | 0,j,f,h=>lD Pg h (fun _ _=>rfl) _
 | n+1,j,f,h=>ny Pg n (iK Pg n) (fun i g hg=>by
   match n with
   | 0=>exact ⟨0,by omega,lD Pg hg (fun _ _=>rfl) _⟩
   | n'+1=>exact ⟨lv+1+n',by omega,iK Pg n' i g hg⟩) h
end
theorem jK {vs:List Value} {ns:List Int} (h:IntsAre vs ns):RDs W ρ G (ns.map D.int) vs:=by
 induction h with
 | nil=>exact rfl
 | cons n t h ih=>exact .cons ⟨t,rfl⟩ ih
theorem oY {X:Cx} {Γ:Gm} {n j k:Nat} {fa a:Addr} {s₁:Shared} {vs:List Value} {ns:List Int} (md:Mod X.K X.mg X.base) (hb:X.base=s₁.heap) (os:X.os=s₁.os) (hc:X.calm=true) (hg:s₁.gens = #[])
 (ha:s₁.heap.get? a=some { cls:=.type "list",data:=.seq vs.toArray }) (hi:IntsAre vs ns) (hl:ns.length≤sizeLine) (hr:aX k callerA)
 (F:bK X (af Γ n) k j fa) (hlaw:∃ st',af Γ n j [.lst (ns.map .int)] [] = .ok (.bl true) st') :
 codeAny X.M callerA (.call (.ref fa) ⟨[.ref a],[]⟩) (fun r s'=>r = .ok (.ret (.bool true))∧OldK s₁.heap s'.heap∧s'.os=s₁.os∧AllBare s'.gens) s₁:=by
 obtain ⟨st',e⟩:=hlaw
 obtain ⟨fd,ps,F,hbd,_⟩:=F
 have hp:=F.len [.lst (ns.map .int)] [] (by rw [e];exact fun z=>nomatch z)
 have nm:∀ {b},¬ Mu ([]:Rs) b:=fun ⟨p,m,_⟩=>nomatch m
 have I:HR { X with A:=callerA,fr:=[] } ⟨[],s₁.heap.get?,⟨[],[],[]⟩,[],s₁⟩:=⟨md,rfl,fun _=>hr.hd,(fun b o e=>by rw [hb] at e;exact e),.refl _,rfl,(fun i j p q b h=>by simp at h),fun b m=>(nm m).elim,(fun n o p h=>by simp at h),trivial,(fun b m=>nomatch m),(by show AllBare s₁.gens;rw [hg];exact fun g h=>by simp at h),os.symm⟩
 refine codeAny_mono (F.run callerA [] ⟨[],s₁.heap.get?,⟨[],[],[]⟩,[],s₁⟩ ⟨[.ref a],[]⟩ [.ref a] [.lst (ns.map .int)] hr I (hbd s₁ [.ref a] (hb ▸ md.kin) hp) (.cons ⟨a,_,vs,rfl,ha,⟨⟨_,rfl⟩,by rw [hi.length];exact hl⟩,jK hi⟩ rfl) (by rw [e];exact fun z=>nomatch z)) fun r s' hq=>?_
 rw [e] at hq
 cases r with
 | error u=>obtain ⟨_,_,_,_,z,_⟩:=hq;cases z
 | ok fl=>cases fl with
   | ret u=>
     obtain ⟨z',d,q1,q2,S,H,rd⟩:=hq
     subst q1
     cases q2
     cases (show u=Value.bool true from rd)
     have keep:∀ b o,s₁.heap.get? b=some o→z'.s.heap.get? b=some o:=fun b o e=>S.sm b o e nm (fun z=>z) (fun m=>nomatch m)
     exact ⟨rfl,OldK.of_keep keep,H.os.trans os,H.br⟩
   | _=>exact hq.elim
theorem sE {l:PySem.W.OpenLaw} {n k lv:Nat} {q:Program} {loose:List Str} {XP:(Str→Option Value)→Heap→Prop} {YP:World→Heap→Prop} {d:DefRec} {K:Params→Fg} {j:Nat} {Γ:Gm}
 (hn:l.most=some n) (hn2:n≤sizeLine) (hdf:d.params.defaults = []) (hr:aX lv callerA) (hY:∀ (w:World) (h:Heap),YP w h→(K w.params).In h)
 (F:∀ (w:World) (mg:Str→Option Value) (fa:Addr) (h:Heap) (os:OsState),(K w.params).In h→h.Ns mainGlobals mg→mg d.name=some (.ref fa)→Mod (K w.params) mg h →
  ∃ X:Cx,X.W.P=l.prog∧X.W.w=w∧X.K=K w.params∧X.mg=mg∧X.base=h∧X.os=os∧X.calm=true∧bK X (af Γ k) lv j fa)
 (hlaw:∀ ns:List Int,ns.length≤n→∃ st',af Γ k j [.lst (ns.map .int)] [] = .ok (.bl true) st'):PySem.W.WalkO q loose XP YP l.row.toRowW d [] (fun f vs=>PySem.call f vs):=by
 refine Att.attach_call hn hdf fun w s₀ s₁ mg mb fa o pm cd doc a vs ns G Y ho hd hcd hmg hobj hints hlen hg=>?_
 have KX:=hY w _ Y
 have md:Mod (K w.params) mg s₁.heap:=⟨KX,G.T.g,⟨mb,G.T.b,G.T.builtins⟩,G.T.nolimit⟩
 obtain ⟨X,e1,e2,e3,e4,e5,e6,e7,hF⟩:=F w mg fa s₁.heap s₁.os KX G.T.g hmg md
 have:=oY (X:=X) (by rw [e3,e4,e5];exact md) e5 e6 e7 hg hobj hints (Nat.le_trans hlen hn2) hr hF (hlaw ns hlen)
 rw [show X.M=model l.prog w by show model X.W.P X.W.w=_;rw [e1,e2]] at this
 exact this
def FnF (T:Ns) (K:Fg) (Γ:Gm) (j:Nat) (f:Addr):Prop:=∃ x qual st fd fn,Fun K x qual st f fd∧bI K fd (bt st) []∧cX (jC st) (bt st) (aw st)∧Γ.fn[j]? = some fn∧fe T st=some fn
theorem jD:∀ {ps:List Str} {us:List Value},ps.Nodup→us.length=ps.length→ps.filterMap (fun n=>((ps.zip us).lookup n).map (n,·))=ps.zip us
 | [],[],_,_=>rfl
 | p :: ps,u :: us,nd,hl=>by
   have ih:=jD (List.nodup_cons.mp nd).2 (by simpa using hl)
   rw [List.filterMap_cons]
   simp only [List.zip_cons_cons,List.lookup_cons,beq_self_eq_true,Option.map_some]
   congr 1
   have:∀ l:List Str,(∀ n∈l,n∈ps)→l.filterMap (fun n=>((match n == p with | true=>some u | false=>(ps.zip us).lookup n).map fun x=>(n,x)))=l.filterMap fun n=>((ps.zip us).lookup n).map fun x=>(n,x):=fun l=>by
    induction l with
    | nil=>intro _;rfl
    | cons n l ih=>
      intro h
      have q:(n == p)=false:=beq_eq_false_iff_ne.mpr fun e=>(List.nodup_cons.mp nd).1 (e ▸ h n List.mem_cons_self)
      rw [List.filterMap_cons,List.filterMap_cons,ih fun m hm=>h m (List.mem_cons_of_mem _ hm),q]
   exact (this ps fun _ h=>h).trans ih
 | [],_ :: _,_,hl=>by simp at hl
 | _ :: _,[],_,hl=>by simp at hl
theorem mW:∀ {ps:List Str} {us:List Value},us.length=ps.length→(ps.filter fun n=>((ps.zip us).lookup n).isNone) = []:=by
 intro ps us hl
 rw [List.filter_eq_nil_iff]
 intro n hn
 have:((ps.zip us).lookup n).isSome=true:=by
  induction ps generalizing us with
  | nil=>cases hn
  | cons p ps ih=>
    cases us with
    | nil=>simp at hl
    | cons u us=>
      rw [List.zip_cons_cons,List.lookup_cons]
      cases e:n == p with
      | true=>rfl
      | false=>
        rcases List.mem_cons.mp hn with q | q
        ·subst q;simp at e
        ·exact ih (by simpa using hl) q
 cases e:(ps.zip us).lookup n with
 | none=>rw [e] at this;cases this
 | some v=>simp
theorem kg {p:Arguments} {x q:Str} {body:List Stmt} {sc:Scope} {kV doc pm cd ct:Value} {an:Option Addr} {us:List Value} (h1:p.posonlyargs = []) (h2:p.kwonlyargs = []) (h3:p.vararg=none) (h4:p.kwarg=none) (nd:(p.args.map (·.arg)).Nodup) (hl:us.length=(p.args.map (·.arg)).length) :
 bindArgs (PySem.W.fnOf x q p body sc .none kV doc pm an cd ct) ⟨us,[]⟩=pure ((p.args.map (·.arg)).zip us):=by
 have e1:=mW hl
 have e2:=jD nd hl
 obtain ⟨a1,a2,a3,a4,a5,a6,a7⟩:=p
 cases h1;cases h2;cases h3;cases h4
 refine Eq.trans (if_neg (c:=((decide (us.length>(a2.map (·.arg)).length)) && true)=true) ?_) ?_
 ·rw [hl];simp
 refine Eq.trans (if_neg ?_) ?_
 ·show ¬ (!((a2.map (·.arg)).take ((a2.map (·.arg)).length - (List.drop (0 - (a2.map (·.arg)).length) ([]:List Value)).length) |>.filter fun n=>(((a2.map (·.arg)).zip us).lookup n).isNone).isEmpty)=true
  rw [List.drop_nil,List.length_nil,Nat.sub_zero,List.take_length,e1];exact fun h=>nomatch h
 have e3:∀ n:Nat,List.drop n ([]:List Value) = []:=fun _=>List.drop_nil
 show (forIn ((List.drop ((List.map Arg.arg a2).length - (List.drop (0 - (List.map Arg.arg a2).length) ([]:List Value)).length) (List.map Arg.arg a2)).zip (List.drop (0 - (List.map Arg.arg a2).length) ([]:List Value))) _ _ >>= _)=_
 rw [e3,List.zip_nil_right]
 show (pure ((List.map Arg.arg a2 ++ []).filterMap fun n=>(((List.map Arg.arg a2).zip us).lookup n).map (n,·)):Sem _)=_
 rw [List.append_nil]
 exact congrArg pure e2
def fnC (st:Stmt):Bool:=(aU st).posonlyargs.isEmpty && (aU st).kwonlyargs.isEmpty && (aU st).vararg.isNone && (aU st).kwarg.isNone && (match (aw st).kind with | .function=>true | _=>false) && !(aw st).isCoroutine && !(aw st).isGenerator &&
 decide ((jC st).Nodup∧(jC st).take (bt st).length=bt st∧(∀ x∈bt st,(aw st).names.lookup x=some .local∨(aw st).names.lookup x=some .cell)∧∀ y∈(aw st).names,y.2≠.free)
theorem oN {st:Stmt} (h:fnC st=true):cX (jC st) (bt st) (aw st)∧∀ {K:Fg} {x q:Str} {f:Addr} {fd:FuncData},Fun K x q st f fd→bI K fd (bt st) []:=by
 unfold fnC at h
 simp only [Bool.and_eq_true,decide_eq_true_eq,Bool.not_eq_true',List.isEmpty_iff,Option.isNone_iff_eq_none] at h
 obtain ⟨⟨⟨⟨⟨⟨⟨h1,h2⟩,h3⟩,h4⟩,h5⟩,h6⟩,h7⟩,h8,h9,h10,h11⟩:=h
 have nd:(bt st).Nodup:=h9 ▸ h8.sublist (List.take_sublist _ _)
 refine ⟨⟨(by split at h5 <;> first | assumption | cases h5),h6,h7,h8,h9,h10,h11⟩,fun F=>F.binds fun _ _ _ _ _ _ us hl=>kg h1 h2 h3 h4 nd hl⟩
def cT (T:Ns) (st:Stmt):Fn:=(fe T st).getD ⟨0,0,.skip⟩
def FsL (K:Fg):List (Str×Str×Stmt)→List Addr→Prop
 | [],[]=>True
 | p :: r,f :: fs=>(∃ fd,Fun K p.1 p.2.1 p.2.2 f fd)∧FsL K r fs
 | _,_=>False
theorem FsL.app {K:Fg}:∀ {l l' fs fs'},FsL K l fs→FsL K l' fs'→FsL K (l ++ l') (fs ++ fs')
 | [],_,[],_,_,h=>h
 | _ :: _,_,_ :: _,_,h,t=>⟨h.1,FsL.app h.2 t⟩
 | [],_,_ :: _,_,h,_=>h.elim
 | _ :: _,_,[],_,h,_=>h.elim
theorem FsL.len {K:Fg}:∀ {l fs},FsL K l fs→fs.length=l.length
 | [],[],_=>rfl
 | _ :: _,_ :: _,h=>congrArg (· + 1) h.2.len
 | [],_ :: _,h=>h.elim
 | _ :: _,[],h=>h.elim
theorem FsL.at {K:Fg}:∀ {l fs} {j:Nat} {f:Addr},FsL K l fs→fs[j]? = some f→∃ p fd,l[j]? = some p∧Fun K p.1 p.2.1 p.2.2 f fd
 | [],[],j,f,_,e=>by simp at e
 | p :: l,g :: fs,0,f,h,e=>by simp at e;subst e;obtain ⟨fd,F⟩:=h.1;exact ⟨p,fd,rfl,F⟩
 | p :: l,g :: fs,j+1,f,h,e=>FsL.at (j:=j) h.2 (by simpa using e)
 | [],_ :: _,_,_,h,_=>h.elim
 | _ :: _,[],_,_,h,_=>h.elim
theorem wy {T:Ns} {ad:List Addr} {K:Fg} {Γ:Gm} {l:List (Str×Str×Stmt)} (hΓ:Γ.fn=l.map fun p=>cT T p.2.2) (hc:(l.all fun p=>fnC p.2.2 && (fe T p.2.2).isSome)=true) (h:FsL K l ad) {j:Nat} {f:Addr} (e:ad[j]? = some f):FnF T K Γ j f:=by
 obtain ⟨p,fd,e1,F⟩:=h.at e
 have c:=List.all_eq_true.mp hc p (List.mem_of_getElem? e1)
 rw [Bool.and_eq_true] at c
 obtain ⟨S,B⟩:=oN c.1
 refine ⟨_,_,_,fd,cT T p.2.2,F,B F,S,by rw [hΓ,List.getElem?_map,e1];rfl,?_⟩
 cases q:fe T p.2.2 with
 | none=>rw [q] at c;exact nomatch c.2
 | some g=>unfold cT;rw [q];rfl
def eV (K:Fg):List (Str×Stmt)→Prop
 | []=>True
 | p :: r=>(∃ f fd,Fun K p.1 p.1 p.2 f fd∧PySem.W.nsIn K mainGlobals p.1=some (some (.ref f)))∧eV K r
theorem hl_cons {K:Fg} {x:Str} {st:Stmt} {f:Addr} {od an:Option Addr} {sl:Array (Option Value)} {oc kV dc pm cd ct:Value} (a:PySem.W.nsIn K mainGlobals x=some (some (.ref f)))
 (l:K.lookup f=some ⟨oc,od,.func (PySem.W.fnOf x x (aU st) (bM st) (aw st) .none kV dc pm an cd ct),sl⟩) (c:PySem.W.codeIn K cd x=true) (k:PySem.W.keepIn K (.ref f)=true) (t:eV K r):eV K ((x,st) :: r):=⟨⟨f,_,kt l c k,a⟩,t⟩
def tI (mg:Str→Option Value):List Str→List Addr→Prop
 | [],_=>True
 | x :: xs,f :: fs=>mg x=some (.ref f)∧tI mg xs fs
 | _ :: _,[]=>False
theorem eV.ad {K:Fg} {h:Heap} {mg:Str→Option Value} (Y:K.In h) (G:h.Ns mainGlobals mg):∀ {l},eV K l→∃ ad,FsL K (l.map fun p=>(p.1,p.1,p.2)) ad∧tI mg (l.map (·.1)) ad
 | [],_=>⟨[],trivial,trivial⟩
 | _ :: _,⟨⟨f,fd,F,n⟩,t⟩=>let ⟨ad,h1,h2⟩:=eV.ad Y G t;⟨f :: ad,⟨⟨fd,F⟩,h1⟩,PySem.W.mg_of Y G n,h2⟩
theorem c8 {ad ms:List Addr} (h:ad.length=n):(ad ++ ms)[n+k]? = ms[k]?:=by rw [List.getElem?_append_right (by omega)];congr 1;omega
theorem nR :∀ {xs} {fs} {j:Nat} {x:Str},tI mg xs fs→xs[j]? = some x→∃ f,fs[j]? = some f∧mg x=some (.ref f)
 | [],_,_,_,_,e=>by simp at e
 | y :: xs,f :: fs,0,x,h,e=>by simp at e;subst e;exact ⟨f,rfl,h.1⟩
 | y :: xs,f :: fs,j+1,x,h,e=>by
   obtain ⟨g,h1,h2⟩:=nR (j:=j) h.2 (by simpa using e)
   exact ⟨g,by simpa using h1,h2⟩
 | _ :: _,[],_,_,h,_=>h.elim
def fX {α:Type} (P:Nat→α→Prop):Nat→List α→Prop
 | _,[]=>True
 | j,x :: r=>P j x∧fX P (j+1) r
theorem sG :∀ {l:List α} {j i} {x:α},fX P j l→l[i]? = some x→P (j+i) x
 | [],_,i,_,_,e=>by simp at e
 | g :: r,j,0,f,h,e=>by simp at e;subst e;exact h.1
 | g :: r,j,i+1,f,h,e=>by
   have:=sG (i:=i) h.2 (by simpa using e)
   rw [show j+(i+1)=j+1+i by omega];exact this
theorem eW (h:fX P 0 l) (e:l[i]? = some x):P i x:=by
 have:=sG h e
 rwa [Nat.zero_add] at this
def gY (K:Fg) (C:Addr) (m qn:Str) (st:Stmt) (f:Addr):Prop:=(∃ fd,Fun K m qn st f fd)∧vR K C m f
theorem me_mk {K:Fg} {C f:Addr} {m qn:Str} {st:Stmt} {od an:Option Addr} {sl:Array (Option Value)} {oc kV dc pm cd ct:Value} (at_:PySem.W.findIn K (.ref C) m=some (some (.ref f))) (l:K.lookup f=some ⟨oc,od,.func (PySem.W.fnOf m qn (aU st) (bM st) (aw st) .none kV dc pm an cd ct),sl⟩) (fn:PySem.W.isFn K (.ref f)=true) (c:PySem.W.codeIn K cd qn=true) (k:PySem.W.keepIn K (.ref f)=true):gY K C m qn st f:=⟨⟨_,kt l c k⟩,at_,fn,k⟩
structure qp (K:Fg) (x:Str) (C:Addr):Prop where
 a:PySem.W.nsIn K mainGlobals x=some (some (.ref C))
 cls:Cls K C
 mks:PySem.W.makesIn K C=true
 kp:PySem.W.keepIn K (.ref C)=true
theorem cc_mk {K:Fg} (a:PySem.W.nsIn K mainGlobals x=some (some (.ref C))) (pg:PySem.W.plainGet K C Str.empty=true) (hd:PySem.W.hasDictIn K C=true) (po:PySem.W.plainOver K C=true) (sa:PySem.W.findIn K (.ref C) "__setattr__" = some (some (.builtin "object.__setattr__"))) (mk:PySem.W.makesIn K C=true) (kp:PySem.W.keepIn K (.ref C)=true):qp K x C:=⟨a,⟨pg,hd,po,sa⟩,mk,kp⟩
structure vU (K:Fg) (x qn:Str) (st:Stmt) (bmB:List Value) (nw:String) (C fI:Addr):Prop where
 a:PySem.W.nsIn K mainGlobals x=some (some (.ref C))
 own:j9 K C fI bmB nw
 ini:∃ fd,Fun K "__init__" qn st fI fd
 st:eU K C
 fd:dR K C
 hh:PySem.W.hasDictIn K C=true
 ec:nJ K C
 kp:PySem.W.keepIn K (.ref C)=true
 me:PySem.W.mroIn K C (.ref C)=some true
theorem xc_mk {K:Fg} {x qn:Str} {st:Stmt} {bmB:List Value} {nw:String} {C fI:Addr} {nm q:Str} {N:Addr} {bs bm:List Value} {hdct:Bool} {sn:List Str} {sub:List Value} {ab:Bool} {col:Option Bool} {dd:Option Addr} {k0 k1 k2 k3 k5:Option Value} {od an:Option Addr} {sl:Array (Option Value)} {oc kV dc pm cd ct:Value}
 (a:PySem.W.nsIn K mainGlobals x=some (some (.ref C))) (l:K.lookup C=some (excClassObj nm q C N bs bm hdct sn sub ab col dd k0 k1 k2 k3 k5 nw)) (t:PySem.W.tailIn K bmB bm=true) (ini:PySem.W.findIn K (.ref C) "__init__" = some (some (.ref fI))) (fl:K.lookup fI=some ⟨oc,od,.func (PySem.W.fnOf "__init__" qn (aU st) (bM st) (aw st) .none kV dc pm an cd ct),sl⟩) (fn:PySem.W.isFn K (.ref fI)=true) (fc:PySem.W.codeIn K cd qn=true) (fk:PySem.W.keepIn K (.ref fI)=true)
 (ga:PySem.W.findIn K (.ref C) "__getattribute__" = some (some (.builtin "BaseException.__getattribute__"))) (gn:PySem.W.findIn K (.ref C) "__getattr__" = some none) (cl:PySem.W.findIn K (.ref C) "__class__" = some (some (.builtin "object.__class__"))) (sg:PySem.W.specialIn K (.builtin "object.__class__") "__get__" = some (some (.builtin "getset_descriptor.__get__"))) (tk:PySem.W.takesIn K (.builtin "object.__class__")=some true) (ob:PySem.W.mroIn K C (.type "object")=some true) (be:PySem.W.mroIn K C (.type "BaseException")=some true)
 (is:(PySem.W.clsIn K C).isSome=true) (kp:PySem.W.keepIn K (.ref C)=true) (tyC:PySem.W.typeIn K (.ref C)=some (.type "type")) (sa:PySem.W.findIn K (.ref C) "__setattr__" = some (some (.builtin "object.__setattr__"))) (ov:((PySem.W.clsIn K C).any fun cd=>fM veB cd.mro || fM exB cd.mro)=true) (hdc:((PySem.W.clsIn K C).any fun cd=>cd.hasDict)=true) (hh:PySem.W.hasDictIn K C=true) (me:PySem.W.mroIn K C (.ref C)=some true):vU K x qn st bmB nw C fI:=
 ⟨a,⟨⟨nm,q,N,bs,bm,hdct,sn,sub,ab,col,dd,k0,k1,k2,k3,k5,l,t⟩,ini,fn⟩,⟨_,kt fl fc fk⟩,⟨sa,ov,hdc,ob⟩,⟨ga,gn,cl,sg,tk,ob,be,is⟩,hh,⟨tyC,is,be⟩,kp,me⟩
def qQ (N:List Str) (nm:NK):List Stmt→List (Str×Nat)→Bool
 | [],[]=>true
 | .Assign [.Attribute (.Name s0 _) f _] (.Name x _) _ :: r,(g,i) :: l=>decide (f=g∧N[0]? = some s0∧N[i]? = some x) && cL nm s0 && cL nm x && !((s0 == ("__debug__":Str)) || (s0 == ("__classdict__":Str)) || (x == ("__debug__":Str)) || (x == ("__classdict__":Str))) && qQ N nm r l
 | _,_=>false
theorem qR {X:Cx} (hN:X.N=N) (hs:X.env.scope.names=nm):∀ {b l},qQ N nm b l=true→mw X b l
 | b,l,h=>by
   fun_induction qQ N nm b l with
   | case1=>exact .nil
   | case2 s0 _ f _ x _ _ r g i l ih=>
     simp only [Bool.and_eq_true,decide_eq_true_eq,Bool.not_eq_true'] at h
     obtain ⟨⟨⟨⟨⟨rfl,h1,h2⟩,h3⟩,h4⟩,h5⟩,h6⟩:=h
     exact .cons (hN ▸ h1) (hN ▸ h2) (bD hs h3) (bD hs h4) h5 (ih h6)
   | case3=>cases h
def dtC (st:Stmt) (nm:List Str):Bool:=fnC st && decide (jC st=bt st∧(bt st).length=nm.length+1∧nm.Nodup∧nm.length<900) && qQ (bt st) (aw st).names (bM st) (nm.zip (List.range' 1 nm.length))
theorem ib {X:Cx} {x qual:Str} {st:Stmt} {f:Addr} {fd:FuncData} {nm:List Str} (F:Fun X.K x qual st f fd) (h:dtC st nm=true):FnI X 1 f fd (bt st) nm∧bI X.K fd (bt st) []:=by
 unfold dtC at h
 simp only [Bool.and_eq_true,decide_eq_true_eq] at h
 obtain ⟨⟨h1,h2,h3,h4,h5⟩,h6⟩:=h
 obtain ⟨S,B⟩:=oN h1
 rw [h2] at S
 refine ⟨?_,B F⟩
 obtain ⟨oc,od,kV,doc,pm,an,cd,ct,osl,rfl,lk,hcd⟩:=F.ex
 exact ue (k:=0) lk hcd S h3 h4 h5 rfl fun A fr L=>qR rfl rfl h6
def GlL (K:Fg):List (Str×L2.Bk.Dk)→Prop
 | []=>True
 | p :: r=>(∃ u,PySem.W.nsIn K mainGlobals p.1=some (some u)∧aM K p.2 u=true)∧GlL K r
theorem gl_cons {K:Fg} (a:PySem.W.nsIn K mainGlobals x=some (some u)) (b:aM K d u=true) (t:GlL K r):GlL K ((x,d) :: r):=⟨⟨u,a,b⟩,t⟩
theorem GlL.at {K:Fg}:∀ {l} {j:Nat} {x:Str},GlL K l→(l.map (·.1))[j]? = some x→∃ d u,(l.map (·.2))[j]? = some d∧PySem.W.nsIn K mainGlobals x=some (some u)∧aM K d u=true
 | [],_,_,_,e=>by simp at e
 | p :: _,0,_,⟨⟨u,h⟩,_⟩,e=>by simp at e;subst e;exact ⟨_,u,rfl,h⟩
 | _ :: _,j+1,_,h,e=>GlL.at (j:=j) h.2 (by simpa using e)
def ka (K:Fg):List (Str×List (Str×L2.Bk.Dk))→Prop
 | []=>True
 | p :: r=>(∃ a,PySem.W.nsIn K mainGlobals p.1=some (some (.ref a))∧KTD.tabLook (aM K) (fun b=>K.lookup b) a p.2=true)∧ka K r
theorem tb_cons {K:Fg} {u:Addr} {d:List (Str×L2.Bk.Dk)} (a:PySem.W.nsIn K mainGlobals x=some (some (.ref u))) (b:KTD.tabLook (aM K) (fun b=>K.lookup b) u d=true) (t:ka K r):ka K ((x,d) :: r):=⟨⟨u,a,b⟩,t⟩
theorem ka.at {K:Fg}:∀ {l} {j:Nat} {x:Str},ka K l→(l.map (·.1))[j]? = some x→∃ t a,(l.map (·.2))[j]? = some t∧PySem.W.nsIn K mainGlobals x=some (some (.ref a))∧KTD.tabLook (aM K) (fun b=>K.lookup b) a t=true
 | [],_,_,_,e=>by simp at e
 | p :: _,0,_,⟨⟨u,h⟩,_⟩,e=>by simp at e;subst e;exact ⟨_,u,rfl,h⟩
 | _ :: _,j+1,_,h,e=>ka.at (j:=j) h.2 (by simpa using e)
def NoL (K:Fg):List Str→Prop
 | []=>True
 | x :: r=>PySem.W.nsIn K mainGlobals x=some none∧NoL K r
theorem nl_cons {K:Fg} (a:PySem.W.nsIn K mainGlobals x=some none) (t:NoL K r):NoL K (x :: r):=⟨a,t⟩
theorem NoL.at {K:Fg}:∀ {l},NoL K l→∀ x∈l,PySem.W.nsIn K mainGlobals x=some none
 | _ :: _,h,_,m=>(List.mem_cons.mp m).elim (fun e=>e ▸ h.1) (h.2.at _)
def NaL (K:Fg) (C:Addr):List Str→Prop
 | []=>True
 | x :: r=>PySem.W.findIn K (.ref C) x=some none∧NaL K C r
theorem NaL.at {K:Fg}:∀ {l},NaL K C l→∀ x∈l,PySem.W.findIn K (.ref C) x=some none
 | _ :: _,h,_,m=>(List.mem_cons.mp m).elim (fun e=>e ▸ h.1) (h.2.at _)
def KOf {K:Fg} {h:Heap} (_:K.In h):Fg:=K
theorem x9 {Γ:Gm} {cal cal1:Nat→List D→List O→Res}:ev Γ cal cal1 br (.v i) s=(match s.env[i]? with | some (some d)=>.ok d (if br then s else un s i) | _=>.bad):=rfl
inductive IT where
 | fin (o:am)
 | call (j:Nat) (ds:List D) (st:List O) (k:Res→IT)
 | call1 (j:Nat) (ds:List D) (st:List O) (k:Res→IT)
 | test (b:Bool) (k:Bool→IT)
 | opt (o:Option D) (k:D→IT)
 | sub (o:Out D) (k:D→Sta→IT)
 | subS (o:am) (k:am→IT)
def IT.bad:IT:=.fin .bad
def lcT (g:D→Sta→(Option D→Sta→IT)→IT):List D→List D→Sta→(D→Sta→IT)→IT
 | [],acc,s,k=>k (.lst acc) s
 | d :: r,acc,s,k=>g d s fun o s'=>match o with
   | some e=>.test (decide (acc.length<100000)) fun t=>if t then lcT g r (acc ++ [e]) s' k else .bad
   | none=>lcT g r acc s' k
def uf (g:D→Sta→(Sta→IT)→IT):List D→Sta→(Sta→IT)→IT
 | [],s,k=>k s
 | d :: r,s,k=>g d s fun s=>uf g r s k
def oS (st:List O) (p c:Nat):Bool:=match st[p]? with | some (.ins c' _)=>c' == c | _=>false
def ug (x y:D) (z:D):Option D:=match x,bo y with | .dic ks ds,some k=>some ((cf ks ds k).getD z) | _,_=>none
def uh (x y:D):Option D:=match x,y with
    | .tup l,.str k=>if l.length≤1000 then (oR k l 0).map fun j=>.int j else none
    | .lst l,.str k=>if l.length≤1000 then (oR k l 0).map fun j=>.int j else none
    | _,_=>none
def uj (Γ:Gm) (x:D) (js:List Nat):Option D:=match x with
    | .ins c _=>(Γ.cl[c]?).map fun k=>.bl (js.any fun j=>c == j || k.sup.contains j)
    | _=>none
section
variable (Γ:Gm) (cal cal1:Nat→List D→List O→Res) (lp:Bool)
mutual
noncomputable def evT (br:Bool):E→Sta→(D→Sta→IT)→(Nat→List D→Sta→IT)→IT
 | .v i,s,k,kx=>(match s.env[i]? with | some (some d)=>k d (if br then s else un s i) | _=>.bad)
 | .c d,s,k,kx=>k d s
 | .g j,s,k,kx=>(match Γ.gl[j]?.map toD with | some d=>k d s | none=>.bad)
 | .op o a b,s,k,kx=>evT true a s (fun x s=>evT true b s (fun y s=>.opt (opD o (look s.st x) (look s.st y)) fun d=>k d s) kx) kx
 | .isN a,s,k,kx=>evT true a s (fun x s=>k (.bl (jo x)) s) kx
 | .isNN a,s,k,kx=>evT true a s (fun x s=>k (.bl (!jo x)) s) kx
 | .neg a,s,k,kx=>evT true a s (fun x s=>match x with | .int i=>k (.int (-i)) s | _=>.bad) kx
 | .not a,s,k,kx=>evT true a s (fun x s=>match x with | .bl b=>k (.bl (!b)) s | _=>.bad) kx
 | .and a b,s,k,kx=>evT false a s (fun x s=>match x with | .bl t=>.test t fun t=>if t then evT false b s k kx else k (.bl false) s | _=>.bad) kx
 | .or a b,s,k,kx=>evT false a s (fun x s=>match x with | .bl t=>.test t fun t=>if t then k (.bl true) s else evT false b s k kx | _=>.bad) kx
 | .ite c a b,s,k,kx=>evT true c s (fun x s=>match x with | .bl t=>.test t fun t=>if t then evT false a s k kx else evT false b s k kx | _=>.bad) kx
 | .chain o p a b c,s,k,kx=>evT true a s (fun x s=>evT true b s (fun y s=>.opt (opD o (look s.st x) (look s.st y)) fun d=>match d with
   | .bl t=>.test t fun t=>if t then evT true c s (fun z s=>.opt (opD p (look s.st y) (look s.st z)) fun d=>k d s) kx else k (.bl false) s
   | _=>.bad) kx) kx
 | .ix a b,s,k,kx=>evT true a s (fun x s=>evT true b s (fun y s=>.opt (ixD (look s.st x) y) fun d=>k d s) kx) kx
 | .sl a lo hi,s,k,kx=>evT true a s (fun x s=>
  let k3:=fun l s=>(if bc hi then .opt (slO (look s.st x) l none) fun d=>k d s else evT true hi s (fun z s=>match z with | .int h=>.opt (slO (look s.st x) l (some h)) fun d=>k d s | _=>.bad) kx)
  if bc lo then k3 none s else evT true lo s (fun z s=>match z with | .int l=>k3 (some l) s | _=>.bad) kx) kx
 | .sl3 a lo hi,s,k,kx=>evT true a s (fun x s=>
  let k3:=fun l s=>(if bc hi then .opt (kW (look s.st x) l none) fun d=>k d s else evT true hi s (fun z s=>match z with | .int h=>.opt (kW (look s.st x) l (some h)) fun d=>k d s | _=>.bad) kx)
  if bc lo then k3 none s else evT true lo s (fun z s=>match z with | .int l=>k3 (some l) s | _=>.bad) kx) kx
 | .tget j e d,s,k,kx=>evT true e s (fun x s=>evT false d s (fun z s=>match Γ.tb[j]?,x with | some t,.str y=>k (((KTD.datumAt y t).map toD).getD z) s | _,_=>.bad) kx) kx
 | .newd j es,s,k,kx=>c6 false es s (fun l s=>.opt ((Γ.cl[j]?).bind fun k=>if k.what=1∧l.length=k.at_.length then some (D.ins j l) else none) fun d=>k d s) kx
 | .fld a f,s,k,kx=>evT true a s (fun x s=>.opt (ko Γ s.st x f) fun d=>k d s) kx
 | .tup es,s,k,kx=>c6 false es s (fun l s=>if l.length≤100000 then k (.tup l) s else .bad) kx
 | .lst es,s,k,kx=>c6 false es s (fun l s=>if l.length≤100000 then k (.lst l) s else .bad) kx
 | .newl es,s,k,kx=>c6 false es s (fun l s=>if l.length≤100000 then k (.ref s.st.length) ⟨s.env,s.ow,s.st ++ [.lst l]⟩ else .bad) kx
 | .call j es,s,k,kx=>c6 true es s (fun l s=>.call j l s.st fun r=>match r with | .ok d st=>k d (aft es s d st) | .exc c l st=>kx c l (drp es s st) | .bad=>.bad) kx
 | .hcall j es,s,k,kx=>c6 false es s (fun l s=>.test (bW l) fun t=>if t then .call j l [] fun r=>(match r with
  | .ok d _=>.test (noR d) fun t=>if t then k d s else .bad
  | .exc c l _=>.test (bW l) fun t=>if t then kx c l s else .bad
  | .bad=>.bad) else .bad) kx
 | .mth c j a es,s,k,kx=>evT true a s (fun x s=>match x with
   | .ref p=>.test (oS s.st p c) fun t=>if t then c6 true es s (fun l s=>.call j (.ref p :: l) s.st fun r=>match r with | .ok d st=>k d (aft es s d st) | .exc c l st=>kx c l (drp es s st) | .bad=>.bad) kx else .bad
   | _=>.bad) kx
 | .bi b es,s,k,kx=>c6 true es s (fun l s=>.opt (biD b (l.map (look s.st))) fun d=>k d s) kx
 | .tab j e,s,k,kx=>evT true e s (fun x s=>match Γ.tb[j]?,x with | some t,.str y=>.opt ((KTD.datumAt y t).map toD) fun d=>k d s | _,_=>.bad) kx
 | .tabin j e,s,k,kx=>evT true e s (fun x s=>match Γ.tb[j]?,x with | some t,.str y=>k (.bl (KTD.datumAt y t).isSome) s | _,_=>.bad) kx
 | .lc t one it elt cond,s,k,kx=>evT false it s (fun x s=>match x with
   | .lst ds=>if lp then .sub ((aN (fun d s'=>(match aD t one d s'.env with
    | some env=>(noX (ev Γ cal cal1 true cond ⟨env,[],s'.st⟩)).bind fun b s2=>(match b with
      | .bl true=>(noX (ev Γ cal cal1 false elt s2)).bind fun e s3=>.ok (some e) ⟨s3.env,[],s3.st⟩
      | .bl false=>.ok none ⟨s2.env,[],s2.st⟩
      | _=>.bad)
    | none=>.bad)) ds [] ⟨List.replicate t.length none ++ s.env,[],s.st⟩)) (fun d s'=>k d ⟨s.env,[],s'.st⟩)
     else lcT (fun d s' k'=>match aD t one d s'.env with
      | some env=>evT true cond ⟨env,[],s'.st⟩ (fun b s2=>match b with
        | .bl t=>.test t fun t=>if t then evT false elt s2 (fun e s3=>k' (some e) ⟨s3.env,[],s3.st⟩) (fun _ _ _=>.bad) else k' none ⟨s2.env,[],s2.st⟩
        | _=>.bad) (fun _ _ _=>.bad)
      | none=>.bad) ds [] ⟨List.replicate t.length none ++ s.env,[],s.st⟩ (fun d s'=>k d ⟨s.env,[],s'.st⟩)
   | _=>.bad) kx
 | .tand a b,s,k,kx=>evT true a s (fun x s=>match x with | .bl t=>.test t fun t=>if t then evT true b s k kx else k (.bl false) s | _=>.bad) kx
 | .tor a b,s,k,kx=>evT true a s (fun x s=>match x with | .bl t=>.test t fun t=>if t then k (.bl true) s else evT true b s k kx | _=>.bad) kx
 | .tnot a,s,k,kx=>evT true a s (fun x s=>match x with | .bl b=>k (.bl (!b)) s | _=>.bad) kx
 | .tv a,s,k,kx=>evT true a s (fun x s=>.opt ((sD (look s.st x)).map .bl) fun d=>k d s) kx
 | .it b es,s,k,kx=>c6 false es s (fun l s=>.opt ((itD b l).map .lst) fun d=>k d s) kx
 | .itv a,s,k,kx=>evT false a s (fun x s=>match qg x with | some l=>k (.lst l) s | none=>.bad) kx
 | .dic es,s,k,kx=>c6 false es s (fun l s=>.opt ((oh l).map fun p=>.dic p.1 p.2) fun d=>k d s) kx
 | .get a b c,s,k,kx=>evT true a s (fun x s=>.test (isDic (look s.st x)) fun t=>if t then evT true b s (fun y s=>evT false c s (fun z s=>.opt (ug (look s.st x) y z) fun d=>k d s) kx) kx else .bad) kx
 | .index a b,s,k,kx=>evT true a s (fun x s=>evT true b s (fun y s=>.opt (uh (look s.st x) y) fun d=>k d s) kx) kx
 | .join x a,s,k,kx=>evT true a s (fun y s=>.opt (oW x (look s.st y)) fun d=>k d s) kx
 | .fmt x a y,s,k,kx=>evT true a s (fun v s=>.opt (oM x v y) fun d=>k d s) kx
 | .dicc ks es,s,k,kx=>c6 false es s (fun l s=>.opt (lr ks l) fun d=>k d s) kx
 | .isX a js,s,k,kx=>evT true a s (fun x s=>.opt (uj Γ x js) fun d=>k d s) kx
 | .new j es,s,k,kx=>c6 true es s (fun l s=>(match Γ.cl[j]? with
   | some q=>if q.what=1 then (if l.length=q.at_.length then k (.ins j l) (drp es s s.st) else .bad) else if q.what=0 then .call1 q.init (.ref s.st.length :: l) (s.st ++ [.ins j []]) fun r=>(match r with
    | .ok .non st=>k (.ref s.st.length) (aft es s .non st)
    | _=>.bad)
     else .bad
   | none=>.bad)) kx
 | _,_,_,_=>.bad
noncomputable def c6 (br:Bool):E→Sta→(List D→Sta→IT)→(Nat→List D→Sta→IT)→IT
 | .nil,s,k,kx=>k [] s
 | .cons a r,s,k,kx=>evT br a s (fun x s=>c6 br r s (fun l s=>k (x :: l) s) kx) kx
 | _,_,_,_=>.bad
end
def exT:S→Sta→(Sta→IT)→(D→Sta→IT)→(Nat→List D→Sta→IT)→IT
 | .skip,s,kn,kr,kx=>kn s
 | .seq a b,s,kn,kr,kx=>exT a s (fun s=>exT b s kn kr kx) kr kx
 | .set i e,s,kn,kr,kx=>evT Γ cal cal1 lp false e s (fun d s=>kn (kS s i d (bb e))) kx
 | .setT l e,s,kn,kr,kx=>evT Γ cal cal1 lp false e s (fun d s=>match aD l false d s.env with | some env=>kn ⟨env,s.ow.filter fun i=>!l.contains i,s.st⟩ | none=>.bad) kx
 | .setR i es,s,kn,kr,kx=>c6 Γ cal cal1 lp false es s (fun l s=>if l.length≤100000 then kn ⟨s.env.set i (some (.ref s.st.length)),s.ow.filter (· != i),s.st ++ [.lst l]⟩ else .bad) kx
 | .ret e,s,kn,kr,kx=>evT Γ cal cal1 lp false e s kr kx
 | .ifs c a b,s,kn,kr,kx=>evT Γ cal cal1 lp true c s (fun x s=>match x with | .bl t=>.test t fun t=>if t then exT a s kn kr kx else exT b s kn kr kx | _=>.bad) kx
 | .drop e,s,kn,kr,kx=>evT Γ cal cal1 lp false e s (fun _ s=>kn s) kx
 | .app i e,s,kn,kr,kx=>if s.ow.contains i && isLst s.env[i]? then evT Γ cal cal1 lp false e s (fun d s=>if s.ow.contains i then (match s.env[i]? with
  | some (some (.lst l))=>.test (decide (l.length<100000)) fun t=>if t then kn ⟨s.env.set i (some (.lst (l ++ [d]))),s.ow,s.st⟩ else .bad
  | _=>.bad) else .bad) kx else .bad
 | .ext i e,s,kn,kr,kx=>if s.ow.contains i && isLst s.env[i]? then evT Γ cal cal1 lp false e s (fun d s=>if s.ow.contains i then (match s.env[i]?,d with
  | some (some (.lst l)),.lst x=>.test (decide (l.length+x.length≤100000)) fun t=>if t then kn ⟨s.env.set i (some (.lst (l ++ x))),s.ow,s.st⟩ else .bad
  | _,_=>.bad) else .bad) kx else .bad
 | .put (.v i) b e,s,kn,kr,kx=>evT Γ cal cal1 lp false e s (fun d s=>(match s.env[i]? with
  | some (some x)=>evT Γ cal cal1 lp true b s (fun y s=>(match x with
    | .ref n=>(match (s.st[n]?).bind fun o=>iL o y d with | some o=>kn ⟨s.env,s.ow,s.st.set n o⟩ | none=>.bad)
    | x=>if s.ow.contains i then .opt (kP x y d) fun y=>kn ⟨s.env.set i (some y),s.ow,s.st⟩ else .bad)) kx
  | _=>.bad)) kx
 | .rais j es,s,kn,kr,kx=>c6 Γ cal cal1 lp false es s (fun l s=>.test (gU Γ j l) fun t=>if t then kx j l s else .bad) kx
 | .try_ a hs,s,kn,kr,kx=>exT a s kn kr (fun c l s'=>hndT hs c l s' kn kr)
 | .for_ t one it b,s,kn,kr,kx=>evT Γ cal cal1 lp false it s (fun x s=>(match x with
  | .lst ds=>if lp then .subS (aQ (fun d s=>match aD t one d s.env with | some env=>exS Γ cal cal1 b ⟨env,s.ow.filter fun i=>!t.contains i,s.st⟩ | none=>.bad) ds s) (fun o=>match o with | .nx s=>kn s | .rt d s=>kr d s | .exc c l s=>kx c l s | .bad=>.bad)
    else uf (fun d s k=>match aD t one d s.env with | some env=>exT b ⟨env,s.ow.filter fun i=>!t.contains i,s.st⟩ k kr kx | none=>.bad) ds s kn
  | _=>.bad)) kx
 | c,s,kn,kr,kx=>.subS (exS Γ cal cal1 c s) (fun o=>match o with | .nx s=>kn s | .rt d s=>kr d s | .exc c l s=>kx c l s | .bad=>.bad)
where hndT:S→Nat→List D→Sta→(Sta→IT)→(D→Sta→IT)→IT
 | .hand j (some i) b _,c,l,s,kn,kr=>if ((Γ.cl[c]?).any fun k=>c == j || k.sup.contains j) then
  exT b ⟨s.env.set i (some (.ins c l)),s.ow.filter (· != i),s.st⟩ (fun s=>kn ⟨s.env.set i none,s.ow.filter (· != i),s.st⟩) kr (fun _ _ _=>.bad) else .bad
 | .hand j none b _,c,l,s,kn,kr=>if ((Γ.cl[c]?).any fun k=>c == j || k.sup.contains j) then exT b s kn kr (fun _ _ _=>.bad) else .bad
 | _,_,_,_,_,_=>.bad
def ac:IT→am
 | .fin o=>o
 | .call j ds st k=>ac (k (cal j ds st))
 | .call1 j ds st k=>ac (k (cal1 j ds st))
 | .test b k=>ac (k b)
 | .opt o k=>(match o with | some d=>ac (k d) | none=>.bad)
 | .sub o k=>(match o with | .ok d s=>ac (k d s) | _=>.bad)
 | .subS o k=>ac (k o)
end
def oc {α:Type} (x:Out α) (k:α→Sta→am) (kx:Nat→List D→Sta→am):am:=match x with
 | .ok a s=>k a s
 | .exc c l s=>kx c l s
 | .bad=>.bad
theorem aV :oc (x.bind f) k kx=oc x (fun a s=>oc (f a s) k kx) kx:=by cases x <;> rfl
theorem bT (h:∀ a s,k a s=k' a s):oc x k kx=oc x k' kx:=by cases x <;> first | exact h _ _ | rfl
theorem ag (h:∀ a s,g a s=oc (f a s) k kx):oc x g kx=oc (x.bind f) k kx:=by
 rw [aV];exact bT h
section
variable {Γ:Gm} {cal cal1:Nat→List D→List O→Res} {lp:Bool}
theorem bh {k:D→Sta→IT} :ac cal cal1 (.opt o fun d=>k d s)=oc (.of s o) (fun d s=>ac cal cal1 (k d s)) kx:=by cases o <;> rfl
theorem oQ [Decidable p] {k:D→Sta→IT} {kx:Nat→List D→Sta→am}:ac cal cal1 (if p then k d s else .bad)=oc (if p then .ok d s else .bad) (fun d s=>ac cal cal1 (k d s)) kx:=by split <;> rfl
theorem sX {k:D→Sta→IT} {kx:Nat→List D→Sta→IT}:ac cal cal1 (.call j l s.st fun r=>match r with | .ok d st=>k d (aft es s d st) | .exc c l st=>kx c l (drp es s st) | .bad=>.bad)=oc (gb cal es j l s) (fun d s=>ac cal cal1 (k d s)) (fun c l s=>ac cal cal1 (kx c l s)):=by
 show ac cal cal1 (match cal j l s.st with | .ok d st=>k d (aft es s d st) | .exc c l st=>kx c l (drp es s st) | .bad=>.bad)=_
 unfold gb
 cases cal j l s.st <;> rfl
theorem kD (h:∀ d s k,ac cal cal1 (g d s k)=oc (f d s) (fun o s=>ac cal cal1 (k o s)) (fun _ _ _=>.bad)):∀ (ds acc) (s) (k:D→Sta→IT),ac cal cal1 (lcT g ds acc s k)=oc (aN f ds acc s) (fun d s=>ac cal cal1 (k d s)) (fun _ _ _=>.bad)
 | [],acc,s,k=>rfl
 | d :: r,acc,s,k=>by
   show ac cal cal1 (g d s _)=oc ((f d s).bind _) _ _
   rw [h,aV]
   refine bT fun o s'=>?_
   cases o with
   | none=>exact kD h r acc s' k
   | some e=>
     dsimp only
     show ac cal cal1 (if decide (acc.length<100000)=true then lcT g r (acc ++ [e]) s' k else .bad)=_
     by_cases c:acc.length<100000
     ·rw [if_pos (decide_eq_true c),if_pos c];exact kD h r (acc ++ [e]) s' k
     ·rw [if_neg (by simpa using c),if_neg c];rfl
def nox:Out α→Prop
 | .exc _ _ _=>False
 | _=>True
theorem dE (h:∀ d s,nox (f d s)):∀ (ds acc) (s),nox (aN f ds acc s)
 | [],_,_=>trivial
 | d :: r,acc,s=>by
   have:=h d s
   show nox ((f d s).bind _)
   cases q:f d s with
   | bad=>trivial
   | exc c l s'=>rw [q] at this;exact this.elim
   | ok o s'=>
     cases o with
     | none=>exact dE h r acc s'
     | some e=>
       show nox (if acc.length<100000 then aN f r (acc ++ [e]) s' else .bad)
       split
       ·exact dE h r _ s'
       ·trivial
theorem ve (h:nox x):oc x k kx=oc x k kx':=by
 cases x with
 | exc c l s=>exact h.elim
 | _=>rfl
theorem pI :oc x k (fun _ _ _=>.bad)=oc (noX x) k (fun _ _ _=>.bad):=by cases x <;> rfl
theorem wD (n:nox x):ac cal cal1 (.sub x k)=oc x (fun d s=>ac cal cal1 (k d s)) kx:=by
 cases x with
 | exc c l s=>exact n.elim
 | _=>rfl
theorem wu :evT Γ cal cal1 lp br (.v i) s k kx=(match s.env[i]? with | some (some d)=>k d (if br then s else un s i) | _=>.bad):=rfl
theorem wt :evT Γ cal cal1 lp br (.g j) s k kx=(match Γ.gl[j]?.map toD with | some d=>k d s | none=>.bad):=rfl
theorem xZ :ev Γ cal cal1 br (.g j) s = .of s (Γ.gl[j]?.map toD):=rfl
theorem bw:∀ e:E,(∀ br s k kx,ac cal cal1 (evT Γ cal cal1 lp br e s k kx)=oc (ev Γ cal cal1 br e s) (fun d s=>ac cal cal1 (k d s)) (fun c l s=>ac cal cal1 (kx c l s))) ∧
 (∀ br s k kx,ac cal cal1 (c6 Γ cal cal1 lp br e s k kx)=oc (evs Γ cal cal1 br e s) (fun d s=>ac cal cal1 (k d s)) (fun c l s=>ac cal cal1 (kx c l s))):=by
 intro e
 induction e with
 | v i=>
   refine ⟨fun br s k kx=>?_,fun br s k kx=>rfl⟩
   rw [wu,x9]
   cases s.env[i]? with
   | none=>rfl
   | some o=>cases o <;> rfl
 | c d=>exact ⟨fun br s k kx=>rfl,fun br s k kx=>rfl⟩
 | g j=>
   refine ⟨fun br s k kx=>?_,fun br s k kx=>rfl⟩
   rw [wt,xZ]
   cases Γ.gl[j]?.map toD <;> rfl
 | op o a b iha ihb=>exact ⟨fun br s k kx=>(iha.1 _ _ _ _).trans (ag fun x s=>(ihb.1 _ _ _ _).trans (ag fun y s=>bh)),fun br s k kx=>rfl⟩
 | isN a ih=>exact ⟨fun br s k kx=>(ih.1 _ _ _ _).trans (ag fun x s=>rfl),fun br s k kx=>rfl⟩
 | isNN a ih=>exact ⟨fun br s k kx=>(ih.1 _ _ _ _).trans (ag fun x s=>rfl),fun br s k kx=>rfl⟩
 | neg a ih=>exact ⟨fun br s k kx=>(ih.1 _ _ _ _).trans (ag fun x s=>by cases x <;> rfl),fun br s k kx=>rfl⟩
 | not a ih=>exact ⟨fun br s k kx=>(ih.1 _ _ _ _).trans (ag fun x s=>by cases x <;> rfl),fun br s k kx=>rfl⟩
 | and a b iha ihb=>exact ⟨fun br s k kx=>(iha.1 _ _ _ _).trans (ag fun x s=>by
  cases x with
  | bl t=>cases t with
    | true=>exact ihb.1 _ _ _ _
    | false=>rfl
  | _=>rfl),fun br s k kx=>rfl⟩
 | or a b iha ihb=>exact ⟨fun br s k kx=>(iha.1 _ _ _ _).trans (ag fun x s=>by
  cases x with
  | bl t=>cases t with
    | false=>exact ihb.1 _ _ _ _
    | true=>rfl
  | _=>rfl),fun br s k kx=>rfl⟩
 | ite c a b ihc iha ihb=>exact ⟨fun br s k kx=>(ihc.1 _ _ _ _).trans (ag fun x s=>by
  cases x with
  | bl t=>cases t with
    | true=>exact iha.1 _ _ _ _
    | false=>exact ihb.1 _ _ _ _
  | _=>rfl),fun br s k kx=>rfl⟩
 | chain o p a b c iha ihb ihc=>exact ⟨fun br s k kx=>(iha.1 _ _ _ _).trans (ag fun x s=>(ihb.1 _ _ _ _).trans (ag fun y s=>by
  show ac cal cal1 (.opt (opD o (look s.st x) (look s.st y)) _)=_
  cases opD o (look s.st x) (look s.st y) with
  | none=>rfl
  | some d=>cases d with
    | bl t=>cases t with
      | true=>exact (ihc.1 _ _ _ _).trans (ag fun z s=>bh)
      | false=>rfl
    | _=>rfl)),fun br s k kx=>rfl⟩
 | ix a b iha ihb=>exact ⟨fun br s k kx=>(iha.1 _ _ _ _).trans (ag fun x s=>(ihb.1 _ _ _ _).trans (ag fun y s=>bh)),fun br s k kx=>rfl⟩
 | sl a lo hi iha ihl ihh=>
   refine ⟨fun br s k kx=>(iha.1 _ _ _ _).trans (ag fun x s=>?_),fun br s k kx=>rfl⟩
   have k3:∀ l s,ac cal cal1 (if bc hi then .opt (slO (look s.st x) l none) fun d=>k d s else evT Γ cal cal1 lp true hi s (fun z s=>match z with | .int h=>.opt (slO (look s.st x) l (some h)) fun d=>k d s | _=>.bad) kx)=oc ((if bc hi then .ok none s else (ev Γ cal cal1 true hi s).bind toI).bind fun h s=>.of s (slO (look s.st x) l h)) (fun d s=>ac cal cal1 (k d s)) (fun c l s=>ac cal cal1 (kx c l s)):=fun l s=>by
    by_cases c:bc hi=true
    ·rw [if_pos c,if_pos c];exact bh
    ·rw [if_neg c,if_neg c,ihh.1,aV,aV]
     exact bT fun z s=>by cases z <;> first | exact bh | rfl
   by_cases c:bc lo=true
   ·dsimp only
    rw [if_pos c,if_pos c];exact k3 none s
   ·dsimp only
    rw [if_neg c,if_neg c,ihl.1,aV,aV]
    exact bT fun z s=>by cases z <;> first | exact k3 _ s | rfl
 | sl3 a lo hi iha ihl ihh=>
   refine ⟨fun br s k kx=>(iha.1 _ _ _ _).trans (ag fun x s=>?_),fun br s k kx=>rfl⟩
   have k3:∀ l s,ac cal cal1 (if bc hi then .opt (kW (look s.st x) l none) fun d=>k d s else evT Γ cal cal1 lp true hi s (fun z s=>match z with | .int h=>.opt (kW (look s.st x) l (some h)) fun d=>k d s | _=>.bad) kx)=oc ((if bc hi then .ok none s else (ev Γ cal cal1 true hi s).bind toI).bind fun h s=>.of s (kW (look s.st x) l h)) (fun d s=>ac cal cal1 (k d s)) (fun c l s=>ac cal cal1 (kx c l s)):=fun l s=>by
    by_cases c:bc hi=true
    ·rw [if_pos c,if_pos c];exact bh
    ·rw [if_neg c,if_neg c,ihh.1,aV,aV]
     exact bT fun z s=>by cases z <;> first | exact bh | rfl
   by_cases c:bc lo=true
   ·dsimp only
    rw [if_pos c,if_pos c];exact k3 none s
   ·dsimp only
    rw [if_neg c,if_neg c,ihl.1,aV,aV]
    exact bT fun z s=>by cases z <;> first | exact k3 _ s | rfl
 | tget j a b iha ihb=>exact ⟨fun br s k kx=>(iha.1 _ _ _ _).trans (ag fun x s=>(ihb.1 _ _ _ _).trans (ag fun y s=>by cases Γ.tb[j]? <;> cases x <;> rfl)),fun br s k kx=>rfl⟩
 | newd j es ih=>exact ⟨fun br s k kx=>(ih.2 _ _ _ _).trans (ag fun l s=>bh),fun br s k kx=>rfl⟩
 | fld a f ih=>exact ⟨fun br s k kx=>(ih.1 _ _ _ _).trans (ag fun x s=>bh),fun br s k kx=>rfl⟩
 | tup es ih=>exact ⟨fun br s k kx=>(ih.2 _ _ _ _).trans (ag fun l s=>oQ),fun br s k kx=>rfl⟩
 | lst es ih=>exact ⟨fun br s k kx=>(ih.2 _ _ _ _).trans (ag fun l s=>oQ),fun br s k kx=>rfl⟩
 | newl es ih=>exact ⟨fun br s k kx=>(ih.2 _ _ _ _).trans (ag fun l s=>by by_cases c:l.length≤100000 <;> simp only [c,if_true,if_false] <;> rfl),fun br s k kx=>rfl⟩
 | nil=>exact ⟨fun br s k kx=>rfl,fun br s k kx=>rfl⟩
 | cons a r iha ihr=>exact ⟨fun br s k kx=>rfl,fun br s k kx=>(iha.1 _ _ _ _).trans (ag fun x s=>(ihr.2 _ _ _ _).trans (ag fun l s=>rfl))⟩
 | call j es ih=>exact ⟨fun br s k kx=>(ih.2 _ _ _ _).trans (ag fun l s=>sX),fun br s k kx=>rfl⟩
 | hcall j es ih=>exact ⟨fun br s k kx=>(ih.2 _ _ _ _).trans (ag fun l s=>by
  show ac cal cal1 (if bW l=true then _ else .bad)=oc (qO cal j l s) _ _
  unfold qO
  split
  ·show ac cal cal1 (match cal j l [] with | .ok d _=>_ | .exc c l _=>_ | .bad=>_)=_
   cases cal j l [] with
   | ok d st=>show ac cal cal1 (if noR d=true then _ else .bad)=_;dsimp only;split <;> rfl
   | exc c l st=>show ac cal cal1 (if bW l=true then _ else .bad)=_;dsimp only;split <;> rfl
   | bad=>rfl
  ·rfl),fun br s k kx=>rfl⟩
 | mth c j a es iha ih=>exact ⟨fun br s k kx=>(iha.1 _ _ _ _).trans (ag fun x s=>by
  cases x with
  | ref p=>
    show ac cal cal1 (if oS s.st p c=true then _ else .bad)=_
    unfold oS
    dsimp only
    cases s.st[p]? with
    | none=>rfl
    | some o=>cases o with
      | ins c' l'=>
        dsimp only
        by_cases e:c'=c
        ·rw [if_pos (by simpa using e),if_pos e]
         exact (ih.2 _ _ _ _).trans (ag fun l s=>sX)
        ·rw [if_neg (by simpa using e),if_neg e];rfl
      | _=>rfl
  | _=>rfl),fun br s k kx=>rfl⟩
 | bi b es ih=>exact ⟨fun br s k kx=>(ih.2 _ _ _ _).trans (ag fun l s=>bh),fun br s k kx=>rfl⟩
 | tab j a ih=>exact ⟨fun br s k kx=>(ih.1 _ _ _ _).trans (ag fun x s=>by cases Γ.tb[j]? <;> cases x <;> first | exact bh | rfl),fun br s k kx=>rfl⟩
 | tabin j a ih=>exact ⟨fun br s k kx=>(ih.1 _ _ _ _).trans (ag fun x s=>by cases Γ.tb[j]? <;> cases x <;> rfl),fun br s k kx=>rfl⟩
 | tand a b iha ihb=>exact ⟨fun br s k kx=>(iha.1 _ _ _ _).trans (ag fun x s=>by
  cases x with
  | bl t=>cases t with
    | true=>exact ihb.1 _ _ _ _
    | false=>rfl
  | _=>rfl),fun br s k kx=>rfl⟩
 | tor a b iha ihb=>exact ⟨fun br s k kx=>(iha.1 _ _ _ _).trans (ag fun x s=>by
  cases x with
  | bl t=>cases t with
    | false=>exact ihb.1 _ _ _ _
    | true=>rfl
  | _=>rfl),fun br s k kx=>rfl⟩
 | tnot a ih=>exact ⟨fun br s k kx=>(ih.1 _ _ _ _).trans (ag fun x s=>by cases x <;> rfl),fun br s k kx=>rfl⟩
 | tv a ih=>exact ⟨fun br s k kx=>(ih.1 _ _ _ _).trans (ag fun x s=>bh),fun br s k kx=>rfl⟩
 | it b es ih=>exact ⟨fun br s k kx=>(ih.2 _ _ _ _).trans (ag fun l s=>bh),fun br s k kx=>rfl⟩
 | itv a ih=>exact ⟨fun br s k kx=>(ih.1 _ _ _ _).trans (ag fun x s=>by cases qg x <;> rfl),fun br s k kx=>rfl⟩
 | dic es ih=>exact ⟨fun br s k kx=>(ih.2 _ _ _ _).trans (ag fun l s=>bh),fun br s k kx=>rfl⟩
 | get a b c iha ihb ihc=>exact ⟨fun br s k kx=>(iha.1 _ _ _ _).trans (ag fun x s=>by
  show ac cal cal1 (if isDic (look s.st x)=true then _ else .bad)=_
  split
  ·refine (ihb.1 _ _ _ _).trans (ag fun y s=>(ihc.1 _ _ _ _).trans (ag fun z s=>?_))
   show ac cal cal1 (.opt (ug (look s.st x) y z) _)=_
   unfold ug
   cases look s.st x <;> cases bo y <;> rfl
  ·rfl),fun br s k kx=>rfl⟩
 | index a b iha ihb=>exact ⟨fun br s k kx=>(iha.1 _ _ _ _).trans (ag fun x s=>(ihb.1 _ _ _ _).trans (ag fun y s=>by
  show ac cal cal1 (.opt (uh (look s.st x) y) _)=_
  unfold uh
  cases look s.st x <;> cases y <;> first | rfl | (dsimp only;split <;> first | exact bh | rfl))),fun br s k kx=>rfl⟩
 | join x a ih=>exact ⟨fun br s k kx=>(ih.1 _ _ _ _).trans (ag fun y s=>bh),fun br s k kx=>rfl⟩
 | fmt x a y ih=>exact ⟨fun br s k kx=>(ih.1 _ _ _ _).trans (ag fun v s=>bh),fun br s k kx=>rfl⟩
 | dicc ks es ih=>exact ⟨fun br s k kx=>(ih.2 _ _ _ _).trans (ag fun l s=>bh),fun br s k kx=>rfl⟩
 | isX a js ih=>exact ⟨fun br s k kx=>(ih.1 _ _ _ _).trans (ag fun x s=>by
  show ac cal cal1 (.opt (uj Γ x js) _)=_
  unfold uj
  cases x <;> first | exact bh | rfl),fun br s k kx=>rfl⟩
 | lc t one it elt cond ihi ihe ihc=>
   refine ⟨fun br s k kx=>(ihi.1 _ _ _ _).trans (ag fun x s=>?_),fun br s k kx=>rfl⟩
   cases x with
   | lst ds=>
     dsimp only
     have nx:∀ (d:D) (s':Sta),nox (match aD t one d s'.env with
      | some env=>(noX (ev Γ cal cal1 true cond ⟨env,[],s'.st⟩)).bind fun b s2=>(match b with
        | .bl true=>(noX (ev Γ cal cal1 false elt s2)).bind fun e s3=>.ok (some e) ⟨s3.env,[],s3.st⟩
        | .bl false=>.ok none ⟨s2.env,[],s2.st⟩
        | _=>.bad)
      | none=>Out.bad):=fun d s'=>by
      cases aD t one d s'.env with
      | none=>trivial
      | some env=>
        dsimp only
        cases ev Γ cal cal1 true cond ⟨env,[],s'.st⟩ with
        | ok b s2=>cases b with
          | bl b=>cases b with
            | true=>
              show nox ((noX (ev Γ cal cal1 false elt s2)).bind _)
              cases ev Γ cal cal1 false elt s2 <;> trivial
            | false=>trivial
          | _=>trivial
        | _=>trivial
     cases lp with
     | true=>
       rw [if_pos rfl,aV]
       have n2:=dE nx ds [] ⟨List.replicate t.length none ++ s.env,[],s.st⟩
       exact wD n2
     | false=>
       rw [if_neg Bool.false_ne_true,aV]
       refine (kD (f:=fun d s'=>(match aD t one d s'.env with
        | some env=>(noX (ev Γ cal cal1 true cond ⟨env,[],s'.st⟩)).bind fun b s2=>(match b with
          | .bl true=>(noX (ev Γ cal cal1 false elt s2)).bind fun e s3=>.ok (some e) ⟨s3.env,[],s3.st⟩
          | .bl false=>.ok none ⟨s2.env,[],s2.st⟩
          | _=>.bad)
        | none=>.bad)) (fun d s' k'=>?_) ds [] _ _).trans ?_
       ·cases aD t one d s'.env with
        | none=>rfl
        | some env=>
          dsimp only
          refine (ihc.1 _ _ _ _).trans ?_
          show oc (ev Γ cal cal1 true cond ⟨env,[],s'.st⟩) _ (fun _ _ _=>.bad)=_
          rw [pI]
          refine ag fun b s2=>?_
          cases b with
          | bl b=>cases b with
            | true=>
              refine (ihe.1 _ _ _ _).trans ?_
              show oc (ev Γ cal cal1 false elt s2) _ (fun _ _ _=>.bad)=_
              rw [pI]
              exact ag fun e s3=>rfl
            | false=>rfl
          | _=>rfl
       ·exact ve (dE nx ds [] _)
   | _=>rfl
 | new j es ih=>exact ⟨fun br s k kx=>(ih.2 _ _ _ _).trans (ag fun l s=>by
  cases Γ.cl[j]? with
  | none=>rfl
  | some q=>
    dsimp only
    by_cases c1:q.what=1
    ·rw [if_pos c1,if_pos c1];exact oQ
    ·rw [if_neg c1,if_neg c1]
     by_cases c0:q.what=0
     ·rw [if_pos c0,if_pos c0]
      show ac cal cal1 (match cal1 q.init (.ref s.st.length :: l) (s.st ++ [.ins j []]) with | .ok .non st=>k (.ref s.st.length) (aft es s .non st) | _=>.bad)=_
      cases cal1 q.init (.ref s.st.length :: l) (s.st ++ [.ins j []]) with
      | ok d st=>cases d <;> rfl
      | _=>rfl
     ·rw [if_neg c0,if_neg c0];rfl),fun br s k kx=>rfl⟩
end
def sc (x:am) (kn:Sta→am) (kr:D→Sta→am) (kx:Nat→List D→Sta→am):am:=match x with
 | .nx s=>kn s
 | .rt d s=>kr d s
 | .exc c l s=>kx c l s
 | .bad=>.bad
theorem xp :sc (x.go f) kn kr kx=oc x (fun a s=>sc (f a s) kn kr kx) kx:=by cases x <;> rfl
theorem aW (h:∀ a s,g a s=sc (f a s) kn kr kx):oc x g kx=sc (x.go f) kn kr kx:=by
 rw [xp];exact bT h
theorem pX :sc (x.go f) kn kr kx=sc x (fun s=>sc (f s) kn kr kx) kr kx:=by cases x <;> rfl
theorem jS (h:∀ s,kn s=kn' s) (h2:∀ c l s,kx c l s=kx' c l s):sc x kn kr kx=sc x kn' kr kx':=by cases x <;> first | exact h _ | exact h2 _ _ _ | rfl
section
variable {Γ:Gm} {cal cal1:Nat→List D→List O→Res} {lp:Bool}
theorem lE (h:∀ d s k,ac cal cal1 (g d s k)=sc (f d s) (fun s=>ac cal cal1 (k s)) kr kx):∀ (ds) (s) (k:Sta→IT),ac cal cal1 (uf g ds s k)=sc (aQ f ds s) (fun s=>ac cal cal1 (k s)) kr kx
 | [],s,k=>rfl
 | d :: r,s,k=>by
   show ac cal cal1 (g d s _)=sc ((f d s).go _) _ _ _
   rw [h,pX]
   exact jS (fun s=>lE h r s k) fun _ _ _=>rfl
theorem df {kn:Sta→IT} {kr:D→Sta→IT} {kx:Nat→List D→Sta→IT}:ac cal cal1 (.subS x (fun o=>match o with | .nx s=>kn s | .rt d s=>kr d s | .exc c l s=>kx c l s | .bad=>.bad))=sc x (fun s=>ac cal cal1 (kn s)) (fun d s=>ac cal cal1 (kr d s)) (fun c l s=>ac cal cal1 (kx c l s)):=by cases x <;> rfl
theorem wC {g:D→Sta} {kn:Sta→IT} {kr:D→Sta→am} {kx:Nat→List D→Sta→am}:ac cal cal1 (.opt o fun y=>kn (g y))=sc (match o with | some y=>.nx (g y) | none=>.bad) (fun s=>ac cal cal1 (kn s)) kr kx:=by cases o <;> rfl
theorem qL :exT Γ cal cal1 lp (.app i e) s kn kr kx=(if s.ow.contains i && isLst s.env[i]? then evT Γ cal cal1 lp false e s (fun d s=>if s.ow.contains i then (match s.env[i]? with
 | some (some (.lst l))=>.test (decide (l.length<100000)) fun t=>if t then kn ⟨s.env.set i (some (.lst (l ++ [d]))),s.ow,s.st⟩ else .bad
 | _=>.bad) else .bad) kx else .bad):=rfl
theorem qJ :exS Γ cal cal1 (.app i e) s=(if s.ow.contains i && isLst s.env[i]? then (ev Γ cal cal1 false e s).go fun d s=>if s.ow.contains i then (match s.env[i]? with
 | some (some (.lst l))=>if l.length<100000 then .nx ⟨s.env.set i (some (.lst (l ++ [d]))),s.ow,s.st⟩ else .bad
 | _=>.bad) else .bad else .bad):=rfl
theorem qM :exT Γ cal cal1 lp (.ext i e) s kn kr kx=(if s.ow.contains i && isLst s.env[i]? then evT Γ cal cal1 lp false e s (fun d s=>if s.ow.contains i then (match s.env[i]?,d with
 | some (some (.lst l)),.lst x=>.test (decide (l.length+x.length≤100000)) fun t=>if t then kn ⟨s.env.set i (some (.lst (l ++ x))),s.ow,s.st⟩ else .bad
 | _,_=>.bad) else .bad) kx else .bad):=rfl
theorem qK :exS Γ cal cal1 (.ext i e) s=(if s.ow.contains i && isLst s.env[i]? then (ev Γ cal cal1 false e s).go fun d s=>if s.ow.contains i then (match s.env[i]?,d with
 | some (some (.lst l)),.lst x=>if l.length+x.length≤100000 then .nx ⟨s.env.set i (some (.lst (l ++ x))),s.ow,s.st⟩ else .bad
 | _,_=>.bad) else .bad else .bad):=rfl
theorem sY {kn:Sta→IT} {kr:D→Sta→am} {kx:Nat→List D→Sta→am} {c:Prop} [Decidable c] {z:Sta}:ac cal cal1 (.test (decide c) fun t=>if t then kn z else .bad)=sc (if c then .nx z else .bad) (fun s=>ac cal cal1 (kn s)) kr kx:=by
 show ac cal cal1 (if decide c=true then _ else .bad)=_
 by_cases h:c
 ·rw [if_pos (decide_eq_true h),if_pos h];rfl
 ·rw [if_neg (by simpa using h),if_neg h];rfl
theorem oF:∀ c:S,(∀ s kn kr kx,ac cal cal1 (exT Γ cal cal1 lp c s kn kr kx)=sc (exS Γ cal cal1 c s) (fun s=>ac cal cal1 (kn s)) (fun d s=>ac cal cal1 (kr d s)) (fun c l s=>ac cal cal1 (kx c l s))) ∧
 (∀ c' l s kn kr kx,ac cal cal1 (exT.hndT Γ cal cal1 lp c c' l s kn kr)=sc (exS.hnd Γ cal cal1 c c' l s) (fun s=>ac cal cal1 (kn s)) (fun d s=>ac cal cal1 (kr d s)) kx):=by
 intro c
 have hb:∀ {c:S},(∀ c' l s kn kr,exT.hndT Γ cal cal1 lp c c' l s kn kr = .bad)→(∀ c' l s,exS.hnd Γ cal cal1 c c' l s = .bad)→(∀ c' l s kn kr (kx:Nat→List D→Sta→am),ac cal cal1 (exT.hndT Γ cal cal1 lp c c' l s kn kr)=sc (exS.hnd Γ cal cal1 c c' l s) (fun s=>ac cal cal1 (kn s)) (fun d s=>ac cal cal1 (kr d s)) kx):=fun h1 h2 c' l s kn kr kx=>by rw [h1,h2];rfl
 induction c with
 | skip=>exact ⟨fun s kn kr kx=>rfl,hb (fun _ _ _ _ _=>rfl) fun _ _ _=>rfl⟩
 | seq a b iha ihb=>
   refine ⟨fun s kn kr kx=>(iha.1 _ _ _ _).trans ?_,hb (fun _ _ _ _ _=>rfl) fun _ _ _=>rfl⟩
   show _=sc ((exS Γ cal cal1 a s).go fun s=>exS Γ cal cal1 b s) _ _ _
   rw [pX]
   exact jS (fun s=>ihb.1 _ _ _ _) fun _ _ _=>rfl
 | set i e=>exact ⟨fun s kn kr kx=>((bw e).1 _ _ _ _).trans (aW fun d s=>rfl),hb (fun _ _ _ _ _=>rfl) fun _ _ _=>rfl⟩
 | setT l e=>exact ⟨fun s kn kr kx=>((bw e).1 _ _ _ _).trans (aW fun d s=>by cases aD l false d s.env <;> rfl),hb (fun _ _ _ _ _=>rfl) fun _ _ _=>rfl⟩
 | setR i es=>exact ⟨fun s kn kr kx=>((bw es).2 _ _ _ _).trans (aW fun l s=>by by_cases c:l.length≤100000 <;> simp only [c,if_true,if_false] <;> rfl),hb (fun _ _ _ _ _=>rfl) fun _ _ _=>rfl⟩
 | ret e=>exact ⟨fun s kn kr kx=>((bw e).1 _ _ _ _).trans (aW fun d s=>rfl),hb (fun _ _ _ _ _=>rfl) fun _ _ _=>rfl⟩
 | ifs c a b iha ihb=>exact ⟨fun s kn kr kx=>((bw c).1 _ _ _ _).trans (aW fun x s=>by
  cases x with
  | bl t=>cases t with
    | true=>exact iha.1 _ _ _ _
    | false=>exact ihb.1 _ _ _ _
  | _=>rfl),hb (fun _ _ _ _ _=>rfl) fun _ _ _=>rfl⟩
 | drop e=>exact ⟨fun s kn kr kx=>((bw e).1 _ _ _ _).trans (aW fun d s=>rfl),hb (fun _ _ _ _ _=>rfl) fun _ _ _=>rfl⟩
 | app i e=>
   refine ⟨fun s kn kr kx=>?_,hb (fun _ _ _ _ _=>rfl) fun _ _ _=>rfl⟩
   rw [qL,qJ]
   split
   ·refine ((bw e).1 _ _ _ _).trans (aW fun d s=>?_)
    split
    ·split <;> first | exact sY | rfl
    ·rfl
   ·rfl
 | ext i e=>
   refine ⟨fun s kn kr kx=>?_,hb (fun _ _ _ _ _=>rfl) fun _ _ _=>rfl⟩
   rw [qM,qK]
   split
   ·refine ((bw e).1 _ _ _ _).trans (aW fun d s=>?_)
    split
    ·split <;> first | exact sY | rfl
    ·rfl
   ·rfl
 | put a b e=>
   refine ⟨fun s kn kr kx=>?_,hb (fun _ _ _ _ _=>rfl) fun _ _ _=>rfl⟩
   cases a with
   | v i=>
     refine ((bw e).1 _ _ _ _).trans (aW fun d s=>?_)
     cases s.env[i]? with
     | none=>rfl
     | some o=>cases o with
       | none=>rfl
       | some x=>
         refine ((bw b).1 _ _ _ _).trans (aW fun y s=>?_)
         cases x with
         | ref n=>
           dsimp only
           cases (s.st[n]?).bind fun o=>iL o y d <;> rfl
         | _=>
           dsimp only
           split
           ·exact wC
           ·rfl
   | _=>exact df
 | fld a f e=>exact ⟨fun s kn kr kx=>df,hb (fun _ _ _ _ _=>rfl) fun _ _ _=>rfl⟩
 | aug a f o e=>exact ⟨fun s kn kr kx=>df,hb (fun _ _ _ _ _=>rfl) fun _ _ _=>rfl⟩
 | fapp a f e=>exact ⟨fun s kn kr kx=>df,hb (fun _ _ _ _ _=>rfl) fun _ _ _=>rfl⟩
 | for_ t one it b ih=>
   refine ⟨fun s kn kr kx=>((bw it).1 _ _ _ _).trans (aW fun x s=>?_),hb (fun _ _ _ _ _=>rfl) fun _ _ _=>rfl⟩
   cases x with
   | lst ds=>
     dsimp only
     cases lp with
     | true=>rw [if_pos rfl];exact df
     | false=>
       rw [if_neg Bool.false_ne_true]
       refine lE (fun d s k=>?_) ds s kn
       cases aD t one d s.env with
       | none=>rfl
       | some env=>exact ih.1 _ _ _ _
   | _=>rfl
 | whl c b ih=>exact ⟨fun s kn kr kx=>df,hb (fun _ _ _ _ _=>rfl) fun _ _ _=>rfl⟩
 | rais j es=>
   refine ⟨fun s kn kr kx=>((bw es).2 _ _ _ _).trans (aW fun l s=>?_),hb (fun _ _ _ _ _=>rfl) fun _ _ _=>rfl⟩
   show ac cal cal1 (if gU Γ j l=true then kx j l s else .bad)=_
   split <;> rfl
 | try_ a h iha ihh=>
   refine ⟨fun s kn kr kx=>(iha.1 _ _ _ _).trans ?_,hb (fun _ _ _ _ _=>rfl) fun _ _ _=>rfl⟩
   show _=sc (match exS Γ cal cal1 a s with | .exc c l s'=>exS.hnd Γ cal cal1 h c l s' | r=>r) _ _ _
   cases exS Γ cal cal1 a s with
   | exc c l s'=>exact ihh.2 _ _ _ _ _ _
   | _=>rfl
 | hand j i b r ihb ihr=>
   refine ⟨fun s kn kr kx=>df,fun c' l s kn kr kx=>?_⟩
   cases i with
   | none=>
     show ac cal cal1 (if _ then _ else _)=sc (if _ then _ else _) _ _ _
     split
     ·refine (ihb.1 _ _ _ _).trans ?_
      cases exS Γ cal cal1 b s <;> rfl
     ·rfl
   | some i=>
     show ac cal cal1 (if _ then _ else _)=sc (if _ then _ else _) _ _ _
     split
     ·refine (ihb.1 _ _ _ _).trans ?_
      cases exS Γ cal cal1 b ⟨s.env.set i (some (.ins c' l)),s.ow.filter (· != i),s.st⟩ <;> rfl
     ·rfl
inductive An where
 | r (r:Res) | t (n:Nat) (b:Bool) | o (n:Nat) (d:D) | e (d:D) (s:Sta) | x (o:am)
end
section
variable (cal cal1:Nat→List D→List O→Res)
def trc:IT→List An→Prop×am
 | .fin o,[]=>(True,o)
 | .fin o,_=>(False,o)
 | .call j ds st k,.r a :: l=>((cal j ds st=a)∧(trc (k a) l).1,(trc (k a) l).2)
 | .call1 j ds st k,.r a :: l=>((cal1 j ds st=a)∧(trc (k a) l).1,(trc (k a) l).2)
 | .test b k,.t 0 a :: l=>((b=a)∧(trc (k a) l).1,(trc (k a) l).2)
 | .test b k,.t (n+1) a :: l=>trc (k b) (.t n a :: l)
 | .test b k,.o (n+1) a :: l=>trc (k b) (.o n a :: l)
 | .test b k,l=>trc (k b) l
 | .opt o k,.o 0 a :: l=>((o=some a)∧(trc (k a) l).1,(trc (k a) l).2)
 | .opt (some d) k,.o (n+1) a :: l=>trc (k d) (.o n a :: l)
 | .opt (some d) k,.t (n+1) a :: l=>trc (k d) (.t n a :: l)
 | .opt (some d) k,l=>trc (k d) l
 | .sub o k,.e d s :: l=>((o = .ok d s)∧(trc (k d s) l).1,(trc (k d s) l).2)
 | .subS o k,.x a :: l=>((o=a)∧(trc (k a) l).1,(trc (k a) l).2)
 | _,_=>(False,.bad)
theorem kY:∀ (t) (l),(trc cal cal1 t l).1→ac cal cal1 t=(trc cal cal1 t l).2:=by
 intro t
 induction t with
 | fin o=>intro l h;cases l <;> first | rfl | exact h.elim
 | call j ds st k ih=>
   intro l h
   cases l with
   | nil=>exact h.elim
   | cons a l=>cases a with
     | r a=>obtain ⟨h1,h2⟩:=h;have:=ih a l h2;rw [← h1] at this ⊢;show ac cal cal1 (k (cal j ds st))=_;rw [h1] at this ⊢;exact this
     | _=>exact h.elim
 | call1 j ds st k ih=>
   intro l h
   cases l with
   | nil=>exact h.elim
   | cons a l=>cases a with
     | r a=>obtain ⟨h1,h2⟩:=h;show ac cal cal1 (k (cal1 j ds st))=_;rw [h1];exact ih a l h2
     | _=>exact h.elim
 | test b k ih=>
   intro l h
   show ac cal cal1 (k b)=_
   cases l with
   | nil=>exact ih b _ h
   | cons a l=>cases a with
     | t n a=>cases n with
       | zero=>obtain ⟨h1,h2⟩:=h;rw [h1];exact ih a l h2
       | succ n=>exact ih b _ h
     | o n a=>cases n with
       | zero=>exact ih b _ h
       | succ n=>exact ih b _ h
     | _=>exact ih b _ h
 | opt o k ih=>
   intro l h
   cases l with
   | nil=>cases o with
     | none=>exact h.elim
     | some d=>exact ih d _ h
   | cons a l=>cases a with
     | o n a=>cases n with
       | zero=>obtain ⟨rfl,h2⟩:=h;exact ih a l h2
       | succ n=>cases o with
         | none=>exact h.elim
         | some d=>exact ih d _ h
     | t n a=>cases n with
       | zero=>cases o with
         | none=>exact h.elim
         | some d=>exact ih d _ h
       | succ n=>cases o with
         | none=>exact h.elim
         | some d=>exact ih d _ h
     | _=>cases o with
        | none=>exact h.elim
        | some d=>exact ih d _ h
 | sub o k ih=>
   intro l h
   cases l with
   | nil=>exact h.elim
   | cons a l=>cases a with
     | e d s=>obtain ⟨rfl,h2⟩:=h;exact ih d s l h2
     | _=>exact h.elim
 | subS o k ih=>
   intro l h
   cases l with
   | nil=>exact h.elim
   | cons a l=>cases a with
     | x a=>obtain ⟨h1,h2⟩:=h;show ac cal cal1 (k o)=_;rw [h1];exact ih a l h2
     | _=>exact h.elim
end
def xl:am→Res
 | .nx s=>.ok .non s.st
 | .rt d s=>.ok d s.st
 | .exc c l s=>.exc c l s.st
 | .bad=>.bad
def sk (Γ:Gm) (cal cal1:Nat→List D→List O→Res) (lp:Bool) (j:Nat) (ds:List D) (st:List O) (l:List An):Prop×Res:=match Γ.fn[j]? with
 | some f=>if ds.length=f.np then
  (fun p=>(p.1,xl p.2)) (trc cal cal1 (exT Γ cal cal1 lp f.body ⟨ds.map some ++ List.replicate (f.ns - f.np) none,[],st⟩ (fun s=>.fin (.nx s)) (fun d s=>.fin (.rt d s)) (fun c l s=>.fin (.exc c l s))) l)
   else (False,.bad)
 | none=>(False,.bad)
theorem vy {st:List O} (l:List An) {P:Prop} {r:Res} (hp:P) (h:sk Γ cal cal1 lp j ds st l=(P,r)):jR Γ cal cal1 j ds st=r:=by
 unfold sk at h
 unfold jR
 cases q:Γ.fn[j]? with
 | none=>rw [q] at h;have t:False=P:=congrArg Prod.fst h;exact (Eq.mpr t hp:False).elim
 | some f=>
   rw [q] at h
   dsimp only at h ⊢
   by_cases c:ds.length=f.np
   ·rw [if_pos c] at h ⊢
    have h1:=congrArg Prod.fst h
    have h2:=congrArg Prod.snd h
    dsimp only at h1 h2
    have t:=kY cal cal1 _ l (h1 ▸ hp)
    rw [(oF f.body).1] at t
    rw [← h2,← t]
    cases exS Γ cal cal1 f.body ⟨ds.map some ++ List.replicate (f.ns - f.np) none,[],st⟩ <;> rfl
   ·rw [if_neg c] at h;have t:False=P:=congrArg Prod.fst h;exact (Eq.mpr t hp:False).elim
theorem aa (lp) {st:List O} (l:List An) {P:Prop} {r:Res} (hp:P) (h:sk Γ (af Γ n) (aE Γ n) lp j ds st l=(P,r)):af Γ (n+1) j ds st=r:=vy l hp h
theorem bv (lp) (l) {P:Prop} {o:am} (hp:P) (h:trc cal cal1 (exT Γ cal cal1 lp c s (fun s=>.fin (.nx s)) (fun d s=>.fin (.rt d s)) (fun c l s=>.fin (.exc c l s))) l=(P,o)):exS Γ cal cal1 c s=o:=by
 have h1:=congrArg Prod.fst h
 have h2:=congrArg Prod.snd h
 dsimp only at h1 h2
 have t:=kY cal cal1 _ l (h1 ▸ hp)
 rw [(oF c).1,h2] at t
 rw [← t]
 cases exS Γ cal cal1 c s <;> rfl
def xe:am→Out D
 | .rt d s=>.ok d s
 | .exc c l s=>.exc c l s
 | _=>.bad
theorem d9 (lp) (l) {P:Prop} {o:Out D} (hp:P) (h:(fun p:Prop×am=>(p.1,xe p.2)) (trc cal cal1 (evT Γ cal cal1 lp br e s (fun d s=>.fin (.rt d s)) (fun c l s=>.fin (.exc c l s))) l)=(P,o)):ev Γ cal cal1 br e s=o:=by
 have h1:=congrArg Prod.fst h
 have h2:=congrArg Prod.snd h
 dsimp only at h1 h2
 have t:=kY cal cal1 _ l (h1 ▸ hp)
 rw [(bw e).1] at t
 rw [← h2,← t]
 cases ev Γ cal cal1 br e s <;> rfl
theorem cg (h:f d s = .nx s1) (h2:aQ f r s1=o):aQ f (d :: r) s=o:=by
 show (f d s).go _=o
 rw [h];exact h2
theorem dq (h:f d s=o) (n:∀ s,o≠.nx s):aQ f (d :: r) s=o:=by
 show (f d s).go _=o
 rw [h]
 cases o with
 | nx s=>exact absurd rfl (n s)
 | _=>rfl
theorem b7 (h:f d s = .ok (some e) s1) (ha:acc.length<100000) (h2:aN f r (acc ++ [e]) s1=o):aN f (d :: r) acc s=o:=by
 show (f d s).bind _=o
 rw [h]
 show (if acc.length<100000 then aN f r (acc ++ [e]) s1 else .bad)=o
 rw [if_pos ha];exact h2
theorem rc (h:f d s = .ok none s1) (h2:aN f r acc s1=o):aN f (d :: r) acc s=o:=by
 show (f d s).bind _=o
 rw [h];exact h2
def ey:S→S
 | .seq a b=>(match ey a with | .skip=>ey b | x=>x)
 | .ifs _ a b=>(match ey a with | .skip=>ey b | x=>x)
 | .for_ _ _ _ b=>b
 | _=>.skip
def toR:am→Res
 | .nx s=>.ok .non s.st
 | .rt d s=>.ok d s.st
 | .exc c l s=>.exc c l s.st
 | .bad=>.bad
def hdS:Nat→S→S
 | 0,.seq a _=>a
 | n+1,.seq a b=>.seq a (hdS n b)
 | _,s=>s
def tlS:Nat→S→S
 | 0,.seq _ b=>b
 | n+1,.seq _ b=>tlS n b
 | _,_=>.skip
theorem sW (x:am):(x.go fun s=>.nx s)=x:=by cases x <;> rfl
theorem mJ (n:Nat) (c:S) (s:Sta):exS Γ cal cal1 c s=(exS Γ cal cal1 (hdS n c) s).go fun s=>exS Γ cal cal1 (tlS n c) s:=by
 induction n generalizing c s with
 | zero=>cases c <;> first | rfl | exact (sW _).symm
 | succ n ih=>
   cases c with
   | seq a b=>
     show (exS Γ cal cal1 a s).go _=((exS Γ cal cal1 a s).go fun s=>exS Γ cal cal1 (hdS n b) s).go _
     cases exS Γ cal cal1 a s with
     | nx s=>exact ih b s
     | _=>rfl
   | _=>exact (sW _).symm
theorem ao (lp) (l) {P:Prop} {r:Res} (hp:P) (h:(fun p:Prop×am=>(p.1,toR p.2)) (trc cal cal1 (exT Γ cal cal1 lp c s (fun s=>.fin (.nx s)) (fun d s=>.fin (.rt d s)) (fun c l s=>.fin (.exc c l s))) l)=(P,r)):toR (exS Γ cal cal1 c s)=r:=by
 have h1:=congrArg Prod.fst h
 have h2:=congrArg Prod.snd h
 dsimp only at h1 h2
 rw [← h2]
 exact congrArg toR (bv lp l (h1 ▸ hp) rfl)
theorem aO {n:Nat} {ds:List D} {st:List O} {r:Res} (k:Nat) (f:Fn) {s':Sta} (hf:Γ.fn[j]? = some f) (hl:ds.length=f.np) (h1:exS Γ (af Γ n) (aE Γ n) (hdS k f.body) ⟨ds.map some ++ List.replicate (f.ns - f.np) none,[],st⟩ = .nx s') (h2:toR (exS Γ (af Γ n) (aE Γ n) (tlS k f.body) s')=r):af Γ (n+1) j ds st=r:=by
 show jR Γ (af Γ n) (aE Γ n) j ds st=r
 unfold jR
 rw [hf]
 dsimp only
 rw [if_pos hl,mJ k,h1,← h2]
 rfl
end L2.Ev
end
section
namespace L2.K68
open L2.Bk L2.Ev
def top (i:Nat):Stmt:=PySem.Challenge.pw_blamewise_k68_whole_plain_by_a_model.main.body.getD i (.Pass ⟨0,0,0,0⟩)
def bE (s:Stmt) (j:Nat):Stmt:=match s with
 | .ClassDef _ _ _ body _ _ _ _ _ _ _=>body.getD j (.Pass ⟨0,0,0,0⟩)
 | _=>.Pass ⟨0,0,0,0⟩
def fnl:List (Str×Stmt):=(List.append [("form",top 5),("indexes",top 6),("parts",top 7),("need_names",top 8),("need_bound",top 9),("names_bound",top 10),("plain",top 55),("walked",top 52),("leaf_value",top 42),("need_head",top 43),("deed",top 44),("reckoned",top 45),("reckoned_number",top 46),("thing_at",top 47),("thing_of",top 34),("names_with",top 48)] (List.append [("names_in_call",top 49),("node_called",top 50),("alone",top 28),("looks_beside",top 31),("text_of",top 35),("shown",top 36),("thing_shown",top 37),("_law_words",top 57),("_law_next",top 58),("_law_place",top 59),("_law_number",top 60),("_law_flat",top 61),("_law_kind",top 62),("_law_more",top 63),("_law_leaf",top 64),("_law_built",top 65)] (List.append [("_law_loop",top 66),("_law_reading",top 67),("_law_node",top 68),("_law_numbers",top 69),("_law_cell_at",top 70),("_law_program",top 71),("_law_digit_cell",top 72),("_law_digit_kind",top 73),("_law_digit_leaf",top 74),("_law_digit_node",top 75),("_law_digit_binding",top 76),("_law_flat_value",top 77),("_law_head",top 78),("_law_deed",top 79),("_law_called",top 80),("_law_forked",top 81)] [("_law_value",top 82),("_law_text",top 83),("law",top 84)])))
def mel:List (Str×Str×Stmt):=[("__init__","Giver.__init__",bE (top 27) 0),("give_all","Giver.give_all",bE (top 27) 2),("give_in_call","Giver.give_in_call",bE (top 27) 3),("__init__","Walker.__init__",bE (top 53) 0),("come_to","Walker.come_to",bE (top 53) 1),("value_of","Walker.value_of",bE (top 53) 2),("called","Walker.called",bE (top 53) 3)]
def gll:List (Str×Dk):=[("LEAVES",(.tup [(.str "whole"),(.str "truth"),(.str "given"),(.str "name"),(.str "fn"),(.str "self")])),("MOST_LEVEL",(.int 3)),("MOST_FIGURES",(.int 40))]
def sA:List (Str×Dk):=[("whole",(.tup [(.str "number")])),("truth",(.tup [(.str "truth")])),("given",(.tup [(.str "given")])),("name",(.tup [(.str "name")])),("fn",(.tup [(.str "name"),(.str "kind"),(.str "node")])),("self",(.tup [(.str "name"),(.str "name"),(.str "kind"),(.str "kind"),(.str "node")])),("call",(.tup [(.str "node"),(.str "node")])),("let",(.tup [(.str "name"),(.str "node"),(.str "node")])),("if",(.tup [(.str "node"),(.str "node"),(.str "node")])),("do",(.tup [(.str "sign"),(.str "node"),(.str "node")])),("row",(.tup [(.str "kind"),(.str "nodes")])),("at",(.tup [(.str "node"),(.str "node")])),("size",(.tup [(.str "node")])),("pair",(.tup [(.str "node"),(.str "node")])),("one",(.tup [(.str "node")])),("two",(.tup [(.str "node")])),("as",(.tup [(.str "kind"),(.str "node")])),("look",(.tup [(.str "put in"),(.str "put in"),(.str "node")]))]
def fS:List (Str×Dk):=[("call",(.tup [(.str "to")])),("if",(.tup [(.str "truth")])),("do",(.tup [(.str "whole"),(.str "whole")])),("at",(.tup [(.str "row"),(.str "whole")])),("size",(.tup [(.str "row")])),("one",(.tup [(.str "pair")])),("two",(.tup [(.str "pair")]))]
def tbl:List (Str×List (Str×Dk)):=[("FORMS",sA),("NEEDED_HEADS",fS)]
def T:Ns where
 gl:=gll.map (·.1)
 tb:=tbl.map (·.1)
 fn:=fnl.map (·.1)
 at_:=["outcome","head","held","guards","tag","left","together","notes","looks","numbers","giver"]
 bl:=["len","isinstance","list","tuple","int","bool","str","range","zip","enumerate","dict","sum","abs","reversed"]
 rf:=["_law_deal"]
 mu:=["_law_value","_law_digit_node"]
 me:=[("give_all",2,52),("give_in_call",2,53),("come_to",3,55),("value_of",3,56),("called",3,57)]
 ex:=["Ended","","",""]
 nd:=["","Value","",""]
 nw:=["","","Giver","Walker"]
 hx:=["Ended","","",""]
 hc:=["plain"]
def Γ:Gm:=⟨gll.map (·.2),tbl.map (·.2),((fnl.map fun p=>(p.1,p.1,p.2)) ++ mel).map fun p=>cT T p.2.2,[⟨2,[0],0,[],[],[]⟩,⟨1,[1,2,3,4],0,[],[],[]⟩,⟨0,[5,6,7],51,[],[],[]⟩,⟨0,[8,9,10],54,[],[],[]⟩]⟩
abbrev qW:Nat:=2
abbrev ir:Nat:=3
def ia:Fn:=cT T (top 9)
abbrev bN:Nat:=4
abbrev gu:Nat:=5
abbrev qX:Nat:=6
abbrev oV:Nat:=7
abbrev dC:Nat:=8
abbrev jA:Nat:=9
abbrev uk:Nat:=10
abbrev fA:Nat:=11
abbrev dD:Nat:=12
abbrev kB:Nat:=13
abbrev kC:Nat:=14
abbrev iq:Nat:=15
abbrev eI:Nat:=16
abbrev gy:Nat:=17
abbrev qV:Nat:=18
abbrev fz:Nat:=19
abbrev mP:Nat:=20
abbrev lO:Nat:=21
abbrev aS:Nat:=22
abbrev cA:Nat:=23
abbrev jy:Nat:=24
abbrev ip:Nat:=25
abbrev gq:Nat:=26
abbrev eg:Nat:=27
abbrev jr:Nat:=28
abbrev ei:Nat:=29
def ef:Fn:=cT T (top 64)
abbrev eh:Nat:=30
abbrev im:Nat:=31
abbrev ju:Nat:=32
abbrev fy:Nat:=33
def cK:Fn:=cT T (top 68)
abbrev jz:Nat:=34
abbrev fw:Nat:=35
abbrev fq:Nat:=36
abbrev fx:Nat:=37
abbrev b6:Nat:=38
abbrev dy:Nat:=39
abbrev dz:Nat:=40
def aG:Fn:=cT T (top 75)
abbrev dA:Nat:=41
abbrev cM:Nat:=42
abbrev dB:Nat:=43
abbrev jq:Nat:=44
abbrev jp:Nat:=45
def bA:Fn:=cT T (top 80)
abbrev gk:Nat:=46
abbrev gm:Nat:=47
def hZ:Fn:=cT T (top 82)
abbrev aq:Nat:=48
abbrev cN:Nat:=49
def wv:Fn:=cT T (top 84)
abbrev wG:Nat:=50
abbrev dW:Nat:=52
abbrev bF:Nat:=53
abbrev b5:Nat:=54
abbrev az:Nat:=55
def aF:Fn:=cT T (bE (top 53) 2)
abbrev bj:Nat:=56
abbrev eH:Nat:=57
end L2.K68
end
section
namespace L2.K68
open L2.Bw L2.Bk L2.Ev
theorem A {a b:Prop} (x:a) (y:b):a∧b:=⟨x,y⟩
theorem Z:True:=True.intro
inductive Sg where
 | add | sub | mul | lt | eq
 deriving DecidableEq
def Sg.str:Sg→Str
 | .add=>"+" | .sub=>"-" | .mul=>"*" | .lt=>"<" | .eq=>"="
inductive Kd where
 | whole | truth | unt | to (a b:Kd) | row (a:Kd) | pair (a b:Kd)
def Kd.toD:Kd→D
 | .whole=>.tup [.str "whole"]
 | .truth=>.tup [.str "truth"]
 | .unt=>.tup [.str "?"]
 | .to a b=>.tup [.str "to",a.toD,b.toD]
 | .row a=>.tup [.str "row",a.toD]
 | .pair a b=>.tup [.str "pair",a.toD,b.toD]
inductive T68 where
 | whole (p v:Int) | truth (p:Int) (b:Bool) | given (p:Int) (i:Nat) | name (p:Int) (x:Str) | fn (p:Int) (x:Str) (k:Kd) (b:T68) | slf (p:Int) (f x:Str) (k g:Kd) (b:T68)
 | lt (p:Int) (x:Str) (a b:T68) | iff (p:Int) (c a b:T68) | call (p:Int) (a b:T68) | bin (p:Int) (o:Sg) (a b:T68) | as_ (p:Int) (k:Kd) (a:T68)
 | row (p:Int) (k:Kd) (ts:List T68) | pair (p:Int) (a b:T68) | att (p:Int) (a b:T68) | size (p:Int) (a:T68) | one (p:Int) (a:T68) | two (p:Int) (a:T68)
mutual
noncomputable def T68.toD:T68→D
 | .whole p v=>.tup [.str "whole",.int p,.int v]
 | .truth p b=>.tup [.str "truth",.int p,.bl b]
 | .given p i=>.tup [.str "given",.int p,.int i]
 | .name p x=>.tup [.str "name",.int p,.str x]
 | .fn p x k b=>.tup [.str "fn",.int p,.str x,k.toD,b.toD]
 | .slf p f x k g b=>.tup [.str "self",.int p,.str f,.str x,k.toD,g.toD,b.toD]
 | .lt p x a b=>.tup [.str "let",.int p,.str x,a.toD,b.toD]
 | .iff p c a b=>.tup [.str "if",.int p,c.toD,a.toD,b.toD]
 | .call p a b=>.tup [.str "call",.int p,a.toD,b.toD]
 | .bin p o a b=>.tup [.str "do",.int p,.str o.str,a.toD,b.toD]
 | .as_ p k a=>.tup [.str "as",.int p,k.toD,a.toD]
 | .row p k ts=>.tup [.str "row",.int p,k.toD,.tup (toDs ts)]
 | .pair p a b=>.tup [.str "pair",.int p,a.toD,b.toD]
 | .att p a b=>.tup [.str "at",.int p,a.toD,b.toD]
 | .size p a=>.tup [.str "size",.int p,a.toD]
 | .one p a=>.tup [.str "one",.int p,a.toD]
 | .two p a=>.tup [.str "two",.int p,a.toD]
noncomputable def toDs:List T68→List D
 | []=>[]
 | t :: r=>t.toD :: toDs r
end
def T68.pl:T68→Int
 | .whole p _=>p | .truth p _=>p | .given p _=>p | .name p _=>p | .fn p _ _ _=>p | .slf p _ _ _ _ _=>p | .lt p _ _ _=>p | .iff p _ _ _=>p | .call p _ _=>p | .bin p _ _ _=>p | .as_ p _ _=>p
 | .row p _ _=>p | .pair p _ _=>p | .att p _ _=>p | .size p _=>p | .one p _=>p | .two p _=>p
def ax:T68→List T68
 | .fn _ _ _ b=>[b]
 | .slf _ _ _ _ _ b=>[b]
 | .lt _ _ a b=>[a,b]
 | .iff _ c a b=>[c,a,b]
 | .call _ a b=>[a,b]
 | .bin _ _ a b=>[a,b]
 | .as_ _ _ a=>[a]
 | .row _ _ ts=>ts
 | .pair _ a b=>[a,b]
 | .att _ a b=>[a,b]
 | .size _ a=>[a]
 | .one _ a=>[a]
 | .two _ a=>[a]
 | _=>[]
def bnd:T68→Nat→List Str
 | .fn _ x _ _,_=>[x]
 | .slf _ f x _ _ _,_=>[f,x]
 | .lt _ x _ _,1=>[x]
 | _,_=>[]
def own (W bs:List Str):T68→Prop
 | .whole _ v=>v.natAbs<10 ^ 40
 | .given _ i=>i<8
 | .name _ x=>x∈bs
 | .fn _ x _ _=>x∈W
 | .slf _ f x _ _ _=>f∈W∧x∈W
 | .lt _ x _ _=>x∈W
 | .row _ _ ts=>ts.length≤4
 | _=>True
def Ok (W:List Str):Nat→List Str→T68→Prop
 | 0,_,_=>False
 | n+1,bs,t=>own W bs t∧∀ i k,(ax t)[i]? = some k→Ok W n (bs ++ bnd t i) k
theorem xh (t:T68):ixD t.toD (.int 1)=some (.int t.pl):=by cases t <;> rfl
theorem uR (t:T68) (st:List O):look st t.toD=t.toD:=by cases t <;> rfl
theorem eQ (t:T68) (st:List O):ixD (look st t.toD) (.int 1)=some (.int t.pl):=by rw [uR];exact xh t
theorem jB {W:List Str} {bs:List Str} {t:T68} (h:own W bs t):(ax t).length≤4:=by
 cases t with
 | row p kd ts=>exact h
 | _=>exact Nat.le_of_ble_eq_true rfl
theorem iI (t:T68) (n:Nat) (st:List O):af Γ (n+3) qW [t.toD] st = .ok (.lst (toDs (ax t))) st:=by
 cases t <;> kernel_rfl
def sts (l:List Str):List D:=l.map D.str
theorem vc (t:T68) (i:Nat) (k:T68) (h:(ax t)[i]? = some k) (n:Nat) (st:List O):af Γ (n+1) gu [t.toD,.int i] st = .ok (.tup (sts (bnd t i))) st:=by
 cases t with
 | lt p x a b=>
   match i,h with
   | 0,h=>kernel_rfl
   | 1,h=>kernel_rfl
   | i+2,h=>cases h
 | _=>kernel_rfl
theorem oE (x y:Str):eqv 55 (.str x) (.str y)=some (decide (x=y)):=by
 show some (x == y)=_
 by_cases h:x=y
 ·subst h;simp
 ·simp [h]
theorem lJ (x:Str):∀ l:List Str,inD (.str x) (sts l)=some (decide (x∈l))
 | []=>by simp [sts,inD]
 | y :: r=>by
   show (match eqv 55 (.str y) (.str x) with | none=>none | some b=>(inD (.str x) (sts r)).map (b || ·))=_
   rw [oE,lJ x r]
   by_cases h:y=x
   ·simp [h]
   ·have h2:¬ x=y:=fun e=>h e.symm
    simp [h,h2]
theorem notin {x:Str} {l:List Str} (h:x∈l):opD .notin (.str x) (.tup (sts l))=some (.bl false):=by
 show (inD (.str x) (sts l)).map (fun b=>D.bl (!b))=_
 rw [lJ];simp [h]
abbrev bB:S:=ey ia.body
theorem lX (t:T68) (bs:List Str) (m:Nat) (st:List O):∀ (ts pre:List T68) (e2 e3:Option D),pre ++ ts=ax t→bs.length≤1000→(∀ i k,(ax t)[i]? = some k→af Γ (m+1) bN [k.toD,.tup (sts (bs ++ bnd t i))] st = .ok .non st)→∃ (e2' e3':Option D),
 aQ (fun d s=>match aD [2,3] false d s.env with | some env=>exS Γ (af Γ (m+1)) (aE Γ (m+1)) bB ⟨env,s.ow.filter fun i=>!([2,3]:List Nat).contains i,s.st⟩ | none=>.bad) (bu (pre.length:Nat) (toDs ts)) ⟨[some t.toD,some (.tup (sts bs)),e2,e3],[],st⟩ = .nx ⟨[some t.toD,some (.tup (sts bs)),e2',e3'],[],st⟩
 | [],pre,e2,e3,_,_,_=>⟨e2,e3,rfl⟩
 | k :: r,pre,e2,e3,hp,hl,h=>by
   have hk:(ax t)[pre.length]? = some k:=by rw [← hp,List.getElem?_append_right (Nat.le_refl _),Nat.sub_self];rfl
   have pl:((pre ++ [k]).length:Nat)=pre.length+1:=by simp
   have ih:=lX t bs m st r (pre ++ [k]) (some (.int (pre.length:Nat))) (some k.toD) (by rw [← hp];simp) hl h
   rw [pl] at ih
   obtain ⟨a,b,hf⟩:=ih
   have l2:(bnd t pre.length).length≤2:=by unfold bnd;split <;> simp
   have ad:opD .add (.tup (sts bs)) (.tup (sts (bnd t pre.length)))=some (.tup (sts (bs ++ bnd t pre.length))):=by
    show dk ((sts bs).length+(sts (bnd t pre.length)).length) _=_
    unfold dk sts
    rw [if_pos (by simp;omega),List.map_append]
   exact ⟨a,b,cg (bv false [.r (.ok (.tup (sts (bnd t pre.length))) st),.o 0 (.tup (sts (bs ++ bnd t pre.length))),.r (.ok .non st)] (vc t pre.length k hk m st<|>ad<|>h _ k hk<|>Z) (by kernel_rfl)) hf⟩
theorem fK {W:List Str}:∀ (n:Nat) (t:T68) (bs:List Str) (st:List O),Ok W n bs t→bs.length+2 * n≤1000→∀ N,n+4≤N→af Γ N bN [t.toD,.tup (sts bs)] st = .ok .non st
 | 0,t,bs,st,h,_,_,_=>h.elim
 | n+1,t,bs,st,h,hb,N,hN=>by
   obtain ⟨ho,hk⟩:=h
   obtain ⟨m,rfl⟩:∃ m,N=m+5:=⟨N - 5,by omega⟩
   have ih:∀ i k,(ax t)[i]? = some k→af Γ (m+4) bN [k.toD,.tup (sts (bs ++ bnd t i))] st = .ok .non st:=fun i k hik=>fK n k _ st (hk i k hik) (by
    have l2:(bnd t i).length≤2:=by unfold bnd;split <;> simp
    rw [List.length_append];omega) (m+4) (by omega)
   obtain ⟨a,b,hf⟩:=lX t bs (m+3) st (ax t) [] none none rfl (by omega) ih
   have hp:=iI t (m+1) st
   have go:∀ t':T68,t'=t→af Γ (m+5) bN [t.toD,.tup (sts bs)] st = .ok .non st:=fun t' e=>by
    cases t with
    | name p x=>
      have hn:=notin (x:=x) (l:=bs) ho
      exact aa true [.o 4 (.bl false),.r (.ok (.lst (toDs (ax t'))) st),.x (.nx ⟨[some t'.toD,some (.tup (sts bs)),a,b],[],st⟩)] (hn<|>(e ▸ hp)<|>(e ▸ hf)<|>Z) (by subst e;kernel_rfl)
    | _=>exact aa true [.r (.ok (.lst (toDs (ax t'))) st),.x (.nx ⟨[some t'.toD,some (.tup (sts bs)),a,b],[],st⟩)] ((e ▸ hp)<|>(e ▸ hf)<|>Z) (by subst e;kernel_rfl)
   exact go t rfl
theorem kJ {W:List Str} (n:Nat) (t:T68) (h:Ok W n [] t) (hn:n≤100) (N:Nat) (hN:n+5≤N) (st:List O):af Γ N ir [t.toD] st = .ok .non st:=by
 obtain ⟨m,rfl⟩:∃ m,N=m+1:=⟨N - 1,by omega⟩
 exact aa false [.r (.ok .non st)] (fK n t [] st h (by simp;omega) m (by omega)<|>Z) (by kernel_rfl)
theorem cJ (n:Nat) (st:List O) (h x:D):af Γ (n+1) qV [h,x] st = .ok (.ins 1 [h,x,.tup [],.non]) st:=by kernel_rfl
inductive V68 where
 | num (i:Int) | tru (b:Bool) | row (xs:List V68) | pair (a b:V68) | fn (t:T68) (ks:List Str) (vs:List V68)
inductive Hd where
 | whole | truth | row | pair | to
 deriving DecidableEq
def Hd.str:Hd→Str
 | .whole=>"whole" | .truth=>"truth" | .row=>"row" | .pair=>"pair" | .to=>"to"
def V68.hd:V68→Hd
 | .num _=>.whole | .tru _=>.truth | .row _=>.row | .pair _ _=>.pair | .fn _ _ _=>.to
def ay (ks:List Str):List Key:=ks.map .inr
abbrev vP (h:Hd) (d:D):D:=.ins 1 [.str h.str,d,.tup [],.non]
mutual
noncomputable def V68.toP:V68→D
 | .num i=>.ins 1 [.str "whole",.int i,.tup [],.non]
 | .tru b=>.ins 1 [.str "truth",.bl b,.tup [],.non]
 | .row xs=>.ins 1 [.str "row",.tup (ba xs),.tup [],.non]
 | .pair a b=>.ins 1 [.str "pair",.tup [a.toP,b.toP],.tup [],.non]
 | .fn t ks vs=>.ins 1 [.str "to",.tup [t.toD,.dic (ay ks) (ba vs)],.tup [],.non]
noncomputable def ba:List V68→List D
 | []=>[]
 | t :: r=>t.toP :: ba r
end
mutual
noncomputable def V68.toL:V68→D
 | .num i=>.int i
 | .tru b=>.bl b
 | .row xs=>.tup [.str "row",.tup (bO xs)]
 | .pair a b=>.tup [.str "pair",.tup [a.toL,b.toL]]
 | .fn t ks vs=>.tup [.str "fn",t.toD,.dic (ay ks) (bO vs)]
noncomputable def bO:List V68→List D
 | []=>[]
 | t :: r=>t.toL :: bO r
end
theorem cw:∀ ts:List V68,ba ts=ts.map V68.toP
 | []=>rfl
 | t :: r=>by unfold ba;rw [cw r];rfl
theorem cv:∀ ts:List V68,bO ts=ts.map V68.toL
 | []=>rfl
 | t :: r=>by unfold bO;rw [cv r];rfl
def V68.held:V68→D
 | .num i=>.int i | .tru b=>.bl b | .row xs=>.tup (ba xs) | .pair a b=>.tup [a.toP,b.toP] | .fn t ks vs=>.tup [t.toD,.dic (ay ks) (ba vs)]
theorem p6 (x:V68):x.toP=vP x.hd x.held:=by cases x <;> rfl
def jQ:List Str→List V68→Str→V68→List V68
 | k :: ks,d :: ds,x,e=>(if k=x then e else d) :: jQ ks ds x e
 | _,ds,_,_=>ds
def ah (ks:List Str) (x:Str):List Str:=if x∈ks then ks else ks ++ [x]
def aK (ks:List Str) (vs:List V68) (x:Str) (v:V68):List V68:=if x∈ks then jQ ks vs x v else vs ++ [v]
def ig:List Str→List V68→Str→Option V68
 | k :: ks,d :: ds,x=>if k=x then some d else ig ks ds x
 | _,_,_=>none
theorem mq (f:V68→D) (x:Str) (v:V68):∀ (ks:List Str) (vs:List V68),eJ (ay ks) (vs.map f) (.inr x) (f v)=(jQ ks vs x v).map f
 | [],vs=>by cases vs <;> rfl
 | k :: ks,[]=>rfl
 | k :: ks,d :: ds=>by
   show (if (Sum.inr k:Key) = .inr x then f v else f d) :: eJ (ay ks) (ds.map f) (.inr x) (f v)=((if k=x then v else d) :: jQ ks ds x v).map f
   rw [mq f x v ks ds]
   by_cases h:k=x
   ·simp [h]
   ·have h2:¬ (Sum.inr k:Key) = .inr x:=fun e=>h (Sum.inr.inj e)
    simp [h,h2]
theorem iY (x:Str) (ks:List Str):((ay ks).any fun k=>decide (k = .inr x))=decide (x∈ks):=by
 induction ks with
 | nil=>rfl
 | cons k r ih=>
   show (decide ((Sum.inr k:Key) = .inr x) || (ay r).any fun k=>decide (k = .inr x))=_
   rw [ih]
   by_cases h:k=x
   ·subst h;simp
   ·have h2:¬ (Sum.inr k:Key) = .inr x:=fun e=>h (Sum.inr.inj e)
    have h3:¬ x=k:=fun e=>h e.symm
    simp [h2,h3]
theorem l9 (f:V68→D) (ks:List Str) (vs:List V68) (x:Str) (v:V68):bp (ay ks) (vs.map f) (.inr x) (f v)=(ay (ah ks x),(aK ks vs x v).map f):=by
 unfold bp ah aK
 rw [iY]
 by_cases h:x∈ks
 ·simp [h,mq]
 ·simp [h,ay]
theorem du (f:V68→D) (x:Str):∀ (ks:List Str) (vs:List V68),cf (ay ks) (vs.map f) (.inr x)=(ig ks vs x).map f
 | [],vs=>by cases vs <;> rfl
 | k :: ks,[]=>rfl
 | k :: ks,d :: ds=>by
   show (if (Sum.inr k:Key) = .inr x then some (f d) else cf (ay ks) (ds.map f) (.inr x))=(if k=x then some d else ig ks ds x).map f
   rw [du f x ks ds]
   by_cases h:k=x
   ·simp [h]
   ·have h2:¬ (Sum.inr k:Key) = .inr x:=fun e=>h (Sum.inr.inj e)
    simp [h,h2]
inductive Er where
 | wrong (p:Int) | nun (p:Int) | great (p:Int) | spent
def eD:Er→D
 | .wrong p=>.tup [.str "wrong",.int p]
 | .nun p=>.tup [.str "fault",.int p,.str "none"]
 | .great p=>.tup [.str "fault",.int p,.str "great"]
 | .spent=>.tup [.str "spent"]
inductive Rs (α:Type) where
 | ok (x:α) (c:Nat) | er (e:Er) (c:Nat)
def kI:T68→Nat→Option Hd
 | .call _ _ _,0=>some .to
 | .iff _ _ _ _,0=>some .truth
 | .bin _ _ _ _,0=>some .whole
 | .bin _ _ _ _,1=>some .whole
 | .att _ _ _,0=>some .row
 | .att _ _ _,1=>some .whole
 | .size _ _,0=>some .row
 | .one _ _,0=>some .pair
 | .two _ _,0=>some .pair
 | _,_=>none
def chk (t:T68) (i:Nat) (h:Hd):Bool:=match kI t i with
 | none=>true
 | some w=>decide (h=w)
def cI (f:T68→Nat→Rs V68) (t:T68):Nat→List T68→Nat→Rs (List V68)
 | _,[],c=>.ok [] c
 | i,k :: r,c=>(match f k c with
   | .er e c=>.er e c
   | .ok x c=>(match chk t i x.hd with
     | false=>.er (.wrong k.pl) c
     | true=>(match cI f t (i+1) r c with
       | .ok xs c=>.ok (x :: xs) c
       | .er e c=>.er e c)))
def nth (xs:List V68) (i p:Int):Except Er V68:=if 0≤i then (match xs[i.toNat]? with | some x=>.ok x | none=>.error (.nun p)) else .error (.nun p)
def big (x p:Int):Except Er V68:=if 10 ^ 40≤x.natAbs then .error (.great p) else .ok (.num x)
def nE (p:Int):Sg→Int→Int→Except Er V68
 | .add,i,j=>big (i+j) p
 | .sub,i,j=>big (i - j) p
 | .mul,i,j=>big (i * j) p
 | .lt,i,j=>.ok (.tru (decide (i<j)))
 | .eq,i,j=>.ok (.tru (decide (i=j)))
def fin:T68→List V68→Except Er V68
 | .row _ _ _,xs=>.ok (.row xs)
 | .pair _ _ _,[a,b]=>.ok (.pair a b)
 | .bin p o _ _,[.num i,.num j]=>nE p o i j
 | .as_ _ _ _,[a]=>.ok a
 | .att p _ _,[.row xs,.num i]=>nth xs i p
 | .size _ _,[.row xs]=>.ok (.num xs.length)
 | .one _ _,[.pair a _]=>.ok a
 | .two _ _,[.pair _ b]=>.ok b
 | _,_=>.error (.nun 0)
def ex (r:Except Er V68) (c:Nat):Rs V68:=match r with
 | .ok x=>.ok x c
 | .error e=>.er e c
abbrev Vf:=T68→List Str→List V68→Nat→Rs V68
def app (v:Vf) (f:T68) (ks:List Str) (vs:List V68) (u:V68):Nat→Rs V68
 | 0=>.er .spent 0
 | c+1=>(match f with
   | .fn _ x _ b=>v b (ah ks x) (aK ks vs x u) c
   | .slf _ g x _ _ b=>v b (ah (ah ks g) x) (aK (ah ks g) (aK ks vs g (.fn f ks vs)) x u) c
   | _=>.er (.nun 0) c)
def mL (ns:List Int) (ks:List Str) (vs:List V68):T68→Option V68
 | .whole _ v=>some (.num v)
 | .truth _ b=>some (.tru b)
 | .given _ i=>some (.num ((ns[i]?).getD 0))
 | .name _ x=>some ((ig ks vs x).getD (.num 0))
 | .fn p x k b=>some (.fn (.fn p x k b) ks vs)
 | .slf p f x k g b=>some (.fn (.slf p f x k g b) ks vs)
 | _=>none
def mS (v:Vf) (t:T68) (xs:List V68) (c:Nat):Rs V68:=match t,xs with
 | .call _ _ _,[.fn f ks vs,u]=>app v f ks vs u c
 | t,xs=>ex (fin t xs) c
def jT (ns:List Int) (v:Vf) (t:T68) (ks:List Str) (vs:List V68) (c:Nat):Rs V68:=match mL ns ks vs t with
 | some x=>.ok x c
 | none=>(match t with
   | .lt _ x a b=>(match v a ks vs c with
     | .er e c=>.er e c
     | .ok u c=>v b (ah ks x) (aK ks vs x u) c)
   | .iff _ a b d=>(match v a ks vs c with
     | .er e c=>.er e c
     | .ok u c=>(match u with
       | .tru true=>v b ks vs c
       | .tru false=>v d ks vs c
       | _=>.er (.wrong a.pl) c))
   | t=>(match cI (fun k c=>v k ks vs c) t 0 (ax t) c with
     | .er e c=>.er e c
     | .ok xs c=>mS v t xs c))
def val (ns:List Int):Nat→Vf
 | 0=>fun _ _ _ c=>.er (.nun 0) c
 | n+1=>jT ns (val ns n)
def gB (r:Except Er V68) (S:List O):Res:=match r with
 | .ok x=>.ok x.toP S
 | .error e=>.exc 0 [eD e] S
def tq (t:T68) (i:Nat) (k:T68) (h:Hd) (st:List O):Res:=if chk t i h then .ok .non st else .exc 0 [eD (.wrong k.pl)] st
theorem nh (t:T68) (i:Nat) (k:T68) (h:(ax t)[i]? = some k) (hd:Hd) (d:D) (n:Nat) (st:List O):af Γ (n+4) jA [t.toD,.int i,vP hd d] st=tq t i k hd st:=by
 have hp:=iI t n st
 have hl:=eQ k st
 have e0:decide ((i:Int)<0)=false:=decide_eq_false (by omega)
 have e1:decide ((i:Int)<1)=decide (i<1):=by congr 1;exact propext (by omega)
 cases t with
 | whole p v=>cases h
 | truth p v=>cases h
 | given p v=>cases h
 | name p v=>cases h
 | fn p x kd b=>exact aa false [.t 3 false] (e0<|>Z) (by kernel_rfl)
 | slf p f x kd g b=>exact aa false [.t 3 false] (e0<|>Z) (by kernel_rfl)
 | lt p x a b=>exact aa false [.t 3 false] (e0<|>Z) (by kernel_rfl)
 | as_ p kd a=>exact aa false [.t 3 false] (e0<|>Z) (by kernel_rfl)
 | row p kd ts=>exact aa false [.t 3 false] (e0<|>Z) (by kernel_rfl)
 | pair p a b=>exact aa false [.t 3 false] (e0<|>Z) (by kernel_rfl)
 | iff p a b c=>
   match i,h with
   | 0,h=>
     cases h
     cases hd with
     | truth=>kernel_rfl
     | _=>exact aa false [.r (.ok (.lst [k.toD,b.toD,c.toD]) st),.o 1 (.int k.pl)] (hp<|>hl<|>Z) (by kernel_rfl)
   | i+1,h=>
     have e2:decide (((i+1:Nat):Int)<1)=false:=decide_eq_false (by omega)
     exact aa false [.t 3 false] (e2<|>Z) (by kernel_rfl)
 | call p a b=>
   match i,h with
   | 0,h=>
     cases h
     cases hd with
     | to=>kernel_rfl
     | _=>exact aa false [.r (.ok (.lst [k.toD,b.toD]) st),.o 1 (.int k.pl)] (hp<|>hl<|>Z) (by kernel_rfl)
   | i+1,h=>
     have e2:decide (((i+1:Nat):Int)<1)=false:=decide_eq_false (by omega)
     exact aa false [.t 3 false] (e2<|>Z) (by kernel_rfl)
 | bin p o a b=>
   match i,h with
   | 0,h=>
     cases h
     cases hd with
     | whole=>kernel_rfl
     | _=>exact aa false [.r (.ok (.lst [k.toD,b.toD]) st),.o 1 (.int k.pl)] (hp<|>hl<|>Z) (by kernel_rfl)
   | 1,h=>
     cases h
     cases hd with
     | whole=>kernel_rfl
     | _=>exact aa false [.r (.ok (.lst [a.toD,k.toD]) st),.o 1 (.int k.pl)] (hp<|>hl<|>Z) (by kernel_rfl)
   | i+2,h=>cases h
 | att p a b=>
   match i,h with
   | 0,h=>
     cases h
     cases hd with
     | row=>kernel_rfl
     | _=>exact aa false [.r (.ok (.lst [k.toD,b.toD]) st),.o 1 (.int k.pl)] (hp<|>hl<|>Z) (by kernel_rfl)
   | 1,h=>
     cases h
     cases hd with
     | whole=>kernel_rfl
     | _=>exact aa false [.r (.ok (.lst [a.toD,k.toD]) st),.o 1 (.int k.pl)] (hp<|>hl<|>Z) (by kernel_rfl)
   | i+2,h=>cases h
 | size p a=>
   match i,h with
   | 0,h=>
     cases h
     cases hd with
     | row=>kernel_rfl
     | _=>exact aa false [.r (.ok (.lst [k.toD]) st),.o 1 (.int k.pl)] (hp<|>hl<|>Z) (by kernel_rfl)
   | i+1,h=>cases h
 | one p a=>
   match i,h with
   | 0,h=>
     cases h
     cases hd with
     | pair=>kernel_rfl
     | _=>exact aa false [.r (.ok (.lst [k.toD]) st),.o 1 (.int k.pl)] (hp<|>hl<|>Z) (by kernel_rfl)
   | i+1,h=>cases h
 | two p a=>
   match i,h with
   | 0,h=>
     cases h
     cases hd with
     | pair=>kernel_rfl
     | _=>exact aa false [.r (.ok (.lst [k.toD]) st),.o 1 (.int k.pl)] (hp<|>hl<|>Z) (by kernel_rfl)
   | i+1,h=>cases h
theorem iR {x:Int} (h:x.natAbs<10 ^ 81):biD .str [.int x]=some (.str (Str.ofString (toString x))):=by
 have c:x.natAbs.log2<1920:=by
  by_cases z:x.natAbs=0
  ·rw [z];decide
  ·exact Nat.lt_of_lt_of_le ((Nat.log2_lt z).mpr (Nat.lt_of_lt_of_le h (show 10 ^ 81≤2 ^ 270 by decide +kernel))) (by decide)
 show (if x.natAbs.log2<1920 then _ else _)=_
 rw [if_pos c]
theorem ls (k:Nat):40<(toString (k:Int)).length↔10 ^ 40≤k:=by
 have e:toString ((k:Nat):Int)=Nat.repr k:=rfl
 have h:=Nat.length_repr_le_iff (n:=k) (k:=40) (by decide)
 rw [e]
 constructor
 ·intro z;exact Nat.le_of_not_lt fun w=>absurd (h.mpr w) (by omega)
 ·intro z;exact Nat.lt_of_not_le fun w=>absurd (h.mp w) (by omega)
theorem ub {k:Nat} (h:k<10 ^ 81):(toString (k:Int)).length≤100000:=by
 have e:toString ((k:Nat):Int)=Nat.repr k:=rfl
 rw [e]
 exact Nat.le_trans ((Nat.length_repr_le_iff (n:=k) (k:=81) (by decide)).mpr h) (by decide)
theorem pD {i j:Int} (hi:i.natAbs<10 ^ 40) (hj:j.natAbs<10 ^ 40):opD .mul (.int i) (.int j)=some (.int (i * j)):=by
 have e:(10:Nat) ^ 40<2 ^ 400:=by decide +kernel
 show (if _ then _ else _)=_
 rw [if_pos (.inr ⟨Nat.lt_trans hi e,Nat.lt_trans hj e⟩)]
def tD (s:Sg) (i j:Int):Int:=match s with | .add=>i+j | .sub=>i - j | _=>i * j
theorem yn (s:Sg) (i j:Int) (hi:i.natAbs<10 ^ 40) (hj:j.natAbs<10 ^ 40) (hs:s≠.lt∧s≠.eq) (n:Nat) (st:List O):af Γ (n+1) dD [.str s.str,.int i,.int j] st = .ok (.int (tD s i j)) st:=by
 cases s with
 | add=>kernel_rfl
 | sub=>kernel_rfl
 | mul=>exact aa false [.o 4 (.int (i * j))] (pD hi hj<|>Z) (by kernel_rfl)
 | lt=>exact absurd rfl hs.1
 | eq=>exact absurd rfl hs.2
theorem oB (i j:Int):eqv 55 (.int i) (.int j)=some (decide (i=j)):=by
 show some (i == j)=_
 congr 1
theorem vx (p:Int) (s:Sg) (a b:T68) (i j:Int) (hi:i.natAbs<10 ^ 40) (hj:j.natAbs<10 ^ 40) (n:Nat) (st:List O):af Γ (n+2) fA [(T68.bin p s a b).toD,.int i,.int j] st=gB (nE p s i j) st:=by
 have arith:(s≠.lt∧s≠.eq)→(x:Int)→x=tD s i j→nE p s i j=big x p→af Γ (n+2) fA [(T68.bin p s a b).toD,.int i,.int j] st=gB (nE p s i j) st:=by
  intro hs x ex eb
  have hx:x.natAbs<10 ^ 81:=by
   subst ex
   cases s with
   | add=>show (i+j).natAbs<_;have e:(10:Nat) ^ 40+10 ^ 40≤10 ^ 81:=by decide +kernel
          omega
   | sub=>show (i - j).natAbs<_;have e:(10:Nat) ^ 40+10 ^ 40≤10 ^ 81:=by decide +kernel
          omega
   | mul=>
     show (i * j).natAbs<_
     rw [Int.natAbs_mul]
     exact Nat.lt_of_lt_of_le (Nat.mul_lt_mul'' hi hj) (by decide +kernel)
   | lt=>exact absurd rfl hs.1
   | eq=>exact absurd rfl hs.2
  have h1:=yn s i j hi hj hs n st
  rw [← ex] at h1
  have ab:biD .abs [.int x]=some (.int (x.natAbs:Int)):=by
   show some (D.int (if x<0 then -x else x))=_
   congr 2
   split <;> omega
  have h2:=iR (x:=(x.natAbs:Int)) (by rw [Int.natAbs_natCast];exact hx)
  have h3:biD .len [.str (Str.ofString (toString (x.natAbs:Int)))]=some (.int ((toString (x.natAbs:Int)).length:Nat)):=by
   show (if (Str.ofString (toString (x.natAbs:Int))).length≤100000 then _ else _)=_
   rw [PySem.ofString_length,if_pos (ub hx)]
  rw [eb]
  unfold big
  by_cases c:x.natAbs<10 ^ 40
  ·rw [if_neg (by omega)]
   have h4:decide ((40:Int)<((toString (x.natAbs:Int)).length:Nat))=false:=decide_eq_false (fun z=>by have:=(ls x.natAbs).mp (by omega);omega)
   cases s with
   | lt=>exact absurd rfl hs.1
   | eq=>exact absurd rfl hs.2
   | _=>exact aa false [.r (.ok (.int x) st),.o 0 (.int (x.natAbs:Int)),.o 0 (.str (Str.ofString (toString (x.natAbs:Int)))),.o 0 (.int ((toString (x.natAbs:Int)).length:Nat)),.t 1 false,.r (.ok (V68.num x).toP st)] (h1<|>ab<|>h2<|>h3<|>h4<|>cJ n st (.str "whole") (.int x)<|>Z) (by kernel_rfl)
  ·rw [if_pos (by omega)]
   have h4:decide ((40:Int)<((toString (x.natAbs:Int)).length:Nat))=true:=decide_eq_true (by have:=(ls x.natAbs).mpr (by omega);omega)
   cases s with
   | lt=>exact absurd rfl hs.1
   | eq=>exact absurd rfl hs.2
   | _=>exact aa false [.r (.ok (.int x) st),.o 0 (.int (x.natAbs:Int)),.o 0 (.str (Str.ofString (toString (x.natAbs:Int)))),.o 0 (.int ((toString (x.natAbs:Int)).length:Nat)),.t 1 true] (h1<|>ab<|>h2<|>h3<|>h4<|>Z) (by kernel_rfl)
 cases s with
 | lt=>exact aa false [.r (.ok (V68.tru (decide (i<j))).toP st)] (cJ n st (.str "truth") (.bl (decide (i<j)))<|>Z) (by kernel_rfl)
 | eq=>exact aa false [.o 5 (.bl (decide (i=j))),.r (.ok (V68.tru (decide (i=j))).toP st)] ((congrArg (Option.map D.bl) (oB i j))<|>cJ n st (.str "truth") (.bl (decide (i=j)))<|>Z) (by kernel_rfl)
 | add=>exact arith ⟨by decide,by decide⟩ _ rfl rfl
 | sub=>exact arith ⟨by decide,by decide⟩ _ rfl rfl
 | mul=>exact arith ⟨by decide,by decide⟩ _ rfl rfl
def ws (ns:List Int) (c:Nat):List O:=[.ins 3 [.dic [] [],.lst (ns.map .int),.ref 1],.ins 2 [.int c,.bl false,.ref 2],.lst []]
def dJ (ns:List Int):Rs V68→Res
 | .ok x c=>.ok x.toP (ws ns c)
 | .er e c=>.exc 0 [eD e] (ws ns c)
theorem hJ (hd:Hd) (d:D) (k:Int) (n:Nat) (S:List O):af Γ (n+1) fz [vP hd d,.int k] S = .ok (.lst []) S:=by kernel_rfl
theorem dv (d:D) (n:Nat) (ns:List Int) (c:Nat):af Γ (n+1) dW [.ref 1,d,.lst []] (ws ns c) = .ok d (ws ns c):=by kernel_rfl
section
variable {ns:List Int} {c:Nat}
theorem jX (hd:Hd) (hh:hd = .row∨hd = .pair) (xs:List D) (i:Nat) (d:D) (h:xs[i]? = some d) (n:Nat):af Γ (n+2) kC [vP hd (.tup xs),.int i,.ref 1] (ws ns c) = .ok d (ws ns c):=by
 have hi:ixD (.tup xs) (.int (i:Int))=some d:=bf h
 rcases hh with rfl | rfl
 ·exact aa false [.o 5 d,.r (.ok (.lst []) (ws ns c)),.r (.ok d (ws ns c))] (hi<|>hJ .row (.tup xs) 1 n (ws ns c)<|>dv d n ns c<|>Z) (by kernel_rfl)
 ·exact aa false [.o 6 d,.r (.ok (.lst []) (ws ns c)),.r (.ok d (ws ns c))] (hi<|>hJ .pair (.tup xs) ((i:Int)+1) n (ws ns c)<|>dv d n ns c<|>Z) (by kernel_rfl)
theorem iU {xs:List V68} {i:Nat}:(ba xs)[i]? = (xs[i]?).map V68.toP:=by rw [cw,List.getElem?_map]
theorem cV {xs:List V68}:(ba xs).length=xs.length:=by rw [cw,List.length_map]
theorem p5 (p:Int) (a b:T68) (xs:List V68) (i:Int) (n:Nat):af Γ (n+3) kB [(T68.att p a b).toD,(V68.row xs).toP,.int i,.ref 1] (ws ns c)=gB (nth xs i p) (ws ns c):=by
 unfold nth
 by_cases c1:0≤i
 ·rw [if_pos c1]
  have e1:decide ((0:Int)≤i)=true:=decide_eq_true c1
  obtain ⟨k,rfl⟩:∃ k:Nat,i=k:=⟨i.toNat,by omega⟩
  rw [Int.toNat_natCast]
  cases q:xs[k]? with
  | some x=>
    have lt:k<xs.length:=(List.getElem?_eq_some_iff.mp q).1
    have e2:(!decide ((k:Int)<((ba xs).length:Nat)))=false:=by rw [cV];simp;omega
    have h:=jX (ns:=ns) (c:=c) .row (.inl rfl) (ba xs) k x.toP (by rw [iU,q];rfl) n
    exact aa false [.t 1 true,.t 3 false,.r (.ok x.toP (ws ns c))] (e1<|>e2<|>h<|>Z) (by kernel_rfl)
  | none=>
    have ge:xs.length≤k:=List.getElem?_eq_none_iff.mp q
    have e2:(!decide ((k:Int)<((ba xs).length:Nat)))=true:=by rw [cV];simp;omega
    exact aa false [.t 1 true,.t 3 true] (e1<|>e2<|>Z) (by kernel_rfl)
 ·rw [if_neg c1]
  have e1:decide ((0:Int)≤i)=false:=decide_eq_false c1
  exact aa false [.t 1 false] (e1<|>Z) (by kernel_rfl)
def Shp:T68→List V68→Prop
 | .row _ _ _,_=>True
 | .pair _ _ _,xs=>∃ a b,xs = [a,b]
 | .bin _ _ _ _,xs=>∃ i j:Int,i.natAbs<10 ^ 40∧j.natAbs<10 ^ 40∧xs = [.num i,.num j]
 | .as_ _ _ _,xs=>∃ a,xs = [a]
 | .att _ _ _,xs=>∃ ys i,xs = [.row ys,.num i]
 | .size _ _,xs=>∃ ys,xs = [.row ys]
 | .one _ _,xs=>∃ a b,xs = [.pair a b]
 | .two _ _,xs=>∃ a b,xs = [.pair a b]
 | _,_=>False
theorem xX (t:T68) (xs:List V68) (h:Shp t xs) (n:Nat):af Γ (n+4) uk [t.toD,.lst (ba xs),.ref 1] (ws ns c)=gB (fin t xs) (ws ns c):=by
 cases t with
 | row p kd ts=>exact aa false [.r (.ok (.ins 1 [.str "row",.tup (ba xs),.tup [],.non]) (ws ns c))] (cJ (n+2) (ws ns c) (.str "row") (.tup (ba xs))<|>Z) (by kernel_rfl)
 | pair p a b=>
   obtain ⟨u,v,rfl⟩:=h
   exact aa false [.r (.ok (.ins 1 [.str "pair",.tup [u.toP,v.toP],.tup [],.non]) (ws ns c))] (cJ (n+2) (ws ns c) (.str "pair") (.tup [u.toP,v.toP])<|>Z) (by kernel_rfl)
 | bin p o a b=>
   obtain ⟨i,j,hi,hj,rfl⟩:=h
   have h1:=vx p o a b i j hi hj (n+1) (ws ns c)
   show _=gB (nE p o i j) (ws ns c)
   revert h1
   cases nE p o i j with
   | ok x=>exact fun h1=>aa false [.r (gB (.ok x) (ws ns c))] (h1<|>Z) (by kernel_rfl)
   | error e=>exact fun h1=>aa false [.r (gB (.error e) (ws ns c))] (h1<|>Z) (by kernel_rfl)
 | as_ p kd a=>
   obtain ⟨u,rfl⟩:=h
   kernel_rfl
 | att p a b=>
   obtain ⟨ys,i,rfl⟩:=h
   have h1:=p5 (ns:=ns) (c:=c) p a b ys i n
   show _=gB (nth ys i p) (ws ns c)
   revert h1
   cases nth ys i p with
   | ok x=>exact fun h1=>aa false [.r (gB (.ok x) (ws ns c))] (h1<|>Z) (by kernel_rfl)
   | error e=>exact fun h1=>aa false [.r (gB (.error e) (ws ns c))] (h1<|>Z) (by kernel_rfl)
 | size p a=>
   obtain ⟨ys,rfl⟩:=h
   have e:biD .len [.tup (ba ys)]=some (.int (ys.length:Nat)):=by show some (D.int ((ba ys).length:Nat))=_;rw [cV]
   exact aa false [.o 11 (.int (ys.length:Nat)),.r (.ok (V68.num ys.length).toP (ws ns c))] (e<|>cJ (n+2) (ws ns c) (.str "whole") (.int (ys.length:Nat))<|>Z) (by kernel_rfl)
 | one p a=>
   obtain ⟨u,v,rfl⟩:=h
   exact aa false [.r (.ok u.toP (ws ns c))] (jX (ns:=ns) (c:=c) .pair (.inr rfl) [u.toP,v.toP] 0 u.toP rfl (n+1)<|>Z) (by kernel_rfl)
 | two p a=>
   obtain ⟨u,v,rfl⟩:=h
   exact aa false [.r (.ok v.toP (ws ns c))] (jX (ns:=ns) (c:=c) .pair (.inr rfl) [u.toP,v.toP] 1 v.toP rfl (n+1)<|>Z) (by kernel_rfl)
 | _=>exact h.elim
abbrev eP (ks:List Str) (vs:List V68):D:=.dic (ay ks) (ba vs)
theorem xj (ks:List Str) (vs:List V68) (x:Str) (v:V68) (h:ks.length<100000):(if (ay ks).length<100000 then some (D.dic (bp (ay ks) (ba vs) (.inr x) v.toP).1 (bp (ay ks) (ba vs) (.inr x) v.toP).2) else none)=some (eP (ah ks x) (aK ks vs x v)):=by
 have l:(ay ks).length=ks.length:=List.length_map ..
 rw [l,if_pos h,cw,l9 V68.toP]
 show some (D.dic _ _)=some (D.dic _ (ba _))
 rw [cw]
theorem cC (ks:List Str) (vs:List V68) (x:Str) (v:V68) (h:ks.length<100000) (n:Nat) (S:List O):af Γ (n+1) iq [eP ks vs,.str x,v.toP] S = .ok (eP (ah ks x) (aK ks vs x v)) S:=
 aa false [.o 1 (eP (ah ks x) (aK ks vs x v))] (xj ks vs x v h<|>Z) (by kernel_rfl)
end
structure En (W:List Str) (ks:List Str) (vs:List V68):Prop where
 nd:ks.Nodup
 sb:∀ x∈ks,x∈W
 ln:ks.length=vs.length
theorem iB:∀ (ks W:List Str),ks.Nodup→(∀ x∈ks,x∈W)→ks.length≤W.length
 | [],W,_,_=>Nat.zero_le _
 | k :: r,W,hn,hs=>by
   rw [List.nodup_cons] at hn
   have hk:k∈W:=hs k (List.mem_cons_self ..)
   have h:=iB r (W.erase k) hn.2 fun x hx=>(List.mem_erase_of_ne (fun e:x=k=>hn.1 (e ▸ hx))).mpr (hs x (List.mem_cons_of_mem _ hx))
   have l:=List.length_erase_of_mem hk
   have p:0<W.length:=List.length_pos_of_mem hk
   rw [List.length_cons];omega
theorem dM:∀ (ks:List Str) (vs:List V68) (x:Str) (v:V68),(jQ ks vs x v).length=vs.length
 | [],vs,_,_=>by cases vs <;> rfl
 | k :: ks,[],_,_=>rfl
 | k :: ks,d :: ds,x,v=>by show (jQ ks ds x v).length+1=_;rw [dM];rfl
theorem En.put {W ks:List Str} {vs:List V68} (h:En W ks vs) {x:Str} (hx:x∈W) (v:V68):En W (ah ks x) (aK ks vs x v):=by
 unfold ah aK
 by_cases c:x∈ks
 ·rw [if_pos c,if_pos c]
  exact ⟨h.nd,h.sb,by rw [dM];exact h.ln⟩
 ·rw [if_neg c,if_neg c]
  refine ⟨?_,?_,by simp [h.ln]⟩
  ·rw [List.nodup_append]
   exact ⟨h.nd,by simp,fun a ha b hb e=>c (by rw [List.mem_singleton.mp hb] at e;exact e ▸ ha)⟩
  ·intro y hy
   rcases List.mem_append.mp hy with hy | hy
   ·exact h.sb y hy
   ·rw [List.mem_singleton.mp hy];exact hx
theorem cB (ks:List Str) (x y:Str) (h:y∈ks∨y=x):y∈ah ks x:=by
 unfold ah
 by_cases c:x∈ks
 ·rw [if_pos c]
  rcases h with h | h
  ·exact h
  ·exact h ▸ c
 ·rw [if_neg c]
  rcases h with h | h
  ·exact List.mem_append_left _ h
  ·exact List.mem_append_right _ (by rw [h];exact List.mem_singleton_self _)
theorem pN {W bs bs':List Str} (h:∀ x∈bs,x∈bs') {t:T68} (o:own W bs t):own W bs' t:=by
 cases t with
 | name p x=>exact h x o
 | _=>exact o
theorem Ok.mono {W:List Str}:∀ {n:Nat} {bs bs':List Str} {t:T68},Ok W n bs t→(∀ x∈bs,x∈bs')→∀ {m:Nat},n≤m→Ok W m bs' t
 | 0,bs,bs',t,h,_,m,_=>h.elim
 | n+1,bs,bs',t,h,hs,m,hm=>by
   obtain ⟨m,rfl⟩:∃ k,m=k+1:=⟨m - 1,by omega⟩
   refine ⟨pN hs h.1,fun i k hk=>(h.2 i k hk).mono ?_ (by omega)⟩
   intro x hx
   rcases List.mem_append.mp hx with hx | hx
   ·exact List.mem_append_left _ (hs x hx)
   ·exact List.mem_append_right _ hx
theorem ik {P:V68→Prop} {x:Str}:∀ {ks:List Str} {vs:List V68},x∈ks→ks.length=vs.length→(∀ v∈vs,P v)→∃ v,ig ks vs x=some v∧P v
 | k :: ks,[],_,l,_=>by cases l
 | k :: ks,d :: ds,hx,l,hp=>by
   show ∃ v,(if k=x then some d else ig ks ds x)=some v∧P v
   by_cases c:k=x
   ·rw [if_pos c];exact ⟨d,rfl,hp d (List.mem_cons_self ..)⟩
   ·rw [if_neg c]
    refine ik ?_ (by simpa using l) fun v hv=>hp v (List.mem_cons_of_mem _ hv)
    rcases List.mem_cons.mp hx with e | h
    ·exact absurd e.symm c
    ·exact h
theorem mo {P:V68→Prop} {x:Str} {e:V68} (he:P e):∀ {ks:List Str} {vs:List V68},(∀ v∈vs,P v)→∀ v∈jQ ks vs x e,P v
 | [],vs,hp,v,hv=>hp v (by cases vs <;> exact hv)
 | k :: ks,[],hp,v,hv=>hp v hv
 | k :: ks,d :: ds,hp,v,hv=>by
   have hv:v∈(if k=x then e else d) :: jQ ks ds x e:=hv
   rcases List.mem_cons.mp hv with h | h
   ·rw [h];split
    ·exact he
    ·exact hp d (List.mem_cons_self ..)
   ·exact mo he (fun v hv=>hp v (List.mem_cons_of_mem _ hv)) v h
theorem sd {P:V68→Prop} {x:Str} {e:V68} (he:P e) {ks:List Str} {vs:List V68} (hp:∀ v∈vs,P v):∀ v∈aK ks vs x e,P v:=by
 intro v hv
 unfold aK at hv
 split at hv
 ·exact mo he hp v hv
 ·rcases List.mem_append.mp hv with h | h
  ·exact hp v h
  ·rw [List.mem_singleton.mp h];exact he
def isFn:T68→Prop
 | .fn _ _ _ _=>True
 | .slf _ _ _ _ _ _=>True
 | _=>False
inductive VOk (W:List Str):V68→Prop
 | num {i:Int} (h:i.natAbs<10 ^ 40):VOk W (.num i)
 | tru {b:Bool}:VOk W (.tru b)
 | row {xs:List V68} (l:xs.length≤4) (h:∀ x∈xs,VOk W x):VOk W (.row xs)
 | pair {a b:V68} (ha:VOk W a) (hb:VOk W b):VOk W (.pair a b)
 | fn {t:T68} {ks:List Str} {vs:List V68} (hf:isFn t) (ho:Ok W 8 ks t) (he:En W ks vs) (h:∀ x∈vs,VOk W x):VOk W (.fn t ks vs)
structure Nm (W ks:List Str) (vs:List V68):Prop extends En W ks vs where
 al:∀ v∈vs,VOk W v
theorem Nm.put {W ks:List Str} {vs:List V68} (h:Nm W ks vs) {x:Str} (hx:x∈W) {v:V68} (hv:VOk W v)  :Nm W (ah ks x) (aK ks vs x v):=⟨h.toEn.put hx v,sd hv h.al⟩
theorem Nm.lt {W ks:List Str} {vs:List V68} (h:Nm W ks vs) (hW:W.length≤1000):ks.length<100000:=by
 have:=iB ks W h.nd h.sb;omega
section
variable {ns:List Int} {W:List Str}
theorem uM (p:Int) (k:Nat) (names:D) (n:Nat) (st:List O):af Γ (n+2) dC [(T68.given p k).toD,names,.lst (ns.map .int)] st = .ok (V68.num ((ns[k]?).getD 0)).toP st:=by
 by_cases c:k<ns.length
 ·have e1:decide ((k:Int)<((ns.map D.int).length:Nat))=true:=by rw [List.length_map];exact decide_eq_true (by omega)
  have e2:ixD (.lst (ns.map D.int)) (.int (k:Int))=some (.int ((ns[k]?).getD 0)):=by
   refine bf ?_
   rw [List.getElem?_map,List.getElem?_eq_getElem c]
   rfl
  exact aa false [.t 6 true,.o 1 (.int ((ns[k]?).getD 0)),.r (.ok (V68.num ((ns[k]?).getD 0)).toP st)] (e1<|>e2<|>cJ n st (.str "whole") (.int ((ns[k]?).getD 0))<|>Z) (by kernel_rfl)
 ·have e1:decide ((k:Int)<((ns.map D.int).length:Nat))=false:=by rw [List.length_map];exact decide_eq_false (by omega)
  have e2:(ns[k]?).getD 0=0:=by rw [List.getElem?_eq_none (by omega)];rfl
  rw [e2]
  exact aa false [.t 6 false,.r (.ok (V68.num 0).toP st)] (e1<|>cJ n st (.str "whole") (.int 0)<|>Z) (by kernel_rfl)
theorem wQ (t:T68) (ks:List Str) (vs:List V68) (x:V68) (h:mL ns ks vs t=some x) (ho:own W ks t) (he:Nm W ks vs) (n:Nat) (S:List O):af Γ (n+2) dC [t.toD,eP ks vs,.lst (ns.map .int)] S = .ok x.toP S:=by
 cases t with
 | whole p v=>cases h;kernel_rfl
 | truth p v=>cases h;kernel_rfl
 | given p i=>cases h;exact uM p i _ n S
 | name p y=>
   obtain ⟨v,hv,_⟩:=ik (P:=VOk W) (x:=y) ho he.ln he.al
   have h:some ((ig ks vs y).getD (.num 0))=some x:=h
   rw [hv] at h
   have h:v=x:=Option.some.inj h
   subst h
   have e:ixD (eP ks vs) (.str y)=some v.toP:=by
    show cf (ay ks) (ba vs) (.inr y)=_
    rw [cw,du V68.toP,hv];rfl
   exact aa false [.o 6 v.toP] (e<|>Z) (by kernel_rfl)
 | fn p y k b=>cases h;exact aa false [.r (.ok (V68.fn (.fn p y k b) ks vs).toP S)] (cJ n S (.str "to") (.tup [(T68.fn p y k b).toD,eP ks vs])<|>Z) (by kernel_rfl)
 | slf p f y k g b=>cases h;exact aa false [.r (.ok (V68.fn (.slf p f y k g b) ks vs).toP S)] (cJ n S (.str "to") (.tup [(T68.slf p f y k g b).toD,eP ks vs])<|>Z) (by kernel_rfl)
 | _=>cases h
theorem wA (a f:D) (n:Nat):af Γ (n+2) bF [.ref 1,a,f] (ws ns 0) = .exc 0 [eD .spent] (ws ns 0):=by kernel_rfl
theorem wB (a:D) (h:Hd) (d:D) (c n:Nat):af Γ (n+2) bF [.ref 1,a,vP h d] (ws ns (c+1)) = .ok a (ws ns c):=by
 have e0:decide (((c+1:Nat):Int)<1)=false:=decide_eq_false (by omega)
 have e1:exS Γ (af Γ (n+1)) (aE Γ (n+1)) (.fld (.v 0) 5 (.op .sub (.fld (.v 0) 5) (.c (.int 1)))) ⟨[some (.ref 1),some a,some (vP h d)],[],ws ns (c+1)⟩ = .nx ⟨[some (.ref 1),some a,some (vP h d)],[],[.ins 3 [.dic [] [],.lst (ns.map .int),.ref 1],.ins 2 [.int (((c+1:Nat):Int) - 1),.bl false,.ref 2],.lst []]⟩:=by kernel_rfl
 have e2:((c+1:Nat):Int) - 1=(c:Int):=by omega
 rw [e2] at e1
 exact aa false [.t 2 false,.x (.nx ⟨[some (.ref 1),some a,some (vP h d)],[],ws ns c⟩),.r (.ok (.lst []) (ws ns c)),.r (.ok a (ws ns c))] (e0<|>e1<|>hJ h d 1 n (ws ns c)<|>dv a n ns c<|>Z) (by kernel_rfl)
end
section
variable {ns:List Int} {W:List Str}
def cy (W:List Str) (c:Nat):Rs V68→Prop
 | .ok x c'=>VOk W x∧c'≤c
 | .er _ c'=>c'≤c
def nK (W:List Str) (t:T68) (i n c:Nat):Rs (List V68)→Prop
 | .ok xs c'=>(∀ x∈xs,VOk W x)∧xs.length=n∧c'≤c∧∀ j x,xs[j]? = some x→chk t (i+j) x.hd=true
 | .er _ c'=>c'≤c
theorem eN {f:T68→Nat→Rs V68} {t:T68}:∀ (ts:List T68) (i c:Nat),(∀ k∈ts,∀ c,cy W c (f k c))→nK W t i ts.length c (cI f t i ts c)
 | [],i,c,_=>⟨fun x h=>(nomatch h),rfl,Nat.le_refl _,fun j x h=>by simp at h⟩
 | k :: r,i,c,hf=>by
   have h1:=hf k (List.mem_cons_self ..) c
   unfold cI
   revert h1
   cases f k c with
   | er e c1=>exact fun h1=>h1
   | ok x c1=>
     intro h1
     obtain ⟨hx,hc⟩:=h1
     dsimp only
     cases q:chk t i x.hd with
     | false=>exact hc
     | true=>
       have ih:=eN (f:=f) (t:=t) r (i+1) c1 fun k' m=>hf k' (List.mem_cons_of_mem _ m)
       dsimp only
       revert ih
       cases cI f t (i+1) r c1 with
       | er e c2=>exact fun ih=>Nat.le_trans ih hc
       | ok xs c2=>
         intro ih
         obtain ⟨a,b,d,e⟩:=ih
         refine ⟨fun y hy=>?_,by simp [b],Nat.le_trans d hc,fun j y hj=>?_⟩
         ·rcases List.mem_cons.mp hy with rfl | hy
          ·exact hx
          ·exact a y hy
         ·match j,hj with
          | 0,hj=>cases hj;exact q
          | j+1,hj=>
            have:=e j y hj
            rw [show i+(j+1)=i+1+j by omega];exact this
theorem lj {t:T68} {i:Nat} {x:V68} (hn:kI t i=some .row) (h:chk t i x.hd=true):∃ ys,x = .row ys:=by
 unfold chk at h;rw [hn] at h
 cases x with
 | row ys=>exact ⟨ys,rfl⟩
 | _=>cases h
theorem hR {t:T68} {i:Nat} {x:V68} (hn:kI t i=some .whole) (h:chk t i x.hd=true):∃ j,x = .num j:=by
 unfold chk at h;rw [hn] at h
 cases x with
 | num ys=>exact ⟨ys,rfl⟩
 | _=>cases h
theorem i9 {t:T68} {i:Nat} {x:V68} (hn:kI t i=some .pair) (h:chk t i x.hd=true):∃ a b,x = .pair a b:=by
 unfold chk at h;rw [hn] at h
 cases x with
 | pair a b=>exact ⟨a,b,rfl⟩
 | _=>cases h
theorem t0 {t:T68} {i:Nat} {x:V68} (hn:kI t i=some .to) (h:chk t i x.hd=true):∃ f ks vs,x = .fn f ks vs:=by
 unfold chk at h;rw [hn] at h
 cases x with
 | fn f ks vs=>exact ⟨f,ks,vs,rfl⟩
 | _=>cases h
theorem rA {α:Type} {xs:List α} (h:xs.length=1):∃ a,xs = [a]:=by
 match xs,h with
 | [a],_=>exact ⟨a,rfl⟩
theorem rB {α:Type} {xs:List α} (h:xs.length=2):∃ a b,xs = [a,b]:=by
 match xs,h with
 | [a,b],_=>exact ⟨a,b,rfl⟩
theorem VOk.int {i:Int} (h:VOk W (.num i)):i.natAbs<10 ^ 40:=by cases h;assumption
def gone:T68→Prop
 | .call _ _ _=>True
 | .bin _ _ _ _=>True
 | .as_ _ _ _=>True
 | .row _ _ _=>True
 | .pair _ _ _=>True
 | .att _ _ _=>True
 | .size _ _=>True
 | .one _ _=>True
 | .two _ _=>True
 | _=>False
theorem kU {t:T68} {xs:List V68} {c c':Nat} (hg:gone t) (h:nK W t 0 (ax t).length c (.ok xs c')):(∃ p a b,t = .call p a b∧∃ f ks vs u,xs = [.fn f ks vs,u])∨Shp t xs:=by
 obtain ⟨ha,hl,_,hk⟩:=h
 cases t with
 | call p a b=>
   obtain ⟨x,y,rfl⟩:=rB hl
   obtain ⟨f,ks,vs,rfl⟩:=t0 rfl (hk 0 x rfl)
   exact .inl ⟨p,a,b,rfl,f,ks,vs,y,rfl⟩
 | bin p o a b=>
   obtain ⟨x,y,rfl⟩:=rB hl
   obtain ⟨i,rfl⟩:=hR rfl (hk 0 x rfl)
   obtain ⟨j,rfl⟩:=hR rfl (hk 1 y rfl)
   exact .inr ⟨i,j,(ha _ (by simp)).int,(ha (.num j) (by simp)).int,rfl⟩
 | as_ p k a=>obtain ⟨x,rfl⟩:=rA hl;exact .inr ⟨x,rfl⟩
 | row p k ts=>exact .inr trivial
 | pair p a b=>obtain ⟨x,y,rfl⟩:=rB hl;exact .inr ⟨x,y,rfl⟩
 | att p a b=>
   obtain ⟨x,y,rfl⟩:=rB hl
   obtain ⟨i,rfl⟩:=lj rfl (hk 0 x rfl)
   obtain ⟨j,rfl⟩:=hR rfl (hk 1 y rfl)
   exact .inr ⟨i,j,rfl⟩
 | size p a=>
   obtain ⟨x,rfl⟩:=rA hl
   obtain ⟨i,rfl⟩:=lj rfl (hk 0 x rfl)
   exact .inr ⟨i,rfl⟩
 | one p a=>
   obtain ⟨x,rfl⟩:=rA hl
   obtain ⟨i,j,rfl⟩:=i9 rfl (hk 0 x rfl)
   exact .inr ⟨i,j,rfl⟩
 | two p a=>
   obtain ⟨x,rfl⟩:=rA hl
   obtain ⟨i,j,rfl⟩:=i9 rfl (hk 0 x rfl)
   exact .inr ⟨i,j,rfl⟩
 | _=>exact hg.elim
theorem kf (x p:Int) (c:Nat):cy W c (ex (big x p) c):=by
 unfold big
 split
 ·exact Nat.le_refl c
 ·exact ⟨.num (by omega),Nat.le_refl c⟩
theorem uc {t:T68} {xs:List V68} {c:Nat} {ks:List Str} (hs:Shp t xs) (ho:own W ks t) (hl:xs.length=(ax t).length) (ha:∀ x∈xs,VOk W x):cy W c (ex (fin t xs) c):=by
 cases t with
 | row p k ts=>exact ⟨.row (by rw [hl];exact ho) ha,Nat.le_refl c⟩
 | pair p a b=>obtain ⟨u,v,rfl⟩:=hs;exact ⟨.pair (ha u (by simp)) (ha v (by simp)),Nat.le_refl c⟩
 | bin p o a b=>
   obtain ⟨i,j,_,_,rfl⟩:=hs
   cases o with
   | lt=>exact ⟨.tru,Nat.le_refl c⟩
   | eq=>exact ⟨.tru,Nat.le_refl c⟩
   | add=>exact kf _ _ _
   | sub=>exact kf _ _ _
   | mul=>exact kf _ _ _
 | as_ p k a=>obtain ⟨u,rfl⟩:=hs;exact ⟨ha u (by simp),Nat.le_refl c⟩
 | att p a b=>
   obtain ⟨ys,i,rfl⟩:=hs
   show cy W c (ex (nth ys i p) c)
   unfold nth
   split
   ·split
    ·rename_i x e
     have h:=ha (.row ys) (by simp)
     cases h with
     | row l h=>exact ⟨h x (List.mem_of_getElem? e),Nat.le_refl c⟩
    ·exact Nat.le_refl c
   ·exact Nat.le_refl c
 | size p a=>
   obtain ⟨ys,rfl⟩:=hs
   have h:=ha (.row ys) (by simp)
   cases h with
   | row l h=>
     refine ⟨.num ?_,Nat.le_refl c⟩
     rw [Int.natAbs_natCast]
     exact Nat.lt_of_le_of_lt l (by decide +kernel)
 | one p a=>
   obtain ⟨u,v,rfl⟩:=hs
   have h:=ha (.pair u v) (by simp)
   cases h with
   | pair h1 h2=>exact ⟨h1,Nat.le_refl c⟩
 | two p a=>
   obtain ⟨u,v,rfl⟩:=hs
   have h:=ha (.pair u v) (by simp)
   cases h with
   | pair h1 h2=>exact ⟨h2,Nat.le_refl c⟩
 | _=>exact hs.elim
end
section
variable {ns:List Int} {W:List Str}
def iW (W:List Str) (v:Vf):Prop:=∀ t ks vs c,Ok W 8 ks t→Nm W ks vs→cy W c (v t ks vs c)
theorem Ok.kid {n:Nat} {bs ks:List Str} {t k:T68} {i:Nat} (h:Ok W (n+1) bs t) (hk:(ax t)[i]? = some k) (hs:∀ x,x∈bs∨x∈bnd t i→x∈ks) {m:Nat} (hm:n≤m):Ok W m ks k:=
 (h.2 i k hk).mono (fun x hx=>hs x (List.mem_append.mp hx)) hm
theorem nX {t:T68} (h:gone t) (i:Nat):bnd t i = []:=by cases t <;> first | exact h.elim | rfl
theorem Ok.part {n:Nat} {ks:List Str} {t k:T68} (h:Ok W (n+1) ks t) (hg:gone t) (hk:k∈ax t):Ok W n ks k:=by
 obtain ⟨i,hi⟩:=List.getElem?_of_mem hk
 exact h.kid hi (fun x hx=>by rw [nX hg] at hx;rcases hx with hx | hx;exact hx;cases hx) (Nat.le_refl _)
def inK (f:T68) (ks:List Str):List Str:=match f with
 | .fn _ x _ _=>ah ks x
 | .slf _ g x _ _ _=>ah (ah ks g) x
 | _=>ks
def inV (f:T68) (ks:List Str) (vs:List V68) (u:V68):List V68:=match f with
 | .fn _ x _ _=>aK ks vs x u
 | .slf _ g x _ _ _=>aK (ah ks g) (aK ks vs g (.fn f ks vs)) x u
 | _=>vs
theorem ke (v:Vf) (f:T68) (hf:isFn f) (b:T68) (hb:ax f = [b]) (ks:List Str) (vs:List V68) (u:V68) (c:Nat):app v f ks vs u (c+1)=v b (inK f ks) (inV f ks vs u) c:=by
 cases f with
 | fn p x k b'=>cases hb;rfl
 | slf p g x k k2 b'=>cases hb;rfl
 | _=>exact hf.elim
theorem eX {n:Nat} {f b:T68} {ks:List Str} {vs:List V68} {u:V68} (hf:isFn f) (ho:Ok W (n+1) ks f) (he:Nm W ks vs) (h8:Ok W 8 ks f) (hu:VOk W u) (hb:ax f = [b]):Ok W n (inK f ks) b∧Nm W (inK f ks) (inV f ks vs u):=by
 cases f with
 | fn p x k b=>
   cases hb
   refine ⟨ho.kid (i:=0) rfl (fun y hy=>cB _ _ _ ?_) (Nat.le_refl _),he.put ho.1 hu⟩
   rcases hy with hy | hy
   ·exact .inl hy
   ·exact .inr (List.mem_singleton.mp hy)
 | slf p g x k k2 b=>
   cases hb
   refine ⟨ho.kid (i:=0) rfl (fun y hy=>cB _ _ _ ?_) (Nat.le_refl _),(he.put ho.1.1 (.fn (t:=.slf p g x k k2 b) trivial h8 he.toEn he.al)).put ho.1.2 hu⟩
   rcases hy with hy | hy
   ·exact .inl (cB _ _ _ (.inl hy))
   ·rcases List.mem_cons.mp hy with e | hy
    ·exact .inl (cB _ _ _ (.inr e))
    ·exact .inr (List.mem_singleton.mp hy)
 | _=>exact hf.elim
theorem iG {f:T68} (hf:isFn f):∃ b,ax f = [b]:=by cases f <;> first | exact hf.elim | exact ⟨_,rfl⟩
theorem tL {v:Vf} (hv:iW W v) {f:T68} {ks:List Str} {vs:List V68} {u:V68} {c:Nat} (hf:VOk W (.fn f ks vs)) (hu:VOk W u):cy W c (app v f ks vs u c):=by
 cases hf with
 | fn hi ho he ha=>
   cases c with
   | zero=>exact Nat.le_refl 0
   | succ c=>
     obtain ⟨b,hk⟩:=iG hi
     obtain ⟨hb,hn⟩:=eX (n:=7) (u:=u) hi ho ⟨he,ha⟩ ho hu hk
     rw [ke v f hi b hk]
     have:=hv b _ _ c (hb.mono (fun _ h=>h) (by omega)) hn
     revert this
     cases v b (inK f ks) (inV f ks vs u) c with
     | ok x c'=>exact fun h=>⟨h.1,Nat.le_succ_of_le h.2⟩
     | er x c'=>exact fun h=>Nat.le_succ_of_le h
theorem cy.le {c c':Nat} {r:Rs V68} (h:cy W c r) (l:c≤c'):cy W c' r:=by
 cases r with
 | ok x d=>exact ⟨h.1,Nat.le_trans h.2 l⟩
 | er e d=>exact Nat.le_trans h l
theorem cY (hns:∀ x∈ns,x.natAbs<10 ^ 40) {t:T68} {ks:List Str} {vs:List V68} {x:V68} (ho:Ok W 8 ks t) (he:Nm W ks vs) (h:mL ns ks vs t=some x):VOk W x:=by
 cases t with
 | whole p v=>cases h;exact .num ho.1
 | truth p v=>cases h;exact .tru
 | given p i=>
   cases h
   refine .num ?_
   cases q:ns[i]? with
   | none=>decide +kernel
   | some y=>exact hns y (List.mem_of_getElem? q)
 | name p y=>
   obtain ⟨v,hv,hk⟩:=ik (P:=VOk W) (x:=y) ho.1 he.ln he.al
   have h:some ((ig ks vs y).getD (.num 0))=some x:=h
   rw [hv] at h
   exact (Option.some.inj h:v=x) ▸ hk
 | fn p y k b=>cases h;exact .fn trivial ho he.toEn he.al
 | slf p f y k g b=>cases h;exact .fn trivial ho he.toEn he.al
 | _=>cases h
theorem d5 {v:Vf} {t:T68} (hg:gone t) {ks:List Str} {vs:List V68} {c:Nat}:jT ns v t ks vs c=(match cI (fun k c=>v k ks vs c) t 0 (ax t) c with
 | .er e c=>.er e c
 | .ok xs c=>mS v t xs c):=by
 cases t <;> first | exact hg.elim | rfl
theorem ra {v:Vf} (hv:iW W v) {t:T68} {xs:List V68} {c c':Nat} {ks:List Str} (hg:gone t) (h:nK W t 0 (ax t).length c' (.ok xs c)) (ho:own W ks t):cy W c (mS v t xs c):=by
 rcases kU hg h with ⟨p,a,b,rfl,f,ks',vs',u,rfl⟩ | hs
 ·exact tL hv (h.1 _ (by simp)) (h.1 _ (by simp))
 ·have e:mS v t xs c=ex (fin t xs) c:=by
   cases t <;> first | exact hs.elim | rfl
  rw [e]
  exact uc hs ho h.2.1 h.1
theorem sr {v:Vf} (hns:∀ x∈ns,x.natAbs<10 ^ 40) (hv:iW W v):iW W (jT ns v):=by
 intro t ks vs c ho he
 have kid:∀ {i:Nat} {k:T68} {ks':List Str},(ax t)[i]? = some k→(∀ x,x∈ks∨x∈bnd t i→x∈ks')→Ok W 8 ks' k:=fun hk hs=>ho.kid hk hs (by omega)
 have gn:gone t→cy W c (jT ns v t ks vs c):=fun hg=>by
  rw [d5 hg]
  have h:=eN (W:=W) (f:=fun k c=>v k ks vs c) (t:=t) (ax t) 0 c fun k hk c=>hv k ks vs c ((ho.part hg hk).mono (fun _ h=>h) (by omega)) he
  revert h
  cases cI (fun k c=>v k ks vs c) t 0 (ax t) c with
  | er e c'=>exact fun h=>h
  | ok xs c'=>exact fun h=>(ra hv hg h ho.1).le h.2.2.1
 cases t with
 | lt p x a b=>
   show cy W c (match v a ks vs c with | .er e c=>.er e c | .ok u c=>v b (ah ks x) (aK ks vs x u) c)
   have h1:=hv a ks vs c (kid (i:=0) rfl (fun x hx=>by rcases hx with hx | hx;exact hx;cases hx)) he
   revert h1
   cases v a ks vs c with
   | er e c'=>exact fun h=>h
   | ok u c'=>exact fun h=>(hv b _ _ c' (kid (i:=1) rfl (fun y hy=>cB _ _ _ (by rcases hy with hy | hy;exact .inl hy;exact .inr (List.mem_singleton.mp hy)))) (he.put ho.1 h.1)).le h.2
 | iff p a b d=>
   show cy W c (match v a ks vs c with
    | .er e c=>.er e c
    | .ok u c=>(match u with
      | .tru true=>v b ks vs c
      | .tru false=>v d ks vs c
      | _=>.er (.wrong a.pl) c))
   have h1:=hv a ks vs c (kid (i:=0) rfl (fun x hx=>by rcases hx with hx | hx;exact hx;cases hx)) he
   have h2:∀ c',cy W c' (v b ks vs c'):=fun c'=>hv b ks vs c' (kid (i:=1) rfl (fun x hx=>by rcases hx with hx | hx;exact hx;cases hx)) he
   have h3:∀ c',cy W c' (v d ks vs c'):=fun c'=>hv d ks vs c' (kid (i:=2) rfl (fun x hx=>by rcases hx with hx | hx;exact hx;cases hx)) he
   revert h1
   cases v a ks vs c with
   | er e c'=>exact fun h=>h
   | ok u c'=>
     intro h
     cases u with
     | tru w=>
       cases w with
       | true=>exact (h2 c').le h.2
       | false=>exact (h3 c').le h.2
     | _=>exact h.2
 | whole p x=>exact ⟨cY hns ho he rfl,Nat.le_refl c⟩
 | truth p x=>exact ⟨cY hns ho he rfl,Nat.le_refl c⟩
 | given p x=>exact ⟨cY hns ho he rfl,Nat.le_refl c⟩
 | name p x=>exact ⟨cY hns ho he rfl,Nat.le_refl c⟩
 | fn p x k b=>exact ⟨cY hns ho he rfl,Nat.le_refl c⟩
 | slf p f x k g b=>exact ⟨cY hns ho he rfl,Nat.le_refl c⟩
 | _=>exact gn trivial
theorem fW (hns:∀ x∈ns,x.natAbs<10 ^ 40):∀ n,iW W (val ns n)
 | 0=>fun _ _ _ c _ _=>Nat.le_refl c
 | n+1=>sr hns (fW hns n)
theorem jI (f:T68) (b:T68) (hb:ax f = [b]) (ks:List Str) (vs:List V68) (n:Nat) (S:List O):af Γ (n+4) gy [(V68.fn f ks vs).toP] S = .ok b.toD S:=by
 have h:=iI f n S
 rw [hb] at h
 exact aa false [.r (.ok (.lst (toDs [b])) S)] (h<|>Z) (by kernel_rfl)
theorem dK (ks:List Str) (x:Str):(ah ks x).length≤ks.length+1:=by
 unfold ah;split
 ·omega
 ·simp
theorem gA (f:T68) (hf:isFn f) (ks:List Str) (vs:List V68) (u:V68) (hl:ks.length<10000) (n:Nat) (S:List O):af Γ (n+2) eI [(V68.fn f ks vs).toP,u.toP] S = .ok (eP (inK f ks) (inV f ks vs u)) S:=by
 cases f with
 | fn p x k b=>exact aa false [.r (.ok (eP (ah ks x) (aK ks vs x u)) S)] (cC ks vs x u (by omega) n S<|>Z) (by kernel_rfl)
 | slf p g x k k2 b=>
   have l:=dK ks g
   exact aa false [.r (.ok (V68.fn (.slf p g x k k2 b) ks vs).toP S),.r (.ok (eP (ah ks g) (aK ks vs g (.fn (.slf p g x k k2 b) ks vs))) S),.r (.ok (eP (ah (ah ks g) x) (aK (ah ks g) (aK ks vs g (.fn (.slf p g x k k2 b) ks vs)) x u)) S)] (cJ n S (.str "to") (.tup [(T68.slf p g x k k2 b).toD,eP ks vs])<|>cC ks vs g (.fn (.slf p g x k k2 b) ks vs) (by omega) n S<|>cC (ah ks g) (aK ks vs g (.fn (.slf p g x k k2 b) ks vs)) x u (by omega) n S<|>Z) (by kernel_rfl)
 | _=>exact hf.elim
theorem tZ (v:Vf) (f:T68) (hf:isFn f) (ks:List Str) (vs:List V68) (u:V68) (hl:ks.length<10000) (c m:Nat)
 (hb:∀ c' b,c=c'+1→ax f = [b]→af Γ (m+4) az [.ref 0,b.toD,eP (inK f ks) (inV f ks vs u)] (ws ns c')=dJ ns (v b (inK f ks) (inV f ks vs u) c')) :
 af Γ (m+5) eH [.ref 0,(V68.fn f ks vs).toP,u.toP] (ws ns c)=dJ ns (app v f ks vs u c):=by
 cases c with
 | zero=>exact aa false [.r (.exc 0 [eD .spent] (ws ns 0))] (wA (ns:=ns) u.toP (V68.fn f ks vs).toP (m+2)<|>Z) (by kernel_rfl)
 | succ c=>
   obtain ⟨b,hk⟩:=iG hf
   have h:=hb c b rfl hk
   rw [ke v f hf b hk]
   have h1:=wB (ns:=ns) u.toP .to (.tup [f.toD,eP ks vs]) c (m+2)
   have h2:=jI f b hk ks vs m (ws ns c)
   have h3:=gA f hf ks vs u hl (m+2) (ws ns c)
   revert h
   cases v b (inK f ks) (inV f ks vs u) c with
   | ok x c'=>exact fun h=>aa false [.r (.ok u.toP (ws ns c)),.r (.ok b.toD (ws ns c)),.r (.ok (eP (inK f ks) (inV f ks vs u)) (ws ns c)),.r (.ok x.toP (ws ns c')),.r (.ok (.lst []) (ws ns c')),.r (.ok x.toP (ws ns c'))] (h1<|>h2<|>h3<|>h<|>hJ .to (.tup [f.toD,eP ks vs]) 2 (m+3) (ws ns c')<|>dv x.toP (m+3) ns c'<|>Z) (by kernel_rfl)
   | er e c'=>exact fun h=>aa false [.r (.ok u.toP (ws ns c)),.r (.ok b.toD (ws ns c)),.r (.ok (eP (inK f ks) (inV f ks vs u)) (ws ns c)),.r (.exc 0 [eD e] (ws ns c'))] (h1<|>h2<|>h3<|>h<|>Z) (by kernel_rfl)
end
def T68.word:T68→Str
 | .whole _ _=>"whole" | .truth _ _=>"truth" | .given _ _=>"given" | .name _ _=>"name" | .fn _ _ _ _=>"fn" | .slf _ _ _ _ _ _=>"self" | .lt _ _ _ _=>"let" | .iff _ _ _ _=>"if" | .call _ _ _=>"call" | .bin _ _ _ _=>"do" | .as_ _ _ _=>"as"
 | .row _ _ _=>"row" | .pair _ _ _=>"pair" | .att _ _ _=>"at" | .size _ _=>"size" | .one _ _=>"one" | .two _ _=>"two"
abbrev vB:S:=ey aF.body
section
variable {ns:List Int} {W:List Str}
abbrev fV (t:T68) (nm:D) (acc:List D) (e6 e7 e8:Option D):List (Option D):=[some (.ref 0),some t.toD,some nm,some (.str t.word),none,some (.lst acc),e6,e7,e8]
abbrev vF (m:Nat):D→Sta→am:=fun d s=>match aD [6,7] false d s.env with | some env=>exS Γ (af Γ (m+4)) (aE Γ (m+4)) vB ⟨env,s.ow.filter fun i=>!([6,7]:List Nat).contains i,s.st⟩ | none=>.bad
def sF (ns:List Int) (t:T68) (nm:D) (acc:List D) (o:am):Rs (List V68)→Prop
 | .ok xs c'=>∃ e6 e7 e8,o = .nx ⟨fV t nm (acc ++ ba xs) e6 e7 e8,[5],ws ns c'⟩
 | .er e c'=>∃ env ow,o = .exc 0 [eD e] ⟨env,ow,ws ns c'⟩
theorem lq (t:T68) (nm:D) (m:Nat) (f:T68→Nat→Rs V68) (c0:Nat) (hg:∀ k∈ax t,∀ c,cy W c (f k c)) (hf:∀ k∈ax t,∀ c,c≤c0→af Γ (m+4) az [.ref 0,k.toD,nm] (ws ns c)=dJ ns (f k c)) :
 ∀ (ts pre:List T68) (acc:List D) (e6 e7 e8:Option D) (c:Nat),pre ++ ts=ax t→acc.length+ts.length<1000→c≤c0 →
 sF ns t nm acc (aQ (vF m) (bu (pre.length:Nat) (toDs ts)) ⟨fV t nm acc e6 e7 e8,[5],ws ns c⟩) (cI f t pre.length ts c)
 | [],pre,acc,e6,e7,e8,c,_,_,_=>⟨e6,e7,e8,by simp [ba,toDs,bu,aQ]⟩
 | k :: r',pre,acc,e6,e7,e8,c,hp,hl,hc0=>by
   simp only [List.length_cons] at hl
   have hk:(ax t)[pre.length]? = some k:=by rw [← hp,List.getElem?_append_right (Nat.le_refl _),Nat.sub_self];rfl
   have hm:k∈ax t:=List.mem_of_getElem? hk
   have hc:=hf k hm c hc0
   have g:=hg k hm c
   have len:decide (acc.length<100000)=true:=decide_eq_true (by omega)
   have pl:((pre ++ [k]).length:Nat)=pre.length+1:=by simp
   unfold cI
   revert hc g
   cases f k c with
   | er e c1=>
     intro hc g
     exact ⟨fV t nm acc (some (.int (pre.length:Nat))) (some k.toD) e8,[5],dq (bv false [.r (.exc 0 [eD e] (ws ns c1))] (hc<|>Z) (by kernel_rfl)) (fun s z=>by cases z)⟩
   | ok x c1=>
     intro hc g
     have hn:=nh t pre.length k hk x.hd x.held m (ws ns c1)
     rw [← p6] at hn
     unfold tq at hn
     dsimp only
     revert hn
     cases chk t pre.length x.hd with
     | false=>
       intro hn
       exact ⟨fV t nm acc (some (.int (pre.length:Nat))) (some k.toD) (some x.toP),[5],dq (bv false [.r (.ok x.toP (ws ns c1)),.r (.exc 0 [eD (.wrong k.pl)] (ws ns c1))] (hc<|>hn<|>Z) (by kernel_rfl)) (fun s z=>by cases z)⟩
     | true=>
       intro hn
       have hs:=bv (Γ:=Γ) (cal:=af Γ (m+4)) (cal1:=aE Γ (m+4)) (c:=vB) (s:=⟨[some (.ref 0),some t.toD,some nm,some (.str t.word),none,some (.lst acc),some (.int (pre.length:Nat)),some k.toD,e8],[5],ws ns c⟩) (o:=.nx ⟨fV t nm (acc ++ [x.toP]) (some (.int (pre.length:Nat))) (some k.toD) (some x.toP),[5],ws ns c1⟩) false [.r (.ok x.toP (ws ns c1)),.r (.ok .non (ws ns c1)),.t 0 true] (hc<|>hn<|>len<|>Z) (by kernel_rfl)
       have ih:=lq t nm m f c0 hg hf r' (pre ++ [k]) (acc ++ [x.toP]) (some (.int (pre.length:Nat))) (some k.toD) (some x.toP) c1 (by rw [← hp];simp) (by rw [List.length_append,List.length_singleton];omega) (Nat.le_trans g.2 hc0)
       rw [pl] at ih
       dsimp only
       revert ih
       cases cI f t (pre.length+1) r' c1 with
       | ok ys c2=>
         intro ih
         obtain ⟨a,b,c,h3⟩:=ih
         refine ⟨a,b,c,cg hs ?_⟩
         rw [List.append_assoc] at h3
         exact h3
       | er e2 c2=>
         intro ih
         obtain ⟨env,ow,h3⟩:=ih
         exact ⟨env,ow,cg hs h3⟩
theorem qG (t:T68) (nm:D) (c:Nat) (v:Rs V68) (n:Nat) (h:af Γ n bj [.ref 0,t.toD,nm] (ws ns c)=dJ ns v):af Γ (n+1) az [.ref 0,t.toD,nm] (ws ns c)=dJ ns v:=by
 cases v with
 | ok x c'=>exact aa false [.r (.ok x.toP (ws ns c')),.o 0 (.int t.pl)] (h<|>eQ t (ws ns c')<|>Z) (by kernel_rfl)
 | er e c'=>exact aa false [.r (.exc 0 [eD e] (ws ns c'))] (h<|>Z) (by kernel_rfl)
end
section
variable {ns:List Int} {W:List Str}
theorem Nm.few {ks:List Str} {vs:List V68} (h:Nm W ks vs) (hW:W.length≤1000):ks.length<10000:=by
 have:=iB ks W h.nd h.sb;omega
theorem ua (hW:W.length≤1000) (hns:∀ x∈ns,x.natAbs<10 ^ 40):∀ (n:Nat) (t:T68) (ks:List Str) (vs:List V68) (c q N:Nat),Ok W q ks t→q≤8→Nm W ks vs→q+8 * c≤n→2 * n+c+8≤N→af Γ N az [.ref 0,t.toD,eP ks vs] (ws ns c)=dJ ns (val ns n t ks vs c)
 | n,t,ks,vs,c,0,N,ho,_,_,_,_=>ho.elim
 | 0,t,ks,vs,c,q+1,N,ho,_,_,h,_=>by omega
 | n+1,t,ks,vs,c,q+1,N,ho,hq,he,h,hN=>by
   obtain ⟨m,rfl⟩:∃ m,N=m+7:=⟨N - 7,by omega⟩
   refine qG t _ c _ (m+6) ?_
   have kid:∀ (k:T68) (ks':List Str) (vs':List V68) (c':Nat),Ok W q ks' k→Nm W ks' vs'→c'≤c→af Γ (m+5) az [.ref 0,k.toD,eP ks' vs'] (ws ns c')=dJ ns (val ns n k ks' vs' c'):=fun k ks' vs' c' a b d=>ua hW hns n k ks' vs' c' q (m+5) a (by omega) b (by omega) (by omega)
   have kidb:∀ (k:T68) (ks':List Str) (vs':List V68) (c':Nat),Ok W 7 ks' k→Nm W ks' vs'→c'+1≤c→af Γ (m+4) az [.ref 0,k.toD,eP ks' vs'] (ws ns c')=dJ ns (val ns n k ks' vs' c'):=fun k ks' vs' c' a b d=>ua hW hns n k ks' vs' c' 7 (m+4) a (by omega) b (by omega) (by omega)
   have same:∀ {i:Nat},bnd t i = []→∀ x,x∈ks∨x∈bnd t i→x∈ks:=fun hb x hx=>by rw [hb] at hx;rcases hx with hx | hx;exact hx;cases hx
   have gv:=fW (W:=W) hns n
   have o8:∀ {ks':List Str} {k:T68},Ok W q ks' k→Ok W 8 ks' k:=fun hk=>hk.mono (fun _ h=>h) (by omega)
   show _=dJ ns (jT ns (val ns n) t ks vs c)
   generalize val ns n=v at kid kidb gv
   have lf:∀ x,mL ns ks vs t=some x→af Γ (m+6) bj [.ref 0,t.toD,eP ks vs] (ws ns c) = .ok x.toP (ws ns c):=fun x hx=>by
    have hl:=wQ t ks vs x hx ho.1 he (m+3) (ws ns c)
    cases t with
    | whole p y=>exact aa false [.r (.ok x.toP (ws ns c))] (hl<|>Z) (by kernel_rfl)
    | truth p y=>exact aa false [.r (.ok x.toP (ws ns c))] (hl<|>Z) (by kernel_rfl)
    | given p y=>exact aa false [.r (.ok x.toP (ws ns c))] (hl<|>Z) (by kernel_rfl)
    | name p y=>exact aa false [.r (.ok x.toP (ws ns c))] (hl<|>Z) (by kernel_rfl)
    | fn p y k b=>exact aa false [.r (.ok x.toP (ws ns c))] (hl<|>Z) (by kernel_rfl)
    | slf p f y k g b=>exact aa false [.r (.ok x.toP (ws ns c))] (hl<|>Z) (by kernel_rfl)
    | _=>cases hx
   have gn:gone t→af Γ (m+6) bj [.ref 0,t.toD,eP ks vs] (ws ns c)=dJ ns (jT ns v t ks vs c):=fun hg=>by
    rw [d5 hg]
    have hkid:∀ k∈ax t,∀ c',c'≤c→af Γ (m+5) az [.ref 0,k.toD,eP ks vs] (ws ns c')=dJ ns (v k ks vs c'):=fun k hk c' hc=>kid k ks vs c' (ho.part hg hk) he hc
    have hgood:∀ k∈ax t,∀ c',cy W c' (v k ks vs c'):=fun k hk c'=>gv k ks vs c' (o8 (ho.part hg hk)) he
    have lp:=lq t (eP ks vs) (m+1) (fun k c=>v k ks vs c) c hgood hkid (ax t) [] [] none none none c rfl (by have:=jB ho.1;simp only [List.length_nil];omega) (Nat.le_refl c)
    have ga:=eN (W:=W) (f:=fun k c=>v k ks vs c) (t:=t) (ax t) 0 c hgood
    have hp:=iI t (m+2) (ws ns c)
    have lp:sF ns t (eP ks vs) [] (aQ (vF (m+1)) (bu 0 (toDs (ax t))) ⟨fV t (eP ks vs) [] none none none,[5],ws ns c⟩) (cI (fun k c=>v k ks vs c) t 0 (ax t) c):=lp
    have hh:exS Γ (af Γ (m+5)) (aE Γ (m+5)) (hdS 4 aF.body) ⟨[some (.ref 0),some t.toD,some (eP ks vs),none,none,none,none,none,none],[],ws ns c⟩ = .nx ⟨fV t (eP ks vs) [] none none none,[5],ws ns c⟩:=by
     cases t <;> first | exact hg.elim | kernel_rfl
    revert ga lp
    cases cI (fun k c=>v k ks vs c) t 0 (ax t) c with
    | er e c'=>
      intro ga lp
      obtain ⟨env,ow,hf⟩:=lp
      exact aO 4 aF rfl rfl hh (ao true [.r (.ok (.lst (toDs (ax t))) (ws ns c)),.x (.exc 0 [eD e] ⟨env,ow,ws ns c'⟩)] (hp<|>hf<|>Z) (by kernel_rfl))
    | ok xs c'=>
      intro ga lp
      obtain ⟨a6,a7,a8,hf⟩:=lp
      rcases kU hg ga with ⟨p,a,b,rfl,f,ks',vs',u,rfl⟩ | hs
      ·have hv:VOk W (.fn f ks' vs'):=ga.1 _ (by simp)
       have hu:VOk W u:=ga.1 u (by simp)
       have hc':c'≤c:=ga.2.2.1
       cases hv with
       | fn hi hb8 hen hal=>
         have he':Nm W ks' vs':=⟨hen,hal⟩
         have hcl:=tZ (ns:=ns) v f hi ks' vs' u (he'.few hW) c' m fun c2 b2 e2 hk2=>by
          obtain ⟨ob,nb⟩:=eX (n:=7) (u:=u) hi hb8 he' hb8 hu hk2
          exact kidb b2 _ _ c2 ob nb (by omega)
         show _=dJ ns (app v f ks' vs' u c')
         revert hcl
         cases app v f ks' vs' u c' with
         | ok x c2=>exact fun hcl=>aa true [.r (.ok (.lst [a.toD,b.toD]) (ws ns c)),.x (.nx ⟨fV (.call p a b) (eP ks vs) ([] ++ ba [.fn f ks' vs',u]) a6 a7 a8,[5],ws ns c'⟩),.r (.ok x.toP (ws ns c2))] (hp<|>hf<|>hcl<|>Z) (by kernel_rfl)
         | er e c2=>exact fun hcl=>aa true [.r (.ok (.lst [a.toD,b.toD]) (ws ns c)),.x (.nx ⟨fV (.call p a b) (eP ks vs) ([] ++ ba [.fn f ks' vs',u]) a6 a7 a8,[5],ws ns c'⟩),.r (.exc 0 [eD e] (ws ns c2))] (hp<|>hf<|>hcl<|>Z) (by kernel_rfl)
      ·have hd:=xX (ns:=ns) (c:=c') t xs hs (m+1)
       have wc:(t.word == ("call":Str))=false:=by
        cases t <;> first | exact hs.elim | rfl
       have e0:mS v t xs c'=ex (fin t xs) c':=by
        cases t <;> first | exact hs.elim | rfl
       dsimp only
       rw [e0]
       revert hd
       cases fin t xs with
       | ok x=>
         intro hd
         exact aO 4 aF rfl rfl hh (ao true [.r (.ok (.lst (toDs (ax t))) (ws ns c)),.x (.nx ⟨fV t (eP ks vs) ([] ++ ba xs) a6 a7 a8,[5],ws ns c'⟩),.t 1 false,.r (.ok x.toP (ws ns c'))] (hp<|>hf<|>wc<|>hd<|>Z) (by kernel_rfl))
       | error e=>
         intro hd
         exact aO 4 aF rfl rfl hh (ao true [.r (.ok (.lst (toDs (ax t))) (ws ns c)),.x (.nx ⟨fV t (eP ks vs) ([] ++ ba xs) a6 a7 a8,[5],ws ns c'⟩),.t 1 false,.r (.exc 0 [eD e] (ws ns c'))] (hp<|>hf<|>wc<|>hd<|>Z) (by kernel_rfl))
   cases t with
   | lt p x a b=>
     have oa:Ok W q ks a:=ho.kid (i:=0) rfl (same rfl) (Nat.le_refl q)
     have h1:=kid a ks vs c oa he (Nat.le_refl c)
     have g1:=gv a ks vs c (o8 oa) he
     show _=dJ ns (match v a ks vs c with | .er e c=>.er e c | .ok u c=>v b (ah ks x) (aK ks vs x u) c)
     revert h1 g1
     cases v a ks vs c with
     | er e c'=>exact fun h1 g1=>aa false [.r (.exc 0 [eD e] (ws ns c'))] (h1<|>Z) (by kernel_rfl)
     | ok u c'=>
       intro h1 g1
       have hx:x∈W:=ho.1
       have hw:=cC ks vs x u (he.lt hW) (m+4) (ws ns c')
       have h2:=kid b (ah ks x) (aK ks vs x u) c' (ho.kid (i:=1) rfl (fun y hy=>cB _ _ _ (by rcases hy with hy | hy;exact .inl hy;exact .inr (List.mem_singleton.mp hy))) (Nat.le_refl q)) (he.put hx g1.1) g1.2
       dsimp only
       revert h2
       cases v b (ah ks x) (aK ks vs x u) c' with
       | ok y c2=>exact fun h2=>aa false [.r (.ok u.toP (ws ns c')),.r (.ok (eP (ah ks x) (aK ks vs x u)) (ws ns c')),.r (.ok y.toP (ws ns c2))] (h1<|>hw<|>h2<|>Z) (by kernel_rfl)
       | er y c2=>exact fun h2=>aa false [.r (.ok u.toP (ws ns c')),.r (.ok (eP (ah ks x) (aK ks vs x u)) (ws ns c')),.r (.exc 0 [eD y] (ws ns c2))] (h1<|>hw<|>h2<|>Z) (by kernel_rfl)
   | iff p a b d=>
     have oa:Ok W q ks a:=ho.kid (i:=0) rfl (same rfl) (Nat.le_refl q)
     have h1:=kid a ks vs c oa he (Nat.le_refl c)
     have g1:=gv a ks vs c (o8 oa) he
     have hb:∀ c',c'≤c→_:=fun c' hc=>kid b ks vs c' (ho.kid (i:=1) rfl (same rfl) (Nat.le_refl q)) he hc
     have hd:∀ c',c'≤c→_:=fun c' hc=>kid d ks vs c' (ho.kid (i:=2) rfl (same rfl) (Nat.le_refl q)) he hc
     show _=dJ ns (match v a ks vs c with
      | .er e c=>.er e c
      | .ok u c=>(match u with
        | .tru true=>v b ks vs c
        | .tru false=>v d ks vs c
        | _=>.er (.wrong a.pl) c))
     revert h1 g1
     cases v a ks vs c with
     | er e c'=>exact fun h1 g1=>aa false [.r (.exc 0 [eD e] (ws ns c'))] (h1<|>Z) (by kernel_rfl)
     | ok u c'=>
       intro h1 g1
       have hn:=nh (.iff p a b d) 0 a rfl u.hd u.held (m+1) (ws ns c')
       rw [← p6] at hn
       have hb:=hb c' g1.2
       have hd:=hd c' g1.2
       cases u with
       | tru w=>
         cases w with
         | true=>
           dsimp only
           revert hb
           cases v b ks vs c' with
           | ok y c2=>exact fun hb=>aa false [.r (.ok (V68.tru true).toP (ws ns c')),.r (.ok .non (ws ns c')),.r (.ok y.toP (ws ns c2))] (h1<|>hn<|>hb<|>Z) (by kernel_rfl)
           | er y c2=>exact fun hb=>aa false [.r (.ok (V68.tru true).toP (ws ns c')),.r (.ok .non (ws ns c')),.r (.exc 0 [eD y] (ws ns c2))] (h1<|>hn<|>hb<|>Z) (by kernel_rfl)
         | false=>
           dsimp only
           revert hd
           cases v d ks vs c' with
           | ok y c2=>exact fun hd=>aa false [.r (.ok (V68.tru false).toP (ws ns c')),.r (.ok .non (ws ns c')),.r (.ok y.toP (ws ns c2))] (h1<|>hn<|>hd<|>Z) (by kernel_rfl)
           | er y c2=>exact fun hd=>aa false [.r (.ok (V68.tru false).toP (ws ns c')),.r (.ok .non (ws ns c')),.r (.exc 0 [eD y] (ws ns c2))] (h1<|>hn<|>hd<|>Z) (by kernel_rfl)
       | num i=>exact aa false [.r (.ok (V68.num i).toP (ws ns c')),.r (.exc 0 [eD (.wrong a.pl)] (ws ns c'))] (h1<|>hn<|>Z) (by kernel_rfl)
       | row i=>exact aa false [.r (.ok (V68.row i).toP (ws ns c')),.r (.exc 0 [eD (.wrong a.pl)] (ws ns c'))] (h1<|>hn<|>Z) (by kernel_rfl)
       | pair i j=>exact aa false [.r (.ok (V68.pair i j).toP (ws ns c')),.r (.exc 0 [eD (.wrong a.pl)] (ws ns c'))] (h1<|>hn<|>Z) (by kernel_rfl)
       | fn i j k=>exact aa false [.r (.ok (V68.fn i j k).toP (ws ns c')),.r (.exc 0 [eD (.wrong a.pl)] (ws ns c'))] (h1<|>hn<|>Z) (by kernel_rfl)
   | whole p y=>exact lf _ rfl
   | truth p y=>exact lf _ rfl
   | given p y=>exact lf _ rfl
   | name p y=>exact lf _ rfl
   | fn p y k b=>exact lf _ rfl
   | slf p f y k g b=>exact lf _ rfl
   | _=>exact gn trivial
end
variable {W:List Str}
def j3 (row:Bool) (z:Str):Str:=if row then ("[" ++ z) ++ "]" else ("<" ++ z) ++ ">"
def txt:Nat→V68→Str
 | 0,_=>".."
 | _+1,.num i=>Str.ofString (toString i)
 | _+1,.tru true=>"yes"
 | _+1,.tru false=>"no"
 | k+1,.row xs=>j3 true (Txt.join " " (xs.map (txt k)))
 | k+1,.pair a b=>j3 false (Txt.join " " [txt k a,txt k b])
 | _+1,.fn _ _ _=>"fn"
theorem VOk.rowI {xs:List V68} (h:VOk W (.row xs)):xs.length≤4∧∀ x∈xs,VOk W x:=by cases h;exact ⟨by assumption,by assumption⟩
theorem VOk.pairI {a b:V68} (h:VOk W (.pair a b)):VOk W a∧VOk W b:=by cases h;exact ⟨by assumption,by assumption⟩
theorem va {a b:V68} (ha:VOk W a) (hb:VOk W b) {x:V68} (h:x∈[a,b]):VOk W x:=by
 rcases List.mem_cons.mp h with rfl | h
 ·exact ha
 ·rw [List.mem_singleton.mp h];exact hb
theorem vG {i:Int} (h:i.natAbs<10 ^ 40):i.natAbs<10 ^ 81:=Nat.lt_trans h (by decide +kernel)
theorem fB (sep:Str):∀ ts:List Str,(Txt.join sep ts).length≤(ts.map (·.length)).sum+ts.length * sep.length
 | []=>Nat.zero_le _
 | a :: r=>by
   show (Builtin.Str.glued sep (a :: r)).length≤_
   rw [StrLaws.glued_eq_join,len_join_cons]
   simp only [List.map_cons,List.sum_cons,List.length_cons,Nat.add_mul,Nat.one_mul]
   omega
theorem rX {i:Int} (h:i.natAbs<10 ^ 40):(Str.ofString (toString i)).length≤100:=by
 rw [PySem.ofString_length]
 cases i with
 | ofNat n=>
   have e:toString (Int.ofNat n)=Nat.repr n:=rfl
   rw [e]
   exact Nat.le_trans ((Nat.length_repr_le_iff (n:=n) (k:=40) (by decide)).mpr h) (by decide)
 | negSucc n=>
   have e:toString (Int.negSucc n) = "-" ++ Nat.repr (n+1):=rfl
   rw [e,String.length_append]
   have:=(Nat.length_repr_le_iff (n:=n+1) (k:=40) (by decide)).mpr h
   have e2:"-".length=1:=rfl
   omega
def tb:Nat→Nat
 | 0=>100
 | k+1=>4 * tb k+100
theorem iS {B:Nat}:∀ {l:List Str},(∀ x∈l,x.length≤B)→(l.map (·.length)).sum≤l.length * B
 | [],_=>by simp
 | a :: r,h=>by
   have h1:=h a (List.mem_cons_self ..)
   have h2:=iS (l:=r) fun x m=>h x (List.mem_cons_of_mem _ m)
   simp only [List.map_cons,List.sum_cons,List.length_cons,Nat.add_mul,Nat.one_mul]
   omega
theorem j4 (b:Bool) (z:Str):(j3 b z).length=z.length+2:=by
 have e1:("[":Str).length=1:=by decide +kernel
 have e2:("]":Str).length=1:=by decide +kernel
 have e3:("<":Str).length=1:=by decide +kernel
 have e4:(">":Str).length=1:=by decide +kernel
 unfold j3
 cases b <;> simp only [if_true,if_false,Bool.false_eq_true] <;> rw [strLen_append,strLen_append] <;> omega
theorem sp1:(" ":Str).length=1:=by decide +kernel
theorem dP:∀ (k:Nat) (v:V68),VOk W v→(txt k v).length≤tb k
 | 0,v,h=>by
   have e:("..":Str).length=2:=by decide +kernel
   show ("..":Str).length≤100
   omega
 | k+1,.num i,h=>by
   have:=rX (i:=i) h.int
   show (Str.ofString (toString i)).length≤4 * tb k+100
   omega
 | k+1,.tru true,h=>by
   have e:("yes":Str).length=3:=by decide +kernel
   show ("yes":Str).length≤4 * tb k+100
   omega
 | k+1,.tru false,h=>by
   have e:("no":Str).length=2:=by decide +kernel
   show ("no":Str).length≤4 * tb k+100
   omega
 | k+1,.row xs,h=>by
   have h:=h.rowI
   show (j3 true _).length≤4 * tb k+100
   rw [j4]
   have j:=fB " " (xs.map (txt k))
   have s:=iS (B:=tb k) (l:=xs.map (txt k)) fun y m=>by
    obtain ⟨x,hx,rfl⟩:=List.mem_map.mp m
    exact dP k x (h.2 x hx)
   rw [List.length_map] at j s
   rw [sp1] at j
   have l4:xs.length≤4:=h.1
   have:=Nat.mul_le_mul_right (tb k) l4
   omega
 | k+1,.fn _ _ _,h=>by
   have e:("fn":Str).length=2:=by decide +kernel
   show ("fn":Str).length≤4 * tb k+100
   omega
 | k+1,.pair a b,h=>by
   have h:=h.pairI
   show (j3 false _).length≤4 * tb k+100
   rw [j4]
   have j:=fB " " [txt k a,txt k b]
   have h1:=dP k a h.1
   have h2:=dP k b h.2
   rw [sp1] at j
   simp only [List.map_cons,List.map_nil,List.sum_cons,List.sum_nil,List.length_cons,List.length_nil] at j
   omega
theorem tE {k:Nat} (h:k≤3):tb k≤8500:=by
 match k,h with
 | 0,_=>decide
 | 1,_=>decide
 | 2,_=>decide
 | 3,_=>decide
theorem jV:∀ ss:List Str,cS (ss.map D.str)=some ss
 | []=>rfl
 | s :: r=>by show (cS (r.map D.str)).map (s :: ·)=_;rw [jV r];rfl
theorem cZ {k:Nat} (hk:k≤3) {xs:List V68} (hl:xs.length≤4) (ho:∀ x∈xs,VOk W x):oW " " (.lst (xs.map fun x=>D.str (txt k x)))=some (.str (Txt.join " " (xs.map (txt k)))):=by
 have e:(xs.map fun x=>D.str (txt k x))=(xs.map (txt k)).map D.str:=by rw [List.map_map];rfl
 rw [e]
 show ((cS _).bind _)=_
 rw [jV]
 have s:=iS (B:=tb k) (l:=xs.map (txt k)) fun y m=>by
  obtain ⟨x,hx,rfl⟩:=List.mem_map.mp m
  exact dP k x (ho x hx)
 rw [List.length_map] at s
 have t:=tE hk
 have:=Nat.mul_le_mul hl t
 exact if_pos ⟨by rw [sp1];decide,by omega,by rw [List.length_map];omega⟩
theorem bz {k:Nat} (hk:k≤3) {xs:List V68} (hl:xs.length≤4) (ho:∀ x∈xs,VOk W x):(Txt.join " " (xs.map (txt k))).length≤50000:=by
 have j:=fB " " (xs.map (txt k))
 have s:=iS (B:=tb k) (l:=xs.map (txt k)) fun y m=>by
  obtain ⟨x,hx,rfl⟩:=List.mem_map.mp m
  exact dP k x (ho x hx)
 rw [List.length_map] at s j
 rw [sp1] at j
 have t:=tE hk
 have:=Nat.mul_le_mul hl t
 omega
theorem lC {z:Str} (h:z.length≤50000):oM "[" (.str z) "]" = some (.str (j3 true z)):=by
 have e1:("[":Str).length≤1000:=by decide +kernel
 have e2:("]":Str).length≤1000:=by decide +kernel
 show (if _ then _ else _)=_
 rw [if_pos ⟨e1,by omega,e2⟩]
 rfl
theorem je {z:Str} (h:z.length≤50000):oM "<" (.str z) ">" = some (.str (j3 false z)):=by
 have e1:("<":Str).length≤1000:=by decide +kernel
 have e2:(">":Str).length≤1000:=by decide +kernel
 show (if _ then _ else _)=_
 rw [if_pos ⟨e1,by omega,e2⟩]
 rfl
def lcF (cal cal1:Nat→List D→List O→Res) (elt:E):D→Sta→Out (Option D):=fun d s'=>(match aD [0] true d s'.env with
 | some env=>(noX (ev Γ cal cal1 true (.c (.bl true)) ⟨env,[],s'.st⟩)).bind fun b s2=>(match b with
   | .bl true=>(noX (ev Γ cal cal1 false elt s2)).bind fun e s3=>.ok (some e) ⟨s3.env,[],s3.st⟩
   | .bl false=>.ok none ⟨s2.env,[],s2.st⟩
   | _=>.bad)
 | none=>.bad)
theorem bS {cal cal1:Nat→List D→List O→Res} {elt:E} {d e:D} {env env2:List (Option D)} {ow ow2:List Nat} {st st2:List O} (h:ev Γ cal cal1 false elt ⟨env.set 0 (some d),[],st⟩ = .ok e ⟨env2,ow2,st2⟩):lcF cal cal1 elt d ⟨env,ow,st⟩ = .ok (some e) ⟨env2,[],st2⟩:=by
 show (noX (ev Γ cal cal1 false elt ⟨env.set 0 (some d),[],st⟩)).bind _=_
 rw [h];rfl
section
variable {ns:List Int} {c:Nat}
theorem pW:∀ n:Nat,n≤4→(itD .range1 [.int (n:Nat)]).map D.lst=some (.lst ((List.range' 0 n).map fun (i:Nat)=>D.int i))
 | 0,_=>by kernel_rfl
 | 1,_=>by kernel_rfl
 | 2,_=>by kernel_rfl
 | 3,_=>by kernel_rfl
 | 4,_=>by kernel_rfl
 | n+5,h=>by omega
abbrev xn:E:=.call 22 (.cons (.v 1) (.cons (.v 0) (.cons (.op .add (.v 2) (.c (.int 1))) (.cons (.v 3) .nil))))
theorem iP (k m:Nat) (L:Int) (xs:List V68) (ht:∀ (j:Nat) (y:V68),xs[j]? = some y→af Γ m aS [(V68.row xs).toP,.int j,.int (L+1),.ref 1] (ws ns c) = .ok (.str (txt k y)) (ws ns c)) :
 ∀ (ys pre:List V68) (acc:List D) (e:Option D),pre ++ ys=xs→acc.length+ys.length<1000→∃ e',aN (lcF (af Γ m) (aE Γ m) xn) ((List.range' pre.length ys.length).map fun (i:Nat)=>D.int i) acc ⟨[e,some (V68.row xs).toP,some (.int L),some (.ref 1),none,none],[],(ws ns c)⟩ = .ok (.lst (acc ++ ys.map fun x=>D.str (txt k x))) ⟨[e',some (V68.row xs).toP,some (.int L),some (.ref 1),none,none],[],(ws ns c)⟩
 | [],pre,acc,e,_,_=>⟨e,by simp [aN]⟩
 | y :: r,pre,acc,e,hp,hl=>by
   simp only [List.length_cons] at hl
   have hk:xs[pre.length]? = some y:=by rw [← hp,List.getElem?_append_right (Nat.le_refl _),Nat.sub_self];rfl
   have hs:=d9 (Γ:=Γ) (cal:=af Γ m) (cal1:=aE Γ m) (br:=false) (e:=xn) (s:=⟨[some (.int (pre.length:Nat)),some (V68.row xs).toP,some (.int L),some (.ref 1),none,none],[],(ws ns c)⟩) (o:=.ok (.str (txt k y)) ⟨[some (.int (pre.length:Nat)),some (V68.row xs).toP,some (.int L),some (.ref 1),none,none],[],(ws ns c)⟩) false [.r (.ok (.str (txt k y)) (ws ns c))] (ht pre.length y hk<|>Z) (by kernel_rfl)
   obtain ⟨e',h⟩:=iP k m L xs ht r (pre ++ [y]) (acc ++ [.str (txt k y)]) (some (.int (pre.length:Nat))) (by rw [← hp];simp) (by rw [List.length_append,List.length_singleton];omega)
   refine ⟨e',?_⟩
   rw [List.length_cons,List.range'_succ,List.map_cons]
   refine b7 (bS hs) (by omega) ?_
   rw [List.length_append,List.length_singleton] at h
   rw [h,List.append_assoc]
   rfl
theorem pZ:∀ (k:Nat),k≤2→∀ (v:V68),VOk W v→∀ (L:Int),L=3 - k→∀ n,2 * k+4≤n→af Γ n lO [v.toP,.int L,.ref 1] (ws ns c) = .ok (.str (txt (k+1) v)) (ws ns c):=by
 intro k
 induction k with
 | zero=>
   intro _ v ok L hL n hn
   obtain ⟨m,rfl⟩:∃ m,n=m+4:=⟨n - 4,by omega⟩
   have e3:decide ((3:Int)<L+1)=true:=decide_eq_true (by omega)
   cases v with
   | num i=>exact aa false [.o 4 (.str (Str.ofString (toString i)))] (iR (vG ok.int)<|>Z) (by kernel_rfl)
   | tru b=>cases b <;> kernel_rfl
   | row xs=>
     have ok:=ok.rowI
     have ht:∀ (j:Nat) (y:V68),xs[j]? = some y→af Γ (m+3) aS [(V68.row xs).toP,.int j,.int (L+1),.ref 1] (ws ns c) = .ok (.str (txt 0 y)) (ws ns c):=fun j y q=>aa false [.t 1 true] (e3<|>Z) (by kernel_rfl)
     obtain ⟨e',hlp⟩:=iP 0 (m+3) L xs ht xs [] [] none rfl (by have:=ok.1;simp only [List.length_nil];omega)
     have hr:(itD .range1 [.int ((ba xs).length:Nat)]).map D.lst=some (.lst ((List.range' 0 xs.length).map fun (i:Nat)=>D.int i)):=by
      rw [cV];exact pW _ ok.1
     exact aa true [.o 11 (.lst ((List.range' 0 xs.length).map fun (i:Nat)=>D.int i)),.e (.lst ([] ++ xs.map fun x=>D.str (txt 0 x))) ⟨[e',some (V68.row xs).toP,some (.int L),some (.ref 1),none,none],[],(ws ns c)⟩,.o 0 (.str (Txt.join " " (xs.map (txt 0)))),.o 3 (.str (txt 1 (.row xs)))]
      (hr<|>hlp<|>(cZ (k:=0) (xs:=xs) (by omega) ok.1 ok.2)<|>(lC (bz (k:=0) (by omega) ok.1 ok.2))<|>Z) (by kernel_rfl)
   | fn t ks vs=>kernel_rfl
   | pair a b=>
     have ok:=ok.pairI
     have o2:∀ x∈[a,b],VOk W x:=fun x hx=>va ok.1 ok.2 hx
     have ht:∀ (j:Int),af Γ (m+3) aS [(V68.pair a b).toP,.int j,.int (L+1),.ref 1] (ws ns c) = .ok (.str "..") (ws ns c):=fun j=>aa false [.t 1 true] (e3<|>Z) (by kernel_rfl)
     exact aa false [.r (.ok (.str (txt 0 a)) (ws ns c)),.r (.ok (.str (txt 0 b)) (ws ns c)),.o 1 (.str (Txt.join " " [txt 0 a,txt 0 b])),.o 3 (.str (txt 1 (.pair a b)))]
      (ht 0<|>ht 1<|>(cZ (k:=0) (xs:=[a,b]) (by omega) (by simp) o2)<|>(je (bz (k:=0) (xs:=[a,b]) (by omega) (by simp) o2))<|>Z) (by kernel_rfl)
 | succ k ih=>
   intro hk v ok L hL n hn
   obtain ⟨m,rfl⟩:∃ m,n=m+4:=⟨n - 4,by omega⟩
   have e3:decide ((3:Int)<L+1)=false:=decide_eq_false (by omega)
   have sub:∀ y:V68,VOk W y→af Γ (m+2) lO [y.toP,.int (L+1),.ref 1] (ws ns c) = .ok (.str (txt (k+1) y)) (ws ns c):=fun y hy=>ih (by omega) y hy (L+1) (by omega) (m+2) (by omega)
   cases v with
   | num i=>exact aa false [.o 4 (.str (Str.ofString (toString i)))] (iR (vG ok.int)<|>Z) (by kernel_rfl)
   | tru b=>cases b <;> kernel_rfl
   | row xs=>
     have ok:=ok.rowI
     have ht:∀ (j:Nat) (y:V68),xs[j]? = some y→af Γ (m+3) aS [(V68.row xs).toP,.int j,.int (L+1),.ref 1] (ws ns c) = .ok (.str (txt (k+1) y)) (ws ns c):=fun j y q=>
      aa false [.t 1 false,.r (.ok y.toP (ws ns c)),.r (.ok (.str (txt (k+1) y)) (ws ns c))] (e3<|>(jX (ns:=ns) (c:=c) .row (.inl rfl) (ba xs) j y.toP (by rw [iU,q];rfl) m)<|>(sub y (ok.2 y (List.mem_of_getElem? q)))<|>Z) (by kernel_rfl)
     obtain ⟨e',hlp⟩:=iP (k+1) (m+3) L xs ht xs [] [] none rfl (by have:=ok.1;simp only [List.length_nil];omega)
     have hr:(itD .range1 [.int ((ba xs).length:Nat)]).map D.lst=some (.lst ((List.range' 0 xs.length).map fun (i:Nat)=>D.int i)):=by
      rw [cV];exact pW _ ok.1
     exact aa true [.o 11 (.lst ((List.range' 0 xs.length).map fun (i:Nat)=>D.int i)),.e (.lst ([] ++ xs.map fun x=>D.str (txt (k+1) x))) ⟨[e',some (V68.row xs).toP,some (.int L),some (.ref 1),none,none],[],(ws ns c)⟩,.o 0 (.str (Txt.join " " (xs.map (txt (k+1))))),.o 3 (.str (txt (k+2) (.row xs)))]
      (hr<|>hlp<|>(cZ (k:=k+1) (xs:=xs) (by omega) ok.1 ok.2)<|>(lC (bz (k:=k+1) (by omega) ok.1 ok.2))<|>Z) (by kernel_rfl)
   | fn t ks vs=>kernel_rfl
   | pair a b=>
     have ok:=ok.pairI
     have o2:∀ x∈[a,b],VOk W x:=fun x hx=>va ok.1 ok.2 hx
     have ht:∀ (j:Nat) (y:V68),[a,b][j]? = some y→af Γ (m+3) aS [(V68.pair a b).toP,.int j,.int (L+1),.ref 1] (ws ns c) = .ok (.str (txt (k+1) y)) (ws ns c):=fun j y q=>
      aa false [.t 1 false,.r (.ok y.toP (ws ns c)),.r (.ok (.str (txt (k+1) y)) (ws ns c))] (e3<|>(jX (ns:=ns) (c:=c) .pair (.inr rfl) [a.toP,b.toP] j y.toP (by have:=iU (xs:=[a,b]) (i:=j);rw [q] at this;exact this) m)<|>(sub y (o2 y (List.mem_of_getElem? q)))<|>Z) (by kernel_rfl)
     exact aa false [.r (.ok (.str (txt (k+1) a)) (ws ns c)),.r (.ok (.str (txt (k+1) b)) (ws ns c)),.o 1 (.str (Txt.join " " [txt (k+1) a,txt (k+1) b])),.o 3 (.str (txt (k+2) (.pair a b)))]
      (ht 0 a rfl<|>ht 1 b rfl<|>(cZ (k:=k+1) (xs:=[a,b]) (by omega) (by simp) o2)<|>(je (bz (k:=k+1) (xs:=[a,b]) (by omega) (by simp) o2))<|>Z) (by kernel_rfl)
theorem sB (v:V68) (ok:VOk W v) (n:Nat) (h:9≤n):af Γ n mP [v.toP,.ref 1] (ws ns c) = .ok (.str (txt 3 v)) (ws ns c):=by
 obtain ⟨m,rfl⟩:∃ m,n=m+1:=⟨n - 1,by omega⟩
 exact aa false [.r (.ok (.str (txt 3 v)) (ws ns c))] (pZ (ns:=ns) (c:=c) 2 (by omega) v ok 1 (by decide) m (by omega)<|>Z) (by kernel_rfl)
end
section
variable {ns:List Int} {W:List Str}
def og:Rs V68→D
 | .ok x _=>.tup [.str "done",.str (txt 3 x)]
 | .er e _=>eD e
def cnt:Rs V68→Nat
 | .ok _ c=>c
 | .er _ c=>c
theorem jZ (c n:Nat):af Γ (n+3) b5 [.ref 0,.dic [] [],.lst (ns.map .int),.int c,.bl false] [.ins 3 []] = .ok .non (ws ns c):=by kernel_rfl
theorem iD:Nm W [] []:=⟨⟨List.nodup_nil,fun x h=>(nomatch h),rfl⟩,fun x h=>(nomatch h)⟩
theorem vJ (hW:W.length≤1000) (hns:∀ x∈ns,x.natAbs<10 ^ 40) (t:T68) (ho:Ok W 8 [] t) (c N:Nat) (hN:17 * c+40≤N):af Γ N oV [t.toD,.dic [] [],.lst (ns.map .int),.int c,.bl false] [] = .ok (og (val ns (8+8 * c) t [] [] c)) (ws ns (cnt (val ns (8+8 * c) t [] [] c))):=by
 obtain ⟨m,rfl⟩:∃ m,N=m+5:=⟨N - 5,by omega⟩
 have hc:=ua hW hns (8+8 * c) t [] [] c 8 (m+4) ho (Nat.le_refl 8) iD (Nat.le_refl _) (by omega)
 have hg:=fW (W:=W) hns (8+8 * c) t [] [] c ho iD
 have hi:aE Γ (m+4) b5 [.ref 0,.dic [] [],.lst (ns.map .int),.int c,.bl false] [.ins 3 []] = .ok .non (ws ns c):=jZ c m
 revert hc hg
 cases val ns (8+8 * c) t [] [] c with
 | ok x c'=>exact fun hc hg=>aa false [.r (.ok .non (ws ns c)),.r (.ok x.toP (ws ns c')),.r (.ok (.str (txt 3 x)) (ws ns c'))] (hi<|>hc<|>sB (ns:=ns) (c:=c') x hg.1 (m+4) (by omega)<|>Z) (by kernel_rfl)
 | er e c'=>exact fun hc hg=>aa false [.r (.ok .non (ws ns c)),.r (.exc 0 [eD e] (ws ns c'))] (hi<|>hc<|>Z) (by kernel_rfl)
theorem plain (hW:W.length≤1000) (hns:∀ x∈ns,x.natAbs<10 ^ 40) (t:T68) (ho:Ok W 8 [] t) (c N:Nat) (hN:17 * c+41≤N):af Γ N qX [t.toD,.lst (ns.map .int),.int c] [] = .ok (og (val ns (8+8 * c) t [] [] c)) (ws ns (cnt (val ns (8+8 * c) t [] [] c))):=by
 obtain ⟨m,rfl⟩:∃ m,N=m+1:=⟨N - 1,by omega⟩
 have h1:=kJ 8 t ho (by omega) m (by omega) []
 have h2:=vJ hW hns t ho c m (by omega)
 generalize val ns (8+8 * c) t [] [] c=r at h2 ⊢
 exact aa false [.r (.ok .non []),.r (.ok (og r) (ws ns (cnt r)))] (h1<|>h2<|>Z) (by kernel_rfl)
end
section
variable {ns:List Int} {W:List Str} {pre:List O}
def lf (pre:List O) (ns:List Int) (c:Nat):List O:=pre ++ [.lst [.lst (ns.map .int),.int c]]
abbrev eL (ks:List Str) (vs:List V68):D:=.dic (ay ks) (bO vs)
theorem nV {α:Type} (st r:List α) (x:α):(st ++ x :: r)[st.length]? = some x:=by
 rw [List.getElem?_append_right (Nat.le_refl _),Nat.sub_self];rfl
theorem pk (c:Nat):look (lf pre ns c) (.ref pre.length) = .lst [.lst (ns.map .int),.int c]:=by
 show (match (lf pre ns c)[pre.length]? with | some (.lst l)=>D.lst l | some (.dic k l)=>.dic k l | _=>.ref pre.length)=_
 unfold lf
 rw [nV]
theorem xi (ks:List Str) (vs:List V68) (x:Str) (v:V68) (h:ks.length<100000):(if (ay ks).length<100000 then some (D.dic (bp (ay ks) (bO vs) (.inr x) v.toL).1 (bp (ay ks) (bO vs) (.inr x) v.toL).2) else none)=some (eL (ah ks x) (aK ks vs x v)):=by
 have l:(ay ks).length=ks.length:=List.length_map ..
 rw [l,if_pos h,cv,l9 V68.toL]
 show some (D.dic _ _)=some (D.dic _ (bO _))
 rw [cv]
theorem lP (ks:List Str) (vs:List V68) (x:Str) (v:V68) (h:ks.length<100000) (n:Nat) (S:List O):af Γ (n+1) ei [eL ks vs,.str x,v.toL] S = .ok (eL (ah ks x) (aK ks vs x v)) S:=
 aa false [.o 1 (eL (ah ks x) (aK ks vs x v))] (xi ks vs x v h<|>Z) (by kernel_rfl)
theorem wR (t:T68) (ks:List Str) (vs:List V68) (x:V68) (h:mL ns ks vs t=some x) (ho:own W ks t) (he:Nm W ks vs) (hl:ns.length≤8) (c n:Nat):af Γ (n+1) dB [t.toD,eL ks vs,.ref pre.length] (lf pre ns c) = .ok x.toL (lf pre ns c):=by
 cases t with
 | whole p v=>cases h;kernel_rfl
 | truth p v=>cases h;kernel_rfl
 | given p i=>
   cases h
   have hi:i<8:=ho
   have e1:ixD (look (lf pre ns c) (.ref pre.length)) (.int 0)=some (.lst (ns.map .int)):=by rw [pk];rfl
   have e2:opD .add (.lst (ns.map .int)) (.lst ((List.replicate 8 (0:Int)).map .int))=some (.lst ((ns ++ List.replicate 8 0).map .int)):=by
    show dk ((ns.map D.int).length+_) _=_
    unfold dk
    rw [if_pos (by simp;omega),List.map_append]
   have e3:ixD (.lst ((ns ++ List.replicate 8 (0:Int)).map .int)) (.int (i:Int))=some (.int ((ns[i]?).getD 0)):=by
    refine bf ?_
    rw [List.getElem?_map]
    by_cases c:i<ns.length
    ·rw [List.getElem?_append_left c,List.getElem?_eq_getElem c];rfl
    ·rw [List.getElem?_append_right (by omega),List.getElem?_eq_none (l:=ns) (by omega),List.getElem?_replicate,if_pos (by omega)];rfl
   exact aa false [.o 6 (.lst (ns.map .int)),.o 0 (.lst ((ns ++ List.replicate 8 0).map .int)),.o 1 (.int ((ns[i]?).getD 0))] (e1<|>e2<|>e3<|>Z) (by kernel_rfl)
 | name p y=>
   obtain ⟨v,hv,_⟩:=ik (P:=VOk W) (x:=y) ho he.ln he.al
   have h:some ((ig ks vs y).getD (.num 0))=some x:=h
   rw [hv] at h
   have h:v=x:=Option.some.inj h
   subst h
   have e:ixD (eL ks vs) (.str y)=some v.toL:=by
    show cf (ay ks) (bO vs) (.inr y)=_
    rw [cv,du V68.toL,hv];rfl
   exact aa false [.o 4 v.toL] (e<|>Z) (by kernel_rfl)
 | fn p y k b=>cases h;kernel_rfl
 | slf p f y k g b=>cases h;kernel_rfl
 | _=>cases h
def hdL:Hd→Str
 | .whole=>"whole" | .truth=>"truth" | .row=>"row" | .pair=>"pair" | .to=>"fn"
theorem s9 (x:V68) (n:Nat) (S:List O):af Γ (n+1) jq [x.toL] S = .ok (.str (hdL x.hd)) S:=by
 cases x <;> kernel_rfl
def kM (r:Except Er V68):D:=match r with
 | .ok x=>x.toL
 | .error e=>.lst [eD e]
theorem sC {xs:List V68} {i:Nat}:(bO xs)[i]? = (xs[i]?).map V68.toL:=by rw [cv,List.getElem?_map]
theorem fU {xs:List V68}:(bO xs).length=xs.length:=by rw [cv,List.length_map]
theorem gD (x:Int):biD .abs [.int x]=some (.int (x.natAbs:Int)):=by
 show some (D.int (if x<0 then -x else x))=_
 congr 2
 split <;> omega
theorem wJ (t:T68) (xs:List V68) (h:Shp t xs) (n:Nat) (S:List O):af Γ (n+1) jp [t.toD,.lst (bO xs)] S = .ok (kM (fin t xs)) S:=by
 cases t with
 | row p kd ts=>kernel_rfl
 | pair p a b=>obtain ⟨u,v,rfl⟩:=h;kernel_rfl
 | as_ p kd a=>obtain ⟨u,rfl⟩:=h;kernel_rfl
 | one p a=>obtain ⟨u,v,rfl⟩:=h;kernel_rfl
 | two p a=>obtain ⟨u,v,rfl⟩:=h;kernel_rfl
 | size p a=>
   obtain ⟨ys,rfl⟩:=h
   have e:biD .len [.tup (bO ys)]=some (.int (ys.length:Nat)):=by show some (D.int ((bO ys).length:Nat))=_;rw [fU]
   exact aa false [.o 9 (.int (ys.length:Nat))] (e<|>Z) (by kernel_rfl)
 | att p a b=>
   obtain ⟨ys,i,rfl⟩:=h
   show _=Res.ok (kM (nth ys i p)) S
   unfold nth
   by_cases c1:0≤i
   ·rw [if_pos c1]
    have e1:decide (i<(0:Int))=false:=decide_eq_false (by omega)
    obtain ⟨k,rfl⟩:∃ k:Nat,i=k:=⟨i.toNat,by omega⟩
    rw [Int.toNat_natCast]
    cases q:ys[k]? with
    | some x=>
      have lt:k<ys.length:=(List.getElem?_eq_some_iff.mp q).1
      have e2:decide (((bO ys).length:Nat)≤(k:Int))=false:=by rw [fU];exact decide_eq_false (by omega)
      have e3:ixD (.tup (bO ys)) (.int (k:Int))=some x.toL:=bf (by rw [sC,q];rfl)
      exact aa false [.t 11 false,.t 5 false,.o 3 x.toL] (e1<|>e2<|>e3<|>Z) (by kernel_rfl)
    | none=>
      have ge:ys.length≤k:=List.getElem?_eq_none_iff.mp q
      have e2:decide (((bO ys).length:Nat)≤(k:Int))=true:=by rw [fU];exact decide_eq_true (by omega)
      exact aa false [.t 11 false,.t 5 true] (e1<|>e2<|>Z) (by kernel_rfl)
   ·rw [if_neg c1]
    have e1:decide (i<(0:Int))=true:=decide_eq_true (by omega)
    exact aa false [.t 11 true] (e1<|>Z) (by kernel_rfl)
 | bin p o a b=>
   obtain ⟨i,j,hi,hj,rfl⟩:=h
   have eq:opD .eq (.int i) (.int j)=some (.bl (decide (i=j))):=congrArg (Option.map D.bl) (oB i j)
   have ml:=pD hi hj
   have ar:∀ x:Int,decide ((10 ^ 40 - 1:Int)<(x.natAbs:Int))=decide (10 ^ 40≤x.natAbs):=fun x=>by congr 1;exact propext (by omega)
   cases o with
   | lt=>exact aa false [.o 19 (.bl (decide (i=j)))] (eq<|>Z) (by kernel_rfl)
   | eq=>exact aa false [.o 19 (.bl (decide (i=j)))] (eq<|>Z) (by kernel_rfl)
   | add=>
     show _=Res.ok (kM (big (i+j) p)) S
     unfold big
     by_cases c:10 ^ 40≤(i+j).natAbs
     ·rw [if_pos c]
      exact aa false [.o 20 (.int (i * j)),.o 3 (.int ((i+j).natAbs:Int)),.t 3 true] (ml<|>gD (i+j)<|>((ar (i+j)).trans (decide_eq_true c))<|>Z) (by kernel_rfl)
     ·rw [if_neg c]
      exact aa false [.o 20 (.int (i * j)),.o 3 (.int ((i+j).natAbs:Int)),.t 3 false] (ml<|>gD (i+j)<|>((ar (i+j)).trans (decide_eq_false c))<|>Z) (by kernel_rfl)
   | sub=>
     show _=Res.ok (kM (big (i - j) p)) S
     unfold big
     by_cases c:10 ^ 40≤(i - j).natAbs
     ·rw [if_pos c]
      exact aa false [.o 20 (.int (i * j)),.o 3 (.int ((i - j).natAbs:Int)),.t 3 true] (ml<|>gD (i - j)<|>((ar (i - j)).trans (decide_eq_true c))<|>Z) (by kernel_rfl)
     ·rw [if_neg c]
      exact aa false [.o 20 (.int (i * j)),.o 3 (.int ((i - j).natAbs:Int)),.t 3 false] (ml<|>gD (i - j)<|>((ar (i - j)).trans (decide_eq_false c))<|>Z) (by kernel_rfl)
   | mul=>
     show _=Res.ok (kM (big (i * j) p)) S
     unfold big
     by_cases c:10 ^ 40≤(i * j).natAbs
     ·rw [if_pos c]
      exact aa false [.o 20 (.int (i * j)),.o 3 (.int ((i * j).natAbs:Int)),.t 3 true] (ml<|>gD (i * j)<|>((ar (i * j)).trans (decide_eq_true c))<|>Z) (by kernel_rfl)
     ·rw [if_neg c]
      exact aa false [.o 20 (.int (i * j)),.o 3 (.int ((i * j).natAbs:Int)),.t 3 false] (ml<|>gD (i * j)<|>((ar (i * j)).trans (decide_eq_false c))<|>Z) (by kernel_rfl)
 | _=>exact h.elim
end
def ym:Rs V68→D
 | .ok x _=>x.toL
 | .er e _=>.lst [eD e]
def bX (pre:List O) (ns:List Int) (r:Rs V68):Res:=.ok (ym r) (lf pre ns (cnt r))
section
variable {ns:List Int} {W:List Str} {pre:List O}
theorem te (c:Nat):ixD (look (lf pre ns c) (.ref pre.length)) (.int 1)=some (.int c):=by rw [pk];rfl
theorem yi (F B:D) (c m:Nat):exS Γ (af Γ m) (aE Γ m) (hdS 1 bA.body) ⟨[some F,some B,some (.ref pre.length),none,none],[],lf pre ns (c+1)⟩ = .nx ⟨[some F,some B,some (.ref pre.length),none,none],[],lf pre ns c⟩:=by
 have e0:=te (pre:=pre) (ns:=ns) (c+1)
 have e1:(((c+1:Nat):Int) == 0)=false:=by simp;omega
 have e2:opD .sub (.int ((c+1:Nat):Int)) (.int 1)=some (.int (c:Int)):=by
  show some (D.int (((c+1:Nat):Int) - 1))=_
  congr 2;omega
 have s1:=bv (Γ:=Γ) (cal:=af Γ m) (cal1:=aE Γ m) (c:=hdS 0 bA.body) (s:=⟨[some F,some B,some (.ref pre.length),none,none],[],lf pre ns (c+1)⟩) (o:=.nx ⟨[some F,some B,some (.ref pre.length),none,none],[],lf pre ns (c+1)⟩) false [.o 0 (.int (c+1:Nat)),.t 1 false] (e0<|>e1<|>Z) (by kernel_rfl)
 have s2:=d9 (Γ:=Γ) (cal:=af Γ m) (cal1:=aE Γ m) (br:=false) (e:=.op .sub (.ix (.v 2) (.c (.int 1))) (.c (.int 1))) (s:=⟨[some F,some B,some (.ref pre.length),none,none],[],lf pre ns (c+1)⟩) (o:=.ok (.int c) ⟨[some F,some B,some (.ref pre.length),none,none],[],lf pre ns (c+1)⟩) false [.o 0 (.int (c+1:Nat)),.o 0 (.int c)] (e0<|>e2<|>Z) (by kernel_rfl)
 have g:(lf pre ns (c+1))[pre.length]? = some (.lst [.lst (ns.map .int),.int (c+1:Nat)]):=nV ..
 have w:(lf pre ns (c+1)).set pre.length (.lst [.lst (ns.map .int),.int c])=lf pre ns c:=by
  unfold lf
  rw [List.set_append_right _ _ (Nat.le_refl _),Nat.sub_self];rfl
 refine (show _=(exS Γ (af Γ m) (aE Γ m) (hdS 0 bA.body) _).go _ from rfl).trans ?_
 rw [s1]
 refine (show _=(ev Γ (af Γ m) (aE Γ m) false (.op .sub (.ix (.v 2) (.c (.int 1))) (.c (.int 1))) ⟨[some F,some B,some (.ref pre.length),none,none],[],lf pre ns (c+1)⟩).go _ from rfl).trans ?_
 rw [s2]
 show (match ((lf pre ns (c+1))[pre.length]?).bind fun o=>iL o (.int 1) (.int c) with | some o=>am.nx ⟨[some F,some B,some (.ref pre.length),none,none],[],(lf pre ns (c+1)).set pre.length o⟩ | none=>.bad)=_
 rw [g]
 show am.nx ⟨_,_,(lf pre ns (c+1)).set pre.length (.lst [.lst (ns.map .int),.int c])⟩=_
 rw [w]
theorem re (v:Vf) (f:T68) (hf:isFn f) (ks:List Str) (vs:List V68) (u:V68) (hl:ks.length<10000) (c m:Nat)
 (hb:∀ c' b,c=c'+1→ax f = [b]→af Γ (m+1) aq [b.toD,eL (inK f ks) (inV f ks vs u),.ref pre.length] (lf pre ns c')=bX pre ns (v b (inK f ks) (inV f ks vs u) c')) :
 af Γ (m+2) gk [(V68.fn f ks vs).toL,u.toL,.ref pre.length] (lf pre ns c)=bX pre ns (app v f ks vs u c):=by
 cases c with
 | zero=>exact aa false [.o 0 (.int (0:Nat))] (te (pre:=pre) (ns:=ns) 0<|>Z) (by kernel_rfl)
 | succ c=>
   obtain ⟨b,hk⟩:=iG hf
   have h:=hb c b rfl hk
   rw [ke v f hf b hk]
   generalize v b (inK f ks) (inV f ks vs u) c=r at h ⊢
   refine aO 1 bA rfl rfl (yi (V68.fn f ks vs).toL u.toL c (m+1)) ?_
   cases f with
   | fn p x k b'=>
     cases hk
     exact ao false [.r (.ok (eL (ah ks x) (aK ks vs x u)) (lf pre ns c)),.r (bX pre ns r)] (lP ks vs x u (by omega) m (lf pre ns c)<|>h<|>Z) (by kernel_rfl)
   | slf p g x k k2 b'=>
     cases hk
     have l:=dK ks g
     exact ao false [.r (.ok (eL (ah ks g) (aK ks vs g (.fn (.slf p g x k k2 b) ks vs))) (lf pre ns c)),.r (.ok (eL (ah (ah ks g) x) (aK (ah ks g) (aK ks vs g (.fn (.slf p g x k k2 b) ks vs)) x u)) (lf pre ns c)),.r (bX pre ns r)] (lP ks vs g (.fn (.slf p g x k k2 b) ks vs) (by omega) m (lf pre ns c)<|>lP (ah ks g) (aK ks vs g (.fn (.slf p g x k k2 b) ks vs)) x u (by omega) m (lf pre ns c)<|>h<|>Z) (by kernel_rfl)
   | _=>exact hf.elim
theorem kA (x:V68) (S:List O):biD .isLst ([x.toL].map (look S))=some (.bl false):=by cases x <;> rfl
def Nds (t:T68) (nd:List D):Prop:=∀ i k,(ax t)[i]? = some k→(∃ h,kI t i=some h∧nd[i]? = some (.str (hdL h)))∨(kI t i=none∧nd.length≤i)
theorem qP (a b:Hd):decide (hdL a=hdL b)=decide (a=b):=by cases a <;> cases b <;> decide +kernel
abbrev vL:S:=ey hZ.body
abbrev ow' (b:Bool):List Nat:=if b then [7,6] else [7]
abbrev fF (pre:List O) (t:T68) (nm:D) (nd:List D) (acc:List D) (e8 e9:Option D):List (Option D):=[some t.toD,some nm,some (.ref pre.length),some (.str t.word),none,some (.lst (toDs (ax t))),some (.lst nd),some (.lst acc),e8,e9]
abbrev lF (m:Nat):D→Sta→am:=fun d s=>match aD [8] true d s.env with | some env=>exS Γ (af Γ (m+1)) (aE Γ (m+1)) vL ⟨env,s.ow.filter fun i=>!([8]:List Nat).contains i,s.st⟩ | none=>.bad
def nP (pre:List O) (ns:List Int) (t:T68) (nm:D) (nd:List D) (b:Bool) (acc:List D) (o:am):Rs (List V68)→Prop
 | .ok xs c'=>∃ e8 e9,o = .nx ⟨fF pre t nm nd (acc ++ bO xs) e8 e9,ow' b,lf pre ns c'⟩
 | .er e c'=>∃ env ow,o = .rt (.lst [eD e]) ⟨env,ow,lf pre ns c'⟩
theorem lU (t:T68) (nm:D) (nd:List D) (hnd:Nds t nd) (b:Bool) (m:Nat) (f:T68→Nat→Rs V68) (c0:Nat) (hg:∀ k∈ax t,∀ c,cy W c (f k c)) (hf:∀ k∈ax t,∀ c,c≤c0→af Γ (m+1) aq [k.toD,nm,.ref pre.length] (lf pre ns c)=bX pre ns (f k c)) :
 ∀ (ts pr:List T68) (acc:List D) (e8 e9:Option D) (c:Nat),pr ++ ts=ax t→acc.length=pr.length→acc.length+ts.length<1000→c≤c0 →
 nP pre ns t nm nd b acc (aQ (lF m) (toDs ts) ⟨fF pre t nm nd acc e8 e9,ow' b,lf pre ns c⟩) (cI f t pr.length ts c)
 | [],pr,acc,e8,e9,c,_,_,_,_=>⟨e8,e9,by simp [bO,toDs,aQ]⟩
 | k :: r',pr,acc,e8,e9,c,hp,ha,hl,hc0=>by
   simp only [List.length_cons] at hl
   have hk:(ax t)[pr.length]? = some k:=by rw [← hp,List.getElem?_append_right (Nat.le_refl _),Nat.sub_self];rfl
   have hm:k∈ax t:=List.mem_of_getElem? hk
   have hc:=hf k hm c hc0
   have g:=hg k hm c
   have len:decide (acc.length<100000)=true:=decide_eq_true (by omega)
   have pl:((pr ++ [k]).length:Nat)=pr.length+1:=by simp
   unfold cI
   revert hc g
   cases f k c with
   | er e c1=>
     intro hc g
     have hc:af Γ (m+1) aq [k.toD,nm,.ref pre.length] (lf pre ns c) = .ok (.lst [eD e]) (lf pre ns c1):=hc
     refine ⟨fF pre t nm nd acc (some k.toD) (some (.lst [eD e])),ow' b,?_⟩
     cases b <;> exact dq (bv false [.r (.ok (.lst [eD e]) (lf pre ns c1))] (hc<|>Z) (by kernel_rfl)) (fun s z=>by cases z)
   | ok x c1=>
     intro hc g
     have hc:af Γ (m+1) aq [k.toD,nm,.ref pre.length] (lf pre ns c) = .ok x.toL (lf pre ns c1):=hc
     have il:=kA x (lf pre ns c1)
     have hh:=s9 x m (lf pre ns c1)
     have hpl:=eQ k (lf pre ns c1)
     have next:exS Γ (af Γ (m+1)) (aE Γ (m+1)) vL ⟨[some t.toD,some nm,some (.ref pre.length),some (.str t.word),none,some (.lst (toDs (ax t))),some (.lst nd),some (.lst acc),some k.toD,e9],ow' b,lf pre ns c⟩ = .nx ⟨fF pre t nm nd (acc ++ [x.toL]) (some k.toD) (some x.toL),ow' b,lf pre ns c1⟩ →
      nP pre ns t nm nd b acc (aQ (lF m) (toDs (k :: r')) ⟨fF pre t nm nd acc e8 e9,ow' b,lf pre ns c⟩) (match cI f t (pr.length+1) r' c1 with | .ok xs c=>.ok (x :: xs) c | .er e c=>.er e c):=fun hs=>by
      have ih:=lU t nm nd hnd b m f c0 hg hf r' (pr ++ [k]) (acc ++ [x.toL]) (some k.toD) (some x.toL) c1 (by rw [← hp];simp) (by simp [ha]) (by rw [List.length_append,List.length_singleton];omega) (Nat.le_trans g.2 hc0)
      rw [pl] at ih
      have hs':lF m k.toD ⟨fF pre t nm nd acc e8 e9,ow' b,lf pre ns c⟩ = .nx ⟨fF pre t nm nd (acc ++ [x.toL]) (some k.toD) (some x.toL),ow' b,lf pre ns c1⟩:=by
       cases b <;> exact hs
      revert ih
      cases cI f t (pr.length+1) r' c1 with
      | ok ys c2=>
        intro ih
        obtain ⟨a,c,h3⟩:=ih
        refine ⟨a,c,cg hs' ?_⟩
        rw [List.append_assoc] at h3
        exact h3
      | er e2 c2=>
        intro ih
        obtain ⟨env,ow,h3⟩:=ih
        exact ⟨env,ow,cg hs' h3⟩
     dsimp only
     rcases hnd pr.length k hk with ⟨h,hn,hi⟩ | ⟨hn,hi⟩
     ·have lt:pr.length<nd.length:=(List.getElem?_eq_some_iff.mp hi).1
      have e1:decide ((acc.length:Int)<(nd.length:Nat))=true:=decide_eq_true (by omega)
      have e2:ixD (.lst nd) (.int (acc.length:Nat))=some (.str (hdL h)):=bf (by rw [ha];exact hi)
      have e3:opD .ne (.str (hdL x.hd)) (.str (hdL h))=some (.bl (!(chk t pr.length x.hd))):=by
       show (eqv 55 (.str (hdL x.hd)) (.str (hdL h))).map (fun b=>D.bl (!b))=_
       rw [oE,qP]
       unfold chk;rw [hn];rfl
      revert e3
      cases chk t pr.length x.hd with
      | false=>
        intro e3
        refine ⟨fF pre t nm nd acc (some k.toD) (some x.toL),ow' b,?_⟩
        cases b <;> exact dq (bv false [.r (.ok x.toL (lf pre ns c1)),.o 0 (.bl false),.t 5 true,.r (.ok (.str (hdL x.hd)) (lf pre ns c1)),.o 1 (.str (hdL h)),.o 0 (.bl true),.o 1 (.int k.pl)] (hc<|>il<|>e1<|>hh<|>e2<|>e3<|>hpl<|>Z) (by kernel_rfl)) (fun s z=>by cases z)
      | true=>
        intro e3
        refine next ?_
        cases b <;> exact bv false [.r (.ok x.toL (lf pre ns c1)),.o 0 (.bl false),.t 5 true,.r (.ok (.str (hdL x.hd)) (lf pre ns c1)),.o 1 (.str (hdL h)),.o 0 (.bl false),.t 1 true] (hc<|>il<|>e1<|>hh<|>e2<|>e3<|>len<|>Z) (by kernel_rfl)
     ·have e1:decide ((acc.length:Int)<(nd.length:Nat))=false:=decide_eq_false (by omega)
      have e3:chk t pr.length x.hd=true:=by unfold chk;rw [hn]
      rw [e3]
      refine next ?_
      cases b <;> exact bv false [.r (.ok x.toL (lf pre ns c1)),.o 0 (.bl false),.t 5 false,.t 1 true] (hc<|>il<|>e1<|>len<|>Z) (by kernel_rfl)
end
def ndL:T68→List D
 | .call _ _ _=>[.str "fn"]
 | .bin _ _ _ _=>[.str "whole",.str "whole"]
 | .att _ _ _=>[.str "row",.str "whole"]
 | .size _ _=>[.str "row"]
 | .one _ _=>[.str "pair"]
 | .two _ _=>[.str "pair"]
 | _=>[]
def flL:T68→Bool
 | .one _ _=>true
 | .two _ _=>true
 | _=>false
theorem vd (t:T68) (hg:gone t):Nds t (ndL t):=by
 intro i k h
 cases t with
 | call p a b=>
   match i,h with
   | 0,_=>exact .inl ⟨.to,rfl,rfl⟩
   | 1,_=>exact .inr ⟨rfl,Nat.le_refl 1⟩
   | i+2,h=>cases h
 | bin p o a b=>
   match i,h with
   | 0,_=>exact .inl ⟨.whole,rfl,rfl⟩
   | 1,_=>exact .inl ⟨.whole,rfl,rfl⟩
   | i+2,h=>cases h
 | att p a b=>
   match i,h with
   | 0,_=>exact .inl ⟨.row,rfl,rfl⟩
   | 1,_=>exact .inl ⟨.whole,rfl,rfl⟩
   | i+2,h=>cases h
 | size p a=>
   match i,h with
   | 0,_=>exact .inl ⟨.row,rfl,rfl⟩
   | i+1,h=>cases h
 | one p a=>
   match i,h with
   | 0,_=>exact .inl ⟨.pair,rfl,rfl⟩
   | i+1,h=>cases h
 | two p a=>
   match i,h with
   | 0,_=>exact .inl ⟨.pair,rfl,rfl⟩
   | i+1,h=>cases h
 | as_ p kd a=>exact .inr ⟨rfl,Nat.zero_le _⟩
 | row p kd ts=>exact .inr ⟨rfl,Nat.zero_le _⟩
 | pair p a b=>exact .inr ⟨rfl,Nat.zero_le _⟩
 | _=>exact hg.elim
section
variable {ns:List Int} {W:List Str} {pre:List O}
theorem kF (hW:W.length≤1000) (hns:∀ x∈ns,x.natAbs<10 ^ 40) (hl8:ns.length≤8) (hpr:pre.length≤6):∀ (n:Nat) (t:T68) (ks:List Str) (vs:List V68) (c q N:Nat),Ok W q ks t→q≤8→Nm W ks vs→q+8 * c≤n→2 * n+c+8≤N→af Γ N aq [t.toD,eL ks vs,.ref pre.length] (lf pre ns c)=bX pre ns (val ns n t ks vs c)
 | n,t,ks,vs,c,0,N,ho,_,_,_,_=>ho.elim
 | 0,t,ks,vs,c,q+1,N,ho,_,_,h,_=>by omega
 | n+1,t,ks,vs,c,q+1,N,ho,hq,he,h,hN=>by
   obtain ⟨m,rfl⟩:∃ m,N=m+4:=⟨N - 4,by omega⟩
   have kid:∀ (k:T68) (ks':List Str) (vs':List V68) (c' M:Nat),Ok W q ks' k→Nm W ks' vs'→c'≤c→m+2≤M→af Γ M aq [k.toD,eL ks' vs',.ref pre.length] (lf pre ns c')=bX pre ns (val ns n k ks' vs' c'):=fun k ks' vs' c' M a b d hM=>kF hW hns hl8 hpr n k ks' vs' c' q M a (by omega) b (by omega) (by omega)
   have kidb:∀ (k:T68) (ks':List Str) (vs':List V68) (c':Nat),Ok W 7 ks' k→Nm W ks' vs'→c'+1≤c→af Γ (m+2) aq [k.toD,eL ks' vs',.ref pre.length] (lf pre ns c')=bX pre ns (val ns n k ks' vs' c'):=fun k ks' vs' c' a b d=>kF hW hns hl8 hpr n k ks' vs' c' 7 (m+2) a (by omega) b (by omega) (by omega)
   have same:∀ {i:Nat},bnd t i = []→∀ x,x∈ks∨x∈bnd t i→x∈ks:=fun hb x hx=>by rw [hb] at hx;rcases hx with hx | hx;exact hx;cases hx
   have gv:=fW (W:=W) hns n
   have o8:∀ {ks':List Str} {k:T68},Ok W q ks' k→Ok W 8 ks' k:=fun hk=>hk.mono (fun _ h=>h) (by omega)
   show _=bX pre ns (jT ns (val ns n) t ks vs c)
   generalize val ns n=v at kid kidb gv
   have lf':∀ x,mL ns ks vs t=some x→af Γ (m+4) aq [t.toD,eL ks vs,.ref pre.length] (lf pre ns c) = .ok x.toL (lf pre ns c):=fun x hx=>by
    have hl:=wR (pre:=pre) t ks vs x hx ho.1 he hl8 c (m+2)
    cases t with
    | whole p y=>exact aa false [.r (.ok x.toL (lf pre ns c))] (hl<|>Z) (by kernel_rfl)
    | truth p y=>exact aa false [.r (.ok x.toL (lf pre ns c))] (hl<|>Z) (by kernel_rfl)
    | given p y=>exact aa false [.r (.ok x.toL (lf pre ns c))] (hl<|>Z) (by kernel_rfl)
    | name p y=>exact aa false [.r (.ok x.toL (lf pre ns c))] (hl<|>Z) (by kernel_rfl)
    | fn p y k b=>exact aa false [.r (.ok x.toL (lf pre ns c))] (hl<|>Z) (by kernel_rfl)
    | slf p f y k g b=>exact aa false [.r (.ok x.toL (lf pre ns c))] (hl<|>Z) (by kernel_rfl)
    | _=>cases hx
   have gn:gone t→af Γ (m+4) aq [t.toD,eL ks vs,.ref pre.length] (lf pre ns c)=bX pre ns (jT ns v t ks vs c):=fun hg=>by
    rw [d5 hg]
    have hkid:∀ k∈ax t,∀ c',c'≤c→af Γ (m+3) aq [k.toD,eL ks vs,.ref pre.length] (lf pre ns c')=bX pre ns (v k ks vs c'):=fun k hk c' hc=>kid k ks vs c' (m+3) (ho.part hg hk) he hc (by omega)
    have hgood:∀ k∈ax t,∀ c',cy W c' (v k ks vs c'):=fun k hk c'=>gv k ks vs c' (o8 (ho.part hg hk)) he
    have lp:=lU (pre:=pre) (ns:=ns) t (eL ks vs) (ndL t) (vd t hg) (flL t) (m+2) (fun k c=>v k ks vs c) c hgood hkid (ax t) [] [] none none c rfl rfl (by have:=jB ho.1;simp only [List.length_nil];omega) (Nat.le_refl c)
    have ga:=eN (W:=W) (f:=fun k c=>v k ks vs c) (t:=t) (ax t) 0 c hgood
    have lp:nP pre ns t (eL ks vs) (ndL t) (flL t) [] (aQ (lF (m+2)) (toDs (ax t)) ⟨fF pre t (eL ks vs) (ndL t) [] none none,ow' (flL t),lf pre ns c⟩) (cI (fun k c=>v k ks vs c) t 0 (ax t) c):=lp
    revert ga lp
    cases cI (fun k c=>v k ks vs c) t 0 (ax t) c with
    | er e c'=>
      intro ga lp
      obtain ⟨env,ow,hf⟩:=lp
      have go:∀ t':T68,t'=t→af Γ (m+4) aq [t.toD,eL ks vs,.ref pre.length] (lf pre ns c) = .ok (.lst [eD e]) (lf pre ns c'):=fun t' et=>by
       cases t <;> first | exact hg.elim | exact aa true [.x (.rt (.lst [eD e]) ⟨env,ow,lf pre ns c'⟩)] ((et ▸ hf)<|>Z) (by subst et;kernel_rfl)
      exact go t rfl
    | ok xs c'=>
      intro ga lp
      obtain ⟨a8,a9,hf⟩:=lp
      rcases kU hg ga with ⟨p,a,b,rfl,f,ks',vs',u,rfl⟩ | hs
      ·have hv:VOk W (.fn f ks' vs'):=ga.1 _ (by simp)
       have hu:VOk W u:=ga.1 u (by simp)
       have hc':c'≤c:=ga.2.2.1
       cases hv with
       | fn hi hb8 hen hal=>
         have he':Nm W ks' vs':=⟨hen,hal⟩
         have hcl:=re (ns:=ns) v f hi ks' vs' u (he'.few hW) c' (m+1) fun c2 b2 e2 hk2=>by
          obtain ⟨ob,nb⟩:=eX (n:=7) (u:=u) hi hb8 he' hb8 hu hk2
          exact kidb b2 _ _ c2 ob nb (by omega)
         show _=bX pre ns (app v f ks' vs' u c')
         generalize app v f ks' vs' u c'=rr at hcl ⊢
         exact aa true [.x (.nx ⟨fF pre (.call p a b) (eL ks vs) [.str "fn"] ([] ++ bO [.fn f ks' vs',u]) a8 a9,[7],lf pre ns c'⟩),.r (bX pre ns rr)] (hf<|>hcl<|>Z) (by kernel_rfl)
      ·have hd:=wJ t xs hs (m+2) (lf pre ns c')
       have e0:mS v t xs c'=ex (fin t xs) c':=by
        cases t <;> first | exact hs.elim | rfl
       dsimp only
       rw [e0]
       have e1:bX pre ns (ex (fin t xs) c') = .ok (kM (fin t xs)) (lf pre ns c'):=by cases fin t xs <;> rfl
       rw [e1]
       generalize kM (fin t xs)=dd at hd ⊢
       have go:∀ t':T68,t'=t→af Γ (m+4) aq [t.toD,eL ks vs,.ref pre.length] (lf pre ns c) = .ok dd (lf pre ns c'):=fun t' et=>by
        cases t <;> first | exact hs.elim | exact aa true [.x (.nx ⟨fF pre t' (eL ks vs) (ndL t') ([] ++ bO xs) a8 a9,ow' (flL t'),lf pre ns c'⟩),.r (.ok dd (lf pre ns c'))] ((et ▸ hf)<|>(et ▸ hd)<|>Z) (by subst et;kernel_rfl)
       exact go t rfl
   cases t with
   | lt p x a b=>
     have oa:Ok W q ks a:=ho.kid (i:=0) rfl (same rfl) (Nat.le_refl q)
     have h1:=kid a ks vs c (m+3) oa he (Nat.le_refl c) (by omega)
     have g1:=gv a ks vs c (o8 oa) he
     show _=bX pre ns (match v a ks vs c with | .er e c=>.er e c | .ok u c=>v b (ah ks x) (aK ks vs x u) c)
     revert h1 g1
     cases v a ks vs c with
     | er e c'=>exact fun h1 g1=>aa false [.r (.ok (.lst [eD e]) (lf pre ns c'))] (h1<|>Z) (by kernel_rfl)
     | ok u c'=>
       intro h1 g1
       have hx:x∈W:=ho.1
       have hw:=lP ks vs x u (he.lt hW) (m+2) (lf pre ns c')
       have h2:=kid b (ah ks x) (aK ks vs x u) c' (m+3) (ho.kid (i:=1) rfl (fun y hy=>cB _ _ _ (by rcases hy with hy | hy;exact .inl hy;exact .inr (List.mem_singleton.mp hy))) (Nat.le_refl q)) (he.put hx g1.1) g1.2 (by omega)
       dsimp only
       generalize v b (ah ks x) (aK ks vs x u) c'=rr at h2 ⊢
       exact aa false [.r (.ok u.toL (lf pre ns c')),.o 0 (.bl false),.r (.ok (eL (ah ks x) (aK ks vs x u)) (lf pre ns c')),.r (bX pre ns rr)] (h1<|>kA u (lf pre ns c')<|>hw<|>h2<|>Z) (by kernel_rfl)
   | iff p a b d=>
     have oa:Ok W q ks a:=ho.kid (i:=0) rfl (same rfl) (Nat.le_refl q)
     have h1:=kid a ks vs c (m+2) oa he (Nat.le_refl c) (by omega)
     have g1:=gv a ks vs c (o8 oa) he
     have hb:∀ c',c'≤c→_:=fun c' hc=>kid b ks vs c' (m+2) (ho.kid (i:=1) rfl (same rfl) (Nat.le_refl q)) he hc (by omega)
     have hd:∀ c',c'≤c→_:=fun c' hc=>kid d ks vs c' (m+2) (ho.kid (i:=2) rfl (same rfl) (Nat.le_refl q)) he hc (by omega)
     have fk:∀ rr:Rs V68,af Γ (m+3) gm [(T68.iff p a b d).toD,eL ks vs,.ref pre.length] (lf pre ns c)=bX pre ns rr→af Γ (m+4) aq [(T68.iff p a b d).toD,eL ks vs,.ref pre.length] (lf pre ns c)=bX pre ns rr:=fun rr hr=>aa false [.r (bX pre ns rr)] (hr<|>Z) (by kernel_rfl)
     refine fk _ ?_
     show _=bX pre ns (match v a ks vs c with
      | .er e c=>.er e c
      | .ok u c=>(match u with
        | .tru true=>v b ks vs c
        | .tru false=>v d ks vs c
        | _=>.er (.wrong a.pl) c))
     revert h1 g1
     cases v a ks vs c with
     | er e c'=>exact fun h1 g1=>aa false [.r (.ok (.lst [eD e]) (lf pre ns c'))] (h1<|>Z) (by kernel_rfl)
     | ok u c'=>
       intro h1 g1
       have hb:=hb c' g1.2
       have hd:=hd c' g1.2
       have pl:=eQ a (lf pre ns c')
       cases u with
       | tru w=>
         cases w with
         | true=>
           dsimp only
           generalize v b ks vs c'=rr at hb ⊢
           exact aa false [.r (.ok (.bl true) (lf pre ns c')),.r (bX pre ns rr)] (h1<|>hb<|>Z) (by kernel_rfl)
         | false=>
           dsimp only
           generalize v d ks vs c'=rr at hd ⊢
           exact aa false [.r (.ok (.bl false) (lf pre ns c')),.r (bX pre ns rr)] (h1<|>hd<|>Z) (by kernel_rfl)
       | num i=>exact aa false [.r (.ok (V68.num i).toL (lf pre ns c')),.o 7 (.int a.pl)] (h1<|>pl<|>Z) (by kernel_rfl)
       | row i=>exact aa false [.r (.ok (V68.row i).toL (lf pre ns c')),.o 7 (.int a.pl)] (h1<|>pl<|>Z) (by kernel_rfl)
       | pair i j=>exact aa false [.r (.ok (V68.pair i j).toL (lf pre ns c')),.o 7 (.int a.pl)] (h1<|>pl<|>Z) (by kernel_rfl)
       | fn i j k=>exact aa false [.r (.ok (V68.fn i j k).toL (lf pre ns c')),.o 7 (.int a.pl)] (h1<|>pl<|>Z) (by kernel_rfl)
   | whole p y=>exact lf' _ rfl
   | truth p y=>exact lf' _ rfl
   | given p y=>exact lf' _ rfl
   | name p y=>exact lf' _ rfl
   | fn p y k b=>exact lf' _ rfl
   | slf p f y k g b=>exact lf' _ rfl
   | _=>exact gn trivial
end
variable {W:List Str}
abbrev xy:E:=.call 49 (.cons (.v 0) (.cons (.op .add (.v 2) (.c (.int 1))) .nil))
theorem lT (k m:Nat) (L:Int) (v h:D) (S:List O):∀ (ys:List V68) (acc:List D) (e:Option D),(∀ y∈ys,af Γ m cN [y.toL,.int (L+1)] S = .ok (.str (txt k y)) S)→acc.length+ys.length<1000→∃ e',aN (lcF (af Γ m) (aE Γ m) xy) (bO ys) acc ⟨[e,some v,some (.int L),some h,none],[],S⟩ = .ok (.lst (acc ++ ys.map fun x=>D.str (txt k x))) ⟨[e',some v,some (.int L),some h,none],[],S⟩
 | [],acc,e,_,_=>⟨e,by simp [aN,bO]⟩
 | y :: r,acc,e,ht,hl=>by
   simp only [List.length_cons] at hl
   have hs:=d9 (Γ:=Γ) (cal:=af Γ m) (cal1:=aE Γ m) (br:=false) (e:=xy) (s:=⟨[some y.toL,some v,some (.int L),some h,none],[],S⟩) (o:=.ok (.str (txt k y)) ⟨[some y.toL,some v,some (.int L),some h,none],[],S⟩) false [.r (.ok (.str (txt k y)) S)] (ht y (List.mem_cons_self ..)<|>Z) (by kernel_rfl)
   obtain ⟨e',h⟩:=lT k m L v h S r (acc ++ [.str (txt k y)]) (some y.toL) (fun z hz=>ht z (List.mem_cons_of_mem _ hz)) (by rw [List.length_append,List.length_singleton];omega)
   refine ⟨e',b7 (bS hs) (by omega) ?_⟩
   rw [h,List.append_assoc]
   rfl
theorem k8 (o z:Str) (ho:o.length=1) (h:z.length≤50000):opD .add (.str o) (.str z)=some (.str (o ++ z)):=by
 show dk (o.length+z.length) _=_
 unfold dk
 rw [if_pos (by omega)]
theorem lg (o z c:Str) (ho:o.length=1) (hc:c.length=1) (h:z.length≤50000):opD .add (.str (o ++ z)) (.str c)=some (.str ((o ++ z) ++ c)):=by
 show dk ((o ++ z).length+c.length) _=_
 unfold dk
 rw [strLen_append,if_pos (by omega)]
theorem ti (S:List O):∀ (k:Nat),k≤3→∀ (v:V68),VOk W v→∀ (L:Int),L=4 - k→∀ n,k+2≤n→af Γ n cN [v.toL,.int L] S = .ok (.str (txt k v)) S
 | 0,_,v,ok,L,hL,n,hn=>by
   obtain ⟨m,rfl⟩:∃ m,n=m+1:=⟨n - 1,by omega⟩
   obtain rfl:L=4:=by omega
   kernel_rfl
 | k+1,hk,v,ok,L,hL,n,hn=>by
   obtain ⟨m,rfl⟩:∃ m,n=m+2:=⟨n - 2,by omega⟩
   have e4:(L == 4)=false:=by simp;omega
   have sub:∀ y:V68,VOk W y→af Γ (m+1) cN [y.toL,.int (L+1)] S = .ok (.str (txt k y)) S:=fun y hy=>ti S k (by omega) y hy (L+1) (by omega) (m+1) (by omega)
   have l1:("[":Str).length=1:=by decide +kernel
   have l2:("]":Str).length=1:=by decide +kernel
   have l3:("<":Str).length=1:=by decide +kernel
   have l4:(">":Str).length=1:=by decide +kernel
   have hh:=s9 v m S
   cases v with
   | num i=>exact aa false [.t 1 false,.r (.ok (.str "whole") S),.o 4 (.str (Str.ofString (toString i)))] (e4<|>hh<|>iR (vG ok.int)<|>Z) (by kernel_rfl)
   | tru b=>cases b <;> exact aa false [.t 1 false,.r (.ok (.str "truth") S)] (e4<|>hh<|>Z) (by kernel_rfl)
   | fn t ks vs=>exact aa false [.t 1 false,.r (.ok (.str "fn") S)] (e4<|>hh<|>Z) (by kernel_rfl)
   | row xs=>
     have ok:=ok.rowI
     obtain ⟨e',hlp⟩:=lT k (m+1) L (V68.row xs).toL (.str "row") S xs [] none (fun y hy=>sub y (ok.2 y hy)) (by have:=ok.1;simp only [List.length_nil];omega)
     have js:=bz (k:=k) (xs:=xs) (by omega) ok.1 ok.2
     exact aa true [.t 1 false,.r (.ok (.str "row") S),.e (.lst ([] ++ xs.map fun x=>D.str (txt k x))) ⟨[e',some (V68.row xs).toL,some (.int L),some (.str "row"),none],[],S⟩,.o 0 (.str (Txt.join " " (xs.map (txt k)))),.o 0 (.str ("[" ++ Txt.join " " (xs.map (txt k)))),.o 0 (.str (txt (k+1) (.row xs))),.o 0 (.str ("<" ++ Txt.join " " (xs.map (txt k)))),.o 0 (.str (("<" ++ Txt.join " " (xs.map (txt k))) ++ ">"))]
      (e4<|>hh<|>hlp<|>(cZ (k:=k) (xs:=xs) (by omega) ok.1 ok.2)<|>k8 _ _ l1 js<|>lg _ _ _ l1 l2 js<|>k8 _ _ l3 js<|>lg _ _ _ l3 l4 js<|>Z) (by kernel_rfl)
   | pair a b=>
     have ok:=ok.pairI
     have o2:∀ x∈[a,b],VOk W x:=fun x hx=>va ok.1 ok.2 hx
     have js:=bz (k:=k) (xs:=[a,b]) (by omega) (by simp) o2
     exact aa false [.t 1 false,.r (.ok (.str "pair") S),.r (.ok (.str (txt k a)) S),.r (.ok (.str (txt k b)) S),.o 1 (.str (Txt.join " " [txt k a,txt k b])),.o 0 (.str ("[" ++ Txt.join " " [txt k a,txt k b])),.o 0 (.str (("[" ++ Txt.join " " [txt k a,txt k b]) ++ "]")),.o 0 (.str ("<" ++ Txt.join " " [txt k a,txt k b])),.o 0 (.str (txt (k+1) (.pair a b)))]
      (e4<|>hh<|>sub a ok.1<|>sub b ok.2<|>(cZ (k:=k) (xs:=[a,b]) (by omega) (by simp) o2)<|>k8 _ _ l1 js<|>lg _ _ _ l1 l2 js<|>k8 _ _ l3 js<|>lg _ _ _ l3 l4 js<|>Z) (by kernel_rfl)
theorem dF {i j:Int} (h:-(2 ^ 64)<j∧j<2 ^ 64):opD .mul (.int i) (.int j)=some (.int (i * j)):=by
 show (if _ then _ else _)=_
 rw [if_pos (.inl (.inr h))]
theorem tR (x:Int):0≤x % 999999999989∧x % 999999999989<999999999989:=⟨Int.emod_nonneg _ (by decide),Int.emod_lt_of_pos _ (by decide)⟩
theorem aP {a b:Int} (h:a=b):(a == b)=true:=by rw [h];exact beq_self_eq_true b
theorem au {a b:Int} (h:a≠b):(a == b)=false:=by simpa using h
theorem dj (ns:List Int) (k:Nat) (n:Nat) (st:List O):∃ c:Int,(0≤c∧c<999999999989)∧af Γ (n+1) fq [.lst (ns.map .int),.int k] st = .ok (.int c) st:=by
 by_cases c:k<ns.length
 ·have e1:decide ((k:Int)<((ns.map D.int).length:Nat))=true:=by rw [List.length_map];exact decide_eq_true (by omega)
  have e2:ixD (.lst (ns.map D.int)) (.int (k:Int))=some (.int ns[k]):=by
   refine bf ?_
   rw [List.getElem?_map,List.getElem?_eq_getElem c]
   rfl
  refine ⟨_,tR (ns[k] * 982451653+((k:Int)+1) * 104395303),?_⟩
  exact aa false [.t 2 true,.o 0 (.int ns[k]),.o 0 (.int (ns[k] * 982451653)),.o 1 (.int (((k:Int)+1) * 104395303))] (e1<|>e2<|>dF (i:=ns[k]) (j:=982451653) (by decide)<|>dF (i:=(k:Int)+1) (j:=104395303) (by decide)<|>Z) (by kernel_rfl)
 ·have e1:decide ((k:Int)<((ns.map D.int).length:Nat))=false:=by rw [List.length_map];exact decide_eq_false (by omega)
  refine ⟨_,tR (0 * 982451653+((k:Int)+1) * 104395303),?_⟩
  exact aa false [.t 2 false,.o 2 (.int (((k:Int)+1) * 104395303))] (e1<|>dF (i:=(k:Int)+1) (j:=104395303) (by decide)<|>Z) (by kernel_rfl)
abbrev kj (ns:List Int) (i b c:Int) (w o:D):O:=.lst [.lst (ns.map .int),.int i,.int b,.int c,w,o]
theorem fN (ns:List Int) (i b c:Int) (w o:D) (n:Nat) (st:List O):af Γ (n+1) ip [.ref 0] (kj ns i b c w o :: st) = .ok (.int ((b+7919 * (c+1)) % 9973)) (kj ns i b (c+1) w o :: st):=by kernel_rfl
theorem next (ns:List Int) (i b c:Int) (w o:D) (hi:0≤i) (n:Nat) (st:List O):∃ x:Int,(0≤x∧x<999999999989)∧af Γ (n+1) jy [.ref 0] (kj ns i b c w o :: st) = .ok (.int x) (kj ns (i+1) b c w o :: st):=by
 have b9:0≤3+13 * ((i+1) % 997)∧3+13 * ((i+1) % 997)<999999999989:=by omega
 have m9:opD .mul (.int 13) (.int ((i+1) % 997))=some (.int (13 * ((i+1) % 997))):=dF (by omega)
 by_cases c1:30<c
 ·have e1:decide ((30:Int)<c)=true:=decide_eq_true c1
  exact ⟨_,b9,aa false [.t 4 true,.o 3 (.int (13 * ((i+1) % 997)))] (e1<|>m9<|>Z) (by kernel_rfl)⟩
 ·have e1:decide ((30:Int)<c)=false:=decide_eq_false c1
  by_cases c2:(ns.length:Int)≤i+1
  ·have e2:decide (((ns.map D.int).length:Int)≤i+1)=true:=by rw [List.length_map];exact decide_eq_true c2
   exact ⟨_,b9,aa false [.t 4 false,.t 4 true,.o 2 (.int (13 * ((i+1) % 997)))] (e1<|>e2<|>m9<|>Z) (by kernel_rfl)⟩
  ·have e2:decide (((ns.map D.int).length:Int)≤i+1)=false:=by rw [List.length_map];exact decide_eq_false c2
   obtain ⟨k,hk⟩:∃ k:Nat,i+1=k:=⟨(i+1).toNat,by omega⟩
   have kl:k<ns.length:=by omega
   have e3:ixD (.lst (ns.map D.int)) (.int (i+1))=some (.int ns[k]):=by
    rw [hk]
    refine bf ?_
    rw [List.getElem?_map,List.getElem?_eq_getElem kl]
    rfl
   refine ⟨_,tR (ns[k] * 982451653+(i+1) * 104395303),?_⟩
   exact aa false [.t 4 false,.t 4 false,.o 2 (.int ns[k]),.o 0 (.int (ns[k] * 982451653)),.o 1 (.int ((i+1) * 104395303))] (e1<|>e2<|>e3<|>dF (i:=ns[k]) (j:=982451653) (by decide)<|>dF (i:=i+1) (j:=104395303) (by decide)<|>Z) (by kernel_rfl)
theorem vf (c:Int) (h0:0≤c) (h1:c<10 ^ 12) (n:Nat) (st:List O):∃ v:Int,v.natAbs<10 ^ 40∧af Γ (n+1) gq [.int c] st = .ok (.int v) st:=by
 have sg:-(2 ^ 64)<1 - 2 * (c / 8 % 2)∧1 - 2 * (c / 8 % 2)<2 ^ 64:=⟨by omega,by omega⟩
 have s1:1 - 2 * (c / 8 % 2)=1∨1 - 2 * (c / 8 % 2) = -1:=by omega
 have bd:∀ x:Int,0≤x→x<10 ^ 40→(x * (1 - 2 * (c / 8 % 2))).natAbs<10 ^ 40:=fun x h0 h1=>by rcases s1 with e | e <;> rw [e] <;> omega
 have m2:opD .mul (.int 2) (.int (c / 8 % 2))=some (.int (2 * (c / 8 % 2))):=dF (by omega)
 by_cases c0:c % 8=1
 ·exact ⟨_,bd (10 ^ 40 - 1 - c / 16 % 1000) (by omega) (by omega),aa false [.t 2 true,.o 7 (.int (2 * (c / 8 % 2))),.o 1 (.int ((10 ^ 40 - 1 - c / 16 % 1000) * (1 - 2 * (c / 8 % 2))))] (aP c0<|>m2<|>dF (i:=10 ^ 40 - 1 - c / 16 % 1000) sg<|>Z) (by kernel_rfl)⟩
 ·by_cases c1:c % 8=2
  ·exact ⟨c / 8,by omega,aa false [.t 2 false,.t 2 true] (au c0<|>aP c1<|>Z) (by kernel_rfl)⟩
  ·exact ⟨c / 8 % 12 - 3,by omega,aa false [.t 2 false,.t 2 false] (au c0<|>au c1<|>Z) (by kernel_rfl)⟩
def Kd.dp:Kd→Nat
 | .to a b=>1+max a.dp b.dp
 | .row a=>1+a.dp
 | .pair a b=>1+max a.dp b.dp
 | _=>1
theorem sx (n:Nat) (x y:Str):∃ r,eqv n (.str x) (.str y)=some r:=by cases n <;> exact ⟨_,rfl⟩
def E1 (f:D→D→Option Bool) (la lb:List D):Prop:=∃ r,cH f la lb=some r
theorem E1.nilL {f:D→D→Option Bool} {l:List D}:E1 f [] l:=⟨true,by cases l <;> rfl⟩
theorem E1.nilR {f:D→D→Option Bool} {l:List D}:E1 f l []:=⟨true,by cases l <;> rfl⟩
theorem E1.cons {f:D→D→Option Bool} {d e:D} {a b:List D} (h:∃ r,f d e=some r) (t:E1 f a b):E1 f (d :: a) (e :: b):=by
 obtain ⟨x,hx⟩:=h
 obtain ⟨y,hy⟩:=t
 exact ⟨x && y,by show (match f d e with | none=>none | some x=>(cH f a b).map (x && ·))=_;rw [hx,hy];rfl⟩
theorem E1.up {n:Nat} {a b:List D} (h:E1 (eqv n) a b):∃ r,eqv (n+1) (.tup a) (.tup b)=some r:=by
 obtain ⟨x,hx⟩:=h
 exact ⟨x && a.length == b.length,by show (cH (eqv n) a b).map (· && a.length == b.length)=_;rw [hx];rfl⟩
theorem Kd.eq_some:∀ (n:Nat) (a:Kd),a.dp≤n→∀ b:Kd,∃ r,eqv n a.toD b.toD=some r
 | 0,a,h,b=>by cases a <;> (unfold Kd.dp at h;omega)
 | n+1,a,h,b=>by
   have s:=sx n
   cases a with
   | whole=>cases b <;> exact E1.up (.cons (s _ _) .nilL)
   | truth=>cases b <;> exact E1.up (.cons (s _ _) .nilL)
   | unt=>cases b <;> exact E1.up (.cons (s _ _) .nilL)
   | row a1=>
     have h1:a1.dp≤n:=by unfold Kd.dp at h;omega
     have i:=eq_some n a1 h1
     cases b <;> first | exact E1.up (.cons (s _ _) .nilR) | exact E1.up (.cons (s _ _) (.cons (i _) .nilL))
   | to a1 a2=>
     have h1:a1.dp≤n∧a2.dp≤n:=by unfold Kd.dp at h;omega
     have i:=eq_some n a1 h1.1
     have j:=eq_some n a2 h1.2
     cases b <;> first | exact E1.up (.cons (s _ _) .nilR) | exact E1.up (.cons (s _ _) (.cons (i _) .nilR)) | exact E1.up (.cons (s _ _) (.cons (i _) (.cons (j _) .nilL)))
   | pair a1 a2=>
     have h1:a1.dp≤n∧a2.dp≤n:=by unfold Kd.dp at h;omega
     have i:=eq_some n a1 h1.1
     have j:=eq_some n a2 h1.2
     cases b <;> first | exact E1.up (.cons (s _ _) .nilR) | exact E1.up (.cons (s _ _) (.cons (i _) .nilR)) | exact E1.up (.cons (s _ _) (.cons (i _) (.cons (j _) .nilL)))
theorem lB (c:Int) (n:Nat) (st:List O):∃ k:Kd,k.dp=1∧af Γ (n+1) eg [.int c] st = .ok k.toD st:=by
 have h:c % 3=0∨c % 3=1∨c % 3=2:=by omega
 rcases h with h | h | h
 ·exact ⟨.whole,rfl,aa false [.o 0 (.int 0)] (congrArg (fun z=>some (D.int z)) h<|>Z) (by kernel_rfl)⟩
 ·exact ⟨.truth,rfl,aa false [.o 0 (.int 1)] (congrArg (fun z=>some (D.int z)) h<|>Z) (by kernel_rfl)⟩
 ·exact ⟨.unt,rfl,aa false [.o 0 (.int 2)] (congrArg (fun z=>some (D.int z)) h<|>Z) (by kernel_rfl)⟩
theorem fE (c:Int) (n:Nat) (st:List O):∃ k:Kd,k.dp≤2∧af Γ (n+2) jr [.int c] st = .ok k.toD st:=by
 obtain ⟨a,ha,h1⟩:=lB c n st
 obtain ⟨b,hb,h2⟩:=lB (c / 3) n st
 have m:max a.dp b.dp=1:=by omega
 have h:c / 9 % 5=0∨c / 9 % 5=1∨c / 9 % 5=2∨c / 9 % 5=3∨c / 9 % 5=4:=by omega
 rcases h with h | h | h | h | h
 ·exact ⟨a,by omega,aa false [.r (.ok a.toD st),.r (.ok b.toD st),.o 1 (.int 0)] (h1<|>h2<|>congrArg (fun z=>some (D.int z)) h<|>Z) (by kernel_rfl)⟩
 ·exact ⟨.to b a,by show 1+max b.dp a.dp≤2;omega,aa false [.r (.ok a.toD st),.r (.ok b.toD st),.o 1 (.int 1)] (h1<|>h2<|>congrArg (fun z=>some (D.int z)) h<|>Z) (by kernel_rfl)⟩
 ·exact ⟨.row a,by show 1+a.dp≤2;omega,aa false [.r (.ok a.toD st),.r (.ok b.toD st),.o 1 (.int 2)] (h1<|>h2<|>congrArg (fun z=>some (D.int z)) h<|>Z) (by kernel_rfl)⟩
 ·exact ⟨.pair a b,by show 1+max a.dp b.dp≤2;omega,aa false [.r (.ok a.toD st),.r (.ok b.toD st),.o 1 (.int 3)] (h1<|>h2<|>congrArg (fun z=>some (D.int z)) h<|>Z) (by kernel_rfl)⟩
 ·exact ⟨a,by omega,aa false [.r (.ok a.toD st),.r (.ok b.toD st),.o 1 (.int 4)] (h1<|>h2<|>congrArg (fun z=>some (D.int z)) h<|>Z) (by kernel_rfl)⟩
def kds (l:List Kd):List D:=l.map Kd.toD
abbrev eK (ks:List Str) (kd:List Kd):D:=.dic (ay ks) (kds kd)
structure Nk (W ks:List Str) (kd:List Kd):Prop where
 nd:ks.Nodup
 sb:∀ x∈ks,x∈W
 ln:ks.length=kd.length
 dp:∀ k∈kd,k.dp≤3
theorem sV {x:Str}:∀ {ks:List Str} {kd:List Kd},x∈ks→ks.length=kd.length→∃ k:Kd,k∈kd∧cf (ay ks) (kds kd) (.inr x)=some k.toD
 | k :: ks,[],_,l=>by cases l
 | k :: ks,d :: ds,hx,l=>by
   show ∃ v:Kd,v∈d :: ds∧(if (Sum.inr k:Key) = .inr x then some d.toD else cf (ay ks) (kds ds) (.inr x))=some v.toD
   by_cases c:k=x
   ·rw [if_pos (by rw [c])];exact ⟨d,List.mem_cons_self ..,rfl⟩
   ·rw [if_neg (fun e=>c (Sum.inr.inj e))]
    have hx:x∈ks:=by
     rcases List.mem_cons.mp hx with e | h
     ·exact absurd e.symm c
     ·exact h
    obtain ⟨v,hv,h⟩:=sV hx (by simpa using l)
    exact ⟨v,List.mem_cons_of_mem _ hv,h⟩
def lcG (cal cal1:Nat→List D→List O→Res) (cond elt:E):D→Sta→Out (Option D):=fun d s'=>(match aD [0] true d s'.env with
 | some env=>(noX (ev Γ cal cal1 true cond ⟨env,[],s'.st⟩)).bind fun b s2=>(match b with
   | .bl true=>(noX (ev Γ cal cal1 false elt s2)).bind fun e s3=>.ok (some e) ⟨s3.env,[],s3.st⟩
   | .bl false=>.ok none ⟨s2.env,[],s2.st⟩
   | _=>.bad)
 | none=>.bad)
abbrev lA:E:=.op .eq (.ix (.v 3) (.v 0)) (.v 2)
theorem dU (m:Nat) (dl cell:D) (want:Kd) (ks:List Str) (kd:List Kd) (hl:ks.length=kd.length) (hd:∀ k∈kd,k.dp≤3) (tl:List (Option D)) (S:List O):∀ (r:List Str) (acc:List D) (e:Option D),(∀ x∈r,x∈ks)→acc.length+r.length<1000→∃ (l:List Str) (e':Option D),(∀ x∈l,x∈ks)∧l.length≤r.length∧aN (lcG (af Γ m) (aE Γ m) lA (.v 0)) (sts r) acc ⟨e :: some dl :: some want.toD :: some (eK ks kd) :: some cell :: tl,[],S⟩ = .ok (.lst (acc ++ sts l)) ⟨e' :: some dl :: some want.toD :: some (eK ks kd) :: some cell :: tl,[],S⟩
 | [],acc,e,_,_=>⟨[],e,fun x h=>(nomatch h),Nat.le_refl _,by simp [aN,sts]⟩
 | x :: r,acc,e,hr,hn=>by
   simp only [List.length_cons] at hn
   obtain ⟨k,hm,hk⟩:=sV (hr x (List.mem_cons_self ..)) hl
   have hi:ixD (eK ks kd) (.str x)=some k.toD:=hk
   have lk:look S k.toD=k.toD:=by cases k <;> rfl
   have lw:look S want.toD=want.toD:=by cases want <;> rfl
   obtain ⟨b,hb⟩:∃ b,eqv 55 k.toD want.toD=some b:=Kd.eq_some 55 k (by have:=hd k hm;omega) want
   have he:opD .eq (look S k.toD) (look S want.toD)=some (.bl b):=by
    rw [lk,lw]
    show (eqv 55 k.toD want.toD).map D.bl=_
    rw [hb];rfl
   have hc:=d9 (Γ:=Γ) (cal:=af Γ m) (cal1:=aE Γ m) (br:=true) (e:=lA) (s:=⟨some (.str x) :: some dl :: some want.toD :: some (eK ks kd) :: some cell :: tl,[],S⟩) (o:=.ok (.bl b) ⟨some (.str x) :: some dl :: some want.toD :: some (eK ks kd) :: some cell :: tl,[],S⟩) false [.o 0 k.toD,.o 0 (.bl b)] (hi<|>he<|>Z) (by kernel_rfl)
   cases b with
   | true=>
     obtain ⟨l,e',h1,h2,h3⟩:=dU m dl cell want ks kd hl hd tl S r (acc ++ [.str x]) (some (.str x)) (fun y hy=>hr y (List.mem_cons_of_mem _ hy)) (by rw [List.length_append,List.length_singleton];omega)
     refine ⟨x :: l,e',?_,by simp only [List.length_cons];omega,?_⟩
     ·intro y hy
      rcases List.mem_cons.mp hy with rfl | hy
      ·exact hr y (List.mem_cons_self ..)
      ·exact h1 y hy
     ·refine b7 (e:=.str x) (s1:=⟨some (.str x) :: some dl :: some want.toD :: some (eK ks kd) :: some cell :: tl,[],S⟩) ?_ (by omega) (by rw [List.append_assoc] at h3;exact h3)
      show (noX (ev Γ (af Γ m) (aE Γ m) true lA ⟨some (.str x) :: some dl :: some want.toD :: some (eK ks kd) :: some cell :: tl,[],S⟩)).bind _=_
      rw [hc];rfl
   | false=>
     obtain ⟨l,e',h1,h2,h3⟩:=dU m dl cell want ks kd hl hd tl S r acc (some (.str x)) (fun y hy=>hr y (List.mem_cons_of_mem _ hy)) (by omega)
     refine ⟨l,e',h1,by simp only [List.length_cons];omega,?_⟩
     refine rc (s1:=⟨some (.str x) :: some dl :: some want.toD :: some (eK ks kd) :: some cell :: tl,[],S⟩) ?_ h3
     show (noX (ev Γ (af Γ m) (aE Γ m) true lA ⟨some (.str x) :: some dl :: some want.toD :: some (eK ks kd) :: some cell :: tl,[],S⟩)).bind _=_
     rw [hc];rfl
def Kd.lN:Kd→Nat
 | .whole=>1
 | .truth=>1
 | .unt=>2
 | .to _ b=>1+b.lN
 | .row a=>1+a.lN
 | .pair a b=>1+max a.lN b.lN
theorem Kd.lN_le:∀ k:Kd,k.lN≤k.dp+1
 | .whole=>by decide
 | .truth=>by decide
 | .unt=>by decide
 | .to a b=>by have:=lN_le b;show 1+b.lN≤1+max a.dp b.dp+1;omega
 | .row a=>by have:=lN_le a;show 1+a.lN≤1+a.dp+1;omega
 | .pair a b=>by have:=lN_le a;have:=lN_le b;show 1+max a.lN b.lN≤1+max a.dp b.dp+1;omega
def jM:List Str→List Kd→Str→Kd→List Kd
 | k :: ks,d :: ds,x,e=>(if k=x then e else d) :: jM ks ds x e
 | _,ds,_,_=>ds
def bG (ks:List Str) (kd:List Kd) (x:Str) (k:Kd):List Kd:=if x∈ks then jM ks kd x k else kd ++ [k]
theorem jP (x:Str) (v:Kd):∀ (ks:List Str) (vs:List Kd),eJ (ay ks) (kds vs) (.inr x) v.toD=kds (jM ks vs x v)
 | [],vs=>by cases vs <;> rfl
 | k :: ks,[]=>rfl
 | k :: ks,d :: ds=>by
   show (if (Sum.inr k:Key) = .inr x then v.toD else d.toD) :: eJ (ay ks) (kds ds) (.inr x) v.toD=kds ((if k=x then v else d) :: jM ks ds x v)
   rw [jP x v ks ds]
   by_cases h:k=x
   ·simp [h,kds]
   ·have h2:¬ (Sum.inr k:Key) = .inr x:=fun e=>h (Sum.inr.inj e)
    simp [h,h2,kds]
theorem pR (ks:List Str) (kd:List Kd) (x:Str) (k:Kd):bp (ay ks) (kds kd) (.inr x) k.toD=(ay (ah ks x),kds (bG ks kd x k)):=by
 unfold bp ah bG
 rw [iY]
 by_cases h:x∈ks
 ·simp [h,jP]
 ·simp [h,ay,kds]
theorem jO:∀ (ks:List Str) (vs:List Kd) (x:Str) (v:Kd),(jM ks vs x v).length=vs.length
 | [],vs,_,_=>by cases vs <;> rfl
 | k :: ks,[],_,_=>rfl
 | k :: ks,d :: ds,x,v=>by show (jM ks ds x v).length+1=_;rw [jO];rfl
theorem jN {x:Str} {e:Kd} (he:e.dp≤3):∀ {ks:List Str} {vs:List Kd},(∀ v∈vs,v.dp≤3)→∀ v∈jM ks vs x e,v.dp≤3
 | [],vs,hp,v,hv=>hp v (by cases vs <;> exact hv)
 | k :: ks,[],hp,v,hv=>hp v hv
 | k :: ks,d :: ds,hp,v,hv=>by
   have hv:v∈(if k=x then e else d) :: jM ks ds x e:=hv
   rcases List.mem_cons.mp hv with h | h
   ·rw [h];split
    ·exact he
    ·exact hp d (List.mem_cons_self ..)
   ·exact jN he (fun v hv=>hp v (List.mem_cons_of_mem _ hv)) v h
theorem Nk.put {W ks:List Str} {kd:List Kd} (h:Nk W ks kd) {x:Str} (hx:x∈W) {k:Kd} (hk:k.dp≤3):Nk W (ah ks x) (bG ks kd x k):=by
 unfold ah bG
 by_cases c:x∈ks
 ·rw [if_pos c,if_pos c]
  exact ⟨h.nd,h.sb,by rw [jO];exact h.ln,jN hk h.dp⟩
 ·rw [if_neg c,if_neg c]
  refine ⟨?_,?_,by simp [h.ln],?_⟩
  ·rw [List.nodup_append]
   exact ⟨h.nd,by simp,fun a ha b hb e=>c (by rw [List.mem_singleton.mp hb] at e;exact e ▸ ha)⟩
  ·intro y hy
   rcases List.mem_append.mp hy with hy | hy
   ·exact h.sb y hy
   ·rw [List.mem_singleton.mp hy];exact hx
  ·intro y hy
   rcases List.mem_append.mp hy with hy | hy
   ·exact h.dp y hy
   ·rw [List.mem_singleton.mp hy];exact hk
theorem Nk.few {W ks:List Str} {kd:List Kd} (h:Nk W ks kd) (hW:W.length=5):ks.length≤5:=by
 have:=iB ks W h.nd h.sb;omega
theorem dh (ks:List Str) (kd:List Kd) (x:Str) (k:Kd) (h:ks.length<100000) (n:Nat) (S:List O):af Γ (n+1) ei [eK ks kd,.str x,k.toD] S = .ok (eK (ah ks x) (bG ks kd x k)) S:=by
 have e:(if (ay ks).length<100000 then some (D.dic (bp (ay ks) (kds kd) (.inr x) k.toD).1 (bp (ay ks) (kds kd) (.inr x) k.toD).2) else none)=some (eK (ah ks x) (bG ks kd x k)):=by
  have l:(ay ks).length=ks.length:=List.length_map ..
  rw [l,if_pos h,pR]
 exact aa false [.o 1 (eK (ah ks x) (bG ks kd x k))] (e<|>Z) (by kernel_rfl)
theorem eE {W:List Str} (hW:W.length=5) (c:Int):∃ x,x∈W∧ixD (.lst (sts W)) (.int (c % 5))=some (.str x):=by
 obtain ⟨k,hk⟩:∃ k:Nat,c % 5=k:=⟨(c % 5).toNat,by omega⟩
 have kl:k<W.length:=by omega
 refine ⟨W[k],List.getElem_mem kl,?_⟩
 rw [hk]
 refine bf ?_
 unfold sts
 rw [List.getElem?_map,List.getElem?_eq_getElem kl];rfl
theorem ud (c:Int) (n:Nat) (st:List O):∃ k:Kd,k.lN=1∧k.dp=1∧af Γ (n+1) eg [.int (c % 2)] st = .ok k.toD st:=by
 have h:c % 2=0∨c % 2=1:=by omega
 rcases h with h | h
 ·rw [h];exact ⟨.whole,rfl,rfl,by kernel_rfl⟩
 ·rw [h];exact ⟨.truth,rfl,rfl,by kernel_rfl⟩
abbrev dS (ns:List Int) (i b0:Int) (W:List Str) (o:D) (st:List O) (c:Int):List O:=kj ns i b0 c (.lst (sts W)) o :: st
theorem ok0 {W ks:List Str} {d:Nat} {t:T68} (h:own W ks t) (hk:ax t = []):Ok W (d+1) ks t:=⟨h,fun i k e=>by rw [hk] at e;simp at e⟩
theorem ok1 {W ks:List Str} {d:Nat} {t a:T68} (h:own W ks t) (hk:ax t = [a]) (ha:Ok W d (ks ++ bnd t 0) a):Ok W (d+1) ks t:=⟨h,fun i k e=>by
 rw [hk] at e
 match i,e with
 | 0,e=>cases e;exact ha
 | i+1,e=>simp at e⟩
theorem ok2 {W ks:List Str} {d:Nat} {t a b:T68} (h:own W ks t) (hk:ax t = [a,b]) (ha:Ok W d (ks ++ bnd t 0) a) (hb:Ok W d (ks ++ bnd t 1) b):Ok W (d+1) ks t:=⟨h,fun i k e=>by
 rw [hk] at e
 match i,e with
 | 0,e=>cases e;exact ha
 | 1,e=>cases e;exact hb
 | i+2,e=>simp at e⟩
theorem cD {ks:List Str} {x y:Str} (h:y∈ah ks x):y∈ks ++ [x]:=by
 unfold ah at h
 split at h
 ·exact List.mem_append_left _ h
 ·exact h
theorem Ok.app {W ks:List Str} {d:Nat} {t:T68} (h:Ok W d ks t):Ok W d (ks ++ []) t:=by rw [List.append_nil];exact h
abbrev oX:E:=.call 30 (.cons (.v 1) (.cons (.ix (.v 2) (.c (.int 1))) (.cons (.v 3) (.cons (.op .add (.op .fdiv (.v 4) (.c (.int 36))) (.op .mul (.c (.int 7)) (.v 0))) .nil))))
theorem pa {W:List Str} (hW:W.length=5) (ns:List Int) (i b0:Int) (o:D) (st:List O):∀ (d:Nat) (want:Kd),want.lN≤d→want.dp≤3→∀ (ks:List Str) (kd:List Kd) (cell c:Int) (N:Nat),Nk W ks kd→0≤cell→cell<10 ^ 12→d+2≤N→∃ (t:T68) (c':Int),Ok W d ks t∧af Γ N eh [.ref 0,want.toD,eK ks kd,.int cell] (dS ns i b0 W o st c) = .ok t.toD (dS ns i b0 W o st c')
 | 0,want,h,_,_,_,_,_,_,_,_,_,_=>by cases want <;> (unfold Kd.lN at h;omega)
 | d+1,want,h,hdp,ks,kd,cell,c,N,nk,c0,c1,hN=>by
   obtain ⟨m,rfl⟩:∃ m,N=m+2:=⟨N - 2,by omega⟩
   have ih:=pa hW ns i b0 o st d
   have k5:=nk.few hW
   obtain ⟨l,e',hl,hn,hf⟩:=dU (m+1) (.ref 0) (.int cell) want ks kd nk.ln nk.dp [none,none,none,none,none,none] (dS ns i b0 W o st c) ks [] none (fun x h=>h) (by simp only [List.length_nil];omega)
   have ek:sts ks=(ay ks).map qY:=by unfold sts ay;rw [List.map_map];rfl
   rw [ek] at hf
   have hp:=fN ns i b0 c (.lst (sts W)) o m st
   have sl:(sts l).length=l.length:=List.length_map ..
   by_cases hA:l≠[]∧0<cell % 4
   ·obtain ⟨hA1,hA2⟩:=hA
    have lp:0<l.length:=List.length_pos_iff.mpr hA1
    have f1:decide ((0:Int)<((sts l).length:Nat))=true:=decide_eq_true (by rw [sl];omega)
    have f2:decide ((0:Int)<cell % 4)=true:=decide_eq_true hA2
    obtain ⟨k,hk⟩:∃ k:Nat,(cell / 4) % ((sts l).length:Nat)=k:=⟨((cell / 4) % ((sts l).length:Nat)).toNat,by
     have:=Int.emod_nonneg (cell / 4) (b:=((sts l).length:Nat)) (by omega);omega⟩
    have kl:k<l.length:=by
     have:=Int.emod_lt_of_pos (cell / 4) (b:=((sts l).length:Nat)) (by omega);omega
    have g1:opD .mod (.int (cell / 4)) (.int ((sts l).length:Nat))=some (.int (k:Nat)):=by
     show (if 0<(((sts l).length:Nat):Int) then some (D.int ((cell / 4) % ((sts l).length:Nat))) else none)=_
     rw [if_pos (by omega),hk]
    have g2:ixD (.lst (sts l)) (.int (k:Nat))=some (.str l[k]):=by
     refine bf ?_
     unfold sts
     rw [List.getElem?_map,List.getElem?_eq_getElem kl];rfl
    refine ⟨.name ((b0+7919 * (c+1)) % 9973) l[k],c+1,ok0 (hl _ (List.getElem_mem kl)) rfl,?_⟩
    exact aa true [.e (.lst ([] ++ sts l)) ⟨e' :: some (.ref 0) :: some want.toD :: some (eK ks kd) :: some (.int cell) :: [none,none,none,none,none,none],[],dS ns i b0 W o st c⟩,.t 2 true,.t 2 true,.r (.ok (.int ((b0+7919 * (c+1)) % 9973)) (dS ns i b0 W o st (c+1))),.o 2 (.int (k:Nat)),.o 0 (.str l[k])] (hf<|>f1<|>f2<|>hp<|>g1<|>g2<|>Z) (by kernel_rfl)
   ·have rt:decide ((0:Int)<((sts l).length:Nat))=false∨(decide ((0:Int)<((sts l).length:Nat))=true∧decide ((0:Int)<cell % 4)=false):=by
     rw [sl]
     by_cases q:l = []
     ·subst q;exact .inl rfl
     ·have lp:0<l.length:=List.length_pos_iff.mpr q
      exact .inr ⟨decide_eq_true (by omega),decide_eq_false fun z=>hA ⟨q,z⟩⟩
    have hd:exS Γ (af Γ (m+1)) (aE Γ (m+1)) (hdS 2 ef.body) ⟨[some (.ref 0),some want.toD,some (eK ks kd),some (.int cell),none,none,none,none,none,none],[],dS ns i b0 W o st c⟩ = .nx ⟨[some (.ref 0),some want.toD,some (eK ks kd),some (.int cell),none,some (.lst ([] ++ sts l)),some (.int ((b0+7919 * (c+1)) % 9973)),none,none,none],[5],dS ns i b0 W o st (c+1)⟩:=by
     rcases rt with f0 | ⟨f1,f2⟩
     ·exact bv true [.e (.lst ([] ++ sts l)) ⟨e' :: some (.ref 0) :: some want.toD :: some (eK ks kd) :: some (.int cell) :: [none,none,none,none,none,none],[],dS ns i b0 W o st c⟩,.t 2 false,.r (.ok (.int ((b0+7919 * (c+1)) % 9973)) (dS ns i b0 W o st (c+1)))] (hf<|>f0<|>hp<|>Z) (by kernel_rfl)
     ·exact bv true [.e (.lst ([] ++ sts l)) ⟨e' :: some (.ref 0) :: some want.toD :: some (eK ks kd) :: some (.int cell) :: [none,none,none,none,none,none],[],dS ns i b0 W o st c⟩,.t 2 true,.t 2 false,.r (.ok (.int ((b0+7919 * (c+1)) % 9973)) (dS ns i b0 W o st (c+1)))] (hf<|>f1<|>f2<|>hp<|>Z) (by kernel_rfl)
    have tl:=fun {r:Res}=>aO (ds:=[.ref 0,want.toD,eK ks kd,.int cell]) (j:=eh) (r:=r) 2 ef rfl rfl hd
    cases want with
    | whole=>
      by_cases q:cell % 3=0
      ·obtain ⟨k,hk⟩:∃ k:Nat,cell / 12 % 8=k:=⟨(cell / 12 % 8).toNat,by omega⟩
       have g1:opD .mod (.int (cell / 12)) (.int 8)=some (.int (k:Nat)):=congrArg (fun z=>some (D.int z)) hk
       refine ⟨.given ((b0+7919 * (c+1)) % 9973) k,c+1,ok0 (show k<8 by omega) rfl,?_⟩
       have q:=aP q
       exact tl (ao true [.t 5 true,.o 1 (.int (k:Nat))] ((q<|>g1<|>Z)) (by kernel_rfl))
      ·obtain ⟨v,hv,hnum⟩:=vf (cell / 12) (by omega) (by omega) m (dS ns i b0 W o st (c+1))
       refine ⟨.whole ((b0+7919 * (c+1)) % 9973) v,c+1,ok0 hv rfl,?_⟩
       have q:=au q
       exact tl (ao true [.t 5 false,.r (.ok (.int v) (dS ns i b0 W o st (c+1)))] ((q<|>hnum<|>Z)) (by kernel_rfl))
    | truth=>
      refine ⟨.truth ((b0+7919 * (c+1)) % 9973) (cell / 12 % 2 == 0),c+1,ok0 trivial rfl,?_⟩
      exact tl (ao true [] (Z) (by kernel_rfl))
    | unt=>
      obtain ⟨k,k1,k2,hk⟩:=ud (cell / 12) m (dS ns i b0 W o st (c+1))
      have hd2:k.lN≤d:=by have h:2≤d+1:=h;omega
      obtain ⟨t,c2,ot,ht⟩:=ih k hd2 (by omega) [] [] (cell / 36) (c+1) (m+1) ⟨List.nodup_nil,fun x h=>(nomatch h),rfl,fun x h=>(nomatch h)⟩ (by omega) (by omega) (by omega)
      refine ⟨.as_ ((b0+7919 * (c+1)) % 9973) .unt t,c2,ok1 trivial rfl (ot.mono (fun x h=>(nomatch h)) (Nat.le_refl d)),?_⟩
      exact tl (ao true [.r (.ok k.toD (dS ns i b0 W o st (c+1))),.r (.ok t.toD (dS ns i b0 W o st c2))] ((hk<|>ht<|>Z)) (by kernel_rfl))
    | to a b=>
      have hab:b.lN≤d∧a.dp≤3∧b.dp≤3:=by unfold Kd.lN at h;unfold Kd.dp at hdp;omega
      obtain ⟨x,hx,ix⟩:=eE hW (cell / 12)
      have hm:=dh ks kd x a (by omega) m (dS ns i b0 W o st (c+1))
      obtain ⟨t,c2,ot,ht⟩:=ih b hab.1 hab.2.2 (ah ks x) (bG ks kd x a) (cell / 60) (c+1) (m+1) (nk.put hx hab.2.1) (by omega) (by omega) (by omega)
      refine ⟨.fn ((b0+7919 * (c+1)) % 9973) x a t,c2,ok1 hx rfl (ot.mono (fun y h=>cD h) (Nat.le_refl d)),?_⟩
      exact tl (ao true [.o 15 (.str x),.r (.ok (eK (ah ks x) (bG ks kd x a)) (dS ns i b0 W o st (c+1))),.r (.ok t.toD (dS ns i b0 W o st c2))] ((ix<|>hm<|>ht<|>Z)) (by kernel_rfl))
    | pair a b=>
      have hab:a.lN≤d∧b.lN≤d∧a.dp≤3∧b.dp≤3:=by unfold Kd.lN at h;unfold Kd.dp at hdp;omega
      obtain ⟨t,c2,ot,ht⟩:=ih a hab.1 hab.2.2.1 ks kd (cell / 12) (c+1) (m+1) nk (by omega) (by omega) (by omega)
      obtain ⟨u,c3,ou,hu⟩:=ih b hab.2.1 hab.2.2.2 ks kd (cell / 60) c2 (m+1) nk (by omega) (by omega) (by omega)
      refine ⟨.pair ((b0+7919 * (c+1)) % 9973) t u,c3,ok2 trivial rfl ot.app ou.app,?_⟩
      exact tl (ao true [.r (.ok t.toD (dS ns i b0 W o st c2)),.r (.ok u.toD (dS ns i b0 W o st c3))] ((ht<|>hu<|>Z)) (by kernel_rfl))
    | row a=>
      have hab:a.lN≤d∧a.dp≤3:=by unfold Kd.lN at h;unfold Kd.dp at hdp;omega
      have q3:cell / 12 % 3=0∨cell / 12 % 3=1∨cell / 12 % 3=2:=by omega
      obtain ⟨t,c2,ot,ht⟩:=ih a hab.1 hab.2 ks kd (cell / 36+7 * 0) (c+1) (m+1) nk (by omega) (by omega) (by omega)
      obtain ⟨u,c3,ou,hu⟩:=ih a hab.1 hab.2 ks kd (cell / 36+7 * 1) c2 (m+1) nk (by omega) (by omega) (by omega)
      have s0:=d9 (Γ:=Γ) (cal:=af Γ (m+1)) (cal1:=aE Γ (m+1)) (br:=false) (e:=oX) (s:=⟨[some (.int 0),some (.ref 0),some (Kd.row a).toD,some (eK ks kd),some (.int cell),none,some (.lst ([] ++ sts l)),some (.int ((b0+7919 * (c+1)) % 9973)),none,none,none],[],dS ns i b0 W o st (c+1)⟩) (o:=.ok t.toD ⟨[some (.int 0),some (.ref 0),some (Kd.row a).toD,some (eK ks kd),some (.int cell),none,some (.lst ([] ++ sts l)),some (.int ((b0+7919 * (c+1)) % 9973)),none,none,none],[],dS ns i b0 W o st c2⟩) false [.r (.ok t.toD (dS ns i b0 W o st c2))] (ht<|>Z) (by kernel_rfl)
      have s1:=d9 (Γ:=Γ) (cal:=af Γ (m+1)) (cal1:=aE Γ (m+1)) (br:=false) (e:=oX) (s:=⟨[some (.int 1),some (.ref 0),some (Kd.row a).toD,some (eK ks kd),some (.int cell),none,some (.lst ([] ++ sts l)),some (.int ((b0+7919 * (c+1)) % 9973)),none,none,none],[],dS ns i b0 W o st c2⟩) (o:=.ok u.toD ⟨[some (.int 1),some (.ref 0),some (Kd.row a).toD,some (eK ks kd),some (.int cell),none,some (.lst ([] ++ sts l)),some (.int ((b0+7919 * (c+1)) % 9973)),none,none,none],[],dS ns i b0 W o st c3⟩) false [.r (.ok u.toD (dS ns i b0 W o st c3))] (hu<|>Z) (by kernel_rfl)
      have l0:aN (lcF (af Γ (m+1)) (aE Γ (m+1)) oX) [] [] ⟨[none,some (.ref 0),some (Kd.row a).toD,some (eK ks kd),some (.int cell),none,some (.lst ([] ++ sts l)),some (.int ((b0+7919 * (c+1)) % 9973)),none,none,none],[],dS ns i b0 W o st (c+1)⟩ = .ok (.lst []) ⟨[none,some (.ref 0),some (Kd.row a).toD,some (eK ks kd),some (.int cell),none,some (.lst ([] ++ sts l)),some (.int ((b0+7919 * (c+1)) % 9973)),none,none,none],[],dS ns i b0 W o st (c+1)⟩:=rfl
      have l1:aN (lcF (af Γ (m+1)) (aE Γ (m+1)) oX) [.int 0] [] ⟨[none,some (.ref 0),some (Kd.row a).toD,some (eK ks kd),some (.int cell),none,some (.lst ([] ++ sts l)),some (.int ((b0+7919 * (c+1)) % 9973)),none,none,none],[],dS ns i b0 W o st (c+1)⟩ = .ok (.lst [t.toD]) ⟨[some (.int 0),some (.ref 0),some (Kd.row a).toD,some (eK ks kd),some (.int cell),none,some (.lst ([] ++ sts l)),some (.int ((b0+7919 * (c+1)) % 9973)),none,none,none],[],dS ns i b0 W o st c2⟩:=b7 (bS s0) (by decide) rfl
      have l2:aN (lcF (af Γ (m+1)) (aE Γ (m+1)) oX) [.int 0,.int 1] [] ⟨[none,some (.ref 0),some (Kd.row a).toD,some (eK ks kd),some (.int cell),none,some (.lst ([] ++ sts l)),some (.int ((b0+7919 * (c+1)) % 9973)),none,none,none],[],dS ns i b0 W o st (c+1)⟩ = .ok (.lst [t.toD,u.toD]) ⟨[some (.int 1),some (.ref 0),some (Kd.row a).toD,some (eK ks kd),some (.int cell),none,some (.lst ([] ++ sts l)),some (.int ((b0+7919 * (c+1)) % 9973)),none,none,none],[],dS ns i b0 W o st c3⟩:=b7 (bS s0) (by decide) (b7 (bS s1) (Nat.lt_of_lt_of_le (Nat.lt_succ_self 1) (by decide)) rfl)
      rcases q3 with q | q | q
      ·have q:=congrArg (fun z=>some (D.int z)) q
       refine ⟨.row ((b0+7919 * (c+1)) % 9973) a [],c+1,ok0 (show 0≤4 by decide) rfl,?_⟩
       exact tl (ao true [.o 16 (.int 0),.e (.lst []) ⟨[none,some (.ref 0),some (Kd.row a).toD,some (eK ks kd),some (.int cell),none,some (.lst ([] ++ sts l)),some (.int ((b0+7919 * (c+1)) % 9973)),none,none,none],[],dS ns i b0 W o st (c+1)⟩] ((q<|>l0<|>Z)) (by kernel_rfl))
      ·have q:=congrArg (fun z=>some (D.int z)) q
       refine ⟨.row ((b0+7919 * (c+1)) % 9973) a [t],c2,ok1 (show 1≤4 by decide) rfl ot.app,?_⟩
       exact tl (ao true [.o 16 (.int 1),.e (.lst [t.toD]) ⟨[some (.int 0),some (.ref 0),some (Kd.row a).toD,some (eK ks kd),some (.int cell),none,some (.lst ([] ++ sts l)),some (.int ((b0+7919 * (c+1)) % 9973)),none,none,none],[],dS ns i b0 W o st c2⟩] ((q<|>l1<|>Z)) (by kernel_rfl))
      ·have q:=congrArg (fun z=>some (D.int z)) q
       refine ⟨.row ((b0+7919 * (c+1)) % 9973) a [t,u],c3,ok2 (show 2≤4 by decide) rfl ot.app ou.app,?_⟩
       exact tl (ao true [.o 16 (.int 2),.e (.lst [t.toD,u.toD]) ⟨[some (.int 1),some (.ref 0),some (Kd.row a).toD,some (eK ks kd),some (.int cell),none,some (.lst ([] ++ sts l)),some (.int ((b0+7919 * (c+1)) % 9973)),none,none,none],[],dS ns i b0 W o st c3⟩] ((q<|>l2<|>Z)) (by kernel_rfl))
def Kd.ok (k:Kd):Prop:=k.dp≤3∧k.lN≤3
theorem Kd.ok2 {k:Kd} (h:k.dp≤2):k.ok:=⟨by omega,by have:=Kd.lN_le k;omega⟩
section
variable {W:List Str} {ns:List Int} {b0:Int} {o:D} {st:List O}
def bq (W:List Str) (ns:List Int) (b0:Int) (o:D) (st:List O) (r:Int) (q N:Nat):Prop:=∀ (want:Kd) (ks:List Str) (kd:List Kd) (i c:Int),want.ok→Nk W ks kd→0≤i→∃ (t:T68) (i' c':Int),0≤i'∧Ok W q ks t∧af Γ N jz [.ref 0,want.toD,eK ks kd,.int r] (dS ns i b0 W o st c) = .ok t.toD (dS ns i' b0 W o st c')
theorem tC (c:Int):∃ s:Sg,ixD (.str "+-*+") (.int (c % 4))=some (.str s.str):=by
 have h:c % 4=0∨c % 4=1∨c % 4=2∨c % 4=3:=by omega
 rcases h with h | h | h | h <;> rw [h]
 ·exact ⟨.add,by kernel_rfl⟩
 ·exact ⟨.sub,by kernel_rfl⟩
 ·exact ⟨.mul,by kernel_rfl⟩
 ·exact ⟨.add,by kernel_rfl⟩
theorem xt (c:Int):∃ s:Sg,ixD (.str "<=") (.int (c % 2))=some (.str s.str):=by
 have h:c % 2=0∨c % 2=1:=by omega
 rcases h with h | h <;> rw [h]
 ·exact ⟨.lt,by kernel_rfl⟩
 ·exact ⟨.eq,by kernel_rfl⟩
abbrev wV:E:=.call 34 (.cons (.v 1) (.cons (.ix (.v 2) (.c (.int 1))) (.cons (.v 3) (.cons (.op .sub (.v 4) (.c (.int 1))) .nil))))
theorem lY {r:Int} {q N:Nat} (hn:bq W ns b0 o st (r - 1) q N) (a:Kd) (ha:a.ok) (ks:List Str) (kd:List Kd) (nk:Nk W ks kd) (tl:List (Option D)):∀ (L:List Int) (acc:List D) (e:Option D) (i c:Int),0≤i→acc.length+L.length<1000→∃ (ts:List T68) (e':Option D) (i' c':Int),0≤i'∧ts.length=L.length∧(∀ t∈ts,Ok W q ks t)∧aN (lcF (af Γ N) (aE Γ N) wV) (L.map .int) acc ⟨e :: some (.ref 0) :: some (Kd.row a).toD :: some (eK ks kd) :: some (.int r) :: tl,[],dS ns i b0 W o st c⟩ = .ok (.lst (acc ++ toDs ts)) ⟨e' :: some (.ref 0) :: some (Kd.row a).toD :: some (eK ks kd) :: some (.int r) :: tl,[],dS ns i' b0 W o st c'⟩
 | [],acc,e,i,c,hi,_=>⟨[],e,i,c,hi,rfl,fun t h=>(nomatch h),by simp [aN,toDs]⟩
 | x :: L,acc,e,i,c,hi,hl=>by
   simp only [List.length_cons] at hl
   obtain ⟨t,i1,c1,h1,ot,ht⟩:=hn a ks kd i c ha nk hi
   have s0:=d9 (Γ:=Γ) (cal:=af Γ N) (cal1:=aE Γ N) (br:=false) (e:=wV) (s:=⟨some (.int x) :: some (.ref 0) :: some (Kd.row a).toD :: some (eK ks kd) :: some (.int r) :: tl,[],dS ns i b0 W o st c⟩) (o:=.ok t.toD ⟨some (.int x) :: some (.ref 0) :: some (Kd.row a).toD :: some (eK ks kd) :: some (.int r) :: tl,[],dS ns i1 b0 W o st c1⟩) false [.r (.ok t.toD (dS ns i1 b0 W o st c1))] (ht<|>Z) (by kernel_rfl)
   obtain ⟨ts,e',i2,c2,h2,l2,o2,h3⟩:=lY hn a ha ks kd nk tl L (acc ++ [t.toD]) (some (.int x)) i1 c1 h1 (by rw [List.length_append,List.length_singleton];omega)
   refine ⟨t :: ts,e',i2,c2,h2,by simp [l2],?_,b7 (bS s0) (by omega) (by rw [List.append_assoc] at h3;exact h3)⟩
   intro u hu
   rcases List.mem_cons.mp hu with rfl | hu
   ·exact ot
   ·exact o2 u hu
theorem xm (c:Int):∃ L:List Int,L.length≤4∧(itD .range1 [.int (c % 5)]).map D.lst=some (.lst (L.map .int)):=by
 have h:c % 5=0∨c % 5=1∨c % 5=2∨c % 5=3∨c % 5=4:=by omega
 rcases h with h | h | h | h | h <;> rw [h]
 ·exact ⟨[],by decide,by kernel_rfl⟩
 ·exact ⟨[0],by decide,by kernel_rfl⟩
 ·exact ⟨[0,1],by decide,by kernel_rfl⟩
 ·exact ⟨[0,1,2],by decide,by kernel_rfl⟩
 ·exact ⟨[0,1,2,3],by decide,by kernel_rfl⟩
theorem okR {ks:List Str} {q:Nat} {p:Int} {k:Kd} {ts:List T68} (hl:ts.length≤4) (h:∀ t∈ts,Ok W q ks t):Ok W (q+1) ks (.row p k ts):=⟨hl,fun i k e=>(h k (List.mem_of_getElem? e)).app⟩
theorem vY (hW:W.length=5) {r:Int} {q N:Nat} (hn:bq W ns b0 o st (r - 1) q (N+2)) (want:Kd) (ks:List Str) (kd:List Kd) (cell i c:Int) (hw:want.ok) (nk:Nk W ks kd) (hi:0≤i):∃ (t:T68) (i' c':Int),0≤i'∧Ok W (q+1) ks t∧af Γ (N+3) im [.ref 0,want.toD,eK ks kd,.int r,.int cell] (dS ns i b0 W o st c) = .ok t.toD (dS ns i' b0 W o st c'):=by
 have hp:=fN ns i b0 c (.lst (sts W)) o (N+1) st
 have k5:=nk.few hW
 cases want with
 | whole=>
   by_cases q5:cell % 5=4
   ·obtain ⟨k,hk,hf⟩:=lB (cell / 5) (N+1) (dS ns i b0 W o st (c+1))
    obtain ⟨t,i1,c1,h1,ot,ht⟩:=hn (.row k) ks kd i (c+1) (Kd.ok2 (by show 1+k.dp≤2;omega)) nk hi
    exact ⟨.size ((b0+7919 * (c+1)) % 9973) t,i1,c1,h1,ok1 trivial rfl ot.app,aa false [.r (.ok (.int ((b0+7919 * (c+1)) % 9973)) (dS ns i b0 W o st (c+1))),.t 5 true,.r (.ok k.toD (dS ns i b0 W o st (c+1))),.r (.ok t.toD (dS ns i1 b0 W o st c1))] (hp<|>aP q5<|>hf<|>ht<|>Z) (by kernel_rfl)⟩
   ·obtain ⟨s,hs⟩:=tC cell
    obtain ⟨t,i1,c1,h1,ot,ht⟩:=hn .whole ks kd i (c+1) (Kd.ok2 (by decide)) nk hi
    obtain ⟨u,i2,c2,h2,ou,hu⟩:=hn .whole ks kd i1 c1 (Kd.ok2 (by decide)) nk h1
    exact ⟨.bin ((b0+7919 * (c+1)) % 9973) s t u,i2,c2,h2,ok2 trivial rfl ot.app ou.app,aa false [.r (.ok (.int ((b0+7919 * (c+1)) % 9973)) (dS ns i b0 W o st (c+1))),.t 5 false,.o 5 (.str s.str),.r (.ok t.toD (dS ns i1 b0 W o st c1)),.r (.ok u.toD (dS ns i2 b0 W o st c2))] (hp<|>au q5<|>hs<|>ht<|>hu<|>Z) (by kernel_rfl)⟩
 | truth=>
   obtain ⟨s0,hs0⟩:=tC cell
   obtain ⟨s,hs⟩:=xt cell
   obtain ⟨t,i1,c1,h1,ot,ht⟩:=hn .whole ks kd i (c+1) (Kd.ok2 (by decide)) nk hi
   obtain ⟨u,i2,c2,h2,ou,hu⟩:=hn .whole ks kd i1 c1 (Kd.ok2 (by decide)) nk h1
   exact ⟨.bin ((b0+7919 * (c+1)) % 9973) s t u,i2,c2,h2,ok2 trivial rfl ot.app ou.app,aa false [.r (.ok (.int ((b0+7919 * (c+1)) % 9973)) (dS ns i b0 W o st (c+1))),.o 11 (.str s0.str),.o 4 (.str s.str),.r (.ok t.toD (dS ns i1 b0 W o st c1)),.r (.ok u.toD (dS ns i2 b0 W o st c2))] (hp<|>hs0<|>hs<|>ht<|>hu<|>Z) (by kernel_rfl)⟩
 | unt=>
   obtain ⟨k,hk,hf⟩:=fE cell N (dS ns i b0 W o st (c+1))
   obtain ⟨t,i1,c1,h1,ot,ht⟩:=hn k ks kd i (c+1) (Kd.ok2 hk) nk hi
   exact ⟨.as_ ((b0+7919 * (c+1)) % 9973) .unt t,i1,c1,h1,ok1 trivial rfl ot.app,aa false [.r (.ok (.int ((b0+7919 * (c+1)) % 9973)) (dS ns i b0 W o st (c+1))),.r (.ok k.toD (dS ns i b0 W o st (c+1))),.r (.ok t.toD (dS ns i1 b0 W o st c1))] (hp<|>hf<|>ht<|>Z) (by kernel_rfl)⟩
 | pair a b=>
   have hab:a.ok∧b.ok:=by obtain ⟨x,y⟩:=hw;unfold Kd.lN at y;unfold Kd.dp at x;unfold Kd.ok;omega
   obtain ⟨t,i1,c1,h1,ot,ht⟩:=hn a ks kd i (c+1) hab.1 nk hi
   obtain ⟨u,i2,c2,h2,ou,hu⟩:=hn b ks kd i1 c1 hab.2 nk h1
   exact ⟨.pair ((b0+7919 * (c+1)) % 9973) t u,i2,c2,h2,ok2 trivial rfl ot.app ou.app,aa false [.r (.ok (.int ((b0+7919 * (c+1)) % 9973)) (dS ns i b0 W o st (c+1))),.r (.ok t.toD (dS ns i1 b0 W o st c1)),.r (.ok u.toD (dS ns i2 b0 W o st c2))] (hp<|>ht<|>hu<|>Z) (by kernel_rfl)⟩
 | row a=>
   have ha:a.ok:=by obtain ⟨x,y⟩:=hw;unfold Kd.lN at y;unfold Kd.dp at x;unfold Kd.ok;omega
   obtain ⟨L,l4,hL⟩:=xm cell
   obtain ⟨ts,e',i1,c1,h1,l1,ots,hlp⟩:=lY hn a ha ks kd nk [some (.int cell),some (.int ((b0+7919 * (c+1)) % 9973)),none,none,none,none,none,none] L [] none i (c+1) hi (by simp only [List.length_nil];omega)
   exact ⟨.row ((b0+7919 * (c+1)) % 9973) a ts,i1,c1,h1,okR (by omega) ots,aa true [.r (.ok (.int ((b0+7919 * (c+1)) % 9973)) (dS ns i b0 W o st (c+1))),.o 20 (.lst (L.map .int)),.e (.lst ([] ++ toDs ts)) ⟨e' :: some (.ref 0) :: some (Kd.row a).toD :: some (eK ks kd) :: some (.int r) :: [some (.int cell),some (.int ((b0+7919 * (c+1)) % 9973)),none,none,none,none,none,none],[],dS ns i1 b0 W o st c1⟩] (hp<|>hL<|>hlp<|>Z) (by kernel_rfl)⟩
 | to a b=>
   have hab:a.dp≤3∧b.ok:=by obtain ⟨x,y⟩:=hw;unfold Kd.lN at y;unfold Kd.dp at x;unfold Kd.ok;omega
   obtain ⟨x,hx,ix⟩:=eE hW cell
   have hm:=dh ks kd x a (by omega) (N+1) (dS ns i b0 W o st (c+1))
   by_cases g:0<cell / 5 % 3
   ·obtain ⟨t,i1,c1,h1,ot,ht⟩:=hn b (ah ks x) (bG ks kd x a) i (c+1) hab.2 (nk.put hx hab.1) hi
    exact ⟨.fn ((b0+7919 * (c+1)) % 9973) x a t,i1,c1,h1,ok1 hx rfl (ot.mono (fun y h=>cD h) (Nat.le_refl q)),aa false [.r (.ok (.int ((b0+7919 * (c+1)) % 9973)) (dS ns i b0 W o st (c+1))),.o 18 (.str x),.r (.ok (eK (ah ks x) (bG ks kd x a)) (dS ns i b0 W o st (c+1))),.t 3 true,.r (.ok t.toD (dS ns i1 b0 W o st c1))] (hp<|>ix<|>hm<|>decide_eq_true g<|>ht<|>Z) (by kernel_rfl)⟩
   ·obtain ⟨y,hy,iy⟩:=eE hW (cell / 15)
    have l:=dK ks y
    have hm2:=dh ks kd y (.to a b) (by omega) (N+1) (dS ns i b0 W o st (c+1))
    have hm3:=dh (ah ks y) (bG ks kd y (.to a b)) x a (by omega) (N+1) (dS ns i b0 W o st (c+1))
    obtain ⟨t,i1,c1,h1,ot,ht⟩:=hn b (ah (ah ks y) x) (bG (ah ks y) (bG ks kd y (.to a b)) x a) i (c+1) hab.2 ((nk.put hy hw.1).put hx hab.1) hi
    refine ⟨.slf ((b0+7919 * (c+1)) % 9973) y x a b t,i1,c1,h1,ok1 ⟨hy,hx⟩ rfl (ot.mono (fun z h=>?_) (Nat.le_refl q)),aa false [.r (.ok (.int ((b0+7919 * (c+1)) % 9973)) (dS ns i b0 W o st (c+1))),.o 18 (.str x),.r (.ok (eK (ah ks x) (bG ks kd x a)) (dS ns i b0 W o st (c+1))),.t 3 false,.o 3 (.str y),.r (.ok (eK (ah ks y) (bG ks kd y (.to a b))) (dS ns i b0 W o st (c+1))),.r (.ok (eK (ah (ah ks y) x) (bG (ah ks y) (bG ks kd y (.to a b)) x a)) (dS ns i b0 W o st (c+1))),.r (.ok t.toD (dS ns i1 b0 W o st c1))] (hp<|>ix<|>hm<|>decide_eq_false g<|>iy<|>hm2<|>hm3<|>ht<|>Z) (by kernel_rfl)⟩
    rcases List.mem_append.mp (cD h) with h | h
    ·rcases List.mem_append.mp (cD h) with h | h
     ·exact List.mem_append_left _ h
     ·exact List.mem_append_right _ (by rw [List.mem_singleton.mp h];exact List.mem_cons_self ..)
    ·exact List.mem_append_right _ (List.mem_cons_of_mem _ h)
end
section
variable {W:List Str} {ns:List Int} {b0:Int} {o:D} {st:List O}
abbrev pl0 (b0 c:Int):Int:=(b0+7919 * (c+1)) % 9973
theorem sf {r:Int} {q N:Nat} (hn:bq W ns b0 o st (r - 1) (q+1) (N+2)) (want:Kd) (ks:List Str) (kd:List Kd) (cell i c:Int) (hw:want.dp=1) (nk:Nk W ks kd) (hi:0≤i):∃ (t:T68) (i' c':Int),0≤i'∧Ok W (q+2) ks t∧af Γ (N+3) fy [.ref 0,want.toD,eK ks kd,.int r,.int cell] (dS ns i b0 W o st c) = .ok t.toD (dS ns i' b0 W o st c'):=by
 have hp:=fN ns i b0 c (.lst (sts W)) o (N+1) st
 have wl:=Kd.lN_le want
 by_cases g1:cell % 5<2
 ·obtain ⟨k,hk,hf⟩:=fE (cell / 5) N (dS ns i b0 W o st (c+1))
  obtain ⟨t,i1,c1,h1,ot,ht⟩:=hn (.to k want) ks kd i (c+1) ⟨by show 1+max k.dp want.dp≤3;omega,by show 1+want.lN≤3;omega⟩ nk hi
  obtain ⟨u,i2,c2,h2,ou,hu⟩:=hn k ks kd i1 c1 (Kd.ok2 hk) nk h1
  exact ⟨.call (pl0 b0 c) t u,i2,c2,h2,ok2 trivial rfl ot.app ou.app,aa false [.r (.ok (.int (pl0 b0 c)) (dS ns i b0 W o st (c+1))),.t 2 true,.r (.ok k.toD (dS ns i b0 W o st (c+1))),.r (.ok t.toD (dS ns i1 b0 W o st c1)),.r (.ok u.toD (dS ns i2 b0 W o st c2))] (hp<|>decide_eq_true g1<|>hf<|>ht<|>hu<|>Z) (by kernel_rfl)⟩
 ·by_cases g2:cell % 5=2
  ·obtain ⟨t,i1,c1,h1,ot,ht⟩:=hn (.row want) ks kd i (c+1) (Kd.ok2 (by show 1+want.dp≤2;omega)) nk hi
   have hp2:=fN ns i1 b0 c1 (.lst (sts W)) o (N+1) st
   exact ⟨.att (pl0 b0 c) t (.whole (pl0 b0 c1) (cell / 5 % 4)),i1,c1+1,h1,ok2 trivial rfl ot.app (Ok.app (ok0 (show (cell / 5 % 4).natAbs<10 ^ 40 by omega) rfl)),aa false [.r (.ok (.int (pl0 b0 c)) (dS ns i b0 W o st (c+1))),.t 2 false,.t 2 true,.r (.ok t.toD (dS ns i1 b0 W o st c1)),.r (.ok (.int (pl0 b0 c1)) (dS ns i1 b0 W o st (c1+1)))] (hp<|>decide_eq_false g1<|>aP g2<|>ht<|>hp2<|>Z) (by kernel_rfl)⟩
  ·obtain ⟨k,hk,hf⟩:=lB (cell / 5) (N+1) (dS ns i b0 W o st (c+1))
   by_cases g3:cell % 5=3
   ·obtain ⟨t,i1,c1,h1,ot,ht⟩:=hn (.pair want k) ks kd i (c+1) (Kd.ok2 (by show 1+max want.dp k.dp≤2;omega)) nk hi
    exact ⟨.one (pl0 b0 c) t,i1,c1,h1,ok1 trivial rfl ot.app,aa false [.r (.ok (.int (pl0 b0 c)) (dS ns i b0 W o st (c+1))),.t 2 false,.t 2 false,.t 2 true,.r (.ok k.toD (dS ns i b0 W o st (c+1))),.r (.ok t.toD (dS ns i1 b0 W o st c1))] (hp<|>decide_eq_false g1<|>au g2<|>aP g3<|>hf<|>ht<|>Z) (by kernel_rfl)⟩
   ·obtain ⟨t,i1,c1,h1,ot,ht⟩:=hn (.pair k want) ks kd i (c+1) (Kd.ok2 (by show 1+max k.dp want.dp≤2;omega)) nk hi
    exact ⟨.two (pl0 b0 c) t,i1,c1,h1,ok1 trivial rfl ot.app,aa false [.r (.ok (.int (pl0 b0 c)) (dS ns i b0 W o st (c+1))),.t 2 false,.t 2 false,.t 2 false,.r (.ok k.toD (dS ns i b0 W o st (c+1))),.r (.ok t.toD (dS ns i1 b0 W o st c1))] (hp<|>decide_eq_false g1<|>au g2<|>au g3<|>hf<|>ht<|>Z) (by kernel_rfl)⟩
theorem tA (a b:Kd) (c:Int):∃ k:Kd,(k=a∨k=b)∧ixD (.lst [a.toD,b.toD]) (.int (c % 2))=some k.toD:=by
 have h:c % 2=0∨c % 2=1:=by omega
 rcases h with h | h <;> rw [h]
 ·exact ⟨a,.inl rfl,rfl⟩
 ·exact ⟨b,.inr rfl,rfl⟩
theorem ok3 {ks:List Str} {d:Nat} {t a b c:T68} (h:own W ks t) (hk:ax t = [a,b,c]) (ha:Ok W d (ks ++ bnd t 0) a) (hb:Ok W d (ks ++ bnd t 1) b) (hc:Ok W d (ks ++ bnd t 2) c):Ok W (d+1) ks t:=⟨h,fun i k e=>by
 rw [hk] at e
 match i,e with
 | 0,e=>cases e;exact ha
 | 1,e=>cases e;exact hb
 | 2,e=>cases e;exact hc
 | i+3,e=>simp at e⟩
theorem rH (hW:W.length=5) {r:Int} {q N:Nat} (hn:bq W ns b0 o st (r - 3) (q+3) (N+2)) (want:Kd) (ks:List Str) (kd:List Kd) (cell i c:Int) (hw:want.dp=1) (nk:Nk W ks kd) (hi:0≤i):∃ (t:T68) (i' c':Int),0≤i'∧Ok W (q+6) ks t∧af Γ (N+3) ju [.ref 0,want.toD,eK ks kd,.int r,.int cell] (dS ns i b0 W o st c) = .ok t.toD (dS ns i' b0 W o st c'):=by
 have hp:=fun c=>fN ns i b0 c (.lst (sts W)) o (N+1) st
 have k5:=nk.few hW
 obtain ⟨f,hf,jf⟩:=eE hW cell
 obtain ⟨x,hx,jx⟩:=eE hW (cell+1+cell / 5 % 4)
 obtain ⟨tk,htk,jt⟩:=tA .whole .unt (cell / 20)
 obtain ⟨gv,hgv,jg⟩:=tA want .unt (cell / 40)
 have dt:tk.dp=1:=by rcases htk with rfl | rfl <;> rfl
 have dg:gv.dp=1:=by rcases hgv with rfl | rfl;exact hw;rfl
 have l:=dK ks f
 have m1:=dh ks kd f (.to tk gv) (by omega) (N+1) (dS ns i b0 W o st c)
 have m2:=dh (ah ks f) (bG ks kd f (.to tk gv)) x tk (by omega) (N+1) (dS ns i b0 W o st c)
 have nk2:Nk W (ah (ah ks f) x) (bG (ah ks f) (bG ks kd f (.to tk gv)) x tk):=(nk.put hf (k:=.to tk gv) (show 1+max tk.dp gv.dp≤3 by omega)).put hx (by omega)
 obtain ⟨t,i1,c1,h1,ot,ht⟩:=hn want _ _ i (c+1+1+1+1+1+1+1+1+1+1) (Kd.ok2 (by omega)) nk2 hi
 have hq:=fun c=>fN ns i1 b0 c (.lst (sts W)) o (N+1) st
 have inb:∀ z,z∈ah (ah ks f) x→z∈ks ++ [f,x]:=fun z h=>by
  rcases List.mem_append.mp (cD h) with h | h
  ·rcases List.mem_append.mp (cD h) with h | h
   ·exact List.mem_append_left _ h
   ·exact List.mem_append_right _ (by rw [List.mem_singleton.mp h];exact List.mem_cons_self ..)
  ·exact List.mem_append_right _ (List.mem_cons_of_mem _ h)
 have xin:x∈ks ++ [f,x]:=List.mem_append_right _ (List.mem_cons_of_mem _ (List.mem_cons_self ..))
 have fin':f∈ks ++ [f,x]:=List.mem_append_right _ (List.mem_cons_self ..)
 have o1:(1:Int).natAbs<10 ^ 40:=by decide +kernel
 have osm:Ok W (q+3) (ks ++ [f,x]) (.bin (pl0 b0 (c+1)) .lt (.name (pl0 b0 (c+1+1)) x) (.whole (pl0 b0 (c+1+1+1)) 1)):=ok2 trivial rfl (Ok.app (ok0 xin rfl)) (Ok.app (ok0 o1 rfl))
 have ols:Ok W (q+2) (ks ++ [f,x]) (.bin (pl0 b0 (c+1+1+1+1)) .sub (.name (pl0 b0 (c+1+1+1+1+1)) x) (.whole (pl0 b0 (c+1+1+1+1+1+1)) 1)):=ok2 trivial rfl (Ok.app (ok0 xin rfl)) (Ok.app (ok0 o1 rfl))
 have oag:Ok W (q+3) (ks ++ [f,x]) (.call (pl0 b0 (c+1+1+1+1+1+1+1)) (.name (pl0 b0 (c+1+1+1+1+1+1+1+1)) f) (.bin (pl0 b0 (c+1+1+1+1)) .sub (.name (pl0 b0 (c+1+1+1+1+1)) x) (.whole (pl0 b0 (c+1+1+1+1+1+1)) 1))):=ok2 trivial rfl (Ok.app (ok0 fin' rfl)) (Ok.app ols)
 refine ⟨.call (pl0 b0 c) (.slf (pl0 b0 c1) f x tk gv (.iff (pl0 b0 (c+1+1+1+1+1+1+1+1+1)) (.bin (pl0 b0 (c+1)) .lt (.name (pl0 b0 (c+1+1)) x) (.whole (pl0 b0 (c+1+1+1)) 1)) t (.call (pl0 b0 (c+1+1+1+1+1+1+1)) (.name (pl0 b0 (c+1+1+1+1+1+1+1+1)) f) (.bin (pl0 b0 (c+1+1+1+1)) .sub (.name (pl0 b0 (c+1+1+1+1+1)) x) (.whole (pl0 b0 (c+1+1+1+1+1+1)) 1))))) (.whole (pl0 b0 (c1+1)) (cell / 160 % 9)),i1,c1+1+1,h1,?_,?_⟩
 ·refine ok2 trivial rfl (Ok.app (ok1 ⟨hf,hx⟩ rfl ?_)) (Ok.app (ok0 (show (cell / 160 % 9).natAbs<10 ^ 40 by omega) rfl))
  exact ok3 trivial rfl (Ok.app osm) (Ok.app (ot.mono inb (Nat.le_refl _))) (Ok.app oag)
 ·exact aa false [.o 2 (.str f),.o 6 (.str x),.o 2 tk.toD,.o 2 gv.toD,.r (.ok (eK (ah ks f) (bG ks kd f (.to tk gv))) (dS ns i b0 W o st c)),.r (.ok (eK (ah (ah ks f) x) (bG (ah ks f) (bG ks kd f (.to tk gv)) x tk)) (dS ns i b0 W o st c)),
   .r (.ok (.int (pl0 b0 c)) (dS ns i b0 W o st (c+1))),.r (.ok (.int (pl0 b0 (c+1))) (dS ns i b0 W o st (c+1+1))),.r (.ok (.int (pl0 b0 (c+1+1))) (dS ns i b0 W o st (c+1+1+1))),.r (.ok (.int (pl0 b0 (c+1+1+1))) (dS ns i b0 W o st (c+1+1+1+1))),
   .r (.ok (.int (pl0 b0 (c+1+1+1+1))) (dS ns i b0 W o st (c+1+1+1+1+1))),.r (.ok (.int (pl0 b0 (c+1+1+1+1+1))) (dS ns i b0 W o st (c+1+1+1+1+1+1))),.r (.ok (.int (pl0 b0 (c+1+1+1+1+1+1))) (dS ns i b0 W o st (c+1+1+1+1+1+1+1))),
   .r (.ok (.int (pl0 b0 (c+1+1+1+1+1+1+1))) (dS ns i b0 W o st (c+1+1+1+1+1+1+1+1))),.r (.ok (.int (pl0 b0 (c+1+1+1+1+1+1+1+1))) (dS ns i b0 W o st (c+1+1+1+1+1+1+1+1+1))),
   .r (.ok (.int (pl0 b0 (c+1+1+1+1+1+1+1+1+1))) (dS ns i b0 W o st (c+1+1+1+1+1+1+1+1+1+1))),.r (.ok t.toD (dS ns i1 b0 W o st c1)),.r (.ok (.int (pl0 b0 c1)) (dS ns i1 b0 W o st (c1+1))),.r (.ok (.int (pl0 b0 (c1+1))) (dS ns i1 b0 W o st (c1+1+1)))]
   (jf<|>jx<|>jt<|>jg<|>m1<|>m2<|>hp c<|>hp (c+1)<|>hp (c+1+1)<|>hp (c+1+1+1)<|>hp (c+1+1+1+1)<|>hp (c+1+1+1+1+1)<|>hp (c+1+1+1+1+1+1)<|>hp (c+1+1+1+1+1+1+1)<|>hp (c+1+1+1+1+1+1+1+1)<|>hp (c+1+1+1+1+1+1+1+1+1)<|>ht<|>hq c1<|>hq (c1+1)<|>Z) (by kernel_rfl)
end
section
variable {W:List Str} {ns:List Int} {b0 od:Int} {st:List O}
theorem kL (hW:W.length=5) (r:Int) (hr:r<5) (N:Nat):bq W ns b0 (.int od) st r 3 (N+6):=by
 intro want ks kd i c hw nk hi
 obtain ⟨x,⟨x0,x1⟩,hx⟩:=next ns i b0 c (.lst (sts W)) (.int od) hi (N+4) st
 have b3:decide (r<5)=true:=decide_eq_true hr
 by_cases g1:x % 13=1
 ·by_cases g2:od=0
  ·obtain ⟨k,hk,hf⟩:=fE (x / 13) (N+3) (dS ns (i+1) b0 W (.int od) st c)
   obtain ⟨t,c1,ot,ht⟩:=pa hW ns (i+1) b0 (.int od) st 3 k (Kd.ok2 hk).2 (by omega) ks kd (x / 13) c (N+5) nk (by omega) (by omega) (by omega)
   exact ⟨t,i+1,c1,by omega,ot,aa false [.r (.ok (.int x) (dS ns (i+1) b0 W (.int od) st c)),.t 3 true,.t 2 true,.r (.ok k.toD (dS ns (i+1) b0 W (.int od) st c)),.t 1 true,.r (.ok t.toD (dS ns (i+1) b0 W (.int od) st c1))] (hx<|>aP g1<|>aP g2<|>hf<|>b3<|>ht<|>Z) (by kernel_rfl)⟩
  ·obtain ⟨t,c1,ot,ht⟩:=pa hW ns (i+1) b0 (.int od) st 3 want hw.2 hw.1 ks kd (x / 13) c (N+5) nk (by omega) (by omega) (by omega)
   exact ⟨t,i+1,c1,by omega,ot,aa false [.r (.ok (.int x) (dS ns (i+1) b0 W (.int od) st c)),.t 3 true,.t 2 false,.t 1 true,.r (.ok t.toD (dS ns (i+1) b0 W (.int od) st c1))] (hx<|>aP g1<|>au g2<|>b3<|>ht<|>Z) (by kernel_rfl)⟩
 ·obtain ⟨t,c1,ot,ht⟩:=pa hW ns (i+1) b0 (.int od) st 3 want hw.2 hw.1 ks kd (x / 13) c (N+5) nk (by omega) (by omega) (by omega)
  exact ⟨t,i+1,c1,by omega,ot,aa false [.r (.ok (.int x) (dS ns (i+1) b0 W (.int od) st c)),.t 3 false,.t 2 true,.r (.ok t.toD (dS ns (i+1) b0 W (.int od) st c1))] (hx<|>au g1<|>b3<|>ht<|>Z) (by kernel_rfl)⟩
end
section
variable {W:List Str} {ns:List Int} {b0 od:Int} {st:List O}
theorem xg (a b:Kd) (c:Int):∃ k:Kd,(k=a∨k=b)∧ixD (.lst [a.toD,a.toD,a.toD,b.toD]) (.int (c % 4))=some k.toD:=by
 have h:c % 4=0∨c % 4=1∨c % 4=2∨c % 4=3:=by omega
 rcases h with h | h | h | h <;> rw [h]
 ·exact ⟨a,.inl rfl,rfl⟩
 ·exact ⟨a,.inl rfl,rfl⟩
 ·exact ⟨a,.inl rfl,rfl⟩
 ·exact ⟨b,.inr rfl,rfl⟩
theorem yg (k:Kd) (S:List O):∃ l:Int,biD .len [look S k.toD]=some (.int l)∧(l=1→k.dp=1):=by
 cases k <;> first | exact ⟨1,rfl,fun _=>rfl⟩ | exact ⟨2,rfl,fun h=>absurd h (by decide)⟩ | exact ⟨3,rfl,fun h=>absurd h (by decide)⟩
theorem ng (hW:W.length=5) {o:D} {r:Int} {p N:Nat} (hr:5≤r) (h1:∀ M,N+2≤M→bq W ns b0 o st (r - 1) (p+2) M) (h3:5<r→3≤p∧bq W ns b0 o st (r - 3) p (N+2)) (hN:2≤N) (want:Kd) (ks:List Str) (kd:List Kd) (x y i c:Int) (hx:0≤x) (hx1:x<10 ^ 12) (hw:want.ok) (nk:Nk W ks kd) (hi:0≤i):∃ (t:T68) (i' c':Int),0≤i'∧Ok W (p+3) ks t∧toR (exS Γ (af Γ (N+3)) (aE Γ (N+3)) (tlS 3 cK.body) ⟨[some (.ref 0),some want.toD,some (eK ks kd),some (.int r),some (.int x),some (.int y),none,none,none,none,none,none,none],[],dS ns i b0 W o st c⟩) = .ok t.toD (dS ns i' b0 W o st c'):=by
 have n1:=h1 (N+3) (by omega)
 have hp:=fun c=>fN ns i b0 c (.lst (sts W)) o (N+2) st
 have k5:=nk.few hW
 have b3:decide (r<5)=false:=decide_eq_false (by omega)
 by_cases t3:y=3
 ·obtain ⟨t,c1,ot,ht⟩:=pa hW ns i b0 o st 3 want hw.2 hw.1 ks kd x c (N+3) nk hx hx1 (by omega)
  exact ⟨t,i,c1,hi,ot.mono (fun _ h=>h) (by omega),ao false [.t 1 false,.t 1 true,.r (.ok t.toD (dS ns i b0 W o st c1))] (b3<|>aP t3<|>ht<|>Z) (by kernel_rfl)⟩
 by_cases t2:y=2
 ·obtain ⟨k,hk,hf⟩:=fE (x / 4) (N+1) (dS ns i b0 W o st c)
  obtain ⟨k',hk',hx⟩:=xg want k x
  obtain ⟨t,i1,c1,hi1,ot,ht⟩:=n1 k' ks kd i (c+1) (by rcases hk' with e | e;exact e ▸ hw;exact e ▸ Kd.ok2 hk) nk hi
  exact ⟨.as_ (pl0 b0 c) .unt t,i1,c1,hi1,ok1 trivial rfl ot.app,ao false [.t 1 false,.t 1 false,.t 1 true,.r (.ok k.toD (dS ns i b0 W o st c)),.o 1 k'.toD,.r (.ok (.int (pl0 b0 c)) (dS ns i b0 W o st (c+1))),.r (.ok t.toD (dS ns i1 b0 W o st c1))] (b3<|>au t3<|>aP t2<|>hf<|>hx<|>hp c<|>ht<|>Z) (by kernel_rfl)⟩
 by_cases w3:x % 9=3
 ·obtain ⟨f,hf,jf⟩:=eE hW (x / 9)
  obtain ⟨k,hk,hkk⟩:=fE (x / 9 / 5) (N+1) (dS ns i b0 W o st c)
  obtain ⟨t,i1,c1,hi1,ot,ht⟩:=n1 k ks kd i (c+1) (Kd.ok2 hk) nk hi
  have m1:=dh ks kd f k (by omega) (N+2) (dS ns i1 b0 W o st c1)
  obtain ⟨u,i2,c2,hi2,ou,hu⟩:=n1 want (ah ks f) (bG ks kd f k) i1 c1 hw (nk.put hf (by omega)) hi1
  exact ⟨.lt (pl0 b0 c) f t u,i2,c2,hi2,ok2 hf rfl ot.app (ou.mono (fun _ h=>cD h) (Nat.le_refl _)),ao false [.t 1 false,.t 1 false,.t 1 false,.t 3 true,.o 2 (.str f),.r (.ok k.toD (dS ns i b0 W o st c)),.r (.ok (.int (pl0 b0 c)) (dS ns i b0 W o st (c+1))),.r (.ok t.toD (dS ns i1 b0 W o st c1)),.r (.ok (eK (ah ks f) (bG ks kd f k)) (dS ns i1 b0 W o st c1)),.r (.ok u.toD (dS ns i2 b0 W o st c2))] (b3<|>au t3<|>au t2<|>aP w3<|>jf<|>hkk<|>hp c<|>ht<|>m1<|>hu<|>Z) (by kernel_rfl)⟩
 by_cases w4:x % 9=4
 ·obtain ⟨v,i0,c0,hi0,ov,hv⟩:=n1 .truth ks kd i (c+1) (Kd.ok2 (by decide)) nk hi
  obtain ⟨t,i1,c1,hi1,ot,ht⟩:=n1 want ks kd i0 c0 hw nk hi0
  obtain ⟨u,i2,c2,hi2,ou,hu⟩:=n1 want ks kd i1 c1 hw nk hi1
  exact ⟨.iff (pl0 b0 c) v t u,i2,c2,hi2,ok3 trivial rfl ov.app ot.app ou.app,ao false [.t 1 false,.t 1 false,.t 1 false,.t 3 false,.t 1 true,.r (.ok (.int (pl0 b0 c)) (dS ns i b0 W o st (c+1))),.r (.ok v.toD (dS ns i0 b0 W o st c0)),.r (.ok t.toD (dS ns i1 b0 W o st c1)),.r (.ok u.toD (dS ns i2 b0 W o st c2))] (b3<|>au t3<|>au t2<|>au w3<|>aP w4<|>hp c<|>hv<|>ht<|>hu<|>Z) (by kernel_rfl)⟩
 obtain ⟨l,hl,l1⟩:=yg want (dS ns i b0 W o st c)
 obtain ⟨t,i1,c1,hi1,ot,ht⟩:=vY hW (h1 (N+2) (Nat.le_refl _)) want ks kd (x / 9) i c hw nk hi
 by_cases w5:4<x % 9
 ·by_cases w7:x % 9<7
  ·by_cases d1:l=1
   ·obtain ⟨t,i1,c1,hi1,ot,ht⟩:=sf (h1 (N+2) (Nat.le_refl _)) want ks kd (x / 9) i c (l1 d1) nk hi
    exact ⟨t,i1,c1,hi1,ot,ao false [.t 1 false,.t 1 false,.t 1 false,.t 3 false,.t 1 false,.t 1 true,.t 1 true,.o 0 (.int l),.t 1 true,.r (.ok t.toD (dS ns i1 b0 W o st c1))] (b3<|>au t3<|>au t2<|>au w3<|>au w4<|>decide_eq_true w5<|>decide_eq_true w7<|>hl<|>aP d1<|>ht<|>Z) (by kernel_rfl)⟩
   ·exact ⟨t,i1,c1,hi1,ot,ao false [.t 1 false,.t 1 false,.t 1 false,.t 3 false,.t 1 false,.t 1 true,.t 1 true,.o 0 (.int l),.t 1 false,.t 1 false,.r (.ok t.toD (dS ns i1 b0 W o st c1))] (b3<|>au t3<|>au t2<|>au w3<|>au w4<|>decide_eq_true w5<|>decide_eq_true w7<|>hl<|>au d1<|>decide_eq_false (show ¬ 6<x % 9 by omega)<|>ht<|>Z) (by kernel_rfl)⟩
  ·have w6:decide (6<x % 9)=true:=decide_eq_true (by omega)
   by_cases d1:l=1
   ·by_cases r5:5<r
    ·obtain ⟨p3,n3⟩:=h3 r5
     obtain ⟨q,rfl⟩:∃ q,p=q+3:=⟨p - 3,by omega⟩
     obtain ⟨t,i1,c1,hi1,ot,ht⟩:=rH hW n3 want ks kd (x / 9) i c (l1 d1) nk hi
     exact ⟨t,i1,c1,hi1,ot,ao false [.t 1 false,.t 1 false,.t 1 false,.t 3 false,.t 1 false,.t 1 true,.t 1 false,.t 2 true,.o 0 (.int l),.t 1 true,.t 1 true,.r (.ok t.toD (dS ns i1 b0 W o st c1))] (b3<|>au t3<|>au t2<|>au w3<|>au w4<|>decide_eq_true w5<|>decide_eq_false w7<|>w6<|>hl<|>aP d1<|>decide_eq_true r5<|>ht<|>Z) (by kernel_rfl)⟩
    ·exact ⟨t,i1,c1,hi1,ot,ao false [.t 1 false,.t 1 false,.t 1 false,.t 3 false,.t 1 false,.t 1 true,.t 1 false,.t 2 true,.o 0 (.int l),.t 1 true,.t 1 false,.r (.ok t.toD (dS ns i1 b0 W o st c1))] (b3<|>au t3<|>au t2<|>au w3<|>au w4<|>decide_eq_true w5<|>decide_eq_false w7<|>w6<|>hl<|>aP d1<|>decide_eq_false r5<|>ht<|>Z) (by kernel_rfl)⟩
   ·exact ⟨t,i1,c1,hi1,ot,ao false [.t 1 false,.t 1 false,.t 1 false,.t 3 false,.t 1 false,.t 1 true,.t 1 false,.t 2 true,.o 0 (.int l),.t 1 false,.r (.ok t.toD (dS ns i1 b0 W o st c1))] (b3<|>au t3<|>au t2<|>au w3<|>au w4<|>decide_eq_true w5<|>decide_eq_false w7<|>w6<|>hl<|>au d1<|>ht<|>Z) (by kernel_rfl)⟩
 ·exact ⟨t,i1,c1,hi1,ot,ao false [.t 1 false,.t 1 false,.t 1 false,.t 3 false,.t 1 false,.t 1 false,.t 2 false,.r (.ok t.toD (dS ns i1 b0 W o st c1))] (b3<|>au t3<|>au t2<|>au w3<|>au w4<|>decide_eq_false w5<|>decide_eq_false (show ¬ 6<x % 9 by omega)<|>ht<|>Z) (by kernel_rfl)⟩
theorem m8 (want:Kd) (ks:List Str) (kd:List Kd) (r i c:Int) (N:Nat) (hw:want.ok) (hi:0≤i):∃ (x:Int) (k:Kd),(0≤x∧x<999999999989)∧k.ok∧exS Γ (af Γ (N+2)) (aE Γ (N+2)) (hdS 3 cK.body) ⟨[some (.ref 0),some want.toD,some (eK ks kd),some (.int r),none,none,none,none,none,none,none,none,none],[],dS ns i b0 W (.int od) st c⟩ = .nx ⟨[some (.ref 0),some k.toD,some (eK ks kd),some (.int r),some (.int (x / 13)),some (.int (x % 13)),none,none,none,none,none,none,none],[],dS ns (i+1) b0 W (.int od) st c⟩:=by
 obtain ⟨x,x0,hx⟩:=next ns i b0 c (.lst (sts W)) (.int od) hi (N+1) st
 by_cases g1:x % 13=1
 ·by_cases g2:od=0
  ·obtain ⟨k,hk,hf⟩:=fE (x / 13) N (dS ns (i+1) b0 W (.int od) st c)
   exact ⟨x,k,x0,Kd.ok2 hk,bv false [.r (.ok (.int x) (dS ns (i+1) b0 W (.int od) st c)),.t 3 true,.t 2 true,.r (.ok k.toD (dS ns (i+1) b0 W (.int od) st c))] (hx<|>aP g1<|>aP g2<|>hf<|>Z) (by kernel_rfl)⟩
  ·exact ⟨x,want,x0,hw,bv false [.r (.ok (.int x) (dS ns (i+1) b0 W (.int od) st c)),.t 3 true,.t 2 false] (hx<|>aP g1<|>au g2<|>Z) (by kernel_rfl)⟩
 ·exact ⟨x,want,x0,hw,bv false [.r (.ok (.int x) (dS ns (i+1) b0 W (.int od) st c)),.t 3 false] (hx<|>au g1<|>Z) (by kernel_rfl)⟩
theorem dI (hW:W.length=5) {r:Int} {p N:Nat} (hr:5≤r) (h1:∀ M,N+2≤M→bq W ns b0 (.int od) st (r - 1) (p+2) M) (h3:5<r→3≤p∧∀ M,N+2≤M→bq W ns b0 (.int od) st (r - 3) p M) (hN:2≤N) (M:Nat) (hM:N+4≤M):bq W ns b0 (.int od) st r (p+3) M:=by
 intro want ks kd i c hw nk hi
 obtain ⟨M,rfl⟩:∃ m,M=m+4:=⟨M - 4,by omega⟩
 obtain ⟨x,k,x0,hk,hh⟩:=m8 (W:=W) (ns:=ns) (b0:=b0) (od:=od) (st:=st) want ks kd r i c (M+1) hw hi
 obtain ⟨t,i1,c1,hi1,ot,ht⟩:=ng hW hr (N:=M) (fun m hm=>h1 m (by omega)) (fun h=>⟨(h3 h).1,(h3 h).2 _ (by omega)⟩) (by omega) k ks kd (x / 13) (x % 13) (i+1) c (by omega) (by omega) hk nk (by omega)
 exact ⟨t,i1,c1,hi1,ot,aO 3 cK rfl rfl hh ht⟩
theorem bq.up {o:D} {r:Int} {q q' N:Nat} (h:bq W ns b0 o st r q N) (l:q≤q'):bq W ns b0 o st r q' N:=fun want ks kd i c hw nk hi=>by
 obtain ⟨t,i1,c1,hi1,ot,ht⟩:=h want ks kd i c hw nk hi
 exact ⟨t,i1,c1,hi1,ot.mono (fun _ h=>h) l,ht⟩
theorem wW (hW:W.length=5) (M:Nat) (hM:14≤M):bq W ns b0 (.int od) st 8 8 M:=by
 have s:∀ r:Int,r<5→∀ M,6≤M→bq W ns b0 (.int od) st r 3 M:=fun r hr M hM=>by
  obtain ⟨m,rfl⟩:∃ m,M=m+6:=⟨M - 6,by omega⟩
  exact kL hW r hr m
 have n5:∀ M,8≤M→bq W ns b0 (.int od) st 5 4 M:=fun M hM=>dI hW (p:=1) (N:=4) (by decide) (fun m hm=>s _ (by decide) m hm) (fun h=>absurd h (by decide)) (by decide) M hM
 have n6:∀ M,10≤M→bq W ns b0 (.int od) st 6 6 M:=fun M hM=>dI hW (p:=3) (N:=6) (by decide) (fun m hm=>(n5 m hm).up (by decide)) (fun h=>⟨by decide,fun m hm=>s _ (by decide) m (by omega)⟩) (by decide) M hM
 have n7:∀ M,12≤M→bq W ns b0 (.int od) st 7 7 M:=fun M hM=>dI hW (p:=4) (N:=8) (by decide) (fun m hm=>n6 m hm) (fun h=>⟨by decide,fun m hm=>(s _ (by decide) m (by omega)).up (by decide)⟩) (by decide) M hM
 exact dI hW (p:=5) (N:=10) (by decide) (fun m hm=>n7 m hm) (fun h=>⟨by decide,fun m hm=>(n5 m (by omega)).up (by decide)⟩) (by decide) M hM
end
abbrev fl3:D:=.lst [.str "whole",.str "truth",.str "?"]
theorem sU (c:Int):∃ k:Kd,(k = .whole∨k = .truth∨k = .unt)∧∃ x:Str,k.toD = .tup [.str x]∧ixD fl3 (.int (c % 6 % 3))=some (.str x):=by
 have h:c % 6 % 3=0∨c % 6 % 3=1∨c % 6 % 3=2:=by omega
 rcases h with h | h | h <;> rw [h]
 ·exact ⟨.whole,.inl rfl,_,rfl,rfl⟩
 ·exact ⟨.truth,.inr (.inl rfl),_,rfl,rfl⟩
 ·exact ⟨.unt,.inr (.inr rfl),_,rfl,rfl⟩
theorem oq (S:List O):∀ (m:Nat) (c r:Int) (N:Nat),0≤c→r≤m→m≤N→∃ (k:Kd) (c':Int),0≤c'∧af Γ (N+1) dy [.int c,.int r,fl3] S = .ok (.lst [k.toD,.int c']) S:=by
 intro m
 induction m with
 | zero=>
   intro c r N h0 hr _
   obtain ⟨k,_,x,e,hx⟩:=sU c
   refine ⟨k,c / 6,by omega,?_⟩
   rw [e]
   exact aa false [.t 3 true,.o 3 (.str x)] (decide_eq_true (show r<2 by omega)<|>hx<|>Z) (by kernel_rfl)
 | succ m ih=>
   intro c r N h0 hr hN
   obtain ⟨N,rfl⟩:∃ n,N=n+1:=⟨N - 1,by omega⟩
   obtain ⟨k,_,x,e,hx⟩:=sU c
   by_cases r2:r<2
   ·refine ⟨k,c / 6,by omega,?_⟩
    rw [e]
    exact aa false [.t 3 true,.o 3 (.str x)] (decide_eq_true r2<|>hx<|>Z) (by kernel_rfl)
   by_cases h3:c % 6<3
   ·refine ⟨k,c / 6,by omega,?_⟩
    rw [e]
    exact aa false [.t 3 false,.t 1 true,.o 2 (.str x)] (decide_eq_false r2<|>decide_eq_true h3<|>hx<|>Z) (by kernel_rfl)
   obtain ⟨a,c1,hc1,ha⟩:=ih (c / 6) (r - 1) N (by omega) (by omega) (by omega)
   by_cases h4:c % 6=3
   ·exact ⟨.row a,c1,hc1,aa false [.t 3 false,.t 1 false,.r (.ok (.lst [a.toD,.int c1]) S),.t 1 true] (decide_eq_false r2<|>decide_eq_false h3<|>ha<|>aP h4<|>Z) (by kernel_rfl)⟩
   obtain ⟨b,c2,hc2,hb⟩:=ih c1 (r - 1) N hc1 (by omega) (by omega)
   have h5:c % 6 - 4=0∨c % 6 - 4=1:=by omega
   rcases h5 with h5 | h5
   ·exact ⟨.to a b,c2,hc2,aa false [.t 3 false,.t 1 false,.r (.ok (.lst [a.toD,.int c1]) S),.t 1 false,.r (.ok (.lst [b.toD,.int c2]) S),.o 0 (.int 0)] (decide_eq_false r2<|>decide_eq_false h3<|>ha<|>au h4<|>hb<|>congrArg (fun z=>some (D.int z)) h5<|>Z) (by kernel_rfl)⟩
   ·exact ⟨.pair a b,c2,hc2,aa false [.t 3 false,.t 1 false,.r (.ok (.lst [a.toD,.int c1]) S),.t 1 false,.r (.ok (.lst [b.toD,.int c2]) S),.o 0 (.int 1)] (decide_eq_false r2<|>decide_eq_false h3<|>ha<|>au h4<|>hb<|>congrArg (fun z=>some (D.int z)) h5<|>Z) (by kernel_rfl)⟩
section
variable {o0:O} {W:List Str} {ns:List Int} {b0:Int}
abbrev dG (o0:O) (ns:List Int) (b0:Int) (W:List Str) (i c:Int):List O:=[o0,kj ns i b0 c (.lst (sts W)) fl3,.lst []]
theorem sT (i c:Int) (hi:0≤i) (n:Nat):∃ x:Int,0≤x∧af Γ (n+1) b6 [.ref 1] (dG o0 ns b0 W i c) = .ok (.int x) (dG o0 ns b0 W (i+1) c):=by
 by_cases c2:i+1<(ns.length:Int)
 ·have e2:decide (i+1<((ns.map D.int).length:Int))=true:=by rw [List.length_map];exact decide_eq_true c2
  obtain ⟨k,hk⟩:∃ k:Nat,i+1=k:=⟨(i+1).toNat,by omega⟩
  have kl:k<ns.length:=by omega
  have e3:ixD (.lst (ns.map D.int)) (.int (i+1))=some (.int ns[k]):=by
   rw [hk]
   refine bf ?_
   rw [List.getElem?_map,List.getElem?_eq_getElem kl]
   rfl
  refine ⟨(if ns[k]<0 then -ns[k] else ns[k]),by split <;> omega,?_⟩
  exact aa false [.t 6 true,.o 2 (.int ns[k])] (e2<|>e3<|>Z) (by kernel_rfl)
 ·have e2:decide (i+1<((ns.map D.int).length:Int))=false:=by rw [List.length_map];exact decide_eq_false c2
  exact ⟨0,by decide,aa false [.t 6 false] (e2<|>Z) (by kernel_rfl)⟩
def Nn (nm:D) (ks:List Str):Prop:=(nm = .ref 2∧ks = [])∨nm = .lst (sts ks)
theorem Nn.look {nm:D} {ks:List Str} (h:Nn nm ks) (i c:Int):look (dG o0 ns b0 W i c) nm = .lst (sts ks):=by
 rcases h with ⟨rfl,rfl⟩ | rfl <;> rfl
theorem Nn.more {nm:D} {ks:List Str} (h:Nn nm ks) (hl:ks.length<1000) (ws:List Str) (hw:ws.length≤2) (i c:Int):opD .add (L2.Ev.look (dG o0 ns b0 W i c) nm) (.lst (sts ws))=some (.lst (sts (ks ++ ws))):=by
 rw [h.look]
 show dk ((sts ks).length+(sts ws).length) _=_
 unfold dk sts
 rw [if_pos (by rw [List.length_map,List.length_map];omega),List.map_append]
theorem ox {nm:D} {ks:List Str} (hn:Nn nm ks) (way x p i c:Int) (hx:0≤x) (n q:Nat):∃ t:T68,Ok W (q+1) ks t∧af Γ (n+1) dz [.ref 1,nm,.int way,.int x,.int p] (dG o0 ns b0 W i c) = .ok t.toD (dG o0 ns b0 W i c):=by
 have ne:opD .ne (L2.Ev.look (dG o0 ns b0 W i c) nm) (.lst [])=some (.bl (decide (ks≠[]))):=by
  rw [hn.look]
  cases ks with
  | nil=>rfl
  | cons k ks=>rfl
 by_cases A3:way % 4=3∧ks≠[]
 ·obtain ⟨a,b⟩:=A3
  rw [decide_eq_true b] at ne
  have lp:0<ks.length:=List.length_pos_iff.mpr b
  have sl:(sts ks).length=ks.length:=List.length_map ..
  obtain ⟨k,hk⟩:∃ k:Nat,x % (ks.length:Nat)=k:=⟨(x % (ks.length:Nat)).toNat,by
   have:=Int.emod_nonneg x (b:=(ks.length:Nat)) (by omega);omega⟩
  have kl:k<ks.length:=by
   have:=Int.emod_lt_of_pos x (b:=(ks.length:Nat)) (by omega);omega
  have g0:biD .len [L2.Ev.look (dG o0 ns b0 W i c) nm]=some (.int (ks.length:Nat)):=by
   rw [hn.look,← sl];rfl
  have g1:opD .mod (.int x) (.int (ks.length:Nat))=some (.int (k:Nat)):=by
   show (if 0<((ks.length:Nat):Int) then some (D.int (x % (ks.length:Nat))) else none)=_
   rw [if_pos (by omega),hk]
  have g2:ixD (L2.Ev.look (dG o0 ns b0 W i c) nm) (.int (k:Nat))=some (.str ks[k]):=by
   rw [hn.look]
   refine bf ?_
   unfold sts
   rw [List.getElem?_map,List.getElem?_eq_getElem kl];rfl
  exact ⟨.name p ks[k],ok0 (List.getElem_mem kl) rfl,aa false [.t 2 true,.o 0 (.bl true),.o 1 (.int (ks.length:Nat)),.o 0 (.int (k:Nat)),.o 0 (.str ks[k])] (aP a<|>ne<|>g0<|>g1<|>g2<|>Z) (by kernel_rfl)⟩
 have rt:(way % 4 == 3)=false∨((way % 4 == 3)=true∧opD .ne (L2.Ev.look (dG o0 ns b0 W i c) nm) (.lst [])=some (.bl false)):=by
  by_cases a:way % 4=3
  ·rw [decide_eq_false (fun h=>A3 ⟨a,h⟩)] at ne
   exact .inr ⟨aP a,ne⟩
  ·exact .inl (au a)
 by_cases A2:way % 4=2
 ·obtain ⟨k,hk⟩:∃ k:Nat,x % 8=k:=⟨(x % 8).toNat,by omega⟩
  refine ⟨.given p k,ok0 (show k<8 by omega) rfl,?_⟩
  have g1:opD .mod (.int x) (.int 8)=some (.int (k:Nat)):=congrArg (fun z=>some (D.int z)) hk
  rcases rt with f | ⟨f,g⟩
  ·exact aa false [.t 2 false,.t 3 true,.o 0 (.int (k:Nat))] (f<|>aP A2<|>g1<|>Z) (by kernel_rfl)
  ·exact aa false [.t 2 true,.o 0 (.bl false),.t 3 true,.o 0 (.int (k:Nat))] (f<|>g<|>aP A2<|>g1<|>Z) (by kernel_rfl)
 by_cases A1:way % 4=1
 ·refine ⟨.truth p (x % 2 == 0),ok0 trivial rfl,?_⟩
  rcases rt with f | ⟨f,g⟩
  ·exact aa false [.t 2 false,.t 3 false,.t 2 true] (f<|>au A2<|>aP A1<|>Z) (by kernel_rfl)
  ·exact aa false [.t 2 true,.o 0 (.bl false),.t 3 false,.t 2 true] (f<|>g<|>au A2<|>aP A1<|>Z) (by kernel_rfl)
 have h2:∃ v:Int,v.natAbs<10 ^ 40∧ixD (.lst [.int (x / 2 % 9),.int (x / 2 % (2 * 10 ^ 40 - 1) - 10 ^ 40+1)]) (.int (x % 2))=some (.int v):=by
  have h:x % 2=0∨x % 2=1:=by omega
  rcases h with h | h <;> rw [h]
  ·exact ⟨_,by omega,rfl⟩
  ·exact ⟨_,by omega,rfl⟩
 obtain ⟨v,hv,jv⟩:=h2
 refine ⟨.whole p v,ok0 hv rfl,?_⟩
 rcases rt with f | ⟨f,g⟩
 ·exact aa false [.t 2 false,.t 3 false,.t 2 false,.o 11 (.int v)] (f<|>au A2<|>au A1<|>jv<|>Z) (by kernel_rfl)
 ·exact aa false [.t 2 true,.o 0 (.bl false),.t 3 false,.t 2 false,.o 11 (.int v)] (f<|>g<|>au A2<|>au A1<|>jv<|>Z) (by kernel_rfl)
end
section
variable {o0:O} {W:List Str} {ns:List Int} {b0:Int}
def DH (o0:O) (W:List Str) (ns:List Int) (b0:Int) (m:Nat) (r:Int) (N:Nat):Prop:=∀ (nm:D) (ks:List Str) (i c:Int),Nn nm ks→ks.length+2 * m≤900→0≤i→∃ (t:T68) (i' c':Int),0≤i'∧Ok W (m+1) ks t∧af Γ N dA [.ref 1,nm,.int r] (dG o0 ns b0 W i c) = .ok t.toD (dG o0 ns b0 W i' c')
theorem wp (hW:W.length=5) {m N:Nat} {r:Int} (hn:DH o0 W ns b0 m (r - 1) (N+5)) {nm:D} {ks:List Str} (nk:Nn nm ks) (hl:ks.length+2 * (m+1)≤900) (way x p i c:Int) (hx:0≤x) (hi:0≤i):∃ (t:T68) (i' c':Int),0≤i'∧Ok W (m+2) ks t∧af Γ (N+6) cM [.ref 1,nm,.int r,.int way,.int x,.int p] (dG o0 ns b0 W i c) = .ok t.toD (dG o0 ns b0 W i' c'):=by
 obtain ⟨w,hw,jw⟩:=eE hW x
 obtain ⟨f,hf,jf⟩:=eE hW (x / 5)
 obtain ⟨k,y,hy,jk⟩:=oq (dG o0 ns b0 W i c) 4 (x / 25) 4 (N+4) (by omega) (by decide) (by omega)
 by_cases g4:way=4
 ·obtain ⟨t,i1,c1,h1,ot,ht⟩:=hn nm ks i c nk (by omega) hi
  exact ⟨.as_ p k t,i1,c1,h1,ok1 trivial rfl ot.app,aa false [.o 2 (.str w),.o 3 (.str f),.r (.ok (.lst [k.toD,.int y]) (dG o0 ns b0 W i c)),.t 1 true,.r (.ok t.toD (dG o0 ns b0 W i1 c1))] (jw<|>jf<|>jk<|>aP g4<|>ht<|>Z) (by kernel_rfl)⟩
 by_cases g5:way=5
 ·obtain ⟨t,i1,c1,h1,ot,ht⟩:=hn _ (ks ++ [w]) i c (.inr rfl) (by simp;omega) hi
  have ad:=nk.more (o0:=o0) (ns:=ns) (b0:=b0) (W:=W) (by omega) [w] (by decide:1≤2) i c
  exact ⟨.fn p w k t,i1,c1,h1,ok1 hw rfl ot,aa false [.o 2 (.str w),.o 3 (.str f),.r (.ok (.lst [k.toD,.int y]) (dG o0 ns b0 W i c)),.t 1 false,.t 1 true,.o 0 (.lst (sts (ks ++ [w]))),.r (.ok t.toD (dG o0 ns b0 W i1 c1))] (jw<|>jf<|>jk<|>au g4<|>aP g5<|>ad<|>ht<|>Z) (by kernel_rfl)⟩
 by_cases g6:way=6
 ·obtain ⟨g,z,hz,jg⟩:=oq (dG o0 ns b0 W i c) 3 y 3 (N+4) hy (by decide) (by omega)
  obtain ⟨t,i1,c1,h1,ot,ht⟩:=hn _ (ks ++ [f,w]) i c (.inr rfl) (by simp;omega) hi
  have ad:=nk.more (o0:=o0) (ns:=ns) (b0:=b0) (W:=W) (by omega) [f,w] (by decide:2≤2) i c
  exact ⟨.slf p f w k g t,i1,c1,h1,ok1 ⟨hf,hw⟩ rfl ot,aa false [.o 2 (.str w),.o 3 (.str f),.r (.ok (.lst [k.toD,.int y]) (dG o0 ns b0 W i c)),.t 1 false,.t 1 false,.t 1 true,.r (.ok (.lst [g.toD,.int z]) (dG o0 ns b0 W i c)),.o 1 (.lst (sts (ks ++ [f,w]))),.r (.ok t.toD (dG o0 ns b0 W i1 c1))] (jw<|>jf<|>jk<|>au g4<|>au g5<|>aP g6<|>jg<|>ad<|>ht<|>Z) (by kernel_rfl)⟩
 obtain ⟨t,i1,c1,h1,ot,ht⟩:=hn nm ks i c nk (by omega) hi
 obtain ⟨u,i2,c2,h2,ou,hu⟩:=hn _ (ks ++ [w]) i1 c1 (.inr rfl) (by simp;omega) h1
 have ad:=nk.more (o0:=o0) (ns:=ns) (b0:=b0) (W:=W) (by omega) [w] (by decide:1≤2) i1 c1
 exact ⟨.lt p w t u,i2,c2,h2,ok2 hw rfl ot.app ou,aa false [.o 2 (.str w),.o 3 (.str f),.r (.ok (.lst [k.toD,.int y]) (dG o0 ns b0 W i c)),.t 1 false,.t 1 false,.t 1 false,.r (.ok t.toD (dG o0 ns b0 W i1 c1)),.o 0 (.lst (sts (ks ++ [w]))),.r (.ok u.toD (dG o0 ns b0 W i2 c2))] (jw<|>jf<|>jk<|>au g4<|>au g5<|>au g6<|>ht<|>ad<|>hu<|>Z) (by kernel_rfl)⟩
abbrev wn:E:=.call 41 (.cons (.v 1) (.cons (.v 2) (.cons (.op .sub (.v 3) (.c (.int 1))) .nil)))
theorem lx {m N:Nat} {r:Int} (hn:DH o0 W ns b0 m (r - 1) N) {nm:D} {ks:List Str} (nk:Nn nm ks) (hk:ks.length+2 * m≤900) (tl:List (Option D)):∀ (L:List Int) (acc:List D) (e:Option D) (i c:Int),0≤i→acc.length+L.length<1000→∃ (ts:List T68) (e':Option D) (i' c':Int),0≤i'∧ts.length=L.length∧(∀ t∈ts,Ok W (m+1) ks t)∧aN (lcF (af Γ N) (aE Γ N) wn) (L.map .int) acc ⟨e :: some (.ref 1) :: some nm :: some (.int r) :: tl,[],dG o0 ns b0 W i c⟩ = .ok (.lst (acc ++ toDs ts)) ⟨e' :: some (.ref 1) :: some nm :: some (.int r) :: tl,[],dG o0 ns b0 W i' c'⟩
 | [],acc,e,i,c,hi,_=>⟨[],e,i,c,hi,rfl,fun t h=>(nomatch h),by simp [aN,toDs]⟩
 | x :: L,acc,e,i,c,hi,hl=>by
   simp only [List.length_cons] at hl
   obtain ⟨t,i1,c1,h1,ot,ht⟩:=hn nm ks i c nk hk hi
   have s0:=d9 (Γ:=Γ) (cal:=af Γ N) (cal1:=aE Γ N) (br:=false) (e:=wn) (s:=⟨some (.int x) :: some (.ref 1) :: some nm :: some (.int r) :: tl,[],dG o0 ns b0 W i c⟩) (o:=.ok t.toD ⟨some (.int x) :: some (.ref 1) :: some nm :: some (.int r) :: tl,[],dG o0 ns b0 W i1 c1⟩) false [.r (.ok t.toD (dG o0 ns b0 W i1 c1))] (ht<|>Z) (by kernel_rfl)
   obtain ⟨ts,e',i2,c2,h2,l2,o2,h3⟩:=lx hn nk hk tl L (acc ++ [t.toD]) (some (.int x)) i1 c1 h1 (by rw [List.length_append,List.length_singleton];omega)
   refine ⟨t :: ts,e',i2,c2,h2,by simp [l2],?_,b7 (bS s0) (by omega) (by rw [List.append_assoc] at h3;exact h3)⟩
   intro u hu
   rcases List.mem_cons.mp hu with rfl | hu
   ·exact ot
   ·exact o2 u hu
theorem xu (c:Int):∃ s:Sg,ixD (.str "+-*<=") (.int (c % 5))=some (.str s.str):=by
 have h:c % 5=0∨c % 5=1∨c % 5=2∨c % 5=3∨c % 5=4:=by omega
 rcases h with h | h | h | h | h <;> rw [h]
 ·exact ⟨.add,by kernel_rfl⟩
 ·exact ⟨.sub,by kernel_rfl⟩
 ·exact ⟨.mul,by kernel_rfl⟩
 ·exact ⟨.lt,by kernel_rfl⟩
 ·exact ⟨.eq,by kernel_rfl⟩
theorem yl (y:Int) (h1:9≤y) (h2:y<12) (p:Int) (t:T68) {q:Nat} {ks:List Str} (ot:Ok W q ks t):∃ (u:T68) (x:Str),u.toD = .tup [.str x,.int p,t.toD]∧Ok W (q+1) ks u∧ixD (.lst [.str "size",.str "one",.str "two"]) (.int (y - 9))=some (.str x):=by
 have h:y - 9=0∨y - 9=1∨y - 9=2:=by omega
 rcases h with h | h | h <;> rw [h]
 ·exact ⟨.size p t,_,rfl,ok1 trivial rfl ot.app,rfl⟩
 ·exact ⟨.one p t,_,rfl,ok1 trivial rfl ot.app,rfl⟩
 ·exact ⟨.two p t,_,rfl,ok1 trivial rfl ot.app,rfl⟩
theorem yp (y:Int) (h1:14≤y) (h2:y<18) (p:Int) (t v:T68) {q:Nat} {ks:List Str} (ot:Ok W q ks t) (ov:Ok W q ks v):∃ (u:T68) (x:Str),u.toD = .tup [.str x,.int p,t.toD,v.toD]∧Ok W (q+1) ks u∧ixD (.lst [.str "call",.str "call",.str "at",.str "pair"]) (.int (y - 14))=some (.str x):=by
 have h:y - 14=0∨y - 14=1∨y - 14=2∨y - 14=3:=by omega
 rcases h with h | h | h | h <;> rw [h]
 ·exact ⟨.call p t v,_,rfl,ok2 trivial rfl ot.app ov.app,rfl⟩
 ·exact ⟨.call p t v,_,rfl,ok2 trivial rfl ot.app ov.app,rfl⟩
 ·exact ⟨.att p t v,_,rfl,ok2 trivial rfl ot.app ov.app,rfl⟩
 ·exact ⟨.pair p t v,_,rfl,ok2 trivial rfl ot.app ov.app,rfl⟩
abbrev dnE (nm:D) (r x p y:Int):List (Option D):=[some (.ref 1),some nm,some (.int r),some (.int x),some (.int p),some (.int y),none,none,none,none,none,none].take 11
abbrev dTl:S:=tlS 4 aG.body
theorem qH (hW:W.length=5) {m N:Nat} {r:Int} (hn:∀ M,N+5≤M→DH o0 W ns b0 m (r - 1) M) {nm:D} {ks:List Str} (nk:Nn nm ks) (hl:ks.length+2 * (m+1)≤900) (x p y i c:Int) (hr:2≤r) (hx:0≤x) (hy:y<18) (hi:0≤i):∃ (t:T68) (i' c':Int),0≤i'∧Ok W (m+2) ks t∧toR (exS Γ (af Γ (N+6)) (aE Γ (N+6)) dTl ⟨dnE nm r x p y,[],dG o0 ns b0 W i c⟩) = .ok t.toD (dG o0 ns b0 W i' c'):=by
 have n1:=hn (N+6) (by omega)
 have r2:decide (r<2)=false:=decide_eq_false (by omega)
 obtain ⟨t,ot,ht⟩:=ox (o0:=o0) (W:=W) (ns:=ns) (b0:=b0) nk y x p i c hx (N+5) (m+1)
 by_cases y4:y<4
 ·exact ⟨t,i,c,hi,ot,ao false [.t 1 false,.t 1 true,.r (.ok t.toD (dG o0 ns b0 W i c))] (r2<|>decide_eq_true y4<|>ht<|>Z) (by kernel_rfl)⟩
 by_cases c26:26<c
 ·exact ⟨t,i,c,hi,ot,ao false [.t 1 false,.t 1 false,.t 2 true,.r (.ok t.toD (dG o0 ns b0 W i c))] (r2<|>decide_eq_false y4<|>decide_eq_true c26<|>ht<|>Z) (by kernel_rfl)⟩
 clear ht ot t
 by_cases y8:y<8
 ·obtain ⟨t,i1,c1,h1,ot,ht⟩:=wp hW (hn (N+5) (Nat.le_refl _)) nk hl y x p i c hx hi
  exact ⟨t,i1,c1,h1,ot,ao false [.t 1 false,.t 1 false,.t 2 false,.t 1 true,.r (.ok t.toD (dG o0 ns b0 W i1 c1))] (r2<|>decide_eq_false y4<|>decide_eq_false c26<|>decide_eq_true y8<|>ht<|>Z) (by kernel_rfl)⟩
 by_cases e8:y=8
 ·obtain ⟨k,z,hz,jk⟩:=oq (dG o0 ns b0 W i c) 4 x 4 (N+5) hx (by decide) (by omega)
  obtain ⟨L,l4,hL⟩:=xm z
  obtain ⟨ts,e',i1,c1,h1,l1,ots,hlp⟩:=lx n1 nk (by omega) [some (.int z),some (.int p),some (.int y),some k.toD,none,none,none,none] L [] none i c hi (by simp only [List.length_nil];omega)
  exact ⟨.row p k ts,i1,c1,h1,okR (by omega) ots,ao true [.t 1 false,.t 1 false,.t 2 false,.t 1 false,.t 1 true,.r (.ok (.lst [k.toD,.int z]) (dG o0 ns b0 W i c)),.o 1 (.lst (L.map .int)),.e (.lst ([] ++ toDs ts)) ⟨e' :: some (.ref 1) :: some nm :: some (.int r) :: [some (.int z),some (.int p),some (.int y),some k.toD,none,none,none,none],[],dG o0 ns b0 W i1 c1⟩] (r2<|>decide_eq_false y4<|>decide_eq_false c26<|>decide_eq_false y8<|>aP e8<|>jk<|>hL<|>hlp<|>Z) (by kernel_rfl)⟩
 obtain ⟨t,i1,c1,h1,ot,ht⟩:=n1 nm ks i c nk (by omega) hi
 by_cases y12:y<12
 ·obtain ⟨u,w,eu,ou,jw⟩:=yl y (by omega) y12 p t ot
  refine ⟨u,i1,c1,h1,ou,?_⟩
  rw [eu]
  exact ao false [.t 1 false,.t 1 false,.t 2 false,.t 1 false,.t 1 false,.t 1 true,.o 1 (.str w),.r (.ok t.toD (dG o0 ns b0 W i1 c1))] (r2<|>decide_eq_false y4<|>decide_eq_false c26<|>decide_eq_false y8<|>au e8<|>decide_eq_true y12<|>jw<|>ht<|>Z) (by kernel_rfl)
 obtain ⟨u,i2,c2,h2,ou,hu⟩:=n1 nm ks i1 c1 nk (by omega) h1
 by_cases e12:y=12
 ·obtain ⟨v,i3,c3,h3,ov,hv⟩:=n1 nm ks i2 c2 nk (by omega) h2
  exact ⟨.iff p t u v,i3,c3,h3,ok3 trivial rfl ot.app ou.app ov.app,ao false [.t 1 false,.t 1 false,.t 2 false,.t 1 false,.t 1 false,.t 1 false,.r (.ok t.toD (dG o0 ns b0 W i1 c1)),.r (.ok u.toD (dG o0 ns b0 W i2 c2)),.t 1 true,.r (.ok v.toD (dG o0 ns b0 W i3 c3))] (r2<|>decide_eq_false y4<|>decide_eq_false c26<|>decide_eq_false y8<|>au e8<|>decide_eq_false y12<|>ht<|>hu<|>aP e12<|>hv<|>Z) (by kernel_rfl)⟩
 by_cases e13:y=13
 ·obtain ⟨s,hs⟩:=xu x
  exact ⟨.bin p s t u,i2,c2,h2,ok2 trivial rfl ot.app ou.app,ao false [.t 1 false,.t 1 false,.t 2 false,.t 1 false,.t 1 false,.t 1 false,.r (.ok t.toD (dG o0 ns b0 W i1 c1)),.r (.ok u.toD (dG o0 ns b0 W i2 c2)),.t 1 false,.t 1 true,.o 1 (.str s.str)] (r2<|>decide_eq_false y4<|>decide_eq_false c26<|>decide_eq_false y8<|>au e8<|>decide_eq_false y12<|>ht<|>hu<|>au e12<|>aP e13<|>hs<|>Z) (by kernel_rfl)⟩
 obtain ⟨v,w,ev,ov,jw⟩:=yp y (by omega) hy p t u ot ou
 refine ⟨v,i2,c2,h2,ov,?_⟩
 rw [ev]
 exact ao false [.t 1 false,.t 1 false,.t 2 false,.t 1 false,.t 1 false,.t 1 false,.r (.ok t.toD (dG o0 ns b0 W i1 c1)),.r (.ok u.toD (dG o0 ns b0 W i2 c2)),.t 1 false,.t 1 false,.o 1 (.str w)] (r2<|>decide_eq_false y4<|>decide_eq_false c26<|>decide_eq_false y8<|>au e8<|>decide_eq_false y12<|>ht<|>hu<|>au e12<|>au e13<|>jw<|>Z) (by kernel_rfl)
theorem hU (nm:D) (r i c x:Int) (n:Nat) (h:af Γ (n+1) b6 [.ref 1] (dG o0 ns b0 W i c) = .ok (.int x) (dG o0 ns b0 W (i+1) c)):exS Γ (af Γ (n+1)) (aE Γ (n+1)) (hdS 4 aG.body) ⟨[some (.ref 1),some nm,some (.int r)] ++ List.replicate 8 none,[],dG o0 ns b0 W i c⟩ = .nx ⟨dnE nm r (x / 18) (pl0 b0 c) (x % 18),[],dG o0 ns b0 W (i+1) (c+1)⟩:=
 bv false [.r (.ok (.int x) (dG o0 ns b0 W (i+1) c))] (h<|>Z) (by kernel_rfl)
theorem wq (hW:W.length=5):∀ (m:Nat) (r:Int) (N:Nat),r≤m+1→2 * m+6≤N→DH o0 W ns b0 m r N:=by
 intro m
 induction m with
 | zero=>
   intro r N hr hN nm ks i c nk hl hi
   obtain ⟨N,rfl⟩:∃ n,N=n+2:=⟨N - 2,by omega⟩
   obtain ⟨x,x0,hx⟩:=sT (o0:=o0) (W:=W) (ns:=ns) (b0:=b0) i c hi N
   obtain ⟨t,ot,ht⟩:=ox (o0:=o0) (W:=W) (ns:=ns) (b0:=b0) nk (x % 18) (x / 18) (pl0 b0 c) (i+1) (c+1) (by omega) N 0
   exact ⟨t,i+1,c+1,by omega,ot,aO 4 aG rfl rfl (hU nm r i c x N hx) (ao false [.t 1 true,.r (.ok t.toD (dG o0 ns b0 W (i+1) (c+1)))] (decide_eq_true (show r<2 by omega)<|>ht<|>Z) (by kernel_rfl))⟩
 | succ m ih=>
   intro r N hr hN nm ks i c nk hl hi
   obtain ⟨N,rfl⟩:∃ n,N=n+7:=⟨N - 7,by omega⟩
   obtain ⟨x,x0,hx⟩:=sT (o0:=o0) (W:=W) (ns:=ns) (b0:=b0) i c hi (N+5)
   by_cases r2:r<2
   ·obtain ⟨t,ot,ht⟩:=ox (o0:=o0) (W:=W) (ns:=ns) (b0:=b0) nk (x % 18) (x / 18) (pl0 b0 c) (i+1) (c+1) (by omega) (N+5) (m+1)
    exact ⟨t,i+1,c+1,by omega,ot,aO 4 aG rfl rfl (hU nm r i c x (N+5) hx) (ao false [.t 1 true,.r (.ok t.toD (dG o0 ns b0 W (i+1) (c+1)))] (decide_eq_true r2<|>ht<|>Z) (by kernel_rfl))⟩
   ·obtain ⟨t,i1,c1,h1,ot,ht⟩:=qH hW (N:=N) (r:=r) (fun M hM=>ih (r - 1) M (by omega) (by omega)) nk hl (x / 18) (pl0 b0 c) (x % 18) (i+1) (c+1) (by omega) (by omega) (by omega) (by omega)
    exact ⟨t,i1,c1,h1,ot,aO 4 aG rfl rfl (hU nm r i c x (N+5) hx) ht⟩
end
def wds (k j:Int):List Str:=(["k","q","t","w","z"]:List Str).map fun l=>Txt.slice (Txt.slice "bcdefghij" (some k) (some (3+k))) none (some j) ++ l ++ Txt.slice "bcdefghij" (some k) (some (3+k))
theorem wd1 {c k j:Int} (h:c % 7=k) (g:c / 7 % 3=j) {n:Nat} {S:List O} {r:Res} (e:sk Γ (af Γ n) (aE Γ n) false cA [.int c] S [.o 0 (.int k),.o 0 (.int k),.o 4 (.int j),.o 6 (.int j),.o 6 (.int j),.o 6 (.int j),.o 6 (.int j)]=(some (D.int (c % 7))=some (.int k)∧some (D.int (c % 7))=some (.int k)∧some (D.int (c / 7 % 3))=some (.int j)∧some (D.int (c / 7 % 3))=some (.int j)∧some (D.int (c / 7 % 3))=some (.int j)∧some (D.int (c / 7 % 3))=some (.int j)∧some (D.int (c / 7 % 3))=some (.int j)∧True,r)):af Γ (n+1) cA [.int c] S=r:=
 have a:=congrArg (fun z=>some (D.int z)) h
 have b:=congrArg (fun z=>some (D.int z)) g
 aa false _ (a<|>a<|>b<|>b<|>b<|>b<|>b<|>Z) e
theorem tG (c:Int) (n:Nat) (S:List O):∃ W:List Str,W.length=5∧af Γ (n+1) cA [.int c] S = .ok (.lst (sts W)) S:=by
 have h7:c % 7=0∨c % 7=1∨c % 7=2∨c % 7=3∨c % 7=4∨c % 7=5∨c % 7=6:=by omega
 have h3:c / 7 % 3=0∨c / 7 % 3=1∨c / 7 % 3=2:=by omega
 refine ⟨wds (c % 7) (c / 7 % 3),rfl,?_⟩
 rcases h7 with h | h | h | h | h | h | h <;> rcases h3 with g | g | g <;> rw [h,g] <;> exact wd1 h g (by kernel_rfl)
theorem r9 (ns:List Int) (od:Int) (n:Nat):∃ (t:T68) (W:List Str) (o:O),W.length=5∧Ok W 8 [] t∧af Γ (n+15) fx [.lst (ns.map .int),.int od] [] = .ok t.toD [o]:=by
 obtain ⟨c,_,hc⟩:=dj ns 0 (n+13) []
 obtain ⟨W,hW,hw⟩:=tG (c / 3) (n+13) []
 obtain ⟨d,_,hd⟩:=dj ns 1 (n+13) (dS ns 1 (c % 9973) W (.int od) [] 0)
 obtain ⟨k,hk,hkk⟩:=fE d (n+12) (dS ns 1 (c % 9973) W (.int od) [] 0)
 obtain ⟨t,i,e,_,ot,ht⟩:=wW (ns:=ns) (b0:=c % 9973) (od:=od) (st:=[]) hW (n+14) (by omega) k [] [] 1 0 (Kd.ok2 hk) ⟨List.nodup_nil,fun x h=>(nomatch h),rfl,fun x h=>(nomatch h)⟩ (by decide)
 exact ⟨t,W,kj ns i (c % 9973) e (.lst (sts W)) (.int od),hW,ot,aa false [.r (.ok (.int c) []),.r (.ok (.lst (sts W)) []),.r (.ok (.int d) (dS ns 1 (c % 9973) W (.int od) [] 0)),.r (.ok k.toD (dS ns 1 (c % 9973) W (.int od) [] 0)),.r (.ok t.toD (dS ns i (c % 9973) W (.int od) [] e))] (hc<|>hw<|>hd<|>hkk<|>ht<|>Z) (by kernel_rfl)⟩
theorem jm:∀ l:List Int,bR (l.map D.int)=some l
 | []=>rfl
 | x :: r=>by
   show (bR (r.map D.int)).map (x :: ·)=_
   rw [jm r];rfl
theorem oK {α β:Type} (f:α→β) (xs:List α):∀ js:List Nat,js.filterMap ((xs.map f)[·]?)=(js.filterMap (xs[·]?)).map f
 | []=>rfl
 | j :: js=>by
   rw [List.filterMap_cons,List.filterMap_cons,oK f xs js,List.getElem?_map]
   cases xs[j]? <;> rfl
def sm (ns:List Int) (k:Int):Int:=sumI (cn ns (some k) 8)
theorem cU (ns:List Int) (k:Int):biD .sum [.lst (cn (ns.map D.int) (some k) 8)]=some (.int (sm ns k)):=by
 have h:cn (ns.map D.int) (some k) 8=(cn ns (some k) 8).map D.int:=by
  unfold cn
  rw [List.length_map,oK]
 rw [h]
 show (bR _).map _=_
 rw [jm];rfl
abbrev sj (x:Int):Int:=1 - 2 * (if decide (x<0)=true then 1 else 0)
abbrev ab (x:Int):Int:=(if x<0 then -x else x) % 10 ^ 40
def sg (x:Int):Int:=ab x * sj x
theorem xv (x:Int):sj x=1∨sj x = -1:=by unfold sj;split <;> simp
theorem xq (x:Int):(sg x).natAbs<10 ^ 40:=by
 unfold sg
 have h:0≤ab x∧ab x<10 ^ 40:=by unfold ab;omega
 rcases xv x with e | e <;> rw [e] <;> omega
theorem cR (x:Int):opD .mul (.int (ab x)) (.int (sj x))=some (.int (sg x)):=dF (by rcases xv x with e | e <;> rw [e] <;> decide)
theorem rY (ns:List Int) (n:Nat) (S:List O):af Γ (n+1) fw [.lst (ns.map .int)] S = .ok (.lst [.int (sg (sm ns 0)),.int (sg (sm ns 1)),.int (sg (sm ns 2)),.int (sg (sm ns 3)),.int (sg (sm ns 4)),.int (sg (sm ns 5)),.int (sg (sm ns 6)),.int (sg (sm ns 7))]) S:=
 aa false [.o 3 (.int (sm ns 0)),.o 3 (.int (sm ns 1)),.o 3 (.int (sm ns 2)),.o 3 (.int (sm ns 3)),.o 3 (.int (sm ns 4)),.o 3 (.int (sm ns 5)),.o 3 (.int (sm ns 6)),.o 3 (.int (sm ns 7)),.o 9 (.int (sg (sm ns 0))),.o 9 (.int (sg (sm ns 1))),.o 9 (.int (sg (sm ns 2))),.o 9 (.int (sg (sm ns 3))),.o 9 (.int (sg (sm ns 4))),.o 9 (.int (sg (sm ns 5))),.o 9 (.int (sg (sm ns 6))),.o 9 (.int (sg (sm ns 7)))] (cU ns 0<|>cU ns 1<|>cU ns 2<|>cU ns 3<|>cU ns 4<|>cU ns 5<|>cU ns 6<|>cU ns 7<|>cR (sm ns 0)<|>cR (sm ns 1)<|>cR (sm ns 2)<|>cR (sm ns 3)<|>cR (sm ns 4)<|>cR (sm ns 5)<|>cR (sm ns 6)<|>cR (sm ns 7)<|>Z) (by kernel_rfl)
theorem Kd.nr:∀ k:Kd,noR k.toD=true
 | .whole=>rfl
 | .truth=>rfl
 | .unt=>rfl
 | .to a b=>by show (true && (noR a.toD && (noR b.toD && true)))=true;rw [nr a,nr b];rfl
 | .row a=>by show (true && (noR a.toD && true))=true;rw [nr a];rfl
 | .pair a b=>by show (true && (noR a.toD && (noR b.toD && true)))=true;rw [nr a,nr b];rfl
mutual
theorem T68.nr:∀ t:T68,noR t.toD=true
 | .whole p v=>rfl
 | .truth p b=>rfl
 | .given p i=>rfl
 | .name p x=>rfl
 | .fn p x k b=>by show (true && (true && (true && (noR k.toD && (noR b.toD && true)))))=true;rw [k.nr,T68.nr b];rfl
 | .slf p f x k g b=>by show (true && (true && (true && (true && (noR k.toD && (noR g.toD && (noR b.toD && true)))))))=true;rw [k.nr,g.nr,T68.nr b];rfl
 | .lt p x a b=>by show (true && (true && (true && (noR a.toD && (noR b.toD && true)))))=true;rw [T68.nr a,T68.nr b];rfl
 | .iff p c a b=>by show (true && (true && (noR c.toD && (noR a.toD && (noR b.toD && true)))))=true;rw [T68.nr c,T68.nr a,T68.nr b];rfl
 | .call p a b=>by show (true && (true && (noR a.toD && (noR b.toD && true))))=true;rw [T68.nr a,T68.nr b];rfl
 | .bin p o a b=>by show (true && (true && (true && (noR a.toD && (noR b.toD && true)))))=true;rw [T68.nr a,T68.nr b];rfl
 | .as_ p k a=>by show (true && (true && (noR k.toD && (noR a.toD && true))))=true;rw [k.nr,T68.nr a];rfl
 | .row p k ts=>by show (true && (true && (noR k.toD && (bW (toDs ts) && true))))=true;rw [k.nr,nrs ts];rfl
 | .pair p a b=>by show (true && (true && (noR a.toD && (noR b.toD && true))))=true;rw [T68.nr a,T68.nr b];rfl
 | .att p a b=>by show (true && (true && (noR a.toD && (noR b.toD && true))))=true;rw [T68.nr a,T68.nr b];rfl
 | .size p a=>by show (true && (true && (noR a.toD && true)))=true;rw [T68.nr a];rfl
 | .one p a=>by show (true && (true && (noR a.toD && true)))=true;rw [T68.nr a];rfl
 | .two p a=>by show (true && (true && (noR a.toD && true)))=true;rw [T68.nr a];rfl
theorem nrs:∀ ts:List T68,bW (toDs ts)=true
 | []=>rfl
 | t :: r=>by show (noR t.toD && bW (toDs r))=true;rw [T68.nr t,nrs r];rfl
end
theorem ni:∀ l:List Int,bW (l.map D.int)=true
 | []=>rfl
 | x :: r=>by show (true && bW (r.map D.int))=true;rw [ni r];rfl
theorem fi (n:Nat):∀ l:List D,(∀ d∈l,eqv n d d=some true)→cH (eqv n) l l=some true
 | [],_=>rfl
 | d :: r,h=>by
   show (match eqv n d d with | none=>none | some x=>(cH (eqv n) r r).map (x && ·))=_
   rw [h d (List.mem_cons_self ..),fi n r fun e he=>h e (List.mem_cons_of_mem _ he)];rfl
theorem eqi (n:Nat) (i:Int):eqv (n+1) (.int i) (.int i)=some true:=by show some (i == i)=_;rw [beq_self_eq_true]
theorem xY (n:Nat) (x:Str):eqv (n+1) (.str x) (.str x)=some true:=by show some (x == x)=_;rw [beq_self_eq_true]
theorem yk (l:List Int):opD .ne (.lst (l.map D.int)) (.lst (l.map D.int))=some (.bl false):=by
 show (if (l.map D.int).length=(l.map D.int).length then cH (eqv 54) (l.map D.int) (l.map D.int) else some false).map _=_
 rw [if_pos rfl,fi 54 _ (fun d hd=>by obtain ⟨i,_,rfl⟩:=List.mem_map.mp hd;exact eqi 53 i)];rfl
theorem pE (l:List D) (h:∀ d∈l,(∃ i,d = .int i)∨∃ x,d = .str x):opD .ne (.tup l) (.tup l)=some (.bl false):=by
 show ((cH (eqv 54) l l).map (· && l.length == l.length)).map _=_
 rw [fi 54 _ (fun d hd=>by rcases h d hd with ⟨i,rfl⟩ | ⟨x,rfl⟩;exact eqi 53 i;exact xY 53 x),beq_self_eq_true];rfl
theorem yj (r:Rs V68):opD .ne (og r) (og r)=some (.bl false):=by
 have i:∀ x:Int,(∃ i,D.int x = .int i)∨∃ y,D.int x = .str y:=fun x=>.inl ⟨x,rfl⟩
 have s:∀ x:Str,(∃ i,D.str x = .int i)∨∃ y,D.str x = .str y:=fun x=>.inr ⟨x,rfl⟩
 have n:∀ d∈([]:List D),(∃ i,d = .int i)∨∃ y,d = .str y:=fun d h=>(nomatch h)
 cases r with
 | ok x c=>exact pE _ (List.forall_mem_cons.mpr ⟨s _,List.forall_mem_cons.mpr ⟨s _,n⟩⟩)
 | er e c=>cases e with
   | wrong p=>exact pE _ (List.forall_mem_cons.mpr ⟨s _,List.forall_mem_cons.mpr ⟨i _,n⟩⟩)
   | nun p=>exact pE _ (List.forall_mem_cons.mpr ⟨s _,List.forall_mem_cons.mpr ⟨i _,List.forall_mem_cons.mpr ⟨s _,n⟩⟩⟩)
   | great p=>exact pE _ (List.forall_mem_cons.mpr ⟨s _,List.forall_mem_cons.mpr ⟨i _,List.forall_mem_cons.mpr ⟨s _,n⟩⟩⟩)
   | spent=>exact pE _ (List.forall_mem_cons.mpr ⟨s _,n⟩)
abbrev bL:S:=ey wv.body
abbrev lwE (a0 a1:Option D) (t:T68) (a3 a4:Option D) (c:Nat) (e6 e7 e8 e9 e10:Option D):List (Option D):=[a0,a1,some t.toD,a3,a4,some (.int c),e6,e7,e8,e9,e10]
theorem wF {W:List Str} (hW:W.length≤1000) {t:T68} (ho:Ok W 8 [] t) (c:Nat) {L:List Int} (hL:∀ x∈L,x.natAbs<10 ^ 40) (hl:L.length≤8) {pre:List O} (hp:pre.length≤6) (a0 a1 a3 a4 e7 e8 e9 e10:Option D) (m:Nat) (hm:17 * c+41≤m):∃ (e7' e8' e9' e10':Option D) (c':Nat),exS Γ (af Γ m) (aE Γ m) bL ⟨lwE a0 a1 t a3 a4 c (some (.lst (L.map .int))) e7 e8 e9 e10,[],pre⟩ = .nx ⟨lwE a0 a1 t a3 a4 c (some (.lst (L.map .int))) e7' e8' e9' e10',[],lf pre L c'⟩:=by
 have h1:=kF (W:=W) hW hL hl hp (8+8 * c) t [] [] c 8 m ho (Nat.le_refl _) iD (Nat.le_refl _) (by omega)
 have h2:=plain (W:=W) hW hL t ho c m (by omega)
 have hg:=fW (W:=W) hL (8+8 * c) t [] [] c ho iD
 have nr:bW [t.toD,.lst (L.map .int),.int c]=true:=by show (noR t.toD && (bW (L.map D.int) && (true && true)))=true;rw [t.nr,ni];rfl
 have nl:=yk L
 generalize val L (8+8 * c) t [] [] c=r at h1 h2 hg
 have na:=yj r
 cases r with
 | ok x d=>
   have ht:=ti (W:=W) (lf pre L d) 3 (Nat.le_refl _) x hg.1 1 rfl m (by omega)
   exact ⟨_,_,_,_,d,bv (o:=.nx ⟨lwE a0 a1 t a3 a4 c (some (.lst (L.map .int))) (some x.toL) (some (.tup [.str "done",.str (txt 3 x)])) (some (.lst (L.map .int))) (some (.tup [.str "done",.str (txt 3 x)])),[],lf pre L d⟩) false [.r (.ok x.toL (lf pre L d)),.o 0 (.bl false),.r (.ok (.str (txt 3 x)) (lf pre L d)),.t 1 true,.r (.ok (.tup [.str "done",.str (txt 3 x)]) (ws L d)),.t 0 true,.o 0 (.bl false),.o 4 (.bl false)] (h1<|>kA x (lf pre L d)<|>ht<|>nr<|>h2<|>(rfl:noR (.tup [.str "done",.str (txt 3 x)])=true)<|>nl<|>na<|>Z) (by kernel_rfl)⟩
 | er e d=>
   have go:∀ e':Er,e'=e→∃ (e7' e8' e9' e10':Option D) (c':Nat),exS Γ (af Γ m) (aE Γ m) bL ⟨lwE a0 a1 t a3 a4 c (some (.lst (L.map .int))) e7 e8 e9 e10,[],pre⟩ = .nx ⟨lwE a0 a1 t a3 a4 c (some (.lst (L.map .int))) e7' e8' e9' e10',[],lf pre L c'⟩:=fun e' q=>by
    have f:noR (eD e')=true:=by cases e' <;> rfl
    cases e <;> exact ⟨_,_,_,_,d,bv (o:=.nx ⟨lwE a0 a1 t a3 a4 c (some (.lst (L.map .int))) (some (.lst [eD e'])) (some (eD e')) (some (.lst (L.map .int))) (some (eD e')),[],lf pre L d⟩) false [.r (.ok (.lst [eD e']) (lf pre L d)),.t 5 true,.r (.ok (eD e') (ws L d)),.t 0 true,.o 0 (.bl false),.o 4 (.bl false)] ((q ▸ h1)<|>nr<|>(q ▸ h2)<|>f<|>nl<|>(q ▸ na)<|>Z) (by subst q;kernel_rfl)⟩
   exact go e rfl
abbrev lwF:D→Sta→am:=fun d s=>match aD [6] true d s.env with | some env=>exS Γ (af Γ 249) (aE Γ 249) bL ⟨env,s.ow.filter fun i=>!([6]:List Nat).contains i,s.st⟩ | none=>.bad
theorem uO (pre:List O) (L:List Int) (c:Nat):(lf pre L c).length=pre.length+1:=by unfold lf;simp
theorem vz {W:List Str} (hW:W.length≤1000) {t:T68} (ho:Ok W 8 [] t) (c:Nat) (hc:c≤12) (a0 a1 a3 a4:Option D):∀ (Ls:List (List Int)),(∀ L∈Ls,L.length≤8∧∀ x∈L,x.natAbs<10 ^ 40)→∀ (pre:List O) (e6 e7 e8 e9 e10:Option D),pre.length+Ls.length≤7→∃ (e6' e7' e8' e9' e10':Option D) (st:List O),aQ lwF (Ls.map fun L=>.lst (L.map .int)) ⟨lwE a0 a1 t a3 a4 c e6 e7 e8 e9 e10,[],pre⟩ = .nx ⟨lwE a0 a1 t a3 a4 c e6' e7' e8' e9' e10',[],st⟩
 | [],_,pre,e6,e7,e8,e9,e10,_=>⟨e6,e7,e8,e9,e10,pre,rfl⟩
 | L :: Ls,h,pre,e6,e7,e8,e9,e10,hl=>by
   simp only [List.length_cons] at hl
   obtain ⟨l8,hL⟩:=h L (List.mem_cons_self ..)
   obtain ⟨f7,f8,f9,f10,c',h1⟩:=wF hW ho c hL l8 (pre:=pre) (by omega) a0 a1 a3 a4 e7 e8 e9 e10 249 (by omega)
   obtain ⟨g6,g7,g8,g9,g10,st,h2⟩:=vz hW ho c hc a0 a1 a3 a4 Ls (fun L hL=>h L (List.mem_cons_of_mem _ hL)) (lf pre L c') (some (.lst (L.map .int))) f7 f8 f9 f10 (by rw [uO];omega)
   exact ⟨g6,g7,g8,g9,g10,st,cg h1 h2⟩
abbrev nm8 (ns:List Int):List Int:=[sg (sm ns 0),sg (sm ns 1),sg (sm ns 2),sg (sm ns 3),sg (sm ns 4),sg (sm ns 5),sg (sm ns 6),sg (sm ns 7)]
theorem l5 (ns:List Int):∀ x∈nm8 ns,x.natAbs<10 ^ 40:=fun x h=>by
 obtain ⟨y,rfl⟩:∃ y,x=sg y:=by
  simp only [nm8,List.mem_cons,List.not_mem_nil,or_false] at h
  rcases h with h | h | h | h | h | h | h | h <;> exact ⟨_,h⟩
 exact xq y
theorem wx (ns:List Int):∀ L∈[nm8 ns,(nm8 ns).reverse,(nm8 ns).take 4,nm8 ns],L.length≤8∧∀ x∈L,x.natAbs<10 ^ 40:=fun L h=>by
 simp only [List.mem_cons,List.not_mem_nil,or_false] at h
 rcases h with rfl | rfl | rfl | rfl
 ·exact ⟨Nat.le_refl 8,l5 ns⟩
 ·exact ⟨Nat.le_refl 8,fun x h=>l5 ns x (List.mem_reverse.mp h)⟩
 ·exact ⟨(by decide:4≤8),fun x h=>l5 ns x (List.mem_of_mem_take h)⟩
 ·exact ⟨Nat.le_refl 8,l5 ns⟩
theorem ut (ns:List Int):∃ st':List O,af Γ 250 wG [.lst (ns.map .int)] [] = .ok (.bl true) st':=by
 obtain ⟨c,_,hc⟩:=dj ns 0 248 []
 obtain ⟨t,W,o,hW,ot,ht⟩:=r9 ns (c % 3) 234
 have hnum:=fun S=>rY ns 248 S
 by_cases g:c / 3000000000 % 2=0
 ·obtain ⟨W,hW,hw⟩:=tG (c / 3) 248 [o]
  obtain ⟨u,i',c',_,ou,hu⟩:=wq (o0:=o) (ns:=ns) (b0:=c % 9973) hW 7 8 249 (by decide) (by decide) (.ref 2) [] 1 0 (.inl ⟨rfl,rfl⟩) (by decide) (by decide)
  obtain ⟨d,_,hd⟩:=dj ns 1 248 (dG o ns (c % 9973) W i' c')
  obtain ⟨k,hk⟩:∃ k:Nat,d / 45 % 13=k:=⟨(d / 45 % 13).toNat,by omega⟩
  have jk:opD .mod (.int (d / 45)) (.int 13)=some (.int (k:Nat)):=congrArg (fun z=>some (D.int z)) hk
  obtain ⟨e6,e7,e8,e9,e10,st,hf⟩:=vz (by omega) ou k (by omega) (some (.lst (ns.map .int))) (some (.int c)) (some (.lst (sts W))) (some (.lst ((nm8 ns).map .int))) _ (wx ns) (dG o ns (c % 9973) W i' c') none none none none none (Nat.le_refl 7)
  exact ⟨st,aa true [.r (.ok (.int c) []),.r (.ok t.toD [o]),.t 3 true,.r (.ok (.lst (sts W)) [o]),.r (.ok u.toD (dG o ns (c % 9973) W i' c')),.r (.ok (.lst ((nm8 ns).map .int)) (dG o ns (c % 9973) W i' c')),.r (.ok (.int d) (dG o ns (c % 9973) W i' c')),.o 1 (.int (k:Nat)),.x (.nx ⟨lwE (some (.lst (ns.map .int))) (some (.int c)) u (some (.lst (sts W))) (some (.lst ((nm8 ns).map .int))) k e6 e7 e8 e9 e10,[],st⟩)] (hc<|>ht<|>aP g<|>hw<|>hu<|>hnum (dG o ns (c % 9973) W i' c')<|>hd<|>jk<|>hf<|>Z) (by kernel_rfl)⟩
 ·obtain ⟨d,_,hd⟩:=dj ns 1 248 [o]
  obtain ⟨k,hk⟩:∃ k:Nat,d / 45 % 13=k:=⟨(d / 45 % 13).toNat,by omega⟩
  have jk:opD .mod (.int (d / 45)) (.int 13)=some (.int (k:Nat)):=congrArg (fun z=>some (D.int z)) hk
  obtain ⟨e6,e7,e8,e9,e10,st,hf⟩:=vz (by omega) ot k (by omega) (some (.lst (ns.map .int))) (some (.int c)) none (some (.lst ((nm8 ns).map .int))) _ (wx ns) [o] none none none none none (by show 5≤7;decide)
  exact ⟨st,aa true [.r (.ok (.int c) []),.r (.ok t.toD [o]),.t 3 false,.r (.ok (.lst ((nm8 ns).map .int)) [o]),.r (.ok (.int d) [o]),.o 1 (.int (k:Nat)),.x (.nx ⟨lwE (some (.lst (ns.map .int))) (some (.int c)) t none (some (.lst ((nm8 ns).map .int))) k e6 e7 e8 e9 e10,[],st⟩)] (hc<|>ht<|>au g<|>hnum [o]<|>hd<|>jk<|>hf<|>Z) (by kernel_rfl)⟩
end L2.K68
end
section
namespace L2.K68
open L2.Bk L2.Ev
def qt (K:Fg):Prop:=∃ C fI:Addr,vU K "Ended" "Ended.__init__" (bE (top 25) 0) exB "Exception.__new__" C fI∧NaL K C ["outcome"]
def qv (K:Fg):Prop:=∃ C f0:Addr,qp K "Value" C∧NaL K C ["head","held","guards","tag"]∧gY K C "__init__" "Value.__init__" (bE (top 26) 0) f0
def qu (K:Fg):Prop:=∃ C f0 f1 f2:Addr,qp K "Giver" C∧NaL K C ["left","together","notes"]∧gY K C "__init__" "Giver.__init__" (bE (top 27) 0) f0∧gY K C "give_all" "Giver.give_all" (bE (top 27) 2) f1∧gY K C "give_in_call" "Giver.give_in_call" (bE (top 27) 3) f2
def nQ (K:Fg):Prop:=∃ C f0 f1 f2 f3:Addr,qp K "Walker" C∧NaL K C ["looks","numbers","giver"]∧gY K C "__init__" "Walker.__init__" (bE (top 53) 0) f0∧gY K C "come_to" "Walker.come_to" (bE (top 53) 1) f1∧gY K C "value_of" "Walker.value_of" (bE (top 53) 2) f2∧gY K C "called" "Walker.called" (bE (top 53) 3) f3
structure Txt (K:Fg):Prop where
 fn:eV K fnl
 gl:GlL K gll
 tl:ka K tbl
 bl:NoL K T.bl
 x_Ended:qt K
 x_Value:qv K
 x_Giver:qu K
 x_Walker:nQ K
theorem tx:(((fnl.map fun p=>(p.1,p.1,p.2)) ++ mel).all fun p=>fnC p.2.2 && (fe T p.2.2).isSome)=true:=by kernel_rfl
theorem tK {P:Program} {w:World} {K:Fg} {h:Heap} {mg:Str→Option Value} {fa:Addr} {os:OsState} (Y:K.In h) (G:h.Ns mainGlobals mg) (hfa:mg "law" = some (.ref fa)) (T':Txt K) :
 ∃ X:Cx,X.W.P=P∧X.W.w=w∧X.K=K∧X.mg=mg∧X.base=h∧X.os=os∧X.calm=true∧bK X (af Γ 250) 252 50 fa:=by
 obtain ⟨ad,hF,hG⟩:=T'.fn.ad Y G
 obtain ⟨C_Ended,fi_Ended,yq,na_Ended⟩:=T'.x_Ended
 obtain ⟨yx,Fi_Ended⟩:=yq.ini
 obtain ⟨C_Value,a_Value___init__,yr,na_Value,⟨⟨fd_Value___init__,F_Value___init__⟩,M_Value___init__⟩⟩:=T'.x_Value
 obtain ⟨C_Giver,a_Giver___init__,a_Giver_give_all,a_Giver_give_in_call,yv,na_Giver,⟨⟨fd_Giver___init__,F_Giver___init__⟩,M_Giver___init__⟩,⟨⟨fd_Giver_give_all,F_Giver_give_all⟩,M_Giver_give_all⟩,⟨⟨fd_Giver_give_in_call,F_Giver_give_in_call⟩,M_Giver_give_in_call⟩⟩:=T'.x_Giver
 obtain ⟨C_Walker,a_Walker___init__,a_Walker_come_to,a_Walker_value_of,a_Walker_called,yt,na_Walker,⟨⟨fd_Walker___init__,F_Walker___init__⟩,M_Walker___init__⟩,⟨⟨fd_Walker_come_to,F_Walker_come_to⟩,M_Walker_come_to⟩,⟨⟨fd_Walker_value_of,F_Walker_value_of⟩,M_Walker_value_of⟩,⟨⟨fd_Walker_called,F_Walker_called⟩,M_Walker_called⟩⟩:=T'.x_Walker
 let X:Cx:=⟨⟨P,w,[⟨C_Ended,["outcome"]⟩,⟨C_Value,["head","held","guards","tag"]⟩,⟨C_Giver,["left","together","notes"]⟩,⟨C_Walker,["looks","numbers","giver"]⟩],[2,1,0,0]⟩,K,mg,h,os,Γ,fun _ _ _=>.bad,fun _ _ _=>.bad,callerA,[],[],envOfC "" (aw (top 0)) 0 0 .none,true⟩
 have hM:FsL K mel [a_Giver___init__,a_Giver_give_all,a_Giver_give_in_call,a_Walker___init__,a_Walker_come_to,a_Walker_value_of,a_Walker_called]:=⟨⟨_,F_Giver___init__⟩,⟨_,F_Giver_give_all⟩,⟨_,F_Giver_give_in_call⟩,⟨_,F_Walker___init__⟩,⟨_,F_Walker_come_to⟩,⟨_,F_Walker_value_of⟩,⟨_,F_Walker_called⟩,trivial⟩
 have k_Ended:di X T.an 0 ⟨2,[0],0,[],[],[]⟩ ⟨C_Ended,["outcome"]⟩:=⟨rfl,(fun z=>absurd rfl z),na_Ended.at,rfl,(show (["outcome"]:List Str)=List.map T.an [0] by decide +kernel),(show (["outcome"]:List Str).Nodup by decide +kernel),fun _=>⟨yq.fd,yq.hh⟩⟩
 have k_Value:di X T.an 1 ⟨1,[1,2,3,4],0,[],[],[]⟩ ⟨C_Value,["head","held","guards","tag"]⟩:=⟨rfl,fun _=>yr.cls,na_Value.at,rfl,(show (["head","held","guards","tag"]:List Str)=List.map T.an [1,2,3,4] by decide +kernel),(show (["head","held","guards","tag"]:List Str).Nodup by decide +kernel),fun z=>absurd z (by decide)⟩
 have yw:di X T.an 2 ⟨0,[5,6,7],51,[],[],[]⟩ ⟨C_Giver,["left","together","notes"]⟩:=⟨rfl,fun _=>yv.cls,na_Giver.at,rfl,(show (["left","together","notes"]:List Str)=List.map T.an [5,6,7] by decide +kernel),(show (["left","together","notes"]:List Str).Nodup by decide +kernel),fun z=>absurd z (by decide)⟩
 have yu:di X T.an 3 ⟨0,[8,9,10],54,[],[],[]⟩ ⟨C_Walker,["looks","numbers","giver"]⟩:=⟨rfl,fun _=>yt.cls,na_Walker.at,rfl,(show (["looks","numbers","giver"]:List Str)=List.map T.an [8,9,10] by decide +kernel),(show (["looks","numbers","giver"]:List Str).Nodup by decide +kernel),fun z=>absurd z (by decide)⟩
 have Pg:qr T X (ad ++ [a_Giver___init__,a_Giver_give_all,a_Giver_give_in_call,a_Walker___init__,a_Walker_come_to,a_Walker_value_of,a_Walker_called]) 1:=by
  refine ⟨rfl,fun j f e=>wy rfl tx (hF.app hM) e,fun j x e=>?_,fun j x e=>?_,fun j x e=>?_,fun x e=>PySem.W.mg_none_of Y G (T'.bl.at x e),fun c k e=>?_,fun q e=>?_,fun j x e hz=>?_,fun j x e hz=>?_,fun j x e hz=>?_,fun j x e hz=>?_⟩
  ·obtain ⟨f,h1,h2⟩:=nR hG e
   exact ⟨f,List.getElem?_append_left (List.getElem?_eq_some_iff.mp h1).1 ▸ h1,h2⟩
  ·obtain ⟨d,u,h1,h2,h3⟩:=T'.gl.at e
   exact ⟨d,u,h1,PySem.W.mg_of Y G h2,h3⟩
  ·obtain ⟨t,a,h1,h2,h3⟩:=T'.tl.at e
   exact ⟨t,a,h1,PySem.W.mg_of Y G h2,h3⟩
  ·exact eW (P:=fun (c:Nat) (k:Cl)=>∃ i,di X T.an c k i) (show fX _ 0 Γ.cl from ⟨⟨_,k_Ended⟩,⟨_,k_Value⟩,⟨_,yw⟩,⟨_,yu⟩,trivial⟩) e
  ·obtain ⟨i,e⟩:=List.mem_iff_getElem?.mp e
   exact eW (P:=fun (_:Nat) (q:Str×Nat×Nat)=>∃ f,(ad ++ [a_Giver___init__,a_Giver_give_all,a_Giver_give_in_call,a_Walker___init__,a_Walker_come_to,a_Walker_value_of,a_Walker_called])[q.2.2]? = some f∧mx X T.an q.1 q.2.1 f) (show fX _ 0 T.me from ⟨⟨a_Giver_give_all,c8 (n:=51) (k:=1) hF.len,⟨_,_,rfl,yw,rfl,M_Giver_give_all,(show ("give_all":Str) ∉ (["left","together","notes"]:List Str) by decide +kernel)⟩⟩,⟨a_Giver_give_in_call,c8 (n:=51) (k:=2) hF.len,⟨_,_,rfl,yw,rfl,M_Giver_give_in_call,(show ("give_in_call":Str) ∉ (["left","together","notes"]:List Str) by decide +kernel)⟩⟩,⟨a_Walker_come_to,c8 (n:=51) (k:=4) hF.len,⟨_,_,rfl,yu,rfl,M_Walker_come_to,(show ("come_to":Str) ∉ (["looks","numbers","giver"]:List Str) by decide +kernel)⟩⟩,⟨a_Walker_value_of,c8 (n:=51) (k:=5) hF.len,⟨_,_,rfl,yu,rfl,M_Walker_value_of,(show ("value_of":Str) ∉ (["looks","numbers","giver"]:List Str) by decide +kernel)⟩⟩,⟨a_Walker_called,c8 (n:=51) (k:=6) hF.len,⟨_,_,rfl,yu,rfl,M_Walker_called,(show ("called":Str) ∉ (["looks","numbers","giver"]:List Str) by decide +kernel)⟩⟩,trivial⟩) e
  ·exact eW (P:=fun (j:Nat) (x:Str)=>x≠("":Str)→∃ f i cl,(ad ++ [a_Giver___init__,a_Giver_give_all,a_Giver_give_in_call,a_Walker___init__,a_Walker_come_to,a_Walker_value_of,a_Walker_called])[cl.init]? = some f∧Mk K i.ad f∧Γ.cl[j]? = some cl∧cl.what=0∧X.W.ci[j]? = some i∧X.W.what[j]? = some 0∧mg x=some (.ref i.ad)) (show fX _ 0 T.nw from ⟨(fun z=>absurd rfl z),(fun z=>absurd rfl z),(fun _=>⟨a_Giver___init__,⟨C_Giver,_⟩,_,c8 (n:=51) (k:=0) hF.len,⟨yv.mks,M_Giver___init__.at_,M_Giver___init__.fn,yv.kp⟩,rfl,rfl,rfl,rfl,PySem.W.mg_of Y G yv.a⟩),(fun _=>⟨a_Walker___init__,⟨C_Walker,_⟩,_,c8 (n:=51) (k:=3) hF.len,⟨yt.mks,M_Walker___init__.at_,M_Walker___init__.fn,yt.kp⟩,rfl,rfl,rfl,rfl,PySem.W.mg_of Y G yt.a⟩),trivial⟩) e hz
  ·exact eW (P:=fun (j:Nat) (x:Str)=>x≠("":Str)→∃ f fd ps i cl,FnI X 1 f fd ps i.nm∧bI K fd ps []∧Mk K i.ad f∧Cls K i.ad∧(∀ f∈i.nm,b8 K i.ad f)∧Γ.cl[j]? = some cl∧X.W.ci[j]? = some i∧X.W.what[j]? = some 1∧i.nm.length=cl.at_.length∧mg x=some (.ref i.ad)) (show fX _ 0 T.nd from ⟨(fun z=>absurd rfl z),(fun _=>⟨a_Value___init__,fd_Value___init__,_,⟨C_Value,_⟩,_,(ib (X:=X) (nm:=["head","held","guards","tag"]) F_Value___init__ (by kernel_rfl)).1,(ib (X:=X) (nm:=["head","held","guards","tag"]) F_Value___init__ (by kernel_rfl)).2,⟨yr.mks,M_Value___init__.at_,M_Value___init__.fn,yr.kp⟩,yr.cls,na_Value.at,rfl,rfl,rfl,rfl,PySem.W.mg_of Y G yr.a⟩),(fun z=>absurd rfl z),(fun z=>absurd rfl z),trivial⟩) e hz
  ·exact eW (P:=fun (j:Nat) (x:Str)=>x≠("":Str)→∃ (k:Cl) (i:CI) (fI:Addr) (fd:FuncData) (ps:List Str) (Bx nwI iniI:String) (bmB:List Value),ExcBaseFacts Bx nwI iniI bmB∧j9 K i.ad fI bmB nwI∧FnI X 1 fI fd ps i.nm∧bI K fd ps []∧eU K i.ad∧(∀ f∈i.nm,PySem.W.findIn K (.ref i.ad) f=some none)∧Γ.cl[j]? = some k∧X.W.ci[j]? = some i∧X.W.what[j]? = some 2∧i.nm.length=k.at_.length∧PySem.W.mroIn K i.ad (.type "BaseException")=some true∧PySem.W.typeIn K (.ref i.ad)=some (.type "type")∧PySem.W.keepIn K (.ref i.ad)=true∧mg x=some (.ref i.ad)) (show fX _ 0 T.ex from ⟨(fun _=>⟨_,⟨C_Ended,_⟩,fi_Ended,yx,_,_,_,_,_,PySem.F.excBase_Exception,yq.own,(ib (X:=X) (nm:=["outcome"]) Fi_Ended (by kernel_rfl)).1,(ib (X:=X) (nm:=["outcome"]) Fi_Ended (by kernel_rfl)).2,yq.st,na_Ended.at,rfl,rfl,rfl,rfl,yq.fd.be,yq.ec.ty,yq.kp,PySem.W.mg_of Y G yq.a⟩),(fun z=>absurd rfl z),(fun z=>absurd rfl z),(fun z=>absurd rfl z),trivial⟩) e hz
  ·exact eW (P:=fun (j:Nat) (x:Str)=>x≠("":Str)→nN X j x) (show fX _ 0 T.hx from ⟨(fun _=>⟨⟨C_Ended,_⟩,rfl,PySem.W.mg_of Y G yq.a,yq.ec,fun c k ic h1 h2 h3=>eW (P:=fun (c:Nat) (k:Cl)=>∀ ic,X.W.ci[c]? = some ic→(c == 0 || k.sup.contains 0)=true→PySem.W.mroIn K ic.ad (.ref C_Ended)=some true) (show fX _ 0 Γ.cl from ⟨(fun _ e _=>by cases e;exact yq.me),(fun _ _ z=>absurd z (by decide +kernel)),(fun _ _ z=>absurd z (by decide +kernel)),(fun _ _ z=>absurd z (by decide +kernel)),trivial⟩) h1 ic h2 h3⟩),(fun z=>absurd rfl z),(fun z=>absurd rfl z),(fun z=>absurd rfl z),trivial⟩) e hz
 obtain ⟨f,h1,h2⟩:=nR hG (j:=50) (x:="law") rfl
 rw [hfa] at h2
 cases h2
 exact ⟨X,rfl,rfl,rfl,rfl,rfl,rfl,rfl,iK Pg 250 50 fa (List.getElem?_append_left (List.getElem?_eq_some_iff.mp h1).1 ▸ h1)⟩
theorem walk {l:PySem.W.OpenLaw} {q:Program} {loose:List Str} {XP:(Str→Option Value)→Heap→Prop} {YP:World→Heap→Prop} {d:DefRec} {K:Params→Fg} (hn:l.most=some 63) (hdf:d.params.defaults = []) (hd:d.name = "law")
 (hY:∀ (w:World) (h:Heap),YP w h→(K w.params).In h) (F:∀ (w:World) (h:Heap) (Y:(K w.params).In h),Txt (KOf Y)):PySem.W.WalkO q loose XP YP l.row.toRowW d [] (fun f vs=>PySem.call f vs):=
 sE (n:=63) hn (by decide) hdf ⟨rfl,by decide,by decide⟩ hY (fun w mg fa h os Y G e md=>tK Y G (hd ▸ e) (F w h Y)) (fun ns _=>ut ns)
end L2.K68
end
section
open PySem PySem.W PyProof.Rows
namespace PySem.W.Fast
def tw4104710944018737426:Nat:=0
def tw12879279870003735915:Nat:=0
def tw3425448888558215961:Nat:=0
def tw11153916846357321345:Nat:=0
def tw13675910249367414522:Nat:=0
def tw16873650434835371750:Nat:=0
def tw2822256583944318522:Nat:=0
def tw17280477337842212990:Nat:=0
def tw6972554562092835529:Nat:=0
def tw16146780609773218932:Nat:=0
def tw14646057339717592564:Nat:=0
def tw10034612283295878204:Nat:=0
def tw16695595546672159653:Nat:=0
def tw4335939906275343397:Nat:=0
def tw12511098374766133083:Nat:=0
def tw7865215319797090350:Nat:=0
def tw17511218507295621151:Nat:=0
def tw14397789661834407594:Nat:=0
def tw6541817161093747937:Nat:=0
def tw2700459213783897087:Nat:=0
def tw11419406196021323589:Nat:=0
def tw14393980248716905526:Nat:=0
def tw9460820481335371389:Nat:=0
def tw13504352063314186316:Nat:=0
def tw432931946866385246:Nat:=0
def tw1048917147899141721:Nat:=0
def tw889388284089510872:Nat:=0
def tw16944468780929810306:Nat:=0
def tw6085621102892592523:Nat:=0
def tw15195060152791800107:Nat:=0
def tw672574606682198873:Nat:=0
def tw6877987651294698823:Nat:=0
def tw7581105971604567025:Nat:=0
def tw3105283607598775837:Nat:=0
def tw16075305961874724948:Nat:=0
def tw2181092007877502359:Nat:=0
def tw13691876891834197713:Nat:=0
def tw15675037565817631870:Nat:=0
def tw17621185690580480900:Nat:=0
def tw13951724783203123517:Nat:=0
def tw4289115109187691308:Nat:=0
def tw13579382618881476546:Nat:=0
def tw15018472728998551118:Nat:=0
def tw3597127490756567612:Nat:=0
def tw5169691873068794205:Nat:=0
def tw16235046943898554054:Nat:=0
def tw532966820972062624:Nat:=0
def tw4100652352079425790:Nat:=0
def tw3131557914899936157:Nat:=0
def tw13030369942797222517:Nat:=0
def tw16526756197220609240:Nat:=0
def tw3536913256439590271:Nat:=0
def tw7641097797016729657:Nat:=0
def tw13933663702610982635:Nat:=0
def tw8406853413982007864:Nat:=0
def tw18189692133984501298:Nat:=0
def tw11827876257409846392:Nat:=0
def tw9524486102276575989:Nat:=0
def tw9821350698216961581:Nat:=0
def tw14461599205275350108:Nat:=0
def tw9941856869986759141:Nat:=0
def tw210100398282035050:Nat:=0
def tw16298982499195675705:Nat:=0
def tw6157290215149572817:Nat:=0
def tw8984422020292322786:Nat:=0
def tw14322764895872415082:Nat:=0
def tw12384597031130745318:Nat:=0
def tw11502985100300327015:Nat:=0
def tw10940195614094318376:Nat:=0
def tw15329137215265210178:Nat:=0
def tw10119828688436838745:Nat:=0
def tw11686261834819759027:Nat:=0
def tw6623264655312595072:Nat:=0
def tw8200318613385375756:Nat:=0
def tw17576525046821686872:Nat:=0
def tw11946113522223855131:Nat:=0
def tw16368960786161101667:Nat:=0
def tw16954061326505170552:Nat:=0
def tw12466499361141803517:Nat:=0
def tw10459194490233806926:Nat:=0
def tw10053143025626939116:Nat:=0
def tw4711267511457799541:Nat:=0
def tw7725143615274036366:Nat:=0
def tw14682832288415519167:Nat:=0
def tw3775026998195560443:Nat:=0
def tw15823703084394036864:Nat:=0
def tw2241206279723530255:Nat:=0
def tw3535704310003674072:Nat:=0
def tw3733249605024910275:Nat:=0
def tw11136488671039494639:Nat:=0
def tw5744746648567949387:Nat:=0
def tw6731608280240658604:Nat:=0
def tw4487961973206432137:Nat:=0
def tw6364538101066903481:Nat:=0
def tw13135197450038954548:Nat:=0
def tw6596265614995399843:Nat:=0
def tw16428138743672799950:Nat:=0
def tw603320993006909846:Nat:=0
def tw8200757892831340162:Nat:=0
def tw12421627580145498471:Nat:=0
def tw14901633608316021199:Nat:=0
def tw14749271328279372874:Nat:=0
def tw12221470585594890443:Nat:=0
def tw1385655657370017576:Nat:=0
def tw5066687922955667776:Nat:=0
def tw7087393114768357752:Nat:=0
def tw16834383869702213749:Nat:=0
def tw9160879306740291642:Nat:=0
def tw14803270613926342106:Nat:=0
def tw4502484078363256205:Nat:=0
def tw15189059522128232946:Nat:=0
def tw8098885328782812982:Nat:=0
def tw17120599881762729711:Nat:=0
def tw10313884964843435177:Nat:=0
def tw17755921487419618164:Nat:=0
def tw13298446278784370836:Nat:=0
def tw15595603396735119137:Nat:=0
def tw13413025969322645847:Nat:=0
def tw16951434820818904685:Nat:=0
def tw18028911146593365144:Nat:=0
def tw869359823913572361:Nat:=0
def tw455712066733812145:Nat:=0
def tw3337973107322588620:Nat:=0
def tw7519649090736231559:Nat:=0
def tw2141326663530495673:Nat:=0
def tw3627390762776502709:Nat:=0
def tw16815446306010989006:Nat:=0
def tw15951187253231180743:Nat:=0
def tw7367525006736737280:Nat:=0
def tw11998044937617614792:Nat:=0
def tw14999463403105096715:Nat:=0
def tw15710909371199388799:Nat:=0
def tw18160862579569270344:Nat:=0
def tw11374847438095036165:Nat:=0
def tw966905107253451955:Nat:=0
def tw9830242669812651182:Nat:=0
def tw16975174717309429868:Nat:=0
def tw13626011686454890715:Nat:=0
def tw3857703750512358290:Nat:=0
def tw16486630320437115975:Nat:=0
def tw2478091801408038667:Nat:=0
def tw1902234797417407921:Nat:=0
def tw16581524823711691719:Nat:=0
def tw7877482721747841107:Nat:=0
def tw8361585124582193820:Nat:=0
def tw9305493279097405676:Nat:=0
def tw3243674465533513434:Nat:=0
def tw8897499025690380744:Nat:=0
def tw2055327279756649655:Nat:=0
def tw7282428384505558517:Nat:=0
def tw4318283775885843455:Nat:=0
def tw9405838539239939089:Nat:=0
def tw870181026021652126:Nat:=0
def tw2001146929206552823:Nat:=0
def tw15889312416352218515:Nat:=0
def tw17285515925450421679:Nat:=0
def tw2853879957729821774:Nat:=0
def tw16808791006292014522:Nat:=0
def tw3745591831615205307:Nat:=0
def tw12976196367612642739:Nat:=0
def tw2882815815772285013:Nat:=0
def tw9549601583949895559:Nat:=0
def tw15137722078933354225:Nat:=0
def tw7791854122388393690:Nat:=0
def tw4811502412273035499:Nat:=0
def tw9790173239685302325:Nat:=0
def tw13943267395006310818:Nat:=0
def tw13023591277574623931:Nat:=0
def tw13181159162288061867:Nat:=0
def tw6621420557214684826:Nat:=0
def tw7760530692451955921:Nat:=0
def tw13047022045207101564:Nat:=0
def tw17498622954650125194:Nat:=0
def tw16300107368314122787:Nat:=0
def tw9072274584922225879:Nat:=0
def tw7387746774593339087:Nat:=0
def tw3017618724990117334:Nat:=0
def tw14569488235178750889:Nat:=0
def tw12279072366315163554:Nat:=0
def tw11124986577475956643:Nat:=0
def tw16289610720269877156:Nat:=0
def tw11505679075747123469:Nat:=0
def tw10775221446155308228:Nat:=0
def tw3454369755532810306:Nat:=0
def tw2436017204018747797:Nat:=0
def tw3885128646644818421:Nat:=0
def tw9850206695674757914:Nat:=0
def tw15892343415541654766:Nat:=0
def tw816937665258265222:Nat:=0
def tw25516237058755533:Nat:=0
def tw18099788691598963798:Nat:=0
def tw8816911608944980309:Nat:=0
def tw9660391186951330341:Nat:=0
def tw8454917334998157293:Nat:=0
def tw16815210718618118471:Nat:=0
def tw2721023343983512444:Nat:=0
def tw11541745719510834886:Nat:=0
def tw1993736241552546086:Nat:=0
def tw14036613649924664077:Nat:=0
def tw12205116351223540152:Nat:=0
def tw9155761981562646200:Nat:=0
def tw3033390534500275005:Nat:=0
def tw1986650778126508951:Nat:=0
def tw17652394884034115850:Nat:=0
def tw18028399425308937185:Nat:=0
def tw12636185869326969528:Nat:=0
def tw8844782208278881799:Nat:=0
def tw15414718283595031735:Nat:=0
def tw8116319331302337831:Nat:=0
def tw1604444595433784955:Nat:=0
def tw10186077080684194638:Nat:=0
def tw1085344734074338926:Nat:=0
def tw9544548902231729176:Nat:=0
def tw8277438311826368949:Nat:=0
def tw13718166972552065766:Nat:=0
def tw888553838680914578:Nat:=0
def tw14672922268730405104:Nat:=0
def tw959621951212845571:Nat:=0
def tw6857595848589151156:Nat:=0
def tw4830259345097850133:Nat:=0
def tw1994299308104516617:Nat:=0
def tw17799103077634472869:Nat:=0
def tw17492552481959413558:Nat:=0
def tw17106153802892003617:Nat:=0
def tw15195858591417609797:Nat:=0
def tw9074644694406880220:Nat:=0
def tw613608728164820019:Nat:=0
def tw9091305357784642852:Nat:=0
def tw9019790967160092013:Nat:=0
def tw90065379104952125:Nat:=0
def tw777540205642350331:Nat:=0
def tw7530886863180755426:Nat:=0
def tw6363486039914680840:Nat:=0
def tw5509443312002509452:Nat:=0
def tw5424903472241828702:Nat:=0
def tw4301135280750264958:Nat:=0
def tw4057261905002459973:Nat:=0
def tw18012933619426046633:Nat:=0
def tw17138553414038461960:Nat:=0
def tw13905208951740720928:Nat:=0
def tw12901962069228169372:Nat:=0
def tw1075018577721297449:Nat:=0
def tw2570364842803423436:Nat:=0
def tw15816306377221080647:Nat:=0
def tw1740714146318418067:Nat:=0
def tw17397931818166457469:Nat:=0
def tw11262495984554678969:Nat:=0
def tw6625059378676260482:Nat:=0
def tw9397800055166498547:Nat:=0
def tw6528103776292720283:Nat:=0
def tw6464096077232715012:Nat:=0
def tw4008487775953583426:Nat:=0
def tw3510425868226945366:Nat:=0
def tw3158283795437189576:Nat:=0
def tw16959746212427317247:Nat:=0
def tw16275608594570436212:Nat:=0
def tw13561011706941796392:Nat:=0
def tw13522146466750305925:Nat:=0
def tw12638101955925012950:Nat:=0
def tw11334969840246731265:Nat:=0
def tw13286125873408945582:Nat:=0
def tw13809705940149090708:Nat:=0
def tw5525284700847719121:Nat:=0
def tw3159297676714476023:Nat:=0
def tw8600847138639917857:Nat:=0
def tw9010625983249054459:Nat:=0
def tw8786610489395758687:Nat:=0
def tw8057158293722420438:Nat:=0
def tw5535921714523009402:Nat:=0
def tw2646008610885113602:Nat:=0
def tw2436373135692471607:Nat:=0
def tw16926862913686152187:Nat:=0
def tw15307469674912221975:Nat:=0
def tw14448906687981052388:Nat:=0
def tw14278569082292516168:Nat:=0
def tw10817460702607027208:Nat:=0
def tw10131346764146307129:Nat:=0
def tw8712340764639598748:Nat:=0
def tw16668800051972017556:Nat:=0
def tw16355085063479081892:Nat:=0
def tw12498308354835981778:Nat:=0
def tw8218397834309323722:Nat:=0
def tw5510334144304113297:Nat:=0
def tw1871101207636916710:Nat:=0
def tw13979090521511923958:Nat:=0
def tw10679809690743467230:Nat:=0
def tw9967310903004606722:Nat:=0
def tw9939031301278341510:Nat:=0
def tw969889444348622923:Nat:=0
def tw9384074887161813982:Nat:=0
def tw9090207753239137835:Nat:=0
def tw8888703673673966173:Nat:=0
def tw8827766391812104717:Nat:=0
def tw8822909557451403652:Nat:=0
def tw7994476682037000380:Nat:=0
def tw7950340309334989196:Nat:=0
def tw7668173945480297761:Nat:=0
def tw7409775578128327618:Nat:=0
def tw639942505237634370:Nat:=0
def tw6294956745690939259:Nat:=0
def tw6067593380420174999:Nat:=0
def tw5959096157248782495:Nat:=0
def tw5843595003986813678:Nat:=0
def tw5529769105479376391:Nat:=0
def tw4984729371951480803:Nat:=0
def tw4454091855267432001:Nat:=0
def tw4328974184432502011:Nat:=0
def tw3829017008115155670:Nat:=0
def tw3809310885068291375:Nat:=0
def tw3320362352045288925:Nat:=0
def tw2875211566548929211:Nat:=0
def tw1971191334089997146:Nat:=0
def tw1882204677609012468:Nat:=0
def tw18337859929383945936:Nat:=0
def tw1785810691049282992:Nat:=0
def tw17568706434144871592:Nat:=0
def tw17230256694680838974:Nat:=0
def tw16043775207976276448:Nat:=0
def tw15783041105993663806:Nat:=0
def tw15653995774107683598:Nat:=0
def tw15605919431015460460:Nat:=0
def tw15443330667167314350:Nat:=0
def tw15343069823412570424:Nat:=0
def tw14771729593464666153:Nat:=0
def tw14610806430053702046:Nat:=0
def tw13917271300159839523:Nat:=0
def tw13577050894946995326:Nat:=0
def tw13222463478414633245:Nat:=0
def tw13089368446726682267:Nat:=0
def tw12953816364186711385:Nat:=0
def tw12658866573472688789:Nat:=0
def tw12475669449710822313:Nat:=0
def tw12318333089213782411:Nat:=0
def tw12266204998104991324:Nat:=0
def tw12105109394735328786:Nat:=0
def tw1207132646424049428:Nat:=0
def tw11862186286817766143:Nat:=0
def tw11574149651189360834:Nat:=0
def tw10761459993672079135:Nat:=0
def tw10537905474820151109:Nat:=0
def tw10443379777085589783:Nat:=0
def tw10374539390408299645:Nat:=0
def tw12911381969477859875:Nat:=0
def tw14630976231032754778:Nat:=0
def tw14467426535993780735:Nat:=0
def tw6338863556811054647:Nat:=0
def tw5137303329005900036:Nat:=0
def tw12786740895411678821:Nat:=0
def tw8069275892051815816:Nat:=0
def tw7867135821117231922:Nat:=0
def tw6816002949830724044:Nat:=0
def tw4014228590066188238:Nat:=0
def tw2229997833133574459:Nat:=0
def tw16221185451911775088:Nat:=0
def tw15176909152211544032:Nat:=0
def tw1509371852283272965:Nat:=0
def tw12546149097140157360:Nat:=0
def tw1201093723213538983:Nat:=0
def tw11857631284175342835:Nat:=0
def tw11256595772203067622:Nat:=0
def tw9318628771142729637:Nat:=0
def tw5339161795699858401:Nat:=0
def tw2626513548032174560:Nat:=0
def tw2574408515820955007:Nat:=0
def tw16799832194997124811:Nat:=0
def tw15975326396078921387:Nat:=0
def tw17542594908009844587:Nat:=0
def tw7629272708163280813:Nat:=0
def tw10326777048927350262:Nat:=0
def tw16754520240997027440:Nat:=0
def tw12614146577411366558:Nat:=0
def tw2581133574129412619:Nat:=0
def tw7190778882156887027:Nat:=0
def tw16246866537697992968:Nat:=0
def tw12927521917373301806:Nat:=0
def tw11527078372588436815:Nat:=0
def tw10450977899214154274:Nat:=0
def tw9582107936696247798:Nat:=0
def tw6344772270817000778:Nat:=0
def tw5573975504917215414:Nat:=0
def tw547010907607773067:Nat:=0
def tw5090612046295280264:Nat:=0
def tw4801173201139368105:Nat:=0
def tw271617484677790191:Nat:=0
def tw2077281018411940015:Nat:=0
def tw18181447708689401861:Nat:=0
def tw17103749130923193062:Nat:=0
def tw16026067913904502302:Nat:=0
def tw15593484566052727774:Nat:=0
def tw15589321606443409188:Nat:=0
def tw14684781500946367748:Nat:=0
def tw14382811408334949087:Nat:=0
def tw13974353176738148063:Nat:=0
def tw13887186960453462624:Nat:=0
def tw13677232793765068195:Nat:=0
def tw13515806192009872976:Nat:=0
def tw13439810015315002293:Nat:=0
def tw13114192856866198076:Nat:=0
def tw12894969884399429167:Nat:=0
def tw12790752697148898791:Nat:=0
def tw12727499413232941748:Nat:=0
def tw1175815134441938061:Nat:=0
def tw10206448848840163995:Nat:=0
def tw17742423983352345945:Nat:=0
def tw14139181942819312283:Nat:=0
def tw14121697017845150755:Nat:=0
def tw6245755346696552941:Nat:=0
def tw5753926063066105394:Nat:=0
def tw3098752193268669526:Nat:=0
def tw17315194752138373937:Nat:=0
def tw11420898767911057508:Nat:=0
def tw13830826678644013090:Nat:=0
def tw9862294370448460215:Nat:=0
def tw11171531479209991279:Nat:=0
def tw6589879855203375370:Nat:=0
def tw5819510507446452220:Nat:=0
def tw5036400035747860820:Nat:=0
def tw2967809234154356227:Nat:=0
def tw17350383508124358323:Nat:=0
def tw1428784690560659884:Nat:=0
def tw12127317742362195385:Nat:=0
def tw3540156799196298699:Nat:=0
def tw12421608320740973547:Nat:=0
def tw11554381380278191808:Nat:=0
def tw9920030203370028589:Nat:=0
def tw9779262847735974815:Nat:=0
def tw9652821142205841489:Nat:=0
def tw9634881656032293288:Nat:=0
def tw9569666849484799549:Nat:=0
def tw9350348512243452554:Nat:=0
def tw932510184973322555:Nat:=0
def tw912371937469696271:Nat:=0
def tw9110494341296587111:Nat:=0
def tw8869321658457412495:Nat:=0
def tw8684766293810493292:Nat:=0
def tw8593629224591697757:Nat:=0
def tw8466423895011686678:Nat:=0
def tw8462782475609474502:Nat:=0
def tw8118686722105090999:Nat:=0
def tw8086468391390475314:Nat:=0
def tw8052173612433774331:Nat:=0
def tw7995666757884738014:Nat:=0
def tw7994371249476209883:Nat:=0
def tw7958827179602042753:Nat:=0
def tw7924054693649845737:Nat:=0
def tw7880422935151644476:Nat:=0
def tw7697064262436535069:Nat:=0
def tw7636483203926082743:Nat:=0
def tw7525939116592472789:Nat:=0
def tw7296781435432797551:Nat:=0
def tw723567893554366353:Nat:=0
def tw6943077718861487860:Nat:=0
def tw6888409175571694397:Nat:=0
def tw6690865627182067762:Nat:=0
def tw6677913623229442795:Nat:=0
def tw6573127443013619385:Nat:=0
def tw6457105484432312953:Nat:=0
def tw6446289862694793865:Nat:=0
def tw624846861919843193:Nat:=0
def tw6172960412228551152:Nat:=0
def tw6106696191231678291:Nat:=0
def tw6101067135095141822:Nat:=0
def tw5948472564377204215:Nat:=0
def tw5644628096003295003:Nat:=0
def tw5604455394903296490:Nat:=0
def tw5598104867500563947:Nat:=0
def tw5583608144065738949:Nat:=0
def tw5577236650665806369:Nat:=0
def tw5529306808918465735:Nat:=0
def tw5481295850989483181:Nat:=0
def tw5428169857957453966:Nat:=0
def tw529786997814224094:Nat:=0
def tw5119857160925880785:Nat:=0
def tw5080719917390413304:Nat:=0
def tw5010166044592341064:Nat:=0
def tw4695258408018781147:Nat:=0
def tw4498250727718535366:Nat:=0
def tw4375105587115573254:Nat:=0
def tw4201353981250894577:Nat:=0
def tw3963365916668640107:Nat:=0
def tw3803645349415819766:Nat:=0
def tw3771059035336552885:Nat:=0
def tw3526259418132409814:Nat:=0
def tw3072099539528678582:Nat:=0
def tw2977069850642038171:Nat:=0
def tw2976812518484579318:Nat:=0
def tw2960800863162360307:Nat:=0
def tw2958278029076642893:Nat:=0
def tw2881831291198273820:Nat:=0
def tw2839421038421617738:Nat:=0
def tw2712216326404569920:Nat:=0
def tw2568174460321659427:Nat:=0
def tw2405879757471780189:Nat:=0
def tw2268143929143866573:Nat:=0
def tw2195163232785669351:Nat:=0
def tw1994926241405548056:Nat:=0
def tw1954107700969692918:Nat:=0
def tw18333182634816780553:Nat:=0
def tw18296452811082223530:Nat:=0
def tw18271516044964780959:Nat:=0
def tw18167513306723580343:Nat:=0
def tw18146916106840481943:Nat:=0
def tw18002260255829331412:Nat:=0
def tw17986866847837922806:Nat:=0
def tw17856813203718533336:Nat:=0
def tw17771945439328383301:Nat:=0
def tw17318283703914629132:Nat:=0
def tw17243892445434624994:Nat:=0
def tw17218084155615358081:Nat:=0
def tw17131604835220188994:Nat:=0
def tw17121852619600514411:Nat:=0
def tw16969074161262366888:Nat:=0
def tw1684960685867262294:Nat:=0
def tw16735652907402231975:Nat:=0
def tw16619672446966363685:Nat:=0
def tw16261736617784619879:Nat:=0
def tw16141738511634040148:Nat:=0
def tw16053339870167834601:Nat:=0
def tw15935254749062827012:Nat:=0
def tw15860061464725029712:Nat:=0
def tw15725118404244739226:Nat:=0
def tw15611206777553685549:Nat:=0
def tw15585018330043654844:Nat:=0
def tw1544458530775821564:Nat:=0
def tw15343198009332207214:Nat:=0
def tw15228349643408762323:Nat:=0
def tw15212021394880446017:Nat:=0
def tw15077577283812337496:Nat:=0
def tw14990786901913528067:Nat:=0
def tw14974963338762672322:Nat:=0
def tw14656261327478760152:Nat:=0
def tw1449201491304560057:Nat:=0
def tw14427599736546780428:Nat:=0
def tw14315537092745008182:Nat:=0
def tw14262481100498701969:Nat:=0
def tw14073010084343037489:Nat:=0
def tw13957662194771759985:Nat:=0
def tw13812765754744502663:Nat:=0
def tw13796266542181453456:Nat:=0
def tw13737916880161219071:Nat:=0
def tw13366922193899498387:Nat:=0
def tw13292609118246812529:Nat:=0
def tw13226264998392476324:Nat:=0
def tw13186198285721457364:Nat:=0
def tw130559813594309594:Nat:=0
def tw12953649853839412502:Nat:=0
def tw12838142280810413128:Nat:=0
def tw12458644442017513017:Nat:=0
def tw12423405212101575156:Nat:=0
def tw12161857156061436174:Nat:=0
def tw1214286453733504809:Nat:=0
def tw11895410401875438603:Nat:=0
def tw11856972025614025658:Nat:=0
def tw11799012939238270352:Nat:=0
def tw11610779269793324713:Nat:=0
def tw11420483341249509013:Nat:=0
def tw11364793978738632535:Nat:=0
def tw11215900808935666570:Nat:=0
def tw11193668940396300357:Nat:=0
def tw1111480580845252329:Nat:=0
def tw11106454441012058103:Nat:=0
def tw1098525687940077678:Nat:=0
def tw10856565717854562008:Nat:=0
def tw1081523035569040303:Nat:=0
def tw10634372952940663550:Nat:=0
def tw1057661211372535125:Nat:=0
def tw10434168121466253:Nat:=0
def tw10397845610015880342:Nat:=0
def tw10088888549179696526:Nat:=0
end PySem.W.Fast
set_option maxRecDepth 100000 in
set_option maxHeartbeats 0 in
theorem PySem.Challenge.cw_blamewise_k68_whole_plain_by_a_model_holds : PySem.Challenge.rw_blamewise_k68_whole_plain_by_a_model.Holds := by
 w_on;o_law;k_head;(case hw=>w_witness2)
 k_fill
 refine L2.K68.walk (l:=PySem.Challenge.rw_blamewise_k68_whole_plain_by_a_model) rfl rfl rfl (fun w h Y=>PySem.W.kIn_of Y) ?F
 case F=>
  intro w h KX
  dsimp only [L2.Ev.KOf]
  refine' L2.K68.Txt.mk ?fn ?gl ?tl ?bl ?x_Ended ?x_Value ?x_Giver ?x_Walker
  (case fn=>(repeat (apply L2.Ev.hl_cons;(case a=>k_is);(case l=>k_is);(case c=>k_is);(case k=>k_is)));exact trivial)
  (case gl=>(repeat (apply L2.Ev.gl_cons;(case a=>k_is);(case b=>kernel_rfl)));exact trivial)
  (case tl=>(repeat (apply L2.Ev.tb_cons;(case a=>k_is);(case b=>kernel_rfl)));exact trivial)
  (case bl=>(repeat (apply L2.Ev.nl_cons;(case a=>k_is)));exact trivial)
  (case x_Ended=>(refine' ⟨_,_,L2.Ev.xc_mk ?a ?l ?t ?ini ?fl ?fn ?fc ?fk ?ga ?gn ?cl ?sg ?tk ?ob ?be ?is ?kp ?tyC ?sa ?ov ?hdc ?hh ?me,?n0,trivial⟩;(case a=>k_is);(case l=>k_is);(case t=>kernel_rfl);(case ini=>k_is);(case fl=>k_is);(case fn=>k_is);(case fc=>k_is);(case fk=>k_is);(case ga=>k_is);(case gn=>k_is);(case cl=>k_is);(case sg=>k_is);(case tk=>k_is);(case ob=>k_is);(case be=>k_is);(case is=>kernel_rfl);(case kp=>k_is);(case tyC=>k_is);(case sa=>k_is);(case ov=>kernel_rfl);(case hdc=>kernel_rfl);(case hh=>k_is);(case me=>k_is);(case n0=>k_is)))
  (case x_Value=>(refine' ⟨_,_,L2.Ev.cc_mk ?a ?pg ?hd ?po ?sa ?mk ?kp,⟨?n0,?n1,?n2,?n3,trivial⟩,L2.Ev.me_mk ?at0 ?fl0 ?fn0 ?fc0 ?fk0⟩;(case a=>k_is);(case pg=>k_is);(case hd=>k_is);(case po=>k_is);(case sa=>k_is);(case mk=>k_is);(case kp=>k_is);(case n0=>k_is);(case n1=>k_is);(case n2=>k_is);(case n3=>k_is);(case at0=>k_is);(case fl0=>k_is);(case fn0=>k_is);(case fc0=>k_is);(case fk0=>k_is)))
  (case x_Giver=>(refine' ⟨_,_,_,_,L2.Ev.cc_mk ?a ?pg ?hd ?po ?sa ?mk ?kp,⟨?n0,?n1,?n2,trivial⟩,L2.Ev.me_mk ?at0 ?fl0 ?fn0 ?fc0 ?fk0,L2.Ev.me_mk ?at1 ?fl1 ?fn1 ?fc1 ?fk1,L2.Ev.me_mk ?at2 ?fl2 ?fn2 ?fc2 ?fk2⟩;(case a=>k_is);(case pg=>k_is);(case hd=>k_is);(case po=>k_is);(case sa=>k_is);(case mk=>k_is);(case kp=>k_is);(case n0=>k_is);(case n1=>k_is);(case n2=>k_is);(case at0=>k_is);(case fl0=>k_is);(case fn0=>k_is);(case fc0=>k_is);(case fk0=>k_is);(case at1=>k_is);(case fl1=>k_is);(case fn1=>k_is);(case fc1=>k_is);(case fk1=>k_is);(case at2=>k_is);(case fl2=>k_is);(case fn2=>k_is);(case fc2=>k_is);(case fk2=>k_is)))
  (case x_Walker=>(refine' ⟨_,_,_,_,_,L2.Ev.cc_mk ?a ?pg ?hd ?po ?sa ?mk ?kp,⟨?n0,?n1,?n2,trivial⟩,L2.Ev.me_mk ?at0 ?fl0 ?fn0 ?fc0 ?fk0,L2.Ev.me_mk ?at1 ?fl1 ?fn1 ?fc1 ?fk1,L2.Ev.me_mk ?at2 ?fl2 ?fn2 ?fc2 ?fk2,L2.Ev.me_mk ?at3 ?fl3 ?fn3 ?fc3 ?fk3⟩;(case a=>k_is);(case pg=>k_is);(case hd=>k_is);(case po=>k_is);(case sa=>k_is);(case mk=>k_is);(case kp=>k_is);(case n0=>k_is);(case n1=>k_is);(case n2=>k_is);(case at0=>k_is);(case fl0=>k_is);(case fn0=>k_is);(case fc0=>k_is);(case fk0=>k_is);(case at1=>k_is);(case fl1=>k_is);(case fn1=>k_is);(case fc1=>k_is);(case fk1=>k_is);(case at2=>k_is);(case fl2=>k_is);(case fn2=>k_is);(case fc2=>k_is);(case fk2=>k_is);(case at3=>k_is);(case fl3=>k_is);(case fn3=>k_is);(case fc3=>k_is);(case fk3=>k_is)))
end
