import PyProof.Rows.All
import Wide.All
import OpenK.AllK
import Wide.FinOn
import Lean
import PyProof.EqAt
import PyProof.EqKinds
import PyProof.TupleCall
import PyProof.ListMulRoad
import KE.KDictOf
import KE.KEqDict
import PyProof.DictTruth
import KE.LcSums
import PyProof.StrWalks
import PyProof.FString4
import KE.KTabLook
import PyProof.Rows.ZipGen
import PyProof.MaxThree
import PyProof.ConsumeWalk
import PySem.Challenge.RW_blamewise_k41_looks_told
open PySem PySem.Spec PyProof.Rows
set_option compiler.extract_closed false
noncomputable section
local macro_rules|`($d:declaration)=>do let r:=d.raw;let k:=r[1].getKind;if (k==`Lean.Parser.Command.definition||k==`Lean.Parser.Command.abbrev)&&r[0][4].getNumArgs==0 then return r.setArg 0 (r[0].setArg 4 (Lean.mkNullNode #[Lean.mkNode `Lean.Parser.Command.noncomputable #[Lean.mkAtom "noncomputable"]])) else Lean.Macro.throwUnsupported
set_option hygiene false
local macro_rules|`($a<|>$b)=>`(A $a $b)
abbrev Fg:=PySem.W.Frag
abbrev NK:=List (Str×NameKind)
set_option Elab.async false
set_option linter.all false
set_option maxRecDepth 100000
set_option maxHeartbeats 8000000
set_option Elab.async false
set_option linter.all false
set_option maxRecDepth 100000
namespace L2
abbrev Key:=Sum Int Str
def iU:Key→Value→Bool
 | .inl k,v=>Value.isInt k v
 | .inr x,v=>Value.isStrOf x v
def Bs (w:World):Key→Int
 | .inl k=>hashInt k
 | .inr x=>hashStr w x
theorem aG:∀ {k} {v},iU k v=true→(∃ i t,k=Sum.inl i∧v=Value.int i t)∨(∃ x t,k=Sum.inr x∧v=Value.str x t)
 | .inl i,v,h=>by
   obtain ⟨t,e⟩:=Value.isInt_shape (k:=i) (v:=v) h
   exact .inl ⟨i,t,rfl,e⟩
 | .inr x,v,h=>by
   obtain ⟨t,e⟩:=Value.isStrOf_shape (x:=x) (v:=v) h
   exact .inr ⟨x,t,rfl,e⟩
theorem pF (i) (t):iU (.inl i) (.int i t)=true:=by simp [iU,Value.isInt]
theorem pH (x) (t):iU (.inr x) (.str x t)=true:=by simp [iU,Value.isStrOf]
theorem xg (a b):decide ((Sum.inl a:Key)=Sum.inl b)=(a == b):=by
 by_cases e:a=b
 ·subst e;simp
 ·have h:¬ (Sum.inl a:Key)=Sum.inl b:=fun q=>e (Sum.inl.inj q)
  rw [decide_eq_false h]
  exact (beq_eq_false_iff_ne.mpr e).symm
theorem xj (a b):decide ((Sum.inr a:Key)=Sum.inr b)=decide (a=b):=by
 by_cases e:a=b
 ·subst e;simp
 ·have h:¬ (Sum.inr a:Key)=Sum.inr b:=fun q=>e (Sum.inr.inj q)
  rw [decide_eq_false h,decide_eq_false e]
theorem xh (a) (b):decide ((Sum.inl a:Key)=Sum.inr b)=false:=decide_eq_false (fun q=>nomatch q)
theorem xi (a) (b):decide ((Sum.inr a:Key)=Sum.inl b)=false:=decide_eq_false (fun q=>nomatch q)
def bD (prog:Program) (w:World):PySem.KeyKind prog w Key where
 is:=iU
 hash:=Bs w
 inj:=fun v a b ha hb=>by
  rcases aG ha with ⟨i,t,rfl,rfl⟩ | ⟨x,t,rfl,rfl⟩
  ·rcases aG hb with ⟨j,u,rfl,e⟩ | ⟨y,u,rfl,e⟩
   ·injection e with e1 _;rw [e1]
   ·exact nomatch e
  ·rcases aG hb with ⟨j,u,rfl,e⟩ | ⟨y,u,rfl,e⟩
   ·exact nomatch e
   ·injection e with e1 _;rw [e1]
 byValue:=fun k v h=>by
  rcases aG h with ⟨i,t,rfl,rfl⟩ | ⟨x,t,rfl,rfl⟩ <;> rfl
 pyHash:=fun hv h=>by
  rcases aG hv with ⟨i,t,rfl,rfl⟩ | ⟨x,t,rfl,rfl⟩
  ·exact wpAny_pyHash_int h
  ·exact wpAny_pyHash_str h
 eqBool:=fun hu hv h=>by
  rcases aG hu with ⟨i,t,rfl,rfl⟩ | ⟨x,t,rfl,rfl⟩
  ·rcases aG hv with ⟨j,u,rfl,rfl⟩ | ⟨y,u,rfl,rfl⟩
   ·rw [xg] at h;exact wpAny_eqBool_int h
   ·rw [xh] at h;exact SeqAt.EqAt.int_str i t y u _ _ _ _ h
  ·rcases aG hv with ⟨j,u,rfl,rfl⟩ | ⟨y,u,rfl,rfl⟩
   ·rw [xi] at h;exact SeqAt.EqAt.str_int x t j u _ _ _ _ h
   ·rw [xj] at h;exact wpAny_eqBool_str h
 «strs»:=fun k x t v h=>by
  rcases aG h with ⟨i,u,rfl,e⟩ | ⟨y,u,rfl,e⟩
  ·exact nomatch e
  ·injection e with e1 _
   subst e1
   cases v <;> rfl
theorem kX (prog) (w) (i) (t):(bD prog w).is (.inl i) (.int i t)=true:=pF i t
theorem kY (prog) (w) (x) (t):(bD prog w).is (.inr x) (.str x t)=true:=pH x t
end L2
namespace L2
structure Mod (K:Fg) (mg:Str→Option Value) (base:Heap):Prop where
 kin:K.In base
 glob:base.Ns mainGlobals mg
 blt:∃ mb,base.Ns builtinsNs mb∧∀ x:Str,x≠"__name__"→mb x=bootBuiltins x
 nolimit:base.NoLimit
def frs (l:List Env):List Addr:=l.filterMap (·.frame)
def Vis (sc:Scope) (x:Str):Prop:=sc.names.lookup x=some .local∨sc.names.lookup x=some .cell∨sc.names.lookup x=some .free
def Loc (sc:Scope) (x:Str):Prop:=sc.names.lookup x=some .local∨sc.names.lookup x=some .cell
def lT (env:Env) (h:Heap) (m:Str→Option Value) (x:Str) (u:Value):Prop:=
 (env.kindOf x=some .local∧m x=some u)∨((env.kindOf x=some .cell∨env.kindOf x=some .free)∧∃ c,env.cells.lookup x=some c∧h.IsCell c (some u))
section
variable {X:Cx} {pins:List (Addr×Obj)} {σ:List (Option V)} {H H':Hp} {s:Shared} {h':Heap}
theorem gR {N:List Str} (hN:N.Nodup) {i j:Nat} {x:Str} (a:N[i]? = some x) (b:N[j]? = some x):i=j:=by
 obtain ⟨h1,e1⟩:=List.getElem?_eq_some_iff.mp a
 obtain ⟨h2,e2⟩:=List.getElem?_eq_some_iff.mp b
 exact (List.getElem_inj hN).mp (e1.trans e2.symm)
end
theorem thn (h:wpAny M A t Q E s) (hQ:∀ a s,Q a s→Q' a s):wpAny M A t Q' E s:=wpAny_mono h hQ fun _ _ x=>x
end L2
namespace L2
theorem ku (ho:s.heap.get? it=some o) (hc:o.cls = .type n) (hd:o.data = .fields vs)
 (hn:["enumerate","zip","dict_itemiterator","dict_reverseitemiterator","odict_iterator","itertools.zip_longest","itertools.pairwise"].contains n=false) (hQ:Q () s):wpAny M A (letOwnedTupleGo tg (.ref it) u) Q E s:=by
 unfold letOwnedTupleGo
 cases tg <;> first
  | exact wpAny_pure hQ
  | (cases u <;> first
   | exact wpAny_pure hQ
   | (refine wpAny_bind (wpAny_load ho ?_)
      rw [hc,hd]
      show wpAny M A (if (["enumerate","zip","dict_itemiterator","dict_reverseitemiterator","odict_iterator","itertools.zip_longest","itertools.pairwise"].contains n && vs[0]? == some (rawInt _))=true then _ else _) Q E s
      rw [if_neg (by intro h;rw [hn,Bool.false_and] at h;cases h)]
      exact wpAny_pure hQ))
end L2
namespace L2
section
variable {X:Cx} {a b c:Expr} {ta tb tc:TE} {pos:Pos}
def wC (i j:Int):Prop:=(-(2 ^ 64)<i∧i<2 ^ 64)∨(-(2 ^ 64)<j∧j<2 ^ 64)
theorem wC.ok (h:wC i j):IntMulOk i j:=by
 rcases h with ⟨h1,h2⟩ | ⟨h1,h2⟩
 ·exact .of_left (intBits_le_64 h1 h2)
 ·exact .of_right (intBits_le_64 h1 h2)
end
section
variable {X:Cx} {a b c:Expr} {ta tb tc:TE} {pos:Pos}
theorem jH:(sizeLine:Nat)<2 ^ 63:=by rw [sizeLine_eq];decide
end
end L2
namespace L2
structure lU (h:Heap) (x dx C:Addr) (mA:Str→Option Value):Prop where
 obj:h.get? x=some (PySem.W.instObj C dx)
 ns:h.Ns1 dx mA
 ne:dx≠x
theorem iX {h:Heap} {dx:Addr} {mA:Str→Option Value} (n:h.Ns1 dx mA):∃ od,h.get? dx=some od∧∀ name,PySem.W.lookIn name od=some (mA name):=by
 obtain ⟨o,es,ep,ho,hd,hk,_,hm⟩:=n
 refine ⟨o,ho,fun name=>?_⟩
 have e:=hm name
 unfold nsFind findBy at e
 rw [← Array.find?_toList] at e
 unfold PySem.W.lookIn
 rw [hd]
 dsimp only
 split
 ·rename_i y q
  rw [q] at e
  exact congrArg some e
 ·rename_i q
  rw [q] at e
  have a:es.toList.any (·.refKey)=false:=by
   rw [List.any_eq_false]
   intro y hy
   obtain ⟨z,t,hkey⟩:=hk y (Array.mem_toList_iff.mp hy)
   simp [DictEntry.refKey,hkey]
  have a':¬ es.toList.any (·.refKey)=true:=by rw [a];exact Bool.false_ne_true
  rw [if_neg a']
  exact congrArg some e
theorem lU.look (I:lU h x dx C mA):∃ od,PySem.W.InstAt h x (PySem.W.instObj C dx) C (some od)∧∀ name,PySem.W.lookIn name od=some (mA name):=
 let ⟨od,ho,hl⟩:=iX I.ns
 ⟨od,⟨I.obj,rfl,rfl,ho⟩,hl⟩
section
variable {prog:Program} {w:World} {A:Around} {E:Value→Shared→Prop} {s:Shared} {K:Fg} {x dx C f:Addr} {mA:Str→Option Value} {name:Str} {v:Value}
theorem t8 (X:K.In s.heap) (I:lU s.heap x dx C mA) (hg:PySem.W.plainGet K C name=true) (hh:PySem.W.hasDictIn K C=true)
 (ha:PySem.W.findIn K (.ref C) name=some none) (hv:mA name=some v) (hv':PySem.W.handedIn v=true) (h:Q v { s with toks:=s.toks+1 }) :
 wpAny (model prog w) A (getAttr (.ref x) name expr) Q E s:=by
 obtain ⟨od,J,hl⟩:=I.look
 exact PySem.W.get_value X J (PySem.W.plainGet_of hg).1 (PySem.W.findObj_own hh ha rfl (by rw [hl,hv])) hv' h
theorem qR (X:K.In s.heap) (I:lU s.heap x dx C mA) (hg:PySem.W.plainGet K C name=true)
 (hf:PySem.W.findIn K (.ref C) name=some (some (.ref f))) (ht:PySem.W.isFn K (.ref f)=true) (hv:mA name=none) (h:Q (.ref f,[.ref x]) s) :
 wpAny (model prog w) A (getMethod (.ref x) name pl) Q E s:=by
 obtain ⟨od,J,hl⟩:=I.look
 exact PySem.W.method_fn X J (PySem.W.plainGet_of hg).1 (PySem.W.plainGet_of hg).2 hf (beq_iff_eq.mp ht) (by show (PySem.W.lookIn name od).map (·.isSome)=some false;rw [hl,hv];rfl) h
theorem vn (X:K.In s.heap) (I:lU s.heap x dx C mA)
 (hs:PySem.W.findIn K (.ref C) "__setattr__" = some (some (.builtin "object.__setattr__"))) (hp:PySem.W.plainOver K C=true) (ht:PySem.W.takerIn K C name=some none) (hh:PySem.W.hasDictIn K C=true)
 (hw:PySem.Within mA ns) (hsz:ns.length≤sizeLine)
 (h:∀ h',lU h' x dx C (fun y=>if y=name then some v else mA y)→Heap.SameBut dx s.heap h'→Q () { s with heap:=h',toks:=s.toks+2 }) :
 wpAny (model prog w) A (setAttr (.ref x) name v) Q E s:=by
 obtain ⟨od,J,hl⟩:=I.look
 refine PySem.W.set_plain X J hs (PySem.W.osa_open (s:={ s with toks:=s.toks+1 }) (r:=none) X J hp ht fun b=>?_)
 obtain ⟨cd,hc,hd'⟩:=PySem.W.any_some hh
 have hx:s.heap.get? x=some ⟨.ref C,some dx,.plain,#[]⟩:=I.obj
 refine wpAny_bind (wpAny_pure (wpAny_bind (wpAny_bind (wpAny_loadPart hx (wpAny_bind (PySem.W.Looks.here (s:={ s with toks:=s.toks+1 }) (PySem.W.looks_clsIn X hc) ?_))))))
 rw [hd']
 refine wpAny_pure (a:=some dx) (wpAny_bind (wpAny_pure (wpAny_bind ?_)))
 refine wpAny_nsSet1 (s:={ s with toks:=s.toks+1 }) I.ns fun h' hn2 hs2=>?_
 obtain ⟨oD,esD,epD,hoD,hdD,hcD⟩:=hn2.count (PySem.Within.cons name v hw)
 refine wpAny_bind (wpAny_lookBehind hoD (by rw [hdD];exact pastItsLine_dict (Nat.le_trans hcD (by rw [List.length_cons];omega))) ?_)
 exact wpAny_pure (h _ ⟨(hs2.2 _ (Ne.symm I.ne)).trans I.obj,hn2,I.ne⟩ hs2)
theorem rX (X:K.In s.heap) (hm:PySem.W.makesIn K C=true)
 (hi:PySem.W.findIn K (.ref C) "__init__" = some (some (.ref f))) (hf:PySem.W.typeIn K (.ref f)=some (.type "function"))
 (h:codeAny (model prog w) (A.under (.builtin "type.__call__" ⟨.ref C :: vs,kw⟩)) (.call (.ref f) ⟨.ref (s.heap.objs.size+1) :: vs,kw⟩) (PySem.W.InitBack (s.heap.objs.size+1) R)
  { s with heap:=(s.heap.push PySem.W.emptyDict).push (PySem.W.instObj C s.heap.objs.size) }) :
 codeAny (model prog w) A (.call (.ref C) ⟨vs,kw⟩) R s:=by
 obtain ⟨hh,g,d,t,os⟩:=s
 exact PySem.W.make_core (PySem.W.makes_of X hm) (PySem.W.looks_findIn X hi) (fun self=>PySem.W.bind_fn X self hf) (.inl rfl) h
end
structure Cls (K:Fg) (C:Addr):Prop where
 pg:PySem.W.plainGet K C Str.empty=true
 hd:PySem.W.hasDictIn K C=true
 po:PySem.W.plainOver K C=true
 sa:PySem.W.findIn K (.ref C) "__setattr__" = some (some (.builtin "object.__setattr__"))
theorem Cls.get {K:Fg} {C:Addr} (c:Cls K C) (f:Str):PySem.W.plainGet K C f=true:=c.pg
def cZ (K:Fg) (C:Addr) (f:Str):Prop:=PySem.W.findIn K (.ref C) f=some none
theorem cZ.taker {K:Fg} {C:Addr} {f:Str} (n:cZ K C f):PySem.W.takerIn K C f=some none:=by
 unfold PySem.W.takerIn
 rw [show PySem.W.findIn K (.ref C) f=some none from n]
 rfl
structure yW (K:Fg) (C:Addr) (m:Str) (f:Addr):Prop where
 at_:PySem.W.findIn K (.ref C) m=some (some (.ref f))
 fn:PySem.W.isFn K (.ref f)=true
 kp:PySem.W.keepIn K (.ref f)=true
section
variable {X:Cx} {pins:List (Addr×Obj)} {σ:St} {H:Hp} {s:Shared} {a C dx:Addr} {fs:List (Str×V)} {f:Str} {v:V} {A:Around} {E:Value→Shared→Prop}
theorem tF (hb:attributeBase e f env (eval e env)=eval e env)
 (h:wpAny (model prog w) A (eval e env) (fun o s₁=>wpAny (model prog w) A (getAttr o f true) Q E s₁) E s):wpAny (model prog w) A (eval (.Attribute e f pos) env) Q E s:=
 Attribute_any_ h (by rw [arm_eval_Attribute,hb])
end
end L2
namespace L2
structure bc (k:Nat) (A:Around):Prop where
 hd:A.handled=none
 dp:A.depth+k+5<recursionLimit
 un:A.units+16 * k+200<cLine
theorem bc.mono (r:bc k A) (h:j≤k):bc j A:=⟨r.hd,by have:=r.dp;omega,by have:=r.un;omega⟩
theorem bc.deeper (r:bc (k+1) A) (env):bc k (A.deeper env):=
 ⟨r.hd,by have:=r.dp;show A.depth+1+k+5<_;omega,by have:=r.un;show A.units+3+16 * k+200<_;omega⟩
theorem mC {A:Around} {C:Addr} {us:List Value} {kw:List (Str×Value)}:(A.under (.builtin "type.__call__" ⟨.ref C :: us,kw⟩)).depth=A.depth+1:=by
 first | rfl | simp [Around.under,Code.weight,Code.isCreation,Code.isGuard,Code.isCaller,Code.frames,Code.isFrame,guardIds]
theorem mD {A:Around} {C:Addr} {us:List Value} {kw:List (Str×Value)}:(A.under (.builtin "type.__call__" ⟨.ref C :: us,kw⟩)).units=A.units+1:=by
 first | rfl | simp [Around.under,Code.cUnits,Code.frames,Code.isFrame]
theorem bc.make (r:bc (k+1) A) (C) (us) (kw):bc k (A.under (.builtin "type.__call__" ⟨.ref C :: us,kw⟩)):=
 ⟨r.hd,by have:=r.dp;rw [mC];omega,by have:=r.un;rw [mD];omega⟩
theorem bc.depth (r:bc k A):A.depth<recursionLimit:=by have:=r.dp;omega
def b6 (K:Fg) (fd:FuncData) (ps:List Str) (ds:List Value):Prop:=
 ∀ (s:Shared) (us:List Value),K.In s.heap→(us ++ ds).length=ps.length→BindsTo s fd ⟨us,[]⟩ (ps.zip (us ++ ds))
theorem b6.all {K:Fg} {fd:FuncData} {ps:List Str} (h:∀ us:List Value,us.length=ps.length→bindArgs fd ⟨us,[]⟩=pure (ps.zip us)):b6 K fd ps []:=fun s us _ hl=>by
 rw [List.append_nil] at hl ⊢
 exact .of_eq (h us hl)
section
variable {X:Cx} {CX:CXT} {k:Nat} {f C:Addr} {fd:FuncData} {ps:List Str} {sp:Sp} {dvs:List V} {ds:List Value} {E:XK} {x m:Str} {p pos apos:Pos} {e o:Expr} {es:List Expr} {ta:TE} {t:TA}
structure Mk (K:Fg) (C f:Addr):Prop where
 makes:PySem.W.makesIn K C=true
 init:PySem.W.findIn K (.ref C) "__init__" = some (some (.ref f))
 fn:PySem.W.isFn K (.ref f)=true
 kp:PySem.W.keepIn K (.ref C)=true
end
structure dy (N P:List Str) (sc:Scope):Prop where
 kind:sc.kind = .function
 co:sc.isCoroutine=false
 gen:sc.isGenerator=false
 nd:N.Nodup
 pre:N.take P.length=P
 par:∀ x∈P,sc.names.lookup x=some .local∨sc.names.lookup x=some .cell
 nofree:∀ y∈sc.names,y.2≠.free
theorem iJ {kindOf:Str→Option NameKind} {x:Str}:∀ {binds:List (Str×Value)} {m:Str→Option Value},(∀ v,(x,v) ∉ binds)→bindL kindOf binds m x=m x
 | [],_,_=>rfl
 | (n,v) :: r,m,h=>by
   unfold bindL
   rw [iJ fun w hw=>h w (List.mem_cons_of_mem _ hw)]
   split
   ·have:x≠n:=by rintro rfl;exact h v List.mem_cons_self
    simp [this]
   ·rfl
theorem iH {kindOf:Str→Option NameKind} {x:Str}:∀ {binds:List (Str×Value)} {m:Str→Option Value},(∀ v,(x,v) ∉ binds)→bindC kindOf binds m x=m x
 | [],_,_=>rfl
 | (n,v) :: r,m,h=>by
   unfold bindC
   rw [iH fun w hw=>h w (List.mem_cons_of_mem _ hw)]
   split
   ·rfl
   ·have:x≠n:=by rintro rfl;exact h v List.mem_cons_self
    simp [this]
theorem iI {kindOf:Str→Option NameKind} {x:Str} {v:Value}:∀ {P:List Str} {vs:List Value} {i:Nat} {m:Str→Option Value},P.Nodup→P[i]? = some x→vs[i]? = some v→kindOf x=some .local →
 bindL kindOf (P.zip vs) m x=some v
 | [],_,_,_,_,h,_,_=>by simp at h
 | _ :: _,[],_,_,_,_,h,_=>by simp at h
 | p :: P,w :: vs,0,m,nd,h1,h2,hk=>by
   simp at h1 h2;subst h1;subst h2
   show bindL kindOf ((p,w) :: P.zip vs) m p=_
   unfold bindL
   rw [iJ fun v hv=>(List.nodup_cons.mp nd).1 (List.of_mem_zip hv).1,if_pos hk]
   simp
 | p :: P,w :: vs,i+1,m,nd,h1,h2,hk=>by
   show bindL kindOf ((p,w) :: P.zip vs) m x=_
   unfold bindL
   exact iI (i:=i) (List.nodup_cons.mp nd).2 (by simpa using h1) (by simpa using h2) hk
theorem iG {kindOf:Str→Option NameKind} {x:Str} {v:Value}:∀ {P:List Str} {vs:List Value} {i:Nat} {m:Str→Option Value},P.Nodup→P[i]? = some x→vs[i]? = some v→kindOf x≠some .local →
 bindC kindOf (P.zip vs) m x=some v
 | [],_,_,_,_,h,_,_=>by simp at h
 | _ :: _,[],_,_,_,_,h,_=>by simp at h
 | p :: P,w :: vs,0,m,nd,h1,h2,hk=>by
   simp at h1 h2;subst h1;subst h2
   show bindC kindOf ((p,w) :: P.zip vs) m p=_
   unfold bindC
   rw [iH fun v hv=>(List.nodup_cons.mp nd).1 (List.of_mem_zip hv).1,if_neg hk]
   simp
 | p :: P,w :: vs,i+1,m,nd,h1,h2,hk=>by
   show bindC kindOf ((p,w) :: P.zip vs) m x=_
   unfold bindC
   exact iG (i:=i) (List.nodup_cons.mp nd).2 (by simpa using h1) (by simpa using h2) hk
theorem kg {sc:Scope} {n:Nat} {x:Str} (h:sc.names.lookup x=some .cell):∃ c,(cellsFrom n sc.names []).lookup x=some c:=by
 have q:=PySem.W.cellsFrom_some sc.names n [] (.inl h)
 exact Option.isSome_iff_exists.mp q
end L2
namespace HT
open PySem PyProof.Rows
section
variable {prog:Program} {w:World} {A:Around} {E:Value→Shared→Prop} {s:Shared}
theorem cat_tup (ht:IsTup s.heap t vs.toArray) (hb:IsTup s.heap b ws.toArray) (hv:vs≠[])
 (h1:ws = []→Q (.ref t) s) (h2:ws≠[]→Q (.ref s.heap.objs.size) { s with heap:=s.heap.push { cls:=.type "tuple",data:=.seq (vs ++ ws).toArray } })
 (hsz:vs.length+ws.length≤sizeLine):wpAny (model prog w) A (binaryOp .Add (.ref t) (.ref b)) Q E s:=by
 obtain ⟨⟨cls,dd,data,sl⟩,ho,hc,n,hd⟩:=id ht
 obtain ⟨⟨cls2,dd2,data2,sl2⟩,ho2,hc2,n2,hd2⟩:=id hb
 simp only at hc hd hc2 hd2
 subst hc hd hc2 hd2
 have e:vs.toArray ++ ws.toArray=(vs ++ ws).toArray:=by simp
 by_cases hw:ws = []
 ·exact concat_meets ⟨_,ho,rfl⟩ ⟨_,ho2,rfl⟩ noFill_tuple_add seq_tuple_add PySem.F.slot_tuple_add PySem.F.entry_tuple_add (PySem.F.args_tuple_add_2 _ _)
   (tuple_addW1 t b vs.toArray ws.toArray n n2 dd dd2 sl sl2 (by simpa using hv) (by simp [hw])) ⟨ho,ho2,h1 hw⟩
 ·refine concat_meets ⟨_,ho,rfl⟩ ⟨_,ho2,rfl⟩ noFill_tuple_add seq_tuple_add PySem.F.slot_tuple_add PySem.F.entry_tuple_add (PySem.F.args_tuple_add_2 _ _)
   (tuple_addW2 t b vs.toArray ws.toArray n n2 dd dd2 sl sl2 (by simpa using hv) (by simpa using hw) (by rw [List.size_toArray,List.size_toArray];exact hsz)) ⟨ho,ho2,?_⟩
  rw [e]
  exact h2 hw
def sIx (n d:Nat):Option Int→Nat
 | none=>d
 | some v=>if v<0 then (v+(n:Int)).toNat else min v.toNat n
theorem yA (n d) (hd:d≤n) (o):sIx n d o≤n:=by
 cases o with
 | none=>exact hd
 | some v=>
   show (if v<0 then (v+(n:Int)).toNat else min v.toNat n)≤n
   by_cases hv:v<0
   ·rw [if_pos hv];omega
   ·rw [if_neg hv];exact Nat.min_le_right _ _
theorem mW (v:Int) (n d:Nat):(if v<0 then max (v+(n:Int)) 0 else min v (n:Int))=((sIx n d (some v):Nat):Int):=by
 show (if v<0 then max (v+(n:Int)) 0 else min v (n:Int))=(((if v<0 then (v+(n:Int)).toNat else min v.toNat n):Nat):Int)
 by_cases hv:v<0
 ·simp only [if_pos hv];omega
 ·simp only [if_neg hv];omega
theorem lW (lo hi:Option Int) (n:Nat):Builtin.Slice.sliceAdjust lo hi 1 (n:Int)=(((sIx n 0 lo:Nat):Int),((sIx n n hi:Nat):Int)):=by
 have h1:¬ ((1:Int)<0):=by omega
 unfold Builtin.Slice.sliceAdjust
 simp only [h1,if_false]
 refine Prod.ext ?_ ?_
 ·cases lo with
  | none=>rfl
  | some v=>exact mW v n 0
 ·cases hi with
  | none=>rfl
  | some v=>exact mW v n n
theorem mJ (i j:Nat):Builtin.Slice.slicePlaces (i:Int) (j:Int) 1=j - i:=by
 unfold Builtin.Slice.slicePlaces
 have h1:(1:Int)>0:=by omega
 simp only [h1,if_true,Int.ediv_one]
 split <;> omega
theorem hU (p:IsPart v o) (h:Q o s):wpAny (model prog w) A (Builtin.Slice.slicePartIndex v) Q E s:=by
 cases p with
 | none=>exact slicePart_none h
 | int i t=>exact slicePart_int h
theorem cI {sl:Addr} {vl vu:Value} {lo hi:Option Int} {n:Nat} {Q:Int×Int×Nat→Shared→Prop} (hs:s.heap.IsSliceOf sl vl vu .none) (pl:IsPart vl lo) (pu:IsPart vu hi)
 (h:Q (((sIx n 0 lo:Nat):Int),1,sIx n n hi - sIx n 0 lo) s):wpAny (model prog w) A (Builtin.Slice.sliceApplied (.ref sl) (pure (n:Int))) Q E s:=by
 obtain ⟨os,hos,hcs,hds⟩:=id hs
 unfold Builtin.Slice.sliceApplied Builtin.Slice.sliceFields
 refine wpAny_bind (wpAny_bind (wpAny_field hos hds (x:=vl) rfl (wpAny_bind (wpAny_field hos hds (x:=vu) rfl (wpAny_bind (wpAny_field hos hds (x:=.none) rfl (wpAny_pure ?_)))))))
 refine wpAny_bind (slicePart_none ?_)
 show wpAny _ _ (if ((1:Int) == 0)=true then _ else _) _ _ s
 rw [if_neg (by decide)]
 refine wpAny_bind (hU pl (wpAny_bind (hU pu (wpAny_bind (wpAny_pure ?_)))))
 show wpAny _ _ (match Builtin.Slice.sliceAdjust lo hi 1 (n:Int) with | (lo,hi)=>pure (lo,(1:Int),Builtin.Slice.slicePlaces lo hi 1)) _ _ s
 rw [lW lo hi n]
 show wpAny _ _ (pure (((sIx n 0 lo:Nat):Int),(1:Int),Builtin.Slice.slicePlaces ((sIx n 0 lo:Nat):Int) ((sIx n n hi:Nat):Int) 1)) _ _ s
 rw [mJ]
 exact wpAny_pure h
theorem sG (xs:Array Value) (i k:Nat):((List.range k).filterMap fun (m:Nat)=>xs[((i:Int)+(m:Int) * 1).toNat]?).toArray=((xs.toList.drop i).take k).toArray:=by
 have e:(fun (m:Nat)=>xs[((i:Int)+(m:Int) * 1).toNat]?)=fun m=>xs[i+m]?:=by
  funext m
  have:((i:Int)+(m:Int) * 1).toNat=i+m:=by omega
  rw [this]
 rw [e]
 have:=pick_run xs i k
 rw [List.filterMap_map] at this
 have e2:((fun x=>xs[x]?) ∘ fun x=>i+x)=fun m=>xs[i+m]?:=rfl
 rw [e2] at this
 rw [this]
theorem getItem_tuple_cut {t sl:Addr} {items:Array Value} {vl vu:Value} {lo hi:Option Int} {Q:Value→Shared→Prop} (ht:IsTup s.heap t items) (hs:s.heap.IsSliceOf sl vl vu .none) (pl:IsPart vl lo) (pu:IsPart vu hi)
 (hw:¬ (sIx items.size 0 lo=0∧sIx items.size items.size hi=items.size))
 (h:Q (.ref s.heap.objs.size) { s with heap:=s.heap.push { cls:=.type "tuple",data:=.seq ((items.toList.drop (sIx items.size 0 lo)).take (sIx items.size items.size hi - sIx items.size 0 lo)).toArray } })
 (hsz:items.size≤sizeLine):wpAny (model prog w) A (getItem (.ref t) (.ref sl)) Q E s:=by
 have htake:sizeOk (.seq ((items.toList.drop (sIx items.size 0 lo)).take (sIx items.size items.size hi - sIx items.size 0 lo)).toArray):=by
  show ((items.toList.drop (sIx items.size 0 lo)).take (sIx items.size items.size hi - sIx items.size 0 lo)).toArray.size≤sizeLine
  rw [List.size_toArray,List.length_take,List.length_drop,Array.length_toList]
  omega
 have hj:sIx items.size items.size hi≤items.size:=yA _ _ (Nat.le_refl _) hi
 obtain ⟨os,hos,hcs,hds⟩:=id hs
 have hTs:s.TypeIs (.ref sl) "slice":=⟨os,hos,hcs⟩
 unfold getItem
 try with_reducible refine wpAny_holding ?_
 first | refine wpAny_bind (wpAny_pure ?_) | skip
 refine wpAny_bind (wpAny_sequenceKey ht.typeIs (by decide) ?_)
 refine wpAny_bind (wpAny_callSpecial?_slot (name:=Str.ofString "__getitem__") ht.typeIs PyProof.Rows.slot_tuple_getitem
  (wpAny_call_entry PyProof.Rows.slot_tuple_getitem ht.typeIs entry_tuple_getitem ?_ (args_tuple_getitem _ _)))
 show wpAny _ _ (Builtin.Tuple.tupleItemsOf (.ref t) >>= _) _ _ s
 refine wpAny_bind (tupleItemsOf_ ht ?_)
 refine wpAny_bind (wpAny_typeOf hTs ?_)
 rw [if_pos (by decide)]
 refine wpAny_bind (cI hs pl pu ?_)
 have hno:¬ ((((sIx items.size 0 lo:Nat):Int) == 0 && (1:Int) == 1 && (sIx items.size items.size hi - sIx items.size 0 lo) == items.size)=true):=by
  intro q
  rw [Bool.and_eq_true,Bool.and_eq_true] at q
  have q1:((sIx items.size 0 lo:Nat):Int)=0:=eq_of_beq q.1.1
  have q2:sIx items.size items.size hi - sIx items.size 0 lo=items.size:=eq_of_beq q.2
  exact hw ⟨by omega,by omega⟩
 show wpAny _ _ (if (((sIx items.size 0 lo:Nat):Int) == 0 && (1:Int) == 1 && (sIx items.size items.size hi - sIx items.size 0 lo) == items.size)=true then _ else _) _ _ s
 rw [if_neg hno,sG]
 first
  | exact wpAny_bind (m:=Builtin.Tuple.tupleExact _) (wpAny_newObj_type (wpAny_pure ⟨_,rfl,wpAny_pure h⟩) htake)
  | exact wpAny_bind (m:=Builtin.Tuple.tupleExact _) (wpAny_newObj_type (wpAny_bind (wpAny_pure (wpAny_pure ⟨_,rfl,wpAny_pure h⟩))) htake)
  | exact wpAny_bind (wpAny_bind (m:=Builtin.Tuple.tupleExact _) (wpAny_newObj_type (wpAny_pure (wpAny_pure ⟨_,rfl,wpAny_pure h⟩)) htake))
  | exact wpAny_bind (wpAny_bind (m:=Builtin.Tuple.tupleExact _) (wpAny_newObj_type (wpAny_pure ⟨_,rfl,wpAny_pure h⟩) htake))
end
end HT
namespace L2
def ixN (n:Nat) (i:Int):Option Nat:=if 0≤i then (if i<n then some i.toNat else none) else if -(n:Int)≤i then some (i+n).toNat else none
def atI {α:Type} (xs:List α) (i:Int):Option α:=(ixN xs.length i).bind fun j=>xs[j]?
theorem nF (h:ixN n i=some j):seqIndex? i n=some j∧j<n∧-(n:Int)≤i∧i<n:=by
 unfold ixN at h
 by_cases h0:0≤i
 ·rw [if_pos h0] at h
  by_cases h1:i<n
  ·rw [if_pos h1] at h
   have e:i.toNat=j:=Option.some.inj h
   exact ⟨by rw [seqIndex_of h0 h1,e],by omega,by omega,h1⟩
  ·rw [if_neg h1] at h;cases h
 ·rw [if_neg h0] at h
  by_cases h1:-(n:Int)≤i
  ·rw [if_pos h1] at h
   have e:(i+n).toNat=j:=Option.some.inj h
   exact ⟨by rw [seqIndex_neg (by omega) h1,e],by omega,h1,by omega⟩
  ·rw [if_neg h1] at h;cases h
theorem je (h:atI xs i=some v):∃ j,seqIndex? i xs.length=some j∧xs[j]? = some v∧j<xs.length∧-(xs.length:Int)≤i∧i<xs.length:=by
 unfold atI at h
 cases e:ixN xs.length i with
 | none=>rw [e] at h;cases h
 | some j=>
   rw [e] at h
   obtain ⟨h1,h2,h3,h4⟩:=nF e
   exact ⟨j,h1,h,h2,h3,h4⟩
theorem cK {α:Type} {xs:List α} {j:Nat} {v:α} (h:xs[j]? = some v):atI xs (j:Int)=some v:=by
 have hj:j<xs.length:=(List.getElem?_eq_some_iff.mp h).1
 have e:ixN xs.length (j:Int)=some j:=by
  unfold ixN
  rw [if_pos (by omega),if_pos (by omega)];simp
 unfold atI;rw [e];exact h
section
variable {X:Cx} {a b:Expr} {ta tb:TE} {pos:Pos}
theorem j4 (lo hi) (n):(sliceBounds lo hi none n).1=((HT.sIx n 0 lo:Nat):Int)∧(sliceBounds lo hi none n).2.1=((HT.sIx n n hi:Nat):Int)∧(sliceBounds lo hi none n).2.2=1:=by
 refine ⟨?_,?_,rfl⟩
 ·cases lo with
  | none=>simp [sliceBounds,HT.sIx]
  | some i=>
    simp only [sliceBounds,HT.sIx,Option.getD_none,show (1:Int)>0 by decide,if_true]
    by_cases h:i<0
    ·simp only [h,if_true] <;> omega
    ·simp only [h,if_false] <;> omega
 ·cases hi with
  | none=>simp [sliceBounds,HT.sIx]
  | some i=>
    simp only [sliceBounds,HT.sIx,Option.getD_none,show (1:Int)>0 by decide,if_true]
    by_cases h:i<0
    ·simp only [h,if_true] <;> omega
    ·simp only [h,if_false] <;> omega
theorem iD (its:List Value) (lo hi:Option Int):slicePick its.toArray lo hi none=((its.drop (HT.sIx its.length 0 lo)).take (HT.sIx its.length its.length hi - HT.sIx its.length 0 lo)).toArray:=by
 obtain ⟨h1,h2,h3⟩:=j4 lo hi its.toArray.size
 unfold slicePick
 rw [h1,h2,h3]
 simp only [sliceRange_one,pick_run,List.size_toArray] <;> rfl
variable {o e:Expr} {es:List Expr} {to:TE} {t:TA} {name:Str} {apos cpos:Pos} {T id:String} {r:V→List V→Hp→VK→Prop}
end
end L2
namespace Att
open PySem PySem.W PySem.Calls PyProof.Rows
theorem fB :∀ (ns) (vs),WellAll P h vs (ns.map WData.int)→IntsAre vs ns:=by
 intro ns
 induction ns with
 | nil=>
   intro vs w
   rw [List.map_nil] at w
   cases w
   exact .nil
 | cons n ns ih=>
   intro vs w
   rw [List.map_cons] at w
   cases w with
   | cons a b=>
     cases a
     exact .cons _ _ (ih _ b)
theorem pX {l:OpenLaw} {n:Nat} (hn:l.most=some n) {P:Params} {h:Heap} {args:List WData} {vals:List Value}
 (hpre:l.row.toRowW.claim.pre args=true) (hwl:WellAll P h vals args) :
 ∃ a vs ns,vals = [Value.ref a]∧args = [WData.list (ns.map WData.int)]∧h.get? a=some { cls:=.type "list",data:=.seq vs.toArray }∧IntsAre vs ns∧ns.length≤n:=by
 have hsh:WShape.hasAll [] args [.list .int]=true:=(pre_splitW hpre).1
 have hc:l.pre.holds [] { args:=args }=true:=(pre_splitW hpre).2
 obtain ⟨d,r,rfl,h1,h2⟩:=hasAllW_cons hsh
 obtain rfl:=hasAllW_nil h2
 obtain ⟨xs,rfl,h3⟩:=hasW_list h1
 obtain ⟨ns,rfl⟩:=items_int h3
 have hlen:ns.length≤n:=by
  unfold OpenLaw.pre at hc
  have h4:(WTm.not (.lt (.lit (.int (n:Int))) (.len (.arg 0)))).holds [] { args:=[.list (ns.map .int)] }=true:=by
   have h4:=(holds_andW hc).1
   rw [hn] at h4
   exact h4
  have h5:=condW_of h4 (w_not (w_lt w_lit (w_len_list (w_arg rfl))))
  rw [List.length_map] at h5
  refine Nat.le_of_not_lt fun q=>?_
  have q':(n:Int)<((ns.length:Nat):Int):=by omega
  first
   | (rw [decide_eq_true q'] at h5;exact absurd h5 (by decide))
   | (simp at h5;omega)
 cases hwl with
 | cons w1 w2=>
   cases w2
   cases w1 with
   | list ho hall=>exact ⟨_,_,ns,rfl,rfl,ho,fB ns _ hall,hlen⟩
theorem pS (l:OpenLaw) (args:List WData):l.row.toRowW.claim.post args (.bool true) args=true:=
 postW_of (r:=l.row.toRowW) (X:=(true == true))
  (show WShape.has [] (.bool true) .bool=true by first | rfl | decide | simp [WShape.has,WShape.arms,WShape.armsAll])
  (show (WTm.eq .res (.lit (.bool true))).value [] { args:=args,res:=some (.bool true),after:=args }=some (.bool (true == true)) from w_eq_bool (w_res rfl) w_lit) rfl
theorem attach_call {l:OpenLaw} {n:Nat} {q:Program} {loose:List Str} {XP:(Str→Option Value)→Heap→Prop} {YP:World→Heap→Prop} {d:DefRec}
 (hn:l.most=some n) (hdf:d.params.defaults = [])
 (call:∀ (w:World) (s₀ s₁:Shared) (mg mb:Str→Option Value) (fa:Addr) (o:Obj) (pm cd doc:Value) (a:Addr) (vs:List Value) (ns:List Int),
  Ground q loose [] XP w s₀ mg mb s₁.heap→YP w s₁.heap →
  s₁.heap.get? fa=some o→o.data = .func (docDef d.name d.params d.body d.scope pm cd doc)→s₁.heap.CodeRec cd d.name→mg d.name=some (.ref fa) →
  s₁.heap.get? a=some { cls:=.type "list",data:=.seq vs.toArray }→IntsAre vs ns→ns.length≤n→s₁.gens = #[] →
  codeAny (model l.prog w) callerA (.call (.ref fa) ⟨[.ref a],[]⟩) (fun r s'=>r = .ok (.ret (.bool true))∧OldK s₁.heap s'.heap∧s'.os=s₁.os∧AllBare s'.gens) s₁) :
 WalkO q loose XP YP l.row.toRowW d [] (fun f vs=>PySem.call f vs):=by
 intro w s₀ s₁ mg mb G Y fa o pm cd doc dV kV ho hd hcd hD hmg hg args vals as hpre hlay hrd hwl hlo
 obtain rfl:dV = .none:=Dflts.none hD hdf
 obtain rfl:kV = .none:=Dflts.noKw hD
 obtain ⟨a,vs,ns,rfl,rfl,hobj,hints,hlen⟩:=pX hn hpre hwl
 refine enter_call (codeAny_mono (call w s₀ s₁ mg mb fa o pm cd doc a vs ns G Y ho (fd_plain hd) hcd hmg hobj hints hlen hg) fun r s' hq=>?_)
 obtain ⟨rfl,h2,h3,h4⟩:=hq
 exact ⟨.inl ⟨.bool true,.bool true,[],rfl,fun _=>rfl,.bool true,pS l _,fun _=>⟨List.Pairwise.nil,fun _ hm=>(nomatch hm)⟩⟩,h2,h3,h4⟩
end Att
namespace L2
def bj (s:Stmt):Arguments:=match s with
 | .FunctionDef _ a _ _ _ _ _ _ _ _=>a
 | _=>{ posonlyargs:=[],args:=[],vararg:=none,kwonlyargs:=[],kw_defaults:=[],kwarg:=none,defaults:=[] }
def bX (s:Stmt):List Stmt:=match s with
 | .FunctionDef _ _ b _ _ _ _ _ _ _=>b
 | _=>[]
def au (s:Stmt):Scope:=match s with
 | .FunctionDef _ _ _ _ _ _ sc _ _ _=>sc
 | _=>{ kind:=.function,names:=[],isGenerator:=false,isCoroutine:=false }
structure Fun (K:Fg) (x qual:Str) (st:Stmt) (f:Addr) (fd:FuncData):Prop where
 ex:∃ (oc:Value) (od:Option Addr) (kV doc pm:Value) (an:Option Addr) (cdv ct:Value) (osl:Array (Option Value)),
  fd=PySem.W.fnOf x qual (bj st) (bX st) (au st) .none kV doc pm an cdv ct∧K.lookup f=some ⟨oc,od,.func fd,osl⟩∧PySem.W.codeIn K cdv qual=true
 kp:PySem.W.keepIn K (.ref f)=true
section
variable {P:Program} {w:World} {K:Fg} {mg:Str→Option Value} {base:Heap}
theorem Fun.binds {x qual:Str} {st:Stmt} {f:Addr} {fd:FuncData} {ps:List Str} (F:Fun K x qual st f fd)
 (h:∀ (kV doc pm:Value) (an:Option Addr) (cdv ct:Value) (us:List Value),us.length=ps.length→bindArgs (PySem.W.fnOf x qual (bj st) (bX st) (au st) .none kV doc pm an cdv ct) ⟨us,[]⟩=pure (ps.zip us)):b6 K fd ps []:=by
 obtain ⟨oc,od,kV,doc,pm,an,cdv,ct,osl,rfl,lk,hcd⟩:=F.ex
 exact .all (h kV doc pm an cdv ct)
theorem mh {x qual:Str} {st:Stmt} {f:Addr} {oc:Value} {od an:Option Addr} {osl:Array (Option Value)} {kV doc pm cdv ct:Value} (l:K.lookup f=some ⟨oc,od,.func (PySem.W.fnOf x qual (bj st) (bX st) (au st) .none kV doc pm an cdv ct),osl⟩)
 (c:PySem.W.codeIn K cdv qual=true) (k:PySem.W.keepIn K (.ref f)=true):Fun K x qual st f (PySem.W.fnOf x qual (bj st) (bX st) (au st) .none kV doc pm an cdv ct):=⟨⟨oc,od,kV,doc,pm,an,cdv,ct,osl,rfl,l,c⟩,k⟩
end
end L2
section
namespace L2.Bk
open PySem
inductive Dk where
 | non
 | int (i:Int)
 | bl (b:Bool)
 | str (x:Str)
 | tup (xs:List Dk)
def sumI:List Int→Int
 | []=>0
 | x :: r=>x+sumI r
end L2.Bk
namespace L2.Bw
def maxD (d:Int):List Int→Int
 | []=>d
 | x :: r=>r.foldl (fun a b=>if b>a then b else a) x
end L2.Bw
namespace L2.Ev
inductive D where
 | non | bl (b:Bool) | int (i:Int) | str (x:Str) | tup (l:List D) | lst (l:List D) | dic (k:List Key) (l:List D) | ins (c:Nat) (l:List D) | ref (n:Nat)
inductive O where
 | lst (l:List D) | dic (k:List Key) (l:List D) | ins (c:Nat) (l:List D)
inductive Op where
 | add | sub | mul | fdiv | mod | pow | shl | shr | band | bxor | eq | ne | lt | le | gt | ge | isin | notin
 deriving DecidableEq
inductive Bi where
 | len | tuple | list | all | max0 | sum | abs | str | int | range1 | range2 | zip2 | zip3 | enum | enum2 | rev | dict | max2 | min2 | isTup | isStr | isInt | isBool | isLst | isDic | isVal
 deriving DecidableEq
inductive E where
 | v (i:Nat) | c (d:D) | g (j:Nat) | op (o:Op) (a b:E) | isN (a:E) | isNN (a:E) | neg (a:E) | not (a:E) | and (a b:E) | or (a b:E) | ite (c a b:E)
 | chain (o p:Op) (a b c:E)
 | ix (a b:E) | sl (a lo hi:E) | fld (a:E) (f:Nat) | tup (es:E) | lst (es:E) | dic (es:E) | nil | cons (a es:E)
 | call (j:Nat) (es:E) | hcall (j:Nat) (es:E) | mth (c j:Nat) (a es:E) | new (j:Nat) (es:E) | bi (b:Bi) (es:E) | join (x:Str) (a:E) | get (a b c:E) | index (a b:E) | isX (a:E) (js:List Nat)
 | lc (t:List Nat) (one:Bool) (it elt cond:E)
 | tab (j:Nat) (e:E) | tabin (j:Nat) (e:E)
 | newl (es:E) | keep (kp:List Nat) (a:E) | sto (a:E) | fcall (own:Bool) (j:Nat) (es:E)
 | sl3 (a lo st:E) | tget (j:Nat) (e d:E) | newd (j:Nat) (es:E) | fmt (x:Str) (a:E) (y:Str) | dicc (ks:List Str) (es:E)
 | tand (a b:E) | tor (a b:E) | tnot (a:E) | tv (a:E) | it (b:Bi) (es:E) | itv (a:E)
inductive S where
 | skip | seq (a b:S) | set (i:Nat) (e:E) | setT (l:List Nat) (e:E) | setR (i:Nat) (es:E) | ret (e:E) | ifs (c:E) (a b:S) | drop (e:E)
 | app (i:Nat) (e:E) | ext (i:Nat) (e:E) | put (a b e:E) | fld (a:E) (f:Nat) (e:E) | aug (a:E) (f:Nat) (o:Op) (e:E) | fapp (a:E) (f:Nat) (e:E)
 | for_ (t:List Nat) (one:Bool) (it:E) (b:S) | whl (c:E) (b:S) | rais (j:Nat) (es:E) | try_ (a:S) (hs:S) | hand (j:Nat) (i:Option Nat) (b rest:S)
def fl:D→Bool
 | .non=>true | .bl _=>true | .int _=>true | .str _=>true | _=>false
def eqf:D→D→Bool
 | .non,.non=>true
 | .bl a,.bl b=>a == b
 | .bl a,.int b=>(if a then 1 else 0) == b
 | .int a,.int b=>a == b
 | .int a,.bl b=>a == (if b then 1 else 0)
 | .str a,.str b=>a == b
 | _,_=>false
def sh:D→Nat
 | .non=>0 | .bl _=>0 | .int _=>0 | .str _=>0 | .tup _=>1 | .lst _=>2 | _=>3
def eq0 (d e:D):Option Bool:=
 if sh d=3∨sh e=3 then none else if sh d=0∧sh e=0 then some (eqf d e) else if sh d=sh e then none else some false
def cV (f:D→D→Option Bool):List D→List D→Option Bool
 | d :: a,e :: b=>(match f d e with | none=>none | some x=>(cV f a b).map (x && ·))
 | _,_=>some true
def eqv:Nat→D→D→Option Bool
 | 0,d,e=>eq0 d e
 | n+1,.tup a,.tup b=>(cV (eqv n) a b).map (· && a.length == b.length)
 | n+1,.lst a,.lst b=>if a.length=b.length then cV (eqv n) a b else some false
 | _+1,d,e=>eq0 d e
end L2.Ev
namespace L2.Ev
structure Fn where
 np:Nat
 ns:Nat
 body:S
structure Cl where
 what:Nat
 at_:List Nat
 init:Nat
 me:List (Nat×Nat)
 sup:List Nat
 chk:List Nat:=[]
def toD:L2.Bk.Dk→D
 | .non=>.non
 | .int i=>.int i
 | .bl b=>.bl b
 | .str x=>.str x
 | .tup l=>.tup (toDs l)
where toDs:List L2.Bk.Dk→List D
 | []=>[]
 | d :: r=>toD d :: toDs r
structure Gm where
 gl:List L2.Bk.Dk
 tb:List (List (Str×L2.Bk.Dk))
 fn:List Fn
 cl:List Cl
structure Sta where
 env:List (Option D)
 ow:List Nat
 st:List O
inductive Out (α:Type) where
 | ok (a:α) (s:Sta) | exc (c:Nat) (l:List D) (s:Sta) | bad
inductive Res where
 | ok (d:D) (st:List O) | exc (c:Nat) (l:List D) (st:List O) | bad
inductive ao where
 | nx (s:Sta) | rt (d:D) (s:Sta) | exc (c:Nat) (l:List D) (s:Sta) | bad
def Out.bind {α β:Type} (x:Out α) (f:α→Sta→Out β):Out β:=match x with
 | .ok a s=>f a s
 | .exc c l s=>.exc c l s
 | .bad=>.bad
def Out.of {α:Type} (s:Sta):Option α→Out α
 | some a=>.ok a s
 | none=>.bad
def Out.go {α:Type} (x:Out α) (f:α→Sta→ao):ao:=match x with
 | .ok a s=>f a s
 | .exc c l s=>.exc c l s
 | .bad=>.bad
def ao.go (x:ao) (f:Sta→ao):ao:=match x with
 | .nx s=>f s
 | y=>y
def kD:D→Bool
 | .non=>true | _=>false
def un (s:Sta) (i:Nat):Sta:=⟨s.env,s.ow.filter (· != i),s.st⟩
def look (st:List O):D→D
 | .ref n=>(match st[n]? with | some (.lst l)=>.lst l | some (.dic k l)=>.dic k l | _=>.ref n)
 | d=>d
def bI:D→Option Key
 | .int i=>some (.inl i)
 | .str x=>some (.inr x)
 | _=>none
def bG:List Key→List D→Key→Option D
 | k :: ks,d :: ds,x=>if k=x then some d else bG ks ds x
 | _,_,_=>none
def iB:List Key→List D→Key→D→List D
 | k :: ks,d :: ds,x,e=>(if k=x then e else d) :: iB ks ds x e
 | _,ds,_,_=>ds
def bV (ks:List Key) (ds:List D) (x:Key) (e:D):List Key×List D:=if ks.any (fun k=>decide (k=x))=true then (ks,iB ks ds x e) else (ks ++ [x],ds ++ [e])
def inD (d:D):List D→Option Bool
 | []=>some false
 | e :: r=>match eqv 55 e d with | none=>none | some b=>(inD d r).map (b || ·)
def cD (n:Nat) (d:D):Option D:=if n≤100000 then some d else none
def opI (o:Op) (i j:Int):Option D:=match o with
 | .add=>some (.int (i+j))
 | .sub=>some (.int (i - j))
 | .mul=>if ((-(2 ^ 64)<i∧i<2 ^ 64)∨(-(2 ^ 64)<j∧j<2 ^ 64))∨(i.natAbs<2 ^ 400∧j.natAbs<2 ^ 400) then some (.int (i * j)) else none
 | .fdiv=>if 0<j∧j<2 ^ 200 then some (.int (i / j)) else none
 | .mod=>if 0<j then some (.int (i % j)) else none
 | .pow=>if 0≤j∧j≤1000000∧i.natAbs<2 ^ 64 then some (.int (i ^ j.toNat)) else none
 | .shl=>if 0≤j∧j≤1000000∧i.natAbs<2 ^ 64 then some (.int (i * 2 ^ j.toNat)) else none
 | .shr=>if 0≤j then some (.int (i / 2 ^ j.toNat)) else none
 | .band=>some (.int (Builtin.bitAnd i j))
 | .bxor=>some (.int (Builtin.bitXor i j))
 | .lt=>some (.bl (decide (i<j)))
 | .le=>some (.bl (decide (i≤j)))
 | .gt=>some (.bl (decide (j<i)))
 | .ge=>some (.bl (decide (j≤i)))
 | _=>none
def qW (ls:List Key) (es:List D):List Key→List D→Option Bool
 | k :: ks,d :: ds=>(match bG ls es k with | none=>some false | some e=>(match eqv 55 d e with | none=>none | some x=>(qW ls es ks ds).map (x && ·)))
 | _,_=>some true
def eqT (a b:D):Option Bool:=match a,b with
 | .dic ks ds,.dic ls es=>if ks.length=ls.length then qW ls es ks ds else some false
 | a,b=>eqv 55 a b
def opD (o:Op) (a b:D):Option D:=match o with
 | .eq=>(eqT a b).map .bl
 | .ne=>(eqT a b).map fun x=>.bl (!x)
 | .isin=>(match b with | .str y=>(match a with | .str x=>some (.bl (Txt.contains y x)) | _=>none) | .lst l=>(inD a l).map .bl | .tup l=>(inD a l).map .bl | .dic ks ds=>(bI a).map fun k=>.bl (bG ks ds k).isSome | _=>none)
 | .notin=>(match b with | .lst l=>(inD a l).map fun x=>.bl (!x) | .tup l=>(inD a l).map fun x=>.bl (!x) | .dic ks ds=>(bI a).map fun k=>.bl (!(bG ks ds k).isSome) | _=>none)
 | _=>match a,b with
   | .int i,.int j=>opI o i j
   | .str x,.str y=>if o = .add then cD (x.length+y.length) (.str (x ++ y)) else none
   | .tup x,.tup y=>if o = .add then cD (x.length+y.length) (.tup (x ++ y)) else none
   | .lst x,.lst y=>if o = .add then cD (x.length+y.length) (.lst (x ++ y)) else none
   | _,_=>none
def vt:D→Option Bool
 | .bl b=>some b
 | .tup l=>some (!l.isEmpty)
 | .lst l=>some (!l.isEmpty)
 | .int i=>some (i != 0)
 | .non=>some false
 | _=>none
def ixD (a b:D):Option D:=match a,b with
 | .tup l,.int i=>atI l i
 | .lst l,.int i=>atI l i
 | .str x,.int i=>if x.length≤100000 then (atI x.cps.toList i).map fun c=>.str ⟨#[c]⟩ else none
 | .dic ks ds,k=>(bI k).bind fun k=>bG ks ds k
 | _,_=>none
def kj (xs:List D) (lo hi:Option Int):List D:=(xs.drop (HT.sIx xs.length 0 lo)).take (HT.sIx xs.length xs.length hi - HT.sIx xs.length 0 lo)
def slO (a:D) (l h:Option Int):Option D:=match a with
 | .tup x=>some (.tup (kj x l h))
 | .lst x=>some (.lst (kj x l h))
 | .str x=>if x.length≤100000 then some (.str (Txt.slice x l h)) else none
 | _=>none
def Ao {α:Type} (xs:List α) (lo:Option Int) (st:Int):List α:=(sliceRange (sliceBounds lo none (some st) xs.length).1 (sliceBounds lo none (some st) xs.length).2.1 (sliceBounds lo none (some st) xs.length).2.2).filterMap (xs[·]?)
def pY (a:D) (l st:Option Int):Option D:=match a,st with
 | .lst x,some k=>if k=0 then none else some (.lst (Ao x l k))
 | _,_=>none
def isDic:D→Bool
 | .dic _ _=>true
 | _=>false
def bC:E→Bool
 | .nil=>true
 | _=>false
def toI (d:D) (s:Sta):Out (Option Int):=match d with | .int i=>.ok (some i) s | _=>.bad
def cb:List D→Option (List Int)
 | []=>some []
 | .int i :: r=>(cb r).map (i :: ·)
 | _=>none
def vG:List D→Option (List Bool)
 | []=>some []
 | .bl i :: r=>(vG r).map (i :: ·)
 | _=>none
def eZ:List D→Option (List Str)
 | []=>some []
 | .str i :: r=>(eZ r).map (i :: ·)
 | _=>none
def jj (b:Bi) (x:D):Option D:=match b,x with
 | .len,.tup l=>some (.int l.length)
 | .len,.lst l=>some (.int l.length)
 | .len,.str x=>if x.length≤100000 then some (.int x.length) else none
 | .len,.dic k _=>if k.length≤100000 then some (.int k.length) else none
 | .tuple,.lst l=>some (.tup l)
 | .tuple,.tup l=>some (.tup l)
 | .list,.tup l=>some (.lst l)
 | .list,.lst l=>some (.lst l)
 | .rev,.lst l=>some (.lst l.reverse)
 | .all,.lst l=>(vG l).map fun bs=>.bl (bs.all id)
 | .sum,.lst l=>(cb l).map fun ns=>.int (L2.Bk.sumI ns)
 | .max2,.lst l=>(match cb l with | some (n :: r)=>some (.int (L2.Bw.maxD 0 (n :: r))) | _=>none)
 | .abs,.int i=>some (.int (if i<0 then -i else i))
 | .str,.int i=>if i.natAbs.log2<1920 then some (.str (Str.ofString (toString i))) else none
 | .int,.int i=>some (.int i)
 | .int,.bl k=>some (.int (if k then 1 else 0))
 | .int,.str x=>if x.length≤640 then (PySem.intText? x).map .int else none
 | .dict,.dic k l=>some (.dic k l)
 | .isTup,d=>(match d with | .tup _=>some (.bl true) | .ref _=>none | .ins _ _=>none | _=>some (.bl false))
 | .isStr,d=>(match d with | .str _=>some (.bl true) | .ref _=>none | .ins _ _=>none | _=>some (.bl false))
 | .isBool,d=>(match d with | .bl _=>some (.bl true) | .ref _=>none | .ins _ _=>none | _=>some (.bl false))
 | .isInt,d=>(match d with | .bl _=>some (.bl true) | .int _=>some (.bl true) | .ref _=>none | .ins _ _=>none | _=>some (.bl false))
 | .isLst,d=>(match d with | .lst _=>some (.bl true) | .ref _=>none | .ins _ _=>none | _=>some (.bl false))
 | .isDic,d=>(match d with | .dic _ _=>some (.bl true) | .ref _=>none | .ins _ _=>none | _=>some (.bl false))
 | .isVal,d=>(match d with | .lst _=>some (.bl true) | .int _=>some (.bl true) | .bl _=>some (.bl true) | .str _=>some (.bl true) | .ref _=>none | .ins _ _=>none | _=>some (.bl false))
 | _,_=>none
def wF (b:Bi) (x y:D):Option D:=match b,x,y with
 | .max0,.lst l,.int d=>(cb l).map fun ns=>.int (L2.Bw.maxD d ns)
 | .max2,.int i,.int j=>some (.int (if j>i then j else i))
 | .min2,.int i,.int j=>some (.int (if j<i then j else i))
 | _,_,_=>none
def y5 (b:Bi) (x y z:D):Option D:=match b,x,y,z with
 | .max2,.int i,.int j,.int k=>some (.int (if j>i then (if k>j then k else j) else if k>i then k else i))
 | _,_,_,_=>none
def biD (b:Bi) (ds:List D):Option D:=match ds with
 | [x]=>jj b x
 | [x,y]=>wF b x y
 | [x,y,z]=>y5 b x y z
 | _=>none
def rp:Key→D
 | .inl i=>.int i
 | .inr x=>.str x
def s9:D→Option (List D)
 | .lst l=>some l
 | .tup l=>some l
 | .dic ks _=>some (ks.map rp)
 | .str x=>if x.cps.all (· < 128)=true then some (x.cps.toList.map fun c=>.str ⟨#[c]⟩) else none
 | _=>none
def j0 (lo:Int) (n:Nat):List D:=(List.range n).map fun (i:Nat)=>.int (lo+i)
def fb:List D→List D→List D
 | a :: r,b :: q=>.tup [a,b] :: fb r q
 | _,_=>[]
def cA:List D→List D→List D→List D
 | a :: r,b :: q,c :: p=>.tup [a,b,c] :: cA r q p
 | _,_,_=>[]
def bR:Int→List D→List D
 | i,a :: r=>.tup [.int i,a] :: bR (i+1) r
 | _,[]=>[]
def sqL:D→Option (List D)
 | .lst l=>some l
 | .tup l=>some l
 | _=>none
def w9 (b:Bi) (x:D):Option (List D):=match b,x with
 | .range1,.int j=>if -(2 ^ 62)≤j∧j<2 ^ 62 then some (j0 0 j.toNat) else none
 | .enum,.lst x=>some (bR 0 x)
 | _,_=>none
def Bp (b:Bi) (x y:D):Option (List D):=match b,x,y with
 | .range2,.int i,.int j=>if (-(2 ^ 62)≤i∧i<2 ^ 62∧-(2 ^ 62)≤j∧j<2 ^ 62) then some (j0 i (j - i).toNat) else none
 | .zip2,x,y=>(match sqL x,sqL y with | some l,some m=>if l.length≤m.length then some (fb l m) else none | _,_=>none)
 | .enum2,.tup x,.int n=>if Builtin.SmallTypes.fitsIndex n=true∧0≤n then some (bR n x) else none
 | _,_,_=>none
def Bq (b:Bi) (x y z:D):Option (List D):=match b,x,y,z with
 | .zip3,x,y,z=>(match sqL x,sqL y,sqL z with | some l,some m,some n=>if l.length≤m.length∧l.length≤n.length then some (cA l m n) else none | _,_,_=>none)
 | _,_,_,_=>none
def itD (b:Bi) (ds:List D):Option (List D):=match ds with
 | [x]=>w9 b x
 | [x,y]=>Bp b x y
 | [x,y,z]=>Bq b x y z
 | _=>none
def qG (Γ:Gm) (st:List O) (d:D) (f:Nat):Option D:=match d with
 | .ins c l=>(Γ.cl[c]?).bind fun k=>l[k.at_.idxOf f]?
 | .ref n=>(match st[n]? with | some (.ins c l)=>(Γ.cl[c]?).bind fun k=>l[k.at_.idxOf f]? | _=>none)
 | _=>none
def aK (t:List Nat) (one:Bool) (d:D) (env:List (Option D)):Option (List (Option D)):=
 if one then (match t with | [i]=>some (env.set i (some d)) | _=>none)
 else (match d with
  | .tup l=>if l.length=t.length then some ((t.zip l).foldl (fun e p=>e.set p.1 (some p.2)) env) else none
  | .lst l=>if l.length=t.length then some ((t.zip l).foldl (fun e p=>e.set p.1 (some p.2)) env) else none
  | _=>none)
def noX {α:Type}:Out α→Out α
 | .exc _ _ _=>.bad
 | o=>o
def aQ (f:D→Sta→Out (Option D)):List D→List D→Sta→Out D
 | [],acc,s=>.ok (.lst acc) s
 | d :: r,acc,s=>(f d s).bind fun o s'=>match o with
   | some e=>if acc.length<100000 then aQ f r (acc ++ [e]) s' else .bad
   | none=>aQ f r acc s'
mutual
noncomputable def noL:D→Bool
 | .lst _=>false
 | .tup l=>fE l
 | .dic _ l=>fE l
 | .ins _ l=>fE l
 | _=>true
noncomputable def fE:List D→Bool
 | []=>true
 | d :: r=>noL d && fE r
end
mutual
noncomputable def noR:D→Bool
 | .ref _=>false
 | .tup l=>ay l
 | .lst l=>ay l
 | .dic _ l=>ay l
 | .ins _ l=>ay l
 | _=>true
noncomputable def ay:List D→Bool
 | []=>true
 | d :: r=>noR d && ay r
end
def lb:O→Bool
 | .lst _=>false
 | .dic _ l=>fE l
 | .ins _ l=>fE l
def bF:E→List Nat
 | .cons (.v i) r=>i :: bF r
 | .cons _ r=>bF r
 | _=>[]
def isLst:Option (Option D)→Bool
 | some (some (.lst _))=>true
 | _=>false
def aft (es:E) (s:Sta) (d:D) (st:List O):Sta:=⟨s.env,s.ow.filter fun i=>!(bF es).contains i || (isLst s.env[i]? && (noL d && st.all lb)),st⟩
def drp (es:E) (s:Sta) (st:List O):Sta:=⟨s.env,s.ow.filter fun i=>!(bF es).contains i,st⟩
def qy:List D→Option (List Key×List D)
 | []=>some ([],[])
 | [_]=>none
 | k :: d :: r=>(bI k).bind fun k=>(qy r).bind fun p=>if p.1.contains k then none else some (k :: p.1,d :: p.2)
def ug:D→Bool
 | .tup _=>true
 | _=>false
def wY (x y:D):Option D:=match x,y with
 | .tup l,.str k=>(eZ l).bind fun ss=>(ss.findIdx? (· == k)).map fun (j:Nat)=>.int j
 | _,_=>none
def v7 (x:Str) (y:D):Option D:=match y with
 | .lst l=>(eZ l).bind fun ss=>if x.length≤64∧(ss.map (·.length)).sum≤100000∧ss.length≤1000 then some (.str (Txt.join x ss)) else none
 | _=>none
def zE (x:Str) (v:D) (y:Str):Option D:=match v with
 | .str z=>if x.length≤1000∧z.length≤100000∧y.length≤1000 then some (.str (((Str.empty ++ x) ++ z) ++ y)) else none
 | _=>none
mutual
noncomputable def shD (k:Nat):D→D
 | .tup l=>.tup (iC k l)
 | .lst l=>.lst (iC k l)
 | .dic ks l=>.dic ks (iC k l)
 | .ins c l=>.ins c (iC k l)
 | .ref n=>.ref (k+n)
 | d=>d
noncomputable def iC (k:Nat):List D→List D
 | []=>[]
 | d :: r=>shD k d :: iC k r
end
def shO (k:Nat):O→O
 | .lst l=>.lst (iC k l)
 | .dic ks l=>.dic ks (iC k l)
 | .ins c l=>.ins c (iC k l)
def wv (Γ:Gm) (c:Nat):Bool:=match Γ.cl[c]? with | some k=>k.what == 2 | none=>false
def zM (Γ:Gm) (x:D) (js:List Nat):Option D:=match x with
 | .ins c _=>if (wv Γ c && js.all (wv Γ))=true then (Γ.cl[c]?).map fun k=>.bl (js.any fun j=>c == j || k.sup.contains j) else none
 | _=>none
def vT (ks:List Str) (l:List D):Option D:=if ks.length=l.length∧ks.Nodup∧ks.length≤15∧ks≠[] then some (.dic (ks.map .inr) l) else none
def qU (kp:List Nat) (env:List (Option D)):List (Option D):=env.mapIdx fun i d=>if kp.contains i then none else d
def hid (kp:List Nat) (s:Sta):Sta:=⟨qU kp s.env,s.ow.filter (fun i=>!kp.contains i),s.st⟩
def Az (x:D) (s:Sta):Out D:=match x with | .lst l=>.ok (.ref s.st.length) ⟨s.env,s.ow,s.st ++ [.lst l]⟩ | _=>.bad
section
variable (Γ:Gm) (cal cal1:Nat→List D→List O→Res)
def ij (es:E) (j:Nat) (ds:List D) (s:Sta):Out D:=match cal j ds s.st with
 | .ok d st=>.ok d (aft es s d st)
 | .exc c l st=>.exc c l (drp es s st)
 | .bad=>.bad
def ua (j:Nat) (ds:List D) (s:Sta):Out D:=if ay ds then (match cal j ds [] with
 | .ok d st=>if noR d then .ok d s else .ok (shD s.st.length d) ⟨s.env,s.ow,s.st ++ st.map (shO s.st.length)⟩
 | .exc c l _=>if ay l then .exc c l s else .bad
 | .bad=>.bad) else .bad
def kE:D→Bool
 | .ref _=>true | _=>false
def tX (st:List O):D→Option D
 | .ref n=>(match st[n]? with | some (.lst l)=>if ay l then some (.lst l) else none | some (.dic k l)=>if ay l then some (.dic k l) else none | _=>none)
 | d=>if noR d then some d else none
def qN (st:List O):List D→Option (List D)
 | []=>some []
 | d :: r=>(tX st d).bind fun e=>(qN st r).map (e :: ·)
def mc (st:List O):D→Option D
 | .tup l=>(qN st l).map .tup
 | d=>tX st d
def tW (own:Bool) (j:Nat) (ds:List D) (s:Sta):Out D:=if ay ds then (match cal j ds [] with
 | .ok d st=>if own && !kE d then .bad else .of s (mc st d)
 | .exc c l _=>if ay l then .exc c l s else .bad
 | .bad=>.bad) else .bad
mutual
noncomputable def ev (br:Bool):E→Sta→Out D
 | .v i,s=>(match s.env[i]? with | some (some d)=>.ok d (if br then s else un s i) | _=>.bad)
 | .c d,s=>.ok d s
 | .g j,s=>.of s (Γ.gl[j]?.map toD)
 | .op o a b,s=>(ev true a s).bind fun x s=>(ev true b s).bind fun y s=>.of s (opD o (look s.st x) (look s.st y))
 | .isN a,s=>(ev true a s).bind fun x s=>.ok (.bl (kD x)) s
 | .isNN a,s=>(ev true a s).bind fun x s=>.ok (.bl (!kD x)) s
 | .neg a,s=>(ev true a s).bind fun x s=>(match x with | .int i=>.ok (.int (-i)) s | _=>.bad)
 | .not a,s=>(ev true a s).bind fun x s=>(match x with | .bl b=>.ok (.bl (!b)) s | _=>.bad)
 | .and a b,s=>(ev false a s).bind fun x s=>(match x with | .bl true=>ev false b s | .bl false=>.ok (.bl false) s | _=>.bad)
 | .or a b,s=>(ev false a s).bind fun x s=>(match x with | .bl false=>ev false b s | .bl true=>.ok (.bl true) s | _=>.bad)
 | .ite c a b,s=>(ev true c s).bind fun x s=>(match x with | .bl true=>ev false a s | .bl false=>ev false b s | _=>.bad)
 | .chain o p a b c,s=>(ev true a s).bind fun x s=>(ev true b s).bind fun y s=>(match opD o (look s.st x) (look s.st y) with
   | some (.bl true)=>(ev true c s).bind fun z s=>.of s (opD p (look s.st y) (look s.st z))
   | some (.bl false)=>.ok (.bl false) s
   | _=>.bad)
 | .ix a b,s=>(ev true a s).bind fun x s=>(ev true b s).bind fun y s=>.of s (ixD (look s.st x) y)
 | .sl a lo hi,s=>(ev true a s).bind fun x s=>(if bC lo then .ok none s else (ev true lo s).bind toI).bind fun l s=>(if bC hi then .ok none s else (ev true hi s).bind toI).bind fun h s=>.of s (slO (look s.st x) l h)
 | .sl3 a lo st,s=>(ev true a s).bind fun x s=>(if bC lo then .ok none s else (ev true lo s).bind toI).bind fun l s=>(if bC st then .ok none s else (ev true st s).bind toI).bind fun z s=>.of s (pY (look s.st x) l z)
 | .tget j e d,s=>(ev true e s).bind fun x s=>(ev false d s).bind fun z s=>(match Γ.tb[j]?,x with | some t,.str k=>.ok (((KTD.datumAt k t).map toD).getD z) s | _,_=>.bad)
 | .newd j es,s=>(evs false es s).bind fun l s=>.of s ((Γ.cl[j]?).bind fun k=>if k.what=1∧l.length=k.at_.length then some (D.ins j l) else none)
 | .fld a f,s=>(ev true a s).bind fun x s=>.of s (qG Γ s.st x f)
 | .tup es,s=>(evs false es s).bind fun l s=>if l.length≤100000 then .ok (.tup l) s else .bad
 | .lst es,s=>(evs false es s).bind fun l s=>if l.length≤100000 then .ok (.lst l) s else .bad
 | .newl es,s=>(evs false es s).bind fun l s=>if l.length≤100000 then .ok (.ref s.st.length) ⟨s.env,s.ow,s.st ++ [.lst l]⟩ else .bad
 | .keep kp a,s=>(noX (ev false a (hid (kp.filter s.ow.contains) s))).bind fun d s'=>.ok d ⟨s.env,s'.ow ++ kp.filter s.ow.contains,s'.st⟩
 | .sto a,s=>(ev false a s).bind Az
 | .fcall own j es,s=>(evs false es s).bind fun l s=>tW cal own j l s
 | .call j es,s=>(evs true es s).bind fun l s=>ij cal es j l s
 | .hcall j es,s=>(evs false es s).bind fun l s=>ua cal j l s
 | .mth c j a es,s=>(ev true a s).bind fun x s=>(match x with
   | .ref p=>(match s.st[p]? with
     | some (.ins c' _)=>if c'=c then (evs true es s).bind fun l s=>ij cal es j (x :: l) s else .bad
     | _=>.bad)
   | _=>.bad)
 | .bi b es,s=>(evs true es s).bind fun l s=>.of s (biD b (l.map (look s.st)))
 | .tab j e,s=>(ev true e s).bind fun x s=>(match Γ.tb[j]?,x with | some t,.str k=>.of s ((KTD.datumAt k t).map toD) | _,_=>.bad)
 | .tabin j e,s=>(ev true e s).bind fun x s=>(match Γ.tb[j]?,x with | some t,.str k=>.ok (.bl (KTD.datumAt k t).isSome) s | _,_=>.bad)
 | .lc t one it elt cond,s=>(ev false it s).bind fun x s=>(match x with
   | .lst ds=>(aQ (fun d s'=>(match aK t one d s'.env with
     | some env=>(noX (ev true cond ⟨env,[],s'.st⟩)).bind fun b s2=>(match b with
       | .bl true=>(noX (ev false elt s2)).bind fun e s3=>.ok (some e) ⟨s3.env,[],s3.st⟩
       | .bl false=>.ok none ⟨s2.env,[],s2.st⟩
       | _=>.bad)
     | none=>.bad)) ds [] ⟨List.replicate t.length none ++ s.env,[],s.st⟩).bind fun d s'=>.ok d ⟨s.env,[],s'.st⟩
   | _=>.bad)
 | .tand a b,s=>(ev true a s).bind fun x s=>(match x with | .bl true=>ev true b s | .bl false=>.ok (.bl false) s | _=>.bad)
 | .tor a b,s=>(ev true a s).bind fun x s=>(match x with | .bl true=>.ok (.bl true) s | .bl false=>ev true b s | _=>.bad)
 | .tnot a,s=>(ev true a s).bind fun x s=>(match x with | .bl b=>.ok (.bl (!b)) s | _=>.bad)
 | .tv a,s=>(ev true a s).bind fun x s=>.of s ((vt (look s.st x)).map .bl)
 | .it b es,s=>(evs false es s).bind fun l s=>.of s ((itD b l).map .lst)
 | .itv a,s=>(ev false a s).bind fun x s=>.of s ((s9 x).map .lst)
 | .dic es,s=>(evs false es s).bind fun l s=>.of s ((qy l).map fun p=>.dic p.1 p.2)
 | .get a b c,s=>(ev true a s).bind fun x s=>if isDic (look s.st x)=true then (ev true b s).bind fun y s=>(ev false c s).bind fun z s=>(match look s.st x,bI y with
   | .dic ks ds,some k=>.ok ((bG ks ds k).getD z) s
   | _,_=>.bad) else .bad
 | .index a b,s=>(ev true a s).bind fun x s=>if ug x=true then (ev true b s).bind fun y s=>.of s (wY x y) else .bad
 | .join x a,s=>(ev true a s).bind fun y s=>.of s (v7 x (look s.st y))
 | .fmt x a y,s=>(ev true a s).bind fun v s=>.of s (zE x v y)
 | .dicc ks es,s=>(evs false es s).bind fun l s=>.of s (vT ks l)
 | .isX a js,s=>(ev true a s).bind fun x s=>.of s (zM Γ x js)
 | .new j es,s=>(evs true es s).bind fun l s=>(match Γ.cl[j]? with
   | some k=>if k.what=1 then (if l.length=k.at_.length then .ok (.ins j l) (drp es s s.st) else .bad)
     else if k.what=0 then (match cal1 k.init (.ref s.st.length :: l) (s.st ++ [.ins j []]) with
      | .ok .non st=>.ok (.ref s.st.length) (aft es s .non st)
      | _=>.bad)
     else .bad
   | none=>.bad)
 | _,_=>.bad
noncomputable def evs (br:Bool):E→Sta→Out (List D)
 | .nil,s=>.ok [] s
 | .cons a r,s=>(ev br a s).bind fun x s=>(evs br r s).bind fun l s=>.ok (x :: l) s
 | _,_=>.bad
end
end
end L2.Ev
namespace L2.Ev
def aV:E→Bool
 | .lst _=>true | .lc ..=>true | .bi .list _=>true | .bi .rev _=>true | .bi .dict _=>true | .dic _=>true | .keep _ a=>aV a | .fcall own _ _=>own | _=>false
def w8:D→Bool
 | .lst _=>true | .dic _ _=>true | _=>false
def mN (s:Sta) (i:Nat) (d:D) (f:Bool):Sta:=⟨s.env.set i (some d),if f && w8 d then i :: s.ow.filter (· != i) else s.ow.filter (· != i),s.st⟩
def sP (l:List D) (i:Int) (d:D):Option (List D):=(ixN l.length i).map fun j=>l.set j d
def eE (o:O) (k d:D):Option O:=match o with
 | .lst l=>(match k with | .int i=>(sP l i d).map .lst | _=>none)
 | .dic ks ds=>(bI k).bind fun k=>if ks.length<100000 then some (.dic (bV ks ds k d).1 (bV ks ds k d).2) else none
 | _=>none
def jY (o:D) (k d:D):Option D:=match o with
 | .lst l=>(match k with | .int i=>(sP l i d).map .lst | _=>none)
 | .dic ks ds=>(bI k).bind fun k=>if ks.length<100000 then some (.dic (bV ks ds k d).1 (bV ks ds k d).2) else none
 | _=>none
def fF (Γ:Gm) (o:O) (f:Nat) (d:D):Option O:=match o with
 | .ins c l=>(Γ.cl[c]?).bind fun k=>if k.at_.length<1000 then (if k.at_.idxOf f<l.length then some (.ins c (l.set (k.at_.idxOf f) d)) else if k.at_.idxOf f=l.length∧k.at_.idxOf f<k.at_.length then some (.ins c (l ++ [d])) else none) else none
 | _=>none
def sQ:Option D→Bool
 | some (.int n)=>decide (0≤n) && decide (n<100000)
 | _=>false
def AC:D→Bool
 | .str x=>decide ((reprText x).length≤10000)
 | .int n=>decide (0≤n) && decide (n<100000)
 | _=>false
def fy (Γ:Gm) (j:Nat) (l:List D):Bool:=match Γ.cl[j]? with
 | some k=>if k.at_.isEmpty then l.all AC else l.length == k.at_.length && k.chk.all (fun i=>sQ l[i]?) && decide (l.length≤1000) && !l.isEmpty
 | none=>false
def py (Γ:Gm) (j:Nat) (l:List D):List D:=match Γ.cl[j]? with
 | some k=>if k.at_.isEmpty then [] else l
 | none=>l
def aI (f:D→Sta→ao):List D→Sta→ao
 | [],s=>.nx s
 | d :: r,s=>(f d s).go fun s=>aI f r s
def wx (c:Sta→Out D) (f:Sta→ao):Nat→Sta→ao
 | 0,_=>.bad
 | m+1,s=>(c s).go fun x s=>match x with | .bl true=>(f s).go fun s=>wx c f m s | .bl false=>.nx s | _=>.bad
def cX (Γ:Gm) (j c:Nat):Option Bool:=(Γ.cl[c]?).map fun k=>c == j || k.sup.contains j
section
variable (Γ:Gm) (cal cal1:Nat→List D→List O→Res)
def exS:S→Sta→ao
 | .skip,s=>.nx s
 | .seq a b,s=>(exS a s).go fun s=>exS b s
 | .set i e,s=>(ev Γ cal cal1 false e s).go fun d s=>.nx (mN s i d (aV e))
 | .setT l e,s=>(ev Γ cal cal1 false e s).go fun d s=>(match aK l false d s.env with | some env=>.nx ⟨env,s.ow.filter fun i=>!l.contains i,s.st⟩ | none=>.bad)
 | .setR i es,s=>(evs Γ cal cal1 false es s).go fun l s=>if l.length≤100000 then .nx ⟨s.env.set i (some (.ref s.st.length)),s.ow.filter (· != i),s.st ++ [.lst l]⟩ else .bad
 | .ret e,s=>(ev Γ cal cal1 false e s).go fun d s=>.rt d s
 | .ifs c a b,s=>(ev Γ cal cal1 true c s).go fun x s=>(match x with | .bl true=>exS a s | .bl false=>exS b s | _=>.bad)
 | .drop e,s=>(ev Γ cal cal1 false e s).go fun _ s=>.nx s
 | .app i e,s=>if s.ow.contains i && isLst s.env[i]? then (ev Γ cal cal1 false e s).go fun d s=>if s.ow.contains i then (match s.env[i]? with
  | some (some (.lst l))=>if l.length<100000 then .nx ⟨s.env.set i (some (.lst (l ++ [d]))),s.ow,s.st⟩ else .bad
  | _=>.bad) else .bad else .bad
 | .ext i e,s=>if s.ow.contains i && isLst s.env[i]? then (ev Γ cal cal1 false e s).go fun d s=>if s.ow.contains i then (match s.env[i]?,d with
  | some (some (.lst l)),.lst x=>if l.length+x.length≤100000 then .nx ⟨s.env.set i (some (.lst (l ++ x))),s.ow,s.st⟩ else .bad
  | _,_=>.bad) else .bad else .bad
 | .put (.v i) b e,s=>(ev Γ cal cal1 false e s).go fun d s=>(match s.env[i]? with
  | some (some x)=>(ev Γ cal cal1 true b s).go fun k s=>(match x with
    | .ref n=>(match (s.st[n]?).bind fun o=>eE o k d with | some o=>.nx ⟨s.env,s.ow,s.st.set n o⟩ | none=>.bad)
    | x=>if s.ow.contains i then (match jY x k d with | some y=>.nx ⟨s.env.set i (some y),s.ow,s.st⟩ | none=>.bad) else .bad)
  | _=>.bad)
 | .put a b e,s=>(ev Γ cal cal1 false e s).go fun d s=>(ev Γ cal cal1 true a s).go fun x s=>(ev Γ cal cal1 true b s).go fun k s=>(match x with
  | .ref n=>(match (s.st[n]?).bind fun o=>eE o k d with | some o=>.nx ⟨s.env,s.ow,s.st.set n o⟩ | none=>.bad)
  | _=>.bad)
 | .fld a f e,s=>(match e with
  | .lst .nil=>(ev Γ cal cal1 true a s).go fun x s=>(match x with
    | .ref n=>(match (s.st[n]?).bind fun o=>fF Γ o f (.ref s.st.length) with | some o=>.nx ⟨s.env,s.ow,(s.st ++ [O.lst []]).set n o⟩ | none=>.bad)
    | _=>.bad)
  | .dic .nil=>(ev Γ cal cal1 true a s).go fun x s=>(match x with
    | .ref n=>(match (s.st[n]?).bind fun o=>fF Γ o f (.ref s.st.length) with | some o=>.nx ⟨s.env,s.ow,(s.st ++ [O.dic [] []]).set n o⟩ | none=>.bad)
    | _=>.bad)
  | e=>(ev Γ cal cal1 false e s).go fun d s=>(ev Γ cal cal1 true a s).go fun x s=>(match x with
    | .ref n=>(match (s.st[n]?).bind fun o=>fF Γ o f d with | some o=>.nx ⟨s.env,s.ow,s.st.set n o⟩ | none=>.bad)
    | _=>.bad))
 | .aug a f o e,s=>(ev Γ cal cal1 true a s).go fun x s=>(match x with
  | .ref n=>(match qG Γ s.st x f with
    | some (.int i)=>(ev Γ cal cal1 false e s).go fun d s=>(match d with
      | .int j=>(match opI o i j,s.st[n]? with
        | some y,some ob=>(match fF Γ ob f y with | some ob=>.nx ⟨s.env,s.ow,s.st.set n ob⟩ | none=>.bad)
        | _,_=>.bad)
      | _=>.bad)
    | _=>.bad)
  | _=>.bad)
 | .fapp a f e,s=>(ev Γ cal cal1 true (.fld a f) s).go fun x s=>(ev Γ cal cal1 false e s).go fun d s=>(match x with
  | .ref n=>(match s.st[n]? with | some (.lst l)=>if l.length<100000 then .nx ⟨s.env,s.ow,s.st.set n (.lst (l ++ [d]))⟩ else .bad | _=>.bad)
  | _=>.bad)
 | .for_ t one it b,s=>(ev Γ cal cal1 false it s).go fun x s=>(match x with
  | .lst ds=>aI (fun d s=>match aK t one d s.env with | some env=>exS b ⟨env,s.ow.filter fun i=>!t.contains i,s.st⟩ | none=>.bad) ds s
  | _=>.bad)
 | .whl c b,s=>wx (ev Γ cal cal1 true c) (exS b) 100000 s
 | .rais j es,s=>(evs Γ cal cal1 false es s).go fun l s=>if fy Γ j l then .exc j (py Γ j l) s else .bad
 | .try_ a hs,s=>(match exS a s with
  | .exc c l s'=>hnd hs c l s'
  | r=>r)
 | _,_=>.bad
where hnd:S→Nat→List D→Sta→ao
 | .hand j (some i) b r,c,l,s=>(match cX Γ j c with
  | some true=>(match exS b ⟨s.env.set i (some (.ins c l)),s.ow.filter (· != i),s.st⟩ with
    | .nx s=>.nx ⟨s.env.set i none,s.ow.filter (· != i),s.st⟩
    | .rt d s=>.rt d s
    | _=>.bad)
  | some false=>hnd r c l s
  | none=>.bad)
 | .hand j none b r,c,l,s=>(match cX Γ j c with
  | some true=>(match exS b s with | .nx s=>.nx s | .rt d s=>.rt d s | _=>.bad)
  | some false=>hnd r c l s
  | none=>.bad)
 | _,_,_,_=>.bad
end
def ly (Γ:Gm) (cal cal1:Nat→List D→List O→Res) (j:Nat) (ds:List D) (st:List O):Res:=match Γ.fn[j]? with
 | some f=>if ds.length=f.np then (match exS Γ cal cal1 f.body ⟨ds.map some ++ List.replicate (f.ns - f.np) none,[],st⟩ with
   | .nx s=>.ok .non s.st
   | .rt d s=>.ok d s.st
   | .exc c l s=>.exc c l s.st
   | .bad=>.bad) else .bad
 | none=>.bad
def qr (Γ:Gm):Nat→(Nat→List D→List O→Res)×(Nat→List D→List O→Res)
 | 0=>(fun _ _ _=>.bad,fun _ _ _=>.bad)
 | n+1=>(ly Γ (qr Γ n).1 (qr Γ n).2,(qr Γ n).1)
def aa (Γ:Gm) (n:Nat):Nat→List D→List O→Res:=(qr Γ n).1
def az (Γ:Gm) (n:Nat):Nat→List D→List O→Res:=(qr Γ n).2
structure CI where
 ad:Addr
 nm:List Str
structure Wd where
 P:Program
 w:World
 ci:List CI
 what:List Nat
abbrev Hp:=Addr→Option Obj
abbrev Rs:=List (Addr×Addr)
def TpO (o:Obj) (l:List Value):Prop:=o.cls = .type "tuple"∧(∃ n,o.data = .seq l.toArray n)∧l.length≤sizeLine∧o.dict=none
def LsO (o:Obj) (l:List Value):Prop:=(∃ n,o={ cls:=.type "list",data:=.seq l.toArray n })∧l.length≤sizeLine
def DcO (W:Wd) (o:Obj) (l:List (Key×Value)):Prop:=∃ es ep,o.ExactDict∧o.data = .dict es ep∧KeysOf (bD W.P W.w) es∧Pairs (bD W.P W.w) es.toList l∧(l.map (·.1)).Nodup∧l.length≤sizeLine
def NsO (o:Obj) (l:List (Str×Value)):Prop:=∃ es ep,o.data = .dict es ep∧StrKeys es∧UniqKeys es∧∀ n,nsFind es n=l.lookup n
def InO (h:Hp) (a dx C:Addr) (l:List (Str×Value)):Prop:=h a=some (PySem.W.instObj C dx)∧dx≠a∧l.length≤1000∧∃ o,h dx=some o∧NsO o l
def ExO (h:Hp) (a C:Addr) (l:List (Str×Value)):Prop:=∃ o vs,h a=some o∧o.cls = .ref C∧o.data = .fields vs∧((l = []∧o.dict=none)∨∃ d od,o.dict=some d∧h d=some od∧NsO od l)
mutual
noncomputable def RD (W:Wd) (ρ:Rs) (G:Hp):D→Value→Prop
 | .non,v=>v = .none
 | .bl b,v=>v = .bool b
 | .int i,v=>∃ t,v = .int i t
 | .str x,v=>∃ t,v = .str x t
 | .tup ds,v=>∃ a o vs,v = .ref a∧G a=some o∧TpO o vs∧RDs W ρ G ds vs
 | .lst ds,v=>∃ a o vs,v = .ref a∧G a=some o∧LsO o vs∧RDs W ρ G ds vs
 | .dic ks ds,v=>∃ a o vs,v = .ref a∧(a == sysModules)=false∧G a=some o∧DcO W o (ks.zip vs)∧ks.length=ds.length∧RDs W ρ G ds vs
 | .ins c ds,v=>∃ a i vs,v = .ref a∧W.ci[c]? = some i∧ds.length≤i.nm.length∧((W.what[c]? = some 1∧∃ dx,InO G a dx i.ad (i.nm.zip vs))∨(W.what[c]? = some 2∧ExO G a i.ad (i.nm.zip vs)))∧RDs W ρ G ds vs
 | .ref n,v=>∃ p,ρ[n]? = some p∧v = .ref p.1
noncomputable def RDs (W:Wd) (ρ:Rs) (G:Hp):List D→List Value→Prop
 | [],vs=>vs = []
 | d :: ds,vs=>∃ v r,vs=v :: r∧RD W ρ G d v∧RDs W ρ G ds r
end
def Sub (G H:Hp):Prop:=∀ a o,G a=some o→H a=some o
theorem Sub.refl (G):Sub G G:=fun _ _ e=>e
theorem Sub.trans (h:Sub G H) (i:Sub H I):Sub G I:=fun a o e=>i a o (h a o e)
section
variable {W:Wd} {ρ ρ':Rs} {G G' H H':Hp}
theorem jW (h:ρ <+: ρ') {n:Nat} (e:ρ[n]? = some a):ρ'[n]? = some a:=by
 obtain ⟨t,rfl⟩:=h
 rw [List.getElem?_append_left (List.getElem?_eq_some_iff.mp e).1];exact e
theorem InO.sub (h:Sub G G'):InO G a dx C l→InO G' a dx C l:=fun ⟨x,n,z,o,e,r⟩=>⟨h _ _ x,n,z,o,h _ _ e,r⟩
theorem ExO.sub (h:Sub G G'):ExO G a C l→ExO G' a C l:=fun ⟨o,vs,e,c,d,r⟩=>⟨o,vs,h _ _ e,c,d,r.elim .inl fun ⟨d,od,q,e,r⟩=>.inr ⟨d,od,q,h _ _ e,r⟩⟩
mutual
theorem RD.mono (hp:ρ <+: ρ') (h:Sub G G'):∀ {d:D} {v},RD W ρ G d v→RD W ρ' G' d v
 | .non,_,e=>e
 | .bl _,_,e=>e
 | .int _,_,e=>e
 | .str _,_,e=>e
 | .tup _,_,⟨a,o,vs,e,t,q,r⟩=>⟨a,o,vs,e,h _ _ t,q,RDs.mono hp h r⟩
 | .lst _,_,⟨a,o,vs,e,t,q,r⟩=>⟨a,o,vs,e,h _ _ t,q,RDs.mono hp h r⟩
 | .dic _ _,_,⟨a,o,vs,e,m,t,q,l,r⟩=>⟨a,o,vs,e,m,h _ _ t,q,l,RDs.mono hp h r⟩
 | .ins _ _,_,⟨a,i,vs,e,hc,l,t,r⟩=>⟨a,i,vs,e,hc,l,t.elim (fun ⟨w,dx,q⟩=>.inl ⟨w,dx,q.sub h⟩) (fun ⟨w,q⟩=>.inr ⟨w,q.sub h⟩),RDs.mono hp h r⟩
 | .ref _,_,⟨a,e,q⟩=>⟨a,jW hp e,q⟩
theorem RDs.mono (hp:ρ <+: ρ') (h:Sub G G'):∀ {ds} {vs},RDs W ρ G ds vs→RDs W ρ' G' ds vs
 | [],_,e=>e
 | _ :: _,_,⟨v,r,e,t,q⟩=>⟨v,r,e,RD.mono hp h t,RDs.mono hp h q⟩
end
theorem RDs.cons (h:RD W ρ G d v) (t:RDs W ρ G ds vs):RDs W ρ G (d :: ds) (v :: vs):=⟨v,vs,rfl,h,t⟩
theorem jZ:∀ {ds vs},RDs W ρ G ds vs↔Paired (RD W ρ G) ds vs
 | [],vs=>⟨fun h=>by cases (show vs = [] from h);exact .nil,fun h=>by cases h;exact rfl⟩
 | d :: ds,vs=>⟨fun ⟨v,r,e,h,t⟩=>e ▸ .cons h (jZ.mp t),fun h=>by cases h with | cons h t=>exact .cons h (jZ.mpr t)⟩
theorem RDs.len (h:RDs W ρ G ds vs):ds.length=vs.length:=(jZ.mp h).length
theorem RDs.get:∀ {ds} {vs} {i:Nat} {d:D},RDs W ρ G ds vs→ds[i]? = some d→∃ v,vs[i]? = some v∧RD W ρ G d v
 | [],_,_,_,_,e=>by simp at e
 | d :: ds,vs,0,d',⟨v,r,e,h,_⟩,e'=>by subst e;simp at e';subst e';exact ⟨v,rfl,h⟩
 | d :: ds,vs,i+1,d',⟨v,r,e,_,t⟩,e'=>by
   subst e
   obtain ⟨u,h1,h2⟩:=RDs.get (i:=i) t (by simpa using e')
   exact ⟨u,by simpa using h1,h2⟩
theorem RDs.app:∀ {ds es} {vs us},RDs W ρ G ds vs→RDs W ρ G es us→RDs W ρ G (ds ++ es) (vs ++ us)
 | [],_,vs,_,h,t=>by cases (show vs = [] from h);exact t
 | d :: ds,es,vs,us,⟨v,r,e,h,t'⟩,t=>by subst e;exact .cons h (RDs.app t' t)
theorem RDs.drop:∀ {ds} {vs} (n),RDs W ρ G ds vs→RDs W ρ G (ds.drop n) (vs.drop n)
 | _,_,0,h=>h
 | [],vs,n+1,h=>by cases (show vs = [] from h);exact rfl
 | d :: ds,vs,n+1,⟨v,r,e,h,t⟩=>by subst e;exact RDs.drop n t
theorem RDs.take:∀ {ds} {vs} (n),RDs W ρ G ds vs→RDs W ρ G (ds.take n) (vs.take n)
 | _,_,0,_=>rfl
 | [],vs,n+1,h=>by cases (show vs = [] from h);exact rfl
 | d :: ds,vs,n+1,⟨v,r,e,h,t⟩=>by subst e;exact .cons h (RDs.take n t)
theorem RDs.set:∀ {ds} {vs} (n) {d} {v},RDs W ρ G ds vs→RD W ρ G d v→RDs W ρ G (ds.set n d) (vs.set n v)
 | [],vs,_,_,_,h,_=>by cases (show vs = [] from h);exact rfl
 | d :: ds,vs,0,_,_,⟨v,r,e,h,t⟩,q=>by subst e;exact .cons q t
 | d :: ds,vs,n+1,_,_,⟨v,r,e,h,t⟩,q=>by subst e;exact .cons h (RDs.set n t q)
theorem RDs.rev:∀ {ds} {vs},RDs W ρ G ds vs→RDs W ρ G ds.reverse vs.reverse
 | [],vs,h=>by cases (show vs = [] from h);exact rfl
 | d :: ds,vs,⟨v,r,e,h,t⟩=>by subst e;rw [List.reverse_cons,List.reverse_cons];exact (RDs.rev t).app (.cons h rfl)
end
def ObR (W:Wd) (ρ:Rs) (G h:Hp) (p:Addr×Addr):O→Prop
 | .lst ds=>∃ o vs,p.2=p.1∧h p.1=some o∧LsO o vs∧RDs W ρ G ds vs
 | .dic ks ds=>∃ o vs,p.2=p.1∧(p.1 == sysModules)=false∧h p.1=some o∧DcO W o (ks.zip vs)∧ks.length=ds.length∧RDs W ρ G ds vs
 | .ins c ds=>∃ i vs,W.ci[c]? = some i∧W.what[c]? = some 0∧ds.length≤i.nm.length∧InO h p.1 p.2 i.ad (i.nm.zip vs)∧RDs W ρ G ds vs
theorem ObR.mono (hp:ρ <+: ρ') (g:Sub G G') (k:∀ a,a=p.1∨a=p.2→∀ o,h a=some o→h' a=some o):∀ {o},ObR W ρ G h p o→ObR W ρ' G' h' p o
 | .lst _,⟨o,vs,z,e,q,r⟩=>⟨o,vs,z,k _ (.inl rfl) _ e,q,r.mono hp g⟩
 | .dic _ _,⟨o,vs,z,m,e,q,l,r⟩=>⟨o,vs,z,m,k _ (.inl rfl) _ e,q,l,r.mono hp g⟩
 | .ins _ _,⟨i,vs,c,w,l,⟨e,n,z,o,e2,q⟩,r⟩=>⟨i,vs,c,w,l,⟨k _ (.inl rfl) _ e,n,z,o,k _ (.inr rfl) _ e2,q⟩,r.mono hp g⟩
theorem ObR.th:∀ {o},ObR W ρ G h p o→(∃ o,h p.1=some o)∧∃ o,h p.2=some o
 | .lst _,⟨o,vs,z,e,_⟩=>⟨⟨o,e⟩,z ▸ ⟨o,e⟩⟩
 | .dic _ _,⟨o,vs,z,m,e,_⟩=>⟨⟨o,e⟩,z ▸ ⟨o,e⟩⟩
 | .ins _ _,⟨i,vs,c,w,l,⟨e,n,z,o,e2,q⟩,r⟩=>⟨⟨_,e⟩,⟨_,e2⟩⟩
def toO:D→Option O
 | .lst l=>some (.lst l)
 | .dic k l=>some (.dic k l)
 | _=>none
structure Cx where
 W:Wd
 K:Fg
 mg:Str→Option Value
 base:Heap
 os:OsState
 Γ:Gm
 cal:Nat→List D→List O→Res
 cal1:Nat→List D→List O→Res
 A:Around
 fr:List Env
 N:List Str
 env:Env
 calm:Bool
abbrev Cx.ev (X:Cx) (br:Bool) (e:E):Sta→Out D:=Ev.ev X.Γ X.cal X.cal1 br e
abbrev Cx.evs (X:Cx) (br:Bool) (e:E):Sta→Out (List D):=Ev.evs X.Γ X.cal X.cal1 br e
abbrev Cx.ex (X:Cx) (c:S):Sta→ao:=Ev.exS X.Γ X.cal X.cal1 c
abbrev Cx.M (X:Cx):Model:=model X.W.P X.W.w
structure Z where
 ρ:Rs
 G:Hp
 t:Sta
 σ:List (Option Value)
 s:Shared
abbrev Z.h (z:Z):Hp:=z.s.heap.get?
def Mu (ρ:Rs) (a:Addr):Prop:=∃ p∈ρ,a=p.1∨a=p.2
def Own (z:Z) (a:Addr):Prop:=∃ i∈z.t.ow,z.σ[i]? = some (some (.ref a))
def Lc (X:Cx) (a:Addr):Prop:=a=X.env.locals∨∃ x,X.env.cells.lookup x=some a
structure HR (X:Cx) (z:Z):Prop where
 md:Mod X.K X.mg X.base
 fm:X.A.frames=some X.fr
 hd:X.calm=true→X.A.handled=none
 bs:∀ b o,X.base.get? b=some o→z.G b=some o
 gh:Sub z.G z.h
 rl:z.ρ.length=z.t.st.length
 rn:∀ (i j:Nat) (p q:Addr×Addr) (a:Addr),z.ρ[i]? = some p→z.ρ[j]? = some q→(a=p.1∨a=p.2)→(a=q.1∨a=q.2)→i=j
 rg:∀ a,Mu z.ρ a→z.G a=none
 ob:∀ (n:Nat) (o:O) (p:Addr×Addr),z.t.st[n]? = some o→z.ρ[n]? = some p→ObR X.W z.ρ z.G z.h p o
 fu:z.s.heap.FunFrames X.base X.fr
 ff:∀ b∈frs X.fr,z.G b=none∧¬ Mu z.ρ b
 br:AllBare z.s.gens
 os:z.s.os=X.os
structure COk (X:Cx):Prop where
 un:X.A.units+200<cLine
 kd:X.env.scope.kind = .function
 gl:X.env.globals=mainGlobals
 bl:X.env.builtins=builtinsNs
 ci:∀ x y c,X.env.cells.lookup x=some c→X.env.cells.lookup y=some c→x=y
 ch:∀ x,(X.env.kindOf x=some .cell∨X.env.kindOf x=some .free)→∃ c,X.env.cells.lookup x=some c
def Fre (X:Cx) (z:Z) (a:Addr):Prop:=z.G a=none∧¬ Mu z.ρ a∧a ∉ frs X.fr∧¬ Lc X a
structure Rep (X:Cx) (z:Z):Prop extends HR X z where
 ok:COk X
 lo:∃ m,z.s.heap.Ns X.env.locals m∧∀ (i:Nat) (x:Str) (u:Value),X.N[i]? = some x→z.σ[i]? = some (some u)→Vis X.env.scope x→lT X.env z.s.heap m x u
 ce:∀ x c,X.env.cells.lookup x=some c→∃ v,z.s.heap.IsCell c v
 fl:∀ a,Lc X a→z.G a=none∧¬ Mu z.ρ a
 el:z.t.env.length=z.σ.length
 sl:z.σ.length=X.N.length
 en:∀ (i:Nat) (d:D),i ∉ z.t.ow→z.t.env[i]? = some (some d)→∃ u,z.σ[i]? = some (some u)∧RD X.W z.ρ z.G d u
 eo:∀ (i:Nat),i∈z.t.ow→∃ d a o,z.t.env[i]? = some (some d)∧z.σ[i]? = some (some (.ref a))∧toO d=some o∧ObR X.W z.ρ z.G z.h (a,a) o∧Fre X z a
 od:∀ (i j:Nat) (a:Addr),i∈z.t.ow→j∈z.t.ow→z.σ[i]? = some (some (.ref a))→z.σ[j]? = some (some (.ref a))→i=j
structure Stp (fr:List Env) (w:Addr→Prop) (z z':Z):Prop where
 pr:z.ρ <+: z'.ρ
 gg:Sub z.G z'.G
 gn:∀ a o,z'.G a=some o→z.G a=some o∨z.h a=none∨w a
 rn:∀ a,Mu z'.ρ a→Mu z.ρ a∨z.h a=none
 th:∀ a o,z.h a=some o→∃ o',z'.h a=some o'
 sm:∀ a o,z.h a=some o→¬ Mu z.ρ a→¬ w a→a ∉ frs fr→z'.h a=some o
 sl:∀ a o,z.h a=some o→¬ Mu z.ρ a→¬ w a→a∈frs fr→∃ sl,z'.h a=some { o with slots:=sl }
theorem Stp.no (x:Stp fr w z z') (e:z'.h a=none):z.h a=none:=by
 cases q:z.h a with
 | none=>rfl
 | some o=>obtain ⟨o',e'⟩:=x.th a o q;rw [e] at e';cases e'
theorem Stp.refl:Stp fr w z z:=⟨List.prefix_refl _,.refl _,fun _ _ e=>.inl e,fun _ h=>.inl h,fun _ o e=>⟨o,e⟩,fun _ _ e _ _ _=>e,fun _ o e _ _ _=>⟨o.slots,e⟩⟩
theorem Stp.trans (x:Stp fr w z z1) (y:Stp fr w1 z1 z2) (k:∀ a,w1 a→w a∨z.h a=none):Stp fr w z z2:=by
 have nm:∀ a o,z.h a=some o→¬ Mu z.ρ a→¬ Mu z1.ρ a:=fun a o e n m=>(x.rn a m).elim n fun q=>by rw [q] at e;cases e
 have nw:∀ a o,z.h a=some o→¬ w a→¬ w1 a:=fun a o e n m=>(k a m).elim n fun q=>by rw [q] at e;cases e
 refine ⟨x.pr.trans y.pr,x.gg.trans y.gg,fun a o e=>?_,fun a m=>?_,fun a o e=>?_,fun a o e n m f=>y.sm a o (x.sm a o e n m f) (nm a o e n) (nw a o e m) f,fun a o e n m f=>?_⟩
 ·rcases y.gn a o e with q | q | q
  ·exact x.gn a o q
  ·exact .inr (.inl (x.no q))
  ·exact .inr ((k a q).symm)
 ·rcases y.rn a m with q | q
  ·exact x.rn a q
  ·exact .inr (x.no q)
 ·obtain ⟨o1,e1⟩:=x.th a o e;exact y.th a o1 e1
 ·obtain ⟨sl,e1⟩:=x.sl a o e n m f
  obtain ⟨sl2,e2⟩:=y.sl a _ e1 (nm a o e n) (nw a o e m) f
  exact ⟨sl2,e2⟩
theorem Stp.mono (x:Stp fr w z z') (k:∀ a,w a→w' a):Stp fr w' z z':=⟨x.pr,x.gg,fun a o e=>(x.gn a o e).imp_right (·.imp_right (k a)),x.rn,x.th,fun a o e n m=>x.sm a o e n fun q=>m (k a q),fun a o e n m=>x.sl a o e n fun q=>m (k a q)⟩
structure Ee (X:Cx) (z z':Z):Prop where
 st:Stp X.fr (Own z) z z'
 sg:z'.σ=z.σ
 en:z'.t.env=z.t.env
 ow:∀ i∈z'.t.ow,i∈z.t.ow
theorem Ee.refl:Ee X z z:=⟨.refl,rfl,rfl,fun _ h=>h⟩
theorem Ee.own (x:Ee X z z'):Own z' a→Own z a:=fun ⟨i,m,e⟩=>⟨i,x.ow i m,x.sg ▸ e⟩
theorem Ee.trans (x:Ee X z z1) (y:Ee X z1 z2):Ee X z z2:=⟨x.st.trans y.st fun _ o=>.inl (x.own o),y.sg.trans x.sg,y.en.trans x.en,fun i m=>x.ow i (y.ow i m)⟩
def Pv (X:Cx) (z:Z) (a:Addr):Prop:=Own z a∨Lc X a
structure Go (X:Cx) (z z':Z):Prop where
 st:Stp X.fr (Pv X z) z z'
 ow:∀ a,Own z' a→Own z a∨z.h a=none
theorem Go.refl:Go X z z:=⟨.refl,fun _ o=>.inl o⟩
theorem Go.trans (x:Go X z z1) (y:Go X z1 z2):Go X z z2:=by
 refine ⟨x.st.trans y.st fun a o=>o.elim (fun q=>(x.ow a q).imp_left .inl) fun q=>.inl (.inr q),fun a o=>?_⟩
 rcases y.ow a o with q | q
 ·exact x.ow a q
 ·exact .inr (x.st.no q)
theorem Ee.go (x:Ee X z z'):Go X z z':=⟨x.st.mono fun _=>.inl,fun _ o=>.inl (x.own o)⟩
def RB (W:Wd) (z:Z) (d:D) (u:Value):Prop:=RD W z.ρ z.G d u∨∃ i∈z.t.ow,z.σ[i]? = some (some u)∧z.t.env[i]? = some (some d)
def RV (W:Wd) (br:Bool) (c:E) (z:Z) (d:D) (u:Value):Prop:=RD W z.ρ z.G d u∨(br=true∧∃ i,c = .v i∧i∈z.t.ow∧z.σ[i]? = some (some u)∧z.t.env[i]? = some (some d))
theorem RV.of (h:RD W z.ρ z.G d u):RV W br c z d u:=.inl h
theorem RV.rd (h:RV W false c z d u):RD W z.ρ z.G d u:=h.elim id fun ⟨z,_⟩=>nomatch z
theorem RV.rb (h:RV W br c z d u):RB W z d u:=h.elim .inl fun ⟨_,i,_,m,e⟩=>.inr ⟨i,m,e⟩
theorem RD.st (h:RD W z.ρ z.G d u) (x:Stp fr w z z'):RD W z'.ρ z'.G d u:=h.mono x.pr x.gg
theorem RV.st (h:RV X.W br c z d u) (x:Ee X z z') (I:Rep X z'):RV X.W br c z' d u:=by
 rcases h with h | ⟨b,i,hc,m,e1,e2⟩
 ·exact .inl (h.st x.st)
 ·by_cases q:i∈z'.t.ow
  ·exact .inr ⟨b,i,hc,q,x.sg ▸ e1,x.en ▸ e2⟩
  ·obtain ⟨u',e3,r⟩:=I.en i d q (x.en ▸ e2)
   rw [x.sg,e1] at e3;cases e3
   exact .inl r
theorem RB.st (h:RB X.W z d u) (x:Ee X z z') (I:Rep X z'):RB X.W z' d u:=by
 rcases h with h | ⟨i,m,e1,e2⟩
 ·exact .inl (h.st x.st)
 ·by_cases q:i∈z'.t.ow
  ·exact .inr ⟨i,q,x.sg ▸ e1,x.en ▸ e2⟩
  ·obtain ⟨u',e3,r⟩:=I.en i d q (x.en ▸ e2)
   rw [x.sg,e1] at e3;cases e3
   exact .inl r
def CR (W:Wd) (z:Z):D→Value→Prop
 | .lst ds,v=>∃ a o vs,v = .ref a∧z.h a=some o∧LsO o vs∧RDs W z.ρ z.G ds vs
 | .dic ks ds,v=>∃ a o vs,v = .ref a∧(a == sysModules)=false∧z.h a=some o∧DcO W o (ks.zip vs)∧ks.length=ds.length∧RDs W z.ρ z.G ds vs
 | d,v=>RD W z.ρ z.G d v
theorem CR.of (I:HR X z):∀ {d},RD X.W z.ρ z.G d u→CR X.W z d u
 | .non,h=>h
 | .bl _,h=>h
 | .int _,h=>h
 | .str _,h=>h
 | .ref _,h=>h
 | .ins _ _,h=>h
 | .tup _,h=>h
 | .lst _,⟨a,o,vs,e,g,r⟩=>⟨a,o,vs,e,I.gh _ _ g,r⟩
 | .dic _ _,⟨a,o,vs,e,m,g,r⟩=>⟨a,o,vs,e,m,I.gh _ _ g,r⟩
theorem CR.ob {d:D} (e:toO d=some o) (h:ObR W z.ρ z.G z.h (a,b) o):CR W z d (.ref a):=by
 cases d <;> cases e
 ·obtain ⟨o,vs,_,r⟩:=h;exact ⟨a,o,vs,rfl,r⟩
 ·obtain ⟨o,vs,_,r⟩:=h;exact ⟨a,o,vs,rfl,r⟩
theorem RB.cr0 (I:Rep X z) (h:RB X.W z d u):CR X.W z d u:=by
 rcases h with h | ⟨i,m,e1,e2⟩
 ·exact .of I.toHR h
 ·obtain ⟨d',a,o,e3,e4,e5,r,_⟩:=I.eo i m
  rw [e1] at e4;cases e4
  rw [e2] at e3;cases e3
  exact .ob e5 r
theorem RB.cr (I:Rep X z) (h:RB X.W z d u):CR X.W z (look z.t.st d) u:=by
 have c:=h.cr0 I
 cases d with
 | ref n=>
   obtain ⟨p,e,rfl⟩:=(show RD X.W z.ρ z.G (.ref n) u from c)
   show CR X.W z (match z.t.st[n]? with | some (.lst l)=>.lst l | some (.dic k l)=>.dic k l | _=>.ref n) _
   cases q:z.t.st[n]? with
   | none=>exact c
   | some o=>
     have r:=I.ob n o p q e
     cases o with
     | lst l=>exact .ob (d:=.lst l) rfl r
     | dic k l=>exact .ob (d:=.dic k l) rfl r
     | ins _ _=>exact c
 | _=>exact c
structure Gr (s s':Shared):Prop where
 os:s'.os=s.os
 gs:s'.gens=s.gens
 k:∀ b o,s.heap.get? b=some o→s'.heap.get? b=some o
theorem Gr.refl:Gr s s:=⟨rfl,rfl,fun _ _ e=>e⟩
theorem Gr.tok {s:Shared} {t:Nat}:Gr s { s with toks:=t }:=⟨rfl,rfl,fun _ _ e=>e⟩
theorem Gr.hp {s:Shared} {h:Heap} {t:Nat} (k:∀ b o,s.heap.get? b=some o→h.get? b=some o):Gr s { s with heap:=h,toks:=t }:=⟨rfl,rfl,k⟩
theorem Gr.push {s:Shared} {o:Obj} {t:Nat}:Gr s { s with heap:=s.heap.push o,toks:=t }:=.hp fun _ _ e=>Heap.get?_push_of_some _ e
structure Grw (z:Z) (G':Hp) (s':Shared):Prop where
 gr:Gr z.s s'
 gg:Sub z.G G'
 gh:Sub G' s'.heap.get?
 gn:∀ a o,G' a=some o→z.G a=some o∨z.h a=none
theorem nfu {h h':Heap} (x:h.FunFrames base l) (k:∀ b o,h.get? b=some o→h'.get? b=some o):h'.FunFrames base l:=x.of_keeps fun b o e _=>⟨o,k b o e,rfl⟩
theorem HR.th (I:HR X z) (m:Mu z.ρ a):∃ o,z.h a=some o:=by
 obtain ⟨p,hp,e⟩:=m
 obtain ⟨n,hn⟩:=List.mem_iff_getElem?.mp hp
 have lt:n<z.t.st.length:=by rw [← I.rl];exact (List.getElem?_eq_some_iff.mp hn).1
 obtain ⟨h1,h2⟩:=(I.ob n _ p (List.getElem?_eq_getElem lt) hn).th
 rcases e with rfl | rfl
 ·exact h1
 ·exact h2
theorem HR.fth (I:HR X z) (m:b∈frs X.fr):∃ o,z.h b=some o:=let ⟨_,o,e,_⟩:=I.fu.mem m;⟨o,e⟩
section
variable {X:Cx} {z:Z} {G':Hp} {s':Shared}
theorem HR.grow (I:HR X z) (g:Grw z G' s'):HR X { z with G:=G',s:=s' }:=by
 have nn:∀ {a:Addr},(∃ o,z.h a=some o)→z.G a=none→G' a=none:=fun {a} ⟨o,e⟩ n=>by
  cases q:G' a with
  | none=>rfl
  | some o'=>rcases g.gn a o' q with z | z;rw [n] at z;cases z;rw [z] at e;cases e
 exact ⟨I.md,I.fm,I.hd,fun b o e=>g.gg _ _ (I.bs b o e),g.gh,I.rl,I.rn,fun a m=>nn (I.th m) (I.rg a m),fun n o p h1 h2=>(I.ob n o p h1 h2).mono (List.prefix_refl _) g.gg fun a _ o e=>g.gr.k a o e,nfu I.fu g.gr.k,fun b m=>⟨nn (I.fth m) (I.ff b m).1,(I.ff b m).2⟩,by rw [g.gr.gs];exact I.br,g.gr.os.trans I.os⟩
theorem Rep.lth (I:Rep X z) (l:Lc X a):∃ o,z.h a=some o:=by
 rcases l with rfl | ⟨x,e⟩
 ·obtain ⟨m,⟨o,_,_,e,_⟩,_⟩:=I.lo;exact ⟨o,e⟩
 ·obtain ⟨v,o,e,_⟩:=I.ce x a e;exact ⟨o,e⟩
theorem Rep.oth (I:Rep X z) (o:Own z a):Fre X z a∧∃ o,z.h a=some o:=by
 obtain ⟨i,m,e⟩:=o
 obtain ⟨d,b,o,_,e2,_,r,f⟩:=I.eo i m
 rw [e] at e2;cases e2
 exact ⟨f,r.th.1⟩
theorem dj {h h':Heap} (k:∀ c v,env.cells.lookup x=some c→h.IsCell c v→h'.IsCell c v) (l:lT env h m x u):lT env h' m x u:=l.imp_right fun ⟨a,c,e,q⟩=>⟨a,c,e,k c _ e q⟩
theorem Rep.fre (I:Rep X z) (n:z.h a=none):Fre X z a∧¬ Own z a:=by
 have no:∀ {P:Prop},(P→∃ o,z.h a=some o)→¬ P:=fun k p=>by obtain ⟨o,e⟩:=k p;rw [n] at e;cases e
 refine ⟨⟨?_,no I.th,no I.fth,no I.lth⟩,no fun o=>(I.oth o).2⟩
 cases q:z.G a with
 | none=>rfl
 | some o=>have:=I.gh a o q;rw [n] at this;cases this
theorem wi {h h':Heap} (sl:∀ b o,h.get? b=some o→∃ sl,h'.get? b=some { o with slots:=sl }) (n:h.Ns a m):h'.Ns a m:=let ⟨o,es,ep,e,r⟩:=n;let ⟨_,q⟩:=sl a o e;⟨_,es,ep,q,r⟩
theorem fJ {h h':Heap} (sl:∀ b o,h.get? b=some o→∃ sl,h'.get? b=some { o with slots:=sl }) (n:h.IsCell c v):h'.IsCell c v:=let ⟨o,e,d⟩:=n;let ⟨_,q⟩:=sl c o e;⟨_,q,d⟩
theorem Rep.grw (I:Rep X z) (os:s'.os=z.s.os) (br:AllBare s'.gens) (k:∀ b o,z.h b=some o→b ∉ frs X.fr→s'.heap.get? b=some o) (sl:∀ b o,z.h b=some o→∃ sl,s'.heap.get? b=some { o with slots:=sl })
 (gg:Sub z.G G') (gh:Sub G' s'.heap.get?) (gn:∀ a o,G' a=some o→z.G a=some o∨(Fre X z a∧¬ Own z a)):Rep X { z with G:=G',s:=s' }:=by
 have nn:∀ {a:Addr},¬ (Fre X z a∧¬ Own z a)→z.G a=none→G' a=none:=fun {a} f n=>by
  cases q:G' a with
  | none=>rfl
  | some o'=>rcases gn a o' q with z | z;rw [n] at z;cases z;exact (f z).elim
 refine ⟨⟨I.md,I.fm,I.hd,fun b o e=>gg _ _ (I.bs b o e),gh,I.rl,I.rn,fun a m=>nn (fun f=>f.1.2.1 m) (I.rg a m),fun n o p h1 h2=>(I.ob n o p h1 h2).mono (List.prefix_refl _) gg fun a ha o e=>k a o e fun m=>(I.ff a m).2 ⟨p,List.mem_of_getElem? h2,ha⟩,I.fu.of_keeps fun b o e _=>let ⟨_,q⟩:=sl b o e;⟨_,q,rfl⟩,fun b m=>⟨nn (fun f=>f.1.2.2.1 m) (I.ff b m).1,(I.ff b m).2⟩,br,os.trans I.os⟩,I.ok,?_,fun x c e=>let ⟨v,q⟩:=I.ce x c e;⟨v,fJ sl q⟩,fun a l=>⟨nn (fun f=>f.1.2.2.2 l) (I.fl a l).1,(I.fl a l).2⟩,I.el,I.sl,fun i d n e=>let ⟨u,q,r⟩:=I.en i d n e;⟨u,q,r.mono (List.prefix_refl _) gg⟩,fun i m=>?_,I.od⟩
 ·obtain ⟨m,hn,hl⟩:=I.lo
  exact ⟨m,wi sl hn,fun i x u h1 h2 h3=>dj (fun c v _ q=>fJ sl q) (hl i x u h1 h2 h3)⟩
 ·obtain ⟨d,a,o,h1,h2,h3,r,f⟩:=I.eo i m
  exact ⟨d,a,o,h1,h2,h3,r.mono (List.prefix_refl _) gg fun b hb o e=>k b o e (by rcases hb with rfl | rfl <;> exact f.2.2.1),nn (fun f=>f.2 ⟨i,m,h2⟩) f.1,f.2⟩
theorem Rep.grow (I:Rep X z) (g:Grw z G' s'):Rep X { z with G:=G',s:=s' }:=I.grw g.gr.os (by rw [g.gr.gs];exact I.br) (fun b o e _=>g.gr.k b o e) (fun b o e=>⟨o.slots,g.gr.k b o e⟩) g.gg g.gh fun a o e=>(g.gn a o e).imp_right I.fre
theorem Grw.stp (g:Grw z G' s'):Stp fr w z { z with G:=G',s:=s' }:=⟨List.prefix_refl _,g.gg,fun a o e=>(g.gn a o e).imp_right .inl,fun _ m=>.inl m,fun a o e=>⟨o,g.gr.k a o e⟩,fun a o e _ _ _=>g.gr.k a o e,fun a o e _ _ _=>⟨o.slots,g.gr.k a o e⟩⟩
theorem Grw.ee (g:Grw z G' s'):Ee X z { z with G:=G',s:=s' }:=⟨g.stp,rfl,rfl,fun _ h=>h⟩
end
def Z.up (z:Z) (s':Shared):Z:={ z with G:=fun a=>match z.h a with | none=>s'.heap.get? a | some _=>z.G a,s:=s' }
theorem j7 {z:Z} {s':Shared} (n:z.h a=none):(z.up s').G a=s'.heap.get? a:=by show (match z.h a with | none=>s'.heap.get? a | some _=>z.G a)=_;rw [n]
theorem cS {z:Z} {s':Shared} (I:Sub z.G z.h) (g:Gr z.s s'):Grw z (z.up s').G s':=by
 refine ⟨g,fun a o e=>?_,fun a o e=>?_,fun a o e=>?_⟩
 ·show (match z.h a with | none=>s'.heap.get? a | some _=>z.G a)=_
  rw [I a o e];exact e
 ·revert e
  show (match z.h a with | none=>s'.heap.get? a | some _=>z.G a)=_→_
  cases q:z.h a with
  | none=>exact fun e=>e
  | some u=>exact fun e=>g.k a o (I a o e)
 ·cases q:z.h a with
  | none=>exact .inr rfl
  | some u=>
    revert e
    show (match z.h a with | none=>s'.heap.get? a | some _=>z.G a)=_→_
    rw [q];exact .inl
theorem aE {z:Z} {s':Shared} (I:Sub z.G z.h) (g:Gr z.s s'):Grw z z.G s':=⟨g,.refl _,fun a o e=>g.k a o (I a o e),fun _ _ e=>.inl e⟩
def kc (z:Z) (p:Nat→Bool) (a:Addr):Prop:=∃ i∈z.t.ow,p i=false∧z.σ[i]? = some (some (.ref a))
open Classical in
noncomputable def Z.rel (z:Z) (p:Nat→Bool):Z:={ z with t:=⟨z.t.env,z.t.ow.filter p,z.t.st⟩,G:=fun a=>if kc z p a then z.h a else z.G a }
theorem fT {z:Z} (h:kc z p a):(z.rel p).G a=z.h a:=if_pos h
theorem du {z:Z} (h:¬ kc z p a):(z.rel p).G a=z.G a:=if_neg h
theorem jV {d:D} (e:toO d=some o) (r:ObR W ρ G h (a,b) o) (g:Sub G G') (q:G' a=h a):RD W ρ G' d (.ref a):=by
 cases d <;> cases e
 ·obtain ⟨o,vs,_,e,l,t⟩:=r;exact ⟨a,o,vs,rfl,q.trans e,l,t.mono (List.prefix_refl _) g⟩
 ·obtain ⟨o,vs,_,m,e,l,n,t⟩:=r;exact ⟨a,o,vs,rfl,m,q.trans e,l,n,t.mono (List.prefix_refl _) g⟩
theorem Rep.rel (I:Rep X z) (p:Nat→Bool):Rep X (z.rel p)∧Ee X z (z.rel p):=by
 have own:∀ {a},kc z p a→Own z a:=fun ⟨i,m,_,e⟩=>⟨i,m,e⟩
 have gg:Sub z.G (z.rel p).G:=fun a o e=>by
  by_cases q:kc z p a
  ·rw [(I.oth (own q)).1.1] at e;cases e
  ·rw [du q];exact e
 have nn:∀ {a},¬ Own z a→z.G a=none→(z.rel p).G a=none:=fun n g=>by rw [du fun q=>n (own q)];exact g
 refine ⟨⟨⟨I.md,I.fm,I.hd,fun b o e=>gg _ _ (I.bs b o e),fun a o e=>?_,I.rl,I.rn,fun a m=>nn (fun q=>(I.oth q).1.2.1 m) (I.rg a m),fun n o p h1 h2=>(I.ob n o p h1 h2).mono (List.prefix_refl _) gg fun _ _ _ e=>e,I.fu,fun b m=>⟨nn (fun q=>(I.oth q).1.2.2.1 m) (I.ff b m).1,(I.ff b m).2⟩,I.br,I.os⟩,I.ok,I.lo,I.ce,fun a l=>⟨nn (fun q=>(I.oth q).1.2.2.2 l) (I.fl a l).1,(I.fl a l).2⟩,I.el,I.sl,fun i d n e=>?_,fun i m=>?_,fun i j a m1 m2=>I.od i j a (List.mem_filter.mp m1).1 (List.mem_filter.mp m2).1⟩,⟨⟨List.prefix_refl _,gg,fun a o e=>?_,fun _ m=>.inl m,fun a o e=>⟨o,e⟩,fun _ _ e _ _ _=>e,fun _ o e _ _ _=>⟨o.slots,e⟩⟩,rfl,rfl,fun i m=>(List.mem_filter.mp m).1⟩⟩
 ·by_cases q:kc z p a
  ·rw [fT q] at e;exact e
  ·rw [du q] at e;exact I.gh a o e
 ·by_cases m:i∈z.t.ow
  ·have pf:p i=false:=by
    cases q:p i with
    | false=>rfl
    | true=>exact absurd (List.mem_filter.mpr ⟨m,q⟩) n
   obtain ⟨d',a,o,h1,h2,h3,r,f⟩:=I.eo i m
   rw [show z.t.env[i]? = some (some d) from e] at h1;cases h1
   exact ⟨_,h2,jV h3 r gg (fT ⟨i,m,pf,h2⟩)⟩
  ·obtain ⟨u,q,r⟩:=I.en i d m e
   exact ⟨u,q,r.mono (List.prefix_refl _) gg⟩
 ·obtain ⟨m1,m2⟩:=List.mem_filter.mp m
  obtain ⟨d',a,o,h1,h2,h3,r,f⟩:=I.eo i m1
  refine ⟨d',a,o,h1,h2,h3,r.mono (List.prefix_refl _) gg fun _ _ _ e=>e,?_,f.2⟩
  refine (du fun ⟨j,mj,pj,ej⟩=>?_).trans f.1
  rw [I.od j i a mj m1 ej h2,m2] at pj;cases pj
 ·by_cases q:kc z p a
  ·exact .inr (.inr (own q))
  ·rw [du q] at e;exact .inl e
def Tr (h:Heap) (a:Addr) (cls:Value) (dx:Option Addr) (T:Addr) (fl:Value):Prop:=
 ∃ oe vs oT ts,h.get? a=some oe∧(oe.cls=cls∧oe.dict=dx)∧oe.data = .fields vs∧vs[1]? = some (.ref T)∧T≠a∧h.get? T=some oT∧oT.data = .fields ts∧ts[3]? = some fl
def Rw (h:Heap) (a:Addr) (cls:Value) (dx:Option Addr):Prop:=∃ oe vs,h.get? a=some oe∧(oe.cls=cls∧oe.dict=dx)∧oe.data = .fields vs∧vs[1]? = some .none
def XR (W:Wd) (z:Z) (c:Nat) (l:List D) (cls:Value) (dx:Option Addr):Prop:=∃ i,W.ci[c]? = some i∧W.what[c]? = some 2∧cls = .ref i.ad∧l.length≤i.nm.length ∧
 ((l = []∧dx=none)∨∃ d od vs,dx=some d∧z.G d=some od∧NsO od (i.nm.zip vs)∧RDs W z.ρ z.G l vs)
def Nob (X:Cx) (z z':Z) (a:Addr):Prop:=z.h a=none∧Fre X z' a∧¬ Own z' a
def XO (X:Cx) (z z':Z) (c:Nat) (l:List D) (e:Value):Prop:=∃ a cls dx,e = .ref a∧XR X.W z' c l cls dx∧Nob X z z' a ∧
 (Rw z'.s.heap a cls dx∨∃ T fl,Tr z'.s.heap a cls dx T fl∧(fl = .none∨fl=rawInt X.env.locals)∧Nob X z z' T)
theorem XO.less (h:XO X z1 z' c l e) (k:∀ a,z1.h a=none→z.h a=none):XO X z z' c l e:=by
 obtain ⟨a,cls,dx,e,r,n,h⟩:=h
 exact ⟨a,cls,dx,e,r,⟨k a n.1,n.2⟩,h.imp_right fun ⟨T,fl,t,q,n⟩=>⟨T,fl,t,q,k T n.1,n.2⟩⟩
section
variable {α β γ δ:Type} {X:Cx}
def Pe (X:Cx) (z:Z) (o:Out α) (R:Z→α→β→Prop) (u:β) (s':Shared):Prop:=∃ z' d,z'.s=s'∧o = .ok d z'.t∧Ee X z z'∧Rep X z'∧R z' d u
def Px (X:Cx) (z:Z) (o:Out α) (x:Value) (s':Shared):Prop:=∃ z' c l,z'.s=s'∧o = .exc c l z'.t∧Ee X z z'∧Rep X z'∧XO X z z' c l x
abbrev Wp (X:Cx) (t:Sem β) (z:Z) (o:Out α) (R:Z→α→β→Prop):Prop:=wpAny X.M X.A t (Pe X z o R) (Px X z o) z.s
def Jg (X:Cx) (t:Sem β) (m:Sta→Out α) (R:Z→α→β→Prop):Prop:=∀ z,Rep X z→m z.t≠.bad→Wp X t z (m z.t) R
theorem Pe.less {z1:Z} {o:Out α} {R:Z→α→β→Prop} (x:Ee X z z1) (h:Pe X z1 o R u s'):Pe X z o R u s':=let ⟨z',d,e,q,y,r⟩:=h;⟨z',d,e,q,x.trans y,r⟩
theorem Px.less {z1:Z} {o:Out α} (x:Ee X z z1) (h:Px X z1 o u s'):Px X z o u s':=let ⟨z',c,l,e,q,y,r,n⟩:=h;⟨z',c,l,e,q,x.trans y,r,n.less fun _=>x.st.no⟩
theorem Px.map {o:Out α} {f:α→Sta→Out γ} (h:Px X z o u s'):Px X z (o.bind f) u s':=let ⟨z',c,l,e,q,r⟩:=h;⟨z',c,l,e,by rw [q];rfl,r⟩
theorem Wp.less {t:Sem β} {z1:Z} {o:Out α} {R:Z→α→β→Prop} (x:Ee X z z1) (h:Wp X t z1 o R):wpAny X.M X.A t (Pe X z o R) (Px X z o) z1.s:=wpAny_mono h (fun _ _ h=>h.less x) fun _ _ h=>h.less x
theorem Jg.go {t:Sem β} {m:Sta→Out α} {R:Z→α→β→Prop} {f:α→Sta→Out γ} {o:Out γ} {K:β→Shared→Prop} (h:Jg X t m R) (x:Ee X z z1) (I:Rep X z1) (e:o=(m z1.t).bind f) (nb:o≠.bad)
 (k:∀ z2 d u,Ee X z1 z2→Ee X z z2→Rep X z2→R z2 d u→o=f d z2.t→K u z2.s):wpAny X.M X.A t K (Px X z o) z1.s:=by
 subst e
 refine wpAny_mono (h z1 I fun q=>nb (by rw [q];rfl)) (fun u s' ⟨z2,d,e,q,y,I1,r⟩=>?_) fun u s' h=>(h.less x).map
 subst e;exact k z2 d u y (x.trans y) I1 r (by rw [q];rfl)
theorem Jg.at {t:Sem β} {m:Sta→Out α} {R:Z→α→β→Prop} {o:Out α} (h:Jg X t m R) (x:Ee X z z1) (I:Rep X z1) (e:o=m z1.t) (nb:o≠.bad):wpAny X.M X.A t (Pe X z o R) (Px X z o) z1.s:=by subst e;exact (h z1 I nb).less x
def Dn (X:Cx) (z:Z) (d:D) (u:Value) (s':Shared):Prop:=Gr z.s s'∧RD X.W z.ρ (z.up s').G d u
theorem Dn.pe (I:Rep X z) (h:Dn X z d u s'):Pe X z (.ok d z.t) (RV X.W br c) u s':=⟨z.up s',d,rfl,rfl,(cS I.gh h.1).ee,I.grow (cS I.gh h.1),.of h.2⟩
theorem Dn.flat {s':Shared} (g:Gr z.s s') (h:∀ G,RD X.W z.ρ G d u):Dn X z d u s':=⟨g,h _⟩
theorem Dn.old (I:Rep X z) {s':Shared} (g:Gr z.s s') (h:RD X.W z.ρ z.G d u):Dn X z d u s':=⟨g,h.mono (List.prefix_refl _) (cS I.gh g).gg⟩
theorem Dn.at (x:Ee X z0 z) (I:Rep X z) (e:o = .ok d z.t) (h:Dn X z d u s'):Pe X z0 o (RV X.W br c) u s':=e ▸ (h.pe I).less x
theorem cU {t:Sem Value} {o:Out D} (x:Ee X z0 z) (I:Rep X z) (e:o=Out.of z.t od) (nb:o≠.bad) (h:∀ d,od=some d→wpAny X.M X.A t (Dn X z d) (fun _ _=>False) z.s):wpAny X.M X.A t (Pe X z0 o (RV X.W br c)) (Px X z0 o) z.s:=by
 cases od with
 | none=>exact absurd e nb
 | some d=>exact wpAny_mono (h d rfl) (fun _ _ h=>h.at x I e) fun _ _ z=>z.elim
end
theorem big (h:n≤100000):n≤sizeLine:=Nat.le_trans h (by rw [sizeLine_eq];decide)
theorem km:∀ {ds es} {b},cV f ds es=some b→(∀ j (h1:j<ds.length) (h2:j<es.length),∃ c,f ds[j] es[j]=some c)∧b=(List.range (min ds.length es.length)).all fun j=>(f (ds[j]?.getD .non) (es[j]?.getD .non)).getD false
 | [],es,b,h=>by cases h;exact ⟨fun j h=>absurd h (Nat.not_lt_zero _),by simp⟩
 | d :: ds,[],b,h=>by cases h;exact ⟨fun j _ h=>absurd h (Nat.not_lt_zero _),by simp⟩
 | d :: ds,e :: es,b,h=>by
   unfold cV at h
   cases q:f d e with
   | none=>rw [q] at h;cases h
   | some x=>
     rw [q] at h
     cases q2:cV f ds es with
     | none=>rw [q2] at h;cases h
     | some y=>
       rw [q2] at h
       cases h
       obtain ⟨i1,i2⟩:=km q2
       refine ⟨fun j h1 h2=>?_,?_⟩
       ·cases j with
        | zero=>exact ⟨x,q⟩
        | succ j=>exact i1 j (Nat.lt_of_succ_lt_succ h1) (Nat.lt_of_succ_lt_succ h2)
       ·have m:min (d :: ds).length (e :: es).length=min ds.length es.length+1:=by simp only [List.length_cons];omega
        rw [m,List.range_succ_eq_map,List.all_cons,List.all_map,i2]
        simp only [List.getElem?_cons_zero,Option.getD_some,q]
        rfl
theorem yD (f:sh d=1):∃ l,d = .tup l:=by cases d <;> first | exact ⟨_,rfl⟩ | cases f
theorem yC (f:sh d=2):∃ l,d = .lst l:=by cases d <;> first | exact ⟨_,rfl⟩ | cases f
theorem wt (d:D):sh d<4:=by cases d <;> exact Nat.le_of_ble_eq_true rfl
theorem yE:∀ x y:Fin 4,¬ (x.1=3∨y.1=3)→¬ (x.1=0∧y.1=0)→¬ x.1=y.1→(x.1=0∧(y.1=1∨y.1=2))∨((x.1=1∨x.1=2)∧y.1=0)∨(x.1=1∧y.1=2)∨(x.1=2∧y.1=1):=by decide +kernel
theorem qA (h:eq0 d e=some b):(sh d=0∧sh e=0∧b=eqf d e)∨(b=false∧((sh d=0∧(sh e=1∨sh e=2))∨((sh d=1∨sh d=2)∧sh e=0)∨(sh d=1∧sh e=2)∨(sh d=2∧sh e=1))):=by
 unfold eq0 at h
 split at h
 ·cases h
 ·rename_i h3
  split at h
  ·rename_i h0;cases h;exact .inl ⟨h0.1,h0.2,rfl⟩
  ·split at h
   ·cases h
   ·cases h
    refine .inr ⟨rfl,?_⟩
    rename_i h0 h1
    exact yE ⟨sh d,wt d⟩ ⟨sh e,wt e⟩ h3 h0 h1
theorem pw (h:eqv (n+1) d e=some b):(∃ da db y,d = .tup da∧e = .tup db∧cV (eqv n) da db=some y∧b=(y && da.length == db.length)) ∨
 (∃ da db,d = .lst da∧e = .lst db∧((da.length=db.length∧cV (eqv n) da db=some b)∨(da.length≠db.length∧b=false)))∨eq0 d e=some b:=by
 cases d with
 | tup da=>cases e with
   | tup db=>
     obtain ⟨y,a,c⟩:=Option.map_eq_some_iff.mp (show (cV (eqv n) da db).map (· && da.length == db.length)=some b from h)
     exact .inl ⟨da,db,y,rfl,rfl,a,c.symm⟩
   | _=>exact .inr (.inr h)
 | lst da=>cases e with
   | lst db=>
     have h':(if da.length=db.length then cV (eqv n) da db else some false)=some b:=h
     split at h'
     ·rename_i z;exact .inr (.inl ⟨da,db,rfl,rfl,.inl ⟨z,h'⟩⟩)
     ·rename_i z;cases h';exact .inr (.inl ⟨da,db,rfl,rfl,.inr ⟨z,rfl⟩⟩)
   | _=>exact .inr (.inr h)
 | _=>exact .inr (.inr h)
open SeqAt
def E3 (A:Around) (s:Shared) (u v:Value) (b:Bool):Prop:=EqAt A s u v b∧RcAt A s u v b∧RcNeAt A s u v (!b)
theorem tQ (f1:sh d=0) (f2:sh e=0) (h1:RD W ρ G d u) (h2:RD W ρ G e v):(u=v→eqf d e=true)∧∀ A s,E3 A s u v (eqf d e):=by
 cases d with
 | non=>
   cases (show u=Value.none from h1)
   cases e with
   | non=>cases (show v=Value.none from h2);exact ⟨fun _=>rfl,fun A s=>⟨.same _,.none_none,.none_none⟩⟩
   | bl b=>cases (show v=Value.bool b from h2);exact ⟨nofun,fun A s=>⟨.none_bool _,.none_bool _,.none_bool _⟩⟩
   | int b=>obtain ⟨t,rfl⟩:=(show ∃ t,v=Value.int b t from h2);exact ⟨nofun,fun A s=>⟨.none_int _ _,.none_int _ _,.none_int _ _⟩⟩
   | str b=>obtain ⟨t,rfl⟩:=(show ∃ t,v=Value.str b t from h2);exact ⟨nofun,fun A s=>⟨.none_str _ _,.none_str _ _,.none_str _ _⟩⟩
   | _=>cases f2
 | bl a=>
   cases (show u=Value.bool a from h1)
   cases e with
   | non=>cases (show v=Value.none from h2);exact ⟨nofun,fun A s=>⟨.bool_none _,.bool_none _,.bool_none _⟩⟩
   | bl b=>cases (show v=Value.bool b from h2);exact ⟨fun z=>by cases z;exact beq_self_eq_true a,fun A s=>⟨.bool_bool _ _,.bool_bool _ _,.bool_bool _ _⟩⟩
   | int b=>obtain ⟨t,rfl⟩:=(show ∃ t,v=Value.int b t from h2);exact ⟨nofun,fun A s=>⟨.bool_int _ _ _,.bool_int _ _ _,.bool_int _ _ _⟩⟩
   | str b=>obtain ⟨t,rfl⟩:=(show ∃ t,v=Value.str b t from h2);exact ⟨nofun,fun A s=>⟨.bool_str _ _ _,.bool_str _ _ _,.bool_str _ _ _⟩⟩
   | _=>cases f2
 | int a=>
   obtain ⟨t,rfl⟩:=(show ∃ t,u=Value.int a t from h1)
   cases e with
   | non=>cases (show v=Value.none from h2);exact ⟨nofun,fun A s=>⟨.int_none _ _,.int_none _ _,.int_none _ _⟩⟩
   | bl b=>cases (show v=Value.bool b from h2);exact ⟨nofun,fun A s=>⟨.int_bool _ _ _,.int_bool _ _ _,.int_bool _ _ _⟩⟩
   | int b=>obtain ⟨t,rfl⟩:=(show ∃ t,v=Value.int b t from h2);exact ⟨fun z=>by cases z;exact beq_self_eq_true a,fun A s=>⟨.int_int _ _ _ _,.int_int _ _ _ _,.int_int _ _ _ _⟩⟩
   | str b=>obtain ⟨t,rfl⟩:=(show ∃ t,v=Value.str b t from h2);exact ⟨nofun,fun A s=>⟨.int_str _ _ _ _,.int_str _ _ _ _,.int_str _ _ _ _⟩⟩
   | _=>cases f2
 | str a=>
   obtain ⟨t,rfl⟩:=(show ∃ t,u=Value.str a t from h1)
   cases e with
   | non=>cases (show v=Value.none from h2);exact ⟨nofun,fun A s=>⟨.str_none _ _,.str_none _ _,.str_none _ _⟩⟩
   | bl b=>cases (show v=Value.bool b from h2);exact ⟨nofun,fun A s=>⟨.str_bool _ _ _,.str_bool _ _ _,.str_bool _ _ _⟩⟩
   | int b=>obtain ⟨t,rfl⟩:=(show ∃ t,v=Value.int b t from h2);exact ⟨nofun,fun A s=>⟨.str_int _ _ _ _,.str_int _ _ _ _,.str_int _ _ _ _⟩⟩
   | str b=>obtain ⟨t,rfl⟩:=(show ∃ t,v=Value.str b t from h2);exact ⟨fun z=>by cases z;exact beq_self_eq_true a,fun A s=>⟨.str_str _ _ _ _,.str_str _ _ _ _,.str_str _ _ _ _⟩⟩
   | _=>cases f2
 | _=>cases f1
theorem jl {s:Shared} (f:sh d=0) (h:RD W ρ G d u) (hu:A.units<cLine):(∀ b,u≠.ref b)∧∀ b its,(s.heap.IsTuple b its∨s.heap.IsList b its)→E3 A s u (.ref b) false∧E3 A s (.ref b) u false:=by
 cases d with
 | non=>cases (show u=Value.none from h);exact ⟨nofun,fun b its p=>p.elim (fun p=>⟨⟨.none_tuple p hu,.none_tuple p hu,.none_tuple p hu⟩,.tuple_none p hu,.tuple_none p hu,.tuple_none p hu⟩) fun p=>⟨⟨.none_list p hu,.none_list p hu,.none_list p hu⟩,.list_none p hu,.list_none p hu,.list_none p hu⟩⟩
 | bl k=>cases (show u=Value.bool k from h);exact ⟨nofun,fun b its p=>p.elim (fun p=>⟨⟨.bool_tuple k p hu,.bool_tuple k p hu,.bool_tuple k p hu⟩,.tuple_bool k p hu,.tuple_bool k p hu,.tuple_bool k p hu⟩) fun p=>⟨⟨.bool_list k p hu,.bool_list k p hu,.bool_list k p hu⟩,.list_bool k p hu,.list_bool k p hu,.list_bool k p hu⟩⟩
 | int k=>obtain ⟨t,rfl⟩:=(show ∃ t,u=Value.int k t from h);exact ⟨nofun,fun b its p=>p.elim (fun p=>⟨⟨.int_tuple k t p hu,.int_tuple k t p hu,.int_tuple k t p hu⟩,.tuple_int k t p hu,.tuple_int k t p hu,.tuple_int k t p hu⟩) fun p=>⟨⟨.int_list k t p hu,.int_list k t p hu,.int_list k t p hu⟩,.list_int k t p hu,.list_int k t p hu,.list_int k t p hu⟩⟩
 | str k=>obtain ⟨t,rfl⟩:=(show ∃ t,u=Value.str k t from h);exact ⟨nofun,fun b its p=>p.elim (fun p=>⟨⟨.str_tuple k t p hu,.str_tuple k t p hu,.str_tuple k t p hu⟩,.tuple_str k t p hu,.tuple_str k t p hu,.tuple_str k t p hu⟩) fun p=>⟨⟨.str_list k t p hu,.str_list k t p hu,.str_list k t p hu⟩,.list_str k t p hu,.list_str k t p hu,.list_str k t p hu⟩⟩
 | _=>cases f
theorem CR.fl (f:sh d=0) (h:CR W z d u):RD W z.ρ z.G d u:=by cases d <;> first | exact h | cases f
theorem tpt {h:Heap} (e:h.get? a=some o) (t:TpO o l):h.IsTuple a l.toArray:=⟨o,e,t.1,t.2.1⟩
theorem lsl {h:Heap} (e:h.get? a=some o) (t:LsO o l):h.IsList a l.toArray:=by obtain ⟨⟨n,rfl⟩,_⟩:=t;exact ⟨_,e,rfl,n,rfl⟩
theorem E3.refs (ne:l=b→k=true) (h:RcAt A s (.ref l) (.ref b) k) (h2:RcNeAt A s (.ref l) (.ref b) (!k)):E3 A s (.ref l) (.ref b) k:=by
 refine ⟨?_,h,h2⟩
 by_cases q:l=b
 ·subst q;rw [ne rfl];exact .same _
 ·exact .of_refs q h
theorem e3 (I:HR X z):∀ (n:Nat) {d e u v b},eqv n d e=some b→CR X.W z d u→CR X.W z e v→(u=v→b=true)∧∀ A,A.units+n+1<cLine→E3 A z.s u v b:=by
 have low:∀ {d e u v b},eq0 d e=some b→CR X.W z d u→CR X.W z e v→(u=v→b=true)∧∀ A,A.units<cLine→E3 A z.s u v b:=by
  intro d e u v b h h1 h2
  have it:∀ {d:D} {u:Value},(sh d=1∨sh d=2)→CR X.W z d u→∃ a its,u = .ref a∧((sh d=1∧z.s.heap.IsTuple a its)∨(sh d=2∧z.s.heap.IsList a its)):=fun {d u} f h=>by
   rcases f with f | f
   ·obtain ⟨l,rfl⟩:=yD f;obtain ⟨a,o,vs,rfl,e,t,_⟩:=h;exact ⟨a,_,rfl,.inl ⟨rfl,tpt (I.gh _ _ e) t⟩⟩
   ·obtain ⟨l,rfl⟩:=yC f;obtain ⟨a,o,vs,rfl,e,t,_⟩:=h;exact ⟨a,_,rfl,.inr ⟨rfl,lsl e t⟩⟩
  rcases qA h with ⟨f1,f2,rfl⟩ | ⟨rfl,c⟩
  ·obtain ⟨p,q⟩:=tQ f1 f2 (h1.fl f1) (h2.fl f2);exact ⟨p,fun A _=>q A _⟩
  ·rcases c with ⟨c1,c2⟩ | ⟨c1,c2⟩ | ⟨c1,c2⟩ | ⟨c1,c2⟩
   ·obtain ⟨a,its,rfl,w⟩:=it c2 h2
    have w:=w.imp And.right And.right
    exact ⟨fun q=>absurd q ((jl (s:=z.s) (A:={ }) c1 (h1.fl c1) (by decide)).1 a),fun A hu=>((jl c1 (h1.fl c1) hu).2 a its w).1⟩
   ·obtain ⟨a,its,rfl,w⟩:=it c1 h1
    have w:=w.imp And.right And.right
    exact ⟨fun q=>absurd q.symm ((jl (s:=z.s) (A:={ }) c2 (h2.fl c2) (by decide)).1 a),fun A hu=>((jl c2 (h2.fl c2) hu).2 a its w).2⟩
   ·obtain ⟨a,i1,rfl,w1⟩:=it (.inl c1) h1
    obtain ⟨b,i2,rfl,w2⟩:=it (.inr c2) h2
    have w1:=w1.resolve_right fun z=>by omega
    have w2:=w2.resolve_left fun z=>by omega
    exact ⟨fun q=>absurd (Value.ref.inj q).symm (ne_of_list_tuple w2.2 w1.2),fun A hu=>⟨.tuple_list w1.2 w2.2 hu,.tuple_list w1.2 w2.2 hu,.tuple_list w1.2 w2.2 hu⟩⟩
   ·obtain ⟨a,i1,rfl,w1⟩:=it (.inr c1) h1
    obtain ⟨b,i2,rfl,w2⟩:=it (.inl c2) h2
    have w1:=w1.resolve_left fun z=>by omega
    have w2:=w2.resolve_right fun z=>by omega
    exact ⟨fun q=>absurd (Value.ref.inj q) (ne_of_list_tuple w1.2 w2.2),fun A hu=>⟨.list_tuple w1.2 w2.2 hu,.list_tuple w1.2 w2.2 hu,.list_tuple w1.2 w2.2 hu⟩⟩
 intro n
 induction n with
 | zero=>intro d e u v b h h1 h2;obtain ⟨p,q⟩:=low h h1 h2;exact ⟨p,fun A hu=>q A (by omega)⟩
 | succ n ih=>
   intro d e u v b h h1 h2
   have items:∀ {da db:List D} {vs ws:List Value} {y:Bool},cV (eqv n) da db=some y→RDs X.W z.ρ z.G da vs→RDs X.W z.ρ z.G db ws→(vs=ws→y=true)∧∃ f:Nat→Bool,(List.range (min vs.toArray.size ws.toArray.size)).all f=y∧∀ A,A.units+n+1<cLine→∀ j (h1:j<vs.toArray.size) (h2:j<ws.toArray.size),EqAt A z.s vs.toArray[j] ws.toArray[j] (f j):=by
    intro da db vs ws y q r1 r2
    obtain ⟨q1,q2⟩:=km q
    have l3:=r1.len
    have l4:=r2.len
    have one:∀ j (h1:j<vs.length) (h2:j<ws.length),∃ c,(eqv n (da[j]?.getD .non) (db[j]?.getD .non)).getD false=c∧(vs[j]=ws[j]→c=true)∧∀ A,A.units+n+1<cLine→EqAt A z.s vs[j] ws[j] c:=fun j h1 h2=>by
     have e1:=List.getElem?_eq_getElem (l:=da) (i:=j) (by omega)
     have e2:=List.getElem?_eq_getElem (l:=db) (i:=j) (by omega)
     obtain ⟨x1,f1,w1⟩:=r1.get e1
     obtain ⟨y1,f2,w2⟩:=r2.get e2
     rw [List.getElem?_eq_getElem h1] at f1;rw [List.getElem?_eq_getElem h2] at f2;cases f1;cases f2
     obtain ⟨c,hc⟩:=q1 j (by omega) (by omega)
     obtain ⟨p,q⟩:=ih hc (.of I w1) (.of I w2)
     exact ⟨c,by rw [e1,e2];simp only [Option.getD_some,hc],p,fun A hu=>(q A hu).1⟩
    refine ⟨fun q=>?_,fun j=>(eqv n (da[j]?.getD .non) (db[j]?.getD .non)).getD false,?_,fun A hu j h1 h2=>?_⟩
    ·subst q
     rw [q2,List.all_eq_true]
     intro j hj
     have hj:=List.mem_range.mp hj
     obtain ⟨c,e,p,_⟩:=one j (by omega) (by omega)
     rw [e];exact p rfl
    ·rw [q2,List.size_toArray,List.size_toArray,← l3,← l4]
    ·rw [List.size_toArray] at h1 h2
     obtain ⟨c,e,_,p⟩:=one j h1 h2
     show EqAt A z.s vs[j] ws[j] ((eqv n (da[j]?.getD .non) (db[j]?.getD .non)).getD false)
     rw [e];exact p A hu
   rcases pw h with ⟨da,db,y,rfl,rfl,q,rfl⟩ | ⟨da,db,rfl,rfl,q⟩ | h
   ·obtain ⟨a,o,vs,rfl,t,to,r1⟩:=h1
    obtain ⟨a',o',ws,rfl,t',to',r2⟩:=h2
    obtain ⟨sm,f,val,its⟩:=items q r1 r2
    have l3:=r1.len
    have l4:=r2.len
    have same:a=a'→(y && da.length == db.length)=true:=fun z=>by
     subst z
     rw [t] at t';cases t'
     obtain ⟨n1,e1⟩:=to.2.1
     obtain ⟨n2,e2⟩:=to'.2.1
     rw [e1] at e2
     injection e2 with e2
     have e:vs=ws:=by simpa using congrArg Array.toList e2
     rw [sm e,l3,l4,e];simp
    have lz:(vs.toArray.size == ws.toArray.size)=(da.length == db.length):=by rw [l3,l4];rfl
    refine ⟨fun z=>same (Value.ref.inj z),fun A hu=>.refs same ?_ ?_⟩
    ·rw [← val,← lz];exact .tuples (tpt (I.gh _ _ t) to) (tpt (I.gh _ _ t') to') (by omega) (its _ (show A.units+1+n+1<cLine by omega))
    ·rw [← val,← lz];exact .tuples (tpt (I.gh _ _ t) to) (tpt (I.gh _ _ t') to') (by omega) (its _ (show A.units+1+n+1<cLine by omega))
   ·obtain ⟨a,o,vs,rfl,t,to,r1⟩:=h1
    obtain ⟨a',o',ws,rfl,t',to',r2⟩:=h2
    have l3:=r1.len
    have l4:=r2.len
    have sv:a=a'→vs=ws:=fun z=>by
     subst z
     rw [t] at t';cases t'
     obtain ⟨⟨n1,rfl⟩,_⟩:=to
     obtain ⟨⟨n2,e2⟩,_⟩:=to'
     injection e2 with _ _ e2
     injection e2 with e2
     simpa using congrArg Array.toList e2
    rcases q with ⟨hl,q⟩ | ⟨hl,rfl⟩
    ·obtain ⟨sm,f,val,its⟩:=items q r1 r2
     have m:min vs.toArray.size ws.toArray.size=vs.toArray.size:=by simp;omega
     rw [m] at val
     refine ⟨fun z=>sm (sv (Value.ref.inj z)),fun A hu=>.refs (fun z=>sm (sv z)) ?_ ?_⟩
     ·rw [← val];exact .lists (lsl t to) (lsl t' to') (by simp;omega) (by omega) (its _ (show A.units+1+n+1<cLine by omega))
     ·rw [← val];exact .lists (lsl t to) (lsl t' to') (by simp;omega) (by omega) (its _ (show A.units+1+n+1<cLine by omega))
    ·have ne:a=a'→false=true:=fun z=>by rw [sv z] at l3;omega
     exact ⟨fun z=>ne (Value.ref.inj z),fun A hu=>.refs ne (.lists_lengths (lsl t to) (lsl t' to') (by simp;omega) (by omega)) (.lists_lengths (lsl t to) (lsl t' to') (by simp;omega) (by omega))⟩
   ·obtain ⟨p,q⟩:=low h h1 h2;exact ⟨p,fun A hu=>q A (by omega)⟩
theorem nu:∀ {l} {b},inD d l=some b→(∀ j (h:j<l.length),∃ c,eqv 55 l[j] d=some c)∧b=l.any fun e=>(eqv 55 e d).getD false
 | [],b,h=>by cases h;exact ⟨fun j h=>absurd h (Nat.not_lt_zero _),rfl⟩
 | e :: r,b,h=>by
   unfold inD at h
   cases q:eqv 55 e d with
   | none=>rw [q] at h;cases h
   | some x=>
     rw [q] at h
     obtain ⟨y,q2,rfl⟩:=Option.map_eq_some_iff.mp h
     obtain ⟨i1,i2⟩:=nu q2
     refine ⟨fun j h=>?_,by rw [List.any_cons,q,i2];rfl⟩
     cases j with
     | zero=>exact ⟨x,q⟩
     | succ j=>exact i1 j (Nat.lt_of_succ_lt_succ h)
theorem d8 (I:HR X z) (hu:A.units+57<cLine) (q:inD d l=some b) (r:RDs X.W z.ρ z.G l vs) (hd:CR X.W z d v):∃ e:Value→Bool,(∀ y,y∈vs.toArray→EqAt A z.s y v (e y))∧vs.toArray.any e=b:=by
 obtain ⟨q1,q2⟩:=nu q
 have l3:=r.len
 have eqs:∀ j (h1:j<vs.length) (h2:j<l.length),EqAt A z.s vs[j] v ((eqv 55 l[j] d).getD false):=fun j h1 h2=>by
  obtain ⟨x1,e1,w1⟩:=r.get (List.getElem?_eq_getElem h2)
  rw [List.getElem?_eq_getElem h1] at e1;cases e1
  obtain ⟨c,hc⟩:=q1 j h2
  rw [hc]
  exact ((e3 I 55 hc (.of I w1) hd).2 A (by omega)).1
 have cl:∀ y,Decidable (∃ j,∃ (h1:j<vs.length) (h2:j<l.length),vs[j]=y∧(eqv 55 l[j] d).getD false=true):=fun y=>Classical.propDecidable _
 refine ⟨fun y=>@decide _ (cl y),fun y hy=>?_,?_⟩
 ·rcases Classical.em (∃ j,∃ (h1:j<vs.length) (h2:j<l.length),vs[j]=y∧(eqv 55 l[j] d).getD false=true) with c | c
  ·obtain ⟨j,h1,h2,e,t⟩:=id c
   have w:=eqs j h1 h2
   rw [e,t] at w
   dsimp only
   rw [show @decide _ (cl y)=true from @decide_eq_true _ (cl y) c]
   exact w
  ·obtain ⟨j,h1,e⟩:=List.getElem_of_mem (by simpa using hy)
   have w:=eqs j h1 (by omega)
   have t:(eqv 55 l[j] d).getD false=false:=Bool.eq_false_iff.mpr fun t=>c ⟨j,h1,by omega,e,t⟩
   rw [t,e] at w
   dsimp only
   rw [show @decide _ (cl y)=false from @decide_eq_false _ (cl y) c]
   exact w
 ·rw [q2,List.any_toArray,Bool.eq_iff_iff,List.any_eq_true,List.any_eq_true]
  constructor
  ·rintro ⟨y,hy,t⟩
   obtain ⟨j,h1,h2,e,t⟩:=@of_decide_eq_true _ (cl _) t
   exact ⟨l[j],List.getElem_mem h2,t⟩
  ·rintro ⟨e,he,t⟩
   obtain ⟨j,h2,rfl⟩:=List.getElem_of_mem he
   exact ⟨vs[j]'(by omega),List.getElem_mem _,@decide_eq_true _ (cl _) ⟨j,by omega,h2,rfl,t⟩⟩
end L2.Ev
end
section
namespace HT
section
variable {prog:Program} {w:World} {A:Around} {E:Value→Shared→Prop} {s:Shared}
theorem getItem_tuple_all {lo hi:Option Int} {Q:Value→Shared→Prop} (ht:IsTup s.heap t items) (hs:s.heap.IsSliceOf sl vl vu .none) (pl:IsPart vl lo) (pu:IsPart vu hi)
 (hw:sIx items.size 0 lo=0∧sIx items.size items.size hi=items.size) (h:Q (.ref t) s):wpAny (model prog w) A (getItem (.ref t) (.ref sl)) Q E s:=by
 obtain ⟨os,hos,hcs,hds⟩:=id hs
 have hTs:s.TypeIs (.ref sl) "slice":=⟨os,hos,hcs⟩
 unfold getItem
 try with_reducible refine wpAny_holding ?_
 first | refine wpAny_bind (wpAny_pure ?_) | skip
 refine wpAny_bind (wpAny_sequenceKey ht.typeIs (by decide) ?_)
 refine wpAny_bind (wpAny_callSpecial?_slot (name:=Str.ofString "__getitem__") ht.typeIs PyProof.Rows.slot_tuple_getitem
  (wpAny_call_entry PyProof.Rows.slot_tuple_getitem ht.typeIs entry_tuple_getitem ?_ (args_tuple_getitem _ _)))
 show wpAny _ _ (Builtin.Tuple.tupleItemsOf (.ref t) >>= _) _ _ s
 refine wpAny_bind (tupleItemsOf_ ht ?_)
 refine wpAny_bind (wpAny_typeOf hTs ?_)
 rw [if_pos (by decide)]
 refine wpAny_bind (cI hs pl pu ?_)
 have hyes:(((sIx items.size 0 lo:Nat):Int) == 0 && (1:Int) == 1 && (sIx items.size items.size hi - sIx items.size 0 lo) == items.size)=true:=by
  rw [hw.1,hw.2]
  simp
 show wpAny _ _ (if (((sIx items.size 0 lo:Nat):Int) == 0 && (1:Int) == 1 && (sIx items.size items.size hi - sIx items.size 0 lo) == items.size)=true then _ else _) _ _ s
 rw [if_pos hyes]
 show wpAny _ _ (Builtin.Tuple.tupleIsExact (.ref t) >>= _) _ _ s
 refine wpAny_bind ?_
 unfold Builtin.Tuple.tupleIsExact
 refine wpAny_bind (wpAny_typeOf ht.typeIs (wpAny_pure ?_))
 rw [if_pos (by decide)]
 refine wpAny_bind (wpAny_rule ?_)
 first
  | exact wpAny_pure ⟨_,rfl,wpAny_pure h⟩
  | exact wpAny_bind (wpAny_pure (wpAny_pure ⟨_,rfl,wpAny_pure h⟩))
  | exact wpAny_bind (wpAny_bind (wpAny_pure (wpAny_pure ⟨_,rfl,wpAny_pure h⟩)))
end
end HT
namespace L2.Ev
abbrev NoE:Value→Shared→Prop:=fun _ _=>False
theorem bg {c:Prop} [Decidable c] {a d:α} (e:(if c then some a else none)=some d):c∧a=d:=by
 by_cases h:c
 ·rw [if_pos h] at e;exact ⟨h,Option.some.inj e⟩
 ·rw [if_neg h] at e;cases e
section
variable {X:Cx} {z:Z}
theorem aH (z:Z):z.h z.s.heap.objs.size=none:=Heap.get?_none_of_le (Nat.le_refl _)
theorem Dn.tok {n:Nat} (h:∀ W ρ G,RD W ρ G d u):Dn X z d u { z.s with toks:=n }:=⟨.tok,h ..⟩
theorem Dn.tup (I:Rep X z) (r:RDs X.W z.ρ z.G l vs) (g:Gr z.s s') (n:z.h a=none) (e:s'.heap.get? a=some o) (t:TpO o vs):Dn X z (.tup l) (.ref a) s':=
 ⟨g,a,o,vs,rfl,(j7 n).trans e,t,r.mono (List.prefix_refl _) (cS I.gh g).gg⟩
theorem sV (hz:vs.length≤sizeLine):TpO { cls:=.type "tuple",data:=.seq vs.toArray n } vs:=⟨rfl,⟨n,rfl⟩,hz,rfl⟩
theorem Dn.tupn (I:Rep X z) (r:RDs X.W z.ρ z.G l vs) (hz:vs.length≤sizeLine) {n t:Nat}:Dn X z (.tup l) (.ref z.s.heap.objs.size) { z.s with heap:=z.s.heap.push { cls:=.type "tuple",data:=.seq vs.toArray n },toks:=t }:=
 .tup I r .push (aH z) (Heap.get?_push_size _ rfl) (sV hz)
def Dw (X:Cx) (z:Z) (d:D) (u:Value) (s':Shared):Prop:=Gr z.s s'∧∃ a o,u = .ref a∧z.h a=none∧toO d=some o∧ObR X.W z.ρ z.G s'.heap.get? (a,a) o
theorem Dw.dn (I:Rep X z) (h:Dw X z d u s'):Dn X z d u s':=by
 obtain ⟨g,a,o,rfl,n,e,r⟩:=h
 exact ⟨g,jV e r (cS I.gh g).gg (j7 n)⟩
def FV (X:Cx) (z0 z:Z) (d:D) (u:Value):Prop:=∃ a o,u = .ref a∧z0.h a=none∧toO d=some o∧ObR X.W z.ρ z.G z.h (a,a) o∧Fre X z a∧¬ Own z a
theorem Dw.pe (I:Rep X z) (h:Dw X z d u s'):Pe X z (.ok d z.t) (FV X z) u s':=by
 obtain ⟨g,a,o,rfl,n,e,r⟩:=h
 have f:=I.fre n
 exact ⟨{ z with s:=s' },d,rfl,rfl,(aE I.gh g).ee,I.grow (aE I.gh g),a,o,rfl,n,e,r,f⟩
theorem Dw.lst (r:RDs X.W z.ρ z.G l vs) (g:Gr z.s s') (n:z.h a=none) (e:s'.heap.get? a=some { cls:=.type "list",data:=.seq vs.toArray k }) (hz:vs.length≤sizeLine):Dw X z (.lst l) (.ref a) s':=⟨g,a,.lst l,rfl,n,rfl,_,vs,rfl,e,⟨⟨k,rfl⟩,hz⟩,r⟩
theorem Dw.lstn (r:RDs X.W z.ρ z.G l vs) (hz:vs.length≤sizeLine) {n t:Nat}:Dw X z (.lst l) (.ref z.s.heap.objs.size) { z.s with heap:=z.s.heap.push { cls:=.type "list",data:=.seq vs.toArray n },toks:=t }:=.lst r .push (aH z) (Heap.get?_push_size _ rfl) hz
def Op2 (X:Cx) (f:Value→Value→Sem Value) (g:D→D→Option D):Prop:=∀ z u v d1 d2 d,Rep X z→CR X.W z d1 u→CR X.W z d2 v→g d1 d2=some d→wpAny X.M X.A (f u v) (Dn X z d) NoE z.s
theorem zL (ho:o≠.add∧o≠.eq∧o≠.ne∧o≠.isin∧o≠.notin) (e:opD o d1 d2=some d):∃ i j,d1 = .int i∧d2 = .int j∧opI o i j=some d:=by
 obtain ⟨n1,n2,n3,n4,n5⟩:=ho
 unfold opD at e
 split at e
 ·exact absurd rfl n2
 ·exact absurd rfl n3
 ·exact absurd rfl n4
 ·exact absurd rfl n5
 ·split at e
  ·exact ⟨_,_,rfl,rfl,e⟩
  all_goals first | (cases e;done) | (rw [if_neg n1] at e;cases e)
theorem lh {f:Value→Value→Sem Value} (ho:o≠.add∧o≠.eq∧o≠.ne∧o≠.isin∧o≠.notin)
 (rule:∀ (i j:Int) (t u:Tok) (d:D) (s:Shared) (Q:Value→Shared→Prop),opI o i j=some d→(∀ (v:Value) (n:Nat),(∀ W ρ G,RD W ρ G d v)→Q v { s with toks:=n })→wpAny X.M X.A (f (.int i t) (.int j u)) Q NoE s):Op2 X f (opD o):=fun z u v d1 d2 d I h1 h2 e=>by
 obtain ⟨i,j,rfl,rfl,e2⟩:=zL ho e
 obtain ⟨t,rfl⟩:=h1
 obtain ⟨t',rfl⟩:=h2
 exact rule i j t t' d z.s _ e2 fun v n h=>.tok h
theorem yu:Op2 X (binaryOp .Sub) (opD .sub):=lh (by decide) fun _ _ _ _ _ _ _ e k=>by cases e;exact sub_int (k _ _ fun _ _ _=>⟨_,rfl⟩)
theorem yr:Op2 X (binaryOp .Mult) (opD .mul):=lh (by decide) fun _ _ _ _ _ _ _ e k=>by
 obtain ⟨c,rfl⟩:=bg e
 refine mul_int (k _ _ fun _ _ _=>⟨_,rfl⟩) ?_
 rcases c with h | ⟨h1,h2⟩
 ·exact wC.ok h
 ·exact mulOk_of_bits (m:=400) (n:=400) (intBits_le_iff.mpr h1) (intBits_le_iff.mpr h2) (by decide)
theorem u5:Op2 X (binaryOp .FloorDiv) (opD .fdiv):=lh (by decide) fun i j _ _ _ _ _ e k=>by
 obtain ⟨⟨h1,h2⟩,rfl⟩:=bg e
 refine floordiv_int (by omega) (by rw [Int.fdiv_eq_ediv_of_nonneg i (by omega)];exact k _ _ fun _ _ _=>⟨_,rfl⟩) (.inl (PyProof.noPylong_of_log2 ?_))
 have h:j.natAbs.log2<200:=(Nat.log2_lt (by omega)).2 (by omega)
 omega
theorem yq:Op2 X (binaryOp .Mod) (opD .mod):=lh (by decide) fun i j _ _ _ _ _ e k=>by
 obtain ⟨c,rfl⟩:=bg e
 exact mod_int' (by omega) (by rw [Int.fmod_eq_emod_of_nonneg i (by omega)];exact k _ _ fun _ _ _=>⟨_,rfl⟩)
theorem yt:Op2 X (binaryOp .Pow) (opD .pow):=lh (by decide) fun _ _ _ _ _ _ _ e k=>by
 obtain ⟨c,rfl⟩:=bg e;exact pow_int_small c.1 c.2.1 c.2.2 (k _ _ fun _ _ _=>⟨_,rfl⟩)
theorem Aj:Op2 X (compareOp .Lt) (opD .lt):=lh (by decide) fun _ _ _ _ _ s _ e k=>by cases e;exact lt_int (k _ s.toks fun _ _ _=>rfl)
theorem Ah:Op2 X (compareOp .Gt) (opD .gt):=lh (by decide) fun _ _ _ _ _ s _ e k=>by cases e;exact gt_int (k _ s.toks fun _ _ _=>rfl)
theorem Ag:Op2 X (compareOp .GtE) (opD .ge):=lh (by decide) fun _ _ _ _ _ s _ e k=>by cases e;exact ge_int (k _ s.toks fun _ _ _=>rfl)
theorem yp:Op2 X (binaryOp .Add) (opD .add):=fun z u v d1 d2 d I h1 h2 e=>by
 have chk:∀ {n:Nat} {a:D},cD n a=some d→n≤sizeLine∧a=d:=fun e=>let ⟨c,q⟩:=bg e;⟨big c,q⟩
 cases d1 with
 | int i=>cases d2 with
   | int j=>cases e;obtain ⟨t,rfl⟩:=h1;obtain ⟨t',rfl⟩:=h2;exact add_int (.tok fun _ _ _=>⟨_,rfl⟩)
   | _=>cases e
 | str i=>cases d2 with
   | str j=>obtain ⟨hz,rfl⟩:=chk e;obtain ⟨t,rfl⟩:=h1;obtain ⟨t',rfl⟩:=h2;exact add_str (fun t' tk=>.tok fun _ _ _=>⟨_,rfl⟩) hz
   | _=>cases e
 | tup a=>cases d2 with
   | tup b=>
     obtain ⟨hz,rfl⟩:=chk e
     obtain ⟨p,o1,vs,rfl,e1,t1,r1⟩:=id h1
     obtain ⟨q,o2,ws,rfl,e2,t2,r2⟩:=id h2
     have l1:=r1.len
     have l2:=r2.len
     have k1:=tpt (I.gh _ _ e1) t1
     have k2:=tpt (I.gh _ _ e2) t2
     cases vs with
     | nil=>
       cases (show a = [] from List.length_eq_zero_iff.mp l1)
       obtain ⟨⟨cls,dd,data,sl⟩,ho,hc,n,hd⟩:=id k1
       obtain ⟨⟨cls2,dd2,data2,sl2⟩,ho2,hc2,n2,hd2⟩:=id k2
       simp only at hc hd hc2 hd2
       subst hc hd hc2 hd2
       exact concat_meets ⟨_,ho,rfl⟩ ⟨_,ho2,rfl⟩ noFill_tuple_add seq_tuple_add PySem.F.slot_tuple_add PySem.F.entry_tuple_add (PySem.F.args_tuple_add_2 _ _) (tuple_addW0 p q #[] ws.toArray n n2 dd dd2 sl sl2 rfl) ⟨ho,ho2,.old I .refl h2⟩
     | cons v0 vs=>
       refine HT.cat_tup k1 k2 (by simp) (fun w=>?_) (fun _=>.tupn I (r1.app r2) (by rw [List.length_append];omega)) (by omega)
       subst w
       cases (show b = [] from List.length_eq_zero_iff.mp l2)
       rw [List.append_nil]
       exact .old I .refl h1
   | _=>cases e
 | lst a=>cases d2 with
   | lst b=>
     obtain ⟨hz,rfl⟩:=chk e
     obtain ⟨p,o1,vs,rfl,e1,⟨⟨n1,rfl⟩,_⟩,r1⟩:=h1
     obtain ⟨q,o2,ws,rfl,e2,⟨⟨n2,rfl⟩,_⟩,r2⟩:=h2
     have l1:=r1.len
     have l2:=r2.len
     refine PySem.P.add_list e1 e2 ?_ (by rw [List.size_toArray,List.size_toArray];omega)
     rw [show vs.toArray ++ ws.toArray=(vs ++ ws).toArray by simp]
     exact (Dw.lstn (r1.app r2) (by rw [List.length_append];omega)).dn I
   | _=>cases e
 | _=>cases e
end
end L2.Ev
end
section
namespace L2.Ev
open PyProof.Rows.LSm
section
variable {X:Cx} {z:Z}
theorem jG (e:bI d=some k) (h:CR W z d u):(bD P w).is k u=true:=by
 cases d with
 | int i=>cases e;obtain ⟨t,rfl⟩:=h;exact kX P w i t
 | str i=>cases e;obtain ⟨t,rfl⟩:=h;exact kY P w i t
 | _=>cases e
theorem DcO.of {h:Heap} (e:h.get? a=some o) (d:DcO W o l):h.DictOf (bD W.P W.w) a l:=let ⟨es,ep,x,y,a,b,c,_⟩:=d;⟨o,es,ep,e,x,y,a,b,c⟩
theorem eM:∀ {ks} {ds} {vs} {k:Key},ks.length=ds.length→RDs W ρ G ds vs→match bG ks ds k with | some d=>∃ v,valueAt (ks.zip vs) k=some v∧RD W ρ G d v | none=>valueAt (ks.zip vs) k=none
 | [],[],vs,k,_,_=>rfl
 | [],_ :: _,_,_,h,_=>by cases h
 | _ :: _,[],_,_,h,_=>by cases h
 | q :: ks,e :: ds,vs,k,h,r=>by
   obtain ⟨v,ws,rfl,r1,r2⟩:=r
   have ih:=eM (k:=k) (Nat.succ.inj h) r2
   unfold bG
   by_cases c:q=k
   ·rw [if_pos c];exact ⟨v,by simp [valueAt,List.find?_cons,c],r1⟩
   ·rw [if_neg c]
    have n:valueAt ((q :: ks).zip (v :: ws)) k=valueAt (ks.zip ws) k:=by simp [valueAt,List.find?_cons,c]
    rw [n];exact ih
theorem sZ (hl:ks.length=ds.length) (r:RDs W ρ G ds vs) (e:bG ks ds k=some d):∃ v,valueAt (ks.zip vs) k=some v∧RD W ρ G d v:=by have:=eM (k:=k) hl r;rw [e] at this;exact this
theorem sY (hl:ks.length=ds.length) (r:RDs W ρ G ds vs):(valueAt (ks.zip vs) k).isSome=(bG ks ds k).isSome:=by
 have:=eM (k:=k) hl r
 cases q:bG ks ds k with
 | none=>rw [q] at this;rw [this];rfl
 | some d=>rw [q] at this;obtain ⟨v,e,_⟩:=this;rw [e];rfl
theorem iN (h:eqT a b=some r):(∃ ks ds ls es,a = .dic ks ds∧b = .dic ls es∧∃ x,(ks.length=ls.length→qW ls es ks ds=some x)∧r=(ks.length == ls.length && x))∨eqv 55 a b=some r:=by
 unfold eqT at h
 split at h
 ·rename_i ks ds ls es
  refine .inl ⟨ks,ds,ls,es,rfl,rfl,?_⟩
  split at h
  ·rename_i c;exact ⟨r,fun _=>h,by simp [c]⟩
  ·rename_i c;cases h;exact ⟨false,fun z=>absurd z c,by simp⟩
 ·exact .inr h
theorem jv {A:Around} (I:HR X z) (un:A.units+56<cLine) (hl2:ls.length=es.length) (r2:RDs X.W z.ρ z.G es ws):∀ {ks ds vs r},ks.length=ds.length→RDs X.W z.ρ z.G ds vs→qW ls es ks ds=some r→PySem.W.KeqHits A z.s (ls.zip ws) (ks.zip vs) r
 | [],ds,vs,r,_,_,h=>by cases h;exact .nil
 | k :: ks,[],vs,r,hl,_,h=>by cases hl
 | k :: ks,d :: ds,vs,r,hl,r1,h=>by
   obtain ⟨v,vs,rfl,h1,h2⟩:=r1
   unfold qW at h
   have q:=eM (k:=k) hl2 r2
   cases e:bG ls es k with
   | none=>rw [e] at h q;cases h;exact .miss q
   | some y=>
     rw [e] at h q
     obtain ⟨w,e1,e2⟩:=q
     dsimp only at h
     cases e3':eqv 55 d y with
     | none=>rw [e3'] at h;cases h
     | some x=>
       rw [e3'] at h
       obtain ⟨b,hb,rfl⟩:=Option.map_eq_some_iff.mp h
       exact .hit e1 (((e3 I 55 e3' (.of I h1) (.of I e2)).2 A (by omega)).1) (jv I un hl2 r2 (Nat.succ.inj hl) h2 hb)
theorem Af:Op2 X (compareOp .Eq) (opD .eq):=fun z u v d1 d2 d I h1 h2 e=>by
 obtain ⟨b,q,rfl⟩:=Option.map_eq_some_iff.mp (show (eqT d1 d2).map D.bl=some d from e)
 rcases iN q with ⟨ks,ds,ls,es,rfl,rfl,x,q',rfl⟩ | q
 ·obtain ⟨a,o,vs,rfl,m,e1,c1,l1,r1⟩:=h1
  obtain ⟨a',o',ws,rfl,m',e2,c2,l2,r2⟩:=h2
  have n1:(ks.zip vs).length=ks.length:=by rw [List.length_zip,← r1.len,l1,Nat.min_self]
  have n2:(ls.zip ws).length=ls.length:=by rw [List.length_zip,← r2.len,l2,Nat.min_self]
  refine PySem.W.keq_eq m m' (c1.of e1) (c2.of e2) (by have:=I.ok.un;omega) (fun h=>jv I.toHR (by have:=I.ok.un;show X.A.units+1+56<_;omega) l2 r2 l1 r1 (q' (by rw [← n1,← n2];exact h))) (.tok fun _ _ _=>?_)
  rw [n1,n2];rfl
 ·exact ((e3 I.toHR 55 q h1 h2).2 X.A (by have:=I.ok.un;omega)).2.1 _ _ _ _ (.tok fun _ _ _=>rfl)
theorem Ak:Op2 X (compareOp .NotEq) (opD .ne):=fun z u v d1 d2 d I h1 h2 e=>by
 obtain ⟨b,q,rfl⟩:=Option.map_eq_some_iff.mp (show (eqT d1 d2).map (fun x=>D.bl (!x))=some d from e)
 rcases iN q with ⟨ks,ds,ls,es,rfl,rfl,x,q',rfl⟩ | q
 ·obtain ⟨a,o,vs,rfl,m,e1,c1,l1,r1⟩:=h1
  obtain ⟨a',o',ws,rfl,m',e2,c2,l2,r2⟩:=h2
  have n1:(ks.zip vs).length=ks.length:=by rw [List.length_zip,← r1.len,l1,Nat.min_self]
  have n2:(ls.zip ws).length=ls.length:=by rw [List.length_zip,← r2.len,l2,Nat.min_self]
  refine PySem.W.keq_ne m m' (c1.of e1) (c2.of e2) (by have:=I.ok.un;omega) (fun h=>jv I.toHR (by have:=I.ok.un;show X.A.units+1+56<_;omega) l2 r2 l1 r1 (q' (by rw [← n1,← n2];exact h))) (.tok fun _ _ _=>?_)
  rw [n1,n2];rfl
 ·exact ((e3 I.toHR 55 q h1 h2).2 X.A (by have:=I.ok.un;omega)).2.2 _ _ _ _ (.tok fun _ _ _=>rfl)
theorem Ai:Op2 X (compareOp .In) (opD .isin):=fun z u v d1 d2 d I h1 h2 e=>by
 have un:X.A.in1.units+57<cLine:=by have:=I.ok.un;show X.A.units+1+57<_;omega
 cases d2 with
 | str y=>cases d1 with
   | str x=>cases e;obtain ⟨t,rfl⟩:=h1;obtain ⟨t',rfl⟩:=h2;exact SB.contains (.tok fun _ _ _=>rfl)
   | _=>cases e
 | lst l=>
   obtain ⟨b,q,rfl⟩:=Option.map_eq_some_iff.mp (show (inD d1 l).map D.bl=some d from e)
   obtain ⟨a,o,vs,rfl,e1,t,r⟩:=h2
   obtain ⟨f,hf,rfl⟩:=d8 I.toHR un q r h1
   exact SeqAt.in_listAt f (lsl e1 t) hf (.tok fun _ _ _=>rfl)
 | tup l=>
   obtain ⟨b,q,rfl⟩:=Option.map_eq_some_iff.mp (show (inD d1 l).map D.bl=some d from e)
   obtain ⟨a,o,vs,rfl,e1,t,r⟩:=h2
   obtain ⟨f,hf,rfl⟩:=d8 I.toHR un q r h1
   exact SeqAt.in_tupleAt f (tpt (I.gh _ _ e1) t) hf (.tok fun _ _ _=>rfl)
 | dic ks l=>
   obtain ⟨k,q,rfl⟩:=Option.map_eq_some_iff.mp (show ((bI d1).map fun k=>D.bl (bG ks l k).isSome)=some d from e)
   obtain ⟨a,o,vs,rfl,m,e1,t,hl,r⟩:=h2
   exact wpAny_in_of (jG q h1) m (t.of e1).mapOf (by rw [sY hl r];exact .tok fun _ _ _=>rfl)
 | _=>cases e
theorem sC:Op2 X (compareOp .NotIn) (opD .notin):=fun z u v d1 d2 d I h1 h2 e=>by
 have un:X.A.in1.units+57<cLine:=by have:=I.ok.un;show X.A.units+1+57<_;omega
 cases d2 with
 | lst l=>
   obtain ⟨b,q,rfl⟩:=Option.map_eq_some_iff.mp (show (inD d1 l).map (fun x=>D.bl (!x))=some d from e)
   obtain ⟨a,o,vs,rfl,e1,t,r⟩:=h2
   obtain ⟨f,hf,rfl⟩:=d8 I.toHR un q r h1
   exact SeqAt.notIn_listAt f (lsl e1 t) hf (.tok fun _ _ _=>rfl)
 | tup l=>
   obtain ⟨b,q,rfl⟩:=Option.map_eq_some_iff.mp (show (inD d1 l).map (fun x=>D.bl (!x))=some d from e)
   obtain ⟨a,o,vs,rfl,e1,t,r⟩:=h2
   obtain ⟨f,hf,rfl⟩:=d8 I.toHR un q r h1
   exact SeqAt.notIn_tupleAt f (tpt (I.gh _ _ e1) t) hf (.tok fun _ _ _=>rfl)
 | dic ks l=>
   obtain ⟨k,q,rfl⟩:=Option.map_eq_some_iff.mp (show ((bI d1).map fun k=>D.bl (!(bG ks l k).isSome))=some d from e)
   obtain ⟨a,o,vs,rfl,m,e1,t,hl,r⟩:=h2
   exact wpAny_notIn_of (jG q h1) m (t.of e1).mapOf (by rw [sY hl r];exact .tok fun _ _ _=>rfl)
 | _=>cases e
def yV (X:Cx) (z:Z) (u i:Value) (d:D):Prop:=∃ T id,typeLookup (.type T) "__getitem__" = pure (some (.builtin id))∧z.s.TypeIs u T∧wpAny X.M X.A (getItem u i) (Dn X z d) NoE z.s
theorem RDs.at (r:RDs W ρ G ds vs) (e:atI ds i=some d):∃ v,atI vs i=some v∧RD W ρ G d v:=by
 unfold atI at e ⊢
 rw [← r.len]
 cases q:ixN ds.length i with
 | none=>rw [q] at e;cases e
 | some j=>rw [q] at e;exact r.get e
theorem Br {d1 d2:D} {u v:Value} (I:Rep X z) (h1:CR X.W z d1 u) (h2:CR X.W z d2 v) (e:ixD d1 d2=some d):yV X z u v d:=by
 have hn:=jH
 cases d1 with
 | tup l=>cases d2 with
   | int i=>
     obtain ⟨a,o,vs,rfl,e1,t,r⟩:=h1
     obtain ⟨tk,rfl⟩:=h2
     obtain ⟨w,ew,rw'⟩:=r.at (show atI l i=some d from e)
     obtain ⟨j,g1,g2,g3,g4,g5⟩:=je ew
     have p:=tpt (I.gh _ _ e1) t
     have hz:=t.2.2
     exact ⟨_,_,slot_tuple_getitem.lookup,⟨_,I.gh _ _ e1,t.1⟩,getItem_tuple (j:=j) p (by omega) (by omega) g1 (by simpa using g2) (.old I .refl rw')⟩
   | _=>cases e
 | lst l=>cases d2 with
   | int i=>
     obtain ⟨a,o,vs,rfl,e1,t,r⟩:=h1
     obtain ⟨tk,rfl⟩:=h2
     obtain ⟨w,ew,rw'⟩:=r.at (show atI l i=some d from e)
     obtain ⟨j,g1,g2,g3,g4,g5⟩:=je ew
     have p:=lsl e1 t
     have hz:=t.2
     refine ⟨_,_,slot_list_getitem.lookup,p.typeIs,?_⟩
     by_cases h0:0≤i
     ·have hj:i.toNat=j:=by rw [seqIndex_of h0 g5] at g1;exact Option.some.inj g1
      exact wpAny_getItem_list p h0 (by omega) (by rw [hj];simpa using g2) (.old I .refl rw')
     ·have hj:(i+(vs.toArray.size:Int)).toNat=j:=by rw [seqIndex_neg (by omega) g4] at g1;exact Option.some.inj g1
      exact wpAny_getItem_list_neg p (by omega) g4 (by omega) (by rw [hj];simpa using g2) (.old I .refl rw')
   | _=>cases e
 | str y=>cases d2 with
   | int i=>
     obtain ⟨hz,e⟩:y.length≤100000∧(atI y.cps.toList i).map (fun c=>D.str ⟨#[c]⟩)=some d:=by
      unfold ixD at e;dsimp only at e;split at e
      ·rename_i c;exact ⟨c,e⟩
      ·cases e
     obtain ⟨c,q,rfl⟩:=Option.map_eq_some_iff.mp e
     obtain ⟨t,rfl⟩:=h1
     obtain ⟨t',rfl⟩:=h2
     obtain ⟨j,g1,g2,g3,g4,g5⟩:=je q
     have hl:y.cps.toList.length=y.length:=by simp [Str.length]
     rw [hl] at g1 g4 g5
     exact ⟨_,_,slot_str_getitem.lookup,typeIs_str _ y t,getItem_str (c:=c) (by
      have e1:decide (i < -(2 ^ 63:Int))=false:=decide_eq_false (by omega)
      have e2:decide (i≥2 ^ 63)=false:=decide_eq_false (by omega)
      rw [e1,e2,Bool.or_false]) (by rw [g1];simpa using g2) (.tok fun _ _ _=>⟨_,rfl⟩)⟩
   | _=>cases e
 | dic ks l=>
   have e':((bI d2).bind fun k=>bG ks l k)=some d:=by cases d2 <;> exact e
   obtain ⟨k,q,e'⟩:=Option.bind_eq_some_iff.mp e'
   obtain ⟨a,o,vs,rfl,m,e1,t,hl,r⟩:=h1
   obtain ⟨w,ew,rw'⟩:=sZ hl r e'
   exact ⟨_,_,PySem.F.slot_dict_getitem.lookup,(t.of e1).typeIs,wpAny_getItem_of (jG q h2) (t.of e1).mapOf ew (.old I .tok rw')⟩
 | _=>cases e
theorem RDs.cut (r:RDs W ρ G ds vs) (lo hi):RDs W ρ G (kj ds lo hi) ((vs.drop (HT.sIx vs.length 0 lo)).take (HT.sIx vs.length vs.length hi - HT.sIx vs.length 0 lo)):=by
 unfold kj
 rw [r.len]
 exact (r.drop _).take _
theorem BD {d1:D} {u vl vu:Value} {lo hi:Option Int} (I:Rep X z) (h1:CR X.W z d1 u) (hs:z.s.heap.IsSliceOf sl vl vu .none) (pl:IsPart vl lo) (pu:IsPart vu hi) (e:slO d1 lo hi=some d):yV X z u (.ref sl) d:=by
 have cl:∀ (vs:List Value),((vs.drop (HT.sIx vs.length 0 lo)).take (HT.sIx vs.length vs.length hi - HT.sIx vs.length 0 lo)).length≤vs.length:=fun vs=>by rw [List.length_take,List.length_drop];omega
 cases d1 with
 | tup l=>
   cases e
   obtain ⟨a,o,vs,rfl,e1,t,r⟩:=id h1
   have p:=tpt (I.gh _ _ e1) t
   refine ⟨"tuple",_,slot_tuple_getitem.lookup,⟨_,I.gh _ _ e1,t.1⟩,?_⟩
   by_cases w:HT.sIx vs.length 0 lo=0∧HT.sIx vs.length vs.length hi=vs.length
   ·refine HT.getItem_tuple_all p hs pl pu w ?_
    have e:kj l lo hi=l:=by
     unfold kj
     rw [r.len,w.1,w.2,Nat.sub_zero,List.drop_zero,← r.len,List.take_length]
    rw [e]
    exact .old I .refl h1
   ·exact HT.getItem_tuple_cut p hs pl pu w (.tupn I (r.cut lo hi) (Nat.le_trans (cl vs) t.2.2.1)) t.2.2.1
 | lst l=>
   cases e
   obtain ⟨a,o,vs,rfl,e1,t,r⟩:=h1
   refine ⟨"list",_,slot_list_getitem.lookup,(lsl e1 t).typeIs,wpAny_getItem_list_slice (lsl e1 t) hs pl pu .none (by simp) ?_ (by rw [List.size_toArray];exact t.2)⟩
   rw [iD]
   exact (Dw.lstn (r.cut lo hi) (Nat.le_trans (cl vs) t.2)).dn I
 | str y=>
   obtain ⟨hz,rfl⟩:=bg (show (if y.length≤100000 then some (D.str (Txt.slice y lo hi)) else none)=some d from e)
   obtain ⟨t,rfl⟩:=h1
   have fin:Nat.le (Txt.slice y lo hi).length sizeLine∧∀ t' k,Dn X z (.str (Txt.slice y lo hi)) (.str (Txt.slice y lo hi) t') { z.s with toks:=k }:=⟨Nat.le_trans (Txt.slice_le y _ _) (big hz),fun t' k=>.tok fun _ _ _=>⟨t',rfl⟩⟩
   refine ⟨"str",_,PySem.F.slot_str_getitem.lookup,typeIs_str _ _ _,?_⟩
   cases pl <;> cases pu
   ·exact wpAny_getItem_str_slice (l:=none) (u:=none) (st:=none) hs rfl (post_val_or_str fin)
   ·exact wpAny_getItem_str_slice (l:=none) (u:=some (_,_)) (st:=none) hs rfl (post_val_or_str fin)
   ·exact wpAny_getItem_str_slice (l:=some (_,_)) (u:=none) (st:=none) hs rfl (post_val_or_str fin)
   ·exact wpAny_getItem_str_slice (l:=some (_,_)) (u:=some (_,_)) (st:=none) hs rfl (post_val_or_str fin)
 | _=>cases e
def Bi1 (X:Cx) (f:Value) (b:Bi):Prop:=∀ z u x d,Rep X z→CR X.W z x u→jj b x=some d→wpAny X.M X.A (call f [u]) (Dn X z d) NoE z.s
def tC (X:Cx) (f:Value) (b:Bi):Prop:=∀ z u x d,Rep X z→CR X.W z x u→jj b x=some d→wpAny X.M X.A (call f [u]) (Dw X z d) NoE z.s
theorem wH:Bi1 X (.builtin "len") .len:=fun z u x d I h e=>by
 have hn:=jH
 cases x with
 | tup l=>cases e;obtain ⟨a,o,vs,rfl,e1,t,r⟩:=h;have:=t.2.2;rw [r.len];exact len_tuple (tpt (I.gh _ _ e1) t) (by rw [List.size_toArray];omega) (.tok fun _ _ _=>⟨_,rfl⟩)
 | lst l=>cases e;obtain ⟨a,o,vs,rfl,e1,t,r⟩:=h;have:=t.2;rw [r.len];exact Calls.call_len_list (lsl e1 t) (by rw [List.size_toArray];omega) (.tok fun _ _ _=>⟨_,rfl⟩)
 | str y=>
   obtain ⟨hz,rfl⟩:=bg (show (if y.length≤100000 then some (D.int y.length) else none)=some d from e)
   obtain ⟨t,rfl⟩:=h;have:=big hz
   exact len_str (by omega) (.tok fun _ _ _=>⟨_,rfl⟩)
 | dic ks ds=>
   obtain ⟨hz,rfl⟩:=bg (show (if ks.length≤100000 then some (D.int ks.length) else none)=some d from e)
   obtain ⟨a,o,vs,rfl,m,e1,c1,l1,r1⟩:=h
   have n1:(ks.zip vs).length=ks.length:=by rw [List.length_zip,← r1.len,l1,Nat.min_self]
   have:=big hz
   refine call_len_dict m (c1.of e1) (by rw [n1];omega) ?_
   rw [n1]
   exact .tok fun _ _ _=>⟨_,rfl⟩
 | _=>cases e
theorem qm:Bi1 X (.type "tuple") .tuple:=fun z u x d I h e=>by
 cases x with
 | tup l=>cases e;obtain ⟨a,o,vs,rfl,e1,t,r⟩:=id h;exact call_tuple_same (tpt (I.gh _ _ e1) t) (.old I .refl h)
 | lst l=>
   cases e
   obtain ⟨a,o,vs,rfl,e1,t,r⟩:=h
   refine call_tuple_list (lsl e1 t) (fun h' kp=>?_) (by rw [List.size_toArray];exact t.2)
   have nn:z.h h'.objs.size=none:=by
    cases q:z.h h'.objs.size with
    | none=>rfl
    | some o=>exact absurd (Heap.lt_size (kp _ o q)) (Nat.lt_irrefl _)
   exact .tup I r (.hp (t:=z.s.toks) fun b o e=>Heap.get?_push_of_some _ (kp b o e)) nn (Heap.get?_push_size _ rfl) (sV t.2)
 | _=>cases e
theorem tJ:tC X (.type "list") .list:=fun z u x d I h e=>by
 cases x with
 | tup l=>
   cases e
   obtain ⟨a,o,vs,rfl,e1,t,r⟩:=h
   obtain ⟨n,hd⟩:=t.2.1
   exact call_list_seq a (.inr rfl) (I.gh _ _ e1) t.1 hd (fun h' c' kp e=>.lst r (.hp (t:=z.s.toks) kp) (aH z) e t.2.2.1) (by rw [List.size_toArray];exact t.2.2.1)
 | lst l=>
   cases e
   obtain ⟨a,o,vs,rfl,e1,⟨⟨n,rfl⟩,hz⟩,r⟩:=h
   exact call_list_seq a (.inl rfl) e1 rfl rfl (fun h' c' kp e=>.lst r (.hp (t:=z.s.toks) kp) (aH z) e hz) (by rw [List.size_toArray];exact hz)
 | _=>cases e
theorem HR.sysm (I:HR X z):sysModules<z.s.heap.objs.size:=Nat.lt_trans (by decide) (I.md.glob.keeps fun b o e=>I.gh _ _ (I.bs b o e)).lt
theorem tI:tC X (.type "dict") .dict:=fun z u x d I h e=>by
 cases x with
 | dic ks l=>
   cases e
   obtain ⟨a,o,vs,rfl,m,e1,t,hl,r⟩:=h
   have hz:(ks.zip vs).length≤sizeLine:=by obtain ⟨_,_,_,_,_,_,_,q⟩:=t;exact q
   refine kt_call_dict (knd:=bD X.W.P X.W.w) m (t.of e1) hz fun h' hd' sb=>?_
   obtain ⟨o',es,ep,e2,x,y,a1,a2,a3⟩:=hd'
   exact ⟨.hp (t:=z.s.toks) fun b o e=>(sb.2 b (Nat.ne_of_lt (Heap.lt_size e))).trans (Heap.get?_push_of_some _ e),_,.dic ks l,rfl,aH z,rfl,o',vs,rfl,beq_eq_false_iff_ne.mpr (Nat.ne_of_gt I.sysm),e2,⟨es,ep,x,y,a1,a2,a3,hz⟩,hl,r⟩
 | _=>cases e
theorem wG:Bi1 X (.type "int") .int:=fun z u x d I h e=>by
 cases x with
 | int i=>cases e;obtain ⟨t,rfl⟩:=h;exact call_int_int (.tok fun _ _ _=>⟨_,rfl⟩)
 | bl i=>cases e;cases (show u=Value.bool i from h);exact call_int_bool (.tok fun _ _ _=>⟨_,rfl⟩)
 | str y=>
   obtain ⟨hz,e⟩:y.length≤640∧(PySem.intText? y).map D.int=some d:=by
    unfold jj at e;dsimp only at e;split at e
    ·rename_i c;exact ⟨c,e⟩
    ·cases e
   obtain ⟨n,q,rfl⟩:=Option.map_eq_some_iff.mp e
   obtain ⟨t,rfl⟩:=h
   exact PySem.W.KIN.call_text q hz (.tok fun _ _ _=>⟨_,rfl⟩)
 | _=>cases e
theorem gZ:∀ {l ns vs},cb l=some ns→RDs W ρ G l vs→IntsAre vs ns
 | [],ns,vs,e,r=>by cases e;cases (show vs = [] from r);exact .nil
 | d :: l,ns,vs,e,r=>by
   cases d with
   | int b=>
     obtain ⟨cs,q,rfl⟩:=Option.map_eq_some_iff.mp (show (cb l).map (b :: ·)=some ns from e)
     obtain ⟨v,r',rfl,⟨t,rfl⟩,tl⟩:=r
     exact .cons b t (gZ q tl)
   | _=>cases e
def Bi2 (X:Cx) (f:Value) (b:Bi):Prop:=∀ z u v x y d,Rep X z→CR X.W z x u→CR X.W z y v→wF b x y=some d→wpAny X.M X.A (call f [u,v]) (Dn X z d) NoE z.s
theorem tL (hc:X.calm=true):Bi2 X (.builtin "max") .max2:=fun z u v x y d I h1 h2 e=>by
 cases x with
 | int i=>cases y with
   | int j=>
     cases e;obtain ⟨t,rfl⟩:=h1;obtain ⟨t',rfl⟩:=h2
     refine max_two_ints (I.hd hc) fun h' tk k=>⟨.hp k,?_⟩
     by_cases hj:j>i
     ·rw [if_pos hj,if_pos hj];exact ⟨_,rfl⟩
     ·rw [if_neg hj,if_neg hj];exact ⟨_,rfl⟩
   | _=>cases e
 | _=>cases e
theorem tM (hc:X.calm=true):Bi2 X (.builtin "min") .min2:=fun z u v x y d I h1 h2 e=>by
 cases x with
 | int i=>cases y with
   | int j=>
     cases e;obtain ⟨t,rfl⟩:=h1;obtain ⟨t',rfl⟩:=h2
     refine min_two_ints (I.hd hc) fun h' tk k=>⟨.hp k,?_⟩
     by_cases hj:j<i
     ·rw [if_pos hj,if_pos hj];exact ⟨_,rfl⟩
     ·rw [if_neg hj,if_neg hj];exact ⟨_,rfl⟩
   | _=>cases e
 | _=>cases e
def tyN:Bi→String
 | .isTup=>"tuple" | .isStr=>"str" | .isBool=>"bool" | .isInt=>"int" | .isDic=>"dict" | _=>"list"
theorem y7 (hb:b = .isTup∨b = .isStr∨b = .isBool∨b = .isInt∨b = .isLst∨b = .isDic) {u:Value} (I:Rep X z) (h:CR X.W z x u) (e:jj b x=some d):wpAny X.M X.A (call (.builtin "isinstance") [u,.type (tyN b)]) (Dn X z d) NoE z.s:=by
 have kin:X.K.In z.s.heap:=I.md.kin.keeps fun b o e=>I.gh _ _ (I.bs b o e)
 have go:∀ {tn:String},jj b x=(PySem.W.kitOne [] (.type tn) (.type (tyN b))).map D.bl→(∀ v,PySem.W.kitOne [] (.type tn) (.type (tyN b))=some v→(∀ n,Dn X z (.bl v) (.bool v) { z.s with toks:=n })→wpAny X.M X.A (call (.builtin "isinstance") [u,.type (tyN b)]) (Dn X z (.bl v)) NoE z.s)→wpAny X.M X.A (call (.builtin "isinstance") [u,.type (tyN b)]) (Dn X z d) NoE z.s:=fun q k=>by
  rw [q] at e
  obtain ⟨v,e1,rfl⟩:=Option.map_eq_some_iff.mp e
  exact k v e1 fun n=>.tok fun _ _ _=>rfl
 cases x with
 | non=>cases (show u=Value.none from h);exact go (tn:="NoneType") (by rcases hb with rfl | rfl | rfl | rfl | rfl | rfl <;> kernel_rfl) fun v q k=>PySem.W.kia_one PySem.W.kitx_none kin True.intro q (fun z=>nomatch z) k
 | bl y=>cases (show u=Value.bool y from h);exact go (tn:="bool") (by rcases hb with rfl | rfl | rfl | rfl | rfl | rfl <;> kernel_rfl) fun v q k=>PySem.W.kia_one PySem.W.kitx_bool kin True.intro q (fun z=>nomatch z) k
 | int y=>obtain ⟨t,rfl⟩:=(show ∃ t,u=Value.int y t from h);exact go (tn:="int") (by rcases hb with rfl | rfl | rfl | rfl | rfl | rfl <;> kernel_rfl) fun v q k=>PySem.W.kia_one PySem.W.kitx_int kin True.intro q (fun z=>nomatch z) k
 | str y=>obtain ⟨t,rfl⟩:=(show ∃ t,u=Value.str y t from h);exact go (tn:="str") (by rcases hb with rfl | rfl | rfl | rfl | rfl | rfl <;> kernel_rfl) fun v q k=>PySem.W.kia_one PySem.W.kitx_str kin True.intro q (fun z=>nomatch z) k
 | tup l=>obtain ⟨a,o,vs,rfl,e1,t,r⟩:=h;exact go (tn:="tuple") (by rcases hb with rfl | rfl | rfl | rfl | rfl | rfl <;> kernel_rfl) fun v q k=>PySem.W.kia_one PySem.W.kitx_tuple kin ⟨o,I.gh _ _ e1,t.1⟩ q (fun z=>nomatch z) k
 | lst l=>obtain ⟨a,o,vs,rfl,e1,⟨⟨n,rfl⟩,_⟩,r⟩:=h;exact go (tn:="list") (by rcases hb with rfl | rfl | rfl | rfl | rfl | rfl <;> kernel_rfl) fun v q k=>PySem.W.kia_one PySem.W.kitx_list kin ⟨_,e1,rfl⟩ q (fun z=>nomatch z) k
 | dic ks l=>obtain ⟨a,o,vs,rfl,m,e1,⟨_,_,c,_⟩,hl,r⟩:=h;exact go (tn:="dict") (by rcases hb with rfl | rfl | rfl | rfl | rfl | rfl <;> kernel_rfl) fun v q k=>PySem.W.kia_one PySem.W.kitx_dict kin ⟨o,e1,c.1⟩ q (fun z=>nomatch z) k
 | _=>rcases hb with rfl | rfl | rfl | rfl | rfl | rfl <;> cases e
end
end L2.Ev
end
section
namespace L2.Ev
def toB (d:D) (s:Sta):Out Bool:=match d with | .bl b=>.ok b s | _=>.bad
def RT (_:Z) (b c:Bool):Prop:=c=b
def RVs (W:Wd) (br:Bool):E→Z→List D→List Value→Prop
 | .cons a r,z,d :: ds,u :: us=>RV W br a z d u∧RVs W br r z ds us
 | .nil,_,[],[]=>True
 | _,_,_,_=>False
def LE (X:Cx) (e:Expr) (c:E):Prop:=∀ br,Jg X (eval e X.env) (X.ev br c) (RV X.W br c)
def LF (X:Cx) (e:Expr) (c:E):Prop:=∀ z,Rep X z→X.ev false c z.t≠.bad→Wp X (eval e X.env) z (X.ev false c z.t) (FV X z)
def LT (X:Cx) (e:Expr) (c:E):Prop:=Jg X (isTrue e X.env (eval e X.env)) (fun t=>(X.ev true c t).bind toB) RT
def LW (X:Cx) (e:Expr) (c:E):Prop:=∀ wh,Jg X (isTrue e X.env wh) (fun t=>(X.ev true c t).bind toB) RT
def LA (X:Cx) (es:List Expr) (c:E):Prop:=∀ br pos,Jg X (spliced (backTo pos (starEach es X.env))) (X.evs br c) (RVs X.W br c)
theorem av (x:Out α) (f:α→Sta→Out β) (g:β→Sta→Out γ):(x.bind f).bind g=x.bind fun a s=>(f a s).bind g:=by cases x <;> rfl
theorem Ar (h:RB X.W z (.bl b) u) (I:Rep X z):u = .bool b:=(h.cr0 I:RD X.W z.ρ z.G (.bl b) u)
section
variable {X:Cx} {z z0 z1:Z} {br:Bool}
theorem Rep.bk (I:HR X z):∀ b o,X.base.get? b=some o→z.s.heap.get? b=some o:=fun b o e=>I.gh _ _ (I.bs b o e)
theorem HR.kin (I:HR X z):X.K.In z.s.heap:=I.md.kin.keeps (Rep.bk I)
theorem bY {i:Nat} {x:Str} {Q:Value→Shared→Prop} {E:Value→Shared→Prop} (I:Rep X z) (hN:X.N[i]? = some x) (hv:Vis X.env.scope x) (e:z.σ[i]? = some (some u)) (q:Q u z.s) (hd:(x == ("__debug__":Str))=false) (hc:(x == ("__classdict__":Str))=false):wpAny X.M X.A (eval (.Name x pos) X.env) Q E z.s:=by
 obtain ⟨m,hn,hl⟩:=I.lo
 rcases hl i x u hN e hv with ⟨hk,hm⟩ | ⟨hk,c,hc',hcell⟩
 ·exact wpAny_Name (wpAny_loadName_local I.ok.kd hk hn hm q) hd
 ·rcases hk with hk | hk
  ·exact wpAny_Name (wpAny_loadName_cell I.ok.kd hk hc' hcell q) hd
  ·exact wpAny_Name (wpAny_loadName_free I.ok.kd hk hc' hcell q hc) hd
theorem Rep.slot {i:Nat} {d:D} (I:Rep X z) (e:z.t.env[i]? = some (some d)):∃ u,z.σ[i]? = some (some u)∧RB X.W z d u:=by
 by_cases m:i∈z.t.ow
 ·obtain ⟨d',a,o,h1,h2,_⟩:=I.eo i m
  exact ⟨_,h2,.inr ⟨i,m,h2,e⟩⟩
 ·obtain ⟨u,q,r⟩:=I.en i d m e
  exact ⟨u,q,.inl r⟩
theorem xG {i:Nat} {x:Str} (hN:X.N[i]? = some x) (hv:Vis X.env.scope x) (hd:(x == ("__debug__":Str))=false) (hc:(x == ("__classdict__":Str))=false):LE X (.Name x pos) (.v i):=fun br z I nb=>by
 have en:∃ d,z.t.env[i]? = some (some d):=by
  cases q:z.t.env[i]? with
  | none=>exact absurd (show X.ev br (.v i) z.t = .bad by show (match z.t.env[i]? with | some (some d)=>Out.ok d (if br then z.t else un z.t i) | _=>.bad)=_;rw [q]) nb
  | some o=>cases o with
    | none=>exact absurd (show X.ev br (.v i) z.t = .bad by show (match z.t.env[i]? with | some (some d)=>Out.ok d (if br then z.t else un z.t i) | _=>.bad)=_;rw [q]) nb
    | some d=>exact ⟨d,rfl⟩
 obtain ⟨d,q⟩:=en
 have e:X.ev br (.v i) z.t = .ok d (if br then z.t else un z.t i):=by show (match z.t.env[i]? with | some (some d)=>Out.ok d (if br then z.t else un z.t i) | _=>.bad)=_;rw [q]
 obtain ⟨u,q1,r⟩:=I.slot q
 rw [e]
 refine bY I hN hv q1 ?_ hd hc
 cases br with
 | true=>
   refine ⟨z,d,rfl,rfl,.refl,I,?_⟩
   by_cases m:i∈z.t.ow
   ·exact .inr ⟨rfl,i,rfl,m,q1,q⟩
   ·obtain ⟨u',q2,r2⟩:=I.en i d m q
    rw [q1] at q2;cases q2;exact .inl r2
 | false=>
   obtain ⟨I2,x2⟩:=I.rel (fun j=>j != i)
   refine ⟨z.rel fun j=>j != i,d,rfl,rfl,x2,I2,?_⟩
   obtain ⟨u',q2,r2⟩:=I2.en i d (fun m=>by simp [Z.rel] at m) q
   rw [show z.σ[i]? = some (some u') from q2] at q1;cases q1;exact .inl r2
theorem uo (h:∀ z,wpAny X.M X.A (eval e X.env) (Dn X z d) NoE z.s):LE X e (.c d):=fun br z I nb=>wpAny_mono (h z) (fun _ _ k=>k.pe I) fun _ _ z=>z.elim
theorem vR:LE X (.Constant .none j pos) (.c .non):=uo fun _=>Constant_none (.tok fun _ _ _=>rfl)
theorem zw:LE X (.Constant (.bool b) j pos) (.c (.bl b)):=uo fun _=>Constant_bool (.tok fun _ _ _=>rfl)
theorem vQ:LE X (.Constant (.int i) j pos) (.c (.int i)):=uo fun _=>wpAny_Constant_int (.tok fun _ _ _=>⟨_,rfl⟩)
theorem vS:LE X (.Constant (.str x) j pos) (.c (.str x)):=uo fun _=>Calls.Constant_str (.tok fun _ _ _=>⟨_,rfl⟩)
def Gl (X:Cx) (x:Str):Prop:=X.env.kindOf x=some .globalImplicit
theorem bo {Q:Value→Shared→Prop} {E:Value→Shared→Prop} (I:Rep X z) (hg:Gl X x) (hm:X.mg x=some u) (h:Q u z.s) (hd:(x == ("__debug__":Str))=false):wpAny X.M X.A (eval (.Name x pos) X.env) Q E z.s:=
 Calls.Name_function_global I.ok.kd hg (Calls.loadGlobal_global (by rw [I.ok.gl];exact I.md.glob.keeps (Rep.bk I.toHR)) hm h) hd
theorem xp {Q:Value→Shared→Prop} {E:Value→Shared→Prop} (I:Rep X z) (hg:Gl X x) (hm:X.mg x=none) (hv:bootBuiltins x=some u) (h:Q u z.s) (hn:x≠"__name__") (hd:(x == ("__debug__":Str))=false):wpAny X.M X.A (eval (.Name x pos) X.env) Q E z.s:=by
 obtain ⟨mb,h1,h2⟩:=I.md.blt
 exact Calls.Name_function_global I.ok.kd hg (Calls.loadGlobal_builtin (by rw [I.ok.gl];exact I.md.glob.keeps (Rep.bk I.toHR)) hm (by rw [I.ok.bl];exact h1.keeps (Rep.bk I.toHR)) ((h2 x hn).trans hv) h) hd
def aR (K:Fg):L2.Bk.Dk→Value→Bool
 | .str x,v=>(match v with | .str y _=>decide (y=x) | _=>false)
 | .int i,v=>(match v with | .int j _=>decide (j=i) | _=>false)
 | .bl b,v=>(match v with | .bool c=>decide (c=b) | _=>false)
 | .non,v=>(match v with | .none=>true | _=>false)
 | .tup ds,v=>(match v with
   | .ref a=>(match K.lookup a with
     | some o=>o.cls == .type "tuple" && o.dict.isNone && (match o.data with | .seq its _=>decide (its.size≤1000) && lookDs K ds its.toList | _=>false)
     | none=>false)
   | _=>false)
where lookDs (K:Fg):List L2.Bk.Dk→List Value→Bool
 | [],vs=>vs.isEmpty
 | d :: ds,vs=>(match vs with | v :: r=>aR K d v && lookDs K ds r | []=>false)
mutual
theorem sL {K:Fg} {G:Hp} (k:∀ a o,K.lookup a=some o→G a=some o):∀ d v,aR K d v=true→RD W ρ G (toD d) v
 | .str x,v,h=>by cases v <;> simp only [aR] at h <;> first | cases h | exact ⟨_,by rw [of_decide_eq_true h]⟩
 | .int x,v,h=>by cases v <;> simp only [aR] at h <;> first | cases h | exact ⟨_,by rw [of_decide_eq_true h]⟩
 | .bl x,v,h=>by cases v <;> simp only [aR] at h <;> first | cases h | exact (by rw [of_decide_eq_true h];rfl)
 | .non,v,h=>by cases v <;> simp only [aR] at h <;> first | exact (rfl:RD W ρ G .non .none) | cases h
 | .tup ds,v,h=>by
   cases v with
   | ref a=>
     simp only [aR] at h
     cases q:K.lookup a with
     | none=>rw [q] at h;cases h
     | some o=>
       rw [q] at h
       dsimp only at h
       rw [Bool.and_eq_true] at h
       rw [Bool.and_eq_true] at h
       obtain ⟨⟨h1,h3⟩,h2⟩:=h
       cases qd:o.data with
       | seq its n=>
         rw [qd] at h2
         dsimp only at h2
         rw [Bool.and_eq_true] at h2
         have hz:its.size≤1000:=of_decide_eq_true h2.1
         exact ⟨a,o,its.toList,rfl,k a o q,⟨by simpa using h1,⟨n,by simpa using qd⟩,(by rw [Array.length_toList,sizeLine_eq];omega),by simpa using h3⟩,oJ k ds _ h2.2⟩
       | _=>rw [qd] at h2;cases h2
   | _=>simp [aR] at h
theorem oJ {K:Fg} {G:Hp} (k:∀ a o,K.lookup a=some o→G a=some o):∀ ds vs,aR.lookDs K ds vs=true→RDs W ρ G (toD.toDs ds) vs
 | [],vs,h=>by cases vs with
   | nil=>exact rfl
   | cons _ _=>simp [aR.lookDs] at h
 | d :: ds,vs,h=>by cases vs with
   | nil=>simp [aR.lookDs] at h
   | cons v r=>
     simp only [aR.lookDs,Bool.and_eq_true] at h
     exact .cons (sL k d v h.1) (oJ k ds r h.2)
end
theorem HR.top (I:HR X z) (h:aR X.K d u=true):RD X.W z.ρ z.G (toD d) u:=sL (fun a o e=>I.bs a o (I.md.kin a o e)) d u h
theorem Bt {j:Nat} (hg:Gl X x) (hm:X.mg x=some u) (hd:(x == ("__debug__":Str))=false) (e:X.Γ.gl[j]? = some d) (h:aR X.K d u=true):LE X (.Name x pos) (.g j):=fun br z I nb=>by
 have q:X.ev br (.g j) z.t = .ok (toD d) z.t:=by show Out.of z.t (X.Γ.gl[j]?.map toD)=_;rw [e];rfl
 rw [q]
 exact bo I hg hm ⟨z,toD d,rfl,rfl,.refl,I,.of (I.toHR.top h)⟩ hd
theorem zW {o:Op} (ho:Op2 X (binaryOp op) (opD o)) (ha:LE X ea a) (hb:LE X eb b):LE X (.BinOp ea op eb pos) (.op o a b):=fun br z I nb=>
 wpAny_BinOp ((ha true).go .refl I rfl nb fun z1 x u y1 x1 I1 r1 e1=>(hb true).go x1 I1 e1 nb fun z2 y v y2 x2 I2 r2 e2=>cU x2 I2 e2 nb fun d q=>ho z2 u v _ _ d I2 ((r1.rb.st y2 I2).cr I2) (r2.rb.cr I2) q)
theorem xx {o:Op} (ho:Op2 X (compareOp op) (opD o)) (ha:LE X ea a) (hb:LE X eb b) (hm:behindInMarks op eb=false):LE X (.Compare ea [op] [eb] pos) (.op o a b):=fun br z I nb=>
 wpAny_Compare1 ((ha true).go .refl I rfl nb fun z1 x u y1 x1 I1 r1 e1=>(hb true).go x1 I1 e1 nb fun z2 y v y2 x2 I2 r2 e2=>cU x2 I2 e2 nb fun d q=>ho z2 u v _ _ d I2 ((r1.rb.st y2 I2).cr I2) (r2.rb.cr I2) q) hm
theorem Dn.tru {o:Out Bool} {s':Shared} (x:Ee X z0 z) (I:Rep X z) (e:o=(Out.ok d z.t).bind toB) (nb:o≠.bad) (h:Dn X z d u s'):wpAny X.M X.A (truthy u) (Pe X z0 o RT) (Px X z0 o) s':=by
 cases d with
 | bl b=>
   cases (show u=Value.bool b from h.2)
   exact wpAny_truthy_bool ⟨z.up s',b,rfl,e,x.trans (cS I.gh h.1).ee,I.grow (cS I.gh h.1),rfl⟩
 | _=>exact absurd e nb
theorem xT {o:Op} (ho:Op2 X (compareOp op) (opD o)) (ha:LE X ea a) (hb:LE X eb b) (hm:behindInMarks op eb=false):LT X (.Compare ea [op] [eb] pos) (.op o a b):=fun z I nb=>
 wpAny_isTrue_Compare1 ((ha true).go .refl I (av ..) nb fun z1 x u y1 x1 I1 r1 e1=>(hb true).go x1 I1 (e1.trans (av ..)) nb fun z2 y v y2 x2 I2 r2 e2=>by
  cases q:opD o (look z2.t.st x) (look z2.t.st y) with
  | none=>rw [q] at e2;exact absurd e2 nb
  | some d=>rw [q] at e2;exact wpAny_mono (ho z2 u v _ _ d I2 ((r1.rb.st y2 I2).cr I2) (r2.rb.cr I2) q) (fun c s' k=>k.tru x2 I2 e2 nb) fun _ _ z=>z.elim) hm
theorem jT (I:Rep X z) (h:RB X.W z d u):(u == Value.none)=kD d:=by
 rcases h with h | ⟨i,m,e1,e2⟩
 ·cases d with
  | non=>cases (show u=_ from h);rfl
  | bl b=>cases (show u=_ from h);rfl
  | int b=>obtain ⟨t,rfl⟩:=h;rfl
  | str b=>obtain ⟨t,rfl⟩:=h;rfl
  | tup l=>obtain ⟨a,_,_,rfl,_⟩:=h;rfl
  | lst l=>obtain ⟨a,_,_,rfl,_⟩:=h;rfl
  | dic k l=>obtain ⟨a,_,_,rfl,_⟩:=h;rfl
  | ins c l=>obtain ⟨a,_,_,rfl,_⟩:=h;rfl
  | ref n=>obtain ⟨a,_,rfl⟩:=h;rfl
 ·obtain ⟨d',a,o,h1,h2,h3,_⟩:=I.eo i m
  rw [e1] at h2;cases h2
  rw [e2] at h1;cases h1
  cases d <;> first | rfl | cases h3
theorem dC (b:Bool) {z:Z}:Dn X z (.bl b) (.bool b) z.s:=.tok (n:=z.s.toks) fun _ _ _=>rfl
theorem xz (ha:LE X ea a) (h1:behindInMarks .Is (.Constant .none j pos')=false):LE X (.Compare ea [.Is] [.Constant .none j pos'] pos) (.isN a):=fun br z I nb=>
 wpAny_Compare1 ((ha true).go .refl I rfl nb fun z1 x u y1 x1 I1 r1 e1=>Constant_none (is_none_gen (by rw [jT I1 r1.rb];exact (dC _).at x1 I1 e1))) h1
theorem ut (ha:LE X ea a) (h1:behindInMarks .IsNot (.Constant .none j pos')=false):LE X (.Compare ea [.IsNot] [.Constant .none j pos'] pos) (.isNN a):=fun br z I nb=>
 wpAny_Compare1 ((ha true).go .refl I rfl nb fun z1 x u y1 x1 I1 r1 e1=>Constant_none (isnot_none_gen (by rw [jT I1 r1.rb];exact (dC _).at x1 I1 e1))) h1
theorem xU (ha:LE X ea a) (h1:behindInMarks .Is (.Constant .none j pos')=false):LT X (.Compare ea [.Is] [.Constant .none j pos'] pos) (.isN a):=fun z I nb=>
 wpAny_isTrue_Compare1 ((ha true).go .refl I (av ..) nb fun z1 x u y1 x1 I1 r1 e1=>Constant_none (is_none_gen (by rw [jT I1 r1.rb];exact (dC _).tru x1 I1 e1 nb))) h1
theorem uR (ha:LE X ea a) (h1:behindInMarks .IsNot (.Constant .none j pos')=false):LT X (.Compare ea [.IsNot] [.Constant .none j pos'] pos) (.isNN a):=fun z I nb=>
 wpAny_isTrue_Compare1 ((ha true).go .refl I (av ..) nb fun z1 x u y1 x1 I1 r1 e1=>Constant_none (isnot_none_gen (by rw [jT I1 r1.rb];exact (dC _).tru x1 I1 e1 nb))) h1
theorem xC (ha:LE X ea a):LE X (.UnaryOp .USub ea pos) (.neg a):=fun br z I nb=>
 UnaryOp_ ((ha true).go .refl I rfl nb fun z1 x u y1 x1 I1 r1 e1=>by
  cases x with
  | int i=>obtain ⟨t,rfl⟩:=(r1.rb.cr0 I1:CR X.W z1 (.int i) u);exact neg_int ((Dn.tok fun _ _ _=>⟨_,rfl⟩:Dn X z1 (.int (-i)) _ _).at x1 I1 e1)
  | _=>exact absurd e1 nb)
theorem xD (ha:LE X ea a):LE X (.UnaryOp .Not ea pos) (.not a):=fun br z I nb=>
 UnaryOp_ ((ha true).go .refl I rfl nb fun z1 x u y1 x1 I1 r1 e1=>by
  cases x with
  | bl b=>cases Ar r1.rb I1;exact not_of (wpAny_truthy_bool ((dC _).at x1 I1 e1))
  | _=>exact absurd e1 nb)
theorem xq (ha:LE X ea a) (hb:LE X (.BoolOp .And (eb :: r) pos) b):LE X (.BoolOp .And (ea :: eb :: r) pos) (.and a b):=fun br z I nb=>
 BoolOp_and ((ha false).go .refl I rfl nb fun z1 x u y1 x1 I1 r1 e1=>by
  cases x with
  | bl c=>
    cases (show u=Value.bool c from r1.rd)
    refine wpAny_truthy_bool ?_
    cases c with
    | true=>exact wpAny_mono ((hb false).at x1 I1 e1 nb) (fun u s' ⟨z',d,e,q,y,I',r⟩=>⟨z',d,e,q,y,I',.of r.rd⟩) fun _ _ h=>h
    | false=>exact (dC _).at x1 I1 e1
  | _=>exact absurd e1 nb)
theorem wa (h:LW X e c):LT X e c:=h _
theorem uU (ha:LT X ea a):LW X (.BoolOp .And [ea] pos) a:=fun wh z I nb=>isTrue_and (thn (ha z I nb) fun c s1 e=>by
 cases c with
 | true=>exact isTrue_and_nil e
 | false=>exact e)
theorem xX (ha:LT X ea a):LW X (.BoolOp .Or [ea] pos) a:=fun wh z I nb=>isTrue_or (thn (ha z I nb) fun c s1 e=>by
 cases c with
 | false=>exact isTrue_or_nil e
 | true=>exact e)
theorem RT.pe (x:Ee X z0 z) (I:Rep X z) (e:o = .ok b z.t):Pe X z0 o RT b z.s:=⟨z,b,rfl,e,x,I,rfl⟩
theorem tB (x:Out D) (f:Bool→Sta→Out β):(x.bind toB).bind f=x.bind fun d s=>match d with | .bl b=>f b s | _=>.bad:=by
 cases x with
 | ok d s=>cases d <;> rfl
 | _=>rfl
theorem xW (ha:LT X ea a) (hb:LW X (.BoolOp .And (eb :: r) pos) b):LW X (.BoolOp .And (ea :: eb :: r) pos) (.tand a b):=fun wh z I nb=>by
 have e:(X.ev true (.tand a b) z.t).bind toB=((X.ev true a z.t).bind toB).bind fun c s=>if c then (X.ev true b s).bind toB else .ok false s:=by
  rw [tB];show Out.bind (Out.bind _ _) _=_;rw [av];congr 1;funext d s
  cases d <;> first | rfl | (rename_i c;cases c <;> rfl)
 refine isTrue_and (ha.go .refl I e nb fun z1 c u y1 x1 I1 r1 e1=>?_)
 cases (show u=c from r1)
 cases c with
 | true=>exact (hb wh).at x1 I1 e1 nb
 | false=>exact RT.pe x1 I1 e1
theorem z9 (ha:LT X ea a) (hb:LW X (.BoolOp .Or (eb :: r) pos) b):LW X (.BoolOp .Or (ea :: eb :: r) pos) (.tor a b):=fun wh z I nb=>by
 have e:(X.ev true (.tor a b) z.t).bind toB=((X.ev true a z.t).bind toB).bind fun c s=>if c then .ok true s else (X.ev true b s).bind toB:=by
  rw [tB];show Out.bind (Out.bind _ _) _=_;rw [av];congr 1;funext d s
  cases d <;> first | rfl | (rename_i c;cases c <;> rfl)
 refine isTrue_or (ha.go .refl I e nb fun z1 c u y1 x1 I1 r1 e1=>?_)
 cases (show u=c from r1)
 cases c with
 | false=>exact (hb wh).at x1 I1 e1 nb
 | true=>exact RT.pe x1 I1 e1
theorem xV (ha:LT X ea a):LT X (.UnaryOp .Not ea pos) (.tnot a):=fun z I nb=>by
 have e:(X.ev true (.tnot a) z.t).bind toB=((X.ev true a z.t).bind toB).bind fun c s=>.ok (!c) s:=by
  rw [tB];show Out.bind (Out.bind _ _) _=_;rw [av];congr 1;funext d s
  cases d <;> rfl
 exact isTrue_not (ha.go .refl I e nb fun z1 c u y1 x1 I1 r1 e1=>by
  cases (show u=c from r1)
  exact RT.pe x1 I1 e1)
theorem xA (hc:LT X ec c) (ha:LE X ea a) (hb:LE X eb b):LE X (.IfExp ec ea eb pos) (.ite c a b):=fun br z I nb=>by
 have e:X.ev br (.ite c a b) z.t=((X.ev true c z.t).bind toB).bind fun c s=>if c then X.ev false a s else X.ev false b s:=by
  rw [tB];show Out.bind _ _=_;congr 1;funext d s
  cases d <;> first | rfl | (rename_i c;cases c <;> rfl)
 refine wpAny_IfExp (hc.go .refl I e nb fun z1 c u y1 x1 I1 r1 e1=>?_)
 cases (show u=c from r1)
 cases c with
 | true=>exact wpAny_mono ((ha false).at x1 I1 e1 nb) (fun u s' ⟨z',d,e,q,y,I',r⟩=>⟨z',d,e,q,y,I',.of r.rd⟩) fun _ _ h=>h
 | false=>exact wpAny_mono ((hb false).at x1 I1 e1 nb) (fun u s' ⟨z',d,e,q,y,I',r⟩=>⟨z',d,e,q,y,I',.of r.rd⟩) fun _ _ h=>h
theorem AB {d:D} {u:Value} (I:Rep X z) (h:CR X.W z d u) (e:vt d=some b):wpAny X.M X.A (truthy u) (fun c s'=>c=b∧Gr z.s s') NoE z.s:=by
 have hl:=jH
 cases d with
 | non=>cases e;cases (show u=_ from h);exact truthy_none ⟨rfl,.refl⟩
 | bl c=>cases e;cases (show u=_ from h);exact wpAny_truthy_bool ⟨rfl,.refl⟩
 | int i=>cases e;obtain ⟨t,rfl⟩:=h;exact PySem.P.truthy_int ⟨rfl,.refl⟩
 | tup l=>
   cases e;obtain ⟨a,o,vs,rfl,e1,t,r⟩:=h;have:=t.2.2
   refine truthy_tuple (tpt (I.gh _ _ e1) t) (by rw [List.size_toArray];omega) ⟨?_,.tok⟩
   have:=r.len;cases l <;> cases vs <;> first | rfl | cases this
 | lst l=>
   cases e;obtain ⟨a,o,vs,rfl,e1,t,r⟩:=h;have:=t.2
   refine wpAny_truthy_list (lsl e1 t) (by rw [List.size_toArray];omega) ⟨?_,.tok⟩
   have:=r.len;cases l <;> cases vs <;> first | rfl | cases this
 | _=>cases e
theorem z4 (ha:LE X ea a) (he:∀ whole,isTrue ea X.env whole=(do let v ← whole;standAt ea.pos;holding [v] (truthy v))):LT X ea (.tv a):=fun z I nb=>
 isTrue_plain ((ha true).go .refl I (av ..) nb fun z1 x u y1 x1 I1 r1 e1=>by
  cases q:vt (look z1.t.st x) with
  | none=>rw [q] at e1;exact absurd e1 nb
  | some b=>
    rw [q] at e1
    refine wpAny_mono (AB I1 (r1.rb.cr I1) q) (fun c s' ⟨h,g⟩=>?_) fun _ _ z=>z.elim
    subst h
    exact ⟨z1.up s',c,rfl,e1,x1.trans (cS I1.gh g).ee,I1.grow (cS I1.gh g),rfl⟩) (he _)
end
section
variable {X:Cx} {z z0 z1:Z} {br:Bool}
def jc (b:Expr):Prop:=∀ o i,subscripted b false o i=operate [o,i] (getItem o i)
theorem zU (ha:LE X ea a) (hb:LE X eb b) (hs:jc eb):LE X (.Subscript ea eb pos) (.ix a b):=fun br z I nb=>
 Subscript_ ((ha true).go .refl I rfl nb fun z1 x u y1 x1 I1 r1 e1=>(hb true).go x1 I1 e1 nb fun z2 y v y2 x2 I2 r2 e2=>cU x2 I2 e2 nb fun d q=>by
  obtain ⟨T,id,h1,h2,h3⟩:=Br I2 ((r1.rb.st y2 I2).cr I2) (r2.rb.cr0 I2) q
  exact tail_any h2 h1 h3 (hs _ _))
def Cx.prt (X:Cx) (c:E) (s:Sta):Out (Option Int):=if bC c then .ok none s else (X.ev true c s).bind toI
def LO (X:Cx) (e:Option Expr) (c:E):Prop:=Jg X (evalPart e X.env) (X.prt c) fun _ o u=>IsPart u o
theorem uE:LO X none .nil:=fun z I nb=>by rw [evalPart_none];exact wpAny_pure ⟨z,none,rfl,rfl,.refl,I,.none⟩
theorem uF (n:bC a=false) (ha:LE X ea a):LO X (some ea) a:=fun z I nb=>by
 rw [evalPart_some]
 have e:X.prt a z.t=(X.ev true a z.t).bind toI:=by unfold Cx.prt;rw [n];rfl
 refine (ha true).go .refl I e nb fun z1 x u y1 x1 I1 r1 e1=>?_
 cases x with
 | int i=>obtain ⟨t,rfl⟩:=(r1.rb.cr0 I1:CR X.W z1 (.int i) u);exact ⟨z1,some i,rfl,e1,x1,I1,.int i t⟩
 | _=>exact absurd e1 nb
theorem CR.grow {s':Shared} (g:Grw z G' s'):∀ {d},CR W z d u→CR W { z with G:=G',s:=s' } d u
 | .lst _,⟨a,o,vs,e,q,t,r⟩=>⟨a,o,vs,e,g.gr.k _ _ q,t,r.mono (List.prefix_refl _) g.gg⟩
 | .dic _ _,⟨a,o,vs,e,m,q,t,l,r⟩=>⟨a,o,vs,e,m,g.gr.k _ _ q,t,l,r.mono (List.prefix_refl _) g.gg⟩
 | .non,h=>h
 | .bl _,h=>h
 | .int _,h=>h
 | .str _,h=>h
 | .tup _,h=>RD.mono (List.prefix_refl _) g.gg h
 | .ins _ _,h=>RD.mono (List.prefix_refl _) g.gg h
 | .ref _,h=>RD.mono (List.prefix_refl _) g.gg h
theorem zX {lo hi:Option Expr} {pos p2:Pos} (ha:LE X ea a) (hl:LO X lo l) (hh:LO X hi h):LE X (.Subscript ea (.Slice lo hi none p2) pos) (.sl a l h):=fun br z I nb=>
 Subscript_ ((ha true).go (f:=fun x s=>(X.prt l s).bind fun l s=>(X.prt h s).bind fun h s=>.of s (slO (look s.st x) l h)) .refl I rfl nb fun z1 x u y1 x1 I1 r1 e1=>wpAny_Slice (hl.go x1 I1 e1 nb fun z2 lo' vl y2 x2 I2 r2 e2=>hh.go x2 I2 e2 nb fun z3 hi' vu y3 x3 I3 r3 e3=>by
  rw [evalPart_none]
  refine wpAny_pure ?_
  have g:=aE (s':={ z3.s with heap:=z3.s.heap.push { cls:=.type "slice",data:=.fields #[vl,vu,.none] } }) I3.gh (.push (t:=z3.s.toks))
  have I4:=I3.grow g
  show wpAny X.M X.A (subscriptTail ea (.Slice lo hi none p2) u (.ref z3.s.heap.objs.size)) _ _ { z3.s with heap:=z3.s.heap.push { cls:=.type "slice",data:=.fields #[vl,vu,.none] } }
  refine cU (z:={ z3 with s:=_ }) (x3.trans g.ee) I4 e3 nb fun d q=>?_
  obtain ⟨T,id,h1,h2,h3⟩:=BD I4 ((((r1.rb.st y2 I2).st y3 I3).cr I3).grow g) (Heap.IsSliceOf.new ..) r2 r3 q
  exact tail_any (ops:=[.ref z3.s.heap.objs.size,u]) h2 h1 h3 (by with_unfolding_all rfl)))
theorem RVs.ind {W:Wd} {br:Bool} {z:Z} {P:E→List D→List Value→Prop} (hn:P .nil [] []) (hc:∀ a r d ds u us,RV W br a z d u→RVs W br r z ds us→P r ds us→P (.cons a r) (d :: ds) (u :: us)) (c:E):∀ ds us,RVs W br c z ds us→P c ds us:=by
 induction c with
 | nil=>
   intro ds us h
   cases ds with
   | nil=>cases us with
     | nil=>exact hn
     | cons _ _=>exact False.elim h
   | cons _ _=>exact False.elim h
 | cons a r _ ih=>
   intro ds us h
   cases ds with
   | nil=>exact False.elim h
   | cons d ds=>cases us with
     | nil=>exact False.elim h
     | cons u us=>exact hc a r d ds u us h.1 h.2 (ih ds us h.2)
 | _=>exact fun _ _ h=>False.elim h
theorem RVs.rds {c ds us} (h:RVs W false c z ds us):RDs W z.ρ z.G ds us:=RVs.ind (P:=fun _ ds us=>RDs W z.ρ z.G ds us) rfl (fun _ _ _ _ _ _ h _ ih=>.cons h.rd ih) c ds us h
theorem ry:LA X [] .nil:=fun br pos z I nb=>Calls.spliced_nil ⟨z,[],rfl,rfl,.refl,I,trivial⟩
theorem nK (ha:LE X ea a) (hr:LA X er r) (hs:starEach (ea :: er) X.env=(false,eval ea X.env) :: starEach er X.env):LA X (ea :: er) (.cons a r):=fun br pos z I nb=>by
 rw [hs]
 show wpAny _ _ (spliced ((false,eval ea X.env) :: backTo pos (starEach er X.env))) _ _ _
 exact Calls.spliced_cons ((ha br).go .refl I rfl nb fun z1 x u y1 x1 I1 r1 e1=>(hr br pos).go x1 I1 e1 nb fun z2 l us y2 x2 I2 r2 e2=>⟨z2,x :: l,rfl,e2,x2,I2,r1.st y2 I2,r2⟩)
theorem rK (h:LA X es c):LE X (.Tuple es x1 pos) (.tup c):=fun br z I nb=>
 wpAny_Tuple_spliced ((h false pos).go (f:=fun l s=>if l.length≤100000 then Out.ok (D.tup l) s else .bad) .refl I rfl nb fun z1 l us y1 x1 I1 r1 e1=>by
  by_cases c:l.length≤100000
  ·rw [if_pos c] at e1
   have hz:us.length≤sizeLine:=by rw [← r1.rds.len];exact big c
   exact ⟨hz,Dn.at x1 I1 e1 (.tupn (t:=z1.s.toks) I1 r1.rds hz)⟩
  ·rw [if_neg c] at e1;exact absurd e1 nb)
theorem FV.less (x:Ee X z0 z1) (h:FV X z1 z d u):FV X z0 z d u:=let ⟨a,o,e,n,r⟩:=h;⟨a,o,e,x.st.no n,r⟩
theorem xJ (h:LA X es c):LF X (.List es pos) (.lst c):=fun z I nb=>
 wpAny_List_spliced ((h false pos).go (f:=fun l s=>if l.length≤100000 then Out.ok (D.lst l) s else .bad) .refl I rfl nb fun z1 l us y1 x1 I1 r1 e1=>by
  by_cases c:l.length≤100000
  ·rw [if_pos c] at e1
   have hz:us.length≤sizeLine:=by rw [← r1.rds.len];exact big c
   obtain ⟨z2,d,q,q2,y,I2,fv⟩:=(Dw.lstn (X:=X) (t:=z1.s.toks) (n:=0) r1.rds hz).pe I1
   exact ⟨hz,z2,d,q,e1.trans q2,x1.trans y,I2,fv.less x1⟩
  ·rw [if_neg c] at e1;exact absurd e1 nb)
theorem FV.rd (x:Ee X z0 z) (I:Rep X z) (h:FV X z0 z d u) (e:o = .ok d z.t):Pe X z0 o (RV X.W br c) u z.s:=by
 obtain ⟨a,ob,rfl,n,t,r,f,no⟩:=h
 obtain ⟨oa,ha⟩:=r.th.1
 have gg:Sub z.G fun b=>if b=a then some oa else z.G b:=fun b o q=>by
  dsimp only
  by_cases c:b=a
  ·subst c;rw [f.1] at q;cases q
  ·rw [if_neg c];exact q
 refine ⟨{ z with G:=fun b=>if b=a then some oa else z.G b },d,rfl,e,⟨⟨x.st.pr,x.st.gg.trans gg,fun b o q=>?_,x.st.rn,x.st.th,x.st.sm,x.st.sl⟩,x.sg,x.en,x.ow⟩,I.grw rfl I.br (fun _ _ e _=>e) (fun _ o e=>⟨o.slots,e⟩) gg (fun b o q=>?_) fun b o q=>?_,.of (jV t r gg (by dsimp only;rw [if_pos rfl];exact ha.symm))⟩
 ·by_cases c:b=a
  ·subst c;exact .inr (.inl n)
  ·have q:(if b=a then some oa else z.G b)=some o:=q
   rw [if_neg c] at q;exact x.st.gn b o q
 ·have q:(if b=a then some oa else z.G b)=some o:=q
  by_cases c:b=a
  ·subst c;rw [if_pos rfl] at q;cases q;exact ha
  ·rw [if_neg c] at q;exact I.gh b o q
 ·have q:(if b=a then some oa else z.G b)=some o:=q
  by_cases c:b=a
  ·subst c;exact .inr ⟨f,no⟩
  ·rw [if_neg c] at q;exact .inl q
theorem LF.le (h:LF X e c) (hb:∀ br,X.ev br c=X.ev false c):LE X e c:=fun br z I nb=>by
 rw [hb] at nb ⊢
 exact wpAny_mono (h z I nb) (fun u s' ⟨z',d,q,e,x,I',f⟩=>by subst q;exact f.rd x I' e) fun _ _ h=>h
theorem uz:LF X (.Dict [] [] pos) (.dic .nil):=fun z I nb=>wpAny_Dict_empty (Dw.pe I ⟨.push (t:=z.s.toks),_,.dic [] [],rfl,aH z,rfl,_,[],rfl,beq_eq_false_iff_ne.mpr (Nat.ne_of_gt I.sysm),Heap.get?_push_size _ rfl,by
 obtain ⟨o,es,ep,h1,h2,h3,h4,h5,h6⟩:=Heap.DictOf.new (knd:=bD X.W.P X.W.w) z.s.heap
 rw [Heap.get?_push_size _ rfl] at h1
 cases h1
 exact ⟨es,ep,h2,h3,h4,h5,h6,Nat.zero_le _⟩,rfl,rfl⟩)
theorem ev1 (f:List D→Sta→Out β):(X.evs br (.cons a .nil) t).bind f=(X.ev br a t).bind fun x s=>f [x] s:=by
 show ((X.ev br a t).bind fun x s=>Out.ok [x] s).bind f=_
 rw [av];rfl
theorem ev2 (f:List D→Sta→Out β):(X.evs br (.cons a (.cons b .nil)) t).bind f=(X.ev br a t).bind fun x s=>(X.ev br b s).bind fun y s=>f [x,y] s:=by
 show ((X.ev br a t).bind fun x s=>((X.ev br b s).bind fun y s=>Out.ok [y] s).bind fun l s=>Out.ok (x :: l) s).bind f=_
 rw [av];congr 1;funext x s;rw [av,av];rfl
def Blt (X:Cx) (x:Str) (u:Value):Prop:=Gl X x∧X.mg x=none∧bootBuiltins x=some u∧x≠"__name__"∧(x == ("__debug__":Str))=false
theorem Blt.ld {Q:Value→Shared→Prop} {E:Value→Shared→Prop} (h:Blt X x u) (I:Rep X z) (q:Q u z.s):wpAny X.M X.A (eval (.Name x pos) X.env) Q E z.s:=xp I h.1 h.2.1 h.2.2.1 q h.2.2.2.1 h.2.2.2.2
theorem bf {f:Value} {Q:Value→Shared→Prop} {E:Value→Shared→Prop} (hf:(∃ id,f = .builtin id)∨∃ T,f = .type T) (hx:Blt X x f) (he:starEach (e :: er) X.env=(false,eval e X.env) :: starEach er X.env) (hpl:(backTo pos (starEach er X.env)).any (·.1)=false) (I:Rep X z)
 (h:wpAny X.M X.A (spliced ((false,eval e X.env) :: backTo pos (starEach er X.env))) (fun us s'=>wpAny X.M X.A (call f us) Q E s') E z.s):wpAny X.M X.A (eval (.Call (.Name x p) (e :: er) [] pos) X.env) Q E z.s:=by
 refine wpAny_Call_Name_kw (hx.ld I ?_)
 have h:wpAny X.M X.A (spliced (backTo pos (starEach (e :: er) X.env))) (fun us s'=>wpAny X.M X.A (call f us) Q E s') E z.s:=by rw [he];exact h
 rcases hf with ⟨id,rfl⟩ | ⟨T,rfl⟩
 ·exact callWith_builtin1 h he hpl
 ·exact callWith_type1 h he hpl
abbrev FB (f:Value):Prop:=(∃ id,f = .builtin id)∨∃ T,f = .type T
theorem xv {f:Value} (hb:Bi1 X f b) (hf:FB f) (hx:Blt X x f) (ha:LE X ea a) (he:starEach [ea] X.env=(false,eval ea X.env) :: starEach [] X.env):LE X (.Call (.Name x p) [ea] [] pos) (.bi b (.cons a .nil)):=fun br z I nb=>
 bf hf hx he rfl I (Calls.spliced_cons ((ha true).go .refl I (ev1 fun l s=>Out.of s (biD b (l.map (look s.st)))) nb fun z1 x u y1 x1 I1 r1 e1=>Calls.spliced_nil (cU x1 I1 e1 nb fun d q=>hb z1 _ _ d I1 (r1.rb.cr I1) q)))
theorem xI {f:Value} (hb:tC X f b) (hf:FB f) (hx:Blt X x f) (ha:LE X ea a) (he:starEach [ea] X.env=(false,eval ea X.env) :: starEach [] X.env):LF X (.Call (.Name x p) [ea] [] pos) (.bi b (.cons a .nil)):=fun z I nb=>
 bf hf hx he rfl I (Calls.spliced_cons ((ha true).go .refl I (ev1 fun l s=>Out.of s (biD b (l.map (look s.st)))) nb fun z1 x u y1 x1 I1 r1 e1=>Calls.spliced_nil (by
  cases q:jj b (look z1.t.st x) with
  | none=>exact absurd (e1.trans (show Out.of z1.t (jj b (look z1.t.st x)) = .bad by rw [q];rfl)) nb
  | some d=>
    refine wpAny_mono (hb z1 _ _ d I1 (r1.rb.cr I1) q) (fun v s' k=>?_) fun _ _ z=>z.elim
    obtain ⟨z2,d,q1,q2,y,I2,fv⟩:=k.pe I1
    exact ⟨z2,d,q1,(e1.trans (show Out.of z1.t (jj b (look z1.t.st x))=_ by rw [q];rfl)).trans q2,x1.trans y,I2,fv.less x1⟩)))
theorem xw {f:Value} (hb:Bi2 X f b) (hf:FB f) (hx:Blt X x f) (ha:LE X ea a) (hc:LE X ec c) (he:starEach [ea,ec] X.env=(false,eval ea X.env) :: starEach [ec] X.env) (he2:starEach [ec] X.env=(false,eval ec X.env) :: starEach [] X.env):LE X (.Call (.Name x p) [ea,ec] [] pos) (.bi b (.cons a (.cons c .nil))):=fun br z I nb=>
 bf hf hx he (by rw [he2];rfl) I (by
  rw [he2]
  exact Calls.spliced_cons ((ha true).go .refl I (ev2 fun l s=>Out.of s (biD b (l.map (look s.st)))) nb fun z1 x u y1 x1 I1 r1 e1=>Calls.spliced_cons ((hc true).go x1 I1 e1 nb fun z2 y v y2 x2 I2 r2 e2=>Calls.spliced_nil (cU x2 I2 e2 nb fun d q=>hb z2 _ _ _ _ d I2 ((r1.rb.st y2 I2).cr I2) (r2.rb.cr I2) q))))
theorem zS (hb:b = .isTup∨b = .isStr∨b = .isBool∨b = .isInt∨b = .isLst∨b = .isDic) (hx:Blt X "isinstance" (.builtin "isinstance")) (ht:Blt X x (.type (tyN b))) (ha:LE X ea a) (he:starEach [ea,.Name x q] X.env=(false,eval ea X.env) :: starEach [.Name x q] X.env):LE X (.Call (.Name "isinstance" p) [ea,.Name x q] [] pos) (.bi b (.cons a .nil)):=fun br z I nb=>
 bf (.inl ⟨_,rfl⟩) hx he rfl I (Calls.spliced_cons ((ha true).go .refl I (ev1 fun l s=>Out.of s (biD b (l.map (look s.st)))) nb fun z1 x u y1 x1 I1 r1 e1=>Calls.spliced_cons (ht.ld I1 (Calls.spliced_nil (cU x1 I1 e1 nb fun d q=>y7 hb I1 (r1.rb.cr I1) q)))))
structure dQ (K:Fg) (C:Addr):Prop where
 ga:PySem.W.findIn K (.ref C) "__getattribute__" = some (some (.builtin "BaseException.__getattribute__"))
 gn:PySem.W.findIn K (.ref C) "__getattr__" = some none
 cl:PySem.W.findIn K (.ref C) "__class__" = some (some (.builtin "object.__class__"))
 sg:PySem.W.specialIn K (.builtin "object.__class__") "__get__" = some (some (.builtin "getset_descriptor.__get__"))
 tk:PySem.W.takesIn K (.builtin "object.__class__")=some true
 ob:PySem.W.mroIn K C (.type "object")=some true
 be:PySem.W.mroIn K C (.type "BaseException")=some true
 is:(PySem.W.clsIn K C).isSome=true
structure dK (X:Cx) (an:Nat→Str) (c:Nat) (k:Cl) (i:CI):Prop where
 ci:X.W.ci[c]? = some i
 cls:k.what≠2→Cls X.K i.ad
 na:∀ f∈i.nm,cZ X.K i.ad f
 wh:X.W.what[c]? = some k.what
 nm:i.nm=k.at_.map an
 nd:i.nm.Nodup
 xc:k.what=2→dQ X.K i.ad∧PySem.W.hasDictIn X.K i.ad=true
theorem ti {names:List Str} {vs:List Value} {f:Str} {v:Value} (hn:names.Nodup) {j:Nat} (h1:names[j]? = some f) (h2:vs[j]? = some v):(names.zip vs).lookup f=some v:=by
 induction names generalizing vs j with
 | nil=>simp at h1
 | cons n r ih=>
   cases vs with
   | nil=>simp at h2
   | cons w vs=>
     show (match f == n with | true=>some w | false=>(r.zip vs).lookup f)=some v
     cases j with
     | zero=>simp at h1 h2;subst h1 h2;simp
     | succ j=>
       have h3:r[j]? = some f:=by simpa using h1
       have ne:f≠n:=fun z=>by subst z;exact (List.nodup_cons.mp hn).1 (List.mem_of_getElem? h3)
       rw [show (f == n)=false by simpa using ne]
       exact ih (List.nodup_cons.mp hn).2 h3 (by simpa using h2)
theorem InO.objm {s:Shared} (h:InO s.heap.get? a dx C l):lU s.heap a dx C fun n=>l.lookup n:=let ⟨e,n,_,o,e2,es,ep,r⟩:=h;⟨e,⟨o,es,ep,e2,r⟩,n⟩
theorem i9:∀ {d v},RD W ρ G d v→PySem.W.handedIn v=true
 | .non,_,h=>by cases (show _=_ from h);rfl
 | .bl _,_,h=>by cases (show _=_ from h);rfl
 | .int _,_,⟨_,h⟩=>h ▸ rfl
 | .str _,_,⟨_,h⟩=>h ▸ rfl
 | .tup _,_,⟨_,_,_,h,_⟩=>h ▸ rfl
 | .lst _,_,⟨_,_,_,h,_⟩=>h ▸ rfl
 | .dic _ _,_,⟨_,_,_,h,_⟩=>h ▸ rfl
 | .ins _ _,_,⟨_,_,_,h,_⟩=>h ▸ rfl
 | .ref _,_,⟨_,_,h⟩=>h ▸ rfl
abbrev cC (X:Cx) (an:Nat→Str):Prop:=∀ (c:Nat) (k:Cl),X.Γ.cl[c]? = some k→∃ i,dK X an c k i
theorem ko (T:cC X an) {c f:Nat} {l:List D} {d2:D} (e:((X.Γ.cl[c]?).bind fun k=>l[k.at_.idxOf f]?)=some d2):∃ k i,∃ j:Nat,X.Γ.cl[c]? = some k∧dK X an c k i∧l[j]? = some d2∧(l.length≤i.nm.length→i.nm[j]? = some (an f)):=by
 obtain ⟨k,q,e⟩:=Option.bind_eq_some_iff.mp e
 obtain ⟨i,ok⟩:=T c k q
 refine ⟨k,i,k.at_.idxOf f,q,ok,e,fun hl=>?_⟩
 have h1:k.at_.idxOf f<l.length:=(List.getElem?_eq_some_iff.mp e).1
 have h2:k.at_.idxOf f<k.at_.length:=by rw [ok.nm,List.length_map] at hl;omega
 rw [ok.nm,List.getElem?_map,List.getElem?_eq_getElem h2]
 simp
theorem wS (T:cC X an) (I:Rep X z) {n f:Nat} {d:D} {p:Addr×Addr} (ea:z.ρ[n]? = some p) (e:qG X.Γ z.t.st (.ref n) f=some d):∃ C fs v,InO z.h p.1 p.2 C fs∧Cls X.K C∧cZ X.K C (an f)∧fs.lookup (an f)=some v∧RD X.W z.ρ z.G d v:=by
 unfold qG at e
 dsimp only at e
 cases q:z.t.st[n]? with
 | none=>rw [q] at e;cases e
 | some o=>
   rw [q] at e
   cases o with
   | ins c l=>
     dsimp only at e
     obtain ⟨k,i',j,e1,ok,e2,e3⟩:=ko T e
     obtain ⟨i,vs,w1,w2,w3,w4,w5⟩:=I.ob n _ p q ea
     have e4:=ok.ci
     rw [w1] at e4;cases e4
     obtain ⟨v,ev,rv⟩:=w5.get e2
     have wz:k.what≠2:=by have:=ok.wh;rw [w2] at this;have e:=Option.some.inj this;omega
     exact ⟨i'.ad,_,v,w4,ok.cls wz,ok.na _ (List.mem_of_getElem? (e3 w3)),ti ok.nd (e3 w3) ev,rv⟩
   | _=>cases e
theorem qQ {Q:Value→Shared→Prop} {E:Value→Shared→Prop} {A:Around} (I:Rep X z) (h:InO z.h a dx C fs) (c:Cls X.K C) (n:cZ X.K C f) (l:fs.lookup f=some v) (r:RD X.W z.ρ z.G d v) (q:Q v { z.s with toks:=z.s.toks+1 }):wpAny X.M A (getAttr (.ref a) f b) Q E z.s:=
 t8 I.toHR.kin (InO.objm h) (c.get f) c.hd n l (i9 r) q
theorem xy (T:cC X an) (xr:∀ {z:Z} {a C:Addr} {l:List (Str×Value)} {f:Str} {v:Value} {Q:Value→Shared→Prop} {b:Bool},Rep X z→ExO z.h a C l→l≠[]→dQ X.K C→PySem.W.hasDictIn X.K C=true→PySem.W.findIn X.K (.ref C) f=some none→l.lookup f=some v→PySem.W.handedIn v=true→Q v { z.s with toks:=z.s.toks+1 }→wpAny X.M X.A (getAttr (.ref a) f b) Q NoE z.s)
 (ha:LE X ea a) (hb:attributeBase ea (an f) X.env (eval ea X.env)=eval ea X.env):LE X (.Attribute ea (an f) pos) (.fld a f):=fun br z I nb=>
 tF hb ((ha true).go .refl I rfl nb fun z1 x u y1 x1 I1 r1 e1=>cU x1 I1 e1 nb fun d q=>by
  have cr:=r1.rb.cr0 I1
  cases x with
  | ins c l=>
    obtain ⟨a,i,vs,rfl,hc,hl,w,rs⟩:=(cr:RD X.W z1.ρ z1.G (.ins c l) u)
    obtain ⟨k,i',j,e1,ok,e2,e3⟩:=ko T (show ((X.Γ.cl[c]?).bind fun k=>l[k.at_.idxOf f]?)=some d from q)
    have e4:=ok.ci
    rw [hc] at e4;cases e4
    obtain ⟨v,ev,rv⟩:=rs.get e2
    have lk:=ti ok.nd (e3 hl) ev
    have mem:an f∈i.nm:=List.mem_of_getElem? (e3 hl)
    rcases w with ⟨w1,dx,ga⟩ | ⟨w2,w⟩
    ·have w3:k.what≠2:=by have:=ok.wh;rw [w1] at this;have e:=Option.some.inj this;omega
     exact qQ I1 (ga.sub I1.gh) (ok.cls w3) (ok.na _ mem) lk rv (.old I1 .tok rv)
    ·have w3:k.what=2:=by have:=ok.wh;rw [w2] at this;exact (Option.some.inj this).symm
     exact xr I1 (w.sub I1.gh) (fun z=>by rw [z] at lk;cases lk) (ok.xc w3).1 (ok.xc w3).2 (ok.na _ mem) lk (i9 rv) (.old I1 .tok rv)
  | ref n=>
    obtain ⟨p,ep,rfl⟩:=(cr:RD X.W z1.ρ z1.G (.ref n) u)
    obtain ⟨C,fs,v,h1,h2,h3,h4,h5⟩:=wS T I1 ep q
    exact qQ I1 h1 h2 h3 h4 h5 (.old I1 .tok h5)
  | _=>cases q)
end
abbrev NoW:Addr→Prop:=fun _=>False
def XC (X:Cx) (z z':Z) (c:Nat) (l:List D) (e:Value):Prop:=∃ a T cls dx,e = .ref a∧XR X.W z' c l cls dx∧Tr z'.s.heap a cls dx T .none∧(z.h a=none∧z'.G a=none∧¬ Mu z'.ρ a)∧z.h T=none∧z'.G T=none∧¬ Mu z'.ρ T
def CRs (X:Cx) (z:Z) (r:Res) (q:Result) (s':Shared):Prop:=match q with
 | .ok (.ret u)=>∃ z' d,z'.s=s'∧r = .ok d z'.t.st∧Stp X.fr NoW z z'∧HR X z'∧RD X.W z'.ρ z'.G d u
 | .error e=>∃ z' c l,z'.s=s'∧r = .exc c l z'.t.st∧Stp X.fr NoW z z'∧HR X z'∧XC X z z' c l e
 | _=>False
structure FnC (X:Cx) (cal:Nat→List D→List O→Res) (lv j:Nat) (f:Addr) (fd:FuncData) (ps:List Str):Prop where
 len:∀ ds st,cal j ds st≠.bad→ds.length=ps.length
 run:∀ (A:Around) (fr:List Env) (z:Z) (args:Args) (us:List Value) (ds:List D),bc lv A→HR { X with A:=A,fr:=fr } z→BindsTo z.s fd args (ps.zip us)→RDs X.W z.ρ z.G ds us→cal j ds z.t.st≠.bad →
  codeAny X.M A (.call (.ref f) args) (CRs { X with A:=A,fr:=fr } z (cal j ds z.t.st)) z.s
def bJ (X:Cx) (cal:Nat→List D→List O→Res) (lv j:Nat) (f:Addr):Prop:=∃ fd ps,FnC X cal lv j f fd ps∧b6 X.K fd ps []∧PySem.W.keepIn X.K (.ref f)=true
mutual
theorem oG {G G':Hp} (k:∀ a o,G a=some o→(∀ l,¬ LsO o l)→G' a=some o):∀ {d:D} {v},noL d=true→RD W ρ G d v→RD W ρ G' d v
 | .non,_,_,e=>e
 | .bl _,_,_,e=>e
 | .int _,_,_,e=>e
 | .str _,_,_,e=>e
 | .ref _,_,_,e=>e
 | .tup _,_,n,⟨a,o,vs,e,t,q,r⟩=>⟨a,o,vs,e,k _ _ t fun l ⟨⟨_,z⟩,_⟩=>by have:=q.1;rw [z] at this;exact absurd this (show Value.type "list"≠.type "tuple" by decide),q,cH k n r⟩
 | .dic _ _,_,n,⟨a,o,vs,e,m,t,q,l,r⟩=>⟨a,o,vs,e,m,k _ _ t fun l ⟨⟨_,z⟩,_⟩=>by obtain ⟨_,_,x,_⟩:=q;have:=x.1;rw [z] at this;exact absurd this (show Value.type "list"≠.type "dict" by decide),q,l,cH k n r⟩
 | .ins _ _,_,n,⟨a,i,vs,e,hc,l,t,r⟩=>⟨a,i,vs,e,hc,l,t.elim (fun ⟨w,dx,q1,q2,q3,o,q4,q5⟩=>.inl ⟨w,dx,k _ _ q1 (fun l ⟨⟨_,z⟩,_⟩=>by injection z with z;cases z),q2,q3,o,k _ _ q4 (sA q5),q5⟩) (fun ⟨w,o,vs,q1,q2,q3,q4⟩=>.inr ⟨w,o,vs,k _ _ q1 (fun l ⟨⟨_,z⟩,_⟩=>by rw [z] at q3;cases q3),q2,q3,q4.elim .inl fun ⟨d,od,p1,p2,p3⟩=>.inr ⟨d,od,p1,k _ _ p2 (sA p3),p3⟩⟩),cH k n r⟩
 | .lst _,_,n,_=>by cases n
theorem cH {G G':Hp} (k:∀ a o,G a=some o→(∀ l,¬ LsO o l)→G' a=some o):∀ {ds:List D} {vs},fE ds=true→RDs W ρ G ds vs→RDs W ρ G' ds vs
 | [],_,_,e=>e
 | _ :: _,_,n,⟨v,r,e,t,q⟩=>by
   have n:(noL _ && fE _)=true:=n
   rw [Bool.and_eq_true] at n
   exact ⟨v,r,e,oG k n.1 t,cH k n.2 q⟩
theorem sA (h:NsO o m):∀ l,¬ LsO o l:=fun l ⟨⟨_,z⟩,_⟩=>by obtain ⟨_,_,q,_⟩:=h;rw [z] at q;cases q
end
section
variable {X:Cx} {z z':Z} {br:Bool}
theorem Stp.slots (S:Stp fr NoW z z') (n:¬ Mu z.ρ a) (e:z.h a=some o):∃ sl,z'.h a=some { o with slots:=sl }:=by
 by_cases f:a∈frs fr
 ·exact S.sl a o e n id f
 ·exact ⟨o.slots,S.sm a o e n id f⟩
open Classical in
theorem Rep.back (I:Rep X z) (p q:Nat→Bool) (S:Stp X.fr NoW (z.rel p) z') (H:HR X z') (pq:∀ i,p i=true→q i=true) (hq:∀ i∈z.t.ow,q i=true→p i=true∨(isLst z.t.env[i]? = true∧z'.t.st.all lb=true)) :
 ∃ zf,zf.s=z'.s∧zf.t=⟨z.t.env,z.t.ow.filter q,z'.t.st⟩∧zf.ρ=z'.ρ∧Rep X zf∧Ee X z zf∧(∀ a,z.h a=none→zf.G a=z'.G a)∧(∀ a o,z'.G a=some o→(∀ l,¬ LsO o l)→zf.G a=some o)∧((∀ i∈z.t.ow,q i=true→p i=true)→Sub z'.G zf.G):=by
 obtain ⟨Ir,xr⟩:=I.rel p
 let Rm:Addr→Prop:=fun a=>∃ i∈z.t.ow,q i=true∧z.σ[i]? = some (some (.ref a))
 have own:∀ {a},Rm a→Own z a:=fun ⟨i,m,_,e⟩=>⟨i,m,e⟩
 let G2:Hp:=fun a=>if Rm a then none else z'.G a
 have yes:∀ {a},Rm a→G2 a=none:=fun h=>if_pos h
 have no:∀ {a},¬ Rm a→G2 a=z'.G a:=fun h=>if_neg h
 have g2s:Sub G2 z'.G:=fun a o e=>by
  by_cases c:Rm a
  ·rw [yes c] at e;cases e
  ·rw [no c] at e;exact e
 have gz:Sub z.G G2:=fun a o e=>by
  by_cases c:Rm a
  ·rw [(I.oth (own c)).1.1] at e;cases e
  ·rw [no c];exact S.gg _ _ (xr.st.gg _ _ e)
 have cW:∀ {i:Nat} {a:Addr},i∈z.t.ow→p i=true→z.σ[i]? = some (some (.ref a))→z'.G a=none:=fun {i a} m pi es=>by
  obtain ⟨f,o',e'⟩:=I.oth ⟨i,m,es⟩
  have n:(z.rel p).G a=none:=(du fun ⟨j,mj,pj,ej⟩=>by rw [I.od j i a mj m ej es,pi] at pj;cases pj).trans f.1
  cases w:z'.G a with
  | none=>rfl
  | some o=>
    rcases S.gn a o w with w | w | w
    ·rw [n] at w;cases w
    ·rw [show (z.rel p).h a=z.h a from rfl,e'] at w;cases w
    ·exact w.elim
 have gp:∀ {a o},Rm a→z'.G a=some o→(∃ l,LsO o l)∧z'.t.st.all lb=true∧¬ ∀ i∈z.t.ow,q i=true→p i=true:=fun {a o} ⟨i,m,qi,es⟩ e=>by
  by_cases pi:p i=true
  ·rw [cW m pi es] at e;cases e
  ·obtain ⟨li,al⟩:=(hq i m qi).resolve_left pi
   obtain ⟨d,b,ob,h1,h2,h3,r,f⟩:=I.eo i m
   rw [es] at h2;cases h2
   refine ⟨?_,al,fun w=>pi (w i m qi)⟩
   rw [h1] at li
   cases d with
   | lst ds=>
     cases h3
     obtain ⟨oo,vs,_,e1,l1,_⟩:=r
     have:=S.gg a oo ((fT ⟨i,m,by simpa using pi,es⟩).trans e1)
     rw [e] at this;cases this
     exact ⟨vs,l1⟩
   | _=>cases li
 have kp:∀ a o,z'.G a=some o→(∀ l,¬ LsO o l)→G2 a=some o:=fun a o e n=>by
  by_cases c:Rm a
  ·obtain ⟨⟨l,h⟩,_⟩:=gp c e;exact absurd h (n l)
  ·rw [no c];exact e
 have kq:(∀ i∈z.t.ow,q i=true→p i=true)→Sub z'.G G2:=fun w a o e=>by
  by_cases c:Rm a
  ·exact absurd w (gp c e).2.2
  ·rw [no c];exact e
 have nn:∀ {a},z'.G a=none→G2 a=none:=fun {a} e=>by
  by_cases c:Rm a
  ·exact yes c
  ·rw [no c];exact e
 have rh:∀ {a},(z.rel p).h a=z.h a:=rfl
 have same:∀ a,¬ Mu z.ρ a→∀ o,z.h a=some o→∃ sl,z'.h a=some { o with slots:=sl }:=fun a n o e=>S.slots n e
 have nmu:∀ {a o},z.h a=some o→¬ Mu z.ρ a→¬ Mu z'.ρ a:=fun {a o} e n m=>(S.rn a m).elim n fun w=>by rw [rh,e] at w;cases w
 have nG:∀ {a o},z.h a=some o→(z.rel p).G a=none→z'.G a=none:=fun {a o} e n=>by
  cases w:z'.G a with
  | none=>rfl
  | some o'=>
    rcases S.gn a o' w with w | w | w
    ·rw [n] at w;cases w
    ·rw [rh,e] at w;cases w
    ·exact w.elim
 have ob2:∀ (n:Nat) (o:O) (pp:Addr×Addr),z'.t.st[n]? = some o→z'.ρ[n]? = some pp→ObR X.W z'.ρ G2 z'.h pp o:=fun n o pp h1 h2=>by
  by_cases w:∀ i∈z.t.ow,q i=true→p i=true
  ·exact (H.ob n o pp h1 h2).mono (List.prefix_refl _) (kq w) fun _ _ _ e=>e
  ·by_cases al:z'.t.st.all lb=true
   ·have nl:=List.all_eq_true.mp al o (List.mem_of_getElem? h1)
    cases o with
    | lst l=>cases nl
    | dic ks l=>obtain ⟨o,vs,a1,a2,a3,a4,a5,a6⟩:=H.ob n _ pp h1 h2;exact ⟨o,vs,a1,a2,a3,a4,a5,cH kp nl a6⟩
    | ins c l=>obtain ⟨i,vs,a1,a2,a3,a4,a5⟩:=H.ob n _ pp h1 h2;exact ⟨i,vs,a1,a2,a3,a4,cH kp nl a5⟩
   ·exact absurd (fun i m qi=>(hq i m qi).resolve_right fun v=>al v.2) w
 refine ⟨⟨z'.ρ,G2,⟨z.t.env,z.t.ow.filter q,z'.t.st⟩,z.σ,z'.s⟩,rfl,rfl,rfl,⟨⟨H.md,H.fm,H.hd,fun b o e=>gz _ _ (I.bs b o e),g2s.trans H.gh,H.rl,H.rn,fun a m=>nn (H.rg a m),ob2,H.fu,fun b m=>⟨nn (H.ff b m).1,(H.ff b m).2⟩,H.br,H.os⟩,I.ok,?_,fun x c e=>?_,fun a l=>?_,I.el,I.sl,fun i d n e=>?_,fun i m=>?_,fun i j a m1 m2=>I.od i j a (List.mem_filter.mp m1).1 (List.mem_filter.mp m2).1⟩,⟨⟨S.pr,gz,fun a o e=>?_,S.rn,S.th,fun a o e n w f=>S.sm a o e n id f,fun a o e n w f=>S.sl a o e n id f⟩,rfl,rfl,fun i m=>(List.mem_filter.mp m).1⟩,fun a e=>?_,kp,kq⟩
 ·obtain ⟨m,hn,hl⟩:=I.lo
  have cl:∀ c v,(∃ x,X.env.cells.lookup x=some c)→z.s.heap.IsCell c v→z'.s.heap.IsCell c v:=fun c v ⟨x,ex⟩ ⟨o,e,d⟩=>let ⟨_,w⟩:=same c (I.fl c (.inr ⟨x,ex⟩)).2 o e;⟨_,w,d⟩
  obtain ⟨oL,es,ep,eL,r⟩:=hn
  obtain ⟨sl,w⟩:=same _ (I.fl _ (.inl rfl)).2 oL eL
  exact ⟨m,⟨_,es,ep,w,r⟩,fun i x u h1 h2 h3=>dj (fun c v e q=>cl c v ⟨x,e⟩ q) (hl i x u h1 h2 h3)⟩
 ·obtain ⟨v,o,e1,d⟩:=I.ce x c e
  obtain ⟨sl,w⟩:=same c (I.fl c (.inr ⟨x,e⟩)).2 o e1
  exact ⟨v,_,w,d⟩
 ·obtain ⟨o,e⟩:=I.lth l
  exact ⟨nn (nG e (Ir.fl a l).1),nmu e (I.fl a l).2⟩
 ·by_cases m:i∈z.t.ow
  ·obtain ⟨d',a,o,h1,h2,h3,r,f⟩:=I.eo i m
   rw [show z.t.env[i]? = some (some d) from e] at h1;cases h1
   have qf:¬ q i=true:=fun w=>n (List.mem_filter.mpr ⟨m,w⟩)
   have pf:p i=false:=by cases w:p i with
    | false=>rfl
    | true=>exact absurd (pq i w) qf
   obtain ⟨oa,ea⟩:=r.th.1
   refine ⟨_,h2,jV h3 (r.mono (h':=z.h) S.pr (Sub.refl _) fun _ _ _ e=>e) gz ?_⟩
   have nr:¬ Rm a:=fun ⟨j,mj,qj,ej⟩=>by rw [I.od j i a mj m ej h2] at qj;exact qf qj
   exact (no nr).trans ((S.gg a oa ((fT ⟨i,m,pf,h2⟩).trans ea)).trans ea.symm)
  ·obtain ⟨u,w,r⟩:=I.en i d m e
   exact ⟨u,w,r.mono S.pr gz⟩
 ·obtain ⟨m1,m2⟩:=List.mem_filter.mp m
  obtain ⟨d',a,o,h1,h2,h3,r,f⟩:=I.eo i m1
  obtain ⟨oa,ea⟩:=r.th.1
  refine ⟨d',a,o,h1,h2,h3,r.mono S.pr gz fun b hb o e=>?_,yes ⟨i,m1,m2,h2⟩,nmu ea f.2.1,f.2.2⟩
  have hb:b=a:=hb.elim id id
  subst hb
  exact S.sm b o e f.2.1 id f.2.2.1
 ·rcases S.gn a o (g2s a o e) with w | w | w
  ·by_cases c:kc z p a
   ·obtain ⟨i,m,_,e⟩:=c;exact .inr (.inr ⟨i,m,e⟩)
   ·rw [du c] at w;exact .inl w
  ·exact .inr (.inl w)
  ·exact w.elim
 ·exact no fun c=>by obtain ⟨o,w⟩:=(I.oth (own c)).2;rw [e] at w;cases w
theorem tP {a r:E} (m:i∈bF r):i∈bF (.cons a r):=by cases a <;> first | exact List.mem_cons_of_mem _ m | exact m
theorem j3 (I:Rep X (z.rel p)) (gg:Sub z.G (z.rel p).G) (k:∀ i∈bF c,p i=false) {c' ds us} (hs:∀ i∈bF c',i∈bF c) (h:RVs X.W true c' z ds us):RDs X.W z.ρ (z.rel p).G ds us:=
 RVs.ind (P:=fun c' ds us=>(∀ i∈bF c',i∈bF c)→RDs X.W z.ρ (z.rel p).G ds us) (fun _=>rfl) (fun a r d ds u us h _ ih hs=>by
  refine .cons ?_ (ih fun i m=>hs i (tP m))
  rcases h with h | ⟨_,i,rfl,m,e1,e2⟩
  ·exact h.mono (List.prefix_refl _) gg
  ·obtain ⟨u',q,r⟩:=I.en i d (fun w=>by have:=(List.mem_filter.mp w).2;rw [k i (hs i List.mem_cons_self)] at this;cases this) e2
   rw [show z.σ[i]? = some (some u') from q] at e1;cases e1;exact r) c' ds us h hs
theorem hJ {o:Out D} (F:bJ X X.cal lv j f) (hr:bc lv X.A) (x:Ee X z0 z) (I:Rep X z) (rd:RDs X.W z.ρ (z.rel fun i=>!(bF es).contains i).G ds us) (e:o=ij X.cal es j ds z.t) (nb:o≠.bad):wpAny X.M X.A (call (.ref f) us) (Pe X z0 o (RV X.W br c)) (Px X z0 o) z.s:=by
 obtain ⟨Ir,xr⟩:=I.rel fun i=>!(bF es).contains i
 obtain ⟨fd,ps,F,hb,kp⟩:=F
 subst e
 have nbc:X.cal j ds z.t.st≠.bad:=fun q=>nb (by unfold ij;rw [q])
 have hl:us.length=ps.length:=rd.len ▸ F.len _ _ nbc
 have bd:=hb z.s us I.toHR.kin (by rw [List.append_nil];exact hl)
 rw [List.append_nil] at bd
 refine wpAny_call (codeAny_mono (F.run X.A X.fr (z.rel fun i=>!(bF es).contains i) ⟨us,[]⟩ us ds hr Ir.toHR bd rd nbc) fun q s' hq=>?_)
 cases q with
 | error e=>
   obtain ⟨z',c,l,rfl,er,S,H,a,T,cls,dx,rfl,xr',tr,⟨na,ga,ma⟩,nT,gT,mT⟩:=hq
   obtain ⟨zf,e1,e2,e3,If,xf,k1,k2,k3⟩:=I.back (fun i=>!(bF es).contains i) _ S H (fun _ h=>h) fun _ _ h=>.inl h
   have nob:∀ {b:Addr},z.h b=none→z'.G b=none→¬ Mu z'.ρ b→Nob X z zf b:=fun {b} n g m=>by
    have ⟨f,no⟩:=I.fre n
    exact ⟨n,⟨(k1 b n).trans g,e3 ▸ m,f.2.2⟩,fun w=>no (xf.own w)⟩
   refine Px.less x ⟨zf,c,l,e1,by unfold ij;rw [show X.cal j ds z.t.st=_ from er,e2];rfl,xf,If,a,cls,dx,rfl,?_,nob na ga ma,.inr ⟨T,.none,e1 ▸ tr,.inl rfl,nob nT gT mT⟩⟩
   obtain ⟨i,a1,a2,a3,a4,a5⟩:=xr'
   refine ⟨i,a1,a2,a3,a4,a5.imp_right fun ⟨d,od,vs,b1,b2,b3,b4⟩=>⟨d,od,vs,b1,k2 _ _ b2 (sA b3),b3,?_⟩⟩
   rw [e3];exact b4.mono (List.prefix_refl _) (k3 fun _ _ h=>h)
 | ok fl=>
   cases fl with
   | ret u=>
     obtain ⟨z',d,rfl,er,S,H,r⟩:=hq
     obtain ⟨zf,e1,e2,e3,If,xf,k1,k2,k3⟩:=I.back (fun i=>!(bF es).contains i) (fun i=>!(bF es).contains i || (isLst z.t.env[i]? && (noL d && z'.t.st.all lb))) S H (fun i h=>by rw [h];rfl) fun i _ h=>by
      cases w:(!(bF es).contains i) with
      | true=>exact .inl rfl
      | false=>rw [w,Bool.false_or,Bool.and_eq_true,Bool.and_eq_true] at h;exact .inr ⟨h.1,h.2.2⟩
     refine Pe.less x ⟨zf,d,e1,by unfold ij;rw [show X.cal j ds z.t.st=_ from er,e2];rfl,xf,If,.of ?_⟩
     rw [e3]
     cases w:noL d with
     | true=>exact oG k2 w r
     | false=>exact r.mono (List.prefix_refl _) (k3 fun i _ h=>by rw [w,Bool.false_and,Bool.and_false,Bool.or_false] at h;exact h)
   | next=>exact hq.elim
   | brk=>exact hq.elim
   | cont=>exact hq.elim
theorem gq {es:E}:∀ i∈bF es,(!(bF es).contains i)=false:=fun i m=>by simpa using m
theorem uq {x:Str} (F:bJ X X.cal lv j f) (hr:bc lv X.A) (hg:Gl X x) (hm:X.mg x=some (.ref f)) (ha:LA X (ea :: er) es) (hd:(x == ("__debug__":Str))=false) (he:starEach (ea :: er) X.env=(false,eval ea X.env) :: starEach er X.env) (hpl:(backTo pos (starEach er X.env)).any (·.1)=false):LE X (.Call (.Name x p) (ea :: er) [] pos) (.call j es):=fun br z I nb=>
 wpAny_Call_Name_kw (bo I hg hm (PySem.W.callWith_K (h₀:=X.base) I.md.kin (let ⟨_,_,_,_,k⟩:=F;k) ((ha true pos).go .refl I rfl nb fun z1 l us y1 x1 I1 r1 e1=>⟨I1.toHR.kin,hJ F hr x1 I1 (j3 (I1.rel _).1 (I1.rel _).2.st.gg gq (fun _ h=>h) r1) e1 nb⟩) he hpl) hd)
end
mutual
theorem mM:∀ {d:D} {v},noR d=true→RD W ρ G d v→RD W ρ' G d v
 | .non,_,_,e=>e
 | .bl _,_,_,e=>e
 | .int _,_,_,e=>e
 | .str _,_,_,e=>e
 | .ref _,_,n,_=>by cases n
 | .tup _,_,n,⟨a,o,vs,e,t,q,r⟩=>⟨a,o,vs,e,t,q,bb n r⟩
 | .lst _,_,n,⟨a,o,vs,e,t,q,r⟩=>⟨a,o,vs,e,t,q,bb n r⟩
 | .dic _ _,_,n,⟨a,o,vs,e,m,t,q,l,r⟩=>⟨a,o,vs,e,m,t,q,l,bb n r⟩
 | .ins _ _,_,n,⟨a,i,vs,e,hc,l,t,r⟩=>⟨a,i,vs,e,hc,l,t,bb n r⟩
theorem bb:∀ {ds:List D} {vs},ay ds=true→RDs W ρ G ds vs→RDs W ρ' G ds vs
 | [],_,_,e=>e
 | _ :: _,_,n,⟨v,r,e,t,q⟩=>by
   have n:(noR _ && ay _)=true:=n
   rw [Bool.and_eq_true] at n
   exact ⟨v,r,e,mM n.1 t,bb n.2 q⟩
end
theorem hO (k:Nat):∀ l:List D,(iC k l).length=l.length
 | []=>rfl
 | _ :: r=>congrArg (· + 1) (hO k r)
section
variable {X:Cx} {z z' z0:Z} {br:Bool}
abbrev Z.bare (z:Z):Z:={ z with ρ:=[],t:=⟨z.t.env,z.t.ow,[]⟩ }
theorem eA:¬ Mu [] a:=fun ⟨_,h,_⟩=>nomatch h
theorem HR.bare (I:HR X z):HR X z.bare:=⟨I.md,I.fm,I.hd,I.bs,I.gh,rfl,fun _ _ _ _ _ h=>by simp at h,fun _ m=>(eA m).elim,fun _ _ _ h=>by simp at h,I.fu,fun b m=>⟨(I.ff b m).1,eA⟩,I.br,I.os⟩
theorem Rep.hout (I:Rep X z) (S:Stp X.fr NoW z.bare z') (H:HR X z'):Rep X { z with G:=z'.G,s:=z'.s }∧Ee X z { z with G:=z'.G,s:=z'.s }:=by
 have gn:∀ a o,z'.G a=some o→z.G a=some o∨z.h a=none:=fun a o e=>(S.gn a o e).imp_right fun w=>w.elim id False.elim
 exact ⟨I.grw (H.os.trans I.os.symm) H.br (fun b o e f=>S.sm b o e eA id f) (fun b o e=>S.slots eA e) S.gg H.gh fun a o e=>(gn a o e).imp_right I.fre,⟨List.prefix_refl _,S.gg,fun a o e=>(gn a o e).imp_right .inl,fun _ m=>.inl m,S.th,fun a o e _ _ f=>S.sm a o e eA id f,fun a o e _ _ f=>S.sl a o e eA id f⟩,rfl,rfl,fun _ h=>h⟩
mutual
theorem RD.sh:∀ {d:D} {v},RD W ρ' G d v→RD W (ρ ++ ρ') G (shD ρ.length d) v
 | .non,_,e=>e
 | .bl _,_,e=>e
 | .int _,_,e=>e
 | .str _,_,e=>e
 | .ref n,_,⟨p,e,q⟩=>⟨p,by rw [List.getElem?_append_right (Nat.le_add_right ..),Nat.add_sub_cancel_left];exact e,q⟩
 | .tup _,_,⟨a,o,vs,e,t,q,r⟩=>⟨a,o,vs,e,t,q,r.sh⟩
 | .lst _,_,⟨a,o,vs,e,t,q,r⟩=>⟨a,o,vs,e,t,q,r.sh⟩
 | .dic _ _,_,⟨a,o,vs,e,m,t,q,l,r⟩=>⟨a,o,vs,e,m,t,q,l.trans (hO _ _).symm,r.sh⟩
 | .ins _ _,_,⟨a,i,vs,e,hc,l,t,r⟩=>⟨a,i,vs,e,hc,by rw [hO];exact l,t,r.sh⟩
theorem RDs.sh:∀ {ds:List D} {vs},RDs W ρ' G ds vs→RDs W (ρ ++ ρ') G (iC ρ.length ds) vs
 | [],_,e=>e
 | _ :: _,_,⟨v,r,e,t,q⟩=>⟨v,r,e,t.sh,q.sh⟩
end
theorem ObR.sh:∀ {o:O},ObR W ρ' G h p o→ObR W (ρ ++ ρ') G h p (shO ρ.length o)
 | .lst _,⟨o,vs,z,e,q,r⟩=>⟨o,vs,z,e,q,r.sh⟩
 | .dic _ _,⟨o,vs,z,m,e,q,l,r⟩=>⟨o,vs,z,m,e,q,l.trans (hO _ _).symm,r.sh⟩
 | .ins _ _,⟨i,vs,c,w,l,e,r⟩=>⟨i,vs,c,w,by rw [hO];exact l,e,r.sh⟩
theorem eu:Mu (ρ ++ ρ') a↔Mu ρ a∨Mu ρ' a:=⟨fun ⟨p,h,e⟩=>(List.mem_append.mp h).imp (fun h=>⟨p,h,e⟩) fun h=>⟨p,h,e⟩,fun h=>h.elim (fun ⟨p,h,e⟩=>⟨p,List.mem_append_left _ h,e⟩) fun ⟨p,h,e⟩=>⟨p,List.mem_append_right _ h,e⟩⟩
theorem Rep.more {os:List O} {ρ':Rs} (I:Rep X z) (hl:ρ'.length=os.length) (nw:∀ a,Mu ρ' a→Fre X z a∧¬ Own z a) (rn:∀ (i j:Nat) (p q:Addr×Addr) (a:Addr),ρ'[i]? = some p→ρ'[j]? = some q→(a=p.1∨a=p.2)→(a=q.1∨a=q.2)→i=j)
 (ob:∀ (n:Nat) (o:O) (p:Addr×Addr),os[n]? = some o→ρ'[n]? = some p→ObR X.W (z.ρ ++ ρ') z.G z.h p o):Rep X { z with ρ:=z.ρ ++ ρ',t:=⟨z.t.env,z.t.ow,z.t.st ++ os⟩ }:=by
 have rl:=I.rl
 have pre:z.ρ <+: z.ρ ++ ρ':=List.prefix_append _ _
 have at_:∀ {i:Nat} {p:Addr×Addr},(z.ρ ++ ρ')[i]? = some p→(i<z.ρ.length∧z.ρ[i]? = some p)∨(z.ρ.length≤i∧ρ'[i - z.ρ.length]? = some p):=fun {i p} h=>by
  by_cases c:i<z.ρ.length
  ·rw [List.getElem?_append_left c] at h;exact .inl ⟨c,h⟩
  ·rw [List.getElem?_append_right (by omega)] at h;exact .inr ⟨by omega,h⟩
 have mem:∀ {i:Nat} {p:Addr×Addr} {l:Rs} {a:Addr},l[i]? = some p→(a=p.1∨a=p.2)→Mu l a:=fun h e=>⟨_,List.mem_of_getElem? h,e⟩
 refine ⟨⟨I.md,I.fm,I.hd,I.bs,I.gh,by show (z.ρ ++ ρ').length=(z.t.st ++ os).length;simp only [List.length_append];omega,fun i j p q a h1 h2 h3 h4=>?_,fun a m=>(eu.mp m).elim (I.rg a) fun m=>(nw a m).1.1,fun n o p h1 h2=>?_,I.fu,fun b m=>⟨(I.ff b m).1,fun h=>(eu.mp h).elim (I.ff b m).2 fun h=>(nw b h).1.2.2.1 m⟩,I.br,I.os⟩,I.ok,I.lo,I.ce,fun a l=>⟨(I.fl a l).1,fun h=>(eu.mp h).elim (I.fl a l).2 fun h=>(nw a h).1.2.2.2 l⟩,I.el,I.sl,fun i d n e=>let ⟨u,q,r⟩:=I.en i d n e;⟨u,q,r.mono pre (.refl _)⟩,fun i m=>?_,I.od⟩
 ·rcases at_ h1 with ⟨c1,w1⟩ | ⟨c1,w1⟩ <;> rcases at_ h2 with ⟨c2,w2⟩ | ⟨c2,w2⟩
  ·exact I.rn i j p q a w1 w2 h3 h4
  ·exact absurd (mem w1 h3) (nw a (mem w2 h4)).1.2.1
  ·exact absurd (mem w2 h4) (nw a (mem w1 h3)).1.2.1
  ·have:=rn _ _ p q a w1 w2 h3 h4;omega
 ·have h1:(z.t.st ++ os)[n]? = some o:=h1
  rcases at_ h2 with ⟨c1,w1⟩ | ⟨c1,w1⟩
  ·rw [List.getElem?_append_left (by omega)] at h1
   exact (I.ob n o p h1 w1).mono pre (.refl _) fun _ _ _ e=>e
  ·rw [List.getElem?_append_right (by omega),← rl] at h1
   exact ob _ o p h1 w1
 ·obtain ⟨d,a,o,h1,h2,h3,r,f⟩:=I.eo i m
  exact ⟨d,a,o,h1,h2,h3,r.mono pre (.refl _) fun _ _ _ e=>e,f.1,fun h=>(eu.mp h).elim f.2.1 fun h=>(nw a h).2 ⟨i,m,h2⟩,f.2.2⟩
theorem rH {x:Str} (F:bJ X X.cal lv j f) (hr:bc lv X.A) (hg:Gl X x) (hm:X.mg x=some (.ref f)) (ha:LA X (ea :: er) es) (hd:(x == ("__debug__":Str))=false) (he:starEach (ea :: er) X.env=(false,eval ea X.env) :: starEach er X.env) (hpl:(backTo pos (starEach er X.env)).any (·.1)=false):LE X (.Call (.Name x p) (ea :: er) [] pos) (.hcall j es):=fun br z I nb=>
 wpAny_Call_Name_kw (bo I hg hm (PySem.W.callWith_K (h₀:=X.base) I.md.kin (let ⟨_,_,_,_,k⟩:=F;k) ((ha false pos).go .refl I rfl nb fun z1 l us y1 x1 I1 r1 e1=>⟨I1.toHR.kin,by
  obtain ⟨fd,ps,F,hb,kp⟩:=F
  unfold ua at e1
  by_cases nr:ay l=true
  ·rw [if_pos nr] at e1
   have nbc:X.cal j l []≠.bad:=fun q=>by rw [q] at e1;exact nb e1
   have rd:RDs X.W z1.bare.ρ z1.bare.G l us:=bb nr r1.rds
   have hl:us.length=ps.length:=rd.len ▸ F.len _ _ nbc
   have bd:=hb z1.s us I1.toHR.kin (by rw [List.append_nil];exact hl)
   rw [List.append_nil] at bd
   refine wpAny_call (codeAny_mono (F.run X.A X.fr z1.bare ⟨us,[]⟩ us l hr I1.toHR.bare bd rd nbc) fun q s' hq=>?_)
   cases q with
   | error e=>
     obtain ⟨z',c,l',rfl,er,S,H,a,T,cls,dx,rfl,xr',tr,⟨na,ga,ma⟩,nT,gT,mT⟩:=hq
     rw [show X.cal j l []=_ from er] at e1
     obtain ⟨If,xf⟩:=I1.hout S H
     by_cases n2:ay l'=true
     ·have e1:=e1.trans (if_pos n2)
      have nob:∀ {b:Addr},z1.h b=none→z'.G b=none→Nob X z1 { z1 with G:=z'.G,s:=z'.s } b:=fun {b} n g=>by
       have ⟨f,no⟩:=I1.fre n
       exact ⟨n,⟨g,f.2⟩,no⟩
      refine Px.less x1 ⟨{ z1 with G:=z'.G,s:=z'.s },c,l',rfl,e1,xf,If,a,cls,dx,rfl,?_,nob na ga,.inr ⟨T,.none,tr,.inl rfl,nob nT gT⟩⟩
      obtain ⟨i,a1,a2,a3,a4,a5⟩:=xr'
      exact ⟨i,a1,a2,a3,a4,a5.imp_right fun ⟨d,od,vs,b1,b2,b3,b4⟩=>⟨d,od,vs,b1,b2,b3,bb n2 b4⟩⟩
     ·exact absurd (e1.trans (if_neg n2)) nb
   | ok fl=>
     cases fl with
     | ret u=>
       obtain ⟨z',d,rfl,er,S,H,r⟩:=hq
       rw [show X.cal j l []=_ from er] at e1
       obtain ⟨If,xf⟩:=I1.hout S H
       by_cases n2:noR d=true
       ·have e1:=e1.trans (show (if noR d=true then Out.ok d z1.t else _)=_ from if_pos n2)
        exact Pe.less x1 ⟨{ z1 with G:=z'.G,s:=z'.s },d,rfl,e1,xf,If,.of (mM n2 r)⟩
       ·have e1:=e1.trans (show (if noR d=true then Out.ok d z1.t else _)=_ from if_neg n2)
        have new:∀ a,Mu z'.ρ a→z1.h a=none:=fun a m=>(S.rn a m).elim (fun m=>(eA m).elim) id
        have I2:=If.more (ρ':=z'.ρ) (os:=z'.t.st.map (shO z1.t.st.length)) (by rw [List.length_map];exact H.rl) (fun a m=>let ⟨f,no⟩:=I1.fre (new a m);⟨⟨H.rg a m,f.2⟩,no⟩) H.rn (fun n o p h1 h2=>by
         rw [List.getElem?_map,Option.map_eq_some_iff] at h1
         obtain ⟨o',h1,rfl⟩:=h1
         rw [← I1.rl];exact (H.ob n o' p h1 h2).sh)
        refine Pe.less x1 ⟨{ z1 with ρ:=z1.ρ ++ z'.ρ,G:=z'.G,t:=⟨z1.t.env,z1.t.ow,z1.t.st ++ z'.t.st.map (shO z1.t.st.length)⟩,s:=z'.s },shD z1.t.st.length d,rfl,e1,⟨⟨List.prefix_append _ _,xf.st.gg,xf.st.gn,fun a m=>(eu.mp m).imp_right (new a),xf.st.th,xf.st.sm,xf.st.sl⟩,rfl,rfl,fun _ h=>h⟩,I2,.of ?_⟩
        rw [← I1.rl];exact r.sh
     | next=>exact hq.elim
     | brk=>exact hq.elim
     | cont=>exact hq.elim
  ·rw [if_neg nr] at e1;exact absurd e1 nb⟩) he hpl) hd)
structure oY (X:Cx) (an:Nat→Str) (m:Str) (c:Nat) (f:Addr):Prop where
 ex:∃ i k,X.Γ.cl[c]? = some k∧dK X an c k i∧k.what=0∧yW X.K i.ad m f∧m ∉ i.nm
theorem tA {l:List Str} {vs:List Value} (h:m ∉ l):(l.zip vs).lookup m=none:=by
 induction l generalizing vs with
 | nil=>rfl
 | cons n r ih=>
   cases vs with
   | nil=>rfl
   | cons w vs=>
     show (match m == n with | true=>some w | false=>(r.zip vs).lookup m)=none
     rw [show (m == n)=false from beq_eq_false_iff_ne.mpr fun z=>h (by rw [z];exact List.mem_cons_self)]
     exact ih fun z=>h (List.mem_cons_of_mem _ z)
theorem n9 {n:Nat} {l:List D} {p:Addr×Addr} {Q:Value×List Value→Shared→Prop} {E:Value→Shared→Prop} {pl:Sem Bool} (M:oY X an m c f) (I:Rep X z) (e:z.t.st[n]? = some (.ins c l)) (ep:z.ρ[n]? = some p) (q:Q (.ref f,[.ref p.1]) z.s):wpAny X.M X.A (getMethod (.ref p.1) m pl) Q E z.s:=by
 obtain ⟨i,k,hc,ok,w,hm,nm⟩:=M.ex
 obtain ⟨i',vs,w1,w2,w3,w4,w5⟩:=I.ob n _ p e ep
 have e4:=ok.ci
 rw [w1] at e4;cases e4
 exact qR I.toHR.kin (InO.objm w4) ((ok.cls (by omega)).get m) hm.at_ hm.fn (tA nm) q
theorem og {o:Out D} {f:List D→Sta→Out D} {x:D} (e:o=(match x with
 | .ref p=>(match z.t.st[p]? with
   | some (.ins c' _)=>if c'=c then (X.evs true es z.t).bind fun l s=>ij X.cal es j (x :: l) s else .bad
   | _=>.bad)
 | _=>.bad)) (nb:o≠.bad):∃ n l,x = .ref n∧z.t.st[n]? = some (.ins c l)∧o=(X.evs true es z.t).bind fun l s=>ij X.cal es j (.ref n :: l) s:=by
 cases x with
 | ref n=>
   dsimp only at e
   cases q:z.t.st[n]? with
   | none=>rw [q] at e;exact absurd e nb
   | some ob=>
     rw [q] at e
     cases ob with
     | ins c' l=>
       dsimp only at e
       by_cases h:c'=c
       ·subst h;rw [if_pos rfl] at e;exact ⟨n,l,rfl,q,e⟩
       ·rw [if_neg h] at e;exact absurd e nb
     | _=>exact absurd e nb
 | _=>exact absurd e nb
theorem xB (F:bJ X X.cal lv j f) (hr:bc lv X.A) (M:oY X an m c f) (ho:LE X eo a) (ha:LA X (ea :: er) es) (he:starEach (ea :: er) X.env=(false,eval ea X.env) :: starEach er X.env) (hpl:(backTo pos (starEach er X.env)).any (·.1)=false)
 (ht:eval (.Call (.Attribute eo m apos) (ea :: er) [] pos) X.env=(do
  let ov ← eval eo X.env
  standAt apos.atName
  let (f,first) ← holding [ov] (getMethod ov m pl)
  callWith pos f first (backTo pos (starEach (ea :: er) X.env)) (backToKw pos (keywordEach [] X.env)))):LE X (.Call (.Attribute eo m apos) (ea :: er) [] pos) (.mth c j a es):=fun br z I nb=>
 PySem.W.methodCall_KW (pl:=pl) ((ho true).go .refl I rfl nb fun z1 x u y1 x1 I1 r1 e1=>by
  obtain ⟨n,l,rfl,q,e1⟩:=og (f:=fun _ _=>.bad) e1 nb
  obtain ⟨p,ep,rfl⟩:=(r1.rb.cr0 I1:RD X.W z1.ρ z1.G (.ref n) u)
  exact n9 M I1 q ep (PySem.W.callWith_K (first:=[.ref p.1]) (h₀:=X.base) I.md.kin (let ⟨_,_,_,_,k⟩:=F;k) ((ha true pos).go x1 I1 e1 nb fun z2 l us y2 x2 I2 r2 e2=>⟨I2.toHR.kin,hJ (us:=.ref p.1 :: us) F hr x2 I2 (.cons (d:=.ref n) ⟨p,jW y2.st.pr ep,rfl⟩ (j3 (I2.rel _).1 (I2.rel _).2.st.gg gq (fun _ h=>h) r2)) e2 nb⟩) he hpl)) ht
theorem ux (F:bJ X X.cal lv j f) (hr:bc lv X.A) (M:oY X an m c f) (ho:LE X eo a)
 (ht:eval (.Call (.Attribute eo m apos) [] [] pos) X.env=(do
  let ov ← eval eo X.env
  standAt apos.atName
  let (f,first) ← holding [ov] (getMethod ov m pl)
  callWith pos f first (backTo pos (starEach [] X.env)) (backToKw pos (keywordEach [] X.env)))):LE X (.Call (.Attribute eo m apos) [] [] pos) (.mth c j a .nil):=fun br z I nb=>
 PySem.W.methodCall_KW (pl:=pl) ((ho true).go .refl I rfl nb fun z1 x u y1 x1 I1 r1 e1=>by
  obtain ⟨n,l,rfl,q,e1⟩:=og (f:=fun _ _=>.bad) e1 nb
  obtain ⟨p,ep,rfl⟩:=(r1.rb.cr0 I1:RD X.W z1.ρ z1.G (.ref n) u)
  exact n9 M I1 q ep (PySem.W.callWith_K0 (first:=[.ref p.1]) I1.toHR.kin (let ⟨_,_,_,_,k⟩:=F;k) (hJ (us:=[.ref p.1]) (es:=.nil) F hr x1 I1 (.cons (d:=.ref n) (ds:=[]) ⟨p,ep,rfl⟩ rfl) e1 nb))) ht
theorem ia (C:Addr) (us:List Value) (kw:List (Str×Value)):(X.A.under (.builtin "type.__call__" ⟨.ref C :: us,kw⟩)).frames=X.A.frames:=by simp [Around.under,Code.envs,Code.isFrame,pushEnvs]
theorem dZ:Mu (ρ ++ [p]) a↔Mu ρ a∨a=p.1∨a=p.2:=by
 constructor
 ·rintro ⟨q,h,e⟩
  rcases List.mem_append.mp h with h | h
  ·exact .inl ⟨q,h,e⟩
  ·cases List.mem_singleton.mp h;exact .inr e
 ·rintro (⟨q,h,e⟩ | e)
  ·exact ⟨q,List.mem_append_left _ h,e⟩
  ·exact ⟨p,List.mem_append_right _ List.mem_cons_self,e⟩
theorem aO {l:List α} (e:(l ++ [a])[n]? = some b):l[n]? = some b∨(n=l.length∧b=a):=by
 rcases Nat.lt_trichotomy n l.length with h | h | h
 ·rw [List.getElem?_append_left h] at e;exact .inl e
 ·subst h;rw [List.getElem?_append_right (Nat.le_refl _),Nat.sub_self] at e;cases e;exact .inr ⟨rfl,rfl⟩
 ·rw [List.getElem?_append_right (Nat.le_of_lt h),List.getElem?_eq_none (by simp;omega)] at e;cases e
theorem HR.snoc (I:HR X z) (g:Gr z.s s') (hp:z.h p.1=none∧z.h p.2=none) (r:ObR X.W (z.ρ ++ [p]) z.G s'.heap.get? p o):HR X { z with ρ:=z.ρ ++ [p],t:=⟨z.t.env,z.t.ow,z.t.st ++ [o]⟩,s:=s' }∧Stp X.fr w z { z with ρ:=z.ρ ++ [p],t:=⟨z.t.env,z.t.ow,z.t.st ++ [o]⟩,s:=s' }:=by
 have nn:∀ {a:Addr},(a=p.1∨a=p.2)→z.h a=none:=fun h=>h.elim (fun e=>e ▸ hp.1) fun e=>e ▸ hp.2
 have pre:z.ρ <+: z.ρ ++ [p]:=List.prefix_append _ _
 have no:∀ {a:Addr} {P:Prop},(a=p.1∨a=p.2)→(∃ o,z.h a=some o)→P:=fun h ⟨o,e⟩=>by rw [nn h] at e;cases e
 have old:∀ {i:Nat} {q:Addr×Addr} {a:Addr},z.ρ[i]? = some q→(a=q.1∨a=q.2)→∃ o,z.h a=some o:=fun h1 h2=>I.th ⟨_,List.mem_of_getElem? h1,h2⟩
 refine ⟨⟨I.md,I.fm,I.hd,I.bs,fun a o e=>g.k a o (I.gh a o e),by simp [I.rl],fun i j q1 q2 a h1 h2 h3 h4=>?_,fun a m=>?_,fun n o' q h1 h2=>?_,nfu I.fu g.k,fun b m=>⟨(I.ff b m).1,fun w=>(dZ.mp w).elim (I.ff b m).2 fun w=>no w (I.fth m)⟩,by show AllBare s'.gens;rw [g.gs];exact I.br,g.os.trans I.os⟩,⟨pre,.refl _,fun _ _ e=>.inl e,fun a m=>(dZ.mp m).imp_right nn,fun a o e=>⟨o,g.k a o e⟩,fun a o e _ _ _=>g.k a o e,fun a o e _ _ _=>⟨o.slots,g.k a o e⟩⟩⟩
 ·rcases aO h1 with a1 | ⟨a1,b1⟩
  ·rcases aO h2 with a2 | ⟨a2,b2⟩
   ·exact I.rn i j q1 q2 a a1 a2 h3 h4
   ·subst b2;exact no h4 (old a1 h3)
  ·subst b1
   rcases aO h2 with a2 | ⟨a2,b2⟩
   ·exact no h3 (old a2 h4)
   ·rw [a1,a2]
 ·rcases dZ.mp m with m | m
  ·exact I.rg a m
  ·cases q:z.G a with
   | none=>rfl
   | some o=>exact no m ⟨o,I.gh a o q⟩
 ·rcases aO h2 with a2 | ⟨a2,b2⟩
  ·rcases aO h1 with a1 | ⟨a1,_⟩
   ·exact (I.ob n o' q a1 a2).mono pre (.refl _) fun a _ o e=>g.k a o e
   ·have:=(List.getElem?_eq_some_iff.mp a2).1;rw [I.rl] at this;omega
  ·subst b2
   rcases aO h1 with a1 | ⟨_,b1⟩
   ·have:=(List.getElem?_eq_some_iff.mp a1).1;rw [← I.rl] at this;omega
   ·subst b1;exact r
theorem HR.at {A:Around} (I:HR X z) (f:A.frames=X.A.frames) (h:A.handled=X.A.handled):HR { X with A:=A } z:=⟨I.md,f.trans I.fm,fun c=>h.trans (I.hd c),I.bs,I.gh,I.rl,I.rn,I.rg,I.ob,I.fu,I.ff,I.br,I.os⟩
theorem vk {o:Out D} {j:Nat} {cl:Cl} {i:CI} (F:bJ X X.cal1 lv cl.init f) (hr:bc (lv+1) X.A) (M:Mk X.K i.ad f) (hcl:X.Γ.cl[j]? = some cl) (hw:cl.what=0) (hci:X.W.ci[j]? = some i) (hwh:X.W.what[j]? = some 0) (x:Ee X z0 z) (I:Rep X z) (r:RVs X.W true es z l us)
 (e:o=(match X.Γ.cl[j]? with
 | some k=>if k.what=1 then (if l.length=k.at_.length then .ok (.ins j l) (drp es z.t z.t.st) else .bad)
   else if k.what=0 then (match X.cal1 k.init (.ref z.t.st.length :: l) (z.t.st ++ [.ins j []]) with
    | .ok .non st=>.ok (.ref z.t.st.length) (aft es z.t .non st)
    | _=>.bad)
   else .bad
 | none=>.bad)) (nb:o≠.bad):wpAny X.M X.A (call (.ref i.ad) us) (Pe X z0 o (RV X.W br c)) (Px X z0 o) z.s:=by
 rw [hcl] at e
 dsimp only at e
 rw [if_neg (by omega),if_pos hw] at e
 obtain ⟨Ir,xr⟩:=I.rel fun i=>!(bF es).contains i
 obtain ⟨fd,ps,F,hb,kp⟩:=F
 have nbc:X.cal1 cl.init (.ref z.t.st.length :: l) (z.t.st ++ [.ins j []])≠.bad:=fun q=>by rw [q] at e;exact nb e
 have g:Gr z.s { z.s with heap:=(z.s.heap.push PySem.W.emptyDict).push (PySem.W.instObj i.ad z.s.heap.objs.size) }:=⟨rfl,rfl,fun b o e=>Heap.get?_push_of_some _ (Heap.get?_push_of_some _ e)⟩
 have e1:(z.s.heap.push PySem.W.emptyDict).get? z.s.heap.objs.size=some PySem.W.emptyDict:=Heap.get?_push_size z.s.heap rfl
 have e2:((z.s.heap.push PySem.W.emptyDict).push (PySem.W.instObj i.ad z.s.heap.objs.size)).get? (z.s.heap.objs.size+1)=some (PySem.W.instObj i.ad z.s.heap.objs.size):=by
  have:=Heap.get?_push_size (z.s.heap.push PySem.W.emptyDict) (o:=PySem.W.instObj i.ad z.s.heap.objs.size) rfl
  rwa [Heap.size_push] at this
 have hn:z.h (z.s.heap.objs.size+1)=none∧z.h z.s.heap.objs.size=none:=⟨Heap.get?_none_of_le (Nat.le_succ _),Heap.get?_none_of_le (Nat.le_refl _)⟩
 have ne:z.s.heap.objs.size≠z.s.heap.objs.size+1:=Nat.ne_of_lt (Nat.lt_succ_self _)
 obtain ⟨H1,S1⟩:=HR.snoc (w:=NoW) (p:=(z.s.heap.objs.size+1,z.s.heap.objs.size)) (o:=.ins j []) Ir.toHR g hn ⟨i,[],hci,hwh,Nat.zero_le _,⟨e2,ne,by simp,_,Heap.get?_push_of_some _ e1,#[],_,rfl,(fun e he=>absurd he (by simp)),.nil,fun n=>by cases i.nm <;> rfl⟩,rfl⟩
 have at0:(z.ρ ++ [(z.s.heap.objs.size+1,z.s.heap.objs.size)])[z.t.st.length]? = some (z.s.heap.objs.size+1,z.s.heap.objs.size):=by rw [List.getElem?_append_right (by rw [I.rl];exact Nat.le_refl _),I.rl,Nat.sub_self];rfl
 have rd0:=j3 Ir xr.st.gg gq (fun _ h=>h) r
 have rd:RDs X.W (z.ρ ++ [(z.s.heap.objs.size+1,z.s.heap.objs.size)]) (z.rel fun i=>!(bF es).contains i).G (.ref z.t.st.length :: l) (.ref (z.s.heap.objs.size+1) :: us):=.cons ⟨_,at0,rfl⟩ (rd0.mono (List.prefix_append _ _) (.refl _))
 have hl:=F.len _ _ nbc
 rw [rd.len] at hl
 have bd:=hb { z.s with heap:=(z.s.heap.push PySem.W.emptyDict).push (PySem.W.instObj i.ad z.s.heap.objs.size) } (.ref (z.s.heap.objs.size+1) :: us) (I.toHR.kin.keeps g.k) (by rw [List.append_nil];exact hl)
 rw [List.append_nil] at bd
 refine wpAny_call (rX (f:=f) I.toHR.kin M.makes M.init (beq_iff_eq.mp M.fn) (codeAny_mono (F.run _ X.fr _ ⟨.ref (z.s.heap.objs.size+1) :: us,[]⟩ _ _ (hr.make i.ad us []) (H1.at (ia i.ad us []) rfl) bd rd nbc) fun q s' hq=>?_))
 cases q with
 | error e'=>obtain ⟨z',c,l',_,er,_⟩:=hq;rw [show X.cal1 cl.init (.ref z.t.st.length :: l) (z.t.st ++ [.ins j []])=_ from er] at e;exact absurd e nb
 | ok fl=>
   cases fl with
   | ret u=>
     obtain ⟨z',d,rfl,er,S,H,r⟩:=hq
     rw [show X.cal1 cl.init (.ref z.t.st.length :: l) (z.t.st ++ [.ins j []])=_ from er] at e
     cases d with
     | non=>
       refine ⟨(show u = .none from r),?_⟩
       have S2:Stp X.fr NoW (z.rel fun i=>!(bF es).contains i) z':=S1.trans S fun _ h=>h.elim
       have H2:HR X z':=H.at (X:={ X with A:=_,fr:=X.fr }) (A:=X.A) (ia i.ad us []).symm rfl
       obtain ⟨zf,f1,f2,f3,If,xf,k1,k2,k3⟩:=I.back (fun i=>!(bF es).contains i) (fun i=>!(bF es).contains i || (isLst z.t.env[i]? && (noL .non && z'.t.st.all lb))) S2 H2 (fun i h=>by rw [h];rfl) fun i _ h=>by
        cases w:(!(bF es).contains i) with
        | true=>exact .inl rfl
        | false=>rw [w,Bool.false_or,Bool.and_eq_true,Bool.and_eq_true] at h;exact .inr ⟨h.1,h.2.2⟩
       refine Pe.less x ⟨zf,.ref z.t.st.length,f1,by rw [e,f2];rfl,xf,If,.of ⟨(z.s.heap.objs.size+1,z.s.heap.objs.size),?_,rfl⟩⟩
       rw [f3]
       exact jW S.pr at0
     | _=>exact absurd e nb
   | next=>exact hq.elim
   | brk=>exact hq.elim
   | cont=>exact hq.elim
end
def Ps (X:Cx) (z:Z) (o:ao) (f:Flow) (s':Shared):Prop:=match o with
 | .nx t=>f = .next∧∃ z',z'.s=s'∧z'.t=t∧Go X z z'∧Rep X z'
 | .rt d t=>∃ u z',f = .ret u∧z'.s=s'∧z'.t.st=t.st∧Go X z z'∧Rep X z'∧RD X.W z'.ρ z'.G d u
 | _=>False
def PxS (X:Cx) (z:Z) (o:ao) (x:Value) (s':Shared):Prop:=∃ z' c l,z'.s=s'∧o = .exc c l z'.t∧Go X z z'∧Rep X z'∧XO X z z' c l x
abbrev Ws (X:Cx) (t:Sem Flow) (z:Z) (o:ao):Prop:=wpAny X.M X.A t (Ps X z o) (PxS X z o) z.s
def LS (X:Cx) (st:Stmt) (c:S):Prop:=∀ z,Rep X z→X.ex c z.t≠.bad→Ws X (exec st X.env) z (X.ex c z.t)
def LSs (X:Cx) (st:List Stmt) (c:S):Prop:=∀ z,Rep X z→X.ex c z.t≠.bad→Ws X (execs st X.env) z (X.ex c z.t)
section
variable {X:Cx} {z z' z0 z1:Z}
theorem Ps.less (x:Go X z z1) (h:Ps X z1 o f s'):Ps X z o f s':=by
 cases o with
 | nx t=>obtain ⟨e,z',a,b,y,I⟩:=h;exact ⟨e,z',a,b,x.trans y,I⟩
 | rt d t=>obtain ⟨u,z',e,a,b,y,I⟩:=h;exact ⟨u,z',e,a,b,x.trans y,I⟩
 | _=>exact h
theorem PxS.less (x:Go X z z1) (h:PxS X z1 o u s'):PxS X z o u s':=let ⟨z',c,l,e,q,y,I,n⟩:=h;⟨z',c,l,e,q,x.trans y,I,n.less fun _=>x.st.no⟩
theorem PxS.of {m:Out α} (x:Go X z z1) (h:Px X z1 m u s') {f:α→Sta→ao}:PxS X z (m.go f) u s':=let ⟨z',c,l,e,q,y,I,n⟩:=h;⟨z',c,l,e,by rw [q];rfl,x.trans y.go,I,n.less fun _=>x.st.no⟩
theorem Jg.gos {t:Sem β} {m:Sta→Out α} {R:Z→α→β→Prop} {f:α→Sta→ao} {o:ao} {K:β→Shared→Prop} (h:Jg X t m R) (x:Go X z z1) (I:Rep X z1) (e:o=(m z1.t).go f) (nb:o≠.bad)
 (k:∀ z2 d u,Ee X z1 z2→Go X z z2→Rep X z2→R z2 d u→o=f d z2.t→K u z2.s):wpAny X.M X.A t K (PxS X z o) z1.s:=by
 subst e
 refine wpAny_mono (h z1 I fun q=>nb (by rw [q];rfl)) (fun u s' ⟨z2,d,e,q,y,I1,r⟩=>?_) fun u s' h=>.of x h
 subst e;exact k z2 d u y (x.trans y.go) I1 r (by rw [q];rfl)
theorem nxt (x:Go X z z1) (I:Rep X z1) (e:o = .nx z1.t):Ps X z o .next z1.s:=by subst e;exact ⟨rfl,z1,rfl,rfl,x,I⟩
theorem LSs.at (h:LSs X sts c) (x:Go X z z1) (I:Rep X z1) (e:o=X.ex c z1.t) (nb:o≠.bad):wpAny X.M X.A (execs sts X.env) (Ps X z o) (PxS X z o) z1.s:=by subst e;exact wpAny_mono (h z1 I nb) (fun _ _ h=>h.less x) fun _ _ h=>h.less x
theorem rR:LSs X [] .skip:=fun z I _=>wpAny_execs_nil (nxt .refl I rfl)
theorem rS (h:LS X tm c):LSs X [tm] c:=fun z I nb=>wpAny_execs_cons (thn (h z I nb) fun f s1 q=>by
 cases f with
 | next=>exact wpAny_execs_nil q
 | ret v=>exact q
 | brk=>exact q
 | cont=>exact q)
theorem nR (h1:LS X tm a) (h2:LSs X rest b):LSs X (tm :: rest) (.seq a b):=fun z I nb=>by
 have nb1:X.ex a z.t≠.bad:=fun q=>nb (show ao.go (X.ex a z.t) _=_ by rw [q];rfl)
 refine wpAny_execs_cons (wpAny_mono (h1 z I nb1) (fun f s1 q=>?_) fun u s' ⟨z',c,l,e,q,r⟩=>⟨z',c,l,e,show ao.go (X.ex a z.t) _=_ by rw [q];rfl,r⟩)
 cases qa:X.ex a z.t with
 | nx t=>
   rw [qa] at q
   obtain ⟨rfl,z1,rfl,rfl,x1,I1⟩:=q
   exact h2.at x1 I1 (show ao.go (X.ex a z.t) _=_ by rw [qa];rfl) nb
 | rt d t=>
   have e:X.ex (.seq a b) z.t = .rt d t:=show ao.go (X.ex a z.t) _=_ by rw [qa];rfl
   rw [qa] at q
   obtain ⟨u,z1,rfl,r⟩:=q
   show Ps X z (X.ex (.seq a b) z.t) (.ret u) s1
   rw [e];exact ⟨u,z1,rfl,r⟩
 | exc c l t=>rw [qa] at q;exact q.elim
 | bad=>exact absurd qa nb1
theorem nU (h:∀ z,Rep X z→wpAny X.M X.A (exec tm X.env) (fun f s'=>f = .next∧Gr z.s s') NoE z.s):LS X tm .skip:=fun z I _=>wpAny_mono (h z I) (fun f s' ⟨e,g⟩=>by subst e;exact nxt (z1:={ z with s:=s' }) (aE I.gh g).ee.go (I.grow (aE I.gh g)) rfl) fun _ _ z=>z.elim
theorem uL:LS X (.Pass pos) .skip:=nU fun _ _=>wpAny_Pass ⟨rfl,.refl⟩
theorem Rep.quiet (I:Rep X z):interactive X.env=false:=by simp [interactive,I.ok.kd]
theorem xN:LS X (.Expr (.Constant (.str x) j pos) pos') .skip:=nU fun z I=>wpAny_Expr (Calls.Constant_str (show _∧_ from ⟨rfl,.tok⟩)) I.quiet
theorem uI (he:LE X e c) (hs:swapsWith e none pos.line X.env=pure false):LS X (.Expr e pos) (.drop c):=fun z I nb=>wpAny_Expr_any ((he false).gos .refl I rfl nb fun z1 d u y x I1 r e1=>nxt x I1 e1) I.quiet hs
theorem jK (he:LE X e c):LS X (.Return (some e) pos) (.ret c):=fun z I nb=>wpAny_Return_some ((he false).gos .refl I rfl nb fun z1 d u y x I1 r e1=>by
 show Ps X z (X.ex (.ret c) z.t) _ _
 rw [e1];exact ⟨u,z1,rfl,rfl,rfl,x,I1,r.rd⟩)
theorem uO:LS X (.Return none pos) (.ret (.c .non)):=fun z I nb=>wpAny_Return_none ⟨.none,z,rfl,rfl,rfl,.refl,I,rfl⟩
theorem zZ (hc:LT X ec c) (ha:LSs X sa a) (hb:LSs X sb b):LS X (.If ec sa sb pos) (.ifs c a b):=fun z I nb=>by
 have e:X.ex (.ifs c a b) z.t=((X.ev true c z.t).bind toB).go fun t s=>if t then X.ex a s else X.ex b s:=by
  show Out.go (X.ev true c z.t) _=_
  cases X.ev true c z.t with
  | ok d s=>cases d <;> first | rfl | (rename_i t;cases t <;> rfl)
  | _=>rfl
 refine wpAny_If (hc.gos .refl I e nb fun z1 t u y x I1 r e1=>?_)
 cases (show u=t from r)
 cases t with
 | true=>exact ha.at x I1 e1 nb
 | false=>exact hb.at x I1 e1 nb
def Vl (X:Cx) (z0 z:Z) (own:Bool) (d:D) (u:Value):Prop:=match own with
 | false=>RD X.W z.ρ z.G d u
 | true=>FV X z0 z d u
def stV (t:Sta) (i:Nat) (d:D) (own:Bool):Sta:=⟨t.env.set i (some d),if own then i :: t.ow.filter (· != i) else t.ow.filter (· != i),t.st⟩
theorem jr {h h' base:Heap} (k:∀ b o,h.get? b=some o→(∀ vs,o.data≠.fields vs)→∃ o',h'.get? b=some o'∧∀ vs,o'.data≠.fields vs):∀ {l:List Env},h.FunFrames base l→h'.FunFrames base l
 | [],_=>trivial
 | _ :: _,⟨a,⟨L,o,e1,e2,e3,e4⟩,r⟩=>let ⟨o',q1,q2⟩:=k L o e3 e4;⟨a,⟨L,o',e1,e2,q1,q2⟩,jr k r⟩
theorem Rep.put {s':Shared} {i:Nat} {own:Bool} {d:D} {u:Value} (x0:Go X z0 z) (I:Rep X z) (sb:Heap.SameBut a z.s.heap s'.heap) (la:Lc X a) (th:∃ o,s'.heap.get? a=some o∧∀ vs,o.data≠.fields vs) (os:s'.os=z.s.os) (gs:s'.gens=z.s.gens) (vl:Vl X z0 z own d u) (hi:i<X.N.length)
 (lo:∃ m,s'.heap.Ns X.env.locals m∧∀ (j:Nat) (x:Str) (w:Value),X.N[j]? = some x→(z.σ.set i (some u))[j]? = some (some w)→Vis X.env.scope x→lT X.env s'.heap m x w)
 (ce:∀ x c,X.env.cells.lookup x=some c→∃ v,s'.heap.IsCell c v):Rep X { z with t:=stV z.t i d own,σ:=z.σ.set i (some u),s:=s' }∧Go X z0 { z with t:=stV z.t i d own,σ:=z.σ.set i (some u),s:=s' }:=by
 have ne:∀ {b:Addr},¬ Lc X b→s'.heap.get? b=z.h b:=fun n=>sb.2 _ fun e=>n (e ▸ la)
 have nG:∀ {b o},z.G b=some o→¬ Lc X b:=fun e l=>by rw [(I.fl _ l).1] at e;cases e
 have nM:∀ {b},Mu z.ρ b→¬ Lc X b:=fun m l=>(I.fl _ l).2 m
 have hiσ:i<z.σ.length:=by rw [I.sl];exact hi
 have ow:∀ {j},j∈(stV z.t i d own).ow→(j=i∧own=true)∨(j≠i∧j∈z.t.ow):=fun {j} m=>by
  cases own with
  | true=>
    rcases List.mem_cons.mp (show j∈i :: z.t.ow.filter (· != i) from m) with w | w
    ·exact .inl ⟨w,rfl⟩
    ·have:=List.mem_filter.mp w;exact .inr ⟨by simpa using this.2,this.1⟩
  | false=>have:=List.mem_filter.mp (show j∈z.t.ow.filter (· != i) from m);exact .inr ⟨by simpa using this.2,this.1⟩
 have wo:∀ {j},j≠i→j∈z.t.ow→j∈(stV z.t i d own).ow:=fun {j} n m=>by
  have w:j∈z.t.ow.filter (· != i):=List.mem_filter.mpr ⟨m,by simpa using n⟩
  cases own with
  | true=>exact List.mem_cons_of_mem _ w
  | false=>exact w
 have get:∀ {j},j≠i→(z.σ.set i (some u))[j]? = z.σ[j]?:=fun h=>List.getElem?_set_ne (Ne.symm h)
 have gete:∀ {j},j≠i→(z.t.env.set i (some d))[j]? = z.t.env[j]?:=fun h=>List.getElem?_set_ne (Ne.symm h)
 have gi:(z.σ.set i (some u))[i]? = some (some u):=List.getElem?_set_self hiσ
 have gie:(z.t.env.set i (some d))[i]? = some (some d):=List.getElem?_set_self (by rw [I.el];exact hiσ)
 have fu:s'.heap.FunFrames X.base X.fr:=jr (fun b o e nf=>by
  by_cases q:b=a
  ·subst q;exact th
  ·exact ⟨o,(sb.2 b q).trans e,nf⟩) I.fu
 have th':∀ b o,z.h b=some o→∃ o',s'.heap.get? b=some o':=fun b o e=>by
  by_cases q:b=a
  ·subst q;exact th.imp fun _ h=>h.1
  ·exact ⟨o,(sb.2 b q).trans e⟩
 have S:Stp X.fr (Pv X z) z { z with t:=stV z.t i d own,σ:=z.σ.set i (some u),s:=s' }:=⟨List.prefix_refl _,.refl _,fun _ _ e=>.inl e,fun _ m=>.inl m,th',fun b o e _ w _=>(ne fun l=>w (.inr l)).trans e,fun b o e _ w _=>⟨o.slots,(ne fun l=>w (.inr l)).trans e⟩⟩
 refine ⟨⟨⟨I.md,I.fm,I.hd,I.bs,fun b o e=>(ne (nG e)).trans (I.gh b o e),I.rl,I.rn,I.rg,fun n o p h1 h2=>(I.ob n o p h1 h2).mono (List.prefix_refl _) (.refl _) fun b hb o e=>(ne (nM ⟨p,List.mem_of_getElem? h2,hb⟩)).trans e,fu,I.ff,by show AllBare s'.gens;rw [gs];exact I.br,os.trans I.os⟩,I.ok,lo,ce,I.fl,by show (z.t.env.set i (some d)).length=(z.σ.set i (some u)).length;rw [List.length_set,List.length_set];exact I.el,by show (z.σ.set i (some u)).length=_;rw [List.length_set];exact I.sl,fun j d' n e=>?_,fun j m=>?_,fun j k b m1 m2 e1 e2=>?_⟩,x0.st.trans S fun b w=>w.elim (fun w=>(x0.ow b w).imp_left .inl) fun w=>.inl (.inr w),fun b ⟨j,m,e⟩=>?_⟩
 ·by_cases q:j=i
  ·subst q
   rw [show (z.t.env.set j (some d))[j]? = some (some d') from e] at gie;cases gie
   cases own with
   | true=>exact absurd List.mem_cons_self n
   | false=>exact ⟨u,gi,vl⟩
  ·obtain ⟨w,e1,r⟩:=I.en j d' (fun m=>n (wo q m)) ((gete q).symm.trans e)
   exact ⟨w,(get q).trans e1,r⟩
 ·rcases ow m with ⟨rfl,rfl⟩ | ⟨q,m⟩
  ·obtain ⟨b,o,rfl,_,t,r,f,no⟩:=vl
   exact ⟨d,b,o,gie,gi,t,r.mono (List.prefix_refl _) (.refl _) fun c hc o e=>(ne (by rcases hc with rfl | rfl <;> exact f.2.2.2)).trans e,f⟩
  ·obtain ⟨d',b,o,h1,h2,h3,r,f⟩:=I.eo j m
   exact ⟨d',b,o,(gete q).trans h1,(get q).trans h2,h3,r.mono (List.prefix_refl _) (.refl _) fun c hc o e=>(ne (by rcases hc with rfl | rfl <;> exact f.2.2.2)).trans e,f⟩
 ·have new:∀ {k:Nat} {b:Addr},own=true→k∈z.t.ow→(z.σ.set i (some u))[i]? = some (some (.ref b))→z.σ[k]? = some (some (.ref b))→False:=fun {k b} ho mk w1 w2=>by
   subst ho
   obtain ⟨b',o,rfl,_,t,r,f,no⟩:=vl
   rw [gi] at w1;cases w1
   exact no ⟨k,mk,w2⟩
  rcases ow m1 with ⟨h1,ho⟩ | ⟨q1,n1⟩ <;> rcases ow m2 with ⟨h2,ho2⟩ | ⟨q2,n2⟩
  ·exact h1.trans h2.symm
  ·exact (new ho n2 (h1 ▸ e1) ((get q2).symm.trans e2)).elim
  ·exact (new ho2 n1 (h2 ▸ e2) ((get q1).symm.trans e1)).elim
  ·exact I.od j k b n1 n2 ((get q1).symm.trans e1) ((get q2).symm.trans e2)
 ·rcases ow m with ⟨rfl,rfl⟩ | ⟨q,m⟩
  ·obtain ⟨b',o,rfl,n,_⟩:=vl
   rw [show (z.σ.set j (some (.ref b')))[j]? = some (some (.ref b)) from e] at gi;cases gi
   exact .inr n
  ·exact x0.ow b ⟨j,m,(get q).symm.trans e⟩
theorem Rep.cne (I:Rep X z):∀ x c,X.env.cells.lookup x=some c→c≠X.env.locals:=fun x c e q=>by
 obtain ⟨v,o,ho,hd⟩:=I.ce x c e
 obtain ⟨m,⟨o',es,ep,ho',hd',_⟩,_⟩:=I.lo
 rw [q,ho'] at ho;cases ho;rw [hd'] at hd;cases hd
theorem cn {i:Nat} {x:Str} {own:Bool} {d:D} {u:Value} {Q:Unit→Shared→Prop} {E:Value→Shared→Prop} (x0:Go X z0 z) (I:Rep X z) (hN:X.N.Nodup) (hi:X.N[i]? = some x) (hx:Loc X.env.scope x) (vl:Vl X z0 z own d u)
 (h:∀ s' a,Heap.SameBut a z.s.heap s'.heap→Lc X a∧(X.env.scope.names.lookup x=some .local→a=X.env.locals)→Rep X { z with t:=stV z.t i d own,σ:=z.σ.set i (some u),s:=s' }→Go X z0 { z with t:=stV z.t i d own,σ:=z.σ.set i (some u),s:=s' }→Q () s'):wpAny X.M X.A (storeName X.env x u) Q E z.s:=by
 obtain ⟨m,hn,hl⟩:=id I.lo
 have hcls:(X.env.scope.kind == .class || (X.env.scope.kind == .module && X.env.locals != X.env.globals))=false:=by rw [I.ok.kd];rfl
 have il:i<X.N.length:=(List.getElem?_eq_some_iff.mp hi).1
 have hiσ:i<z.σ.length:=by rw [I.sl];exact il
 rcases hx with hk | hk
 ·refine wpAny_storeName_local hk hn (fun h' hn' hs=>?_) hcls
  have ⟨oL,es,ep,hoL,hdL,_⟩:=hn'
  have lo:∀ (j:Nat) (y:Str) (w:Value),X.N[j]? = some y→(z.σ.set i (some u))[j]? = some (some w)→Vis X.env.scope y→lT X.env h' (fun y=>if y=x then some u else m y) y w:=fun j y w e1 e2 e3=>by
   by_cases hj:j=i
   ·subst hj
    rw [hi] at e1;cases e1
    rw [List.getElem?_set_self hiσ] at e2;cases e2
    exact .inl ⟨hk,by simp⟩
   ·rw [List.getElem?_set_ne (Ne.symm hj)] at e2
    rcases hl j y w e1 e2 e3 with ⟨k,e⟩ | ⟨k,c,e,q⟩
    ·have:y≠x:=fun e=>hj (gR hN e1 (e ▸ hi))
     exact .inl ⟨k,by simp [this,e]⟩
    ·exact .inr ⟨k,c,e,q.sameBut hs (I.cne y c e)⟩
  obtain ⟨I',g'⟩:=Rep.put (s':={ z.s with heap:=h',toks:=z.s.toks+1 }) x0 I hs (.inl rfl) ⟨oL,hoL,fun vs e=>by rw [hdL] at e;cases e⟩ rfl rfl vl il ⟨_,hn',lo⟩ fun y c e=>let ⟨v,q⟩:=I.ce y c e;⟨v,q.sameBut hs (I.cne y c e)⟩
  exact h _ _ hs ⟨.inl rfl,fun _=>rfl⟩ I' g'
 ·obtain ⟨c,hc⟩:=I.ok.ch x (.inl hk)
  obtain ⟨w',q0⟩:=I.ce x c hc
  refine wpAny_storeName_cell I.ok.kd hk hc q0 (fun h' hc' hs=>?_)
  have ⟨oc,hoc,hdc⟩:=hc'
  have lo:∀ (j:Nat) (y:Str) (w:Value),X.N[j]? = some y→(z.σ.set i (some u))[j]? = some (some w)→Vis X.env.scope y→lT X.env h' m y w:=fun j y w e1 e2 e3=>by
   by_cases hj:j=i
   ·subst hj
    rw [hi] at e1;cases e1
    rw [List.getElem?_set_self hiσ] at e2;cases e2
    exact .inr ⟨.inl hk,c,hc,hc'⟩
   ·rw [List.getElem?_set_ne (Ne.symm hj)] at e2
    rcases hl j y w e1 e2 e3 with q | ⟨k,c',e,q⟩
    ·exact .inl q
    ·refine .inr ⟨k,c',e,q.sameBut hs ?_⟩
     rintro rfl
     exact hj (gR hN e1 (I.ok.ci _ _ _ e hc ▸ hi))
  have ce:∀ y c',X.env.cells.lookup y=some c'→∃ v,h'.IsCell c' v:=fun y c' e=>by
   by_cases hcc:c'=c
   ·subst hcc;exact ⟨_,hc'⟩
   ·obtain ⟨w2,q2⟩:=I.ce y c' e
    exact ⟨w2,q2.sameBut hs hcc⟩
  obtain ⟨I',g'⟩:=Rep.put (s':={ z.s with heap:=h' }) x0 I hs (.inr ⟨x,hc⟩) ⟨oc,hoc,fun vs e=>by rw [hdc] at e;cases e⟩ rfl rfl vl il ⟨m,hn.sameBut hs (Ne.symm (I.cne x c hc)),lo⟩ ce
  exact h _ _ hs ⟨.inr ⟨x,hc⟩,fun e=>by rw [show X.env.scope.names.lookup x=some .cell from hk] at e;cases e⟩ I' g'
theorem mz (hN:X.N.Nodup) (hi:X.N[i]? = some x) (hx:Loc X.env.scope x) (he:LE X e c) (hf:aV c=true→LF X e c) (hs:swapsWith e (some (.Name x pos')) pos.line X.env=pure false):LS X (.Assign [.Name x pos'] e pos) (.set i c):=fun z I nb=>by
 refine wpAny_Assign_Name ?_ hs
 cases f:aV c with
 | false=>
   refine (he false).gos .refl I rfl nb fun z1 d u y x0 I1 r e1=>cn (own:=false) x0 I1 hN hi hx r.rd fun s' a _ _ I' g'=>nxt (z1:={ z1 with t:=stV z1.t i d false,σ:=z1.σ.set i (some u),s:=s' }) g' I' ?_
   rw [e1];unfold mN;rw [f];rfl
 | true=>
   have nb1:X.ev false c z.t≠.bad:=fun q=>nb (show Out.go (X.ev false c z.t) _=_ by rw [q];rfl)
   refine wpAny_mono (hf f z I nb1) (fun u s' ⟨z1,d,q1,q2,y,I1,fv⟩=>?_) fun u s' h=>.of .refl h
   subst q1
   refine cn (own:=true) y.go I1 hN hi hx fv fun s' a _ _ I' g'=>nxt (z1:={ z1 with t:=stV z1.t i d true,σ:=z1.σ.set i (some u),s:=s' }) g' I' ?_
   show Out.go (X.ev false c z.t) _=_
   rw [q2]
   show ao.nx (mN z1.t i d (aV c))=_
   unfold mN
   have ld:w8 d=true:=by
    obtain ⟨_,_,_,_,t,_⟩:=fv
    cases d <;> first | rfl | cases t
   rw [f,ld];rfl
end
def aJ:Expr→Bool
 | .Starred ..=>false
 | .Set ..=>false
 | .Slice ..=>false
 | _=>true
section
variable {X:Cx} {z z' z0 z1:Z}
theorem ym {o:O} {hp:Hp} (q:ObR W ρ G hp (a,b) o) (e:∃ d:D,toO d=some o):∃ ob,hp a=some ob∧∀ vs,ob.data≠.fields vs:=by
 obtain ⟨d,e⟩:=e
 cases d <;> cases e
 ·obtain ⟨o,vs,_,q,⟨⟨n,rfl⟩,_⟩,_⟩:=q;exact ⟨_,q,nofun⟩
 ·obtain ⟨o,vs,_,_,q,⟨es,ep,_,w,_⟩,_⟩:=q;exact ⟨_,q,fun v z=>by rw [w] at z;cases z⟩
theorem Rep.ownw {s':Shared} {i:Nat} {d':D} {o':O} (I:Rep X z) (m:i∈z.t.ow) (ea:z.σ[i]? = some (some (.ref a))) (t:toO d'=some o') (sb:∀ b,b≠a→s'.heap.get? b=z.h b) (r:ObR X.W z.ρ z.G s'.heap.get? (a,a) o') (os:s'.os=z.s.os) (gs:s'.gens=z.s.gens) :
 Rep X { z with t:=⟨z.t.env.set i (some d'),z.t.ow,z.t.st⟩,s:=s' }∧Go X z { z with t:=⟨z.t.env.set i (some d'),z.t.ow,z.t.st⟩,s:=s' }:=by
 obtain ⟨f,oa,ha⟩:=I.oth ⟨i,m,ea⟩
 have nM:∀ {b},Mu z.ρ b→b≠a:=fun h e=>f.2.1 (e ▸ h)
 have nG:∀ {b o},z.G b=some o→b≠a:=fun h e=>by rw [e,f.1] at h;cases h
 have nL:∀ {b},Lc X b→b≠a:=fun h e=>f.2.2.2 (e ▸ h)
 have nf:∀ {b},b∈frs X.fr→b≠a:=fun h e=>f.2.2.1 (e ▸ h)
 obtain ⟨on,hn,_⟩:=ym r ⟨d',t⟩
 have hie:i<z.t.env.length:=by obtain ⟨d,_,_,e,_⟩:=I.eo i m;exact (List.getElem?_eq_some_iff.mp e).1
 have ck:∀ x c v,X.env.cells.lookup x=some c→z.s.heap.IsCell c v→s'.heap.IsCell c v:=fun x c v e ⟨o,q,d⟩=>⟨o,(sb c (nL (.inr ⟨x,e⟩))).trans q,d⟩
 have fu:s'.heap.FunFrames X.base X.fr:=by
  have:∀ {l:List Env},(∀ b∈frs l,b≠a)→z.s.heap.FunFrames X.base l→s'.heap.FunFrames X.base l:=fun {l}=>by
   induction l with
   | nil=>exact fun _ _=>trivial
   | cons v r ih=>
     intro hs ⟨k,⟨L,o,e1,e2,e3,e4⟩,q⟩
     have hm:L∈frs (v :: r):=by unfold frs;rw [List.filterMap_cons,e1];exact List.mem_cons_self
     exact ⟨k,⟨L,o,e1,e2,(sb L (hs L hm)).trans e3,e4⟩,ih (fun b hb=>hs b (by unfold frs;rw [List.filterMap_cons,e1];exact List.mem_cons_of_mem _ hb)) q⟩
  exact this (fun b h=>nf h) I.fu
 refine ⟨⟨⟨I.md,I.fm,I.hd,I.bs,fun b o e=>(sb b (nG e)).trans (I.gh b o e),I.rl,I.rn,I.rg,fun n o p h1 h2=>(I.ob n o p h1 h2).mono (List.prefix_refl _) (.refl _) fun b hb o e=>(sb b (nM ⟨p,List.mem_of_getElem? h2,hb⟩)).trans e,fu,I.ff,by show AllBare s'.gens;rw [gs];exact I.br,os.trans I.os⟩,I.ok,?_,fun x c e=>let ⟨v,q⟩:=I.ce x c e;⟨v,ck x c v e q⟩,I.fl,by show (z.t.env.set i (some d')).length=_;rw [List.length_set];exact I.el,I.sl,fun j d n e=>?_,fun j mj=>?_,I.od⟩,⟨List.prefix_refl _,.refl _,fun _ _ e=>.inl e,fun _ m=>.inl m,fun b o e=>?_,fun b o e _ w _=>(sb b fun q=>w (.inl (q ▸ ⟨i,m,ea⟩))).trans e,fun b o e _ w _=>⟨o.slots,(sb b fun q=>w (.inl (q ▸ ⟨i,m,ea⟩))).trans e⟩⟩,fun b ⟨j,mj,e⟩=>.inl ⟨j,mj,e⟩⟩
 ·obtain ⟨mm,⟨oL,es,ep,q,r⟩,hl⟩:=I.lo
  exact ⟨mm,⟨oL,es,ep,(sb _ (nL (.inl rfl))).trans q,r⟩,fun j x w e1 e2 e3=>dj (fun c v e q=>ck x c v e q) (hl j x w e1 e2 e3)⟩
 ·have q:j≠i:=fun q=>n (q ▸ m)
  exact I.en j d n ((List.getElem?_set_ne (Ne.symm q)).symm.trans e)
 ·by_cases q:j=i
  ·subst q;exact ⟨d',a,o',List.getElem?_set_self hie,ea,t,r,f⟩
  ·obtain ⟨d,b,o,h1,h2,h3,r,f⟩:=I.eo j mj
   have nb:b≠a:=fun w=>q (I.od j i b mj m h2 (w ▸ ea))
   exact ⟨d,b,o,(List.getElem?_set_ne (Ne.symm q)).trans h1,h2,h3,r.mono (List.prefix_refl _) (.refl _) fun c hc o e=>(sb c (by rcases hc with rfl | rfl <;> exact nb)).trans e,f⟩
 ·by_cases q:b=a
  ·subst q;exact ⟨on,hn⟩
  ·exact ⟨o,(sb b q).trans e⟩
theorem Rep.stw {s':Shared} {n:Nat} {o':O} {p:Addr×Addr} {e:Addr} (I:Rep X z) (ep:z.ρ[n]? = some p) (he:e=p.1∨e=p.2) (sb:∀ b,b≠e→s'.heap.get? b=z.h b) (r:ObR X.W z.ρ z.G s'.heap.get? p o') (os:s'.os=z.s.os) (gs:s'.gens=z.s.gens) :
 Rep X { z with t:=⟨z.t.env,z.t.ow,z.t.st.set n o'⟩,s:=s' }∧Go X z { z with t:=⟨z.t.env,z.t.ow,z.t.st.set n o'⟩,s:=s' }:=by
 have mu:Mu z.ρ e:=⟨p,List.mem_of_getElem? ep,he⟩
 have nG:∀ {b o},z.G b=some o→b≠e:=fun h q=>by rw [q,I.rg e mu] at h;cases h
 have nL:∀ {b},Lc X b→b≠e:=fun h q=>(I.fl _ h).2 (q ▸ mu)
 have nf:∀ {b},b∈frs X.fr→b≠e:=fun h q=>(I.ff _ h).2 (q ▸ mu)
 have nO:∀ {b},Own z b→b≠e:=fun h q=>(I.oth h).1.2.1 (q ▸ mu)
 have ck:∀ x c v,X.env.cells.lookup x=some c→z.s.heap.IsCell c v→s'.heap.IsCell c v:=fun x c v e ⟨o,q,d⟩=>⟨o,(sb c (nL (.inr ⟨x,e⟩))).trans q,d⟩
 have fu:s'.heap.FunFrames X.base X.fr:=by
  have:∀ {l:List Env},(∀ b∈frs l,b≠e)→z.s.heap.FunFrames X.base l→s'.heap.FunFrames X.base l:=fun {l}=>by
   induction l with
   | nil=>exact fun _ _=>trivial
   | cons v r ih=>
     intro hs ⟨k,⟨L,o,e1,e2,e3,e4⟩,q⟩
     have hm:L∈frs (v :: r):=by unfold frs;rw [List.filterMap_cons,e1];exact List.mem_cons_self
     exact ⟨k,⟨L,o,e1,e2,(sb L (hs L hm)).trans e3,e4⟩,ih (fun b hb=>hs b (by unfold frs;rw [List.filterMap_cons,e1];exact List.mem_cons_of_mem _ hb)) q⟩
  exact this (fun b h=>nf h) I.fu
 obtain ⟨⟨o1,h1⟩,⟨o2,h2⟩⟩:=r.th
 have hn:n<z.t.st.length:=by rw [← I.rl];exact (List.getElem?_eq_some_iff.mp ep).1
 refine ⟨⟨⟨I.md,I.fm,I.hd,I.bs,fun b o w=>(sb b (nG w)).trans (I.gh b o w),by show _=(z.t.st.set n o').length;rw [List.length_set];exact I.rl,I.rn,I.rg,fun k o q h1 h2=>?_,fu,I.ff,by show AllBare s'.gens;rw [gs];exact I.br,os.trans I.os⟩,I.ok,?_,fun x c w=>let ⟨v,q⟩:=I.ce x c w;⟨v,ck x c v w q⟩,I.fl,I.el,I.sl,I.en,fun j mj=>?_,I.od⟩,⟨List.prefix_refl _,.refl _,fun _ _ w=>.inl w,fun _ m=>.inl m,fun b o w=>?_,fun b o w q _ _=>(sb b fun z=>q (z ▸ mu)).trans w,fun b o w q _ _=>⟨o.slots,(sb b fun z=>q (z ▸ mu)).trans w⟩⟩,fun b w=>.inl w⟩
 ·by_cases c:k=n
  ·subst c
   have h1:(z.t.st.set k o')[k]? = some o:=h1
   rw [List.getElem?_set_self hn] at h1;cases h1
   rw [show z.ρ[k]? = some q from h2] at ep;cases ep
   exact r
  ·exact (I.ob k o q ((List.getElem?_set_ne (Ne.symm c)).symm.trans h1) h2).mono (List.prefix_refl _) (.refl _) fun b hb o w=>(sb b fun w'=>c (I.rn k n q p b h2 ep hb (w' ▸ he))).trans w
 ·obtain ⟨mm,⟨oL,es,ep,q,r⟩,hl⟩:=I.lo
  exact ⟨mm,⟨oL,es,ep,(sb _ (nL (.inl rfl))).trans q,r⟩,fun j x w e1 e2 e3=>dj (fun c v e q=>ck x c v e q) (hl j x w e1 e2 e3)⟩
 ·obtain ⟨d,b,o,h1,h2,h3,r,f⟩:=I.eo j mj
  exact ⟨d,b,o,h1,h2,h3,r.mono (List.prefix_refl _) (.refl _) fun c hc o w=>(sb c (by rcases hc with rfl | rfl <;> exact nO ⟨j,mj,h2⟩)).trans w,f⟩
 ·by_cases q:b=e
  ·rcases he with w | w
   ·exact ⟨o1,by rw [q,w];exact h1⟩
   ·exact ⟨o2,by rw [q,w];exact h2⟩
  ·exact ⟨o,(sb b q).trans w⟩
structure M1 (X:Cx) (o:Expr) (m:Str) (apos:Pos) (e:Expr) (cpos:Pos):Prop where
 base:attributeBase o m X.env (eval o X.env)=eval o X.env
 few:((backTo cpos (starEach [e] X.env)).all (fun x=>!x.1) && (backToKw cpos (keywordEach [] X.env)).all (fun x=>x.1.isSome) && decide (([e]:List Expr).length+([]:List Keyword).length+(if ([]:List Keyword).isEmpty then 0 else 1)<30))=true
 line:(apos.endLine == cpos.line)=true
 trees:backTo cpos (starEach [e] X.env) = [(false,eval e X.env)]
theorem fR {i:Nat} (I:Rep X z) (m:i∈z.t.ow) (e:z.t.env[i]? = some (some (.lst l))):∃ a vs n,z.σ[i]? = some (some (.ref a))∧z.h a=some { cls:=.type "list",data:=.seq vs.toArray n }∧RDs X.W z.ρ z.G l vs:=by
 obtain ⟨d,a,o,h1,h2,h3,r,f⟩:=I.eo i m
 rw [e] at h1;cases h1;cases h3
 obtain ⟨o,vs,_,q,⟨⟨n,rfl⟩,_⟩,r⟩:=r
 exact ⟨a,vs,n,h2,q,r⟩
theorem fV {z:Z} {vs ws:List Value} {f:Array Value→Array Value} (e:z.h a=some { cls:=.type "list",data:=.seq vs.toArray n }) (hf:f vs.toArray=ws.toArray) (hz:ws.length≤sizeLine):(∃ o,(z.s.heap.update a (Obj.mapSeq f)).get? a=some o∧LsO o ws)∧∀ b,b≠a→(z.s.heap.update a (Obj.mapSeq f)).get? b=z.h b:=
 ⟨⟨_,Heap.get?_update_self _ e rfl,⟨_,by simp only [Obj.mapSeq,hf];rfl⟩,hz⟩,fun b n=>Heap.get?_update_other _ _ (Ne.symm n)⟩
theorem xM {i:Nat} {x:Str} (hN:X.N[i]? = some x) (hv:Vis X.env.scope x) (hd:(x == ("__debug__":Str))=false) (hcd:(x == ("__classdict__":Str))=false) (he:LE X e c) (m:M1 X (.Name x p) "append" apos e cpos):LS X (.Expr (.Call (.Attribute (.Name x p) "append" apos) [e] [] cpos) pos) (.app i c):=fun z I nb=>by
 have e0:X.ex (.app i c) z.t=(if z.t.ow.contains i && isLst z.t.env[i]? then (X.ev false c z.t).go fun d s=>if s.ow.contains i then (match s.env[i]? with
  | some (some (.lst l))=>if l.length<100000 then .nx ⟨s.env.set i (some (.lst (l ++ [d]))),s.ow,s.st⟩ else .bad
  | _=>.bad) else .bad else .bad):=rfl
 by_cases c0:(z.t.ow.contains i && isLst z.t.env[i]?)=true
 ·rw [if_pos c0] at e0
  rw [Bool.and_eq_true] at c0
  have mi:i∈z.t.ow:=by simpa using c0.1
  obtain ⟨l,el⟩:∃ l,z.t.env[i]? = some (some (.lst l)):=by
   have:=c0.2
   unfold isLst at this
   split at this
   ·rename_i l q;exact ⟨l,q⟩
   ·cases this
  obtain ⟨a,vs,n,es,ha,r⟩:=fR I mi el
  refine wpAny_Expr_any (wpAny_Call_method m.base m.few m.line PySem.F.plainAttrs_list PySem.F.slot_list_append PySem.F.type_list_append (bY I hN hv es ⟨⟨_,ha,rfl⟩,fun b q=>(by cases q;exact ⟨_,ha,rfl⟩),?_⟩ hd hcd)) I.quiet rfl
  rw [m.trees]
  refine Calls.callWith_builtin rfl (Calls.evalArgs_plain (Calls.spliced_cons ((he false).gos .refl I e0 nb fun z1 d u y x1 I1 r1 e1=>Calls.spliced_nil ?_)))
  by_cases c1:z1.t.ow.contains i=true
  ·rw [if_pos c1] at e1
   have m1:i∈z1.t.ow:=by simpa using c1
   have el1:z1.t.env[i]? = some (some (.lst l)):=by rw [y.en];exact el
   rw [el1] at e1
   dsimp only at e1
   obtain ⟨a',vs,n,es',ha,r⟩:=fR I1 m1 el1
   rw [y.sg,es] at es';cases es'
   by_cases c2:l.length<100000
   ·rw [if_pos c2] at e1
    have hz:vs.length<100000:=by rw [← r.len];exact c2
    refine call_meets PySem.F.slot_list_append ⟨_,ha,rfl⟩ PySem.F.entry_list_append (PySem.F.args_list_append_2 _ _) (PySem.list_append a vs.toArray n u (by rw [List.size_toArray];exact Nat.le_of_lt (Nat.lt_of_lt_of_le hz (big (Nat.le_refl _))))) ⟨ha,?_⟩
    obtain ⟨⟨o1,u1,u3⟩,u2⟩:=fV (f:=(·.push u)) (ws:=vs ++ [u]) ha (by simp) (by rw [List.length_append];exact big (by simp;omega))
    obtain ⟨I2,g2⟩:=I1.ownw (s':={ z1.s with heap:=z1.s.heap.update a (Obj.mapSeq (·.push u)) }) (d':=.lst (l ++ [d])) m1 (by rw [y.sg];exact es) rfl u2 ⟨o1,vs ++ [u],rfl,u1,u3,r.app (.cons r1.rd rfl)⟩ rfl rfl
    exact nxt (x1.trans g2) I2 e1
   ·rw [if_neg c2] at e1;exact absurd e1 nb
  ·rw [if_neg c1] at e1;exact absurd e1 nb
 ·rw [if_neg c0] at e0;exact absurd e0 nb
theorem oI:∀ {ks} {ds} {vs} {k} {d} {v},ks.length=ds.length→RDs W ρ G ds vs→RD W ρ G d v→∃ us,RDs W ρ G (iB ks ds k d) us∧(ks.zip vs).map (fun kv=>if kv.1=k then (kv.1,v) else kv)=ks.zip us
 | [],[],vs,k,d,v,_,h,_=>⟨vs,h,rfl⟩
 | [],_ :: _,_,_,_,_,l,_,_=>by cases l
 | _ :: _,[],_,_,_,_,l,_,_=>by cases l
 | q :: ks,e :: ds,vs,k,d,v,l,⟨u,r,ev,h1,h2⟩,rd=>by
   subst ev
   obtain ⟨us,h3,h4⟩:=oI (k:=k) (Nat.succ.inj l) h2 rd
   by_cases c:q=k
   ·refine ⟨v :: us,⟨v,us,rfl,by rw [if_pos c];exact rd,h3⟩,?_⟩
    show (if q=k then (q,v) else (q,u)) :: (ks.zip r).map _=(q,v) :: ks.zip us
    rw [if_pos c,h4]
   ·refine ⟨u :: us,⟨u,us,rfl,by rw [if_neg c];exact h1,h3⟩,?_⟩
    show (if q=k then (q,v) else (q,u)) :: (ks.zip r).map _=(q,u) :: ks.zip us
    rw [if_neg c,h4]
theorem oK:∀ {ks} {ds} {k} {d},(iB ks ds k d).length=ds.length
 | [],_,_,_=>by unfold iB;rfl
 | _ :: _,[],_,_=>by unfold iB;rfl
 | _ :: ks,_ :: ds,k,d=>by show (iB ks ds k d).length+1=ds.length+1;rw [oK]
theorem iF:∀ {ks:List Key} {vs:List Value} {k:Key},ks.length=vs.length→((ks.zip vs).any fun kv=>decide (kv.1=k))=ks.any fun q=>decide (q=k)
 | [],_,_,_=>rfl
 | _ :: _,[],_,l=>by cases l
 | q :: ks,v :: vs,k,l=>by
   show (decide (q=k) || (ks.zip vs).any _)=(decide (q=k) || ks.any _)
   rw [iF (Nat.succ.inj l)]
theorem pU (l:ks.length=ds.length) (r:RDs W ρ G ds vs) (rd:RD W ρ G d v):∃ us,stored (ks.zip vs) k v=(bV ks ds k d).1.zip us∧(bV ks ds k d).1.length=(bV ks ds k d).2.length∧RDs W ρ G (bV ks ds k d).2 us∧(bV ks ds k d).1.length≤ks.length+1:=by
 have lv:ks.length=vs.length:=l.trans r.len
 unfold stored bV
 rw [iF lv]
 split
 ·obtain ⟨us,h1,h2⟩:=oI (k:=k) l r rd
  exact ⟨us,h2,by show ks.length=(iB ks ds k d).length;rw [oK,l],h1,Nat.le_succ _⟩
 ·exact ⟨vs ++ [v],by rw [List.zip_append lv];rfl,by simp [l],r.app (.cons rd rfl),by simp⟩
theorem gY {A:Around} {E:Value→Shared→Prop} {Q:Unit→Shared→Prop} {x y k d:D} {o:O} {kv v:Value} (t:toO x=some o) (r:ObR X.W z.ρ z.G z.h (a,b) o) (rk:CR X.W z k kv) (rd:RD X.W z.ρ z.G d v) (e:jY x k d=some y)
 (h:∀ s' o',toO y=some o'→(∀ b,b≠a→s'.heap.get? b=z.h b)→ObR X.W z.ρ z.G s'.heap.get? (a,b) o'→s'.os=z.s.os→s'.gens=z.s.gens→Q () s'):wpAny X.M A (setItem (.ref a) kv v) Q E z.s:=by
 cases x <;> cases t
 ·rename_i l
  obtain ⟨o,vs,hb,ho,⟨⟨n,rfl⟩,hz⟩,r⟩:=r
  cases k with
  | int i=>
    obtain ⟨tk,rfl⟩:=(rk:RD X.W z.ρ z.G (.int i) kv)
    obtain ⟨l',e1,rfl⟩:=Option.map_eq_some_iff.mp (show (sP l i d).map D.lst=some y from e)
    obtain ⟨j,e2,rfl⟩:=Option.map_eq_some_iff.mp (show (ixN l.length i).map (fun j=>l.set j d)=some l' from e1)
    obtain ⟨h1,h2,h3,h4⟩:=nF e2
    have hl:=r.len
    have hn:=jH
    obtain ⟨⟨o1,u1,u3⟩,u2⟩:=fV (z:=z) (f:=(·.setIfInBounds j v)) (ws:=vs.set j v) ho (by simp) (by rw [List.length_set];exact hz)
    have q:Q () { z.s with heap:=z.s.heap.update a (Obj.mapSeq (·.setIfInBounds j v)) }:=h _ _ rfl u2 ⟨o1,_,hb,u1,u3,r.set j rd⟩ rfl rfl
    by_cases h0:0≤i
    ·have hk:i.toNat=j:=by rw [seqIndex_of h0 h4] at h1;exact Option.some.inj h1
     exact PySem.W.ki_setAt ho h0 (by omega) (by rw [List.size_toArray,← hl];exact h4) (by rw [hk];exact q)
    ·have hk:(i+(vs.toArray.size:Int)).toNat=j:=by
      rw [seqIndex_neg (by omega) h3] at h1
      rw [List.size_toArray,← hl]
      exact Option.some.inj h1
     exact PySem.W.ki_setBack ho (by omega) (by rw [List.size_toArray,← hl];exact h3) (by omega) (by rw [hk];exact q)
  | _=>cases e
 ·rename_i ks ds
  obtain ⟨o,vs,hb,hs,ho,dc,hl,r⟩:=r
  obtain ⟨kk,e1,e2⟩:=Option.bind_eq_some_iff.mp (show ((bI k).bind fun k=>if ks.length<100000 then some (D.dic (bV ks ds k d).1 (bV ks ds k d).2) else none)=some y from e)
  by_cases c:ks.length<100000
  ·rw [if_pos c] at e2
   cases e2
   obtain ⟨us,h3,h4,h5,h6⟩:=pU (k:=kk) hl r rd
   refine wpAny_setItem_pairs (hsz:=by obtain ⟨_,_,_,_,_,_,_,w⟩:=dc;exact w) (jG e1 rk) (dc.of ho) fun h' dd hs'=>?_
   rw [h3] at dd
   obtain ⟨o1,es,ep,w1,w2,w3,w4,w5,w6⟩:=dd
   exact h _ _ rfl hs'.2 ⟨o1,us,hb,hs,w1,⟨es,ep,w2,w3,w4,w5,w6,by rw [List.length_zip];exact big (by omega)⟩,h4,h5⟩ rfl rfl
  ·rw [if_neg c] at e2;cases e2
theorem yw {o o':O} (e:eE o k d=some o'):∃ x y,toO x=some o∧jY x k d=some y∧toO y=some o':=by
 cases o with
 | lst l=>
   cases k with
   | int i=>obtain ⟨l',e1,rfl⟩:=Option.map_eq_some_iff.mp (show (sP l i d).map O.lst=some o' from e);exact ⟨.lst l,.lst l',rfl,by show (sP l i d).map D.lst=_;rw [e1];rfl,rfl⟩
   | _=>cases e
 | dic ks ds=>
   obtain ⟨kk,e1,e2⟩:=Option.bind_eq_some_iff.mp (show ((bI k).bind fun k=>if ks.length<100000 then some (O.dic (bV ks ds k d).1 (bV ks ds k d).2) else none)=some o' from e)
   by_cases c:ks.length<100000
   ·rw [if_pos c] at e2;cases e2
    exact ⟨.dic ks ds,.dic (bV ks ds kk d).1 (bV ks ds kk d).2,rfl,by show ((bI k).bind fun k=>if ks.length<100000 then some (D.dic (bV ks ds k d).1 (bV ks ds k d).2) else none)=_;rw [e1];exact if_pos c,rfl⟩
   ·rw [if_neg c] at e2;cases e2
 | ins _ _=>cases e
theorem o8 (h:aJ i=true):∀ v,assign (o.Subscript i pos) env v=(do
 let ov ← holding [v] (eval o env)
 let iv ← holding [v,ov] (eval i env)
 standAt pos
 holding [v,ov,iv] (setItem ov iv v)
 release [v,ov,iv] []):=by
 cases i <;> first | (intro v;rfl) | cases h
theorem sr :swapsWithSole [.Subscript o i p] e l env=pure false:=by
 cases e <;> rfl
theorem mH :swappedStores [.Subscript o i p] e env=pure none:=by
 cases e <;> rfl
theorem mU {K:Value→Shared→Prop} {E:Value→Shared→Prop} {Q:Flow→Shared→Prop} {s:Shared} (hn:aJ eb=true) (h:wpAny X.M X.A (eval ee X.env) K E s) (k:∀ v s',K v s'→wpAny X.M X.A (eval eo X.env) (fun ov s2=>wpAny X.M X.A (eval eb X.env) (fun iv s3=>wpAny X.M X.A (setItem ov iv v) (fun _ s4=>Q .next s4) E s3) E s2) E s'):wpAny X.M X.A (exec (.Assign [.Subscript eo eb p2] ee pos) X.env) Q E s:=by
 refine wpAny_Assign_stores (thn h fun v s1 q=>?_) sr mH
 show wpAny _ _ (assign (eo.Subscript eb p2) X.env v) _ _ _
 rw [o8 hn]
 exact wpAny_bind (wpAny_holding (thn (k v s1 q) fun ov s2 q=>wpAny_bind (wpAny_holding (thn q fun iv s3 q=>wpAny_bind (wpAny_standAt (wpAny_bind (wpAny_holding (thn q fun _ s4 q=>wpAny_release q))))))))
theorem sK {n:Nat} {kv v:Value} {p:Addr×Addr} {E:Value→Shared→Prop} {o:ao} (x:Go X z0 z) (I:Rep X z) (ep:z.ρ[n]? = some p) (rk:CR X.W z k kv) (rd:RD X.W z.ρ z.G d v) (e:o=(match (z.t.st[n]?).bind fun o=>eE o k d with | some o=>.nx ⟨z.t.env,z.t.ow,z.t.st.set n o⟩ | none=>.bad)) (nb:o≠.bad):wpAny X.M X.A (setItem (.ref p.1) kv v) (fun _ s4=>Ps X z0 o .next s4) E z.s:=by
 cases q:(z.t.st[n]?).bind fun o=>eE o k d with
 | none=>rw [q] at e;exact absurd e nb
 | some o'=>
   rw [q] at e
   obtain ⟨ob,q1,q2⟩:=Option.bind_eq_some_iff.mp q
   obtain ⟨x1,y1,t1,t2,t3⟩:=yw q2
   have r:=I.ob n ob p q1 ep
   have hp:p=(p.1,p.2):=rfl
   refine gY t1 (hp ▸ r) rk rd t2 fun s' o1 t4 sb r' os gs=>?_
   rw [t3] at t4;cases t4
   obtain ⟨I2,g2⟩:=I.stw ep (.inl rfl) sb r' os gs
   exact nxt (z1:={ z with t:=⟨z.t.env,z.t.ow,z.t.st.set n o'⟩,s:=s' }) (x.trans g2) I2 e
theorem uN {i:Nat} {x:Str} (hN:X.N[i]? = some x) (hv:Vis X.env.scope x) (hd:(x == ("__debug__":Str))=false) (hcd:(x == ("__classdict__":Str))=false) (hn:aJ eb=true) (hb:LE X eb b) (he:LE X ee e):LS X (.Assign [.Subscript (.Name x p) eb p2] ee pos) (.put (.v i) b e):=fun z I nb=>by
 refine mU hn ((he false).gos (K:=fun v s'=>∃ z1 d,z1.s=s'∧Go X z z1∧Rep X z1∧RD X.W z1.ρ z1.G d v∧X.ex (.put (.v i) b e) z.t=(match z1.t.env[i]? with
  | some (some x)=>(X.ev true b z1.t).go fun k s=>(match x with
    | .ref n=>(match (s.st[n]?).bind fun o=>eE o k d with | some o=>.nx ⟨s.env,s.ow,s.st.set n o⟩ | none=>.bad)
    | x=>if s.ow.contains i then (match jY x k d with | some y=>.nx ⟨s.env.set i (some y),s.ow,s.st⟩ | none=>.bad) else .bad)
  | _=>.bad)) .refl I rfl nb fun z1 d u y x1 I1 r1 e1=>⟨z1,d,rfl,x1,I1,r1.rd,e1⟩) fun v s' ⟨z1,d,q,x1,I1,r1,e1⟩=>?_
 subst q
 cases q:z1.t.env[i]? with
 | none=>rw [q] at e1;exact absurd e1 nb
 | some o0=>
   cases o0 with
   | none=>rw [q] at e1;exact absurd e1 nb
   | some x0=>
     rw [q] at e1
     obtain ⟨u,hu,_⟩:=I1.slot q
     refine bY I1 hN hv hu ((hb true).gos x1 I1 e1 nb fun z2 kd kv y2 x2 I2 r2 e2=>?_) hd hcd
     have q2:z2.t.env[i]? = some (some x0):=by rw [y2.en];exact q
     have hu2:z2.σ[i]? = some (some u):=by rw [y2.sg];exact hu
     have own:∀ x1:D,x0=x1→X.ex (.put (.v i) b e) z.t=(if z2.t.ow.contains i then (match jY x1 kd d with | some y=>.nx ⟨z2.t.env.set i (some y),z2.t.ow,z2.t.st⟩ | none=>.bad) else .bad)→wpAny X.M X.A (setItem u kv v) (fun _ s4=>Ps X z (X.ex (.put (.v i) b e) z.t) .next s4) (PxS X z (X.ex (.put (.v i) b e) z.t)) z2.s:=fun x1 ex e3=>by
      subst ex
      by_cases c:z2.t.ow.contains i=true
      ·rw [if_pos c] at e3
       have m2:i∈z2.t.ow:=by simpa using c
       obtain ⟨d0,a,o,h1,h2,h3,r,f⟩:=I2.eo i m2
       rw [q2] at h1;cases h1
       rw [hu2] at h2;cases h2
       cases q3:jY x0 kd d with
       | none=>rw [q3] at e3;exact absurd e3 nb
       | some y=>
         rw [q3] at e3
         refine gY h3 r (r2.rb.cr0 I2) (r1.st y2.st) q3 fun s' o' t sb r' os gs=>?_
         obtain ⟨I3,g3⟩:=I2.ownw (s':=s') m2 hu2 t sb r' os gs
         exact nxt (z1:={ z2 with t:=⟨z2.t.env.set i (some y),z2.t.ow,z2.t.st⟩,s:=s' }) (x2.trans g3) I3 e3
      ·rw [if_neg c] at e3;exact absurd e3 nb
     cases x0 with
     | ref n=>
       have nm:i ∉ z2.t.ow:=fun m=>by
        obtain ⟨d0,a,o,h1,h2,h3,_⟩:=I2.eo i m
        rw [q2] at h1;cases h1;cases h3
       obtain ⟨u',hu',p,ep,rfl⟩:=I2.en i _ nm q2
       rw [hu2] at hu';cases hu'
       exact sK x2 I2 ep (r2.rb.cr0 I2) (r1.st y2.st) e2 nb
     | _=>exact own _ rfl e2
end
section
variable {X:Cx} {z z' z0 z1:Z} {an:Nat→Str}
theorem Rep.snoc {s':Shared} {p:Addr×Addr} {o:O} (I:Rep X z) (g:Gr z.s s') (hp:z.h p.1=none∧z.h p.2=none) (r:ObR X.W (z.ρ ++ [p]) z.G s'.heap.get? p o):Rep X { z with ρ:=z.ρ ++ [p],t:=⟨z.t.env,z.t.ow,z.t.st ++ [o]⟩,s:=s' }∧Ee X z { z with ρ:=z.ρ ++ [p],t:=⟨z.t.env,z.t.ow,z.t.st ++ [o]⟩,s:=s' }:=by
 obtain ⟨H,S⟩:=HR.snoc (w:=Own z) I.toHR g hp r
 have pre:z.ρ <+: z.ρ ++ [p]:=List.prefix_append _ _
 have nm:∀ {a},(∃ o,z.h a=some o)→¬ Mu z.ρ a→¬ Mu (z.ρ ++ [p]) a:=fun ⟨o,e⟩ n w=>(dZ.mp w).elim n fun w=>by
  rcases w with w | w
  ·rw [w,hp.1] at e;cases e
  ·rw [w,hp.2] at e;cases e
 have sl:∀ b o,z.s.heap.get? b=some o→∃ sl,s'.heap.get? b=some { o with slots:=sl }:=fun b o e=>⟨o.slots,g.k b o e⟩
 refine ⟨⟨H,I.ok,?_,fun x c e=>let ⟨v,q⟩:=I.ce x c e;⟨v,fJ sl q⟩,fun a l=>⟨(I.fl a l).1,nm (I.lth l) (I.fl a l).2⟩,I.el,I.sl,fun i d n e=>let ⟨u,q,r⟩:=I.en i d n e;⟨u,q,r.mono pre (.refl _)⟩,fun i m=>?_,I.od⟩,S,rfl,rfl,fun _ h=>h⟩
 ·obtain ⟨m,hn,hl⟩:=I.lo
  exact ⟨m,wi sl hn,fun i x u h1 h2 h3=>dj (fun c v _ q=>fJ sl q) (hl i x u h1 h2 h3)⟩
 ·obtain ⟨d,a,o,h1,h2,h3,r,f⟩:=I.eo i m
  exact ⟨d,a,o,h1,h2,h3,r.mono pre (.refl _) fun b _ o e=>g.k b o e,f.1,nm r.th.1 f.2.1,f.2.2⟩
theorem mF (I:HR X z):(z.ρ ++ [p])[z.t.st.length]? = some p:=by rw [List.getElem?_append_right (by rw [I.rl];exact Nat.le_refl _),I.rl,Nat.sub_self];rfl
theorem oV {y:Value}:∀ {nm:List Str} {vs:List Value} {j:Nat},nm.Nodup→nm[j]? = some f→j<vs.length→∀ g,(nm.zip (vs.set j y)).lookup g=if g=f then some y else (nm.zip vs).lookup g
 | [],_,_,_,h,_,_=>by simp at h
 | _ :: _,[],_,_,_,h,_=>by simp at h
 | n :: nm,v :: vs,0,nd,h,_,g=>by
   have e:n=f:=by simpa using h
   subst e
   show (match g == n with | true=>some y | false=>(nm.zip vs).lookup g)=if g=n then some y else (match g == n with | true=>some v | false=>(nm.zip vs).lookup g)
   by_cases c:g=n
   ·rw [if_pos c,beq_iff_eq.mpr c]
   ·rw [if_neg c,beq_eq_false_iff_ne.mpr c]
 | n :: nm,v :: vs,j+1,nd,h,hl,g=>by
   have h':nm[j]? = some f:=by simpa using h
   have ne:n≠f:=fun z=>by subst z;exact (List.nodup_cons.mp nd).1 (List.mem_of_getElem? h')
   have ih:=oV (y:=y) (List.nodup_cons.mp nd).2 h' (by simpa using hl) g
   show (match g == n with | true=>some v | false=>(nm.zip (vs.set j y)).lookup g)=if g=f then some y else (match g == n with | true=>some v | false=>(nm.zip vs).lookup g)
   by_cases c:g=n
   ·rw [if_neg fun w=>ne (c ▸ w),beq_iff_eq.mpr c]
   ·rw [beq_eq_false_iff_ne.mpr c];exact ih
theorem lS {y:Value}:∀ {nm:List Str} {vs:List Value},nm.Nodup→nm[vs.length]? = some f→∀ g,(nm.zip (vs ++ [y])).lookup g=if g=f then some y else (nm.zip vs).lookup g
 | [],_,_,h,_=>by simp at h
 | n :: nm,[],nd,h,g=>by
   have e:n=f:=by simpa using h
   subst e
   rw [List.nil_append,List.zip_cons_cons,List.zip_nil_right,List.zip_nil_right]
   show (match g == n with | true=>some y | false=>none)=if g=n then some y else none
   by_cases c:g=n
   ·rw [if_pos c,beq_iff_eq.mpr c]
   ·rw [if_neg c,beq_eq_false_iff_ne.mpr c]
 | n :: nm,v :: vs,nd,h,g=>by
   have h':nm[vs.length]? = some f:=by simpa using h
   have ne:n≠f:=fun z=>by subst z;exact (List.nodup_cons.mp nd).1 (List.mem_of_getElem? h')
   have ih:=lS (y:=y) (List.nodup_cons.mp nd).2 h' g
   show (match g == n with | true=>some v | false=>(nm.zip (vs ++ [y])).lookup g)=if g=f then some y else (match g == n with | true=>some v | false=>(nm.zip vs).lookup g)
   by_cases c:g=n
   ·rw [if_neg fun w=>ne (c ▸ w),beq_iff_eq.mpr c]
   ·rw [beq_eq_false_iff_ne.mpr c];exact ih
theorem vm (h:fF Γ (.ins c l) f d=some o):∃ k,Γ.cl[c]? = some k∧k.at_.length<1000∧((k.at_.idxOf f<l.length∧o = .ins c (l.set (k.at_.idxOf f) d))∨(k.at_.idxOf f=l.length∧k.at_.idxOf f<k.at_.length∧o = .ins c (l ++ [d]))):=by
 have h:((Γ.cl[c]?).bind fun k=>if k.at_.length<1000 then (if k.at_.idxOf f<l.length then some (O.ins c (l.set (k.at_.idxOf f) d)) else if k.at_.idxOf f=l.length∧k.at_.idxOf f<k.at_.length then some (.ins c (l ++ [d])) else none) else none)=some o:=h
 obtain ⟨k,hk,h⟩:=Option.bind_eq_some_iff.mp h
 refine ⟨k,hk,?_⟩
 by_cases z0:k.at_.length<1000
 ·rw [if_pos z0] at h
  refine ⟨z0,?_⟩
  by_cases z:k.at_.idxOf f<l.length
  ·rw [if_pos z] at h;cases h;exact .inl ⟨z,rfl⟩
  ·rw [if_neg z] at h
   by_cases z2:k.at_.idxOf f=l.length∧k.at_.idxOf f<k.at_.length
   ·rw [if_pos z2] at h;cases h;exact .inr ⟨z2.1,z2.2,rfl⟩
   ·rw [if_neg z2] at h;cases h
 ·rw [if_neg z0] at h;cases h
theorem yB (T:cC X an) (I:Rep X z) {n f:Nat} {p:Addr×Addr} {d:D} {v:Value} {o o':O} {A:Around} {Q:Unit→Shared→Prop} {E:Value→Shared→Prop} (ep:z.ρ[n]? = some p) (rd:RD X.W z.ρ z.G d v) (q:z.t.st[n]? = some o) (e:fF X.Γ o f d=some o')
 (h:∀ s',Rep X { z with t:=⟨z.t.env,z.t.ow,z.t.st.set n o'⟩,s:=s' }→Go X z { z with t:=⟨z.t.env,z.t.ow,z.t.st.set n o'⟩,s:=s' }→Q () s'):wpAny X.M A (setAttr (.ref p.1) (an f) v) Q E z.s:=by
 have ob:=I.ob n o p q ep
 cases o with
 | ins c l=>
   obtain ⟨k,hk,h1000,alt⟩:=vm e
   obtain ⟨i',vs,w1,w2,w3,w4,w5⟩:=ob
   obtain ⟨i,C⟩:=T c k hk
   rw [C.ci] at w1
   have ii:i=i':=Option.some.inj w1
   subst ii
   have lnm:i.nm.length=k.at_.length:=by rw [C.nm,List.length_map]
   have wz:k.what≠2:=by have:=C.wh;rw [w2] at this;have e:=Option.some.inj this;omega
   have lv:=w5.len
   have hj:k.at_.idxOf f<k.at_.length:=by
    rcases alt with ⟨z,_⟩ | ⟨_,z,_⟩
    ·omega
    ·exact z
   have hn:i.nm[k.at_.idxOf f]? = some (an f):=by rw [C.nm,List.getElem?_map,List.getElem?_eq_getElem hj];simp
   have cl:=C.cls wz
   have na:=C.na _ (List.mem_of_getElem? hn)
   refine vn (ns:=i.nm) I.toHR.kin (InO.objm w4) cl.sa cl.po na.taker cl.hd (fun y hy=>?_) (by rw [lnm];exact Nat.le_trans (Nat.le_of_lt h1000) (big (by omega))) fun h' om sb=>?_
   ·cases qq:(i.nm.zip vs).lookup y with
    | none=>exact absurd qq hy
    | some u=>
      obtain ⟨l1,l2,e1,_⟩:=List.lookup_eq_some_iff.mp qq
      exact (List.of_mem_zip (show (y,u)∈i.nm.zip vs by rw [e1];simp)).1
   ·have done:∀ vs' l',o' = .ins c l'→RDs X.W z.ρ z.G l' vs'→l'.length≤i.nm.length→(∀ g,(i.nm.zip vs').lookup g=if g=an f then some v else (i.nm.zip vs).lookup g)→Q () { z.s with heap:=h',toks:=z.s.toks+2 }:=fun vs' l' eo r hl lk=>by
     subst eo
     obtain ⟨od,es,ep',e1,e2,e3,e4,e5⟩:=om.ns
     obtain ⟨I2,g2⟩:=I.stw (s':={ z.s with heap:=h',toks:=z.s.toks+2 }) (o':=.ins c l') ep (.inr rfl) (fun b hb=>sb.2 b hb) ⟨i,vs',C.ci,w2,hl,⟨om.obj,om.ne,by rw [List.length_zip];omega,od,e1,es,ep',e2,e3,e4,fun nn=>(e5 nn).trans (lk nn).symm⟩,r⟩ rfl rfl
     exact h _ I2 g2
    rcases alt with ⟨z,eo⟩ | ⟨z,_,eo⟩
    ·exact done _ _ eo (w5.set _ rd) (by rw [List.length_set];exact w3) (oV C.nd hn (by omega))
    ·exact done _ _ eo (w5.app (.cons rd rfl)) (by rw [List.length_append];simp;omega) (lS C.nd (by rw [← lv,← z];exact hn))
 | _=>cases e
theorem oM (T:cC X an) (x:Go X z0 z) (I:Rep X z) {n f:Nat} {p:Addr×Addr} {d:D} {v:Value} {A:Around} {E:Value→Shared→Prop} {o:ao} (ep:z.ρ[n]? = some p) (rd:RD X.W z.ρ z.G d v) (e:o=(match (z.t.st[n]?).bind fun o=>fF X.Γ o f d with | some o=>.nx ⟨z.t.env,z.t.ow,z.t.st.set n o⟩ | none=>.bad)) (nb:o≠.bad):wpAny X.M A (setAttr (.ref p.1) (an f) v) (fun _ s'=>Ps X z0 o .next s') E z.s:=by
 cases q:(z.t.st[n]?).bind fun o=>fF X.Γ o f d with
 | none=>rw [q] at e;exact absurd e nb
 | some o'=>
   rw [q] at e
   obtain ⟨ob,q1,q2⟩:=Option.bind_eq_some_iff.mp q
   exact yB T I ep rd q1 q2 fun s' I2 g2=>nxt (z1:={ z with t:=⟨z.t.env,z.t.ow,z.t.st.set n o'⟩,s:=s' }) (x.trans g2) I2 e
def mK:E→Bool
 | .lst .nil=>false
 | .dic .nil=>false
 | _=>true
theorem pA (h:mK e=true):X.ex (.fld a f e) s=(X.ev false e s).go fun d s=>(X.ev true a s).go fun x s=>(match x with
        | .ref n=>(match (s.st[n]?).bind fun o=>fF X.Γ o f d with | some o=>.nx ⟨s.env,s.ow,s.st.set n o⟩ | none=>.bad)
        | _=>.bad):=by
 cases e with
 | lst es=>cases es <;> first | rfl | cases h
 | dic es=>cases es <;> first | rfl | cases h
 | _=>rfl
theorem eB :swapsWith e (some (.Attribute o x p)) l env=pure false:=by
 cases e <;> rfl
theorem mL (I:Rep X z) (h:RB X.W z (.ref n) u):∃ p,z.ρ[n]? = some p∧u = .ref p.1:=h.cr0 I
theorem xP (T:cC X an) (hp:mK e=true) (ho:LE X eo a) (he:LE X ee e):LS X (.Assign [.Attribute eo (an f) p] ee pos) (.fld a f e):=fun z I nb=>plainObj_wpAny_Assign_Attribute ((he false).gos .refl I (pA hp) nb fun z1 d v y1 x1 I1 r1 e1=>(ho true).gos x1 I1 e1 nb fun z2 x u y2 x2 I2 r2 e2=>by
 cases x with
 | ref n=>
   obtain ⟨p,ep,rfl⟩:=mL I2 r2.rb
   exact oM T x2 I2 ep (r1.rd.st y2.st) e2 nb
 | _=>exact absurd e2 nb) eB
theorem oq (T:cC X an) {o:ao} {o0:O} {s':Shared} {a:Addr} {i:Nat} {x:Str} (I:Rep X z) (g:Gr z.s s') (ha:z.h a=none) (r:∀ ρ,ObR X.W ρ z.G s'.heap.get? (a,a) o0) (hN:X.N[i]? = some x) (hv:Vis X.env.scope x) (hd:(x == ("__debug__":Str))=false) (hcd:(x == ("__classdict__":Str))=false)
 (e:o=((X.ev true (.v i) z.t).go fun x s=>(match x with
  | .ref n=>(match (s.st[n]?).bind fun o=>fF X.Γ o f (.ref s.st.length) with | some o=>.nx ⟨s.env,s.ow,(s.st ++ [o0]).set n o⟩ | none=>.bad)
  | _=>.bad))) (nb:o≠.bad):wpAny X.M X.A (eval (.Name x p1) X.env) (fun ov s2=>wpAny X.M X.A (setAttr ov (an f) (.ref a)) (fun _ s3=>Ps X z o .next s3) (PxS X z o) s2) (PxS X z o) s':=by
 obtain ⟨I1,x1⟩:=I.snoc (p:=(a,a)) g ⟨ha,ha⟩ (r _)
 have ev:X.ev true (.v i) z.t=(match z.t.env[i]? with | some (some d)=>.ok d z.t | _=>.bad):=rfl
 rw [ev] at e
 cases q:z.t.env[i]? with
 | none=>rw [q] at e;exact absurd e nb
 | some oo=>cases oo with
   | none=>rw [q] at e;exact absurd e nb
   | some d=>
     rw [q] at e
     obtain ⟨u,hu,ru⟩:=I1.slot (i:=i) (d:=d) q
     refine bY I1 hN hv hu ?_ hd hcd
     cases d with
     | ref n=>
       obtain ⟨p,ep,rfl⟩:=mL I1 ru
       have e:o=(match (z.t.st[n]?).bind fun o=>fF X.Γ o f (.ref z.t.st.length) with | some o=>.nx ⟨z.t.env,z.t.ow,(z.t.st ++ [o0]).set n o⟩ | none=>.bad):=e
       refine oM T x1.go I1 ep (show RD X.W (z.ρ ++ [(a,a)]) z.G (.ref z.t.st.length) (.ref a) from ⟨_,mF I.toHR,rfl⟩) (e.trans ?_) nb
       show _=(match ((z.t.st ++ [o0])[n]?).bind fun o=>fF X.Γ o f (.ref z.t.st.length) with | some o=>ao.nx ⟨z.t.env,z.t.ow,(z.t.st ++ [o0]).set n o⟩ | none=>ao.bad)
       cases q1:z.t.st[n]? with
       | none=>rw [q1] at e;exact absurd e nb
       | some w=>rw [List.getElem?_append_left (List.getElem?_eq_some_iff.mp q1).1,q1]
     | _=>exact absurd e nb
theorem uJ (T:cC X an) (hN:X.N[i]? = some x) (hv:Vis X.env.scope x) (hd:(x == ("__debug__":Str))=false) (hcd:(x == ("__classdict__":Str))=false):LS X (.Assign [.Attribute (.Name x p1) (an f) p] (.Dict [] [] p2) pos) (.fld (.v i) f (.dic .nil)):=fun z I nb=>plainObj_wpAny_Assign_Attribute (wpAny_Dict_empty (oq (o0:=.dic [] []) T I (.push (t:=z.s.toks)) (aH z) (fun ρ=>⟨_,[],rfl,beq_eq_false_iff_ne.mpr (Nat.ne_of_gt I.sysm),Heap.get?_push_size _ rfl,by
 obtain ⟨o,es,ep,h1,h2,h3,h4,h5,h6⟩:=Heap.DictOf.new (knd:=bD X.W.P X.W.w) z.s.heap
 rw [Heap.get?_push_size _ rfl] at h1
 cases h1
 exact ⟨es,ep,h2,h3,h4,h5,h6,Nat.zero_le _⟩,rfl,rfl⟩) hN hv hd hcd rfl nb)) eB
theorem uK (T:cC X an) (hN:X.N[i]? = some x) (hv:Vis X.env.scope x) (hd:(x == ("__debug__":Str))=false) (hcd:(x == ("__classdict__":Str))=false):LS X (.Assign [.Attribute (.Name x p1) (an f) p] (.List [] p2) pos) (.fld (.v i) f (.lst .nil)):=fun z I nb=>plainObj_wpAny_Assign_Attribute (wpAny_List_spliced (Calls.spliced_nil ⟨Nat.zero_le _,oq (o0:=.lst []) T I (.push (t:=z.s.toks)) (aH z) (fun ρ=>⟨_,[],rfl,Heap.get?_push_size _ rfl,⟨⟨_,rfl⟩,Nat.zero_le _⟩,rfl⟩) hN hv hd hcd rfl nb⟩)) eB
theorem u4 {es:List D} {us:List Value} {o:Out D} (x:Ee X z0 z) (I:Rep X z) (r:RDs X.W z.ρ z.G es us) (hz:es.length≤100000) (e:o = .ok (.ref z.t.st.length) ⟨z.t.env,z.t.ow,z.t.st ++ [.lst es]⟩):Pe X z0 o (RV X.W br c) (.ref z.s.heap.objs.size) { z.s with heap:=z.s.heap.push { cls:=.type "list",data:=.seq us.toArray } }:=by
 obtain ⟨I1,x1⟩:=I.snoc (p:=(z.s.heap.objs.size,z.s.heap.objs.size)) (o:=.lst es) (.push (t:=z.s.toks)) ⟨aH z,aH z⟩ ⟨_,us,rfl,Heap.get?_push_size _ rfl,⟨⟨_,rfl⟩,by rw [← r.len];exact big hz⟩,r.mono (List.prefix_append _ _) (.refl _)⟩
 exact ⟨_,.ref z.t.st.length,rfl,e,x.trans x1,I1,.of (show RD X.W (z.ρ ++ [_]) z.G (.ref z.t.st.length) _ from ⟨_,mF I.toHR,rfl⟩)⟩
theorem nN (h:LA X er es):LE X (.List er pos) (.newl es):=fun br z I nb=>wpAny_List_spliced ((h false pos).go (f:=fun l s=>if l.length≤100000 then Out.ok (D.ref s.st.length) ⟨s.env,s.ow,s.st ++ [.lst l]⟩ else .bad) .refl I rfl nb fun z1 l us y1 x1 I1 r1 e1=>by
 by_cases c:l.length≤100000
 ·rw [if_pos c] at e1
  exact ⟨by rw [← r1.rds.len];exact big c,u4 x1 I1 r1.rds c e1⟩
 ·rw [if_neg c] at e1;exact absurd e1 nb)
theorem uP (hN:X.N.Nodup) (hi:X.N[i]? = some x) (hx:Loc X.env.scope x) (h:LA X er es) (hs:swapsWith (.List er lp) (some (.Name x pos')) pos.line X.env=pure false):LS X (.Assign [.Name x pos'] (.List er lp) pos) (.setR i es):=fun z I nb=>wpAny_Assign_Name (by
 have e:X.ex (.setR i es) z.t=(X.ev false (.newl es) z.t).go fun d s=>.nx (stV s i d false):=by
  show Out.go (X.evs false es z.t) _=Out.go (Out.bind (X.evs false es z.t) _) _
  cases X.evs false es z.t with
  | ok l s=>show (if l.length≤100000 then _ else _)=Out.go (if l.length≤100000 then _ else _) _;by_cases c:l.length≤100000 <;> simp only [c,if_true,if_false] <;> rfl
  | _=>rfl
 exact (nN h false).gos .refl I e nb fun z1 d u y x0 I1 r e1=>cn (own:=false) x0 I1 hN hi hx r.rd fun s' a _ _ I' g'=>nxt (z1:={ z1 with t:=stV z1.t i d false,σ:=z1.σ.set i (some u),s:=s' }) g' I' e1) hs
structure AugR (X:Cx) (op:Operator) (o:Op) (g:Int→Int→Int):Prop where
 op:∀ {A:Around} {s:Shared} {i j:Int} {t u:Tok} {Q:Value→Shared→Prop} {E:Value→Shared→Prop},Q (.int (g i j) s.toks) { s with toks:=s.toks+1 }→wpAny X.M A (inplaceOp op (.int i t) (.int j u)) Q E s
 od:∀ i j,opD o (.int i) (.int j)=some (.int (g i j))
 oi:∀ x c d,opD o x (.int c)=some d→∃ w,x = .int w
end
section
variable {prog:Program} {w:World} {A:Around} {E:Value→Shared→Prop} {s:Shared}
theorem iM {it l:Addr} {items:Array Value} (hne:l≠it):∀ (n i:Nat) (s:Shared) (Q:List Value→Shared→Prop),s.heap.IsListIter it l i→s.heap.IsList l items→i+n≤items.size →
 (∀ h',h'.IsListIter it l (i+n)→Heap.SameBut it s.heap h'→Q ((items.toList.drop i).take n) { s with heap:=h' })→wpAny (model prog w) A (draw (.ref it) n) Q E s
 | 0,i,s,Q,hit,_,_,hQ=>by
   show wpAny _ _ (pure []) Q E s
   exact wpAny_pure (by simpa using hQ s.heap hit (Heap.SameBut.refl ..))
 | n+1,i,s,Q,hit,ht,hle,hQ=>by
   have hlt:i<items.size:=by omega
   show wpAny _ _ (pyNext (.ref it) >>= _) Q E s
   refine wpAny_bind (wpAny_pyNext_list_item hit ht (x:=items[i]) (by simp [hlt]) fun h₁ hit₁ hs₁=>?_)
   refine wpAny_bind (wpAny_holding (iM hne n (i+1) _ _ hit₁ (ht.extBut hs₁.extBut hne) (by omega) fun h₂ hit₂ hs₂=>wpAny_pure ?_))
   have hd:items.toList.drop i=items[i] :: items.toList.drop (i+1):=by simp [List.drop_eq_getElem_cons,hlt]
   have:=hQ h₂ (by rw [show i+(n+1)=i+1+n by omega];exact hit₂) (hs₁.trans hs₂)
   rw [hd,List.take_succ_cons] at this
   exact this
theorem e9 {l:Addr} {items:Array Value} {Q:List Value→Shared→Prop} (hh:A.handled=none) (ht:s.heap.IsList l items)
 (hQ:∀ h',Heap.ExtBut s.heap.objs.size s.heap h'→Q items.toList { s with heap:=h' }):wpAny (model prog w) A (unpackItems (.ref l) items.size none) Q E s:=by
 have hlt:l≠s.heap.objs.size:=by obtain ⟨o,ho,_⟩:=ht;exact Nat.ne_of_lt (Heap.lt_size ho)
 unfold unpackItems
 refine wpAny_bind ?_
 unfold notIterableAtAll
 refine wpAny_bind (wpAny_specialOf ht.typeIs slot_list_iter.lookup ?_)
 refine wpAny_pure ?_
 simp only [Bool.false_eq_true,if_false]
 refine wpAny_bind (wpAny_holding (wpAny_pyIter_list ht ?_))
 refine wpAny_bind (wpAny_holding (iM hlt items.size 0 _ _ ⟨_,Heap.get?_push_size _ rfl,rfl,rfl⟩ (ht.push _) (by omega) fun h₁ hit₁ hs₁=>?_))
 have hall:List.take items.size (List.drop 0 items.toList)=items.toList:=by
  rw [List.drop_zero];exact List.take_of_length_le (by simp)
 rw [hall]
 rw [if_neg (by simp)]
 have ht₁:h₁.IsList l items:=(ht.push _).extBut hs₁.extBut hlt
 refine wpAny_bind (wpAny_holding (wpAny_pyNext_list_end hh hit₁ ht₁ (by simp) fun h₂ he₂=>?_))
 simp only [Option.isSome_none,Bool.false_eq_true,if_false]
 exact wpAny_pure (hQ h₂ fun b o hb e=>he₂ b o hb (hs₁.extBut b o hb (Heap.get?_push_of_some _ e)))
end
section
variable {X:Cx} {z z' z0 z1:Z}
def binds (env:List (Option D)) (l:List (Nat×D)):List (Option D):=l.foldl (fun e p=>e.set p.1 (some p.2)) env
def y8 (t:Sta) (ts:List Nat) (ds:List D):Sta:=⟨binds t.env (ts.zip ds),t.ow.filter fun i=>!ts.contains i,t.st⟩
def As (X:Cx):List (Value→Sem Unit)→List Nat→Prop
 | f :: fs,i :: t=>(∃ x,X.N[i]? = some x∧Loc X.env.scope x∧∀ {v Q E s},wpAny X.M X.A (storeName X.env x v) Q E s→wpAny X.M X.A (f v) Q E s)∧As X fs t
 | [],[]=>True
 | _,_=>False
theorem vE {Q:Unit→Shared→Prop} {E:Value→Shared→Prop} (hN:X.N.Nodup):∀ {fs t ds us z},As X fs t→Go X z0 z→Rep X z→RDs X.W z.ρ z.G ds us→ds.length=t.length→(∀ z',Go X z0 z'→Rep X z'→z'.ρ=z.ρ→z'.G=z.G→z'.t=y8 z.t t ds→(∀ j,j ∉ t→z'.σ[j]? = z.σ[j]?)→((∀ i∈t,∀ x,X.N[i]? = some x→X.env.scope.names.lookup x=some .local)→∀ b o,z.h b=some o→b≠X.env.locals→z'.h b=some o)→Q () z'.s)→wpAny X.M X.A (assignInOrder fs us) Q E z.s
 | [],[],[],us,z,_,x,I,r,_,h=>assignInOrder_nil (h z x I rfl rfl (by
   have:z.t.ow.filter (fun i=>!([]:List Nat).contains i)=z.t.ow:=List.filter_eq_self.mpr fun _ _=>rfl
   show z.t=⟨z.t.env,_,z.t.st⟩
   rw [this]) (fun _ _=>rfl) fun _ _ _ e _=>e)
 | f :: fs,i :: t,d :: ds,us,z,⟨⟨x',h1,h2,h3⟩,ha⟩,x,I,r,hl,h=>by
   obtain ⟨u,vs,rfl,r1,r2⟩:=r
   refine assignInOrder_cons (h3 (cn (own:=false) x I hN h1 h2 r1 fun s' a sb la I' g'=>?_))
   refine vE hN (z:={ z with t:=stV z.t i d false,σ:=z.σ.set i (some u),s:=s' }) ha g' I' r2 (Nat.succ.inj hl) fun z' gz Iz eρ eG et eσ ek=>h z' gz Iz eρ eG (et.trans ?_) (fun j nj=>?_) fun lc b o e nb=>ek (fun i' m=>lc i' (List.mem_cons_of_mem _ m)) b o ((sb.2 b fun q=>nb (q.trans (la.2 (lc i List.mem_cons_self x' h1)))).trans e) nb
   ·show (⟨binds (z.t.env.set i (some d)) (t.zip ds),(z.t.ow.filter (· != i)).filter (fun j=>!t.contains j),z.t.st⟩:Sta)=⟨binds (z.t.env.set i (some d)) (t.zip ds),z.t.ow.filter (fun j=>!(i :: t).contains j),z.t.st⟩
    rw [List.filter_filter]
    congr 1
    refine List.filter_congr fun j _=>?_
    rw [List.contains_cons,Bool.not_or,Bool.and_comm];rfl
   ·rw [List.mem_cons,not_or] at nj
    exact (eσ j nj.2).trans (List.getElem?_set_ne (Ne.symm nj.1))
 | [],_ :: _,_,_,_,h,_,_,_,_,_=>h.elim
 | _ :: _,[],_,_,_,h,_,_,_,_,_=>h.elim
 | [],[],_ :: _,_,_,_,_,_,_,hl,_=>by cases hl
 | _ :: _,_ :: _,[],_,_,_,_,_,_,hl,_=>by cases hl
def LG (X:Cx) (tg:Expr) (t:List Nat) (one:Bool):Prop:=∀ (z0 z:Z) (d:D) (u:Value) (env:List (Option D)) (Q:Unit→Shared→Prop) (E:Value→Shared→Prop),Go X z0 z→Rep X z→RD X.W z.ρ z.G d u→aK t one d z.t.env=some env →
 (∀ z',Go X z0 z'→Rep X z'→z'.ρ=z.ρ→Go X z z'→z'.t=⟨env,z.t.ow.filter fun i=>!t.contains i,z.t.st⟩→(∀ j,j ∉ t→z'.σ[j]? = z.σ[j]?)→((∀ i∈t,∀ x,X.N[i]? = some x→X.env.scope.names.lookup x=some .local)→∀ b o,z.h b=some o→b≠X.env.locals→z'.h b=some o)→Q () z'.s)→wpAny X.M X.A (assign tg X.env u) Q E z.s
theorem uA (hN:X.N.Nodup) (hi:X.N[i]? = some x) (hx:Loc X.env.scope x):LG X (.Name x pos) [i] true:=fun z0 z d u env Q E x0 I r e h=>by
 cases (show some (z.t.env.set i (some d))=some env from e)
 refine wpAny_assign_Name (cn (own:=false) .refl I hN hi hx r fun s' a sb la I' g'=>h { z with t:=stV z.t i d false,σ:=z.σ.set i (some u),s:=s' } (x0.trans g') I' rfl g' ?_ (fun j nj=>?_) fun lc b o e nb=>(sb.2 b fun q=>nb (q.trans (la.2 (lc i (List.mem_singleton.mpr rfl) x hi)))).trans e)
 ·show (⟨_,z.t.ow.filter (· != i),z.t.st⟩:Sta)=⟨_,z.t.ow.filter (fun j=>![i].contains j),z.t.st⟩
  congr 1
  refine List.filter_congr fun j _=>?_
  by_cases c:j=i <;> simp [c]
 ·exact List.getElem?_set_ne fun w=>nj (by rw [w];exact List.mem_singleton.mpr rfl)
theorem sX {n:Nat} {Q:List Value→Shared→Prop} {E:Value→Shared→Prop} {d:D} {l:List D} (hc:X.calm=true) (I:Rep X z) (r:RD X.W z.ρ z.G d u) (e:d = .tup l∨d = .lst l) (hn:l.length=n) (q:∀ s' us,Gr z.s s'→RDs X.W z.ρ z.G l us→Q us s'):wpAny X.M X.A (unpackItems u n none) Q E z.s:=by
 subst hn
 rcases e with rfl | rfl
 ·obtain ⟨a,o,vs,rfl,g,⟨tc,⟨k,td⟩,tl⟩,r⟩:=r
  rw [show l.length=vs.toArray.size by simp [r.len]]
  exact wpAny_unpackItems_tuple (I.hd hc) (show z.s.heap.IsTuple a vs.toArray from ⟨o,I.gh _ _ g,tc,⟨k,td⟩⟩) fun h' hx=>q _ _ (.hp (t:=z.s.toks) fun b o e=>hx b o (Nat.ne_of_lt (Heap.lt_size e)) e) (by simpa using r)
 ·obtain ⟨a,o,vs,rfl,g,⟨⟨k,rfl⟩,tl⟩,r⟩:=r
  rw [show l.length=vs.toArray.size by simp [r.len]]
  exact e9 (I.hd hc) (show z.s.heap.IsList a vs.toArray from ⟨_,I.gh _ _ g,rfl,⟨k,rfl⟩⟩) fun h' hx=>q _ _ (.hp (t:=z.s.toks) fun b o e=>hx b o (Nat.ne_of_lt (Heap.lt_size e)) e) (by simpa using r)
theorem qp (e:aK t false d env=some env'):∃ l,(d = .tup l∨d = .lst l)∧l.length=t.length∧env'=binds env (t.zip l):=by
 cases d with
 | tup l=>obtain ⟨c,e⟩:=bg (show (if l.length=t.length then some (binds env (t.zip l)) else none)=some env' from e);cases e;exact ⟨l,.inl rfl,c,rfl⟩
 | lst l=>obtain ⟨c,e⟩:=bg (show (if l.length=t.length then some (binds env (t.zip l)) else none)=some env' from e);cases e;exact ⟨l,.inr rfl,c,rfl⟩
 | _=>cases e
theorem rN {es:List Expr} {k:Nat} {pos:Pos} (hc:X.calm=true) (hN:X.N.Nodup) (ha:As X ((assignEach es X.env).map (·.2)) t) (hn:(assignEach es X.env).length=t.length) (hst:(assignEach es X.env).findIdx? (·.1)=none):LG X (.Tuple es k pos) t false:=fun z0 z d u env Q E x0 I r e h=>by
 obtain ⟨l,dl,hl,rfl⟩:=qp e
 rw [assign_Tuple]
 refine wpAny_bind (wpAny_standAt ?_)
 unfold unpack
 rw [hn,hst]
 refine wpAny_bind (wpAny_holding (sX hc I r dl hl fun s' us g rs=>?_))
 exact vE (z:={ z with s:=s' }) hN ha (aE I.gh g).ee.go (I.grow (aE I.gh g)) rs hl fun z' gz Iz eρ eG et eσ ek=>h z' (x0.trans gz) Iz eρ gz et eσ fun lc b o e nb=>ek lc b o (g.k b o e) nb
theorem uQ (he:LE X e c) (hg:LG X tg t false) (hs:swapsWithSole [tg] e pos.line X.env=pure false) (hw:swappedStores [tg] e X.env=pure none) (h1:(assignEach [tg] X.env).map (·.2) = [assign tg X.env]):LS X (.Assign [tg] e pos) (.setT t c):=fun z I nb=>wpAny_Assign_stores ((he false).gos .refl I rfl nb fun z1 d u y x0 I1 r e1=>by
 rw [h1]
 cases q:aK t false d z1.t.env with
 | none=>rw [q] at e1;exact absurd e1 nb
 | some env=>
   rw [q] at e1
   exact hg z z1 d u env _ _ x0 I1 r.rd q fun z' gz Iz _ _ et _ _=>nxt gz Iz (by rw [et];exact e1)) hs hw
end
section
variable {X:Cx} {z:Z}
def isV:E→Bool
 | .v _=>true
 | _=>false
theorem uM (hn:aJ eb=true) (hv:isV a=false) (ho:LE X eo a) (hb:LE X eb b) (he:LE X ee e):LS X (.Assign [.Subscript eo eb p2] ee pos) (.put a b e):=fun z I nb=>by
 have e0:X.ex (.put a b e) z.t=(X.ev false e z.t).go fun d s=>(X.ev true a s).go fun x s=>(X.ev true b s).go fun k s=>(match x with
  | .ref n=>(match (s.st[n]?).bind fun o=>eE o k d with | some o=>.nx ⟨s.env,s.ow,s.st.set n o⟩ | none=>.bad)
  | _=>.bad):=by cases a <;> first | rfl | cases hv
 refine mU hn ((he false).gos (K:=fun v s'=>∃ z1 d,z1.s=s'∧Go X z z1∧Rep X z1∧RD X.W z1.ρ z1.G d v∧X.ex (.put a b e) z.t=((X.ev true a z1.t).go fun x s=>(X.ev true b s).go fun k s=>(match x with
  | .ref n=>(match (s.st[n]?).bind fun o=>eE o k d with | some o=>.nx ⟨s.env,s.ow,s.st.set n o⟩ | none=>.bad)
  | _=>.bad))) .refl I e0 nb fun z1 d u y x1 I1 r1 e1=>⟨z1,d,rfl,x1,I1,r1.rd,e1⟩) fun v s' ⟨z1,d,q,x1,I1,r1,e1⟩=>?_
 subst q
 exact (ho true).gos x1 I1 e1 nb fun z2 x u y2 x2 I2 r2 e2=>(hb true).gos x2 I2 e2 nb fun z3 k kv y3 x3 I3 r3 e3=>by
  cases x with
  | ref n=>
    obtain ⟨p,ep,rfl⟩:=mL I3 (r2.rb.st y3 I3)
    exact sK x3 I3 ep (r3.rb.cr0 I3) ((r1.st y2.st).st y3.st) e3 nb
  | _=>exact absurd e3 nb
theorem xO {i:Nat} {x:Str} (hN:X.N[i]? = some x) (hv:Vis X.env.scope x) (hd:(x == ("__debug__":Str))=false) (hcd:(x == ("__classdict__":Str))=false) (he:LE X e c) (m:M1 X (.Name x p) "extend" apos e cpos):LS X (.Expr (.Call (.Attribute (.Name x p) "extend" apos) [e] [] cpos) pos) (.ext i c):=fun z I nb=>by
 have e0:X.ex (.ext i c) z.t=(if z.t.ow.contains i && isLst z.t.env[i]? then (X.ev false c z.t).go fun d s=>if s.ow.contains i then (match s.env[i]?,d with
  | some (some (.lst l)),.lst x=>if l.length+x.length≤100000 then .nx ⟨s.env.set i (some (.lst (l ++ x))),s.ow,s.st⟩ else .bad
  | _,_=>.bad) else .bad else .bad):=rfl
 by_cases c0:(z.t.ow.contains i && isLst z.t.env[i]?)=true
 ·rw [if_pos c0] at e0
  rw [Bool.and_eq_true] at c0
  have mi:i∈z.t.ow:=by simpa using c0.1
  obtain ⟨l,el⟩:∃ l,z.t.env[i]? = some (some (.lst l)):=by
   have:=c0.2
   unfold isLst at this
   split at this
   ·rename_i l q;exact ⟨l,q⟩
   ·cases this
  obtain ⟨a,vs,n,es,ha,r⟩:=fR I mi el
  refine wpAny_Expr_any (wpAny_Call_method m.base m.few m.line PySem.F.plainAttrs_list PySem.F.slot_list_extend PySem.F.type_list_extend (bY I hN hv es ⟨⟨_,ha,rfl⟩,fun b q=>(by cases q;exact ⟨_,ha,rfl⟩),?_⟩ hd hcd)) I.quiet rfl
  rw [m.trees]
  refine Calls.callWith_builtin rfl (Calls.evalArgs_plain (Calls.spliced_cons ((he false).gos .refl I e0 nb fun z1 d u y x1 I1 r1 e1=>Calls.spliced_nil ?_)))
  by_cases c1:z1.t.ow.contains i=true
  ·rw [if_pos c1] at e1
   have m1:i∈z1.t.ow:=by simpa using c1
   have el1:z1.t.env[i]? = some (some (.lst l)):=by rw [y.en];exact el
   rw [el1] at e1
   cases d with
   | lst x=>
     dsimp only at e1
     obtain ⟨a',vs,n,es',ha,r⟩:=fR I1 m1 el1
     rw [y.sg,es] at es';cases es'
     obtain ⟨b,o,us,rfl,g,⟨⟨n2,rfl⟩,hz2⟩,r2⟩:=r1.rd
     by_cases c2:l.length+x.length≤100000
     ·rw [if_pos c2] at e1
      have l1:=r.len
      have l2:=r2.len
      have hz:vs.toArray.size+us.toArray.size≤sizeLine:=by simp only [List.size_toArray];exact big (by omega)
      refine call_meets PySem.F.slot_list_extend ⟨_,ha,rfl⟩ PySem.F.entry_list_extend (PySem.F.args_list_extend_2 _ _) (AutoSeq1.list_extend_list_list_0 a vs.toArray n b us.toArray n2 ?_ (by omega) (by omega)) ⟨ha,I1.gh _ _ g,?_⟩
      ·rw [show Builtin.List.listTooLong (vs.toArray.size+us.toArray.size)=false from decide_eq_false (Nat.not_lt.mpr hz),Bool.and_false];exact fun h=>nomatch h
      obtain ⟨⟨o1,u1,u3⟩,u2⟩:=fV (f:=(· ++ us.toArray)) (ws:=vs ++ us) ha (by simp) (by rw [List.length_append];simpa using hz)
      obtain ⟨I2,g2⟩:=I1.ownw (s':={ z1.s with heap:=z1.s.heap.update a (Obj.mapSeq (· ++ us.toArray)) }) (d':=.lst (l ++ x)) m1 (by rw [y.sg];exact es) rfl u2 ⟨o1,vs ++ us,rfl,u1,u3,r.app r2⟩ rfl rfl
      exact nxt (x1.trans g2) I2 e1
     ·rw [if_neg c2] at e1;exact absurd e1 nb
   | _=>exact absurd e1 nb
  ·rw [if_neg c1] at e1;exact absurd e1 nb
 ·rw [if_neg c0] at e0;exact absurd e0 nb
end
structure Itr (W:Wd) (tg:Expr) (it:Addr) (fp wr:List Addr) (ds:List D) (ρ:Rs) (G:Hp) (St:Nat→Heap→Prop):Prop where
 sub:∀ b∈wr,b∈fp
 keep:∀ i h h',St i h→(∀ b∈fp,∀ o,h.get? b=some o→h'.get? b=some o)→St i h'
 ex:∀ i h,St i h→∀ b∈wr,∃ o,h.get? b=some o
 item:∀ {A:Around} {i:Nat} {d:D} {s:Shared},A.handled=none→ds[i]? = some d→St i s.heap→wpAny (model W.P W.w) A (pyNext (.ref it)) (fun r s1=>∃ u,r=some u∧wpAny (model W.P W.w) A (letOwnedTupleGo tg (.ref it) u) (fun _ s2=>St (i+1) s2.heap∧(s2.os=s.os∧s2.gens=s.gens)∧(∀ b o,b ∉ wr→s.heap.get? b=some o→s2.heap.get? b=some o) ∧
  ∀ ρ' G',ρ <+: ρ'→Sub G G'→(∀ a o,s.heap.get? a=none→s2.heap.get? a=some o→G' a=some o)→RD W ρ' G' d u) NoE s1) NoE s
 done:∀ {A:Around} {s:Shared},A.handled=none→St ds.length s.heap→wpAny (model W.P W.w) A (pyNext (.ref it)) (fun r s2=>r=none∧(s2.os=s.os∧s2.gens=s.gens)∧∀ b o,b ∉ wr→s.heap.get? b=some o→s2.heap.get? b=some o) NoE s
 self:∀ {A:Around} {i:Nat} {s:Shared} {Q:Value→Shared→Prop} {E:Value→Shared→Prop},A.handled=none→St i s.heap→Q (.ref it) s→wpAny (model W.P W.w) A (pyIter (.ref it)) Q E s
def Fp (X:Cx) (z0 z:Z) (fp wr:List Addr):Prop:=∀ b∈fp,(Nob X z0 z b∧∃ o,z.h b=some o)∨(b ∉ wr∧∃ o,z.G b=some o)
section
variable {X:Cx} {z z' z0 z1:Z}
theorem Nob.go (x:Go X z z') (n:Nob X z0 z b) (e:z.h b=some o):Nob X z0 z' b∧z'.h b=some o:=by
 obtain ⟨n0,⟨f1,f2,f3,f4⟩,f5⟩:=n
 have no:∀ {P:Prop},z.h b=none→P:=fun w=>by rw [w] at e;cases e
 refine ⟨⟨n0,⟨?_,fun m=>(x.st.rn b m).elim f2 no,f3,f4⟩,fun w=>(x.ow b w).elim f5 no⟩,x.st.sm b o e f2 (fun w=>w.elim f5 f4) f3⟩
 cases q:z'.G b with
 | none=>rfl
 | some o'=>
   rcases x.st.gn b o' q with w | w | w
   ·rw [f1] at w;cases w
   ·exact no w
   ·exact (w.elim f5 f4).elim
theorem Fp.go (x:Go X z z') (f:Fp X z0 z fp wr):Fp X z0 z' fp wr:=fun b hb=>(f b hb).imp (fun ⟨n,o,e⟩=>let ⟨a,b⟩:=n.go x e;⟨a,o,b⟩) fun ⟨n,o,e⟩=>⟨n,o,x.st.gg b o e⟩
theorem Fp.keep (x:Go X z z') (I:Rep X z) (I':Rep X z') (f:Fp X z0 z fp wr):∀ b∈fp,∀ o,z.h b=some o→z'.h b=some o:=fun b hb o e=>by
 rcases f b hb with ⟨n,o',e'⟩ | ⟨_,o',e'⟩
 ·exact (n.go x e).2
 ·rw [I.gh b o' e'] at e;cases e;exact I'.gh b _ (x.st.gg b _ e')
theorem Rep.turn {s':Shared} {wr:List Addr} {w:Addr→Prop} (x:Stp X.fr w z0 z) (I:Rep X z) (hw:∀ b∈wr,Nob X z0 z b∧∃ o,z.h b=some o) (k:∀ b o,b ∉ wr→z.h b=some o→s'.heap.get? b=some o) (os:s'.os=z.s.os∧s'.gens=z.s.gens):Rep X (z.up s')∧Stp X.fr w z0 (z.up s')∧Sub z.G (z.up s').G∧∀ b∈wr,Nob X z0 (z.up s') b:=by
 have gd:∀ a,(z.up s').G a=match z.h a with | none=>s'.heap.get? a | some _=>z.G a:=fun _=>rfl
 have nG:∀ {b o},z.G b=some o→b ∉ wr:=fun e m=>by rw [(hw _ m).1.2.1.1] at e;cases e
 have nM:∀ {b},Mu z.ρ b→b ∉ wr:=fun h m=>(hw _ m).1.2.1.2.1 h
 have nf:∀ {b},b∈frs X.fr→b ∉ wr:=fun h m=>(hw _ m).1.2.1.2.2.1 h
 have nL:∀ {b},Lc X b→b ∉ wr:=fun h m=>(hw _ m).1.2.1.2.2.2 h
 have nO:∀ {b},Own z b→b ∉ wr:=fun h m=>(hw _ m).1.2.2 h
 have gg:Sub z.G (z.up s').G:=fun a o e=>by rw [gd,I.gh a o e];exact e
 have nn:∀ {a:Addr},(∃ o,z.h a=some o)→z.G a=none→(z.up s').G a=none:=fun {a} ⟨o,e⟩ n=>by rw [gd,e];exact n
 have gh:Sub (z.up s').G s'.heap.get?:=fun a o e=>by
  rw [gd] at e
  cases q:z.h a with
  | none=>rw [q] at e;exact e
  | some u=>rw [q] at e;exact k a o (nG e) (I.gh a o e)
 have ck:∀ x c v,X.env.cells.lookup x=some c→z.s.heap.IsCell c v→s'.heap.IsCell c v:=fun x c v e ⟨o,q,d⟩=>⟨o,k c o (nL (.inr ⟨x,e⟩)) q,d⟩
 have fu:s'.heap.FunFrames X.base X.fr:=by
  have:∀ {l:List Env},(∀ b∈frs l,b ∉ wr)→z.s.heap.FunFrames X.base l→s'.heap.FunFrames X.base l:=fun {l}=>by
   induction l with
   | nil=>exact fun _ _=>trivial
   | cons v r ih=>
     intro hs ⟨a,⟨L,o,e1,e2,e3,e4⟩,q⟩
     have hm:L∈frs (v :: r):=by unfold frs;rw [List.filterMap_cons,e1];exact List.mem_cons_self
     exact ⟨a,⟨L,o,e1,e2,k L o (hs L hm) e3,e4⟩,ih (fun b hb=>hs b (by unfold frs;rw [List.filterMap_cons,e1];exact List.mem_cons_of_mem _ hb)) q⟩
  exact this (fun b h=>nf h) I.fu
 have gn:∀ a o,(z.up s').G a=some o→z.G a=some o∨z.h a=none:=fun a o e=>by
  rw [gd] at e
  cases q:z.h a with
  | none=>exact .inr rfl
  | some u=>rw [q] at e;exact .inl e
 refine ⟨⟨⟨I.md,I.fm,I.hd,fun b o e=>gg _ _ (I.bs b o e),gh,I.rl,I.rn,fun a m=>nn (I.th m) (I.rg a m),fun n o p h1 h2=>(I.ob n o p h1 h2).mono (List.prefix_refl _) gg fun a ha o e=>k a o (nM ⟨p,List.mem_of_getElem? h2,ha⟩) e,fu,fun b m=>⟨nn (I.fth m) (I.ff b m).1,(I.ff b m).2⟩,by show AllBare s'.gens;rw [os.2];exact I.br,os.1.trans I.os⟩,I.ok,?_,fun x c e=>let ⟨v,q⟩:=I.ce x c e;⟨v,ck x c v e q⟩,fun a l=>⟨nn (I.lth l) (I.fl a l).1,(I.fl a l).2⟩,I.el,I.sl,fun i d n e=>let ⟨u,q,r⟩:=I.en i d n e;⟨u,q,r.mono (List.prefix_refl _) gg⟩,fun i m=>?_,I.od⟩,⟨x.pr,x.gg.trans gg,fun a o e=>?_,x.rn,fun a o e=>?_,fun a o e n w f=>?_,fun a o e n w f=>?_⟩,gg,fun b hb=>let ⟨⟨n0,f,no⟩,ex⟩:=hw b hb;⟨n0,⟨nn ex f.1,f.2⟩,no⟩⟩
 ·obtain ⟨m,⟨oL,es,ep,q,r⟩,hl⟩:=I.lo
  exact ⟨m,⟨oL,es,ep,k _ _ (nL (.inl rfl)) q,r⟩,fun j x w e1 e2 e3=>dj (fun c v e q=>ck x c v e q) (hl j x w e1 e2 e3)⟩
 ·obtain ⟨d,a,o,h1,h2,h3,r,f⟩:=I.eo i m
  exact ⟨d,a,o,h1,h2,h3,r.mono (List.prefix_refl _) gg fun c hc o e=>k c o (by rcases hc with rfl | rfl <;> exact nO ⟨i,m,h2⟩) e,nn r.th.1 f.1,f.2⟩
 ·rcases gn a o e with w | w
  ·exact x.gn a o w
  ·exact .inr (.inl (x.no w))
 ·obtain ⟨o1,e1⟩:=x.th a o e
  by_cases m:a∈wr
  ·rw [(hw a m).1.1] at e;cases e
  ·exact ⟨o1,k a o1 m e1⟩
 ·exact k a o (fun m=>by rw [(hw a m).1.1] at e;cases e) (x.sm a o e n w f)
 ·obtain ⟨sl,q⟩:=x.sl a o e n w f
  exact ⟨sl,k a _ (fun m=>by rw [(hw a m).1.1] at e;cases e) q⟩
theorem Fp.up {s':Shared} {wr wr':List Addr} (I:Rep X z) (f:Fp X z0 z fp wr) (g:Sub z.G (z.up s').G) (k:∀ b o,b ∉ wr'→z.h b=some o→s'.heap.get? b=some o) (ex:∀ b∈wr',b∈fp→∃ o,s'.heap.get? b=some o):Fp X z0 (z.up s') fp wr:=fun b hb=>(f b hb).imp (fun ⟨⟨n0,ff,no⟩,o',e'⟩=>⟨⟨n0,⟨by show (match z.h b with | none=>s'.heap.get? b | some _=>z.G b)=none;rw [e'];exact ff.1,ff.2⟩,no⟩,by
 by_cases m:b∈wr'
 ·exact ex b m hb
 ·exact ⟨o',k b o' m e'⟩⟩) fun ⟨m,o',e'⟩=>⟨m,o',g b o' e'⟩
theorem Fp.wr {wr:List Addr} {St:Nat→Heap→Prop} (T:Itr W tg it fp wr ds ρ G St) (st:St i z.s.heap) (f:Fp X z0 z fp wr):∀ b∈wr,Nob X z0 z b∧∃ o,z.h b=some o:=fun b hb=>(f b (T.sub b hb)).elim id fun ⟨n,_⟩=>absurd hb n
def LI (X:Cx) (tg e:Expr) (c:E):Prop:=∀ z,Rep X z→X.ev false c z.t≠.bad→wpAny X.M X.A (eval e X.env) (fun v s1=>wpAny X.M X.A (pyIter v) (fun itv s2=>∃ z1 ds it fp wr St,z1.s=s2∧X.ev false c z.t = .ok (.lst ds) z1.t∧Ee X z z1∧Rep X z1∧itv = .ref it∧Itr X.W tg it fp wr ds z1.ρ z1.G St∧St 0 s2.heap∧Fp X z z1 fp wr) NoE s1) (Px X z (X.ev false c z.t)) z.s
def FI (X:Cx) (z:Z) (tg:Expr) (o:Out D) (itv:Value) (s2:Shared):Prop:=∃ z1 ds it fp wr St,z1.s=s2∧o = .ok (.lst ds) z1.t∧Ee X z z1∧Rep X z1∧itv = .ref it∧Itr X.W tg it fp wr ds z1.ρ z1.G St∧St 0 s2.heap∧Fp X z z1 fp wr
theorem mY {ds:List α} {i:Nat} (h:ds[i]? = some d):ds.drop i=d :: ds.drop (i+1):=by
 obtain ⟨hi,rfl⟩:=List.getElem?_eq_some_iff.mp h
 exact List.drop_eq_getElem_cons hi
theorem xQ {t:List Nat} {one:Bool} (hc:X.calm=true) (hp:∀ z o,PassesOwn X.M X.A X.env (PxS X z o)) (hi:LI X tg iter it) (hg:LG X tg t one) (hb:LSs X body b) (hs:∀ x,foldedSetIterable iter X.env x=pure x):LS X (.For tg iter body [] pos) (.for_ t one it b):=fun z I nb=>by
 let f:D→Sta→ao:=fun d s=>match aK t one d s.env with | some env=>X.ex b ⟨env,s.ow.filter fun i=>!t.contains i,s.st⟩ | none=>.bad
 have e0:X.ex (.for_ t one it b) z.t=(X.ev false it z.t).go fun x s=>(match x with | .lst ds=>aI f ds s | _=>.bad):=rfl
 generalize X.ex (.for_ t one it b) z.t=o at e0 nb
 have nb0:X.ev false it z.t≠.bad:=fun q=>nb (by rw [e0,q];rfl)
 refine wpAny_For (wpAny_mono (hi z I nb0) (fun v s1 h1=>wpAny_mono h1 (fun itv s2 h2=>?_) fun _ _ w=>w.elim) fun u s' h=>?_) hs
 rotate_left
 ·rw [e0];exact .of .refl h
 obtain ⟨z1,ds,a,fp,wr,St,q1,q2,x1,I1,q3,T,st1,f1⟩:=h2
 subst q1 q3
 rw [q2] at e0
 have e0:o=aI f ds z1.t:=e0
 refine codeAny_forLoop_any (fun n s'=>∃ i z',z'.s=s'∧n=ds.length - i∧i≤ds.length∧Go X z z'∧Rep X z'∧St i s'.heap∧Fp X z z' fp wr∧z1.ρ <+: z'.ρ∧Sub z1.G z'.G∧o=aI f (ds.drop i) z'.t) ?_ (ds.length - 0) ⟨0,z1,rfl,rfl,Nat.zero_le _,x1.go,I1,st1,f1,List.prefix_refl _,.refl _,by rw [List.drop_zero];exact e0⟩
 rintro n s3 ⟨i,z3,e3,en,hi,x3,I3,st3,f3,p3,g3,q⟩
 subst e3
 cases qd:ds[i]? with
 | none=>
   have hl:i=ds.length:=by rw [List.getElem?_eq_none_iff] at qd;omega
   subst hl
   refine wpAny_passesOwn (hp z o) (wpAny_mono (T.done (I3.hd hc) st3) (fun r s4 ⟨er,os,k⟩=>?_) fun _ _ w=>w.elim)
   subst er
   obtain ⟨I4,x4,_⟩:=I3.turn x3.st (f3.wr T st3) k os
   rw [List.drop_length] at q
   exact wpAny_execs_nil (nxt (z1:=z3.up s4) ⟨x4,x3.ow⟩ I4 q)
 | some d=>
   have hil:i<ds.length:=(List.getElem?_eq_some_iff.mp qd).1
   rw [mY qd] at q
   have q:o=(f d z3.t).go fun s=>aI f (ds.drop (i+1)) s:=q
   refine wpAny_passesOwn (hp z o) (wpAny_mono (T.item (I3.hd hc) qd st3) (fun r s4 ⟨u,er,h4⟩=>?_) fun _ _ w=>w.elim)
   subst er
   refine wpAny_passesOwn (hp z o) (wpAny_mono h4 (fun _ s5 ⟨st5,os5,k5,rd5⟩=>?_) fun _ _ w=>w.elim)
   have hw:=f3.wr T st3
   obtain ⟨I5,x5',g5,n5⟩:=I3.turn x3.st hw k5 os5
   have x5:Go X z (z3.up s5):=⟨x5',x3.ow⟩
   have rd:=rd5 z3.ρ (z3.up s5).G p3 (g3.trans g5) fun a o e1 e2=>by rw [j7 e1];exact e2
   have f5:Fp X z (z3.up s5) fp wr:=f3.up I3 g5 k5 fun b m _=>T.ex _ _ st5 b m
   cases qb:aK t one d z3.t.env with
   | none=>exact absurd (show o = .bad by rw [q];show ao.go (match aK t one d z3.t.env with | some env=>X.ex b ⟨env,z3.t.ow.filter fun i=>!t.contains i,z3.t.st⟩ | none=>.bad) _=_;rw [qb];rfl) nb
   | some env=>
     have q:o=(X.ex b ⟨env,z3.t.ow.filter fun i=>!t.contains i,z3.t.st⟩).go fun s=>aI f (ds.drop (i+1)) s:=by rw [q];show ao.go (match aK t one d z3.t.env with | some env=>X.ex b ⟨env,z3.t.ow.filter fun i=>!t.contains i,z3.t.st⟩ | none=>.bad) _=_;rw [qb]
     refine wpAny_passesOwn (hp z o) (hg z (z3.up s5) d u env _ _ x5 I5 rd qb fun z6 x6 I6 eρ y6 et eσ _=>?_)
     rw [← show z6.t=(⟨env,z3.t.ow.filter fun i=>!t.contains i,z3.t.st⟩:Sta) from et] at q
     have nb6:X.ex b z6.t≠.bad:=fun w=>nb (by rw [q,w];rfl)
     refine wpAny_passesOwn (hp z o) (wpAny_mono (hb z6 I6 nb6) (fun fl s7 h7=>?_) fun u s' h=>?_)
     ·cases qx:X.ex b z6.t with
      | nx t7=>
        rw [qx] at h7 q
        obtain ⟨rfl,z7,e7,et7,x7,I7⟩:=h7
        subst e7 et7
        exact ⟨ds.length - (i+1),by omega,i+1,z7,rfl,rfl,hil,x6.trans x7,I7,T.keep _ _ _ st5 ((f5.keep (y6.trans x7) I5 I7)),f5.go (y6.trans x7),(p3.trans (eρ ▸ List.prefix_refl _:z3.ρ <+: z6.ρ)).trans x7.st.pr,(g3.trans g5).trans (y6.st.gg.trans x7.st.gg),q⟩
      | rt d7 t7=>
        rw [qx] at h7 q
        obtain ⟨u7,z7,rfl,r7⟩:=h7
        have:=Ps.less x6 (show Ps X z6 (.rt d7 t7) (.ret u7) s7 from ⟨u7,z7,rfl,r7⟩)
        show Ps X z o (.ret u7) s7
        rw [q];exact this
      | exc c l t7=>rw [qx] at h7;exact h7.elim
      | bad=>exact absurd qx nb6
     ·obtain ⟨z7,c,l,e7,qx,r7⟩:=h.less x6
      exact ⟨z7,c,l,e7,by rw [q,qx];rfl,r7⟩
end
theorem nin (n j k a:Nat) (h:j≠k) (ha:a<n):n+j ∉ [n+k,a]:=by simp;omega
theorem gB {h:Heap} (n:h.objs.size≤a):h.get? a=none:=Heap.get?_none_of_le n
section
variable {W:Wd} {tg:Expr} {it:Addr} {fp wr:List Addr} {ds:List D} {ρ:Rs} {G:Hp} {St:Nat→Heap→Prop}
theorem Itr.walks {P:Nat→Value→Prop} {A0:Around} (h0:A0.handled=none) {n:Nat} (hn:ds.length=n) (w:∀ A,A.handled=none→Walks W.P W.w A it fp wr n P St) (ex:∀ i h,St i h→∀ b∈wr,∃ o,h.get? b=some o) (go:∀ {A:Around} {s:Shared} {u:Value} {Q:Unit→Shared→Prop} {E:Value→Shared→Prop} {i:Nat},St i s.heap→Q () s→wpAny (model W.P W.w) A (letOwnedTupleGo tg (.ref it) u) Q E s)
 (hP:∀ i v d,P i v→ds[i]? = some d→∀ ρ' G',ρ <+: ρ'→Sub G G'→RD W ρ' G' d v):Itr W tg it fp wr ds ρ G St where
 sub:=(w A0 h0).sub
 keep:=(w A0 h0).frame
 ex:=ex
 item:=fun {A i d s} h e st=>(w A h).item i s _ _ (hn ▸ (List.getElem?_eq_some_iff.mp e).1) st fun v h' tk p st' k=>⟨v,rfl,go (s:={ s with heap:=h',toks:=tk }) st' ⟨st',⟨rfl,rfl⟩,fun b o n q=>k b o n q,fun ρ' G' h1 h2 _=>hP i v d p e ρ' G' h1 h2⟩⟩
 done:=fun {A s} h st=>(w A h).done s _ _ (hn ▸ st) fun h' tk k=>⟨rfl,⟨rfl,rfl⟩,k⟩
 self:=fun {A i s Q E} h st q=>(w A h).self i s Q E st q
abbrev Exa (h:Heap) (T:Addr):Prop:=∀ o,h.get? T=some o→o.dict=none
theorem Itr.walksT {Pt:Nat→Array Value→Prop} {Mid:Nat→Addr→Heap→Prop} {A0:Around} {elts:List Expr} {k:Nat} {pos:Pos} (h0:A0.handled=none) {n:Nat} (hn:ds.length=n) (w:∀ A,A.handled=none→WalksT W.P W.w A it fp wr n Pt St Mid) (ex:∀ i h,St i h→∀ b∈wr,∃ o,h.get? b=some o) (hm:∀ i T h,Mid i T h→Exa h T)
 (hP:∀ i vals d,Pt i vals→ds[i]? = some d→vals.size≤sizeLine∧∃ l,d = .tup l∧∀ ρ' G',ρ <+: ρ'→Sub G G'→RDs W ρ' G' l vals.toList):Itr W (.Tuple elts k pos) it fp wr ds ρ G St where
 sub:=(w A0 h0).sub
 keep:=(w A0 h0).frame
 ex:=ex
 item:=fun {A i d s} h e st=>(w A h).item i s _ _ (hn ▸ (List.getElem?_eq_some_iff.mp e).1) st fun T vals h' tk p hT tup mid kk=>⟨.ref T,rfl,(w A h).go elts k pos i T { s with heap:=h',toks:=tk } _ _ mid fun h2 st2 k2=>⟨st2,⟨rfl,rfl⟩,fun b o n q=>k2 b o n (kk b o n q),fun ρ' G' h1 h3 h4=>by
  obtain ⟨hz,l,rfl,r⟩:=hP i vals d p e
  obtain ⟨o,e1,e2,n,e3⟩:=tup
  exact ⟨T,o,vals.toList,rfl,h4 T o (gB hT) (k2 T o ((w A h).apart i T h' mid) e1),⟨e2,⟨n,by simpa using e3⟩,(by simpa using hz),hm i T h' mid o e1⟩,r ρ' G' h1 h3⟩⟩⟩
 done:=fun {A s} h st=>(w A h).done s _ _ (hn ▸ st) fun h' tk k=>⟨rfl,⟨rfl,rfl⟩,k⟩
 self:=fun {A i s Q E} h st q=>(w A h).self i s Q E st q
theorem ib {prog:Program} {w:World} {A:Around} {it:Addr} {fp:List Addr} {n:Nat} {P:Nat→Value→Prop} {St:Nat→Heap→Prop} (D:Draws prog w A.in1 it fp n P St) (e:Addr) (hei:e≠it) (hef:e ∉ fp) (hif:it∈fp):WalksT prog w A e (e :: fp) [e,it] n (fun i vals=>∃ t x,P i x∧vals = #[.int i t,x]) (fun i h=>(∃ old,IsEnum h e it i old)∧St i h) (fun i T h=>((∃ x,IsEnumOut h e it ((i:Int)+1) x T)∧St (i+1) h∧T≠e∧T≠it)∧Exa h T):=
 have V:=WalksT.enumerateD D e hei hef hif
 { sub:=V.sub,frame:=V.frame,done:=V.done,self:=V.self,go:=fun elts k pos i T s Q E m q=>V.go elts k pos i T s Q E m.1 q,apart:=fun i T h m=>V.apart i T h m.1,
   item:=fun i s Q E hi ⟨⟨old,he⟩,hs⟩ hQ=>wpAny_pyNext_enum_itemD D he hs hi hei hef fun x h' tk hP ho hs' hT hsz hk=>hQ s.heap.objs.size #[.int i tk,x] h' (tk+1) ⟨_,_,hP,rfl⟩ (Nat.le_refl _) ⟨_,hT,rfl,_,rfl⟩ ⟨⟨⟨_,ho⟩,hs',Nat.ne_of_gt (Heap.lt_size he),Nat.ne_of_gt (let ⟨_,y⟩:=D.live _ _ hs;Heap.lt_size y)⟩,fun o q=>(by rw [hT] at q;cases q;rfl)⟩ fun b o hb y=>hk b o (fun z=>hb (z ▸ List.mem_cons_self)) (fun z=>hb (z ▸ List.mem_cons_of_mem _ List.mem_cons_self)) y }
end
section
variable {X:Cx} {z z' z0 z1:Z} {tg:Expr}
theorem fj {s2:Shared} {o:Out D} {ds:List D} {it:Addr} {fp wr:List Addr} {St:Nat→Heap→Prop} (x:Ee X z z1) (I:Rep X z1) (g:Gr z1.s s2) (T:Itr X.W tg it fp wr ds z1.ρ z1.G St) (st:St 0 s2.heap) (hf:∀ b∈fp,(z1.h b=none∧∃ o,s2.heap.get? b=some o)∨(b ∉ wr∧∃ o,z1.G b=some o)) (e:o = .ok (.lst ds) z1.t):FI X z tg o (.ref it) s2:=
 ⟨{ z1 with s:=s2 },ds,it,fp,wr,St,rfl,e,x.trans (aE I.gh g).ee,I.grow (aE I.gh g),rfl,T,st,fun b hb=>(hf b hb).imp_left fun ⟨n,ex⟩=>⟨⟨x.st.no n,I.fre n⟩,ex⟩⟩
theorem rm (I:Rep X z) (e:z.G a=some o):a≠z.s.heap.objs.size:=Nat.ne_of_lt (Heap.lt_size (I.gh a o e))
theorem By (hc:X.calm=true) (ha:LE X e a):LI X tg e (.itv a):=fun z I nb=>(ha false).go (K:=fun v s1=>wpAny X.M X.A (pyIter v) (FI X z tg (X.ev false (.itv a) z.t)) NoE s1) .refl I rfl nb fun z1 d u y x1 I1 r1 e1=>by
 have r:=r1.rd
 cases d with
 | lst l=>
   obtain ⟨p,o,vs,rfl,g,⟨⟨n,rfl⟩,hz⟩,r⟩:=r
   have ne:=rm I1 g
   refine wpAny_pyIter_list (show z1.s.heap.IsList p vs.toArray from ⟨_,I1.gh _ _ g,rfl,n,rfl⟩) (fj (wr:=[z1.s.heap.objs.size]) x1 I1 (.push (t:=z1.s.toks)) (Itr.walks (I1.hd hc) (by simp [r.len]) (fun A hA=>Walks.list hA _ p ne vs.toArray) (fun i h st b hb=>by rw [List.mem_singleton.mp hb];obtain ⟨⟨o,e,_⟩,_⟩:=st;exact ⟨o,e⟩) (fun st q=>let ⟨⟨o,e,c,d⟩,_⟩:=st;ku e c d (by decide) q) fun i v d p1 p2 ρ' G' h1 h2=>?_) ⟨⟨_,Heap.get?_push_size _ rfl,rfl,rfl⟩,⟨_,Heap.get?_push_of_some _ (I1.gh _ _ g),rfl,n,rfl⟩⟩ (fun b hb=>?_) e1)
   ·obtain ⟨v',w1,w2⟩:=(r.mono h1 h2).get p2
    rw [show vs[i]? = some v by simpa using p1] at w1;cases w1;exact w2
   ·rcases List.mem_cons.mp hb with w | w
    ·rw [w];exact .inl ⟨aH z1,_,Heap.get?_push_size _ rfl⟩
    ·rw [List.mem_singleton.mp w];exact .inr ⟨fun m=>ne (List.mem_singleton.mp m),_,g⟩
 | tup l=>
   obtain ⟨p,o,vs,rfl,g,⟨tc,⟨n,td⟩,hz⟩,r⟩:=r
   have ne:=rm I1 g
   refine wpAny_pyIter_tuple (show z1.s.heap.IsTuple p vs.toArray from ⟨_,I1.gh _ _ g,tc,n,td⟩) (fj (wr:=[z1.s.heap.objs.size]) x1 I1 (.push (t:=z1.s.toks)) (Itr.walks (I1.hd hc) (by simp [r.len]) (fun A hA=>Walks.tuple hA _ p ne vs.toArray) (fun i h st b hb=>by rw [List.mem_singleton.mp hb];obtain ⟨⟨o,e,_⟩,_⟩:=st;exact ⟨o,e⟩) (fun st q=>let ⟨⟨o,e,c,d⟩,_⟩:=st;ku e c d (by decide) q) fun i v d p1 p2 ρ' G' h1 h2=>?_) ⟨⟨_,Heap.get?_push_size _ rfl,rfl,rfl⟩,⟨_,Heap.get?_push_of_some _ (I1.gh _ _ g),tc,n,td⟩⟩ (fun b hb=>?_) e1)
   ·obtain ⟨v',w1,w2⟩:=(r.mono h1 h2).get p2
    rw [show vs[i]? = some v by simpa using p1] at w1;cases w1;exact w2
   ·rcases List.mem_cons.mp hb with w | w
    ·rw [w];exact .inl ⟨aH z1,_,Heap.get?_push_size _ rfl⟩
    ·rw [List.mem_singleton.mp w];exact .inr ⟨fun m=>ne (List.mem_singleton.mp m),_,g⟩
 | dic ks l=>
   obtain ⟨p,o,vs,rfl,hs,g,⟨es,ep,c1,c2,c3,c4,c5,hz⟩,hl,r⟩:=r
   have ne:=rm I1 g
   have dm:Heap.DictAt (bD X.W.P X.W.w) z1.s.heap p (ks.zip vs) ep:=⟨o,es,I1.gh _ _ g,c1,c2,c3,c4,c5⟩
   have lk:ks.length=vs.length:=hl.trans r.len
   have lz:(ks.zip vs).length=(ks.map rp).length:=by rw [List.length_zip,List.length_map];omega
   refine wpAny_pyIter_dict hs dm (fj (ds:=ks.map rp) (wr:=[z1.s.heap.objs.size]) x1 I1 (.push (t:=z1.s.toks)) (Itr.walks (I1.hd hc) lz.symm (fun A hA=>Walks.dictKeys (knd:=bD X.W.P X.W.w) hA _ p ne (ks.zip vs) ep) (fun i h st b hb=>by rw [List.mem_singleton.mp hb];obtain ⟨⟨o,e,_⟩,_⟩:=st;exact ⟨o,e⟩) (fun st q=>let ⟨⟨o,e,c,d⟩,_⟩:=st;ku e c d (by decide) q) fun i v d p1 p2 ρ' G' h1 h2=>?_) ⟨⟨_,Heap.get?_push_size _ rfl,rfl,rfl⟩,⟨o,es,Heap.get?_push_of_some _ (I1.gh _ _ g),c1,c2,c3,c4,c5⟩⟩ (fun b hb=>?_) e1)
   ·obtain ⟨k,u,w1,w2⟩:=p1
    have kk:ks[i]? = some k:=by
     have:=List.getElem?_zip_eq_some.mp w1;exact this.1
    rw [List.getElem?_map,kk] at p2
    cases p2
    rcases aG w2 with ⟨j,t,rfl,rfl⟩ | ⟨x,t,rfl,rfl⟩
    ·exact ⟨t,rfl⟩
    ·exact ⟨t,rfl⟩
   ·rcases List.mem_cons.mp hb with w | w
    ·rw [w];exact .inl ⟨aH z1,_,Heap.get?_push_size _ rfl⟩
    ·rw [List.mem_singleton.mp w];exact .inr ⟨fun m=>ne (List.mem_singleton.mp m),_,g⟩
 | str y=>
   obtain ⟨t,rfl⟩:=r
   have e1:X.ev false (.itv a) z.t=Out.of z1.t ((if y.cps.all (· < 128)=true then some (y.cps.toList.map fun c=>D.str ⟨#[c]⟩) else none).map D.lst):=e1
   by_cases hy:y.cps.all (· < 128)=true
   ·rw [if_pos hy] at e1
    refine wpAny_pyIter_ascii hy (fj (ds:=y.cps.toList.map fun c=>.str ⟨#[c]⟩) (wr:=[z1.s.heap.objs.size]) x1 I1 (.push (t:=z1.s.toks)) (Itr.walks (I1.hd hc) (by simp) (fun A hA=>Walks.strAscii hA _ y t) (fun i h st b hb=>by rw [List.mem_singleton.mp hb];obtain ⟨o,e,_⟩:=st;exact ⟨o,e⟩) (fun st q=>let ⟨o,e,c,d⟩:=st;ku e c d (by decide) q) fun i v d p1 p2 ρ' G' h1 h2=>?_) ⟨_,Heap.get?_push_size _ rfl,rfl,rfl⟩ (fun b hb=>?_) e1)
    ·obtain ⟨c,u,w1,rfl⟩:=p1
     rw [List.getElem?_map,Array.getElem?_toList,w1] at p2
     cases p2;exact ⟨u,rfl⟩
    ·rw [List.mem_singleton.mp hb];exact .inl ⟨aH z1,_,Heap.get?_push_size _ rfl⟩
   ·rw [if_neg hy] at e1;exact absurd e1 nb
 | _=>exact absurd e1 nb
theorem vh {a:Int}:(j0 a n).length=n:=by simp [j0]
theorem lq {lo hi:Int} {t u v:Tok} {tk:Nat} {o:Out D} (hc:X.calm=true) (x:Ee X z z1) (I:Rep X z1) (h1:-(2 ^ 62)≤lo) (h2:lo<2 ^ 62) (h3:-(2 ^ 62)≤hi) (h4:hi<2 ^ 62) (e:o = .ok (.lst (j0 lo (hi - lo).toNat)) z1.t):wpAny X.M X.A (pyIter (.ref z1.s.heap.objs.size)) (FI X z tg o) NoE { z1.s with heap:=z1.s.heap.push { cls:=.type "range",data:=.fields #[.int lo t,.int hi u,.int 1 v] },toks:=tk }:=by
 refine wpAny_pyIter_range (IsRange.new ..) (small_one h1 h2 h3 h4) ?_
 have e2:(((hi - lo).toNat:Nat):Int) - ((0:Nat):Int)=Builtin.Range.rangeSize lo hi 1:=by rw [rangeSize_one];split <;> omega
 have g0:Gr z1.s { z1.s with heap:=z1.s.heap.push { cls:=.type "range",data:=.fields #[.int lo t,.int hi u,.int 1 v] },toks:=tk }:=.push
 have I2:=I.grow (aE I.gh g0)
 refine fj (z1:={ z1 with s:={ z1.s with heap:=z1.s.heap.push { cls:=.type "range",data:=.fields #[.int lo t,.int hi u,.int 1 v] },toks:=tk } }) (ds:=j0 lo (hi - lo).toNat) (x.trans (aE I.gh g0).ee) I2 (.push (t:=tk)) (Itr.walks (I.hd hc) vh (fun A hA=>Walks.range hA _ lo 1 (hi - lo).toNat) (fun i h st b hb=>by rw [List.mem_singleton.mp hb];exact ⟨_,st⟩) (fun st q=>ku st rfl rfl (by decide) q) fun i v d p1 p2 ρ' G' _ _=>?_) ?_ (fun b hb=>?_) e
 ·obtain ⟨t,rfl⟩:=p1
  unfold j0 at p2
  rw [List.getElem?_map,Option.map_eq_some_iff] at p2
  obtain ⟨j,p3,rfl⟩:=p2
  obtain ⟨hj,hj2⟩:=List.getElem?_eq_some_iff.mp p3
  rw [List.getElem_range] at hj2
  subst hj2
  exact ⟨t,by rw [Int.mul_one]⟩
 ·show IsRangeIter _ _ (lo+((0:Nat):Int) * 1) ((((hi - lo).toNat:Nat):Int) - ((0:Nat):Int)) 1
  rw [e2,show lo+((0:Nat):Int) * 1=lo by simp]
  exact Heap.get?_push_size _ rfl
 ·rw [List.mem_singleton.mp hb];exact .inl ⟨aH { z1 with s:=_ },_,Heap.get?_push_size _ rfl⟩
theorem pI (hc:X.calm=true) (hx:Blt X "range" (.type "range")) (ha:LE X ea a) (he:starEach [ea] X.env=(false,eval ea X.env) :: starEach [] X.env):LI X tg (.Call (.Name "range" p) [ea] [] pos) (.it .range1 (.cons a .nil)):=fun z I nb=>
 bf (Q:=fun v s1=>wpAny X.M X.A (pyIter v) (FI X z tg (X.ev false (.it .range1 (.cons a .nil)) z.t)) NoE s1) (.inr ⟨_,rfl⟩) hx he rfl I (Calls.spliced_cons ((ha false).go .refl I (ev1 fun l s=>Out.of s ((itD .range1 l).map D.lst)) nb fun z1 x u y1 x1 I1 r1 e1=>Calls.spliced_nil (by
  cases x with
  | int j=>
    obtain ⟨t,rfl⟩:=r1.rd
    have e1:X.ev false (.it .range1 (.cons a .nil)) z.t=Out.of z1.t ((if -(2 ^ 62)≤j∧j<2 ^ 62 then some (j0 0 j.toNat) else none).map D.lst):=e1
    by_cases c:-(2 ^ 62)≤j∧j<2 ^ 62
    ·rw [if_pos c] at e1
     exact call_range_1 (lq hc x1 I1 (by omega) (by omega) c.1 c.2 (by rw [Int.sub_zero];exact e1))
    ·rw [if_neg c] at e1;exact absurd e1 nb
  | _=>exact absurd e1 nb)))
theorem pJ (hc:X.calm=true) (hx:Blt X "range" (.type "range")) (ha:LE X ea a) (hb:LE X eb b) (he:starEach [ea,eb] X.env=(false,eval ea X.env) :: starEach [eb] X.env) (he2:starEach [eb] X.env=(false,eval eb X.env) :: starEach [] X.env):LI X tg (.Call (.Name "range" p) [ea,eb] [] pos) (.it .range2 (.cons a (.cons b .nil))):=fun z I nb=>
 bf (Q:=fun v s1=>wpAny X.M X.A (pyIter v) (FI X z tg (X.ev false (.it .range2 (.cons a (.cons b .nil))) z.t)) NoE s1) (.inr ⟨_,rfl⟩) hx he (by rw [he2];rfl) I (by
  rw [he2]
  exact Calls.spliced_cons ((ha false).go .refl I (ev2 fun l s=>Out.of s ((itD .range2 l).map D.lst)) nb fun z1 x u y1 x1 I1 r1 e1=>Calls.spliced_cons ((hb false).go x1 I1 e1 nb fun z2 y v y2 x2 I2 r2 e2=>Calls.spliced_nil (by
   cases x with
   | int i=>
     cases y with
     | int j=>
       obtain ⟨t,rfl⟩:=r1.rd
       obtain ⟨t',rfl⟩:=r2.rd
       have e1:X.ev false (.it .range2 (.cons a (.cons b .nil))) z.t=Out.of z2.t ((if (-(2 ^ 62)≤i∧i<2 ^ 62∧-(2 ^ 62)≤j∧j<2 ^ 62) then some (j0 i (j - i).toNat) else none).map D.lst):=e2
       by_cases c:(-(2 ^ 62)≤i∧i<2 ^ 62∧-(2 ^ 62)≤j∧j<2 ^ 62)
       ·rw [if_pos c] at e1
        exact call_range_2 (lq hc x2 I2 c.1 c.2.1 c.2.2.1 c.2.2.2 e1)
       ·rw [if_neg c] at e1;exact absurd e1 nb
     | _=>exact absurd e2 nb
   | _=>exact absurd (e2.trans (by cases y <;> rfl)) nb))))
theorem jm:∀ {l:List D} {i:Nat} {j:Int},(bR j l)[i]? = (l[i]?).map fun d=>.tup [.int (j+i),d]
 | [],_,_=>by unfold bR;simp
 | a :: r,0,j=>by unfold bR;simp
 | a :: r,i+1,j=>by
   unfold bR
   rw [List.getElem?_cons_succ,List.getElem?_cons_succ,jm]
   congr 1;funext d;congr 3;omega
theorem gu:∀ {l:List D} {j:Int},(bR j l).length=l.length
 | [],_=>by unfold bR;rfl
 | a :: r,j=>by unfold bR;rw [List.length_cons,List.length_cons,gu]
theorem uB {es:List Expr} {k:Nat} {tp:Pos} (hc:X.calm=true) (hx:Blt X "enumerate" (.type "enumerate")) (ha:LE X ea a) (he:starEach [ea] X.env=(false,eval ea X.env) :: starEach [] X.env):LI X (.Tuple es k tp) (.Call (.Name "enumerate" p) [ea] [] pos) (.it .enum (.cons a .nil)):=fun z I nb=>
 bf (Q:=fun v s1=>wpAny X.M X.A (pyIter v) (FI X z (.Tuple es k tp) (X.ev false (.it .enum (.cons a .nil)) z.t)) NoE s1) (.inr ⟨_,rfl⟩) hx he rfl I (Calls.spliced_cons ((ha false).go .refl I (ev1 fun l s=>Out.of s ((itD .enum l).map D.lst)) nb fun z1 x u y1 x1 I1 r1 e1=>Calls.spliced_nil (by
  cases x with
  | lst l=>
    obtain ⟨a0,o,vs,rfl,g,⟨⟨n,rfl⟩,hz⟩,r⟩:=r1.rd
    have hlt:=Heap.lt_size (I1.gh _ _ g)
    refine call_enumerate_1 (I1.gh _ _ g) fun h' g1 g2 hsz kp=>wpAny_pyIter_enum g1 (fj (ds:=bR 0 l) x1 I1 (s2:={ z1.s with heap:=h' }) (.hp (t:=z1.s.toks) kp) (Itr.walksT (I1.hd hc) (by rw [gu];simp [r.len]) (fun A hA=>ib (Draws.list (A:=A.in1) hA z1.s.heap.objs.size a0 (Nat.ne_of_lt hlt) vs.toArray) (z1.s.heap.objs.size+1) (Nat.succ_ne_self _) (nin _ 1 0 _ (by decide) hlt) List.mem_cons_self) (fun i h st b hb=>?_) (fun _ _ _ m=>m.2) fun i vals d p1 p2=>?_) ⟨⟨_,g1⟩,g2,⟨_,kp _ _ (I1.gh _ _ g),rfl,n,rfl⟩⟩ (fun b hb=>?_) e1)
    ·obtain ⟨⟨old,e1⟩,⟨o2,e2,_⟩,_⟩:=st
     rcases List.mem_cons.mp hb with w | w
     ·rw [w];exact ⟨_,e1⟩
     ·rw [List.mem_singleton.mp w];exact ⟨o2,e2⟩
    ·obtain ⟨t,v,p3,rfl⟩:=p1
     rw [jm,Option.map_eq_some_iff] at p2
     obtain ⟨d',p4,rfl⟩:=p2
     refine ⟨by simp [sizeLine_eq],_,rfl,fun ρ' G' h1 h2=>?_⟩
     obtain ⟨v',w1,w2⟩:=(r.mono h1 h2).get p4
     rw [show vs[i]? = some v by simpa using p3] at w1;cases w1
     exact .cons ⟨t,by rw [Int.zero_add]⟩ (.cons w2 rfl)
    ·rcases List.mem_cons.mp hb with w | w
     ·rw [w];exact .inl ⟨gB (Nat.le_succ _),_,g1⟩
     ·rcases List.mem_cons.mp w with w | w
      ·obtain ⟨o2,e2,_⟩:=g2
       rw [w];exact .inl ⟨aH z1,_,e2⟩
      ·rw [List.mem_singleton.mp w]
       refine .inr ⟨fun m=>?_,_,g⟩
       rcases List.mem_cons.mp m with q | q
       ·exact Nat.ne_of_lt (Nat.lt_succ_of_lt hlt) q
       ·exact Nat.ne_of_lt hlt (List.mem_singleton.mp q)
  | _=>exact absurd e1 nb)))
end
def ik (env:Env):NK→List (Str×Addr)→List (Str×Addr)
 | [],cs=>cs
 | y :: r,cs=>ik env r (if (y.2 == NameKind.free)=true then (match env.cells.lookup y.1 with | some a=>(y.1,a) :: cs | none=>cs) else cs)
theorem cB :∀ {l:List (Str×β)} {p:Str×β},p∈l→∃ c,l.lookup p.1=some c
 | [],_,h=>nomatch h
 | (a,b) :: r,p,h=>by
   cases e:p.1 == a with
   | true=>exact ⟨b,by simp only [List.lookup_cons,e]⟩
   | false=>
     rcases List.mem_cons.mp h with q | q
     ·subst q;simp at e
     ·obtain ⟨c,hc⟩:=cB q
      exact ⟨c,by simp only [List.lookup_cons,e];exact hc⟩
theorem kh :∀ {ns} {cs} {p:Str×Addr},p∈ik env ns cs→p∈cs∨env.cells.lookup p.1=some p.2
 | [],_,_,h=>.inl h
 | y :: r,cs,p,h=>by
   rcases kh (ns:=r) h with q | q
   ·by_cases hk:(y.2 == NameKind.free)=true
    ·rw [if_pos hk] at q
     cases e:env.cells.lookup y.1 with
     | none=>rw [e] at q;exact .inl q
     | some a=>
       rw [e] at q
       rcases List.mem_cons.mp q with rfl | q
       ·exact .inr e
       ·exact .inl q
    ·rw [if_neg hk] at q;exact .inl q
   ·exact .inr q
theorem iL :∀ {ns} {cs} {p:Str×Addr},p∈cs→p∈ik env ns cs
 | [],_,_,h=>h
 | y :: r,cs,p,h=>by
   refine iL (ns:=r) ?_
   by_cases hk:(y.2 == NameKind.free)=true
   ·rw [if_pos hk]
    cases e:env.cells.lookup y.1 with
    | none=>exact h
    | some a=>exact List.mem_cons_of_mem _ h
   ·rw [if_neg hk];exact h
theorem gb :∀ {ns} {cs} {y:Str×NameKind} {c},y∈ns→y.2 = .free→env.cells.lookup y.1=some c→(y.1,c)∈ik env ns cs
 | z :: r,cs,y,c,h,hf,hc=>by
   rcases List.mem_cons.mp h with rfl | h
   ·refine iL (ns:=r) ?_
    rw [if_pos (by rw [hf];rfl),hc]
    exact List.mem_cons_self
   ·exact gb (ns:=r) h hf hc
theorem dR
 (hf:∀ y cs,f y cs=if (y.2 == NameKind.free)=true then (do let a ← cellOf env y.1;pure (ForInStep.yield ((y.1,a) :: cs))) else pure (ForInStep.yield cs)) :
 ∀ (ns) (cs),(∀ y∈ns,y.2 = .free→∃ c,env.cells.lookup y.1=some c)→(forIn ns cs f:Sem _)=pure (ik env ns cs)
 | [],cs,_=>rfl
 | y :: r,cs,h=>by
   rw [List.forIn_cons,hf]
   by_cases hk:(y.2 == NameKind.free)=true
   ·obtain ⟨c,hc⟩:=h y List.mem_cons_self (by simpa using hk)
    have e1:cellOf env y.1=pure c:=by unfold cellOf;rw [hc]
    rw [if_pos hk,e1]
    have ih:=dR hf r ((y.1,c) :: cs) fun z hz=>h z (List.mem_cons_of_mem _ hz)
    show (forIn r ((y.1,c) :: cs) f:Sem _)=pure (ik env r _)
    rw [ih,if_pos hk,hc]
   ·have ih:=dR hf r cs fun z hz=>h z (List.mem_cons_of_mem _ hz)
    rw [if_neg hk]
    show (forIn r cs f:Sem _)=pure (ik env r _)
    rw [ih,if_neg hk]
theorem lZ (h:∀ y∈sc.names,y.2 = .free→∃ c,env.cells.lookup y.1=some c):closureFor sc env=pure (ik env sc.names []):=by
 simp only [closureFor]
 rw [dR (env:=env) (fun y cs=>by obtain ⟨n,kd⟩:=y;by_cases hk:(kd == NameKind.free)=true <;> simp [hk]) sc.names [] h]
 rfl
def cxC (X:Cx) (N:List Str) (sc:Scope) (C:Addr):Cx:={ X with N:=N,env:=compEnvC sc (ik X.env sc.names []) C X.env }
def i6 (sc:Scope) (env:Env) (p:Str×Str):Bool:=match (relabel sc env).names.lookup p.1 with
 | some .local=>false
 | some .cell=>p.1 == p.2
 | some .free=>p.1 == p.2
 | _=>true
structure Lcn (X:Cx) (sc:Scope) (k:Nat) (N:List Str):Prop where
 nocell:∀ y∈sc.names,y.2≠.cell
 kind:sc.kind = .function
 names:∀ y∈sc.names,y.2 = .local→sc.names.lookup y.1=some .local
 fr:∀ y∈sc.names,y.2 = .free→X.env.kindOf y.1=some .cell∨X.env.kindOf y.1=some .free
 len:N.length=k+X.N.length
 old:((N.drop k).zip X.N).all (i6 sc X.env)=true
theorem zQ (h1:(sc.names.all fun y=>y.2 != .cell)=true) (h2:sc.kind = .function) (h3:(sc.names.all fun y=>y.2 != .local || sc.names.lookup y.1 == some .local)=true)
 (h4:(sc.names.all fun y=>y.2 != .free || (X.env.kindOf y.1 == some .cell || X.env.kindOf y.1 == some .free))=true) (h5:N.length=k+X.N.length) (h6:((N.drop k).zip X.N).all (i6 sc X.env)=true):Lcn X sc k N where
 nocell:=fun y hy=>by have:=List.all_eq_true.mp h1 y hy;simpa using this
 kind:=h2
 names:=fun y hy hl=>by have:=List.all_eq_true.mp h3 y hy;simpa [hl] using this
 fr:=fun y hy hl=>by have:=List.all_eq_true.mp h4 y hy;simpa [hl] using this
 len:=h5
 old:=h6
section
variable {X:Cx} {sc:Scope} {k:Nat} {N:List Str} {z z' z0 z1:Z} {C:Addr}
theorem Lcn.cells (L:Lcn X sc k N) (ok:COk X):∀ y∈sc.names,y.2 = .free→∃ c,X.env.cells.lookup y.1=some c:=fun y hy hf=>ok.ch y.1 (L.fr y hy hf)
theorem ki (e:(ik X.env sc.names []).lookup x=some c):X.env.cells.lookup x=some c:=by
 rcases kh (PySem.mem_of_lookup e) with q | q
 ·exact nomatch q
 ·exact q
theorem cv (L:Lcn X sc k N) (e:(relabel sc X.env).names.lookup x=some kd) (hk:kd = .cell∨kd = .free):(x,NameKind.free)∈sc.names:=by
 have hm:=PySem.mem_of_lookup e
 obtain ⟨⟨n,k'⟩,hy,q⟩:=List.mem_map.mp hm
 dsimp only at q
 by_cases hc:(k' == NameKind.free && X.env.scope.kind == .function && X.env.kindOf n == some .cell)=true
 ·rw [if_pos hc] at q
  have e1:n=x:=congrArg Prod.fst q
  have e2:k' = .free:=by simp at hc;exact hc.1.1
  subst e1 e2
  exact hy
 ·rw [if_neg hc] at q
  have e1:n=x:=congrArg Prod.fst q
  have e2:k'=kd:=congrArg Prod.snd q
  subst e1 e2
  rcases hk with rfl | rfl
  ·exact absurd rfl (L.nocell _ hy)
  ·exact hy
theorem pn (L:Lcn X sc k N) (hi:N[i]? = some x) (hk:k≤i) (v:Vis (relabel sc X.env) x):X.N[i - k]? = some x∧(x,NameKind.free)∈sc.names:=by
 have hlt:i<N.length:=(List.getElem?_eq_some_iff.mp hi).1
 have hl:=L.len
 have h2:i - k<X.N.length:=by omega
 have e1:(N.drop k)[i - k]? = some x:=by rw [List.getElem?_drop];rw [show k+(i - k)=i by omega];exact hi
 have e2:X.N[i - k]? = some X.N[i - k]:=List.getElem?_eq_getElem h2
 have hz:((N.drop k).zip X.N)[i - k]? = some (x,X.N[i - k]):=by rw [List.getElem?_zip_eq_some];exact ⟨e1,e2⟩
 have ho:=List.all_eq_true.mp L.old _ (List.mem_of_getElem? hz)
 have v':(relabel sc X.env).names.lookup x=some .local∨(relabel sc X.env).names.lookup x=some .cell∨(relabel sc X.env).names.lookup x=some .free:=v
 unfold i6 at ho
 rcases v' with q | q | q
 ·simp only [q] at ho;cases ho
 ·simp only [q] at ho
  have e3:x=X.N[i - k]:=by simpa using ho
  exact ⟨by rw [e2,← e3],cv L q (.inl rfl)⟩
 ·simp only [q] at ho
  have e3:x=X.N[i - k]:=by simpa using ho
  exact ⟨by rw [e2,← e3],cv L q (.inr rfl)⟩
theorem HR.cx (I:HR X z):HR (cxC X N sc C) z:=⟨I.md,I.fm,I.hd,I.bs,I.gh,I.rl,I.rn,I.rg,I.ob,I.fu,I.ff,I.br,I.os⟩
theorem HR.out (I:HR (cxC X N sc C) z):HR X z:=⟨I.md,I.fm,I.hd,I.bs,I.gh,I.rl,I.rn,I.rg,I.ob,I.fu,I.ff,I.br,I.os⟩
theorem v8 (h:Lc (cxC X N sc C) a):a=C∨Lc X a:=h.imp_right fun ⟨x,e⟩=>.inr ⟨x,ki e⟩
theorem rF {s':Shared} {m:Str→Option Value} (L:Lcn X sc k N) (I:Rep X z) (ow:z.t.ow = []) (g:Gr z.s s') (hC:z.h C=none) (hn:s'.heap.Ns C m):Rep (cxC X N sc C) ⟨z.ρ,z.G,⟨List.replicate k none ++ z.t.env,[],z.t.st⟩,List.replicate k none ++ z.σ,s'⟩:=by
 have H:=(I.toHR.grow (aE I.gh g)).cx (N:=N) (sc:=sc) (C:=C)
 have ck:∀ {c:Addr} {v:Option Value},z.s.heap.IsCell c v→s'.heap.IsCell c v:=fun ⟨o,e,d⟩=>⟨o,g.k _ o e,d⟩
 have fC:=I.fre hC
 refine ⟨⟨H.md,H.fm,H.hd,H.bs,H.gh,H.rl,H.rn,H.rg,H.ob,H.fu,H.ff,H.br,H.os⟩,⟨I.ok.un,L.kind,I.ok.gl,I.ok.bl,fun x y c h1 h2=>I.ok.ci x y c (ki h1) (ki h2),fun x hx=>?_⟩,⟨m,hn,fun i x v h1 h2 h3=>?_⟩,fun x c e=>let ⟨v,q⟩:=I.ce x c (ki e);⟨v,ck q⟩,fun a l=>?_,by show (List.replicate k none ++ z.t.env).length=(List.replicate k none ++ z.σ).length;rw [List.length_append,List.length_append,I.el];simp,by show (List.replicate k none ++ z.σ).length=N.length;rw [List.length_append,List.length_replicate,L.len,I.sl],fun i d _ e=>?_,(fun i m=>nomatch m),(fun i j a m=>nomatch m)⟩
 ·have hx':(relabel sc X.env).names.lookup x=some .cell∨(relabel sc X.env).names.lookup x=some .free:=hx
  have hm:(x,NameKind.free)∈sc.names:=by
   rcases hx' with q | q
   ·exact cv L q (.inl rfl)
   ·exact cv L q (.inr rfl)
  obtain ⟨c,hc⟩:=L.cells I.ok _ hm rfl
  exact cB (gb hm rfl hc)
 ·have hki:k≤i:=by
   by_cases q:i<k
   ·rw [List.getElem?_append_left (by simpa using q),List.getElem?_replicate,if_pos q] at h2
    cases h2
   ·omega
  rw [List.getElem?_append_right (by simpa using hki),List.length_replicate] at h2
  obtain ⟨hx,hm⟩:=pn L h1 hki h3
  have hkx:=L.fr _ hm rfl
  have hvis:Vis X.env.scope x:=by
   rcases hkx with q | q
   ·exact .inr (.inl q)
   ·exact .inr (.inr q)
  obtain ⟨m0,_,hl⟩:=I.lo
  rcases hl (i - k) x v hx h2 hvis with ⟨q,_⟩ | ⟨_,c,hc,hcell⟩
  ·rcases hkx with z | z
   ·rw [show X.env.kindOf x=some .cell from z] at q;cases q
   ·rw [show X.env.kindOf x=some .free from z] at q;cases q
  ·obtain ⟨c',hc'⟩:=cB (gb hm rfl hc)
   have e:=ki hc'
   rw [hc] at e;cases e
   refine .inr ⟨?_,c,hc',ck hcell⟩
   have v':(relabel sc X.env).names.lookup x=some .local∨(relabel sc X.env).names.lookup x=some .cell∨(relabel sc X.env).names.lookup x=some .free:=h3
   rcases v' with z | z | z
   ·exfalso
    have hlt:i<N.length:=(List.getElem?_eq_some_iff.mp h1).1
    have hl':=L.len
    have h2':i - k<X.N.length:=by omega
    have hz:((N.drop k).zip X.N)[i - k]? = some (x,X.N[i - k]):=by
     rw [List.getElem?_zip_eq_some]
     exact ⟨by rw [List.getElem?_drop,show k+(i - k)=i by omega];exact h1,List.getElem?_eq_getElem h2'⟩
    have ho:=List.all_eq_true.mp L.old _ (List.mem_of_getElem? hz)
    unfold i6 at ho
    simp only [z] at ho
    cases ho
   ·exact .inl z
   ·exact .inr z
 ·rcases v8 l with rfl | l
  ·exact ⟨fC.1.1,fC.1.2.1⟩
  ·exact I.fl a l
 ·have hki:k≤i:=by
   by_cases q:i<k
   ·have e:(List.replicate k none ++ z.t.env)[i]? = some (some d):=e
    rw [List.getElem?_append_left (by simpa using q),List.getElem?_replicate,if_pos q] at e
    cases e
   ·omega
  have e:(List.replicate k none ++ z.t.env)[i]? = some (some d):=e
  rw [List.getElem?_append_right (by simpa using hki),List.length_replicate] at e
  obtain ⟨u,e1,r⟩:=I.en (i - k) d (by rw [ow];exact nofun) e
  exact ⟨u,by show (List.replicate k none ++ z.σ)[i]? = _;rw [List.getElem?_append_right (by simpa using hki),List.length_replicate];exact e1,r⟩
theorem xn {zr:Z} (I:Rep X z) (Ir:Rep X zr) (er:zr.t.env=z.t.env∧zr.σ=z.σ∧zr.t.ow = []) (S:Stp X.fr (Own z) z z') (H:HR X z') (pr:zr.ρ <+: z'.ρ) (gg:Sub zr.G z'.G):Rep X { z' with t:=⟨z.t.env,[],z'.t.st⟩,σ:=z.σ }:=by
 have sl:∀ b o,z.h b=some o→¬ Mu z.ρ b→¬ Own z b→∃ sl,z'.s.heap.get? b=some { o with slots:=sl }:=fun b o e n w=>by
  by_cases f:b∈frs X.fr
  ·exact S.sl b o e n w f
  ·exact ⟨o.slots,S.sm b o e n w f⟩
 have nO:∀ {a},Lc X a→¬ Own z a:=fun l w=>(I.oth w).1.2.2.2 l
 have ck:∀ x c v,X.env.cells.lookup x=some c→z.s.heap.IsCell c v→z'.s.heap.IsCell c v:=fun x c v e ⟨o,q,d⟩=>by
  have l:Lc X c:=.inr ⟨x,e⟩
  obtain ⟨s,q2⟩:=sl c o q (I.fl c l).2 (nO l)
  exact ⟨_,q2,d⟩
 refine ⟨⟨H.md,H.fm,H.hd,H.bs,H.gh,H.rl,H.rn,H.rg,H.ob,H.fu,H.ff,H.br,H.os⟩,I.ok,?_,fun x c e=>let ⟨v,q⟩:=I.ce x c e;⟨v,ck x c v e q⟩,fun a l=>⟨?_,fun m=>(S.rn a m).elim (I.fl a l).2 fun w=>?_⟩,I.el,I.sl,fun i d _ e=>?_,(fun i m=>nomatch m),(fun i j a m=>nomatch m)⟩
 ·obtain ⟨m,⟨oL,es,ep,q,r⟩,hl⟩:=I.lo
  have l:Lc X X.env.locals:=.inl rfl
  obtain ⟨s,q2⟩:=sl _ _ q (I.fl _ l).2 (nO l)
  exact ⟨m,⟨_,es,ep,q2,r⟩,fun j x w e1 e2 e3=>dj (fun c v e q=>ck x c v e q) (hl j x w e1 e2 e3)⟩
 ·cases q:z'.G a with
  | none=>rfl
  | some o=>
    obtain ⟨o1,e1⟩:=I.lth l
    rcases S.gn a o q with w | w | w
    ·rw [(I.fl a l).1] at w;cases w
    ·rw [w] at e1;cases e1
    ·exact absurd w (nO l)
 ·obtain ⟨o1,e1⟩:=I.lth l
  rw [w] at e1;cases e1
 ·obtain ⟨u,e1,r⟩:=Ir.en i d (by rw [er.2.2];exact nofun) (by rw [er.1];exact e)
  exact ⟨u,er.2.1 ▸ e1,r.mono pr gg⟩
def LTs (Y:Cx) (ifs:List Expr) (c:E):Prop:=Jg Y (forIn ifs true fun c r=>if r=true then do let ok ← isTrue c Y.env (eval c Y.env);pure (ForInStep.yield ok) else pure (ForInStep.yield r)) (fun t=>(Y.ev true c t).bind toB) RT
theorem uS:LTs X [] (.c (.bl true)):=fun z I nb=>wpAny_tests_nil ⟨z,true,rfl,rfl,.refl,I,rfl⟩
theorem uT (h:LT X e c):LTs X [e] c:=fun z I nb=>wpAny_tests_one (h z I nb)
def lcF (X:Cx) (t:List Nat) (one:Bool) (elt cond:E) (d:D) (s':Sta):Out (Option D):=match aK t one d s'.env with
 | some env=>(noX (X.ev true cond ⟨env,[],s'.st⟩)).bind fun b s2=>(match b with
   | .bl true=>(noX (X.ev false elt s2)).bind fun e s3=>.ok (some e) ⟨s3.env,[],s3.st⟩
   | .bl false=>.ok none ⟨s2.env,[],s2.st⟩
   | _=>.bad)
 | none=>.bad
theorem Ee.nil (x:Ee X z z') (h:z.t.ow = []):z'.t.ow = []∧Stp X.fr (fun _=>False) z z':=⟨List.eq_nil_iff_forall_not_mem.mpr (fun i m=>by have:=x.ow i m;rw [h] at this;exact nomatch this),x.st.mono fun a ⟨i,m,_⟩=>by rw [h] at m;exact nomatch m⟩
theorem oN {t:Sta} (h:t.ow = []):(⟨t.env,[],t.st⟩:Sta)=t:=by cases t;cases h;rfl
end
section
variable {X:Cx} {sc:Scope} {N:List Str} {z z' z0 z1:Z}
structure LcP (X:Cx) (N:List Str) (ee tg iter:Expr) (ifs:List Expr) (sc:Scope) (t:List Nat) (one:Bool) (it elt cond:E):Prop where
 hc:X.calm=true
 L:Lcn X sc t.length N
 hi:LI X tg iter it
 hg:∀ C,LG (cxC X N sc C) tg t one
 hl:∀ i∈t,∀ x,N[i]? = some x→(relabel sc X.env).names.lookup x=some .local
 ht:∀ C,LTs (cxC X N sc C) ifs cond
 he:∀ C,LE (cxC X N sc C) ee elt
 hs:∀ x,foldedSetIterable iter X.env x=pure x
theorem rE {ee tg iter:Expr} {ifs:List Expr} {t:List Nat} {one:Bool} {it elt cond:E} {pos p:Pos} {use:Option (Value→Sem Unit)} {Q:Value→Shared→Prop} {E:Value→Shared→Prop} {o:Out D} (P:LcP X N ee tg iter ifs sc t one it elt cond) (I:Rep X z) (e0:o=X.ev false (.lc t one it elt cond) z.t) (nb:o≠.bad) (hE:∀ u s',Px X z o u s'→E u s')
 (fin:∀ zf d D C m,Ee X z zf→Rep X zf→o = .ok d zf.t→FV X z zf d (.ref D)→Nob X z zf C→(∃ oC,zf.h C=some oC)→zf.s.heap.Ns C m→C≠D→compPost X.M X.A E use Q (.ref D) C (.ok .next) zf.s) :
 wpAny X.M X.A (comprehension (.ListComp ee [⟨tg,iter,ifs,0⟩] sc pos) sc X.env p (newList []) false (eval iter X.env) use) Q E z.s:=by
 have e0:o=(X.ev false it z.t).bind fun x s=>(match x with
  | .lst ds=>(aQ (lcF X t one elt cond) ds [] ⟨List.replicate t.length none ++ s.env,[],s.st⟩).bind fun d s'=>.ok d ⟨s.env,[],s'.st⟩
  | _=>.bad):=e0
 have nb0:X.ev false it z.t≠.bad:=fun q=>nb (by rw [e0,q];rfl)
 refine wpAny_comprehension_free rfl P.hs (lZ (P.L.cells I.ok)) P.L.kind P.L.names (wpAny_mono (P.hi z I nb0) (fun v s1 h1=>wpAny_mono h1 (fun itv s2 h2=>?_) fun _ _ w=>w.elim) fun u s' h=>hE u s' (by rw [e0];exact h.map))
 obtain ⟨z1,ds,a,fp,wr,St,q1,q2,x1,I1,q3,T,st1,f1⟩:=h2
 subst q1 q3
 rw [q2] at e0
 have e0:o=(aQ (lcF X t one elt cond) ds [] ⟨List.replicate t.length none ++ z1.t.env,[],z1.t.st⟩).bind fun d s'=>.ok d ⟨z1.t.env,[],s'.st⟩:=e0
 refine wpAny_newObj_type (wpAny_newFunctionEnv P.L.nocell (by intro y hy;simp at hy) (fun h1 hns hsb=>?_) P.L.kind)
 dsimp only at hns hsb ⊢
 generalize hD:z1.s.heap.objs.size=D at hns hsb ⊢
 have nD:z1.h D=none:=hD ▸ aH z1
 generalize hG:z1.s.heap.push { cls:=.type "list",dict:=none,data:=.seq ([]:List Value).toArray }=G1 at hns hsb ⊢
 have hC0:G1.objs.size=D+1:=by rw [← hG,Heap.size_push,hD]
 generalize hC:G1.objs.size=C at hns hsb ⊢ hC0
 have CD:C≠D:=by rw [hC0];exact Nat.succ_ne_self _
 have nC:z1.h C=none:=Heap.get?_none_of_le (by rw [hC0,hD];exact Nat.le_succ _)
 have up:∀ b o,G1.get? b=some o→h1.get? b=some o:=fun b o e=>hsb.extBut b o (hC ▸ Nat.ne_of_lt (Heap.lt_size e)) (Heap.get?_push_of_some _ e)
 have kp:∀ b o,z1.s.heap.get? b=some o→h1.get? b=some o:=fun b o e=>up b o (hG ▸ Heap.get?_push_of_some _ e)
 have gr:Gr z1.s { z1.s with heap:=h1,toks:=z1.s.toks+([]:List (Str×Value)).length }:=.hp kp
 have hDo:h1.get? D=some { cls:=.type "list",data:=.seq ([]:List Value).toArray }:=up _ _ (hG ▸ hD ▸ Heap.get?_push_size _ rfl)
 obtain ⟨Ir,xr⟩:=I1.rel fun _=>false
 have owr:(z1.rel fun _=>false).t.ow = []:=List.filter_eq_nil_iff.mpr fun _ _=>by simp
 have I2:=rF (k:=t.length) P.L Ir owr (s':={ z1.s with heap:=h1,toks:=z1.s.toks+([]:List (Str×Value)).length }) gr nC hns
 generalize hz2:(⟨(z1.rel fun _=>false).ρ,(z1.rel fun _=>false).G,⟨List.replicate t.length none ++ (z1.rel fun _=>false).t.env,[],(z1.rel fun _=>false).t.st⟩,List.replicate t.length none ++ (z1.rel fun _=>false).σ,{ z1.s with heap:=h1,toks:=z1.s.toks+([]:List (Str×Value)).length }⟩:Z)=z2 at I2
 have xa:=x1.trans xr
 have fD:=Ir.fre (a:=D) nD
 have fC:=Ir.fre (a:=C) nC
 have zD:z.h D=none:=x1.st.no nD
 have zC:z.h C=none:=x1.st.no nC
 have S2:Stp X.fr (Own z) z z2:=by
  subst hz2
  exact ⟨xa.st.pr,xa.st.gg,xa.st.gn,xa.st.rn,fun b o e=>let ⟨o',e'⟩:=xa.st.th b o e;⟨o',kp b o' e'⟩,fun b o e n w f=>kp b o (xa.st.sm b o e n w f),fun b o e n w f=>let ⟨sl,e'⟩:=xa.st.sl b o e n w f;⟨sl,kp b _ e'⟩⟩
 have nLD:¬ Lc X D:=fD.1.2.2.2
 have nLC:¬ Lc X C:=fC.1.2.2.2
 have nob2:∀ {b},z.h b=none→(z1.rel fun _=>false).G b=none→¬ Mu z1.ρ b→b ∉ frs X.fr→¬ Lc X b→b≠C→Nob (cxC X N sc C) z z2 b:=fun h0 h1 h2 h3 h4 h5=>by
  subst hz2
  exact ⟨h0,⟨h1,h2,h3,fun l=>(v8 l).elim h5 h4⟩,fun ⟨i,m,_⟩=>nomatch m⟩
 have nobD:Nob (cxC X N sc C) z z2 D:=nob2 zD fD.1.1 fD.1.2.1 fD.1.2.2.1 nLD (Ne.symm CD)
 have fp1:∀ b∈fp,∃ o,z1.h b=some o:=fun b hb=>(f1 b hb).elim (·.2) fun ⟨_,o,e⟩=>⟨o,I1.gh b o e⟩
 have fpn:∀ b∈fp,b≠D∧b≠C:=fun b hb=>by
  obtain ⟨o,e⟩:=fp1 b hb
  exact ⟨fun w=>(by rw [w,nD] at e;cases e),fun w=>(by rw [w,nC] at e;cases e)⟩
 have f2:Fp (cxC X N sc C) z z2 fp wr:=fun b hb=>by
  obtain ⟨o1,e1⟩:=fp1 b hb
  rcases f1 b hb with ⟨⟨n0,ff,no⟩,_⟩ | ⟨m,o,e⟩
  ·exact .inl ⟨nob2 n0 ((du fun ⟨i,m,_,e⟩=>no ⟨i,m,e⟩).trans ff.1) ff.2.1 ff.2.2.1 ff.2.2.2 (fpn b hb).2,o1,by subst hz2;exact kp b o1 e1⟩
  ·exact .inr ⟨m,o,by subst hz2;exact xr.st.gg b o e⟩
 have pr2:(z1.rel fun _=>false).ρ <+: z2.ρ:=by subst hz2;exact List.prefix_refl _
 have gg2:Sub (z1.rel fun _=>false).G z2.G:=by subst hz2;exact .refl _
 have ow2:z2.t.ow = []:=by subst hz2;rfl
 have s2e:z2.s={ z1.s with heap:=h1,toks:=z1.s.toks+([]:List (Str×Value)).length }:=by subst hz2;rfl
 have hD2:z2.h D=some { cls:=.type "list",data:=.seq ([]:List Value).toArray }:=by show z2.s.heap.get? D=_;rw [s2e];exact hDo
 have st2:St 0 z2.s.heap:=by rw [s2e];exact T.keep _ _ _ st1 fun b _ o e=>kp b o e
 have e2:o=(aQ (lcF X t one elt cond) ds [] z2.t).bind fun d s'=>.ok d ⟨z1.t.env,[],s'.st⟩:=by subst hz2;exact e0
 have uG:codeAny X.M X.A (.compLoop (.ListComp ee [⟨tg,iter,ifs,0⟩] sc pos) 0 (.ref a) (.ref D) (cxC X N sc C).env) (compPost X.M X.A E use Q (.ref D) C) z2.s:=by
  refine codeAny_loop rfl (fun n s'=>∃ i z' acc vs ob,z'.s=s'∧n=ds.length - i∧i≤ds.length∧Stp X.fr (Own z) z z'∧Rep (cxC X N sc C) z'∧z'.t.ow = []∧St i z'.s.heap∧Fp (cxC X N sc C) z z' fp wr∧(z1.rel fun _=>false).ρ <+: z'.ρ∧Sub (z1.rel fun _=>false).G z'.G∧Nob (cxC X N sc C) z z' D∧z'.h D=some ob∧LsO ob vs∧RDs X.W z'.ρ z'.G acc vs∧o=(aQ (lcF X t one elt cond) (ds.drop i) acc z'.t).bind fun d s'=>.ok d ⟨z1.t.env,[],s'.st⟩) (fun n s3 hI=>?_) (ds.length - 0) ⟨0,z2,[],[],_,rfl,rfl,Nat.zero_le _,S2,I2,ow2,st2,f2,pr2,gg2,nobD,hD2,⟨⟨_,rfl⟩,Nat.zero_le _⟩,rfl,by rw [List.drop_zero];exact e2⟩
  obtain ⟨i,z3,acc,vs,ob,e3,en,hi,S3,I3,ow3,st3,f3,p3,g3,nD3,hD3,lo3,ra3,q⟩:=hI
  subst e3
  show wpAny X.M X.A ((compTurn (.ListComp ee [⟨tg,iter,ifs,0⟩] sc pos) 0 (.ref a) (.ref D) (cxC X N sc C).env).onRaise (fun x=>do noteFrame x (cxC X N sc C).env;theTreesLotGoes x)) _ _ z3.s
  refine wpAny_noted ?_
  rw [compTurn_list]
  refine wpAny_bind (wpAny_standAt (wpAny_bind ?_))
  cases qd:ds[i]? with
  | none=>
    have hl:i=ds.length:=by rw [List.getElem?_eq_none_iff] at qd;omega
    subst hl
    refine wpAny_mono (T.done (I3.hd P.hc) st3) (fun r s4 ⟨er,os,k⟩=>?_) fun _ _ w=>w.elim
    subst er
    obtain ⟨I4,S4,g4,_⟩:=Rep.turn (X:=cxC X N sc C) S3 I3 (f3.wr T st3) k os
    rw [List.drop_length] at q
    have nDw:D ∉ wr:=fun m=>(fpn D (T.sub D m)).1 rfl
    have If:=xn I Ir ⟨x1.en,x1.sg,owr⟩ S4 I4.toHR.out p3 (g3.trans g4)
    obtain ⟨m,hn,_⟩:=I4.lo
    obtain ⟨n0,ff,no⟩:=nD3
    have GD:(z3.up s4).G D=none:=by show (match z3.h D with | none=>s4.heap.get? D | some _=>z3.G D)=none;rw [hD3];exact ff.1
    refine wpAny_pure (fin { z3.up s4 with t:=⟨z.t.env,[],z3.t.st⟩,σ:=z.σ } (.lst acc) D C m ⟨⟨S4.pr,S4.gg,S4.gn,S4.rn,S4.th,S4.sm,S4.sl⟩,rfl,rfl,fun i m=>nomatch m⟩ If (q.trans (by rw [x1.en];rfl)) ⟨D,.lst acc,rfl,zD,rfl,⟨ob,vs,rfl,k D ob nDw hD3,lo3,ra3.mono (List.prefix_refl _) g4⟩,⟨GD,ff.2.1,ff.2.2.1,nLD⟩,fun ⟨i,m,_⟩=>nomatch m⟩ ⟨zC,⟨(I4.fl C (.inl rfl)).1,(I4.fl C (.inl rfl)).2,fC.1.2.2.1,nLC⟩,fun ⟨i,m,_⟩=>nomatch m⟩ ?_ hn CD)
    obtain ⟨oC,_,_,eC,_⟩:=hn
    exact ⟨oC,eC⟩
  | some d=>
    have hil:i<ds.length:=(List.getElem?_eq_some_iff.mp qd).1
    rw [mY qd] at q
    have q:o=((lcF X t one elt cond d z3.t).bind fun o s'=>match o with
     | some e=>if acc.length<100000 then aQ (lcF X t one elt cond) (ds.drop (i+1)) (acc ++ [e]) s' else .bad
     | none=>aQ (lcF X t one elt cond) (ds.drop (i+1)) acc s').bind fun d s'=>.ok d ⟨z1.t.env,[],s'.st⟩:=q
    refine wpAny_mono (T.item (I3.hd P.hc) qd st3) (fun r s4 ⟨u,er,h4⟩=>?_) fun _ _ w=>w.elim
    subst er
    refine wpAny_bind (wpAny_mono h4 (fun _ s5 ⟨st5,os5,k5,rd5⟩=>?_) fun _ _ w=>w.elim)
    obtain ⟨I5,S5,g5,n5⟩:=Rep.turn (X:=cxC X N sc C) S3 I3 (f3.wr T st3) k5 os5
    have rd:=rd5 z3.ρ (z3.up s5).G (xr.st.pr.trans p3) ((xr.st.gg.trans g3).trans g5) fun a o e1 e2=>by rw [j7 e1];exact e2
    have f5:=f3.up I3 g5 k5 fun b m _=>T.ex _ _ st5 b m
    have nDw:D ∉ wr:=fun m=>(fpn D (T.sub D m)).1 rfl
    have nD5:Nob (cxC X N sc C) z (z3.up s5) D:=⟨nD3.1,⟨by show (match z3.h D with | none=>s5.heap.get? D | some _=>z3.G D)=none;rw [hD3];exact nD3.2.1.1,nD3.2.1.2⟩,nD3.2.2⟩
    have hD5:(z3.up s5).h D=some ob:=k5 D ob nDw hD3
    cases qb:aK t one d z3.t.env with
    | none=>rw [show lcF X t one elt cond d z3.t = .bad by unfold lcF;rw [qb]] at q;exact absurd q nb
    | some env=>
      rw [show lcF X t one elt cond d z3.t=(noX (X.ev true cond ⟨env,[],z3.t.st⟩)).bind fun b s2=>(match b with
       | .bl true=>(noX (X.ev false elt s2)).bind fun e s3=>.ok (some e) ⟨s3.env,[],s3.st⟩
       | .bl false=>.ok none ⟨s2.env,[],s2.st⟩
       | _=>.bad) by unfold lcF;rw [qb];all_goals rfl] at q
      refine wpAny_bind (P.hg C (z3.up s5) (z3.up s5) d u env _ _ .refl I5 rd qb fun z6 _ I6 eρ y6 et eσ ek=>?_)
      have k6:=ek P.hl
      have ow6:z6.t.ow = []:=by rw [et];show z3.t.ow.filter _ = [];rw [ow3];rfl
      have t6:z6.t=⟨env,[],z3.t.st⟩:=by rw [et];show (⟨env,z3.t.ow.filter _,z3.t.st⟩:Sta)=_;rw [ow3];rfl
      have S56:Stp X.fr (fun b=>b=C) (z3.up s5) z6:=⟨y6.st.pr,y6.st.gg,fun b o e=>(by
       rcases y6.st.gn b o e with w | w | w
       ·exact .inl w
       ·exact .inr (.inl w)
       ·rcases w with ⟨j,m,_⟩ | l
        ·have:j∈z3.t.ow:=m
         rw [ow3] at this;exact nomatch this
        ·rw [(I6.fl b l).1] at e;cases e),y6.st.rn,y6.st.th,fun b o e _ w _=>k6 b o e w,fun b o e _ w _=>⟨o.slots,k6 b o e w⟩⟩
      have S6:Stp X.fr (Own z) z z6:=S5.trans S56 fun b w=>.inr (by rw [w];exact zC)
      obtain ⟨nD6,hD6⟩:=nD5.go y6 hD5
      have f6:=f5.go y6
      have st6:St (i+1) z6.s.heap:=T.keep _ _ _ st5 (f5.keep y6 I5 I6)
      rw [← t6] at q
      have nb6:(X.ev true cond z6.t).bind toB≠.bad:=fun w=>nb (by
       rw [q]
       cases qc:X.ev true cond z6.t with
       | ok b s2=>
         rw [qc] at w
         cases b with
         | bl b=>cases w
         | _=>rfl
       | exc c l s2=>rfl
       | bad=>rfl)
      refine wpAny_bind (wpAny_mono (P.ht C z6 I6 nb6) (fun b s7 ⟨z7,tb,e7,q7,x7,I7,r7⟩=>?_) fun u s' ⟨z7,c,l,e7,q7,_⟩=>?_)
      rotate_left
      ·refine absurd ?_ nb
       rw [q]
       have q7:(X.ev true cond z6.t).bind toB = .exc c l z7.t:=q7
       cases qc:X.ev true cond z6.t with
       | ok b s2=>rw [qc] at q7;cases b <;> cases q7
       | exc c l s2=>rfl
       | bad=>rw [qc] at q7;cases q7
      subst e7
      obtain ⟨ow7,S67⟩:=x7.nil ow6
      have S7:Stp X.fr (Own z) z z7:=S6.trans S67 fun _ w=>w.elim
      obtain ⟨nD7,hD7⟩:=nD6.go x7.go hD6
      have f7:=f6.go x7.go
      have st7:St (i+1) z7.s.heap:=T.keep _ _ _ st6 (f6.keep x7.go I6 I7)
      have qc:X.ev true cond z6.t = .ok (.bl tb) z7.t:=by
       have q7:(X.ev true cond z6.t).bind toB = .ok tb z7.t:=q7
       cases qc:X.ev true cond z6.t with
       | ok b s2=>rw [qc] at q7;cases b <;> first | (cases q7;rfl) | cases q7
       | exc c l s2=>rw [qc] at q7;cases q7
       | bad=>rw [qc] at q7;cases q7
      rw [qc] at q
      have p7:(z1.rel fun _=>false).ρ <+: z7.ρ:=p3.trans ((eρ ▸ List.prefix_refl _:z3.ρ <+: z6.ρ).trans x7.st.pr)
      have g37:Sub z3.G z7.G:=(g5.trans y6.st.gg).trans x7.st.gg
      cases (show b=tb from r7)
      cases b with
      | false=>
        have q:o=(aQ (lcF X t one elt cond) (ds.drop (i+1)) acc ⟨z7.t.env,[],z7.t.st⟩).bind fun d s'=>.ok d ⟨z1.t.env,[],s'.st⟩:=q
        rw [oN ow7] at q
        exact wpAny_pure ⟨rfl,ds.length - (i+1),by omega,i+1,z7,acc,vs,ob,rfl,rfl,hil,S7,I7,ow7,st7,f7,p7,g3.trans g37,nD7,hD7,lo3,ra3.mono ((eρ ▸ List.prefix_refl _:z3.ρ <+: z6.ρ).trans x7.st.pr) g37,q⟩
      | true=>
        have q:o=(((noX (X.ev false elt z7.t)).bind fun e s3=>Out.ok (some e) ⟨s3.env,[],s3.st⟩).bind fun o s'=>match o with
         | some e=>if acc.length<100000 then aQ (lcF X t one elt cond) (ds.drop (i+1)) (acc ++ [e]) s' else .bad
         | none=>aQ (lcF X t one elt cond) (ds.drop (i+1)) acc s').bind fun d s'=>.ok d ⟨z1.t.env,[],s'.st⟩:=q
        have nb7:X.ev false elt z7.t≠.bad:=fun w=>nb (by rw [q,w];rfl)
        refine wpAny_bind (wpAny_bind (wpAny_mono (P.he C false z7 I7 nb7) (fun v s8 ⟨z8,de,e8,q8,x8,I8,r8⟩=>?_) fun u s' ⟨z8,c,l,e8,q8,_⟩=>absurd (by rw [q,show X.ev false elt z7.t=_ from q8];rfl) nb))
        subst e8
        rw [show X.ev false elt z7.t=_ from q8] at q
        have q:o=(if acc.length<100000 then aQ (lcF X t one elt cond) (ds.drop (i+1)) (acc ++ [de]) ⟨z8.t.env,[],z8.t.st⟩ else .bad).bind fun d s'=>.ok d ⟨z1.t.env,[],s'.st⟩:=q
        by_cases ca:acc.length<100000
        ·rw [if_pos ca] at q
         obtain ⟨ow8,S78⟩:=x8.nil ow7
         rw [oN ow8] at q
         have S8:Stp X.fr (Own z) z z8:=S7.trans S78 fun _ w=>w.elim
         obtain ⟨nD8,hD8⟩:=nD7.go x8.go hD7
         have f8:=f7.go x8.go
         have st8:St (i+1) z8.s.heap:=T.keep _ _ _ st7 (f7.keep x8.go I7 I8)
         obtain ⟨⟨n,rfl⟩,hz⟩:=lo3
         have ra8:=ra3.mono ((eρ ▸ List.prefix_refl _:z3.ρ <+: z6.ρ).trans (x7.st.pr.trans x8.st.pr)) (g37.trans x8.st.gg)
         have hl:vs.length<100000:=by rw [← ra8.len];exact ca
         refine wpAny_bind (call_meets PySem.F.slot_list_append ⟨_,hD8,rfl⟩ PySem.F.entry_list_append (PySem.F.args_list_append_2 _ _) (PySem.list_append D vs.toArray n v (by rw [List.size_toArray];exact Nat.le_of_lt (Nat.lt_of_lt_of_le hl (big (Nat.le_refl _))))) ⟨hD8,?_⟩)
         obtain ⟨⟨o1,u1,u3⟩,u2⟩:=fV (f:=(·.push v)) (ws:=vs ++ [v]) hD8 (by simp) (by rw [List.length_append];exact big (by simp;omega))
         have k9:∀ b o,b ∉ [D]→z8.h b=some o→(z8.s.heap.update D (Obj.mapSeq (·.push v))).get? b=some o:=fun b o m e=>(u2 b fun w=>m (by rw [w];exact List.mem_singleton.mpr rfl)).trans e
         obtain ⟨I9,S9,g9,_⟩:=Rep.turn (X:=cxC X N sc C) (s':={ z8.s with heap:=z8.s.heap.update D (Obj.mapSeq (·.push v)) }) S8 I8 (fun b hb=>by rw [List.mem_singleton.mp hb];exact ⟨nD8,_,hD8⟩) k9 ⟨rfl,rfl⟩
         refine wpAny_pure (wpAny_pure ⟨rfl,ds.length - (i+1),by omega,i+1,_,acc ++ [de],vs ++ [v],o1,rfl,rfl,hil,S9,I9,ow8,T.keep _ _ _ st8 fun b hb o e=>k9 b o (fun m=>(fpn b hb).1 (List.mem_singleton.mp m)) e,f8.up I8 g9 k9 fun b m hb=>absurd (List.mem_singleton.mp m) (fpn b hb).1,p7.trans x8.st.pr,((g3.trans g37).trans x8.st.gg).trans g9,⟨nD8.1,⟨?_,nD8.2.1.2⟩,nD8.2.2⟩,u1,u3,(ra8.mono (List.prefix_refl _) g9).app (.cons (r8.rd.mono (List.prefix_refl _) g9) rfl),q⟩)
         show (match z8.h D with | none=>_ | some _=>z8.G D)=none
         rw [hD8];exact nD8.2.1.1
        ·rw [if_neg ca] at q;exact absurd q nb
 rw [← s2e]
 exact codeAny_compStart_list uG (T.self (I1.hd P.hc) st2 uG)
theorem rM {ee tg iter:Expr} {ifs:List Expr} {t:List Nat} {one:Bool} {it elt cond:E} {pos:Pos} (P:LcP X N ee tg iter ifs sc t one it elt cond):LF X (.ListComp ee [⟨tg,iter,ifs,0⟩] sc pos) (.lc t one it elt cond):=fun z I nb=>by
 rw [eval_ListComp]
 refine rE P I rfl nb (fun _ _ h=>h) fun zf d D C m x If e fv nC exC hn CD=>⟨m,hn,fun h' sb=>?_⟩
 have k:∀ b o,b ∉ [C]→zf.h b=some o→h'.get? b=some o:=fun b o m e=>(sb.2 b fun w=>m (by rw [w];exact List.mem_singleton.mpr rfl)).trans e
 obtain ⟨I4,S4,g4,_⟩:=Rep.turn (s':={ zf.s with heap:=h' }) x.st If (fun b hb=>by rw [List.mem_singleton.mp hb];exact ⟨nC,exC⟩) k ⟨rfl,rfl⟩
 obtain ⟨a,ob,ea,n,t1,r,f,no⟩:=fv
 have ea:a=D:=(Value.ref.inj ea).symm
 subst ea
 obtain ⟨oa,ha⟩:=r.th.1
 refine ⟨zf.up { zf.s with heap:=h' },d,rfl,e,⟨S4,x.sg,x.en,x.ow⟩,I4,a,ob,rfl,n,t1,r.mono (List.prefix_refl _) g4 fun b hb o e=>k b o (fun m=>?_) e,⟨?_,f.2⟩,no⟩
 ·have:b=a:=by rcases hb with w | w <;> exact w
  exact CD ((List.mem_singleton.mp m).symm.trans this)
 ·show (match zf.h a with | none=>h'.get? a | some _=>zf.G a)=none
  rw [ha];exact f.1
theorem zV {ee tg iter:Expr} {ifs:List Expr} {t:List Nat} {one:Bool} {it elt cond:E} {pos:Pos} (P:LcP X N ee tg iter ifs sc t one it elt cond):LE X (.ListComp ee [⟨tg,iter,ifs,0⟩] sc pos) (.lc t one it elt cond):=(rM P).le fun _=>rfl
theorem rU {ee tg iter:Expr} {ifs:List Expr} {t:List Nat} {one:Bool} {it elt cond:E} {pos pos' spos:Pos} {i:Nat} {x:Str} (hN:X.N.Nodup) (hi:X.N[i]? = some x) (hx:Loc X.env.scope x) (P:LcP X N ee tg iter ifs sc t one it elt cond):LS X (.Assign [.Name x pos'] (.ListComp ee [⟨tg,iter,ifs,0⟩] sc pos) spos) (.set i (.lc t one it elt cond)):=fun z I nb=>by
 obtain ⟨b,sw⟩:∃ b,swapsWith (.ListComp ee [⟨tg,iter,ifs,0⟩] sc pos) (some (.Name x pos')) spos.line X.env=pure b:=⟨_,rfl⟩
 cases b with
 | false=>exact mz hN hi hx (zV P) (fun _=>rM P) sw z I nb
 | true=>
   have nb1:X.ev false (.lc t one it elt cond) z.t≠.bad:=fun q=>nb (show Out.go (X.ev false (.lc t one it elt cond) z.t) _=_ by rw [q];rfl)
   rw [exec_Assign_Name_used _ _ _ _ sw]
   refine wpAny_bind (wpAny_standAt (wpAny_bind ?_))
   show wpAny _ X.A (do let _ ← comprehension (.ListComp ee [⟨tg,iter,ifs,0⟩] sc pos) sc X.env _ (newList []) false (eval iter X.env) (some (assign (.Name x pos') X.env))) _ _ z.s
   refine wpAny_bind (thn (rE (use:=some (assign (.Name x pos') X.env)) (Q:=fun _ s'=>Ps X z (X.ex (.set i (.lc t one it elt cond)) z.t) .next s') P I rfl nb1 (fun u s' h=>PxS.of .refl h) fun zf d D C m x0 If e fv nC exC hn CD=>?_) fun _ s' hq=>wpAny_pure (wpAny_pure hq))
   show wpAny _ X.A (assign (.Name x pos') X.env (.ref D)) _ _ _
   refine wpAny_assign_Name (cn (own:=true) x0.go If hN hi hx fv fun s' a sb la I' g'=>?_)
   have Ca:C≠a:=fun w=>nC.2.1.2.2.2 (w ▸ la.1)
   refine ⟨m,hn.sameBut sb Ca,fun h' sb'=>?_⟩
   have k:∀ b o,b ∉ [C]→s'.heap.get? b=some o→h'.get? b=some o:=fun b o m e=>(sb'.2 b fun w=>m (by rw [w];exact List.mem_singleton.mpr rfl)).trans e
   obtain ⟨oC,eC⟩:=exC
   obtain ⟨I4,S4,g4,_⟩:=Rep.turn (z:={ zf with t:=stV zf.t i d true,σ:=zf.σ.set i (some (.ref D)),s:=s' }) (s':={ s' with heap:=h' }) g'.st I' (fun b hb=>by
    rw [List.mem_singleton.mp hb]
    refine ⟨⟨nC.1,nC.2.1,fun ⟨j,mj,ej⟩=>?_⟩,oC,(sb.2 C Ca).trans eC⟩
    by_cases q:j=i
    ·subst q
     have hl:j<zf.σ.length:=by rw [If.sl];exact (List.getElem?_eq_some_iff.mp hi).1
     have ej:(zf.σ.set j (some (.ref D)))[j]? = some (some (.ref C)):=ej
     rw [List.getElem?_set_self hl] at ej
     cases ej;exact CD rfl
    ·have ej:(zf.σ.set i (some (.ref D)))[j]? = some (some (.ref C)):=ej
     rw [List.getElem?_set_ne (Ne.symm q)] at ej
     have mj:j∈i :: zf.t.ow.filter (· != i):=mj
     rcases List.mem_cons.mp mj with w | w
     ·exact q w
     ·exact nC.2.2 ⟨j,(List.mem_filter.mp w).1,ej⟩) k ⟨rfl,rfl⟩
   refine nxt (z1:=Z.up { zf with t:=stV zf.t i d true,σ:=zf.σ.set i (some (.ref D)),s:=s' } { s' with heap:=h' }) ⟨S4,g'.ow⟩ I4 ?_
   show Out.go (X.ev false (.lc t one it elt cond) z.t) _=_
   rw [e]
   show ao.nx (mN zf.t i d true)=_
   have ld:w8 d=true:=by
    obtain ⟨_,_,_,_,t,_⟩:=fv
    cases d <;> first | rfl | cases t
   unfold mN
   rw [ld];rfl
end
theorem qV {kp:List Nat} {env:List (Option D)} {i:Nat} {d:D}:(qU kp env)[i]? = some (some d)↔i ∉ kp∧env[i]? = some (some d):=by
 unfold qU
 rw [List.getElem?_mapIdx]
 by_cases c:i∈kp
 ·simp [c]
 ·simp [c]
theorem ju {kp:List Nat} {s:Sta} {i:Nat}:i∈(hid kp s).ow↔i∈s.ow∧i ∉ kp:=by
 unfold hid
 simp
section
variable {X:Cx} {z z':Z} {kp:List Nat}
theorem Rep.hid (I:Rep X z):Rep X { z with t:=L2.Ev.hid kp z.t }:=by
 refine ⟨⟨I.md,I.fm,I.hd,I.bs,I.gh,I.rl,I.rn,I.rg,I.ob,I.fu,I.ff,I.br,I.os⟩,I.ok,I.lo,I.ce,I.fl,?_,I.sl,fun i d n e=>?_,fun i m=>?_,fun i j a m1 m2 e1 e2=>I.od i j a (ju.mp m1).1 (ju.mp m2).1 e1 e2⟩
 ·show (qU kp z.t.env).length=_
  unfold qU
  rw [List.length_mapIdx];exact I.el
 ·obtain ⟨h1,h2⟩:=qV.mp e
  exact I.en i d (fun m=>n (ju.mpr ⟨m,h1⟩)) h2
 ·obtain ⟨m1,m2⟩:=ju.mp m
  obtain ⟨d,a,o,h1,h2,h3,h4,h5⟩:=I.eo i m1
  exact ⟨d,a,o,qV.mpr ⟨m2,h1⟩,h2,h3,h4,h5⟩
end
section
variable {X:Cx} {z z0:Z}
theorem Rep.give {a:Addr} {o:O} (I:Rep X z) (f:Fre X z a) (no:¬ Own z a) (r:ObR X.W z.ρ z.G z.h (a,a) o):Rep X { z with ρ:=z.ρ ++ [(a,a)],t:=⟨z.t.env,z.t.ow,z.t.st ++ [o]⟩ }:=by
 have pre:z.ρ <+: z.ρ ++ [(a,a)]:=List.prefix_append _ _
 have eqa:∀ {b:Addr},(b=((a,a):Addr×Addr).1∨b=((a,a):Addr×Addr).2)→b=a:=fun h=>h.elim id id
 have old:∀ {i:Nat} {q:Addr×Addr} {b:Addr},z.ρ[i]? = some q→(b=q.1∨b=q.2)→b≠a:=fun h1 h2 e=>f.2.1 ⟨_,List.mem_of_getElem? h1,e ▸ h2⟩
 have nm:∀ {b:Addr},b≠a→¬ Mu z.ρ b→¬ Mu (z.ρ ++ [(a,a)]) b:=fun n m w=>(dZ.mp w).elim m fun w=>n (eqa w)
 refine ⟨⟨I.md,I.fm,I.hd,I.bs,I.gh,by simp [I.rl],fun i j q1 q2 b h1 h2 h3 h4=>?_,fun b m=>?_,fun n o' q h1 h2=>?_,I.fu,fun b m=>⟨(I.ff b m).1,nm (fun w=>f.2.2.1 (w ▸ m)) (I.ff b m).2⟩,I.br,I.os⟩,I.ok,I.lo,I.ce,fun b l=>⟨(I.fl b l).1,nm (fun w=>f.2.2.2 (w ▸ l)) (I.fl b l).2⟩,I.el,I.sl,fun i d n e=>let ⟨u,q,r⟩:=I.en i d n e;⟨u,q,r.mono pre (.refl _)⟩,fun i m=>?_,I.od⟩
 ·rcases aO h1 with a1 | ⟨a1,b1⟩
  ·rcases aO h2 with a2 | ⟨a2,b2⟩
   ·exact I.rn i j q1 q2 b a1 a2 h3 h4
   ·subst b2;exact absurd (eqa h4) (old a1 h3)
  ·subst b1
   rcases aO h2 with a2 | ⟨a2,b2⟩
   ·exact absurd (eqa h3) (old a2 h4)
   ·rw [a1,a2]
 ·rcases dZ.mp m with m | m
  ·exact I.rg b m
  ·rw [eqa m];exact f.1
 ·rcases aO h2 with a2 | ⟨a2,b2⟩
  ·rcases aO h1 with a1 | ⟨a1,_⟩
   ·exact (I.ob n o' q a1 a2).mono pre (.refl _) fun _ _ _ e=>e
   ·have:=(List.getElem?_eq_some_iff.mp a2).1;rw [I.rl] at this;omega
  ·subst b2
   rcases aO h1 with a1 | ⟨_,b1⟩
   ·have:=(List.getElem?_eq_some_iff.mp a1).1;rw [← I.rl] at this;omega
   ·subst b1;exact r.mono pre (.refl _) fun _ _ _ e=>e
 ·obtain ⟨d,b,o,h1,h2,h3,r,g⟩:=I.eo i m
  exact ⟨d,b,o,h1,h2,h3,r.mono pre (.refl _) fun _ _ _ e=>e,g.1,nm (fun w=>no ⟨i,m,w ▸ h2⟩) g.2.1,g.2.2⟩
theorem xE {e:Expr} {c:E} (h:LF X e c):LE X e (.sto c):=fun br z I nb=>by
 have q0:X.ev br (.sto c) z.t=(X.ev false c z.t).bind Az:=rfl
 rw [q0] at nb ⊢
 refine wpAny_mono (h z I fun q=>nb (by rw [q];rfl)) (fun u s' ⟨z',d,e,q,y,I1,fv⟩=>?_) fun _ _ w=>w.map
 rw [q] at nb ⊢
 obtain ⟨a,o,h1,h2,h3,h4,h5,h6⟩:=fv
 cases d with
 | lst l=>
   cases h3
   refine ⟨{ z' with ρ:=z'.ρ ++ [(a,a)],t:=⟨z'.t.env,z'.t.ow,z'.t.st ++ [.lst l]⟩ },.ref z'.t.st.length,e,rfl,⟨⟨y.st.pr.trans (List.prefix_append _ _),y.st.gg,y.st.gn,fun b m=>?_,y.st.th,y.st.sm,y.st.sl⟩,y.sg,y.en,y.ow⟩,I1.give h5 h6 h4,.of ?_⟩
   ·rcases dZ.mp m with m | m
    ·exact y.st.rn b m
    ·exact .inr ((show b=a from m.elim id id) ▸ h2)
   ·exact ⟨_,mF I1.toHR,h1⟩
 | _=>exact absurd rfl nb
theorem Rep.frz {P:Addr→Prop} [DecidablePred P] (I:Rep X z) (h:∀ a,P a→(Fre X z a∧¬ Own z a)∧∃ o,z.h a=some o):Rep X { z with G:=fun a=>if P a then z.h a else z.G a }∧Sub z.G (fun a=>if P a then z.h a else z.G a):=by
 have no:∀ {a o},z.G a=some o→¬ P a:=fun e p=>by rw [(h _ p).1.1.1] at e;cases e
 have sb:Sub z.G (fun a=>if P a then z.h a else z.G a):=fun a o e=>by show (if P a then z.h a else z.G a)=_;rw [if_neg (no e)];exact e
 have nn:∀ {a},¬ P a→z.G a=none→(if P a then z.h a else z.G a)=none:=fun n e=>by rw [if_neg n];exact e
 refine ⟨⟨⟨I.md,I.fm,I.hd,fun b o e=>sb b o (I.bs b o e),fun a o e=>?_,I.rl,I.rn,fun a m=>nn (fun p=>(h a p).1.1.2.1 m) (I.rg a m),fun n o p h1 h2=>(I.ob n o p h1 h2).mono (List.prefix_refl _) sb fun _ _ _ e=>e,I.fu,fun b m=>⟨nn (fun p=>(h b p).1.1.2.2.1 m) (I.ff b m).1,(I.ff b m).2⟩,I.br,I.os⟩,I.ok,I.lo,I.ce,fun a l=>⟨nn (fun p=>(h a p).1.1.2.2.2 l) (I.fl a l).1,(I.fl a l).2⟩,I.el,I.sl,fun i d n e=>let ⟨u,q,r⟩:=I.en i d n e;⟨u,q,r.mono (List.prefix_refl _) sb⟩,fun i m=>?_,I.od⟩,sb⟩
 ·have e:(if P a then z.h a else z.G a)=some o:=e
  by_cases p:P a
  ·rw [if_pos p] at e;exact e
  ·rw [if_neg p] at e;exact I.gh a o e
 ·obtain ⟨d,a,o,h1,h2,h3,r,f⟩:=I.eo i m
  exact ⟨d,a,o,h1,h2,h3,r.mono (List.prefix_refl _) sb fun _ _ _ e=>e,nn (fun p=>(h a p).1.2 ⟨i,m,h2⟩) f.1,f.2⟩
theorem qT {x:Str} {own:Bool} {R:Z→D→Value→Prop} (F:bJ X X.cal lv j f) (hr:bc lv X.A) (hg:Gl X x) (hm:X.mg x=some (.ref f)) (ha:LA X (ea :: er) es) (hd:(x == ("__debug__":Str))=false) (he:starEach (ea :: er) X.env=(false,eval ea X.env) :: starEach er X.env) (hpl:(backTo pos (starEach er X.env)).any (·.1)=false) (I:Rep X z) (nb:X.ev false (.fcall own j es) z.t≠.bad)
 (fin:∀ z1 z' d u d',Ee X z z1→Rep X z1→Stp X.fr NoW z1.bare z'→HR X z'→RD X.W z'.ρ z'.G d u→mc z'.t.st d=some d'→(own && !kE d)=false→X.ev false (.fcall own j es) z.t = .ok d' z1.t→Pe X z (X.ev false (.fcall own j es) z.t) R u z'.s):Wp X (eval (.Call (.Name x p) (ea :: er) [] pos) X.env) z (X.ev false (.fcall own j es) z.t) R:=
 wpAny_Call_Name_kw (bo I hg hm (PySem.W.callWith_K (h₀:=X.base) I.md.kin (let ⟨_,_,_,_,k⟩:=F;k) ((ha false pos).go .refl I rfl nb fun z1 l us y1 x1 I1 r1 e1=>⟨I1.toHR.kin,by
  obtain ⟨fd,ps,F,hb,kp⟩:=F
  unfold tW at e1
  by_cases nr:ay l=true
  ·rw [if_pos nr] at e1
   have nbc:X.cal j l []≠.bad:=fun q=>by rw [q] at e1;exact nb e1
   have rd:RDs X.W z1.bare.ρ z1.bare.G l us:=bb nr r1.rds
   have hl:us.length=ps.length:=rd.len ▸ F.len _ _ nbc
   have bd:=hb z1.s us I1.toHR.kin (by rw [List.append_nil];exact hl)
   rw [List.append_nil] at bd
   refine wpAny_call (codeAny_mono (F.run X.A X.fr z1.bare ⟨us,[]⟩ us l hr I1.toHR.bare bd rd nbc) fun q s' hq=>?_)
   cases q with
   | error e=>
     obtain ⟨z',c,l',rfl,er,S,H,a,T,cls,dx,rfl,xr',tr,⟨na,ga,ma⟩,nT,gT,mT⟩:=hq
     rw [show X.cal j l []=_ from er] at e1
     obtain ⟨If,xf⟩:=I1.hout S H
     by_cases n2:ay l'=true
     ·have e1:=e1.trans (if_pos n2)
      have nob:∀ {b:Addr},z1.h b=none→z'.G b=none→Nob X z1 { z1 with G:=z'.G,s:=z'.s } b:=fun {b} n g=>by
       have ⟨f,no⟩:=I1.fre n
       exact ⟨n,⟨g,f.2⟩,no⟩
      refine Px.less x1 ⟨{ z1 with G:=z'.G,s:=z'.s },c,l',rfl,e1,xf,If,a,cls,dx,rfl,?_,nob na ga,.inr ⟨T,.none,tr,.inl rfl,nob nT gT⟩⟩
      obtain ⟨i,a1,a2,a3,a4,a5⟩:=xr'
      exact ⟨i,a1,a2,a3,a4,a5.imp_right fun ⟨d,od,vs,b1,b2,b3,b4⟩=>⟨d,od,vs,b1,b2,b3,bb n2 b4⟩⟩
     ·exact absurd (e1.trans (if_neg n2)) nb
   | ok fl=>
     cases fl with
     | ret u=>
       obtain ⟨z',d,rfl,er,S,H,r⟩:=hq
       rw [show X.cal j l []=_ from er] at e1
       dsimp only at e1
       by_cases n2:(own && !kE d)=true
       ·rw [if_pos n2] at e1;exact absurd e1 nb
       ·rw [if_neg n2] at e1
        cases q:mc z'.t.st d with
        | none=>rw [q] at e1;exact absurd e1 nb
        | some d'=>rw [q] at e1;exact fin z1 z' d u d' x1 I1 S H r q (by simpa using n2) e1
     | next=>exact hq.elim
     | brk=>exact hq.elim
     | cont=>exact hq.elim
  ·rw [if_neg nr] at e1;exact absurd e1 nb⟩) he hpl) hd)
theorem ng {d d':D} {u:Value} {ρ0:Rs} {G2:Hp} (H:HR X z) (r:RD X.W z.ρ z.G d u) (e:tX z.t.st d=some d') (g:Sub z.G G2) (k:∀ a,Mu z.ρ a→G2 a=z.h a):RD X.W ρ0 G2 d' u:=by
 have rest:(if noR d=true then some d else none)=some d'→RD X.W ρ0 G2 d' u:=fun e=>by
  by_cases n:noR d=true
  ·rw [if_pos n] at e;cases e;exact (mM n r:RD X.W ρ0 z.G d u).mono (List.prefix_refl _) g
  ·rw [if_neg n] at e;cases e
 cases d with
 | ref n=>
   obtain ⟨p,ep,rfl⟩:=r
   have mu:Mu z.ρ p.1:=⟨p,List.mem_of_getElem? ep,.inl rfl⟩
   have e:(match z.t.st[n]? with | some (.lst l)=>if ay l then some (D.lst l) else none | some (.dic k l)=>if ay l then some (.dic k l) else none | _=>none)=some d':=e
   cases q:z.t.st[n]? with
   | none=>rw [q] at e;cases e
   | some o=>
     have ob:=H.ob n o p q ep
     rw [q] at e
     cases o with
     | lst l=>
       obtain ⟨o,vs,_,h1,h2,h3⟩:=ob
       have e:(if ay l=true then some (D.lst l) else none)=some d':=e
       by_cases n:ay l=true
       ·rw [if_pos n] at e;cases e;exact ⟨p.1,o,vs,rfl,(k _ mu).trans h1,h2,(bb n h3:RDs X.W ρ0 z.G l vs).mono (List.prefix_refl _) g⟩
       ·rw [if_neg n] at e;cases e
     | dic ks l=>
       obtain ⟨o,vs,_,m,h1,h2,h4,h3⟩:=ob
       have e:(if ay l=true then some (D.dic ks l) else none)=some d':=e
       by_cases n:ay l=true
       ·rw [if_pos n] at e;cases e;exact ⟨p.1,o,vs,rfl,m,(k _ mu).trans h1,h2,h4,(bb n h3:RDs X.W ρ0 z.G l vs).mono (List.prefix_refl _) g⟩
       ·rw [if_neg n] at e;cases e
     | ins c l=>cases e
 | _=>exact rest e
theorem nh {ρ0:Rs} {G2:Hp} (H:HR X z) (g:Sub z.G G2) (k:∀ a,Mu z.ρ a→G2 a=z.h a):∀ {l l':List D} {us:List Value},RDs X.W z.ρ z.G l us→qN z.t.st l=some l'→RDs X.W ρ0 G2 l' us
 | [],l',us,r,e=>by cases e;exact r
 | d :: l,l',us,⟨u,us',e1,h1,h2⟩,e=>by
   obtain ⟨d',e2,e3⟩:=Option.bind_eq_some_iff.mp (show (tX z.t.st d).bind (fun e=>(qN z.t.st l).map (e :: ·))=some l' from e)
   obtain ⟨l2,e4,e5⟩:=Option.map_eq_some_iff.mp e3
   subst e1 e5
   exact .cons (ng H h1 e2 g k) (nh H g k h2 e4)
theorem tY {d d':D} {u:Value} {ρ0:Rs} {G2:Hp} (H:HR X z) (r:RD X.W z.ρ z.G d u) (e:mc z.t.st d=some d') (g:Sub z.G G2) (k:∀ a,Mu z.ρ a→G2 a=z.h a):RD X.W ρ0 G2 d' u:=by
 cases d with
 | tup l=>
   obtain ⟨l',e1,rfl⟩:=Option.map_eq_some_iff.mp (show (qN z.t.st l).map D.tup=some d' from e)
   obtain ⟨a,o,vs,h1,h2,h3,h4⟩:=r
   exact ⟨a,o,vs,h1,g _ _ h2,h3,nh H g k h4 e1⟩
 | _=>exact ng H r e g k
theorem rG {x:Str} (F:bJ X X.cal lv j f) (hr:bc lv X.A) (hg:Gl X x) (hm:X.mg x=some (.ref f)) (ha:LA X (ea :: er) es) (hd:(x == ("__debug__":Str))=false) (he:starEach (ea :: er) X.env=(false,eval ea X.env) :: starEach er X.env) (hpl:(backTo pos (starEach er X.env)).any (·.1)=false):LE X (.Call (.Name x p) (ea :: er) [] pos) (.fcall false j es):=fun br z I nb=>qT F hr hg hm ha hd he hpl I nb fun z1 z' d u d' x1 I1 S H r e _ e1=>by
 classical
 have new:∀ a,Mu z'.ρ a→z1.h a=none:=fun a m=>(S.rn a m).elim (fun m=>(eA m).elim) id
 obtain ⟨If,xf⟩:=I1.hout S H
 obtain ⟨I2,sb⟩:=If.frz (P:=fun a=>Mu z'.ρ a) fun a m=>⟨let ⟨f,no⟩:=I1.fre (new a m);⟨⟨H.rg a m,f.2⟩,no⟩,H.th m⟩
 refine Pe.less x1 ⟨{ z1 with G:=fun a=>if Mu z'.ρ a then z'.h a else z'.G a,s:=z'.s },d',rfl,e1,⟨⟨List.prefix_refl _,xf.st.gg.trans sb,fun a o q=>?_,fun _ m=>.inl m,xf.st.th,xf.st.sm,xf.st.sl⟩,rfl,rfl,fun _ h=>h⟩,I2,.of (tY H r e sb fun a m=>if_pos m)⟩
 have q:(if Mu z'.ρ a then z'.h a else z'.G a)=some o:=q
 by_cases m:Mu z'.ρ a
 ·exact .inr (.inl (new a m))
 ·rw [if_neg m] at q;exact xf.st.gn a o q
theorem rL {x:Str} (F:bJ X X.cal lv j f) (hr:bc lv X.A) (hg:Gl X x) (hm:X.mg x=some (.ref f)) (ha:LA X (ea :: er) es) (hd:(x == ("__debug__":Str))=false) (he:starEach (ea :: er) X.env=(false,eval ea X.env) :: starEach er X.env) (hpl:(backTo pos (starEach er X.env)).any (·.1)=false):LF X (.Call (.Name x p) (ea :: er) [] pos) (.fcall true j es):=fun z I nb=>qT F hr hg hm ha hd he hpl I nb fun z1 z' d u d' x1 I1 S H r e c e1=>by
 have new:∀ a,Mu z'.ρ a→z1.h a=none:=fun a m=>(S.rn a m).elim (fun m=>(eA m).elim) id
 obtain ⟨If,xf⟩:=I1.hout S H
 cases d with
 | ref n=>
   obtain ⟨p,ep,rfl⟩:=r
   have mu:Mu z'.ρ p.1:=⟨p,List.mem_of_getElem? ep,.inl rfl⟩
   have nn:=new _ mu
   have ⟨f,no⟩:=I1.fre nn
   have e:(match z'.t.st[n]? with | some (.lst l)=>if ay l then some (D.lst l) else none | some (.dic k l)=>if ay l then some (.dic k l) else none | _=>none)=some d':=e
   cases q:z'.t.st[n]? with
   | none=>rw [q] at e;cases e
   | some o=>
     have ob:=H.ob n o p q ep
     rw [q] at e
     cases o with
     | lst l=>
       obtain ⟨o,vs,h0,h1,h2,h3⟩:=ob
       have e:(if ay l=true then some (D.lst l) else none)=some d':=e
       by_cases n:ay l=true
       ·rw [if_pos n] at e;cases e
        exact Pe.less x1 ⟨{ z1 with G:=z'.G,s:=z'.s },.lst l,rfl,e1,xf,If,p.1,.lst l,rfl,x1.st.no nn,rfl,⟨o,vs,rfl,h1,h2,bb n h3⟩,⟨H.rg _ mu,f.2⟩,no⟩
       ·rw [if_neg n] at e;cases e
     | dic ks l=>
       obtain ⟨o,vs,h0,m,h1,h2,h4,h3⟩:=ob
       have e:(if ay l=true then some (D.dic ks l) else none)=some d':=e
       by_cases n:ay l=true
       ·rw [if_pos n] at e;cases e
        exact Pe.less x1 ⟨{ z1 with G:=z'.G,s:=z'.s },.dic ks l,rfl,e1,xf,If,p.1,.dic ks l,rfl,x1.st.no nn,rfl,⟨o,vs,rfl,m,h1,h2,h4,bb n h3⟩,⟨H.rg _ mu,f.2⟩,no⟩
       ·rw [if_neg n] at e;cases e
     | ins c l=>cases e
 | _=>cases c
end
structure Wr (S ch:List Addr) (h h':Heap):Prop where
 keep:∀ b o,h.get? b=some o→b ∉ S→b ∉ ch→h'.get? b=some o
 slot:∀ b o,h.get? b=some o→b ∉ ch→∃ sl,h'.get? b=some { o with slots:=sl }
 there:∀ b o,h.get? b=some o→∃ o',h'.get? b=some o'
section
variable {S ch ch':List Addr} {h h1 h2 h':Heap}
theorem Wr.trans (x:Wr S ch h h1) (y:Wr S ch h1 h2):Wr S ch h h2:=
 ⟨fun b o e n m=>y.keep b o (x.keep b o e n m) n m,fun b o e m=>let ⟨_,e1⟩:=x.slot b o e m;let ⟨sl,e2⟩:=y.slot b _ e1 m;⟨sl,e2⟩,fun b o e=>let ⟨_,e1⟩:=x.there b o e;y.there b _ e1⟩
theorem Wr.mono (x:Wr S ch h h') (k:∀ b∈ch,b∈ch'):Wr S ch' h h':=⟨fun b o e n m=>x.keep b o e n fun z=>m (k b z),fun b o e m=>x.slot b o e fun z=>m (k b z),x.there⟩
theorem Wr.kept (k:∀ b o,h.get? b=some o→h'.get? b=some o):Wr S ch h h':=⟨fun b o e _ _=>k b o e,fun b o e _=>⟨o.slots,k b o e⟩,fun b o e=>⟨o,k b o e⟩⟩
theorem Wr.set (ho:h.get? a=some o) (hd:o.data = .fields vs) (g:Array Value→Array Value):Wr S [a] h (h.update a (Obj.mapFields g)):=by
 have ot:∀ b,b≠a→(h.update a (Obj.mapFields g)).get? b=h.get? b:=fun b n=>Heap.get?_update_other h _ fun z=>n z.symm
 have nm:∀ b,b ∉ [a]→b≠a:=fun b m z=>m (by rw [z];exact List.mem_cons_self)
 refine ⟨fun b u e _ m=>by rw [ot b (nm b m)];exact e,fun b u e m=>⟨u.slots,by rw [ot b (nm b m)];exact e⟩,fun b u e=>?_⟩
 by_cases z:b=a
 ·subst z
  exact ⟨_,Heap.get?_update_self _ ho (Obj.isFreed_of_fields (Obj.data_mapFields hd g))⟩
 ·exact ⟨u,by rw [ot b z];exact e⟩
theorem Wr.slots (x:Heap.SlotsOnly S h h'):Wr S ch h h':=⟨fun b o e n _=>(x.2.1 b n).trans e,fun b o e _=>x.2.2 b o e,fun b o e=>let ⟨_,q⟩:=x.2.2 b o e;⟨_,q⟩⟩
end
theorem gm (g:Array Value→Array Value) (o):(Obj.mapFields g o).dict=o.dict:=by
 obtain ⟨c,d,dt,sl⟩:=o
 cases dt <;> rfl
section
variable {M:Model} {A:Around} {E:Value→Shared→Prop} {s:Shared} {a T L:Addr} {cls fl:Value} {dx:Option Addr} {Q:Unit→Shared→Prop} {base:Heap} {env:Env} {outer:List Env} {S:List Addr}
theorem mO (t:Tr s.heap a cls dx T fl) (hQ:∀ h',Tr h' a cls dx T (fr.elim .none fun f=>rawInt f)→Wr S [T] s.heap h'→Q () { s with heap:=h' }):wpAny M A (setFlight (.ref a) fr) Q E s:=by
 obtain ⟨oe,vs,oT,ts,he,hc,hd,h1,ne,hT,hdT,h3⟩:=t
 have z3:=(Array.getElem?_eq_some_iff.mp h3).1
 unfold setFlight
 refine wpAny_bind (wpAny_field he hd h1 ?_)
 rw [if_pos (show (Value.ref T != Value.none)=true by simp)]
 refine wpAny_setField hT hdT z3 (hQ _ ?_ (Wr.set hT hdT _))
 have dT:=Obj.data_mapFields hdT (·.setIfInBounds 3 (fr.elim Value.none fun f=>rawInt f))
 exact ⟨oe,vs,_,_,(Heap.get?_update_other _ _ ne).trans he,hc,hd,h1,ne,Heap.get?_update_self _ hT (Obj.isFreed_of_fields dT),dT,by simp [z3]⟩
theorem entry (hfr:A.frames=some (env :: outer)) (hl:s.heap.FunFrames base (env :: outer)) (hf:env.frame=some L) (he:s.heap.get? a=some oe) (hd:oe.data = .fields vs) (hz:1<vs.size)
 (hQ:∀ h' T,s.heap.get? T=none→Tr h' a oe.cls oe.dict T (rawInt L)→Wr (frs (env :: outer)) [a] s.heap h'→Q () { s with heap:=h' }) :
 wpAny M A (do let x ← frameOf env;let pl ← entryPlaceOf L hn;let b ← EntryCells.newEntry head x .none (rawInt L) .none pl;setField (.ref a) 1 b) Q E s:=by
 have na:a ∉ (env :: outer).filterMap (·.frame):=fun m=>by
  obtain ⟨_,o,ho,nf⟩:=hl.mem m
  rw [he] at ho
  cases ho
  exact nf vs hd
 refine wpAny_bind (wpAny_frameOf_fun hfr hl hf fun g hg=>wpAny_bind (wpAny_entryPlaceOf fun pl hp=>?_))
 unfold EntryCells.newEntry newFields;refine wpAny_bind (wpAny_newObj_type ?_ (IsPlace.sizeOk5 hp _ _ _ _ _))
 have ea:g.get? a=some oe:=(hg.2.1 a na).trans he
 generalize hu:([head,Value.ref L,Value.none,rawInt L,Value.none] ++ (if pl.isEmpty then List.replicate 6 Value.none else pl)).toArray=us
 have u3:us[3]? = some (rawInt L):=by rw [← hu];rfl
 have ea2:=Heap.get?_push_of_some (h:=g) { cls:=.type "traceback",dict:=none,data:=.fields us } ea
 have nT:g.objs.size≠a:=Nat.ne_of_gt (Heap.lt_size ea)
 refine wpAny_setField ea2 hd hz (hQ _ g.objs.size ?_ ?_ ?_)
 ·rw [hg.1];exact Heap.get?_none_of_le (Nat.le_refl _)
 ·have da:=Obj.data_mapFields hd (·.setIfInBounds 1 (Value.ref g.objs.size))
  exact ⟨_,_,_,us,Heap.get?_update_self _ ea2 (Obj.isFreed_of_fields da),⟨Obj.cls_mapFields _ _,gm _ _⟩,da,by simp [hz],nT,(Heap.get?_update_other _ _ (Ne.symm nT)).trans (Heap.get?_push_size g rfl),rfl,u3⟩
 ·exact (Wr.slots (ch:=[a]) hg).trans ((Wr.kept fun b o e=>Heap.get?_push_of_some _ e).trans (Wr.set ea2 hd _))
theorem sx (hfr:A.frames=some (env :: outer)) (hl:s.heap.FunFrames base (env :: outer)) (hf:env.frame=some L) (x:Rw s.heap a cls dx)
 (hQ:∀ h' T,s.heap.get? T=none→Tr h' a cls dx T (rawInt L)→Wr (frs (env :: outer)) [a] s.heap h'→Q () { s with heap:=h' }):wpAny M A (noteFrame (.ref a) env) Q E s:=by
 obtain ⟨oe,vs,he,⟨rfl,rfl⟩,hd,h1⟩:=x
 unfold noteFrame
 simp only [hf]
 refine wpAny_bind (wpAny_field he hd h1 ?_)
 rw [if_neg (by decide)]
 exact entry hfr hl hf he hd (Array.getElem?_eq_some_iff.mp h1).1 hQ
theorem pR (hfr:A.frames=some (env :: outer)) (hl:s.heap.FunFrames base (env :: outer)) (hf:env.frame=some L) (x:Tr s.heap a cls dx T .none)
 (hQ:∀ h' T',s.heap.get? T'=none→Tr h' a cls dx T' (rawInt L)→Wr (frs (env :: outer)) [a,T] s.heap h'→Q () { s with heap:=h' }):wpAny M A (noteFrame (.ref a) env) Q E s:=by
 obtain ⟨oe,vs,oT,ts,he,⟨rfl,rfl⟩,hd,h1,ne,hT,hdT,h3⟩:=x
 unfold noteFrame
 simp only [hf]
 refine wpAny_bind (wpAny_field he hd h1 ?_)
 rw [if_pos (show (Value.ref T != Value.none)=true by simp)]
 refine wpAny_bind (wpAny_field hT hdT h3 ?_)
 rw [if_neg (show ¬ ((Value.none == rawInt L)=true) by simp [rawInt])]
 refine wpAny_bind (wpAny_setField hT hdT (Array.getElem?_eq_some_iff.mp h3).1 ?_)
 have w1:Wr (frs (env :: outer)) [T] s.heap _:=Wr.set hT hdT (·.setIfInBounds 3 Value.none)
 refine entry hfr (hl.of_keeps fun b o e nf=>⟨o,?_,rfl⟩) hf ((Heap.get?_update_other _ _ ne).trans he) hd (Array.getElem?_eq_some_iff.mp h1).1 fun h' T' n t w=>hQ h' T' ?_ t ((w1.mono (by simp)).trans (w.mono (by simp)))
 ·refine (Heap.get?_update_other _ _ fun z=>?_).trans e
  subst z
  rw [hT] at e
  cases e
  exact nf ts hdT
 ·cases q:s.heap.get? T' with
  | none=>rfl
  | some o=>
    obtain ⟨o',e'⟩:=w1.there T' o q
    rw [n] at e'
    cases e'
theorem pQ (hf:env.frame=some L) (x:Tr s.heap a cls dx T (rawInt L)) (hQ:Q () s):wpAny M A (noteFrame (.ref a) env) Q E s:=by
 obtain ⟨oe,vs,oT,ts,he,⟨rfl,rfl⟩,hd,h1,ne,hT,hdT,h3⟩:=x
 unfold noteFrame
 simp only [hf]
 refine wpAny_bind (wpAny_field he hd h1 ?_)
 rw [if_pos (show (Value.ref T != Value.none)=true by simp)]
 refine wpAny_bind (wpAny_field hT hdT h3 ?_)
 rw [if_pos (show (rawInt L == rawInt L)=true by simp)]
 exact wpAny_pure hQ
end
section
variable {X:Cx} {z z' z0 z1:Z} {M:Model} {w:Addr→Prop}
theorem qO {h h':Heap}:∀ {l:List Env},h.FunFrames base l→(∀ b∈frs l,∀ o,h.get? b=some o→∃ sl,h'.get? b=some { o with slots:=sl })→h'.FunFrames base l
 | [],_,_=>trivial
 | v :: r,⟨a,⟨L,o,e1,e2,e3,e4⟩,q⟩,k=>by
   have hm:L∈frs (v :: r):=by unfold frs;rw [List.filterMap_cons,e1];exact List.mem_cons_self
   obtain ⟨sl,e5⟩:=k L hm o e3
   exact ⟨a,⟨L,_,e1,e2,e5,e4⟩,qO q fun b hb=>k b (by unfold frs;rw [List.filterMap_cons,e1];exact List.mem_cons_of_mem _ hb)⟩
theorem Rep.wr {h':Heap} {ch:List Addr} {t:Nat} (I:Rep X z) (y:Wr (frs X.fr) ch z.s.heap h') (hc:∀ b∈ch,Fre X z b∧¬ Own z b):Rep X { z with s:={ z.s with heap:=h',toks:=t } }:=by
 have nG:∀ {b o},z.G b=some o→z.h b=some o→h'.get? b=some o:=fun e e'=>y.keep _ _ e' (fun m=>by rw [(I.ff _ m).1] at e;cases e) fun m=>by rw [(hc _ m).1.1] at e;cases e
 have sl:∀ b,Lc X b→∀ o,z.s.heap.get? b=some o→∃ sl,h'.get? b=some { o with slots:=sl }:=fun b l o e=>y.slot b o e fun m=>(hc b m).1.2.2.2 l
 have ck:∀ x c v,X.env.cells.lookup x=some c→z.s.heap.IsCell c v→h'.IsCell c v:=fun x c v e ⟨o,q,d⟩=>let ⟨_,q2⟩:=sl c (.inr ⟨x,e⟩) o q;⟨_,q2,d⟩
 refine ⟨⟨I.md,I.fm,I.hd,I.bs,fun b o e=>nG e (I.gh b o e),I.rl,I.rn,I.rg,fun n o p h1 h2=>(I.ob n o p h1 h2).mono (List.prefix_refl _) (.refl _) fun b hb o e=>?_,qO I.fu fun b hb o e=>y.slot b o e fun m=>(hc b m).1.2.2.1 hb,I.ff,I.br,I.os⟩,I.ok,?_,fun x c e=>let ⟨v,q⟩:=I.ce x c e;⟨v,ck x c v e q⟩,I.fl,I.el,I.sl,I.en,fun i m=>?_,I.od⟩
 ·have mu:Mu z.ρ b:=⟨p,List.mem_of_getElem? h2,hb⟩
  exact y.keep b o e (fun m=>(I.ff b m).2 mu) fun m=>(hc b m).1.2.1 mu
 ·obtain ⟨m,⟨oL,es,ep,q,r⟩,hl⟩:=I.lo
  obtain ⟨_,q2⟩:=sl _ (.inl rfl) _ q
  exact ⟨m,⟨_,es,ep,q2,r⟩,fun j x w e1 e2 e3=>dj (fun c v e q=>ck x c v e q) (hl j x w e1 e2 e3)⟩
 ·obtain ⟨d,a,o,h1,h2,h3,r,f⟩:=I.eo i m
  exact ⟨d,a,o,h1,h2,h3,r.mono (List.prefix_refl _) (.refl _) fun b hb o e=>y.keep b o e (by rcases hb with rfl | rfl <;> exact f.2.2.1) fun mm=>(hc b mm).2 (by rcases hb with rfl | rfl <;> exact ⟨i,m,h2⟩),f⟩
theorem Stp.wr {h':Heap} {ch:List Addr} {t:Nat} (x:Stp fr w z0 z) (y:Wr (frs fr) ch z.s.heap h') (hc:∀ b∈ch,z0.h b=none):Stp fr w z0 { z with s:={ z.s with heap:=h',toks:=t } }:=by
 have nc:∀ {b o},z0.h b=some o→b ∉ ch:=fun e m=>by rw [hc _ m] at e;cases e
 refine ⟨x.pr,x.gg,x.gn,x.rn,fun a o e=>let ⟨o',e'⟩:=x.th a o e;y.there a o' e',fun a o e n m f=>y.keep a o (x.sm a o e n m f) f (nc e),fun a o e n m f=>?_⟩
 obtain ⟨sl,e1⟩:=x.sl a o e n m f
 obtain ⟨sl2,e2⟩:=y.slot a _ e1 (nc e)
 exact ⟨sl2,e2⟩
structure oW (X:Cx):Prop where
 fr:∃ outer,X.fr=X.env :: outer
 frame:X.env.frame=some X.env.locals
def XN (X:Cx) (w:Addr→Prop) (z z':Z) (c:Nat) (l:List D) (e:Value) (fl:Value):Prop:=∃ a T cls dx,e = .ref a∧Stp X.fr w z z'∧Rep X z'∧XR X.W z' c l cls dx∧Nob X z z' a∧Tr z'.s.heap a cls dx T fl∧Nob X z z' T
theorem XN.wr {h':Heap} {ch:List Addr} {a T:Addr} {fl:Value} (x:Stp X.fr w z z') (I:Rep X z') (r:XR X.W z' c l cls dx) (na:Nob X z z' a) (nT:Nob X z z' T) (y:Wr (frs X.fr) ch z'.s.heap h') (hc:∀ b∈ch,Nob X z z' b) (t:Tr h' a cls dx T fl):XN X w z { z' with s:={ z'.s with heap:=h' } } c l (.ref a) fl:=
 ⟨a,T,cls,dx,rfl,x.wr (t:=z'.s.toks) y fun b hb=>(hc b hb).1,I.wr (t:=z'.s.toks) y fun b hb=>(hc b hb).2,r,na,t,nT⟩
theorem j9 {Q:Unit→Shared→Prop} {E:Value→Shared→Prop} (F:oW X) (x:Stp X.fr w z z') (I:Rep X z') (h:XO X z z' c l e) (hQ:∀ h',XN X w z { z' with s:={ z'.s with heap:=h' } } c l e (rawInt X.env.locals)→Q () { z'.s with heap:=h' }):wpAny M X.A (noteFrame e X.env) Q E z'.s:=by
 obtain ⟨outer,hfr⟩:=F.fr
 have fm:=I.fm
 have fu:=I.fu
 rw [hfr] at fm fu
 obtain ⟨a,cls,dx,rfl,r,na,t⟩:=h
 have new:∀ T,z'.h T=none→Nob X z z' T:=fun T n=>⟨x.no n,I.fre n⟩
 rcases t with t | ⟨T,fl,t,hfl,nT⟩
 ·refine sx fm fu F.frame t fun h' T n t' y=>hQ h' (.wr x I r na (new T n) (by rw [hfr];exact y) (fun b hb=>?_) t')
  rw [List.mem_singleton.mp hb];exact na
 ·rcases hfl with rfl | rfl
  ·refine pR fm fu F.frame t fun h' T' n t' y=>hQ h' (.wr x I r na (new T' n) (by rw [hfr];exact y) (fun b hb=>?_) t')
   rcases List.mem_cons.mp hb with q | q
   ·rw [q];exact na
   ·rw [List.mem_singleton.mp q];exact nT
  ·exact pQ F.frame t (hQ z'.s.heap ⟨a,T,cls,dx,rfl,x,I,r,na,t,nT⟩)
theorem cJ {fl:Value} {fr:Option Addr} {Q:Unit→Shared→Prop} {E:Value→Shared→Prop} {A:Around} (h:XN X w z z' c l e fl) (hQ:∀ h',XN X w z { z' with s:={ z'.s with heap:=h' } } c l e (fr.elim .none fun f=>rawInt f)→Q () { z'.s with heap:=h' }):wpAny M A (setFlight e fr) Q E z'.s:=by
 obtain ⟨a,T,cls,dx,rfl,x,I,r,na,t,nT⟩:=h
 exact mO (S:=frs X.fr) t fun h' t' y=>hQ h' (.wr x I r na nT y (fun b hb=>by rw [List.mem_singleton.mp hb];exact nT) t')
theorem u9 (F:oW X):PassesOwn M X.A X.env (PxS X z o):=fun e s' ⟨z',c,l,q,q2,x,I,h⟩=>by
 subst q
 unfold notedBy
 refine j9 F x.st I h fun h' hn=>?_
 obtain ⟨a,T,cls,dx,e1,_,_,_,_,t,_⟩:=id hn
 subst e1
 unfold cameBackBy
 obtain ⟨oe,vs,oT,ts,he,hc,hd,h1,r⟩:=id t
 refine wpAny_bind (wpAny_field he hd h1 ?_)
 rw [if_neg (show ¬ ((Value.ref T == Value.none)=true) by simp),F.frame]
 refine cJ (z':={ z' with s:={ z'.s with heap:=h' } }) (fr:=some X.env.locals) hn fun h2 hn2=>?_
 obtain ⟨a',T',cls',dx',e1,x2,I2,r2,na2,t2,nT2⟩:=hn2
 exact ⟨{ z' with s:={ z'.s with heap:=h2 } },c,l,rfl,q2,⟨x2,x.ow⟩,I2,a',cls',dx',e1,r2,na2,.inr ⟨T',_,t2,.inr rfl,nT2⟩⟩
theorem pV {E:Value→Shared→Prop} {Q:Value→Shared→Prop} (F:oW X) (h:PxS X z o e s') (q:∀ z' c l a T cls dx,o = .exc c l z'.t→e = .ref a→Stp X.fr (Pv X z) z z'→Rep X z'→XR X.W z' c l cls dx→Nob X z z' a→Tr z'.s.heap a cls dx T .none→Nob X z z' T→Q e z'.s):wpAny M X.A (leaving X.env e) (fun _ s''=>Q e s'') E s':=by
 obtain ⟨z',c,l,e1,q2,x,I,h⟩:=h
 subst e1
 unfold leaving
 refine wpAny_bind (j9 F x.st I h fun h' hn=>cJ (z':={ z' with s:={ z'.s with heap:=h' } }) (fr:=none) hn fun h2 hn2=>?_)
 obtain ⟨a,T,cls,dx,e1,x2,I2,r2,na2,t2,nT2⟩:=hn2
 exact q { z' with s:={ z'.s with heap:=h2 } } c l a T cls dx q2 e1 x2 I2 r2 na2 t2 nT2
end
def cxF (X:Cx) (cal cal1:Nat→List D→List O→Res) (N:List Str) (qual:Str) (scope:Scope) (f:Addr) (cd:Value) (A:Around) (fr:List Env) (L:Addr):Cx:=
 { X with A:=A.deeper (envOfC qual scope L f cd),fr:=envOfC qual scope L f cd :: fr,N:=N,env:=envOfC qual scope L f cd,cal:=cal,cal1:=cal1 }
section
variable {X:Cx} {cal cal1:Nat→List D→List O→Res} {N ps:List Str} {qual:Str} {scope:Scope} {f:Addr} {cd:Value} {A:Around} {fr:List Env} {z z':Z} {k:Nat}
theorem pZ {α β:Type} {ds:List α} {n i:Nat} {d:α} (h:(ds.map some ++ List.replicate n none)[i]? = some (some d)):ds[i]? = some d:=by
 by_cases hi:i<ds.length
 ·rw [List.getElem?_append_left (by simpa using hi),List.getElem?_map] at h
  cases e:ds[i]? with
  | none=>rw [e] at h;cases h
  | some a=>rw [e] at h;cases h;rfl
 ·rw [List.getElem?_append_right (by simpa using hi),List.getElem?_replicate] at h
  split at h <;> cases h
theorem eH {α:Type} {ds:List α} {n i:Nat} {d:α} (h:ds[i]? = some d):(ds.map some ++ List.replicate n none)[i]? = some (some d):=by
 have hi:=(List.getElem?_eq_some_iff.mp h).1
 rw [List.getElem?_append_left (by simpa using hi),List.getElem?_map,h];rfl
theorem mP {es:List (Option D)} {n i:Nat} {d:D} (h:(es ++ List.replicate n none)[i]? = some (some d)):es[i]? = some (some d):=by
 by_cases hi:i<es.length
 ·rwa [List.getElem?_append_left hi] at h
 ·rw [List.getElem?_append_right (by omega),List.getElem?_replicate] at h
  split at h <;> cases h
theorem ja {s1:Shared} {es:List (Option D)} {us:List Value} (S:dy N ps scope) (I:HR { X with A:=A,fr:=fr } z) (hr:bc (k+1) A) (hl:us.length=ps.length) (le:es.length=us.length) (r:∀ (i:Nat) (d:D),es[i]? = some (some d)→∃ v,us[i]? = some v∧RD X.W z.ρ z.G d v)
 (x:InCallC z.s z.s.heap.objs.size (bindL (envOfC qual scope z.s.heap.objs.size f cd).kindOf (ps.zip us) fun _=>none) (cellsFrom (z.s.heap.objs.size+1) scope.names []) (bindC (envOfC qual scope z.s.heap.objs.size f cd).kindOf (ps.zip us) fun _=>none) s1) :
 Rep (cxF X cal cal1 N qual scope f cd A fr z.s.heap.objs.size) ⟨z.ρ,z.G,⟨es ++ List.replicate (N.length - ps.length) none,[],z.t.st⟩,us.map some ++ List.replicate (N.length - ps.length) none,s1⟩:=by
 have hpl:ps.length≤N.length:=by have:=congrArg List.length S.pre;rw [List.length_take] at this;omega
 obtain ⟨h1,tk,rfl,hk⟩:=x.done
 have aV:∀ {c:Addr},z.s.heap.objs.size≤c→z.G c=none∧¬ Mu z.ρ c:=fun {c} h=>by
  have n:z.h c=none:=Heap.get?_none_of_le h
  refine ⟨?_,fun m=>by obtain ⟨o,e⟩:=I.th m;rw [n] at e;cases e⟩
  cases q:z.G c with
  | none=>rfl
  | some o=>have:=I.gh c o q;rw [n] at this;cases this
 have lcf:∀ {a},Lc (cxF X cal cal1 N qual scope f cd A fr z.s.heap.objs.size) a→z.s.heap.objs.size≤a:=fun h=>by
  rcases h with rfl | ⟨y,e⟩
  ·exact Nat.le_refl _
  ·exact Nat.le_of_lt (x.above y _ (PySem.mem_of_lookup e))
 have bn:X.base.get? z.s.heap.objs.size=none:=by
  cases q:X.base.get? z.s.heap.objs.size with
  | none=>rfl
  | some o=>have:=I.gh _ o (I.bs _ o q);rw [show z.h z.s.heap.objs.size=none from Heap.get?_none_of_le (Nat.le_refl _)] at this;cases this
 obtain ⟨oL,esL,epL,hoL,hdL,_⟩:=id x.toInCall.ns
 have gr:Gr z.s { z.s with heap:=h1,toks:=tk }:=.hp hk
 have G:=I.grow (aE I.gh gr)
 refine ⟨⟨I.md,Around.frames_deeper I.fm,I.hd,I.bs,G.gh,I.rl,I.rn,I.rg,G.ob,?_,fun b hb=>?_,I.br,I.os⟩,⟨by have:=(hr.deeper (envOfC qual scope z.s.heap.objs.size f cd)).un;show (A.deeper _).units+200<_;omega,S.kind,rfl,rfl,fun y w c e1 e2=>name_of_addr x.apart (PySem.mem_of_lookup e1) (PySem.mem_of_lookup e2),fun y hy=>?_⟩,⟨_,x.toInCall.ns,fun i y v e1 e2 e3=>?_⟩,fun y c h=>⟨_,x.cell y c h⟩,fun a l=>aV (lcf l),by show (es ++ _).length=(us.map some ++ _).length;simp [le],by show (us.map some ++ _).length=N.length;rw [List.length_append,List.length_map,List.length_replicate];omega,fun i d _ e=>?_,(fun i m=>nomatch m),(fun i j a m=>nomatch m)⟩
 ·have kd:(envOfC qual scope z.s.heap.objs.size f cd).scope.kind≠ScopeKind.module:=by show scope.kind≠_;rw [S.kind];decide
  exact ⟨kd,⟨_,oL,rfl,bn,hoL,fun vs e=>by rw [hdL] at e;cases e⟩,G.fu⟩
 ·rcases List.mem_cons.mp (show b∈z.s.heap.objs.size :: frs fr from hb) with q | q
  ·rw [q];exact aV (Nat.le_refl _)
  ·exact I.ff b q
 ·have hy:scope.names.lookup y=some .cell∨scope.names.lookup y=some .free:=hy
  rcases hy with hy | hy
  ·exact kg hy
  ·exact absurd rfl (S.nofree _ (PySem.mem_of_lookup hy))
 ·have hu:us[i]? = some v:=pZ (β:=Unit) e2
  have hi:i<ps.length:=by rw [← hl];exact (List.getElem?_eq_some_iff.mp hu).1
  have hp:ps[i]? = some y:=by
   rw [← S.pre,List.getElem?_take_of_lt (by omega)];exact e1
  have ndP:ps.Nodup:=by rw [← S.pre];exact S.nd.sublist (List.take_sublist _ _)
  rcases S.par y (List.mem_of_getElem? hp) with k | k
  ·exact .inl ⟨k,iI ndP hp hu k⟩
  ·obtain ⟨c,e⟩:=kg (n:=z.s.heap.objs.size+1) k
   refine .inr ⟨.inl k,c,e,?_⟩
   have q:=x.cell y c e
   rw [iG ndP hp hu (by show scope.names.lookup y≠_;rw [k];decide)] at q
   exact q
 ·obtain ⟨v,e1,r1⟩:=r i d (mP e)
  exact ⟨v,eH e1,r1⟩
theorem zF {name:Str} {params:Arguments} {body:List Stmt} {dV kV doc pm ct oc:Value} {an od:Option Addr} {osl:Array (Option Value)} {j:Nat} {c:S} (lk:X.K.lookup f=some ⟨oc,od,.func (PySem.W.fnOf name qual params body scope dV kV doc pm an cd ct),osl⟩) (hcd:PySem.W.codeIn X.K cd qual=true) (S:dy N ps scope) (hj:X.Γ.fn[j]? = some ⟨ps.length,N.length,c⟩)
 (hb:∀ A fr L,bc k (A.deeper (envOfC qual scope L f cd))→LSs (cxF X cal cal1 N qual scope f cd A fr L) body c):FnC X (ly X.Γ cal cal1) (k+1) j f (PySem.W.fnOf name qual params body scope dV kV doc pm an cd ct) ps:=by
 have run:∀ ds st,ly X.Γ cal cal1 j ds st=if ds.length=ps.length then (match exS X.Γ cal cal1 c ⟨ds.map some ++ List.replicate (N.length - ps.length) none,[],st⟩ with
  | .nx s=>.ok .non s.st
  | .rt d s=>.ok d s.st
  | .exc c l s=>.exc c l s.st
  | .bad=>.bad) else .bad:=fun ds st=>by unfold ly;rw [hj];all_goals rfl
 refine ⟨fun ds st nb=>?_,fun A fr z args us ds hr I hbd r nb=>?_⟩
 ·by_cases q:ds.length=ps.length
  ·exact q
  ·rw [run,if_neg q] at nb;exact absurd rfl nb
 by_cases hl:ds.length=ps.length
 rotate_left
 ·rw [run,if_neg hl] at nb;exact absurd rfl nb
 rw [run,if_pos hl] at nb ⊢
 have KX:X.K.In z.s.heap:=I.kin
 have lim:z.s.heap.NoLimit:=I.md.nolimit.keeps (Rep.bk I)
 have hkind:∀ y∈ps.zip us,scope.names.lookup y.1=some .local∨(scope.names.lookup y.1=some .cell∧((cellsFrom (z.s.heap.objs.size+1) scope.names []).lookup y.1).isSome=true):=fun ⟨n,v⟩ hy=>by
  rcases S.par n (List.of_mem_zip hy).1 with q | q
  ·exact .inl q
  ·exact .inr ⟨q,PySem.W.cellsFrom_some _ _ _ (.inl q)⟩
 refine codeAny_call_function hr.depth (KX _ _ lk) rfl S.co S.gen rfl (PySem.W.codeRec_of KX hcd) (hbd _ _ _ _ ?_)
 refine wpAny_newFunctionEnv_cells S.kind hkind fun env he s1 x=>?_
 subst he
 refine ⟨lim.keeps x.toInCall.keep,codeAny_func ?_⟩
 have J:=ja (es:=ds.map some) (cal:=cal) (cal1:=cal1) S I hr (r.len ▸ hl) (by rw [List.length_map];exact r.len) (fun i d e=>r.get (by rw [List.getElem?_map,Option.map_eq_some_iff] at e;obtain ⟨_,e1,e2⟩:=e;cases e2;exact e1)) x
 have hk:∀ b o,z.h b=some o→s1.heap.get? b=some o:=x.toInCall.keep
 have F:oW (cxF X cal cal1 N qual scope f cd A fr z.s.heap.objs.size):=⟨⟨fr,rfl⟩,rfl⟩
 have lcf:∀ {a o},z.h a=some o→¬ Lc (cxF X cal cal1 N qual scope f cd A fr z.s.heap.objs.size) a:=fun {a o} e h=>by
  have:z.s.heap.objs.size≤a:=by
   rcases h with rfl | ⟨y,e⟩
   ·exact Nat.le_refl _
   ·exact Nat.le_of_lt (x.above y _ (PySem.mem_of_lookup e))
  exact absurd (Heap.lt_size e) (Nat.not_lt.mpr this)
 have nofr:∀ {a o},z.h a=some o→a ∉ frs fr→a ∉ frs (envOfC qual scope z.s.heap.objs.size f cd :: fr):=fun {a o} e n m=>by
  rcases List.mem_cons.mp (show a∈z.s.heap.objs.size :: frs fr from m) with q | q
  ·exact absurd (Heap.lt_size e) (by rw [q];exact Nat.lt_irrefl _)
  ·exact n q
 have none1:∀ {a},s1.heap.get? a=none→z.h a=none:=fun {a} n=>by
  cases q:z.h a with
  | none=>rfl
  | some o=>rw [hk a o q] at n;cases n
 have back:∀ {z'},Stp (envOfC qual scope z.s.heap.objs.size f cd :: fr) (Pv (cxF X cal cal1 N qual scope f cd A fr z.s.heap.objs.size) ⟨z.ρ,z.G,⟨ds.map some ++ List.replicate (N.length - ps.length) none,[],z.t.st⟩,us.map some ++ List.replicate (N.length - ps.length) none,s1⟩) ⟨z.ρ,z.G,⟨ds.map some ++ List.replicate (N.length - ps.length) none,[],z.t.st⟩,us.map some ++ List.replicate (N.length - ps.length) none,s1⟩ z'→Rep (cxF X cal cal1 N qual scope f cd A fr z.s.heap.objs.size) z'→Stp fr NoW z z'∧HR { X with A:=A,fr:=fr } z':=fun {z'} y K=>by
  have nw:∀ {a o},z.h a=some o→¬ Pv (cxF X cal cal1 N qual scope f cd A fr z.s.heap.objs.size) ⟨z.ρ,z.G,⟨ds.map some ++ List.replicate (N.length - ps.length) none,[],z.t.st⟩,us.map some ++ List.replicate (N.length - ps.length) none,s1⟩ a:=fun e w=>w.elim (fun ⟨i,m,_⟩=>nomatch m) (lcf e)
  refine ⟨⟨y.pr,y.gg,fun a o e=>?_,fun a m=>(y.rn a m).imp_right none1,fun a o e=>y.th a o (hk a o e),fun a o e n _ m=>y.sm a o (hk a o e) n (nw e) (nofr e m),fun a o e n _ m=>y.sl a o (hk a o e) n (nw e) (List.mem_cons_of_mem _ m)⟩,⟨K.md,I.fm,I.hd,K.bs,K.gh,K.rl,K.rn,K.rg,K.ob,K.fu.2.2,fun b m=>K.ff b (List.mem_cons_of_mem _ m),K.br,K.os⟩⟩
  rcases y.gn a o e with q | q | q
  ·exact .inl q
  ·exact .inr (.inl (none1 q))
  ·rcases q with ⟨i,m,_⟩ | l
   ·exact nomatch m
   ·rw [(K.fl a l).1] at e;cases e
 have nb2:(cxF X cal cal1 N qual scope f cd A fr z.s.heap.objs.size).ex c ⟨ds.map some ++ List.replicate (N.length - ps.length) none,[],z.t.st⟩≠.bad:=fun q=>nb (by rw [show exS X.Γ cal cal1 c ⟨ds.map some ++ List.replicate (N.length - ps.length) none,[],z.t.st⟩ = .bad from q])
 refine wpAny_mono (hb A fr z.s.heap.objs.size (hr.deeper _) _ J nb2) (fun fl s' hs=>?_) fun e s' hs=>pV (Q:=fun e s''=>CRs { X with A:=A,fr:=fr } z _ (.error e) s'') F hs fun z' c' l a T cls dx q e1 y K xr na t nT=>?_
 ·cases q:exS X.Γ cal cal1 c ⟨ds.map some ++ List.replicate (N.length - ps.length) none,[],z.t.st⟩ with
  | nx t=>
    rw [show (cxF X cal cal1 N qual scope f cd A fr z.s.heap.objs.size).ex c _ = .nx t from q] at hs
    obtain ⟨rfl,z',e1,e2,y,K⟩:=hs
    subst e1 e2
    obtain ⟨b1,b2⟩:=back y.st K
    exact ⟨z',.non,rfl,rfl,b1,b2,rfl⟩
  | rt d t=>
    rw [show (cxF X cal cal1 N qual scope f cd A fr z.s.heap.objs.size).ex c _ = .rt d t from q] at hs
    obtain ⟨u,z',rfl,e1,e2,y,K,rd⟩:=hs
    subst e1
    obtain ⟨b1,b2⟩:=back y.st K
    exact ⟨z',d,rfl,by rw [e2],b1,b2,rd⟩
  | exc c' l t=>rw [show (cxF X cal cal1 N qual scope f cd A fr z.s.heap.objs.size).ex c _ = .exc c' l t from q] at hs;exact hs.elim
  | bad=>exact absurd q nb2
 ·obtain ⟨b1,b2⟩:=back y K
  have q:exS X.Γ cal cal1 c ⟨ds.map some ++ List.replicate (N.length - ps.length) none,[],z.t.st⟩ = .exc c' l z'.t:=q
  rw [q]
  exact ⟨z',c',l,rfl,rfl,b1,b2,a,T,cls,dx,e1,xr,t,⟨none1 na.1,na.2.1.1,na.2.1.2.1⟩,none1 nT.1,nT.2.1.1,nT.2.1.2.1⟩
end
end L2.Ev
end
section
namespace L2.Ev
open PySem.W
section
variable {prog:Program} {w:World} {A:Around} {E:Value→Shared→Prop} {K:Frag} {C a:Addr} {o:Obj} {od:Option Obj} {h:Heap} {g:Array GenState} {d:Drawn} {t:Nat} {os:OsState}
theorem qv (Y:dQ K C) (X:K.In h) (I:InstAt h a o C od) (hq:Q () ⟨h,g,d,t,os⟩):wpAny M A (checkBuiltinCall "BaseException.__getattribute__" ⟨[.ref a,nameV],[]⟩) Q E ⟨h,g,d,t,os⟩:=by
 have k1:builtinKind "BaseException.__getattribute__" = some .slot:=by decide +kernel
 have k2:splitId "BaseException.__getattribute__" = some ("BaseException","__getattribute__"):=by decide +kernel
 have L:Looks M h (isInstance (.ref a) (.type "BaseException")) true:=(I.type (M:=M)).andThen (looks_mroIn X Y.be)
 have ha:=F.args_bexc_ga (.ref a) nameV
 simp only [checkBuiltinCall,k1,k2]
 refine wpAny_bind (L.at ?_)
 repeat (any_goals (first | assumption | wp_step))
end
theorem wP {K:Frag} (e:(clsIn K C).isSome=true):∃ c' d' cd' sl',K.lookup C=some ⟨c',d',.cls cd',sl'⟩:=by
 unfold clsIn at e
 split at e
 ·rename_i q;exact ⟨_,_,_,_,q⟩
 ·cases e
structure mS (K:Frag) (B:Addr):Prop where
 ty:typeIn K (.ref B)=some (.type "type")
 is:(clsIn K B).isSome=true
 be:mroIn K B (.type "BaseException")=some true
theorem uh {K:Frag} {M:Model} (X:K.In h) (e:(clsIn K C).isSome=true):Looks M h (isType (.ref C)) true:=by
 obtain ⟨c',d',cd',sl',hk⟩:=wP e
 intro A' Q' E' s' k q
 unfold isType;unfold loadHead
 exact wpAny_bind (wpAny_loadPart (k _ _ (X _ _ hk)) (wpAny_pure q))
theorem gM {K:Frag} {M:Model} {A:Around} {E:Value→Shared→Prop} {s:Shared} {a B C:Addr} {o:Obj} {Q:Bool→Shared→Prop} (X:K.In s.heap) (Y:mS K B) (he:s.heap.get? a=some o) (hc:o.cls = .ref C) {b:Bool} (hm:mroIn K C (.ref B)=some b) (hq:Q b s):wpAny M A (excMatches (.ref a) (.ref B)) Q E s:=by
 have L1:Looks M s.heap (isInstance (.ref B) (.type "tuple")) false:=(looks_typeIn X Y.ty).andThen (Looks.of_pure tc_notTuple)
 have L2:=uh (M:=M) X Y.is
 have L3:=looks_mroIn (M:=M) X Y.be
 have L4:=looks_mroIn (M:=M) X hm
 obtain ⟨h,g,d,t,os⟩:=s
 unfold excMatches isExcClass
 refine wpAny_bind (L1.at ?_)
 dsimp only
 rw [if_neg Bool.false_ne_true]
 refine wpAny_bind (wpAny_pure ?_)
 rw [List.forIn_cons]
 refine wpAny_bind (wpAny_bind (wpAny_bind (wpAny_bind (L2.at ?_))))
 rw [if_pos rfl]
 refine L3.at ?_
 rw [if_neg (show ¬ ((!true)=true) by decide)]
 refine wpAny_pure ?_
 dsimp only
 rw [List.forIn_nil]
 refine wpAny_pure ?_
 have T0:∀ {Q':Value→Shared→Prop},Q' (.ref C) ⟨h,g,d,t,os⟩→wpAny M A (typeOf (.ref a)) Q' E ⟨h,g,d,t,os⟩:=fun {Q'} q'=>by
  repeat (first | (with_reducible refine wpAny_loadPart_at he ?_;rw [hc]) | wp_step)
  exact q'
 refine wpAny_bind (T0 ?_)
 rw [List.forIn_cons]
 refine wpAny_bind (wpAny_bind (wpAny_bind (L4.at ?_)))
 cases b with
 | true=>rw [if_pos rfl];exact wpAny_pure (wpAny_pure (wpAny_pure hq))
 | false=>
   rw [if_neg Bool.false_ne_true]
   exact wpAny_pure (wpAny_pure (show wpAny M A (pure false) Q E _ from wpAny_pure hq))
def gU (bmB:List Value):List Value→Bool
 | []=>false
 | v :: r=>(v :: r) == bmB || match v with | .ref _=>gU bmB r | _=>false
theorem dq (hp:refuseLoop self "__setattr__" bmB=pure ()):∀ {l},gU bmB l=true→refuseLoop self "__setattr__" l=pure ()
 | [],e=>by cases e
 | v :: r,e=>by
   unfold gU at e
   rcases Bool.or_eq_true_iff.mp e with z | z
   ·rw [beq_iff_eq.mp z];exact hp
   ·split at z
    ·rw [refuseLoop_ref];exact dq hp z
    ·cases z
abbrev veB:List Value:=[.type "ValueError",.type "Exception",.type "BaseException",.type "object"]
abbrev exB:List Value:=[.type "Exception",.type "BaseException",.type "object"]
structure fX (K:Frag) (C:Addr):Prop where
 sa:findIn K (.ref C) "__setattr__" = some (some (.builtin "object.__setattr__"))
 over:((clsIn K C).any fun cd=>gU veB cd.mro || gU exB cd.mro)=true
 hd:((clsIn K C).any fun cd=>cd.hasDict)=true
 ob:mroIn K C (.type "object")=some true
section
variable {prog:Program} {w:World} {A:Around} {E:Value→Shared→Prop} {s:Shared} {K:Frag} {x C:Addr} {o:Obj} {vs:Array Value} {mA:Str→Option Value} {name:Str} {v:Value} {ns:List Str}
theorem iT (hn:s.heap.Ns1 d mA) (hw:Within mA ns) (hz:ns.length<1000)
 (hq:∀ h',h'.Ns1 d (fun y=>if y=name then some v else mA y)→Heap.SameBut d s.heap h'→Q (.done (.ret .none)) { s with heap:=h',toks:=s.toks+1 }):wpAny M A (Builtin.ObjectAttr.storeInDict d (.str name tk) name v) Q E s:=by
 unfold Builtin.ObjectAttr.storeInDict Builtin.ObjectAttr.newKeyGuard
 refine wpAny_bind (wpAny_pure (wpAny_bind (wpAny_nsSet1 hn fun h' n' sb=>?_)))
 obtain ⟨od,es,ep,e1,e2,e3⟩:=n'.count (Within.cons name v hw)
 have few:es.size≤sizeLine:=Nat.le_trans e3 (by rw [List.length_cons,sizeLine_eq];omega)
 refine wpAny_bind (wpAny_lookBehind e1 (by rw [e2];exact pastItsLine_dict (Nat.le_succ_of_le few)) ?_)
 exact wpAny_pure (hq h' n' sb)
theorem pz (X:K.In s.heap) (Z:fX K C) (hf:findIn K (.ref C) name=some none) (hx:s.heap.get? x=some o) (hc:o.cls = .ref C) (hd:o.data = .fields vs)
 (hm:(o.dict=none∧∀ n,mA n=none)∨∃ d,o.dict=some d∧d≠x∧s.heap.Ns1 d mA) (hw:Within mA ns) (hz:ns.length<1000)
 (hq:∀ h' d t',h'.get? x=some { o with dict:=some d }→d≠x→h'.Ns1 d (fun y=>if y=name then some v else mA y)→(∀ b u,b≠x→b≠d→s.heap.get? b=some u→h'.get? b=some u) →
  (o.dict=some d∨(o.dict=none∧s.heap.get? d=none))→Q () { s with heap:=h',toks:=t' }):wpAny (model prog w) A (setAttr (.ref x) name v) Q E s:=by
 obtain ⟨od,I⟩:∃ od,InstAt s.heap x o C od:=by
  rcases hm with ⟨z,_⟩ | ⟨d,z,_,od,_,_,e,_⟩
  ·exact ⟨none,hx,hc,by unfold notCls;rw [hd],by rw [z];trivial⟩
  ·exact ⟨some od,hx,hc,by unfold notCls;rw [hd],by rw [z];exact e⟩
 have SF:=PySem.F.store_ValueError
 obtain ⟨cd,hcd,hov⟩:=any_some Z.over
 obtain ⟨cd',hcd',hhd⟩:=any_some Z.hd
 rw [hcd] at hcd'
 cases hcd'
 refine set_plain X I Z.sa ?_
 obtain ⟨h,g,d,t,os⟩:=s
 have sub:Looks (model prog w) h (isInstance (.ref x) (.type "object")) true:=I.type.andThen (looks_mroIn X Z.ob)
 refine codeAny_call_builtin SF.slot.plain SF.entry (@check_slot (model prog w) _ _ ⟨h,g,d,t+1,os⟩ "object.__setattr__" "object" "__setattr__" (.ref x) [.str name t,v] [] _ SF.kind SF.split sub (SF.args (.ref x) (.str name t) v) ?_)
 have lm:Looks (model prog w) h (mroOf (.ref C)) cd.mro:=(looks_clsIn X hcd).andThen .now
 rw [osa_eq,refuse_eq]
 have l0:=I.type (M:=model prog w)
 have lf:=looks_findIn (M:=model prog w) X hf
 refine wpAny_bind (wpAny_bind (l0.at (wpAny_bind (lm.at ?_))))
 rw [show refuseLoop (.ref x) "__setattr__" cd.mro=pure () from (Bool.or_eq_true_iff.mp hov).elim (dq (SF.passes _)) (dq (PySem.F.store_Exception.passes _))]
 refine wpAny_pure (wpAny_bind (l0.at (wpAny_bind (lf.at ?_))))
 refine wpAny_bind (wpAny_pure ?_)
 refine wpAny_bind (wpAny_pure ?_)
 have lc:=looks_clsIn (M:=model prog w) X hcd
 obtain ⟨oc,odi,oda,osl⟩:=o
 dsimp only at hc hd hm hx
 subst hc hd
 refine wpAny_bind (wpAny_bind (wpAny_loadPart hx (wpAny_bind (lc.at ?_))))
 rw [hhd]
 rcases hm with ⟨rfl,hmA⟩ | ⟨dx,rfl,hne,hns⟩
 ·obtain rfl:mA=fun _=>none:=funext hmA
  have hxs:x≠h.objs.size:=Nat.ne_of_lt (Heap.lt_size hx)
  have hx1:=Heap.get?_push_of_some { cls:=.type "dict",data:=.dict #[] } hx
  refine wpAny_bind (wpAny_alloc' (wpAny_bind (wpAny_update' hx1 ?_)))
  have hg:((h.push { cls:=.type "dict",data:=.dict #[] }).update x fun o=>{ cls:=o.cls,dict:=some h.objs.size,data:=o.data,slots:=o.slots }).get? h.objs.size=some { cls:=.type "dict",data:=.dict #[] }:=
   (Heap.get?_update_ne _ _ _ _ (Ne.symm hxs)).trans (Heap.get?_push_at rfl rfl)
  have hn0:((h.push { cls:=.type "dict",data:=.dict #[] }).update x fun o=>{ cls:=o.cls,dict:=some h.objs.size,data:=o.data,slots:=o.slots }).Ns h.objs.size (fun _=>none):=
   ⟨_,#[],_,hg,rfl,fun e he=>absurd he (by simp),fun _=>rfl⟩
  refine wpAny_pure (a:=some h.objs.size) ?_
  refine iT (Heap.Ns1.of_empty hn0) Within.nil (by decide) fun h' n' sb=>?_
  refine hq h' h.objs.size _ ?_ (Ne.symm hxs) n' (fun b u h1 h2 e=>?_) (.inr ⟨rfl,Heap.get?_none_of_le (Nat.le_refl _)⟩)
  ·refine (sb.2 x hxs).trans (Heap.get?_update_self _ hx1 rfl)
  ·exact (sb.2 b h2).trans ((Heap.get?_update_ne _ _ _ _ h1).trans (Heap.get?_push_of_some _ e))
 ·refine wpAny_pure (a:=some dx) ?_
  refine iT hns hw hz fun h' n' sb=>?_
  exact hq h' dx _ ((sb.2 x (Ne.symm hne)).trans hx) hne n' (fun b u _ h2 e=>(sb.2 b h2).trans e) (.inl rfl)
theorem qE (Y:dQ K C) (hh:hasDictIn K C=true) (X:K.In s.heap) (hf:findIn K (.ref C) name=some none) (hx:s.heap.get? x=some o) (hc:o.cls = .ref C) (hd:o.data = .fields vs) (hdi:o.dict=some d) (hn:s.heap.Ns1 d mA) (hv:mA name=some v) (hv':handedIn v=true)
 (hq:Q v { s with toks:=s.toks+1 }):wpAny (model prog w) A (getAttr (.ref x) name expr) Q E s:=by
 obtain ⟨od,ho,hl⟩:=iX hn
 have I:InstAt s.heap x o C (some od):=⟨hx,hc,by unfold notCls;rw [hd],by rw [hdi];exact ho⟩
 have fo:findObj K C (some od) name=some (.value v):=findObj_own hh hf rfl (by rw [hl,hv])
 obtain ⟨h,g,dr,t,os⟩:=s
 have l0:=I.type (M:=model prog w)
 have l1:=looks_findIn (M:=model prog w) X Y.ga
 have l2:=looks_findIn (M:=model prog w) X Y.gn
 have l3:=looks_find (M:=model prog w) X I fo
 have G:=PySem.F.attrBase_ValueError.ga
 have b1:=G.bind (.ref x)
 unfold getAttr getAttrBy
 refine wpAny_bind (wpAny_mkText (wpAny_holding (wpAny_bind (l0.at (wpAny_bind (l1.at ?_))))))
 show wpAny _ _ (getAttrByItsOwn _ _ _ _ _ _) _ _ _
 unfold getAttrByItsOwn
 refine wpAny_bind (l2.at (wpAny_bind (wpAny_attempt (wpAny_holding ?_))))
 unfold callGetattribute
 rw [show (expr && onTheHeap (Value.builtin "BaseException.__getattribute__"))=false from Bool.and_false _,if_neg Bool.false_ne_true]
 unfold boundAndCalled
 rw [b1]
 refine wpAny_bind (wpAny_pure ?_)
 refine wpAny_call (codeAny_call_builtin G.plain F.entry_bexc_ga (qv Y X I ?_))
 refine wpAny_bind (wpAny_pure (wpAny_bind (wpAny_pure (wpAny_bind (l0.at (wpAny_bind (l3.at ?_)))))))
 exact wpAny_pure (handed_on hv' hq)
end
structure ie (K:Frag) (C fI:Addr) (bmB:List Value) (newId:String):Prop where
 at_:∃ (nm q:Str) (N:Addr) (bs bm:List Value) (hdct:Bool) (sn:List Str) (sub:List Value) (ab:Bool) (col:Option Bool) (dd:Option Addr) (k0 k1 k2 k3 k5:Option Value),
  K.lookup C=some (excClassObj nm q C N bs bm hdct sn sub ab col dd k0 k1 k2 k3 k5 newId)∧tailIn K bmB bm=true
 init:findIn K (.ref C) "__init__" = some (some (.ref fI))
 fn:isFn K (.ref fI)=true
section
variable {prog:Program} {w:World} {A:Around} {E:Value→Shared→Prop} {K:Frag} {C fI:Addr} {rest bmB:List Value} {B newId initId:String} {h:Heap} {g:Array GenState} {d:Drawn} {t:Nat} {os:OsState}
abbrev jh (h:Heap) (C:Addr) (rest:List Value):Heap:=(h.push { cls:=.type "tuple",data:=.seq rest.toArray }).push { cls:=.ref C,data:=.fields #[.ref h.objs.size,.none,.none,.none,.bool false,.none] }
theorem f9 (b) (u) (z:h.get? b=some u):(jh h C rest).get? b=some u:=Heap.get?_push_of_some _ (Heap.get?_push_of_some _ z)
theorem o9:Heap.MadeExcOf h (jh h C rest) (h.objs.size+1) (.ref C) rest where
 keeps:=f9
 new:=Heap.get?_none_of_le (Nat.le_succ _)
 there:=⟨h.objs.size,by heap_get,Heap.get?_none_of_le (Nat.le_refl _),Heap.get?_push_of_some _ (Heap.get?_push_at rfl rfl)⟩
theorem im (F:ExcBaseFacts B newId initId bmB) (X:K.In h) (O:ie K C fI bmB newId) (hz:rest.length≤sizeLine)
 (hq:∀ h' e,Heap.MadeExcOf h h' e (.ref C) rest→wpAny (model prog w) A (call (.ref fI) (.ref e :: rest)) (fun r s'=>r = .none∧Q (.done (.ret (.ref e))) s') E ⟨h',g,d,t,os⟩) :
 wpAny (model prog w) A (Builtin.«type.__call__» ⟨.ref C :: rest,[]⟩) Q E ⟨h,g,d,t,os⟩:=by
 obtain ⟨nm,q,N,bs,bm,hdct,sn,sub,ab,col,dd,k0,k1,k2,k3,k5,l,tl⟩:=O.at_
 have c0:=X _ _ l
 have T:=tail_of_in X tl
 have X1:K.In (jh h C rest):=fun b u z=>f9 b u (X b u z)
 have c1:=X1 _ _ l
 have m1:=(o9 (h:=h) (C:=C) (rest:=rest))
 obtain ⟨tt,e1,_,_⟩:=id m1.there
 have self:(Value.ref C :: bm).contains (.ref C)=true:=by simp
 have l1:=looks_findIn (M:=model prog w) X1 O.init
 have l2:=fun self=>bind_fn (M:=model prog w) X1 self (beq_iff_eq.mp O.fn)
 repeat (first | with_reducible refine wpAny_loadPart_at c0 ?_ | with_reducible refine wpAny_madeBy_exc c0 ?_ | wp_step)
 refine codeAny_call_builtin_code (Code.quiet_builtin _ F.quiet) (wpAny_check_new_subT F T c0 (codeAny_exc_new_subT F T c0 ?_ hz))
 show wpAny _ _ _ _ _ _
 unfold isInstance
 repeat (first | with_reducible refine wpAny_loadPart_at e1 ?_ | (with_reducible refine wpAny_isSubtype_exc c1 ?_;rw [self]) | wp_step)
 refine l1.at (wpAny_holding (wpAny_bind ((l2 _).at ?_)))
 refine wpAny_bind (wpAny_mono (hq _ _ m1) (fun r s' z=>?_) fun _ _ z=>z)
 obtain ⟨rfl,z⟩:=z
 wp_walk
 exact z
theorem qD (F:ExcBaseFacts B newId initId bmB) (X:K.In h) (O:ie K C fI bmB newId) (hz:rest.length≤sizeLine)
 (hq:∀ h' e,Heap.MadeExcOf h h' e (.ref C) rest→wpAny (model prog w) (A.under (.builtin "type.__call__" ⟨.ref C :: rest,[]⟩)) (call (.ref fI) (.ref e :: rest)) (fun r s'=>r = .none∧Q (.ref e) s') E ⟨h',g,d,t,os⟩) :
 wpAny (model prog w) A (call (.ref C) rest) Q E ⟨h,g,d,t,os⟩:=by
 obtain ⟨nm,q,N,bs,bm,hdct,sn,sub,ab,col,dd,k0,k1,k2,k3,k5,l,tl⟩:=O.at_
 have c0:=X _ _ l
 have y1:=tc_lookup
 have y2:=tc_bind (.ref C)
 have y3:Shared.TypeIs ⟨h,g,d,t,os⟩ (.ref C) "type":=⟨_,c0,rfl⟩
 refine wpAny_call (codeAny_of_tree ?_)
 show wpAny _ _ (callAny (.ref C) _) _ _ _
 repeat (any_goals (first | assumption | with_reducible refine wpAny_loadPart_at c0 ?_ | wp_step))
 refine ⟨rfl,codeAny_call_builtin_at (Code.quiet_builtin _ (by decide +kernel)) entry_typeCall (wpAny_check_type_call_sub c0 ?_)⟩
 exact im F X O hz fun h' e m=>hq h' e m
end
section
variable {M:Model} {A:Around} {E:Value→Shared→Prop} {s:Shared}
theorem pW {K:Frag} {env:Env} {C:Addr} {x:Sem Value} {Q:Flow→Shared→Prop} (be:mroIn K C (.type "BaseException")=some true) (ty:typeIn K (.ref C)=some (.type "type")) (hh:A.handled=none)
 (h:wpAny M A x (fun v s1=>∃ p ob vs,v = .ref p∧K.In s1.heap∧s1.heap.get? p=some ob∧ob.cls = .ref C∧ob.data = .fields vs∧vs[1]? = some .none∧E (.ref p) s1) E s):wpAny M A (raiseStmt env (some x) none) Q E s:=by
 unfold raiseStmt
 refine wpAny_bind (wpAny_mono h (fun v s1 z=>?_) fun _ _ z=>z)
 obtain ⟨p,⟨oc,od,oda,osl⟩,vs,rfl,Xk,e1,e2,e3,e4,q⟩:=z
 simp only at e2 e3
 subst e2 e3
 obtain ⟨h1,g1,d1,t1,o1⟩:=s1
 have l0:Looks M h1 (typeOf (.ref p)) (.ref C):=(Looks.ld e1).andThen .now
 have l1:Looks M h1 (isInstance (.ref p) (.type "BaseException")) true:=l0.andThen (looks_mroIn Xk be)
 have l2:=looks_typeIn (M:=M) Xk ty
 have l3:Looks M h1 (isType (.ref p)) false:=(Looks.ld e1).andThen .now
 have l4:Looks M h1 (isExcClass (.ref p)) false:=l3.andThen .now
 refine wpAny_bind (wpAny_pure (wpAny_bind (wpAny_holding ?_)))
 unfold excFromValue raisedInstance setFlight
 refine wpAny_bind (l4.at ?_)
 rw [if_neg Bool.false_ne_true]
 refine wpAny_bind (l1.at ?_)
 rw [if_pos rfl]
 refine wpAny_pure (wpAny_bind (l3.at ?_))
 rw [if_neg Bool.false_ne_true]
 refine wpAny_bind (wpAny_bind (l0.at (wpAny_bind (l2.at ?_))))
 rw [if_pos (show (Value.type "type" == Value.type "type")=true by decide)]
 refine wpAny_pure (wpAny_bind (wpAny_bind (wpAny_field e1 rfl e4 ?_)))
 rw [if_neg (show ¬ ((Value.none != Value.none)=true) by decide)]
 exact wpAny_pure (wpAny_raiseNew_none hh q)
end
end L2.Ev
end
section
namespace L2.Ev
theorem pN {M:Model} {A:Around} {E:Value→Shared→Prop} {Q:Unit→Shared→Prop} {s:Shared} {env:Env} {n:Str} {m:Str→Option Value} {pos:Pos} (hl:env.kindOf n=some .local) (hn:s.heap.Ns env.locals m) (hp:(env.scope.kind == .class || (env.scope.kind == .module && env.locals != env.globals))=false)
 (h:∀ h' v,h'.Ns env.locals (fun y=>if y=n then v else m y)→Heap.SameBut env.locals s.heap h'→Q () { s with heap:=h',toks:=s.toks+1 }):wpAny M A (do bindName env n .none;unbindBehindTheSuite env n pos) Q E s:=by
 refine wpAny_bind (wpAny_bindName (wpAny_storeName_local hl hn (fun h1 n1 s1=>?_) hp))
 unfold unbindBehindTheSuite unbindName;refine wpAny_onRaise (wpAny_bind (wpAny_point (wpAny_bind ?_)))
 unfold deleteName;simp only [hl,hp];rw [if_neg (by decide)]
 refine wpAny_bind (wpAny_nsDel_keeps n1 fun h2 v n2 s2=>?_)
 simp only [if_true,Option.isSome_some,Bool.not_true,Bool.false_eq_true,if_false]
 refine wpAny_pure (wpAny_point (h h2 v ?_ (s1.trans s2)))
 have e:(fun y=>if y=n then v else if y=n then some Value.none else m y)=fun y=>if y=n then v else m y:=by
  funext y
  by_cases z:y=n <;> simp [z]
 rw [e] at n2
 exact n2
section
variable {X:Cx} {z z' z0 z1:Z} {w:Addr→Prop}
theorem yQ {a C:Addr} {l:List (Str×Value)} {f:Str} {v:Value} {Q:Value→Shared→Prop} {b:Bool} (I:Rep X z) (h:ExO z.h a C l) (nl:l≠[]) (Y:dQ X.K C) (hh:PySem.W.hasDictIn X.K C=true) (hf:PySem.W.findIn X.K (.ref C) f=some none) (lk:l.lookup f=some v) (hv:PySem.W.handedIn v=true) (q:Q v { z.s with toks:=z.s.toks+1 }):wpAny X.M X.A (getAttr (.ref a) f b) Q NoE z.s:=by
 obtain ⟨o,vs,e1,e2,e3,e4⟩:=h
 rcases e4 with ⟨w,_⟩ | ⟨d,od,e5,e6,es,ep,e7⟩
 ·exact absurd w nl
 ·exact qE Y hh I.toHR.kin hf e1 e2 e3 e5 (mA:=fun n=>l.lookup n) ⟨od,es,ep,e6,e7⟩ lk hv q
abbrev aL (X:Cx) (e:Value):Cx:={ X with A:=X.A.mark (some e),calm:=false }
theorem Rep.suite (I:Rep X z):Rep (aL X e) z:=⟨⟨I.md,I.fm,(fun c=>nomatch c),I.bs,I.gh,I.rl,I.rn,I.rg,I.ob,I.fu,I.ff,I.br,I.os⟩,⟨I.ok.un,I.ok.kd,I.ok.gl,I.ok.bl,I.ok.ci,I.ok.ch⟩,I.lo,I.ce,I.fl,I.el,I.sl,I.en,I.eo,I.od⟩
theorem Rep.unsuite (h:X.calm=true→X.A.handled=none) (I:Rep (aL X e) z):Rep X z:=⟨⟨I.md,I.fm,h,I.bs,I.gh,I.rl,I.rn,I.rg,I.ob,I.fu,I.ff,I.br,I.os⟩,⟨I.ok.un,I.ok.kd,I.ok.gl,I.ok.bl,I.ok.ci,I.ok.ch⟩,I.lo,I.ce,I.fl,I.el,I.sl,I.en,I.eo,I.od⟩
theorem Go.unsuite (g:Go (aL X e) z z'):Go X z z':=⟨g.st,g.ow⟩
theorem Rep.gone {h':Heap} {t:Nat} {i:Nat} {x:Str} {m:Str→Option Value} {v:Option Value} (I:Rep X z) (hN:X.N.Nodup) (hi:X.N[i]? = some x) (hk:X.env.scope.names.lookup x=some .local) (lk:∀ (i:Nat) (x:Str) (u:Value),X.N[i]? = some x→z.σ[i]? = some (some u)→Vis X.env.scope x→lT X.env z.s.heap m x u)
 (hn:h'.Ns X.env.locals (fun y=>if y=x then v else m y)) (sb:Heap.SameBut X.env.locals z.s.heap h'):Rep X { z with t:=⟨z.t.env.set i none,z.t.ow.filter (· != i),z.t.st⟩,σ:=z.σ.set i none,s:={ z.s with heap:=h',toks:=t } }∧Go X z { z with t:=⟨z.t.env.set i none,z.t.ow.filter (· != i),z.t.st⟩,σ:=z.σ.set i none,s:={ z.s with heap:=h',toks:=t } }:=by
 have ne:∀ {b:Addr},b≠X.env.locals→h'.get? b=z.h b:=fun n=>sb.2 _ n
 have lL:Lc X X.env.locals:=.inl rfl
 have nG:∀ {b o},z.G b=some o→b≠X.env.locals:=fun e q=>by rw [q,(I.fl _ lL).1] at e;cases e
 have nM:∀ {b},Mu z.ρ b→b≠X.env.locals:=fun m q=>(I.fl _ lL).2 (q ▸ m)
 obtain ⟨oL,es,ep,hoL,hdL,_⟩:=id hn
 have ck:∀ y c u,X.env.cells.lookup y=some c→z.s.heap.IsCell c u→h'.IsCell c u:=fun y c u e q=>q.sameBut sb (I.cne y c e)
 have hiσ:i<z.σ.length:=by rw [I.sl];exact (List.getElem?_eq_some_iff.mp hi).1
 have mf:∀ {j},j∈z.t.ow.filter (· != i)→j∈z.t.ow∧j≠i:=fun m=>⟨(List.mem_filter.mp m).1,by simpa using (List.mem_filter.mp m).2⟩
 have fu:h'.FunFrames X.base X.fr:=jr (fun b o e nf=>by
  by_cases q:b=X.env.locals
  ·subst q;exact ⟨oL,hoL,fun vs e=>by rw [hdL] at e;cases e⟩
  ·exact ⟨o,(ne q).trans e,nf⟩) I.fu
 refine ⟨⟨⟨I.md,I.fm,I.hd,I.bs,fun b o e=>(ne (nG e)).trans (I.gh b o e),I.rl,I.rn,I.rg,fun n o p h1 h2=>(I.ob n o p h1 h2).mono (List.prefix_refl _) (.refl _) fun b hb o e=>(ne (nM ⟨p,List.mem_of_getElem? h2,hb⟩)).trans e,fu,I.ff,I.br,I.os⟩,I.ok,⟨_,hn,fun j y u e1 e2 e3=>?_⟩,fun y c e=>let ⟨u,q⟩:=I.ce y c e;⟨u,ck y c u e q⟩,I.fl,by show (z.t.env.set i none).length=(z.σ.set i none).length;rw [List.length_set,List.length_set];exact I.el,by show (z.σ.set i none).length=_;rw [List.length_set];exact I.sl,fun j d n e=>?_,fun j mj=>?_,fun j k a m1 m2 e1 e2=>?_⟩,⟨⟨List.prefix_refl _,.refl _,fun _ _ e=>.inl e,fun _ m=>.inl m,fun b o e=>?_,fun b o e _ w _=>(ne fun q=>w (.inr (.inl q))).trans e,fun b o e _ w _=>⟨o.slots,(ne fun q=>w (.inr (.inl q))).trans e⟩⟩,fun b ⟨j,mj,e⟩=>?_⟩⟩
 ·by_cases q:j=i
  ·subst q
   rw [List.getElem?_set_self hiσ] at e2;cases e2
  ·rw [List.getElem?_set_ne (Ne.symm q)] at e2
   rcases lk j y u e1 e2 e3 with ⟨k,e⟩ | ⟨k,c,e,w⟩
   ·have:y≠x:=fun e=>q (gR hN e1 (e ▸ hi))
    exact .inl ⟨k,by simp [this,e]⟩
   ·exact .inr ⟨k,c,e,ck y c _ e w⟩
 ·have e:(z.t.env.set i none)[j]? = some (some d):=e
  by_cases q:j=i
  ·subst q
   rw [List.getElem?_set_self (by rw [I.el];exact hiσ)] at e;cases e
  ·rw [List.getElem?_set_ne (Ne.symm q)] at e
   obtain ⟨u,e1,r⟩:=I.en j d (fun m=>n (List.mem_filter.mpr ⟨m,by simpa using q⟩)) e
   exact ⟨u,(List.getElem?_set_ne (Ne.symm q)).trans e1,r⟩
 ·obtain ⟨m1,q⟩:=mf mj
  obtain ⟨d,a,o,h1,h2,h3,r,f⟩:=I.eo j m1
  exact ⟨d,a,o,(List.getElem?_set_ne (Ne.symm q)).trans h1,(List.getElem?_set_ne (Ne.symm q)).trans h2,h3,r.mono (List.prefix_refl _) (.refl _) fun b hb o e=>(ne fun w=>f.2.2.2 (by rcases hb with rfl | rfl <;> exact .inl w)).trans e,f⟩
 ·obtain ⟨a1,q1⟩:=mf m1
  obtain ⟨a2,q2⟩:=mf m2
  exact I.od j k a a1 a2 ((List.getElem?_set_ne (Ne.symm q1)).symm.trans e1) ((List.getElem?_set_ne (Ne.symm q2)).symm.trans e2)
 ·by_cases q:b=X.env.locals
  ·subst q;exact ⟨oL,hoL⟩
  ·exact ⟨o,(ne q).trans e⟩
 ·obtain ⟨m1,q⟩:=mf mj
  exact .inl ⟨j,m1,(List.getElem?_set_ne (Ne.symm q)).symm.trans e⟩
theorem tf {a T:Addr} {fl cls:Value} {dx:Option Addr} (x:Stp X.fr w z z') (I:Rep X z') (r:XR X.W z' c l cls dx) (na:Nob X z z' a) (t:Tr z'.s.heap a cls dx T fl):∃ z2,z2.s=z'.s∧z2.t=z'.t∧Stp X.fr w z z2∧(∀ b,Own z2 b↔Own z' b)∧Rep X z2∧RD X.W z2.ρ z2.G (.ins c l) (.ref a)∧(z2.σ=z'.σ):=by
 obtain ⟨oe,vs,_,_,he,⟨hc,hd⟩,hda,_⟩:=t
 have gg:Sub z'.G fun b=>if b=a then some oe else z'.G b:=fun b o q=>by
  dsimp only
  by_cases c:b=a
  ·subst c;rw [na.2.1.1] at q;cases q
  ·rw [if_neg c];exact q
 have rd:RD X.W z'.ρ (fun b=>if b=a then some oe else z'.G b) (.ins c l) (.ref a):=by
  obtain ⟨i,h1,h2,h3,h4,h5⟩:=r
  subst h3
  rcases h5 with ⟨rfl,rfl⟩ | ⟨d,od,us,rfl,h6,h7,h8⟩
  ·exact ⟨a,i,[],rfl,h1,h4,.inr ⟨h2,oe,vs,if_pos rfl,hc,hda,.inl ⟨by simp,hd⟩⟩,rfl⟩
  ·exact ⟨a,i,us,rfl,h1,h4,.inr ⟨h2,oe,vs,if_pos rfl,hc,hda,.inr ⟨d,od,hd,gg _ _ h6,h7⟩⟩,h8.mono (List.prefix_refl _) gg⟩
 refine ⟨{ z' with G:=fun b=>if b=a then some oe else z'.G b },rfl,rfl,⟨x.pr,x.gg.trans gg,fun b o q=>?_,x.rn,x.th,x.sm,x.sl⟩,fun _=>.rfl,I.grw rfl I.br (fun _ _ e _=>e) (fun _ o e=>⟨o.slots,e⟩) gg (fun b o q=>?_) fun b o q=>?_,rd,rfl⟩
 all_goals
  have q:(if b=a then some oe else z'.G b)=some o:=q
  by_cases c:b=a
 ·subst c;exact .inr (.inl na.1)
 ·rw [if_neg c] at q;exact x.gn b o q
 ·subst c;rw [if_pos rfl] at q;cases q;exact he
 ·rw [if_neg c] at q;exact I.gh b o q
 ·subst c;exact .inr na.2
 ·rw [if_neg c] at q;exact .inl q
def p9 (X:Cx) (j:Nat) (x:Str):Prop:=∃ i,X.W.ci[j]? = some i∧X.mg x=some (.ref i.ad)∧mS X.K i.ad∧∀ c k ic,X.Γ.cl[c]? = some k→X.W.ci[c]? = some ic→X.W.what[c]? = some 2→PySem.W.mroIn X.K ic.ad (.ref i.ad)=some (c == j || k.sup.contains j)
def HL (X:Cx) (hs:List ExceptHandler) (r:S):Prop:=∀ (z z1:Z) (c:Nat) (l:List D) (e:Value) (o:ao),XN X (Pv X z) z z1 c l e .none→(∀ a,Own z1 a→Own z a∨z.h a=none)→o=exS.hnd X.Γ X.cal X.cal1 r c l z1.t→o≠.bad→wpAny X.M X.A (handleBy e X.env hs) (Ps X z o) (PxS X z o) z1.s
theorem wX:HL X [] .skip:=fun z z1 c l e o _ _ e0 nb=>absurd e0 nb
theorem zG {j i:Nat} {Bn n:Str} {np hpos:Pos} {hs:List ExceptHandler} {suite:List Stmt} {b₀:Stmt} {b r:S} (hS:∀ e,LSs (aL X e) (b₀ :: suite) b) (hx:p9 X j Bn) (hg:Gl X Bn) (hdb:(Bn == ("__debug__":Str))=false) (hN:X.N.Nodup) (hi:X.N[i]? = some n) (hl:X.env.scope.names.lookup n=some .local) (hr:HL X hs r):HL X (.ExceptHandler (some (.Name Bn np)) (some n) (b₀ :: suite) hpos :: hs) (.hand j (some i) b r):=fun z z1 c l e o hn3 ow1 e0 nb=>by
 have e0:o=(match cX X.Γ j c with
  | some true=>(match X.ex b ⟨z1.t.env.set i (some (.ins c l)),z1.t.ow.filter (· != i),z1.t.st⟩ with
    | .nx s=>.nx ⟨s.env.set i none,s.ow.filter (· != i),s.st⟩
    | .rt d s=>.rt d s
    | _=>.bad)
  | some false=>exS.hnd X.Γ X.cal X.cal1 r c l z1.t
  | none=>.bad):=e0
 obtain ⟨p,T,cls,dx,rfl,x3,I3,r3,na3,t3,nT3⟩:=id hn3
 refine wpAny_handleBy_cons (codeAny_handlers_test ?_) (fun z=>nomatch z)
 obtain ⟨ic,w1,w2,w3,w4⟩:=hx
 obtain ⟨i2,v1,v2,v3,v4,v5⟩:=id r3
 cases ek:X.Γ.cl[c]? with
 | none=>exact absurd (by rw [e0];unfold cX;rw [ek];rfl) nb
 | some k=>
   have hsub:=w4 c k i2 ek v1 v2
   rw [show cX X.Γ j c=some (c == j || k.sup.contains j) by unfold cX;rw [ek];rfl] at e0
   generalize (c == j || k.sup.contains j)=kk at e0 hsub
   refine bo (X:=aL X (.ref p)) (z:=z1) I3.suite hg w2 ?_ hdb
   obtain ⟨oe,vs,oT,tt,he,⟨hcl,hdi⟩,hda,_⟩:=id t3
   refine gM I3.toHR.kin w3 he (hcl.trans v3) hsub ?_
   cases kk with
   | false=>exact hr z z1 c l _ o hn3 ow1 e0 nb
   | true=>
     have e0:o=(match X.ex b ⟨z1.t.env.set i (some (.ins c l)),z1.t.ow.filter (· != i),z1.t.st⟩ with
      | .nx s=>.nx ⟨s.env.set i none,s.ow.filter (· != i),s.st⟩
      | .rt d s=>.rt d s
      | _=>.bad):=e0
     show codeAny _ _ _ _ _
     refine codeAny_handlers_suite_as (cJ (z':=z1) (fr:=none) hn3 fun h4 hn4=>?_)
     obtain ⟨p',T',cls',dx',ep,x4,I4,r4,na4,t4,nT4⟩:=hn4
     cases ep
     obtain ⟨z5,e5,t5,x5,o5,I5,rd5,s5⟩:=tf x4 I4 r4 na4 t4
     rw [show ({ z1.s with heap:=h4 }:Shared)=z5.s from e5.symm]
     have g5:Go X z z5:=⟨x5,fun b ob=>ow1 b ((o5 b).mp ob)⟩
     refine cn (X:=aL X (.ref p)) (own:=false) (d:=.ins c l) (z:=z5) (z0:=z5) .refl I5.suite hN hi (.inl hl) rd5 fun s6 a6 _ _ I6 g6=>?_
     have t6:stV z5.t i (.ins c l) false=⟨z1.t.env.set i (some (.ins c l)),z1.t.ow.filter (· != i),z1.t.st⟩:=by rw [show z5.t=z1.t from t5];rfl
     rw [← t6] at e0
     have nb6:(aL X (.ref p)).ex b (stV z5.t i (.ins c l) false)≠.bad:=fun q=>nb (by rw [e0,show X.ex b (stV z5.t i (.ins c l) false) = .bad from q])
     refine wpAny_mono (hS (.ref p) { z5 with t:=stV z5.t i (.ins c l) false,σ:=z5.σ.set i (some (.ref p)),s:=s6 } I6 nb6) (fun f s7 h7=>?_) fun e s7 ⟨z7,c7,l7,_,q7,_⟩=>absurd (by rw [e0,show X.ex b (stV z5.t i (.ins c l) false)=_ from q7]) nb
     have fin:∀ z7,z7.s=s7→Go (aL X (.ref p)) { z5 with t:=stV z5.t i (.ins c l) false,σ:=z5.σ.set i (some (.ref p)),s:=s6 } z7→Rep (aL X (.ref p)) z7→(∀ z8,z8.t=⟨z7.t.env.set i none,z7.t.ow.filter (· != i),z7.t.st⟩→z8.ρ=z7.ρ→z8.G=z7.G→Go X z z8→Rep X z8→Ps X z o f z8.s)→wpAny X.M X.A (do bindName X.env n .none;unbindBehindTheSuite X.env n hpos) (fun _ s3=>Ps X z o f s3) (PxS X z o) s7:=fun z7 e7 g7 I7 hh=>by
      subst e7
      have J7:=I7.unsuite I3.hd
      obtain ⟨m,hn,lk⟩:=id J7.lo
      refine pN hl hn (by rw [I3.ok.kd];rfl) fun h8 v n8 s8=>?_
      obtain ⟨I8,g8⟩:=J7.gone (t:=z7.s.toks+1) hN hi hl lk n8 s8
      exact hh { z7 with t:=⟨z7.t.env.set i none,z7.t.ow.filter (· != i),z7.t.st⟩,σ:=z7.σ.set i none,s:={ z7.s with heap:=h8,toks:=z7.s.toks+1 } } rfl rfl rfl (((g5.trans g6.unsuite).trans g7.unsuite).trans g8) I8
     cases q7:X.ex b (stV z5.t i (.ins c l) false) with
     | nx t7=>
       rw [show (aL X (.ref p)).ex b (stV z5.t i (.ins c l) false) = .nx t7 from q7] at h7
       rw [q7] at e0
       obtain ⟨rfl,z7,e7,et7,g7,I7⟩:=h7
       refine fin z7 e7 g7 I7 fun z8 e8 _ _ g8 I8=>nxt g8 I8 ?_
       rw [e0,e8,et7]
     | rt d t7=>
       rw [show (aL X (.ref p)).ex b (stV z5.t i (.ins c l) false) = .rt d t7 from q7] at h7
       rw [q7] at e0
       obtain ⟨u,z7,rfl,e7,et7,g7,I7,rd7⟩:=h7
       refine fin z7 e7 g7 I7 fun z8 e8 r8 G8 g8 I8=>?_
       rw [e0]
       exact ⟨u,z8,rfl,rfl,by rw [e8];exact et7,g8,I8,by rw [r8,G8];exact rd7⟩
     | exc c7 l7 t7=>rw [q7] at e0;exact absurd e0 nb
     | bad=>exact absurd q7 nb6
theorem zH {j:Nat} {Bn:Str} {np hpos:Pos} {hs:List ExceptHandler} {suite:List Stmt} {b₀:Stmt} {b r:S} (hS:∀ e,LSs (aL X e) (b₀ :: suite) b) (hx:p9 X j Bn) (hg:Gl X Bn) (hdb:(Bn == ("__debug__":Str))=false) (hr:HL X hs r):HL X (.ExceptHandler (some (.Name Bn np)) none (b₀ :: suite) hpos :: hs) (.hand j none b r):=fun z z1 c l e o hn3 ow1 e0 nb=>by
 have e0:o=(match cX X.Γ j c with
  | some true=>(match X.ex b z1.t with | .nx s=>.nx s | .rt d s=>.rt d s | _=>.bad)
  | some false=>exS.hnd X.Γ X.cal X.cal1 r c l z1.t
  | none=>.bad):=e0
 obtain ⟨p,T,cls,dx,rfl,x3,I3,r3,na3,t3,nT3⟩:=id hn3
 refine wpAny_handleBy_cons (codeAny_handlers_test ?_) (fun z=>nomatch z)
 obtain ⟨ic,w1,w2,w3,w4⟩:=hx
 obtain ⟨i2,v1,v2,v3,v4,v5⟩:=id r3
 cases ek:X.Γ.cl[c]? with
 | none=>exact absurd (by rw [e0];unfold cX;rw [ek];rfl) nb
 | some k=>
   have hsub:=w4 c k i2 ek v1 v2
   rw [show cX X.Γ j c=some (c == j || k.sup.contains j) by unfold cX;rw [ek];rfl] at e0
   generalize (c == j || k.sup.contains j)=kk at e0 hsub
   refine bo (X:=aL X (.ref p)) (z:=z1) I3.suite hg w2 ?_ hdb
   obtain ⟨oe,vs,oT,tt,he,⟨hcl,hdi⟩,hda,_⟩:=id t3
   refine gM I3.toHR.kin w3 he (hcl.trans v3) hsub ?_
   cases kk with
   | false=>exact hr z z1 c l _ o hn3 ow1 e0 nb
   | true=>
     have e0:o=(match X.ex b z1.t with | .nx s=>.nx s | .rt d s=>.rt d s | _=>.bad):=e0
     show codeAny _ _ _ _ _
     refine codeAny_handlers_suite (cJ (z':=z1) (fr:=none) hn3 fun h4 hn4=>?_)
     obtain ⟨p',T',cls',dx',ep,x4,I4,r4,na4,t4,nT4⟩:=hn4
     cases ep
     have g4:Go X z { z1 with s:={ z1.s with heap:=h4 } }:=⟨x4,ow1⟩
     have nb6:(aL X (.ref p)).ex b z1.t≠.bad:=fun q=>nb (by rw [e0,show X.ex b z1.t = .bad from q])
     refine wpAny_mono (hS (.ref p) { z1 with s:={ z1.s with heap:=h4 } } I4.suite nb6) (fun f s7 h7=>?_) fun e s7 ⟨z7,c7,l7,_,q7,_⟩=>absurd (by rw [e0,show X.ex b z1.t=_ from q7]) nb
     cases q7:X.ex b z1.t with
     | nx t7=>
       rw [show (aL X (.ref p)).ex b z1.t = .nx t7 from q7] at h7
       rw [q7] at e0
       obtain ⟨rfl,z7,e7,et7,g7,I7⟩:=h7
       subst e7
       exact nxt (g4.trans g7.unsuite) (I7.unsuite I3.hd) (by rw [e0,et7])
     | rt d t7=>
       rw [show (aL X (.ref p)).ex b z1.t = .rt d t7 from q7] at h7
       rw [q7] at e0
       obtain ⟨u,z7,rfl,e7,et7,g7,I7,rd7⟩:=h7
       subst e7
       show Ps X z o (.ret u) z7.s
       rw [e0]
       exact ⟨u,z7,rfl,rfl,et7,g4.trans g7.unsuite,I7.unsuite I3.hd,rd7⟩
     | exc c7 l7 t7=>rw [q7] at e0;exact absurd e0 nb
     | bad=>exact absurd q7 nb6
theorem xR {h0:ExceptHandler} {hs:List ExceptHandler} {pos:Pos} {body:List Stmt} {a r:S} (F:oW X) (hb:LSs X body a) (hh:HL X (h0 :: hs) r):LS X (.Try body (h0 :: hs) [] [] pos) (.try_ a r):=fun z I nb=>by
 have e0:X.ex (.try_ a r) z.t=(match X.ex a z.t with
  | .exc c l s=>exS.hnd X.Γ X.cal X.cal1 r c l s
  | r=>r):=rfl
 generalize X.ex (.try_ a r) z.t=o at e0 nb
 have nb1:X.ex a z.t≠.bad:=fun q=>nb (by rw [e0,q])
 refine wpAny_Try_except (wpAny_mono (hb z I nb1) (fun f s1 h=>?_) fun e s1 h=>?_)
 ·cases q:X.ex a z.t with
  | nx t=>rw [q] at h e0;obtain ⟨rfl,h⟩:=h;exact wpAny_execs_nil (show Ps X z o .next s1 by rw [e0];exact ⟨rfl,h⟩)
  | rt d t=>rw [q] at h e0;obtain ⟨u,z',rfl,h⟩:=h;exact show Ps X z o (.ret u) s1 by rw [e0];exact ⟨u,z',rfl,h⟩
  | exc c l t=>rw [q] at h;exact h.elim
  | bad=>exact absurd q nb1
 ·obtain ⟨z1,c,l,e1,q1,x1,I1,xo⟩:=h
  subst e1
  rw [q1] at e0
  exact j9 F x1.st I1 xo fun h2 hn2=>cJ (z':={ z1 with s:={ z1.s with heap:=h2 } }) (fr:=none) hn2 fun h3 hn3=>hh z { z1 with s:={ z1.s with heap:=h3 } } c l e o hn3 x1.ow e0 nb
end
end L2.Ev
end
section
namespace L2.Ev
structure Pri (X:Cx) (p:Addr) (nm:List Str) (P:List Addr→List (Str×Value)→Heap→Prop):Prop where
 ex:∀ {ch l h},P ch l h→∀ b∈ch,∃ o,h.get? b=some o
 keep:∀ {ch l h h'},P ch l h→(∀ b∈ch,∀ o,h.get? b=some o→h'.get? b=some o)→P ch l h'
 set:∀ {A:Around} {s:Shared} {ch:List Addr} {l:List (Str×Value)} {f:Str} {v:Value} {Q:Unit→Shared→Prop} {E:Value→Shared→Prop},X.K.In s.heap→P ch l s.heap→f∈nm→f ∉ l.map (·.1)→l.length<900 →
  (∀ h' ch' t,P ch' (l ++ [(f,v)]) h'→(∀ b∈ch',b∈ch∨s.heap.get? b=none)→(∀ b∈ch,b∈ch')→(∀ b o,b ∉ ch→s.heap.get? b=some o→h'.get? b=some o)→Q () { s with heap:=h',toks:=t })→wpAny X.M A (setAttr (.ref p) f v) Q E s
theorem iY {f:Str} {v:Value}:∀ {l:List (Str×Value)},f ∉ l.map (·.1)→∀ g,(l ++ [(f,v)]).lookup g=if g=f then some v else l.lookup g
 | [],_,g=>by
   show (match g == f with | true=>some v | false=>none)=if g=f then some v else none
   by_cases c:g=f
   ·rw [if_pos c,beq_iff_eq.mpr c]
   ·rw [if_neg c,beq_eq_false_iff_ne.mpr c]
 | (a,b) :: r,h,g=>by
   have h':f≠a∧f ∉ r.map (·.1):=by simpa using h
   have ih:=iY (v:=v) h'.2 g
   show (match g == a with | true=>some b | false=>(r ++ [(f,v)]).lookup g)=if g=f then some v else (match g == a with | true=>some b | false=>r.lookup g)
   by_cases c:g=a
   ·have gf:g≠f:=fun w=>h'.1 (w.symm.trans c)
    rw [beq_iff_eq.mpr c,if_neg gf]
   ·rw [beq_eq_false_iff_ne.mpr c];exact ih
theorem te (l:List (Str×Value)):PySem.Within (fun n=>l.lookup n) (l.map (·.1)):=fun y hy=>by
 cases q:l.lookup y with
 | none=>exact absurd q hy
 | some u=>
   obtain ⟨l1,l2,e1,_⟩:=List.lookup_eq_some_iff.mp q
   rw [e1];simp
section
variable {X:Cx} {z z' z0 z1:Z} {p C:Addr} {nm:List Str}
theorem oE (Z:fX X.K C) (na:∀ f∈nm,PySem.W.findIn X.K (.ref C) f=some none):Pri X p nm (fun ch l h=>∃ o vs,h.get? p=some o∧o.cls = .ref C∧o.data = .fields vs∧vs[1]? = some .none∧((l = []∧o.dict=none∧ch = [p])∨∃ d od,o.dict=some d∧d≠p∧ch = [p,d]∧h.get? d=some od∧NsO od l)) where
 ex:=fun ⟨o,vs,h1,_,_,_,h5⟩ b hb=>by
  rcases h5 with ⟨_,_,e⟩ | ⟨d,od,_,_,e,h6,_⟩
  ·rw [e] at hb;rw [List.mem_singleton.mp hb];exact ⟨o,h1⟩
  ·rw [e] at hb
   rcases List.mem_cons.mp hb with w | w
   ·rw [w];exact ⟨_,h1⟩
   ·rw [List.mem_singleton.mp w];exact ⟨od,h6⟩
 keep:=fun ⟨o,vs,h1,h2,h3,h4,h5⟩ k=>by
  rcases h5 with ⟨a,b,e⟩ | ⟨d,od,a,b,e,h6,h7⟩
  ·exact ⟨o,vs,k p (by rw [e];simp) _ h1,h2,h3,h4,.inl ⟨a,b,e⟩⟩
  ·exact ⟨o,vs,k p (by rw [e];simp) _ h1,h2,h3,h4,.inr ⟨d,od,a,b,e,k d (by rw [e];simp) _ h6,h7⟩⟩
 set:=fun {A s ch l f v Q E} hK ⟨o,vs,h1,h2,h3,h4,h5⟩ hf hn hz hq=>by
  refine pz (mA:=fun n=>l.lookup n) (ns:=l.map (·.1)) hK Z (na f hf) h1 h2 h3 ?_ (te l) (by rw [List.length_map];omega) fun h' d t g1 ne n k ds=>?_
  ·rcases h5 with ⟨rfl,b,_⟩ | ⟨d,od,a,b,_,h6,es,ep,h7⟩
   ·exact .inl ⟨b,fun _=>rfl⟩
   ·exact .inr ⟨d,a,b,od,es,ep,h6,h7⟩
  ·obtain ⟨od2,es,ep,e1,e2,e3,e4,e5⟩:=n
   refine hq h' [p,d] t ⟨_,vs,g1,h2,h3,h4,.inr ⟨d,od2,rfl,ne,rfl,e1,es,ep,e2,e3,e4,fun n=>(e5 n).trans (iY hn n).symm⟩⟩ (fun b hb=>?_) (fun b hb=>?_) fun b u nb e=>?_
   ·rcases h5 with ⟨_,b1,e⟩ | ⟨d',od,a,_,e,_⟩
    ·rcases List.mem_cons.mp hb with w | w
     ·left;rw [e,w];simp
     ·rw [List.mem_singleton.mp w]
      rcases ds with q | ⟨_,q⟩
      ·rw [b1] at q;cases q
      ·exact .inr q
    ·rcases ds with q | ⟨q,_⟩
     ·rw [a] at q;cases q;rw [e];exact .inl hb
     ·rw [a] at q;cases q
   ·rcases h5 with ⟨_,b1,e⟩ | ⟨d',od,a,_,e,_⟩
    ·rw [e] at hb;rw [List.mem_singleton.mp hb];simp
    ·rcases ds with q | ⟨q,_⟩
     ·rw [a] at q;cases q;rw [e] at hb;exact hb
     ·rw [a] at q;cases q
   ·have np:b≠p:=fun w=>by
     rcases h5 with ⟨_,_,e'⟩ | ⟨_,_,_,_,e',_⟩ <;> exact nb (by rw [e',w];simp)
    refine k b u np (fun w=>?_) e
    rcases ds with q | ⟨_,q⟩
    ·rcases h5 with ⟨_,b1,_⟩ | ⟨d',od,a,_,e',_⟩
     ·rw [b1] at q;cases q
     ·rw [a] at q;cases q;exact nb (by rw [e',w];simp)
    ·rw [w,q] at e;cases e
def Bas (X:Cx) (p:Addr) (P:List Addr→List (Str×Value)→Heap→Prop):Prop:=∀ {A:Around} {s:Shared} {ch:List Addr} {l:List (Str×Value)} {ur:List Value} {Q:Value→Shared→Prop} {E:Value→Shared→Prop},X.K.In s.heap→P ch l s.heap→ur.length≤sizeLine →
 (∀ h',P ch l h'→(∀ b∈ch,∃ o,h'.get? b=some o)→(∀ b o,b ∉ ch→s.heap.get? b=some o→h'.get? b=some o)→Q .none { s with heap:=h' })→wpAny X.M A (call (.builtin "ValueError.__init__") (.ref p :: ur)) Q E s
theorem tG {fI:Addr} (O:ie X.K C fI veB "ValueError.__new__") (Pr:Pri X p nm fun ch l h=>∃ o vs,h.get? p=some o∧o.cls = .ref C∧o.data = .fields vs∧vs[1]? = some .none∧((l = []∧o.dict=none∧ch = [p])∨∃ d od,o.dict=some d∧d≠p∧ch = [p,d]∧h.get? d=some od∧NsO od l)):Bas X p (fun ch l h=>∃ o vs,h.get? p=some o∧o.cls = .ref C∧o.data = .fields vs∧vs[1]? = some .none∧((l = []∧o.dict=none∧ch = [p])∨∃ d od,o.dict=some d∧d≠p∧ch = [p,d]∧h.get? d=some od∧NsO od l)):=fun {A s ch l ur Q E} K2 hP lz hq=>by
 have F:=PySem.F.excBase_ValueError
 obtain ⟨ob,fv,e1,e2,e3,e4,e5⟩:=id hP
 obtain ⟨nm',q',N,bs,bm,hdct,sn,sub,ab,col,dd,k0,k1,k2,k3,k5,l',tl⟩:=O.at_
 have sz:1<fv.size:=by
  cases Nat.lt_or_ge 1 fv.size with
  | inl h=>exact h
  | inr h=>rw [Array.getElem?_eq_none h] at e4;cases e4
 have z0:0<fv.size:=Nat.lt_of_succ_lt sz
 obtain ⟨h2,g2,d2,t2,o2⟩:=s
 refine wpAny_call (codeAny_call_builtin F.init.plain F.initEntry (wpAny_check_init_subT F (PySem.W.tail_of_in K2 tl) (K2 _ _ l') e1 e2 ?_))
 have e1':=Heap.get?_push_of_some (h:=h2) { cls:=.type "tuple",data:=.seq ur.toArray } e1
 obtain ⟨f0,e0⟩:∃ f0,fv[0]? = some f0:=⟨_,Array.getElem?_eq_getElem z0⟩
 unfold Builtin.«BaseException.__init__» Builtin.BaseException.bexcPut
 refine wpAny_bind (wpAny_newTuple ?_ lz)
 refine wpAny_bind (wpAny_bind (wpAny_field e1' e3 e0 (wpAny_bind (wpAny_setField e1' e3 z0 ?_))))
 have dT:=Obj.data_mapFields e3 (·.setIfInBounds 0 (Value.ref h2.objs.size))
 have gs:=Heap.get?_update_self (h:=h2.push { cls:=.type "tuple",data:=.seq ur.toArray }) (Obj.mapFields (·.setIfInBounds 0 (Value.ref h2.objs.size))) e1' (Obj.isFreed_of_fields dT)
 have ot:∀ b o,b≠p→h2.get? b=some o→((h2.push { cls:=.type "tuple",data:=.seq ur.toArray }).update p (Obj.mapFields (·.setIfInBounds 0 (Value.ref h2.objs.size)))).get? b=some o:=fun b o n e=>(Heap.get?_update_other _ _ (Ne.symm n)).trans (Heap.get?_push_of_some _ e)
 have fin:=hq ((h2.push { cls:=.type "tuple",data:=.seq ur.toArray }).update p (Obj.mapFields (·.setIfInBounds 0 (Value.ref h2.objs.size)))) ⟨_,_,gs,by rw [Obj.cls_mapFields];exact e2,dT,by rw [Array.getElem?_setIfInBounds_ne (by decide)];exact e4,e5.imp (fun ⟨a,b,c⟩=>⟨a,by rw [gm];exact b,c⟩) fun ⟨d,od,a,b,c,e,f⟩=>⟨d,od,by rw [gm];exact a,b,c,ot d od b e,f⟩⟩ (fun b hb=>by
  by_cases q:b=p
  ·rw [q];exact ⟨_,gs⟩
  ·obtain ⟨o,e⟩:=Pr.ex hP b hb
   exact ⟨o,ot b o q e⟩) (fun b o n e=>ot b o (fun q=>n (by rcases e5 with ⟨_,_,c⟩ | ⟨_,_,_,_,c,_⟩ <;> (rw [c,q];simp))) e)
 cases f0 <;> first | exact wpAny_pure (wpAny_pure fin) | exact wpAny_letGo (wpAny_pure fin)
structure ka (K:Fg) (B:Addr):Prop where
 ga:PySem.W.specialIn K (.ref B) "__getattribute__" = some (some (.builtin "type.__getattribute__"))
 rd:PySem.W.readsIn K B (.type "type")=true
 at_:PySem.W.findCls K (.ref B) (.type "type") "__init__" = some (.val (.builtin "ValueError.__init__"))
inductive JsP (X:Cx) (ck:List Nat):List Expr→Prop
 | nil:JsP X ck []
 | c {x:Str} {j:Nat} {p:Pos} {r}:x.length≤1000→JsP X ck r→JsP X ck (.Constant (.str x) j p :: r)
 | f {x:Str} {i:Nat} {p q:Pos} {r}:i∈ck→X.N[i+1]? = some x→Vis X.env.scope x→((x == ("__debug__":Str)) || (x == ("__classdict__":Str)))=false→JsP X ck r→JsP X ck (.FormattedValue (.Name x p) (-1) none q :: r)
def SmV (σ:List (Option Value)) (ck:List Nat):Prop:=∀ i∈ck,∃ (n:Nat) (t:Tok),σ[i+1]? = some (some (.int n t))∧n<100000
theorem xe {E:Value→Shared→Prop} {ck:List Nat} {es:List Expr} (h:JsP X ck es):∀ {z:Z} {acc:Str} {Q:Str→Shared→Prop},Rep X z→SmV z.σ ck→acc.length+1000 * es.length≤100000→(∀ out t,out.length≤100000→Q out { z.s with toks:=t })→Joins X.M X.A E (evalEach es X.env) acc Q z.s:=by
 have sz:∀ {n},n≤100000→n≤sizeLine:=fun h=>Nat.le_trans h (by decide)
 induction h with
 | nil=>exact fun I hs hl q=>q _ _ (by simpa using hl)
 | @c x j p r hx _ ih=>
   intro z acc Q I hs hl q
   rw [List.length_cons] at hl
   show wpAny _ _ (eval (.Constant (.str x) j p) X.env) _ _ _
   refine Calls.Constant_str ⟨x,_,rfl,sz (by rw [strLen_append];omega),?_⟩
   exact ih (z:={ z with s:={ z.s with toks:=z.s.toks+1 } }) (I.grow (aE I.gh .tok)) hs (by rw [strLen_append];omega) q
 | @f x i p p2 r hi hN hv hd _ ih=>
   intro z acc Q I hs hl q
   rw [List.length_cons] at hl
   simp only [Bool.or_eq_false_iff] at hd
   obtain ⟨n,t,e,hn⟩:=hs i hi
   have lt:=int_text_length_le10 (a:=(n:Int)) (k:=5) (by decide) hn
   have lg:(n:Int).natAbs.log2<1920:=by
    show n.log2<1920
    by_cases c:n=0
    ·subst c;decide
    ·exact Nat.lt_of_lt_of_le ((Nat.log2_lt (k:=17) c).mpr (by omega)) (by decide)
   have le:(Str.ofString (toString (n:Int))).length≤6:=by rw [PySem.ofString_length];exact lt
   refine FormattedValue_plain (bY I hN hv e (wpAny_formatField_int lg ⟨_,_,rfl,sz (by rw [strLen_append];omega),?_⟩) hd.1 hd.2)
   exact ih (z:={ z with s:={ z.s with toks:=z.s.toks+1+1 } }) (I.grow (aE I.gh .tok)) hs (by rw [strLen_append];omega) q
inductive kb (X:Cx) (ck:Option (List Nat)):List Stmt→List (Str×Nat)→Prop
 | nil:kb X ck [] []
 | base {c:List Nat} {s0 Bn:Str} {B:Addr} {np ap p1 p2 cp ep:Pos} {e1 e2:Expr} {es r l}:ck=some c→X.N[0]? = some s0→Vis X.env.scope s0→((s0 == ("__debug__":Str)) || (s0 == ("__classdict__":Str)) || (Bn == ("__debug__":Str)))=false→Gl X Bn→X.mg Bn=some (.ref B)→ka X.K B→JsP X c (e1 :: e2 :: es)→es.length≤50→(ap.endLine == cp.line)=true→kb X ck r l→kb X ck (.Expr (.Call (.Attribute (.Name Bn np) "__init__" ap) [.Name s0 p1,.JoinedStr (e1 :: e2 :: es) p2] [] cp) ep :: r) l
 | cons {s0 x:Str} {f:Str} {i:Nat} {p1 p2 p3 pos:Pos} {r l}:X.N[0]? = some s0→X.N[i]? = some x→Vis X.env.scope s0→Vis X.env.scope x→((s0 == ("__debug__":Str)) || (s0 == ("__classdict__":Str)) || (x == ("__debug__":Str)) || (x == ("__classdict__":Str)))=false→kb X ck r l→kb X ck (.Assign [.Attribute (.Name s0 p1) f p2] (.Name x p3) pos :: r) ((f,i) :: l)
theorem ue {P:List Addr→List (Str×Value)→Heap→Prop} {ck:Option (List Nat)} (H:Pri X p nm P) (hB:∀ c,ck=some c→Bas X p P) {body:List Stmt} {l:List (Str×Nat)} (B:kb X ck body l):∀ (z:Z) (ch:List Addr) (l0:List (Str×Value)) (vs:List Value),Rep X z→z.σ[0]? = some (some (.ref p))→P ch l0 z.s.heap→(∀ b∈ch,Fre X z b∧¬ Own z b)→(∀ q∈l,q.1∈nm)→(l0.map (·.1) ++ l.map (·.1)).Nodup→l0.length+l.length<900→l.map (fun q=>z.σ[q.2]?)=vs.map (fun v=>some (some v))→(∀ c,ck=some c→SmV z.σ c) →
 wpAny X.M X.A (execs body X.env) (fun fl s'=>fl = .next∧∃ ch',P ch' (l0 ++ (l.map (·.1)).zip vs) s'.heap∧(∀ b∈ch',b∈ch∨z.h b=none)∧(s'.os=z.s.os∧s'.gens=z.s.gens)∧(∀ b o,b ∉ ch→z.h b=some o→s'.heap.get? b=some o)) NoE z.s:=by
 induction B with
 | nil=>exact fun z ch l0 vs I _ hP hf _ _ _ _ _=>wpAny_execs_nil ⟨rfl,ch,by simpa using hP,fun b hb=>.inl hb,⟨rfl,rfl⟩,fun _ _ _ e=>e⟩
 | @base c s0 Bn Ba np ap p1 p2 cp ep e1 e2 es r l hc n0 v0 hd hg hm2 Z J hes hln B ih=>
   intro z ch l0 vs I h0 hP hf hm nd hz hv hs
   simp only [Bool.or_eq_false_iff] at hd
   have mp:methodCallPos true (.Name Bn np) X.env ap cp=pure cp:=by unfold methodCallPos;rw [hln];rfl
   refine wpAny_execs_cons (wpAny_Expr_any (PySem.W.methodCall_KW (pl:=do return (← importBound (.Name Bn np) X.env).getD true) (he:=by
    show (eval (.Name Bn np) X.env >>= fun ov=>standAt ap.atName >>= fun _=>holding [ov] (calleeOf true (.Name Bn np) X.env ov "__init__") >>= fun x=>methodCallPos true (.Name Bn np) X.env ap cp >>= fun callPos=>callWith callPos x.1 x.2 (backTo cp (starEach [.Name s0 p1,.JoinedStr (e1 :: e2 :: es) p2] X.env)) (backToKw cp (keywordEach [] X.env)))=_
    rw [mp];rfl) (bo I hg hm2 (PySem.W.method_cls I.toHR.kin Z.ga (PySem.W.cls_value I.toHR.kin Z.rd Z.at_ rfl ?_)) hd.2)) I.quiet rfl)
   have I1:Rep X { z with s:={ z.s with toks:=z.s.toks+1 } }:=I.grow (aE I.gh .tok)
   refine Calls.callWith_builtin rfl (Calls.evalArgs_plain (Calls.spliced_cons (bY I1 n0 v0 h0 (Calls.spliced_cons (wpAny_JoinedStr (pos:=p2) (xe J I1 (hs c hc) (by show Str.empty.length+1000 * (es.length+1+1)≤100000;have:Str.empty.length=0:=rfl;omega) fun out t ho=>⟨Nat.le_trans ho (by decide),Calls.spliced_nil ?_⟩))) hd.1.1 hd.1.2)))
   refine hB c hc (I.toHR.kin) hP (by rw [sizeLine_eq];exact Nat.le_of_ble_eq_true rfl) fun h' hP' c2 k=>?_
   have W:Wr (frs X.fr) ch z.s.heap h':=⟨fun b o e _ n=>k b o n e,fun b o e n=>⟨o.slots,k b o n e⟩,fun b o e=>by
    by_cases m:b∈ch
    ·exact c2 b m
    ·exact ⟨o,k b o m e⟩⟩
   have I2:Rep X { z with s:={ z.s with heap:=h',toks:=t+1 } }:=I.wr W hf
   refine wpAny_mono (ih { z with s:={ z.s with heap:=h',toks:=t+1 } } ch l0 vs I2 h0 hP' hf hm nd hz hv hs) (fun fl s' ⟨e,ch2,q1,q2,q3,q5⟩=>⟨e,ch2,q1,fun b hb=>(q2 b hb).imp_right fun w=>?_,q3,fun b o n e=>q5 b o n (k b o n e)⟩) fun _ _ w=>w
   cases q:z.h b with
   | none=>rfl
   | some o=>obtain ⟨o',e'⟩:=W.there b o q;rw [show h'.get? b=none from w] at e';cases e'
 | @cons s0 x f i p1 p2 p3 pos r l n0 ni v0 vi hd B ih=>
   intro z ch l0 vs I h0 hP hf hm nd hz hv hs
   simp only [Bool.or_eq_false_iff] at hd
   obtain ⟨⟨⟨d1,d2⟩,d3⟩,d4⟩:=hd
   match vs,hv with
   | [],hv=>cases hv
   | v :: vs,hv=>
     rw [List.map_cons,List.map_cons] at hv
     injection hv with hv1 hv2
     have nf:f ∉ l0.map (·.1)∧(l0.map (·.1) ++ [f] ++ l.map (·.1)).Nodup:=by
      rw [List.map_cons] at nd
      refine ⟨fun m=>?_,by simpa using nd⟩
      exact (List.nodup_append.mp nd).2.2 f m f List.mem_cons_self rfl
     refine wpAny_execs_cons (plainObj_wpAny_Assign_Attribute (bY I ni vi hv1 (bY I n0 v0 h0 (H.set I.toHR.kin hP (hm _ List.mem_cons_self) nf.1 (by simp at hz;omega) fun h' ch' t hP' c1 c2 k=>?_) d1 d2) d3 d4) eB)
     have W:Wr (frs X.fr) ch z.s.heap h':=⟨fun b o e _ n=>k b o n e,fun b o e n=>⟨o.slots,k b o n e⟩,fun b o e=>by
      by_cases m:b∈ch
      ·exact H.ex hP' b (c2 b m)
      ·exact ⟨o,k b o m e⟩⟩
     have I1:Rep X { z with s:={ z.s with heap:=h',toks:=t } }:=I.wr W hf
     have f1:∀ b∈ch',Fre X z b∧¬ Own z b:=fun b hb=>(c1 b hb).elim (hf b) fun n=>I.fre n
     refine wpAny_mono (ih { z with s:={ z.s with heap:=h',toks:=t } } ch' (l0 ++ [(f,v)]) vs I1 h0 hP' f1 (fun q m=>hm q (List.mem_cons_of_mem _ m)) (by rw [List.map_append];exact nf.2) (by simp at hz ⊢;omega) hv2 hs) (fun fl s' ⟨e,ch2,q1,q2,q3,q5⟩=>⟨e,ch2,by rw [List.append_assoc] at q1;exact q1,fun b hb=>?_,q3,fun b o n e=>?_⟩) fun _ _ w=>w
     ·rcases q2 b hb with w | w
      ·exact c1 b w
      ·refine .inr ?_
       cases q:z.h b with
       | none=>rfl
       | some o=>obtain ⟨o',e'⟩:=W.there b o q;rw [show h'.get? b=none from w] at e';cases e'
     ·by_cases m:b∈ch'
      ·rcases c1 b m with w | w
       ·exact absurd w n
       ·rw [show z.h b=none from w] at e;cases e
      ·exact q5 b o m (k b o n e)
structure FnI (X:Cx) (lv:Nat) (f:Addr) (fd:FuncData) (ps nm:List Str) (ck:Option (List Nat)):Prop where
 len:ps.length=nm.length+1
 run:∀ (A:Around) (fr:List Env) (z:Z) (args:Args) (us:List Value) (p:Addr) (P:List Addr→List (Str×Value)→Heap→Prop) (ch:List Addr),bc lv A→HR { X with A:=A,fr:=fr } z→BindsTo z.s fd args (ps.zip (.ref p :: us))→us.length=nm.length→Pri X p nm P→(∀ c,ck=some c→Bas X p P∧∀ i∈c,∃ (n:Nat) (t:Tok),us[i]? = some (.int n t)∧n<100000)→P ch [] z.s.heap→(∀ b∈ch,z.G b=none∧¬ Mu z.ρ b∧b ∉ frs fr) →
  codeAny X.M A (.call (.ref f) args) (fun r s'=>r = .ok (.ret .none)∧∃ ch',P ch' (nm.zip us) s'.heap∧(∀ b∈ch',b∈ch∨z.h b=none)∧(s'.os=z.s.os∧s'.gens=z.s.gens)∧(∀ b o,b ∉ ch→z.h b=some o→s'.heap.get? b=some o)) z.s
theorem wT {name qual:Str} {params:Arguments} {body:List Stmt} {scope:Scope} {dV kV doc pm ct oc cd:Value} {an od:Option Addr} {osl:Array (Option Value)} {ps:List Str} {f:Addr} {k:Nat} {l:List (Str×Nat)} (lk:X.K.lookup f=some ⟨oc,od,.func (PySem.W.fnOf name qual params body scope dV kV doc pm an cd ct),osl⟩) (hcd:PySem.W.codeIn X.K cd qual=true) (S:dy ps ps scope) (hn:ps.length=nm.length+1) (nd:nm.Nodup) (h9:nm.length<900) (hl:l=nm.zip (List.range' 1 nm.length))
 {ck:Option (List Nat)} (hb:∀ A fr L,kb (cxF X X.cal X.cal1 ps qual scope f cd A fr L) ck body l):FnI X (k+1) f (PySem.W.fnOf name qual params body scope dV kV doc pm an cd ct) ps nm ck:=by
 refine ⟨hn,fun A fr z args us p P ch hr I hbd hlu H hB hP hc=>?_⟩
 have hl2:(Value.ref p :: us).length=ps.length:=by rw [List.length_cons];omega
 have KX:X.K.In z.s.heap:=I.kin
 have lim:z.s.heap.NoLimit:=I.md.nolimit.keeps (Rep.bk I)
 have hkind:∀ y∈ps.zip (.ref p :: us),scope.names.lookup y.1=some .local∨(scope.names.lookup y.1=some .cell∧((cellsFrom (z.s.heap.objs.size+1) scope.names []).lookup y.1).isSome=true):=fun ⟨n,v⟩ hy=>by
  rcases S.par n (List.of_mem_zip hy).1 with q | q
  ·exact .inl q
  ·exact .inr ⟨q,PySem.W.cellsFrom_some _ _ _ (.inl q)⟩
 refine codeAny_call_function hr.depth (KX _ _ lk) rfl S.co S.gen rfl (PySem.W.codeRec_of KX hcd) (hbd _ _ _ _ ?_)
 refine wpAny_newFunctionEnv_cells S.kind hkind fun env he s1 x=>?_
 subst he
 refine ⟨lim.keeps x.toInCall.keep,codeAny_func ?_⟩
 have hk:∀ b o,z.h b=some o→s1.heap.get? b=some o:=x.toInCall.keep
 have J:=ja (es:=List.replicate (Value.ref p :: us).length none) (cal:=X.cal) (cal1:=X.cal1) S I hr hl2 (List.length_replicate ..) (fun i d e=>by rw [List.getElem?_replicate] at e;split at e <;> cases e) x
 have lcf:∀ {a o},z.h a=some o→¬ Lc (cxF X X.cal X.cal1 ps qual scope f cd A fr z.s.heap.objs.size) a:=fun {a o} e h=>by
  have:z.s.heap.objs.size≤a:=by
   rcases h with rfl | ⟨y,e⟩
   ·exact Nat.le_refl _
   ·exact Nat.le_of_lt (x.above y _ (PySem.mem_of_lookup e))
  exact absurd (Heap.lt_size e) (Nat.not_lt.mpr this)
 have noz:∀ {b},b∈ch→∃ o,z.h b=some o:=fun hb=>H.ex hP _ hb
 have hP1:P ch [] s1.heap:=H.keep hP fun b _ o e=>hk b o e
 have fc:∀ b∈ch,Fre (cxF X X.cal X.cal1 ps qual scope f cd A fr z.s.heap.objs.size) ⟨z.ρ,z.G,⟨List.replicate (Value.ref p :: us).length none ++ List.replicate (ps.length - ps.length) none,[],z.t.st⟩,(Value.ref p :: us).map some ++ List.replicate (ps.length - ps.length) none,s1⟩ b∧¬ Own ⟨z.ρ,z.G,⟨List.replicate (Value.ref p :: us).length none ++ List.replicate (ps.length - ps.length) none,[],z.t.st⟩,(Value.ref p :: us).map some ++ List.replicate (ps.length - ps.length) none,s1⟩ b:=fun b hb=>by
  obtain ⟨o,e⟩:=noz hb
  obtain ⟨c1,c2,c3⟩:=hc b hb
  refine ⟨⟨c1,c2,fun m=>?_,lcf e⟩,fun ⟨i,m,_⟩=>nomatch m⟩
  rcases List.mem_cons.mp (show b∈z.s.heap.objs.size :: frs fr from m) with q | q
  ·exact absurd (Heap.lt_size e) (by rw [q];exact Nat.lt_irrefl _)
  ·exact c3 q
 have lm:l.map (·.1)=nm:=by rw [hl,List.map_fst_zip (by simp)]
 have H':Pri (cxF X X.cal X.cal1 ps qual scope f cd A fr z.s.heap.objs.size) p nm P:=⟨H.ex,H.keep,H.set⟩
 refine wpAny_mono (ue H' (fun c e=>(hB c e).1) (hb A fr z.s.heap.objs.size) _ ch [] us J (eH (n:=ps.length - ps.length) (i:=0) rfl) hP1 fc (fun q m=>by rw [← lm];exact List.mem_map_of_mem m) (by rw [lm];simpa using nd) (by have:=congrArg List.length lm;rw [List.length_map] at this;simp;omega) ?_ fun c e i hi=>?_) (fun fl s' ⟨e,ch',q1,q2,q3,q5⟩=>?_) fun _ _ w=>w.elim
 ·rw [hl]
  refine List.ext_getElem? fun i=>?_
  rw [List.getElem?_map,List.getElem?_map]
  cases q:us[i]? with
  | none=>
    have:¬ i<us.length:=fun h=>by rw [List.getElem?_eq_getElem h] at q;cases q
    rw [List.getElem?_eq_none (by rw [List.length_zip,List.length_range'];omega)];rfl
  | some v=>
    have hi:i<us.length:=(List.getElem?_eq_some_iff.mp q).1
    have e1:(nm.zip (List.range' 1 nm.length))[i]? = some (nm[i]'(by omega),1+i):=by rw [List.getElem?_zip_eq_some];exact ⟨List.getElem?_eq_getElem _,by rw [List.getElem?_range' (by omega)];simp⟩
    rw [e1]
    show some (((Value.ref p :: us).map some ++ List.replicate (ps.length - ps.length) none)[1+i]?)=some (some (some v))
    rw [eH (d:=v) (by rw [Nat.add_comm,List.getElem?_cons_succ];exact q)]
 ·obtain ⟨n,t,e1,e2⟩:=(hB c e).2 i hi
  exact ⟨n,t,eH (d:=Value.int n t) (by rw [List.getElem?_cons_succ];exact e1),e2⟩
 ·subst e
  rw [lm] at q1
  have none1:∀ {a},s1.heap.get? a=none→z.h a=none:=fun {a} n=>by
   cases q:z.h a with
   | none=>rfl
   | some o=>rw [hk a o q] at n;cases n
  obtain ⟨h1,tk,e1,_⟩:=x.done
  exact ⟨rfl,ch',q1,fun b hb=>(q2 b hb).imp_right none1,⟨q3.1.trans (by rw [e1]),q3.2.trans (by rw [e1])⟩,fun b o n e=>q5 b o n (hk b o e)⟩
end
section
variable {X:Cx} {z z' z0 z1:Z}
theorem qu {C:Addr} {x:Str} {Q:Value→Shared→Prop} {E:Value→Shared→Prop} (I:Rep X z) (kp:PySem.W.keepIn X.K (.ref C)=true) (hg:Gl X x) (hm:X.mg x=some (.ref C)) (hd:(x == ("__debug__":Str))=false) (he:starEach (ea :: er) X.env=(false,eval ea X.env) :: starEach er X.env) (hpl:(backTo pos (starEach er X.env)).any (·.1)=false)
 (h:wpAny X.M X.A (spliced (backTo pos (starEach (ea :: er) X.env))) (fun us s'=>X.K.In s'.heap∧wpAny X.M X.A (call (.ref C) us) Q E s') E z.s):wpAny X.M X.A (eval (.Call (.Name x p) (ea :: er) [] pos) X.env) Q E z.s:=
 wpAny_Call_Name_kw (bo I hg hm (PySem.W.callWith_K (h₀:=X.base) I.md.kin kp h he hpl) hd)
theorem rT {x:Str} {j:Nat} {k:Cl} {i:CI} {fd:FuncData} {ps:List Str} {fI:Addr} {Bx nwI iniI:String} {bmB:List Value} {np cp pos:Pos} (Fb:ExcBaseFacts Bx nwI iniI bmB) (O:ie X.K i.ad fI bmB nwI) {ck:Option (List Nat)} (F:FnI X lv fI fd ps i.nm ck) (hk:ck=none∨(ck=some k.chk∧ie X.K i.ad fI veB "ValueError.__new__")) (hb:b6 X.K fd ps []) (hr:bc (lv+1) X.A) (Z:fX X.K i.ad) (na:∀ f∈i.nm,PySem.W.findIn X.K (.ref i.ad) f=some none) (hcl:X.Γ.cl[j]? = some k) (hci:X.W.ci[j]? = some i) (hwh:X.W.what[j]? = some 2) (hn:i.nm.length=k.at_.length) (h0:k.at_.isEmpty=false)
 (be:PySem.W.mroIn X.K i.ad (.type "BaseException")=some true) (ty:PySem.W.typeIn X.K (.ref i.ad)=some (.type "type")) (kp:PySem.W.keepIn X.K (.ref i.ad)=true) (hc:X.calm=true) (hg:Gl X x) (hm:X.mg x=some (.ref i.ad)) (ha:LA X (ea :: er) es) (hd:(x == ("__debug__":Str))=false) (he:starEach (ea :: er) X.env=(false,eval ea X.env) :: starEach er X.env) (hpl:(backTo cp (starEach er X.env)).any (·.1)=false):LS X (.Raise (some (.Call (.Name x np) (ea :: er) [] cp)) none pos) (.rais j es):=fun z I nb=>by
 rw [arm_exec_Raise]
 refine wpAny_bind (wpAny_standAt (pW (K:=X.K) (C:=i.ad) be ty (I.hd hc) (wpAny_bind ?_)))
 refine qu I kp hg hm hd he hpl ((ha false cp).gos (f:=fun l s=>if fy X.Γ j l then .exc j (py X.Γ j l) s else .bad) .refl I rfl nb fun z1 l us y1 x1 I1 r1 e1=>⟨I1.toHR.kin,?_⟩)
 have rs:=r1.rds
 by_cases c:fy X.Γ j l=true
 rotate_left
 ·rw [if_neg c] at e1;exact absurd e1 nb
 rw [if_pos c] at e1
 have ea:py X.Γ j l=l:=by unfold py;rw [hcl];exact if_neg (by rw [h0];exact Bool.false_ne_true)
 rw [ea] at e1
 unfold fy at c
 rw [hcl] at c
 dsimp only at c
 rw [if_neg (by rw [h0];exact Bool.false_ne_true)] at c
 simp only [Bool.and_eq_true,decide_eq_true_eq] at c
 obtain ⟨⟨⟨c1,c2⟩,c3⟩,c4⟩:=c
 have c1:l.length=k.at_.length:=by simpa using c1
 have lu:us.length=i.nm.length:=by rw [← rs.len,c1,hn]
 have l0:l≠[]:=by intro w;rw [w] at c4;simp at c4
 refine qD (h:=z1.s.heap) (g:=z1.s.gens) (d:=z1.s.drawn) (t:=z1.s.toks) (os:=z1.s.os) Fb I1.toHR.kin O (by rw [← rs.len];exact big (by omega)) fun h' p m=>?_
 have kz:∀ b o,z1.h b=some o→h'.get? b=some o:=fun b o e=>m.keeps b o e
 have np:z1.h p=none:=m.new
 obtain ⟨tt,ht,_,_⟩:=m.there
 have g:Gr z1.s { z1.s with heap:=h' }:=⟨rfl,rfl,kz⟩
 have bd:=hb { z1.s with heap:=h' } (.ref p :: us) (I1.toHR.kin.keeps kz) (by rw [List.append_nil,List.length_cons,F.len,lu])
 rw [List.append_nil] at bd
 have H1:=(I1.toHR.grow (aE I1.gh g)).at (A:=X.A.under (.builtin "type.__call__" ⟨.ref i.ad :: us,[]⟩)) (ia i.ad us []) rfl
 have fp:=I1.fre np
 refine wpAny_call (codeAny_mono (F.run _ X.fr { z1 with s:={ z1.s with heap:=h' } } ⟨.ref p :: us,[]⟩ us p _ [p] (hr.make i.ad us []) H1 bd lu (oE Z na) (fun c e=>?_) ⟨_,_,ht,rfl,rfl,rfl,.inl ⟨rfl,rfl,rfl⟩⟩ fun b hb=>?_) fun r s' hq=>?_)
 ·rcases hk with w | ⟨w,O'⟩
  ·rw [w] at e;cases e
  ·rw [w] at e;cases e
   refine ⟨tG O' (oE Z na),fun j hj=>?_⟩
   have sm:=List.all_eq_true.mp c2 j hj
   cases q:l[j]? with
   | none=>rw [q] at sm;cases sm
   | some d=>
     obtain ⟨u,hu,ru⟩:=rs.get q
     rw [q] at sm
     cases d with
     | int n=>
       obtain ⟨t,rfl⟩:=ru
       unfold sQ at sm
       simp only [Bool.and_eq_true,decide_eq_true_eq] at sm
       obtain ⟨m,rfl⟩:=Int.eq_ofNat_of_zero_le sm.1
       exact ⟨m,t,hu,by omega⟩
     | _=>cases sm
 ·rw [List.mem_singleton.mp hb];exact ⟨fp.1.1,fp.1.2.1,fp.1.2.2.1⟩
 obtain ⟨rfl,ch',⟨o,vs,q1,q2,q3,q4,q5⟩,cc,os,kk⟩:=hq
 have gr:Gr z1.s s':=⟨os.1.trans g.os,os.2.trans g.gs,fun b o e=>kk b o (fun w=>by have e:z1.h b=some o:=e;rw [List.mem_singleton.mp w,np] at e;cases e) (kz b o e)⟩
 rcases q5 with ⟨w,_,_⟩ | ⟨d,od,q6,q7,q8,q9,q10⟩
 ·have:i.nm.zip us≠[]:=fun w=>by
   have hl:=rs.len
   have:0<l.length:=List.length_pos_iff.mpr l0
   have w0:(i.nm.zip us).length=0:=by rw [w];rfl
   rw [List.length_zip] at w0
   omega
  exact absurd w this
 have nd:z1.h d=none:=by
  rcases cc d (by rw [q8];simp) with w | w
  ·exact absurd (List.mem_singleton.mp w) q7
  ·cases q:z1.h d with
   | none=>rfl
   | some o=>have:=kz d o q;rw [show h'.get? d=none from w] at this;cases this
 have fd:=I1.fre nd
 have gw:Grw z1 (fun b=>if b=d then some od else z1.G b) s':=⟨gr,fun b o e=>by
  by_cases c:b=d
  ·subst c;rw [fd.1.1] at e;cases e
  ·rw [if_neg c];exact e,fun b o e=>by
  by_cases c:b=d
  ·subst c;rw [if_pos rfl] at e;cases e;exact q9
  ·rw [if_neg c] at e;exact gr.k b o (I1.gh b o e),fun b o e=>by
  by_cases c:b=d
  ·subst c;exact .inr nd
  ·rw [if_neg c] at e;exact .inl e⟩
 have I3:=I1.grow gw
 have pG:(if p=d then some od else z1.G p)=none:=by rw [if_neg (Ne.symm q7)];exact fp.1.1
 refine ⟨rfl,wpAny_bind (wpAny_standAt (wpAny_pure ⟨p,o,vs,rfl,I3.toHR.kin,q1,q2,q3,q4,{ z1 with G:=fun b=>if b=d then some od else z1.G b,s:=s' },j,l,rfl,e1,x1.trans gw.ee.go,I3,p,.ref i.ad,some d,rfl,⟨i,hci,hwh,rfl,by rw [c1,hn];exact Nat.le_refl _,.inr ⟨d,od,us,rfl,if_pos rfl,q10,rs.mono (List.prefix_refl _) gw.gg⟩⟩,⟨x1.st.no np,⟨pG,fp.1.2⟩,fp.2⟩,.inl ⟨o,vs,q1,⟨q2,q6⟩,q3,q4⟩⟩))⟩
def FnJ (X:Cx) (lv:Nat) (f:Addr) (fd:FuncData) (ps nm:List Str) (k:Cl) (C:Addr):Prop:=∃ ck,FnI X lv f fd ps nm ck∧(ck=none∨(ck=some k.chk∧ie X.K C f veB "ValueError.__new__"))
end
def yX (K:Fg) (C:Addr) (bmB:List Value) (newId:String):Prop:=∃ (nm q:Str) (N:Addr) (bs bm:List Value) (hdct:Bool) (sn:List Str) (sub:List Value) (ab:Bool) (col:Option Bool) (dd:Option Addr) (k0 k1 k2 k3 k5:Option Value),
 K.lookup C=some (excClassObj nm q C N bs bm hdct sn sub ab col dd k0 k1 k2 k3 k5 newId)∧PySem.W.nsOkIn K N=true∧PySem.W.nsIn K N "__init__" = some none∧PySem.W.tailIn K bmB bm=true
inductive TxP (X:Cx):List Expr→E→Prop
 | nil:TxP X [] .nil
 | c {x:Str} {j:Nat} {p:Pos} {r es}:x.length≤1000→TxP X r es→TxP X (.Constant (.str x) j p :: r) es
 | f {x:Str} {i:Nat} {p q:Pos} {r es}:X.N[i]? = some x→Vis X.env.scope x→((x == ("__debug__":Str)) || (x == ("__classdict__":Str)))=false→TxP X r es→TxP X (.FormattedValue (.Name x p) (-1) none q :: r) (.cons (.op .add (.v i) (.c (.int 0))) es)
 | r {x:Str} {i:Nat} {p q:Pos} {r es}:X.N[i]? = some x→Vis X.env.scope x→((x == ("__debug__":Str)) || (x == ("__classdict__":Str)))=false→TxP X r es→TxP X (.FormattedValue (.Name x p) 114 none q :: r) (.cons (.op .add (.v i) (.c (.str ""))) es)
section
variable {X:Cx} {z:Z}
inductive TxA (X:Cx):Expr→E→Prop
 | c {x:Str} {j:Nat} {p:Pos}:x.length≤1000→TxA X (.Constant (.str x) j p) .nil
 | j {e1 e2:Expr} {r:List Expr} {p:Pos} {es:E}:TxP X (e1 :: e2 :: r) es→r.length≤8→TxA X (.JoinedStr (e1 :: e2 :: r) p) es
end
end L2.Ev
namespace L2.Ev
theorem qP {prog:Program} {w:World} {A:Around} {E:Value→Shared→Prop} {s:Shared} {Q:Option Value→Shared→Prop} {δ:Type} {R:δ→Value→Prop} {a:Addr} {D:List (Str×δ)} {z:Str} {tz:Tok} {d:δ}
 (T:KTD.TabOf R s.heap a D) (hat:KTD.datumAt z D=some d) (h:∀ v,R d v→Q (some v) { s with toks:=s.toks+1 }):wpAny (model prog w) A (dictGet a (.str z tz)) Q E s:=by
 obtain ⟨_,o,es,ep,ho,_,hd,hr⟩:=T
 obtain ⟨v,hv,hfl⟩:=hr.find_some hat
 have all:(es.all fun e=>isExactStrKey e.key)=true:=by
  obtain ⟨l⟩:=es
  simpa using hr.exact
 have hq:Q (findBy (fun k v=>v.isStr k) es z) { s with toks:=s.toks+1 }:=by
  rw [show findBy (fun k v=>v.isStr k) es z=some v by obtain ⟨l⟩:=es;simpa [findBy] using hv]
  exact h v hfl
 rw [findBy_of_findIdx?] at hq
 unfold dictGet
 refine wpAny_holding ?_
 refine wpAny_bind (wpAny_pyHash_str (wpAny_bind (KTD.kt_dictFind_strs (s:={ s with toks:=s.toks+1 }) ho hd all ?_)))
 cases hi:es.findIdx? fun e=>e.key.isStr z with
 | none=>
   rw [hi] at hq
   exact wpAny_pure hq
 | some i=>
   rw [hi] at hq
   exact wpAny_bind (wpAny_dictEntries (s:={ s with toks:=s.toks+1 }) ho hd (wpAny_pure hq))
theorem tZ {prog:Program} {w:World} {A:Around} {E:Value→Shared→Prop} {s:Shared} {Q:Option Value→Shared→Prop} {δ:Type} {R:δ→Value→Prop} {a:Addr} {D:List (Str×δ)} {z:Str} {tz:Tok}
 (T:KTD.TabOf R s.heap a D) (hat:KTD.datumAt z D=none) (h:Q none { s with toks:=s.toks+1 }):wpAny (model prog w) A (dictGet a (.str z tz)) Q E s:=by
 obtain ⟨_,o,es,ep,ho,_,hd,hr⟩:=T
 have hv:=hr.find_none hat
 have all:(es.all fun e=>isExactStrKey e.key)=true:=by
  obtain ⟨l⟩:=es
  simpa using hr.exact
 have hq:Q (findBy (fun k v=>v.isStr k) es z) { s with toks:=s.toks+1 }:=by
  rw [show findBy (fun k v=>v.isStr k) es z=none by obtain ⟨l⟩:=es;simpa [findBy] using hv]
  exact h
 rw [findBy_of_findIdx?] at hq
 unfold dictGet
 refine wpAny_holding (wpAny_bind (wpAny_pyHash_str (wpAny_bind (KTD.kt_dictFind_strs (s:={ s with toks:=s.toks+1 }) ho hd all ?_))))
 cases hi:es.findIdx? fun e=>e.key.isStr z with
 | none=>
   rw [hi] at hq
   exact wpAny_pure hq
 | some i=>
   rw [hi] at hq
   exact wpAny_bind (wpAny_dictEntries (s:={ s with toks:=s.toks+1 }) ho hd (wpAny_pure hq))
section
variable {X:Cx} {z z1:Z} {a:Addr} {t:List (Str×L2.Bk.Dk)} {j:Nat} {x:Str}
abbrev TbL (X:Cx) (a:Addr) (t:List (Str×L2.Bk.Dk)):Prop:=KTD.tabLook (aR X.K) (fun b=>X.K.lookup b) a t=true
theorem sU (I:HR X z) (hK:TbL X a t):KTD.TabOf (fun d v=>aR X.K d v=true) z.s.heap a t:=KTD.tab_of_look (fun _ _ h=>h) (fun b o e=>I.kin b o e) hK
theorem xF (hg:Gl X x) (hm:X.mg x=some (.ref a)) (ht:X.Γ.tb[j]? = some t) (hK:TbL X a t) (hb:LE X eb b) (hs:jc eb) (hd:(x == ("__debug__":Str))=false) (hl:∀ r,letTemporaryGo (.Name x p) (.ref a) r=pure ()):LE X (.Subscript (.Name x p) eb pos) (.tab j b):=fun br z I nb=>
 Subscript_ (bo I hg hm ((hb true).go .refl I rfl nb fun z1 d u y1 x1 I1 r1 e1=>by
  rw [ht] at e1
  cases d with
  | str k=>
    obtain ⟨tz,rfl⟩:=(r1.rb.cr0 I1:RD X.W z1.ρ z1.G (.str k) u)
    have T:=sU I1.toHR hK
    have ty:z1.s.TypeIs (.ref a) "dict":=by obtain ⟨_,o,_,_,ho,hc,_⟩:=T;exact ⟨o,ho,hc.1⟩
    refine cU x1 I1 e1 nb fun d q=>?_
    obtain ⟨d0,hat,rfl⟩:=Option.map_eq_some_iff.mp q
    refine subscriptTail_builtin ty slot_dict_getitem.lookup ?_ (hs _ _) hl
    unfold getItem
    refine wpAny_holding (wpAny_bind (wpAny_sequenceKey ty (by decide) (wpAny_bind (wpAny_callSpecial?_slot (name:=Str.ofString "__getitem__") ty slot_dict_getitem (wpAny_call_entry slot_dict_getitem ty entry_dict_getitem ?_ (args_dict_getitem _ _))))))
    show wpAny _ _ (dictGet a (.str k tz) >>= _) _ _ z1.s
    exact wpAny_bind (qP T hat fun v hv=>wpAny_pure ⟨v,rfl,wpAny_pure (.old I1 .tok (I1.toHR.top hv))⟩)
  | _=>exact absurd e1 nb) hd)
theorem lH {k:Str} {tz:Tok} {Q:Value→Shared→Prop} {E:Value→Shared→Prop} (I:HR X z) (hK:TbL X a t) (q:∀ n,Q (.bool (KTD.datumAt k t).isSome) { z.s with toks:=n }):wpAny X.M X.A (compareOp .In (.str k tz) (.ref a)) Q E z.s:=by
 have T:=sU I hK
 have ty:z.s.TypeIs (.ref a) "dict":=by obtain ⟨_,o,_,_,ho,hc,_⟩:=T;exact ⟨o,ho,hc.1⟩
 have nsm:=T.1
 show wpAny _ _ (do return Value.bool (← contains (.ref a) (.str k tz))) _ _ z.s
 refine wpAny_bind ?_
 unfold contains
 refine wpAny_holding ?_
 refine wpAny_bind (wpAny_specialOf ty slot_dict_contains.lookup ?_)
 show wpAny _ _ (if (some (Value.builtin "dict.__contains__") == some Value.none)=true then _ else _) _ _ z.s
 rw [if_neg (by rw [beq_builtin_none];exact Bool.false_ne_true)]
 refine wpAny_bind (wpAny_callSpecialUnlessNone?_slot (name:=Str.ofString "__contains__") ty slot_dict_contains (wpAny_call_entry slot_dict_contains ty entry_dict_contains ?_ (args_dict_contains _ _)))
 show wpAny _ _ (dictGet a (.str k tz) >>= _) _ _ z.s
 cases hat:KTD.datumAt k t with
 | some d=>
   rw [hat] at q
   refine wpAny_bind (qP T hat fun v _=>?_)
   show wpAny _ _ (ret (.bool true)) _ _ _
   exact wpAny_pure ⟨_,rfl,wpAny_truthy_bool (wpAny_pure (q _))⟩
 | none=>
   rw [hat] at q
   refine wpAny_bind (tZ T hat ?_)
   show wpAny _ _ (Builtin.Dict.pendingKey? a (.str k tz) >>= _) _ _ _
   exact wpAny_bind (wpAny_pendingKey_other nsm (wpAny_pure ⟨_,rfl,wpAny_truthy_bool (wpAny_pure (q _))⟩))
theorem rJ (hg:Gl X x) (hm:X.mg x=some (.ref a)) (ht:X.Γ.tb[j]? = some t) (hK:TbL X a t) (hb:LE X eb b) (hd:(x == ("__debug__":Str))=false) (h1:behindInMarks .In (.Name x p)=false):LE X (.Compare eb [.In] [.Name x p] pos) (.tabin j b):=fun br z I nb=>
 wpAny_Compare1 ((hb true).go .refl I rfl nb fun z1 d u y1 x1 I1 r1 e1=>by
  rw [ht] at e1
  cases d with
  | str k=>
    obtain ⟨tz,rfl⟩:=(r1.rb.cr0 I1:RD X.W z1.ρ z1.G (.str k) u)
    exact bo I1 hg hm (lH I1.toHR hK fun n=>Dn.at x1 I1 e1 (.tok fun _ _ _=>rfl)) hd
  | _=>exact absurd e1 nb) h1
theorem rW (hg:Gl X x) (hm:X.mg x=some (.ref a)) (ht:X.Γ.tb[j]? = some t) (hK:TbL X a t) (hb:LE X eb b) (hd:(x == ("__debug__":Str))=false) (h1:behindInMarks .In (.Name x p)=false):LT X (.Compare eb [.In] [.Name x p] pos) (.tabin j b):=fun z I nb=>
 wpAny_isTrue_Compare1 ((hb true).go .refl I (av ..) nb fun z1 d u y1 x1 I1 r1 e1=>by
  rw [ht] at e1
  cases d with
  | str k=>
    obtain ⟨tz,rfl⟩:=(r1.rb.cr0 I1:RD X.W z1.ρ z1.G (.str k) u)
    exact bo I1 hg hm (lH I1.toHR hK fun n=>(Dn.tok (X:=X) (z:=z1) (d:=.bl (KTD.datumAt k t).isSome) (n:=n) fun _ _ _=>rfl).tru x1 I1 e1 nb) hd
  | _=>exact absurd e1 nb) h1
end
section
variable {X:Cx} {z z1:Z}
structure M2 (X:Cx) (o:Expr) (m:Str) (apos:Pos) (e f:Expr) (cpos:Pos):Prop where
 base:attributeBase o m X.env (eval o X.env)=eval o X.env
 few:((backTo cpos (starEach [e,f] X.env)).all (fun x=>!x.1) && (backToKw cpos (keywordEach [] X.env)).all (fun x=>x.1.isSome) && decide (([e,f]:List Expr).length+([]:List Keyword).length+(if ([]:List Keyword).isEmpty then 0 else 1)<30))=true
 line:(apos.endLine == cpos.line)=true
 trees:backTo cpos (starEach [e,f] X.env) = [(false,eval e X.env),(false,eval f X.env)]
theorem lF:∀ {l ss vs},eZ l=some ss→RDs W ρ G l vs→StrsAre vs ss
 | [],ss,vs,e,r=>by cases e;cases (show vs = [] from r);exact .nil
 | d :: l,ss,vs,e,r=>by
   cases d with
   | str b=>
     obtain ⟨cs,q,rfl⟩:=Option.map_eq_some_iff.mp (show (eZ l).map (b :: ·)=some ss from e)
     obtain ⟨v,r',rfl,⟨t,rfl⟩,tl⟩:=r
     exact .cons b t (lF q tl)
   | _=>cases e
end
structure Zd where
 it:Addr
 fp:List Addr
 n:Nat
 P:Nat→Value→Prop
 St:Nat→Heap→Prop
abbrev IsT (h:Heap) (T:Addr) (l:List Value):Prop:=h.get? T=some { cls:=.type "tuple",data:=.seq l.toArray }
structure ZOk (prog:Program) (w:World) (A:Around) (n:Nat) (l:List Zd) (z TI TO:Addr):Prop where
 dr:∀ d∈l,Draws prog w A d.it d.fp d.n d.P d.St∧n≤d.n∧d.it∈d.fp∧z ∉ d.fp∧TO ∉ d.fp∧TI≠d.it
 ap:∀ (i j:Nat) (d e:Zd),l[i]? = some d→l[j]? = some e→i≠j→d.it ∉ e.fp
 hd:∃ d r,l=d :: r∧d.n=n
 zT:z≠TI∧z≠TO∧TI≠TO
 sz:l.length≤sizeLine
section
variable {prog:Program} {w:World} {A:Around} {E:Value→Shared→Prop} {s:Shared} {n i:Nat} {l:List Zd} {z TI TO:Addr} {old:List Value}
theorem vC {Q:Value→Shared→Prop} (D:ZOk prog w A n l z TI TO) (hz:IsZip s.heap z TI TO .none) (hTI:IsT s.heap TI (l.map fun d=>.ref d.it)) (hTO:IsT s.heap TO old) (hl:old.length=l.length) (hi:i<n) (st:∀ d∈l,d.St i s.heap)
 (hQ:∀ h' tk vals,IsZip h' z TI TO (rawInt s.heap.objs.size)→IsT h' TO vals→vals.length=l.length→(∀ d∈l,d.St (i+1) h')→(∀ (j:Nat) (d:Zd) v,l[j]? = some d→vals[j]? = some v→d.P i v)→IsT h' s.heap.objs.size vals→h'.objs.size=s.heap.objs.size+1 →
  (∀ b o,b≠z→b≠TO→(∀ d∈l,b≠d.it)→s.heap.get? b=some o→h'.get? b=some o)→Q (.ref s.heap.objs.size) { s with heap:=h',toks:=tk }) :
 wpAny (model prog w) A (Builtin.«zip.__next__» ⟨[.ref z],[]⟩) (fun fin s'=>∃ v,fin = .done (.ret v)∧Q v s') E s:=by
 have ne:((l.map fun d=>Value.ref d.it).toArray.isEmpty)=false:=by obtain ⟨d,r,rfl,_⟩:=D.hd;simp
 show wpAny _ _ (field (.ref z) 2 >>= _) _ _ _;refine wpAny_bind (wpAny_field hz rfl (x:=.bool false) rfl ?_)
 show wpAny _ _ (field (.ref z) 3 >>= _) _ _ _;refine wpAny_bind (wpAny_field hz rfl (x:=.ref TI) rfl ?_)
 refine wpAny_bind (wpAny_seqItems hTI rfl ?_)
 simp only [ne]
 show wpAny _ _ (Builtin.SmallTypes.ownedTupleIsFree (.ref z) >>= _) _ _ _
 refine wpAny_bind ?_;unfold Builtin.SmallTypes.ownedTupleIsFree;refine wpAny_bind (wpAny_field hz rfl (x:=.none) rfl (wpAny_pure ?_));simp only [if_true]
 refine wpAny_bind (wpAny_rule ?_);refine wpAny_bind (wpAny_field hz rfl (x:=.ref TO) rfl ?_);refine wpAny_bind (wpAny_setField_rec hz (by simp) fun h₁ hz₁ hs₁=>?_)
 replace hz₁:IsZip h₁ z TI TO .ellipsis:=hz₁
 refine wpAny_bind ?_
 refine wpAny_forIn_list _ (fun rem r s'=>r=⟨none,()⟩∧∃ h tk vals,s'={ s with heap:=h,toks:=tk }∧rem=((l.drop vals.length).map fun d=>Value.ref d.it).zipIdx vals.length∧vals.length≤l.length∧IsZip h z TI TO .ellipsis∧IsT h TO (vals ++ old.drop vals.length)∧(∀ (j:Nat) (d:Zd),l[j]? = some d→d.St (if j<vals.length then i+1 else i) h)∧(∀ (j:Nat) (d:Zd) v,l[j]? = some d→vals[j]? = some v→d.P i v)∧h.objs.size=s.heap.objs.size∧(∀ b o,b≠z→b≠TO→(∀ d∈l,b≠d.it)→s.heap.get? b=some o→h.get? b=some o)) _ (fun x rem r s' hI=>?_) (fun r s' hI=>?_) _ _ ⟨rfl,h₁,s.toks,[],rfl,?_,Nat.zero_le _,hz₁,?_,fun j d e=>?_,fun j d v _ e=>by simp at e,hs₁.1,fun b o h _ _ e=>hs₁.extBut _ _ h e⟩
 ·obtain ⟨rfl,h,tk,vals,rfl,er,hv,gz,gT,gS,gP,gs,gk⟩:=hI
  cases q:l.drop vals.length with
  | nil=>rw [q] at er;cases er
  | cons d r=>
    rw [q,List.map_cons,List.zipIdx_cons] at er
    cases er
    have hd:l[vals.length]? = some d:=by have:=List.getElem?_drop (xs:=l) (i:=vals.length) (j:=0);rw [q] at this;simpa using this.symm
    have hlt:=(List.getElem?_eq_some_iff.mp hd).1
    obtain ⟨dw,dn,di,dz,dT,dI⟩:=D.dr d (List.mem_of_getElem? hd)
    refine wpAny_bind (wpAny_onRaise ?_);show wpAny _ _ (Builtin.SmallTypes.nextOf (.ref d.it) >>= _) _ _ _
    have g0:=gS _ d hd
    rw [if_neg (Nat.lt_irrefl _)] at g0
    refine wpAny_bind (dw.item i _ _ _ (Nat.lt_of_lt_of_le hi dn) g0 fun x h2 tk2 hP hst hs2=>wpAny_pure ?_)
    replace hs2:Heap.SameBut d.it h h2:=hs2
    have zi:z≠d.it:=fun e=>dz (e ▸ di)
    have Ti:TO≠d.it:=fun e=>dT (e ▸ di)
    have gT2:IsT h2 TO (vals ++ old.drop vals.length):=hs2.extBut _ _ Ti gT
    refine wpAny_bind (wpAny_seqItems gT2 rfl ?_);have hsz:(vals ++ old.drop vals.length).length≤sizeLine:=by have:=D.sz;rw [List.length_append,List.length_drop];omega
    refine wpAny_bind (wpAny_updateSeq gT2 rfl ?_ (by simpa using hsz) (by simpa using Nat.le_succ_of_le hsz))
    refine wpAny_bind (wpAny_letGo (wpAny_pure ⟨rfl,h2.update TO _,tk2,vals ++ [x],rfl,?_,?_,?_,?_,fun j e he=>?_,fun j e v he hv'=>?_,?_,fun b o b1 b2 b3 e=>?_⟩))
    ·rw [List.length_append,List.length_singleton,← List.drop_drop,q];rfl
    ·rw [List.length_append,List.length_singleton];exact hlt
    ·exact (Heap.SameBut.update ..).extBut _ _ D.zT.2.1 (hs2.extBut _ _ zi gz)
    ·show (h2.update TO _).get? TO=_
     rw [Heap.get?_update_self _ gT2 rfl]
     have ho:vals.length<old.length:=by omega
     have e4:(vals ++ old.drop vals.length).set vals.length x=vals ++ [x] ++ old.drop (vals ++ [x]).length:=by
      rw [List.set_append_right _ _ (Nat.le_refl _),Nat.sub_self,List.length_append,List.length_singleton,List.drop_eq_getElem_cons ho,List.set_cons_zero,List.append_assoc];rfl
     rw [← e4]
     simp [Obj.mapSeq]
    ·obtain ⟨ew,en,ei,ez,eT,eI⟩:=D.dr e (List.mem_of_getElem? he)
     have fr:∀ {f:Obj→Obj},∀ b∈e.fp,∀ o,h2.get? b=some o→(h2.update TO f).get? b=some o:=fun b hb o q=>(Heap.SameBut.update ..).extBut _ _ (fun w=>eT (w ▸ hb)) q
     rw [List.length_append,List.length_singleton]
     by_cases c:j=vals.length
     ·subst c
      rw [hd] at he;cases he
      rw [if_pos (Nat.lt_succ_self _)]
      exact dw.frame _ _ _ hst fr
     ·have g1:=gS j e he
      have hne:=D.ap _ _ _ _ hd he (Ne.symm c)
      have:(if j<vals.length+1 then i+1 else i)=(if j<vals.length then i+1 else i):=by
       by_cases c2:j<vals.length
       ·rw [if_pos c2,if_pos (by omega)]
       ·rw [if_neg c2,if_neg (by omega)]
      rw [this]
      exact ew.frame _ _ _ (ew.frame _ _ _ g1 fun b hb o q=>hs2.extBut _ _ (fun w=>hne (w ▸ hb)) q) fr
    ·by_cases c:j<vals.length
     ·rw [List.getElem?_append_left c] at hv'
      exact gP j e v he hv'
     ·rw [List.getElem?_append_right (by omega)] at hv'
      have:j - vals.length=0:=by
       have:=(List.getElem?_eq_some_iff.mp hv').1
       simp at this;omega
      rw [this] at hv'
      cases hv'
      have:j=vals.length:=by omega
      subst this
      rw [hd] at he;cases he;exact hP
    ·exact (Heap.SameBut.update h2 TO _).1.trans (hs2.1.trans gs)
    ·exact (Heap.SameBut.update ..).extBut _ _ b2 (hs2.extBut _ _ (b3 d (List.mem_of_getElem? hd)) (gk b o b1 b2 b3 e))
 ·obtain ⟨rfl,h,tk,vals,rfl,er,hv,gz,gT,gS,gP,gs,gk⟩:=hI
  have el:vals.length=l.length:=by
   have:=congrArg List.length er
   simp at this;omega
  rw [el,← hl,List.drop_length,List.append_nil] at gT
  show wpAny _ _ (seqItems? (.ref TO) >>= _) _ _ _
  refine wpAny_bind (wpAny_seqItems gT rfl ?_);refine wpAny_bind (wpAny_newTuple ?_ (by have:=D.sz;simpa using (show vals.length≤sizeLine by omega)))
  have hzlt:z<h.objs.size:=Heap.lt_size gz
  show wpAny _ _ (Builtin.SmallTypes.ownedTupleHandOut (.ref z) (.ref h.objs.size) >>= _) _ _ _
  refine wpAny_bind ?_;unfold Builtin.SmallTypes.ownedTupleHandOut
  have hz₈:IsZip (h.push { cls:=.type "tuple",data:=.seq vals.toArray }) z TI TO .ellipsis:=Heap.get?_push_of_some _ gz
  refine wpAny_bind (wpAny_setField_rec hz₈ (by simp) fun h₉ hz₉ hs₉=>?_)
  replace hz₉:IsZip h₉ z TI TO (rawInt h.objs.size):=hz₉
  refine wpAny_setField_rec hz₉ (by simp) fun hA hzA hsA=>?_
  replace hzA:IsZip hA z TI TO (rawInt h.objs.size):=hzA
  have up:∀ d o,d≠z→h.get? d=some o→hA.get? d=some o:=fun d o c1 e=>hsA.extBut _ _ c1 (hs₉.extBut _ _ c1 (Heap.get?_push_of_some _ e))
  have hTA:IsT hA h.objs.size vals:=hsA.extBut _ _ (Nat.ne_of_gt hzlt) (hs₉.extBut _ _ (Nat.ne_of_gt hzlt) (Heap.get?_push_size _ rfl))
  have hzA8:hA.objs.size=h.objs.size+1:=by rw [hsA.1,hs₉.1,Heap.size_push]
  refine wpAny_pure ⟨_,rfl,?_⟩
  show Q (.ref h.objs.size) _
  rw [gs] at hzA hTA hzA8 ⊢
  refine hQ hA tk vals hzA (up _ _ (Ne.symm D.zT.2.1) gT) el (fun d hd=>?_) gP hTA hzA8 fun b o b1 b2 b3 e=>up b o b1 (gk b o b1 b2 b3 e)
  obtain ⟨j,hj⟩:=List.mem_iff_getElem?.mp hd
  have g1:=gS j d hj
  rw [if_pos (by rw [el];exact (List.getElem?_eq_some_iff.mp hj).1)] at g1
  obtain ⟨dw,_,_,dz,_⟩:=D.dr d hd
  exact dw.frame _ _ _ g1 fun b hb o q=>up b o (fun w=>dz (w ▸ hb)) q
 ·simp
 ·rw [List.nil_append,List.length_nil,List.drop_zero];exact hs₁.extBut _ _ (Ne.symm D.zT.2.1) hTO
 ·obtain ⟨dw,_,_,dz,_⟩:=D.dr d (List.mem_of_getElem? e)
  rw [List.length_nil,if_neg (Nat.not_lt_zero _)]
  exact dw.frame _ _ _ (st d (List.mem_of_getElem? e)) fun b hb o q=>hs₁.extBut _ _ (fun w=>dz (w ▸ hb)) q
theorem yR {Q:Fin→Shared→Prop} (D:ZOk prog w A n l z TI TO) (hz:IsZip s.heap z TI TO .none) (hTI:IsT s.heap TI (l.map fun d=>.ref d.it)) (st:∀ d∈l,d.St n s.heap)
 (hE:∀ h' e,(∀ b o,b≠z→(∀ d∈l,b≠d.it)→s.heap.get? b=some o→h'.get? b=some o)→(∃ o,h'.get? e=some o∧o.cls = .type "StopIteration")→E (.ref e) { s with heap:=h' }) :
 wpAny (model prog w) A (Builtin.«zip.__next__» ⟨[.ref z],[]⟩) Q E s:=by
 obtain ⟨d,r,rfl,hn⟩:=D.hd
 obtain ⟨dw,dn,di,dz,dT,dI⟩:=D.dr d List.mem_cons_self
 show wpAny _ _ (field (.ref z) 2 >>= _) _ _ _;refine wpAny_bind (wpAny_field hz rfl (x:=.bool false) rfl ?_)
 show wpAny _ _ (field (.ref z) 3 >>= _) _ _ _;refine wpAny_bind (wpAny_field hz rfl (x:=.ref TI) rfl ?_)
 refine wpAny_bind (wpAny_seqItems hTI rfl ?_)
 simp only [show (((d :: r).map fun d=>Value.ref d.it).toArray.isEmpty)=false by simp]
 show wpAny _ _ (Builtin.SmallTypes.ownedTupleIsFree (.ref z) >>= _) _ _ _
 refine wpAny_bind ?_;unfold Builtin.SmallTypes.ownedTupleIsFree;refine wpAny_bind (wpAny_field hz rfl (x:=.none) rfl (wpAny_pure ?_));simp only [if_true]
 refine wpAny_bind (wpAny_rule ?_);refine wpAny_bind (wpAny_field hz rfl (x:=.ref TO) rfl ?_);refine wpAny_bind (wpAny_setField_rec hz (by simp) fun h₁ hz₁ hs₁=>?_)
 replace hz₁:IsZip h₁ z TI TO .ellipsis:=hz₁
 refine wpAny_bind ?_;simp only [List.map_cons,List.zipIdx_cons,List.forIn_cons]
 refine wpAny_bind (wpAny_bind (wpAny_onRaise ?_));show wpAny _ _ (Builtin.SmallTypes.nextOf (.ref d.it) >>= _) _ _ _
 have s1:d.St d.n h₁:=by rw [hn];exact dw.frame _ _ _ (st d List.mem_cons_self) fun b hb o q=>hs₁.extBut _ _ (fun w=>dz (w ▸ hb)) q
 refine wpAny_bind (dw.done _ _ _ s1 fun h₂ e hs₂ he=>?_)
 obtain ⟨oe,hoe,hce⟩:=he
 have zi:z≠d.it:=fun e=>dz (e ▸ di)
 have hz₂:IsZip h₂ z TI TO .ellipsis:=hs₂ _ _ zi hz₁
 have hez:e≠z:=fun x=>by subst x;rw [hz₂] at hoe;cases hoe;simp at hce
 exact wpAny_setField_rec hz₂ (by simp) fun h₃ _ hs₃=>hE h₃ e (fun b o c1 c3 x=>hs₃.extBut _ _ c1 (hs₂ _ _ (c3 d List.mem_cons_self) (hs₁.extBut _ _ c1 x))) ⟨oe,hs₃.extBut _ _ hez hoe,hce⟩
theorem p8 (D:ZOk prog w A.in1 n l z TI TO):WalksT prog w A z (z :: TI :: TO :: l.flatMap (·.fp)) (z :: TO :: l.map (·.it)) n
 (fun i vals=>∃ vs:List Value,vals=vs.toArray∧vs.length=l.length∧∀ (j:Nat) (d:Zd) v,l[j]? = some d→vs[j]? = some v→d.P i v)
 (fun i h=>IsZip h z TI TO .none∧IsT h TI (l.map fun d=>.ref d.it)∧(∃ vs,IsT h TO vs∧vs.length=l.length)∧∀ d∈l,d.St i h)
 (fun i T h=>(IsZip h z TI TO (rawInt T)∧IsT h TI (l.map fun d=>.ref d.it)∧(∃ vs,IsT h TO vs∧vs.length=l.length)∧(∀ d∈l,d.St (i+1) h)∧T≠z∧T≠TO∧∀ d∈l,T≠d.it)∧Exa h T) where
 sub:=fun b hb=>by
  rcases List.mem_cons.mp hb with rfl | hb
  ·exact List.mem_cons_self
  rcases List.mem_cons.mp hb with rfl | hb
  ·exact List.mem_cons_of_mem _ (List.mem_cons_of_mem _ List.mem_cons_self)
  obtain ⟨d,hd,rfl⟩:=List.mem_map.mp hb
  exact List.mem_cons_of_mem _ (List.mem_cons_of_mem _ (List.mem_cons_of_mem _ (List.mem_flatMap.mpr ⟨d,hd,(D.dr d hd).2.2.1⟩)))
 frame:=fun i h h' ⟨h1,h2,⟨vs,h3,h4⟩,h5⟩ hk=>⟨hk z (by simp) _ h1,hk TI (by simp) _ h2,⟨vs,hk TO (by simp) _ h3,h4⟩,fun d hd=>(D.dr d hd).1.frame _ _ _ (h5 d hd) fun b hb o e=>hk b (List.mem_cons_of_mem _ (List.mem_cons_of_mem _ (List.mem_cons_of_mem _ (List.mem_flatMap.mpr ⟨d,hd,hb⟩)))) o e⟩
 item:=fun i s Q E hi ⟨h1,h2,⟨vs,h3,h4⟩,h5⟩ hQ=>by
  have hT:s.TypeIs (.ref z) "zip":=⟨_,h1,rfl⟩
  unfold pyNext
  refine wpAny_bind (wpAny_attempt (wpAny_callSpecial?_slot (name:=Str.ofString "__next__") hT F.slot_zip_next (wpAny_call_entry F.slot_zip_next hT F.entry_zip_next (vC D h1 h2 h3 h4 hi h5 fun h' tk vals a1 a2 a3 a4 a5 a6 a7 a8=>wpAny_pure ?_) (F.args_zip_next_1 _))))
  have lt:∀ {c o},s.heap.get? c=some o→s.heap.objs.size≠c:=fun e=>Nat.ne_of_gt (Heap.lt_size e)
  refine hQ s.heap.objs.size vals.toArray h' tk ⟨vals,rfl,a3,a5⟩ (Nat.le_refl _) ⟨_,a6,rfl,_,rfl⟩ ⟨⟨a1,a8 _ _ (Ne.symm D.zT.1) D.zT.2.2 (fun d hd=>(D.dr d hd).2.2.2.2.2) h2,⟨vals,a2,a3⟩,a4,lt h1,lt h3,fun d hd=>?_⟩,fun o q=>(by rw [a6] at q;cases q;rfl)⟩ fun b o hb e=>a8 b o (fun w=>hb (w ▸ List.mem_cons_self)) (fun w=>hb (w ▸ List.mem_cons_of_mem _ List.mem_cons_self)) (fun d hd w=>hb (w ▸ List.mem_cons_of_mem _ (List.mem_cons_of_mem _ (List.mem_map.mpr ⟨d,hd,rfl⟩)))) e
  obtain ⟨o,e⟩:=(D.dr d hd).1.live i _ (h5 d hd)
  exact lt e
 go:=fun elts k pos i T s Q E ⟨⟨h1,h2,⟨vs,h3,h4⟩,h5,t1,t2,t3⟩,_⟩ hQ=>wpAny_letOwnedTupleGo_zip h1 fun h' hz' hs'=>hQ h' ⟨hz',hs'.extBut _ _ (Ne.symm D.zT.1) h2,⟨vs,hs'.extBut _ _ (Ne.symm D.zT.2.1) h3,h4⟩,fun d hd=>(D.dr d hd).1.frame _ _ _ (h5 d hd) fun b hb o e=>hs'.extBut _ _ (fun w=>(D.dr d hd).2.2.2.1 (w ▸ hb)) e⟩ fun b o hb e=>hs'.extBut _ _ (fun w=>hb (w ▸ List.mem_cons_self)) e
 apart:=fun i T h ⟨⟨_,_,_,_,t1,t2,t3⟩,_⟩ hT=>by
  rcases List.mem_cons.mp hT with w | hT
  ·exact t1 w
  rcases List.mem_cons.mp hT with w | hT
  ·exact t2 w
  obtain ⟨d,hd,w⟩:=List.mem_map.mp hT
  exact t3 d hd w.symm
 done:=fun s Q E ⟨h1,h2,_,h5⟩ hQ=>by
  have hT:s.TypeIs (.ref z) "zip":=⟨_,h1,rfl⟩
  unfold pyNext
  refine wpAny_bind (wpAny_attempt (wpAny_callSpecial?_slot (name:=Str.ofString "__next__") hT F.slot_zip_next (wpAny_call_entry F.slot_zip_next hT F.entry_zip_next (yR D h1 h2 h5 fun h' e hk he=>?_) (F.args_zip_next_1 _))))
  obtain ⟨o,ho,hc⟩:=he
  refine wpAny_bind (wpAny_isInstance (T:="StopIteration") (b:=true) ⟨o,ho,hc⟩ isSubtype_stop ?_)
  exact wpAny_pure (hQ h' s.toks fun b o hb e=>hk b o (fun w=>hb (w ▸ List.mem_cons_self)) (fun d hd w=>hb (w ▸ List.mem_cons_of_mem _ (List.mem_cons_of_mem _ (List.mem_map.mpr ⟨d,hd,rfl⟩)))) e)
 self:=fun i s Q E hst hQ=>wpAny_pyIter_zip hst.1 hQ
end
end L2.Ev
end
section
namespace PySem
namespace F
theorem z3_typeCall (a b c):checkTypeCall "zip" ⟨[a,b,c],[]⟩=pure ():=by kernel_rfl
theorem z3_newCall (a b c):checkBuiltinCall "zip.__new__" ⟨[.type "zip",a,b,c],[]⟩=pure ():=by kernel_rfl
theorem z3_args_init (a b c d):argsOk "object.__init__" ⟨[a,b,c,d],[]⟩:=by
 unfold argsOk;rw [signature?_of (id:="object.__init__") (n:=['_','_','t','i','n','i','_','_']) (o:=['t','c','e','j','b','o']) (by kernel_rfl) owner_object];kernel_rfl
end F
section
variable {prog:Program} {w:World} {A:Around} {E:Value→Shared→Prop} {s:Shared}
theorem fG (hit:s.heap.IsTupleIter it t i) (ht:s.heap.IsTuple t items) (hx:items[i]? = some x)
 (hQ:∀ h',h'.IsTupleIter it t (i+1)→Heap.SameBut it s.heap h'→Q x { s with heap:=h' }):wpAny (model prog w) A (Builtin.SmallTypes.nextOf (.ref it)) Q E s:=by
 obtain ⟨o,ho,hc,hd⟩:=id hit
 obtain ⟨ol,hol,_,nl,hdl⟩:=ht
 unfold Builtin.SmallTypes.nextOf
 refine wpAny_bind (wpAny_callSpecial?_slot (name:=Str.ofString "__next__") hit.typeIs F.slot_tuple_iterator_next (wpAny_call_entry F.slot_tuple_iterator_next hit.typeIs F.entry_tuple_iterator_next ?_ (F.args_tuple_iterator_next_1 _)))
 show wpAny _ _ (field (.ref it) 0 >>= _) _ _ s;refine wpAny_bind (wpAny_field ho hd (x:=.ref t) rfl ?_)
 show wpAny _ _ (if (Value.ref t == Value.none)=true then _ else _) _ _ s;rw [if_neg (show ¬ ((Value.ref t == Value.none)=true) from Bool.false_ne_true)]
 show wpAny _ _ (field (.ref it) 1 >>= _) _ _ s;refine wpAny_bind (wpAny_field ho hd (x:=.int i 0) rfl ?_)
 show wpAny _ _ (seqItems? (.ref t) >>= _) _ _ s;refine wpAny_bind (wpAny_seqItems hol hdl ?_);simp only [Int.toNat_natCast,hx]
 refine wpAny_bind (wpAny_setField ho hd (by simp) (wpAny_pure ⟨x,rfl,wpAny_pure (hQ _ ?_ (Heap.SameBut.update ..))⟩))
 exact ⟨_,Heap.get?_update_self _ ho (Obj.isFreed_of_fields (Obj.data_mapFields hd _)),(Obj.cls_mapFields ..).trans hc,by rw [Obj.data_mapFields hd];simp [rawInt]⟩
theorem hZ (hh:A.handled=none) (hit:s.heap.IsTupleIter it t i) (ht:s.heap.IsTuple t items) (hx:items[i]? = none)
 (hE:∀ h' e,Heap.ExtBut it s.heap h'→(∃ o,h'.get? e=some o∧o.cls = .type "StopIteration")→E (.ref e) { s with heap:=h' }):wpAny (model prog w) A (Builtin.SmallTypes.nextOf (.ref it)) Q E s:=by
 obtain ⟨o,ho,hc,hd⟩:=id hit
 obtain ⟨ol,hol,_,nl,hdl⟩:=ht
 unfold Builtin.SmallTypes.nextOf
 refine wpAny_bind (wpAny_callSpecial?_slot (name:=Str.ofString "__next__") hit.typeIs F.slot_tuple_iterator_next (wpAny_call_entry F.slot_tuple_iterator_next hit.typeIs F.entry_tuple_iterator_next ?_ (F.args_tuple_iterator_next_1 _)))
 show wpAny _ _ (field (.ref it) 0 >>= _) _ _ s;refine wpAny_bind (wpAny_field ho hd (x:=.ref t) rfl ?_)
 show wpAny _ _ (if (Value.ref t == Value.none)=true then _ else _) _ _ s;rw [if_neg (show ¬ ((Value.ref t == Value.none)=true) from Bool.false_ne_true)]
 show wpAny _ _ (field (.ref it) 1 >>= _) _ _ s;refine wpAny_bind (wpAny_field ho hd (x:=.int i 0) rfl ?_)
 show wpAny _ _ (seqItems? (.ref t) >>= _) _ _ s;refine wpAny_bind (wpAny_seqItems hol hdl ?_);simp only [Int.toNat_natCast,hx]
 refine wpAny_bind (wpAny_rule (wpAny_bind (wpAny_setField ho hd (by simp) ?_)));show wpAny _ _ (newExc (.type "StopIteration") [] >>= _) _ _ _
 refine wpAny_bind ?_;simp only [newExc,newTuple];refine wpAny_bind (wpAny_newObj_type ?_ (by size_fits))
 refine wpAny_bind (m:=firstArgMember _ _) (wpAny_of_eq (a:=Value.none) (by first | rfl | (simp only [firstArgMember];rfl)) ?_);refine wpAny_newObj_type ?_ (by size_fits)
 simp only [raiseNew];refine wpAny_bind (wpAny_handled ?_);first | rw [show A.in1.handled=none from hh] | rw [hh]
 refine wpAny_bind (wpAny_pure (wpAny_throw ?_));exact hE _ _ (((Heap.SameBut.update ..).extBut.push _).push _) ⟨_,Heap.get?_push_size _ rfl,rfl⟩
end
end PySem
namespace L2.Ev
theorem fh {prog:Program} {w:World} {A:Around} (hh:A.handled=none) (it l:Addr) (hne:l≠it) (items:Array Value) :
 Draws prog w A it [it,l] items.size (fun i v=>items[i]? = some v) (fun i h=>h.IsTupleIter it l i∧h.IsTuple l items) where
 live:=fun _ _ st=>let ⟨o,ho,_⟩:=st.1;⟨o,ho⟩
 frame:=fun _ _ _ st hk=>⟨st.1.at fun o e=>hk it (by simp) o e,st.2.at fun o e=>hk l (by simp) o e⟩
 item:=fun i s Q E hi st hQ=>fG st.1 st.2 (x:=items[i]) (by simp [hi]) fun h' hit' hs'=>hQ _ h' s.toks (by simp [hi]) ⟨hit',st.2.extBut hs'.extBut hne⟩ hs'
 done:=fun s Q E st hE=>hZ hh st.1 st.2 (by simp) hE
def bW (h:Heap) (k:Bool) (a:Addr) (xs:Array Value):Prop:=(k=true∧h.IsTuple a xs)∨(k=false∧h.IsList a xs)
def itN:Bool→String
 | true=>"tuple_iterator"
 | false=>"list_iterator"
abbrev itO (k:Bool) (a:Addr):Obj:={ cls:=.type (itN k),data:=.fields #[.ref a,.int 0 0] }
section
variable {prog:Program} {w:World} {A:Around} {E:Value→Shared→Prop} {s:Shared} {k k1 k2 k3:Bool} {a a1 a2 a3:Addr} {xs ys zs:Array Value}
theorem bW.push (h:bW h0 k a xs) (o:Obj):bW (h0.push o) k a xs:=h.imp (fun ⟨e,q⟩=>⟨e,Heap.IsTuple.push q o⟩) fun ⟨e,q⟩=>⟨e,Heap.IsList.push q o⟩
theorem ed {Q:Value→Shared→Prop} (h:bW s.heap k a xs) (q:Q (.ref s.heap.objs.size) { s with heap:=s.heap.push (itO k a) }):wpAny (model prog w) A (pyIter (.ref a)) Q E s:=by
 rcases h with ⟨rfl,h⟩ | ⟨rfl,h⟩
 ·exact wpAny_pyIter_tuple h q
 ·exact wpAny_pyIter_list h q
theorem tq (k1 k2:Bool) (a1 a2:Addr) (xs ys:Array Value) :
 Meets (Builtin.«zip.__new__» ⟨[.type "zip",.ref a1,.ref a2],[]⟩) (fun _ R s=>bW s.heap k1 a1 xs∧bW s.heap k2 a2 ys ∧
  R (.ok (.ret (.ref (((((s.heap.push (itO k1 a1)).push (itO k2 a2)).push { cls:=.type "tuple",data:=.seq #[.ref s.heap.objs.size,.ref (s.heap.push (itO k1 a1)).objs.size] }).push { cls:=.type "tuple",data:=.seq #[.none,.none] })).objs.size)))
    { s with heap:=(((((s.heap.push (itO k1 a1)).push (itO k2 a2)).push { cls:=.type "tuple",data:=.seq #[.ref s.heap.objs.size,.ref (s.heap.push (itO k1 a1)).objs.size] }).push { cls:=.type "tuple",data:=.seq #[.none,.none] }).push { cls:=.type "zip",data:=.fields #[.none,.bool false,.bool false,.ref ((s.heap.push (itO k1 a1)).push (itO k2 a2)).objs.size,.ref (((s.heap.push (itO k1 a1)).push (itO k2 a2)).push { cls:=.type "tuple",data:=.seq #[.ref s.heap.objs.size,.ref (s.heap.push (itO k1 a1)).objs.size] }).objs.size] }) }):=
 .of_wp fun prog w A R s h=>by
  obtain ⟨hp,g,d,tk,os⟩:=s;obtain ⟨h1,h2,h⟩:=h
  have hsub:=sub_zip
  have L1:bW (Shared.heap ⟨hp,g,d,tk,os⟩) k1 a1 xs:=h1
  have L2:bW (Shared.heap ⟨hp.push (itO k1 a1),g,d,tk,os⟩) k2 a2 ys:=h2.push _
  wp_walk using ed L1,ed L2
  exact ⟨_,rfl,h⟩
abbrev zH2 (h:Heap) (k1 k2:Bool) (a1 a2:Addr):Heap:=((h.push (itO k1 a1)).push (itO k2 a2))
theorem tu (k1 k2 k3:Bool) (a1 a2 a3:Addr) (xs ys zs:Array Value) :
 Meets (Builtin.«zip.__new__» ⟨[.type "zip",.ref a1,.ref a2,.ref a3],[]⟩) (fun _ R s=>bW s.heap k1 a1 xs∧bW s.heap k2 a2 ys∧bW s.heap k3 a3 zs ∧
  R (.ok (.ret (.ref (((((zH2 s.heap k1 k2 a1 a2).push (itO k3 a3)).push { cls:=.type "tuple",data:=.seq #[.ref s.heap.objs.size,.ref (s.heap.push (itO k1 a1)).objs.size,.ref (zH2 s.heap k1 k2 a1 a2).objs.size] }).push { cls:=.type "tuple",data:=.seq #[.none,.none,.none] })).objs.size)))
    { s with heap:=(((((zH2 s.heap k1 k2 a1 a2).push (itO k3 a3)).push { cls:=.type "tuple",data:=.seq #[.ref s.heap.objs.size,.ref (s.heap.push (itO k1 a1)).objs.size,.ref (zH2 s.heap k1 k2 a1 a2).objs.size] }).push { cls:=.type "tuple",data:=.seq #[.none,.none,.none] }).push { cls:=.type "zip",data:=.fields #[.none,.bool false,.bool false,.ref ((zH2 s.heap k1 k2 a1 a2).push (itO k3 a3)).objs.size,.ref (((zH2 s.heap k1 k2 a1 a2).push (itO k3 a3)).push { cls:=.type "tuple",data:=.seq #[.ref s.heap.objs.size,.ref (s.heap.push (itO k1 a1)).objs.size,.ref (zH2 s.heap k1 k2 a1 a2).objs.size] }).objs.size] }) }):=
 .of_wp fun prog w A R s h=>by
  obtain ⟨hp,g,d,tk,os⟩:=s;obtain ⟨h1,h2,h3,h⟩:=h
  have hsub:=sub_zip
  have L1:bW (Shared.heap ⟨hp,g,d,tk,os⟩) k1 a1 xs:=h1
  have L2:bW (Shared.heap ⟨hp.push (itO k1 a1),g,d,tk,os⟩) k2 a2 ys:=h2.push _
  have L3:bW (Shared.heap ⟨(hp.push (itO k1 a1)).push (itO k2 a2),g,d,tk,os⟩) k3 a3 zs:=(h3.push _).push _
  wp_walk using ed L1,ed L2,ed L3
  exact ⟨_,rfl,h⟩
def psh (h:Heap):List Obj→Heap
 | []=>h
 | o :: r=>psh (h.push o) r
theorem dJ:∀ {l:List Obj} {h:Heap} {b o},h.get? b=some o→(psh h l).get? b=some o
 | [],_,_,_,e=>e
 | a :: r,h,_,_,e=>dJ (l:=r) (h:=h.push a) (Heap.get?_push_of_some _ e)
theorem bN:∀ {l:List Obj} {h:Heap} {j:Nat} {o:Obj},l[j]? = some o→o.isFreed=false→(psh h l).get? (h.objs.size+j)=some o
 | [],_,_,_,e,_=>by simp at e
 | a :: r,h,0,o,e,q=>by simp at e;subst e;exact dJ (l:=r) (h:=h.push a) (Heap.get?_push_size _ q)
 | a :: r,h,j+1,o,e,q=>by
   have:=bN (h:=h.push a) (j:=j) (l:=r) (by simpa using e) q
   rw [Heap.size_push] at this
   rw [show h.objs.size+(j+1)=h.objs.size+1+j by omega];exact this
theorem ph {Q:Value→Shared→Prop} (h1:bW s.heap k1 a1 xs) (h2:bW s.heap k2 a2 ys)
 (h:∀ h',h'=psh s.heap [itO k1 a1,itO k2 a2,{ cls:=.type "tuple",data:=.seq #[.ref s.heap.objs.size,.ref (s.heap.objs.size+1)] },{ cls:=.type "tuple",data:=.seq #[.none,.none] },{ cls:=.type "zip",data:=.fields #[.none,.bool false,.bool false,.ref (s.heap.objs.size+2),.ref (s.heap.objs.size+3)] }]→Q (.ref (s.heap.objs.size+4)) { s with heap:=h' }) :
 wpAny (model prog w) A (call (.type "zip") [.ref a1,.ref a2]) Q E s:=by
 refine callType_new F.called_zip (by decide) (F.typeCall_zip_2 _ _) (F.newCall_zip_2 _ _) (fun obj=>F.args_object_init_3 obj _ _) F.entry_zip_new (tq k1 k2 a1 a2 xs ys) ⟨h1,h2,?_⟩
 have z1:=@Heap.size_push
 show _∧_
 simp only [Heap.size_push]
 exact ⟨⟨_,by rw [show s.heap.objs.size+4=(((((s.heap.push (itO k1 a1)).push (itO k2 a2)).push { cls:=.type "tuple",data:=.seq #[.ref s.heap.objs.size,.ref (s.heap.objs.size+1)] }).push { cls:=.type "tuple",data:=.seq #[.none,.none] })).objs.size by simp only [Heap.size_push]];exact Heap.get?_push_size _ rfl,rfl⟩,h _ rfl⟩
end
section
variable {prog:Program} {w:World} {A:Around} {E:Value→Shared→Prop} {s:Shared} {k k1 k2 k3:Bool} {a a1 a2 a3:Addr} {xs ys zs:Array Value}
theorem pk {Q:Value→Shared→Prop} (h1:bW s.heap k1 a1 xs) (h2:bW s.heap k2 a2 ys) (h3:bW s.heap k3 a3 zs)
 (h:∀ h',h'=psh s.heap [itO k1 a1,itO k2 a2,itO k3 a3,{ cls:=.type "tuple",data:=.seq #[.ref s.heap.objs.size,.ref (s.heap.objs.size+1),.ref (s.heap.objs.size+2)] },{ cls:=.type "tuple",data:=.seq #[.none,.none,.none] },{ cls:=.type "zip",data:=.fields #[.none,.bool false,.bool false,.ref (s.heap.objs.size+3),.ref (s.heap.objs.size+4)] }]→Q (.ref (s.heap.objs.size+5)) { s with heap:=h' }) :
 wpAny (model prog w) A (call (.type "zip") [.ref a1,.ref a2,.ref a3]) Q E s:=by
 refine callType_new F.called_zip (by decide) (F.z3_typeCall _ _ _) (F.z3_newCall _ _ _) (fun obj=>F.z3_args_init obj _ _ _) F.entry_zip_new (tu k1 k2 k3 a1 a2 a3 xs ys zs) ⟨h1,h2,h3,?_⟩
 show _∧_
 simp only [Heap.size_push]
 exact ⟨⟨_,bN (j:=5) (h:=s.heap) (l:=[itO k1 a1,itO k2 a2,itO k3 a3,{ cls:=.type "tuple",data:=.seq #[.ref s.heap.objs.size,.ref (s.heap.objs.size+1),.ref (s.heap.objs.size+2)] },{ cls:=.type "tuple",data:=.seq #[.none,.none,.none] },{ cls:=.type "zip",data:=.fields #[.none,.bool false,.bool false,.ref (s.heap.objs.size+3),.ref (s.heap.objs.size+4)] }]) rfl rfl,rfl⟩,h _ rfl⟩
def zd (k:Bool) (it a:Addr) (xs:Array Value):Zd:=⟨it,[it,a],xs.size,fun i v=>xs[i]? = some v,fun i h=>(if k then h.IsTupleIter it a i else h.IsListIter it a i)∧if k then h.IsTuple a xs else h.IsList a xs⟩
theorem lO (hh:A.handled=none) (k:Bool) (it a:Addr) (hne:a≠it) (xs:Array Value):Draws prog w A it [it,a] xs.size (zd k it a xs).P (zd k it a xs).St:=by
 cases k
 ·exact Draws.list hh it a hne xs
 ·exact fh hh it a hne xs
theorem lP {h:Heap} (e:h.get? it=some (itO k a)) (q:bW h k a xs):(zd k it a xs).St 0 h:=by
 rcases q with ⟨rfl,q⟩ | ⟨rfl,q⟩
 ·exact ⟨⟨_,e,rfl,rfl⟩,q⟩
 ·exact ⟨⟨_,e,rfl,rfl⟩,q⟩
end
theorem lne (n j a:Nat) (ha:a<n):a≠n+j:=by omega
theorem oS:∀ {l m:List D} {i:Nat},(fb l m)[i]? = (l[i]?).bind fun a=>(m[i]?).map fun b=>.tup [a,b]
 | [],_,_=>by simp [fb]
 | a :: r,[],i=>by simp [fb]
 | a :: r,b :: q,0=>by simp [fb]
 | a :: r,b :: q,i+1=>by rw [fb,List.getElem?_cons_succ,oS];rfl
theorem lQ:∀ {l m:List D},l.length≤m.length→(fb l m).length=l.length
 | [],_,_=>by simp [fb]
 | a :: r,[],h=>by simp at h
 | a :: r,b :: q,h=>by rw [fb,List.length_cons,lQ (by simpa using h),List.length_cons]
theorem oU:∀ {l m n:List D} {i:Nat},(cA l m n)[i]? = (l[i]?).bind fun a=>(m[i]?).bind fun b=>(n[i]?).map fun c=>.tup [a,b,c]
 | [],_,_,_=>by simp [cA]
 | a :: r,[],_,i=>by simp [cA]
 | a :: r,b :: q,[],i=>by simp [cA]
 | a :: r,b :: q,c :: p,0=>by simp [cA]
 | a :: r,b :: q,c :: p,i+1=>by rw [cA,List.getElem?_cons_succ,oU];rfl
theorem lR:∀ {l m n:List D},l.length≤m.length→l.length≤n.length→(cA l m n).length=l.length
 | [],_,_,_,_=>by simp [cA]
 | a :: r,[],_,h,_=>by simp at h
 | a :: r,b :: q,[],_,h=>by simp at h
 | a :: r,b :: q,c :: p,h,h'=>by rw [cA,List.length_cons,lR (by simpa using h) (by simpa using h'),List.length_cons]
section
variable {X:Cx} {z z' z0 z1:Z} {tg:Expr}
theorem RDs.v {i:Nat} {d:D} {v:Value} (r:RDs W ρ G l vs) (e:l[i]? = some d) (q:vs.toArray[i]? = some v):RD W ρ G d v:=by
 obtain ⟨v',w1,w2⟩:=r.get e
 rw [show vs[i]? = some v by simpa using q] at w1;cases w1;exact w2
theorem lD {x:D} (I:Rep X z) (h:RD X.W z.ρ z.G x u) (e:sqL x=some l):∃ k a vs,u = .ref a∧(∃ o,z.G a=some o)∧bW z.s.heap k a vs.toArray∧RDs X.W z.ρ z.G l vs:=by
 cases x with
 | lst m=>cases e;obtain ⟨a,o,vs,rfl,g,⟨⟨n,rfl⟩,_⟩,r⟩:=h;exact ⟨false,a,vs,rfl,⟨_,g⟩,.inr ⟨rfl,_,I.gh _ _ g,rfl,n,rfl⟩,r⟩
 | tup m=>cases e;obtain ⟨a,o,vs,rfl,g,⟨tc,⟨n,td⟩,_⟩,r⟩:=h;exact ⟨true,a,vs,rfl,⟨_,g⟩,.inl ⟨rfl,_,I.gh _ _ g,tc,n,td⟩,r⟩
 | _=>cases e
theorem bW.psh (q:bW h k a xs):bW (psh h l) k a xs:=q.imp (fun ⟨e,q⟩=>⟨e,q.at fun o e=>dJ e⟩) fun ⟨e,q⟩=>⟨e,q.at fun o e=>dJ e⟩
theorem tj {es:List Expr} {k:Nat} {tp:Pos} {ds:List D} {n:Nat} {l:List Zd} {zz TI TO:Addr} {h':Heap} {o:Out D} (hc:X.calm=true) (x:Ee X z z1) (I:Rep X z1) (kp:∀ b o,z1.s.heap.get? b=some o→h'.get? b=some o)
 (D:∀ A,A.handled=none→ZOk X.W.P X.W.w A n l zz TI TO) (hz:IsZip h' zz TI TO .none) (hTI:IsT h' TI (l.map fun d=>.ref d.it)) (hTO:∃ vs,IsT h' TO vs∧vs.length=l.length) (st:∀ d∈l,d.St 0 h') (hn:ds.length=n) (nw:∀ b,b=zz∨b=TI∨b=TO→z1.h b=none)
 (fp:∀ d∈l,∃ a,d.fp = [d.it,a]∧z1.h d.it=none∧∃ o,z1.G a=some o)
 (hP:∀ i d (vs:List Value),vs.length=l.length→(∀ (j:Nat) (d:Zd) v,l[j]? = some d→vs[j]? = some v→d.P i v)→ds[i]? = some d→∃ l,d = .tup l∧∀ ρ' G',z1.ρ <+: ρ'→Sub z1.G G'→RDs X.W ρ' G' l vs) (e:o = .ok (.lst ds) z1.t) :
 wpAny X.M X.A (pyIter (.ref zz)) (FI X z (.Tuple es k tp) o) NoE { z1.s with heap:=h' }:=by
 refine wpAny_pyIter_zip hz (fj (ds:=ds) x I (s2:={ z1.s with heap:=h' }) (.hp (t:=z1.s.toks) kp) (Itr.walksT (I.hd hc) hn (fun A hA=>p8 (D A.in1 hA)) (fun i h st b hb=>?_) (fun _ _ _ m=>m.2) fun i vals d p1 p2=>?_) ⟨hz,hTI,hTO,st⟩ (fun b hb=>?_) e)
 ·obtain ⟨w1,w2,⟨_,w3,_⟩,w4⟩:=st
  rcases List.mem_cons.mp hb with rfl | hb
  ·exact ⟨_,w1⟩
  rcases List.mem_cons.mp hb with rfl | hb
  ·exact ⟨_,w3⟩
  obtain ⟨d,hd,rfl⟩:=List.mem_map.mp hb
  exact ((D callerA rfl).dr d hd).1.live _ _ (w4 d hd)
 ·obtain ⟨vs,rfl,hl,hv⟩:=p1
  obtain ⟨l',q1,q2⟩:=hP i d vs hl hv p2
  refine ⟨by have:=(D callerA rfl).sz;simpa using (show vs.length≤sizeLine by omega),l',q1,fun ρ' G' h1 h2=>q2 ρ' G' h1 h2⟩
 ·have old:∀ {c},z1.h c=none→∀ {o},z1.G c=some o→False:=fun n o q=>by rw [I.gh _ _ q] at n;cases n
  rcases List.mem_cons.mp hb with rfl | hb
  ·exact .inl ⟨nw _ (.inl rfl),_,hz⟩
  rcases List.mem_cons.mp hb with rfl | hb
  ·exact .inl ⟨nw _ (.inr (.inl rfl)),_,hTI⟩
  rcases List.mem_cons.mp hb with rfl | hb
  ·obtain ⟨_,w,_⟩:=hTO;exact .inl ⟨nw _ (.inr (.inr rfl)),_,w⟩
  obtain ⟨d,hd,hb⟩:=List.mem_flatMap.mp hb
  obtain ⟨a,f1,f2,o,f3⟩:=fp d hd
  rw [f1] at hb
  rcases List.mem_cons.mp hb with rfl | hb
  ·exact .inl ⟨f2,((D callerA rfl).dr d hd).1.live _ _ (st d hd)⟩
  ·cases List.mem_singleton.mp hb
   refine .inr ⟨fun m=>?_,o,f3⟩
   rcases List.mem_cons.mp m with rfl | m
   ·exact old (nw _ (.inl rfl)) f3
   rcases List.mem_cons.mp m with rfl | m
   ·exact old (nw _ (.inr (.inr rfl))) f3
   obtain ⟨d',hd',rfl⟩:=List.mem_map.mp m
   obtain ⟨_,_,f5,_⟩:=fp d' hd'
   exact old f5 f3
theorem ev3 (f:List D→Sta→Out β):(X.evs br (.cons a (.cons b (.cons c .nil))) t).bind f=(X.ev br a t).bind fun x s=>(X.ev br b s).bind fun y s=>(X.ev br c s).bind fun w s=>f [x,y,w] s:=by
 show ((X.ev br a t).bind fun x s=>(X.evs br (.cons b (.cons c .nil)) s).bind fun l s=>Out.ok (x :: l) s).bind f=_
 rw [av];congr 1;funext x s;rw [av,ev2];rfl
theorem uC {es:List Expr} {k:Nat} {tp:Pos} (hc:X.calm=true) (hx:Blt X "zip" (.type "zip")) (ha:LE X ea a) (hb:LE X eb b) (he:starEach [ea,eb] X.env=(false,eval ea X.env) :: starEach [eb] X.env) (he2:starEach [eb] X.env=(false,eval eb X.env) :: starEach [] X.env):LI X (.Tuple es k tp) (.Call (.Name "zip" p) [ea,eb] [] pos) (.it .zip2 (.cons a (.cons b .nil))):=fun z I nb=>
 bf (Q:=fun v s1=>wpAny X.M X.A (pyIter v) (FI X z (.Tuple es k tp) (X.ev false (.it .zip2 (.cons a (.cons b .nil))) z.t)) NoE s1) (.inr ⟨_,rfl⟩) hx he (by rw [he2];rfl) I (by
  rw [he2]
  exact Calls.spliced_cons ((ha false).go .refl I (ev2 fun l s=>Out.of s ((itD .zip2 l).map D.lst)) nb fun z1 x u y1 x1 I1 r1 e1=>Calls.spliced_cons ((hb false).go x1 I1 e1 nb fun z2 y v y2 x2 I2 r2 e2=>Calls.spliced_nil (by
   have e2:X.ev false (.it .zip2 (.cons a (.cons b .nil))) z.t=Out.of z2.t ((match sqL x,sqL y with | some l,some m=>if l.length≤m.length then some (fb l m) else none | _,_=>none).map D.lst):=e2
   cases q1:sqL x with
   | none=>rw [q1] at e2;exact absurd e2 nb
   | some l=>
     cases q2:sqL y with
     | none=>rw [q1,q2] at e2;exact absurd e2 nb
     | some m=>
       rw [q1,q2] at e2
       by_cases c:l.length≤m.length
       ·have e2:X.ev false (.it .zip2 (.cons a (.cons b .nil))) z.t = .ok (.lst (fb l m)) z2.t:=by rw [e2];simp only [if_pos c];rfl
        obtain ⟨k1,a1,vs,rfl,⟨o1,g1⟩,s1,w1⟩:=lD I2 (r1.rd.st y2.st) q1
        obtain ⟨k2,a2,us,rfl,⟨o2,g2⟩,s2,w2⟩:=lD I2 r2.rd q2
        have l1:=Heap.lt_size (I2.gh _ _ g1)
        have l2:=Heap.lt_size (I2.gh _ _ g2)
        refine ph s1 s2 fun h' hh=>?_
        have N:∀ j,z2.h (z2.s.heap.objs.size+j)=none:=fun j=>gB (Nat.le_add_right ..)
        have e1:=w1.len
        have e3:=w2.len
        refine tj (ds:=fb l m) (n:=vs.toArray.size) (l:=[zd k1 z2.s.heap.objs.size a1 vs.toArray,zd k2 (z2.s.heap.objs.size+1) a2 us.toArray]) hc x2 I2 (fun b o e=>hh ▸ dJ e) (fun A hA=>⟨fun d hd=>?_,fun i j d e hi hj ne=>?_,⟨_,_,rfl,rfl⟩,⟨?_,?_,?_⟩,by rw [sizeLine_eq];exact Nat.le_of_ble_eq_true rfl⟩) (hh ▸ bN (j:=4) rfl rfl) (hh ▸ bN (j:=2) rfl rfl) ⟨[.none,.none],hh ▸ bN (j:=3) rfl rfl,rfl⟩ (fun d hd=>?_) (by rw [lQ c,e1];simp) (fun b hb=>by rcases hb with rfl | rfl | rfl <;> exact N _) (fun d hd=>?_) (fun i d ws hl hv hd=>?_) e2
        ·simp only [List.mem_cons,List.not_mem_nil,or_false] at hd
         rcases hd with rfl | rfl
         ·exact ⟨lO hA _ _ _ (Nat.ne_of_lt l1) _,Nat.le_refl _,List.mem_cons_self,nin _ 4 0 _ (by decide) l1,nin _ 3 0 _ (by decide) l1,by simp [zd]⟩
         ·exact ⟨lO hA _ _ _ (lne _ 1 _ l2) _,by simp [zd];omega,List.mem_cons_self,nin _ 4 1 _ (by decide) l2,nin _ 3 1 _ (by decide) l2,by simp [zd]⟩
        ·match i,j,hi,hj,ne with
         | 0,0,_,_,ne=>exact absurd rfl ne
         | 0,1,hi,hj,_=>cases hi;cases hj;exact nin _ 0 1 _ (by decide) l2
         | 1,0,hi,hj,_=>cases hi;cases hj;exact nin _ 1 0 _ (by decide) l1
         | 1,1,_,_,ne=>exact absurd rfl ne
         | i+2,_,hi,_,_=>simp at hi
         | _,j+2,_,hj,_=>simp at hj
        ·simp
        ·simp
        ·simp
        ·simp only [List.mem_cons,List.not_mem_nil,or_false] at hd
         rcases hd with rfl | rfl
         ·exact lP (hh ▸ bN (j:=0) rfl rfl) (hh ▸ s1.psh)
         ·exact lP (hh ▸ bN (j:=1) rfl rfl) (hh ▸ s2.psh)
        ·simp only [List.mem_cons,List.not_mem_nil,or_false] at hd
         rcases hd with rfl | rfl
         ·exact ⟨a1,rfl,N 0,_,g1⟩
         ·exact ⟨a2,rfl,N 1,_,g2⟩
        ·rw [oS] at hd
         obtain ⟨da,w3,hd⟩:=Option.bind_eq_some_iff.mp hd
         obtain ⟨db,w4,rfl⟩:=Option.map_eq_some_iff.mp hd
         match ws,hl,hv with
         | [va,vb],_,hv=>exact ⟨_,rfl,fun ρ' G' h1 h2=>.cons ((w1.mono h1 h2).v w3 (hv 0 _ va rfl rfl)) (.cons ((w2.mono h1 h2).v w4 (hv 1 _ vb rfl rfl)) rfl)⟩
       ·simp only [if_neg c] at e2;exact absurd e2 nb))))
theorem uD {es:List Expr} {k:Nat} {tp:Pos} (hc:X.calm=true) (hx:Blt X "zip" (.type "zip")) (ha:LE X ea a) (hb:LE X eb b) (hd:LE X ec c) (he:starEach [ea,eb,ec] X.env=(false,eval ea X.env) :: starEach [eb,ec] X.env) (he2:starEach [eb,ec] X.env=(false,eval eb X.env) :: starEach [ec] X.env) (he3:starEach [ec] X.env=(false,eval ec X.env) :: starEach [] X.env):LI X (.Tuple es k tp) (.Call (.Name "zip" p) [ea,eb,ec] [] pos) (.it .zip3 (.cons a (.cons b (.cons c .nil)))):=fun z I nb=>
 bf (Q:=fun v s1=>wpAny X.M X.A (pyIter v) (FI X z (.Tuple es k tp) (X.ev false (.it .zip3 (.cons a (.cons b (.cons c .nil)))) z.t)) NoE s1) (.inr ⟨_,rfl⟩) hx he (by rw [he2,he3];rfl) I (by
  rw [he2,he3]
  exact Calls.spliced_cons ((ha false).go .refl I (ev3 fun l s=>Out.of s ((itD .zip3 l).map D.lst)) nb fun z0 x0 u0 y0 x0' I0 r0 e0=>Calls.spliced_cons ((hb false).go x0' I0 e0 nb fun z1 x u y1 x1 I1 r1 e1=>Calls.spliced_cons ((hd false).go x1 I1 e1 nb fun z2 y v y2 x2 I2 r2 e2=>Calls.spliced_nil (by
   have e2:X.ev false (.it .zip3 (.cons a (.cons b (.cons c .nil)))) z.t=Out.of z2.t ((match sqL x0,sqL x,sqL y with | some l,some m,some n=>if l.length≤m.length∧l.length≤n.length then some (cA l m n) else none | _,_,_=>none).map D.lst):=e2
   cases q1:sqL x0 with
   | none=>rw [q1] at e2;exact absurd e2 nb
   | some l=>
     cases q2:sqL x with
     | none=>rw [q1,q2] at e2;exact absurd e2 nb
     | some m=>
       cases q3:sqL y with
       | none=>rw [q1,q2,q3] at e2;exact absurd e2 nb
       | some n=>
         rw [q1,q2,q3] at e2
         by_cases cc:l.length≤m.length∧l.length≤n.length
         ·have e2:X.ev false (.it .zip3 (.cons a (.cons b (.cons c .nil)))) z.t = .ok (.lst (cA l m n)) z2.t:=by rw [e2];simp only [if_pos cc];rfl
          obtain ⟨k1,a1,vs,rfl,⟨o1,g1⟩,s1,w1⟩:=lD I2 ((r0.rd.st y1.st).st y2.st) q1
          obtain ⟨k2,a2,us,rfl,⟨o2,g2⟩,s2,w2⟩:=lD I2 (r1.rd.st y2.st) q2
          obtain ⟨k3,a3,ts,rfl,⟨o3,g3⟩,s3,w3⟩:=lD I2 r2.rd q3
          have l1:=Heap.lt_size (I2.gh _ _ g1)
          have l2:=Heap.lt_size (I2.gh _ _ g2)
          have l3:=Heap.lt_size (I2.gh _ _ g3)
          refine pk s1 s2 s3 fun h' hh=>?_
          have N:∀ j,z2.h (z2.s.heap.objs.size+j)=none:=fun j=>gB (Nat.le_add_right ..)
          have e1:=w1.len
          have e3:=w2.len
          have e4:=w3.len
          refine tj (ds:=cA l m n) (n:=vs.toArray.size) (l:=[zd k1 z2.s.heap.objs.size a1 vs.toArray,zd k2 (z2.s.heap.objs.size+1) a2 us.toArray,zd k3 (z2.s.heap.objs.size+2) a3 ts.toArray]) hc x2 I2 (fun b o e=>hh ▸ dJ e) (fun A hA=>⟨fun d hd=>?_,fun i j d e hi hj ne=>?_,⟨_,_,rfl,rfl⟩,⟨?_,?_,?_⟩,by rw [sizeLine_eq];exact Nat.le_of_ble_eq_true rfl⟩) (hh ▸ bN (j:=5) rfl rfl) (hh ▸ bN (j:=3) rfl rfl) ⟨[.none,.none,.none],hh ▸ bN (j:=4) rfl rfl,rfl⟩ (fun d hd=>?_) (by rw [lR cc.1 cc.2,e1];simp) (fun b hb=>by rcases hb with rfl | rfl | rfl <;> exact N _) (fun d hd=>?_) (fun i d ws hl hv hd=>?_) e2
          ·simp only [List.mem_cons,List.not_mem_nil,or_false] at hd
           rcases hd with rfl | rfl | rfl
           ·exact ⟨lO hA _ _ _ (Nat.ne_of_lt l1) _,Nat.le_refl _,List.mem_cons_self,nin _ 5 0 _ (by decide) l1,nin _ 4 0 _ (by decide) l1,by simp [zd]⟩
           ·exact ⟨lO hA _ _ _ (lne _ 1 _ l2) _,by simp [zd];omega,List.mem_cons_self,nin _ 5 1 _ (by decide) l2,nin _ 4 1 _ (by decide) l2,by simp [zd]⟩
           ·exact ⟨lO hA _ _ _ (lne _ 2 _ l3) _,by simp [zd];omega,List.mem_cons_self,nin _ 5 2 _ (by decide) l3,nin _ 4 2 _ (by decide) l3,by simp [zd]⟩
          ·have hl:∀ (i:Nat) (d:Zd),[zd k1 z2.s.heap.objs.size a1 vs.toArray,zd k2 (z2.s.heap.objs.size+1) a2 us.toArray,zd k3 (z2.s.heap.objs.size+2) a3 ts.toArray][i]? = some d→i<3∧d.it=z2.s.heap.objs.size+i∧∃ b:Nat,d.fp = [z2.s.heap.objs.size+i,b]∧b<z2.s.heap.objs.size:=fun i d h=>by
            match i,h with
            | 0,h=>cases h;exact ⟨by decide,rfl,a1,rfl,l1⟩
            | 1,h=>cases h;exact ⟨by decide,rfl,a2,rfl,l2⟩
            | 2,h=>cases h;exact ⟨by decide,rfl,a3,rfl,l3⟩
            | i+3,h=>simp at h
           obtain ⟨_,h1,_⟩:=hl i d hi
           obtain ⟨_,_,b,h2,h3⟩:=hl j e hj
           rw [h1,h2]
           exact nin _ i j b ne h3
          ·simp
          ·simp
          ·simp
          ·simp only [List.mem_cons,List.not_mem_nil,or_false] at hd
           rcases hd with rfl | rfl | rfl
           ·exact lP (hh ▸ bN (j:=0) rfl rfl) (hh ▸ s1.psh)
           ·exact lP (hh ▸ bN (j:=1) rfl rfl) (hh ▸ s2.psh)
           ·exact lP (hh ▸ bN (j:=2) rfl rfl) (hh ▸ s3.psh)
          ·simp only [List.mem_cons,List.not_mem_nil,or_false] at hd
           rcases hd with rfl | rfl | rfl
           ·exact ⟨a1,rfl,N 0,_,g1⟩
           ·exact ⟨a2,rfl,N 1,_,g2⟩
           ·exact ⟨a3,rfl,N 2,_,g3⟩
          ·rw [oU] at hd
           obtain ⟨da,p3,hd⟩:=Option.bind_eq_some_iff.mp hd
           obtain ⟨db,p4,hd⟩:=Option.bind_eq_some_iff.mp hd
           obtain ⟨dc,p5,rfl⟩:=Option.map_eq_some_iff.mp hd
           match ws,hl,hv with
           | [va,vb,vc],_,hv=>exact ⟨_,rfl,fun ρ' G' h1 h2=>.cons ((w1.mono h1 h2).v p3 (hv 0 _ va rfl rfl)) (.cons ((w2.mono h1 h2).v p4 (hv 1 _ vb rfl rfl)) (.cons ((w3.mono h1 h2).v p5 (hv 2 _ vc rfl rfl)) rfl))⟩
         ·simp only [if_neg cc] at e2;exact absurd e2 nb)))))
end
theorem kA {M:Model} {A:Around} {E:Value→Shared→Prop} {s:Shared} {items:Array Value} {x:Value} {e:Value→Bool} {Q:Option PySem.Fin×Unit→Shared→Prop} (he:∀ y∈items,∀ (E':Value→Shared→Prop) (Q':Bool→Shared→Prop),Q' (e y) s→wpAny M A (eqBool y x) Q' E' s) {j:Nat} (hj:j<items.size) (hit:e items[j]=true)
 (hq:Q (some (.done (.ret (.int j s.toks))),()) { s with toks:=s.toks+1 }):∀ (k i:Nat),i+k=items.size→i≤j→(∀ m (hm:m<items.size),i≤m→m<j→e items[m]=false) →
 wpAny M A (forIn (List.range' i k) ((none:Option PySem.Fin),()) fun (i:Nat) _=>match items[i]? with
  | some y=>do
    if ← eqBool y x then
     let r ← retInt (i:Nat)
     pure (ForInStep.done (some r,()))
    else pure (ForInStep.yield (none,()))
  | _=>pure (ForInStep.yield (none,()))) Q E s
 | 0,i,h1,h2,_=>by omega
 | k+1,i,h1,h2,hn=>by
   have hi:i<items.size:=by omega
   rw [List.range'_succ,List.forIn_cons,Array.getElem?_eq_getElem hi]
   refine wpAny_bind (wpAny_bind (he _ (Array.getElem_mem hi) _ _ ?_))
   by_cases z:i=j
   ·subst z
    rw [hit,if_pos rfl]
    refine wpAny_bind ?_
    unfold retInt
    exact wpAny_bind (wpAny_mkInt (wpAny_pure (wpAny_pure (wpAny_pure hq))))
   ·rw [hn i hi (Nat.le_refl _) (by omega),if_neg Bool.false_ne_true]
    exact wpAny_pure (kA he hj hit hq k (i+1) (by omega) (by omega) fun m hm h3 h4=>hn m hm (by omega) h4)
theorem p6 (l:Addr) (items:Array Value) (x:Value) (e:Value→Bool) (j:Nat) (hj:j<items.size) (hit:e items[j]=true) (hno:∀ m (hm:m<items.size),m<j→e items[m]=false) :
 Meets (Builtin.«tuple.index» ⟨[.ref l,x],[]⟩) (fun A R s=>s.heap.IsTuple l items∧(∀ y,y∈items→SeqAt.EqAt A.in1 s y x (e y))∧R (.ok (.ret (.int j s.toks))) { s with toks:=s.toks+1 }):=by
 intro prog w A R s h
 obtain ⟨ht,he,hq⟩:=h
 unfold Builtin.«tuple.index»
 refine wpAny_bind (wpAny_pure ?_)
 refine wpAny_bind (tupleItemsOf_ ht ?_)
 refine wpAny_bind (wpAny_pure ?_)
 refine wpAny_bind (wpAny_pure ?_)
 dsimp only
 rw [Nat.min_self,Std.Legacy.Range.forIn_eq_forIn_range']
 have ez:Std.Legacy.Range.size [:items.size]=items.size:=by simp [Std.Legacy.Range.size]
 rw [ez]
 refine wpAny_bind (kA (e:=e) (fun y hy E' Q' q'=>he y hy prog w E' Q' q') hj hit ?_ items.size 0 (by omega) (by omega) fun m hm _ h4=>hno m hm h4)
 exact wpAny_pure hq
section
variable {X:Cx} {z:Z}
theorem oQ:∀ {us:List Value} {ss:List Str} {i:Nat} {v:Value},StrsAre us ss→us[i]? = some v→∃ y t,ss[i]? = some y∧v = .str y t
 | _,_,_,_,.nil,e=>by simp at e
 | _,_,0,v,.cons y t _,e=>by simp at e;subst e;exact ⟨y,t,rfl,rfl⟩
 | _,_,i+1,v,.cons _ _ r,e=>by
   obtain ⟨y,t,h1,h2⟩:=oQ (i:=i) r (by simpa using e)
   exact ⟨y,t,by simpa using h1,h2⟩
def ixT (k:Str):Value→Bool
 | .str y _=>y == k
 | _=>false
theorem rI (ha:LE X eo a) (hb:LE X eb b) (m:M1 X eo "index" apos eb cpos):LE X (.Call (.Attribute eo "index" apos) [eb] [] cpos) (.index a b):=fun br z I nb=>
 wpAny_Call_method m.base m.few m.line PySem.F.plainAttrs_tuple PySem.F.slot_tuple_index PySem.F.type_tuple_index ((ha true).go .refl I rfl nb fun z1 x u y1 x1 I1 r1 e1=>by
  cases x with
  | tup l=>
    have e1:X.ev br (.index a b) z.t=(X.ev true b z1.t).bind fun y s=>.of s (wY (.tup l) y):=e1
    obtain ⟨p,o,vs,rfl,g,⟨tc,⟨n,td⟩,hz,tdi⟩,r⟩:=(r1.rb.cr0 I1:RD X.W z1.ρ z1.G (.tup l) u)
    refine ⟨⟨o,I1.gh _ _ g,tc⟩,fun b q=>(by cases q;exact ⟨o,I1.gh _ _ g,tdi⟩),?_⟩
    rw [m.trees]
    refine Calls.callWith_builtin rfl (Calls.evalArgs_plain (Calls.spliced_cons ((hb true).go x1 I1 e1 nb fun z2 y v y2 x2 I2 r2 e2=>Calls.spliced_nil (cU x2 I2 e2 nb fun d q=>?_))))
    cases y with
    | str k=>
      obtain ⟨t,rfl⟩:=(r2.rb.cr0 I2:RD X.W z2.ρ z2.G (.str k) v)
      obtain ⟨ss,q1,q2⟩:=Option.bind_eq_some_iff.mp (show ((eZ l).bind fun ss=>(ss.findIdx? (· == k)).map fun (j:Nat)=>D.int j)=some d from q)
      obtain ⟨j,q3,rfl⟩:=Option.map_eq_some_iff.mp q2
      have sa:=lF q1 (r.mono y2.st.pr y2.st.gg)
      obtain ⟨hj,hp,hn⟩:=List.findIdx?_eq_some_iff_getElem.mp q3
      have hl:vs.length=ss.length:=sa.length
      have at_:∀ m (hm:m<vs.toArray.size),∃ t,vs.toArray[m] = .str (ss[m]'(by simp at hm;omega)) t:=fun m hm=>by
       have hm':m<vs.length:=by simpa using hm
       obtain ⟨y,t,w1,w2⟩:=oQ sa (List.getElem?_eq_getElem hm')
       rw [List.getElem?_eq_getElem (by omega)] at w1;cases w1
       exact ⟨t,by simpa using w2⟩
      refine call_meets PySem.F.slot_tuple_index ⟨o,I2.gh _ _ (y2.st.gg _ _ g),tc⟩ PySem.F.entry_tuple_index (PySem.F.args_tuple_index_2 _ _) (p6 p vs.toArray (.str k t) (ixT k) j (by simp;omega) ?_ fun m hm lt=>?_) ⟨⟨o,I2.gh _ _ (y2.st.gg _ _ g),tc,n,td⟩,fun y hy=>?_,.tok fun _ _ _=>⟨_,rfl⟩⟩
      ·obtain ⟨t',e'⟩:=at_ j (by simp;omega)
       rw [e'];exact hp
      ·obtain ⟨t',e'⟩:=at_ m hm
       rw [e'];exact beq_eq_false_iff_ne.mpr (by simpa using hn m lt)
      ·obtain ⟨m,hm,rfl⟩:=Array.mem_iff_getElem.mp hy
       obtain ⟨t',e'⟩:=at_ m hm
       rw [e']
       exact ((e3 I2.toHR 1 (d:=.str (ss[m]'(by simp at hm;omega))) (e:=.str k) (by rfl) (show CR X.W z2 (.str _) _ from ⟨_,rfl⟩) (show CR X.W z2 (.str k) _ from ⟨_,rfl⟩)).2 _ (by have:=I2.ok.un;show _+1+1+1<_;omega)).1
    | _=>cases q
  | _=>exact absurd e1 nb)
theorem uy {x:Str} {j:Nat} {cl:Cl} {i:CI} (F:bJ X X.cal1 lv cl.init f) (hr:bc (lv+1) X.A) (M:Mk X.K i.ad f) (hcl:X.Γ.cl[j]? = some cl) (hw:cl.what=0) (hci:X.W.ci[j]? = some i) (hwh:X.W.what[j]? = some 0) (hg:Gl X x) (hm:X.mg x=some (.ref i.ad)) (hd:(x == ("__debug__":Str))=false):LE X (.Call (.Name x p) [] [] pos) (.new j .nil):=fun br z I nb=>
 wpAny_Call_Name_kw (bo I hg hm (PySem.W.callWith_K0 I.toHR.kin M.kp (vk F hr M hcl hw hci hwh .refl I (l:=[]) (us:=[]) (es:=.nil) trivial rfl nb)) hd)
end
def cE (nm:NK) (x:Str):Bool:=match nm.lookup x with
 | some .local=>true
 | some .cell=>true
 | some .free=>true
 | _=>false
def cf (nm:NK) (x:Str):Bool:=nm.lookup x == some .globalImplicit
def bU:Expr→Bool
 | .Call (.Name id _) [] [] _=>id != "super"
 | _=>true
theorem ag (h:aJ e=true):starEach (e :: es) env=(false,eval e env) :: starEach es env:=by
 cases e <;> first | rfl | cases h
theorem gW (h:aJ e=true):jc e:=by
 cases e <;> first | (intro o i;rfl) | cases h
theorem gL (h:aJ e=true):behindInMarks op e=false:=by
 cases e <;> first | rfl | cases h
theorem iR (h:aJ e=true):∀ x,foldedSetIterable e env x=pure x:=by
 cases e <;> first | (intro x;rfl) | cases h
theorem bv (h:∀ e∈es,aJ e=true):(backTo pos (starEach es env)).any (·.1)=false:=by
 induction es with
 | nil=>rfl
 | cons e r ih=>
   rw [ag (h e List.mem_cons_self)]
   have:=ih fun x hx=>h x (List.mem_cons_of_mem _ hx)
   show (false || (backTo pos (starEach r env)).any (·.1))=false
   rw [this];rfl
theorem bt {X:Cx} (hs:X.env.scope.names=nm) (h:cE nm x=true):Vis X.env.scope x:=by
 unfold cE at h
 unfold Vis
 rw [hs]
 split at h <;> first | (rename_i q;exact .inl q) | (rename_i q;exact .inr (.inl q)) | (rename_i q;exact .inr (.inr q)) | cases h
theorem bB (hs:X.env.scope.names=nm) (h:cf nm x=true):Gl X x:=by
 unfold cf at h
 show X.env.scope.names.lookup x=_
 rw [hs]
 simpa using h
structure Ns where
 gl:List Str
 tb:List Str
 fn:List Str
 at_:List Str
 bl:List Str
 rf:List Str:=[]
 me:List (Str×Nat×Nat):=[]
 ex:List Str:=[]
 nw:List Str:=[]
 mu:List Str:=[]
 nd:List Str:=[]
 hx:List Str:=[]
 hc:List Str:=[]
 xt:List Str:=[]
 kp:List Str:=[]
 alt:List (Str×Nat):=[]
 fc:List Str:=[]
 oc:List Str:=[]
def Ns.an (T:Ns) (f:Nat):Str:=T.at_.getD f ""
abbrev Cx.to (X:Cx) (A:Around) (fr:List Env) (N:List Str) (e:Env) (cal cal1:Nat→List D→List O→Res):Cx:={ X with A:=A,fr:=fr,N:=N,env:=e,cal:=cal,cal1:=cal1 }
theorem HR.to {X:Cx} {A:Around} {fr:List Env} {N1 N2:List Str} {e1 e2:Env} {c1 c2 d1 d2:Nat→List D→List O→Res} (I:HR (X.to A fr N1 e1 c1 d1) z):HR (X.to A fr N2 e2 c2 d2) z:=⟨I.md,I.fm,I.hd,I.bs,I.gh,I.rl,I.rn,I.rg,I.ob,I.fu,I.ff,I.br,I.os⟩
theorem FnC.to {X:Cx} {A:Around} {fr:List Env} {N:List Str} {e:Env} {c1 d1:Nat→List D→List O→Res} (h:FnC X cal lv j f fd ps):FnC (X.to A fr N e c1 d1) cal lv j f fd ps:=⟨h.len,fun A2 fr2 z args us ds r I b rd nb=>codeAny_mono (h.run A2 fr2 z args us ds r (HR.to (X:=X) (N1:=N) (e1:=e) (c1:=c1) (d1:=d1) I) b rd nb) fun q s' hq=>by
 cases q with
 | error x=>obtain ⟨z',c,l,a1,a2,a3,a4,a5⟩:=hq;exact ⟨z',c,l,a1,a2,a3,HR.to (X:=X) a4,a5⟩
 | ok fl=>cases fl with
   | ret u=>obtain ⟨z',d,a1,a2,a3,a4,a5⟩:=hq;exact ⟨z',d,a1,a2,a3,HR.to (X:=X) a4,a5⟩
   | _=>exact hq.elim⟩
theorem bJ.to {X:Cx} {A:Around} {fr:List Env} {N:List Str} {e:Env} {c1 d1:Nat→List D→List O→Res} (h:bJ X cal lv j f):bJ (X.to A fr N e c1 d1) cal lv j f:=let ⟨fd,ps,a,b,c⟩:=h;⟨fd,ps,a.to,b,c⟩
theorem FnI.to {X:Cx} {A:Around} {fr:List Env} {N:List Str} {e:Env} {c1 d1:Nat→List D→List O→Res} (h:FnI X lv f fd ps nm ck):FnI (X.to A fr N e c1 d1) lv f fd ps nm ck:=⟨h.len,fun A2 fr2 z args us p P ch r I b lu H hB hP hc=>h.run A2 fr2 z args us p P ch r (HR.to (X:=X) (N1:=N) (e1:=e) (c1:=c1) (d1:=d1) I) b lu ⟨H.ex,H.keep,H.set⟩ hB hP hc⟩
theorem FnJ.to {X:Cx} {A:Around} {fr:List Env} {N:List Str} {e:Env} {c1 d1:Nat→List D→List O→Res} (h:FnJ X lv f fd ps nm k C):FnJ (X.to A fr N e c1 d1) lv f fd ps nm k C:=let ⟨ck,a,b⟩:=h;⟨ck,a.to,b⟩
structure CxOk (T:Ns) (X:Cx) (nm:NK) (N:List Str):Prop where
 hN:X.N=N
 nd:N.Nodup
 sc:X.env.scope.names=nm
 kd:X.env.scope.kind = .function
 calm:X.calm=true
 fns:∀ (j:Nat) (x:Str),T.fn[j]? = some x→∃ k f,bJ X X.cal k j f∧bc k X.A∧X.mg x=some (.ref f)
 gls:∀ (j:Nat) (x:Str),T.gl[j]? = some x→∃ d u,X.Γ.gl[j]? = some d∧X.mg x=some u∧aR X.K d u=true
 tbs:∀ (j:Nat) (x:Str),T.tb[j]? = some x→∃ t a,X.Γ.tb[j]? = some t∧X.mg x=some (.ref a)∧TbL X a t
 blt:∀ x∈T.bl,X.mg x=none
 cls:cC X T.an
 mts:∀ q∈T.me,∃ k f,bJ X X.cal k q.2.2 f∧bc k X.A∧oY X T.an q.1 q.2.1 f
 nws:∀ (j:Nat) (x:Str),T.nw[j]? = some x→x≠""→∃ n f i cl,bJ X X.cal1 n cl.init f∧bc (n+1) X.A∧Mk X.K i.ad f∧X.Γ.cl[j]? = some cl∧cl.what=0∧X.W.ci[j]? = some i∧X.W.what[j]? = some 0∧X.mg x=some (.ref i.ad)
 nds:∀ (j:Nat) (x:Str),T.nd[j]? = some x→x≠""→∃ n f fd ps i cl,FnI X n f fd ps i.nm none∧b6 X.K fd ps []∧bc (n+1) X.A∧Mk X.K i.ad f∧Cls X.K i.ad∧(∀ f∈i.nm,cZ X.K i.ad f)∧X.Γ.cl[j]? = some cl∧X.W.ci[j]? = some i∧X.W.what[j]? = some 1∧i.nm.length=cl.at_.length∧X.mg x=some (.ref i.ad)
 hxs:∀ (j:Nat) (x:Str),T.hx[j]? = some x→x≠""→p9 X j x
abbrev GE (T:Ns) (nm:NK) (N:List Str) (e:Expr):={c:E // ∀ X,CxOk T X nm N→LE X e c∧(aV c=true→LF X e c)}
abbrev GT (T:Ns) (nm:NK) (N:List Str) (e:Expr):={c:E // ∀ X,CxOk T X nm N→LT X e c}
abbrev GW (T:Ns) (nm:NK) (N:List Str) (e:Expr):={c:E // ∀ X,CxOk T X nm N→LW X e c}
abbrev GA (T:Ns) (nm:NK) (N:List Str) (es:List Expr):={c:E // ∀ X,CxOk T X nm N→LA X es c}
abbrev GO (T:Ns) (nm:NK) (N:List Str) (e:Option Expr):={c:E // ∀ X,CxOk T X nm N→LO X e c}
abbrev GI (T:Ns) (nm:NK) (N:List Str) (tg e:Expr):={c:E // ∀ X,CxOk T X nm N→LI X tg e c}
abbrev aN (T:Ns):=∀ nm N e,Option (GE T nm N e)
abbrev ig (T:Ns):=∀ nm N e,Option (GT T nm N e)
theorem mk (h:LE X e c) (n:aV c=false:=by rfl):LE X e c∧(aV c=true→LF X e c):=⟨h,fun q=>by rw [n] at q;cases q⟩
theorem mkf (h:LF X e c) (hb:∀ br,X.ev br c=X.ev false c:=by intro _;rfl):LE X e c∧(aV c=true→LF X e c):=⟨h.le hb,fun _=>h⟩
def yes (b:Bool):Option (PLift (b=true)):=match b with | true=>some ⟨rfl⟩ | false=>none
def no (b:Bool):Option (PLift (b=false)):=match b with | false=>some ⟨rfl⟩ | true=>none
def bM (x:Str):(l:List Str)→Option {i:Nat // l[i]? = some x}
 | []=>none
 | y :: r=>match h:y == x with
   | true=>some ⟨0,by rw [List.getElem?_cons_zero];congr;simpa using h⟩
   | false=>(bM x r).map fun i=>⟨i.1+1,by rw [List.getElem?_cons_succ];exact i.2⟩
def AN (x:Str) (al:List (Str×Nat)) (l:List Str):Option {i:Nat // l[i]? = some x}:=match al.lookup x with
 | some j=>(match h:l[j]? with
   | some y=>(match h2:y == x with
     | true=>some ⟨j,by rw [h];congr;simpa using h2⟩
     | false=>none)
   | none=>none)
 | none=>bM x l
def r6 (x:Str):(l:List Str)→Option (PLift (x∈l))
 | []=>none
 | y :: r=>match h:y == x with
   | true=>some ⟨by have:y=x:=by simpa using h
                    rw [this];exact List.mem_cons_self⟩
   | false=>(r6 x r).map fun i=>⟨List.mem_cons_of_mem _ i.down⟩
section
variable {T:Ns} {nm:NK} {N:List Str}
def zh (T:Ns) (nm:NK) (N:List Str) (x:Str) (pos:Pos):Option (GE T nm N (.Name x pos)):=do
 let hd ← no (x == ("__debug__":Str))
 let hc ← no (x == ("__classdict__":Str))
 match hl:cE nm x with
 | true=>
   let i ← bM x N
   some ⟨.v i.1,fun X k=>mk (xG (by rw [k.hN];exact i.2) (bt k.sc hl) hd.down hc.down)⟩
 | false=>
   let hg ← yes (cf nm x)
   let j ← bM x T.gl
   some ⟨.g j.1,fun X k=>by
    obtain ⟨d,u,h1,h2,h3⟩:=k.gls j.1 x j.2
    exact mk (Bt (bB k.sc hg.down) h2 hd.down h1 h3)⟩
def wK (T:Ns) (nm:NK) (N:List Str) (c:Const) (j:Nat) (pos:Pos):Option (GE T nm N (.Constant c j pos)):=match c with
 | .none=>some ⟨.c .non,fun X k=>mk vR⟩
 | .bool b=>some ⟨.c (.bl b),fun X k=>mk zw⟩
 | .int i=>some ⟨.c (.int i),fun X k=>mk vQ⟩
 | .str x=>some ⟨.c (.str x),fun X k=>mk vS⟩
 | _=>none
def opP (op:Operator):Option {o:Op // ∀ X:Cx,Op2 X (binaryOp op) (opD o)}:=match op with
 | .Add=>some ⟨.add,fun X=>yp⟩
 | .Sub=>some ⟨.sub,fun X=>yu⟩
 | .Mult=>some ⟨.mul,fun X=>yr⟩
 | .FloorDiv=>some ⟨.fdiv,fun X=>u5⟩
 | .Mod=>some ⟨.mod,fun X=>yq⟩
 | .Pow=>some ⟨.pow,fun X=>yt⟩
 | _=>none
def Bl (op:CmpOp):Option {o:Op // ∀ X:Cx,Op2 X (compareOp op) (opD o)}:=match op with
 | .Eq=>some ⟨.eq,fun X=>Af⟩
 | .NotEq=>some ⟨.ne,fun X=>Ak⟩
 | .Lt=>some ⟨.lt,fun X=>Aj⟩
 | .Gt=>some ⟨.gt,fun X=>Ah⟩
 | .GtE=>some ⟨.ge,fun X=>Ag⟩
 | .In=>some ⟨.isin,fun X=>Ai⟩
 | .NotIn=>some ⟨.notin,fun X=>sC⟩
 | _=>none
def fg (f:∀ e,Option (GE T nm N e)):(es:List Expr)→Option (GA T nm N es)
 | []=>some ⟨.nil,fun _ _=>ry⟩
 | e :: r=>do
   let h ← yes (aJ e)
   let a ← f e
   let b ← fg f r
   some ⟨.cons a.1 b.1,fun X k=>nK (a.2 X k).1 (b.2 X k) (ag h.down)⟩
def vI (f:∀ e,Option (GE T nm N e)) (pos:Pos):(es:List Expr)→Option {c:E // ∀ X,CxOk T X nm N→LE X (.BoolOp .And es pos) c}
 | []=>none
 | [a]=>(f a).map fun x=>⟨x.1,fun X k=>(x.2 X k).1⟩
 | a :: b :: r=>do
   let x ← f a
   let y ← vI f pos (b :: r)
   some ⟨.and x.1 y.1,fun X k=>xq (x.2 X k).1 (y.2 X k)⟩
def A7 (f:∀ e,Option (GE T nm N e)) (pos:Pos):(es:List Expr)→Option {c:E // ∀ X,CxOk T X nm N→LE X (.BoolOp .Or es pos) c}:=fun _=>none
def vH (g:∀ e,Option (GT T nm N e)) (pos:Pos):(es:List Expr)→Option (GW T nm N (.BoolOp .And es pos))
 | []=>none
 | [a]=>(g a).map fun x=>⟨x.1,fun X k=>uU (x.2 X k)⟩
 | a :: b :: r=>do
   let x ← g a
   let y ← vH g pos (b :: r)
   some ⟨.tand x.1 y.1,fun X k=>xW (x.2 X k) (y.2 X k)⟩
def zm (g:∀ e,Option (GT T nm N e)) (pos:Pos):(es:List Expr)→Option (GW T nm N (.BoolOp .Or es pos))
 | []=>none
 | [a]=>(g a).map fun x=>⟨x.1,fun X k=>xX (x.2 X k)⟩
 | a :: b :: r=>do
   let x ← g a
   let y ← zm g pos (b :: r)
   some ⟨.tor x.1 y.1,fun X k=>z9 (x.2 X k) (y.2 X k)⟩
def zl (f:∀ e,Option (GE T nm N e)):(o:Option Expr)→Option (GO T nm N o)
 | none=>some ⟨.nil,fun X k=>uE⟩
 | some e=>do
   let a ← f e
   let h ← no (bC a.1)
   some ⟨a.1,fun X k=>uF h.down (a.2 X k).1⟩
end
end L2.Ev
end
section
namespace L2.Bw
theorem uf (a1:typeLookup (.type T) "__init__" = pure (some (.builtin "object.__init__"))) (a2:Bind.madeBy (.type T)=pure (some newId))
 (a3:(some newId != some "object.__new__")=true) (a4:more≠[]):Meets (Builtin.«object.__init__» ⟨me :: more,kws⟩) (fun _ R s=>s.TypeIs me T∧R (.ok (.ret .none)) s):=by
 refine Meets.of_wp fun prog w A R s q=>?_
 obtain ⟨ty,q⟩:=q
 cases more with
 | nil=>exact absurd rfl a4
 | cons b more=>
   repeat (any_goals (first | assumption | wp_step))
   exact ⟨_,rfl,q⟩
section
variable {prog:Program} {w:World} {A:Around} {E:Value→Shared→Prop} {s:Shared}
theorem kf (ft:TypeCalled T newId "object.__init__") (ne:(some newId != some "object.__new__")=true) (na:args≠[])
 (c1:checkTypeCall T ⟨args,kws⟩=pure ()) (c2:checkBuiltinCall newId ⟨.type T :: args,kws⟩=pure ()) (e1:entryFor table newId=some Bn) (g:Meets (Bn ⟨.type T :: args,kws⟩) S) (h:S A.in1 (wants Q1 E) s)
 (hn:∀ obj s1,Q1 obj s1→s1.TypeIs obj T∧argsOk "object.__init__" ⟨obj :: args,kws⟩∧Q obj s1):wpAny (model prog w) A (call (.type T) args kws) Q E s:=by
 obtain ⟨c,tl,m1⟩:=ft.mro
 have m2:=ft.made
 have m3:=ft.sub
 refine wpAny_call (codeAny_of_tree ?_)
 show wpAny _ _ (callAny (.type T) _) _ _ _
 refine wpAny_pure ⟨Code.quiet_builtin _ (by decide +kernel),codeAny_builtin F.entry_type_call ?_⟩
 rw [Around.under_plain (weight_type_call_type T args kws) (units_type_call_type T args kws)]
 have m4:=ft.notType
 have m5:=ft.canCreate
 repeat (any_goals (first | assumption | wp_step))
 refine codeAny_mono (codeAny_call_builtin ft.plain e1 (wpAny_of_eq c2 (g prog w A.in1 _ s h))) fun r s1 q1=>?_
 cases r with
 | error e=>exact q1
 | ok fl=>
   cases fl with
   | ret obj=>
     obtain ⟨ty,ok,qq⟩:=hn _ _ q1
     have m6:=ft.init.lookup
     have m7:=ft.init.bind obj
     repeat (any_goals (first | assumption | wp_step))
     refine codeAny_mono (codeAny_call_builtin ft.init.plain F.entry_object_init (ft.init.check _ _ _ _ _ _ _ _ ty ok (uf m6 m2 ne na prog w A.in1 (wants (fun r s2=>r = .none∧Q obj s2) E) s1 ⟨ty,rfl,qq⟩))) fun r2 s2 q2=>?_
     cases r2 with
     | error e=>exact q2
     | ok f2=>
       cases f2 with
       | ret r=>
         obtain ⟨e,q3⟩:=q2
         subst e
         repeat (any_goals (first | assumption | wp_step))
       | _=>exact q2.elim
   | _=>exact q1.elim
theorem qz (t) (n) (tk) (hn:Builtin.SmallTypes.fitsIndex n=true) (items) :
 Meets (Builtin.«enumerate.__new__» ⟨[.type "enumerate",.ref t],[("start",.int n tk)]⟩) (fun _ R s=>s.heap.IsTuple t items ∧
  R (.ok (.ret (.ref (s.heap.push { cls:=.type "tuple_iterator",data:=.fields #[.ref t,.int 0 0] }).objs.size)))
    { s with heap:=(s.heap.push { cls:=.type "tuple_iterator",data:=.fields #[.ref t,.int 0 0] }).push { cls:=.type "enumerate",data:=.fields #[.none,.bool false,.ref s.heap.objs.size,rawInt n,.none,.none] } }):=
 .of_wp fun prog w A R s h=>by
  obtain ⟨hp,g,d,tk',os⟩:=s
  obtain ⟨ht,h⟩:=h
  have sub:=sub_enumerate
  wp_walk
  refine wpAny_stack_any fun st=>wpAny_pure ?_
  split
  ·rename_i c _ _ _ _ _
   cases (c == Value.type "enumerate")
   ·wp_walk using wpAny_pyIter_tuple ht
    exact ⟨_,rfl,h⟩
   ·wp_walk using wpAny_pyIter_tuple ht
    exact ⟨_,rfl,h⟩
  ·wp_walk using wpAny_pyIter_tuple ht
   exact ⟨_,rfl,h⟩
end
section
variable {prog:Program} {w:World} {A:Around} {E:Value→Shared→Prop} {s:Shared}
theorem pd {rest:List Expr} {kws:List Keyword} {Q:Value→Shared→Prop}
 (h:wpAny M A (spliced (backTo pos (starEach (e :: rest) env))) (fun vs s1=>wpAny M A (evalAll ((backToKw pos (keywordEach kws env)).map (·.2))) (fun ks s2=>wpAny M A (call (.type T) vs (((backToKw pos (keywordEach kws env)).filterMap (·.1)).zip ks)) Q E s2) E s1) E s)
 (he:starEach (e :: rest) env=(false,eval e env) :: starEach rest env) (h1:(backTo pos (starEach (e :: rest) env)).any (·.1)=false) (h2:(backToKw pos (keywordEach kws env)).all (·.1.isSome)=true) (h3:(backToKw pos (keywordEach kws env)).any (·.1.isNone)=false) :
 wpAny M A (callWith pos (.type T) [] (backTo pos (starEach (e :: rest) env)) (backToKw pos (keywordEach kws env))) Q E s:=by
 have k:wpAny M A (evalArgs (.type T) true (backTo pos (starEach (e :: rest) env)) (backToKw pos (keywordEach kws env))) (fun a s1=>wpAny M A (call (.type T) ([] ++ a.pos) a.kw) Q E s1) E s:=by
  rw [he] at h ⊢
  exact evalArgs_kwB h2 h
 unfold callWith
 refine wpAny_bind (wpAny_holding (thn k fun a s1 q=>wpAny_bind (wpAny_standAt ?_)))
 simp only [h1,h3,Bool.or_false]
 exact wpAny_bind (wpAny_pure (wpAny_bind (thn q fun r s2 q2=>wpAny_bind (wpAny_holding (wpAny_point (wpAny_pure q2))))))
theorem pv (hn:Builtin.SmallTypes.fitsIndex n=true) (ht:s.heap.IsTuple t xs)
 (h:Q (.ref (s.heap.push { cls:=.type "tuple_iterator",data:=.fields #[.ref t,.int 0 0] }).objs.size)
  { s with heap:=(s.heap.push { cls:=.type "tuple_iterator",data:=.fields #[.ref t,.int 0 0] }).push { cls:=.type "enumerate",data:=.fields #[.none,.bool false,.ref s.heap.objs.size,rawInt n,.none,.none] } }) :
 wpAny (model prog w) A (call (.type "enumerate") [.ref t] [("start",.int n tk)]) Q E s:=by
 refine kf (Q1:=fun obj s1=>obj = .ref (s.heap.push { cls:=.type "tuple_iterator",data:=.fields #[.ref t,.int 0 0] }).objs.size∧s1={ s with heap:=(s.heap.push { cls:=.type "tuple_iterator",data:=.fields #[.ref t,.int 0 0] }).push { cls:=.type "enumerate",data:=.fields #[.none,.bool false,.ref s.heap.objs.size,rawInt n,.none,.none] } })
  F.called_enumerate (by decide) (by simp) (by kernel_rfl) (by kernel_rfl) F.entry_enumerate_new (qz t n tk hn xs) ⟨ht,rfl,rfl⟩ fun obj s1 q=>?_
 obtain ⟨e,e'⟩:=q
 subst e e'
 exact ⟨⟨_,Heap.get?_push_size _ rfl,rfl⟩,by first | (simp [argsOk];done) | (unfold argsOk;kernel_rfl) | (unfold argsOk;decide +kernel) | kernel_rfl,h⟩
end
end L2.Bw
namespace L2.Ev
open L2.Bw
theorem Draws.sh {prog:Program} {w:World} {A:Around} {it:Addr} {fp:List Addr} {n:Nat} {P:Nat→Value→Prop} {St:Nat→Heap→Prop} (D:Draws prog w A it fp n P St) (m:Nat):Draws prog w A it fp (m+n) (fun i v=>P (i - m) v) (fun i h=>m≤i∧St (i - m) h) where
 live:=fun i h st=>D.live _ h st.2
 frame:=fun i h h' st k=>⟨st.1,D.frame _ _ _ st.2 k⟩
 item:=fun i s Q E hi st hQ=>D.item (i - m) s Q E (by have:=st.1;omega) st.2 fun x h' tk p q sb=>hQ x h' tk p ⟨Nat.le_succ_of_le st.1,by rw [Nat.succ_sub st.1];exact q⟩ sb
 done:=fun s Q E st hE=>D.done s Q E (by have:=st.2;rwa [Nat.add_sub_cancel_left] at this) hE
theorem WalksT.sh {prog:Program} {w:World} {A:Around} {it:Addr} {fp wr:List Addr} {n:Nat} {Pt:Nat→Array Value→Prop} {St:Nat→Heap→Prop} {Mid:Nat→Addr→Heap→Prop} (m:Nat) (V:WalksT prog w A it fp wr (m+n) Pt St Mid):WalksT prog w A it fp wr n (fun i=>Pt (m+i)) (fun i=>St (m+i)) (fun i=>Mid (m+i)) where
 sub:=V.sub
 frame:=fun i=>V.frame (m+i)
 item:=fun i s Q E hi=>V.item (m+i) s Q E (Nat.add_lt_add_left hi m)
 go:=fun elts k pos i=>V.go elts k pos (m+i)
 apart:=fun i=>V.apart (m+i)
 done:=V.done
 self:=fun i=>V.self (m+i)
section
variable {X:Cx} {z z1:Z}
theorem rO {es:List Expr} {k:Nat} {tp kp:Pos} (hc:X.calm=true) (hx:Blt X "enumerate" (.type "enumerate")) (ha:LE X ea a) (hb:LE X eb b) (he:starEach [ea] X.env=(false,eval ea X.env) :: starEach [] X.env):LI X (.Tuple es k tp) (.Call (.Name "enumerate" p) [ea] [⟨some "start",eb,kp⟩] pos) (.it .enum2 (.cons a (.cons b .nil))):=fun z I nb=>by
 refine wpAny_Call_Name_kw (hx.ld I ?_)
 refine pd (Q:=fun v s1=>wpAny X.M X.A (pyIter v) (FI X z (.Tuple es k tp) (X.ev false (.it .enum2 (.cons a (.cons b .nil))) z.t)) NoE s1) ?_ he (by rw [he];rfl) rfl rfl
 rw [he]
 refine Calls.spliced_cons ((ha false).go .refl I (ev2 fun l s=>Out.of s ((itD .enum2 l).map D.lst)) nb fun z1 x u y1 x1 I1 r1 e1=>Calls.spliced_nil ?_)
 show wpAny _ _ (evalAll ((do let v ← eval eb X.env;standAt pos;pure v) :: [])) _ _ _
 refine wpAny_evalAll_cons (wpAny_bind ((hb false).go x1 I1 e1 nb fun z2 y v y2 x2 I2 r2 e2=>wpAny_bind (wpAny_standAt (wpAny_pure (wpAny_evalAll_nil ?_)))))
 cases x with
 | tup l=>
   cases y with
   | int n=>
     obtain ⟨ad,o,vs,rfl,g,⟨tc,⟨m,td⟩,hz⟩,r⟩:=r1.rd.st y2.st
     obtain ⟨tz,rfl⟩:=r2.rd
     have e2:X.ev false (.it .enum2 (.cons a (.cons b .nil))) z.t=Out.of z2.t ((if Builtin.SmallTypes.fitsIndex n=true∧0≤n then some (bR n l) else none).map D.lst):=e2
     by_cases hn:Builtin.SmallTypes.fitsIndex n=true∧0≤n
     ·rw [if_pos hn] at e2
      obtain ⟨hn,h0⟩:=hn
      obtain ⟨j,rfl⟩:=Int.eq_ofNat_of_zero_le h0
      have ht:z2.s.heap.IsTuple ad vs.toArray:=⟨o,I2.gh _ _ g,tc,m,td⟩
      have hlt:=Heap.lt_size (I2.gh _ _ g)
      have hsz:(z2.s.heap.push { cls:=.type "tuple_iterator",data:=.fields #[.ref ad,.int 0 0] }).objs.size=z2.s.heap.objs.size+1:=Heap.size_push ..
      refine pv hn ht (wpAny_pyIter_enum (Heap.get?_push_size _ rfl) ?_)
      rw [hsz]
      have kk:∀ b o,z2.s.heap.get? b=some o→((z2.s.heap.push { cls:=.type "tuple_iterator",data:=.fields #[.ref ad,.int 0 0] }).push { cls:=.type "enumerate",data:=.fields #[.none,.bool false,.ref z2.s.heap.objs.size,rawInt (j:Int),.none,.none] }).get? b=some o:=fun b o e=>Heap.get?_push_of_some _ (Heap.get?_push_of_some _ e)
      have ge:IsEnum ((z2.s.heap.push { cls:=.type "tuple_iterator",data:=.fields #[.ref ad,.int 0 0] }).push { cls:=.type "enumerate",data:=.fields #[.none,.bool false,.ref z2.s.heap.objs.size,rawInt (j:Int),.none,.none] }) (z2.s.heap.objs.size+1) z2.s.heap.objs.size (j:Int) .none:=by rw [← hsz];exact Heap.get?_push_size _ rfl
      have gi:((z2.s.heap.push { cls:=.type "tuple_iterator",data:=.fields #[.ref ad,.int 0 0] }).push { cls:=.type "enumerate",data:=.fields #[.none,.bool false,.ref z2.s.heap.objs.size,rawInt (j:Int),.none,.none] }).get? z2.s.heap.objs.size=some { cls:=.type "tuple_iterator",data:=.fields #[.ref ad,.int 0 0] }:=Heap.get?_push_of_some _ (Heap.get?_push_size _ rfl)
      have rl:=r.len
      refine fj (ds:=bR (j:Int) l) x2 I2 (.hp (t:=z2.s.toks) kk) (Itr.walksT (I2.hd hc) (n:=vs.toArray.size) (by rw [gu];simpa using rl) (fun A hA=>WalksT.sh j (ib (Draws.sh (fh (A:=A.in1) hA z2.s.heap.objs.size ad (Nat.ne_of_lt hlt) vs.toArray) j) (z2.s.heap.objs.size+1) (Nat.succ_ne_self _) (nin _ 1 0 _ (by decide) hlt) List.mem_cons_self)) (fun i h st b hb=>?_) (fun _ _ _ m=>m.2) fun i vals d p1 p2=>?_) ⟨⟨.none,ge⟩,Nat.le_refl _,by rw [Nat.add_zero,Nat.sub_self];exact ⟨⟨_,gi,rfl,rfl⟩,⟨o,kk _ _ (I2.gh _ _ g),tc,m,td⟩⟩⟩ (fun b hb=>?_) e2
      ·obtain ⟨⟨old,e1⟩,_,⟨o2,e2,_⟩,_⟩:=st
       rcases List.mem_cons.mp hb with w | w
       ·rw [w];exact ⟨_,e1⟩
       ·rw [List.mem_singleton.mp w];exact ⟨o2,e2⟩
      ·obtain ⟨t,v,p3,rfl⟩:=p1
       rw [jm,Option.map_eq_some_iff] at p2
       obtain ⟨d',p4,rfl⟩:=p2
       rw [Nat.add_sub_cancel_left] at p3
       refine ⟨by simp [sizeLine_eq],_,rfl,fun ρ' G' h1 h2=>?_⟩
       exact .cons ⟨t,by rw [Int.natCast_add]⟩ (.cons ((r.mono h1 h2).v p4 p3) rfl)
      rcases List.mem_cons.mp hb with w | w
      ·rw [w];exact .inl ⟨gB (Nat.le_succ _),_,ge⟩
      ·rcases List.mem_cons.mp w with w | w
       ·rw [w];exact .inl ⟨aH z2,_,gi⟩
       ·rw [List.mem_singleton.mp w]
        refine .inr ⟨fun q=>?_,_,g⟩
        rcases List.mem_cons.mp q with q | q
        ·exact Nat.ne_of_lt (Nat.lt_succ_of_lt hlt) q
        ·exact Nat.ne_of_lt hlt (List.mem_singleton.mp q)
     ·rw [if_neg hn] at e2;exact absurd e2 nb
   | _=>exact absurd e2 nb
 | _=>exact absurd (e2.trans (by cases y <;> rfl)) nb
end
end L2.Ev
end
section
namespace L2.Bw
section
variable {prog:Program} {w:World} {A:Around} {R:Result→Shared→Prop} {it:Addr} {fp wr:List Addr} {n:Nat} {f:Nat→Int} {Z:Nat→Heap→Prop}
abbrev fe (f:Nat→Int):Nat→Value→Prop:=fun i v=>∃ t,v = .int (f i) t
abbrev cM (f:Nat→Int):Nat→Nat→Bool:=fun i j=>decide (f i>f j)
theorem xY (W:Walks prog w A.in1 it fp wr n (fe f) Z) (kws:List (Str×Value)) (B:Addr) (nB:B ∉ fp) :
 ∀ (k j:Nat) (s:Shared) (u:Value) (c:Nat),n - (j+1)=k→j+1≤n→Z (j+1) s.heap→fe f (argBest (cM f) j) u→s.heap.get? B=some { cls:=.type "list",dict:=none,data:=.seq #[u,u] c,slots:=#[] } →
 (∀ v h1 tk,fe f (argBest (cM f) (n - 1)) v→(∀ b o,b ∉ wr→b≠B→s.heap.get? b=some o→h1.get? b=some o)→R (.ok (.ret v)) { s with heap:=h1,toks:=tk }) →
 codeAny (model prog w) A (.builtin "max.loop" ⟨[.ref it,.none,.ref B],kws⟩) R s:=by
 have nw:B ∉ wr:=fun h=>nB (W.sub _ h)
 have nm:(toString "max" ++ toString ".loop":String) = "max.loop":=by decide
 have cmp:CmpOf prog w A.in1 .Gt (fe f) (cM f):=CmpOf.ints_gt f fun _ _ h=>h
 intro k
 induction k with
 | zero=>
   intro j s u c hk hj hz hu hB hR
   have e:j+1=n:=by omega
   refine codeAny_builtin F.entry_max_loop ?_
   rw [Around.under_plainId F.plain_max_loop _]
   show wpAny _ A.in1 (seqItems? (.ref B) >>= fun _=>_) _ _ s
   refine wpAny_bind (wpAny_seqItems hB rfl ?_)
   show wpAny _ A.in1 (tryCatch (pyNext (.ref it)) _ >>= fun _=>_) _ _ s
   refine wpAny_bind (wpAny_tryCatch (W.done s _ _ (e ▸ hz) fun h1 tk k1=>?_))
   show wpAny _ A.in1 (updateSeq B (fun _=>#[]) >>= fun _=>_) _ _ _
   refine wpAny_bind (wpAny_updateSeq (k1 B _ nw hB) rfl (wpAny_bind (wpAny_letGo (wpAny_pure ?_))))
   exact hR u _ tk (by rw [← e];exact hu) fun b o n1 n2 q=>(Heap.get?_update_other _ _ (Ne.symm n2)).trans (k1 b o n1 q)
 | succ k ih=>
   intro j s u c hk hj hz hu hB hR
   have lt:j+1<n:=by omega
   refine codeAny_builtin F.entry_max_loop ?_
   rw [Around.under_plainId F.plain_max_loop _]
   show wpAny _ A.in1 (seqItems? (.ref B) >>= fun _=>_) _ _ s
   refine wpAny_bind (wpAny_seqItems hB rfl ?_)
   show wpAny _ A.in1 (tryCatch (pyNext (.ref it)) _ >>= fun _=>_) _ _ s
   refine wpAny_bind (wpAny_tryCatch (W.item (j+1) s _ _ lt hz fun v h1 tk hv hz1 k1=>?_))
   have hB1:=k1 B _ nw hB
   show wpAny _ A.in1 (tryCatch (holding [v,v] (richCompare .Gt v u >>= _)) _ >>= fun _=>_) _ _ _
   refine wpAny_bind (wpAny_tryCatch (wpAny_holding (wpAny_bind (cmp (j+1) (argBest (cM f) j) v u _ _ _ hv hu ?_))))
   refine wpAny_bind (wpAny_holding (wpAny_truthy_bool (wpAny_bind (wpAny_letGo (wpAny_pure ?_)))))
   cases hb:cM f (j+1) (argBest (cM f) j) with
   | true=>
     simp only [if_true]
     refine wpAny_bind (wpAny_updateSeq hB1 rfl (wpAny_bind (wpAny_letGo ?_)))
     rw [nm]
     refine wpAny_pure ⟨plainId_quiet F.plain_max_loop _,ih (j+1) _ v _ (by omega) lt (W.frame _ _ _ hz1 fun b hbf o q=>(Heap.get?_update_other _ _ (fun z:B=b=>nB (by rw [z];exact hbf))).trans q) ?_ (Heap.get?_update_self _ hB1 rfl) fun v' h2 tk2 hv' k2=>?_⟩
     ·simp only [argBest,hb,if_true];exact hv
     ·exact hR v' h2 tk2 hv' fun b o n1 n2 q=>k2 b o n1 n2 ((Heap.get?_update_other _ _ (Ne.symm n2)).trans (k1 b o n1 q))
   | false=>
     simp only [Bool.false_eq_true,if_false]
     refine wpAny_bind (wpAny_letGo ?_)
     rw [nm]
     refine wpAny_pure ⟨plainId_quiet F.plain_max_loop _,ih (j+1) _ u c (by omega) lt hz1 ?_ hB1 fun v' h2 tk2 hv' k2=>hR v' h2 tk2 hv' fun b o n1 n2 q=>k2 b o n1 n2 (k1 b o n1 q)⟩
     simp only [argBest,hb,Bool.false_eq_true,if_false];exact hu
theorem fH (f:Nat→Int):∀ k i,i≤k→f i≤f (argBest (cM f) k)
 | 0,i,h=>by cases (show i=0 by omega);exact Int.le_refl _
 | k+1,i,h=>by
   unfold argBest
   cases hb:cM f (k+1) (argBest (cM f) k) with
   | true=>
     have hb':f (k+1)>f (argBest (cM f) k):=of_decide_eq_true hb
     simp only [if_true]
     by_cases e:i=k+1
     ·rw [e];exact Int.le_refl _
     ·have:=fH f k i (by omega);omega
   | false=>
     have hb':¬ f (k+1)>f (argBest (cM f) k):=of_decide_eq_false hb
     simp only [Bool.false_eq_true,if_false]
     by_cases e:i=k+1
     ·rw [e];omega
     ·exact fH f k i (by omega)
theorem ji (f:Nat→Int):∀ k,argBest (cM f) k≤k
 | 0=>Nat.le_refl _
 | k+1=>by
   unfold argBest
   cases cM f (k+1) (argBest (cM f) k) with
   | true=>exact Nat.le_refl _
   | false=>exact Nat.le_trans (ji f k) (Nat.le_succ _)
end
theorem qK (r:List Int):∀ x:Int,x≤r.foldl (fun a b=>if b>a then b else a) x∧(∀ y∈r,y≤r.foldl (fun a b=>if b>a then b else a) x)∧(r.foldl (fun a b=>if b>a then b else a) x=x∨r.foldl (fun a b=>if b>a then b else a) x∈r):=by
 induction r with
 | nil=>intro x;exact ⟨Int.le_refl _,fun y h=>(nomatch h),.inl rfl⟩
 | cons b r ih=>
   intro x
   have h:=ih (if b>x then b else x)
   rw [List.foldl_cons]
   obtain ⟨h1,h2,h3⟩:=h
   by_cases c:b>x
   ·rw [if_pos c] at h1 h2 h3 ⊢
    refine ⟨by omega,fun y hy=>?_,?_⟩
    ·rcases List.mem_cons.mp hy with rfl | hy
     ·exact h1
     ·exact h2 y hy
    ·rcases h3 with h3 | h3
     ·exact .inr (by rw [h3];exact List.mem_cons_self)
     ·exact .inr (List.mem_cons_of_mem _ h3)
   ·rw [if_neg c] at h1 h2 h3 ⊢
    refine ⟨h1,fun y hy=>?_,?_⟩
    ·rcases List.mem_cons.mp hy with rfl | hy
     ·omega
     ·exact h2 y hy
    ·rcases h3 with h3 | h3
     ·exact .inl h3
     ·exact .inr (List.mem_cons_of_mem _ h3)
theorem nV {d m:Int} {ns:List Int} (ne:ns≠[]) (hm:m∈ns) (hg:∀ y∈ns,y≤m):maxD d ns=m:=by
 cases ns with
 | nil=>exact absurd rfl ne
 | cons x r=>
   obtain ⟨h1,h2,h3⟩:=qK r x
   have k1:maxD d (x :: r)=r.foldl (fun a b=>if b>a then b else a) x:=rfl
   rw [k1]
   have a1:r.foldl (fun a b=>if b>a then b else a) x≤m:=by
    rcases h3 with h3 | h3
    ·rw [h3];exact hg x List.mem_cons_self
    ·exact hg _ (List.mem_cons_of_mem _ h3)
   have a2:m≤r.foldl (fun a b=>if b>a then b else a) x:=by
    rcases List.mem_cons.mp hm with rfl | hm
    ·exact h1
    ·exact h2 m hm
   omega
theorem c9:∀ {us:List Value} {ns:List Int} {i:Nat} {v:Value},IntsAre us ns→us[i]? = some v→∃ t,v = .int (ns.getD i 0) t
 | _,_,_,_,.nil,e=>by simp at e
 | _,_,0,v,.cons _ t _,e=>by simp at e;subst e;exact ⟨t,by simp⟩
 | _,_,i+1,v,.cons _ _ r,e=>by
   obtain ⟨t,h⟩:=c9 (i:=i) r (by simpa using e)
   exact ⟨t,by simpa using h⟩
theorem xZ {prog:Program} {w:World} {A:Around} {E:Value→Shared→Prop} {s:Shared} {l:Addr} {us:List Value} {ns:List Int} {d:Int} {td:Tok} {Q:Value→Shared→Prop} (hh:A.handled=none) (hl:s.heap.IsList l us.toArray) (hi:IntsAre us ns)
 (q:∀ t h1 tk,(∀ b o,s.heap.get? b=some o→h1.get? b=some o)→Q (.int (maxD d ns) t) { s with heap:=h1,toks:=tk }):wpAny (model prog w) A (call (.builtin "max") [.ref l] [("default",.int d td)]) Q E s:=by
 have nm:(toString "max" ++ toString ".loop":String) = "max.loop":=by decide
 have hlt:l<s.heap.objs.size:=by obtain ⟨_,e,_⟩:=hl;exact Heap.lt_size e
 refine wpAny_call (codeAny_call_builtin F.plain_max F.entry_max (wpAny_of_eq (a:=()) (by kernel_rfl) ?_))
 show wpAny _ A.in1 (Builtin.Builtins.bindParams "max" ["key","default"] 0 ⟨[],[("default",.int d td)]⟩ >>= fun _=>_) _ _ s
 refine wpAny_bind (wpAny_of_eq (a:=[none,some (.int d td)]) (by rfl) (wpAny_bind (wpAny_pure ?_)))
 refine wpAny_bind (wpAny_pyIter_list hl (wpAny_bind (wpAny_newObj_type ?_)))
 rw [nm]
 let it:Addr:=s.heap.objs.size
 generalize hh1:s.heap.push { cls:=.type "list_iterator",data:=.fields #[.ref l,.int 0 0] }=h1
 have sz1:h1.objs.size=s.heap.objs.size+1:=by rw [← hh1];exact Heap.size_push ..
 have kp1:∀ b o,s.heap.get? b=some o→h1.get? b=some o:=fun b o e=>by rw [← hh1];exact Heap.get?_push_of_some _ e
 have it1:h1.IsListIter s.heap.objs.size l 0:=by rw [← hh1];exact ⟨_,Heap.get?_push_size _ rfl,rfl,rfl⟩
 have W:=Walks.list (prog:=prog) (w:=w) (A:=A.in1) hh s.heap.objs.size l (Nat.ne_of_lt hlt) us.toArray
 have nB:h1.objs.size ∉ [s.heap.objs.size,l]:=fun hm=>by
  rw [sz1] at hm
  rcases List.mem_cons.mp hm with z | z
  ·exact absurd z (Nat.succ_ne_self _)
  ·rw [List.mem_singleton] at z;exact absurd hlt (by rw [← z];exact Nat.not_lt.mpr (Nat.le_succ _))
 have hlen:us.length=ns.length:=hi.length
 have hB:(h1.push { cls:=.type "list",dict:=none,data:=.seq ([]:List Value).toArray }).get? h1.objs.size=some { cls:=.type "list",dict:=none,data:=.seq #[] 0,slots:=#[] }:=Heap.get?_push_size _ rfl
 have st0:(h1.push { cls:=.type "list",dict:=none,data:=.seq ([]:List Value).toArray }).IsListIter s.heap.objs.size l 0∧(h1.push { cls:=.type "list",dict:=none,data:=.seq ([]:List Value).toArray }).IsList l us.toArray:=
  ⟨it1.at fun o e=>Heap.get?_push_of_some _ e,(hl.at fun o e=>kp1 l o e).at fun o e=>Heap.get?_push_of_some _ e⟩
 have back:∀ (h2:Heap),(∀ b o,b ∉ [s.heap.objs.size]→b≠h1.objs.size→(h1.push { cls:=.type "list",dict:=none,data:=.seq ([]:List Value).toArray }).get? b=some o→h2.get? b=some o)→∀ b o,s.heap.get? b=some o→h2.get? b=some o:=fun h2 k b o e=>by
  have lt:=Heap.lt_size e
  refine k b o (fun z=>?_) (fun z=>?_) (Heap.get?_push_of_some _ (kp1 b o e))
  ·rw [List.mem_singleton.mp z] at lt;exact Nat.lt_irrefl _ lt
  ·rw [z,sz1] at lt;exact absurd lt (Nat.not_lt.mpr (Nat.le_succ _))
 refine wpAny_pure ⟨plainId_quiet F.plain_max_loop _,?_⟩
 refine codeAny_builtin F.entry_max_loop ?_
 rw [Around.under_plainId F.plain_max_loop _]
 show wpAny _ A.in1 (seqItems? (.ref h1.objs.size) >>= fun _=>_) _ _ _
 refine wpAny_bind (wpAny_seqItems hB rfl ?_)
 show wpAny _ A.in1 (tryCatch (pyNext (.ref s.heap.objs.size)) _ >>= fun _=>_) _ _ _
 cases hns:ns with
 | nil=>
   have hz:us.toArray.size=0:=by rw [hns] at hlen;simpa using hlen
   refine wpAny_bind (wpAny_tryCatch (W.done _ _ _ (by rw [hz];exact st0) fun h2 tk k2=>?_))
   refine wpAny_bind (wpAny_rule (wpAny_pure ?_))
   have:=q td h2 tk (back h2 fun b o n1 n2 e=>k2 b o n1 e)
   rw [hns] at this
   exact this
 | cons x r=>
   have hz:0<us.toArray.size:=by rw [hns] at hlen;simp;rw [hlen];simp
   let f:Nat→Int:=fun i=>ns.getD i 0
   have P:∀ i v,us.toArray[i]? = some v→fe f i v:=fun i v e=>by
    have e':us[i]? = some v:=by simpa using e
    obtain ⟨t,ht⟩:=c9 hi e'
    exact ⟨t,ht⟩
   have W':Walks prog w A.in1 s.heap.objs.size [s.heap.objs.size,l] [s.heap.objs.size] us.toArray.size (fe f) (fun i h=>h.IsListIter s.heap.objs.size l i∧h.IsList l us.toArray):=
    { sub:=W.sub,frame:=W.frame,done:=W.done,self:=W.self,item:=fun i s Q E hi st hQ=>W.item i s Q E hi st fun v h' tk hP=>hQ v h' tk (P i v hP) }
   refine wpAny_bind (wpAny_tryCatch (W'.item 0 _ _ _ hz st0 fun v h2 tk hv st2 k2=>?_))
   have nBw:h1.objs.size ∉ [s.heap.objs.size]:=fun z=>nB (by rw [List.mem_singleton.mp z];exact List.mem_cons_self)
   have hB2:=k2 _ _ nBw hB
   show wpAny _ A.in1 (updateSeq h1.objs.size (fun _=>#[v,v]) >>= fun _=>_) _ _ _
   refine wpAny_bind (wpAny_updateSeq hB2 rfl ?_)
   rw [nm]
   refine wpAny_pure ⟨plainId_quiet F.plain_max_loop _,xY W' _ h1.objs.size nB _ 0 _ v _ rfl hz (W'.frame _ _ _ st2 fun b hb o e=>(Heap.get?_update_other _ _ (fun z:h1.objs.size=b=>nB (by rw [z];exact hb))).trans e) hv (Heap.get?_update_self _ hB2 rfl) fun v' h3 tk3 hv' k3=>?_⟩
   obtain ⟨t',e'⟩:=hv'
   have lt:=ji f (us.toArray.size - 1)
   have hmem:f (argBest (cM f) (us.toArray.size - 1))=maxD d ns:=by
    have hl2:argBest (cM f) (us.toArray.size - 1)<ns.length:=by simp at lt hz ⊢;omega
    refine (nV (by rw [hns];simp) ?_ fun y hy=>?_).symm
    ·show ns.getD _ 0∈ns
     rw [List.getD_eq_getElem?_getD,List.getElem?_eq_getElem hl2]
     exact List.getElem_mem _
    ·obtain ⟨i,hi',rfl⟩:=List.mem_iff_getElem.mp hy
     have:=fH f (us.toArray.size - 1) i (by simp;omega)
     have e2:f i=ns[i]:=by show ns.getD i 0=_;rw [List.getD_eq_getElem?_getD,List.getElem?_eq_getElem hi'];rfl
     rw [← e2];exact this
   have q':=q t' h3 tk3 (back h3 fun b o n1 n2 e=>k3 b o n1 n2 ((Heap.get?_update_other _ _ (Ne.symm n2)).trans (k2 b o n1 e)))
   subst e'
   rw [hmem]
   exact q'
section
variable {M:Model} {A:Around} {E:Value→Shared→Prop} {s:Shared} {env:Env} {pos:Pos} {e:Expr}
theorem qt {id:String} {rest:List Expr} {kws:List Keyword} {Q:Value→Shared→Prop}
 (h:wpAny M A (spliced (backTo pos (starEach (e :: rest) env))) (fun vs s1=>wpAny M A (evalAll ((backToKw pos (keywordEach kws env)).map (·.2))) (fun ks s2=>wpAny M A (call (.builtin id) vs (((backToKw pos (keywordEach kws env)).filterMap (·.1)).zip ks)) Q E s2) E s1) E s)
 (he:starEach (e :: rest) env=(false,eval e env) :: starEach rest env) (h1:(backTo pos (starEach (e :: rest) env)).any (·.1)=false) (h2:(backToKw pos (keywordEach kws env)).all (·.1.isSome)=true) (h3:(backToKw pos (keywordEach kws env)).any (·.1.isNone)=false) :
 wpAny M A (callWith pos (.builtin id) [] (backTo pos (starEach (e :: rest) env)) (backToKw pos (keywordEach kws env))) Q E s:=by
 have k:wpAny M A (evalArgs (.builtin id) true (backTo pos (starEach (e :: rest) env)) (backToKw pos (keywordEach kws env))) (fun a s1=>wpAny M A (call (.builtin id) ([] ++ a.pos) a.kw) Q E s1) E s:=by
  rw [he] at h ⊢
  exact evalArgs_kwB h2 h
 unfold callWith
 refine wpAny_bind (wpAny_holding (thn k fun a s1 q=>wpAny_bind (wpAny_standAt ?_)))
 simp only [h1,h3,Bool.or_false]
 exact wpAny_bind (wpAny_pure (wpAny_bind (thn q fun r s2 q2=>wpAny_bind (wpAny_holding (wpAny_point (wpAny_pure q2))))))
end
end L2.Bw
namespace L2.Ev
open L2.Bw
section
variable {X:Cx}
theorem uu {kp:Pos} (hc:X.calm=true) (hx:Blt X "max" (.builtin "max")) (ha:LE X ea a) (hb:LE X eb b) (he:starEach [ea] X.env=(false,eval ea X.env) :: starEach [] X.env):LE X (.Call (.Name "max" p) [ea] [⟨some "default",eb,kp⟩] pos) (.bi .max0 (.cons a (.cons b .nil))):=fun br z I nb=>by
 refine wpAny_Call_Name_kw (hx.ld I ?_)
 refine qt ?_ he (by rw [he];rfl) rfl rfl
 rw [he]
 refine Calls.spliced_cons ((ha true).go .refl I (ev2 fun l s=>Out.of s (biD .max0 (l.map (look s.st)))) nb fun z1 x u y1 x1 I1 r1 e1=>Calls.spliced_nil ?_)
 show wpAny _ _ (evalAll ((do let v ← eval eb X.env;standAt pos;pure v) :: [])) _ _ _
 refine wpAny_evalAll_cons (wpAny_bind ((hb true).go x1 I1 e1 nb fun z2 y v y2 x2 I2 r2 e2=>wpAny_bind (wpAny_standAt (wpAny_pure (wpAny_evalAll_nil ?_)))))
 refine cU x2 I2 e2 nb fun d q=>?_
 have c1:=(r1.rb.st y2 I2).cr I2
 have c2:=r2.rb.cr I2
 have q:wF .max0 (look z2.t.st x) (look z2.t.st y)=some d:=q
 revert q c1 c2
 generalize look z2.t.st x=x'
 generalize look z2.t.st y=y'
 intro c1 c2 q
 cases x' with
 | lst l=>
   cases y' with
   | int d0=>
     obtain ⟨ns,q1,rfl⟩:=Option.map_eq_some_iff.mp q
     obtain ⟨a0,o,vs,rfl,g,⟨⟨n,rfl⟩,hz⟩,r⟩:=c1
     obtain ⟨t,rfl⟩:=(show ∃ t,v=Value.int d0 t from c2)
     exact xZ (I2.hd hc) (show z2.s.heap.IsList a0 vs.toArray from ⟨_,g,rfl,n,rfl⟩) (gZ q1 r) fun t h1 tk kp=>.flat (.hp kp) fun G=>⟨t,rfl⟩
   | _=>cases q
 | _=>cases q
end
section
variable {X:Cx} {z:Z}
theorem tK (hc:X.calm=true):Bi1 X (.builtin "max") .max2:=fun z u x d I h e=>by
 cases x with
 | lst l=>
   have e:(match cb l with | some (n :: r)=>some (D.int (maxD 0 (n :: r))) | _=>none)=some d:=e
   cases q:cb l with
   | none=>rw [q] at e;cases e
   | some ns=>
     cases ns with
     | nil=>rw [q] at e;cases e
     | cons n0 r0=>
       rw [q] at e;cases e
       obtain ⟨a,o,vs,rfl,g,⟨⟨n,rfl⟩,hz⟩,r⟩:=h
       have hi:=gZ q r
       have hlt:=Heap.lt_size g
       have hl:z.s.heap.IsList a vs.toArray:=⟨_,g,rfl,n,rfl⟩
       have hlen:vs.length=(n0 :: r0).length:=hi.length
       let f:Nat→Int:=fun i=>(n0 :: r0).getD i 0
       have P:∀ i v,vs.toArray[i]? = some v→fe f i v:=fun i v e=>c9 hi (by simpa using e)
       refine call_max_walk (wpAny_pyIter_list hl ?_)
       have W:=Walks.list (prog:=X.W.P) (w:=X.W.w) (A:=X.A.in1) (I.hd hc) z.s.heap.objs.size a (Nat.ne_of_lt hlt) vs.toArray
       refine ⟨z.s.heap.objs.size,[z.s.heap.objs.size,a],[z.s.heap.objs.size],vs.toArray.size,fe f,_,cM f,rfl,{ sub:=W.sub,frame:=W.frame,done:=W.done,self:=W.self,item:=fun i s Q E hi st hQ=>W.item i s Q E hi st fun v h' tk hP=>hQ v h' tk (P i v hP) },⟨⟨_,Heap.get?_push_size _ rfl,rfl,rfl⟩,hl.push _⟩,fun b hb=>?_,by simp [hlen],CmpOf.ints_gt f fun _ _ h=>h,fun v h' tk hv hk=>?_⟩
       ·show b<(z.s.heap.push _).objs.size
        rw [Heap.size_push]
        rcases List.mem_cons.mp hb with w | w
        ·rw [w];exact Nat.lt_succ_self _
        ·rw [List.mem_singleton.mp w];exact Nat.lt_succ_of_lt hlt
       ·obtain ⟨t,rfl⟩:=hv
        have lt:=ji f (vs.toArray.size - 1)
        have hl2:argBest (cM f) (vs.toArray.size - 1)<(n0 :: r0).length:=by simp at lt ⊢;simp at hlen;omega
        have em:f (argBest (cM f) (vs.toArray.size - 1))=maxD 0 (n0 :: r0):=by
         refine (nV (by simp) ?_ fun y hy=>?_).symm
         ·show (n0 :: r0).getD _ 0∈_
          rw [List.getD_eq_getElem?_getD,List.getElem?_eq_getElem hl2]
          exact List.getElem_mem _
         ·obtain ⟨i,hi',rfl⟩:=List.mem_iff_getElem.mp hy
          have:=fH f (vs.toArray.size - 1) i (by simp at hi' hlen ⊢;omega)
          have e2:f i=(n0 :: r0)[i]:=by show (n0 :: r0).getD i 0=_;rw [List.getD_eq_getElem?_getD,List.getElem?_eq_getElem hi'];rfl
          rw [← e2];exact this
        exact .flat (.hp fun b o e=>hk b o (fun hm=>by rw [List.mem_singleton.mp hm] at e;exact Nat.lt_irrefl _ (Heap.lt_size e)) (Heap.get?_push_of_some _ e)) fun G=>⟨t,by rw [em]⟩
 | _=>cases e
theorem uw (hc:X.calm=true) (hx:Blt X "max" (.builtin "max")) (ha:LE X ea a) (hb:LE X eb b) (hd:LE X ec c) (he:starEach [ea,eb,ec] X.env=(false,eval ea X.env) :: starEach [eb,ec] X.env) (he2:starEach [eb,ec] X.env=(false,eval eb X.env) :: starEach [ec] X.env) (he3:starEach [ec] X.env=(false,eval ec X.env) :: starEach [] X.env):LE X (.Call (.Name "max" p) [ea,eb,ec] [] pos) (.bi .max2 (.cons a (.cons b (.cons c .nil)))):=fun br z I nb=>
 bf (.inl ⟨_,rfl⟩) hx he (by rw [he2,he3];rfl) I (by
  rw [he2,he3]
  exact Calls.spliced_cons ((ha true).go .refl I (ev3 fun l s=>Out.of s (biD .max2 (l.map (look s.st)))) nb fun z0 x0 u0 y0 x0' I0 r0 e0=>Calls.spliced_cons ((hb true).go x0' I0 e0 nb fun z1 x u y1 x1 I1 r1 e1=>Calls.spliced_cons ((hd true).go x1 I1 e1 nb fun z2 y v y2 x2 I2 r2 e2=>Calls.spliced_nil (cU x2 I2 e2 nb fun d q=>by
   have c0:=((r0.rb.st y1 I1).st y2 I2).cr I2
   have c1:=(r1.rb.st y2 I2).cr I2
   have c2:=r2.rb.cr I2
   have q:y5 .max2 (look z2.t.st x0) (look z2.t.st x) (look z2.t.st y)=some d:=q
   revert q c0 c1 c2
   generalize look z2.t.st x0=d0
   generalize look z2.t.st x=d1
   generalize look z2.t.st y=d2
   intro c0 c1 c2 q
   cases d0 with
   | int i=>cases d1 with
     | int j=>cases d2 with
       | int k=>
         cases q
         obtain ⟨t0,rfl⟩:=(show ∃ t,u0=Value.int i t from c0)
         obtain ⟨t1,rfl⟩:=(show ∃ t,u=Value.int j t from c1)
         obtain ⟨t2,rfl⟩:=(show ∃ t,v=Value.int k t from c2)
         refine max_three_ints (I2.hd hc) fun h' tk kp=>.flat (.hp kp) fun G=>?_
         split <;> split <;> exact ⟨_,rfl⟩
       | _=>cases q
     | _=>cases q
   | _=>cases q)))))
end
end L2.Ev
end
section
namespace L2.Ev
def isP (x y:Str):Option (PLift (x=y)):=match h:x == y with
 | true=>some ⟨by simpa using h⟩
 | false=>none
theorem kt:aV (.bi b es)=aV (.bi b .nil):=by cases b <;> rfl
abbrev yS (x:Str) (b:Bi):Prop:=∀ X:Cx,X.calm=true→∃ f,FB f∧bootBuiltins x=some f∧((Bi1 X f b∧aV (.bi b .nil)=false)∨tC X f b)
def AO:List {q:Str×Bi // yS q.1 q.2}:=[
 ⟨("len",.len),fun X c=>⟨_,.inl ⟨_,rfl⟩,boot_len,.inl ⟨wH,rfl⟩⟩⟩,
 ⟨("tuple",.tuple),fun X c=>⟨_,.inr ⟨_,rfl⟩,PyProof.Rows.boot_tuple,.inl ⟨qm,rfl⟩⟩⟩,
 ⟨("list",.list),fun X c=>⟨_,.inr ⟨_,rfl⟩,PyProof.Rows.boot_list,.inr tJ⟩⟩,
 ⟨("dict",.dict),fun X c=>⟨_,.inr ⟨_,rfl⟩,PyProof.Rows.boot_dict,.inr tI⟩⟩,
 ⟨("max",.max2),fun X c=>⟨_,.inl ⟨_,rfl⟩,boot_max,.inl ⟨tK c,rfl⟩⟩⟩,
 ⟨("int",.int),fun X c=>⟨_,.inr ⟨_,rfl⟩,PyProof.Rows.boot_int,.inl ⟨wG,rfl⟩⟩⟩]
abbrev yT (x:Str) (b:Bi):Prop:=aV (.bi b .nil)=false∧∀ X:Cx,X.calm=true→∃ f,FB f∧bootBuiltins x=some f∧Bi2 X f b
def AP:List {q:Str×Bi // yT q.1 q.2}:=[
 ⟨("max",.max2),rfl,fun X c=>⟨_,.inl ⟨_,rfl⟩,boot_max,tL c⟩⟩,
 ⟨("min",.min2),rfl,fun X c=>⟨_,.inl ⟨_,rfl⟩,boot_min,tM c⟩⟩]
def tH {P:Str→Bi→Prop} (x:Str):List {q:Str×Bi // P q.1 q.2}→Option {b:Bi // P x b}
 | []=>none
 | q :: r=>match isP q.1.1 x with
   | some h=>some ⟨q.1.2,by rw [← h.down];exact q.2⟩
   | none=>tH x r
abbrev yZ (x:Str) (b:Bi):Prop:=(b = .isTup∨b = .isStr∨b = .isBool∨b = .isInt∨b = .isLst∨b = .isDic)∧bootBuiltins x=some (.type (tyN b))
def tys:List {q:Str×Bi // yZ q.1 q.2}:=[⟨("tuple",.isTup),.inl rfl,PyProof.Rows.boot_tuple⟩,⟨("int",.isInt),.inr (.inr (.inr (.inl rfl))),PyProof.Rows.boot_int⟩,⟨("list",.isLst),.inr (.inr (.inr (.inr (.inl rfl)))),PyProof.Rows.boot_list⟩]
section
variable {T:Ns} {nm:NK} {N:List Str}
def jk (T:Ns) (nm:NK) (x:Str):Option (PLift (x∈T.bl∧cf nm x=true)):=do
 let m ← r6 x T.bl
 let g ← yes (cf nm x)
 some ⟨m.down,g.down⟩
theorem bK (k:CxOk T X nm N) (h:x∈T.bl∧cf nm x=true) (hv:bootBuiltins x=some u) (hn:x≠"__name__":=by decide) (hd:(x == ("__debug__":Str))=false:=by decide):Blt X x u:=⟨bB k.sc h.2,k.blt x h.1,hv,hn,hd⟩
def AS (f:∀ e,Option (GE T nm N e)) (x:Str) (p:Pos) (hx:x≠"__name__") (hd:(x == ("__debug__":Str))=false) (m:x∈T.bl∧cf nm x=true):(es:List Expr)→(pos:Pos)→Option (GE T nm N (.Call (.Name x p) es [] pos))
 | [e],pos=>do
   let he ← yes (aJ e)
   let a ← f e
   let b ← tH x AO
   some ⟨.bi b.1 (.cons a.1 .nil),fun X k=>by
    obtain ⟨fv,h1,h2,h3⟩:=b.2 X k.calm
    rcases h3 with ⟨h3,h4⟩ | h3
    ·exact mk (xv h3 h1 (bK k m h2 hx hd) (a.2 X k).1 (ag he.down)) (kt.trans h4)
    ·exact mkf (xI h3 h1 (bK k m h2 hx hd) (a.2 X k).1 (ag he.down))⟩
 | [e,g],pos=>do
   let he ← yes (aJ e)
   let hg ← yes (aJ g)
   let a ← f e
   let c ← f g
   let b ← tH x AP
   some ⟨.bi b.1 (.cons a.1 (.cons c.1 .nil)),fun X k=>by
    obtain ⟨fv,h1,h2,h3⟩:=b.2.2 X k.calm
    exact mk (xw h3 h1 (bK k m h2 hx hd) (a.2 X k).1 (c.2 X k).1 (ag he.down) (ag hg.down)) (kt.trans b.2.1)⟩
 | [e,g,h],pos=>do
   let he ← yes (aJ e)
   let hg ← yes (aJ g)
   let hh ← yes (aJ h)
   let hm ← isP "max" x
   let a ← f e
   let c ← f g
   let b ← f h
   some ⟨.bi .max2 (.cons a.1 (.cons c.1 (.cons b.1 .nil))),fun X k=>by
    obtain rfl:=hm.down
    exact mk (uw k.calm (bK k m boot_max hx hd) (a.2 X k).1 (c.2 X k).1 (b.2 X k).1 (ag he.down) (ag hg.down) (ag hh.down))⟩
 | _,_=>none
def vJ (f:∀ e,Option (GE T nm N e)) (x:Str) (p:Pos) (e:Expr) (er:List Expr) (pos:Pos):Option (GE T nm N (.Call (.Name x p) (e :: er) [] pos)):=do
 let hd ← no (x == ("__debug__":Str))
 let hnm ← no (x == ("__name__":Str))
 let hg ← yes (cf nm x)
 match AN x T.alt T.fn with
 | some j=>
   let hn ← yes (er.all aJ)
   let he ← yes (aJ e)
   let a ← fg f (e :: er)
   some (if T.oc.contains x then ⟨.fcall true j.1 a.1,fun X k=>by
    obtain ⟨n,fa,h1,h2,h3⟩:=k.fns j.1 x j.2
    exact mkf (rL h1 h2 (bB k.sc hg.down) h3 (a.2 X k) hd.down (ag he.down) (bv (List.all_eq_true.mp hn.down)))⟩ else if T.fc.contains x then ⟨.fcall false j.1 a.1,fun X k=>by
    obtain ⟨n,fa,h1,h2,h3⟩:=k.fns j.1 x j.2
    exact mk (rG h1 h2 (bB k.sc hg.down) h3 (a.2 X k) hd.down (ag he.down) (bv (List.all_eq_true.mp hn.down)))⟩ else if T.hc.contains x then ⟨.hcall j.1 a.1,fun X k=>by
    obtain ⟨n,fa,h1,h2,h3⟩:=k.fns j.1 x j.2
    exact mk (rH h1 h2 (bB k.sc hg.down) h3 (a.2 X k) hd.down (ag he.down) (bv (List.all_eq_true.mp hn.down)))⟩ else ⟨.call j.1 a.1,fun X k=>by
    obtain ⟨n,fa,h1,h2,h3⟩:=k.fns j.1 x j.2
    exact mk (uq h1 h2 (bB k.sc hg.down) h3 (a.2 X k) hd.down (ag he.down) (bv (List.all_eq_true.mp hn.down)))⟩)
 | none=>
   let m ← r6 x T.bl
   AS f x p (by simpa using hnm.down) hd.down ⟨m.down,hg.down⟩ (e :: er) pos
def cIs (f:∀ e,Option (GE T nm N e)) (y:Str) (p:Pos) (ea:Expr) (x:Str) (q pos:Pos):Option (GE T nm N (.Call (.Name y p) [ea,.Name x q] [] pos)):=do
 let hy ← isP "isinstance" y
 let g1 ← jk T nm "isinstance"
 let g2 ← jk T nm x
 let b ← tH (P:=yZ) x tys
 let hd ← no (x == ("__debug__":Str))
 let hnm ← no (x == ("__name__":Str))
 let he ← yes (aJ ea)
 let a ← f ea
 some ⟨.bi b.1 (.cons a.1 .nil),fun X k=>by
  obtain rfl:=hy.down
  exact mk (zS b.2.1 (bK k g1.down PyProof.Rows.boot_isinstance) (bK k g2.down b.2.2 (by simpa using hnm.down) hd.down) (a.2 X k).1 (ag he.down)) (by rcases b.2.1 with w | w | w | w | w | w <;> rw [w] <;> rfl)⟩
def A4 (f:∀ e,Option (GE T nm N e)) (y:Str) (p:Pos) (ea:Expr) (x:Str) (q pos:Pos):Option (GE T nm N (.Call (.Name y p) [ea,.Name x q] [] pos)):=none
def A3 (f:∀ e,Option (GE T nm N e)) (y:Str) (p:Pos) (ea:Expr) (x1 x2 x3:Str) (q1 q2 q3:Pos) (k:Nat) (q pos:Pos):Option (GE T nm N (.Call (.Name y p) [ea,.Tuple [.Name x1 q1,.Name x2 q2,.Name x3 q3] k q] [] pos)):=none
def A9 (f:∀ e,Option (GE T nm N e)) (x y:Str) (p1 p2:Pos) (ea:Expr) (pos2 pos:Pos):Option (GE T nm N (.Call (.Name x p1) [.Call (.Name y p2) [ea] [] pos2] [] pos)):=none
def iK (f:∀ e,Option (GE T nm N e)) (tg e:Expr):Option (GI T nm N tg e):=(f e).map fun a=>⟨.itv a.1,fun X k=>By k.calm (a.2 X k).1⟩
def cR1 (f:∀ e,Option (GE T nm N e)) (tg:Expr) (x:Str) (p:Pos) (a:Expr) (pos:Pos):Option (GI T nm N tg (.Call (.Name x p) [a] [] pos)):=do
 let hx ← isP "range" x
 let g ← jk T nm "range"
 let he ← yes (aJ a)
 let u ← f a
 some ⟨.it .range1 (.cons u.1 .nil),fun X k=>by
  obtain rfl:=hx.down
  exact pI k.calm (bK k g.down boot_range) (u.2 X k).1 (ag he.down)⟩
def cR2 (f:∀ e,Option (GE T nm N e)) (tg:Expr) (x:Str) (p:Pos) (a b:Expr) (pos:Pos):Option (GI T nm N tg (.Call (.Name x p) [a,b] [] pos)):=do
 let hx ← isP "range" x
 let g ← jk T nm "range"
 let he ← yes (aJ a)
 let hb ← yes (aJ b)
 let u ← f a
 let v ← f b
 some ⟨.it .range2 (.cons u.1 (.cons v.1 .nil)),fun X k=>by
  obtain rfl:=hx.down
  exact pJ k.calm (bK k g.down boot_range) (u.2 X k).1 (v.2 X k).1 (ag he.down) (ag hb.down)⟩
def cE1 (f:∀ e,Option (GE T nm N e)) (ts:List Expr) (n:Nat) (tp:Pos) (x:Str) (p:Pos) (a:Expr) (pos:Pos):Option (GI T nm N (.Tuple ts n tp) (.Call (.Name x p) [a] [] pos)):=do
 let hx ← isP "enumerate" x
 let g ← jk T nm "enumerate"
 let he ← yes (aJ a)
 let u ← f a
 some ⟨.it .enum (.cons u.1 .nil),fun X k=>by
  obtain rfl:=hx.down
  exact uB k.calm (bK k g.down boot_enumerate) (u.2 X k).1 (ag he.down)⟩
def cE2 (f:∀ e,Option (GE T nm N e)) (ts:List Expr) (n:Nat) (tp:Pos) (x y:Str) (p:Pos) (a b:Expr) (kp pos:Pos):Option (GI T nm N (.Tuple ts n tp) (.Call (.Name x p) [a] [⟨some y,b,kp⟩] pos)):=do
 let hx ← isP "enumerate" x
 let hy ← isP "start" y
 let g ← jk T nm "enumerate"
 let he ← yes (aJ a)
 let u ← f a
 let w ← f b
 some ⟨.it .enum2 (.cons u.1 (.cons w.1 .nil)),fun X k=>by
  obtain rfl:=hx.down
  obtain rfl:=hy.down
  exact rO k.calm (bK k g.down boot_enumerate) (u.2 X k).1 (w.2 X k).1 (ag he.down)⟩
def cZ2 (f:∀ e,Option (GE T nm N e)) (ts:List Expr) (n:Nat) (tp:Pos) (x:Str) (p:Pos) (a b:Expr) (pos:Pos):Option (GI T nm N (.Tuple ts n tp) (.Call (.Name x p) [a,b] [] pos)):=do
 let hx ← isP "zip" x
 let g ← jk T nm "zip"
 let ha ← yes (aJ a)
 let hb ← yes (aJ b)
 let u ← f a
 let v ← f b
 some ⟨.it .zip2 (.cons u.1 (.cons v.1 .nil)),fun X k=>by
  obtain rfl:=hx.down
  exact uC k.calm (bK k g.down boot_zip) (u.2 X k).1 (v.2 X k).1 (ag ha.down) (ag hb.down)⟩
def cZ3 (f:∀ e,Option (GE T nm N e)) (ts:List Expr) (n:Nat) (tp:Pos) (x:Str) (p:Pos) (a b c:Expr) (pos:Pos):Option (GI T nm N (.Tuple ts n tp) (.Call (.Name x p) [a,b,c] [] pos)):=do
 let hx ← isP "zip" x
 let g ← jk T nm "zip"
 let ha ← yes (aJ a)
 let hb ← yes (aJ b)
 let hc ← yes (aJ c)
 let u ← f a
 let v ← f b
 let w ← f c
 some ⟨.it .zip3 (.cons u.1 (.cons v.1 (.cons w.1 .nil))),fun X k=>by
  obtain rfl:=hx.down
  exact uD k.calm (bK k g.down boot_zip) (u.2 X k).1 (v.2 X k).1 (w.2 X k).1 (ag ha.down) (ag hb.down) (ag hc.down)⟩
def vN (f:∀ e,Option (GE T nm N e)):(tg e:Expr)→Option (GI T nm N tg e)
 | .Tuple ts n tp,.Call (.Name x p) [a] [] pos=>(cE1 f ts n tp x p a pos).orElse fun _=>iK f _ _
 | .Tuple ts n tp,.Call (.Name x p) [a] [⟨some y,b,kp⟩] pos=>cE2 f ts n tp x y p a b kp pos
 | .Tuple ts n tp,.Call (.Name x p) [a,b] [] pos=>(cZ2 f ts n tp x p a b pos).orElse fun _=>iK f _ _
 | .Tuple ts n tp,.Call (.Name x p) [a,b,c] [] pos=>(cZ3 f ts n tp x p a b c pos).orElse fun _=>iK f _ _
 | tg,.Call (.Name x p) [a] [] pos=>(cR1 f tg x p a pos).orElse fun _=>iK f _ _
 | tg,.Call (.Name x p) [a,b] [] pos=>(cR2 f tg x p a b pos).orElse fun _=>iK f _ _
 | tg,e=>iK f tg e
theorem b7 (h:bU e=true):attributeBase e x env m=m:=by
 unfold attributeBase
 split
 ·have h':(_ != ("super":Str))=true:=h
  rw [if_pos (by rw [h'];rfl)]
 ·rfl
theorem sR (h:∀ e∈es,aJ e=true):((backTo pos (starEach es env)).all fun x=>!x.1)=true:=by
 have:=bv (env:=env) (pos:=pos) h
 rw [List.all_eq_not_any_not]
 simpa using this
theorem si (h1:bU o=true) (h2:∀ x∈es,aJ x=true) (h3:es.length<30) (h4:(apos.endLine == pos.line)=true):eval (.Call (.Attribute o m apos) es [] pos) env=(do
 let ov ← eval o env
 standAt apos.atName
 let (f,first) ← holding [ov] (getMethod ov m (do return (← importBound o env).getD true))
 callWith pos f first (backTo pos (starEach es env)) (backToKw pos (keywordEach [] env))):=by
 have e0:eval (.Call (.Attribute o m apos) es [] pos) env=(do
  let ov ← attributeBase o m env (eval o env)
  standAt apos.atName
  methodCall o m apos pos env ov (es.length+([]:List Keyword).length) (backTo pos (starEach es env)) (backToKw pos (keywordEach [] env))):=rfl
 rw [e0,b7 h1]
 have few:methodCallForm (es.length+([]:List Keyword).length) (backTo pos (starEach es env)) (backToKw pos (keywordEach [] env))=true:=by
  unfold methodCallForm
  rw [sR h2]
  simp only [Bool.true_and]
  show (true && decide (_<30))=true
  simp only [Bool.true_and]
  apply decide_eq_true
  exact h3
 congr 1
 funext ov
 congr 1
 funext _
 unfold methodCall
 simp only [few]
 have e1:methodCallPos true o env apos pos=pure pos:=by unfold methodCallPos;rw [h4];rfl
 simp only [e1]
 rfl
def x9 (m:Str):(l:List (Str×Nat×Nat))→Option {q:Nat×Nat // (m,q.1,q.2)∈l}
 | []=>none
 | (y,c,j) :: r=>match isP y m with
   | some h=>some ⟨(c,j),by obtain rfl:=h.down;exact List.mem_cons_self⟩
   | none=>(x9 m r).map fun i=>⟨i.1,List.mem_cons_of_mem _ i.2⟩
def A6 (f:∀ e,Option (GE T nm N e)) (o:Expr) (m:Str) (ap:Pos):(args:List Expr)→(pos:Pos)→Option (GE T nm N (.Call (.Attribute o m ap) args [] pos))
 | [],pos=>do
   let q ← x9 m T.me
   let hs ← yes (bU o)
   let hp ← yes (ap.endLine == pos.line)
   let a ← f o
   some ⟨.mth q.1.1 q.1.2 a.1 .nil,fun X k=>by
    obtain ⟨n,fa,h1,h2,h3⟩:=k.mts _ q.2
    exact mk (ux h1 h2 h3 (a.2 X k).1 (si hs.down (fun x hx=>nomatch hx) (by decide) hp.down))⟩
 | e :: er,pos=>do
   let q ← x9 m T.me
   let hs ← yes (bU o)
   let hp ← yes (ap.endLine == pos.line)
   let hn ← yes ((e :: er).all aJ)
   let hl ← yes (decide ((e :: er).length<30))
   let a ← f o
   let b ← fg f (e :: er)
   some ⟨.mth q.1.1 q.1.2 a.1 b.1,fun X k=>by
    obtain ⟨n,fa,h1,h2,h3⟩:=k.mts _ q.2
    have hn':=List.all_eq_true.mp hn.down
    exact mk (xB h1 h2 h3 (a.2 X k).1 (b.2 X k) (ag (hn' e List.mem_cons_self)) (bv fun x hx=>hn' x (List.mem_cons_of_mem _ hx)) (si hs.down hn' (by simpa using hl.down) hp.down))⟩
def AY (f:∀ e,Option (GE T nm N e)) (o:Expr) (m:Str) (ap:Pos):(args:List Expr)→(pos:Pos)→Option (GE T nm N (.Call (.Attribute o m ap) args [] pos)):=fun _ _=>none
def zv (f:∀ e,Option (GE T nm N e)) (m:Str) (ap:Pos):(o:Expr)→(args:List Expr)→(pos:Pos)→Option (GE T nm N (.Call (.Attribute o m ap) args [] pos)):=fun _ _ _=>none
def wM (f:∀ e,Option (GE T nm N e)) (x:Str) (j:Nat) (p:Pos) (m:Str) (ap:Pos):(args:List Expr)→(pos:Pos)→Option (GE T nm N (.Call (.Attribute (.Constant (.str x) j p) m ap) args [] pos)):=fun _ _=>none
def AX (f:∀ e,Option (GE T nm N e)) (x:Str) (j1:Nat) (p1:Pos) (e:Expr) (p2:Pos) (y:Str) (j2:Nat) (p3 pos:Pos):Option (GE T nm N (.JoinedStr [.Constant (.str x) j1 p1,.FormattedValue e (-1) none p2,.Constant (.str y) j2 p3] pos)):=none
def Bc (f:∀ e,Option (GE T nm N e)) (a:Expr) (lo:Option Expr) (st:Expr) (p2 pos:Pos):Option (GE T nm N (.Subscript a (.Slice lo none (some st) p2) pos)):=none
def zj (f:∀ e,Option (GE T nm N e)) (x:Str) (p:Pos):(args:List Expr)→(pos:Pos)→Option (GE T nm N (.Call (.Name x p) args [] pos))
 | [],pos=>do
   let j ← bM x T.nw
   let hz ← no (x == ("":Str))
   let hd ← no (x == ("__debug__":Str))
   let hg ← yes (cf nm x)
   some ⟨.new j.1 .nil,fun X k=>by
    obtain ⟨n,fa,i,cl,h1,h4,h5,h6,h7,h8,h9,h10⟩:=k.nws j.1 x j.2 (by simpa using hz.down)
    exact mk (uy h1 h4 h5 h6 h7 h8 h9 (bB k.sc hg.down) h10 hd.down)⟩
 | _ :: _,_=>none
def zk (f:∀ e,Option (GE T nm N e)) (x:Str) (p:Pos):(args:List Expr)→(pos:Pos)→Option (GE T nm N (.Call (.Name x p) args [] pos)):=fun _ _=>none
def za (f:∀ e,Option (GE T nm N e)):(e:Expr)→Option (GE T nm N e)
 | .List er pos=>(fg f er).map fun a=>⟨.newl a.1,fun X k=>mk (nN (a.2 X k))⟩
 | e=>f e
def wJ (f:∀ e,Option (GE T nm N e)) (x:Str) (p:Pos) (e:Expr) (er:List Expr) (pos:Pos):Option (GE T nm N (.Call (.Name x p) (e :: er) [] pos)):=
 match r6 x T.mu with
 | some _=>vJ (za f) x p e er pos
 | none=>vJ f x p e er pos
end
section
variable {T:Ns} {nm:NK} {N:List Str}
def zc (f:∀ e,Option (GE T nm N e)) (keys:List (Option Expr)) (vals:List Expr) (pos:Pos):Option (GE T nm N (.Dict keys vals pos)):=none
end
def gJ (fn:Bool) (nm:NK) (x:Str):Bool:=nm.lookup x == some .local || (fn && nm.lookup x == some .cell)
structure TgH (nm:NK) (N:List Str) (X:Cx):Prop where
 calm:X.calm=true
 hN:X.N=N
 nd:N.Nodup
 sc:X.env.scope.names=nm
theorem hX {fn:Bool} (h:TgH nm N X) (hl:gJ fn nm x=true):Loc X.env.scope x:=by
 have l1:nm.lookup x=some .local∨(fn=true∧nm.lookup x=some .cell):=by
  unfold gJ at hl
  simpa using hl
 show X.env.scope.names.lookup x=_∨X.env.scope.names.lookup x=_
 rw [h.sc]
 exact l1.imp id And.right
def Pl (nm:NK) (N:List Str) (t:List Nat):Prop:=∀ i∈t,∀ x,N[i]? = some x→nm.lookup x=some .local
theorem sH {nm:NK} {N:List Str} {i:Nat} {x:Str} (hi:N[i]? = some x) (hl:gJ false nm x=true):∀ y,N[i]? = some y→nm.lookup y=some .local:=fun y e=>by
 rw [hi] at e;cases e
 unfold gJ at hl
 simpa using hl
structure yY (fn:Bool) (nm:NK) (N:List Str) (es:List Expr) (t:List Nat):Prop where
 len:∀ env,(assignEach es env).length=t.length
 fst:∀ env,(assignEach es env).findIdx? (·.1)=none
 as_:∀ X,TgH nm N X→As X ((assignEach es X.env).map (·.2)) t
 pl:fn=false→Pl nm N t
def yG (fn:Bool) (nm:NK) (N:List Str):(es:List Expr)→Option {t:List Nat // yY fn nm N es t}
 | []=>some ⟨[],fun _=>rfl,fun _=>rfl,fun X h=>trivial,fun _ i m=>nomatch m⟩
 | .Name x p :: r=>do
   let i ← bM x N
   let hl ← yes (gJ fn nm x)
   let t ← yG fn nm N r
   some ⟨i.1 :: t.1,fun env=>congrArg (· + 1) (t.2.len env),fun env=>by
    show List.findIdx? _ ((false,assign (.Name x p) env) :: assignEach r env)=none
    rw [List.findIdx?_cons,t.2.fst env];rfl,fun X h=>⟨⟨x,by rw [h.hN];exact i.2,hX h hl.down,fun q=>wpAny_assign_Name q⟩,t.2.as_ X h⟩,fun hf j m y e=>by
    rcases List.mem_cons.mp m with w | w
    ·rw [w] at e;exact sH i.2 (hf ▸ hl.down) y e
    ·exact t.2.pl hf j w y e⟩
 | _=>none
def tgP (fn:Bool) (nm:NK) (N:List Str):(tg:Expr)→Option {q:List Nat×Bool // (∀ X,TgH nm N X→LG X tg q.1 q.2)∧(fn=false→Pl nm N q.1)}
 | .Name x p=>do
   let i ← bM x N
   let hl ← yes (gJ fn nm x)
   some ⟨([i.1],true),fun X h=>uA (by rw [h.hN];exact h.nd) (by rw [h.hN];exact i.2) (hX h hl.down),fun hf j m y e=>by rw [List.mem_singleton.mp m] at e;exact sH i.2 (hf ▸ hl.down) y e⟩
 | .Tuple es k p=>do
   let t ← yG fn nm N es
   some ⟨(t.1,false),fun X h=>rN h.calm (by rw [h.hN];exact h.nd) (t.2.as_ X h) (t.2.len _) (t.2.fst _),t.2.pl⟩
 | _=>none
def eK:Expr→List Str
 | .Name x _=>[x]
 | .Tuple es _ _=>es.filterMap fun e=>match e with | .Name x _=>some x | _=>none
 | _=>[]
def fA (nm:NK) (sc:Scope):NK:=sc.names.map fun y=>if (y.2 == .free && nm.lookup y.1 == some .cell)=true then (y.1,.cell) else (y.1,y.2)
def yo (nm:NK) (p:Str×Str):Bool:=match nm.lookup p.1 with
 | some .local=>false
 | some .cell=>p.1 == p.2
 | some .free=>p.1 == p.2
 | _=>true
def ndB:List Str→Bool
 | []=>true
 | x :: r=>!r.contains x && ndB r
theorem wf:∀ {l},ndB l=true→l.Nodup
 | [],_=>List.nodup_nil
 | x :: r,h=>by
   have h':r.contains x=false∧ndB r=true:=by simpa [ndB] using h
   refine List.nodup_cons.mpr ⟨fun m=>?_,wf h'.2⟩
   have:r.contains x=true:=by simpa using m
   rw [h'.1] at this
   cases this
def ky (own:List Str) (N:List Str):List Str:=own ++ N.map fun y=>if own.contains y then ⟨y.cps.push (1200000+N.length)⟩ else y
def lcB (nm:NK) (N N':List Str) (sc:Scope) (k:Nat):Bool:=
 (sc.names.all fun y=>y.2 != .cell) && sc.kind == .function && (sc.names.all fun y=>y.2 != .local || sc.names.lookup y.1 == some .local) &&
 (sc.names.all fun y=>y.2 != .free || (nm.lookup y.1 == some .cell || nm.lookup y.1 == some .free)) && N'.length == k+N.length && ((N'.drop k).zip N).all (yo (fA nm sc)) && ndB N'
section
variable {T:Ns} {nm:NK} {N N':List Str} {X:Cx} {sc:Scope}
theorem eF (k:CxOk T X nm N):(relabel sc X.env).names=fA nm sc:=by
 unfold relabel fA
 dsimp only
 congr 1
 funext y
 rw [k.kd,show X.env.kindOf y.1=nm.lookup y.1 by rw [← k.sc];rfl]
 simp
theorem zR (k:CxOk T X nm N) (h:lcB nm N N' sc n=true):Lcn X sc n N'∧N'.Nodup:=by
 unfold lcB at h
 simp only [Bool.and_eq_true] at h
 obtain ⟨⟨⟨⟨⟨⟨h1,h2⟩,h3⟩,h4⟩,h5⟩,h6⟩,h7⟩:=h
 have kk:∀ x,X.env.kindOf x=nm.lookup x:=fun x=>by rw [← k.sc];rfl
 refine ⟨zQ h1 (by simpa using h2) h3 (by simp only [kk];exact h4) (by rw [k.hN];simpa using h5) ?_,wf h7⟩
 rw [k.hN]
 have e:i6 sc X.env=yo (fA nm sc):=by
  funext p
  unfold i6 yo
  rw [eF k]
  all_goals rfl
 rw [e]
 exact h6
theorem dK.cx (h:dK X an c k i):dK (cxC X N' sc C) an c k i:=⟨h.ci,h.cls,h.na,h.wh,h.nm,h.nd,h.xc⟩
theorem CxOk.inner (k:CxOk T X nm N) (L:Lcn X sc n N') (nd:N'.Nodup) :CxOk T (cxC X N' sc C) (fA nm sc) N' where
 hN:=rfl
 nd:=nd
 sc:=eF k
 kd:=L.kind
 calm:=k.calm
 fns:=fun j x h=>let ⟨n,f,h1,h2,h3⟩:=k.fns j x h;⟨n,f,bJ.to (X:=X) h1,h2,h3⟩
 gls:=k.gls
 tbs:=k.tbs
 blt:=k.blt
 cls:=fun c cl h=>let ⟨i,h1⟩:=k.cls c cl h;⟨i,h1.cx⟩
 mts:=fun q h=>let ⟨n,f,h1,h2,⟨i,cl,a,b,c⟩⟩:=k.mts q h;⟨n,f,bJ.to (X:=X) h1,h2,⟨i,cl,a,b.cx,c⟩⟩
 nws:=fun j x h hz=>let ⟨n,f,i,cl,h1,h2⟩:=k.nws j x h hz;⟨n,f,i,cl,bJ.to (X:=X) h1,h2⟩
 nds:=fun j x h hz=>let ⟨n,f,fd,ps,i,cl,h1,h2⟩:=k.nds j x h hz;⟨n,f,fd,ps,i,cl,FnI.to (X:=X) h1,h2⟩
 hxs:=k.hxs
def A1 (g:∀ e,Option (GT T nm N e)):(ifs:List Expr)→Option {c:E // ∀ X,CxOk T X nm N→LTs X ifs c}
 | []=>some ⟨.c (.bl true),fun X k=>uS⟩
 | [c]=>(g c).map fun x=>⟨x.1,fun X k=>uT (x.2 X k)⟩
 | _=>none
def zg (f:aN T) (g:ig T) (nm:NK) (N:List Str) (ee tg iter:Expr) (ifs:List Expr) (sc:Scope):Option {q:(List Nat×Bool)×E×E×E // ∀ X,CxOk T X nm N→LcP X (ky (eK tg) N) ee tg iter ifs sc q.1.1 q.1.2 q.2.1 q.2.2.1 q.2.2.2}:=do
 let it ← vN (f nm N) tg iter
 let q ← tgP false (fA nm sc) (ky (eK tg) N) tg
 let h0 ← yes (q.1.1.all fun i=>decide (i<q.1.1.length))
 let hl ← yes (lcB nm N (ky (eK tg) N) sc q.1.1.length)
 let c ← A1 (g (fA nm sc) (ky (eK tg) N)) ifs
 let e ← f (fA nm sc) (ky (eK tg) N) ee
 let hn ← yes (aJ iter)
 some ⟨(q.1,it.1,e.1,c.1),fun X k=>by
  obtain ⟨L,nd⟩:=zR k hl.down
  exact ⟨k.calm,L,it.2 X k,fun C=>q.2.1 (cxC X _ sc C) ⟨k.calm,rfl,nd,eF k⟩,fun i m x e=>by rw [eF k];exact q.2.2 rfl i m x e,fun C=>c.2 _ (k.inner L nd),fun C=>(e.2 _ (k.inner L nd)).1,iR hn.down⟩⟩
def cLC (f:aN T) (g:ig T) (nm:NK) (N:List Str) (ee tg iter:Expr) (ifs:List Expr) (sc:Scope) (pos:Pos):Option (GE T nm N (.ListComp ee [⟨tg,iter,ifs,0⟩] sc pos)):=
 (zg f g nm N ee tg iter ifs sc).map fun q=>⟨.lc q.1.1.1 q.1.1.2 q.1.2.1 q.1.2.2.1 q.1.2.2.2,fun X k=>mkf (rM (q.2 X k))⟩
end
theorem mR (h:(match e with | .Compare ..=>false | .BoolOp ..=>false | .UnaryOp ..=>false | .IfExp ..=>false | .NamedExpr ..=>false | _=>true)=true):isTrue e env whole=(do let v ← whole;standAt e.pos;holding [v] (truthy v)):=by
 cases e <;> first | rfl | cases h
section
variable {T:Ns}
abbrev GC (T:Ns) (nm:NK) (N:List Str) (e:Expr):={c:E // ∀ X,CxOk T X nm N→(LE X e c∧aV c=false)∧LT X e c}
def zb (f:aN T) (nm:NK) (N:List Str) (a:Expr) (op:CmpOp) (b:Expr) (pos:Pos):Option (GC T nm N (.Compare a [op] [b] pos)):=do
 let o ← Bl op
 let hb ← yes (aJ b)
 let x ← f nm N a
 let y ← f nm N b
 some ⟨.op o.1 x.1 y.1,fun X k=>⟨⟨xx (o.2 X) (x.2 X k).1 (y.2 X k).1 (gL hb.down),rfl⟩,xT (o.2 X) (x.2 X k).1 (y.2 X k).1 (gL hb.down)⟩⟩
def wO (f:aN T) (nm:NK) (N:List Str) (a:Expr) (x:Str) (p pos:Pos):Option (GC T nm N (.Compare a [.In] [.Name x p] pos)):=do
 let hd ← no (x == ("__debug__":Str))
 let hg ← yes (cf nm x)
 let j ← bM x T.tb
 let y ← f nm N a
 some ⟨.tabin j.1 y.1,fun X k=>by
  obtain ⟨t,ad,h1,h2,h3⟩:=k.tbs j.1 x j.2
  exact ⟨⟨rJ (bB k.sc hg.down) h2 h1 h3 (y.2 X k).1 hd.down rfl,rfl⟩,rW (bB k.sc hg.down) h2 h1 h3 (y.2 X k).1 hd.down rfl⟩⟩
def vK (f:aN T) (nm:NK) (N:List Str):(a:Expr)→(ops:List CmpOp)→(bs:List Expr)→(pos:Pos)→Option (GC T nm N (.Compare a ops bs pos))
 | a,[.Is],[.Constant .none j p],pos=>(f nm N a).map fun x=>⟨.isN x.1,fun X k=>⟨⟨xz (x.2 X k).1 rfl,rfl⟩,xU (x.2 X k).1 rfl⟩⟩
 | a,[.IsNot],[.Constant .none j p],pos=>(f nm N a).map fun x=>⟨.isNN x.1,fun X k=>⟨⟨ut (x.2 X k).1 rfl,rfl⟩,uR (x.2 X k).1 rfl⟩⟩
 | a,[.In],[.Name x p],pos=>(wO f nm N a x p pos).orElse fun _=>zb f nm N a .In (.Name x p) pos
 | a,[op],[b],pos=>zb f nm N a op b pos
 | _,_,_,_=>none
def Bh (f:aN T) (nm:NK) (N:List Str) (x:Str) (p:Pos) (b:Expr) (pos:Pos):Option (GE T nm N (.Subscript (.Name x p) b pos)):=do
 let hd ← no (x == ("__debug__":Str))
 let hg ← yes (cf nm x)
 let j ← bM x T.tb
 let hb ← yes (aJ b)
 let y ← f nm N b
 some ⟨.tab j.1 y.1,fun X k=>by
  obtain ⟨t,ad,h1,h2,h3⟩:=k.tbs j.1 x j.2
  exact mk (xF (bB k.sc hg.down) h2 h1 h3 (y.2 X k).1 (gW hb.down) hd.down fun _=>rfl)⟩
def cIx (f:aN T) (nm:NK) (N:List Str) (a b:Expr) (pos:Pos):Option (GE T nm N (.Subscript a b pos)):=do
 let hb ← yes (aJ b)
 let x ← f nm N a
 let y ← f nm N b
 some ⟨.ix x.1 y.1,fun X k=>mk (zU (x.2 X k).1 (y.2 X k).1 (gW hb.down))⟩
theorem qH (e:T.an i=x) (T':cC X T.an) (hy:LE X a y) (hs:bU a=true):LE X (.Attribute a x pos) (.fld y i):=by
 subst e
 exact xy T' yQ hy (b7 hs)
theorem ke (h:T.at_[i]? = some x):T.an i=x:=by unfold Ns.an;rw [List.getD_eq_getElem?_getD,h];rfl
def lY {nm:NK} {N:List Str} (f:∀ e,Option (GE T nm N e)) (x:Str) (p:Pos) (e:Expr) (er:List Expr) (pos:Pos):Option (GE T nm N (.Call (.Name x p) (e :: er) [] pos)):=((wJ f x p e er pos).orElse fun _=>zj f x p (e :: er) pos).orElse fun _=>zk f x p (e :: er) pos
def cUn (f:aN T) (nm:NK) (N:List Str) (a:Expr) (pos:Pos):(op:UnaryOp)→Option (GE T nm N (.UnaryOp op a pos))
 | .USub=>(f nm N a).map fun x=>⟨.neg x.1,fun X k=>mk (xC (x.2 X k).1)⟩
 | .Not=>(f nm N a).map fun x=>⟨.not x.1,fun X k=>mk (xD (x.2 X k).1)⟩
 | _=>none
def Be (f:aN T) (nm:NK) (N:List Str) (a:Expr) (lo:Option Expr) (p2 pos:Pos):(hi st:Option Expr)→Option (GE T nm N (.Subscript a (.Slice lo hi st p2) pos))
 | hi,none=>do
   let x ← f nm N a
   let l ← zl (f nm N) lo
   let h ← zl (f nm N) hi
   some ⟨.sl x.1 l.1 h.1,fun X k=>mk (zX (x.2 X k).1 (l.2 X k) (h.2 X k))⟩
 | none,some st=>Bc (f nm N) a lo st p2 pos
 | _,_=>none
def cTa (f:aN T) (nm:NK) (N:List Str) (b:Expr) (pos:Pos):(a:Expr)→Option (GE T nm N (.Subscript a b pos))
 | .Name x p=>Bh f nm N x p b pos
 | _=>none
def Bg (f:aN T) (nm:NK) (N:List Str) (a:Expr) (pos:Pos):(b:Expr)→Option (GE T nm N (.Subscript a b pos))
 | .Slice lo hi st p2=>Be f nm N a lo p2 pos hi st
 | b=>(cTa f nm N b pos a).orElse fun _=>cIx f nm N a b pos
def cRv (f:aN T) (nm:NK) (N:List Str) (x:Str) (p:Pos) (pos:Pos):(a:Expr)→Option (GE T nm N (.Call (.Name x p) [a] [] pos))
 | .Call (.Name y p2) [a] [] pos2=>A9 (f nm N) x y p p2 a pos2 pos
 | _=>none
def cIz (f:aN T) (nm:NK) (N:List Str) (x:Str) (p:Pos) (a:Expr) (pos:Pos):(b:Expr)→Option (GE T nm N (.Call (.Name x p) [a,b] [] pos))
 | .Name y q=>(cIs (f nm N) x p a y q pos).orElse fun _=>A4 (f nm N) x p a y q pos
 | .Tuple [.Name x1 q1,.Name x2 q2,.Name x3 q3] k q=>A3 (f nm N) x p a x1 x2 x3 q1 q2 q3 k q pos
 | _=>none
def AU (f:aN T) (nm:NK) (N:List Str) (x:Str) (p:Pos) (pos:Pos):(args:List Expr)→Option (GE T nm N (.Call (.Name x p) args [] pos))
 | []=>zj (f nm N) x p [] pos
 | [a]=>(cRv f nm N x p pos a).orElse fun _=>lY (f nm N) x p a [] pos
 | [a,b]=>(cIz f nm N x p a pos b).orElse fun _=>lY (f nm N) x p a [b] pos
 | e :: er=>lY (f nm N) x p e er pos
def cSJ (f:aN T) (nm:NK) (N:List Str) (m:Str) (ap:Pos) (args:List Expr) (pos:Pos):(o:Expr)→Option (GE T nm N (.Call (.Attribute o m ap) args [] pos))
 | .Constant (.str x) j p=>wM (f nm N) x j p m ap args pos
 | _=>none
def AT (f:aN T) (nm:NK) (N:List Str) (o:Expr) (m:Str) (ap:Pos) (args:List Expr) (pos:Pos):Option (GE T nm N (.Call (.Attribute o m ap) args [] pos)):=
 (((cSJ f nm N m ap args pos o).orElse fun _=>zv (f nm N) m ap o args pos).orElse fun _=>AY (f nm N) o m ap args pos).orElse fun _=>A6 (f nm N) o m ap args pos
def cMx (f:aN T) (nm:NK) (N:List Str) (x y:Str) (p:Pos) (a b:Expr) (kp pos:Pos):Option (GE T nm N (.Call (.Name x p) [a] [⟨some y,b,kp⟩] pos)):=do
 let hx ← isP "max" x
 let hy ← isP "default" y
 let g ← jk T nm "max"
 let he ← yes (aJ a)
 let u ← f nm N a
 let w ← f nm N b
 some ⟨.bi .max0 (.cons u.1 (.cons w.1 .nil)),fun X k=>by
  obtain rfl:=hx.down
  obtain rfl:=hy.down
  exact mk (uu k.calm (bK k g.down boot_max) (u.2 X k).1 (w.2 X k).1 (ag he.down))⟩
def AZ (f:aN T) (nm:NK) (N:List Str) (o:Expr) (m:Str) (ap:Pos):(args:List Expr)→(pos:Pos)→Option (GE T nm N (.Call (.Attribute o m ap) args [] pos))
 | [e],pos=>do
   let hm ← isP "index" m
   let hp ← yes (ap.endLine == pos.line)
   let hn ← yes (aJ e)
   let hs ← yes (bU o)
   let a ← f nm N o
   let b ← f nm N e
   some ⟨.index a.1 b.1,fun X k=>by
    obtain rfl:=hm.down
    exact mk (rI (a.2 X k).1 (b.2 X k).1 ⟨b7 hs.down,by rw [ag hn.down];rfl,hp.down,by rw [ag hn.down];rfl⟩)⟩
 | _,_=>none
def cCl (f:aN T) (nm:NK) (N:List Str) (pos:Pos) (args:List Expr):(fn:Expr)→(kw:List Keyword)→Option (GE T nm N (.Call fn args kw pos))
 | .Name x p,[]=>AU f nm N x p pos args
 | .Attribute o m ap,[]=>(AZ f nm N o m ap args pos).orElse fun _=>AT f nm N o m ap args pos
 | .Name x p,[⟨some y,b,kp⟩]=>(match args with | [a]=>cMx f nm N x y p a b kp pos | _=>none)
 | _,_=>none
def cF2 (f:aN T) (nm:NK) (N:List Str) (x:Str) (j1:Nat) (p1 pos:Pos):(b c:Expr)→Option (GE T nm N (.JoinedStr [.Constant (.str x) j1 p1,b,c] pos))
 | .FormattedValue e (.negSucc 0) none p2,.Constant (.str y) j2 p3=>AX (f nm N) x j1 p1 e p2 y j2 p3 pos
 | _,_=>none
def cJs (f:aN T) (nm:NK) (N:List Str) (pos:Pos):(es:List Expr)→Option (GE T nm N (.JoinedStr es pos))
 | [.Constant (.str x) j1 p1,b,c]=>cF2 f nm N x j1 p1 pos b c
 | _=>none
def cDi (f:aN T) (nm:NK) (N:List Str) (pos:Pos):(ks:List (Option Expr))→(vs:List Expr)→Option (GE T nm N (.Dict ks vs pos))
 | [],[]=>some ⟨.dic .nil,fun X k=>mkf uz⟩
 | ks,vs=>zc (f nm N) ks vs pos
def A5 (f:aN T) (g:ig T) (nm:NK) (N:List Str) (ee:Expr) (sc:Scope) (pos:Pos):(gs:List Comprehension)→Option (GE T nm N (.ListComp ee gs sc pos))
 | [⟨tg,iter,ifs,0⟩]=>cLC f g nm N ee tg iter ifs sc pos
 | _=>none
def Ax (f:aN T) (g:ig T) (nm:NK) (N:List Str):(e:Expr)→Option (GE T nm N e)
 | .Name x pos=>zh T nm N x pos
 | .Constant c j pos=>wK T nm N c j pos
 | .BinOp a op b pos=>do
   let o ← opP op
   let x ← f nm N a
   let y ← f nm N b
   some ⟨.op o.1 x.1 y.1,fun X k=>mk (zW (o.2 X) (x.2 X k).1 (y.2 X k).1)⟩
 | .UnaryOp op a pos=>cUn f nm N a pos op
 | .BoolOp .And es pos=>do
   let x ← vI (f nm N) pos es
   let h ← no (aV x.1)
   some ⟨x.1,fun X k=>mk (x.2 X k) h.down⟩
 | .BoolOp .Or es pos=>do
   let x ← A7 (f nm N) pos es
   let h ← no (aV x.1)
   some ⟨x.1,fun X k=>mk (x.2 X k) h.down⟩
 | .IfExp c a b pos=>do
   let t ← g nm N c
   let x ← f nm N a
   let y ← f nm N b
   some ⟨.ite t.1 x.1 y.1,fun X k=>mk (xA (t.2 X k) (x.2 X k).1 (y.2 X k).1)⟩
 | .Compare a ops bs pos=>(vK f nm N a ops bs pos).map fun x=>⟨x.1,fun X k=>mk (x.2 X k).1.1 (x.2 X k).1.2⟩
 | .Tuple es n pos=>(fg (f nm N) es).map fun x=>⟨.tup x.1,fun X k=>mk (rK (x.2 X k))⟩
 | .List es pos=>(fg (f nm N) es).map fun x=>⟨.lst x.1,fun X k=>mkf (xJ (x.2 X k))⟩
 | .Subscript a b pos=>Bg f nm N a pos b
 | .Attribute a x pos=>do
   let i ← bM x T.at_
   let hs ← yes (bU a)
   let y ← f nm N a
   some ⟨.fld y.1 i.1,fun X k=>mk (qH (ke i.2) k.cls (y.2 X k).1 hs.down)⟩
 | .Call fn args kw pos=>cCl f nm N pos args fn kw
 | .JoinedStr es pos=>cJs f nm N pos es
 | .Dict keys vals pos=>cDi f nm N pos keys vals
 | .ListComp ee gs sc pos=>A5 f g nm N ee sc pos gs
 | _=>none
def Ay (f:aN T) (g:ig T) (nm:NK) (N:List Str):(e:Expr)→Option (GT T nm N e)
 | .UnaryOp .Not a pos=>(g nm N a).map fun x=>⟨.tnot x.1,fun X k=>xV (x.2 X k)⟩
 | .BoolOp .And es pos=>(vH (g nm N) pos es).map fun x=>⟨x.1,fun X k=>wa (x.2 X k)⟩
 | .BoolOp .Or es pos=>(zm (g nm N) pos es).map fun x=>⟨x.1,fun X k=>wa (x.2 X k)⟩
 | .Compare a ops bs pos=>(vK f nm N a ops bs pos).map fun x=>⟨x.1,fun X k=>(x.2 X k).2⟩
 | e=>do
   let h ← yes (match e with | .Compare ..=>false | .BoolOp ..=>false | .UnaryOp ..=>false | .IfExp ..=>false | .NamedExpr ..=>false | _=>true)
   let x ← f nm N e
   some ⟨.tv x.1,fun X k=>z4 (x.2 X k).1 fun w=>mR h.down⟩
theorem xu:LE X e .nil:=fun br z I nb=>absurd rfl nb
theorem xS:LT X e .nil:=fun z I nb=>absurd rfl nb
def pb (T:Ns):Nat→aN T×ig T
 | 0=>(fun _ _ _=>none,fun _ _ _=>none)
 | k+1=>(fun nm N e=>some ((Ax (pb T k).1 (pb T k).2 nm N e).getD ⟨.nil,fun X _=>mk xu⟩),fun nm N e=>some ((Ay (pb T k).1 (pb T k).2 nm N e).getD ⟨.nil,fun X _=>xS⟩))
end
def RaP (X:Cx) (j:Nat) (x:Str):Prop:=∃ (lv:Nat) (k:Cl) (i:CI) (fI:Addr) (fd:FuncData) (ps:List Str) (Bx nwI iniI:String) (bmB:List Value),ExcBaseFacts Bx nwI iniI bmB∧ie X.K i.ad fI bmB nwI∧FnJ X lv fI fd ps i.nm k i.ad∧b6 X.K fd ps []∧bc (lv+1) X.A∧fX X.K i.ad∧(∀ f∈i.nm,PySem.W.findIn X.K (.ref i.ad) f=some none)∧X.Γ.cl[j]? = some k∧X.W.ci[j]? = some i∧X.W.what[j]? = some 2∧i.nm.length=k.at_.length∧PySem.W.mroIn X.K i.ad (.type "BaseException")=some true∧PySem.W.typeIn X.K (.ref i.ad)=some (.type "type")∧PySem.W.keepIn X.K (.ref i.ad)=true∧X.mg x=some (.ref i.ad)∧k.at_.isEmpty=false
def RtP (X:Cx) (j:Nat) (x:Str):Prop:=∃ (k:Cl) (i:CI) (Bx nwI iniI:String) (bmB:List Value),ExcBaseFacts Bx nwI iniI bmB∧yX X.K i.ad bmB nwI∧X.Γ.cl[j]? = some k∧k.at_.isEmpty=true∧X.W.ci[j]? = some i∧X.W.what[j]? = some 2∧X.mg x=some (.ref i.ad)
structure CxS (T:Ns) (X:Cx) (nm:NK) (N:List Str):Prop extends CxOk T X nm N where
 fr:oW X
 rs:∀ (j:Nat) (x:Str),T.ex[j]? = some x→x≠""→RaP X j x
 rt:∀ (j:Nat) (x:Str),T.xt[j]? = some x→x≠""→RtP X j x
abbrev GS (T:Ns) (nm:NK) (N:List Str) (st:Stmt):={c:S // ∀ X,CxS T X nm N→LS X st c}
abbrev GSs (T:Ns) (nm:NK) (N:List Str) (st:List Stmt):={c:S // ∀ X,CxS T X nm N→LSs X st c}
def jR:Expr→Bool
 | .ListComp ..=>false
 | .SetComp ..=>false
 | .DictComp ..=>false
 | _=>true
theorem fQ (h:jR e=true):swapsWith e t l env=pure false:=by
 cases e <;> first | rfl | cases h
theorem sq :swapsWithSole [.Tuple es k p] e l env=pure false:=by
 cases e <;> rfl
def wg:Expr→Bool
 | .Tuple ..=>false
 | _=>true
theorem pO (h:wg e=true):swappedStores [.Tuple es k p] e env=pure none:=by
 cases e <;> first | rfl | cases h
section
variable {T:Ns} {nm:NK} {N:List Str}
theorem CxOk.tg (k:CxOk T X nm N):TgH nm N X:=⟨k.calm,k.hN,k.nd,k.sc⟩
theorem CxOk.at {i:Nat} {x:Str} (k:CxOk T X nm N) (h:N[i]? = some x):X.N[i]? = some x:=by rw [k.hN];exact h
theorem CxOk.ndx (k:CxOk T X nm N):X.N.Nodup:=by rw [k.hN];exact k.nd
def vO (f:aN T) (nm:NK) (N:List Str) (x:Str) (p:Pos) (pos:Pos) (e:Expr):Option (GS T nm N (.Assign [.Name x p] e pos)):=do
 let i ← bM x N
 let hl ← yes (gJ true nm x)
 let hn ← yes (jR e)
 let a ← f nm N e
 some ⟨.set i.1 a.1,fun X k=>mz k.ndx (k.at i.2) (hX k.tg hl.down) (a.2 X k.toCxOk).1 (a.2 X k.toCxOk).2 (fQ hn.down)⟩
def Bb (f:aN T) (g:ig T) (nm:NK) (N:List Str) (x:Str) (p:Pos) (pos:Pos):(e:Expr)→Option (GS T nm N (.Assign [.Name x p] e pos))
 | .ListComp ee [⟨tg,iter,ifs,0⟩] sc pos2=>do
   let i ← bM x N
   let hl ← yes (gJ true nm x)
   let q ← zg f g nm N ee tg iter ifs sc
   some ⟨.set i.1 (.lc q.1.1.1 q.1.1.2 q.1.2.1 q.1.2.2.1 q.1.2.2.2),fun X k=>rU k.ndx (k.at i.2) (hX k.tg hl.down) (q.2 X k.toCxOk)⟩
 | .List es lp=>(match r6 x T.rf with
   | some _=>do
     let i ← bM x N
     let hl ← yes (gJ true nm x)
     let a ← fg (f nm N) es
     some ⟨.setR i.1 a.1,fun X k=>uP k.ndx (k.at i.2) (hX k.tg hl.down) (a.2 X k.toCxOk) (fQ rfl)⟩
   | none=>vO f nm N x p pos (.List es lp))
 | e=>vO f nm N x p pos e
def AQ (f:aN T) (nm:NK) (N:List Str) (x:Str) (p:Pos) (m:Str) (ap:Pos) (e:Expr) (cp pos:Pos):Option (GS T nm N (.Expr (.Call (.Attribute (.Name x p) m ap) [e] [] cp) pos)):=do
 let hm ← isP "append" m
 let i ← bM x N
 let hl ← yes (cE nm x)
 let hd ← no (x == ("__debug__":Str))
 let hc ← no (x == ("__classdict__":Str))
 let he ← yes (aJ e)
 let hp ← yes (ap.endLine == cp.line)
 let a ← f nm N e
 some ⟨.app i.1 a.1,fun X k=>by
  obtain rfl:=hm.down
  exact xM (k.at i.2) (bt k.sc hl.down) hd.down hc.down (a.2 X k.toCxOk).1 ⟨b7 rfl,by rw [ag he.down];rfl,hp.down,by rw [ag he.down];rfl⟩⟩
def AV (f:aN T) (nm:NK) (N:List Str) (x:Str) (p:Pos) (m:Str) (ap:Pos) (e:Expr) (cp pos:Pos):Option (GS T nm N (.Expr (.Call (.Attribute (.Name x p) m ap) [e] [] cp) pos)):=do
 let hm ← isP "extend" m
 let i ← bM x N
 let hl ← yes (cE nm x)
 let hd ← no (x == ("__debug__":Str))
 let hc ← no (x == ("__classdict__":Str))
 let he ← yes (aJ e)
 let hp ← yes (ap.endLine == cp.line)
 let a ← f nm N e
 some ⟨.ext i.1 a.1,fun X k=>by
  obtain rfl:=hm.down
  exact xO (k.at i.2) (bt k.sc hl.down) hd.down hc.down (a.2 X k.toCxOk).1 ⟨b7 rfl,by rw [ag he.down];rfl,hp.down,by rw [ag he.down];rfl⟩⟩
def vL (f:aN T) (nm:NK) (N:List Str) (e:Expr) (pos:Pos):Option (GS T nm N (.Expr e pos)):=do
 let hn ← yes (jR e)
 let a ← f nm N e
 some ⟨.drop a.1,fun X k=>uI (a.2 X k.toCxOk).1 (fQ hn.down)⟩
def zu (f:aN T) (nm:NK) (N:List Str) (j:Nat) (p:Pos) (k:Nat) (q pos:Pos):(ts vs:List Expr)→Option (GS T nm N (.Assign [.Tuple ts j p] (.Tuple vs k q) pos)):=fun _ _=>none
def A8 (f:aN T) (nm:NK) (N:List Str) (x:Str) (p:Pos) (eb:Expr) (p2:Pos) (ee:Expr) (pos:Pos):Option (GS T nm N (.Assign [.Subscript (.Name x p) eb p2] ee pos)):=do
 let i ← bM x N
 let hl ← yes (cE nm x)
 let hd ← no (x == ("__debug__":Str))
 let hc ← no (x == ("__classdict__":Str))
 let hn ← yes (aJ eb)
 let b ← f nm N eb
 let e ← f nm N ee
 some ⟨.put (.v i.1) b.1 e.1,fun X k=>uN (k.at i.2) (bt k.sc hl.down) hd.down hc.down hn.down (b.2 X k.toCxOk).1 (e.2 X k.toCxOk).1⟩
def zn (f:aN T) (nm:NK) (N:List Str) (eo eb:Expr) (p2:Pos) (ee:Expr) (pos:Pos):Option (GS T nm N (.Assign [.Subscript eo eb p2] ee pos)):=do
 let hn ← yes (aJ eb)
 let o ← f nm N eo
 let hv ← no (isV o.1)
 let b ← f nm N eb
 let e ← f nm N ee
 some ⟨.put o.1 b.1 e.1,fun X k=>uM hn.down hv.down (o.2 X k.toCxOk).1 (b.2 X k.toCxOk).1 (e.2 X k.toCxOk).1⟩
def wL (f:aN T) (nm:NK) (N:List Str) (x:Str) (np:Pos):(args:List Expr)→(cp pos:Pos)→Option (GS T nm N (.Raise (some (.Call (.Name x np) args [] cp)) none pos))
 | [],_,_=>none
 | e :: er,cp,pos=>do
   let j ← bM x T.ex
   let hz ← no (x == ("":Str))
   let hn ← yes ((e :: er).all aJ)
   let hg ← yes (cf nm x)
   let hd ← no (x == ("__debug__":Str))
   let a ← fg (f nm N) (e :: er)
   some ⟨.rais j.1 a.1,fun X k=>by
    obtain ⟨lv,cl,i,fI,fd,ps,Bx,nwI,iniI,bmB,h1,h2,h3,h4,h5,h6,h7,h8,h9,h10,h11,h12,h13,h14,h15,h16⟩:=k.rs j.1 x j.2 (by simpa using hz.down)
    have hn':=List.all_eq_true.mp hn.down
    obtain ⟨ck,h3,hk⟩:=h3
    exact rT h1 h2 h3 hk h4 h5 h6 h7 h8 h9 h10 h11 h16 h12 h13 h14 k.calm (bB k.sc hg.down) h15 (a.2 X k.toCxOk) hd.down (ag (hn' e List.mem_cons_self)) (bv fun y hy=>hn' y (List.mem_cons_of_mem _ hy))⟩
def tO (nm:NK) (N:List Str) (x:Str) (np:Pos):(args:List Expr)→(cp pos:Pos)→Option (GS T nm N (.Raise (some (.Call (.Name x np) args [] cp)) none pos)):=fun _ _ _=>none
def vM (nm:NK) (N:List Str) (y:Str) (p1:Pos) (x:Str) (p pos p2:Pos):Option (GS T nm N (.Assign [.Attribute (.Name y p1) x p] (.Dict [] [] p2) pos)×GS T nm N (.Assign [.Attribute (.Name y p1) x p] (.List [] p2) pos)):=do
 let j ← bM x T.at_
 let i ← bM y N
 let hl ← yes (cE nm y)
 let hd ← no (y == ("__debug__":Str))
 let hc ← no (y == ("__classdict__":Str))
 some (⟨.fld (.v i.1) j.1 (.dic .nil),fun X k=>by
  have h:=uJ (X:=X) (p:=p) (pos:=pos) (p1:=p1) (p2:=p2) (f:=j.1) k.cls (k.at i.2) (bt k.sc hl.down) hd.down hc.down
  rw [ke j.2] at h
  exact h⟩,⟨.fld (.v i.1) j.1 (.lst .nil),fun X k=>by
  have h:=uK (X:=X) (p:=p) (pos:=pos) (p1:=p1) (p2:=p2) (f:=j.1) k.cls (k.at i.2) (bt k.sc hl.down) hd.down hc.down
  rw [ke j.2] at h
  exact h⟩)
def AW (f:aN T) (nm:NK) (N:List Str) (eo:Expr) (x:Str) (p:Pos) (ee:Expr) (pos:Pos):Option (GS T nm N (.Assign [.Attribute eo x p] ee pos)):=do
 let j ← bM x T.at_
 let o ← f nm N eo
 let e ← f nm N ee
 let hp ← yes (mK e.1)
 some ⟨.fld o.1 j.1 e.1,fun X k=>by
  have h:=xP (X:=X) (p:=p) (pos:=pos) (f:=j.1) k.cls hp.down (o.2 X k.toCxOk).1 (e.2 X k.toCxOk).1
  rw [ke j.2] at h
  exact h⟩
def ze (f:aN T) (nm:NK) (N:List Str):(eo:Expr)→(x:Str)→(p:Pos)→(ee:Expr)→(pos:Pos)→Option (GS T nm N (.Assign [.Attribute eo x p] ee pos))
 | .Name y p1,x,p,.Dict [] [] p2,pos=>(vM nm N y p1 x p pos p2).map (·.1)
 | .Name y p1,x,p,.List [] p2,pos=>(vM nm N y p1 x p pos p2).map (·.2)
 | eo,x,p,ee,pos=>AW f nm N eo x p ee pos
def AR (nm:NK) (N:List Str) (op:Operator) (pos:Pos):(tg e:Expr)→Option (GS T nm N (.AugAssign tg op e pos)):=fun _ _=>none
structure oZ (T:Ns) (X:Cx) (nm:NK) (N:List Str):Prop where
 hN:X.N=N
 nd:N.Nodup
 sc:X.env.scope.names=nm
 cls:cC X T.an
theorem CxOk.su (k:CxOk T X nm N) (e:Value):oZ T (aL X e) nm N:=⟨k.hN,k.nd,k.sc,fun c cl h=>let ⟨i,h⟩:=k.cls c cl h;⟨i,h.ci,h.cls,h.na,h.wh,h.nm,h.nd,h.xc⟩⟩
def vP (nm:NK) (N:List Str):(e:Expr)→Option {c:E // aV c=false∧∀ X,oZ T X nm N→LE X e c}
 | .Name x pos=>do
   let hd ← no (x == ("__debug__":Str))
   let hc ← no (x == ("__classdict__":Str))
   let hl ← yes (cE nm x)
   let i ← bM x N
   some ⟨.v i.1,rfl,fun X k=>xG (by rw [k.hN];exact i.2) (bt k.sc hl.down) hd.down hc.down⟩
 | .Constant c j pos=>match c with
   | .none=>some ⟨.c .non,rfl,fun X k=>vR⟩
   | .bool b=>some ⟨.c (.bl b),rfl,fun X k=>zw⟩
   | .int i=>some ⟨.c (.int i),rfl,fun X k=>vQ⟩
   | .str x=>some ⟨.c (.str x),rfl,fun X k=>vS⟩
   | _=>none
 | .Attribute (.Name y p) x pos=>do
   let hd ← no (y == ("__debug__":Str))
   let hc ← no (y == ("__classdict__":Str))
   let hl ← yes (cE nm y)
   let i ← bM y N
   let j ← bM x T.at_
   let hs ← yes (bU (.Name y p))
   some ⟨.fld (.v i.1) j.1,rfl,fun X k=>qH (ke j.2) k.cls (xG (by rw [k.hN];exact i.2) (bt k.sc hl.down) hd.down hc.down) hs.down⟩
 | _=>none
def zq (nm:NK) (N:List Str):(es:List Expr)→Option {c:E // ∀ X,oZ T X nm N→LA X es c}
 | []=>some ⟨.nil,fun X k=>ry⟩
 | e :: r=>do
   let h ← yes (aJ e)
   let a ← vP (T:=T) nm N e
   let b ← zq nm N r
   some ⟨.cons a.1 b.1,fun X k=>nK (a.2.2 X k) (b.2 X k) (ag h.down)⟩
def zt (nm:NK) (N:List Str):(e:Expr)→Option {c:E // aV c=false∧∀ X,oZ T X nm N→LE X e c}
 | .Tuple es n pos=>(zq (T:=T) nm N es).map fun a=>⟨.tup a.1,rfl,fun X k=>rK (a.2 X k)⟩
 | e=>vP nm N e
def cSu (nm:NK) (N:List Str):(st:Stmt)→Option {c:S // ∀ X,oZ T X nm N→LS X st c}
 | .Return (some e) pos=>(zt (T:=T) nm N e).map fun a=>⟨.ret a.1,fun X k=>jK (a.2.2 X k)⟩
 | .Assign [.Name x p] e pos=>do
   let i ← bM x N
   let hl ← yes (gJ true nm x)
   let hn ← yes (jR e)
   let a ← zt (T:=T) nm N e
   some ⟨.set i.1 a.1,fun X k=>mz (by rw [k.hN];exact k.nd) (by rw [k.hN];exact i.2) (by
    have l1:nm.lookup x=some .local∨nm.lookup x=some .cell:=by have:=hl.down;unfold gJ at this;simpa using this
    show X.env.scope.names.lookup x=_∨X.env.scope.names.lookup x=_
    rw [k.sc];exact l1) (a.2.2 X k) (fun q=>by rw [a.2.1] at q;cases q) (fQ hn.down)⟩
 | _=>none
def wN (nm:NK) (N:List Str):(st:List Stmt)→Option {c:S // ∀ X,oZ T X nm N→LSs X st c}
 | []=>some ⟨.skip,fun X k=>rR⟩
 | [a]=>(cSu nm N a).map fun x=>⟨x.1,fun X k=>rS (x.2 X k)⟩
 | a :: b :: r=>do
   let x ← cSu nm N a
   let y ← wN nm N (b :: r)
   some ⟨.seq x.1 y.1,fun X k=>nR (x.2 X k) (y.2 X k)⟩
def cHs (nm:NK) (N:List Str):(hs:List ExceptHandler)→Option {r:S // ∀ X,CxS T X nm N→HL X hs r}
 | []=>some ⟨.skip,fun X k=>wX⟩
 | .ExceptHandler (some (.Name Bn np)) (some x) (b₀ :: suite) hpos :: hs=>do
   let j ← bM Bn T.hx
   let hz ← no (Bn == ("":Str))
   let hg ← yes (cf nm Bn)
   let hd ← no (Bn == ("__debug__":Str))
   let i ← bM x N
   let hl ← yes (nm.lookup x == some .local)
   let b ← wN (T:=T) nm N (b₀ :: suite)
   let r ← cHs nm N hs
   some ⟨.hand j.1 (some i.1) b.1 r.1,fun X k=>zG (fun e=>b.2 _ (k.toCxOk.su e)) (k.hxs j.1 Bn j.2 (by simpa using hz.down)) (bB k.sc hg.down) hd.down k.ndx (k.at i.2) (by rw [k.sc];simpa using hl.down) (r.2 X k)⟩
 | .ExceptHandler (some (.Name Bn np)) none (b₀ :: suite) hpos :: hs=>do
   let j ← bM Bn T.hx
   let hz ← no (Bn == ("":Str))
   let hg ← yes (cf nm Bn)
   let hd ← no (Bn == ("__debug__":Str))
   let b ← wN (T:=T) nm N (b₀ :: suite)
   let r ← cHs nm N hs
   some ⟨.hand j.1 none b.1 r.1,fun X k=>zH (fun e=>b.2 _ (k.toCxOk.su e)) (k.hxs j.1 Bn j.2 (by simpa using hz.down)) (bB k.sc hg.down) hd.down (r.2 X k)⟩
 | _=>none
def Bj (a:GSs T nm N body):(hs:List ExceptHandler)→(pos:Pos)→Option (GS T nm N (.Try body hs [] [] pos))
 | h0 :: hs,pos=>(cHs nm N (h0 :: hs)).map fun r=>⟨.try_ a.1 r.1,fun X k=>xR k.fr (a.2 X k) (r.2 X k)⟩
 | _,_=>none
theorem rQ {st:Stmt}:LS X st (.hand 0 none .skip .skip):=fun z I nb=>absurd rfl nb
def zo (f:aN T) (nm:NK) (N:List Str) (er:List Expr) (p2 pos:Pos):Option (GS T nm N (.Return (some (.List er p2)) pos)):=none
def zp (f:aN T) (nm:NK) (N:List Str) (e:Expr) (pos:Pos):Option (GS T nm N (.Return (some e) pos)):=do
 let a ← f nm N e
 match h:N.any (fun x=>T.mu.contains x) && aV a.1 with
 | true=>some ⟨.ret (.sto a.1),fun X k=>jK (xE ((a.2 X k.toCxOk).2 (Bool.and_eq_true_iff.mp h).2))⟩
 | false=>some ⟨.ret a.1,fun X k=>jK (a.2 X k.toCxOk).1⟩
mutual
noncomputable def Bf (f:aN T) (g:ig T) (nm:NK) (N:List Str):(n:Nat)→(st:Stmt)→Option (GS T nm N st)
 | 0,_=>none
 | _+1,.Pass pos=>some ⟨.skip,fun X k=>uL⟩
 | _+1,.Return none pos=>some ⟨.ret (.c .non),fun X k=>uO⟩
 | _+1,.Return (some (.List er p2)) pos=>(zo f nm N er p2 pos).orElse fun _=>(f nm N (.List er p2)).map fun a=>⟨.ret a.1,fun X k=>jK (a.2 X k.toCxOk).1⟩
 | _+1,.Return (some e) pos=>zp f nm N e pos
 | _+1,.Expr (.Constant (.str x) j p) pos=>some ⟨.skip,fun X k=>xN⟩
 | _+1,.Expr (.Call (.Attribute (.Name x p) m ap) [e] [] cp) pos=>((AQ f nm N x p m ap e cp pos).orElse fun _=>AV f nm N x p m ap e cp pos).orElse fun _=>vL f nm N _ pos
 | _+1,.Expr e pos=>vL f nm N e pos
 | _+1,.Assign [.Name x p] e pos=>Bb f g nm N x p pos e
 | _+1,.Assign [.Subscript (.Name x p) eb p2] ee pos=>A8 f nm N x p eb p2 ee pos
 | _+1,.Assign [.Subscript eo eb p2] ee pos=>zn f nm N eo eb p2 ee pos
 | _+1,.Raise (some (.Call (.Name x np) args [] cp)) none pos=>(wL f nm N x np args cp pos).orElse fun _=>tO nm N x np args cp pos
 | _+1,.Assign [.Attribute eo x p] ee pos=>ze f nm N eo x p ee pos
 | _+1,.AugAssign tg op e pos=>AR nm N op pos tg e
 | _+1,.Assign [.Tuple ts j p] (.Tuple vs k q) pos=>zu f nm N j p k q pos ts vs
 | _+1,.Assign [.Tuple es j p] e pos=>do
   let t ← yG true nm N es
   let h ← yes (wg e)
   let a ← f nm N e
   some ⟨.setT t.1 a.1,fun X k=>uQ (a.2 X k.toCxOk).1 (rN k.calm k.ndx (t.2.as_ X k.tg) (t.2.len _) (t.2.fst _)) sq (pO h.down) rfl⟩
 | n+1,.If e sa sb pos=>do
   let c ← g nm N e
   let a ← pc f g nm N n sa
   let b ← pc f g nm N n sb
   some ⟨.ifs c.1 a.1 b.1,fun X k=>zZ (c.2 X k.toCxOk) (a.2 X k) (b.2 X k)⟩
 | n+1,.For tg iter body [] pos=>do
   let it ← vN (f nm N) tg iter
   let q ← tgP true nm N tg
   let hn ← yes (aJ iter)
   let b ← pc f g nm N n body
   some ⟨.for_ q.1.1 q.1.2 it.1 b.1,fun X k=>xQ k.calm (fun z o=>u9 k.fr) (it.2 X k.toCxOk) (q.2.1 X k.tg) (b.2 X k) (iR hn.down)⟩
 | n+1,.Try body hs [] [] pos=>do
   let a ← pc f g nm N n body
   Bj a hs pos
 | _,_=>none
noncomputable def cSt (f:aN T) (g:ig T) (nm:NK) (N:List Str):(n:Nat)→(st:Stmt)→Option (GS T nm N st)
 | 0,st=>some ⟨.hand 0 none .skip .skip,fun X k=>rQ⟩
 | n+1,st=>some ((Bf f g nm N n st).getD ⟨.hand 0 none .skip .skip,fun X k=>rQ⟩)
noncomputable def pc (f:aN T) (g:ig T) (nm:NK) (N:List Str):(n:Nat)→(st:List Stmt)→Option (GSs T nm N st)
 | 0,_=>none
 | _+1,[]=>some ⟨.skip,fun X k=>rR⟩
 | n+1,[a]=>(cSt f g nm N n a).map fun x=>⟨x.1,fun X k=>rS (x.2 X k)⟩
 | n+1,a :: b :: r=>do
   let x ← cSt f g nm N n a
   let y ← pc f g nm N n (b :: r)
   some ⟨.seq x.1 y.1,fun X k=>nR (x.2 X k) (y.2 X k)⟩
end
end
def bz (st:Stmt):List Str:=(bj st).args.map (·.arg)
def kR (st:Stmt):List Str:=bz st ++ ((au st).names.filter fun y=>(y.2 == .local || y.2 == .cell) && !(bz st).contains y.1).map (·.1)
def gc (T:Ns) (st:Stmt):Option Fn:=(pc (pb T 200).1 (pb T 200).2 (au st).names (kR st) 200 (bX st)).map fun c=>⟨(bz st).length,(kR st).length,c.1⟩
structure tD (T:Ns) (X:Cx) (ad:List Addr) (lv:Nat):Prop where
 calm:X.calm=true
 fns:∀ (j:Nat) (f:Addr),ad[j]? = some f→∃ x qual st fd fn mu al fc oc,Fun X.K x qual st f fd∧b6 X.K fd (bz st) []∧dy (kR st) (bz st) (au st)∧X.Γ.fn[j]? = some fn∧gc { T with mu:=mu,alt:=al,fc:=fc,oc:=oc } st=some fn
 glb:∀ (j:Nat) (x:Str),T.fn[j]? = some x→∃ f,ad[j]? = some f∧X.mg x=some (.ref f)
 gls:∀ (j:Nat) (x:Str),T.gl[j]? = some x→∃ d u,X.Γ.gl[j]? = some d∧X.mg x=some u∧aR X.K d u=true
 tbs:∀ (j:Nat) (x:Str),T.tb[j]? = some x→∃ t a,X.Γ.tb[j]? = some t∧X.mg x=some (.ref a)∧TbL X a t
 blt:∀ x∈T.bl,X.mg x=none
 cls:cC X T.an
 mts:∀ q∈T.me,∃ f,ad[q.2.2]? = some f∧oY X T.an q.1 q.2.1 f
 nws:∀ (j:Nat) (x:Str),T.nw[j]? = some x→x≠""→∃ f i cl,ad[cl.init]? = some f∧Mk X.K i.ad f∧X.Γ.cl[j]? = some cl∧cl.what=0∧X.W.ci[j]? = some i∧X.W.what[j]? = some 0∧X.mg x=some (.ref i.ad)
 nds:∀ (j:Nat) (x:Str),T.nd[j]? = some x→x≠""→∃ f fd ps i cl,FnI X lv f fd ps i.nm none∧b6 X.K fd ps []∧Mk X.K i.ad f∧Cls X.K i.ad∧(∀ f∈i.nm,cZ X.K i.ad f)∧X.Γ.cl[j]? = some cl∧X.W.ci[j]? = some i∧X.W.what[j]? = some 1∧i.nm.length=cl.at_.length∧X.mg x=some (.ref i.ad)
 rs:∀ (j:Nat) (x:Str),T.ex[j]? = some x→x≠""→∃ (k:Cl) (i:CI) (fI:Addr) (fd:FuncData) (ps:List Str) (Bx nwI iniI:String) (bmB:List Value),ExcBaseFacts Bx nwI iniI bmB∧ie X.K i.ad fI bmB nwI∧FnJ X lv fI fd ps i.nm k i.ad∧b6 X.K fd ps []∧fX X.K i.ad∧(∀ f∈i.nm,PySem.W.findIn X.K (.ref i.ad) f=some none)∧X.Γ.cl[j]? = some k∧X.W.ci[j]? = some i∧X.W.what[j]? = some 2∧i.nm.length=k.at_.length∧PySem.W.mroIn X.K i.ad (.type "BaseException")=some true∧PySem.W.typeIn X.K (.ref i.ad)=some (.type "type")∧PySem.W.keepIn X.K (.ref i.ad)=true∧X.mg x=some (.ref i.ad)∧k.at_.isEmpty=false
 hxs:∀ (j:Nat) (x:Str),T.hx[j]? = some x→x≠""→p9 X j x
 rt:∀ (j:Nat) (x:Str),T.xt[j]? = some x→x≠""→RtP X j x
section
variable {X:Cx} {T:Ns} {ad:List Addr} {lv:Nat}
theorem dK.to {A:Around} {fr:List Env} {N:List Str} {e:Env} {c1 d1:Nat→List D→List O→Res} (h:dK X an c k i):dK (X.to A fr N e c1 d1) an c k i:=⟨h.ci,h.cls,h.na,h.wh,h.nm,h.nd,h.xc⟩
theorem pT (Pg:tD T X ad lv) (n:Nat) (ih:∀ (j:Nat) (f:Addr),ad[j]? = some f→bJ X (aa X.Γ n) (lv+1+n) j f) (ih1:∀ (j:Nat) (f:Addr),ad[j]? = some f→∃ m,m+1≤lv+1+n∧bJ X (az X.Γ n) m j f) {j:Nat} {f:Addr} (h:ad[j]? = some f):bJ X (aa X.Γ (n+1)) (lv+1+(n+1)) j f:=by
 obtain ⟨x,qual,st,fd,fn,mu,al,fc,oc,Fu,b,Sc,hj,hc⟩:=Pg.fns j f h
 obtain ⟨oc,od,kV,doc,pm,an,cd,ct,osl,rfl,lk,hcd⟩:=Fu.ex
 unfold gc at hc
 obtain ⟨c,_,rfl⟩:=Option.map_eq_some_iff.mp hc
 refine ⟨_,_,zF (cal:=aa X.Γ n) (cal1:=az X.Γ n) (k:=lv+1+n) lk hcd Sc hj fun A fr L hr=>c.2 _ ⟨⟨rfl,Sc.nd,rfl,Sc.kind,Pg.calm,fun i y hy=>?_,Pg.gls,Pg.tbs,Pg.blt,fun c cl h=>let ⟨i,h⟩:=Pg.cls c cl h;⟨i,h.to⟩,fun q hq=>?_,fun i y hy hz=>?_,fun i y hy hz=>?_,Pg.hxs⟩,⟨⟨fr,rfl⟩,rfl⟩,fun i y hy hz=>?_,Pg.rt⟩,b,Fu.kp⟩
 ·obtain ⟨g,h1,h2⟩:=Pg.glb i y hy
  exact ⟨_,g,(ih i g h1).to,hr,h2⟩
 ·obtain ⟨g,h1,⟨i,k,a1,a2,a3⟩⟩:=Pg.mts q hq
  exact ⟨_,g,(ih _ g h1).to,hr,⟨i,k,a1,a2.to,a3⟩⟩
 ·obtain ⟨g,ci,cl,h1,h2⟩:=Pg.nws i y hy hz
  obtain ⟨m,hm,h3⟩:=ih1 _ g h1
  exact ⟨m,g,ci,cl,h3.to,hr.mono hm,h2⟩
 ·obtain ⟨g,fd,ps,ci,cl,h1,h2,h3⟩:=Pg.nds i y hy hz
  exact ⟨lv,g,fd,ps,ci,cl,h1.to,h2,hr.mono (by omega),h3⟩
 ·obtain ⟨k,ci,fI,fd,ps,Bx,nwI,iniI,bmB,h1,h2,h3,h4,h5⟩:=Pg.rs i y hy hz
  exact ⟨lv,k,ci,fI,fd,ps,Bx,nwI,iniI,bmB,h1,h2,h3.to,h4,hr.mono (by omega),h5⟩
theorem m8 (Pg:tD T X ad lv) {j:Nat} {f:Addr} (h:ad[j]? = some f) {cal:Nat→List D→List O→Res} (no:∀ ds st,cal j ds st = .bad) (m:Nat):bJ X cal m j f:=by
 obtain ⟨x,qual,st,fd,fn,mu,al,fc,oc,Fu,b,_⟩:=Pg.fns j f h
 exact ⟨fd,_,⟨fun ds st nb=>absurd (no ds st) nb,fun A fr z args us ds _ _ _ _ nb=>absurd (no ds _) nb⟩,b,Fu.kp⟩
theorem jX (Pg:tD T X ad lv):∀ (n j:Nat) (f:Addr),ad[j]? = some f→bJ X (aa X.Γ n) (lv+1+n) j f
 | 0,j,f,h=>m8 Pg h (fun _ _=>rfl) _
 | n+1,j,f,h=>pT Pg n (jX Pg n) (fun i g hg=>by
   match n with
   | 0=>exact ⟨0,by omega,m8 Pg hg (fun _ _=>rfl) _⟩
   | n'+1=>exact ⟨lv+1+n',by omega,jX Pg n' i g hg⟩) h
end
theorem lr {vs:List Value} {ns:List Int} (h:IntsAre vs ns):RDs W ρ G (ns.map D.int) vs:=by
 induction h with
 | nil=>exact rfl
 | cons n t h ih=>exact .cons ⟨t,rfl⟩ ih
theorem rA {X:Cx} {Γ:Gm} {n j k:Nat} {fa a:Addr} {s₁:Shared} {vs:List Value} {ns:List Int} (md:Mod X.K X.mg X.base) (hb:X.base=s₁.heap) (os:X.os=s₁.os) (hc:X.calm=true) (hg:s₁.gens = #[])
 (ha:s₁.heap.get? a=some { cls:=.type "list",data:=.seq vs.toArray }) (hi:IntsAre vs ns) (hl:ns.length≤sizeLine) (hr:bc k callerA)
 (F:bJ X (aa Γ n) k j fa) (hlaw:∃ st',aa Γ n j [.lst (ns.map .int)] [] = .ok (.bl true) st') :
 codeAny X.M callerA (.call (.ref fa) ⟨[.ref a],[]⟩) (fun r s'=>r = .ok (.ret (.bool true))∧OldK s₁.heap s'.heap∧s'.os=s₁.os∧AllBare s'.gens) s₁:=by
 obtain ⟨st',e⟩:=hlaw
 obtain ⟨fd,ps,F,hbd,_⟩:=F
 have hp:=F.len [.lst (ns.map .int)] [] (by rw [e];exact fun z=>nomatch z)
 have nm:∀ {b},¬ Mu ([]:Rs) b:=fun ⟨p,m,_⟩=>nomatch m
 have I:HR { X with A:=callerA,fr:=[] } ⟨[],s₁.heap.get?,⟨[],[],[]⟩,[],s₁⟩:=⟨md,rfl,fun _=>hr.hd,(fun b o e=>by rw [hb] at e;exact e),.refl _,rfl,(fun i j p q b h=>by simp at h),fun b m=>(nm m).elim,(fun n o p h=>by simp at h),trivial,(fun b m=>nomatch m),(by show AllBare s₁.gens;rw [hg];exact fun g h=>by simp at h),os.symm⟩
 refine codeAny_mono (F.run callerA [] ⟨[],s₁.heap.get?,⟨[],[],[]⟩,[],s₁⟩ ⟨[.ref a],[]⟩ [.ref a] [.lst (ns.map .int)] hr I (hbd s₁ [.ref a] (hb ▸ md.kin) hp) (.cons ⟨a,_,vs,rfl,ha,⟨⟨_,rfl⟩,by rw [hi.length];exact hl⟩,lr hi⟩ rfl) (by rw [e];exact fun z=>nomatch z)) fun r s' hq=>?_
 rw [e] at hq
 cases r with
 | error u=>obtain ⟨_,_,_,_,z,_⟩:=hq;cases z
 | ok fl=>cases fl with
   | ret u=>
     obtain ⟨z',d,q1,q2,S,H,rd⟩:=hq
     subst q1
     cases q2
     cases (show u=Value.bool true from rd)
     have keep:∀ b o,s₁.heap.get? b=some o→z'.s.heap.get? b=some o:=fun b o e=>S.sm b o e nm (fun z=>z) (fun m=>nomatch m)
     exact ⟨rfl,OldK.of_keep keep,H.os.trans os,H.br⟩
   | _=>exact hq.elim
theorem vA {l:PySem.W.OpenLaw} {n k lv:Nat} {q:Program} {loose:List Str} {XP:(Str→Option Value)→Heap→Prop} {YP:World→Heap→Prop} {d:DefRec} {K:Params→Fg} {j:Nat} {Γ:Gm}
 (hn:l.most=some n) (hn2:n≤sizeLine) (hdf:d.params.defaults = []) (hr:bc lv callerA) (hY:∀ (w:World) (h:Heap),YP w h→(K w.params).In h)
 (F:∀ (w:World) (mg:Str→Option Value) (fa:Addr) (h:Heap) (os:OsState),(K w.params).In h→h.Ns mainGlobals mg→mg d.name=some (.ref fa)→Mod (K w.params) mg h →
  ∃ X:Cx,X.W.P=l.prog∧X.W.w=w∧X.K=K w.params∧X.mg=mg∧X.base=h∧X.os=os∧X.calm=true∧bJ X (aa Γ k) lv j fa)
 (hlaw:∀ ns:List Int,ns.length≤n→∃ st',aa Γ k j [.lst (ns.map .int)] [] = .ok (.bl true) st'):PySem.W.WalkO q loose XP YP l.row.toRowW d [] (fun f vs=>PySem.call f vs):=by
 refine Att.attach_call hn hdf fun w s₀ s₁ mg mb fa o pm cd doc a vs ns G Y ho hd hcd hmg hobj hints hlen hg=>?_
 have KX:=hY w _ Y
 have md:Mod (K w.params) mg s₁.heap:=⟨KX,G.T.g,⟨mb,G.T.b,G.T.builtins⟩,G.T.nolimit⟩
 obtain ⟨X,e1,e2,e3,e4,e5,e6,e7,hF⟩:=F w mg fa s₁.heap s₁.os KX G.T.g hmg md
 have:=rA (X:=X) (by rw [e3,e4,e5];exact md) e5 e6 e7 hg hobj hints (Nat.le_trans hlen hn2) hr hF (hlaw ns hlen)
 rw [show X.M=model l.prog w by show model X.W.P X.W.w=_;rw [e1,e2]] at this
 exact this
def FnF (T:Ns) (K:Fg) (Γ:Gm) (j:Nat) (f:Addr):Prop:=∃ x qual st fd fn mu al fc oc,Fun K x qual st f fd∧b6 K fd (bz st) []∧dy (kR st) (bz st) (au st)∧Γ.fn[j]? = some fn∧gc { T with mu:=mu,alt:=al,fc:=fc,oc:=oc } st=some fn
theorem kS:∀ {ps:List Str} {us:List Value},ps.Nodup→us.length=ps.length→ps.filterMap (fun n=>((ps.zip us).lookup n).map (n,·))=ps.zip us
 | [],[],_,_=>rfl
 | p :: ps,u :: us,nd,hl=>by
   have ih:=kS (List.nodup_cons.mp nd).2 (by simpa using hl)
   rw [List.filterMap_cons]
   simp only [List.zip_cons_cons,List.lookup_cons,beq_self_eq_true,Option.map_some]
   congr 1
   have:∀ l:List Str,(∀ n∈l,n∈ps)→l.filterMap (fun n=>((match n == p with | true=>some u | false=>(ps.zip us).lookup n).map fun x=>(n,x)))=l.filterMap fun n=>((ps.zip us).lookup n).map fun x=>(n,x):=fun l=>by
    induction l with
    | nil=>intro _;rfl
    | cons n l ih=>
      intro h
      have q:(n == p)=false:=beq_eq_false_iff_ne.mpr fun e=>(List.nodup_cons.mp nd).1 (e ▸ h n List.mem_cons_self)
      rw [List.filterMap_cons,List.filterMap_cons,ih fun m hm=>h m (List.mem_cons_of_mem _ hm),q]
   exact (this ps fun _ h=>h).trans ih
 | [],_ :: _,_,hl=>by simp at hl
 | _ :: _,[],_,hl=>by simp at hl
theorem pK:∀ {ps:List Str} {us:List Value},us.length=ps.length→(ps.filter fun n=>((ps.zip us).lookup n).isNone) = []:=by
 intro ps us hl
 rw [List.filter_eq_nil_iff]
 intro n hn
 have:((ps.zip us).lookup n).isSome=true:=by
  induction ps generalizing us with
  | nil=>cases hn
  | cons p ps ih=>
    cases us with
    | nil=>simp at hl
    | cons u us=>
      rw [List.zip_cons_cons,List.lookup_cons]
      cases e:n == p with
      | true=>rfl
      | false=>
        rcases List.mem_cons.mp hn with q | q
        ·subst q;simp at e
        ·exact ih (by simpa using hl) q
 cases e:(ps.zip us).lookup n with
 | none=>rw [e] at this;cases this
 | some v=>simp
theorem lX {p:Arguments} {x q:Str} {body:List Stmt} {sc:Scope} {kV doc pm cd ct:Value} {an:Option Addr} {us:List Value} (h1:p.posonlyargs = []) (h2:p.kwonlyargs = []) (h3:p.vararg=none) (h4:p.kwarg=none) (nd:(p.args.map (·.arg)).Nodup) (hl:us.length=(p.args.map (·.arg)).length) :
 bindArgs (PySem.W.fnOf x q p body sc .none kV doc pm an cd ct) ⟨us,[]⟩=pure ((p.args.map (·.arg)).zip us):=by
 have e1:=pK hl
 have e2:=kS nd hl
 obtain ⟨a1,a2,a3,a4,a5,a6,a7⟩:=p
 cases h1;cases h2;cases h3;cases h4
 refine Eq.trans (if_neg (c:=((decide (us.length>(a2.map (·.arg)).length)) && true)=true) ?_) ?_
 ·rw [hl];simp
 refine Eq.trans (if_neg ?_) ?_
 ·show ¬ (!((a2.map (·.arg)).take ((a2.map (·.arg)).length - (List.drop (0 - (a2.map (·.arg)).length) ([]:List Value)).length) |>.filter fun n=>(((a2.map (·.arg)).zip us).lookup n).isNone).isEmpty)=true
  rw [List.drop_nil,List.length_nil,Nat.sub_zero,List.take_length,e1];exact fun h=>nomatch h
 have e3:∀ n:Nat,List.drop n ([]:List Value) = []:=fun _=>List.drop_nil
 show (forIn ((List.drop ((List.map Arg.arg a2).length - (List.drop (0 - (List.map Arg.arg a2).length) ([]:List Value)).length) (List.map Arg.arg a2)).zip (List.drop (0 - (List.map Arg.arg a2).length) ([]:List Value))) _ _ >>= _)=_
 rw [e3,List.zip_nil_right]
 show (pure ((List.map Arg.arg a2 ++ []).filterMap fun n=>(((List.map Arg.arg a2).zip us).lookup n).map (n,·)):Sem _)=_
 rw [List.append_nil]
 exact congrArg pure e2
def fnC (st:Stmt):Bool:=(bj st).posonlyargs.isEmpty && (bj st).kwonlyargs.isEmpty && (bj st).vararg.isNone && (bj st).kwarg.isNone && (match (au st).kind with | .function=>true | _=>false) && !(au st).isCoroutine && !(au st).isGenerator &&
 decide ((kR st).Nodup∧(kR st).take (bz st).length=bz st∧(∀ x∈bz st,(au st).names.lookup x=some .local∨(au st).names.lookup x=some .cell)∧∀ y∈(au st).names,y.2≠.free)
theorem qJ {st:Stmt} (h:fnC st=true):dy (kR st) (bz st) (au st)∧∀ {K:Fg} {x q:Str} {f:Addr} {fd:FuncData},Fun K x q st f fd→b6 K fd (bz st) []:=by
 unfold fnC at h
 simp only [Bool.and_eq_true,decide_eq_true_eq,Bool.not_eq_true',List.isEmpty_iff,Option.isNone_iff_eq_none] at h
 obtain ⟨⟨⟨⟨⟨⟨⟨h1,h2⟩,h3⟩,h4⟩,h5⟩,h6⟩,h7⟩,h8,h9,h10,h11⟩:=h
 have nd:(bz st).Nodup:=h9 ▸ h8.sublist (List.take_sublist _ _)
 refine ⟨⟨(by split at h5 <;> first | assumption | cases h5),h6,h7,h8,h9,h10,h11⟩,fun F=>F.binds fun _ _ _ _ _ _ us hl=>lX h1 h2 h3 h4 nd hl⟩
def cT (T:Ns) (st:Stmt):Fn:=(gc T st).getD ⟨0,0,.skip⟩
def FsL (K:Fg):List (Str×Str×Stmt)→List Addr→Prop
 | [],[]=>True
 | p :: r,f :: fs=>(∃ fd,Fun K p.1 p.2.1 p.2.2 f fd)∧FsL K r fs
 | _,_=>False
theorem FsL.app {K:Fg}:∀ {l l' fs fs'},FsL K l fs→FsL K l' fs'→FsL K (l ++ l') (fs ++ fs')
 | [],_,[],_,_,h=>h
 | _ :: _,_,_ :: _,_,h,t=>⟨h.1,FsL.app h.2 t⟩
 | [],_,_ :: _,_,h,_=>h.elim
 | _ :: _,_,[],_,h,_=>h.elim
theorem FsL.len {K:Fg}:∀ {l fs},FsL K l fs→fs.length=l.length
 | [],[],_=>rfl
 | _ :: _,_ :: _,h=>congrArg (· + 1) h.2.len
 | [],_ :: _,h=>h.elim
 | _ :: _,[],h=>h.elim
theorem FsL.at {K:Fg}:∀ {l fs} {j:Nat} {f:Addr},FsL K l fs→fs[j]? = some f→∃ p fd,l[j]? = some p∧Fun K p.1 p.2.1 p.2.2 f fd
 | [],[],j,f,_,e=>by simp at e
 | p :: l,g :: fs,0,f,h,e=>by simp at e;subst e;obtain ⟨fd,F⟩:=h.1;exact ⟨p,fd,rfl,F⟩
 | p :: l,g :: fs,j+1,f,h,e=>FsL.at (j:=j) h.2 (by simpa using e)
 | [],_ :: _,_,_,h,_=>h.elim
 | _ :: _,[],_,_,h,_=>h.elim
theorem wV {T:Ns} {ad:List Addr} {K:Fg} {Γ:Gm} {l:List (Str×Str×Stmt)} {vs:List (List Str×List (Str×Nat)×List Str×List Str)} (hl:l.length=vs.length) (hΓ:Γ.fn=(l.zip vs).map fun p=>cT { T with mu:=p.2.1,alt:=p.2.2.1,fc:=p.2.2.2.1,oc:=p.2.2.2.2 } p.1.2.2) (hc:((l.zip vs).all fun p=>fnC p.1.2.2 && (gc { T with mu:=p.2.1,alt:=p.2.2.1,fc:=p.2.2.2.1,oc:=p.2.2.2.2 } p.1.2.2).isSome)=true) (h:FsL K l ad) {j:Nat} {f:Addr} (e:ad[j]? = some f):FnF T K Γ j f:=by
 obtain ⟨p,fd,e1,F⟩:=h.at e
 have hj:j<vs.length:=hl ▸ (List.getElem?_eq_some_iff.mp e1).1
 have e2:(l.zip vs)[j]? = some (p,vs[j]):=List.getElem?_zip_eq_some.mpr ⟨e1,List.getElem?_eq_getElem hj⟩
 have c:=List.all_eq_true.mp hc _ (List.mem_of_getElem? e2)
 rw [Bool.and_eq_true] at c
 obtain ⟨S,B⟩:=qJ c.1
 refine ⟨_,_,_,fd,cT { T with mu:=vs[j].1,alt:=vs[j].2.1,fc:=vs[j].2.2.1,oc:=vs[j].2.2.2 } p.2.2,vs[j].1,vs[j].2.1,vs[j].2.2.1,vs[j].2.2.2,F,B F,S,by rw [hΓ,List.getElem?_map,e2];rfl,?_⟩
 cases q:gc { T with mu:=vs[j].1,alt:=vs[j].2.1,fc:=vs[j].2.2.1,oc:=vs[j].2.2.2 } p.2.2 with
 | none=>have:=c.2;dsimp only at this;rw [q] at this;exact nomatch this
 | some g=>unfold cT;rw [q];rfl
def fY (K:Fg):List (Str×Stmt)→Prop
 | []=>True
 | p :: r=>(∃ f fd,Fun K p.1 p.1 p.2 f fd∧PySem.W.nsIn K mainGlobals p.1=some (some (.ref f)))∧fY K r
theorem hl_cons {K:Fg} {x:Str} {st:Stmt} {f:Addr} {od an:Option Addr} {sl:Array (Option Value)} {oc kV dc pm cd ct:Value} (a:PySem.W.nsIn K mainGlobals x=some (some (.ref f)))
 (l:K.lookup f=some ⟨oc,od,.func (PySem.W.fnOf x x (bj st) (bX st) (au st) .none kV dc pm an cd ct),sl⟩) (c:PySem.W.codeIn K cd x=true) (k:PySem.W.keepIn K (.ref f)=true) (t:fY K r):fY K ((x,st) :: r):=⟨⟨f,_,mh l c k,a⟩,t⟩
def wA (mg:Str→Option Value):List Str→List Addr→Prop
 | [],_=>True
 | x :: xs,f :: fs=>mg x=some (.ref f)∧wA mg xs fs
 | _ :: _,[]=>False
theorem fY.ad {K:Fg} {h:Heap} {mg:Str→Option Value} (Y:K.In h) (G:h.Ns mainGlobals mg):∀ {l},fY K l→∃ ad,FsL K (l.map fun p=>(p.1,p.1,p.2)) ad∧wA mg (l.map (·.1)) ad
 | [],_=>⟨[],trivial,trivial⟩
 | _ :: _,⟨⟨f,fd,F,n⟩,t⟩=>let ⟨ad,h1,h2⟩:=fY.ad Y G t;⟨f :: ad,⟨⟨fd,F⟩,h1⟩,PySem.W.mg_of Y G n,h2⟩
theorem fZ {ad ms:List Addr} (h:ad.length=n):(ad ++ ms)[n+k]? = ms[k]?:=by rw [List.getElem?_append_right (by omega)];congr 1;omega
theorem ql :∀ {xs} {fs} {j:Nat} {x:Str},wA mg xs fs→xs[j]? = some x→∃ f,fs[j]? = some f∧mg x=some (.ref f)
 | [],_,_,_,_,e=>by simp at e
 | y :: xs,f :: fs,0,x,h,e=>by simp at e;subst e;exact ⟨f,rfl,h.1⟩
 | y :: xs,f :: fs,j+1,x,h,e=>by
   obtain ⟨g,h1,h2⟩:=ql (j:=j) h.2 (by simpa using e)
   exact ⟨g,by simpa using h1,h2⟩
 | _ :: _,[],_,_,h,_=>h.elim
def eO {α:Type} (P:Nat→α→Prop):Nat→List α→Prop
 | _,[]=>True
 | j,x :: r=>P j x∧eO P (j+1) r
theorem vD :∀ {l:List α} {j i} {x:α},eO P j l→l[i]? = some x→P (j+i) x
 | [],_,i,_,_,e=>by simp at e
 | g :: r,j,0,f,h,e=>by simp at e;subst e;exact h.1
 | g :: r,j,i+1,f,h,e=>by
   have:=vD (i:=i) h.2 (by simpa using e)
   rw [show j+(i+1)=j+1+i by omega];exact this
theorem dN (h:eO P 0 l) (e:l[i]? = some x):P i x:=by
 have:=vD h e
 rwa [Nat.zero_add] at this
def oX (K:Fg) (C:Addr) (m qn:Str) (st:Stmt) (f:Addr):Prop:=(∃ fd,Fun K m qn st f fd)∧yW K C m f
theorem me_mk {K:Fg} {C f:Addr} {m qn:Str} {st:Stmt} {od an:Option Addr} {sl:Array (Option Value)} {oc kV dc pm cd ct:Value} (at_:PySem.W.findIn K (.ref C) m=some (some (.ref f))) (l:K.lookup f=some ⟨oc,od,.func (PySem.W.fnOf m qn (bj st) (bX st) (au st) .none kV dc pm an cd ct),sl⟩) (fn:PySem.W.isFn K (.ref f)=true) (c:PySem.W.codeIn K cd qn=true) (k:PySem.W.keepIn K (.ref f)=true):oX K C m qn st f:=⟨⟨_,mh l c k⟩,at_,fn,k⟩
structure yU (K:Fg) (x:Str) (C:Addr):Prop where
 a:PySem.W.nsIn K mainGlobals x=some (some (.ref C))
 cls:Cls K C
 mks:PySem.W.makesIn K C=true
 kp:PySem.W.keepIn K (.ref C)=true
theorem cc_mk {K:Fg} (a:PySem.W.nsIn K mainGlobals x=some (some (.ref C))) (pg:PySem.W.plainGet K C Str.empty=true) (hd:PySem.W.hasDictIn K C=true) (po:PySem.W.plainOver K C=true) (sa:PySem.W.findIn K (.ref C) "__setattr__" = some (some (.builtin "object.__setattr__"))) (mk:PySem.W.makesIn K C=true) (kp:PySem.W.keepIn K (.ref C)=true):yU K x C:=⟨a,⟨pg,hd,po,sa⟩,mk,kp⟩
structure tE (K:Fg) (x qn:Str) (st:Stmt) (bmB:List Value) (nw:String) (C fI:Addr):Prop where
 a:PySem.W.nsIn K mainGlobals x=some (some (.ref C))
 own:ie K C fI bmB nw
 ini:∃ fd,Fun K "__init__" qn st fI fd
 st:fX K C
 fd:dQ K C
 hh:PySem.W.hasDictIn K C=true
 ec:mS K C
 kp:PySem.W.keepIn K (.ref C)=true
 me:PySem.W.mroIn K C (.ref C)=some true
theorem xc_mk {K:Fg} {x qn:Str} {st:Stmt} {bmB:List Value} {nw:String} {C fI:Addr} {nm q:Str} {N:Addr} {bs bm:List Value} {hdct:Bool} {sn:List Str} {sub:List Value} {ab:Bool} {col:Option Bool} {dd:Option Addr} {k0 k1 k2 k3 k5:Option Value} {od an:Option Addr} {sl:Array (Option Value)} {oc kV dc pm cd ct:Value}
 (a:PySem.W.nsIn K mainGlobals x=some (some (.ref C))) (l:K.lookup C=some (excClassObj nm q C N bs bm hdct sn sub ab col dd k0 k1 k2 k3 k5 nw)) (t:PySem.W.tailIn K bmB bm=true) (ini:PySem.W.findIn K (.ref C) "__init__" = some (some (.ref fI))) (fl:K.lookup fI=some ⟨oc,od,.func (PySem.W.fnOf "__init__" qn (bj st) (bX st) (au st) .none kV dc pm an cd ct),sl⟩) (fn:PySem.W.isFn K (.ref fI)=true) (fc:PySem.W.codeIn K cd qn=true) (fk:PySem.W.keepIn K (.ref fI)=true)
 (ga:PySem.W.findIn K (.ref C) "__getattribute__" = some (some (.builtin "BaseException.__getattribute__"))) (gn:PySem.W.findIn K (.ref C) "__getattr__" = some none) (cl:PySem.W.findIn K (.ref C) "__class__" = some (some (.builtin "object.__class__"))) (sg:PySem.W.specialIn K (.builtin "object.__class__") "__get__" = some (some (.builtin "getset_descriptor.__get__"))) (tk:PySem.W.takesIn K (.builtin "object.__class__")=some true) (ob:PySem.W.mroIn K C (.type "object")=some true) (be:PySem.W.mroIn K C (.type "BaseException")=some true)
 (is:(PySem.W.clsIn K C).isSome=true) (kp:PySem.W.keepIn K (.ref C)=true) (tyC:PySem.W.typeIn K (.ref C)=some (.type "type")) (sa:PySem.W.findIn K (.ref C) "__setattr__" = some (some (.builtin "object.__setattr__"))) (ov:((PySem.W.clsIn K C).any fun cd=>gU veB cd.mro || gU exB cd.mro)=true) (hdc:((PySem.W.clsIn K C).any fun cd=>cd.hasDict)=true) (hh:PySem.W.hasDictIn K C=true) (me:PySem.W.mroIn K C (.ref C)=some true):tE K x qn st bmB nw C fI:=
 ⟨a,⟨⟨nm,q,N,bs,bm,hdct,sn,sub,ab,col,dd,k0,k1,k2,k3,k5,l,t⟩,ini,fn⟩,⟨_,mh fl fc fk⟩,⟨sa,ov,hdc,ob⟩,⟨ga,gn,cl,sg,tk,ob,be,is⟩,hh,⟨tyC,is,be⟩,kp,me⟩
def jsC (N:List Str) (nm:NK) (ck:List Nat):(es:List Expr)→Option (PLift (∀ X:Cx,X.N=N→X.env.scope.names=nm→JsP X ck es))
 | []=>some ⟨fun _ _ _=>.nil⟩
 | .Constant (.str x) _ _ :: r=>match h:decide (x.length≤1000) with
   | true=>(jsC N nm ck r).map fun ih=>⟨fun X hN hs=>.c (of_decide_eq_true h) (ih.down X hN hs)⟩
   | false=>none
 | .FormattedValue (.Name x _) (.negSucc 0) none _ :: r=>match h:(ck.any fun i=>decide (N[i+1]? = some x)) && cE nm x && !((x == ("__debug__":Str)) || (x == ("__classdict__":Str))) with
   | true=>(jsC N nm ck r).map fun ih=>⟨fun X hN hs=>by
     simp only [Bool.and_eq_true,List.any_eq_true,decide_eq_true_eq,Bool.not_eq_true'] at h
     obtain ⟨⟨⟨i,h1,h2⟩,h3⟩,h4⟩:=h
     exact .f h1 (hN ▸ h2) (bt hs h3) h4 (ih.down X hN hs)⟩
   | false=>none
 | _=>none
def bsP (bs:Option (Str×List Nat)):Option {q:Str×List Nat // bs=some q}:=match bs with
 | some q=>some ⟨q,rfl⟩
 | none=>none
def wZ (N:List Str) (nm:NK) (bs:Option (Str×List Nat)):(b:List Stmt)→(l:List (Str×Nat))→Option (PLift (∀ X:Cx,X.N=N→X.env.scope.names=nm→(∀ b c,bs=some (b,c)→∃ B,X.mg b=some (.ref B)∧ka X.K B)→kb X (bs.map (·.2)) b l))
 | [],[]=>some ⟨fun _ _ _ _=>.nil⟩
 | .Assign [.Attribute (.Name s0 _) f _] (.Name x _) _ :: r,(g,i) :: l=>match h:decide (f=g∧N[0]? = some s0∧N[i]? = some x) && cE nm s0 && cE nm x && !((s0 == ("__debug__":Str)) || (s0 == ("__classdict__":Str)) || (x == ("__debug__":Str)) || (x == ("__classdict__":Str))) with
   | true=>(wZ N nm bs r l).map fun ih=>⟨fun X hN hs hB=>by
     simp only [Bool.and_eq_true,decide_eq_true_eq,Bool.not_eq_true'] at h
     obtain ⟨⟨⟨⟨rfl,h1,h2⟩,h3⟩,h4⟩,h5⟩:=h
     exact .cons (hN ▸ h1) (hN ▸ h2) (bt hs h3) (bt hs h4) h5 (ih.down X hN hs hB)⟩
   | false=>none
 | .Expr (.Call (.Attribute (.Name Bn _) m ap) [.Name s0 _,.JoinedStr (e1 :: e2 :: es) _] [] cp) _ :: r,l=>(bsP bs).bind fun q=>match h:decide (Bn=q.1.1∧m = "__init__"∧N[0]? = some s0∧es.length≤50) && cE nm s0 && cf nm Bn && !((s0 == ("__debug__":Str)) || (s0 == ("__classdict__":Str)) || (Bn == ("__debug__":Str))) && (ap.endLine == cp.line) with
   | true=>(jsC N nm q.1.2 (e1 :: e2 :: es)).bind fun js=>(wZ N nm bs r l).map fun ih=>⟨fun X hN hs hB=>by
     obtain ⟨⟨b,ck⟩,hb⟩:=q
     subst hb
     simp only [Bool.and_eq_true,decide_eq_true_eq,Bool.not_eq_true'] at h
     obtain ⟨⟨⟨⟨⟨rfl,rfl,h1,h2⟩,h3⟩,h4⟩,h5⟩,h6⟩:=h
     obtain ⟨B,h9,h10⟩:=hB _ _ rfl
     exact .base rfl (hN ▸ h1) (bt hs h3) h5 (bB hs h4) h9 h10 (js.down X hN hs) h2 h6 (ih.down X hN hs hB)⟩
   | false=>none
 | _,_=>none
def dtC (st:Stmt) (nm:List Str) (bs:Option (Str×List Nat)):Bool:=fnC st && decide (kR st=bz st∧(bz st).length=nm.length+1∧nm.Nodup∧nm.length<900) && (wZ (bz st) (au st).names bs (bX st) (nm.zip (List.range' 1 nm.length))).isSome
theorem eR {X:Cx} {x qual:Str} {st:Stmt} {f:Addr} {fd:FuncData} {nm:List Str} (bs:Option (Str×List Nat)) (F:Fun X.K x qual st f fd) (h:dtC st nm bs=true) (hB:∀ b c,bs=some (b,c)→∃ B,X.mg b=some (.ref B)∧ka X.K B:=by nofun):FnI X 1 f fd (bz st) nm (bs.map (·.2))∧b6 X.K fd (bz st) []:=by
 unfold dtC at h
 simp only [Bool.and_eq_true,decide_eq_true_eq] at h
 obtain ⟨⟨h1,h2,h3,h4,h5⟩,h6⟩:=h
 obtain ⟨h6,_⟩:=Option.isSome_iff_exists.mp h6
 obtain ⟨S,B⟩:=qJ h1
 rw [h2] at S
 refine ⟨?_,B F⟩
 obtain ⟨oc,od,kV,doc,pm,an,cd,ct,osl,rfl,lk,hcd⟩:=F.ex
 exact wT (k:=0) lk hcd S h3 h4 h5 rfl fun A fr L=>h6.down (cxF X X.cal X.cal1 (bz st) qual (au st) f cd A fr L) rfl rfl hB
structure wD (K:Fg) (x:Str) (C:Addr):Prop where
 a:PySem.W.nsIn K mainGlobals x=some (some (.ref C))
 fd:dQ K C
 hh:PySem.W.hasDictIn K C=true
 ec:mS K C
theorem xb_mk {K:Fg} {x:Str} {C:Addr} (a:PySem.W.nsIn K mainGlobals x=some (some (.ref C))) (ga:PySem.W.findIn K (.ref C) "__getattribute__" = some (some (.builtin "BaseException.__getattribute__"))) (gn:PySem.W.findIn K (.ref C) "__getattr__" = some none) (cl:PySem.W.findIn K (.ref C) "__class__" = some (some (.builtin "object.__class__"))) (sg:PySem.W.specialIn K (.builtin "object.__class__") "__get__" = some (some (.builtin "getset_descriptor.__get__"))) (tk:PySem.W.takesIn K (.builtin "object.__class__")=some true) (ob:PySem.W.mroIn K C (.type "object")=some true) (be:PySem.W.mroIn K C (.type "BaseException")=some true)
 (is:(PySem.W.clsIn K C).isSome=true) (tyC:PySem.W.typeIn K (.ref C)=some (.type "type")) (hh:PySem.W.hasDictIn K C=true):wD K x C:=⟨a,⟨ga,gn,cl,sg,tk,ob,be,is⟩,hh,⟨tyC,is,be⟩⟩
def GlL (K:Fg):List (Str×L2.Bk.Dk)→Prop
 | []=>True
 | p :: r=>(∃ u,PySem.W.nsIn K mainGlobals p.1=some (some u)∧aR K p.2 u=true)∧GlL K r
theorem gl_cons {K:Fg} (a:PySem.W.nsIn K mainGlobals x=some (some u)) (b:aR K d u=true) (t:GlL K r):GlL K ((x,d) :: r):=⟨⟨u,a,b⟩,t⟩
theorem GlL.at {K:Fg}:∀ {l} {j:Nat} {x:Str},GlL K l→(l.map (·.1))[j]? = some x→∃ d u,(l.map (·.2))[j]? = some d∧PySem.W.nsIn K mainGlobals x=some (some u)∧aR K d u=true
 | [],_,_,_,e=>by simp at e
 | p :: _,0,_,⟨⟨u,h⟩,_⟩,e=>by simp at e;subst e;exact ⟨_,u,rfl,h⟩
 | _ :: _,j+1,_,h,e=>GlL.at (j:=j) h.2 (by simpa using e)
def lV (K:Fg):List (Str×List (Str×L2.Bk.Dk))→Prop
 | []=>True
 | p :: r=>(∃ a,PySem.W.nsIn K mainGlobals p.1=some (some (.ref a))∧KTD.tabLook (aR K) (fun b=>K.lookup b) a p.2=true)∧lV K r
theorem tb_cons {K:Fg} {u:Addr} {d:List (Str×L2.Bk.Dk)} (a:PySem.W.nsIn K mainGlobals x=some (some (.ref u))) (b:KTD.tabLook (aR K) (fun b=>K.lookup b) u d=true) (t:lV K r):lV K ((x,d) :: r):=⟨⟨u,a,b⟩,t⟩
theorem lV.at {K:Fg}:∀ {l} {j:Nat} {x:Str},lV K l→(l.map (·.1))[j]? = some x→∃ t a,(l.map (·.2))[j]? = some t∧PySem.W.nsIn K mainGlobals x=some (some (.ref a))∧KTD.tabLook (aR K) (fun b=>K.lookup b) a t=true
 | [],_,_,_,e=>by simp at e
 | p :: _,0,_,⟨⟨u,h⟩,_⟩,e=>by simp at e;subst e;exact ⟨_,u,rfl,h⟩
 | _ :: _,j+1,_,h,e=>lV.at (j:=j) h.2 (by simpa using e)
def NoL (K:Fg):List Str→Prop
 | []=>True
 | x :: r=>PySem.W.nsIn K mainGlobals x=some none∧NoL K r
theorem nl_cons {K:Fg} (a:PySem.W.nsIn K mainGlobals x=some none) (t:NoL K r):NoL K (x :: r):=⟨a,t⟩
theorem NoL.at {K:Fg}:∀ {l},NoL K l→∀ x∈l,PySem.W.nsIn K mainGlobals x=some none
 | _ :: _,h,_,m=>(List.mem_cons.mp m).elim (fun e=>e ▸ h.1) (h.2.at _)
def NaL (K:Fg) (C:Addr):List Str→Prop
 | []=>True
 | x :: r=>PySem.W.findIn K (.ref C) x=some none∧NaL K C r
theorem NaL.at {K:Fg}:∀ {l},NaL K C l→∀ x∈l,PySem.W.findIn K (.ref C) x=some none
 | _ :: _,h,_,m=>(List.mem_cons.mp m).elim (fun e=>e ▸ h.1) (h.2.at _)
def MrL (K:Fg):List (Str×Str×Bool)→Prop
 | []=>True
 | p :: r=>(∃ C D:Addr,PySem.W.nsIn K mainGlobals p.1=some (some (.ref C))∧PySem.W.nsIn K mainGlobals p.2.1=some (some (.ref D))∧PySem.W.mroIn K C (.ref D)=some p.2.2)∧MrL K r
theorem mr_cons {K:Fg} {C D:Addr} {m n:Str} {o:Bool} (a:PySem.W.nsIn K mainGlobals m=some (some (.ref C))) (b:PySem.W.nsIn K mainGlobals n=some (some (.ref D))) (c:PySem.W.mroIn K C (.ref D)=some o) (t:MrL K r):MrL K ((m,n,o) :: r):=⟨⟨C,D,a,b,c⟩,t⟩
theorem MrL.at {K:Fg} {C D:Addr} {m n:Str} {o:Bool}:∀ {l},MrL K l→(m,n,o)∈l→PySem.W.nsIn K mainGlobals m=some (some (.ref C))→PySem.W.nsIn K mainGlobals n=some (some (.ref D))→PySem.W.mroIn K C (.ref D)=some o
 | p :: r,⟨⟨C',D',a,b,c⟩,t⟩,h,e1,e2=>by
   rcases List.mem_cons.mp h with q | q
   ·subst q
    rw [e1] at a;cases a
    rw [e2] at b;cases b
    exact c
   ·exact MrL.at t q e1 e2
def KOf {K:Fg} {h:Heap} (_:K.In h):Fg:=K
theorem Bo {Γ:Gm} {cal cal1:Nat→List D→List O→Res}:ev Γ cal cal1 br (.v i) s=(match s.env[i]? with | some (some d)=>.ok d (if br then s else un s i) | _=>.bad):=rfl
inductive IT where
 | fin (o:ao)
 | call (j:Nat) (ds:List D) (st:List O) (k:Res→IT)
 | call1 (j:Nat) (ds:List D) (st:List O) (k:Res→IT)
 | test (b:Bool) (k:Bool→IT)
 | opt (o:Option D) (k:D→IT)
 | sub (o:Out D) (k:D→Sta→IT)
 | subS (o:ao) (k:ao→IT)
def IT.bad:IT:=.fin .bad
def lcT (g:D→Sta→(Option D→Sta→IT)→IT):List D→List D→Sta→(D→Sta→IT)→IT
 | [],acc,s,k=>k (.lst acc) s
 | d :: r,acc,s,k=>g d s fun o s'=>match o with
   | some e=>.test (decide (acc.length<100000)) fun t=>if t then lcT g r (acc ++ [e]) s' k else .bad
   | none=>lcT g r acc s' k
def wU (g:D→Sta→(Sta→IT)→IT):List D→Sta→(Sta→IT)→IT
 | [],s,k=>k s
 | d :: r,s,k=>g d s fun s=>wU g r s k
def rj (st:List O) (p c:Nat):Bool:=match st[p]? with | some (.ins c' _)=>c' == c | _=>false
def wW (x y:D) (z:D):Option D:=match x,bI y with | .dic ks ds,some k=>some ((bG ks ds k).getD z) | _,_=>none
def o7 (es:E) (s:Sta) (d:D) (st:List O) (k:D→Sta→IT):IT:=if s.ow.any fun i=>(bF es).contains i then .test (noL d && st.all lb) fun t=>k d ⟨s.env,s.ow.filter fun i=>!(bF es).contains i || (isLst s.env[i]? && t),st⟩ else k d (aft es s d st)
section
variable (Γ:Gm) (cal cal1:Nat→List D→List O→Res) (lp:Bool)
mutual
noncomputable def evT (br:Bool):E→Sta→(D→Sta→IT)→(Nat→List D→Sta→IT)→IT
 | .v i,s,k,kx=>(match s.env[i]? with | some (some d)=>k d (if br then s else un s i) | _=>.bad)
 | .c d,s,k,kx=>k d s
 | .g j,s,k,kx=>(match Γ.gl[j]?.map toD with | some d=>k d s | none=>.bad)
 | .op o a b,s,k,kx=>evT true a s (fun x s=>evT true b s (fun y s=>.opt (opD o (look s.st x) (look s.st y)) fun d=>k d s) kx) kx
 | .isN a,s,k,kx=>evT true a s (fun x s=>k (.bl (kD x)) s) kx
 | .isNN a,s,k,kx=>evT true a s (fun x s=>k (.bl (!kD x)) s) kx
 | .neg a,s,k,kx=>evT true a s (fun x s=>match x with | .int i=>k (.int (-i)) s | _=>.bad) kx
 | .not a,s,k,kx=>evT true a s (fun x s=>match x with | .bl b=>k (.bl (!b)) s | _=>.bad) kx
 | .and a b,s,k,kx=>evT false a s (fun x s=>match x with | .bl t=>.test t fun t=>if t then evT false b s k kx else k (.bl false) s | _=>.bad) kx
 | .or a b,s,k,kx=>evT false a s (fun x s=>match x with | .bl t=>.test t fun t=>if t then k (.bl true) s else evT false b s k kx | _=>.bad) kx
 | .ite c a b,s,k,kx=>evT true c s (fun x s=>match x with | .bl t=>.test t fun t=>if t then evT false a s k kx else evT false b s k kx | _=>.bad) kx
 | .chain o p a b c,s,k,kx=>evT true a s (fun x s=>evT true b s (fun y s=>.opt (opD o (look s.st x) (look s.st y)) fun d=>match d with
   | .bl t=>.test t fun t=>if t then evT true c s (fun z s=>.opt (opD p (look s.st y) (look s.st z)) fun d=>k d s) kx else k (.bl false) s
   | _=>.bad) kx) kx
 | .ix a b,s,k,kx=>evT true a s (fun x s=>evT true b s (fun y s=>.opt (ixD (look s.st x) y) fun d=>k d s) kx) kx
 | .sl a lo hi,s,k,kx=>evT true a s (fun x s=>
  let k3:=fun l s=>(if bC hi then .opt (slO (look s.st x) l none) fun d=>k d s else evT true hi s (fun z s=>match z with | .int h=>.opt (slO (look s.st x) l (some h)) fun d=>k d s | _=>.bad) kx)
  if bC lo then k3 none s else evT true lo s (fun z s=>match z with | .int l=>k3 (some l) s | _=>.bad) kx) kx
 | .sl3 a lo hi,s,k,kx=>evT true a s (fun x s=>
  let k3:=fun l s=>(if bC hi then .opt (pY (look s.st x) l none) fun d=>k d s else evT true hi s (fun z s=>match z with | .int h=>.opt (pY (look s.st x) l (some h)) fun d=>k d s | _=>.bad) kx)
  if bC lo then k3 none s else evT true lo s (fun z s=>match z with | .int l=>k3 (some l) s | _=>.bad) kx) kx
 | .tget j e d,s,k,kx=>evT true e s (fun x s=>evT false d s (fun z s=>match Γ.tb[j]?,x with | some t,.str y=>k (((KTD.datumAt y t).map toD).getD z) s | _,_=>.bad) kx) kx
 | .newd j es,s,k,kx=>c6 false es s (fun l s=>.opt ((Γ.cl[j]?).bind fun k=>if k.what=1∧l.length=k.at_.length then some (D.ins j l) else none) fun d=>k d s) kx
 | .fld a f,s,k,kx=>evT true a s (fun x s=>.opt (qG Γ s.st x f) fun d=>k d s) kx
 | .tup es,s,k,kx=>c6 false es s (fun l s=>if l.length≤100000 then k (.tup l) s else .bad) kx
 | .lst es,s,k,kx=>c6 false es s (fun l s=>if l.length≤100000 then k (.lst l) s else .bad) kx
 | .newl es,s,k,kx=>c6 false es s (fun l s=>if l.length≤100000 then k (.ref s.st.length) ⟨s.env,s.ow,s.st ++ [.lst l]⟩ else .bad) kx
 | .keep kp a,s,k,kx=>evT false a (hid (kp.filter s.ow.contains) s) (fun d s'=>k d ⟨s.env,s'.ow ++ kp.filter s.ow.contains,s'.st⟩) (fun _ _ _=>.bad)
 | .sto a,s,k,kx=>evT false a s (fun x s=>match x with | .lst l=>k (.ref s.st.length) ⟨s.env,s.ow,s.st ++ [.lst l]⟩ | _=>.bad) kx
 | .call j es,s,k,kx=>c6 true es s (fun l s=>.call j l s.st fun r=>match r with | .ok d st=>o7 es s d st k | .exc c l st=>kx c l (drp es s st) | .bad=>.bad) kx
 | .hcall j es,s,k,kx=>c6 false es s (fun l s=>.test (ay l) fun t=>if t then .call j l [] fun r=>(match r with
  | .ok d st=>.test (noR d) fun t=>if t then k d s else k (shD s.st.length d) ⟨s.env,s.ow,s.st ++ st.map (shO s.st.length)⟩
  | .exc c l _=>.test (ay l) fun t=>if t then kx c l s else .bad
  | .bad=>.bad) else .bad) kx
 | .fcall own j es,s,k,kx=>c6 false es s (fun l s=>.test (ay l) fun t=>if t then .call j l [] fun r=>(match r with
  | .ok d st=>.test (own && !kE d) fun t=>if t then .bad else .opt (mc st d) fun d=>k d s
  | .exc c l _=>.test (ay l) fun t=>if t then kx c l s else .bad
  | .bad=>.bad) else .bad) kx
 | .mth c j a es,s,k,kx=>evT true a s (fun x s=>match x with
   | .ref p=>.test (rj s.st p c) fun t=>if t then c6 true es s (fun l s=>.call j (.ref p :: l) s.st fun r=>match r with | .ok d st=>o7 es s d st k | .exc c l st=>kx c l (drp es s st) | .bad=>.bad) kx else .bad
   | _=>.bad) kx
 | .bi b es,s,k,kx=>c6 true es s (fun l s=>.opt (biD b (l.map (look s.st))) fun d=>k d s) kx
 | .tab j e,s,k,kx=>evT true e s (fun x s=>match Γ.tb[j]?,x with | some t,.str y=>.opt ((KTD.datumAt y t).map toD) fun d=>k d s | _,_=>.bad) kx
 | .tabin j e,s,k,kx=>evT true e s (fun x s=>match Γ.tb[j]?,x with | some t,.str y=>k (.bl (KTD.datumAt y t).isSome) s | _,_=>.bad) kx
 | .lc t one it elt cond,s,k,kx=>evT false it s (fun x s=>match x with
   | .lst ds=>if lp then .sub ((aQ (fun d s'=>(match aK t one d s'.env with
    | some env=>(noX (ev Γ cal cal1 true cond ⟨env,[],s'.st⟩)).bind fun b s2=>(match b with
      | .bl true=>(noX (ev Γ cal cal1 false elt s2)).bind fun e s3=>.ok (some e) ⟨s3.env,[],s3.st⟩
      | .bl false=>.ok none ⟨s2.env,[],s2.st⟩
      | _=>.bad)
    | none=>.bad)) ds [] ⟨List.replicate t.length none ++ s.env,[],s.st⟩)) (fun d s'=>k d ⟨s.env,[],s'.st⟩)
     else lcT (fun d s' k'=>match aK t one d s'.env with
      | some env=>evT true cond ⟨env,[],s'.st⟩ (fun b s2=>match b with
        | .bl t=>.test t fun t=>if t then evT false elt s2 (fun e s3=>k' (some e) ⟨s3.env,[],s3.st⟩) (fun _ _ _=>.bad) else k' none ⟨s2.env,[],s2.st⟩
        | _=>.bad) (fun _ _ _=>.bad)
      | none=>.bad) ds [] ⟨List.replicate t.length none ++ s.env,[],s.st⟩ (fun d s'=>k d ⟨s.env,[],s'.st⟩)
   | _=>.bad) kx
 | .tand a b,s,k,kx=>evT true a s (fun x s=>match x with | .bl t=>.test t fun t=>if t then evT true b s k kx else k (.bl false) s | _=>.bad) kx
 | .tor a b,s,k,kx=>evT true a s (fun x s=>match x with | .bl t=>.test t fun t=>if t then k (.bl true) s else evT true b s k kx | _=>.bad) kx
 | .tnot a,s,k,kx=>evT true a s (fun x s=>match x with | .bl b=>k (.bl (!b)) s | _=>.bad) kx
 | .tv a,s,k,kx=>evT true a s (fun x s=>.opt ((vt (look s.st x)).map .bl) fun d=>k d s) kx
 | .it b es,s,k,kx=>c6 false es s (fun l s=>.opt ((itD b l).map .lst) fun d=>k d s) kx
 | .itv a,s,k,kx=>evT false a s (fun x s=>match s9 x with | some l=>k (.lst l) s | none=>.bad) kx
 | .dic es,s,k,kx=>c6 false es s (fun l s=>.opt ((qy l).map fun p=>.dic p.1 p.2) fun d=>k d s) kx
 | .get a b c,s,k,kx=>evT true a s (fun x s=>.test (isDic (look s.st x)) fun t=>if t then evT true b s (fun y s=>evT false c s (fun z s=>.opt (wW (look s.st x) y z) fun d=>k d s) kx) kx else .bad) kx
 | .index a b,s,k,kx=>evT true a s (fun x s=>.test (ug x) fun t=>if t then evT true b s (fun y s=>.opt (wY x y) fun d=>k d s) kx else .bad) kx
 | .join x a,s,k,kx=>evT true a s (fun y s=>.opt (v7 x (look s.st y)) fun d=>k d s) kx
 | .fmt x a y,s,k,kx=>evT true a s (fun v s=>.opt (zE x v y) fun d=>k d s) kx
 | .dicc ks es,s,k,kx=>c6 false es s (fun l s=>.opt (vT ks l) fun d=>k d s) kx
 | .isX a js,s,k,kx=>evT true a s (fun x s=>.opt (zM Γ x js) fun d=>k d s) kx
 | .new j es,s,k,kx=>c6 true es s (fun l s=>(match Γ.cl[j]? with
   | some q=>if q.what=1 then (if l.length=q.at_.length then k (.ins j l) (drp es s s.st) else .bad) else if q.what=0 then .call1 q.init (.ref s.st.length :: l) (s.st ++ [.ins j []]) fun r=>(match r with
    | .ok .non st=>k (.ref s.st.length) (aft es s .non st)
    | _=>.bad)
     else .bad
   | none=>.bad)) kx
 | _,_,_,_=>.bad
noncomputable def c6 (br:Bool):E→Sta→(List D→Sta→IT)→(Nat→List D→Sta→IT)→IT
 | .nil,s,k,kx=>k [] s
 | .cons a r,s,k,kx=>evT br a s (fun x s=>c6 br r s (fun l s=>k (x :: l) s) kx) kx
 | _,_,_,_=>.bad
end
def exT:S→Sta→(Sta→IT)→(D→Sta→IT)→(Nat→List D→Sta→IT)→IT
 | .skip,s,kn,kr,kx=>kn s
 | .seq a b,s,kn,kr,kx=>exT a s (fun s=>exT b s kn kr kx) kr kx
 | .set i e,s,kn,kr,kx=>evT Γ cal cal1 lp false e s (fun d s=>kn (mN s i d (aV e))) kx
 | .setT l e,s,kn,kr,kx=>evT Γ cal cal1 lp false e s (fun d s=>match aK l false d s.env with | some env=>kn ⟨env,s.ow.filter fun i=>!l.contains i,s.st⟩ | none=>.bad) kx
 | .setR i es,s,kn,kr,kx=>c6 Γ cal cal1 lp false es s (fun l s=>if l.length≤100000 then kn ⟨s.env.set i (some (.ref s.st.length)),s.ow.filter (· != i),s.st ++ [.lst l]⟩ else .bad) kx
 | .ret e,s,kn,kr,kx=>evT Γ cal cal1 lp false e s kr kx
 | .ifs c a b,s,kn,kr,kx=>evT Γ cal cal1 lp true c s (fun x s=>match x with | .bl t=>.test t fun t=>if t then exT a s kn kr kx else exT b s kn kr kx | _=>.bad) kx
 | .drop e,s,kn,kr,kx=>evT Γ cal cal1 lp false e s (fun _ s=>kn s) kx
 | .app i e,s,kn,kr,kx=>if s.ow.contains i && isLst s.env[i]? then evT Γ cal cal1 lp false e s (fun d s=>if s.ow.contains i then (match s.env[i]? with
  | some (some (.lst l))=>.test (decide (l.length<100000)) fun t=>if t then kn ⟨s.env.set i (some (.lst (l ++ [d]))),s.ow,s.st⟩ else .bad
  | _=>.bad) else .bad) kx else .bad
 | .ext i e,s,kn,kr,kx=>if s.ow.contains i && isLst s.env[i]? then evT Γ cal cal1 lp false e s (fun d s=>if s.ow.contains i then (match s.env[i]?,d with
  | some (some (.lst l)),.lst x=>.test (decide (l.length+x.length≤100000)) fun t=>if t then kn ⟨s.env.set i (some (.lst (l ++ x))),s.ow,s.st⟩ else .bad
  | _,_=>.bad) else .bad) kx else .bad
 | .put (.v i) b e,s,kn,kr,kx=>evT Γ cal cal1 lp false e s (fun d s=>(match s.env[i]? with
  | some (some x)=>evT Γ cal cal1 lp true b s (fun y s=>(match x with
    | .ref n=>(match (s.st[n]?).bind fun o=>eE o y d with | some o=>kn ⟨s.env,s.ow,s.st.set n o⟩ | none=>.bad)
    | x=>if s.ow.contains i then .opt (jY x y d) fun y=>kn ⟨s.env.set i (some y),s.ow,s.st⟩ else .bad)) kx
  | _=>.bad)) kx
 | .rais j es,s,kn,kr,kx=>c6 Γ cal cal1 lp false es s (fun l s=>.test (fy Γ j l) fun t=>if t then kx j (py Γ j l) s else .bad) kx
 | .try_ a hs,s,kn,kr,kx=>exT a s kn kr (fun c l s'=>hndT hs c l s' kn kr)
 | .for_ t one it b,s,kn,kr,kx=>evT Γ cal cal1 lp false it s (fun x s=>(match x with
  | .lst ds=>if lp then .subS (aI (fun d s=>match aK t one d s.env with | some env=>exS Γ cal cal1 b ⟨env,s.ow.filter fun i=>!t.contains i,s.st⟩ | none=>.bad) ds s) (fun o=>match o with | .nx s=>kn s | .rt d s=>kr d s | .exc c l s=>kx c l s | .bad=>.bad)
    else wU (fun d s k=>match aK t one d s.env with | some env=>exT b ⟨env,s.ow.filter fun i=>!t.contains i,s.st⟩ k kr kx | none=>.bad) ds s kn
  | _=>.bad)) kx
 | c,s,kn,kr,kx=>.subS (exS Γ cal cal1 c s) (fun o=>match o with | .nx s=>kn s | .rt d s=>kr d s | .exc c l s=>kx c l s | .bad=>.bad)
where hndT:S→Nat→List D→Sta→(Sta→IT)→(D→Sta→IT)→IT
 | .hand j (some i) b r,c,l,s,kn,kr=>(match cX Γ j c with
  | some true=>exT b ⟨s.env.set i (some (.ins c l)),s.ow.filter (· != i),s.st⟩ (fun s=>kn ⟨s.env.set i none,s.ow.filter (· != i),s.st⟩) kr (fun _ _ _=>.bad)
  | some false=>hndT r c l s kn kr
  | none=>.bad)
 | .hand j none b r,c,l,s,kn,kr=>(match cX Γ j c with
  | some true=>exT b s kn kr (fun _ _ _=>.bad)
  | some false=>hndT r c l s kn kr
  | none=>.bad)
 | _,_,_,_,_,_=>.bad
def ae:IT→ao
 | .fin o=>o
 | .call j ds st k=>ae (k (cal j ds st))
 | .call1 j ds st k=>ae (k (cal1 j ds st))
 | .test b k=>ae (k b)
 | .opt o k=>(match o with | some d=>ae (k d) | none=>.bad)
 | .sub o k=>(match o with | .ok d s=>ae (k d s) | _=>.bad)
 | .subS o k=>ae (k o)
end
def oc {α:Type} (x:Out α) (k:α→Sta→ao) (kx:Nat→List D→Sta→ao):ao:=match x with
 | .ok a s=>k a s
 | .exc c l s=>kx c l s
 | .bad=>.bad
theorem bp :oc (x.bind f) k kx=oc x (fun a s=>oc (f a s) k kx) kx:=by cases x <;> rfl
theorem cj (h:∀ a s,k a s=k' a s):oc x k kx=oc x k' kx:=by cases x <;> first | exact h _ _ | rfl
theorem af (h:∀ a s,g a s=oc (f a s) k kx):oc x g kx=oc (x.bind f) k kx:=by
 rw [bp];exact cj h
section
variable {Γ:Gm} {cal cal1:Nat→List D→List O→Res} {lp:Bool}
theorem bx {k:D→Sta→IT} :ae cal cal1 (.opt o fun d=>k d s)=oc (.of s o) (fun d s=>ae cal cal1 (k d s)) kx:=by cases o <;> rfl
theorem ra [Decidable p] {k:D→Sta→IT} {kx:Nat→List D→Sta→ao}:ae cal cal1 (if p then k d s else .bad)=oc (if p then .ok d s else .bad) (fun d s=>ae cal cal1 (k d s)) kx:=by split <;> rfl
theorem zI {st:List O} {k:D→Sta→IT}:ae cal cal1 (o7 es s d st k)=ae cal cal1 (k d (aft es s d st)):=by unfold o7;split <;> rfl
theorem vZ {k:D→Sta→IT} {kx:Nat→List D→Sta→IT}:ae cal cal1 (.call j l s.st fun r=>match r with | .ok d st=>o7 es s d st k | .exc c l st=>kx c l (drp es s st) | .bad=>.bad)=oc (ij cal es j l s) (fun d s=>ae cal cal1 (k d s)) (fun c l s=>ae cal cal1 (kx c l s)):=by
 show ae cal cal1 (match cal j l s.st with | .ok d st=>o7 es s d st k | .exc c l st=>kx c l (drp es s st) | .bad=>.bad)=_
 unfold ij
 cases cal j l s.st <;> first | exact zI | rfl
theorem mw (h:∀ d s k,ae cal cal1 (g d s k)=oc (f d s) (fun o s=>ae cal cal1 (k o s)) (fun _ _ _=>.bad)):∀ (ds acc) (s) (k:D→Sta→IT),ae cal cal1 (lcT g ds acc s k)=oc (aQ f ds acc s) (fun d s=>ae cal cal1 (k d s)) (fun _ _ _=>.bad)
 | [],acc,s,k=>rfl
 | d :: r,acc,s,k=>by
   show ae cal cal1 (g d s _)=oc ((f d s).bind _) _ _
   rw [h,bp]
   refine cj fun o s'=>?_
   cases o with
   | none=>exact mw h r acc s' k
   | some e=>
     dsimp only
     show ae cal cal1 (if decide (acc.length<100000)=true then lcT g r (acc ++ [e]) s' k else .bad)=_
     by_cases c:acc.length<100000
     ·rw [if_pos (decide_eq_true c),if_pos c];exact mw h r (acc ++ [e]) s' k
     ·rw [if_neg (by simpa using c),if_neg c];rfl
def nox:Out α→Prop
 | .exc _ _ _=>False
 | _=>True
theorem eg (h:∀ d s,nox (f d s)):∀ (ds acc) (s),nox (aQ f ds acc s)
 | [],_,_=>trivial
 | d :: r,acc,s=>by
   have:=h d s
   show nox ((f d s).bind _)
   cases q:f d s with
   | bad=>trivial
   | exc c l s'=>rw [q] at this;exact this.elim
   | ok o s'=>
     cases o with
     | none=>exact eg h r acc s'
     | some e=>
       show nox (if acc.length<100000 then aQ f r (acc ++ [e]) s' else .bad)
       split
       ·exact eg h r _ s'
       ·trivial
theorem yj (h:nox x):oc x k kx=oc x k kx':=by
 cases x with
 | exc c l s=>exact h.elim
 | _=>rfl
theorem so :oc x k (fun _ _ _=>.bad)=oc (noX x) k (fun _ _ _=>.bad):=by cases x <;> rfl
theorem zK (n:nox x):ae cal cal1 (.sub x k)=oc x (fun d s=>ae cal cal1 (k d s)) kx:=by
 cases x with
 | exc c l s=>exact n.elim
 | _=>rfl
theorem zA :evT Γ cal cal1 lp br (.v i) s k kx=(match s.env[i]? with | some (some d)=>k d (if br then s else un s i) | _=>.bad):=rfl
theorem zy :evT Γ cal cal1 lp br (.g j) s k kx=(match Γ.gl[j]?.map toD with | some d=>k d s | none=>.bad):=rfl
theorem Bm :ev Γ cal cal1 br (.g j) s = .of s (Γ.gl[j]?.map toD):=rfl
theorem bL:∀ e:E,(∀ br s k kx,ae cal cal1 (evT Γ cal cal1 lp br e s k kx)=oc (ev Γ cal cal1 br e s) (fun d s=>ae cal cal1 (k d s)) (fun c l s=>ae cal cal1 (kx c l s))) ∧
 (∀ br s k kx,ae cal cal1 (c6 Γ cal cal1 lp br e s k kx)=oc (evs Γ cal cal1 br e s) (fun d s=>ae cal cal1 (k d s)) (fun c l s=>ae cal cal1 (kx c l s))):=by
 intro e
 induction e with
 | v i=>
   refine ⟨fun br s k kx=>?_,fun br s k kx=>rfl⟩
   rw [zA,Bo]
   cases s.env[i]? with
   | none=>rfl
   | some o=>cases o <;> rfl
 | c d=>exact ⟨fun br s k kx=>rfl,fun br s k kx=>rfl⟩
 | g j=>
   refine ⟨fun br s k kx=>?_,fun br s k kx=>rfl⟩
   rw [zy,Bm]
   cases Γ.gl[j]?.map toD <;> rfl
 | op o a b iha ihb=>exact ⟨fun br s k kx=>(iha.1 _ _ _ _).trans (af fun x s=>(ihb.1 _ _ _ _).trans (af fun y s=>bx)),fun br s k kx=>rfl⟩
 | isN a ih=>exact ⟨fun br s k kx=>(ih.1 _ _ _ _).trans (af fun x s=>rfl),fun br s k kx=>rfl⟩
 | isNN a ih=>exact ⟨fun br s k kx=>(ih.1 _ _ _ _).trans (af fun x s=>rfl),fun br s k kx=>rfl⟩
 | neg a ih=>exact ⟨fun br s k kx=>(ih.1 _ _ _ _).trans (af fun x s=>by cases x <;> rfl),fun br s k kx=>rfl⟩
 | not a ih=>exact ⟨fun br s k kx=>(ih.1 _ _ _ _).trans (af fun x s=>by cases x <;> rfl),fun br s k kx=>rfl⟩
 | and a b iha ihb=>exact ⟨fun br s k kx=>(iha.1 _ _ _ _).trans (af fun x s=>by
  cases x with
  | bl t=>cases t with
    | true=>exact ihb.1 _ _ _ _
    | false=>rfl
  | _=>rfl),fun br s k kx=>rfl⟩
 | or a b iha ihb=>exact ⟨fun br s k kx=>(iha.1 _ _ _ _).trans (af fun x s=>by
  cases x with
  | bl t=>cases t with
    | false=>exact ihb.1 _ _ _ _
    | true=>rfl
  | _=>rfl),fun br s k kx=>rfl⟩
 | ite c a b ihc iha ihb=>exact ⟨fun br s k kx=>(ihc.1 _ _ _ _).trans (af fun x s=>by
  cases x with
  | bl t=>cases t with
    | true=>exact iha.1 _ _ _ _
    | false=>exact ihb.1 _ _ _ _
  | _=>rfl),fun br s k kx=>rfl⟩
 | chain o p a b c iha ihb ihc=>exact ⟨fun br s k kx=>(iha.1 _ _ _ _).trans (af fun x s=>(ihb.1 _ _ _ _).trans (af fun y s=>by
  show ae cal cal1 (.opt (opD o (look s.st x) (look s.st y)) _)=_
  cases opD o (look s.st x) (look s.st y) with
  | none=>rfl
  | some d=>cases d with
    | bl t=>cases t with
      | true=>exact (ihc.1 _ _ _ _).trans (af fun z s=>bx)
      | false=>rfl
    | _=>rfl)),fun br s k kx=>rfl⟩
 | ix a b iha ihb=>exact ⟨fun br s k kx=>(iha.1 _ _ _ _).trans (af fun x s=>(ihb.1 _ _ _ _).trans (af fun y s=>bx)),fun br s k kx=>rfl⟩
 | sl a lo hi iha ihl ihh=>
   refine ⟨fun br s k kx=>(iha.1 _ _ _ _).trans (af fun x s=>?_),fun br s k kx=>rfl⟩
   have k3:∀ l s,ae cal cal1 (if bC hi then .opt (slO (look s.st x) l none) fun d=>k d s else evT Γ cal cal1 lp true hi s (fun z s=>match z with | .int h=>.opt (slO (look s.st x) l (some h)) fun d=>k d s | _=>.bad) kx)=oc ((if bC hi then .ok none s else (ev Γ cal cal1 true hi s).bind toI).bind fun h s=>.of s (slO (look s.st x) l h)) (fun d s=>ae cal cal1 (k d s)) (fun c l s=>ae cal cal1 (kx c l s)):=fun l s=>by
    by_cases c:bC hi=true
    ·rw [if_pos c,if_pos c];exact bx
    ·rw [if_neg c,if_neg c,ihh.1,bp,bp]
     exact cj fun z s=>by cases z <;> first | exact bx | rfl
   by_cases c:bC lo=true
   ·dsimp only
    rw [if_pos c,if_pos c];exact k3 none s
   ·dsimp only
    rw [if_neg c,if_neg c,ihl.1,bp,bp]
    exact cj fun z s=>by cases z <;> first | exact k3 _ s | rfl
 | sl3 a lo hi iha ihl ihh=>
   refine ⟨fun br s k kx=>(iha.1 _ _ _ _).trans (af fun x s=>?_),fun br s k kx=>rfl⟩
   have k3:∀ l s,ae cal cal1 (if bC hi then .opt (pY (look s.st x) l none) fun d=>k d s else evT Γ cal cal1 lp true hi s (fun z s=>match z with | .int h=>.opt (pY (look s.st x) l (some h)) fun d=>k d s | _=>.bad) kx)=oc ((if bC hi then .ok none s else (ev Γ cal cal1 true hi s).bind toI).bind fun h s=>.of s (pY (look s.st x) l h)) (fun d s=>ae cal cal1 (k d s)) (fun c l s=>ae cal cal1 (kx c l s)):=fun l s=>by
    by_cases c:bC hi=true
    ·rw [if_pos c,if_pos c];exact bx
    ·rw [if_neg c,if_neg c,ihh.1,bp,bp]
     exact cj fun z s=>by cases z <;> first | exact bx | rfl
   by_cases c:bC lo=true
   ·dsimp only
    rw [if_pos c,if_pos c];exact k3 none s
   ·dsimp only
    rw [if_neg c,if_neg c,ihl.1,bp,bp]
    exact cj fun z s=>by cases z <;> first | exact k3 _ s | rfl
 | tget j a b iha ihb=>exact ⟨fun br s k kx=>(iha.1 _ _ _ _).trans (af fun x s=>(ihb.1 _ _ _ _).trans (af fun y s=>by cases Γ.tb[j]? <;> cases x <;> rfl)),fun br s k kx=>rfl⟩
 | newd j es ih=>exact ⟨fun br s k kx=>(ih.2 _ _ _ _).trans (af fun l s=>bx),fun br s k kx=>rfl⟩
 | fld a f ih=>exact ⟨fun br s k kx=>(ih.1 _ _ _ _).trans (af fun x s=>bx),fun br s k kx=>rfl⟩
 | tup es ih=>exact ⟨fun br s k kx=>(ih.2 _ _ _ _).trans (af fun l s=>ra),fun br s k kx=>rfl⟩
 | lst es ih=>exact ⟨fun br s k kx=>(ih.2 _ _ _ _).trans (af fun l s=>ra),fun br s k kx=>rfl⟩
 | newl es ih=>exact ⟨fun br s k kx=>(ih.2 _ _ _ _).trans (af fun l s=>by by_cases c:l.length≤100000 <;> simp only [c,if_true,if_false] <;> rfl),fun br s k kx=>rfl⟩
 | nil=>exact ⟨fun br s k kx=>rfl,fun br s k kx=>rfl⟩
 | cons a r iha ihr=>exact ⟨fun br s k kx=>rfl,fun br s k kx=>(iha.1 _ _ _ _).trans (af fun x s=>(ihr.2 _ _ _ _).trans (af fun l s=>rfl))⟩
 | call j es ih=>exact ⟨fun br s k kx=>(ih.2 _ _ _ _).trans (af fun l s=>vZ),fun br s k kx=>rfl⟩
 | hcall j es ih=>exact ⟨fun br s k kx=>(ih.2 _ _ _ _).trans (af fun l s=>by
  show ae cal cal1 (if ay l=true then _ else .bad)=oc (ua cal j l s) _ _
  unfold ua
  split
  ·show ae cal cal1 (match cal j l [] with | .ok d _=>_ | .exc c l _=>_ | .bad=>_)=_
   cases cal j l [] with
   | ok d st=>show ae cal cal1 (if noR d=true then _ else _)=_;dsimp only;split <;> rfl
   | exc c l st=>show ae cal cal1 (if ay l=true then _ else .bad)=_;dsimp only;split <;> rfl
   | bad=>rfl
  ·rfl),fun br s k kx=>rfl⟩
 | fcall own j es ih=>exact ⟨fun br s k kx=>(ih.2 _ _ _ _).trans (af fun l s=>by
  show ae cal cal1 (if ay l=true then _ else .bad)=oc (tW cal own j l s) _ _
  unfold tW
  split
  ·show ae cal cal1 (match cal j l [] with | .ok d _=>_ | .exc c l _=>_ | .bad=>_)=_
   cases cal j l [] with
   | ok d st=>
     show ae cal cal1 (if (own && !kE d)=true then _ else _)=_;dsimp only;split
     ·rfl
     ·exact bx
   | exc c l st=>show ae cal cal1 (if ay l=true then _ else .bad)=_;dsimp only;split <;> rfl
   | bad=>rfl
  ·rfl),fun br s k kx=>rfl⟩
 | mth c j a es iha ih=>exact ⟨fun br s k kx=>(iha.1 _ _ _ _).trans (af fun x s=>by
  cases x with
  | ref p=>
    show ae cal cal1 (if rj s.st p c=true then _ else .bad)=_
    unfold rj
    dsimp only
    cases s.st[p]? with
    | none=>rfl
    | some o=>cases o with
      | ins c' l'=>
        dsimp only
        by_cases e:c'=c
        ·rw [if_pos (by simpa using e),if_pos e]
         exact (ih.2 _ _ _ _).trans (af fun l s=>vZ)
        ·rw [if_neg (by simpa using e),if_neg e];rfl
      | _=>rfl
  | _=>rfl),fun br s k kx=>rfl⟩
 | bi b es ih=>exact ⟨fun br s k kx=>(ih.2 _ _ _ _).trans (af fun l s=>bx),fun br s k kx=>rfl⟩
 | tab j a ih=>exact ⟨fun br s k kx=>(ih.1 _ _ _ _).trans (af fun x s=>by cases Γ.tb[j]? <;> cases x <;> first | exact bx | rfl),fun br s k kx=>rfl⟩
 | tabin j a ih=>exact ⟨fun br s k kx=>(ih.1 _ _ _ _).trans (af fun x s=>by cases Γ.tb[j]? <;> cases x <;> rfl),fun br s k kx=>rfl⟩
 | tand a b iha ihb=>exact ⟨fun br s k kx=>(iha.1 _ _ _ _).trans (af fun x s=>by
  cases x with
  | bl t=>cases t with
    | true=>exact ihb.1 _ _ _ _
    | false=>rfl
  | _=>rfl),fun br s k kx=>rfl⟩
 | tor a b iha ihb=>exact ⟨fun br s k kx=>(iha.1 _ _ _ _).trans (af fun x s=>by
  cases x with
  | bl t=>cases t with
    | false=>exact ihb.1 _ _ _ _
    | true=>rfl
  | _=>rfl),fun br s k kx=>rfl⟩
 | tnot a ih=>exact ⟨fun br s k kx=>(ih.1 _ _ _ _).trans (af fun x s=>by cases x <;> rfl),fun br s k kx=>rfl⟩
 | tv a ih=>exact ⟨fun br s k kx=>(ih.1 _ _ _ _).trans (af fun x s=>bx),fun br s k kx=>rfl⟩
 | it b es ih=>exact ⟨fun br s k kx=>(ih.2 _ _ _ _).trans (af fun l s=>bx),fun br s k kx=>rfl⟩
 | itv a ih=>exact ⟨fun br s k kx=>(ih.1 _ _ _ _).trans (af fun x s=>by cases s9 x <;> rfl),fun br s k kx=>rfl⟩
 | dic es ih=>exact ⟨fun br s k kx=>(ih.2 _ _ _ _).trans (af fun l s=>bx),fun br s k kx=>rfl⟩
 | get a b c iha ihb ihc=>exact ⟨fun br s k kx=>(iha.1 _ _ _ _).trans (af fun x s=>by
  show ae cal cal1 (if isDic (look s.st x)=true then _ else .bad)=_
  split
  ·refine (ihb.1 _ _ _ _).trans (af fun y s=>(ihc.1 _ _ _ _).trans (af fun z s=>?_))
   show ae cal cal1 (.opt (wW (look s.st x) y z) _)=_
   unfold wW
   cases look s.st x <;> cases bI y <;> rfl
  ·rfl),fun br s k kx=>rfl⟩
 | index a b iha ihb=>exact ⟨fun br s k kx=>(iha.1 _ _ _ _).trans (af fun x s=>by
  show ae cal cal1 (if ug x=true then _ else _)=oc (if ug x=true then _ else _) _ _
  split
  ·exact (ihb.1 _ _ _ _).trans (af fun y s=>bx)
  ·rfl),fun br s k kx=>rfl⟩
 | join x a ih=>exact ⟨fun br s k kx=>(ih.1 _ _ _ _).trans (af fun y s=>bx),fun br s k kx=>rfl⟩
 | fmt x a y ih=>exact ⟨fun br s k kx=>(ih.1 _ _ _ _).trans (af fun v s=>bx),fun br s k kx=>rfl⟩
 | dicc ks es ih=>exact ⟨fun br s k kx=>(ih.2 _ _ _ _).trans (af fun l s=>bx),fun br s k kx=>rfl⟩
 | keep kp a ih=>exact ⟨fun br s k kx=>(ih.1 _ _ _ _).trans (by show oc (ev Γ cal cal1 false a _) _ _=oc ((noX (ev Γ cal cal1 false a _)).bind _) _ _;cases ev Γ cal cal1 false a (hid (kp.filter s.ow.contains) s) <;> rfl),fun br s k kx=>rfl⟩
 | sto a ih=>exact ⟨fun br s k kx=>(ih.1 _ _ _ _).trans (af fun x s=>by cases x <;> rfl),fun br s k kx=>rfl⟩
 | isX a js ih=>exact ⟨fun br s k kx=>(ih.1 _ _ _ _).trans (af fun x s=>bx),fun br s k kx=>rfl⟩
 | lc t one it elt cond ihi ihe ihc=>
   refine ⟨fun br s k kx=>(ihi.1 _ _ _ _).trans (af fun x s=>?_),fun br s k kx=>rfl⟩
   cases x with
   | lst ds=>
     dsimp only
     have nx:∀ (d:D) (s':Sta),nox (match aK t one d s'.env with
      | some env=>(noX (ev Γ cal cal1 true cond ⟨env,[],s'.st⟩)).bind fun b s2=>(match b with
        | .bl true=>(noX (ev Γ cal cal1 false elt s2)).bind fun e s3=>.ok (some e) ⟨s3.env,[],s3.st⟩
        | .bl false=>.ok none ⟨s2.env,[],s2.st⟩
        | _=>.bad)
      | none=>Out.bad):=fun d s'=>by
      cases aK t one d s'.env with
      | none=>trivial
      | some env=>
        dsimp only
        cases ev Γ cal cal1 true cond ⟨env,[],s'.st⟩ with
        | ok b s2=>cases b with
          | bl b=>cases b with
            | true=>
              show nox ((noX (ev Γ cal cal1 false elt s2)).bind _)
              cases ev Γ cal cal1 false elt s2 <;> trivial
            | false=>trivial
          | _=>trivial
        | _=>trivial
     cases lp with
     | true=>
       rw [if_pos rfl,bp]
       have n2:=eg nx ds [] ⟨List.replicate t.length none ++ s.env,[],s.st⟩
       exact zK n2
     | false=>
       rw [if_neg Bool.false_ne_true,bp]
       refine (mw (f:=fun d s'=>(match aK t one d s'.env with
        | some env=>(noX (ev Γ cal cal1 true cond ⟨env,[],s'.st⟩)).bind fun b s2=>(match b with
          | .bl true=>(noX (ev Γ cal cal1 false elt s2)).bind fun e s3=>.ok (some e) ⟨s3.env,[],s3.st⟩
          | .bl false=>.ok none ⟨s2.env,[],s2.st⟩
          | _=>.bad)
        | none=>.bad)) (fun d s' k'=>?_) ds [] _ _).trans ?_
       ·cases aK t one d s'.env with
        | none=>rfl
        | some env=>
          dsimp only
          refine (ihc.1 _ _ _ _).trans ?_
          show oc (ev Γ cal cal1 true cond ⟨env,[],s'.st⟩) _ (fun _ _ _=>.bad)=_
          rw [so]
          refine af fun b s2=>?_
          cases b with
          | bl b=>cases b with
            | true=>
              refine (ihe.1 _ _ _ _).trans ?_
              show oc (ev Γ cal cal1 false elt s2) _ (fun _ _ _=>.bad)=_
              rw [so]
              exact af fun e s3=>rfl
            | false=>rfl
          | _=>rfl
       ·exact yj (eg nx ds [] _)
   | _=>rfl
 | new j es ih=>exact ⟨fun br s k kx=>(ih.2 _ _ _ _).trans (af fun l s=>by
  cases Γ.cl[j]? with
  | none=>rfl
  | some q=>
    dsimp only
    by_cases c1:q.what=1
    ·rw [if_pos c1,if_pos c1];exact ra
    ·rw [if_neg c1,if_neg c1]
     by_cases c0:q.what=0
     ·rw [if_pos c0,if_pos c0]
      show ae cal cal1 (match cal1 q.init (.ref s.st.length :: l) (s.st ++ [.ins j []]) with | .ok .non st=>k (.ref s.st.length) (aft es s .non st) | _=>.bad)=_
      cases cal1 q.init (.ref s.st.length :: l) (s.st ++ [.ins j []]) with
      | ok d st=>cases d <;> rfl
      | _=>rfl
     ·rw [if_neg c0,if_neg c0];rfl),fun br s k kx=>rfl⟩
end
def sc (x:ao) (kn:Sta→ao) (kr:D→Sta→ao) (kx:Nat→List D→Sta→ao):ao:=match x with
 | .nx s=>kn s
 | .rt d s=>kr d s
 | .exc c l s=>kx c l s
 | .bad=>.bad
theorem Av :sc (x.go f) kn kr kx=oc x (fun a s=>sc (f a s) kn kr kx) kx:=by cases x <;> rfl
theorem bq (h:∀ a s,g a s=sc (f a s) kn kr kx):oc x g kx=sc (x.go f) kn kr kx:=by
 rw [Av];exact cj h
theorem sO :sc (x.go f) kn kr kx=sc x (fun s=>sc (f s) kn kr kx) kr kx:=by cases x <;> rfl
theorem lA (h:∀ s,kn s=kn' s) (h2:∀ c l s,kx c l s=kx' c l s):sc x kn kr kx=sc x kn' kr kx':=by cases x <;> first | exact h _ | exact h2 _ _ _ | rfl
section
variable {Γ:Gm} {cal cal1:Nat→List D→List O→Res} {lp:Bool}
theorem m9 (h:∀ d s k,ae cal cal1 (g d s k)=sc (f d s) (fun s=>ae cal cal1 (k s)) kr kx):∀ (ds) (s) (k:Sta→IT),ae cal cal1 (wU g ds s k)=sc (aI f ds s) (fun s=>ae cal cal1 (k s)) kr kx
 | [],s,k=>rfl
 | d :: r,s,k=>by
   show ae cal cal1 (g d s _)=sc ((f d s).go _) _ _ _
   rw [h,sO]
   exact lA (fun s=>m9 h r s k) fun _ _ _=>rfl
theorem dU {kn:Sta→IT} {kr:D→Sta→IT} {kx:Nat→List D→Sta→IT}:ae cal cal1 (.subS x (fun o=>match o with | .nx s=>kn s | .rt d s=>kr d s | .exc c l s=>kx c l s | .bad=>.bad))=sc x (fun s=>ae cal cal1 (kn s)) (fun d s=>ae cal cal1 (kr d s)) (fun c l s=>ae cal cal1 (kx c l s)):=by cases x <;> rfl
theorem zJ {g:D→Sta} {kn:Sta→IT} {kr:D→Sta→ao} {kx:Nat→List D→Sta→ao}:ae cal cal1 (.opt o fun y=>kn (g y))=sc (match o with | some y=>.nx (g y) | none=>.bad) (fun s=>ae cal cal1 (kn s)) kr kx:=by cases o <;> rfl
theorem tT :exT Γ cal cal1 lp (.app i e) s kn kr kx=(if s.ow.contains i && isLst s.env[i]? then evT Γ cal cal1 lp false e s (fun d s=>if s.ow.contains i then (match s.env[i]? with
 | some (some (.lst l))=>.test (decide (l.length<100000)) fun t=>if t then kn ⟨s.env.set i (some (.lst (l ++ [d]))),s.ow,s.st⟩ else .bad
 | _=>.bad) else .bad) kx else .bad):=rfl
theorem tR :exS Γ cal cal1 (.app i e) s=(if s.ow.contains i && isLst s.env[i]? then (ev Γ cal cal1 false e s).go fun d s=>if s.ow.contains i then (match s.env[i]? with
 | some (some (.lst l))=>if l.length<100000 then .nx ⟨s.env.set i (some (.lst (l ++ [d]))),s.ow,s.st⟩ else .bad
 | _=>.bad) else .bad else .bad):=rfl
theorem tU :exT Γ cal cal1 lp (.ext i e) s kn kr kx=(if s.ow.contains i && isLst s.env[i]? then evT Γ cal cal1 lp false e s (fun d s=>if s.ow.contains i then (match s.env[i]?,d with
 | some (some (.lst l)),.lst x=>.test (decide (l.length+x.length≤100000)) fun t=>if t then kn ⟨s.env.set i (some (.lst (l ++ x))),s.ow,s.st⟩ else .bad
 | _,_=>.bad) else .bad) kx else .bad):=rfl
theorem tS :exS Γ cal cal1 (.ext i e) s=(if s.ow.contains i && isLst s.env[i]? then (ev Γ cal cal1 false e s).go fun d s=>if s.ow.contains i then (match s.env[i]?,d with
 | some (some (.lst l)),.lst x=>if l.length+x.length≤100000 then .nx ⟨s.env.set i (some (.lst (l ++ x))),s.ow,s.st⟩ else .bad
 | _,_=>.bad) else .bad else .bad):=rfl
theorem v6 {kn:Sta→IT} {kr:D→Sta→ao} {kx:Nat→List D→Sta→ao} {c:Prop} [Decidable c] {z:Sta}:ae cal cal1 (.test (decide c) fun t=>if t then kn z else .bad)=sc (if c then .nx z else .bad) (fun s=>ae cal cal1 (kn s)) kr kx:=by
 show ae cal cal1 (if decide c=true then _ else .bad)=_
 by_cases h:c
 ·rw [if_pos (decide_eq_true h),if_pos h];rfl
 ·rw [if_neg (by simpa using h),if_neg h];rfl
theorem qC:∀ c:S,(∀ s kn kr kx,ae cal cal1 (exT Γ cal cal1 lp c s kn kr kx)=sc (exS Γ cal cal1 c s) (fun s=>ae cal cal1 (kn s)) (fun d s=>ae cal cal1 (kr d s)) (fun c l s=>ae cal cal1 (kx c l s))) ∧
 (∀ c' l s kn kr kx,ae cal cal1 (exT.hndT Γ cal cal1 lp c c' l s kn kr)=sc (exS.hnd Γ cal cal1 c c' l s) (fun s=>ae cal cal1 (kn s)) (fun d s=>ae cal cal1 (kr d s)) kx):=by
 intro c
 have hb:∀ {c:S},(∀ c' l s kn kr,exT.hndT Γ cal cal1 lp c c' l s kn kr = .bad)→(∀ c' l s,exS.hnd Γ cal cal1 c c' l s = .bad)→(∀ c' l s kn kr (kx:Nat→List D→Sta→ao),ae cal cal1 (exT.hndT Γ cal cal1 lp c c' l s kn kr)=sc (exS.hnd Γ cal cal1 c c' l s) (fun s=>ae cal cal1 (kn s)) (fun d s=>ae cal cal1 (kr d s)) kx):=fun h1 h2 c' l s kn kr kx=>by rw [h1,h2];rfl
 induction c with
 | skip=>exact ⟨fun s kn kr kx=>rfl,hb (fun _ _ _ _ _=>rfl) fun _ _ _=>rfl⟩
 | seq a b iha ihb=>
   refine ⟨fun s kn kr kx=>(iha.1 _ _ _ _).trans ?_,hb (fun _ _ _ _ _=>rfl) fun _ _ _=>rfl⟩
   show _=sc ((exS Γ cal cal1 a s).go fun s=>exS Γ cal cal1 b s) _ _ _
   rw [sO]
   exact lA (fun s=>ihb.1 _ _ _ _) fun _ _ _=>rfl
 | set i e=>exact ⟨fun s kn kr kx=>((bL e).1 _ _ _ _).trans (bq fun d s=>rfl),hb (fun _ _ _ _ _=>rfl) fun _ _ _=>rfl⟩
 | setT l e=>exact ⟨fun s kn kr kx=>((bL e).1 _ _ _ _).trans (bq fun d s=>by cases aK l false d s.env <;> rfl),hb (fun _ _ _ _ _=>rfl) fun _ _ _=>rfl⟩
 | setR i es=>exact ⟨fun s kn kr kx=>((bL es).2 _ _ _ _).trans (bq fun l s=>by by_cases c:l.length≤100000 <;> simp only [c,if_true,if_false] <;> rfl),hb (fun _ _ _ _ _=>rfl) fun _ _ _=>rfl⟩
 | ret e=>exact ⟨fun s kn kr kx=>((bL e).1 _ _ _ _).trans (bq fun d s=>rfl),hb (fun _ _ _ _ _=>rfl) fun _ _ _=>rfl⟩
 | ifs c a b iha ihb=>exact ⟨fun s kn kr kx=>((bL c).1 _ _ _ _).trans (bq fun x s=>by
  cases x with
  | bl t=>cases t with
    | true=>exact iha.1 _ _ _ _
    | false=>exact ihb.1 _ _ _ _
  | _=>rfl),hb (fun _ _ _ _ _=>rfl) fun _ _ _=>rfl⟩
 | drop e=>exact ⟨fun s kn kr kx=>((bL e).1 _ _ _ _).trans (bq fun d s=>rfl),hb (fun _ _ _ _ _=>rfl) fun _ _ _=>rfl⟩
 | app i e=>
   refine ⟨fun s kn kr kx=>?_,hb (fun _ _ _ _ _=>rfl) fun _ _ _=>rfl⟩
   rw [tT,tR]
   split
   ·refine ((bL e).1 _ _ _ _).trans (bq fun d s=>?_)
    split
    ·split <;> first | exact v6 | rfl
    ·rfl
   ·rfl
 | ext i e=>
   refine ⟨fun s kn kr kx=>?_,hb (fun _ _ _ _ _=>rfl) fun _ _ _=>rfl⟩
   rw [tU,tS]
   split
   ·refine ((bL e).1 _ _ _ _).trans (bq fun d s=>?_)
    split
    ·split <;> first | exact v6 | rfl
    ·rfl
   ·rfl
 | put a b e=>
   refine ⟨fun s kn kr kx=>?_,hb (fun _ _ _ _ _=>rfl) fun _ _ _=>rfl⟩
   cases a with
   | v i=>
     refine ((bL e).1 _ _ _ _).trans (bq fun d s=>?_)
     cases s.env[i]? with
     | none=>rfl
     | some o=>cases o with
       | none=>rfl
       | some x=>
         refine ((bL b).1 _ _ _ _).trans (bq fun y s=>?_)
         cases x with
         | ref n=>
           dsimp only
           cases (s.st[n]?).bind fun o=>eE o y d <;> rfl
         | _=>
           dsimp only
           split
           ·exact zJ
           ·rfl
   | _=>exact dU
 | fld a f e=>exact ⟨fun s kn kr kx=>dU,hb (fun _ _ _ _ _=>rfl) fun _ _ _=>rfl⟩
 | aug a f o e=>exact ⟨fun s kn kr kx=>dU,hb (fun _ _ _ _ _=>rfl) fun _ _ _=>rfl⟩
 | fapp a f e=>exact ⟨fun s kn kr kx=>dU,hb (fun _ _ _ _ _=>rfl) fun _ _ _=>rfl⟩
 | for_ t one it b ih=>
   refine ⟨fun s kn kr kx=>((bL it).1 _ _ _ _).trans (bq fun x s=>?_),hb (fun _ _ _ _ _=>rfl) fun _ _ _=>rfl⟩
   cases x with
   | lst ds=>
     dsimp only
     cases lp with
     | true=>rw [if_pos rfl];exact dU
     | false=>
       rw [if_neg Bool.false_ne_true]
       refine m9 (fun d s k=>?_) ds s kn
       cases aK t one d s.env with
       | none=>rfl
       | some env=>exact ih.1 _ _ _ _
   | _=>rfl
 | whl c b ih=>exact ⟨fun s kn kr kx=>dU,hb (fun _ _ _ _ _=>rfl) fun _ _ _=>rfl⟩
 | rais j es=>
   refine ⟨fun s kn kr kx=>((bL es).2 _ _ _ _).trans (bq fun l s=>?_),hb (fun _ _ _ _ _=>rfl) fun _ _ _=>rfl⟩
   show ae cal cal1 (if fy Γ j l=true then kx j (py Γ j l) s else .bad)=_
   split <;> rfl
 | try_ a h iha ihh=>
   refine ⟨fun s kn kr kx=>(iha.1 _ _ _ _).trans ?_,hb (fun _ _ _ _ _=>rfl) fun _ _ _=>rfl⟩
   show _=sc (match exS Γ cal cal1 a s with | .exc c l s'=>exS.hnd Γ cal cal1 h c l s' | r=>r) _ _ _
   cases exS Γ cal cal1 a s with
   | exc c l s'=>exact ihh.2 _ _ _ _ _ _
   | _=>rfl
 | hand j i b r ihb ihr=>
   refine ⟨fun s kn kr kx=>dU,fun c' l s kn kr kx=>?_⟩
   cases i with
   | none=>
     show ae cal cal1 (match cX Γ j c' with | some true=>_ | some false=>exT.hndT Γ cal cal1 lp r c' l s kn kr | none=>.bad)=sc (match cX Γ j c' with | some true=>_ | some false=>exS.hnd Γ cal cal1 r c' l s | none=>.bad) _ _ _
     rcases cX Γ j c' with _ | (_ | _)
     ·rfl
     ·exact ihr.2 _ _ _ _ _ _
     ·refine (ihb.1 _ _ _ _).trans ?_
      cases exS Γ cal cal1 b s <;> rfl
   | some i=>
     show ae cal cal1 (match cX Γ j c' with | some true=>_ | some false=>exT.hndT Γ cal cal1 lp r c' l s kn kr | none=>.bad)=sc (match cX Γ j c' with | some true=>_ | some false=>exS.hnd Γ cal cal1 r c' l s | none=>.bad) _ _ _
     rcases cX Γ j c' with _ | (_ | _)
     ·rfl
     ·exact ihr.2 _ _ _ _ _ _
     ·refine (ihb.1 _ _ _ _).trans ?_
      cases exS Γ cal cal1 b ⟨s.env.set i (some (.ins c' l)),s.ow.filter (· != i),s.st⟩ <;> rfl
inductive An where
 | r (r:Res) | t (n:Nat) (b:Bool) | o (n:Nat) (d:D) | e (d:D) (s:Sta) | x (o:ao) | c
end
section
variable (cal cal1:Nat→List D→List O→Res)
def trc:IT→List An→Prop×ao
 | .fin o,[]=>(True,o)
 | .fin o,_=>(False,o)
 | .call j ds st k,.r a :: l=>((cal j ds st=a)∧(trc (k a) l).1,(trc (k a) l).2)
 | .call1 j ds st k,.r a :: l=>((cal1 j ds st=a)∧(trc (k a) l).1,(trc (k a) l).2)
 | .call j ds st k,.c :: l=>trc (k (cal j ds st)) l
 | .call1 j ds st k,.c :: l=>trc (k (cal1 j ds st)) l
 | .test b k,.t 0 a :: l=>((b=a)∧(trc (k a) l).1,(trc (k a) l).2)
 | .test b k,.t (n+1) a :: l=>trc (k b) (.t n a :: l)
 | .test b k,.o (n+1) a :: l=>trc (k b) (.o n a :: l)
 | .test b k,l=>trc (k b) l
 | .opt o k,.o 0 a :: l=>((o=some a)∧(trc (k a) l).1,(trc (k a) l).2)
 | .opt (some d) k,.o (n+1) a :: l=>trc (k d) (.o n a :: l)
 | .opt (some d) k,.t (n+1) a :: l=>trc (k d) (.t n a :: l)
 | .opt (some d) k,l=>trc (k d) l
 | .sub o k,.e d s :: l=>((o = .ok d s)∧(trc (k d s) l).1,(trc (k d s) l).2)
 | .subS o k,.x a :: l=>((o=a)∧(trc (k a) l).1,(trc (k a) l).2)
 | _,_=>(False,.bad)
theorem mQ:∀ (t) (l),(trc cal cal1 t l).1→ae cal cal1 t=(trc cal cal1 t l).2:=by
 intro t
 induction t with
 | fin o=>intro l h;cases l <;> first | rfl | exact h.elim
 | call j ds st k ih=>
   intro l h
   cases l with
   | nil=>exact h.elim
   | cons a l=>cases a with
     | r a=>obtain ⟨h1,h2⟩:=h;have:=ih a l h2;rw [← h1] at this ⊢;show ae cal cal1 (k (cal j ds st))=_;rw [h1] at this ⊢;exact this
     | c=>exact ih _ l h
     | _=>exact h.elim
 | call1 j ds st k ih=>
   intro l h
   cases l with
   | nil=>exact h.elim
   | cons a l=>cases a with
     | r a=>obtain ⟨h1,h2⟩:=h;show ae cal cal1 (k (cal1 j ds st))=_;rw [h1];exact ih a l h2
     | c=>exact ih _ l h
     | _=>exact h.elim
 | test b k ih=>
   intro l h
   show ae cal cal1 (k b)=_
   cases l with
   | nil=>exact ih b _ h
   | cons a l=>cases a with
     | t n a=>cases n with
       | zero=>obtain ⟨h1,h2⟩:=h;rw [h1];exact ih a l h2
       | succ n=>exact ih b _ h
     | o n a=>cases n with
       | zero=>exact ih b _ h
       | succ n=>exact ih b _ h
     | _=>exact ih b _ h
 | opt o k ih=>
   intro l h
   cases l with
   | nil=>cases o with
     | none=>exact h.elim
     | some d=>exact ih d _ h
   | cons a l=>cases a with
     | o n a=>cases n with
       | zero=>obtain ⟨rfl,h2⟩:=h;exact ih a l h2
       | succ n=>cases o with
         | none=>exact h.elim
         | some d=>exact ih d _ h
     | t n a=>cases n with
       | zero=>cases o with
         | none=>exact h.elim
         | some d=>exact ih d _ h
       | succ n=>cases o with
         | none=>exact h.elim
         | some d=>exact ih d _ h
     | _=>cases o with
        | none=>exact h.elim
        | some d=>exact ih d _ h
 | sub o k ih=>
   intro l h
   cases l with
   | nil=>exact h.elim
   | cons a l=>cases a with
     | e d s=>obtain ⟨rfl,h2⟩:=h;exact ih d s l h2
     | _=>exact h.elim
 | subS o k ih=>
   intro l h
   cases l with
   | nil=>exact h.elim
   | cons a l=>cases a with
     | x a=>obtain ⟨h1,h2⟩:=h;show ae cal cal1 (k o)=_;rw [h1];exact ih a l h2
     | _=>exact h.elim
end
def At:ao→Res
 | .nx s=>.ok .non s.st
 | .rt d s=>.ok d s.st
 | .exc c l s=>.exc c l s.st
 | .bad=>.bad
def vj (Γ:Gm) (cal cal1:Nat→List D→List O→Res) (lp:Bool) (j:Nat) (ds:List D) (st:List O) (l:List An):Prop×Res:=match Γ.fn[j]? with
 | some f=>if ds.length=f.np then
  (fun p=>(p.1,At p.2)) (trc cal cal1 (exT Γ cal cal1 lp f.body ⟨ds.map some ++ List.replicate (f.ns - f.np) none,[],st⟩ (fun s=>.fin (.nx s)) (fun d s=>.fin (.rt d s)) (fun c l s=>.fin (.exc c l s))) l)
   else (False,.bad)
 | none=>(False,.bad)
theorem yz {st:List O} (l:List An) {P:Prop} {r:Res} (hp:P) (h:vj Γ cal cal1 lp j ds st l=(P,r)):ly Γ cal cal1 j ds st=r:=by
 unfold vj at h
 unfold ly
 cases q:Γ.fn[j]? with
 | none=>rw [q] at h;have t:False=P:=congrArg Prod.fst h;exact (Eq.mpr t hp:False).elim
 | some f=>
   rw [q] at h
   dsimp only at h ⊢
   by_cases c:ds.length=f.np
   ·rw [if_pos c] at h ⊢
    have h1:=congrArg Prod.fst h
    have h2:=congrArg Prod.snd h
    dsimp only at h1 h2
    have t:=mQ cal cal1 _ l (h1 ▸ hp)
    rw [(qC f.body).1] at t
    rw [← h2,← t]
    cases exS Γ cal cal1 f.body ⟨ds.map some ++ List.replicate (f.ns - f.np) none,[],st⟩ <;> rfl
   ·rw [if_neg c] at h;have t:False=P:=congrArg Prod.fst h;exact (Eq.mpr t hp:False).elim
theorem aw (lp) {st:List O} (l:List An) {P:Prop} {r:Res} (hp:P) (h:vj Γ (aa Γ n) (az Γ n) lp j ds st l=(P,r)):aa Γ (n+1) j ds st=r:=yz l hp h
theorem vV (lp) (l) {P:Prop} {o:ao} (hp:P) (h:trc cal cal1 (exT Γ cal cal1 lp c s (fun s=>.fin (.nx s)) (fun d s=>.fin (.rt d s)) (fun c l s=>.fin (.exc c l s))) l=(P,o)):exS Γ cal cal1 c s=o:=by
 have h1:=congrArg Prod.fst h
 have h2:=congrArg Prod.snd h
 dsimp only at h1 h2
 have t:=mQ cal cal1 _ l (h1 ▸ hp)
 rw [(qC c).1,h2] at t
 rw [← t]
 cases exS Γ cal cal1 c s <;> rfl
def wj:ao→Out D
 | .rt d s=>.ok d s
 | .exc c l s=>.exc c l s
 | _=>.bad
theorem zB (lp) (l) {P:Prop} {o:Out D} (hp:P) (h:(fun p:Prop×ao=>(p.1,wj p.2)) (trc cal cal1 (evT Γ cal cal1 lp br e s (fun d s=>.fin (.rt d s)) (fun c l s=>.fin (.exc c l s))) l)=(P,o)):ev Γ cal cal1 br e s=o:=by
 have h1:=congrArg Prod.fst h
 have h2:=congrArg Prod.snd h
 dsimp only at h1 h2
 have t:=mQ cal cal1 _ l (h1 ▸ hp)
 rw [(bL e).1] at t
 rw [← h2,← t]
 cases ev Γ cal cal1 br e s <;> rfl
theorem aA (h:f d s = .nx s1) (h2:aI f r s1=o):aI f (d :: r) s=o:=by
 show (f d s).go _=o
 rw [h];exact h2
theorem gA (h:f d s=o) (n:∀ s,o≠.nx s):aI f (d :: r) s=o:=by
 show (f d s).go _=o
 rw [h]
 cases o with
 | nx s=>exact absurd rfl (n s)
 | _=>rfl
theorem cO (h:f d s = .ok (some e) s1) (ha:acc.length<100000) (h2:aQ f r (acc ++ [e]) s1=o):aQ f (d :: r) acc s=o:=by
 show (f d s).bind _=o
 rw [h]
 show (if acc.length<100000 then aQ f r (acc ++ [e]) s1 else .bad)=o
 rw [if_pos ha];exact h2
theorem dG (h:f d s = .ok none s1) (h2:aQ f r acc s1=o):aQ f (d :: r) acc s=o:=by
 show (f d s).bind _=o
 rw [h];exact h2
def cG:S→S
 | .seq a b=>(match cG a with | .skip=>cG b | x=>x)
 | .ifs _ a b=>(match cG a with | .skip=>cG b | x=>x)
 | .for_ _ _ _ b=>b
 | _=>.skip
def toR:ao→Res
 | .nx s=>.ok .non s.st
 | .rt d s=>.ok d s.st
 | .exc c l s=>.exc c l s.st
 | .bad=>.bad
def hdS:Nat→S→S
 | 0,.seq a _=>a
 | n+1,.seq a b=>.seq a (hdS n b)
 | _,s=>s
def tlS:Nat→S→S
 | 0,.seq _ b=>b
 | n+1,.seq _ b=>tlS n b
 | _,_=>.skip
theorem vX (x:ao):(x.go fun s=>.nx s)=x:=by cases x <;> rfl
theorem px (n:Nat) (c:S) (s:Sta):exS Γ cal cal1 c s=(exS Γ cal cal1 (hdS n c) s).go fun s=>exS Γ cal cal1 (tlS n c) s:=by
 induction n generalizing c s with
 | zero=>cases c <;> first | rfl | exact (vX _).symm
 | succ n ih=>
   cases c with
   | seq a b=>
     show (exS Γ cal cal1 a s).go _=((exS Γ cal cal1 a s).go fun s=>exS Γ cal cal1 (hdS n b) s).go _
     cases exS Γ cal cal1 a s with
     | nx s=>exact ih b s
     | _=>rfl
   | _=>exact (vX _).symm
theorem wR (lp) (l) {P:Prop} {r:Res} (hp:P) (h:(fun p:Prop×ao=>(p.1,toR p.2)) (trc cal cal1 (exT Γ cal cal1 lp c s (fun s=>.fin (.nx s)) (fun d s=>.fin (.rt d s)) (fun c l s=>.fin (.exc c l s))) l)=(P,r)):toR (exS Γ cal cal1 c s)=r:=by
 have h1:=congrArg Prod.fst h
 have h2:=congrArg Prod.snd h
 dsimp only at h1 h2
 rw [← h2]
 exact congrArg toR (vV lp l (h1 ▸ hp) rfl)
theorem bZ {n:Nat} {ds:List D} {st:List O} {r:Res} (k:Nat) (f:Fn) {s':Sta} (hf:Γ.fn[j]? = some f) (hl:ds.length=f.np) (h1:exS Γ (aa Γ n) (az Γ n) (hdS k f.body) ⟨ds.map some ++ List.replicate (f.ns - f.np) none,[],st⟩ = .nx s') (h2:toR (exS Γ (aa Γ n) (az Γ n) (tlS k f.body) s')=r):aa Γ (n+1) j ds st=r:=by
 show ly Γ (aa Γ n) (az Γ n) j ds st=r
 unfold ly
 rw [hf]
 dsimp only
 rw [if_pos hl,px k,h1,← h2]
 rfl
class ToAn (α:Type) where
 an:Nat→α→An
instance:ToAn Res:=⟨fun _ a=>.r a⟩
instance:ToAn Bool:=⟨fun n b=>.t n b⟩
instance:ToAn (Option D):=⟨fun n o=>match o with | some d=>.o n d | none=>.c⟩
instance:ToAn (Out D):=⟨fun _ o=>match o with | .ok d s=>.e d s | _=>.c⟩
instance:ToAn ao:=⟨fun _ o=>.x o⟩
theorem jn {a b:D} (h:isDic a=false):eqT a b=eqv 55 a b:=by cases a <;> first | rfl | cases h
def AL (_:List An) (P:Prop):Prop:=P
theorem aX (n:Nat) {α:Type} [ToAn α] {x a:α} (h:x=a) {l:List An} {P:Prop} (t:AL l P):AL (ToAn.an n a :: l) (x=a∧P):=⟨h,t⟩
theorem aC {l:List An} {P:Prop} (t:AL l P):AL (.c :: l) P:=t
theorem aZ:AL [] True:=True.intro
theorem ac (lp) {st:List O} {l:List An} {P:Prop} {r:Res} (hp:AL l P) (h:vj Γ (aa Γ n) (az Γ n) lp j ds st l=(P,r)):aa Γ (n+1) j ds st=r:=aw lp l hp h
theorem bA (lp) {l:List An} {P:Prop} {o:ao} (hp:AL l P) (h:trc cal cal1 (exT Γ cal cal1 lp c s (fun s=>.fin (.nx s)) (fun d s=>.fin (.rt d s)) (fun c l s=>.fin (.exc c l s))) l=(P,o)):exS Γ cal cal1 c s=o:=vV lp l hp h
theorem eP (lp) {l:List An} {P:Prop} {o:Out D} (hp:AL l P) (h:(fun p:Prop×ao=>(p.1,wj p.2)) (trc cal cal1 (evT Γ cal cal1 lp br e s (fun d s=>.fin (.rt d s)) (fun c l s=>.fin (.exc c l s))) l)=(P,o)):ev Γ cal cal1 br e s=o:=zB lp l hp h
theorem aF (lp) {l:List An} {P:Prop} {r:Res} (hp:AL l P) (h:(fun p:Prop×ao=>(p.1,toR p.2)) (trc cal cal1 (exT Γ cal cal1 lp c s (fun s=>.fin (.nx s)) (fun d s=>.fin (.rt d s)) (fun c l s=>.fin (.exc c l s))) l)=(P,r)):toR (exS Γ cal cal1 c s)=r:=wR lp l hp h
def c8 (Γ:Gm) (cal cal1:Nat→List D→List O→Res) (t:List Nat) (one:Bool) (b:S):D→Sta→ao:=fun d s=>match aK t one d s.env with | some env=>exS Γ cal cal1 b ⟨env,s.ow.filter fun i=>!t.contains i,s.st⟩ | none=>.bad
def lcQ (Γ:Gm) (cal cal1:Nat→List D→List O→Res) (t:List Nat) (one:Bool) (elt cond:E):D→Sta→Out (Option D):=fun d s'=>(match aK t one d s'.env with
 | some env=>(noX (ev Γ cal cal1 true cond ⟨env,[],s'.st⟩)).bind fun b s2=>(match b with
   | .bl true=>(noX (ev Γ cal cal1 false elt s2)).bind fun e s3=>.ok (some e) ⟨s3.env,[],s3.st⟩
   | .bl false=>.ok none ⟨s2.env,[],s2.st⟩
   | _=>.bad)
 | none=>.bad)
theorem aD {s:Sta} (hb:aK t one d s.env=some env) (h:exS Γ cal cal1 b ⟨env,s.ow.filter fun i=>!t.contains i,s.st⟩=o):c8 Γ cal cal1 t one b d s=o:=by unfold c8;rw [hb];exact h
theorem dX {s:Sta} {cond elt:E} (hb:aK t one d s.env=some env) (hc:ev Γ cal cal1 true cond ⟨env,[],s.st⟩ = .ok (.bl true) s2) (h:ev Γ cal cal1 false elt s2 = .ok e s3):lcQ Γ cal cal1 t one elt cond d s = .ok (some e) ⟨s3.env,[],s3.st⟩:=by
 unfold lcQ
 rw [hb]
 dsimp only
 rw [hc]
 show (noX (ev Γ cal cal1 false elt s2)).bind _=_
 rw [h];rfl
theorem eU {s:Sta} {cond elt:E} (hb:aK t one d s.env=some env) (hc:ev Γ cal cal1 true cond ⟨env,[],s.st⟩ = .ok (.bl false) s2):lcQ Γ cal cal1 t one elt cond d s = .ok none ⟨s2.env,[],s2.st⟩:=by
 unfold lcQ
 rw [hb]
 dsimp only
 rw [hc];rfl
theorem oF {x:E} {f:Nat} {b e:E} (h1:ev Γ cal cal1 false e s = .ok d s1) (h2:ev Γ cal cal1 true (.fld x f) s1 = .ok (.ref n) s2) (h3:ev Γ cal cal1 true b s2 = .ok k s3) (h4:s3.st[n]? = some o) (h5:eE o k d=some o'):exS Γ cal cal1 (.put (.fld x f) b e) s = .nx ⟨s3.env,s3.ow,s3.st.set n o'⟩:=by
 show (ev Γ cal cal1 false e s).go _=_
 rw [h1]
 show (ev Γ cal cal1 true (.fld x f) s1).go _=_
 rw [h2]
 show (ev Γ cal cal1 true b s2).go _=_
 rw [h3]
 show (match (s3.st[n]?).bind fun o=>eE o k d with | some o=>ao.nx ⟨s3.env,s3.ow,s3.st.set n o⟩ | none=>.bad)=_
 rw [h4]
 show (match eE o k d with | some o=>ao.nx ⟨s3.env,s3.ow,s3.st.set n o⟩ | none=>.bad)=_
 rw [h5]
end L2.Ev
end
section
namespace L2.K41
open L2.Bk L2.Ev
def top (i:Nat):Stmt:=PySem.Challenge.pw_blamewise_k41_looks_told.main.body.getD i (.Pass ⟨0,0,0,0⟩)
def b9 (s:Stmt) (j:Nat):Stmt:=match s with
 | .ClassDef _ _ _ body _ _ _ _ _ _ _=>body.getD j (.Pass ⟨0,0,0,0⟩)
 | _=>.Pass ⟨0,0,0,0⟩
def fnl:List (Str×Stmt):=(List.append [("steps",top 10),("kinds_in",top 11),("with_kinds",top 12),("depth",top 13),("part",top 14),("stepped",top 15),("parting",top 17),("join",top 18),("form",top 21),("indexes",top 22),("exchanged",top 23),("parts",top 24),("with_parts",top 25),("written",top 26),("places",top 27),("need_names",top 28)] (List.append [("need_bound",top 29),("names_bound",top 30),("looked",top 38),("need_shallow",top 40),("need_same",top 41),("bound_within",top 42),("wanted_kind",top 43),("own_kind",top 44),("looks_of",top 46),("ready",top 48),("put_in",top 49),("deepest",top 47),("_law_cell_at",top 51),("_law_words",top 52),("_law_next",top 53),("_law_place",top 54)] (List.append [("_law_number",top 55),("_law_kind",top 56),("_law_more",top 57),("_law_leaf",top 58),("_law_built",top 59),("_law_flat",top 60),("_law_loop",top 61),("_law_node",top 62),("_law_parts",top 63),("_law_met",top 67),("_law_large",top 68),("_law_places",top 64),("_law_depth",top 65),("_law_refusal",top 66),("_law_program",top 69),("law",top 70)] [("looks_of",top 46)])))
def mel:List (Str×Str×Stmt):=[("__init__","Looker.__init__",b9 (top 39) 0),("look","Looker.look",b9 (top 39) 1),("hold","Looker.hold",b9 (top 39) 2),("hold_choice","Looker.hold_choice",b9 (top 39) 3),("want","Looker.want",b9 (top 39) 4)]
def gll:List (Str×Dk):=[("UNTOLD",(.tup [(.str "?")])),("ALL_STEPS",(.tup [(.str "arg"),(.str "res"),(.str "item"),(.str "one"),(.str "two")])),("TRUTH",(.tup [(.str "truth")])),("WHOLE",(.tup [(.str "whole")])),("MOST_DEPTH",(.int 4))]
def vq:List (Str×Dk):=[("whole",(.tup [(.str "number")])),("truth",(.tup [(.str "truth")])),("given",(.tup [(.str "given")])),("name",(.tup [(.str "name")])),("fn",(.tup [(.str "name"),(.str "kind"),(.str "node")])),("self",(.tup [(.str "name"),(.str "name"),(.str "kind"),(.str "kind"),(.str "node")])),("call",(.tup [(.str "node"),(.str "node")])),("let",(.tup [(.str "name"),(.str "node"),(.str "node")])),("if",(.tup [(.str "node"),(.str "node"),(.str "node")])),("do",(.tup [(.str "sign"),(.str "node"),(.str "node")])),("row",(.tup [(.str "kind"),(.str "nodes")])),("at",(.tup [(.str "node"),(.str "node")])),("size",(.tup [(.str "node")])),("pair",(.tup [(.str "node"),(.str "node")])),("one",(.tup [(.str "node")])),("two",(.tup [(.str "node")])),("as",(.tup [(.str "kind"),(.str "node")])),("look",(.tup [(.str "put in"),(.str "put in"),(.str "node")]))]
def vr:List (Str×Dk):=[("whole",(.tup [])),("truth",(.tup [])),("?",(.tup [])),("to",(.tup [(.str "arg"),(.str "res")])),("row",(.tup [(.str "item")])),("pair",(.tup [(.str "one"),(.str "two")]))]
def j6:List (Str×Dk):=[("whole",(.tup [(.str "whole")])),("given",(.tup [(.str "whole")])),("size",(.tup [(.str "whole")])),("truth",(.tup [(.str "truth")]))]
def lG:List (Str×Dk):=[("call",(.tup [(.str "res")])),("at",(.tup [(.str "item")])),("one",(.tup [(.str "one")])),("two",(.tup [(.str "two")]))]
def sT:List (Str×Dk):=[("call",(.tup [(.str "to"),(.tup [(.str "?")]),(.tup [(.str "?")])])),("at",(.tup [(.str "row"),(.tup [(.str "?")])])),("size",(.tup [(.str "row"),(.tup [(.str "?")])])),("one",(.tup [(.str "pair"),(.tup [(.str "?")]),(.tup [(.str "?")])])),("two",(.tup [(.str "pair"),(.tup [(.str "?")]),(.tup [(.str "?")])]))]
def tbl:List (Str×List (Str×Dk)):=[("FORMS",vq),("STEPS",vr),("SURE_KINDS",j6),("TAKEN_OUT",lG),("NEEDED",sT)]
def T:Ns where
 gl:=gll.map (·.1)
 tb:=tbl.map (·.1)
 fn:=fnl.map (·.1)
 at_:=["place","kind","by","wanted","way","kinds"]
 bl:=["len","dict","tuple","range","int","enumerate","list","zip","max","isinstance"]
 rf:=["_law_deal"]
 me:=[("look",5,50),("hold",5,51),("hold_choice",5,52),("want",5,53)]
 ex:=["","","NoName","TooDeep","Parted",""]
 nd:=["","","","","",""]
 nw:=["","","","","","Looker"]
 hx:=["","","NoName","TooDeep","Parted",""]
 hc:=["looks_of","ready","deepest"]
 xt:=["","","","","",""]
def vrl:List (List Str×List (Str×Nat)×List Str×List Str):=(List.append [(T.mu,T.alt,T.fc,T.oc),(T.mu,T.alt,T.fc,T.oc),(T.mu,T.alt,T.fc,T.oc),(T.mu,T.alt,T.fc,T.oc),(T.mu,T.alt,T.fc,T.oc),(T.mu,T.alt,T.fc,T.oc),(T.mu,T.alt,T.fc,T.oc),(T.mu,T.alt,T.fc,T.oc),(T.mu,T.alt,T.fc,T.oc),(T.mu,T.alt,T.fc,T.oc),(T.mu,T.alt,T.fc,T.oc),(T.mu,T.alt,T.fc,T.oc),(T.mu,T.alt,T.fc,T.oc),(T.mu,T.alt,T.fc,T.oc),(T.mu,T.alt,T.fc,T.oc),(T.mu,T.alt,T.fc,T.oc)] (List.append [(T.mu,T.alt,T.fc,T.oc),(T.mu,T.alt,T.fc,T.oc),(T.mu,T.alt,T.fc,T.oc),(T.mu,T.alt,T.fc,T.oc),(T.mu,T.alt,T.fc,T.oc),(T.mu,T.alt,T.fc,T.oc),(T.mu,T.alt,T.fc,T.oc),(T.mu,T.alt,T.fc,T.oc),(T.mu,T.alt,T.fc,T.oc),(T.mu,T.alt,T.fc,T.oc),(T.mu,T.alt,T.fc,T.oc),(T.mu,T.alt,T.fc,T.oc),(T.mu,T.alt,T.fc,T.oc),(T.mu,T.alt,T.fc,T.oc),(T.mu,T.alt,T.fc,T.oc),(T.mu,T.alt,T.fc,T.oc)] (List.append [(T.mu,T.alt,T.fc,T.oc),(T.mu,T.alt,T.fc,T.oc),(T.mu,T.alt,T.fc,T.oc),(T.mu,T.alt,T.fc,T.oc),(T.mu,T.alt,T.fc,T.oc),(T.mu,T.alt,T.fc,T.oc),(T.mu,T.alt,T.fc,T.oc),(T.mu,T.alt,T.fc,T.oc),(T.mu,T.alt,T.fc,T.oc),(T.mu,T.alt,T.fc,T.oc),(T.mu,T.alt,T.fc,T.oc),(T.mu,T.alt,T.fc,T.oc),(T.mu,T.alt,T.fc,T.oc),(T.mu,T.alt,["looked"],T.oc),(T.mu,T.alt,T.fc,T.oc),(T.mu,[("looks_of",48)],["looked"],["looks_of"])] [(["found"],T.alt,T.fc,T.oc),(T.mu,T.alt,T.fc,T.oc),(T.mu,T.alt,T.fc,T.oc),(T.mu,T.alt,T.fc,T.oc),(T.mu,T.alt,T.fc,T.oc),(T.mu,T.alt,T.fc,T.oc)])))
def Γ:Gm:=⟨gll.map (·.2),tbl.map (·.2),(((fnl.map fun p=>(p.1,p.1,p.2)) ++ mel).zip vrl).map fun p=>cT { T with mu:=p.2.1,alt:=p.2.2.1,fc:=p.2.2.2.1,oc:=p.2.2.2.2 } p.1.2.2,[⟨2,[],0,[],[],[]⟩,⟨2,[],0,[],[0],[]⟩,⟨2,[0],0,[],[0],[0]⟩,⟨2,[0],0,[],[0],[0]⟩,⟨2,[0,1,2,3,4],0,[],[0],[0,2]⟩,⟨0,[5,3],49,[],[],[]⟩]⟩
abbrev jE:Nat:=0
abbrev mn:Nat:=1
abbrev cN:Nat:=2
abbrev uj:Nat:=3
abbrev ro:Nat:=4
abbrev pD:Nat:=6
abbrev xd:Nat:=7
abbrev uk:Nat:=11
abbrev jF:Nat:=12
abbrev pE:Nat:=13
def qF:Fn:=cT T (top 27)
abbrev kN:Nat:=14
abbrev ef:Nat:=15
def jp:Fn:=cT T (top 29)
abbrev a9:Nat:=16
abbrev iz:Nat:=17
abbrev aP:Nat:=18
abbrev gH:Nat:=19
abbrev kM:Nat:=20
abbrev gG:Nat:=21
abbrev iA:Nat:=22
abbrev mq:Nat:=23
abbrev aW:Nat:=24
def tV:Fn:=cT T (top 48)
abbrev jD:Nat:=25
abbrev kO:Nat:=26
abbrev eS:Nat:=27
abbrev gE:Nat:=28
def jo:Fn:=cT T (top 52)
abbrev jC:Nat:=29
abbrev kJ:Nat:=30
abbrev jB:Nat:=31
abbrev iw:Nat:=32
abbrev kG:Nat:=33
abbrev kI:Nat:=34
def fi:Fn:=cT T (top 58)
abbrev fq:Nat:=35
abbrev jw:Nat:=36
abbrev kF:Nat:=37
abbrev kH:Nat:=38
def bS:Fn:=cT T (top 62)
abbrev kK:Nat:=39
abbrev jA:Nat:=40
def l8:Fn:=cT T (top 67)
abbrev aM:Nat:=41
abbrev jz:Nat:=42
def ip:Fn:=cT T (top 64)
abbrev dP:Nat:=43
abbrev jy:Nat:=44
abbrev ak:Nat:=45
def aU:Fn:=cT T (top 69)
abbrev gF:Nat:=46
def iP:Fn:=cT { T with mu:=T.mu,alt:=[("looks_of",48)],fc:=["looked"],oc:=["looks_of"] } (top 70)
abbrev zO:Nat:=47
abbrev kL:Nat:=48
def dO:Fn:=cT T (b9 (top 39) 1)
abbrev ir:Nat:=50
abbrev iq:Nat:=51
abbrev df:Nat:=52
def io:Fn:=cT T (b9 (top 39) 4)
abbrev iu:Nat:=53
end L2.K41
end
section
namespace L2.K41
open L2.Bw L2.Bk L2.Ev
theorem A {a b:Prop} (x:a) (y:b):a∧b:=⟨x,y⟩
theorem Z:True:=True.intro
inductive Sg where
 | add | sub | mul | lt | eq
 deriving DecidableEq
def Sg.str:Sg→Str
 | .add=>"+" | .sub=>"-" | .mul=>"*" | .lt=>"<" | .eq=>"="
inductive Kd where
 | whole | truth | unt | to (a b:Kd) | row (a:Kd) | pair (a b:Kd)
 deriving DecidableEq
def Kd.dep:Kd→Nat
 | .to a b=>1+max a.dep b.dep
 | .row a=>1+a.dep
 | .pair a b=>1+max a.dep b.dep
 | _=>1
def Sm (p:Int):Prop:=0≤p∧p<100000
def Kd.toD:Kd→D
 | .whole=>.tup [.str "whole"]
 | .truth=>.tup [.str "truth"]
 | .unt=>.tup [.str "?"]
 | .to a b=>.tup [.str "to",a.toD,b.toD]
 | .row a=>.tup [.str "row",a.toD]
 | .pair a b=>.tup [.str "pair",a.toD,b.toD]
inductive T68 where
 | whole (p v:Int) | truth (p:Int) (b:Bool) | given (p:Int) (i:Nat) | name (p:Int) (x:Str) | fn (p:Int) (x:Str) (k:Kd) (b:T68) | slf (p:Int) (f x:Str) (k g:Kd) (b:T68)
 | lt (p:Int) (x:Str) (a b:T68) | iff (p:Int) (c a b:T68) | call (p:Int) (a b:T68) | bin (p:Int) (o:Sg) (a b:T68) | as_ (p:Int) (k:Kd) (a:T68)
 | row (p:Int) (k:Kd) (ts:List T68) | pair (p:Int) (a b:T68) | att (p:Int) (a b:T68) | size (p:Int) (a:T68) | one (p:Int) (a:T68) | two (p:Int) (a:T68) | lk (p:Int) (k l:Kd) (a:T68)
mutual
noncomputable def T68.toD:T68→D
 | .whole p v=>.tup [.str "whole",.int p,.int v]
 | .truth p b=>.tup [.str "truth",.int p,.bl b]
 | .given p i=>.tup [.str "given",.int p,.int i]
 | .name p x=>.tup [.str "name",.int p,.str x]
 | .fn p x k b=>.tup [.str "fn",.int p,.str x,k.toD,b.toD]
 | .slf p f x k g b=>.tup [.str "self",.int p,.str f,.str x,k.toD,g.toD,b.toD]
 | .lt p x a b=>.tup [.str "let",.int p,.str x,a.toD,b.toD]
 | .iff p c a b=>.tup [.str "if",.int p,c.toD,a.toD,b.toD]
 | .call p a b=>.tup [.str "call",.int p,a.toD,b.toD]
 | .bin p o a b=>.tup [.str "do",.int p,.str o.str,a.toD,b.toD]
 | .as_ p k a=>.tup [.str "as",.int p,k.toD,a.toD]
 | .row p k ts=>.tup [.str "row",.int p,k.toD,.tup (toDs ts)]
 | .pair p a b=>.tup [.str "pair",.int p,a.toD,b.toD]
 | .att p a b=>.tup [.str "at",.int p,a.toD,b.toD]
 | .size p a=>.tup [.str "size",.int p,a.toD]
 | .one p a=>.tup [.str "one",.int p,a.toD]
 | .two p a=>.tup [.str "two",.int p,a.toD]
 | .lk p k l a=>.tup [.str "look",.int p,k.toD,l.toD,a.toD]
noncomputable def toDs:List T68→List D
 | []=>[]
 | t :: r=>t.toD :: toDs r
end
def T68.pl:T68→Int
 | .whole p _=>p | .truth p _=>p | .given p _=>p | .name p _=>p | .fn p _ _ _=>p | .slf p _ _ _ _ _=>p | .lt p _ _ _=>p | .iff p _ _ _=>p | .call p _ _=>p | .bin p _ _ _=>p | .as_ p _ _=>p
 | .row p _ _=>p | .pair p _ _=>p | .att p _ _=>p | .size p _=>p | .one p _=>p | .two p _=>p | .lk p _ _ _=>p
def aj:T68→List T68
 | .fn _ _ _ b=>[b]
 | .slf _ _ _ _ _ b=>[b]
 | .lt _ _ a b=>[a,b]
 | .iff _ c a b=>[c,a,b]
 | .call _ a b=>[a,b]
 | .bin _ _ a b=>[a,b]
 | .as_ _ _ a=>[a]
 | .row _ _ ts=>ts
 | .pair _ a b=>[a,b]
 | .att _ a b=>[a,b]
 | .size _ a=>[a]
 | .one _ a=>[a]
 | .two _ a=>[a]
 | .lk _ _ _ a=>[a]
 | _=>[]
def bnd:T68→Nat→List Str
 | .fn _ x _ _,_=>[x]
 | .slf _ f x _ _ _,_=>[f,x]
 | .lt _ x _ _,1=>[x]
 | _,_=>[]
def wks:T68→List Kd
 | .fn _ _ k _=>[k]
 | .slf _ _ _ k g _=>[k,g]
 | .as_ _ k _=>[k]
 | .row _ k _=>[k]
 | _=>[]
def own (W bs:List Str):T68→Prop
 | .whole _ v=>v.natAbs<10 ^ 40
 | .given _ i=>i<8
 | .name _ x=>x∈bs
 | .fn _ x _ _=>x∈W
 | .slf _ f x _ _ _=>f∈W∧x∈W
 | .lt _ x _ _=>x∈W
 | .row _ _ ts=>ts.length≤4
 | .lk ..=>False
 | _=>True
def Ok (W:List Str):Nat→List Str→T68→Prop
 | 0,_,_=>False
 | n+1,bs,t=>own W bs t∧Sm t.pl∧(∀ k∈wks t,k.dep≤8)∧∀ i k,(aj t)[i]? = some k→Ok W n (bs ++ bnd t i) k
theorem Aq (t:T68):ixD t.toD (.int 1)=some (.int t.pl):=by cases t <;> rfl
theorem xK (t:T68) (st:List O):look st t.toD=t.toD:=by cases t <;> rfl
theorem bP (t:T68) (st:List O):ixD (look st t.toD) (.int 1)=some (.int t.pl):=by rw [xK];exact Aq t
theorem cq:∀ ts:List T68,toDs ts=ts.map T68.toD
 | []=>rfl
 | t :: r=>by unfold toDs;rw [cq r];rfl
theorem lJ (ts:List T68):(toDs ts).length=ts.length:=by rw [cq,List.length_map]
theorem bT {W:List Str} {bs:List Str} {t:T68} (h:own W bs t):(aj t).length≤4:=by
 cases t with
 | row p kd ts=>exact h
 | lk=>exact absurd h id
 | _=>exact Nat.le_of_ble_eq_true rfl
theorem eX (t:T68) (n:Nat) (st:List O):aa Γ (n+3) uk [t.toD] st = .ok (.lst (toDs (aj t))) st:=by
 cases t <;> kernel_rfl
def sts (l:List Str):List D:=l.map D.str
theorem jQ (t:T68) (i:Nat) (k:T68) (h:(aj t)[i]? = some k) (n:Nat) (st:List O):aa Γ (n+1) iz [t.toD,.int i] st = .ok (.tup (sts (bnd t i))) st:=by
 cases t with
 | lt p x a b=>
   match i,h with
   | 0,h=>kernel_rfl
   | 1,h=>kernel_rfl
   | i+2,h=>cases h
 | _=>kernel_rfl
theorem wQ (x y:Str):eqv 55 (.str x) (.str y)=some (decide (x=y)):=by
 show some (x == y)=_
 by_cases h:x=y
 ·subst h;simp
 ·simp [h]
theorem nv (x:Str):∀ l:List Str,inD (.str x) (sts l)=some (decide (x∈l))
 | []=>by simp [sts,inD]
 | y :: r=>by
   show (match eqv 55 (.str y) (.str x) with | none=>none | some b=>(inD (.str x) (sts r)).map (b || ·))=_
   rw [wQ,nv x r]
   by_cases h:y=x
   ·simp [h]
   ·have h2:¬ x=y:=fun e=>h e.symm
    simp [h,h2]
theorem notin {x:Str} {l:List Str} (h:x∈l):opD .notin (.str x) (.tup (sts l))=some (.bl false):=by
 show (inD (.str x) (sts l)).map (fun b=>D.bl (!b))=_
 rw [nv];simp [h]
theorem BH (t:T68) (n:Nat) (st:List O):aa Γ (n+3) pE [t.toD] st = .ok (.lst ((wks t).map Kd.toD)) st:=by
 cases t <;> kernel_rfl
end L2.K41
end
section
namespace L2.K41
open L2.Bk L2.Ev
def Kd.join:Kd→Kd→Kd
 | .whole,.whole=>.whole
 | .truth,.truth=>.truth
 | .to a b,.to c d=>.to (a.join c) (b.join d)
 | .row a,.row c=>.row (a.join c)
 | .pair a b,.pair c d=>.pair (a.join c) (b.join d)
 | _,_=>.unt
def Kd.par:Kd→Kd→Option (List Str)
 | .unt,_=>none
 | _,.unt=>none
 | .whole,.whole=>none
 | .truth,.truth=>none
 | .to a b,.to c d=>(match a.par c with | some w=>some ("arg" :: w) | none=>(b.par d).map ("res" :: ·))
 | .row a,.row c=>(a.par c).map ("item" :: ·)
 | .pair a b,.pair c d=>(match a.par c with | some w=>some ("one" :: w) | none=>(b.par d).map ("two" :: ·))
 | _,_=>some []
def BB:Option (List Str)→D
 | none=>.non
 | some w=>.tup (sts w)
theorem dF (k:Kd) (st:List O):look st k.toD=k.toD:=by cases k <;> rfl
theorem uV (a b:Nat):L2.Bw.maxD 0 [(a:Int),(b:Int)]=((max a b:Nat):Int):=by
 show (if (b:Int)>(a:Int) then (b:Int) else (a:Int))=_
 by_cases h:(b:Int)>(a:Int)
 ·rw [if_pos h];have:max a b=b:=Nat.max_eq_right (by omega);rw [this]
 ·rw [if_neg h];have:max a b=a:=Nat.max_eq_left (by omega);rw [this]
theorem kin (k:Kd) (l:List D) (h:k.toD = .tup (D.str h0 :: l)) (n:Nat) (st:List O):aa Γ (n+1) mn [k.toD] st = .ok (.lst l) st:=by
 cases k <;> (cases h;kernel_rfl)
theorem dB (m:Nat):opD .add (.int 1) (.int (m:Nat))=some (.int ((1+m:Nat):Int)):=by
 show some (D.int (1+(m:Int)))=_;congr 2
theorem nW (a:Nat):biD .max0 [.lst [.int (a:Nat)],.int 0]=some (.int (a:Nat)):=rfl
theorem fN (a b:Nat):biD .max0 [.lst [.int (a:Nat),.int (b:Nat)],.int 0]=some (.int ((max a b:Nat):Int)):=by
 show some (D.int (L2.Bw.maxD 0 [(a:Int),(b:Int)]))=_;rw [uV]
theorem depth:∀ (k:Kd) (N:Nat),k.dep+1≤N→∀ st,aa Γ N uj [k.toD] st = .ok (.int (k.dep:Nat)) st
 | .whole,N,h,st=>by obtain ⟨n,rfl⟩:∃ n,N=n+2:=⟨N - 2,by unfold Kd.dep at h;omega⟩;kernel_rfl
 | .truth,N,h,st=>by obtain ⟨n,rfl⟩:∃ n,N=n+2:=⟨N - 2,by unfold Kd.dep at h;omega⟩;kernel_rfl
 | .unt,N,h,st=>by obtain ⟨n,rfl⟩:∃ n,N=n+2:=⟨N - 2,by unfold Kd.dep at h;omega⟩;kernel_rfl
 | .row a,N,h,st=>by
   unfold Kd.dep at h
   obtain ⟨n,rfl⟩:∃ n,N=n+2:=⟨N - 2,by omega⟩
   have i1:=depth a (n+1) (by omega) st
   exact aw false [.r (.ok (.lst [a.toD]) st),.r (.ok (.int (a.dep:Nat)) st),.o 0 (.int (a.dep:Nat)),.o 0 (.int ((1+a.dep:Nat):Int))] (kin (.row a) [a.toD] rfl n st<|>i1<|>nW a.dep<|>dB a.dep<|>Z) (by kernel_rfl)
 | .to a b,N,h,st=>by
   unfold Kd.dep at h
   obtain ⟨n,rfl⟩:∃ n,N=n+2:=⟨N - 2,by omega⟩
   have i1:=depth a (n+1) (by omega) st
   have i2:=depth b (n+1) (by omega) st
   exact aw false [.r (.ok (.lst [a.toD,b.toD]) st),.r (.ok (.int (a.dep:Nat)) st),.r (.ok (.int (b.dep:Nat)) st),.o 0 (.int ((max a.dep b.dep:Nat):Int)),.o 0 (.int ((1+max a.dep b.dep:Nat):Int))] (kin (.to a b) [a.toD,b.toD] rfl n st<|>i1<|>i2<|>fN a.dep b.dep<|>dB (max a.dep b.dep)<|>Z) (by kernel_rfl)
 | .pair a b,N,h,st=>by
   unfold Kd.dep at h
   obtain ⟨n,rfl⟩:∃ n,N=n+2:=⟨N - 2,by omega⟩
   have i1:=depth a (n+1) (by omega) st
   have i2:=depth b (n+1) (by omega) st
   exact aw false [.r (.ok (.lst [a.toD,b.toD]) st),.r (.ok (.int (a.dep:Nat)) st),.r (.ok (.int (b.dep:Nat)) st),.o 0 (.int ((max a.dep b.dep:Nat):Int)),.o 0 (.int ((1+max a.dep b.dep:Nat):Int))] (kin (.pair a b) [a.toD,b.toD] rfl n st<|>i1<|>i2<|>fN a.dep b.dep<|>dB (max a.dep b.dep)<|>Z) (by kernel_rfl)
theorem wk1 (a x:Kd) (n:Nat) (st:List O):aa Γ (n+1) cN [(Kd.row a).toD,.lst [x.toD]] st = .ok (Kd.row x).toD st:=by kernel_rfl
theorem wk2 (a b x y:Kd) (n:Nat) (st:List O):aa Γ (n+1) cN [(Kd.to a b).toD,.lst [x.toD,y.toD]] st = .ok (Kd.to x y).toD st:=by kernel_rfl
theorem wk3 (a b x y:Kd) (n:Nat) (st:List O):aa Γ (n+1) cN [(Kd.pair a b).toD,.lst [x.toD,y.toD]] st = .ok (Kd.pair x y).toD st:=by kernel_rfl
theorem cw:∀ (a b:Kd) (N:Nat),a.dep+2≤N→∀ st,aa Γ N xd [a.toD,b.toD] st = .ok (a.join b).toD st
 | a,b,N,h,st=>by
   obtain ⟨n,rfl⟩:∃ n,N=n+3:=⟨N - 3,by cases a <;> (unfold Kd.dep at h;omega)⟩
   cases a with
   | whole=>cases b <;> kernel_rfl
   | truth=>cases b <;> kernel_rfl
   | unt=>cases b <;> kernel_rfl
   | row a=>cases b with
     | row c=>
       unfold Kd.dep at h
       have i1:=cw a c (n+2) (by omega) st
       exact aw false [.r (.ok (.lst [a.toD]) st),.r (.ok (.lst [c.toD]) st),.r (.ok (a.join c).toD st),.r (.ok (Kd.row (a.join c)).toD st)] (kin (.row a) [a.toD] rfl (n+1) st<|>kin (.row c) [c.toD] rfl (n+1) st<|>i1<|>wk1 a (a.join c) (n+1) st<|>Z) (by kernel_rfl)
     | _=>kernel_rfl
   | to a1 a2=>cases b with
     | to c1 c2=>
       unfold Kd.dep at h
       have i1:=cw a1 c1 (n+2) (by omega) st
       have i2:=cw a2 c2 (n+2) (by omega) st
       exact aw false [.r (.ok (.lst [a1.toD,a2.toD]) st),.r (.ok (.lst [c1.toD,c2.toD]) st),.r (.ok (a1.join c1).toD st),.r (.ok (a2.join c2).toD st),.r (.ok (Kd.to (a1.join c1) (a2.join c2)).toD st)] (kin (.to a1 a2) [a1.toD,a2.toD] rfl (n+1) st<|>kin (.to c1 c2) [c1.toD,c2.toD] rfl (n+1) st<|>i1<|>i2<|>wk2 a1 a2 (a1.join c1) (a2.join c2) (n+1) st<|>Z) (by kernel_rfl)
     | _=>kernel_rfl
   | pair a1 a2=>cases b with
     | pair c1 c2=>
       unfold Kd.dep at h
       have i1:=cw a1 c1 (n+2) (by omega) st
       have i2:=cw a2 c2 (n+2) (by omega) st
       exact aw false [.r (.ok (.lst [a1.toD,a2.toD]) st),.r (.ok (.lst [c1.toD,c2.toD]) st),.r (.ok (a1.join c1).toD st),.r (.ok (a2.join c2).toD st),.r (.ok (Kd.pair (a1.join c1) (a2.join c2)).toD st)] (kin (.pair a1 a2) [a1.toD,a2.toD] rfl (n+1) st<|>kin (.pair c1 c2) [c1.toD,c2.toD] rfl (n+1) st<|>i1<|>i2<|>wk3 a1 a2 (a1.join c1) (a2.join c2) (n+1) st<|>Z) (by kernel_rfl)
     | _=>kernel_rfl
theorem bO:∀ (a b:Kd) (w:List Str),a.par b=some w→w.length<a.dep
 | a,b,w,h=>by
   cases a with
   | unt=>cases b <;> cases h
   | whole=>cases b <;> (cases h <;> decide)
   | truth=>cases b <;> (cases h <;> decide)
   | row a=>cases b with
     | row c=>
       obtain ⟨v,h1,rfl⟩:=Option.map_eq_some_iff.mp (show (a.par c).map (("item":Str) :: ·)=some w from h)
       have:=bO a c v h1
       show v.length+1<1+a.dep;omega
     | unt=>cases h
     | _=>cases h;show 0<1+a.dep;omega
   | to a1 a2=>cases b with
     | to c1 c2=>
       have h:(match a1.par c1 with | some w=>some (("arg":Str) :: w) | none=>(a2.par c2).map (("res":Str) :: ·))=some w:=h
       show w.length<1+max a1.dep a2.dep
       cases q:a1.par c1 with
       | some v=>rw [q] at h;cases h;have:=bO a1 c1 v q;show v.length+1<_;omega
       | none=>
         rw [q] at h
         obtain ⟨v,h1,rfl⟩:=Option.map_eq_some_iff.mp h
         have:=bO a2 c2 v h1
         show v.length+1<_;omega
     | unt=>cases h
     | _=>cases h;show 0<1+_;omega
   | pair a1 a2=>cases b with
     | pair c1 c2=>
       have h:(match a1.par c1 with | some w=>some (("one":Str) :: w) | none=>(a2.par c2).map (("two":Str) :: ·))=some w:=h
       show w.length<1+max a1.dep a2.dep
       cases q:a1.par c1 with
       | some v=>rw [q] at h;cases h;have:=bO a1 c1 v q;show v.length+1<_;omega
       | none=>
         rw [q] at h
         obtain ⟨v,h1,rfl⟩:=Option.map_eq_some_iff.mp h
         have:=bO a2 c2 v h1
         show v.length+1<_;omega
     | unt=>cases h
     | _=>cases h;show 0<1+_;omega
theorem eN (x:Str) (w:List Str) (h:w.length≤1000):opD .add (.tup [.str x]) (.tup (sts w))=some (.tup (sts (x :: w))):=by
 show cD (1+(sts w).length) _=_
 unfold cD sts
 rw [if_pos (by simp;omega)];rfl
theorem eW:∀ (a b:Kd) (N:Nat),a.dep+2≤N→a.dep≤1000→∀ st,aa Γ N pD [a.toD,b.toD] st = .ok (BB (a.par b)) st
 | a,b,N,h,h1,st=>by
   obtain ⟨n,rfl⟩:∃ n,N=n+3:=⟨N - 3,by cases a <;> (unfold Kd.dep at h;omega)⟩
   cases a with
   | whole=>cases b <;> kernel_rfl
   | truth=>cases b <;> kernel_rfl
   | unt=>cases b <;> kernel_rfl
   | row a=>cases b with
     | row c=>
       unfold Kd.dep at h h1
       have i1:=eW a c (n+2) (by omega) (by omega) st
       have s1:aa Γ (n+2) jE [(Kd.row a).toD] st = .ok (.tup [.str "item"]) st:=by kernel_rfl
       cases q:a.par c with
       | none=>
         rw [q] at i1
         rw [show (Kd.row a).par (.row c)=none by show (a.par c).map _=_;rw [q];rfl]
         exact aw false [.r (.ok (.tup [.str "item"]) st),.r (.ok (.lst [a.toD]) st),.r (.ok (.lst [c.toD]) st),.r (.ok .non st)] (s1<|>kin (.row a) [a.toD] rfl (n+1) st<|>kin (.row c) [c.toD] rfl (n+1) st<|>i1<|>Z) (by kernel_rfl)
       | some w=>
         rw [q] at i1
         have hw:=bO a c w q
         rw [show (Kd.row a).par (.row c)=some (("item":Str) :: w) by show (a.par c).map _=_;rw [q];rfl]
         exact aw false [.r (.ok (.tup [.str "item"]) st),.r (.ok (.lst [a.toD]) st),.r (.ok (.lst [c.toD]) st),.r (.ok (.tup (sts w)) st),.o 1 (.tup (sts (("item":Str) :: w)))] (s1<|>kin (.row a) [a.toD] rfl (n+1) st<|>kin (.row c) [c.toD] rfl (n+1) st<|>i1<|>eN "item" w (by omega)<|>Z) (by kernel_rfl)
     | _=>kernel_rfl
   | to a1 a2=>cases b with
     | to c1 c2=>
       unfold Kd.dep at h h1
       have i1:=eW a1 c1 (n+2) (by omega) (by omega) st
       have i2:=eW a2 c2 (n+2) (by omega) (by omega) st
       have s1:aa Γ (n+2) jE [(Kd.to a1 a2).toD] st = .ok (.tup [.str "arg",.str "res"]) st:=by kernel_rfl
       have k1:=kin (.to a1 a2) [a1.toD,a2.toD] rfl (n+1) st
       have k2:=kin (.to c1 c2) [c1.toD,c2.toD] rfl (n+1) st
       have e:(Kd.to a1 a2).par (.to c1 c2)=(match a1.par c1 with | some w=>some (("arg":Str) :: w) | none=>(a2.par c2).map (("res":Str) :: ·)):=rfl
       rw [e]
       cases q:a1.par c1 with
       | some w=>
         rw [q] at i1
         have hw:=bO a1 c1 w q
         exact aw false [.r (.ok (.tup [.str "arg",.str "res"]) st),.r (.ok (.lst [a1.toD,a2.toD]) st),.r (.ok (.lst [c1.toD,c2.toD]) st),.r (.ok (.tup (sts w)) st),.o 1 (.tup (sts (("arg":Str) :: w)))] (s1<|>k1<|>k2<|>i1<|>eN "arg" w (by omega)<|>Z) (by kernel_rfl)
       | none=>
         rw [q] at i1
         cases q2:a2.par c2 with
         | some w=>
           rw [q2] at i2
           have hw:=bO a2 c2 w q2
           exact aw false [.r (.ok (.tup [.str "arg",.str "res"]) st),.r (.ok (.lst [a1.toD,a2.toD]) st),.r (.ok (.lst [c1.toD,c2.toD]) st),.r (.ok .non st),.r (.ok (.tup (sts w)) st),.o 1 (.tup (sts (("res":Str) :: w)))] (s1<|>k1<|>k2<|>i1<|>i2<|>eN "res" w (by omega)<|>Z) (by kernel_rfl)
         | none=>
           rw [q2] at i2
           exact aw false [.r (.ok (.tup [.str "arg",.str "res"]) st),.r (.ok (.lst [a1.toD,a2.toD]) st),.r (.ok (.lst [c1.toD,c2.toD]) st),.r (.ok .non st),.r (.ok .non st)] (s1<|>k1<|>k2<|>i1<|>i2<|>Z) (by kernel_rfl)
     | _=>kernel_rfl
   | pair a1 a2=>cases b with
     | pair c1 c2=>
       unfold Kd.dep at h h1
       have i1:=eW a1 c1 (n+2) (by omega) (by omega) st
       have i2:=eW a2 c2 (n+2) (by omega) (by omega) st
       have s1:aa Γ (n+2) jE [(Kd.pair a1 a2).toD] st = .ok (.tup [.str "one",.str "two"]) st:=by kernel_rfl
       have k1:=kin (.pair a1 a2) [a1.toD,a2.toD] rfl (n+1) st
       have k2:=kin (.pair c1 c2) [c1.toD,c2.toD] rfl (n+1) st
       have e:(Kd.pair a1 a2).par (.pair c1 c2)=(match a1.par c1 with | some w=>some (("one":Str) :: w) | none=>(a2.par c2).map (("two":Str) :: ·)):=rfl
       rw [e]
       cases q:a1.par c1 with
       | some w=>
         rw [q] at i1
         have hw:=bO a1 c1 w q
         exact aw false [.r (.ok (.tup [.str "one",.str "two"]) st),.r (.ok (.lst [a1.toD,a2.toD]) st),.r (.ok (.lst [c1.toD,c2.toD]) st),.r (.ok (.tup (sts w)) st),.o 1 (.tup (sts (("one":Str) :: w)))] (s1<|>k1<|>k2<|>i1<|>eN "one" w (by omega)<|>Z) (by kernel_rfl)
       | none=>
         rw [q] at i1
         cases q2:a2.par c2 with
         | some w=>
           rw [q2] at i2
           have hw:=bO a2 c2 w q2
           exact aw false [.r (.ok (.tup [.str "one",.str "two"]) st),.r (.ok (.lst [a1.toD,a2.toD]) st),.r (.ok (.lst [c1.toD,c2.toD]) st),.r (.ok .non st),.r (.ok (.tup (sts w)) st),.o 1 (.tup (sts (("two":Str) :: w)))] (s1<|>k1<|>k2<|>i1<|>i2<|>eN "two" w (by omega)<|>Z) (by kernel_rfl)
         | none=>
           rw [q2] at i2
           exact aw false [.r (.ok (.tup [.str "one",.str "two"]) st),.r (.ok (.lst [a1.toD,a2.toD]) st),.r (.ok (.lst [c1.toD,c2.toD]) st),.r (.ok .non st),.r (.ok .non st)] (s1<|>k1<|>k2<|>i1<|>i2<|>Z) (by kernel_rfl)
     | _=>kernel_rfl
inductive Sp where
 | arg | res | item | one | two
def Sp.str:Sp→Str
 | .arg=>"arg" | .res=>"res" | .item=>"item" | .one=>"one" | .two=>"two"
def Kd.stp:Kd→Sp→Option Kd
 | .unt,_=>some .unt
 | .to a _,.arg=>some a
 | .to _ b,.res=>some b
 | .row a,.item=>some a
 | .pair a _,.one=>some a
 | .pair _ b,.two=>some b
 | _,_=>none
theorem wl (k k':Kd) (x:Sp) (h:k.stp x=some k') (n:Nat) (st:List O):aa Γ (n+4) ro [k.toD,.tup [.str x.str]] st = .ok k'.toD st:=by
 cases k <;> cases x <;> cases h <;> kernel_rfl
abbrev AlG (β:Type):=List (Key×β)
abbrev Al:=AlG Kd
def ah {β:Type} (l:AlG β) (k:Key) (v:β):AlG β:=if (l.any fun p=>decide (p.1=k))=true then l.map (fun p=>if p.1=k then (p.1,v) else p) else l ++ [(k,v)]
def aq {β:Type}:AlG β→Key→Option β
 | [],_=>none
 | p :: r,k=>if p.1=k then some p.2 else aq r k
def ksA {β:Type} (l:AlG β):List Key:=l.map (·.1)
def dsF {β:Type} (f:β→D) (l:AlG β):List D:=l.map fun p=>f p.2
abbrev dsA (l:Al):List D:=dsF Kd.toD l
abbrev dA (l:Al):D:=.dic (ksA l) (dsA l)
abbrev oA (l:Al):O:=.dic (ksA l) (dsA l)
theorem wq {β:Type} (f:β→D) (k:Key) (v:β):∀ l:AlG β,iB (ksA l) (dsF f l) k (f v)=dsF f (l.map fun p=>if p.1=k then (p.1,v) else p)
 | []=>rfl
 | p :: r=>by
   show (if p.1=k then f v else f p.2) :: iB (ksA r) (dsF f r) k (f v)=f (if p.1=k then (p.1,v) else p).2 :: dsF f _
   rw [wq f k v r]
   by_cases h:p.1=k <;> simp [h]
theorem rx {β:Type} (k:Key) (v:β) (l:AlG β):ksA (l.map fun p=>if p.1=k then (p.1,v) else p)=ksA l:=by
 unfold ksA
 rw [List.map_map]
 refine List.map_congr_left fun p _=>?_
 show (if p.1=k then (p.1,v) else p).1=p.1
 by_cases h:p.1=k <;> simp [h]
theorem wn {β:Type} (f:β→D) (l:AlG β) (k:Key) (v:β):bV (ksA l) (dsF f l) k (f v)=(ksA (ah l k v),dsF f (ah l k v)):=by
 unfold bV ah
 have e:((ksA l).any fun q=>decide (q=k))=l.any fun p=>decide (p.1=k):=by unfold ksA;rw [List.any_map];rfl
 rw [e]
 by_cases h:(l.any fun p=>decide (p.1=k))=true
 ·rw [if_pos h,if_pos h,wq,rx]
 ·rw [if_neg h,if_neg h];simp [ksA,dsF]
theorem nq {β:Type} (f:β→D) (k:Key):∀ l:AlG β,bG (ksA l) (dsF f l) k=(aq l k).map f
 | []=>rfl
 | p :: r=>by
   show (if p.1=k then some (f p.2) else bG (ksA r) (dsF f r) k)=(if p.1=k then some p.2 else aq r k).map f
   rw [nq f k r]
   by_cases h:p.1=k <;> simp [h]
theorem iS (k:Key) (l:Al):bG (ksA l) (dsA l) k=(aq l k).map Kd.toD:=nq _ k l
theorem ba {β:Type} (l:AlG β) (k:Key) (v:β):(ah l k v).length≤l.length+1:=by
 unfold ah
 split
 ·rw [List.length_map];omega
 ·simp
theorem sI {β:Type} (f:β→D) (l:AlG β) (d:D) (k:Key) (hk:bI d=some k) (v:β) (h:l.length<100000):jY (.dic (ksA l) (dsF f l)) d (f v)=some (.dic (ksA (ah l k v)) (dsF f (ah l k v))):=by
 show (bI d).bind (fun k=>if (ksA l).length<100000 then some (D.dic (bV (ksA l) (dsF f l) k (f v)).1 (bV (ksA l) (dsF f l) k (f v)).2) else none)=_
 rw [hk]
 show (if (ksA l).length<100000 then some (D.dic (bV (ksA l) (dsF f l) k (f v)).1 (bV (ksA l) (dsF f l) k (f v)).2) else none)=_
 rw [if_pos (by unfold ksA;rw [List.length_map];exact h),wn]
theorem gX (l:Al) (x:Str) (v:Kd) (h:l.length<100000):jY (dA l) (.str x) v.toD=some (dA (ah l (.inr x) v)):=sI Kd.toD l (.str x) _ rfl v h
theorem sJ (l:Al) (p:Int) (v:Kd) (h:l.length<100000):eE (oA l) (.int p) v.toD=some (oA (ah l (.inl p) v)):=by
 show (if (ksA l).length<100000 then some (O.dic (bV (ksA l) (dsA l) (.inl p) v.toD).1 (bV (ksA l) (dsA l) (.inl p) v.toD).2) else none)=_
 rw [if_pos (by unfold ksA;rw [List.length_map];exact h),wn Kd.toD]
inductive Er where
 | name (p:Int) | deep (p:Int) | parted (p:Int) (k:Kd) (b:Int) (w:Kd) (way:List Str)
def Er.cls:Er→Nat
 | .name _=>2 | .deep _=>3 | .parted ..=>4
def Er.ds:Er→List D
 | .name p=>[.int p]
 | .deep p=>[.int p]
 | .parted p k b w way=>[.int p,k.toD,.int b,w.toD,.tup (sts way)]
theorem BF {p:Int} (h:Sm p):fy Γ 3 [.int p]=true:=by
 show (true && ((decide (0≤p) && decide (p<100000)) && true) && true && true)=true
 simp [h.1,h.2]
theorem BE {p b:Int} (h:Sm p) (h2:Sm b) (k w y:D):fy Γ 4 [.int p,k,.int b,w,y]=true:=by
 show (true && ((decide (0≤p) && decide (p<100000)) && ((decide (0≤b) && decide (b<100000)) && true)) && true && true)=true
 simp [h.1,h.2,h2.1,h2.2]
theorem nsh (t:T68) (k:Kd) (h:Sm t.pl) (N:Nat) (hN:k.dep+2≤N) (st:List O):aa Γ N gH [t.toD,k.toD] st=if 4<k.dep then .exc 3 [.int t.pl] st else .ok .non st:=by
 obtain ⟨n,rfl⟩:∃ n,N=n+1:=⟨N - 1,by omega⟩
 have d:=depth k n (by omega) st
 by_cases c:4<k.dep
 ·have e:decide (((k.dep:Nat):Int)>4)=true:=decide_eq_true (by omega)
  rw [if_pos c]
  exact aw false [.r (.ok (.int (k.dep:Nat)) st),.t 1 true,.o 0 (.int t.pl),.t 0 true] (d<|>e<|>bP t st<|>BF h<|>Z) (by kernel_rfl)
 ·have e:decide (((k.dep:Nat):Int)>4)=false:=decide_eq_false (by omega)
  rw [if_neg c]
  exact aw false [.r (.ok (.int (k.dep:Nat)) st),.t 1 false] (d<|>e<|>Z) (by kernel_rfl)
def nsR (x t:T68) (k w:Kd) (st:List O):Res:=match k.par w with
 | some y=>.exc 4 [.int x.pl,k.toD,.int t.pl,w.toD,.tup (sts y)] st
 | none=>.ok .non st
theorem nsm (x t:T68) (k w:Kd) (hx:Sm x.pl) (ht:Sm t.pl) (N:Nat) (hN:k.dep+3≤N) (hk:k.dep≤1000) (st:List O):aa Γ N kM [x.toD,k.toD,t.toD,w.toD] st=nsR x t k w st:=by
 obtain ⟨n,rfl⟩:∃ n,N=n+1:=⟨N - 1,by omega⟩
 have d:=eW k w n (by omega) hk st
 unfold nsR
 cases q:k.par w with
 | none=>
   rw [q] at d
   exact aw false [.r (.ok .non st)] (d<|>Z) (by kernel_rfl)
 | some y=>
   rw [q] at d
   exact aw false [.r (.ok (.tup (sts y)) st),.o 1 (.int x.pl),.o 0 (.int t.pl),.t 0 true] (d<|>bP x st<|>bP t st<|>BE hx ht k.toD w.toD (.tup (sts y))<|>Z) (by kernel_rfl)
abbrev dsK (fs:List Kd):List D:=fs.map Kd.toD
def inN (t:T68) (i:Nat) (fs:List Kd) (N:Al):Al:=match t,i with
 | .fn _ x k _,_=>ah N (.inr x) k
 | .slf _ f x k g _,_=>ah (ah N (.inr f) (.to k g)) (.inr x) k
 | .lt _ x _ _,1=>ah N (.inr x) (fs.headD .unt)
 | _,_=>N
theorem bw (t:T68) (i:Nat) (y:T68) (hi:(aj t)[i]? = some y) (fs:List Kd) (hf:fs.length=i) (N:Al) (hN:N.length+1<100000) (n:Nat) (st:List O):aa Γ (n+1) gG [t.toD,.int i,.lst (dsK fs),dA N] st = .ok (dA (inN t i fs N)) st:=by
 cases t with
 | fn p x k b=>exact aw false [.o 6 (dA (ah N (.inr x) k))] (gX N x k (by omega)<|>Z) (by kernel_rfl)
 | slf p f x k g b=>
   have:=ba N (.inr f) (.to k g)
   exact aw false [.o 10 (dA (ah N (.inr f) (.to k g))),.o 2 (dA (ah (ah N (.inr f) (.to k g)) (.inr x) k))] (gX N f (.to k g) (by omega)<|>gX (ah N (.inr f) (.to k g)) x k (by omega)<|>Z) (by kernel_rfl)
 | lt p x a b=>
   match i,hi,fs,hf with
   | 0,_,[],_=>kernel_rfl
   | 1,_,[c],_=>exact aw false [.o 14 (dA (ah N (.inr x) c))] (gX N x c (by omega)<|>Z) (by kernel_rfl)
   | i+2,hi,_,_=>cases hi
 | _=>kernel_rfl
def aY:T68→List Kd→Kd
 | .bin ..,_=>.whole
 | .att ..,[_,_]=>.whole
 | .iff ..,[_]=>.truth
 | .row _ k _,_=>k
 | .as_ _ k _,_=>k
 | .slf _ _ _ _ g _,_=>g
 | .call ..,[a,_]=>(a.stp .arg).getD .unt
 | .call ..,[a]=>(match a with | .to _ _=>a | _=>.to .unt .unt)
 | .att ..,[a]=>(match a with | .row _=>a | _=>.row .unt)
 | .size ..,[a]=>(match a with | .row _=>a | _=>.row .unt)
 | .one ..,[a]=>(match a with | .pair _ _=>a | _=>.pair .unt .unt)
 | .two ..,[a]=>(match a with | .pair _ _=>a | _=>.pair .unt .unt)
 | _,fs=>fs.getLastD .unt
def gC:T68→List Kd→Bool
 | .iff ..,[_,_,_]=>true
 | _,_=>false
def Cl2:T68→List Kd→Prop
 | .call ..,[a,_]=>(a.stp .arg).isSome=true
 | _,_=>True
theorem wk (t:T68) (i:Nat) (y:T68) (hi:(aj t)[i]? = some y) (fs:List Kd) (hf:fs.length=i+1) (h3:gC t fs=false) (hc:Cl2 t fs) (n:Nat) (st:List O):aa Γ (n+5) iA [t.toD,.lst (dsK fs)] st = .ok (aY t fs).toD st:=by
 cases t with
 | row p k ts=>kernel_rfl
 | bin p o a b=>kernel_rfl
 | as_ p k a=>kernel_rfl
 | slf p f x k g b=>kernel_rfl
 | call p a b=>
   match i,hi,fs,hf,hc with
   | 0,_,[c],_,_=>cases c <;> kernel_rfl
   | 1,_,[c,d],_,hc=>
     cases q:c.stp .arg with
     | none=>have hc:(c.stp .arg).isSome=true:=hc;rw [q] at hc;cases hc
     | some e=>
       rw [show aY (.call p a b) [c,d]=e by show (c.stp .arg).getD .unt=e;rw [q];rfl]
       exact aw false [.r (.ok e.toD st)] (wl c e .arg q n st<|>Z) (by kernel_rfl)
   | i+2,hi,_,_,_=>cases hi
 | att p a b=>
   match i,hi,fs,hf with
   | 0,_,[c],_=>cases c <;> kernel_rfl
   | 1,_,[c,d],_=>kernel_rfl
   | i+2,hi,_,_=>cases hi
 | iff p c a b=>
   match i,hi,fs,hf,h3 with
   | 0,_,[c],_,_=>kernel_rfl
   | 1,_,[c,d],_,_=>kernel_rfl
   | 2,_,[c,d,e],_,h3=>cases h3
   | i+3,hi,_,_,_=>cases hi
 | fn p x k b=>
   match i,hi,fs,hf with
   | 0,_,[c],_=>kernel_rfl
   | i+1,hi,_,_=>cases hi
 | lt p x a b=>
   match i,hi,fs,hf with
   | 0,_,[c],_=>kernel_rfl
   | 1,_,[c,d],_=>kernel_rfl
   | i+2,hi,_,_=>cases hi
 | pair p a b=>
   match i,hi,fs,hf with
   | 0,_,[c],_=>kernel_rfl
   | 1,_,[c,d],_=>kernel_rfl
   | i+2,hi,_,_=>cases hi
 | size p a=>
   match i,hi,fs,hf with
   | 0,_,[c],_=>cases c <;> kernel_rfl
   | i+1,hi,_,_=>cases hi
 | one p a=>
   match i,hi,fs,hf with
   | 0,_,[c],_=>cases c <;> kernel_rfl
   | i+1,hi,_,_=>cases hi
 | two p a=>
   match i,hi,fs,hf with
   | 0,_,[c],_=>cases c <;> kernel_rfl
   | i+1,hi,_,_=>cases hi
 | lk p k l a=>
   match i,hi,fs,hf with
   | 0,_,[c],_=>kernel_rfl
   | i+1,hi,_,_=>cases hi
 | _=>cases hi
def cm:T68→List Kd→Al→Kd
 | .whole ..,_,_=>.whole
 | .given ..,_,_=>.whole
 | .size ..,_,_=>.whole
 | .truth ..,_,_=>.truth
 | .call ..,a :: _,_=>(a.stp .res).getD .unt
 | .att ..,a :: _,_=>(a.stp .item).getD .unt
 | .one ..,a :: _,_=>(a.stp .one).getD .unt
 | .two ..,a :: _,_=>(a.stp .two).getD .unt
 | .name _ x,_,N=>(aq N (.inr x)).getD .unt
 | .fn _ _ k _,b :: _,_=>.to k b
 | .slf _ _ _ k g _,_,_=>.to k g
 | .lt ..,[_,b],_=>b
 | .iff ..,[_,a,b],_=>a.join b
 | .bin _ o _ _,_,_=>(match o with | .lt=>.truth | .eq=>.truth | _=>.whole)
 | .row _ k _,_,_=>.row k
 | .pair ..,[a,b],_=>.pair a b
 | .as_ _ k _,_,_=>k
 | .lk _ k _ _,_,_=>k
 | _,_,_=>.unt
def Hld:T68→List Kd→Al→Prop
 | .call ..,a :: _,_=>(a.stp .res).isSome=true
 | .att ..,a :: _,_=>(a.stp .item).isSome=true
 | .one ..,a :: _,_=>(a.stp .one).isSome=true
 | .two ..,a :: _,_=>(a.stp .two).isSome=true
 | .name _ x,_,N=>(aq N (.inr x)).isSome=true
 | _,_,_=>True
theorem yn (t:T68) (fs:List Kd) (hf:fs.length=(aj t).length) (N:Al) (hh:Hld t fs N) (m:Nat) (hm:∀ k∈fs,k.dep≤m) (n:Nat) (hn:m+6≤n) (st:List O):aa Γ n mq [t.toD,.lst (dsK fs),dA N] st = .ok (cm t fs N).toD st:=by
 obtain ⟨n,rfl⟩:∃ k,n=k+5:=⟨n - 5,by omega⟩
 have pt:∀ {c:Kd} {x:Sp},(c.stp x).isSome=true→aa Γ (n+4) ro [c.toD,.tup [.str x.str]] st = .ok ((c.stp x).getD .unt).toD st:=fun {c x} h=>by
  cases q:c.stp x with
  | none=>rw [q] at h;cases h
  | some e=>exact wl c e x q n st
 cases t with
 | call p a b=>
   match fs,hf,hh with
   | [c,d],_,hh=>exact aw false [.r (.ok ((c.stp .res).getD .unt).toD st)] (pt hh<|>Z) (by kernel_rfl)
 | att p a b=>
   match fs,hf,hh with
   | [c,d],_,hh=>exact aw false [.r (.ok ((c.stp .item).getD .unt).toD st)] (pt hh<|>Z) (by kernel_rfl)
 | one p a=>
   match fs,hf,hh with
   | [c],_,hh=>exact aw false [.r (.ok ((c.stp .one).getD .unt).toD st)] (pt hh<|>Z) (by kernel_rfl)
 | two p a=>
   match fs,hf,hh with
   | [c],_,hh=>exact aw false [.r (.ok ((c.stp .two).getD .unt).toD st)] (pt hh<|>Z) (by kernel_rfl)
 | name p x=>
   have hh:(aq N (.inr x)).isSome=true:=hh
   cases q:aq N (.inr x) with
   | none=>rw [q] at hh;cases hh
   | some e=>
     have g:ixD (dA N) (.str x)=some e.toD:=by show bG (ksA N) (dsA N) (.inr x)=_;rw [iS,q];rfl
     rw [show cm (.name p x) fs N=e by show (aq N (.inr x)).getD .unt=e;rw [q];rfl]
     exact aw false [.o 6 e.toD] (g<|>Z) (by kernel_rfl)
 | fn p x k b=>
   match fs,hf with
   | [c],_=>kernel_rfl
 | lt p x a b=>
   match fs,hf with
   | [c,d],_=>kernel_rfl
 | iff p c a b=>
   match fs,hf,hm with
   | [c,d,e],_,hm=>
     have:=hm d (by simp)
     exact aw false [.r (.ok (d.join e).toD st)] (cw d e (n+4) (by omega) st<|>Z) (by kernel_rfl)
 | pair p a b=>
   match fs,hf with
   | [c,d],_=>kernel_rfl
 | bin p o a b=>cases o <;> kernel_rfl
 | _=>kernel_rfl
abbrev ls (kd wd:Al):List O:=[.ins 5 [.ref 1,.ref 2],oA kd,oA wd]
theorem fW (t:T68) (k:Kd) (kd wd:Al) (h:wd.length<100000) (n:Nat):aa Γ (n+1) iu [.ref 0,t.toD,k.toD] (ls kd wd) = .ok .non (ls kd (ah wd (.inl t.pl) k)):=by
 have e:exS Γ (aa Γ n) (az Γ n) io.body ⟨[some (.ref 0),some t.toD,some k.toD],[],ls kd wd⟩ = .nx ⟨[some (.ref 0),some t.toD,some k.toD],[],ls kd (ah wd (.inl t.pl) k)⟩:=by
  have e1:ev Γ (aa Γ n) (az Γ n) true (.ix (.v 1) (.c (.int 1))) ⟨[some (.ref 0),some t.toD,some k.toD],[],ls kd wd⟩ = .ok (.int t.pl) ⟨[some (.ref 0),some t.toD,some k.toD],[],ls kd wd⟩:=(eP false (aX 0 (bP t (ls kd wd)) aZ) (by kernel_rfl))
  exact oF (o:=oA wd) (n:=2) rfl rfl e1 rfl (sJ wd t.pl k h)
 exact (ac false (aX 0 (e) aZ) (by kernel_rfl))
def cW (t y:T68) (fs:List Kd) (wd:Al):Except Er Al:=match t,fs with
 | .iff _ _ a b,[_,f,g]=>(match g.par f with
   | some w=>.error (.parted b.pl g a.pl f w)
   | none=>.ok (ah (ah wd (.inl a.pl) (f.join g)) (.inl b.pl) (f.join g)))
 | _,_=>(match (fs.getLastD .unt).par (aY t fs) with
   | some w=>.error (.parted y.pl (fs.getLastD .unt) t.pl (aY t fs) w)
   | none=>.ok (ah wd (.inl y.pl) (aY t fs)))
def vY (kd wd:Al):Except Er Al→Res
 | .ok w=>.ok .non (ls kd w)
 | .error e=>.exc e.cls e.ds (ls kd wd)
theorem d6:cW (.iff p c a b) y [f0,f,g] wd=(match g.par f with | some w=>.error (.parted b.pl g a.pl f w) | none=>.ok (ah (ah wd (.inl a.pl) (f.join g)) (.inl b.pl) (f.join g))):=rfl
theorem um {α:Type} (l:List α) (x:α):atI (l ++ [x]) (-1)=some x:=by
 show (ixN (l ++ [x]).length (-1)).bind _=_
 have e:ixN (l ++ [x]).length (-1)=some l.length:=by
  unfold ixN
  rw [List.length_append,List.length_singleton]
  rw [if_neg (by decide),if_pos (by omega)]
  congr 1;omega
 rw [e]
 show (l ++ [x])[l.length]? = some x
 simp
theorem zP (fs:List Kd) (i:Nat) (h:fs.length=i+1):ixD (.lst (dsK fs)) (.int (-1))=some (fs.getLastD .unt).toD:=by
 obtain ⟨l,x,rfl⟩:∃ l x,fs=l ++ [x]:=⟨_,_,(List.dropLast_concat_getLast (List.ne_nil_of_length_eq_add_one h)).symm⟩
 have e:(l ++ [x]).getLastD .unt=x:=by simp
 rw [e]
 show atI (dsK (l ++ [x])) (-1)=_
 unfold dsK
 rw [List.map_append]
 exact um _ _
theorem kQ (fs:List Kd) (i:Nat) (h:fs.length=i+1):fs.getLastD .unt∈fs:=by
 match fs,h with
 | k :: r,_=>rw [List.getLastD_cons,← List.getLast_eq_getLastD (List.cons_ne_nil k r)];exact List.getLast_mem _
theorem fK {t y:T68} {fs:List Kd} {wd:Al} (h3:gC t fs=false):cW t y fs wd=(match (fs.getLastD .unt).par (aY t fs) with | some w=>.error (.parted y.pl (fs.getLastD .unt) t.pl (aY t fs) w) | none=>.ok (ah wd (.inl y.pl) (aY t fs))):=by
 unfold cW
 split
 ·cases h3
 ·rfl
theorem ud (t y:T68) (i:Nat) (hy:(aj t)[i]? = some y) (fs:List Kd) (hf:fs.length=i+1) (hc:Cl2 t fs) (sy:Sm y.pl) (st:Sm t.pl) (sk:∀ z∈aj t,Sm z.pl) (hd:∀ k∈fs,k.dep≤4) (kd wd:Al) (hw:wd.length+1<100000) (n:Nat):aa Γ (n+9) iq [.ref 0,t.toD,y.toD,.lst (dsK fs)] (ls kd wd)=vY kd wd (cW t y fs wd):=by
 by_cases h3:gC t fs=true
 ·match t,fs,h3 with
  | .iff p c a b,[f0,f1,f2],_=>
    have d1:=hd f1 (by simp)
    have d2:=hd f2 (by simp)
    have sa:=sk a (by simp [aj])
    have sb:=sk b (by simp [aj])
    have ns:=nsm b a f2 f1 sb sa (n+7) (by omega) (by omega) (ls kd wd)
    have j1:=cw f1 f2 (n+7) (by omega) (ls kd wd)
    have j2:=cw f1 f2 (n+7) (by omega) (ls kd (ah wd (.inl a.pl) (f1.join f2)))
    have pl:=ba wd (.inl a.pl) (f1.join f2)
    have w1:=fW a (f1.join f2) kd wd (by omega) (n+6)
    have w2:=fW b (f1.join f2) kd (ah wd (.inl a.pl) (f1.join f2)) (by omega) (n+6)
    unfold nsR at ns
    have hch:aa Γ (n+8) df [.ref 0,(T68.iff p c a b).toD,.lst (dsK [f0,f1,f2])] (ls kd wd)=vY kd wd (cW (.iff p c a b) y [f0,f1,f2] wd):=by
     rw [d6]
     cases q:f2.par f1 with
     | some w=>rw [q] at ns;exact (ac false (aX 0 (ns) aZ) (by kernel_rfl))
     | none=>rw [q] at ns;exact (ac false (aX 0 (ns) (aX 0 (j1) (aX 0 (w1) (aX 0 (j2) (aX 0 (w2) aZ))))) (by kernel_rfl))
    rw [d6] at hch ⊢
    cases q:f2.par f1 with
    | some w=>rw [q] at hch;exact (ac false (aX 0 (hch) aZ) (by kernel_rfl))
    | none=>rw [q] at hch;exact (ac false (aX 0 (hch) aZ) (by kernel_rfl))
 ·have h3:gC t fs=false:=by simpa using h3
  rw [fK h3]
  have kk:=wk t i y hy fs hf h3 hc (n+3) (ls kd wd)
  have ld:(fs.getLastD .unt).dep≤4:=hd _ (kQ fs i hf)
  have ns:=nsm y t (fs.getLastD .unt) (aY t fs) sy st (n+8) (by omega) (by omega) (ls kd wd)
  have w1:=fW y (aY t fs) kd wd (by omega) (n+7)
  have la:=zP fs i hf
  unfold nsR at ns
  cases q:(fs.getLastD .unt).par (aY t fs) with
  | some w=>
    rw [q] at ns
    cases t with
    | iff p c a b=>
      match fs,hf,h3,hy with
      | [f0],_,_,_=>exact (ac false (aX 0 (kk) (aX 0 (la) (aX 0 (ns) aZ))) (by kernel_rfl))
      | [f0,f1],_,_,_=>exact (ac false (aX 0 (kk) (aX 0 (la) (aX 0 (ns) aZ))) (by kernel_rfl))
      | f0 :: f1 :: f2 :: f3 :: _,hf,_,hy=>simp only [List.length_cons] at hf;match i,hf,hy with | i+3,_,hy=>cases hy
    | _=>exact (ac false (aX 0 (kk) (aX 0 (la) (aX 0 (ns) aZ))) (by kernel_rfl))
  | none=>
    rw [q] at ns
    cases t with
    | iff p c a b=>
      match fs,hf,h3,hy with
      | [f0],_,_,_=>exact (ac false (aX 0 (kk) (aX 0 (la) (aX 0 (ns) (aX 0 (w1) aZ)))) (by kernel_rfl))
      | [f0,f1],_,_,_=>exact (ac false (aX 0 (kk) (aX 0 (la) (aX 0 (ns) (aX 0 (w1) aZ)))) (by kernel_rfl))
      | f0 :: f1 :: f2 :: f3 :: _,hf,_,hy=>simp only [List.length_cons] at hf;match i,hf,hy with | i+3,_,hy=>cases hy
    | _=>exact (ac false (aX 0 (kk) (aX 0 (la) (aX 0 (ns) (aX 0 (w1) aZ)))) (by kernel_rfl))
abbrev LR:=Except Er (Kd×Al×Al)
def cy (f:T68→Al→Al→Al→LR) (t:T68) (N:Al):List T68→List Kd→Al→Al→Except Er (List Kd×Al×Al)
 | [],fs,kd,wd=>.ok (fs,kd,wd)
 | y :: r,fs,kd,wd=>match f y (inN t fs.length fs N) kd wd with
   | .error e=>.error e
   | .ok (k,kd1,wd1)=>match cW t y (fs ++ [k]) wd1 with
     | .error e=>.error e
     | .ok wd2=>cy f t N r (fs ++ [k]) kd1 wd2
def lkM:Nat→T68→Al→Al→Al→LR
 | 0,t,_,_,_=>.error (.deep t.pl)
 | n+1,t,N,kd,wd=>if (wks t).any (fun k=>decide (4<k.dep))=true then .error (.deep t.pl) else
   match cy (lkM n) t N (aj t) [] kd wd with
   | .error e=>.error e
   | .ok (fs,kd1,wd1)=>if 4<(cm t fs N).dep then .error (.deep t.pl) else .ok (cm t fs N,ah kd1 (.inl t.pl) (cm t fs N),wd1)
def nb:Nat→Nat
 | 0=>0
 | n+1=>1+4 * nb n
structure NK (N:Al) (bs:List Str) (r:Nat):Prop where
 has:∀ x∈bs,(aq N (.inr x)).isSome=true
 dp:∀ p∈N,p.2.dep≤5
 few:N.length+2 * r≤1000
theorem cL {β:Type} (l:AlG β) (k:Key) (v:β) (x:Key):aq (ah l k v) x=if k=x then some v else aq l x:=by
 have rep:∀ l:AlG β,(l.any fun p=>decide (p.1=k))=true→aq (l.map (fun p=>if p.1=k then (p.1,v) else p)) x=if k=x then some v else aq l x:=by
  intro l
  induction l with
  | nil=>intro h;cases h
  | cons p r ih=>
    intro h
    show (if (if p.1=k then (p.1,v) else p).1=x then some (if p.1=k then (p.1,v) else p).2 else aq (r.map _) x)=if k=x then some v else if p.1=x then some p.2 else aq r x
    by_cases hk:p.1=k
    ·simp only [hk,if_true]
     by_cases hx:k=x
     ·simp [hx]
     ·simp only [hx,if_false]
      by_cases hr:(r.any fun p=>decide (p.1=k))=true
      ·rw [ih hr,if_neg hx]
      ·have:∀ q∈r,q.1≠k:=fun q hq e=>hr (List.any_eq_true.mpr ⟨q,hq,by simpa using e⟩)
       have e:r.map (fun p=>if p.1=k then (p.1,v) else p)=r:=by
        conv=>rhs;rw [← List.map_id r]
        refine List.map_congr_left fun q hq=>?_
        rw [if_neg (this q hq)];rfl
       rw [e]
    ·simp only [hk,if_false]
     have hr:(r.any fun p=>decide (p.1=k))=true:=by simpa [hk] using h
     rw [ih hr]
     by_cases hx:k=x
     ·subst hx;simp [hk]
     ·simp [hx]
 have app:∀ l:AlG β,(l.any fun p=>decide (p.1=k))=false→aq (l ++ [(k,v)]) x=if k=x then some v else aq l x:=by
  intro l
  induction l with
  | nil=>intro h;show (if k=x then some v else none)=_;rfl
  | cons p r ih=>
    intro h
    have h2:p.1≠k∧(r.any fun p=>decide (p.1=k))=false:=by simpa using h
    show (if p.1=x then some p.2 else aq (r ++ [(k,v)]) x)=if k=x then some v else if p.1=x then some p.2 else aq r x
    rw [ih h2.2]
    by_cases hx:k=x
    ·subst hx;simp [h2.1]
    ·simp [hx]
 unfold ah
 by_cases h:(l.any fun p=>decide (p.1=k))=true
 ·rw [if_pos h];exact rep l h
 ·rw [if_neg h];exact app l (Bool.eq_false_iff.mpr h)
theorem bQ {P:Kd→Prop} {l:Al} {k:Key} {v:Kd} (h:∀ p∈l,P p.2) (hv:P v):∀ p∈ah l k v,P p.2:=by
 unfold ah
 split
 ·intro p hp
  obtain ⟨q,hq,rfl⟩:=List.mem_map.mp hp
  by_cases c:q.1=k
  ·rw [if_pos c];exact hv
  ·rw [if_neg c];exact h q hq
 ·intro p hp
  rcases List.mem_append.mp hp with hp | hp
  ·exact h p hp
  ·rw [List.mem_singleton.mp hp];exact hv
def wb:Nat→Nat
 | 0=>0
 | n+1=>4 * wb n+4
theorem t9 {N:Al} {bs:List Str} (h:∀ x∈bs,(aq N (.inr x)).isSome=true) (x:Str) (k:Kd):∀ y∈bs ++ [x],(aq (ah N (.inr x) k) (.inr y)).isSome=true:=by
 intro y hy
 rw [cL]
 by_cases e:x=y
 ·subst e;rw [if_pos rfl];rfl
 ·rw [if_neg (fun h=>e (Sum.inr.inj h))]
  rcases List.mem_append.mp hy with hy | hy
  ·exact h y hy
  ·exact absurd (List.mem_singleton.mp hy).symm e
theorem NK.inN {N:Al} {bs:List Str} {r:Nat} (h:NK N bs (r+1)) {t:T68} (hw:∀ k∈wks t,k.dep≤4) {fs:List Kd} (hf:∀ k∈fs,k.dep≤4) (i:Nat):NK (inN t i fs N) (bs ++ bnd t i) r:=by
 obtain ⟨h1,h2,h3⟩:=h
 have same:NK N (bs ++ []) r:=⟨by rw [List.append_nil];exact h1,h2,by omega⟩
 cases t with
 | fn p x k b=>
   have l:=ba N (.inr x) k
   exact ⟨t9 h1 x k,bQ (P:=fun k=>k.dep≤5) h2 (by have:=hw k (by simp [wks]);omega),by show (ah N (.inr x) k).length+2 * r≤1000;omega⟩
 | slf p f x k g b=>
   have l:=ba N (.inr f) (.to k g)
   have l2:=ba (ah N (.inr f) (.to k g)) (.inr x) k
   have k1:=hw k (by simp [wks])
   have g1:=hw g (by simp [wks])
   have q:=t9 (t9 h1 f (.to k g)) x k
   rw [List.append_assoc] at q
   exact ⟨q,bQ (P:=fun k=>k.dep≤5) (bQ (P:=fun k=>k.dep≤5) h2 (by show 1+max k.dep g.dep≤5;omega)) (by omega),by show (ah (ah N (.inr f) (.to k g)) (.inr x) k).length+2 * r≤1000;omega⟩
 | lt p x a b=>
   match i with
   | 0=>exact same
   | 1=>
     have l:=ba N (.inr x) (fs.headD .unt)
     refine ⟨t9 h1 x _,bQ (P:=fun k=>k.dep≤5) h2 ?_,by show (ah N (.inr x) (fs.headD .unt)).length+2 * r≤1000;omega⟩
     cases fs with
     | nil=>decide
     | cons a r=>have:=hf a (by simp);show a.dep≤5;omega
   | i+2=>exact same
 | _=>exact same
def H1 (t:T68) (fs:List Kd):Prop:=∀ a r,fs=a :: r→a.par (aY t [a])=none
theorem qS {p:Int} {x y:T68} {a:Kd} (h:a.par (aY (.call p x y) [a])=none):(a.stp .arg).isSome=true∧(a.stp .res).isSome=true:=by cases a <;> first | exact ⟨rfl,rfl⟩ | cases h
theorem cl2 {t:T68} {fs:List Kd} (h:H1 t fs) (k:Kd):Cl2 t (fs ++ [k]):=by
 cases t with
 | call p x y=>
   match fs,h with
   | [],h=>exact trivial
   | [a],h=>exact (qS (h a [] rfl)).1
   | a :: b :: [],h=>exact trivial
   | a :: b :: c :: r,h=>exact trivial
 | _=>exact trivial
theorem hld {t:T68} {fs:List Kd} (h:H1 t fs) (N:Al) (hn:∀ p x,t = .name p x→(aq N (.inr x)).isSome=true):Hld t fs N:=by
 cases t with
 | call p x y=>
   cases fs with
   | nil=>exact trivial
   | cons a r=>exact (qS (h a r rfl)).2
 | att p x y=>
   cases fs with
   | nil=>exact trivial
   | cons a r=>have h:=h a r rfl;cases a <;> first | rfl | cases h
 | one p x=>
   cases fs with
   | nil=>exact trivial
   | cons a r=>have h:=h a r rfl;cases a <;> first | rfl | cases h
 | two p x=>
   cases fs with
   | nil=>exact trivial
   | cons a r=>have h:=h a r rfl;cases a <;> first | rfl | cases h
 | name p x=>exact hn p x rfl
 | _=>exact trivial
def LkR (n:Nat) (kd wd:Al) (c:Res):LR→Prop
 | .ok (k,kd',wd')=>k.dep≤4∧kd'.length≤kd.length+nb n∧wd'.length≤wd.length+wb n∧c = .ok k.toD (ls kd' wd')
 | .error e=>∃ kd' wd',c = .exc e.cls e.ds (ls kd' wd')
theorem gQ:∀ k:Kd,noL k.toD=true
 | .whole=>rfl
 | .truth=>rfl
 | .unt=>rfl
 | .row a=>by show (true && (noL a.toD && true))=true;rw [gQ a];rfl
 | .to a b=>by show (true && (noL a.toD && (noL b.toD && true)))=true;rw [gQ a,gQ b];rfl
 | .pair a b=>by show (true && (noL a.toD && (noL b.toD && true)))=true;rw [gQ a,gQ b];rfl
theorem jS:∀ l:Al,fE (dsA l)=true
 | []=>rfl
 | p :: r=>by show (noL p.2.toD && fE (dsA r))=true;rw [gQ,jS r];rfl
theorem mG (d:D) (h:noL d=true) (kd wd:Al):(noL d && (ls kd wd).all lb)=true:=by
 rw [h]
 show (true && (true && (fE (dsA kd) && (fE (dsA wd) && true))))=true
 rw [jS,jS];rfl
abbrev wB:S:=cG dO.body
abbrev kB:S:=cG (tlS 1 dO.body)
theorem oR (t:T68) (N:Al) (hs:Sm t.pl) (m:Nat) (S:List O):∀ (ks:List Kd) (e:Option D),(∀ k∈ks,k.dep+2≤m)→∃ e':Option D,aI (c8 Γ (aa Γ m) (az Γ m) [3] true wB) (ks.map Kd.toD) ⟨[some (.ref 0),some t.toD,some (dA N),e,none,none,none,none],[],S⟩=if ks.any (fun k=>decide (4<k.dep))=true then .exc 3 [.int t.pl] ⟨[some (.ref 0),some t.toD,some (dA N),e',none,none,none,none],[],S⟩ else .nx ⟨[some (.ref 0),some t.toD,some (dA N),e',none,none,none,none],[],S⟩
 | [],e,_=>⟨e,rfl⟩
 | k :: r,e,h=>by
   have n1:=nsh t k hs m (h k (by simp)) S
   by_cases c:4<k.dep
   ·rw [if_pos c] at n1
    refine ⟨some k.toD,?_⟩
    rw [if_pos (by simp [c])]
    refine gA (aD rfl ?_) (fun s h=>by cases h)
    exact (bA false (aX 0 (n1) aZ) (by kernel_rfl))
   ·rw [if_neg c] at n1
    obtain ⟨e',h2⟩:=oR t N hs m S r (some k.toD) (fun k hk=>h k (by simp [hk]))
    refine ⟨e',?_⟩
    rw [show ((k :: r).any fun k=>decide (4<k.dep))=(r.any fun k=>decide (4<k.dep)) by simp [c]]
    refine aA (s1:=⟨[some (.ref 0),some t.toD,some (dA N),some k.toD,none,none,none,none],[],S⟩) (aD rfl ?_) h2
    exact (bA false (aX 0 (n1) aZ) (by kernel_rfl))
def xt:T68→Nat
 | .iff ..=>2
 | _=>1
theorem wy (t:T68):1≤xt t∧xt t≤2:=by cases t <;> exact ⟨Nat.le_of_ble_eq_true rfl,Nat.le_of_ble_eq_true rfl⟩
theorem qZ {t y:T68} {fs:List Kd} {wd wd':Al} (h:cW t y fs wd = .ok wd'):wd'.length≤wd.length+xt t:=by
 by_cases h3:gC t fs=true
 ·match t,fs,h3 with
  | .iff p c a b,[f0,f,g],_=>
    rw [d6] at h
    cases q:g.par f with
    | some w=>rw [q] at h;cases h
    | none=>
      rw [q] at h;cases h
      have:=ba (ah wd (.inl a.pl) (f.join g)) (.inl b.pl) (f.join g)
      have:=ba wd (.inl a.pl) (f.join g)
      show _≤wd.length+2;omega
 ·rw [fK (by simpa using h3)] at h
  cases q:(fs.getLastD .unt).par (aY t fs) with
  | some w=>rw [q] at h;cases h
  | none=>
    rw [q] at h;cases h
    have:=ba wd (.inl y.pl) (aY t fs)
    have:=wy t
    omega
theorem uc {t y:T68} {k:Kd} {wd wd':Al} (h:cW t y [k] wd = .ok wd'):k.par (aY t [k])=none:=by
 have h:(match k.par (aY t [k]) with | some w=>.error (.parted y.pl k t.pl (aY t [k]) w) | none=>.ok (ah wd (.inl y.pl) (aY t [k])):Except Er Al) = .ok wd':=by
  cases t <;> exact h
 cases q:k.par (aY t [k]) with
 | some w=>rw [q] at h;cases h
 | none=>rfl
def kst (t:T68) (N:Al) (e3:Option D) (fs:List Kd) (e5 e6:Option D) (kd wd:Al):Sta:=⟨[some (.ref 0),some t.toD,some (dA N),e3,some (.lst (dsK fs)),e5,e6,none],[4],ls kd wd⟩
def KdR (t:T68) (N:Al) (e3:Option D) (n l:Nat) (kd wd:Al) (c:ao):Except Er (List Kd×Al×Al)→Prop
 | .ok (fs,kd',wd')=>(∀ k∈fs,k.dep≤4)∧H1 t fs∧kd'.length≤kd.length+l * nb n∧wd'.length≤wd.length+l * (wb n+xt t)∧∃ e5 e6,c = .nx (kst t N e3 fs e5 e6 kd' wd')
 | .error e=>∃ env ow kd' wd',c = .exc e.cls e.ds ⟨env,ow,ls kd' wd'⟩
def LkI (W:List Str) (n m:Nat):Prop:=∀ (y:T68) (N kd wd:Al) (bs:List Str),Ok W n bs y→NK N bs n→kd.length+nb n<90000→wd.length+wb n<90000→LkR n kd wd (aa Γ m ir [.ref 0,y.toD,dA N] (ls kd wd)) (lkM n y N kd wd)
theorem nH {W:List Str} {n m:Nat} (hm:9≤m) (ih:LkI W n m) (t:T68) (N:Al) (bs:List Str) (ot:Ok W (n+1) bs t) (hw4:∀ k∈wks t,k.dep≤4) (nk:NK N bs (n+1)) (e3:Option D):∀ (r:List T68) (fs:List Kd) (kd wd:Al) (e5 e6:Option D),(∀ j y,r[j]? = some y→(aj t)[fs.length+j]? = some y)→H1 t fs→(∀ k∈fs,k.dep≤4)→kd.length+r.length * nb n<90000→wd.length+r.length * (wb n+xt t)<90000→fs.length+r.length<1000 →
 KdR t N e3 n r.length kd wd (aI (c8 Γ (aa Γ m) (az Γ m) [5,6] false kB) (bR (fs.length:Nat) (toDs r)) (kst t N e3 fs e5 e6 kd wd)) (cy (lkM n) t N r fs kd wd)
 | [],fs,kd,wd,e5,e6,_,h1,hf,_,_,_=>⟨hf,h1,by simp,by simp,e5,e6,rfl⟩
 | y :: r,fs,kd,wd,e5,e6,hr,h1,hf,hk,hw,hl=>by
   obtain ⟨o1,o2,o3,o4⟩:=ot
   have hy:(aj t)[fs.length]? = some y:=hr 0 y rfl
   have oy:=o4 _ _ hy
   have ny:=nk.inN hw4 hf fs.length
   simp only [List.length_cons,Nat.add_mul,Nat.one_mul] at hk hw hl
   have x1:=wy t
   obtain ⟨q,rfl⟩:∃ q,m=q+9:=⟨m - 9,by omega⟩
   have b1:=bw t fs.length y hy fs rfl N (by have:=nk.few;omega) (q+8) (ls kd wd)
   have nl:=mG (dA (inN t fs.length fs N)) (jS _) kd wd
   have i1:=ih y (inN t fs.length fs N) kd wd (bs ++ bnd t fs.length) oy ny (by omega) (by omega)
   have l0:decide ((dsK fs).length<100000)=true:=decide_eq_true (by rw [List.length_map];omega)
   unfold cy
   cases q1:lkM n y (inN t fs.length fs N) kd wd with
   | error e=>
     rw [q1] at i1
     obtain ⟨kd',wd',i1⟩:=i1
     refine ⟨[some (.ref 0),some t.toD,some (dA N),e3,some (.lst (dsK fs)),some (.int fs.length),some y.toD,none],[4],kd',wd',?_⟩
     refine gA (aD rfl ?_) (fun s h=>by cases h)
     exact (bA false (aX 0 (b1) (aX 0 (nl) (aX 0 (i1) aZ))) (by kernel_rfl))
   | ok v=>
     obtain ⟨k,kd1,wd1⟩:=v
     rw [q1] at i1
     obtain ⟨dk,lk1,lw1,i1⟩:=i1
     have sy:Sm y.pl:=by
      cases n with
      | zero=>exact oy.elim
      | succ n=>exact oy.2.1
     have sk:∀ z∈aj t,Sm z.pl:=fun z hz=>by
      obtain ⟨j,hj⟩:=List.mem_iff_getElem?.mp hz
      have oz:=o4 j z hj
      cases n with
      | zero=>exact oz.elim
      | succ n=>exact oz.2.1
     have hf2:∀ k'∈fs ++ [k],k'.dep≤4:=fun k' h=>by
      rcases List.mem_append.mp h with h | h
      ·exact hf k' h
      ·rw [List.mem_singleton.mp h];exact dk
     have h2:=ud t y fs.length hy (fs ++ [k]) (by simp) (cl2 h1 k) sy o2 sk hf2 kd1 wd1 (by omega) q
     have ek:dsK fs ++ [k.toD]=dsK (fs ++ [k]):=by simp [dsK]
     rw [← ek] at h2
     have nl2:=mG .non rfl kd1
     dsimp only
     cases q2:cW t y (fs ++ [k]) wd1 with
     | error e=>
       rw [q2] at h2
       refine ⟨[some (.ref 0),some t.toD,some (dA N),e3,some (.lst (dsK fs ++ [k.toD])),some (.int fs.length),some y.toD,none],[],kd1,wd1,?_⟩
       refine gA (aD rfl ?_) (fun s h=>by cases h)
       exact (bA false (aX 0 (b1) (aX 0 (nl) (aX 0 (i1) (aX 0 (l0) (aX 0 (h2) aZ))))) (by kernel_rfl))
     | ok wd2=>
       rw [q2] at h2
       have hl2:=qZ q2
       have i2:=nH hm ih t N bs ⟨o1,o2,o3,o4⟩ hw4 nk e3 r (fs ++ [k]) kd1 wd2 (some (.int fs.length)) (some y.toD) (fun j z hz=>by rw [List.length_append,List.length_singleton,Nat.add_assoc,Nat.add_comm 1];exact hr (j+1) z hz) (by
        intro a r' e
        cases fs with
        | nil=>cases e;exact uc q2
        | cons a' r''=>cases e;exact h1 a _ rfl) hf2 (by omega) (by omega) (by rw [List.length_append,List.length_singleton];omega)
       have st:c8 Γ (aa Γ (q+9)) (az Γ (q+9)) [5,6] false kB (.tup [.int fs.length,y.toD]) (kst t N e3 fs e5 e6 kd wd) = .nx (kst t N e3 (fs ++ [k]) (some (.int fs.length)) (some y.toD) kd1 wd2):=by
        unfold kst
        rw [← ek]
        refine aD rfl ?_
        exact (bA false (aX 0 (b1) (aX 0 (nl) (aX 0 (i1) (aX 0 (l0) (aX 0 (h2) (aX 0 (nl2 wd2) aZ)))))) (by kernel_rfl))
       have go:aI (c8 Γ (aa Γ (q+9)) (az Γ (q+9)) [5,6] false kB) (bR (fs.length:Nat) (toDs (y :: r))) (kst t N e3 fs e5 e6 kd wd)=aI (c8 Γ (aa Γ (q+9)) (az Γ (q+9)) [5,6] false kB) (bR ((fs ++ [k]).length:Nat) (toDs r)) (kst t N e3 (fs ++ [k]) (some (.int fs.length)) (some y.toD) kd1 wd2):=by
        refine aA st ?_
        rw [List.length_append];rfl
       rw [go]
       dsimp only
       cases q3:cy (lkM n) t N r (fs ++ [k]) kd1 wd2 with
       | error e=>rw [q3] at i2;exact i2
       | ok v=>
         obtain ⟨fs',kd',wd'⟩:=v
         rw [q3] at i2
         obtain ⟨a1,a2,a3,a4,a5⟩:=i2
         refine ⟨a1,a2,?_,?_,a5⟩
         ·simp only [List.length_cons,Nat.add_mul,Nat.one_mul];omega
         ·simp only [List.length_cons,Nat.add_mul,Nat.one_mul];omega
theorem lj {W bs:List Str} {t:T68} (h:own W bs t):∀ p x,t = .name p x→x∈bs:=fun p x e=>by subst e;exact h
theorem vB {W bs:List Str} {t:T68} (h:own W bs t) (n:Nat) (hn:aj t = []∨1≤n):(aj t).length * (wb n+xt t)≤wb (n+1):=by
 have l:=bT h
 show _≤4 * wb n+4
 rcases hn with e | hn
 ·rw [e];simp
 ·have w4:4≤wb n:=by
   cases n with
   | zero=>omega
   | succ n=>show 4≤4 * wb n+4;omega
  cases t with
  | iff p c a b=>show 3 * (wb n+2)≤_;omega
  | _=>exact Nat.le_trans (Nat.mul_le_mul_right _ l) (by show 4 * (wb n+1)≤_;omega)
theorem rq {W:List Str} {bs:List Str} {n:Nat} {t:T68} (h:∀ i k,(aj t)[i]? = some k→Ok W n (bs ++ bnd t i) k):aj t = []∨1≤n:=by
 cases n with
 | succ n=>exact .inr (by omega)
 | zero=>
   cases q:aj t with
   | nil=>exact .inl rfl
   | cons a r=>rw [q] at h;exact (h 0 a rfl).elim
theorem iV {f:T68→Al→Al→Al→LR} {t:T68} {N:Al}:∀ (r:List T68) (fs:List Kd) (kd wd:Al) {v:List Kd×Al×Al},cy f t N r fs kd wd = .ok v→v.1.length=fs.length+r.length
 | [],fs,kd,wd,v,h=>by cases h;rfl
 | y :: r,fs,kd,wd,v,h=>by
   unfold cy at h
   cases q1:f y (inN t fs.length fs N) kd wd with
   | error e=>rw [q1] at h;cases h
   | ok w=>
     obtain ⟨k,kd1,wd1⟩:=w
     rw [q1] at h
     dsimp only at h
     cases q2:cW t y (fs ++ [k]) wd1 with
     | error e=>rw [q2] at h;cases h
     | ok wd2=>
       rw [q2] at h
       have:=iV r _ _ _ h
       rw [this,List.length_append,List.length_singleton,List.length_cons];omega
theorem oO {a b:Kd} {x:Sp} (h:a.stp x=some b):b.dep≤a.dep:=by
 cases a <;> cases x <;> cases h <;> first | exact Nat.le_refl _ | (unfold Kd.dep;omega) | (show _≤1+max _ _;omega) | (show _≤1+_;omega)
theorem eJ (a:Kd) (x:Sp) (h:a.dep≤5):((a.stp x).getD .unt).dep≤5:=by
 cases q:a.stp x with
 | none=>decide
 | some b=>have:=oO q;show b.dep≤5;omega
theorem cg:∀ a b:Kd,(a.join b).dep≤a.dep
 | .whole,b=>by cases b <;> exact Nat.le_refl _
 | .truth,b=>by cases b <;> exact Nat.le_refl _
 | .unt,b=>by cases b <;> exact Nat.le_refl _
 | .row a,b=>by
   cases b with
   | row c=>have:=cg a c;show 1+(a.join c).dep≤1+a.dep;omega
   | _=>show 1≤1+a.dep;omega
 | .to a a',b=>by
   cases b with
   | to c c'=>have:=cg a c;have:=cg a' c';show 1+max (a.join c).dep (a'.join c').dep≤1+max a.dep a'.dep;omega
   | _=>show 1≤1+_;omega
 | .pair a a',b=>by
   cases b with
   | pair c c'=>have:=cg a c;have:=cg a' c';show 1+max (a.join c).dep (a'.join c').dep≤1+max a.dep a'.dep;omega
   | _=>show 1≤1+_;omega
theorem b8 {β:Type} {l:AlG β} {x:Key} {k:β} (h:aq l x=some k):∃ p∈l,p.2=k:=by
 induction l with
 | nil=>cases h
 | cons p r ih=>
   have h:(if p.1=x then some p.2 else aq r x)=some k:=h
   by_cases c:p.1=x
   ·rw [if_pos c] at h;exact ⟨p,by simp,by cases h;rfl⟩
   ·rw [if_neg c] at h;obtain ⟨q,hq,e⟩:=ih h;exact ⟨q,by simp [hq],e⟩
theorem u6 {W bs:List Str} (t:T68) (ho:own W bs t) (fs:List Kd) (N:Al) (hf:∀ k∈fs,k.dep≤4) (hw:∀ k∈wks t,k.dep≤4) (hn:∀ p∈N,p.2.dep≤5):(cm t fs N).dep≤5:=by
 have u:Kd.unt.dep≤5:=by decide
 cases t with
 | call p a b=>cases fs with
   | nil=>exact u
   | cons k r=>have:=hf k (by simp);exact eJ k .res (by omega)
 | att p a b=>cases fs with
   | nil=>exact u
   | cons k r=>have:=hf k (by simp);exact eJ k .item (by omega)
 | one p a=>cases fs with
   | nil=>exact u
   | cons k r=>have:=hf k (by simp);exact eJ k .one (by omega)
 | two p a=>cases fs with
   | nil=>exact u
   | cons k r=>have:=hf k (by simp);exact eJ k .two (by omega)
 | name p x=>
   show ((aq N (.inr x)).getD .unt).dep≤5
   cases q:aq N (.inr x) with
   | none=>exact u
   | some k=>obtain ⟨r,hr,e⟩:=b8 q;rw [← e];exact hn r hr
 | fn p x k b=>
   have h1:=hw k (by simp [wks])
   match fs,hf with
   | [],_=>exact u
   | c :: r,hf=>have:=hf c (by simp);show 1+max k.dep c.dep≤5;omega
 | slf p f x k g b=>
   have h1:=hw k (by simp [wks])
   have h2:=hw g (by simp [wks])
   show 1+max k.dep g.dep≤5;omega
 | lt p x a b=>
   match fs,hf with
   | [],_=>exact u
   | [c],_=>exact u
   | [c,d],hf=>have:=hf d (by simp);show d.dep≤5;omega
   | c :: d :: e :: r,_=>exact u
 | iff p c a b=>
   match fs,hf with
   | [],_=>exact u
   | [c],_=>exact u
   | [c,d],hf=>exact u
   | [c,d,e],hf=>have:=hf d (by simp);have:=cg d e;show (d.join e).dep≤5;omega
   | c :: d :: e :: f :: r,_=>exact u
 | bin p o a b=>cases o <;> exact Nat.le_of_ble_eq_true rfl
 | row p k ts=>have h1:=hw k (by simp [wks]);show 1+k.dep≤5;omega
 | pair p a b=>
   match fs,hf with
   | [],_=>exact u
   | [c],_=>exact u
   | [c,d],hf=>have:=hf d (by simp);have:=hf c (by simp);show 1+max c.dep d.dep≤5;omega
   | c :: d :: e :: r,_=>exact u
 | as_ p k a=>have h1:=hw k (by simp [wks]);show k.dep≤5;omega
 | lk p k l a=>exact absurd ho id
 | _=>exact Nat.le_of_ble_eq_true rfl
theorem nP (W:List Str):∀ n m,n+10≤m→LkI W n m
 | 0,m,hm=>fun y N kd wd bs oy nk hk hw=>oy.elim
 | n+1,m,hm=>by
   intro t N kd wd bs ot nk hk hw
   obtain ⟨m,rfl⟩:∃ k,m=k+1:=⟨m - 1,by omega⟩
   have ih:=nP W n m (by omega)
   have ot':=ot
   obtain ⟨o1,o2,o3,o4⟩:=ot
   obtain ⟨q,rfl⟩:∃ q,m=q+10:=⟨m - 10,by omega⟩
   have w0:=BH t (q+7) (ls kd wd)
   obtain ⟨e3,w1⟩:=oR t N o2 (q+10) (ls kd wd) (wks t) none (fun k hk=>by have:=o3 k hk;omega)
   unfold lkM
   by_cases c:(wks t).any (fun k=>decide (4<k.dep))=true
   ·rw [if_pos c] at w1 ⊢
    exact ⟨kd,wd,(ac true (aX 0 (w0) (aX 0 (w1) aZ)) (by kernel_rfl))⟩
   ·rw [if_neg c] at w1 ⊢
    have hw4:∀ k∈wks t,k.dep≤4:=fun k hk=>by
     have:¬ 4<k.dep:=fun h=>c (List.any_eq_true.mpr ⟨k,hk,decide_eq_true h⟩)
     omega
    have p0:=eX t (q+7) (ls kd wd)
    have kl:=bT o1
    have xk:=vB o1 n (rq o4)
    have nk1:nb (n+1)=1+4 * nb n:=rfl
    have kl2:(aj t).length * nb n≤4 * nb n:=Nat.mul_le_mul_right _ kl
    have lp:=nH (m:=q+10) (by omega) ih t N bs ot' hw4 nk e3 (aj t) [] kd wd none none (fun j y h=>by rw [List.length_nil,Nat.zero_add];exact h) (fun a r h=>by cases h) (fun k h=>by cases h) (by omega) (by omega) (by simp only [List.length_nil];omega)
    cases q1:cy (lkM n) t N (aj t) [] kd wd with
    | error e=>
      rw [q1] at lp
      obtain ⟨env,ow,kd',wd',lp⟩:=lp
      exact ⟨kd',wd',(ac true (aX 0 (w0) (aX 0 (w1) (aX 0 (p0) (aX 0 (lp) aZ)))) (by kernel_rfl))⟩
    | ok v=>
      obtain ⟨fs,kd1,wd1⟩:=v
      rw [q1] at lp
      obtain ⟨a1,a2,a3,a4,e5,e6,lp⟩:=lp
      have fl:fs.length=(aj t).length:=by have:=iV _ _ _ _ q1;simpa using this
      have ow:=yn t fs fl N (hld a2 N (fun p x e=>nk.has x (lj o1 p x e))) 4 a1 (q+10) (by omega) (ls kd1 wd1)
      have od:(cm t fs N).dep≤5:=u6 t o1 fs N a1 hw4 nk.dp
      have n1:=nsh t (cm t fs N) o2 (q+10) (by omega) (ls kd1 wd1)
      dsimp only
      have nl:=mG (cm t fs N).toD (gQ _) kd1 wd1
      by_cases c2:4<(cm t fs N).dep
      ·rw [if_pos c2] at n1 ⊢
       exact ⟨kd1,wd1,(ac true (aX 0 (w0) (aX 0 (w1) (aX 0 (p0) (aX 0 (lp) (aX 0 (ow) (aX 0 (nl) (aX 0 (n1) aZ))))))) (by kernel_rfl))⟩
      ·rw [if_neg c2] at n1 ⊢
       have pl:=ba kd1 (.inl t.pl) (cm t fs N)
       have e1:ev Γ (aa Γ (q+10)) (az Γ (q+10)) true (.ix (.v 1) (.c (.int 1))) ⟨[some (.ref 0),some t.toD,some (dA N),e3,some (.lst (dsK fs)),e5,e6,some (cm t fs N).toD],[4],ls kd1 wd1⟩ = .ok (.int t.pl) ⟨[some (.ref 0),some t.toD,some (dA N),e3,some (.lst (dsK fs)),e5,e6,some (cm t fs N).toD],[4],ls kd1 wd1⟩:=(eP false (aX 0 (bP t (ls kd1 wd1)) aZ) (by kernel_rfl))
       have pt:=oF (Γ:=Γ) (cal:=aa Γ (q+10)) (cal1:=az Γ (q+10)) (x:=.v 0) (f:=5) (e:=.v 7) (s:=⟨[some (.ref 0),some t.toD,some (dA N),e3,some (.lst (dsK fs)),e5,e6,some (cm t fs N).toD],[4],ls kd1 wd1⟩) (o:=oA kd1) (n:=1) rfl rfl e1 rfl (sJ kd1 t.pl (cm t fs N) (by omega))
       refine ⟨by omega,by omega,by omega,(ac true (aX 0 (w0) (aX 0 (w1) (aX 0 (p0) (aX 0 (lp) (aX 0 (ow) (aX 0 (nl) (aX 0 (n1) (aX 0 (pt) aZ)))))))) (by kernel_rfl))⟩
abbrev nB:S:=cG jp.body
theorem wI (bs l:List Str) (h:bs.length+l.length≤1000):opD .add (.tup (sts bs)) (.tup (sts l))=some (.tup (sts (bs ++ l))):=by
 show cD ((sts bs).length+(sts l).length) _=_
 unfold cD sts
 rw [if_pos (by simp;omega),List.map_append]
theorem tN (t:T68) (i:Nat):(bnd t i).length≤2:=by
 cases t <;> first | exact Nat.le_of_ble_eq_true rfl | (rename_i a b c d;match i with | 0=>exact Nat.le_of_ble_eq_true rfl | 1=>exact Nat.le_of_ble_eq_true rfl | i+2=>exact Nat.le_of_ble_eq_true rfl)
theorem oh {W:List Str} {n m:Nat} (ih:∀ (y:T68) (bs:List Str) (S:List O),Ok W n bs y→bs.length+2 * n≤1000→aa Γ (m+4) a9 [y.toD,.tup (sts bs)] S = .ok .non S) (t:T68) (bs:List Str) (o4:∀ i k,(aj t)[i]? = some k→Ok W n (bs ++ bnd t i) k) (hb:bs.length+2 * (n+1)≤1000) (S:List O):∀ (r:List T68) (i:Nat) (e2 e3:Option D),(∀ j y,r[j]? = some y→(aj t)[i+j]? = some y)→∃ e2' e3':Option D,aI (c8 Γ (aa Γ (m+4)) (az Γ (m+4)) [2,3] false nB) (bR (i:Nat) (toDs r)) ⟨[some t.toD,some (.tup (sts bs)),e2,e3],[],S⟩ = .nx ⟨[some t.toD,some (.tup (sts bs)),e2',e3'],[],S⟩
 | [],i,e2,e3,_=>⟨e2,e3,rfl⟩
 | y :: r,i,e2,e3,hr=>by
   have hy:(aj t)[i]? = some y:=hr 0 y rfl
   have n1:=jQ t i y hy (m+3) S
   have l2:=tN t i
   have a1:=wI bs (bnd t i) (by omega)
   have i1:=ih y (bs ++ bnd t i) S (o4 i y hy) (by rw [List.length_append];omega)
   obtain ⟨e2',e3',h⟩:=oh ih t bs o4 hb S r (i+1) (some (.int i)) (some y.toD) (fun j z hz=>by rw [Nat.add_assoc,Nat.add_comm 1];exact hr (j+1) z hz)
   exact ⟨e2',e3',aA (aD rfl (bA false (aX 0 (n1) (aX 0 (a1) (aX 0 (i1) aZ))) (by kernel_rfl))) h⟩
theorem d5 {W:List Str}:∀ (n m:Nat) (y:T68) (bs:List Str) (S:List O),n+4≤m→Ok W n bs y→bs.length+2 * n≤1000→aa Γ m a9 [y.toD,.tup (sts bs)] S = .ok .non S
 | 0,m,y,bs,S,_,o,_=>o.elim
 | n+1,m,t,bs,S,hm,o,hb=>by
   obtain ⟨m,rfl⟩:∃ k,m=k+5:=⟨m - 5,by omega⟩
   obtain ⟨o1,o2,o3,o4⟩:=o
   have p0:=eX t (m+1) S
   obtain ⟨e2,e3,lp⟩:=oh (m:=m) (fun y bs S o h=>d5 n (m+4) y bs S (by omega) o h) t bs o4 hb S (aj t) 0 none none (fun j y h=>by rw [Nat.zero_add];exact h)
   cases t with
   | name p x=>exact (ac true (aX 4 (notin (lj o1 p x rfl)) (aX 0 (p0) (aX 0 (lp) aZ))) (by kernel_rfl))
   | _=>exact (ac true (aX 0 (p0) (aX 0 (lp) aZ)) (by kernel_rfl))
theorem qB (f:D→D→Option Bool):∀ l l':List Kd,(∀ a∈l,∀ b:Kd,f a.toD b.toD=some (decide (a=b)))→∃ x,cV f (dsK l) (dsK l')=some x∧(x && l.length == l'.length)=decide (l=l')
 | [],l',h=>⟨true,by cases l' <;> rfl,by cases l' <;> simp⟩
 | a :: l,[],h=>⟨true,rfl,by simp⟩
 | a :: l,b :: l',h=>by
   obtain ⟨x,h1,h2⟩:=qB f l l' (fun c hc=>h c (by simp [hc]))
   have h3:=h a (by simp) b
   refine ⟨decide (a=b) && x,?_,?_⟩
   ·show (match f a.toD b.toD with | none=>none | some x=>(cV f (dsK l) (dsK l')).map (x && ·))=_
    rw [h3,h1];rfl
   ·by_cases e:a=b
    ·subst e
     have:((a :: l).length == (a :: l').length)=(l.length == l'.length):=by simp
     rw [this];simp only [decide_true,Bool.true_and,h2];simp
    ·simp [e]
def Kd.hd:Kd→Str
 | .whole=>"whole" | .truth=>"truth" | .unt=>"?" | .to _ _=>"to" | .row _=>"row" | .pair _ _=>"pair"
def Kd.ps:Kd→List Kd
 | .to a b=>[a,b] | .row a=>[a] | .pair a b=>[a,b] | _=>[]
theorem Kd.toD_eq (a:Kd):a.toD = .tup (.str a.hd :: dsK a.ps):=by cases a <;> rfl
theorem Kd.ps_dep {a b:Kd} (h:b∈a.ps):b.dep+1≤a.dep:=by
 cases a with
 | to c d=>rcases List.mem_cons.mp h with rfl | h;(show b.dep+1≤1+max b.dep d.dep;omega);(rw [List.mem_singleton.mp h];show d.dep+1≤1+max c.dep d.dep;omega)
 | row c=>rw [List.mem_singleton.mp h];show c.dep+1≤1+c.dep;omega
 | pair c d=>rcases List.mem_cons.mp h with rfl | h;(show b.dep+1≤1+max b.dep d.dep;omega);(rw [List.mem_singleton.mp h];show d.dep+1≤1+max c.dep d.dep;omega)
 | _=>cases h
theorem Kd.ext {a b:Kd}:a=b↔a.hd=b.hd∧a.ps=b.ps:=by
 constructor
 ·intro h;subst h;exact ⟨rfl,rfl⟩
 ·rintro ⟨h1,h2⟩
  cases a <;> cases b <;> first | (cases h2;done) | (cases h2;rfl) | (exact absurd (show ("to":Str) = "pair" from h1) (by decide +kernel)) | (exact absurd (show ("pair":Str) = "to" from h1) (by decide +kernel)) | (exact absurd h1 (by decide +kernel))
theorem vp (n:Nat) (x y:Str):eqv n (.str x) (.str y)=some (decide (x=y)):=by
 have:eqv n (.str x) (.str y)=some (x == y):=by cases n <;> rfl
 rw [this]
 by_cases h:x=y
 ·subst h;simp
 ·simp [h]
theorem dh:∀ (n:Nat) (a:Kd),a.dep≤n→∀ b:Kd,eqv n a.toD b.toD=some (decide (a=b))
 | 0,a,h,b=>by cases a <;> (unfold Kd.dep at h;omega)
 | n+1,a,h,b=>by
   obtain ⟨x,h1,h2⟩:=qB (eqv n) a.ps b.ps (fun c hc d=>dh n c (by have:=Kd.ps_dep hc;omega) d)
   rw [a.toD_eq,b.toD_eq]
   show (match eqv n (.str a.hd) (.str b.hd) with | none=>none | some x=>(cV (eqv n) (dsK a.ps) (dsK b.ps)).map (x && ·)).map (· && ((D.str a.hd :: dsK a.ps).length == (D.str b.hd :: dsK b.ps).length))=_
   rw [vp,h1]
   show some ((decide (a.hd=b.hd) && x) && ((D.str a.hd :: dsK a.ps).length == (D.str b.hd :: dsK b.ps).length))=_
   have e:((D.str a.hd :: dsK a.ps).length == (D.str b.hd :: dsK b.ps).length)=(a.ps.length == b.ps.length):=by simp [dsK]
   rw [e,Bool.and_assoc,h2]
   congr 1
   by_cases q:a=b
   ·subst q;simp
   ·rw [decide_eq_false q]
    by_cases q1:a.hd=b.hd
    ·have:a.ps≠b.ps:=fun z=>q (Kd.ext.mpr ⟨q1,z⟩)
     simp [this]
    ·simp [q1]
def ar:Nat→T68→List Int
 | 0,_=>[]
 | n+1,t=>t.pl :: (aj t).flatMap (ar n)
theorem cz {W:List Str}:∀ (n:Nat) (bs:List Str) (t:T68),Ok W n bs t→(ar n t).length≤nb n
 | 0,bs,t,o=>o.elim
 | n+1,bs,t,⟨o1,_,_,o4⟩=>by
   have kl:=bT o1
   have f:∀ l:List T68,(∀ y∈l,(ar n y).length≤nb n)→(l.flatMap (ar n)).length≤l.length * nb n:=by
    intro l
    induction l with
    | nil=>intro _;simp
    | cons y r ih=>
      intro h
      rw [List.flatMap_cons,List.length_append,List.length_cons,Nat.add_mul]
      have:=h y (by simp);have:=ih (fun z hz=>h z (by simp [hz]));omega
   have h:=f (aj t) (fun y hy=>by obtain ⟨i,hi⟩:=List.mem_iff_getElem?.mp hy;exact cz n _ y (o4 i y hi))
   have:(aj t).length * nb n≤4 * nb n:=Nat.mul_le_mul_right _ kl
   show ((aj t).flatMap (ar n)).length+1≤1+4 * nb n;omega
def dsI (l:List Int):List D:=l.map D.int
abbrev pB:S:=cG qF.body
theorem oB {W:List Str} {n m:Nat} (ih:∀ (y:T68) (bs:List Str) (S:List O),Ok W n bs y→aa Γ m kN [y.toD] S = .ok (.lst (dsI (ar n y))) S) (t:T68) (S:List O):∀ (r:List T68) (acc:List Int) (e2:Option D),(∀ y∈r,∃ bs,Ok W n bs y)→acc.length+r.length * nb n≤100000→∃ e2':Option D,aI (c8 Γ (aa Γ m) (az Γ m) [2] true pB) (toDs r) ⟨[some t.toD,some (.lst (dsI acc)),e2],[1],S⟩ = .nx ⟨[some t.toD,some (.lst (dsI (acc ++ r.flatMap (ar n)))),e2'],[1],S⟩
 | [],acc,e2,_,_=>⟨e2,by simp [aI,toDs]⟩
 | y :: r,acc,e2,hr,hl=>by
   obtain ⟨bs,oy⟩:=hr y (by simp)
   have i1:=ih y bs S oy
   have pl:=cz n bs y oy
   simp only [List.length_cons,Nat.add_mul,Nat.one_mul] at hl
   obtain ⟨e2',h⟩:=oB ih t S r (acc ++ ar n y) (some y.toD) (fun z hz=>hr z (by simp [hz])) (by rw [List.length_append];omega)
   have l0:decide ((dsI acc).length+(dsI (ar n y)).length≤100000)=true:=decide_eq_true (by unfold dsI;rw [List.length_map,List.length_map];omega)
   refine ⟨e2',aA (s1:=⟨[some t.toD,some (.lst (dsI (acc ++ ar n y))),some y.toD],[1],S⟩) (aD rfl ?_) ?_⟩
   ·have e:dsI (acc ++ ar n y)=dsI acc ++ dsI (ar n y):=by unfold dsI;exact List.map_append
    rw [e]
    exact (bA false (aX 0 (i1) (aX 0 (l0) aZ)) (by kernel_rfl))
   ·rw [h,List.append_assoc,List.flatMap_cons]
theorem eY {W:List Str}:∀ (n m:Nat) (t:T68) (bs:List Str) (S:List O),n+4≤m→n≤8→Ok W n bs t→aa Γ m kN [t.toD] S = .ok (.lst (dsI (ar n t))) S
 | 0,m,t,bs,S,_,_,o=>o.elim
 | n+1,m,t,bs,S,hm,h8,o=>by
   obtain ⟨m,rfl⟩:∃ k,m=k+5:=⟨m - 5,by omega⟩
   obtain ⟨o1,o2,o3,o4⟩:=o
   have p0:=eX t (m+1) S
   have kl:=bT o1
   have nb8:nb n≤5461:=by
    have:∀ k,k≤7→nb k≤5461:=by decide
    exact this n (by omega)
   have kn:(aj t).length * nb n≤4 * nb n:=Nat.mul_le_mul_right _ kl
   obtain ⟨e2,lp⟩:=oB (m:=m+4) (fun y bs S o=>eY n (m+4) y bs S (by omega) (by omega) o) t S (aj t) [t.pl] none (fun y hy=>by obtain ⟨i,hi⟩:=List.mem_iff_getElem?.mp hy;exact ⟨_,o4 i y hi⟩) (by simp only [List.length_singleton];omega)
   exact (ac true (aX 0 (bP t S) (aX 0 (p0) (aX 0 (lp) aZ))) (by kernel_rfl))
structure GI (kd wd kd' wd':Al) (ps qs:List Int):Prop where
 kk:∀ x,(aq kd x).isSome=true→(aq kd' x).isSome=true
 ww:∀ x,(aq wd x).isSome=true→(aq wd' x).isSome=true
 kp:∀ p∈ps,(aq kd' (.inl p)).isSome=true
 wp:∀ p∈qs,(aq wd' (.inl p)).isSome=true
 kd4:(∀ p∈kd,p.2.dep≤4)→∀ p∈kd',p.2.dep≤4
 wd4:(∀ p∈wd,p.2.dep≤4)→∀ p∈wd',p.2.dep≤4
theorem b5 {l:Al} {k:Key} {v:Kd} {x:Key} (h:(aq l x).isSome=true):(aq (ah l k v) x).isSome=true:=by
 rw [cL];split
 ·rfl
 ·exact h
theorem fS {l:Al} {k:Key} {v:Kd}:(aq (ah l k v) k).isSome=true:=by rw [cL,if_pos rfl];rfl
theorem lK (t:T68) (fs:List Kd) (hf:∀ k∈fs,k.dep≤4) (hw:∀ k∈wks t,k.dep≤4):(aY t fs).dep≤4:=by
 have la:(fs.getLastD .unt).dep≤4:=by
  cases fs with
  | nil=>decide
  | cons a r=>exact hf _ (kQ (a :: r) r.length rfl)
 have s4:∀ (a:Kd) (x:Sp),a∈fs→((a.stp x).getD .unt).dep≤4:=fun a x ha=>by
  cases q:a.stp x with
  | none=>decide
  | some b=>have:=oO q;have:=hf a ha;show b.dep≤4;omega
 cases t with
 | bin p o a b=>exact Nat.le_of_ble_eq_true rfl
 | row p k ts=>exact hw k (by simp [wks])
 | as_ p k a=>exact hw k (by simp [wks])
 | slf p f x k g b=>exact hw g (by simp [wks])
 | iff p c a b=>
   match fs,hf,la with
   | [c],_,_=>exact Nat.le_of_ble_eq_true rfl
   | [],_,la=>exact la
   | a :: b :: r,_,la=>exact la
 | call p a b=>
   match fs,hf,la,s4 with
   | [],_,la,_=>exact la
   | [c],hf,_,_=>have:=hf c (by simp);cases c <;> first | exact this | exact Nat.le_of_ble_eq_true rfl
   | [c,d],_,_,s4=>exact s4 c .arg (by simp)
   | a :: b :: c :: r,_,la,_=>exact la
 | att p a b=>
   match fs,hf,la with
   | [],_,la=>exact la
   | [c],hf,_=>have:=hf c (by simp);cases c <;> first | exact this | exact Nat.le_of_ble_eq_true rfl
   | [c,d],_,_=>exact Nat.le_of_ble_eq_true rfl
   | a :: b :: c :: r,_,la=>exact la
 | size p a=>
   match fs,hf,la with
   | [],_,la=>exact la
   | [c],hf,_=>have:=hf c (by simp);cases c <;> first | exact this | exact Nat.le_of_ble_eq_true rfl
   | a :: b :: r,_,la=>exact la
 | one p a=>
   match fs,hf,la with
   | [],_,la=>exact la
   | [c],hf,_=>have:=hf c (by simp);cases c <;> first | exact this | exact Nat.le_of_ble_eq_true rfl
   | a :: b :: r,_,la=>exact la
 | two p a=>
   match fs,hf,la with
   | [],_,la=>exact la
   | [c],hf,_=>have:=hf c (by simp);cases c <;> first | exact this | exact Nat.le_of_ble_eq_true rfl
   | a :: b :: r,_,la=>exact la
 | _=>exact la
theorem qX {t y:T68} {fs:List Kd} {wd wd':Al} (h:cW t y fs wd = .ok wd') (hf:∀ k∈fs,k.dep≤4) (hw:∀ k∈wks t,k.dep≤4) (h4:∀ p∈wd,p.2.dep≤4):∀ p∈wd',p.2.dep≤4:=by
 by_cases h3:gC t fs=true
 ·match t,fs,h3 with
  | .iff p c a b,[f0,f,g],_=>
    rw [d6] at h
    cases q:g.par f with
    | some w=>rw [q] at h;cases h
    | none=>
      rw [q] at h;cases h
      have:=cg f g
      have:=hf f (by simp)
      exact bQ (P:=fun k=>k.dep≤4) (bQ (P:=fun k=>k.dep≤4) h4 (by omega)) (by omega)
 ·rw [fK (by simpa using h3)] at h
  cases q:(fs.getLastD .unt).par (aY t fs) with
  | some w=>rw [q] at h;cases h
  | none=>rw [q] at h;cases h;exact bQ (P:=fun k=>k.dep≤4) h4 (lK t fs hf hw)
theorem qY {t y:T68} {fs:List Kd} {wd wd':Al} (h:cW t y fs wd = .ok wd') (hy:∀ p c a b,t = .iff p c a b→fs.length=3→y=b):(∀ x,(aq wd x).isSome=true→(aq wd' x).isSome=true)∧(aq wd' (.inl y.pl)).isSome=true:=by
 by_cases h3:gC t fs=true
 ·match t,fs,h3,hy with
  | .iff p c a b,[f0,f,g],_,hy=>
    have hy:=hy p c a b rfl rfl
    subst hy
    rw [d6] at h
    cases q:g.par f with
    | some w=>rw [q] at h;cases h
    | none=>rw [q] at h;cases h;exact ⟨fun x hx=>b5 (b5 hx),fS⟩
 ·rw [fK (by simpa using h3)] at h
  cases q:(fs.getLastD .unt).par (aY t fs) with
  | some w=>rw [q] at h;cases h
  | none=>rw [q] at h;cases h;exact ⟨fun x hx=>b5 hx,fS⟩
theorem GI.trans {a b a1 b1 a2 b2:Al} {ps qs ps' qs':List Int} (h:GI a b a1 b1 ps qs) (h':GI a1 b1 a2 b2 ps' qs'):GI a b a2 b2 (ps ++ ps') (qs ++ qs'):=⟨fun x hx=>h'.kk x (h.kk x hx),fun x hx=>h'.ww x (h.ww x hx),
 fun p hp=>by
  rcases List.mem_append.mp hp with hp | hp
  ·exact h'.kk _ (h.kp p hp)
  ·exact h'.kp p hp,
 fun p hp=>by
  rcases List.mem_append.mp hp with hp | hp
  ·exact h'.ww _ (h.wp p hp)
  ·exact h'.wp p hp,fun q=>h'.kd4 (h.kd4 q),fun q=>h'.wd4 (h.wd4 q)⟩
theorem rc {t:T68} {fs:List Kd} {y:T68} {k:Kd} (hy:(aj t)[fs.length]? = some y):∀ p c a b,t = .iff p c a b→(fs ++ [k]).length=3→y=b:=by
 intro p c a b e h
 subst e
 rw [List.length_append,List.length_singleton] at h
 rw [show fs.length=2 by omega] at hy
 cases hy;rfl
theorem nJ {n:Nat} (ih:∀ y N kd wd k kd' wd',lkM n y N kd wd = .ok (k,kd',wd')→k.dep≤4∧GI kd wd kd' wd' (ar n y) (ar n y).tail) (hn:1≤n) (t:T68) (hw4:∀ k∈wks t,k.dep≤4) (N:Al):∀ (r:List T68) (fs:List Kd) (kd wd:Al) {v:List Kd×Al×Al},(∀ k∈fs,k.dep≤4)→(∀ j y,r[j]? = some y→(aj t)[fs.length+j]? = some y)→cy (lkM n) t N r fs kd wd = .ok v→GI kd wd v.2.1 v.2.2 (r.flatMap (ar n)) (r.flatMap (ar n))
 | [],fs,kd,wd,v,_,_,h=>by cases h;exact ⟨fun _ h=>h,fun _ h=>h,fun _ h=>(by cases h),fun _ h=>(by cases h),fun h=>h,fun h=>h⟩
 | y :: r,fs,kd,wd,v,hf,hr,h=>by
   unfold cy at h
   cases q1:lkM n y (inN t fs.length fs N) kd wd with
   | error e=>rw [q1] at h;cases h
   | ok w=>
     obtain ⟨k,kd1,wd1⟩:=w
     rw [q1] at h
     dsimp only at h
     cases q2:cW t y (fs ++ [k]) wd1 with
     | error e=>rw [q2] at h;cases h
     | ok wd2=>
       rw [q2] at h
       obtain ⟨k4,g1⟩:=ih y _ _ _ _ _ _ q1
       have hf2:∀ k'∈fs ++ [k],k'.dep≤4:=fun k' h=>by
        rcases List.mem_append.mp h with h | h
        ·exact hf k' h
        ·rw [List.mem_singleton.mp h];exact k4
       obtain ⟨h1,h2⟩:=qY q2 (rc (hr 0 y rfl))
       have g2:=nJ ih hn t hw4 N r (fs ++ [k]) kd1 wd2 hf2 (fun j z hz=>by rw [List.length_append,List.length_singleton,Nat.add_assoc,Nat.add_comm 1];exact hr (j+1) z hz) h
       rw [List.flatMap_cons]
       refine GI.trans (a1:=kd1) (b1:=wd2) ⟨g1.kk,fun x hx=>h1 x (g1.ww x hx),g1.kp,fun p hp=>?_,g1.kd4,fun h4=>qX q2 hf2 hw4 (g1.wd4 h4)⟩ g2
       obtain ⟨n,rfl⟩:∃ k,n=k+1:=⟨n - 1,by omega⟩
       rcases List.mem_cons.mp hp with rfl | hp
       ·exact h2
       ·exact h1 _ (g1.wp p hp)
theorem rP:∀ (n:Nat) (t:T68) (N kd wd:Al) (k:Kd) (kd' wd':Al),lkM n t N kd wd = .ok (k,kd',wd')→k.dep≤4∧GI kd wd kd' wd' (ar n t) (ar n t).tail
 | 0,t,N,kd,wd,k,kd',wd',h=>by cases h
 | n+1,t,N,kd,wd,k,kd',wd',h=>by
   unfold lkM at h
   by_cases c:(wks t).any (fun k=>decide (4<k.dep))=true
   ·rw [if_pos c] at h;cases h
   ·rw [if_neg c] at h
    cases q1:cy (lkM n) t N (aj t) [] kd wd with
    | error e=>rw [q1] at h;cases h
    | ok v=>
      obtain ⟨fs,kd1,wd1⟩:=v
      rw [q1] at h
      dsimp only at h
      by_cases c2:4<(cm t fs N).dep
      ·rw [if_pos c2] at h;cases h
      ·rw [if_neg c2] at h
       cases h
       have hw4:∀ k∈wks t,k.dep≤4:=fun k hk=>by
        have:¬ 4<k.dep:=fun h=>c (List.any_eq_true.mpr ⟨k,hk,decide_eq_true h⟩)
        omega
       have g:GI kd wd kd1 wd' ((aj t).flatMap (ar n)) ((aj t).flatMap (ar n)):=by
        cases n with
        | zero=>
          cases q:aj t with
          | nil=>rw [q] at q1;cases q1;exact ⟨fun _ h=>h,fun _ h=>h,fun _ h=>(by cases h),fun _ h=>(by cases h),fun h=>h,fun h=>h⟩
          | cons a r=>rw [q] at q1;cases q1
        | succ n=>exact nJ (rP (n+1)) (by omega) t hw4 N (aj t) [] kd wd (fun k h=>by cases h) (fun j y h=>by rw [List.length_nil,Nat.zero_add];exact h) q1
       refine ⟨by omega,fun x hx=>b5 (g.kk x hx),g.ww,fun p hp=>?_,g.wp,fun h=>bQ (P:=fun k=>k.dep≤4) (g.kd4 h) (by omega),g.wd4⟩
       rcases List.mem_cons.mp hp with rfl | hp
       ·exact fS
       ·exact b5 (g.kp p hp)
def aS (n:Nat) (t:T68):Except Er (Al×Al):=match lkM n t [] [] [] with
 | .error e=>.error e
 | .ok (k,kd,wd)=>.ok (kd,ah wd (.inl t.pl) k)
def LdR (c:Res):Except Er (Al×Al)→Prop
 | .ok (kd,wd)=>c = .ok (.tup [.ref 1,.ref 2]) (ls kd wd)
 | .error e=>∃ st,c = .exc e.cls e.ds st
theorem nb8 {n:Nat} (h:n≤8):nb n≤21845∧wb n≤87380:=by
 have:∀ k,k≤8→nb k≤21845∧wb k≤87380:=by decide
 exact this n h
theorem cF {W:List Str} (n m:Nat) (t:T68) (o:Ok W n [] t) (h8:n≤8) (hm:n+12≤m):LdR (aa Γ m aP [t.toD] []) (aS n t):=by
 obtain ⟨m,rfl⟩:∃ k,m=k+3:=⟨m - 3,by omega⟩
 obtain ⟨b1,b2⟩:=nb8 h8
 have nbd:aa Γ (m+2) ef [t.toD] [] = .ok .non []:=by
  have:=d5 n (m+1) t [] [] (by omega) o (by simp only [List.length_nil];omega)
  exact (ac false (aX 0 (this) aZ) (by kernel_rfl))
 have lk:=nP W n (m+2) (by omega) t [] [] [] [] o ⟨fun x h=>(by cases h),fun p h=>(by cases h),by simp only [List.length_nil];omega⟩ (by simp only [List.length_nil];omega) (by simp only [List.length_nil];omega)
 unfold aS
 cases q:lkM n t [] [] [] with
 | error e=>
   rw [q] at lk
   obtain ⟨kd,wd,lk⟩:=lk
   exact ⟨ls kd wd,(ac false (aX 0 (nbd) (aC (aX 0 (lk) aZ))) (by kernel_rfl))⟩
 | ok v=>
   obtain ⟨k,kd,wd⟩:=v
   rw [q] at lk
   obtain ⟨l1,l2,l3,lk⟩:=lk
   have w:=fW t k kd wd (by simp only [List.length_nil] at l3;omega) (m+1)
   show aa Γ (m+3) aP [t.toD] [] = .ok (.tup [.ref 1,.ref 2]) (ls kd (ah wd (.inl t.pl) k))
   exact (ac false (aX 0 (nbd) (aC (aX 0 (lk) (aX 0 (w) aZ)))) (by kernel_rfl))
def cY (kd wd:Al) (p:Int):Option (Kd×Kd):=match aq kd (.inl p),aq wd (.inl p) with
 | some k,some w=>if k=w then none else some (k,w)
 | _,_=>none
abbrev Rw:=Int×Kd×Kd
def bE (r:Rw):D:=.tup [.int r.1,r.2.1.toD,r.2.2.toD]
def aB (kd wd:Al):List Int→List Rw
 | []=>[]
 | p :: r=>(match cY kd wd p with | some v=>[(p,v)] | none=>[]) ++ aB kd wd r
theorem jI (kd wd:Al):∀ ps:List Int,(aB kd wd ps).length≤ps.length
 | []=>Nat.le_refl _
 | p :: r=>by
   have:=jI kd wd r
   unfold aB
   cases cY kd wd p with
   | none=>show ([] ++ aB kd wd r).length≤r.length+1;rw [List.nil_append];omega
   | some v=>show ([(p,v)] ++ aB kd wd r).length≤r.length+1;rw [List.length_append];show 1+_≤_;omega
abbrev lE:E:=.tup (.cons (.v 0) (.cons (.ix (.v 3) (.v 0)) (.cons (.ix (.v 4) (.v 0)) .nil)))
abbrev lC:E:=.op .ne (.ix (.v 3) (.v 0)) (.ix (.v 4) (.v 0))
theorem fM (m:Nat) (t:T68) (kd wd:Al) (h4:∀ p∈kd,p.2.dep≤4):∀ (ps:List Int) (acc:List D) (e:Option D),(∀ p∈ps,(aq kd (.inl p)).isSome=true∧(aq wd (.inl p)).isSome=true)→acc.length+ps.length<100000→∃ e':Option D,aQ (lcQ Γ (aa Γ m) (az Γ m) [0] true lE lC) (dsI ps) acc ⟨[e,some t.toD,some (.tup [.ref 1,.ref 2]),some (.ref 1),some (.ref 2)],[],ls kd wd⟩ = .ok (.lst (acc ++ (aB kd wd ps).map bE)) ⟨[e',some t.toD,some (.tup [.ref 1,.ref 2]),some (.ref 1),some (.ref 2)],[],ls kd wd⟩
 | [],acc,e,_,_=>⟨e,by simp [dsI,aQ,aB]⟩
 | p :: r,acc,e,hp,hl=>by
   simp only [List.length_cons] at hl
   obtain ⟨h1,h2⟩:=hp p (by simp)
   obtain ⟨k,hk⟩:=Option.isSome_iff_exists.mp h1
   obtain ⟨w,hw⟩:=Option.isSome_iff_exists.mp h2
   have g1:ixD (dA kd) (.int p)=some k.toD:=by show bG (ksA kd) (dsA kd) (.inl p)=_;rw [iS,hk];rfl
   have g2:ixD (dA wd) (.int p)=some w.toD:=by show bG (ksA wd) (dsA wd) (.inl p)=_;rw [iS,hw];rfl
   have kd4:k.dep≤55:=by obtain ⟨q,hq,e⟩:=b8 hk;have:=h4 q hq;rw [e] at this;omega
   have ne:opD .ne (look (ls kd wd) k.toD) (look (ls kd wd) w.toD)=some (.bl (!decide (k=w))):=by
    rw [dF,dF]
    show (eqT k.toD w.toD).map (fun x=>D.bl (!x))=_
    rw [jn (by cases k <;> rfl)]
    rw [dh 55 k kd4 w];rfl
   have cd:ev Γ (aa Γ m) (az Γ m) true lC ⟨[some (.int p),some t.toD,some (.tup [.ref 1,.ref 2]),some (.ref 1),some (.ref 2)],[],ls kd wd⟩ = .ok (.bl (!decide (k=w))) ⟨[some (.int p),some t.toD,some (.tup [.ref 1,.ref 2]),some (.ref 1),some (.ref 2)],[],ls kd wd⟩:=(eP false (aX 0 (g1) (aX 0 (g2) (aX 0 (ne) aZ))) (by kernel_rfl))
   have at0:cY kd wd p=if k=w then none else some (k,w):=by unfold cY;rw [hk,hw]
   unfold aB
   rw [at0]
   by_cases c:k=w
   ·obtain ⟨e',h⟩:=fM m t kd wd h4 r acc (some (.int p)) (fun q hq=>hp q (by simp [hq])) (by omega)
    rw [if_pos c]
    rw [decide_eq_true c] at cd
    exact ⟨e',dG (eU rfl cd) h⟩
   ·have el:ev Γ (aa Γ m) (az Γ m) false lE ⟨[some (.int p),some t.toD,some (.tup [.ref 1,.ref 2]),some (.ref 1),some (.ref 2)],[],ls kd wd⟩ = .ok (bE (p,k,w)) ⟨[some (.int p),some t.toD,some (.tup [.ref 1,.ref 2]),some (.ref 1),some (.ref 2)],[],ls kd wd⟩:=(eP false (aX 0 (g1) (aX 0 (g2) aZ)) (by kernel_rfl))
    obtain ⟨e',h⟩:=fM m t kd wd h4 r (acc ++ [bE (p,k,w)]) (some (.int p)) (fun q hq=>hp q (by simp [hq])) (by rw [List.length_append,List.length_singleton];omega)
    rw [if_neg c]
    rw [decide_eq_false c] at cd
    rw [List.append_assoc] at h
    exact ⟨e',cO (dX rfl cd el) (by omega) h⟩
theorem cP {n:Nat} {t:T68} {kd wd:Al} (h:aS n t = .ok (kd,wd)):(∀ p∈kd,p.2.dep≤4)∧(∀ p∈wd,p.2.dep≤4)∧∀ p∈ar n t,(aq kd (.inl p)).isSome=true∧(aq wd (.inl p)).isSome=true:=by
 unfold aS at h
 cases q:lkM n t [] [] [] with
 | error e=>rw [q] at h;cases h
 | ok v=>
   obtain ⟨k,kd1,wd1⟩:=v
   rw [q] at h
   cases h
   obtain ⟨k4,g⟩:=rP n t [] [] [] k _ _ q
   refine ⟨g.kd4 (fun p hp=>by cases hp),bQ (P:=fun k=>k.dep≤4) (g.wd4 (fun p hp=>by cases hp)) k4,fun p hp=>⟨g.kp p hp,?_⟩⟩
   cases n with
   | zero=>cases hp
   | succ n=>
     rcases List.mem_cons.mp hp with rfl | hp
     ·exact fS
     ·exact b5 (g.wp p hp)
def LsR (n:Nat) (t:T68) (c:Res):Except Er (Al×Al)→Prop
 | .ok (kd,wd)=>c = .ok (.lst ((aB kd wd (ar n t)).map bE)) (ls kd wd)
 | .error e=>∃ st,c = .exc e.cls e.ds st
theorem kU {W:List Str} (n m:Nat) (t:T68) (o:Ok W n [] t) (h8:n≤8) (hm:n+13≤m):LsR n t (aa Γ m aW [t.toD] []) (aS n t):=by
 obtain ⟨m,rfl⟩:∃ k,m=k+1:=⟨m - 1,by omega⟩
 have lo:=cF n m t o h8 (by omega)
 cases q:aS n t with
 | error e=>
   rw [q] at lo
   obtain ⟨st,lo⟩:=lo
   exact ⟨st,(ac false (aX 0 (lo) aZ) (by kernel_rfl))⟩
 | ok v=>
   obtain ⟨kd,wd⟩:=v
   rw [q] at lo
   have lo:aa Γ m aP [t.toD] [] = .ok (.tup [.ref 1,.ref 2]) (ls kd wd):=lo
   obtain ⟨h4,_,hp⟩:=cP q
   have pl:=eY n m t [] (ls kd wd) (by omega) h8 o
   have len:=cz n [] t o
   have:=(nb8 h8).1
   obtain ⟨e',lp⟩:=fM m t kd wd h4 (ar n t) [] none hp (by simp only [List.length_nil];omega)
   show aa Γ (m+1) aW [t.toD] [] = .ok (.lst ((aB kd wd (ar n t)).map bE)) (ls kd wd)
   exact (ac true (aX 0 (lo) (aX 0 (pl) (aX 0 (lp) aZ))) (by kernel_rfl))
def wpT:T68→List T68→T68
 | .fn p x k _,[b]=>.fn p x k b
 | .slf p f x k g _,[b]=>.slf p f x k g b
 | .lt p x _ _,[a,b]=>.lt p x a b
 | .iff p _ _ _,[c,a,b]=>.iff p c a b
 | .call p _ _,[a,b]=>.call p a b
 | .bin p o _ _,[a,b]=>.bin p o a b
 | .as_ p k _,[a]=>.as_ p k a
 | .row p k _,ts=>.row p k ts
 | .pair p _ _,[a,b]=>.pair p a b
 | .att p _ _,[a,b]=>.att p a b
 | .size p _,[a]=>.size p a
 | .one p _,[a]=>.one p a
 | .two p _,[a]=>.two p a
 | .lk p k l _,[a]=>.lk p k l a
 | t,_=>t
theorem l0 {l:List T68} (h:l.length=0):l = []:=List.length_eq_zero_iff.mp h
theorem l1 {l:List T68} (h:l.length=1):∃ a,l = [a]:=List.length_eq_one_iff.mp h
theorem l2 {l:List T68} (h:l.length=2):∃ a b,l = [a,b]:=by match l,h with | [a,b],_=>exact ⟨a,b,rfl⟩
theorem l3 {l:List T68} (h:l.length=3):∃ a b c,l = [a,b,c]:=by match l,h with | [a,b,c],_=>exact ⟨a,b,c,rfl⟩
theorem yP (t:T68) (ks:List T68) (h:ks.length=(aj t).length) (n:Nat) (st:List O):aa Γ (n+4) jF [t.toD,.lst (toDs ks)] st = .ok (wpT t ks).toD st:=by
 cases t with
 | row p k ts=>kernel_rfl
 | _=>first | (obtain ⟨_,_,rfl⟩:=l2 h;kernel_rfl) | (obtain ⟨_,rfl⟩:=l1 h;kernel_rfl) | (obtain ⟨_,_,_,rfl⟩:=l3 h;kernel_rfl) | (have:=l0 h;subst this;kernel_rfl)
theorem j8 (t:T68) (ks:List T68) (h:ks.length=(aj t).length):aj (wpT t ks)=ks:=by
 cases t <;> first | rfl | (obtain ⟨_,_,rfl⟩:=l2 h;rfl) | (obtain ⟨_,rfl⟩:=l1 h;rfl) | (obtain ⟨_,_,_,rfl⟩:=l3 h;rfl) | (have:=l0 h;subst this;rfl)
def kC:T68→Bool
 | .lk ..=>true
 | _=>false
theorem AM (t:T68) (ks:List T68) (h:ks.length=(aj t).length):kC (wpT t ks)=kC t:=by
 cases t <;> first | rfl | (obtain ⟨_,_,rfl⟩:=l2 h;rfl) | (obtain ⟨_,rfl⟩:=l1 h;rfl) | (obtain ⟨_,_,_,rfl⟩:=l3 h;rfl) | (have:=l0 h;subst this;rfl)
theorem sD {W bs:List Str} {t:T68} (h:own W bs t):kC t=false:=by cases t <;> first | rfl | exact absurd h id
abbrev LD:=AlG (Kd×Kd)
def K2 (p:Kd×Kd):D:=.tup [p.1.toD,p.2.toD]
abbrev dL (L:LD):D:=.dic (ksA L) (dsF K2 L)
def cu (L:LD):Nat→T68→T68
 | 0,t=>t
 | n+1,t=>match aq L (.inl t.pl) with
   | none=>wpT t ((aj t).map (cu L n))
   | some v=>.lk t.pl v.1 v.2 (wpT t ((aj t).map (cu L n)))
abbrev iE:E:=.call 26 (.cons (.v 0) (.cons (.v 2) .nil))
theorem lI (a b:List T68):toDs (a ++ b)=toDs a ++ toDs b:=by rw [cq,cq,cq,List.map_append]
theorem ox {n m:Nat} (t:T68) (L:LD) (S:List O):∀ (r:List T68) (acc:List T68) (e:Option D),(∀ y∈r,aa Γ m kO [y.toD,dL L] S = .ok (cu L n y).toD S)→acc.length+r.length<1000→∃ e':Option D,aQ (lcQ Γ (aa Γ m) (az Γ m) [0] true iE (.c (.bl true))) (toDs r) (toDs acc) ⟨[e,some t.toD,some (dL L),some (.int t.pl),none],[],S⟩ = .ok (.lst (toDs (acc ++ r.map (cu L n)))) ⟨[e',some t.toD,some (dL L),some (.int t.pl),none],[],S⟩
 | [],acc,e,_,_=>⟨e,by simp [toDs,aQ]⟩
 | y :: r,acc,e,hr,hl=>by
   simp only [List.length_cons] at hl
   have i1:=hr y (by simp)
   obtain ⟨e',h⟩:=ox t L S r (acc ++ [cu L n y]) (some y.toD) (fun z hz=>hr z (by simp [hz])) (by rw [List.length_append,List.length_singleton];omega)
   have el:ev Γ (aa Γ m) (az Γ m) false iE ⟨[some y.toD,some t.toD,some (dL L),some (.int t.pl),none],[],S⟩ = .ok (cu L n y).toD ⟨[some y.toD,some t.toD,some (dL L),some (.int t.pl),none],[],S⟩:=(eP false (aX 0 (i1) aZ) (by kernel_rfl))
   rw [List.append_assoc,lI] at h
   exact ⟨e',cO (dX rfl rfl el) (by rw [lJ];omega) h⟩
theorem i8 {W:List Str} (L:LD):∀ (n m:Nat) (t:T68) (bs:List Str) (S:List O),n+5≤m→Ok W n bs t→aa Γ m kO [t.toD,dL L] S = .ok (cu L n t).toD S
 | 0,m,t,bs,S,_,o=>o.elim
 | n+1,m,t,bs,S,hm,o=>by
   obtain ⟨m,rfl⟩:∃ k,m=k+6:=⟨m - 6,by omega⟩
   obtain ⟨o1,o2,o3,o4⟩:=o
   have p0:=eX t (m+2) S
   have kl:=bT o1
   obtain ⟨e',lp⟩:=ox (n:=n) (m:=m+5) t L S (aj t) [] none (fun y hy=>by obtain ⟨i,hi⟩:=List.mem_iff_getElem?.mp hy;exact i8 L n (m+5) y _ S (by omega) (o4 i y hi)) (by simp only [List.length_nil];omega)
   have w:=yP t ((aj t).map (cu L n)) (by simp) (m+1) S
   unfold cu
   cases q:aq L (.inl t.pl) with
   | none=>
     have e:(!(bG (ksA L) (dsF K2 L) (.inl t.pl)).isSome)=true:=by rw [nq,q];rfl
     exact (ac true (aX 0 (bP t S) (aX 0 (p0) (aX 0 (lp) (aX 0 (w) (aX 1 (e) aZ))))) (by kernel_rfl))
   | some v=>
     have g:bG (ksA L) (dsF K2 L) (.inl t.pl)=some (K2 v):=by rw [nq,q];rfl
     have e:(!(bG (ksA L) (dsF K2 L) (.inl t.pl)).isSome)=false:=by rw [g];rfl
     have g2:ixD (dL L) (.int t.pl)=some (K2 v):=g
     exact (ac true (aX 0 (bP t S) (aX 0 (p0) (aX 0 (lp) (aX 0 (w) (aX 1 (e) (aX 0 (g2) (aX 1 (g2) aZ))))))) (by kernel_rfl))
inductive It where
 | s (x:Str) | i (v:Int) | b (b:Bool) | k (k:Kd) | n (t:T68) | ns (ts:List T68)
def It.toD:It→D
 | .s z=>.str z | .i z=>.int z | .b z=>.bl z | .k z=>z.toD | .n z=>z.toD | .ns z=>.tup (toDs z)
def its:T68→List It
 | .whole p v=>[.s "whole",.i p,.i v]
 | .truth p b=>[.s "truth",.i p,.b b]
 | .given p v=>[.s "given",.i p,.i v]
 | .name p x=>[.s "name",.i p,.s x]
 | .fn p x k b=>[.s "fn",.i p,.s x,.k k,.n b]
 | .slf p f x k g b=>[.s "self",.i p,.s f,.s x,.k k,.k g,.n b]
 | .lt p x a b=>[.s "let",.i p,.s x,.n a,.n b]
 | .iff p c a b=>[.s "if",.i p,.n c,.n a,.n b]
 | .call p a b=>[.s "call",.i p,.n a,.n b]
 | .bin p o a b=>[.s "do",.i p,.s o.str,.n a,.n b]
 | .as_ p k a=>[.s "as",.i p,.k k,.n a]
 | .row p k ts=>[.s "row",.i p,.k k,.ns ts]
 | .pair p a b=>[.s "pair",.i p,.n a,.n b]
 | .att p a b=>[.s "at",.i p,.n a,.n b]
 | .size p a=>[.s "size",.i p,.n a]
 | .one p a=>[.s "one",.i p,.n a]
 | .two p a=>[.s "two",.i p,.n a]
 | .lk p k l a=>[.s "look",.i p,.k k,.k l,.n a]
def dI (l:List It):List D:=l.map It.toD
theorem zN (t:T68):t.toD = .tup (dI (its t)):=by cases t <;> rfl
def It.nodes:It→List T68
 | .n z=>[z]
 | .ns z=>z
 | _=>[]
theorem gD (t:T68):(its t).flatMap It.nodes=aj t:=by cases t <;> first | rfl | (show _ ++ ([]:List T68)=_;simp [It.nodes,its,aj])
theorem nA {t:T68} {a:It} (h:a∈its t):∀ y∈a.nodes,y∈aj t:=fun y hy=>by rw [← gD];exact List.mem_flatMap.mpr ⟨a,h,hy⟩
theorem ui (t:T68):(its t).length≤7:=by cases t <;> exact Nat.le_of_ble_eq_true rfl
def Nst:Nat→T68→Prop
 | 0,_=>False
 | n+1,t=>(aj t).length≤4∧∀ y∈aj t,Nst n y
theorem Ok.nst {W:List Str}:∀ {n:Nat} {bs:List Str} {t:T68},Ok W n bs t→Nst n t
 | 0,bs,t,o=>o.elim
 | n+1,bs,t,⟨o1,_,_,o4⟩=>⟨bT o1,fun y hy=>by obtain ⟨i,hi⟩:=List.mem_iff_getElem?.mp hy;exact (o4 i y hi).nst⟩
theorem Kd.nr (k:Kd):noR k.toD=true:=by
 induction k with
 | to a b ha hb=>show (true && (noR a.toD && (noR b.toD && true)))=true;rw [ha,hb];rfl
 | row a ha=>show (true && (noR a.toD && true))=true;rw [ha];rfl
 | pair a b ha hb=>show (true && (noR a.toD && (noR b.toD && true)))=true;rw [ha,hb];rfl
 | _=>rfl
theorem cQ {l:List D} (h:∀ d∈l,noR d=true):ay l=true:=by
 induction l with
 | nil=>rfl
 | cons d r ih=>show (noR d && ay r)=true;rw [h d (by simp),ih (fun e he=>h e (by simp [he]))];rfl
theorem T68.nr:∀ (n:Nat) (t:T68),Nst n t→noR t.toD=true
 | 0,t,h=>h.elim
 | n+1,t,h=>by
   have kd:=fun y hy=>T68.nr n y (h.2 y hy)
   rw [zN]
   show ay (dI (its t))=true
   refine cQ fun d hd=>?_
   obtain ⟨a,ha,rfl⟩:=List.mem_map.mp hd
   have am:=nA ha
   cases a with
   | k k=>exact k.nr
   | n y=>exact kd y (am y (by simp [It.nodes]))
   | ns ts=>
     show ay (toDs ts)=true
     rw [cq]
     refine cQ fun d hd=>?_
     obtain ⟨y,hy,rfl⟩:=List.mem_map.mp hd
     exact kd y (am y hy)
   | _=>rfl
theorem gy (n:Nat):∀ l:List D,(∀ d∈l,eqv n d d=some true)→cV (eqv n) l l=some true
 | [],_=>rfl
 | d :: r,h=>by
   show (match eqv n d d with | none=>none | some x=>(cV (eqv n) r r).map (x && ·))=_
   rw [h d (List.mem_cons_self ..),gy n r fun e he=>h e (List.mem_cons_of_mem _ he)];rfl
theorem dv {n:Nat} {l:List D} (h:∀ d∈l,eqv n d d=some true):eqv (n+1) (.tup l) (.tup l)=some true:=by
 show (cV (eqv n) l l).map (· && l.length == l.length)=_
 rw [gy n l h,beq_self_eq_true];rfl
theorem rV {n:Nat} {l:List D} (h:∀ d∈l,eqv n d d=some true):eqv (n+1) (.lst l) (.lst l)=some true:=by
 show (if l.length=l.length then cV (eqv n) l l else some false)=_
 rw [if_pos rfl,gy n l h]
def Lof (l:LD) (rs:List Rw):LD:=rs.foldl (fun l r=>ah l (.inl r.1) r.2) l
theorem jb (kd wd:Al) (p:Int):∀ (ps:List Int) (l:LD),aq (Lof l (aB kd wd ps)) (.inl p)=if p∈ps∧(cY kd wd p).isSome=true then cY kd wd p else aq l (.inl p)
 | [],l=>by simp [aB,Lof]
 | q :: r,l=>by
   unfold aB
   cases h:cY kd wd q with
   | none=>
     show aq (Lof l (aB kd wd r)) (.inl p)=_
     rw [jb kd wd p r l]
     by_cases e:p=q
     ·subst e;rw [h];simp
     ·simp [e]
   | some v=>
     show aq (Lof (ah l (.inl q) v) (aB kd wd r)) (.inl p)=_
     rw [jb kd wd p r,cL]
     by_cases e:p=q
     ·subst e;rw [h];simp
     ·have:¬ (Sum.inl q:Key) = .inl p:=fun z=>e (Sum.inl.inj z).symm
      simp [e,this]
abbrev rB:S:=cG tV.body
theorem oH (m:Nat) (t:T68) (S:List O):∀ (rs:List Rw) (L:LD) (e2 e3 e4:Option D),L.length+rs.length<100000→∃ e2' e3' e4':Option D,aI (c8 Γ (aa Γ m) (az Γ m) [2,3,4] false rB) (rs.map bE) ⟨[some t.toD,some (dL L),e2,e3,e4],[1],S⟩ = .nx ⟨[some t.toD,some (dL (Lof L rs)),e2',e3',e4'],[1],S⟩
 | [],L,e2,e3,e4,_=>⟨e2,e3,e4,rfl⟩
 | (p,k,w) :: rs,L,e2,e3,e4,h=>by
   simp only [List.length_cons] at h
   have pl:=ba L (.inl p) (k,w)
   obtain ⟨a,b,c,h2⟩:=oH m t S rs (ah L (.inl p) (k,w)) (some (.int p)) (some k.toD) (some w.toD) (by omega)
   have pu:=sI K2 L (.int p) (.inl p) rfl (k,w) (by omega)
   exact ⟨a,b,c,aA (aD rfl (bA false (aX 0 (pu) aZ) (by kernel_rfl))) h2⟩
theorem fU (rs:List Rw):noR (.lst (rs.map bE))=true:=cQ fun d hd=>by
 obtain ⟨r,_,rfl⟩:=List.mem_map.mp hd
 show (true && (noR r.2.1.toD && (noR r.2.2.toD && true)))=true
 rw [Kd.nr,Kd.nr];rfl
theorem lw {W:List Str} (n m:Nat) (t:T68) (o:Ok W n [] t) (h8:n≤8) (hm:n+14≤m) {kd wd:Al} (hl:aS n t = .ok (kd,wd)):aa Γ m jD [t.toD] [] = .ok (cu (Lof [] (aB kd wd (ar n t))) n t).toD []:=by
 obtain ⟨m,rfl⟩:∃ k,m=k+1:=⟨m - 1,by omega⟩
 have lo:=kU n m t o h8 (by omega)
 rw [hl] at lo
 have lo:aa Γ m aW [t.toD] [] = .ok (.lst ((aB kd wd (ar n t)).map bE)) (ls kd wd):=lo
 have len:=cz n [] t o
 have ll:=jI kd wd (ar n t)
 have:=(nb8 h8).1
 obtain ⟨a,b,c,lp⟩:=oH m t [] (aB kd wd (ar n t)) [] none none none (by simp only [List.length_nil];omega)
 have pi:=i8 (Lof [] (aB kd wd (ar n t))) n m t [] [] (by omega) o
 have nt:ay [t.toD]=true:=cQ fun d hd=>by rw [List.mem_singleton.mp hd];exact T68.nr n t o.nst
 exact (ac true (aX 1 (nt) (aX 0 (lo) (aX 0 (fU (aB kd wd (ar n t))) (aX 0 (lp) (aX 0 (pi) aZ))))) (by kernel_rfl))
theorem dD (k:Kd) (S:List O):biD .isInt [look S k.toD]=some (.bl false):=by cases k <;> rfl
theorem nz (t:T68) (S:List O):biD .isTup [look S t.toD]=some (.bl true):=by cases t <;> rfl
theorem Ae (ts:List T68):toDs ts=dI (ts.map It.n):=by rw [cq];unfold dI;rw [List.map_map];rfl
theorem xb {t:T68} {ts:List T68} (h:It.ns ts∈its t):ts=aj t:=by cases t <;> simp [its] at h <;> exact h
def bh:Nat→T68→List Rw
 | 0,_=>[]
 | n+1,.lk p k l a=>(p,k,l) :: bh n a
 | n+1,t=>(aj t).flatMap (bh n)
def jM (n:Nat) (a:It):List Rw:=a.nodes.flatMap (bh n)
theorem sd {n:Nat} {t:T68} (h:kC t=false):bh (n+1) t=(aj t).flatMap (bh n):=by cases t <;> first | rfl | cases h
theorem fO {n:Nat} {t:T68}:(its t).flatMap (jM n)=(aj t).flatMap (bh n):=by
 rw [← gD,List.flatMap_assoc];rfl
def dW (l:List Rw):List D:=l.map bE
theorem sN (a b:List Rw) (h:a.length+b.length≤90000):opD .add (.lst (dW a)) (.lst (dW b))=some (.lst (dW (a ++ b))):=by
 show cD ((dW a).length+(dW b).length) _=_
 unfold cD dW
 rw [if_pos (by simp;omega),List.map_append]
def mB:S:=match tlS 2 l8.body with
 | .seq (.ifs _ a _) _=>cG a
 | _=>.skip
theorem fP (m n:Nat) (x:D) (S:List O):∀ (l:List It) (acc:List Rw) (e:Option D) (ow:List Nat),ow = [1]∨ow = []→(∀ a∈l,aa Γ m aM [a.toD] S = .ok (.lst (dW (jM n a))) S)→acc.length+(l.flatMap (jM n)).length≤90000→∃ (e':Option D) (ow':List Nat),aI (c8 Γ (aa Γ m) (az Γ m) [2] true mB) (dI l) ⟨[some x,some (.lst (dW acc)),e],ow,S⟩ = .nx ⟨[some x,some (.lst (dW (acc ++ l.flatMap (jM n)))),e'],ow',S⟩
 | [],acc,e,ow,_,_,_=>⟨e,ow,by simp [dI,aI]⟩
 | a :: r,acc,e,ow,ho,hr,hl=>by
   have i1:=hr a (by simp)
   rw [List.flatMap_cons,List.length_append] at hl
   have ad:=sN acc (jM n a) (by omega)
   obtain ⟨e',ow',h⟩:=fP m n x S r (acc ++ jM n a) (some a.toD) [] (.inr rfl) (fun z hz=>hr z (by simp [hz])) (by rw [List.length_append];omega)
   rw [List.append_assoc] at h
   refine ⟨e',ow',aA (s1:=⟨[some x,some (.lst (dW (acc ++ jM n a))),some a.toD],[],S⟩) (aD rfl ?_) h⟩
   rcases ho with rfl | rfl
   ·exact (bA false (aX 0 (i1) (aX 0 (ad) aZ)) (by kernel_rfl))
   ·exact (bA false (aX 0 (i1) (aX 0 (ad) aZ)) (by kernel_rfl))
theorem Ab (k:Kd) (m:Nat) (S:List O):aa Γ (m+1) aM [k.toD] S = .ok (.lst []) S:=by
 cases k with
 | to a b=>exact (ac false (aX 17 (dD a S) aZ) (by kernel_rfl))
 | row a=>exact (ac false (aX 17 (dD a S) aZ) (by kernel_rfl))
 | pair a b=>exact (ac false (aX 17 (dD a S) aZ) (by kernel_rfl))
 | _=>exact (ac false aZ (by kernel_rfl))
theorem ya (ts:List T68) (n m:Nat) (S:List O) (hl:(ts.flatMap (bh n)).length≤90000) (h:∀ y∈ts,aa Γ m aM [y.toD] S = .ok (.lst (dW (bh n y))) S) (hn:∀ y∈ts,∃ x,ixD y.toD (.int 0)=some (.str x)):aa Γ (m+1) aM [.tup (toDs ts)] S = .ok (.lst (dW (ts.flatMap (bh n)))) S:=by
 cases ts with
 | nil=>exact (ac false aZ (by kernel_rfl))
 | cons y r=>
   have fm:((y :: r).map It.n).flatMap (jM n)=(y :: r).flatMap (bh n):=by
    rw [List.flatMap_map]
    refine congrArg (fun f=>List.flatMap f (y :: r)) (funext fun z=>?_)
    show [z].flatMap (bh n)=_;simp
   obtain ⟨e',ow',lp⟩:=fP m n (.tup (toDs (y :: r))) S ((y :: r).map It.n) [] none [1] (.inl rfl) (fun a ha=>by
    obtain ⟨z,hz,rfl⟩:=List.mem_map.mp ha
    have:=h z hz
    show aa Γ m aM [z.toD] S = .ok (.lst (dW ([z].flatMap (bh n)))) S
    simpa using this) (by rw [fm];simpa using hl)
   rw [← Ae,fm,List.nil_append] at lp
   have g0:ixD (.tup (toDs (y :: r))) (.int 0)=some y.toD:=cK (j:=0) rfl
   have ne:opD .eq (look S y.toD) (.str "look")=some (.bl false):=by cases y <;> rfl
   exact (ac true (aX 6 (g0) (aX 0 (ne) (aX 1 (g0) (aX 0 (nz y S) (aX 0 (lp) aZ))))) (by kernel_rfl))
theorem qI {α β:Type} (f:α→List β) {y:α}:∀ {l:List α},y∈l→(f y).length≤(l.flatMap f).length
 | a :: r,h=>by
   rw [List.flatMap_cons,List.length_append]
   rcases List.mem_cons.mp h with rfl | h
   ·omega
   ·have:=qI f h;omega
theorem se:∀ (n m:Nat) (t:T68) (S:List O),2 * n+2≤m→Nst n t→(bh n t).length≤90000→aa Γ m aM [t.toD] S = .ok (.lst (dW (bh n t))) S
 | 0,m,t,S,_,o,_=>o.elim
 | n+1,m,t,S,hm,o,hl=>by
   obtain ⟨m,rfl⟩:∃ k,m=k+2:=⟨m - 2,by omega⟩
   obtain ⟨kl,o4⟩:=o
   have ml:((aj t).flatMap (bh n)).length≤90000 - (match kC t with | true=>1 | false=>0):=by
    cases t with
    | lk p k l a=>
      have hl:(bh n a).length+1≤90000:=hl
      show ([a].flatMap (bh n)).length≤90000 - 1
      simp;omega
    | _=>exact hl
   have one:∀ y∈aj t,(bh n y).length≤90000:=fun y hy=>by
    have:(bh n y).length≤((aj t).flatMap (bh n)).length:=qI (bh n) hy
    omega
   have ih:∀ q,2 * n+2≤q→∀ y∈aj t,aa Γ q aM [y.toD] S = .ok (.lst (dW (bh n y))) S:=fun q hq y hy=>se n q y S hq (o4 y hy) (one y hy)
   have itm:∀ a∈its t,aa Γ (m+1) aM [a.toD] S = .ok (.lst (dW (jM n a))) S:=fun a ha=>by
    have am:=nA ha
    cases a with
    | s x=>exact (ac false aZ (by kernel_rfl))
    | i x=>exact (ac false aZ (by kernel_rfl))
    | b x=>exact (ac false aZ (by kernel_rfl))
    | k k=>exact Ab k m S
    | n y=>
      have:=ih (m+1) (by omega) y (am y (by simp [It.nodes]))
      show aa Γ (m+1) aM [y.toD] S = .ok (.lst (dW ([y].flatMap (bh n)))) S
      simpa using this
    | ns ts=>exact ya ts n m S (by rw [xb ha];omega) (fun y hy=>ih m (by omega) y (am y hy)) (fun y hy=>by cases y <;> exact ⟨_,rfl⟩)
   by_cases c:kC t=true
   ·match t,c with
    | .lk p k l a,_=>
      obtain ⟨e',ow',lp⟩:=fP (m+1) n (T68.lk p k l a).toD S (its (.lk p k l a)) [(p,k,l)] none [1] (.inl rfl) itm (by rw [fO];simp only [List.length_singleton];have:((aj (.lk p k l a)).flatMap (bh n)).length≤90000 - 1:=ml;omega)
      rw [fO] at lp
      have e:[(p,k,l)] ++ (aj (.lk p k l a)).flatMap (bh n)=bh (n+1) (.lk p k l a):=by show _ :: ([a].flatMap (bh n))=_;simp [bh]
      rw [e] at lp
      exact (ac true (aX 0 (lp) aZ) (by kernel_rfl))
   ·have c:kC t=false:=by simpa using c
    rw [sd c] at hl ⊢
    obtain ⟨e',ow',lp⟩:=fP (m+1) n t.toD S (its t) [] none [1] (.inl rfl) itm (by rw [fO];simpa using hl)
    rw [fO,List.nil_append] at lp
    cases t with
    | lk=>cases c
    | _=>exact (ac true (aX 0 (lp) aZ) (by kernel_rfl))
section
variable {W:List Str} {L:LD}
theorem gY (n:Nat) (t:T68):cu L (n+1) t=(match aq L (.inl t.pl) with | none=>wpT t ((aj t).map (cu L n)) | some v=>.lk t.pl v.1 v.2 (wpT t ((aj t).map (cu L n)))):=rfl
theorem jU:∀ (n m:Nat) (t:T68) (bs:List Str),2 * n≤m→Ok W n bs t→Nst m (cu L n t)
 | 0,m,t,bs,_,o=>o.elim
 | n+1,m,t,bs,hm,⟨o1,_,_,o4⟩=>by
   obtain ⟨m,rfl⟩:∃ k,m=k+2:=⟨m - 2,by omega⟩
   have inner:∀ q,2 * n≤q→Nst (q+1) (wpT t ((aj t).map (cu L n))):=fun q hq=>by
    refine ⟨by rw [j8 _ _ (by simp),List.length_map];exact bT o1,fun y hy=>?_⟩
    rw [j8 _ _ (by simp)] at hy
    obtain ⟨z,hz,rfl⟩:=List.mem_map.mp hy
    obtain ⟨i,hi⟩:=List.mem_iff_getElem?.mp hz
    exact jU n q z _ hq (o4 i z hi)
   rw [gY]
   cases aq L (.inl t.pl) with
   | none=>exact inner (m+1) (by omega)
   | some v=>exact ⟨Nat.le_of_ble_eq_true rfl,fun y hy=>by rw [List.mem_singleton.mp hy];exact inner m (by omega)⟩
theorem nY (kd wd:Al):∀ (n m:Nat) (t:T68) (bs:List Str),2 * n≤m→Ok W n bs t→(∀ p∈ar n t,aq L (.inl p)=cY kd wd p)→bh m (cu L n t)=aB kd wd (ar n t)
 | 0,m,t,bs,_,o,_=>o.elim
 | n+1,m,t,bs,hm,⟨o1,_,_,o4⟩,hp=>by
   obtain ⟨m,rfl⟩:∃ k,m=k+2:=⟨m - 2,by omega⟩
   have app:∀ a b:List Int,aB kd wd (a ++ b)=aB kd wd a ++ aB kd wd b:=by
    intro a b
    induction a with
    | nil=>rfl
    | cons x r ih=>show _ ++ aB kd wd (r ++ b)=(_ ++ aB kd wd r) ++ _;rw [ih,List.append_assoc]
   have ih:∀ q,2 * n≤q→∀ r:List T68,(∀ y∈r,y∈aj t)→(r.map (cu L n)).flatMap (bh q)=aB kd wd (r.flatMap (ar n)):=fun q hq r=>by
    induction r with
    | nil=>intro _;rfl
    | cons y r ih=>
      intro hr
      obtain ⟨i,hi⟩:=List.mem_iff_getElem?.mp (hr y (by simp))
      rw [List.map_cons,List.flatMap_cons,List.flatMap_cons,app,ih (fun z hz=>hr z (by simp [hz])),nY kd wd n q y _ hq (o4 i y hi) (fun p h=>hp p (List.mem_cons_of_mem _ (List.mem_flatMap.mpr ⟨y,hr y (by simp),h⟩)))]
   have inner:∀ q,2 * n≤q→bh (q+1) (wpT t ((aj t).map (cu L n)))=aB kd wd ((aj t).flatMap (ar n)):=fun q hq=>by
    rw [sd (by rw [AM _ _ (by simp)];exact sD o1),j8 _ _ (by simp),ih q hq _ (fun _ h=>h)]
   have h0:=hp t.pl (List.mem_cons_self ..)
   rw [gY]
   show _=(match cY kd wd t.pl with | some v=>[(t.pl,v)] | none=>[]) ++ aB kd wd ((aj t).flatMap (ar n))
   rw [h0]
   cases cY kd wd t.pl with
   | none=>exact inner (m+1) (by omega)
   | some v=>show (t.pl,v.1,v.2) :: bh (m+1) _=_;rw [inner m (by omega)];rfl
end
inductive Lo:Kd→Kd→Prop
 | unt (k:Kd):Lo .unt k
 | whole:Lo .whole .whole
 | truth:Lo .truth .truth
 | to {a b c d:Kd}:Lo a c→Lo b d→Lo (.to a b) (.to c d)
 | row {a c:Kd}:Lo a c→Lo (.row a) (.row c)
 | pair {a b c d:Kd}:Lo a c→Lo b d→Lo (.pair a b) (.pair c d)
theorem Lo.refl:∀ k:Kd,Lo k k
 | .whole=>.whole
 | .truth=>.truth
 | .unt=>.unt _
 | .to a b=>.to (refl a) (refl b)
 | .row a=>.row (refl a)
 | .pair a b=>.pair (refl a) (refl b)
theorem cR (a:Kd):a.par .unt=none:=by cases a <;> rfl
theorem yv (a b c d:Kd):(Kd.to a b).par (.to c d)=(match a.par c with | some w=>some (("arg":Str) :: w) | none=>(b.par d).map (("res":Str) :: ·)):=rfl
theorem sE (a b c d:Kd):(Kd.pair a b).par (.pair c d)=(match a.par c with | some w=>some (("one":Str) :: w) | none=>(b.par d).map (("two":Str) :: ·)):=rfl
theorem Lo.par {a b c:Kd} (h:Lo a c) (h':Lo b c):a.par b=none:=by
 induction h generalizing b with
 | unt k=>cases b <;> rfl
 | whole=>cases h' <;> rfl
 | truth=>cases h' <;> rfl
 | to h1 h2 i1 i2=>
   cases h' with
   | unt=>rfl
   | to g1 g2=>rw [yv,i1 g1,i2 g2];rfl
 | row h1 i1=>
   cases h' with
   | unt=>rfl
   | row g1=>show (Kd.par _ _).map _=_;rw [i1 g1];rfl
 | pair h1 h2 i1 i2=>
   cases h' with
   | unt=>rfl
   | pair g1 g2=>rw [sE,i1 g1,i2 g2];rfl
def El (E N:Al):Prop:=∀ x k,aq N (.inr x)=some k→∃ k',aq E (.inr x)=some k'∧Lo k' k
def Ty (q:Nat) (t:T68) (N:Al) (w:Kd):Prop:=True
section
variable {q:Nat} {N:Al} {w:Kd} {p:Int}
theorem ty0 {t:T68} (hk:aj t = []) (hw:wks t = []) (ho:∀ E,El E N→Lo (cm t [] E) w∧(cm t [] E).dep≤4):Ty (q+1) t N w:=trivial
theorem vw {x:Str} (h:aq N (.inr x)=some w) (hd:w.dep≤4):Ty (q+1) (.name p x) N w:=trivial
theorem AE {x:Str} {a:Kd} {b:T68} (h:Ty q b (ah N (.inr x) a) w) (ha:a.dep≤3) (hd:w.dep≤3):Ty (q+1) (.fn p x a b) N (.to a w):=trivial
theorem yN {f x:Str} {a g:Kd} {b:T68} (h:Ty q b (ah (ah N (.inr f) (.to a g)) (.inr x) a) g) (ha:a.dep≤3) (hd:g.dep≤3):Ty (q+1) (.slf p f x a g b) N (.to a g):=trivial
theorem vv {k:Kd} {a b:T68} (ha:Ty q a N (.to k w)) (hb:Ty q b N k) (hd:w.dep≤4):Ty (q+1) (.call p a b) N w:=trivial
theorem yK {x:Str} {k:Kd} {a b:T68} (ha:Ty q a N k) (hb:Ty q b (ah N (.inr x) k) w) (hd:w.dep≤4):Ty (q+1) (.lt p x a b) N w:=trivial
theorem yJ {c a b:T68} (hc:Ty q c N .truth) (ha:Ty q a N w) (hb:Ty q b N w) (hd:w.dep≤4):Ty (q+1) (.iff p c a b) N w:=trivial
theorem yI {o:Sg} {a b:T68} (ha:Ty q a N .whole) (hb:Ty q b N .whole) (hw:cm (.bin p o a b) [] []=w):Ty (q+1) (.bin p o a b) N w:=trivial
theorem AD {k k':Kd} {a:T68} (ha:Ty q a N k') (hp:∀ c,Lo c k'→c.par k=none) (hd:k.dep≤4) (hl:Lo k w):Ty (q+1) (.as_ p k a) N w:=trivial
theorem yM {k:Kd} {ts:List T68} (h:∀ t∈ts,∃ w,Ty q t N w∧∀ c,Lo c w→c.par k=none) (hd:k.dep≤3):Ty (q+1) (.row p k ts) N (.row k):=trivial
theorem yH {a b:T68} (ha:Ty q a N (.row w)) (hb:Ty q b N .whole) (hd:w.dep≤4):Ty (q+1) (.att p a b) N w:=trivial
theorem vy {k:Kd} {a:T68} (ha:Ty q a N (.row k)):Ty (q+1) (.size p a) N .whole:=trivial
theorem yL {k:Kd} {a:T68} (ha:Ty q a N (.pair w k)) (hd:w.dep≤4):Ty (q+1) (.one p a) N w:=trivial
theorem yO {k:Kd} {a:T68} (ha:Ty q a N (.pair k w)) (hd:w.dep≤4):Ty (q+1) (.two p a) N w:=trivial
theorem vx {k l:Kd} {a b:T68} (ha:Ty q a N k) (hb:Ty q b N l) (hk:k.dep≤3) (hl:l.dep≤3):Ty (q+1) (.pair p a b) N (.pair k l):=trivial
theorem Ty.lo {t:T68} {w':Kd} (h:Ty q t N w) (hl:∀ k,Lo k w→Lo k w'):Ty q t N w':=trivial
theorem Ty.up {t:T68} {q':Nat} (h:Ty q t N w) (hq:q≤q'):Ty q' t N w:=trivial
end
theorem iZ {i j:Int} (h:-(2 ^ 64)<j∧j<2 ^ 64):opD .mul (.int i) (.int j)=some (.int (i * j)):=by
 show (if _ then _ else _)=_
 rw [if_pos (.inl (.inr h))]
theorem Ac {i j:Int} (h:-(2 ^ 64)<i∧i<2 ^ 64):opD .mul (.int i) (.int j)=some (.int (i * j)):=by
 show (if _ then _ else _)=_
 rw [if_pos (.inl (.inl h))]
theorem aT {a b:Int} (h:a=b):(a == b)=true:=by rw [h];exact beq_self_eq_true b
theorem ai {a b:Int} (h:a≠b):(a == b)=false:=by simpa using h
theorem eh {a b k:Int} (h:a % b=k) (hb:0<b):opD .mod (.int a) (.int b)=some (.int k):=by
 show (if 0<b then some (D.int (a % b)) else none)=_;rw [if_pos hb,h]
theorem mV (ns:List Int) (k:Nat) (n:Nat) (st:List O):∃ c:Int,aa Γ (n+1) gE [.lst (ns.map .int),.int k] st = .ok (.int c) st:=by
 by_cases c:k<ns.length
 ·have e1:decide ((k:Int)<((ns.map D.int).length:Nat))=true:=by rw [List.length_map];exact decide_eq_true (by omega)
  have e2:ixD (.lst (ns.map D.int)) (.int (k:Int))=some (.int ns[k]):=by
   refine cK ?_
   rw [List.getElem?_map,List.getElem?_eq_getElem c];rfl
  exact ⟨ns[k],(ac false (aX 2 (e1) (aX 0 (e2) aZ)) (by kernel_rfl))⟩
 ·have e1:decide ((k:Int)<((ns.map D.int).length:Nat))=false:=by rw [List.length_map];exact decide_eq_false (by omega)
  exact ⟨0,(ac false (aX 2 (e1) aZ) (by kernel_rfl))⟩
abbrev qw (ns:List Int) (i b c:Int) (w o:D):O:=.lst [.lst (ns.map .int),.int i,.int b,.int c,w,o]
abbrev pl0 (b0 c:Int):Int:=(b0+7919 * (c+1)) % 9973
theorem sm0 (b0 c:Int):Sm (pl0 b0 c):=by unfold Sm pl0;omega
theorem gV (ns:List Int) (i b c:Int) (w o:D) (n:Nat) (st:List O):aa Γ (n+1) jB [.ref 0] (qw ns i b c w o :: st) = .ok (.int (pl0 b c)) (qw ns i b (c+1) w o :: st):=by kernel_rfl
def qo (x:Int):Prop:=0≤x∧x<10 ^ 13
theorem next (ns:List Int) (i b c:Int) (w o:D) (hi:0≤i) (n:Nat) (st:List O):∃ x:Int,qo x∧aa Γ (n+1) kJ [.ref 0] (qw ns i b c w o :: st) = .ok (.int x) (qw ns (i+1) b c w o :: st):=by
 by_cases c1:30<c
 ·have e1:decide ((30:Int)<c)=true:=decide_eq_true c1
  exact ⟨3,⟨by omega,by omega⟩,(ac false (aX 4 (e1) aZ) (by kernel_rfl))⟩
 ·have e1:decide ((30:Int)<c)=false:=decide_eq_false c1
  by_cases c2:(ns.length:Int)≤i+1
  ·have e2:decide (((ns.map D.int).length:Int)≤i+1)=true:=by rw [List.length_map];exact decide_eq_true c2
   exact ⟨3,⟨by omega,by omega⟩,(ac false (aX 4 (e1) (aX 4 (e2) aZ)) (by kernel_rfl))⟩
  ·have e2:decide (((ns.map D.int).length:Int)≤i+1)=false:=by rw [List.length_map];exact decide_eq_false c2
   obtain ⟨k,hk⟩:∃ k:Nat,i+1=k:=⟨(i+1).toNat,by omega⟩
   have kl:k<ns.length:=by omega
   have e3:ixD (.lst (ns.map D.int)) (.int (i+1))=some (.int ns[k]):=by
    rw [hk]
    refine cK ?_
    rw [List.getElem?_map,List.getElem?_eq_getElem kl];rfl
   exact ⟨(ns[k] * 6364136223846793005+7919 * (i+1)) % 1000000000039,⟨by omega,by omega⟩,(ac false (aX 4 (e1) (aX 4 (e2) (aX 2 (e3) (aX 0 (iZ (i:=ns[k]) (j:=6364136223846793005) (by decide)) (aX 1 (Ac (i:=7919) (j:=i+1) (by decide)) aZ))))) (by kernel_rfl))⟩
theorem yk (c:Int) (h:qo c) (n:Nat) (st:List O):∃ v:Int,v.natAbs<10 ^ 40∧aa Γ (n+1) iw [.int c] st = .ok (.int v) st:=by
 obtain ⟨h0,h1⟩:=h
 have sg:-(2 ^ 64)<1 - 2 * (c / 8 % 2)∧1 - 2 * (c / 8 % 2)<2 ^ 64:=⟨by omega,by omega⟩
 have s1:1 - 2 * (c / 8 % 2)=1∨1 - 2 * (c / 8 % 2) = -1:=by omega
 have bd:∀ x:Int,0≤x→x<10 ^ 40→(x * (1 - 2 * (c / 8 % 2))).natAbs<10 ^ 40:=fun x h0 h1=>by rcases s1 with e | e <;> rw [e] <;> omega
 have m2:opD .mul (.int 2) (.int (c / 8 % 2))=some (.int (2 * (c / 8 % 2))):=iZ (by omega)
 by_cases c0:c % 8=1
 ·exact ⟨_,bd (10 ^ 40 - 1 - c / 16 % 1000) (by omega) (by omega),(ac false (aX 2 (aT c0) (aX 7 (m2) (aX 1 (iZ (i:=10 ^ 40 - 1 - c / 16 % 1000) sg) aZ))) (by kernel_rfl))⟩
 ·by_cases c1:c % 8=2
  ·exact ⟨c / 8,by omega,(ac false (aX 2 (ai c0) (aX 2 (aT c1) aZ)) (by kernel_rfl))⟩
  ·exact ⟨c / 8 % 12 - 3,by omega,(ac false (aX 2 (ai c0) (aX 2 (ai c1) aZ)) (by kernel_rfl))⟩
def fl3 (c:Int):Kd:=if c % 3=0 then .whole else if c % 3=1 then .truth else .unt
theorem jq (c:Int):(fl3 c).dep=1:=by unfold fl3;split <;> (try split) <;> rfl
theorem l9 (c:Int):ixD (.lst [Kd.whole.toD,Kd.truth.toD,Kd.unt.toD]) (.int (c % 3))=some (fl3 c).toD:=by
 have h:c % 3=0∨c % 3=1∨c % 3=2:=by omega
 unfold fl3
 rcases h with h | h | h <;> rw [h] <;> rfl
theorem vW (c:Int) (n:Nat) (st:List O):∃ k:Kd,k.dep=1∧aa Γ (n+1) kF [.int c] st = .ok k.toD st:=⟨fl3 c,jq c,(ac false (aX 1 (l9 c) aZ) (by kernel_rfl))⟩
theorem iW (c:Int) (n:Nat) (st:List O):∃ k:Kd,k.dep≤2∧aa Γ (n+1) kG [.int c] st = .ok k.toD st:=by
 have ha:=jq c
 have hb:=jq (c / 3)
 have i1:=l9 c
 have i2:=l9 (c / 3)
 generalize fl3 c=a at *
 generalize fl3 (c / 3)=b at *
 have h:c / 9 % 5=0∨c / 9 % 5=1∨c / 9 % 5=2∨c / 9 % 5=3∨c / 9 % 5=4:=by omega
 rcases h with h | h | h | h | h
 ·exact ⟨a,by omega,(ac false (aX 1 (i1) (aX 2 (i2) (aX 1 (eh h (by decide)) aZ))) (by kernel_rfl))⟩
 ·exact ⟨.to b a,by show 1+max b.dep a.dep≤2;omega,(ac false (aX 1 (i1) (aX 2 (i2) (aX 1 (eh h (by decide)) aZ))) (by kernel_rfl))⟩
 ·exact ⟨.row a,by show 1+a.dep≤2;omega,(ac false (aX 1 (i1) (aX 2 (i2) (aX 1 (eh h (by decide)) aZ))) (by kernel_rfl))⟩
 ·exact ⟨.pair a b,by show 1+max a.dep b.dep≤2;omega,(ac false (aX 1 (i1) (aX 2 (i2) (aX 1 (eh h (by decide)) aZ))) (by kernel_rfl))⟩
 ·exact ⟨a,by omega,(ac false (aX 1 (i1) (aX 2 (i2) (aX 1 (eh h (by decide)) aZ))) (by kernel_rfl))⟩
def nmA (N:Al):List Str:=N.filterMap fun p=>match p.1 with | .inr x=>some x | .inl _=>none
structure Nk (W:List Str) (N:Al):Prop where
 nd:(ksA N).Nodup
 sb:∀ p∈N,∃ x∈W,p.1 = .inr x
 dp:∀ p∈N,p.2.dep≤3
theorem Nk.nil {W:List Str}:Nk W []:=⟨List.nodup_nil,fun _ h=>(by cases h),fun _ h=>(by cases h)⟩
theorem sj {α:Type} [DecidableEq α]:∀ (l m:List α),l.Nodup→(∀ x∈l,x∈m)→l.length≤m.length
 | [],m,_,_=>Nat.zero_le _
 | x :: l,m,hn,hs=>by
   have hx:=hs x (by simp)
   obtain ⟨hx1,hn2⟩:=List.nodup_cons.mp hn
   have:=sj l (m.erase x) hn2 (fun y hy=>(List.mem_erase_of_ne (fun e:y=x=>hx1 (e ▸ hy))).mpr (hs y (by simp [hy])))
   rw [List.length_erase_of_mem hx] at this
   have:0<m.length:=List.length_pos_of_mem hx
   simp only [List.length_cons];omega
theorem Nk.few {W:List Str} {N:Al} (h:Nk W N) (hW:W.length=5):N.length≤5:=by
 have:=sj (ksA N) (W.map Sum.inr) h.nd (fun k hk=>by
  obtain ⟨p,hp,rfl⟩:=List.mem_map.mp hk
  obtain ⟨x,hx,e⟩:=h.sb p hp
  rw [e];exact List.mem_map.mpr ⟨x,hx,rfl⟩)
 rw [List.length_map,hW] at this
 unfold ksA at this
 rwa [List.length_map] at this
theorem Nk.put {W:List Str} {N:Al} (h:Nk W N) {x:Str} (hx:x∈W) {k:Kd} (hk:k.dep≤3):Nk W (ah N (.inr x) k):=by
 refine ⟨?_,?_,bQ (P:=fun k=>k.dep≤3) h.dp hk⟩
 ·unfold ah
  split
  ·rw [rx];exact h.nd
  ·rename_i c
   unfold ksA
   rw [List.map_append,List.nodup_append]
   refine ⟨h.nd,by simp,fun a ha b hb e=>c ?_⟩
   obtain ⟨p,hp,rfl⟩:=List.mem_map.mp ha
   simp at hb
   exact List.any_eq_true.mpr ⟨p,hp,by simp [e,hb]⟩
 ·unfold ah
  split
  ·intro p hp
   obtain ⟨q,hq,rfl⟩:=List.mem_map.mp hp
   obtain ⟨y,hy,e⟩:=h.sb q hq
   refine ⟨y,hy,?_⟩
   split <;> exact e
  ·intro p hp
   rcases List.mem_append.mp hp with hp | hp
   ·exact h.sb p hp
   ·rw [List.mem_singleton.mp hp];exact ⟨x,hx,rfl⟩
theorem Nk.walk {W:List Str} {N:Al} (h:Nk W N):(ksA N).map rp=sts (nmA N):=by
 have:∀ N:Al,(∀ p∈N,∃ x∈W,p.1 = .inr x)→(ksA N).map rp=sts (nmA N):=by
  intro N
  induction N with
  | nil=>intro _;rfl
  | cons p r ih=>
    intro h
    obtain ⟨x,_,e⟩:=h p (by simp)
    have i:=ih (fun q hq=>h q (by simp [hq]))
    unfold ksA nmA sts at *
    rw [List.map_cons,List.map_cons,i,List.filterMap_cons,e];rfl
 exact this N h.sb
theorem yh {N:Al} {x:Str} (h:x∈nmA N):∃ k,aq N (.inr x)=some k:=by
 induction N with
 | nil=>cases h
 | cons p r ih=>
   show ∃ k,(if p.1 = .inr x then some p.2 else aq r (.inr x))=some k
   by_cases c:p.1 = .inr x
   ·rw [if_pos c];exact ⟨_,rfl⟩
   ·rw [if_neg c]
    refine ih ?_
    obtain ⟨q,hq,e⟩:=List.mem_filterMap.mp h
    rcases List.mem_cons.mp hq with rfl | hq
    ·cases hp:q.1 with
     | inl i=>rw [hp] at e;cases e
     | inr y=>rw [hp] at e c;cases e;exact absurd rfl c
    ·exact List.mem_filterMap.mpr ⟨q,hq,e⟩
theorem eV {N:Al} {x y:Str} {k:Kd} (h:y∈nmA (ah N (.inr x) k)):y∈nmA N ++ [x]:=by
 obtain ⟨q,hq,e⟩:=List.mem_filterMap.mp h
 unfold ah at hq
 split at hq
 ·obtain ⟨p,hp,rfl⟩:=List.mem_map.mp hq
  refine List.mem_append_left _ (List.mem_filterMap.mpr ⟨p,hp,?_⟩)
  by_cases c:p.1 = .inr x
  ·rw [if_pos c] at e;exact e
  ·rw [if_neg c] at e;exact e
 ·rcases List.mem_append.mp hq with hq | hq
  ·exact List.mem_append_left _ (List.mem_filterMap.mpr ⟨q,hq,e⟩)
  ·rw [List.mem_singleton.mp hq] at e;cases e;exact List.mem_append_right _ (by simp)
theorem yi (N:Al):(nmA N).length≤N.length:=List.length_filterMap_le _ _
theorem gI (N:Al) (x:Str) (k:Kd) (h:N.length<1000) (n:Nat) (S:List O):aa Γ (n+1) kI [dA N,.str x,k.toD] S = .ok (dA (ah N (.inr x) k)) S:=(ac false (aX 1 (gX N x k (by omega)) aZ) (by kernel_rfl))
theorem lM {W:List Str} (hW:W.length=5) (c:Int):∃ x,x∈W∧ixD (.lst (sts W)) (.int (c % 5))=some (.str x):=by
 obtain ⟨k,hk⟩:∃ k:Nat,c % 5=k:=⟨(c % 5).toNat,by omega⟩
 have kl:k<W.length:=by omega
 refine ⟨W[k],List.getElem_mem kl,?_⟩
 rw [hk]
 refine cK ?_
 unfold sts
 rw [List.getElem?_map,List.getElem?_eq_getElem kl];rfl
abbrev fC:E:=.op .eq (.ix (.v 3) (.v 0)) (.v 2)
theorem eQ (m:Nat) (dl cell:D) (want:Kd) (N:Al) (hd:∀ p∈N,p.2.dep≤3) (tl:List (Option D)) (S:List O):∀ (r:List Str) (acc:List D) (e:Option D),(∀ x∈r,x∈nmA N)→acc.length+r.length<1000→∃ (l:List Str) (e':Option D),(∀ x∈l,x∈nmA N∧aq N (.inr x)=some want)∧l.length≤r.length∧aQ (lcQ Γ (aa Γ m) (az Γ m) [0] true (.v 0) fC) (sts r) acc ⟨e :: some dl :: some want.toD :: some (dA N) :: some cell :: tl,[],S⟩ = .ok (.lst (acc ++ sts l)) ⟨e' :: some dl :: some want.toD :: some (dA N) :: some cell :: tl,[],S⟩
 | [],acc,e,_,_=>⟨[],e,fun x h=>(nomatch h),Nat.le_refl _,by simp [aQ,sts]⟩
 | x :: r,acc,e,hr,hn=>by
   simp only [List.length_cons] at hn
   have hx:=hr x (by simp)
   obtain ⟨k,hk⟩:=yh hx
   have hi:ixD (dA N) (.str x)=some k.toD:=by show bG (ksA N) (dsA N) (.inr x)=_;rw [iS,hk];rfl
   have kd:k.dep≤55:=by obtain ⟨p,hp,e⟩:=b8 hk;have:=hd p hp;rw [e] at this;omega
   have he:opD .eq (look S k.toD) (look S want.toD)=some (.bl (decide (k=want))):=by
    rw [dF,dF]
    show (eqT k.toD want.toD).map D.bl=_
    rw [jn (by cases k <;> rfl)]
    rw [dh 55 k kd];rfl
   have hc:ev Γ (aa Γ m) (az Γ m) true fC ⟨some (.str x) :: some dl :: some want.toD :: some (dA N) :: some cell :: tl,[],S⟩ = .ok (.bl (decide (k=want))) ⟨some (.str x) :: some dl :: some want.toD :: some (dA N) :: some cell :: tl,[],S⟩:=(eP false (aX 0 (hi) (aX 0 (he) aZ)) (by kernel_rfl))
   by_cases c:k=want
   ·rw [decide_eq_true c] at hc
    obtain ⟨l,e',h1,h2,h3⟩:=eQ m dl cell want N hd tl S r (acc ++ [.str x]) (some (.str x)) (fun y hy=>hr y (by simp [hy])) (by rw [List.length_append,List.length_singleton];omega)
    refine ⟨x :: l,e',fun y hy=>?_,by simp only [List.length_cons];omega,cO (dX rfl hc rfl) (by omega) (by rw [List.append_assoc] at h3;exact h3)⟩
    rcases List.mem_cons.mp hy with rfl | hy
    ·exact ⟨hx,by rw [hk,c]⟩
    ·exact h1 y hy
   ·rw [decide_eq_false c] at hc
    obtain ⟨l,e',h1,h2,h3⟩:=eQ m dl cell want N hd tl S r acc (some (.str x)) (fun y hy=>hr y (by simp [hy])) (by omega)
    exact ⟨l,e',h1,by simp only [List.length_cons];omega,dG (eU rfl hc) h3⟩
theorem Ok.mono {W:List Str}:∀ {n n':Nat} {bs bs':List Str} {t:T68},Ok W n bs t→(∀ x∈bs,x∈bs')→n≤n'→Ok W n' bs' t
 | 0,n',bs,bs',t,h,_,_=>h.elim
 | n+1,0,bs,bs',t,_,_,h=>absurd h (by omega)
 | n+1,n'+1,bs,bs',t,⟨o1,o2,o3,o4⟩,hs,hn=>by
   refine ⟨?_,o2,o3,fun i k hk=>(o4 i k hk).mono (fun x hx=>?_) (by omega)⟩
   ·cases t <;> first | exact hs _ o1 | exact o1
   ·rcases List.mem_append.mp hx with hx | hx
    ·exact List.mem_append_left _ (hs x hx)
    ·exact List.mem_append_right _ hx
def Mad (od:Int) (W:List Str) (q:Nat) (N:Al) (w:Kd) (t:T68):Prop:=Ok W q (nmA N) t∧(od≠0→Ty q t N w)
section
variable {od:Int} {W:List Str} {q:Nat} {N:Al} {w:Kd} {p:Int}
theorem ok0 (sp:Sm p) {t:T68} (e:t.pl=p) (h:own W (nmA N) t) (hk:aj t = []) (hw:wks t = []):Ok W (q+1) (nmA N) t:=⟨h,by rw [e];exact sp,by rw [hw];exact fun _ h=>(by cases h),fun i k e=>by rw [hk] at e;simp at e⟩
theorem gO (sp:Sm p) {v:Int} (hv:v.natAbs<10 ^ 40):Mad od W (q+1) N .whole (.whole p v):=⟨ok0 sp rfl hv rfl rfl,fun _=>ty0 rfl rfl fun E _=>⟨.whole,Nat.le_of_ble_eq_true rfl⟩⟩
theorem k7 (sp:Sm p) {v:Nat} (hv:v<8):Mad od W (q+1) N .whole (.given p v):=⟨ok0 sp rfl hv rfl rfl,fun _=>ty0 rfl rfl fun E _=>⟨.whole,Nat.le_of_ble_eq_true rfl⟩⟩
theorem sf (sp:Sm p) {v:Bool}:Mad od W (q+1) N .truth (.truth p v):=⟨ok0 sp rfl trivial rfl rfl,fun _=>ty0 rfl rfl fun E _=>⟨.truth,Nat.le_of_ble_eq_true rfl⟩⟩
theorem jP (sp:Sm p) {x:Str} (h:x∈nmA N) (hg:aq N (.inr x)=some w) (hd:w.dep≤4):Mad od W (q+1) N w (.name p x):=⟨ok0 sp rfl h rfl rfl,fun _=>vw hg hd⟩
theorem ok1 (sp:Sm p) {t a:T68} {bs:List Str} (e:t.pl=p) (h:own W bs t) (hk:aj t = [a]) (hw:∀ k∈wks t,k.dep≤8) (ha:Ok W q (bs ++ bnd t 0) a):Ok W (q+1) bs t:=⟨h,by rw [e];exact sp,hw,fun i k e=>by
 rw [hk] at e
 match i,e with
 | 0,e=>cases e;exact ha
 | i+1,e=>simp at e⟩
theorem ok2 (sp:Sm p) {t a b:T68} {bs:List Str} (e:t.pl=p) (h:own W bs t) (hk:aj t = [a,b]) (hw:wks t = []) (ha:Ok W q (bs ++ bnd t 0) a) (hb:Ok W q (bs ++ bnd t 1) b):Ok W (q+1) bs t:=⟨h,by rw [e];exact sp,by rw [hw];exact fun _ h=>(by cases h),fun i k e=>by
 rw [hk] at e
 match i,e with
 | 0,e=>cases e;exact ha
 | 1,e=>cases e;exact hb
 | i+2,e=>simp at e⟩
theorem Ok.app {bs:List Str} {t:T68} (h:Ok W q bs t):Ok W q (bs ++ []) t:=by rw [List.append_nil];exact h
theorem wc (sp:Sm p) {k k':Kd} {a:T68} (ha:Mad od W q N k' a) (hp:∀ c,Lo c k'→c.par k=none) (hd:k.dep≤4) (hl:Lo k w):Mad od W (q+1) N w (.as_ p k a):=⟨ok1 sp rfl trivial rfl (fun z hz=>by rw [List.mem_singleton.mp hz];omega) ha.1.app,fun h=>AD (ha.2 h) hp hd hl⟩
theorem jN (sp:Sm p) {k':Kd} {a:T68} (ha:Mad od W q N k' a):Mad od W (q+1) N w (.as_ p .unt a):=wc sp ha (fun c _=>cR c) (by decide) (.unt w)
theorem we (sp:Sm p) {x:Str} {a:Kd} {b:T68} (hx:x∈W) (h:Mad od W q (ah N (.inr x) a) w b) (ha:a.dep≤3) (hd:w.dep≤3):Mad od W (q+1) N (.to a w) (.fn p x a b):=⟨ok1 sp rfl hx rfl (fun z hz=>by rw [List.mem_singleton.mp hz];omega) (h.1.mono (fun _=>eV) (Nat.le_refl _)),fun z=>AE (h.2 z) ha hd⟩
theorem ye (sp:Sm p) {f x:Str} {a g:Kd} {b:T68} (hf:f∈W) (hx:x∈W) (h:Mad od W q (ah (ah N (.inr f) (.to a g)) (.inr x) a) g b) (ha:a.dep≤3) (hd:g.dep≤3):Mad od W (q+1) N (.to a g) (.slf p f x a g b):=⟨ok1 sp rfl ⟨hf,hx⟩ rfl (fun z hz=>by simp [wks] at hz;rcases hz with rfl | rfl <;> omega) (h.1.mono (fun y hy=>by
 rcases List.mem_append.mp (eV hy) with hy | hy
 ·rcases List.mem_append.mp (eV hy) with hy | hy
  ·exact List.mem_append_left _ hy
  ·exact List.mem_append_right _ (by rw [List.mem_singleton.mp hy];exact List.mem_cons_self ..)
 ·exact List.mem_append_right _ (List.mem_cons_of_mem _ hy)) (Nat.le_refl _)),fun z=>yN (h.2 z) ha hd⟩
theorem uW (sp:Sm p) {k:Kd} {a b:T68} (ha:Mad od W q N (.to k w) a) (hb:Mad od W q N k b) (hd:w.dep≤4):Mad od W (q+1) N w (.call p a b):=⟨ok2 sp rfl trivial rfl rfl ha.1.app hb.1.app,fun z=>vv (ha.2 z) (hb.2 z) hd⟩
theorem yc (sp:Sm p) {x:Str} {k:Kd} {a b:T68} (hx:x∈W) (ha:Mad od W q N k a) (hb:Mad od W q (ah N (.inr x) k) w b) (hd:w.dep≤4):Mad od W (q+1) N w (.lt p x a b):=⟨ok2 sp rfl hx rfl rfl ha.1.app (hb.1.mono (fun _=>eV) (Nat.le_refl _)),fun z=>yK (ha.2 z) (hb.2 z) hd⟩
theorem mE (sp:Sm p) {c a b:T68} (hc:Mad od W q N .truth c) (ha:Mad od W q N w a) (hb:Mad od W q N w b) (hd:w.dep≤4):Mad od W (q+1) N w (.iff p c a b):=⟨⟨trivial,sp,fun _ h=>(by cases h),fun i k e=>by
 match i,e with
 | 0,e=>cases e;exact hc.1.app
 | 1,e=>cases e;exact ha.1.app
 | 2,e=>cases e;exact hb.1.app
 | i+3,e=>simp [aj] at e⟩,fun z=>yJ (hc.2 z) (ha.2 z) (hb.2 z) hd⟩
theorem jO (sp:Sm p) {o:Sg} {a b:T68} (ha:Mad od W q N .whole a) (hb:Mad od W q N .whole b) (hw:cm (.bin p o a b) [] []=w):Mad od W (q+1) N w (.bin p o a b):=⟨ok2 sp rfl trivial rfl rfl ha.1.app hb.1.app,fun z=>yI (ha.2 z) (hb.2 z) hw⟩
theorem gN (sp:Sm p) {k:Kd} {ts:List T68} (hl:ts.length≤4) (h:∀ t∈ts,∃ w,Mad od W q N w t∧∀ c,Lo c w→c.par k=none) (hd:k.dep≤3):Mad od W (q+1) N (.row k) (.row p k ts):=⟨⟨hl,sp,fun z hz=>by rw [List.mem_singleton.mp hz];omega,fun i t e=>by
 obtain ⟨w,h1,_⟩:=h t (List.mem_of_getElem? e)
 exact h1.1.app⟩,fun z=>yM (fun t ht=>by obtain ⟨w,h1,h2⟩:=h t ht;exact ⟨w,h1.2 z,h2⟩) hd⟩
theorem yb (sp:Sm p) {a b:T68} (ha:Mad od W q N (.row w) a) (hb:Mad od W q N .whole b) (hd:w.dep≤4):Mad od W (q+1) N w (.att p a b):=⟨ok2 sp rfl trivial rfl rfl ha.1.app hb.1.app,fun z=>yH (ha.2 z) (hb.2 z) hd⟩
theorem uX (sp:Sm p) {k:Kd} {a:T68} (ha:Mad od W q N (.row k) a):Mad od W (q+1) N .whole (.size p a):=⟨ok1 sp rfl trivial rfl (fun _ h=>(by cases h)) ha.1.app,fun z=>vy (ha.2 z)⟩
theorem yd (sp:Sm p) {k:Kd} {a:T68} (ha:Mad od W q N (.pair w k) a) (hd:w.dep≤4):Mad od W (q+1) N w (.one p a):=⟨ok1 sp rfl trivial rfl (fun _ h=>(by cases h)) ha.1.app,fun z=>yL (ha.2 z) hd⟩
theorem yf (sp:Sm p) {k:Kd} {a:T68} (ha:Mad od W q N (.pair k w) a) (hd:w.dep≤4):Mad od W (q+1) N w (.two p a):=⟨ok1 sp rfl trivial rfl (fun _ h=>(by cases h)) ha.1.app,fun z=>yO (ha.2 z) hd⟩
theorem nZ (sp:Sm p) {k l:Kd} {a b:T68} (ha:Mad od W q N k a) (hb:Mad od W q N l b) (hk:k.dep≤3) (hl:l.dep≤3):Mad od W (q+1) N (.pair k l) (.pair p a b):=⟨ok2 sp rfl trivial rfl rfl ha.1.app hb.1.app,fun z=>vx (ha.2 z) (hb.2 z) hk hl⟩
theorem Mad.up {t:T68} {q':Nat} (h:Mad od W q N w t) (hq:q≤q'):Mad od W q' N w t:=⟨h.1.mono (fun _ h=>h) hq,fun z=>(h.2 z).up hq⟩
end
def Kd.lN:Kd→Nat
 | .whole=>1
 | .truth=>1
 | .unt=>2
 | .to _ b=>1+b.lN
 | .row a=>1+a.lN
 | .pair a b=>1+max a.lN b.lN
theorem Kd.lN_le:∀ k:Kd,k.lN≤k.dep+1
 | .whole=>by decide
 | .truth=>by decide
 | .unt=>by decide
 | .to a b=>by have:=lN_le b;show 1+b.lN≤1+max a.dep b.dep+1;omega
 | .row a=>by have:=lN_le a;show 1+a.lN≤1+a.dep+1;omega
 | .pair a b=>by have:=lN_le a;have:=lN_le b;show 1+max a.lN b.lN≤1+max a.dep b.dep+1;omega
def Kd.ok (k:Kd):Prop:=k.dep≤3∧k.lN≤3
theorem Kd.ok2 {k:Kd} (h:k.dep≤2):k.ok:=⟨by omega,by have:=Kd.lN_le k;omega⟩
abbrev dS (ns:List Int) (i b0:Int) (W:List Str) (od:Int) (st:List O) (c:Int):List O:=qw ns i b0 c (.lst (sts W)) (.int od) :: st
theorem xm {s:Sta} {elt:E} (hb:aK t one d s.env=some env) (h:ev Γ cal cal1 false elt ⟨env,[],s.st⟩ = .ok e s3):lcQ Γ cal cal1 t one elt (.c (.bl true)) d s = .ok (some e) ⟨s3.env,[],s3.st⟩:=dX hb rfl h
theorem Ap (c:Int):∃ k:Kd,k.lN=1∧k.dep=1∧ixD (.lst [Kd.whole.toD,Kd.truth.toD,Kd.whole.toD]) (.int (c % 3))=some k.toD:=by
 have h:c % 3=0∨c % 3=1∨c % 3=2:=by omega
 rcases h with h | h | h <;> rw [h]
 ·exact ⟨.whole,rfl,rfl,rfl⟩
 ·exact ⟨.truth,rfl,rfl,rfl⟩
 ·exact ⟨.whole,rfl,rfl,rfl⟩
theorem ey {c:Int} {n:Int} (h:0<n):∃ k:Nat,c % n=k∧(k:Int)<n:=⟨(c % n).toNat,by have:=Int.emod_nonneg c (b:=n) (by omega);omega,by have:=Int.emod_nonneg c (b:=n) (by omega);have:=Int.emod_lt_of_pos c h;omega⟩
theorem Mad.nil {od:Int} {W:List Str} {q:Nat} {N:Al} {w:Kd} {t:T68} (h:Mad od W q [] w t):Mad od W q N w t:=⟨h.1.mono (fun _ h=>(by cases h)) (Nat.le_refl _),fun _=>trivial⟩
theorem xH {W:List Str} (hW:W.length=5) (ns:List Int) (i b0 od:Int) (st:List O):∀ (d:Nat) (want:Kd),want.lN≤d→want.dep≤3→∀ (N:Al) (cell c:Int) (M:Nat),Nk W N→qo cell→d+2≤M→∃ (t:T68) (c':Int),Mad od W d N want t∧aa Γ M fq [.ref 0,want.toD,dA N,.int cell] (dS ns i b0 W od st c) = .ok t.toD (dS ns i b0 W od st c')
 | 0,want,h,_,_,_,_,_,_,_,_=>by cases want <;> (unfold Kd.lN at h;omega)
 | d+1,want,h,hdp,N,cell,c,M,nk,hc,hM=>by
   obtain ⟨m,rfl⟩:∃ m,M=m+2:=⟨M - 2,by omega⟩
   have ih:=xH hW ns i b0 od st d
   have k5:=nk.few hW
   have nl:=yi N
   obtain ⟨c0,c1⟩:=hc
   obtain ⟨l,e',hl,hn,hf⟩:=eQ (m+1) (.ref 0) (.int cell) want N nk.dp [none,none,none,none,none] (dS ns i b0 W od st c) (nmA N) [] none (fun x h=>h) (by simp only [List.length_nil];omega)
   rw [← nk.walk] at hf
   have hp:=gV ns i b0 c (.lst (sts W)) (.int od) m st
   have sp:=sm0 b0 c
   have sl:(sts l).length=l.length:=List.length_map ..
   by_cases hA:l≠[]∧0<cell % 4
   ·obtain ⟨hA1,hA2⟩:=hA
    have lp:0<l.length:=List.length_pos_iff.mpr hA1
    have f1:decide ((0:Int)<((sts l).length:Nat))=true:=decide_eq_true (by rw [sl];omega)
    have f2:decide ((0:Int)<cell % 4)=true:=decide_eq_true hA2
    obtain ⟨k,hk,kl⟩:=ey (c:=cell / 4) (n:=((sts l).length:Nat)) (by omega)
    have kl:k<l.length:=by omega
    have g1:opD .mod (.int (cell / 4)) (.int ((sts l).length:Nat))=some (.int (k:Nat)):=eh hk (by omega)
    have g2:ixD (.lst (sts l)) (.int (k:Nat))=some (.str l[k]):=by
     refine cK ?_
     unfold sts
     rw [List.getElem?_map,List.getElem?_eq_getElem kl];rfl
    obtain ⟨n1,n2⟩:=hl _ (List.getElem_mem kl)
    exact ⟨.name (pl0 b0 c) l[k],c+1,jP sp n1 n2 (by omega),(ac true (aX 0 (hf) (aX 2 (f1) (aX 2 (f2) (aX 0 (hp) (aX 2 (g1) (aX 0 (g2) aZ)))))) (by kernel_rfl))⟩
   ·have rt:decide ((0:Int)<((sts l).length:Nat))=false∨(decide ((0:Int)<((sts l).length:Nat))=true∧decide ((0:Int)<cell % 4)=false):=by
     rw [sl]
     by_cases q:l = []
     ·subst q;exact .inl rfl
     ·have lp:0<l.length:=List.length_pos_iff.mpr q
      exact .inr ⟨decide_eq_true (by omega),decide_eq_false fun z=>hA ⟨q,z⟩⟩
    have hd:exS Γ (aa Γ (m+1)) (az Γ (m+1)) (hdS 2 fi.body) ⟨[some (.ref 0),some want.toD,some (dA N),some (.int cell),none,none,none,none,none],[],dS ns i b0 W od st c⟩ = .nx ⟨[some (.ref 0),some want.toD,some (dA N),some (.int cell),none,some (.lst (sts l)),some (.int (pl0 b0 c)),none,none],[5],dS ns i b0 W od st (c+1)⟩:=by
     rcases rt with f0 | ⟨f1,f2⟩
     ·exact (bA true (aX 0 (hf) (aX 2 (f0) (aX 0 (hp) aZ))) (by kernel_rfl))
     ·exact (bA true (aX 0 (hf) (aX 2 (f1) (aX 2 (f2) (aX 0 (hp) aZ)))) (by kernel_rfl))
    have tl:=fun {r:Res}=>bZ (ds:=[.ref 0,want.toD,dA N,.int cell]) (j:=fq) (r:=r) 2 fi rfl rfl hd
    cases want with
    | whole=>
      by_cases q:cell % 3=0
      ·obtain ⟨k,hk,k8⟩:=ey (c:=cell / 12) (n:=8) (by decide)
       exact ⟨.given (pl0 b0 c) k,c+1,k7 sp (by omega),tl (aF true (aX 5 (aT q) (aX 1 (eh hk (by decide)) aZ)) (by kernel_rfl))⟩
      ·obtain ⟨v,hv,hnum⟩:=yk (cell / 12) ⟨by omega,by omega⟩ m (dS ns i b0 W od st (c+1))
       exact ⟨.whole (pl0 b0 c) v,c+1,gO sp hv,tl (aF true (aX 5 (ai q) (aX 0 (hnum) aZ)) (by kernel_rfl))⟩
    | truth=>exact ⟨.truth (pl0 b0 c) (cell / 12 % 2 == 0),c+1,sf sp,tl (aF true aZ (by kernel_rfl))⟩
    | unt=>
      obtain ⟨k,k1,k2,hk⟩:=Ap (cell / 12)
      have hd2:k.lN≤d:=by have h:2≤d+1:=h;omega
      obtain ⟨t,c2,ot,ht⟩:=ih k hd2 (by omega) [] (cell / 36) (c+1) (m+1) Nk.nil ⟨by omega,by omega⟩ (by omega)
      refine ⟨.as_ (pl0 b0 c) .unt t,c2,?_,tl (aF true (aX 11 (hk) (aX 0 (ht) aZ)) (by kernel_rfl))⟩
      exact jN sp (Mad.nil ot)
    | to a b=>
      have hab:b.lN≤d∧a.dep≤3∧b.dep≤3∧max a.dep b.dep≤2:=by unfold Kd.lN at h;unfold Kd.dep at hdp;omega
      obtain ⟨x,hx,ix⟩:=lM hW (cell / 12)
      have hm:=gI N x a (by omega) m (dS ns i b0 W od st (c+1))
      obtain ⟨t,c2,ot,ht⟩:=ih b hab.1 hab.2.2.1 (ah N (.inr x) a) (cell / 60) (c+1) (m+1) (nk.put hx hab.2.1) ⟨by omega,by omega⟩ (by omega)
      exact ⟨.fn (pl0 b0 c) x a t,c2,we sp hx ot hab.2.1 hab.2.2.1,tl (aF true (aX 15 (ix) (aX 0 (hm) (aX 0 (ht) aZ))) (by kernel_rfl))⟩
    | pair a b=>
      have hab:a.lN≤d∧b.lN≤d∧a.dep≤3∧b.dep≤3:=by unfold Kd.lN at h;unfold Kd.dep at hdp;omega
      obtain ⟨t,c2,ot,ht⟩:=ih a hab.1 hab.2.2.1 N (cell / 12) (c+1) (m+1) nk ⟨by omega,by omega⟩ (by omega)
      obtain ⟨u,c3,ou,hu⟩:=ih b hab.2.1 hab.2.2.2 N (cell / 60) c2 (m+1) nk ⟨by omega,by omega⟩ (by omega)
      exact ⟨.pair (pl0 b0 c) t u,c3,nZ sp ot ou hab.2.2.1 hab.2.2.2,tl (aF true (aX 0 (ht) (aX 0 (hu) aZ)) (by kernel_rfl))⟩
    | row a=>
      have hab:a.lN≤d∧a.dep≤3:=by unfold Kd.lN at h;unfold Kd.dep at hdp;omega
      have q3:cell / 12 % 3=0∨cell / 12 % 3=1∨cell / 12 % 3=2:=by omega
      obtain ⟨t,c2,ot,ht⟩:=ih a hab.1 hab.2 N (cell / 36+7 * 0) (c+1) (m+1) nk ⟨by omega,by omega⟩ (by omega)
      obtain ⟨u,c3,ou,hu⟩:=ih a hab.1 hab.2 N (cell / 36+7 * 1) c2 (m+1) nk ⟨by omega,by omega⟩ (by omega)
      have pr:∀ t,Mad od W d N a t→∃ w,Mad od W d N w t∧∀ c,Lo c w→c.par a=none:=fun t h=>⟨a,h,fun c hc=>hc.par (.refl a)⟩
      rcases q3 with q | q | q
      ·exact ⟨.row (pl0 b0 c) a [],c+1,gN sp (by decide) (fun t h=>by cases h) hab.2,tl (aF false (aX 16 (eh q (by decide)) aZ) (by kernel_rfl))⟩
      ·exact ⟨.row (pl0 b0 c) a [t],c2,gN sp (Nat.le_of_ble_eq_true rfl) (fun z h=>by rw [List.mem_singleton.mp h];exact pr t ot) hab.2,tl (aF false (aX 16 (eh q (by decide)) (aX 0 (ht) aZ)) (by kernel_rfl))⟩
      ·exact ⟨.row (pl0 b0 c) a [t,u],c3,gN sp (Nat.le_of_ble_eq_true rfl) (fun z h=>by rcases List.mem_cons.mp h with rfl | h;exact pr _ ot;rw [List.mem_singleton.mp h];exact pr u ou) hab.2,tl (aF false (aX 16 (eh q (by decide)) (aX 0 (ht) (aX 0 (hu) aZ))) (by kernel_rfl))⟩
section
variable {W:List Str} {ns:List Int} {b0 od:Int} {st:List O}
def bH (W:List Str) (ns:List Int) (b0 od:Int) (st:List O) (r:Int) (q M:Nat):Prop:=∀ (want:Kd) (N:Al) (i c:Int),want.ok→Nk W N→0≤i→∃ (t:T68) (i' c':Int),0≤i'∧Mad od W q N want t∧aa Γ M kK [.ref 0,want.toD,dA N,.int r] (dS ns i b0 W od st c) = .ok t.toD (dS ns i' b0 W od st c')
theorem wu (c:Int):∃ s:Sg,cm (.bin 0 s (.whole 0 0) (.whole 0 0)) [] [] = .whole∧ixD (.str "+-*+") (.int (c % 4))=some (.str s.str):=by
 have h:c % 4=0∨c % 4=1∨c % 4=2∨c % 4=3:=by omega
 rcases h with h | h | h | h <;> rw [h]
 ·exact ⟨.add,rfl,by kernel_rfl⟩
 ·exact ⟨.sub,rfl,by kernel_rfl⟩
 ·exact ⟨.mul,rfl,by kernel_rfl⟩
 ·exact ⟨.add,rfl,by kernel_rfl⟩
theorem Aw (c:Int):∃ s:Sg,cm (.bin 0 s (.whole 0 0) (.whole 0 0)) [] [] = .truth∧ixD (.str "<=") (.int (c % 2))=some (.str s.str):=by
 have h:c % 2=0∨c % 2=1:=by omega
 rcases h with h | h <;> rw [h]
 ·exact ⟨.lt,rfl,by kernel_rfl⟩
 ·exact ⟨.eq,rfl,by kernel_rfl⟩
abbrev nE:E:=.call 39 (.cons (.v 1) (.cons (.ix (.v 2) (.c (.int 1))) (.cons (.v 3) (.cons (.op .sub (.v 4) (.c (.int 1))) .nil))))
theorem oj {r:Int} {q M:Nat} (hn:bH W ns b0 od st (r - 1) q M) (a:Kd) (ha:a.ok) (N:Al) (nk:Nk W N) (tl:List (Option D)):∀ (L:List Int) (acc:List D) (e:Option D) (i c:Int),0≤i→acc.length+L.length<1000→∃ (ts:List T68) (e':Option D) (i' c':Int),0≤i'∧ts.length=L.length∧(∀ t∈ts,Mad od W q N a t)∧aQ (lcQ Γ (aa Γ M) (az Γ M) [0] true nE (.c (.bl true))) (L.map .int) acc ⟨e :: some (.ref 0) :: some (Kd.row a).toD :: some (dA N) :: some (.int r) :: tl,[],dS ns i b0 W od st c⟩ = .ok (.lst (acc ++ toDs ts)) ⟨e' :: some (.ref 0) :: some (Kd.row a).toD :: some (dA N) :: some (.int r) :: tl,[],dS ns i' b0 W od st c'⟩
 | [],acc,e,i,c,hi,_=>⟨[],e,i,c,hi,rfl,fun t h=>(nomatch h),by simp [aQ,toDs]⟩
 | x :: L,acc,e,i,c,hi,hl=>by
   simp only [List.length_cons] at hl
   obtain ⟨t,i1,c1,h1,ot,ht⟩:=hn a N i c ha nk hi
   have s0:ev Γ (aa Γ M) (az Γ M) false nE ⟨some (.int x) :: some (.ref 0) :: some (Kd.row a).toD :: some (dA N) :: some (.int r) :: tl,[],dS ns i b0 W od st c⟩ = .ok t.toD ⟨some (.int x) :: some (.ref 0) :: some (Kd.row a).toD :: some (dA N) :: some (.int r) :: tl,[],dS ns i1 b0 W od st c1⟩:=(eP false (aX 0 (ht) aZ) (by kernel_rfl))
   obtain ⟨ts,e',i2,c2,h2,l2,o2,h3⟩:=oj hn a ha N nk tl L (acc ++ [t.toD]) (some (.int x)) i1 c1 h1 (by rw [List.length_append,List.length_singleton];omega)
   refine ⟨t :: ts,e',i2,c2,h2,by simp [l2],?_,cO (xm rfl s0) (by omega) (by rw [List.append_assoc] at h3;exact h3)⟩
   intro u hu
   rcases List.mem_cons.mp hu with rfl | hu
   ·exact ot
   ·exact o2 u hu
theorem BC (c:Int):∃ L:List Int,L.length≤4∧(itD .range1 [.int (c % 5)]).map D.lst=some (.lst (L.map .int)):=by
 have h:c % 5=0∨c % 5=1∨c % 5=2∨c % 5=3∨c % 5=4:=by omega
 rcases h with h | h | h | h | h <;> rw [h]
 ·exact ⟨[],by decide,by kernel_rfl⟩
 ·exact ⟨[0],by decide,by kernel_rfl⟩
 ·exact ⟨[0,1],by decide,by kernel_rfl⟩
 ·exact ⟨[0,1,2],by decide,by kernel_rfl⟩
 ·exact ⟨[0,1,2,3],by decide,by kernel_rfl⟩
theorem y9 (hW:W.length=5) {r:Int} {q M:Nat} (hn:bH W ns b0 od st (r - 1) q (M+2)) (want:Kd) (N:Al) (cell i c:Int) (hw:want.ok) (nk:Nk W N) (hi:0≤i):∃ (t:T68) (i' c':Int),0≤i'∧Mad od W (q+1) N want t∧aa Γ (M+3) jw [.ref 0,want.toD,dA N,.int r,.int cell] (dS ns i b0 W od st c) = .ok t.toD (dS ns i' b0 W od st c'):=by
 have hp:=gV ns i b0 c (.lst (sts W)) (.int od) (M+1) st
 have sp:=sm0 b0 c
 have k5:=nk.few hW
 cases want with
 | whole=>
   by_cases q5:cell % 5=4
   ·obtain ⟨k,hk,hf⟩:=vW (cell / 5) (M+1) (dS ns i b0 W od st (c+1))
    obtain ⟨t,i1,c1,h1,ot,ht⟩:=hn (.row k) N i (c+1) (Kd.ok2 (by show 1+k.dep≤2;omega)) nk hi
    exact ⟨.size (pl0 b0 c) t,i1,c1,h1,uX sp ot,(ac false (aX 0 (hp) (aX 5 (aT q5) (aX 0 (hf) (aX 0 (ht) aZ)))) (by kernel_rfl))⟩
   ·obtain ⟨s,hs0,hs⟩:=wu cell
    obtain ⟨t,i1,c1,h1,ot,ht⟩:=hn .whole N i (c+1) (Kd.ok2 (by decide)) nk hi
    obtain ⟨u,i2,c2,h2,ou,hu⟩:=hn .whole N i1 c1 (Kd.ok2 (by decide)) nk h1
    exact ⟨.bin (pl0 b0 c) s t u,i2,c2,h2,jO sp ot ou hs0,(ac false (aX 0 (hp) (aX 5 (ai q5) (aX 5 (hs) (aX 0 (ht) (aX 0 (hu) aZ))))) (by kernel_rfl))⟩
 | truth=>
   obtain ⟨s0,_,hs0⟩:=wu cell
   obtain ⟨s,hs1,hs⟩:=Aw cell
   obtain ⟨t,i1,c1,h1,ot,ht⟩:=hn .whole N i (c+1) (Kd.ok2 (by decide)) nk hi
   obtain ⟨u,i2,c2,h2,ou,hu⟩:=hn .whole N i1 c1 (Kd.ok2 (by decide)) nk h1
   exact ⟨.bin (pl0 b0 c) s t u,i2,c2,h2,jO sp ot ou hs1,(ac false (aX 0 (hp) (aX 11 (hs0) (aX 4 (hs) (aX 0 (ht) (aX 0 (hu) aZ))))) (by kernel_rfl))⟩
 | unt=>
   obtain ⟨k,hk,hf⟩:=iW cell (M+1) (dS ns i b0 W od st (c+1))
   obtain ⟨t,i1,c1,h1,ot,ht⟩:=hn k N i (c+1) (Kd.ok2 hk) nk hi
   exact ⟨.as_ (pl0 b0 c) .unt t,i1,c1,h1,jN sp ot,(ac false (aX 0 (hp) (aX 0 (hf) (aX 0 (ht) aZ))) (by kernel_rfl))⟩
 | pair a b=>
   have hab:a.ok∧b.ok:=by obtain ⟨x,y⟩:=hw;unfold Kd.lN at y;unfold Kd.dep at x;unfold Kd.ok;omega
   obtain ⟨t,i1,c1,h1,ot,ht⟩:=hn a N i (c+1) hab.1 nk hi
   obtain ⟨u,i2,c2,h2,ou,hu⟩:=hn b N i1 c1 hab.2 nk h1
   exact ⟨.pair (pl0 b0 c) t u,i2,c2,h2,nZ sp ot ou hab.1.1 hab.2.1,(ac false (aX 0 (hp) (aX 0 (ht) (aX 0 (hu) aZ))) (by kernel_rfl))⟩
 | row a=>
   have ha:a.ok:=by obtain ⟨x,y⟩:=hw;unfold Kd.lN at y;unfold Kd.dep at x;unfold Kd.ok;omega
   obtain ⟨L,l4,hL⟩:=BC cell
   obtain ⟨ts,e',i1,c1,h1,l1,ots,hlp⟩:=oj hn a ha N nk [some (.int cell),some (.int (pl0 b0 c)),none,none,none,none,none,none] L [] none i (c+1) hi (by simp only [List.length_nil];omega)
   exact ⟨.row (pl0 b0 c) a ts,i1,c1,h1,gN sp (by omega) (fun t ht=>⟨a,ots t ht,fun c hc=>hc.par (.refl a)⟩) ha.1,(ac true (aX 0 (hp) (aX 20 (hL) (aX 0 (hlp) aZ))) (by kernel_rfl))⟩
 | to a b=>
   have hab:a.dep≤3∧b.ok:=by obtain ⟨x,y⟩:=hw;unfold Kd.lN at y;unfold Kd.dep at x;unfold Kd.ok;omega
   obtain ⟨x,hx,ix⟩:=lM hW cell
   have hm:=gI N x a (by omega) (M+1) (dS ns i b0 W od st (c+1))
   by_cases g:0<cell / 5 % 3
   ·obtain ⟨t,i1,c1,h1,ot,ht⟩:=hn b (ah N (.inr x) a) i (c+1) hab.2 (nk.put hx hab.1) hi
    exact ⟨.fn (pl0 b0 c) x a t,i1,c1,h1,we sp hx ot hab.1 hab.2.1,(ac false (aX 0 (hp) (aX 18 (ix) (aX 0 (hm) (aX 3 (decide_eq_true g) (aX 0 (ht) aZ))))) (by kernel_rfl))⟩
   ·obtain ⟨y,hy,iy⟩:=lM hW (cell / 15)
    have l:=ba N (.inr y) (.to a b)
    have hm2:=gI N y (.to a b) (by omega) (M+1) (dS ns i b0 W od st (c+1))
    have hm3:=gI (ah N (.inr y) (.to a b)) x a (by omega) (M+1) (dS ns i b0 W od st (c+1))
    obtain ⟨t,i1,c1,h1,ot,ht⟩:=hn b (ah (ah N (.inr y) (.to a b)) (.inr x) a) i (c+1) hab.2 ((nk.put hy hw.1).put hx hab.1) hi
    exact ⟨.slf (pl0 b0 c) y x a b t,i1,c1,h1,ye sp hy hx ot hab.1 hab.2.1,(ac false (aX 0 (hp) (aX 18 (ix) (aX 0 (hm) (aX 3 (decide_eq_false g) (aX 3 (iy) (aX 0 (hm2) (aX 0 (hm3) (aX 0 (ht) aZ)))))))) (by kernel_rfl))⟩
end
theorem l6 {x y:Str} (h:x.cps.toList=y.cps.toList):x=y:=by
 cases x;cases y;congr 1;exact Array.toList_inj.mp h
abbrev abc:D:=.str "abcdefghijklmnopqrstuvwxyz"
theorem Bv:∀ k:Nat,k<26→ixD abc (.int k)=some (.str ⟨#[97+k]⟩)
 | 0,_=>by kernel_rfl
 | 1,_=>by kernel_rfl
 | 2,_=>by kernel_rfl
 | 3,_=>by kernel_rfl
 | 4,_=>by kernel_rfl
 | 5,_=>by kernel_rfl
 | 6,_=>by kernel_rfl
 | 7,_=>by kernel_rfl
 | 8,_=>by kernel_rfl
 | 9,_=>by kernel_rfl
 | 10,_=>by kernel_rfl
 | 11,_=>by kernel_rfl
 | 12,_=>by kernel_rfl
 | 13,_=>by kernel_rfl
 | 14,_=>by kernel_rfl
 | 15,_=>by kernel_rfl
 | 16,_=>by kernel_rfl
 | 17,_=>by kernel_rfl
 | 18,_=>by kernel_rfl
 | 19,_=>by kernel_rfl
 | 20,_=>by kernel_rfl
 | 21,_=>by kernel_rfl
 | 22,_=>by kernel_rfl
 | 23,_=>by kernel_rfl
 | 24,_=>by kernel_rfl
 | 25,_=>by kernel_rfl
 | k+26,h=>absurd h (by omega)
theorem zY {i:Int} (h0:0≤i) (h1:i<26):ixD abc (.int i)=some (.str ⟨#[97+i.toNat]⟩):=by
 obtain ⟨k,rfl⟩:∃ k:Nat,i=k:=⟨i.toNat,by omega⟩
 exact Bv k (by omega)
def wdC (B:List Int) (at_ k:Int) (i:Nat):Nat:=97+(((B[i]?).getD 0+5 * k * (if ((0+(i:Int)) == at_)=true then 1 else 0)) % 26).toNat
abbrev wdR (js:List Nat):List D:=js.map fun (i:Nat)=>D.int (0+i)
abbrev wdI:S:=.set 6 (.op .add (.v 6) (.ix (.v 1) (.op .mod (.op .add (.ix (.v 3) (.v 7)) (.op .mul (.op .mul (.c (.int 5)) (.v 2)) (.bi .int (.cons (.op .eq (.v 7) (.v 4)) .nil)))) (.c (.int 26)))))
section
variable {cal cal1:Nat→List D→List O→Res} {B:List Int} {c at_:Int} {st:List O}
abbrev wdE (c k:Int) (B:List Int) (at_:Int) (ws:List D) (e6 e7:Option D):List (Option D):=[some (.int c),some abc,some (.int k),some (.lst (B.map .int)),some (.int at_),some (.lst ws),e6,e7]
theorem AH (k:Int) (ws:List D):∀ (js:List Nat) (x:Str) (e7:Option D),(∀ i∈js,i<B.length)→x.length+js.length≤1000→∃ (y:Str) (e7':Option D),y.cps.toList=x.cps.toList ++ js.map (wdC B at_ k) ∧
 aI (c8 Γ cal cal1 [7] true wdI) (wdR js) ⟨wdE c k B at_ ws (some (.str x)) e7,[5,3],st⟩ = .nx ⟨wdE c k B at_ ws (some (.str y)) e7',[5,3],st⟩
 | [],x,e7,_,_=>⟨x,e7,by simp,rfl⟩
 | i :: js,x,e7,h,hl=>by
   simp only [List.length_cons] at hl
   have hi:=h i (List.mem_cons_self ..)
   have e1:ixD (.lst (B.map D.int)) (.int (0+(i:Int)))=some (.int B[i]):=by
    rw [Int.zero_add]
    refine cK ?_
    rw [List.getElem?_map,List.getElem?_eq_getElem hi];rfl
   have e2:opD .mul (.int (5 * k)) (.int (if ((0+(i:Int)) == at_)=true then 1 else 0))=some (.int (5 * k * (if ((0+(i:Int)) == at_)=true then 1 else 0))):=iZ (by split <;> decide)
   have hm:=Int.emod_nonneg (B[i]+5 * k * (if ((0+(i:Int)) == at_)=true then 1 else 0)) (b:=26) (by decide)
   have hM:=Int.emod_lt_of_pos (B[i]+5 * k * (if ((0+(i:Int)) == at_)=true then 1 else 0)) (b:=26) (by decide)
   have e3:=zY hm hM
   have hc:wdC B at_ k i=97+((B[i]+5 * k * (if ((0+(i:Int)) == at_)=true then 1 else 0)) % 26).toNat:=by unfold wdC;rw [List.getElem?_eq_getElem hi];rfl
   rw [← hc] at e3
   have ln:(x ++ (⟨#[wdC B at_ k i]⟩:Str)).length=x.length+1:=by rw [Str.length_append];rfl
   have e4:opD .add (.str x) (.str ⟨#[wdC B at_ k i]⟩)=some (.str (x ++ ⟨#[wdC B at_ k i]⟩)):=by
    show cD (x.length+1) _=_
    unfold cD;rw [if_pos (by omega)]
   obtain ⟨y,e7',hy,hf⟩:=AH k ws js (x ++ ⟨#[wdC B at_ k i]⟩) (some (.int (0+(i:Int)))) (fun j hj=>h j (List.mem_cons_of_mem _ hj)) (by rw [ln];omega)
   refine ⟨y,e7',?_,aA (aD rfl (bA false (aX 0 (e1) (aX 3 (e2) (aX 2 (e3) (aX 0 (e4) aZ)))) (by kernel_rfl))) hf⟩
   rw [hy,Str.cps_append,Array.toList_append,List.append_assoc];rfl
def Wdk (B:List Int) (at_ k:Int) (z:Str):Prop:=∃ y:Str,y.cps.toList=(List.range B.length).map (wdC B at_ k)∧(z=y∨z=y ++ ("x":Str))
abbrev wdB:S:=cG jo.body
theorem AJ (hB:B.length≤8) (k:Int) (ws:List D) (hws:ws.length≤10) (e6 e7:Option D):∃ (z:Str) (e7':Option D),Wdk B at_ k z∧exS Γ cal cal1 wdB ⟨wdE c k B at_ ws e6 e7,[5,3],st⟩ = .nx ⟨wdE c k B at_ (ws ++ [.str z]) (some (.str z)) e7',[5,3],st⟩:=by
 obtain ⟨y,e7',hy,hf⟩:=AH (cal:=cal) (cal1:=cal1) (B:=B) (c:=c) (at_:=at_) (st:=st) k ws (List.range B.length) "" e7 (fun i hi=>List.mem_range.mp hi) (by rw [List.length_range];show 0+B.length≤1000;omega)
 have hy:y.cps.toList=(List.range B.length).map (wdC B at_ k):=hy
 have yl:y.length=B.length:=by
  have:y.cps.toList.length=B.length:=by rw [hy,List.length_map,List.length_range]
  rw [Array.length_toList] at this;exact this
 have hr:(itD .range1 [.int ((B.map D.int).length:Nat)]).map D.lst=some (.lst (wdR (List.range B.length))):=by
  rw [List.length_map]
  unfold itD w9
  dsimp only
  rw [if_pos ⟨by omega,by omega⟩,Int.toNat_natCast];rfl
 have la:decide (ws.length<100000)=true:=decide_eq_true (by omega)
 by_cases g1:(y == ("yes":Str))=true
 ·have ax:opD .add (.str y) (.str "x")=some (.str (y ++ ("x":Str))):=by
   show cD (y.length+1) _=_
   unfold cD;rw [if_pos (by omega)]
  exact ⟨y ++ ("x":Str),e7',⟨y,hy,.inr rfl⟩,(bA true (aX 1 (hr) (aX 0 (hf) (aX 1 (g1) (aX 1 (ax) (aX 0 (la) aZ))))) (by kernel_rfl))⟩
 ·have g1:(y == ("yes":Str))=false:=by simpa using g1
  by_cases g2:(y == ("no":Str))=true
  ·have ax:opD .add (.str y) (.str "x")=some (.str (y ++ ("x":Str))):=by
    show cD (y.length+1) _=_
    unfold cD;rw [if_pos (by omega)]
   exact ⟨y ++ ("x":Str),e7',⟨y,hy,.inr rfl⟩,(bA true (aX 1 (hr) (aX 0 (hf) (aX 1 (g1) (aX 1 (g2) (aX 0 (ax) (aX 0 (la) aZ)))))) (by kernel_rfl))⟩
  ·have g2:(y == ("no":Str))=false:=by simpa using g2
   exact ⟨y,e7',⟨y,hy,.inl rfl⟩,(bA true (aX 1 (hr) (aX 0 (hf) (aX 1 (g1) (aX 1 (g2) (aX 0 (la) aZ))))) (by kernel_rfl))⟩
theorem AI {k j:Int} {x y:Str} (a:Nat) (ha:a<B.length) (e:at_=a) (hk:0≤k∧k≤4) (hj:0≤j∧j≤4) (n:k≠j) (h1:Wdk B at_ k x) (h2:Wdk B at_ j y):x≠y:=by
 obtain ⟨u,hu,h1⟩:=h1
 obtain ⟨v,hv,h2⟩:=h2
 have uv:u≠v:=fun z=>by
  rw [z,hv] at hu
  have:=congrArg (fun l=>l[a]?) hu
  simp only [List.getElem?_map] at this
  rw [List.getElem?_range ha] at this
  have this:wdC B at_ j a=wdC B at_ k a:=by simpa using this
  unfold wdC at this
  rw [e] at this
  have q:((0+(a:Int)) == (a:Int))=true:=aT (Int.zero_add _)
  rw [if_pos q,List.getElem?_eq_getElem ha] at this
  simp only [Option.getD_some] at this
  omega
 have ul:u.length=B.length:=by
  have:u.cps.toList.length=B.length:=by rw [hu,List.length_map,List.length_range]
  rw [Array.length_toList] at this;exact this
 have vl:v.length=B.length:=by
  have:v.cps.toList.length=B.length:=by rw [hv,List.length_map,List.length_range]
  rw [Array.length_toList] at this;exact this
 have x1:("x":Str).length=1:=by decide +kernel
 intro z
 rcases h1 with rfl | rfl <;> rcases h2 with rfl | rfl
 ·exact uv z
 ·have:=congrArg Str.length z;rw [Str.length_append] at this;omega
 ·have:=congrArg Str.length z;rw [Str.length_append] at this;omega
 ·refine uv (l6 ?_)
  have:=congrArg (fun s:Str=>s.cps.toList) z
  simp only [Str.cps_append,Array.toList_append] at this
  exact List.append_cancel_right this
end
abbrev AF:E:=.op .mod (.op .add (.op .fdiv (.v 1) (.op .add (.v 0) (.c (.int 1)))) (.op .mul (.v 0) (.v 0))) (.c (.int 26))
def bsW (c:Int) (i:Nat):Int:=(c / (0+(i:Int)+1)+(0+(i:Int)) * (0+(i:Int))) % 26
theorem AG (c:Int) (n:Nat) (tl:List (Option D)) (S:List O):∀ (js:List Nat) (acc:List D) (e:Option D),(∀ i∈js,i<100)→acc.length+js.length<1000→∃ e':Option D,aQ (lcQ Γ (aa Γ n) (az Γ n) [0] true AF (.c (.bl true))) (wdR js) acc ⟨e :: some (.int c) :: tl,[],S⟩ = .ok (.lst (acc ++ (js.map (bsW c)).map .int)) ⟨e' :: some (.int c) :: tl,[],S⟩
 | [],acc,e,_,_=>⟨e,by simp [aQ]⟩
 | i :: js,acc,e,h,hl=>by
   simp only [List.length_cons] at hl
   have hi:=h i (List.mem_cons_self ..)
   have e1:opD .fdiv (.int c) (.int (0+(i:Int)+1))=some (.int (c / (0+(i:Int)+1))):=by
    show (if _ then _ else _)=_
    rw [if_pos ⟨by omega,by omega⟩]
   have e2:opD .mul (.int (0+(i:Int))) (.int (0+(i:Int)))=some (.int ((0+(i:Int)) * (0+(i:Int)))):=iZ ⟨by omega,by omega⟩
   have s0:ev Γ (aa Γ n) (az Γ n) false AF ⟨some (.int (0+(i:Int))) :: some (.int c) :: tl,[],S⟩ = .ok (.int (bsW c i)) ⟨some (.int (0+(i:Int))) :: some (.int c) :: tl,[],S⟩:=(eP false (aX 1 (e1) (aX 0 (e2) aZ)) (by kernel_rfl))
   obtain ⟨e',h3⟩:=AG c n tl S js (acc ++ [.int (bsW c i)]) (some (.int (0+(i:Int)))) (fun j hj=>h j (List.mem_cons_of_mem _ hj)) (by rw [List.length_append,List.length_singleton];omega)
   exact ⟨e',cO (dX rfl rfl s0) (by omega) (by rw [List.append_assoc] at h3;exact h3)⟩
theorem AK (c:Int) (n:Nat) (S:List O):∃ W:List Str,W.length=5∧W.Nodup∧aa Γ (n+1) jC [.int c] S = .ok (.lst (sts W)) S:=by
 obtain ⟨L,hL⟩:∃ L:Nat,1+c % 8=L:=⟨(1+c % 8).toNat,by omega⟩
 have hr:(itD .range1 [.int (1+c % 8)]).map D.lst=some (.lst (wdR (List.range L))):=by
  rw [hL]
  unfold itD w9
  dsimp only
  rw [if_pos ⟨by omega,by omega⟩,Int.toNat_natCast];rfl
 obtain ⟨e',hb⟩:=AG c n [some abc,none,none,none,none,none,none] S (List.range L) [] none (fun i hi=>by have:=List.mem_range.mp hi;omega) (by rw [List.length_range];show 0+L<1000;omega)
 have hBl:((List.range L).map (bsW c)).length=L:=by rw [List.length_map,List.length_range]
 generalize hB:(List.range L).map (bsW c)=B at hb hBl
 obtain ⟨a,hA⟩:∃ a:Nat,c / 8 % (L:Nat)=a:=⟨(c / 8 % (L:Nat)).toNat,by have:=Int.emod_nonneg (c / 8) (b:=(L:Nat)) (by omega);omega⟩
 have al:a<L:=by have:=Int.emod_lt_of_pos (c / 8) (b:=(L:Nat)) (by omega);omega
 have ha:opD .mod (.int (c / 8)) (.int ((B.map D.int).length:Nat))=some (.int (a:Nat)):=by
  rw [List.length_map,hBl]
  show (if 0<((L:Nat):Int) then some (D.int ((c / 8) % (L:Nat))) else none)=_
  rw [if_pos (by omega),hA]
 have wd:=fun (k:Int) (ws:List D) (hws:ws.length≤10) (e6 e7:Option D)=>AJ (cal:=aa Γ n) (cal1:=az Γ n) (B:=B) (c:=c) (at_:=(a:Nat)) (st:=S) (by omega) k ws hws e6 e7
 obtain ⟨w0,f0,d0,h0⟩:=wd 0 [] (by decide) none none
 obtain ⟨w1,f1,d1,h1⟩:=wd 1 [.str w0] (by decide:1≤10) (some (.str w0)) f0
 obtain ⟨w2,f2,d2,h2⟩:=wd 2 [.str w0,.str w1] (by decide:2≤10) (some (.str w1)) f1
 obtain ⟨w3,f3,d3,h3⟩:=wd 3 [.str w0,.str w1,.str w2] (by decide:3≤10) (some (.str w2)) f2
 obtain ⟨w4,f4,d4,h4⟩:=wd 4 [.str w0,.str w1,.str w2,.str w3] (by decide:4≤10) (some (.str w3)) f3
 have ne:=fun {k j:Int} {x y:Str} (hk:0≤k∧k≤4) (hj:0≤j∧j≤4) (q:k≠j) (h1:Wdk B (a:Nat) k x) (h2:Wdk B (a:Nat) j y)=>AI a (by omega) rfl hk hj q h1 h2
 have hf:aI (c8 Γ (aa Γ n) (az Γ n) [2] true wdB) [.int 0,.int 1,.int 2,.int 3,.int 4] ⟨[some (.int c),some abc,none,some (.lst (B.map .int)),some (.int (a:Nat)),some (.lst []),none,none],[5,3],S⟩ = .nx ⟨wdE c 4 B (a:Nat) [.str w0,.str w1,.str w2,.str w3,.str w4] (some (.str w4)) f4,[5,3],S⟩:=
  aA (aD rfl h0) (aA (aD rfl h1) (aA (aD rfl h2) (aA (aD rfl h3) (aA (aD rfl h4) rfl))))
 refine ⟨[w0,w1,w2,w3,w4],rfl,?_,(ac true (aX 2 (hr) (aX 0 (hb) (aX 2 (ha) (aX 0 (hf) aZ)))) (by kernel_rfl))⟩
 have n01:=ne (by decide) (by decide) (by decide) d0 d1
 have n02:=ne (by decide) (by decide) (by decide) d0 d2
 have n03:=ne (by decide) (by decide) (by decide) d0 d3
 have n04:=ne (by decide) (by decide) (by decide) d0 d4
 have n12:=ne (by decide) (by decide) (by decide) d1 d2
 have n13:=ne (by decide) (by decide) (by decide) d1 d3
 have n14:=ne (by decide) (by decide) (by decide) d1 d4
 have n23:=ne (by decide) (by decide) (by decide) d2 d3
 have n24:=ne (by decide) (by decide) (by decide) d2 d4
 have n34:=ne (by decide) (by decide) (by decide) d3 d4
 simp [n01,n02,n03,n04,n12,n13,n14,n23,n24,n34]
section
variable {q:Nat} {N:Al} {w:Kd} {p:Int}
theorem sW {k k':Kd} {a b:T68} (ha:Ty q a N (.to k w)) (hb:Ty q b N k') (hp:∀ d v,Lo d k'→Lo v k→d.par v=none) (hd:w.dep≤4):Ty (q+1) (.call p a b) N w:=trivial
theorem vz {f x:Str} {a g g':Kd} {b:T68} (h:Ty q b (ah (ah N (.inr f) (.to a g)) (.inr x) a) g') (hp:∀ c,Lo c g'→c.par g=none) (ha:a.dep≤3) (hd:g.dep≤3):Ty (q+1) (.slf p f x a g b) N (.to a g):=trivial
end
theorem kZ {od:Int} {W:List Str} {q:Nat} {N:Al} {w:Kd} {p:Int} (sp:Sm p) {k k':Kd} {a b:T68} (ha:Mad od W q N (.to k w) a) (hb:Mad od W q N k' b) (hp:∀ d v,Lo d k'→Lo v k→d.par v=none) (hd:w.dep≤4):Mad od W (q+1) N w (.call p a b):=⟨ok2 sp rfl trivial rfl rfl ha.1.app hb.1.app,fun z=>sW (ha.2 z) (hb.2 z) hp hd⟩
theorem uY {od:Int} {W:List Str} {q:Nat} {N:Al} {p:Int} (sp:Sm p) {f x:Str} {a g g':Kd} {b:T68} (hf:f∈W) (hx:x∈W) (h:Mad od W q (ah (ah N (.inr f) (.to a g)) (.inr x) a) g' b) (hp:∀ c,Lo c g'→c.par g=none) (ha:a.dep≤3) (hd:g.dep≤3):Mad od W (q+1) N (.to a g) (.slf p f x a g b):=⟨ok1 sp rfl ⟨hf,hx⟩ rfl (fun z hz=>by simp [wks] at hz;rcases hz with rfl | rfl <;> omega) (h.1.mono (fun y hy=>by
 rcases List.mem_append.mp (eV hy) with hy | hy
 ·rcases List.mem_append.mp (eV hy) with hy | hy
  ·exact List.mem_append_left _ hy
  ·exact List.mem_append_right _ (by rw [List.mem_singleton.mp hy];exact List.mem_cons_self ..)
 ·exact List.mem_append_right _ (List.mem_cons_of_mem _ hy)) (Nat.le_refl _)),fun z=>vz (h.2 z) hp ha hd⟩
theorem Mad.lo {od:Int} {W:List Str} {q:Nat} {N:Al} {w w':Kd} {t:T68} (h:Mad od W q N w t) (hl:∀ k,Lo k w→Lo k w'):Mad od W q N w' t:=⟨h.1,fun z=>(h.2 z).lo hl⟩
theorem my {k:Kd} (h:Lo k .unt):k = .unt:=by cases h;rfl
theorem wm (a:Kd) (c:Int):∃ k:Kd,(k=a∨k = .unt)∧ixD (.lst [a.toD,Kd.unt.toD]) (.int (c % 2))=some k.toD:=by
 have h:c % 2=0∨c % 2=1:=by omega
 rcases h with h | h <;> rw [h]
 ·exact ⟨a,.inl rfl,rfl⟩
 ·exact ⟨.unt,.inr rfl,rfl⟩
theorem jJ {k a:Kd} (h:k=a∨k = .unt):∀ z,Lo z k→Lo z a:=fun z hz=>by
 rcases h with rfl | rfl
 ·exact hz
 ·rw [my hz];exact .unt a
theorem sF {k a:Kd} (h:k=a∨k = .unt):∀ z,Lo z a→z.par k=none:=fun z hz=>by
 rcases h with rfl | rfl
 ·exact hz.par (.refl k)
 ·exact cR z
theorem i7 {k:Kd} (h:k = .whole∨k = .unt) {d v:Kd} (hd:Lo d .whole) (hv:Lo v k):d.par v=none:=by
 rcases h with rfl | rfl
 ·exact hd.par hv
 ·rw [my hv];exact cR d
theorem BG {W:List Str} (hW:W.length=5) (nd:W.Nodup) (c:Int):∃ f x,f∈W∧x∈W∧f≠x∧ixD (.lst (sts W)) (.int (c % 5))=some (.str f)∧ixD (.lst (sts W)) (.int ((c+1+c / 5 % 4) % 5))=some (.str x):=by
 obtain ⟨i,hi,i5⟩:=ey (c:=c) (n:=5) (by decide)
 obtain ⟨j,hj,j5⟩:=ey (c:=c+1+c / 5 % 4) (n:=5) (by decide)
 have at_:∀ k:Nat,(h:k<W.length)→ixD (.lst (sts W)) (.int (k:Int))=some (.str W[k]):=fun k h=>by
  refine cK ?_
  unfold sts
  rw [List.getElem?_map,List.getElem?_eq_getElem h];rfl
 refine ⟨W[i]'(by omega),W[j]'(by omega),List.getElem_mem _,List.getElem_mem _,fun e=>?_,by rw [hi];exact at_ i (by omega),by rw [hj];exact at_ j (by omega)⟩
 have:=(List.getElem_inj nd).mp e
 omega
section
variable {W:List Str} {ns:List Int} {b0 od:Int} {st:List O}
theorem nX {N:Al} {x:Str} {k:Kd}:x∈nmA (ah N (.inr x) k):=by
 unfold ah nmA
 split
 ·rename_i c
  obtain ⟨p,hp,e⟩:=List.any_eq_true.mp c
  have e:=of_decide_eq_true e
  exact List.mem_filterMap.mpr ⟨(p.1,k),List.mem_map.mpr ⟨p,hp,by rw [if_pos e]⟩,by simp [e]⟩
 ·exact List.mem_filterMap.mpr ⟨(.inr x,k),by simp,rfl⟩
theorem r9 {N:Al} {x y:Str} {k:Kd} (h:y∈nmA N):y∈nmA (ah N (.inr x) k):=by
 obtain ⟨p,hp,e⟩:=List.mem_filterMap.mp h
 unfold ah nmA
 split
 ·refine List.mem_filterMap.mpr ⟨if p.1 = .inr x then (p.1,k) else p,List.mem_map.mpr ⟨p,hp,rfl⟩,?_⟩
  by_cases c:p.1 = .inr x
  ·rw [if_pos c];exact e
  ·rw [if_neg c];exact e
 ·exact List.mem_filterMap.mpr ⟨p,by simp [hp],e⟩
theorem uG (hW:W.length=5) (nd:W.Nodup) {r:Int} {p M:Nat} (hn:bH W ns b0 od st (r - 3) p (M+2)) (p3:3≤p) (p5:7<r→5≤p) (want:Kd) (N:Al) (cell i c:Int) (hw:want.dep=1) (nk:Nk W N) (hi:0≤i):∃ (t:T68) (i' c':Int),0≤i'∧Mad od W (p+3) N want t∧aa Γ (M+3) kH [.ref 0,want.toD,dA N,.int r,.int cell] (dS ns i b0 W od st c) = .ok t.toD (dS ns i' b0 W od st c'):=by
 have hp:=fun i c=>gV ns i b0 c (.lst (sts W)) (.int od) (M+1) st
 have sp:=fun c=>sm0 b0 c
 have k5:=nk.few hW
 obtain ⟨f,x,hf,hx,fx,jf,jx⟩:=BG hW nd cell
 obtain ⟨tk,htk,jt⟩:=wm .whole (cell / 20)
 obtain ⟨gv,hgv,jg⟩:=wm want (cell / 40)
 have dt:tk.dep=1:=by rcases htk with rfl | rfl <;> rfl
 have dg:gv.dep=1:=by rcases hgv with rfl | rfl;exact hw;rfl
 have l:=ba N (.inr f) (.to tk gv)
 have m1:=gI N f (.to tk gv) (by omega) (M+1) (dS ns i b0 W od st c)
 have m2:=gI (ah N (.inr f) (.to tk gv)) x tk (by omega) (M+1) (dS ns i b0 W od st c)
 have nk2:Nk W (ah (ah N (.inr f) (.to tk gv)) (.inr x) tk):=(nk.put hf (by show 1+max tk.dep gv.dep≤3;omega)).put hx (by omega)
 have gx:aq (ah (ah N (.inr f) (.to tk gv)) (.inr x) tk) (.inr x)=some tk:=by rw [cL,if_pos rfl]
 have gf:aq (ah (ah N (.inr f) (.to tk gv)) (.inr x) tk) (.inr f)=some (.to tk gv):=by rw [cL,if_neg (fun e=>fx (Sum.inr.inj e).symm),cL,if_pos rfl]
 have nx:x∈nmA (ah (ah N (.inr f) (.to tk gv)) (.inr x) tk):=nX
 have nf:f∈nmA (ah (ah N (.inr f) (.to tk gv)) (.inr x) tk):=r9 nX
 generalize hN2:ah (ah N (.inr f) (.to tk gv)) (.inr x) tk=N2 at *
 have tw:∀ {q:Nat} {t:T68},Mad od W q N2 tk t→Mad od W q N2 .whole t:=fun h=>h.lo (jJ htk)
 have nmx:∀ {q:Nat} {p:Int},Sm p→Mad od W (q+1) N2 .whole (.name p x):=fun s=>tw (jP s nx gx (by omega))
 have lit:∀ {q:Nat} {p:Int} {N:Al} {v:Int},Sm p→v.natAbs<10 ^ 40→Mad od W (q+1) N .whole (.whole p v):=fun s h=>gO s h
 have osm:∀ Q,Mad od W (Q+2) N2 .truth (.bin (pl0 b0 (c+1)) .lt (.name (pl0 b0 (c+1+1)) x) (.whole (pl0 b0 (c+1+1+1)) 1)):=fun Q=>jO (sp _) (nmx (sp _)) (lit (sp _) (by decide)) rfl
 have ole:∀ Q,Mad od W (Q+2) N2 .whole (.bin (pl0 b0 (c+1+1+1+1)) .sub (.name (pl0 b0 (c+1+1+1+1+1)) x) (.whole (pl0 b0 (c+1+1+1+1+1+1)) 1)):=fun Q=>jO (sp _) (nmx (sp _)) (lit (sp _) (by decide)) rfl
 have oag:∀ Q,Mad od W (Q+3) N2 gv (.call (pl0 b0 (c+1+1+1+1+1+1+1)) (.name (pl0 b0 (c+1+1+1+1+1+1+1+1)) f) (.bin (pl0 b0 (c+1+1+1+1)) .sub (.name (pl0 b0 (c+1+1+1+1+1)) x) (.whole (pl0 b0 (c+1+1+1+1+1+1)) 1))):=fun Q=>kZ (sp _) (jP (sp _) nf gf (by show 1+max tk.dep gv.dep≤4;omega)) (ole Q) (fun d v hd hv=>i7 htk hd hv) (by omega)
 have fin:∀ (fk:T68) (p1 p2 p3:Int),Sm p1→Sm p2→Sm p3→Mad od W (p+1) N2 want fk→Mad od W (p+3) N want (.call p1 (.slf p2 f x tk gv fk) (.whole p3 (cell / 160 % 9))):=fun fk p1 p2 p3 s1 s2 s3 h=>by
  rw [← hN2] at h
  exact (kZ s1 (uY s2 hf hx h (sF hgv) (by omega) (by omega)) (lit s3 (by omega)) (fun d v hd hv=>i7 htk hd hv) (by omega)).lo (jJ hgv)
 have wok:want.ok:=Kd.ok2 (by omega)
 by_cases g:cell / 80 % 2=1∧7<r
 ·obtain ⟨g1,g2⟩:=g
  obtain ⟨t,i1,c1,h1,ot,ht⟩:=hn want N2 i (c+1+1+1+1+1+1+1+1+1+1+1+1) wok nk2 hi
  obtain ⟨Q,rfl⟩:∃ Q,p=Q+5:=⟨p - 5,by have:=p5 g2;omega⟩
  refine ⟨_,i1,c1+1+1,h1,fin _ _ _ _ (sp c) (sp c1) (sp (c1+1)) (mE (sp (c+1+1+1+1+1+1+1+1+1+1+1)) (osm _) ot (wc (w:=want) (sp (c+1+1+1+1+1+1+1+1+1)) (jN (w:=.unt) (sp (c+1+1+1+1+1+1+1+1+1+1)) (oag Q)) (fun z hz=>by rw [my hz];rfl) (by omega) (.refl want)) (by omega)),?_⟩
  exact (ac false (aX 2 (jf) (aX 6 (jx) (aX 2 (jt) (aX 2 (jg) (aX 0 (m1) (aX 0 (m2) (aX 0 (hp i c) (aX 0 (hp i (c+1)) (aX 0 (hp i (c+1+1)) (aX 0 (hp i (c+1+1+1)) (aX 0 (hp i (c+1+1+1+1)) (aX 0 (hp i (c+1+1+1+1+1)) (aX 0 (hp i (c+1+1+1+1+1+1)) (aX 0 (hp i (c+1+1+1+1+1+1+1)) (aX 0 (hp i (c+1+1+1+1+1+1+1+1)) (aX 3 (aT g1) (aX 1 (decide_eq_true g2) (aX 0 (hp i (c+1+1+1+1+1+1+1+1+1)) (aX 0 (hp i (c+1+1+1+1+1+1+1+1+1+1)) (aX 0 (hp i (c+1+1+1+1+1+1+1+1+1+1+1)) (aX 0 (ht) (aX 0 (hp i1 c1) (aX 0 (hp i1 (c1+1)) aZ))))))))))))))))))))))) (by kernel_rfl))
 ·obtain ⟨t,i1,c1,h1,ot,ht⟩:=hn want N2 i (c+1+1+1+1+1+1+1+1+1+1) wok nk2 hi
  obtain ⟨Q,rfl⟩:∃ Q,p=Q+3:=⟨p - 3,by omega⟩
  refine ⟨_,i1,c1+1+1,h1,fin _ _ _ _ (sp c) (sp c1) (sp (c1+1)) (mE (sp (c+1+1+1+1+1+1+1+1+1)) (osm _) ot ((oag Q).lo (jJ hgv)) (by omega)),?_⟩
  by_cases g1:cell / 80 % 2=1
  ·have g2:decide (7<r)=false:=decide_eq_false fun h=>g ⟨g1,h⟩
   exact (ac false (aX 2 (jf) (aX 6 (jx) (aX 2 (jt) (aX 2 (jg) (aX 0 (m1) (aX 0 (m2) (aX 0 (hp i c) (aX 0 (hp i (c+1)) (aX 0 (hp i (c+1+1)) (aX 0 (hp i (c+1+1+1)) (aX 0 (hp i (c+1+1+1+1)) (aX 0 (hp i (c+1+1+1+1+1)) (aX 0 (hp i (c+1+1+1+1+1+1)) (aX 0 (hp i (c+1+1+1+1+1+1+1)) (aX 0 (hp i (c+1+1+1+1+1+1+1+1)) (aX 3 (aT g1) (aX 1 (g2) (aX 0 (hp i (c+1+1+1+1+1+1+1+1+1)) (aX 0 (ht) (aX 0 (hp i1 c1) (aX 0 (hp i1 (c1+1)) aZ))))))))))))))))))))) (by kernel_rfl))
  ·exact (ac false (aX 2 (jf) (aX 6 (jx) (aX 2 (jt) (aX 2 (jg) (aX 0 (m1) (aX 0 (m2) (aX 0 (hp i c) (aX 0 (hp i (c+1)) (aX 0 (hp i (c+1+1)) (aX 0 (hp i (c+1+1+1)) (aX 0 (hp i (c+1+1+1+1)) (aX 0 (hp i (c+1+1+1+1+1)) (aX 0 (hp i (c+1+1+1+1+1+1)) (aX 0 (hp i (c+1+1+1+1+1+1+1)) (aX 0 (hp i (c+1+1+1+1+1+1+1+1)) (aX 3 (ai g1) (aX 0 (hp i (c+1+1+1+1+1+1+1+1+1)) (aX 0 (ht) (aX 0 (hp i1 c1) (aX 0 (hp i1 (c1+1)) aZ)))))))))))))))))))) (by kernel_rfl))
end
section
variable {W:List Str} {ns:List Int} {b0 od:Int} {st:List O}
theorem Am (a b:Kd) (c:Int):∃ k:Kd,(k=a∨k=b)∧ixD (.lst [a.toD,a.toD,a.toD,b.toD]) (.int (c % 4))=some k.toD:=by
 have h:c % 4=0∨c % 4=1∨c % 4=2∨c % 4=3:=by omega
 rcases h with h | h | h | h <;> rw [h]
 ·exact ⟨a,.inl rfl,rfl⟩
 ·exact ⟨a,.inl rfl,rfl⟩
 ·exact ⟨a,.inl rfl,rfl⟩
 ·exact ⟨b,.inr rfl,rfl⟩
theorem Bu (k:Kd) (S:List O):∃ l:Int,biD .len [look S k.toD]=some (.int l)∧(l=1→k.dep=1):=by
 cases k <;> first | exact ⟨1,rfl,fun _=>rfl⟩ | exact ⟨2,rfl,fun h=>absurd h (by decide)⟩ | exact ⟨3,rfl,fun h=>absurd h (by decide)⟩
abbrev nS (want:Kd) (N:Al) (r x:Int) (tl:List (Option D)):List (Option D):=some (.ref 0) :: some want.toD :: some (dA N) :: some (.int r) :: some (.int x) :: tl
theorem pP (hW:W.length=5) (nd:W.Nodup) {r:Int} {p M:Nat} (hr:5≤r) (h1:∀ m,M+2≤m→bH W ns b0 od st (r - 1) (p+2) m) (h3:5<r→3≤p∧(7<r→5≤p)∧bH W ns b0 od st (r - 3) p (M+2)) (hM:2≤M) (want:Kd) (N:Al) (x i c:Int) (hx:qo x) (hw:want.ok) (nk:Nk W N) (hi:0≤i):∃ (t:T68) (i' c':Int),0≤i'∧Mad od W (p+3) N want t∧toR (exS Γ (aa Γ (M+3)) (az Γ (M+3)) (tlS 1 bS.body) ⟨nS want N r x [none,none,none,none,none,none,none],[],dS ns i b0 W od st c⟩) = .ok t.toD (dS ns i' b0 W od st c'):=by
 have n1:=h1 (M+3) (by omega)
 have hp:=fun c=>gV ns i b0 c (.lst (sts W)) (.int od) (M+2) st
 have sp:=fun c=>sm0 b0 c
 have k5:=nk.few hW
 obtain ⟨x0,x1⟩:=hx
 have b3:decide (r<5)=false:=decide_eq_false (by omega)
 by_cases t3:x % 13=3
 ·obtain ⟨t,c1,ot,ht⟩:=xH hW ns i b0 od st 3 want hw.2 hw.1 N (x / 13) c (M+3) nk ⟨by omega,by omega⟩ (by omega)
  exact ⟨t,i,c1,hi,ot.up (by omega),(aF false (aX 1 (b3) (aX 2 (aT t3) (aX 0 (ht) aZ))) (by kernel_rfl))⟩
 by_cases t2:x % 13=2
 ·obtain ⟨k,hk,hf⟩:=iW (x / 52) (M+2) (dS ns i b0 W od st c)
  obtain ⟨k',hk',hx⟩:=Am want k (x / 13)
  obtain ⟨t,i1,c1,hi1,ot,ht⟩:=n1 k' N i (c+1) (by rcases hk' with e | e;exact e ▸ hw;exact e ▸ Kd.ok2 hk) nk hi
  exact ⟨.as_ (pl0 b0 c) .unt t,i1,c1,hi1,jN (sp c) ot,(aF false (aX 1 (b3) (aX 2 (ai t3) (aX 2 (aT t2) (aX 0 (hf) (aX 2 (hx) (aX 0 (hp c) (aX 0 (ht) aZ))))))) (by kernel_rfl))⟩
 obtain ⟨f,hf,jf⟩:=lM hW (x / 117)
 by_cases w3:x / 13 % 9=3
 ·obtain ⟨k,hk,hkk⟩:=iW (x / 117 / 5) (M+2) (dS ns i b0 W od st (c+1))
  obtain ⟨t,i1,c1,hi1,ot,ht⟩:=n1 k N i (c+1) (Kd.ok2 hk) nk hi
  have m1:=gI N f k (by omega) (M+2) (dS ns i1 b0 W od st c1)
  obtain ⟨u,i2,c2,hi2,ou,hu⟩:=n1 want (ah N (.inr f) k) i1 c1 hw (nk.put hf (by omega)) hi1
  exact ⟨.lt (pl0 b0 c) f t u,i2,c2,hi2,yc (sp c) hf ot ou (by have:=hw.1;omega),(aF false (aX 1 (b3) (aX 2 (ai t3) (aX 2 (ai t2) (aX 0 (hp c) (aX 2 (jf) (aX 1 (aT w3) (aX 0 (hkk) (aX 0 (ht) (aX 0 (m1) (aX 0 (hu) aZ)))))))))) (by kernel_rfl))⟩
 by_cases w4:x / 13 % 9=4
 ·obtain ⟨v,i0,c0,hi0,ov,hv⟩:=n1 .truth N i (c+1) (Kd.ok2 (by decide)) nk hi
  obtain ⟨t,i1,c1,hi1,ot,ht⟩:=n1 want N i0 c0 hw nk hi0
  obtain ⟨u,i2,c2,hi2,ou,hu⟩:=n1 want N i1 c1 hw nk hi1
  exact ⟨.iff (pl0 b0 c) v t u,i2,c2,hi2,mE (sp c) ov ot ou (by have:=hw.1;omega),(aF false (aX 1 (b3) (aX 2 (ai t3) (aX 2 (ai t2) (aX 0 (hp c) (aX 2 (jf) (aX 1 (ai w3) (aX 1 (aT w4) (aX 0 (hv) (aX 0 (ht) (aX 0 (hu) aZ)))))))))) (by kernel_rfl))⟩
 obtain ⟨l,hl,l1⟩:=Bu want (dS ns i b0 W od st (c+1))
 have bu:=y9 hW (h1 (M+2) (Nat.le_refl _)) want N (x / 117) i (c+1) hw nk hi
 by_cases d1:l=1
 ·have wd:=l1 d1
  by_cases w5:x / 13 % 9=5
  ·obtain ⟨k,hk,hkk⟩:=iW (x / 117) (M+2) (dS ns i b0 W od st (c+1))
   obtain ⟨t,i1,c1,hi1,ot,ht⟩:=n1 (.to k want) N i (c+1) ⟨by show 1+max k.dep want.dep≤3;omega,by have:=Kd.lN_le want;show 1+want.lN≤3;omega⟩ nk hi
   obtain ⟨u,i2,c2,hi2,ou,hu⟩:=n1 k N i1 c1 (Kd.ok2 hk) nk hi1
   exact ⟨.call (pl0 b0 c) t u,i2,c2,hi2,uW (sp c) ot ou (by omega),(aF false (aX 1 (b3) (aX 2 (ai t3) (aX 2 (ai t2) (aX 0 (hp c) (aX 2 (jf) (aX 1 (ai w3) (aX 1 (ai w4) (aX 1 (aT w5) (aX 0 (hl) (aX 1 (aT d1) (aX 0 (hkk) (aX 0 (ht) (aX 0 (hu) aZ))))))))))))) (by kernel_rfl))⟩
  by_cases w6:x / 13 % 9=6
  ·by_cases g0:x / 117 % 3=0
   ·obtain ⟨t,i1,c1,hi1,ot,ht⟩:=n1 (.row want) N i (c+1) (Kd.ok2 (by show 1+want.dep≤2;omega)) nk hi
    have hq:=gV ns i1 b0 c1 (.lst (sts W)) (.int od) (M+2) st
    exact ⟨.att (pl0 b0 c) t (.whole (pl0 b0 c1) (x / 117 / 3 % 4)),i1,c1+1,hi1,yb (sp c) ot (gO (sp c1) (by omega)) (by omega),(aF false (aX 1 (b3) (aX 2 (ai t3) (aX 2 (ai t2) (aX 0 (hp c) (aX 2 (jf) (aX 1 (ai w3) (aX 1 (ai w4) (aX 1 (ai w5) (aX 2 (aT w6) (aX 0 (hl) (aX 1 (aT d1) (aX 2 (aT g0) (aX 0 (ht) (aX 0 (hq) aZ)))))))))))))) (by kernel_rfl))⟩
   ·obtain ⟨k,hk,hkk⟩:=vW (x / 117 / 3) (M+2) (dS ns i b0 W od st (c+1))
    by_cases g1:x / 117 % 3=1
    ·obtain ⟨t,i1,c1,hi1,ot,ht⟩:=n1 (.pair want k) N i (c+1) (Kd.ok2 (by show 1+max want.dep k.dep≤2;omega)) nk hi
     exact ⟨.one (pl0 b0 c) t,i1,c1,hi1,yd (sp c) ot (by omega),(aF false (aX 1 (b3) (aX 2 (ai t3) (aX 2 (ai t2) (aX 0 (hp c) (aX 2 (jf) (aX 1 (ai w3) (aX 1 (ai w4) (aX 1 (ai w5) (aX 2 (aT w6) (aX 0 (hl) (aX 1 (aT d1) (aX 2 (ai g0) (aX 2 (aT g1) (aX 0 (hkk) (aX 0 (ht) aZ))))))))))))))) (by kernel_rfl))⟩
    ·obtain ⟨t,i1,c1,hi1,ot,ht⟩:=n1 (.pair k want) N i (c+1) (Kd.ok2 (by show 1+max k.dep want.dep≤2;omega)) nk hi
     exact ⟨.two (pl0 b0 c) t,i1,c1,hi1,yf (sp c) ot (by omega),(aF false (aX 1 (b3) (aX 2 (ai t3) (aX 2 (ai t2) (aX 0 (hp c) (aX 2 (jf) (aX 1 (ai w3) (aX 1 (ai w4) (aX 1 (ai w5) (aX 2 (aT w6) (aX 0 (hl) (aX 1 (aT d1) (aX 2 (ai g0) (aX 2 (ai g1) (aX 0 (hkk) (aX 0 (ht) aZ))))))))))))))) (by kernel_rfl))⟩
  by_cases w7:x / 13 % 9=7
  ·by_cases r5:5<r
   ·obtain ⟨p3,p5,n3⟩:=h3 r5
    obtain ⟨t,i1,c1,hi1,ot,ht⟩:=uG hW nd n3 p3 p5 want N (x / 117) i (c+1) wd nk hi
    exact ⟨t,i1,c1,hi1,ot,(aF false (aX 1 (b3) (aX 2 (ai t3) (aX 2 (ai t2) (aX 0 (hp c) (aX 2 (jf) (aX 1 (ai w3) (aX 1 (ai w4) (aX 1 (ai w5) (aX 2 (ai w6) (aX 2 (aT w7) (aX 0 (hl) (aX 1 (aT d1) (aX 1 (decide_eq_true r5) (aX 0 (ht) aZ)))))))))))))) (by kernel_rfl))⟩
   ·obtain ⟨t,i1,c1,hi1,ot,ht⟩:=bu
    exact ⟨t,i1,c1,hi1,ot,(aF false (aX 1 (b3) (aX 2 (ai t3) (aX 2 (ai t2) (aX 0 (hp c) (aX 2 (jf) (aX 1 (ai w3) (aX 1 (ai w4) (aX 1 (ai w5) (aX 2 (ai w6) (aX 2 (aT w7) (aX 0 (hl) (aX 1 (aT d1) (aX 1 (decide_eq_false r5) (aX 0 (ht) aZ)))))))))))))) (by kernel_rfl))⟩
  ·obtain ⟨t,i1,c1,hi1,ot,ht⟩:=bu
   exact ⟨t,i1,c1,hi1,ot,(aF false (aX 1 (b3) (aX 2 (ai t3) (aX 2 (ai t2) (aX 0 (hp c) (aX 2 (jf) (aX 1 (ai w3) (aX 1 (ai w4) (aX 1 (ai w5) (aX 2 (ai w6) (aX 2 (ai w7) (aX 0 (ht) aZ))))))))))) (by kernel_rfl))⟩
 ·obtain ⟨t,i1,c1,hi1,ot,ht⟩:=bu
  by_cases w5:x / 13 % 9=5
  ·exact ⟨t,i1,c1,hi1,ot,(aF false (aX 1 (b3) (aX 2 (ai t3) (aX 2 (ai t2) (aX 0 (hp c) (aX 2 (jf) (aX 1 (ai w3) (aX 1 (ai w4) (aX 1 (aT w5) (aX 0 (hl) (aX 1 (ai d1) (aX 1 (ai (show x / 13 % 9≠6 by omega)) (aX 2 (ai (show x / 13 % 9≠7 by omega)) (aX 0 (ht) aZ))))))))))))) (by kernel_rfl))⟩
  by_cases w6:x / 13 % 9=6
  ·exact ⟨t,i1,c1,hi1,ot,(aF false (aX 1 (b3) (aX 2 (ai t3) (aX 2 (ai t2) (aX 0 (hp c) (aX 2 (jf) (aX 1 (ai w3) (aX 1 (ai w4) (aX 1 (ai w5) (aX 2 (aT w6) (aX 0 (hl) (aX 1 (ai d1) (aX 1 (ai (show x / 13 % 9≠7 by omega)) (aX 0 (ht) aZ))))))))))))) (by kernel_rfl))⟩
  by_cases w7:x / 13 % 9=7
  ·exact ⟨t,i1,c1,hi1,ot,(aF false (aX 1 (b3) (aX 2 (ai t3) (aX 2 (ai t2) (aX 0 (hp c) (aX 2 (jf) (aX 1 (ai w3) (aX 1 (ai w4) (aX 1 (ai w5) (aX 2 (ai w6) (aX 2 (aT w7) (aX 0 (hl) (aX 1 (ai d1) (aX 0 (ht) aZ))))))))))))) (by kernel_rfl))⟩
  ·exact ⟨t,i1,c1,hi1,ot,(aF false (aX 1 (b3) (aX 2 (ai t3) (aX 2 (ai t2) (aX 0 (hp c) (aX 2 (jf) (aX 1 (ai w3) (aX 1 (ai w4) (aX 1 (ai w5) (aX 2 (ai w6) (aX 2 (ai w7) (aX 0 (ht) aZ))))))))))) (by kernel_rfl))⟩
theorem i4 (want:Kd) (N:Al) (r i c:Int) (M:Nat) (hw:want.ok) (hi:0≤i):∃ (x:Int) (k:Kd),qo x∧k.ok∧(od≠0→k=want)∧exS Γ (aa Γ (M+2)) (az Γ (M+2)) (hdS 1 bS.body) ⟨[some (.ref 0),some want.toD,some (dA N),some (.int r),none,none,none,none,none,none,none,none],[],dS ns i b0 W od st c⟩ = .nx ⟨nS k N r x [none,none,none,none,none,none,none],[],dS ns (i+1) b0 W od st c⟩:=by
 obtain ⟨x,x0,hx⟩:=next ns i b0 c (.lst (sts W)) (.int od) hi (M+1) st
 by_cases g1:x % 13=1
 ·by_cases g2:od=0
  ·obtain ⟨k,hk,hf⟩:=iW (x / 13) (M+1) (dS ns (i+1) b0 W od st c)
   exact ⟨x,k,x0,Kd.ok2 hk,fun h=>absurd g2 h,(bA false (aX 0 (hx) (aX 2 (aT g1) (aX 2 (aT g2) (aX 0 (hf) aZ)))) (by kernel_rfl))⟩
  ·exact ⟨x,want,x0,hw,fun _=>rfl,(bA false (aX 0 (hx) (aX 2 (aT g1) (aX 2 (ai g2) aZ))) (by kernel_rfl))⟩
 ·exact ⟨x,want,x0,hw,fun _=>rfl,(bA false (aX 0 (hx) (aX 2 (ai g1) aZ)) (by kernel_rfl))⟩
theorem Mad.to {q:Nat} {N:Al} {k w:Kd} {t:T68} (h:Mad od W q N k t) (e:od≠0→k=w):Mad od W q N w t:=⟨h.1,fun z=>e z ▸ h.2 z⟩
theorem eD (hW:W.length=5) (nd:W.Nodup) {r:Int} {p M:Nat} (hr:5≤r) (h1:∀ m,M+2≤m→bH W ns b0 od st (r - 1) (p+2) m) (h3:5<r→3≤p∧(7<r→5≤p)∧∀ m,M+2≤m→bH W ns b0 od st (r - 3) p m) (hM:2≤M) (m:Nat) (hm:M+4≤m):bH W ns b0 od st r (p+3) m:=by
 intro want N i c hw nk hi
 obtain ⟨m,rfl⟩:∃ k,m=k+4:=⟨m - 4,by omega⟩
 obtain ⟨x,k,x0,hk,e,hh⟩:=i4 (W:=W) (ns:=ns) (b0:=b0) (od:=od) (st:=st) want N r i c (m+1) hw hi
 obtain ⟨t,i1,c1,hi1,ot,ht⟩:=pP hW nd hr (M:=m) (fun q hq=>h1 q (by omega)) (fun h=>⟨(h3 h).1,(h3 h).2.1,(h3 h).2.2 _ (by omega)⟩) (by omega) k N x (i+1) c x0 hk nk (by omega)
 exact ⟨t,i1,c1,hi1,ot.to e,bZ 1 bS rfl rfl hh ht⟩
theorem mI (hW:W.length=5) (r:Int) (hr:r<5) (m:Nat) (hm:6≤m):bH W ns b0 od st r 3 m:=by
 intro want N i c hw nk hi
 obtain ⟨m,rfl⟩:∃ k,m=k+6:=⟨m - 6,by omega⟩
 obtain ⟨x,k,x0,hk,e,hh⟩:=i4 (W:=W) (ns:=ns) (b0:=b0) (od:=od) (st:=st) want N r i c (m+3) hw hi
 have b3:decide (r<5)=true:=decide_eq_true hr
 obtain ⟨t,c1,ot,ht⟩:=xH hW ns (i+1) b0 od st 3 k hk.2 hk.1 N (x / 13) c (m+5) nk ⟨by have:=x0.1;omega,by have:=x0.2;omega⟩ (by omega)
 have t2:toR (exS Γ (aa Γ (m+5)) (az Γ (m+5)) (tlS 1 bS.body) ⟨nS k N r x [none,none,none,none,none,none,none],[],dS ns (i+1) b0 W od st c⟩) = .ok t.toD (dS ns (i+1) b0 W od st c1):=(aF false (aX 1 (b3) (aX 0 (ht) aZ)) (by kernel_rfl))
 exact ⟨t,i+1,c1,by omega,ot.to e,bZ 1 bS rfl rfl hh t2⟩
theorem bH.up {r:Int} {q q' m:Nat} (h:bH W ns b0 od st r q m) (l:q≤q'):bH W ns b0 od st r q' m:=fun want N i c hw nk hi=>by
 obtain ⟨t,i1,c1,hi1,ot,ht⟩:=h want N i c hw nk hi
 exact ⟨t,i1,c1,hi1,ot.up l,ht⟩
theorem Ad (hW:W.length=5) (nd:W.Nodup) (m:Nat) (hm:12≤m):bH W ns b0 od st 7 7 m∧(14≤m→bH W ns b0 od st 8 8 m):=by
 have s:∀ r:Int,r<5→∀ m,6≤m→bH W ns b0 od st r 3 m:=fun r hr m hm=>mI hW r hr m hm
 have n5:∀ m,8≤m→bH W ns b0 od st 5 4 m:=fun m hm=>eD hW nd (p:=1) (M:=4) (by decide) (fun q hq=>s _ (by decide) q hq) (fun h=>absurd h (by decide)) (by decide) m hm
 have n6:∀ m,10≤m→bH W ns b0 od st 6 6 m:=fun m hm=>eD hW nd (p:=3) (M:=6) (by decide) (fun q hq=>(n5 q hq).up (by decide)) (fun h=>⟨by decide,fun h=>absurd h (by decide),fun q hq=>s _ (by decide) q (by omega)⟩) (by decide) m hm
 have n7:∀ m,12≤m→bH W ns b0 od st 7 7 m:=fun m hm=>eD hW nd (p:=4) (M:=8) (by decide) (fun q hq=>n6 q hq) (fun h=>⟨by decide,fun h=>absurd h (by decide),fun q hq=>(s _ (by decide) q (by omega)).up (by decide)⟩) (by decide) m hm
 exact ⟨n7 m hm,fun hm=>eD hW nd (p:=5) (M:=10) (by decide) (fun q hq=>n7 q hq) (fun h=>⟨by decide,fun _=>by decide,fun q hq=>(n5 q (by omega)).up (by decide)⟩) (by decide) m hm⟩
end
theorem kP {W:List Str} (ns:List Int) (i b0 od:Int) (st:List O):∀ (n:Nat) (r c:Int) (M:Nat),r=n→n+2≤M→∃ (t:T68) (w:Kd) (c':Int),Mad od W (n+1) [] w t∧aa Γ M jz [.ref 0,.int r] (dS ns i b0 W od st c) = .ok t.toD (dS ns i b0 W od st c')
 | 0,r,c,M,hr,hM=>by
   obtain ⟨M,rfl⟩:∃ k,M=k+2:=⟨M - 2,by omega⟩
   have hp:=gV ns i b0 c (.lst (sts W)) (.int od) M st
   obtain ⟨k,hk,k8⟩:=ey (c:=c+1) (n:=8) (by decide)
   exact ⟨.given (pl0 b0 c) k,.whole,c+1,k7 (sm0 b0 c) (by omega),(ac false (aX 0 (hp) (aX 1 (aT (show r=0 from hr)) (aX 1 (eh hk (by decide)) aZ))) (by kernel_rfl))⟩
 | n+1,r,c,M,hr,hM=>by
   obtain ⟨M,rfl⟩:∃ k,M=k+2:=⟨M - 2,by omega⟩
   have hp:=gV ns i b0 c (.lst (sts W)) (.int od) M st
   obtain ⟨t1,w1,c1,o1,h1⟩:=kP (W:=W) ns i b0 od st n (r - 1) (c+1) (M+1) (by omega) (by omega)
   obtain ⟨t2,w2,c2,o2,h2⟩:=kP (W:=W) ns i b0 od st n (r - 1) c1 (M+1) (by omega) (by omega)
   obtain ⟨t3,w3,c3,o3,h3⟩:=kP (W:=W) ns i b0 od st n (r - 1) c2 (M+1) (by omega) (by omega)
   obtain ⟨t4,w4,c4,o4,h4⟩:=kP (W:=W) ns i b0 od st n (r - 1) c3 (M+1) (by omega) (by omega)
   refine ⟨.row (pl0 b0 c) .unt [t1,t2,t3,t4],.row .unt,c4,gN (sm0 b0 c) (Nat.le_of_ble_eq_true rfl) (fun t ht=>?_) (by decide),(ac false (aX 0 (hp) (aX 1 (ai (show r≠0 by omega)) (aX 0 (h1) (aX 0 (h2) (aX 0 (h3) (aX 0 (h4) aZ)))))) (by kernel_rfl))⟩
   simp only [List.mem_cons,List.not_mem_nil,or_false] at ht
   rcases ht with rfl | rfl | rfl | rfl
   ·exact ⟨w1,o1,fun c _=>cR c⟩
   ·exact ⟨w2,o2,fun c _=>cR c⟩
   ·exact ⟨w3,o3,fun c _=>cR c⟩
   ·exact ⟨w4,o4,fun c _=>cR c⟩
theorem iO (e:Er):ay e.ds=true:=cQ fun d hd=>by
 have sn:∀ l:List Str,ay (sts l)=true:=fun l=>cQ fun d hd=>by obtain ⟨x,_,rfl⟩:=List.mem_map.mp hd;rfl
 cases e with
 | name p=>rw [List.mem_singleton.mp hd];rfl
 | deep p=>rw [List.mem_singleton.mp hd];rfl
 | parted p k b w way=>
   simp only [Er.ds,List.mem_cons,List.not_mem_nil,or_false] at hd
   rcases hd with rfl | rfl | rfl | rfl | rfl
   ·rfl
   ·exact k.nr
   ·rfl
   ·exact w.nr
   ·exact sn way
theorem hH {kd wd:Al} (h4:∀ p∈kd,p.2.dep≤4) (w4:∀ p∈wd,p.2.dep≤4):∀ (ps:List Int) (r:Rw),r∈aB kd wd ps→r.2.1.dep≤4∧r.2.2.dep≤4
 | [],r,h=>by cases h
 | p :: ps,r,h=>by
   unfold aB at h
   rcases List.mem_append.mp h with h | h
   ·cases q:cY kd wd p with
    | none=>rw [q] at h;cases h
    | some v=>
      rw [q] at h
      rw [List.mem_singleton.mp h]
      unfold cY at q
      cases k1:aq kd (.inl p) with
      | none=>rw [k1] at q;cases q
      | some k=>
        cases w1:aq wd (.inl p) with
        | none=>rw [k1,w1] at q;cases q
        | some w=>
          rw [k1,w1] at q
          by_cases c:k=w
          ·simp [c] at q
          ·simp [c] at q
           subst q
           obtain ⟨a,ha,e1⟩:=b8 k1
           obtain ⟨b,hb,e2⟩:=b8 w1
           exact ⟨by have:=h4 a ha;rw [e1] at this;exact this,by have:=w4 b hb;rw [e2] at this;exact this⟩
   ·exact hH h4 w4 ps r h
theorem mZ (rs:List Rw) (h:∀ r∈rs,r.2.1.dep≤4∧r.2.2.dep≤4):opD .eq (.lst (dW rs)) (.lst (dW rs))=some (.bl true):=by
 show (eqv 55 (.lst (dW rs)) (.lst (dW rs))).map D.bl=_
 rw [rV fun d hd=>?_]
 ·rfl
 ·obtain ⟨r,hr,rfl⟩:=List.mem_map.mp hd
  obtain ⟨h1,h2⟩:=h r hr
  refine dv fun d hd=>?_
  simp only [List.mem_cons,List.not_mem_nil,or_false] at hd
  rcases hd with rfl | rfl | rfl
  ·show some (r.1 == r.1)=_;rw [beq_self_eq_true]
  ·rw [dh 53 _ (by omega)];simp
  ·rw [dh 53 _ (by omega)];simp
abbrev pC:E:=.tand (.tv (.bi .isTup (.cons (.v 0) .nil))) (.tand (.op .gt (.bi .len (.cons (.v 0) .nil)) (.c (.int 1))) (.tv (.bi .isInt (.cons (.ix (.v 0) (.c (.int 1))) .nil))))
def It.one:It→Prop
 | .ns _=>False
 | _=>True
theorem AA (t:T68) (S:List O):∃ n:Int,biD .len [look S t.toD]=some (.int n)∧decide ((1:Int)<n)=true:=by cases t <;> exact ⟨_,rfl,rfl⟩
theorem uH (m:Nat) (a:It) (h:a.one) (x:D) (e2:Option D) (S:List O):ev Γ (aa Γ m) (az Γ m) true pC ⟨[some a.toD,some x,e2],[],S⟩ = .ok (.bl (!a.nodes.isEmpty)) ⟨[some a.toD,some x,e2],[],S⟩:=by
 cases a with
 | ns l=>exact h.elim
 | n t=>
   obtain ⟨n,h1,h2⟩:=AA t S
   have h3:=nz t S
   have h4:=bP t S
   show ev Γ (aa Γ m) (az Γ m) true pC ⟨[some t.toD,some x,e2],[],S⟩ = .ok (.bl true) ⟨[some t.toD,some x,e2],[],S⟩
   exact (eP false (aX 0 (h3) (aX 2 (h1) (aX 1 (h2) (aX 0 (h4) aZ)))) (by kernel_rfl))
 | k k=>cases k with
   | to a b=>
     have h:=dD a S
     show ev Γ (aa Γ m) (az Γ m) true pC ⟨[some (Kd.to a b).toD,some x,e2],[],S⟩ = .ok (.bl false) ⟨[some (Kd.to a b).toD,some x,e2],[],S⟩
     exact (eP false (aX 7 (h) aZ) (by kernel_rfl))
   | row a=>
     have h:=dD a S
     show ev Γ (aa Γ m) (az Γ m) true pC ⟨[some (Kd.row a).toD,some x,e2],[],S⟩ = .ok (.bl false) ⟨[some (Kd.row a).toD,some x,e2],[],S⟩
     exact (eP false (aX 7 (h) aZ) (by kernel_rfl))
   | pair a b=>
     have h:=dD a S
     show ev Γ (aa Γ m) (az Γ m) true pC ⟨[some (Kd.pair a b).toD,some x,e2],[],S⟩ = .ok (.bl false) ⟨[some (Kd.pair a b).toD,some x,e2],[],S⟩
     exact (eP false (aX 7 (h) aZ) (by kernel_rfl))
   | _=>kernel_rfl
 | _=>kernel_rfl
theorem dH (m:Nat) (x:D) (e2:Option D) (S:List O):∀ (l:List It) (acc:List T68) (e:Option D),(∀ a∈l,a.one)→acc.length+l.length<1000→∃ e':Option D,aQ (lcQ Γ (aa Γ m) (az Γ m) [0] true (.v 0) pC) (dI l) (toDs acc) ⟨[e,some x,e2],[],S⟩ = .ok (.lst (toDs (acc ++ l.flatMap It.nodes))) ⟨[e',some x,e2],[],S⟩
 | [],acc,e,_,_=>⟨e,by simp [dI,aQ]⟩
 | a :: r,acc,e,h,hl=>by
   simp only [List.length_cons] at hl
   have c:=uH m a (h a (by simp)) x e2 S
   cases a with
   | ns l=>exact (h (.ns l) (by simp)).elim
   | n t=>
     obtain ⟨e',g⟩:=dH m x e2 S r (acc ++ [t]) (some t.toD) (fun z hz=>h z (by simp [hz])) (by rw [List.length_append,List.length_singleton];omega)
     rw [lI,List.append_assoc] at g
     exact ⟨e',cO (dX rfl c rfl) (by rw [lJ];omega) g⟩
   | s z=>obtain ⟨e',g⟩:=dH m x e2 S r acc (some (It.s z).toD) (fun z hz=>h z (by simp [hz])) (by omega);exact ⟨e',dG (eU rfl c) g⟩
   | i z=>obtain ⟨e',g⟩:=dH m x e2 S r acc (some (It.i z).toD) (fun z hz=>h z (by simp [hz])) (by omega);exact ⟨e',dG (eU rfl c) g⟩
   | b z=>obtain ⟨e',g⟩:=dH m x e2 S r acc (some (It.b z).toD) (fun z hz=>h z (by simp [hz])) (by omega);exact ⟨e',dG (eU rfl c) g⟩
   | k z=>obtain ⟨e',g⟩:=dH m x e2 S r acc (some (It.k z).toD) (fun z hz=>h z (by simp [hz])) (by omega);exact ⟨e',dG (eU rfl c) g⟩
theorem xL (t:T68) (ht:kC t=false) (m:Nat) (S:List O):aa Γ (m+1) jA [t.toD] S = .ok (.lst (toDs (aj t))) S:=by
 have go:∀ (w:Str) (l:List It) (p:Int),its t = .s w :: .i p :: l→(∀ a∈l,a.one)→∃ e:Option D,aQ (lcQ Γ (aa Γ m) (az Γ m) [0] true (.v 0) pC) (dI l) [] ⟨[none,some t.toD,some (.str w)],[],S⟩ = .ok (.lst (toDs (aj t))) ⟨[e,some t.toD,some (.str w)],[],S⟩:=fun w l p e h=>by
  obtain ⟨e',g⟩:=dH m t.toD (some (.str w)) S l [] none h (by
   have:=ui t
   rw [e] at this
   simp only [List.length_cons,List.length_nil] at this ⊢;omega)
  refine ⟨e',?_⟩
  rw [← gD t,e]
  exact g
 cases t with
 | whole p v=>kernel_rfl
 | truth p v=>kernel_rfl
 | given p v=>kernel_rfl
 | name p v=>kernel_rfl
 | lk=>cases ht
 | row p k ts=>kernel_rfl
 | fn p x k b=>obtain ⟨e,g⟩:=go _ [.s x,.k k,.n b] p rfl (by simp [It.one]);exact (ac true (aX 0 (g) aZ) (by kernel_rfl))
 | slf p f x k g b=>obtain ⟨e,g⟩:=go _ [.s f,.s x,.k k,.k g,.n b] p rfl (by simp [It.one]);exact (ac true (aX 0 (g) aZ) (by kernel_rfl))
 | lt p x a b=>obtain ⟨e,g⟩:=go _ [.s x,.n a,.n b] p rfl (by simp [It.one]);exact (ac true (aX 0 (g) aZ) (by kernel_rfl))
 | iff p c a b=>obtain ⟨e,g⟩:=go _ [.n c,.n a,.n b] p rfl (by simp [It.one]);exact (ac true (aX 0 (g) aZ) (by kernel_rfl))
 | call p a b=>obtain ⟨e,g⟩:=go _ [.n a,.n b] p rfl (by simp [It.one]);exact (ac true (aX 0 (g) aZ) (by kernel_rfl))
 | bin p o a b=>obtain ⟨e,g⟩:=go _ [.s o.str,.n a,.n b] p rfl (by simp [It.one]);exact (ac true (aX 0 (g) aZ) (by kernel_rfl))
 | as_ p k a=>obtain ⟨e,g⟩:=go _ [.k k,.n a] p rfl (by simp [It.one]);exact (ac true (aX 0 (g) aZ) (by kernel_rfl))
 | pair p a b=>obtain ⟨e,g⟩:=go _ [.n a,.n b] p rfl (by simp [It.one]);exact (ac true (aX 0 (g) aZ) (by kernel_rfl))
 | att p a b=>obtain ⟨e,g⟩:=go _ [.n a,.n b] p rfl (by simp [It.one]);exact (ac true (aX 0 (g) aZ) (by kernel_rfl))
 | size p a=>obtain ⟨e,g⟩:=go _ [.n a] p rfl (by simp [It.one]);exact (ac true (aX 0 (g) aZ) (by kernel_rfl))
 | one p a=>obtain ⟨e,g⟩:=go _ [.n a] p rfl (by simp [It.one]);exact (ac true (aX 0 (g) aZ) (by kernel_rfl))
 | two p a=>obtain ⟨e,g⟩:=go _ [.n a] p rfl (by simp [It.one]);exact (ac true (aX 0 (g) aZ) (by kernel_rfl))
abbrev lpB:S:=cG ip.body
theorem kW {W:List Str} {n m:Nat} (ih:∀ (y:T68) (bs:List Str) (S:List O),Ok W n bs y→aa Γ m dP [y.toD] S = .ok (.lst (dsI (ar n y))) S) (t:T68) (S:List O):∀ (r:List T68) (acc:List Int) (e2:Option D) (ow:List Nat),ow = [1]∨ow = []→(∀ y∈r,∃ bs,Ok W n bs y)→acc.length+r.length * nb n≤100000→∃ (e2':Option D) (ow':List Nat),aI (c8 Γ (aa Γ m) (az Γ m) [2] true lpB) (toDs r) ⟨[some t.toD,some (.lst (dsI acc)),e2],ow,S⟩ = .nx ⟨[some t.toD,some (.lst (dsI (acc ++ r.flatMap (ar n)))),e2'],ow',S⟩
 | [],acc,e2,ow,_,_,_=>⟨e2,ow,by simp [aI,toDs]⟩
 | y :: r,acc,e2,ow,how,hr,hl=>by
   obtain ⟨bs,oy⟩:=hr y (by simp)
   have i1:=ih y bs S oy
   have pl:=cz n bs y oy
   simp only [List.length_cons,Nat.add_mul,Nat.one_mul] at hl
   obtain ⟨e2',ow',h⟩:=kW ih t S r (acc ++ ar n y) (some y.toD) [] (.inr rfl) (fun z hz=>hr z (by simp [hz])) (by rw [List.length_append];omega)
   have l0:opD .add (.lst (dsI acc)) (.lst (dsI (ar n y)))=some (.lst (dsI (acc ++ ar n y))):=by
    show cD ((dsI acc).length+(dsI (ar n y)).length) _=_
    unfold cD dsI
    rw [if_pos (by rw [List.length_map,List.length_map];omega),List.map_append]
   refine ⟨e2',ow',aA (s1:=⟨[some t.toD,some (.lst (dsI (acc ++ ar n y))),some y.toD],[],S⟩) (aD rfl ?_) ?_⟩
   ·rcases how with rfl | rfl
    ·exact (bA false (aX 0 (i1) (aX 0 (l0) aZ)) (by kernel_rfl))
    ·exact (bA false (aX 0 (i1) (aX 0 (l0) aZ)) (by kernel_rfl))
   ·rw [h,List.append_assoc,List.flatMap_cons]
theorem nQ {W:List Str}:∀ (n m:Nat) (t:T68) (bs:List Str) (S:List O),n+1≤m→n≤8→Ok W n bs t→aa Γ m dP [t.toD] S = .ok (.lst (dsI (ar n t))) S
 | 0,m,t,bs,S,_,_,o=>o.elim
 | n+1,m,t,bs,S,hm,h8,o=>by
   obtain ⟨m,rfl⟩:∃ k,m=k+2:=⟨m - 2,by omega⟩
   obtain ⟨o1,o2,o3,o4⟩:=o
   have p0:=xL t (sD o1) m S
   have kl:=bT o1
   have nb8:nb n≤5461:=by
    have:∀ k,k≤7→nb k≤5461:=by decide
    exact this n (by omega)
   have kn:(aj t).length * nb n≤4 * nb n:=Nat.mul_le_mul_right _ kl
   obtain ⟨e2,ow,lp⟩:=kW (m:=m+1) (fun y bs S o=>nQ n (m+1) y bs S (by omega) (by omega) o) t S (aj t) [t.pl] none [1] (.inl rfl) (fun y hy=>by obtain ⟨i,hi⟩:=List.mem_iff_getElem?.mp hy;exact ⟨_,o4 i y hi⟩) (by simp only [List.length_singleton];omega)
   exact (ac true (aX 0 (bP t S) (aX 0 (p0) (aX 0 (lp) aZ))) (by kernel_rfl))
theorem dY:∀ (k:Kd) (N:Nat),k.dep+1≤N→∀ st,aa Γ N jy [k.toD] st = .ok (.int (k.dep:Nat)) st
 | .whole,N,h,st=>by obtain ⟨n,rfl⟩:∃ n,N=n+2:=⟨N - 2,by unfold Kd.dep at h;omega⟩;kernel_rfl
 | .truth,N,h,st=>by obtain ⟨n,rfl⟩:∃ n,N=n+2:=⟨N - 2,by unfold Kd.dep at h;omega⟩;kernel_rfl
 | .unt,N,h,st=>by obtain ⟨n,rfl⟩:∃ n,N=n+2:=⟨N - 2,by unfold Kd.dep at h;omega⟩;kernel_rfl
 | .row a,N,h,st=>by
   unfold Kd.dep at h
   obtain ⟨n,rfl⟩:∃ n,N=n+2:=⟨N - 2,by omega⟩
   have i1:=dY a (n+1) (by omega) st
   show _=Res.ok (.int ((1+a.dep:Nat):Int)) st
   exact (ac false (aX 0 (i1) (aX 1 (nW a.dep) (aX 0 (dB a.dep) aZ))) (by kernel_rfl))
 | .to a b,N,h,st=>by
   unfold Kd.dep at h
   obtain ⟨n,rfl⟩:∃ n,N=n+2:=⟨N - 2,by omega⟩
   have i1:=dY a (n+1) (by omega) st
   have i2:=dY b (n+1) (by omega) st
   show _=Res.ok (.int ((1+max a.dep b.dep:Nat):Int)) st
   exact (ac false (aX 0 (i1) (aX 0 (i2) (aX 1 (fN a.dep b.dep) (aX 0 (dB (max a.dep b.dep)) aZ)))) (by kernel_rfl))
 | .pair a b,N,h,st=>by
   unfold Kd.dep at h
   obtain ⟨n,rfl⟩:∃ n,N=n+2:=⟨N - 2,by omega⟩
   have i1:=dY a (n+1) (by omega) st
   have i2:=dY b (n+1) (by omega) st
   show _=Res.ok (.int ((1+max a.dep b.dep:Nat):Int)) st
   exact (ac false (aX 0 (i1) (aX 0 (i2) (aX 1 (fN a.dep b.dep) (aX 0 (dB (max a.dep b.dep)) aZ)))) (by kernel_rfl))
def mx (r:Rw):Nat:=max r.2.1.dep r.2.2.dep
def most (m:Nat) (l:List Rw):Nat:=l.foldl (fun m r=>max m (mx r)) m
theorem fL (a b:Nat):(if (b:Int)>(a:Int) then (b:Int) else (a:Int))=((max a b:Nat):Int):=by
 by_cases h:(b:Int)>(a:Int)
 ·rw [if_pos h];have:max a b=b:=Nat.max_eq_right (by omega);rw [this]
 ·rw [if_neg h];have:max a b=a:=Nat.max_eq_left (by omega);rw [this]
theorem rY (a b:Nat):biD .max2 [.int (a:Int),.int (b:Int)]=some (.int ((max a b:Nat):Int)):=by
 show some (D.int (if (b:Int)>(a:Int) then (b:Int) else (a:Int)))=_;rw [fL]
theorem rZ (m a b:Nat):biD .max2 [.int (m:Int),.int (a:Int),.int (b:Int)]=some (.int ((max m (max a b):Nat):Int)):=by
 show some (D.int (if (a:Int)>(m:Int) then (if (b:Int)>(a:Int) then (b:Int) else (a:Int)) else if (b:Int)>(m:Int) then (b:Int) else (m:Int)))=_
 rw [fL a b,fL m b]
 congr 2
 by_cases h:(a:Int)>(m:Int)
 ·rw [if_pos h];congr 1;omega
 ·rw [if_neg h];congr 1;omega
theorem iQ:∀ (l:List Rw) (a:Nat),(l.map fun r=>((mx r:Nat):Int)).foldl (fun a b=>if b>a then b else a) (a:Int)=((most a l:Nat):Int)
 | [],a=>rfl
 | r :: l,a=>by
   rw [List.map_cons,List.foldl_cons,fL]
   exact iQ l (max a (mx r))
def dM (l:List Rw):List D:=l.map fun r=>.int ((mx r:Nat):Int)
theorem ri:∀ l:List Rw,cb (dM l)=some (l.map fun r=>((mx r:Nat):Int))
 | []=>rfl
 | r :: l=>by show (cb (dM l)).map (_ :: ·)=_;rw [ri l];rfl
theorem Aa (l:List Rw):biD .max0 [.lst (dM l),.int 0]=some (.int ((most 0 l:Nat):Int)):=by
 show (cb (dM l)).map (fun ns=>D.int (L2.Bw.maxD 0 ns))=_
 rw [ri]
 cases l with
 | nil=>rfl
 | cons r l=>
   show some (D.int ((l.map fun r=>((mx r:Nat):Int)).foldl (fun a b=>if b>a then b else a) ((mx r:Nat):Int)))=_
   rw [iQ]
   show _=some (D.int ((most (max 0 (mx r)) l:Nat):Int))
   rw [Nat.zero_max]
abbrev dE:E:=.bi .max2 (.cons (.call 3 (.cons (.v 1) .nil)) (.cons (.call 3 (.cons (.v 2) .nil)) .nil))
theorem mX (m:Nat) (hm:5≤m) (t:D) (S:List O):∀ (l acc:List Rw) (e0 e1 e2:Option D),(∀ r∈l,r.2.1.dep≤4∧r.2.2.dep≤4)→acc.length+l.length<100000→∃ f0 f1 f2:Option D,aQ (lcQ Γ (aa Γ m) (az Γ m) [0,1,2] false dE (.c (.bl true))) (l.map bE) (dM acc) ⟨[e0,e1,e2,some t],[],S⟩ = .ok (.lst (dM (acc ++ l))) ⟨[f0,f1,f2,some t],[],S⟩
 | [],acc,e0,e1,e2,_,_=>⟨e0,e1,e2,by simp [aQ]⟩
 | (p,k,w) :: l,acc,e0,e1,e2,h,hl=>by
   simp only [List.length_cons] at hl
   have h0:=h (p,k,w) (by simp)
   have d1:=depth k m (by have:=h0.1;simp only at this;omega) S
   have d2:=depth w m (by have:=h0.2;simp only at this;omega) S
   have mm:=rY k.dep w.dep
   obtain ⟨f0,f1,f2,g⟩:=mX m hm t S l (acc ++ [(p,k,w)]) (some (.int p)) (some k.toD) (some w.toD) (fun r hr=>h r (by simp [hr])) (by rw [List.length_append,List.length_singleton];omega)
   have el:ev Γ (aa Γ m) (az Γ m) false dE ⟨[some (.int p),some k.toD,some w.toD,some t],[],S⟩ = .ok (.int ((max k.dep w.dep:Nat):Int)) ⟨[some (.int p),some k.toD,some w.toD,some t],[],S⟩:=(eP false (aX 0 (d1) (aX 0 (d2) (aX 0 (mm) aZ))) (by kernel_rfl))
   have e:dM (acc ++ [(p,k,w)])=dM acc ++ [.int ((max k.dep w.dep:Nat):Int)]:=by unfold dM;rw [List.map_append];rfl
   rw [e,List.append_assoc] at g
   exact ⟨f0,f1,f2,cO (dX rfl rfl el) (by unfold dM;rw [List.length_map];omega) g⟩
section
variable {W:List Str} {kd wd:Al}
theorem yF {n:Nat} {t:T68} (o:Ok W n [] t):ay [t.toD]=true:=cQ fun d hd=>by rw [List.mem_singleton.mp hd];exact T68.nr n t o.nst
theorem kT (n m:Nat) (t:T68) (o:Ok W n [] t) (h8:n≤8) (hm:n+13≤m) (q:aS n t = .ok (kd,wd)):aa Γ m aW [t.toD] [] = .ok (.lst ((aB kd wd (ar n t)).map bE)) (ls kd wd):=by
 have lo:=kU n m t o h8 hm
 rw [q] at lo;exact lo
theorem lx (n:Nat) (t:T68) (o:Ok W n [] t) (h8:n≤8):(aB kd wd (ar n t)).length≤21845:=by
 have:=cz n [] t o
 have:=jI kd wd (ar n t)
 have:=(nb8 h8).1
 omega
theorem gj (n m:Nat) (t:T68) (o:Ok W n [] t) (h8:n≤8) (hm:n+14≤m) (q:aS n t = .ok (kd,wd)):aa Γ m eS [t.toD] [] = .ok (.int ((most 0 (aB kd wd (ar n t)):Nat):Int)) []:=by
 obtain ⟨m,rfl⟩:∃ k,m=k+1:=⟨m - 1,by omega⟩
 have lo:=kT n m t o h8 (by omega) q
 obtain ⟨h4,w4,_⟩:=cP q
 have rd:=hH h4 w4 (ar n t)
 have fw:=lx (kd:=kd) (wd:=wd) n t o h8
 have nt:=yF o
 generalize aB kd wd (ar n t)=rs at *
 have rn:=fU rs
 obtain ⟨f0,f1,f2,lp⟩:=mX m (by omega) t.toD [] rs [] none none none rd (by simp only [List.length_nil];omega)
 have lp:aQ (lcQ Γ (aa Γ m) (az Γ m) [0,1,2] false dE (.c (.bl true))) (rs.map bE) [] ⟨[none,none,none,some t.toD],[],[]⟩ = .ok (.lst (dM rs)) ⟨[f0,f1,f2,some t.toD],[],[]⟩:=lp
 have mm:=Aa rs
 exact (ac true (aX 0 (nt) (aX 0 (lo) (aX 0 (rn) (aX 0 (lp) (aX 0 (mm) aZ))))) (by kernel_rfl))
theorem pM (n m:Nat) (t:T68) (o:Ok W n [] t) (h8:n≤8) (hm:n+13≤m) (q:aS n t = .ok (kd,wd)):aa Γ m kL [t.toD] [] = .ok (.ref 3) (ls kd wd ++ [.lst ((aB kd wd (ar n t)).map bE)]):=by
 obtain ⟨m,rfl⟩:∃ k,m=k+1:=⟨m - 1,by omega⟩
 have lo:=cF n m t o h8 (by omega)
 rw [q] at lo
 have lo:aa Γ m aP [t.toD] [] = .ok (.tup [.ref 1,.ref 2]) (ls kd wd):=lo
 obtain ⟨h4,_,hp⟩:=cP q
 have pl:=eY n m t [] (ls kd wd) (by omega) h8 o
 have len:=cz n [] t o
 have:=(nb8 h8).1
 obtain ⟨e',lp⟩:=fM m t kd wd h4 (ar n t) [] none hp (by simp only [List.length_nil];omega)
 exact (ac true (aX 0 (lo) (aX 0 (pl) (aX 0 (lp) aZ))) (by kernel_rfl))
theorem vU (l:Al):ay (dsA l)=true:=cQ fun d hd=>by
 obtain ⟨p,_,rfl⟩:=List.mem_map.mp hd
 exact p.2.nr
theorem qL:mc (ls kd wd) (.tup [.ref 1,.ref 2])=some (.tup [dA kd,dA wd]):=by
 show ((if ay (dsA kd)=true then some (D.dic (ksA kd) (dsA kd)) else none).bind fun e=>((if ay (dsA wd)=true then some (D.dic (ksA wd) (dsA wd)) else none).bind fun f=>(some []).map (f :: ·)).map (e :: ·)).map D.tup=_
 rw [if_pos (vU kd),if_pos (vU wd)];rfl
theorem qM (rs:List Rw):mc (ls kd wd ++ [.lst (rs.map bE)]) (.ref 3)=some (.lst (rs.map bE)):=by
 show (if ay (rs.map bE)=true then some (D.lst (rs.map bE)) else none)=_
 rw [if_pos (show ay (rs.map bE)=true from fU rs)]
end
def Er4:Er→Prop
 | .parted _ k _ w _=>k.dep≤4∧w.dep≤4
 | _=>True
theorem rz {fs:List Kd} (h:∀ k∈fs,k.dep≤4):(fs.getLastD .unt).dep≤4:=by
 cases fs with
 | nil=>decide
 | cons a r=>
   rw [List.getLastD_cons]
   refine h _ ?_
   cases r with
   | nil=>simp
   | cons b r=>
     rw [List.getLastD_cons,← List.getLast_eq_getLastD]
     ·exact List.mem_cons_of_mem _ (List.getLast_mem _)
     ·simp
theorem ub {t y:T68} {fs:List Kd} {wd:Al} {e:Er} (h:cW t y fs wd = .error e) (hf:∀ k∈fs,k.dep≤4) (hw:∀ k∈wks t,k.dep≤4):Er4 e:=by
 unfold cW at h
 split at h
 ·split at h
  ·cases h;exact ⟨hf _ (by simp),hf _ (by simp)⟩
  ·cases h
 ·split at h
  ·cases h;exact ⟨rz hf,lK t fs hf hw⟩
  ·cases h
theorem nI {n:Nat} (ih:∀ y N kd wd e,lkM n y N kd wd = .error e→Er4 e) (t:T68) (hw4:∀ k∈wks t,k.dep≤4) (N:Al):∀ (r:List T68) (fs:List Kd) (kd wd:Al) (e:Er),(∀ k∈fs,k.dep≤4)→cy (lkM n) t N r fs kd wd = .error e→Er4 e
 | [],fs,kd,wd,e,_,h=>by cases h
 | y :: r,fs,kd,wd,e,hf,h=>by
   unfold cy at h
   cases q1:lkM n y (inN t fs.length fs N) kd wd with
   | error e'=>rw [q1] at h;cases h;exact ih _ _ _ _ _ q1
   | ok w=>
     obtain ⟨k,kd1,wd1⟩:=w
     rw [q1] at h
     dsimp only at h
     have hf2:∀ k'∈fs ++ [k],k'.dep≤4:=fun k' h=>by
      rcases List.mem_append.mp h with h | h
      ·exact hf k' h
      ·rw [List.mem_singleton.mp h];exact (rP n y _ _ _ _ _ _ q1).1
     cases q2:cW t y (fs ++ [k]) wd1 with
     | error e'=>rw [q2] at h;cases h;exact ub q2 hf2 hw4
     | ok wd2=>rw [q2] at h;exact nI ih t hw4 N r (fs ++ [k]) kd1 wd2 e hf2 h
theorem v9:∀ (n:Nat) (t:T68) (N kd wd:Al) (e:Er),lkM n t N kd wd = .error e→Er4 e
 | 0,t,N,kd,wd,e,h=>by cases h;trivial
 | n+1,t,N,kd,wd,e,h=>by
   unfold lkM at h
   by_cases c:(wks t).any (fun k=>decide (4<k.dep))=true
   ·rw [if_pos c] at h;cases h;trivial
   ·rw [if_neg c] at h
    have hw4:∀ k∈wks t,k.dep≤4:=fun k hk=>by
     have:¬ 4<k.dep:=fun h=>c (List.any_eq_true.mpr ⟨k,hk,decide_eq_true h⟩)
     omega
    cases q1:cy (lkM n) t N (aj t) [] kd wd with
    | error e'=>rw [q1] at h;cases h;exact nI (fun y N kd wd e h=>v9 n y N kd wd e h) t hw4 N (aj t) [] kd wd _ (fun k h=>by cases h) q1
    | ok v=>
      obtain ⟨fs,kd1,wd1⟩:=v
      rw [q1] at h
      dsimp only at h
      by_cases c2:4<(cm t fs N).dep
      ·rw [if_pos c2] at h;cases h;trivial
      ·rw [if_neg c2] at h;cases h
theorem pL {n:Nat} {t:T68} {e:Er} (h:aS n t = .error e):Er4 e:=by
 unfold aS at h
 cases q:lkM n t [] [] [] with
 | error e'=>rw [q] at h;cases h;exact v9 _ _ _ _ _ _ q
 | ok v=>obtain ⟨k,kd,wd⟩:=v;rw [q] at h;cases h
theorem hV (n:Nat) (x:Str):eqv (n+1) (.str x) (.str x)=some true:=by show some (x == x)=_;rw [beq_self_eq_true]
theorem d9 (n:Nat) (x:Int):eqv (n+1) (.int x) (.int x)=some true:=by show some (x == x)=_;rw [beq_self_eq_true]
theorem sS (l:List Str):eqv 54 (.tup (sts l)) (.tup (sts l))=some true:=dv (n:=53) fun d hd=>by
 obtain ⟨x,_,rfl⟩:=List.mem_map.mp hd
 exact hV 52 _
def rfD:Er→D
 | .name p=>.tup [.str "name",.int p]
 | .deep p=>.tup [.str "deep",.int p]
 | .parted p k b w way=>.tup [.int p,k.toD,.int b,w.toD,.tup (sts way)]
theorem Au (e:Er) (h:Er4 e):opD .ne (rfD e) (rfD e)=some (.bl false):=by
 show (Ev.eqT _ _).map (fun x=>D.bl (!x))=_
 rw [jn (by cases e <;> rfl)]
 have:eqv 55 (rfD e) (rfD e)=some true:=by
  cases e with
  | name p=>
    refine dv (n:=54) fun d hd=>?_
    simp only [List.mem_cons,List.not_mem_nil,or_false] at hd
    rcases hd with rfl | rfl
    ·exact hV 53 _
    ·exact d9 53 _
  | deep p=>
    refine dv (n:=54) fun d hd=>?_
    simp only [List.mem_cons,List.not_mem_nil,or_false] at hd
    rcases hd with rfl | rfl
    ·exact hV 53 _
    ·exact d9 53 _
  | parted p k b w way=>
    obtain ⟨h1,h2⟩:=h
    refine dv (n:=54) fun d hd=>?_
    simp only [List.mem_cons,List.not_mem_nil,or_false] at hd
    rcases hd with rfl | rfl | rfl | rfl | rfl
    ·exact d9 53 _
    ·rw [dh 54 _ (by omega)];simp
    ·exact d9 53 _
    ·rw [dh 54 _ (by omega)];simp
    ·exact sS way
 rw [this];rfl
theorem vd {t:D} (nt:ay [t]=true) (e:Er) (m:Nat) (h:∃ st,aa Γ m aP [t] [] = .exc e.cls e.ds st) (S:List O):aa Γ (m+1) ak [t,.int 0] S = .ok (rfD e) S:=by
 obtain ⟨st,h⟩:=h
 have en:=iO e
 cases e with
 | name p=>exact (ac false (aX 2 (nt) (aX 0 (h) aZ)) (by kernel_rfl))
 | deep p=>exact (ac false (aX 2 (nt) (aX 0 (h) aZ)) (by kernel_rfl))
 | parted p k b w way=>exact (ac false (aX 2 (nt) (aX 0 (h) (aX 0 (en) aZ))) (by kernel_rfl))
theorem ve {t:D} (nt:ay [t]=true) (e:Er) (m:Nat) (h:∃ st,aa Γ m aW [t] [] = .exc e.cls e.ds st) (S:List O):aa Γ (m+1) ak [t,.int 1] S = .ok (rfD e) S:=by
 obtain ⟨st,h⟩:=h
 have en:=iO e
 cases e with
 | name p=>exact (ac false (aX 4 (nt) (aX 0 (h) aZ)) (by kernel_rfl))
 | deep p=>exact (ac false (aX 4 (nt) (aX 0 (h) aZ)) (by kernel_rfl))
 | parted p k b w way=>exact (ac false (aX 4 (nt) (aX 0 (h) (aX 0 (en) aZ))) (by kernel_rfl))
theorem vf {t:D} (nt:ay [t]=true) (e:Er) (m:Nat) (h:∃ st,aa Γ m jD [t] [] = .exc e.cls e.ds st) (S:List O):aa Γ (m+1) ak [t,.int 2] S = .ok (rfD e) S:=by
 obtain ⟨st,h⟩:=h
 have en:=iO e
 cases e with
 | name p=>exact (ac false (aX 6 (nt) (aX 0 (h) aZ)) (by kernel_rfl))
 | deep p=>exact (ac false (aX 6 (nt) (aX 0 (h) aZ)) (by kernel_rfl))
 | parted p k b w way=>exact (ac false (aX 6 (nt) (aX 0 (h) (aX 0 (en) aZ))) (by kernel_rfl))
theorem vg {t:D} (nt:ay [t]=true) (e:Er) (m:Nat) (h:∃ st,aa Γ m eS [t] [] = .exc e.cls e.ds st) (S:List O):aa Γ (m+1) ak [t,.int 3] S = .ok (rfD e) S:=by
 obtain ⟨st,h⟩:=h
 have en:=iO e
 cases e with
 | name p=>exact (ac false (aX 6 (nt) (aX 0 (h) aZ)) (by kernel_rfl))
 | deep p=>exact (ac false (aX 6 (nt) (aX 0 (h) aZ)) (by kernel_rfl))
 | parted p k b w way=>exact (ac false (aX 6 (nt) (aX 0 (h) (aX 0 (en) aZ))) (by kernel_rfl))
theorem sM {t:D} (nt:ay [t]=true) (e:Er) (m:Nat) (h:∃ st,aa Γ m aW [t] [] = .exc e.cls e.ds st):∃ st,aa Γ (m+1) jD [t] [] = .exc e.cls e.ds st:=by
 obtain ⟨st,h⟩:=h
 have en:=iO e
 cases e with
 | name p=>exact ⟨[],(ac false (aX 1 (nt) (aX 0 (h) aZ)) (by kernel_rfl))⟩
 | deep p=>exact ⟨[],(ac false (aX 1 (nt) (aX 0 (h) aZ)) (by kernel_rfl))⟩
 | parted p k b w way=>exact ⟨[],(ac false (aX 1 (nt) (aX 0 (h) (aX 0 (en) aZ))) (by kernel_rfl))⟩
theorem l5 {t:D} (nt:ay [t]=true) (e:Er) (m:Nat) (h:∃ st,aa Γ m aW [t] [] = .exc e.cls e.ds st):∃ st,aa Γ (m+1) eS [t] [] = .exc e.cls e.ds st:=by
 obtain ⟨st,h⟩:=h
 have en:=iO e
 cases e with
 | name p=>exact ⟨[],(ac false (aX 0 (nt) (aX 0 (h) aZ)) (by kernel_rfl))⟩
 | deep p=>exact ⟨[],(ac false (aX 0 (nt) (aX 0 (h) aZ)) (by kernel_rfl))⟩
 | parted p k b w way=>exact ⟨[],(ac false (aX 0 (nt) (aX 0 (h) (aX 0 (en) aZ))) (by kernel_rfl))⟩
theorem gK {t:D} (e:Er) (m:Nat) (h:∃ st,aa Γ m aP [t] [] = .exc e.cls e.ds st):∃ st,aa Γ (m+1) aW [t] [] = .exc e.cls e.ds st:=by
 obtain ⟨st,h⟩:=h
 exact ⟨st,(ac false (aX 0 (h) aZ) (by kernel_rfl))⟩
theorem yx {t:D} (nt:ay [t]=true) (e:Er) (h:∀ m,200≤m→∃ st,aa Γ m aP [t] [] = .exc e.cls e.ds st) (S:List O):aa Γ 249 ak [t,.int 0] S = .ok (rfD e) S∧aa Γ 249 ak [t,.int 1] S = .ok (rfD e) S∧aa Γ 249 ak [t,.int 2] S = .ok (rfD e) S∧aa Γ 249 ak [t,.int 3] S = .ok (rfD e) S:=
 ⟨vd nt e 248 (h 248 (by decide)) S,ve nt e 248 (gK e 247 (h 247 (by decide))) S,vf nt e 248 (sM nt e 247 (gK e 246 (h 246 (by decide)))) S,vg nt e 248 (l5 nt e 247 (gK e 246 (h 246 (by decide)))) S⟩
section
variable {W:List Str} {kd wd:Al}
theorem yy {t:T68} (o:Ok W 8 [] t) (q:aS 8 t = .ok (kd,wd)) (S:List O):aa Γ 249 ak [t.toD,.int 0] S = .ok .non S∧aa Γ 249 ak [t.toD,.int 1] S = .ok .non S∧aa Γ 249 ak [t.toD,.int 2] S = .ok .non S∧aa Γ 249 ak [t.toD,.int 3] S = .ok .non S:=by
 have nt:=yF o
 have lk:=cF 8 248 t o (by decide) (by decide)
 rw [q] at lk
 have lk:aa Γ 248 aP [t.toD] [] = .ok (.tup [.ref 1,.ref 2]) (ls kd wd):=lk
 have lo:=kT 8 248 t o (by decide) (by decide) q
 have rn:=fU (aB kd wd (ar 8 t))
 have re:=lw 8 248 t o (by decide) (by decide) q
 have rr:noR (cu (Lof [] (aB kd wd (ar 8 t))) 8 t).toD=true:=T68.nr 16 _ (jU 8 16 t [] (by decide) o)
 have de:=gj 8 248 t o (by decide) (by decide) q
 have fz:=qL (kd:=kd) (wd:=wd)
 exact ⟨(ac false (aX 2 (nt) (aX 0 (lk) (aX 1 (fz) aZ))) (by kernel_rfl)),(ac false (aX 4 (nt) (aX 0 (lo) (aX 0 (rn) aZ))) (by kernel_rfl)),(ac false (aX 6 (nt) (aX 0 (re) (aX 0 (rr) aZ))) (by kernel_rfl)),(ac false (aX 6 (nt) (aX 0 (de) aZ)) (by kernel_rfl))⟩
end
def lB (q:Int):T68→T68
 | .whole _ v=>.whole q v | .truth _ v=>.truth q v | .given _ v=>.given q v | .name _ v=>.name q v | .fn _ x k b=>.fn q x k b | .slf _ f x k g b=>.slf q f x k g b | .lt _ x a b=>.lt q x a b | .iff _ c a b=>.iff q c a b
 | .call _ a b=>.call q a b | .bin _ o a b=>.bin q o a b | .as_ _ k a=>.as_ q k a | .row _ k ts=>.row q k ts | .pair _ a b=>.pair q a b | .att _ a b=>.att q a b | .size _ a=>.size q a | .one _ a=>.one q a | .two _ a=>.two q a | .lk _ k l a=>.lk q k l a
theorem pa (q:Int) (t:T68) (i:Nat):bnd (lB q t) i=bnd t i:=by
 cases t with
 | lt p x a b=>match i with | 0=>rfl | 1=>rfl | i+2=>rfl
 | _=>rfl
theorem mv (q:Int) (t:T68):aj (lB q t)=aj t:=by cases t <;> rfl
theorem sB {W bs:List Str} {n:Nat} {t:T68} {q:Int} (hq:Sm q) (o:Ok W (n+1) bs t):Ok W (n+1) bs (lB q t):=by
 obtain ⟨o1,_,o3,o4⟩:=o
 refine ⟨?_,?_,?_,fun i k h=>by rw [pa];exact o4 i k (by rw [mv] at h;exact h)⟩
 ·cases t <;> exact o1
 ·cases t <;> exact hq
 ·cases t <;> exact o3
theorem vo (t:T68):∃ (w:Str) (l:List D),l.length≤5∧t.toD = .tup (.str w :: .int t.pl :: l)∧∀ q,(lB q t).toD = .tup (.str w :: .int q :: l):=by
 cases t <;> exact ⟨_,_,Nat.le_of_ble_eq_true rfl,rfl,fun _=>rfl⟩
theorem zx (a b:D) (l:List D) (h:l.length≤5):kj (a :: b :: l) (some 2) none=l:=by
 match l,h with
 | [],_=>rfl
 | [_],_=>rfl
 | [_,_],_=>rfl
 | [_,_,_],_=>rfl
 | [_,_,_,_],_=>rfl
 | [_,_,_,_,_],_=>rfl
 | _ :: _ :: _ :: _ :: _ :: _ :: _,h=>simp at h
theorem y4 (a b c:D) (l:List D) (h:l.length≤5):opD .add (.tup [a,c]) (.tup (kj (a :: b :: l) (some 2) none))=some (.tup (a :: c :: l)):=by
 rw [zx a b l h]
 show cD ([a,c].length+l.length) _=_
 unfold cD
 rw [if_pos (by simp;omega)];rfl
theorem i3 (x:Str) (m:Nat) (S:List O):aa Γ (m+1) a9 [(T68.name 9990 x).toD,.tup []] S = .exc 2 [.int 9990] S:=by kernel_rfl
theorem Bz {W:List Str} {n:Nat} {t:T68} (o:Ok W n [] t) (x:Str) (m:Nat) (hm:n+5≤m) (hn:n≤8) (S:List O):aa Γ m a9 [(T68.pair 9991 t (.name 9990 x)).toD,.tup []] S = .exc 2 [.int 9990] S:=by
 obtain ⟨m,rfl⟩:∃ k,m=k+5:=⟨m - 5,by omega⟩
 have p0:=eX (T68.pair 9991 t (.name 9990 x)) (m+1) S
 have n0:=jQ (T68.pair 9991 t (.name 9990 x)) 0 t rfl (m+3) S
 have n1:=jQ (T68.pair 9991 t (.name 9990 x)) 1 (.name 9990 x) rfl (m+3) S
 have i1:=d5 n (m+4) t [] S (by omega) o (by simp only [List.length_nil];omega)
 have i2:=i3 x (m+3) S
 exact (ac false (aX 0 (p0) (aX 0 (n0) (aX 0 (i1) (aX 0 (n1) (aX 0 (i2) aZ))))) (by kernel_rfl))
theorem BA {t:T68} (x:Str) (m:Nat) (hm:5≤m) (S:List O):aa Γ m a9 [(T68.pair 9991 (.name 9990 x) t).toD,.tup []] S = .exc 2 [.int 9990] S:=by
 obtain ⟨m,rfl⟩:∃ k,m=k+5:=⟨m - 5,by omega⟩
 have p0:=eX (T68.pair 9991 (.name 9990 x) t) (m+1) S
 have n0:=jQ (T68.pair 9991 (.name 9990 x) t) 0 (.name 9990 x) rfl (m+3) S
 have i2:=i3 x (m+3) S
 exact (ac false (aX 0 (p0) (aX 0 (n0) (aX 0 (i2) aZ))) (by kernel_rfl))
def Bd (t:D):Prop:=ay [t]=true∧∀ m,200≤m→∃ st,aa Γ m aP [t] [] = .exc (Er.name 9990).cls (Er.name 9990).ds st
theorem vF {t:T68} {n:Nat} (ns:Nst n t) (h:∀ m,100≤m→aa Γ m a9 [t.toD,.tup []] [] = .exc 2 [.int 9990] []):Bd t.toD:=⟨cQ fun d hd=>by rw [List.mem_singleton.mp hd];exact T68.nr n t ns,fun m hm=>by
 obtain ⟨m,rfl⟩:∃ k,m=k+2:=⟨m - 2,by omega⟩
 have nb:=h m (by omega)
 have nn:aa Γ (m+1) ef [t.toD] [] = .exc 2 [.int 9990] []:=(ac false (aX 0 (nb) aZ) (by kernel_rfl))
 exact ⟨[],((ac false (aX 0 (nn) aZ) (by kernel_rfl)):aa Γ (m+2) aP [t.toD] [] = .exc 2 [.int 9990] [])⟩⟩
def Pg (t:T68):Prop:=(∃ W,Ok W 8 [] t)∨Bd t.toD
theorem ev2 (c:Int):c % 2=0∨c % 2=1:=by omega
theorem oP {W:List Str} {t:T68} (hW:W.length=5) (o:Ok W 7 [] t) (a:Option D) (ns:List Int) (i b0 c cc:Int):∃ t':T68,Pg t'∧toR (exS Γ (aa Γ 248) (az Γ 248) (tlS 3 aU.body) ⟨[a,some (.int cc),some (.ref 0),some t.toD,none],[],dS ns i b0 W (cc % 2) [] c⟩) = .ok t'.toD (dS ns i b0 W (cc % 2) [] c):=by
 by_cases g:cc / 16 % 6=1
 ·obtain ⟨x,_,ix⟩:=lM hW (cc / 96)
  have ns1:∀ y,Nst 8 (T68.pair 9991 t (.name 9990 y))∧Nst 8 (T68.pair 9991 (.name 9990 y) t):=fun y=>by
   have h0:Nst 7 (T68.name 9990 y):=⟨Nat.le_of_ble_eq_true rfl,fun _ h=>by cases h⟩
   refine ⟨⟨Nat.le_of_ble_eq_true rfl,fun z hz=>?_⟩,⟨Nat.le_of_ble_eq_true rfl,fun z hz=>?_⟩⟩
   ·simp only [aj,List.mem_cons,List.not_mem_nil,or_false] at hz
    rcases hz with rfl | rfl
    ·exact o.nst
    ·exact h0
   ·simp only [aj,List.mem_cons,List.not_mem_nil,or_false] at hz
    rcases hz with rfl | rfl
    ·exact h0
    ·exact o.nst
  rcases ev2 cc with e | e
  ·refine ⟨.pair 9991 t (.name 9990 x),.inr (vF (ns1 x).1 fun m hm=>Bz o x m (by omega) (by decide) []),?_⟩
   have md:=eh e (by decide)
   show _=Res.ok (.tup [.str "pair",.int 9991,t.toD,.tup [.str "name",.int 9990,.str x]]) _
   exact (aF false (aX 3 (aT g) (aX 3 (ix) (aX 0 (md) (aX 1 (md) aZ)))) (by kernel_rfl))
  ·refine ⟨.pair 9991 (.name 9990 x) t,.inr (vF (ns1 x).2 fun m hm=>BA x m (by omega) []),?_⟩
   have md:=eh e (by decide)
   show _=Res.ok (.tup [.str "pair",.int 9991,.tup [.str "name",.int 9990,.str x],t.toD]) _
   exact (aF false (aX 3 (aT g) (aX 3 (ix) (aX 0 (md) (aX 1 (md) aZ)))) (by kernel_rfl))
 ·exact ⟨t,.inl ⟨W,o.mono (fun _ h=>h) (by decide)⟩,(aF false (aX 3 (ai g) aZ) (by kernel_rfl))⟩
theorem u8 (ns:List Int) (cc:Int):∃ (t:T68) (S:List O),Pg t∧aa Γ 249 gF [.lst (ns.map .int),.int cc] [] = .ok t.toD S:=by
 obtain ⟨y,hy⟩:=mV ns 1 247 []
 obtain ⟨W,hW,nd,hw⟩:=AK cc 247 []
 by_cases g:cc / 2 % 8=1
 ·obtain ⟨t,w,c',mk,ht⟩:=kP (W:=W) ns 1 (y % 9973) (cc % 2) [] 3 3 0 248 rfl (by decide)
  exact ⟨t,dS ns 1 (y % 9973) W (cc % 2) [] c',.inl ⟨W,mk.1.mono (fun _ h=>h) (by decide)⟩,(ac false (aX 0 (hy) (aX 0 (hw) (aX 4 (aT g) (aX 0 (ht) aZ)))) (by kernel_rfl))⟩
 ·obtain ⟨k,hk,hkk⟩:=iW (cc / 16) 247 (dS ns 1 (y % 9973) W (cc % 2) [] 0)
  obtain ⟨t,i1,c1,_,mk,ht⟩:=(Ad (ns:=ns) (b0:=y % 9973) (od:=cc % 2) (st:=[]) hW nd 248 (by decide)).1 k [] 1 0 (Kd.ok2 hk) Nk.nil (by decide)
  by_cases g2:cc / 2 % 8=2
  ·obtain ⟨w,l,hl,e1,e2⟩:=vo t
   have hd:exS Γ (aa Γ 248) (az Γ 248) (hdS 3 aU.body) ⟨[some (.lst (ns.map .int)),some (.int cc),none,none,none],[],[]⟩ = .nx ⟨[some (.lst (ns.map .int)),some (.int cc),some (.ref 0),some (lB 9999 t).toD,none],[],dS ns i1 (y % 9973) W (cc % 2) [] c1⟩:=by
    rw [e2]
    rw [e1] at ht
    exact (bA false (aX 0 (hy) (aX 0 (hw) (aX 4 (ai g) (aX 0 (hkk) (aX 0 (ht) (aX 3 (aT g2) (aX 3 (y4 (.str w) (.int t.pl) (.int 9999) l hl) aZ))))))) (by kernel_rfl))
   obtain ⟨t',pg,h2⟩:=oP hW (sB (q:=9999) (by unfold Sm;omega) mk.1) (some (.lst (ns.map .int))) ns i1 (y % 9973) c1 cc
   exact ⟨t',_,pg,bZ 3 aU rfl rfl hd h2⟩
  ·have hd:exS Γ (aa Γ 248) (az Γ 248) (hdS 3 aU.body) ⟨[some (.lst (ns.map .int)),some (.int cc),none,none,none],[],[]⟩ = .nx ⟨[some (.lst (ns.map .int)),some (.int cc),some (.ref 0),some t.toD,none],[],dS ns i1 (y % 9973) W (cc % 2) [] c1⟩:=(bA false (aX 0 (hy) (aX 0 (hw) (aX 4 (ai g) (aX 0 (hkk) (aX 0 (ht) (aX 3 (ai g2) aZ)))))) (by kernel_rfl))
   obtain ⟨t',pg,h2⟩:=oP hW mk.1 (some (.lst (ns.map .int))) ns i1 (y % 9973) c1 cc
   exact ⟨t',_,pg,bZ 3 aU rfl rfl hd h2⟩
def lwB:S:=match tlS 6 iP.body with | .seq (.for_ _ _ _ b) _=>b | s=>s
def lwE (a:D) (t:T68) (kd wd:Al) (rs:List Rw) (m:Nat) (e8:Option D):List (Option D):=[some a,some t.toD,some .non,some (.int 3),some (dA kd),some (dA wd),some (.lst (rs.map bE)),some (.int ((m:Nat):Int)),e8,none]
theorem jL (a:D) (t:T68) (kd wd:Al) (h4:∀ p∈kd,p.2.dep≤4) (w4:∀ p∈wd,p.2.dep≤4) (S:List O):∀ (ps:List Int) (acc:List Rw) (mo:Nat) (e8:Option D),(∀ p∈ps,(aq kd (.inl p)).isSome=true∧(aq wd (.inl p)).isSome=true)→acc.length+ps.length<100000→∃ e8':Option D,aI (c8 Γ (aa Γ 249) (az Γ 249) [8] true lwB) (dsI ps) ⟨lwE a t kd wd acc mo e8,[6],S⟩ = .nx ⟨lwE a t kd wd (acc ++ aB kd wd ps) (most mo (aB kd wd ps)) e8',[6],S⟩
 | [],acc,mo,e8,_,_=>⟨e8,by simp [aI,dsI,aB,most]⟩
 | p :: ps,acc,mo,e8,hp,hl=>by
   simp only [List.length_cons] at hl
   obtain ⟨hk,hw⟩:=hp p (by simp)
   obtain ⟨k,hk⟩:=Option.isSome_iff_exists.mp hk
   obtain ⟨w,hw⟩:=Option.isSome_iff_exists.mp hw
   have i1:ixD (dA kd) (.int p)=some k.toD:=by
    show bG (ksA kd) (dsA kd) (.inl p)=_
    rw [iS,hk];rfl
   have i2:ixD (dA wd) (.int p)=some w.toD:=by
    show bG (ksA wd) (dsA wd) (.inl p)=_
    rw [iS,hw];rfl
   obtain ⟨q1,m1,f1⟩:=b8 hk
   obtain ⟨q2,m2,f2⟩:=b8 hw
   have k4:k.dep≤4:=by have:=h4 q1 m1;rw [f1] at this;exact this
   have wd4:w.dep≤4:=by have:=w4 q2 m2;rw [f2] at this;exact this
   have ne:opD .ne (look S k.toD) (look S w.toD)=some (.bl (!decide (k=w))):=by
    rw [dF,dF]
    show (Ev.eqT _ _).map (fun x=>D.bl (!x))=_
    rw [jn (by cases k <;> rfl),dh 55 _ (by omega)];rfl
   have la:cY kd wd p=if k=w then none else some (k,w):=by unfold cY;rw [hk,hw]
   have hp':∀ q∈ps,(aq kd (.inl q)).isSome=true∧(aq wd (.inl q)).isSome=true:=fun q hq=>hp q (by simp [hq])
   by_cases c:k=w
   ·rw [decide_eq_true c] at ne
    rw [if_pos c] at la
    obtain ⟨e8',h⟩:=jL a t kd wd h4 w4 S ps acc mo (some (.int p)) hp' (by omega)
    have e:aB kd wd (p :: ps)=aB kd wd ps:=by show (match cY kd wd p with | some v=>[(p,v)] | none=>[]) ++ _=_;rw [la];rfl
    rw [e]
    refine ⟨e8',aA (s1:=⟨lwE a t kd wd acc mo (some (.int p)),[6],S⟩) (aD rfl ?_) h⟩
    exact (bA false (aX 0 (i1) (aX 0 (i2) (aX 0 (ne) aZ))) (by kernel_rfl))
   ·rw [decide_eq_false c] at ne
    rw [if_neg c] at la
    have d1:=dY k 249 (by omega) S
    have d2:=dY w 249 (by omega) S
    have m3:=rZ mo k.dep w.dep
    have le:decide ((acc.map bE).length<100000)=true:=decide_eq_true (by rw [List.length_map];omega)
    obtain ⟨e8',h⟩:=jL a t kd wd h4 w4 S ps (acc ++ [(p,k,w)]) (max mo (max k.dep w.dep)) (some (.int p)) hp' (by rw [List.length_append,List.length_singleton];omega)
    have e:aB kd wd (p :: ps)=(p,k,w) :: aB kd wd ps:=by show (match cY kd wd p with | some v=>[(p,v)] | none=>[]) ++ _=_;rw [la];rfl
    rw [e]
    have e2:acc ++ (p,k,w) :: aB kd wd ps=acc ++ [(p,k,w)] ++ aB kd wd ps:=by simp
    rw [e2]
    refine ⟨e8',aA (s1:=⟨lwE a t kd wd (acc ++ [(p,k,w)]) (max mo (max k.dep w.dep)) (some (.int p)),[6],S⟩) (aD rfl ?_) h⟩
    have e3:(acc ++ [(p,k,w)]).map bE=acc.map bE ++ [.tup [.int p,k.toD,w.toD]]:=by rw [List.map_append];rfl
    unfold lwE
    rw [e3]
    exact (bA false (aX 0 (i1) (aX 0 (i2) (aX 0 (ne) (aX 1 (i1) (aX 0 (i2) (aX 0 (le) (aX 0 (i1) (aX 0 (d1) (aX 0 (i2) (aX 0 (d2) (aX 0 (m3) aZ))))))))))) (by kernel_rfl))
theorem uZ (rs:List Rw) (h:∀ r∈rs,r.2.1.dep≤4∧r.2.2.dep≤4):opD .ne (.lst (rs.map bE)) (.lst (rs.map bE))=some (.bl false):=by
 have:=mZ rs h
 have e:(Ev.eqT (.lst (dW rs)) (.lst (dW rs))).map D.bl=some (.bl true):=this
 obtain ⟨b,hb,eb⟩:=Option.map_eq_some_iff.mp e
 cases eb
 show (Ev.eqT (.lst (dW rs)) (.lst (dW rs))).map (fun x=>D.bl (!x))=_
 rw [hb];rfl
theorem yg (a:Int):opD .ne (.int a) (.int a)=some (.bl false):=by
 show some (D.bl (!(a == a)))=_
 rw [beq_self_eq_true];rfl
theorem rC {t:D} (e:Er) (h4:Er4 e) (nt:ay [t]=true) (lk:∀ m,200≤m→∃ st,aa Γ m aP [t] [] = .exc e.cls e.ds st) (a:D) (S:List O):toR (exS Γ (aa Γ 249) (az Γ 249) (tlS 0 iP.body) ⟨[some a,some t,none,none,none,none,none,none,none,none],[],S⟩) = .ok (.bl true) S:=by
 obtain ⟨r0,r1,r2,r3⟩:=yx nt e lk S
 have ne:=Au e h4
 cases e with
 | name p=>exact (aF false (aX 0 (r0) (aX 0 (r1) (aX 0 (ne) (aX 0 (r2) (aX 0 (ne) (aX 0 (r3) (aX 0 (ne) aZ))))))) (by kernel_rfl))
 | deep p=>exact (aF false (aX 0 (r0) (aX 0 (r1) (aX 0 (ne) (aX 0 (r2) (aX 0 (ne) (aX 0 (r3) (aX 0 (ne) aZ))))))) (by kernel_rfl))
 | parted p k b w way=>exact (aF false (aX 0 (r0) (aX 0 (r1) (aX 0 (ne) (aX 0 (r2) (aX 0 (ne) (aX 0 (r3) (aX 0 (ne) aZ))))))) (by kernel_rfl))
theorem rD {t:T68} (pg:Pg t) (a:D) (S:List O):∃ st':List O,toR (exS Γ (aa Γ 249) (az Γ 249) (tlS 0 iP.body) ⟨[some a,some t.toD,none,none,none,none,none,none,none,none],[],S⟩) = .ok (.bl true) st':=by
 rcases pg with ⟨W,o⟩ | ⟨nt,bd⟩
 ·have nt:=yF o
  cases q:aS 8 t with
  | error e=>exact ⟨S,rC e (pL q) nt (fun m hm=>by have lk:=cF 8 m t o (by decide) (by omega);rw [q] at lk;exact lk) a S⟩
  | ok v=>
    obtain ⟨kd,wd⟩:=v
    obtain ⟨r0,r1,r2,r3⟩:=yy o q S
    have lk:=cF 8 249 t o (by decide) (by decide)
    rw [q] at lk
    have lk:aa Γ 249 aP [t.toD] [] = .ok (.tup [.ref 1,.ref 2]) (ls kd wd):=lk
    have fz:=qL (kd:=kd) (wd:=wd)
    have pl:=nQ 8 249 t [] S (by decide) (by decide) o
    obtain ⟨h4,w4,hp⟩:=cP q
    have len:=cz 8 [] t o
    have n8:=(nb8 (n:=8) (by decide)).1
    obtain ⟨e8,lp⟩:=jL a t kd wd h4 w4 S (ar 8 t) [] 0 none hp (by simp only [List.length_nil];omega)
    have l2:=pM 8 249 t o (by decide) (by decide) q
    have de:=gj 8 249 t o (by decide) (by decide) q
    have re:=lw 8 249 t o (by decide) (by decide) q
    have rd:=hH h4 w4 (ar 8 t)
    have fw:=lx (kd:=kd) (wd:=wd) 8 t o (by decide)
    have ns2:=jU (L:=Lof [] (aB kd wd (ar 8 t))) 8 16 t [] (by decide) o
    have mt:=nY (L:=Lof [] (aB kd wd (ar 8 t))) kd wd 8 16 t [] (by decide) o (fun p hp=>by
     rw [jb kd wd p (ar 8 t) []]
     by_cases c:(cY kd wd p).isSome=true
     ·rw [if_pos ⟨hp,c⟩]
     ·rw [if_neg (fun z=>c z.2)]
      cases h:cY kd wd p with
      | none=>rfl
      | some v=>rw [h] at c;exact absurd rfl c)
    have me:=se 16 249 (cu (Lof [] (aB kd wd (ar 8 t))) 8 t) S (by decide) ns2 (by rw [mt];omega)
    rw [mt] at me
    have rnr:noR (cu (Lof [] (aB kd wd (ar 8 t))) 8 t).toD=true:=T68.nr 16 _ ns2
    generalize cu (Lof [] (aB kd wd (ar 8 t))) 8 t=R at *
    have lp:aI (c8 Γ (aa Γ 249) (az Γ 249) [8] true lwB) (dsI (ar 8 t)) ⟨[some a,some t.toD,some .non,some (.int 3),some (dA kd),some (dA wd),some (.lst []),some (.int 0),none,none],[6],S⟩ = .nx ⟨[some a,some t.toD,some .non,some (.int 3),some (dA kd),some (dA wd),some (.lst ((aB kd wd (ar 8 t)).map bE)),some (.int ((most 0 (aB kd wd (ar 8 t)):Nat):Int)),e8,none],[6],S⟩:=lp
    generalize dsI (ar 8 t)=ps at *
    generalize aB kd wd (ar 8 t)=rs at *
    have fr:=qM (kd:=kd) (wd:=wd) rs
    have ne:=uZ rs rd
    have eq:opD .eq (.lst (rs.map bE)) (.lst (rs.map bE))=some (.bl true):=mZ rs rd
    have ni:=yg ((most 0 rs:Nat):Int)
    have me:aa Γ 249 aM [R.toD] S = .ok (.lst (rs.map bE)) S:=me
    have le:decide ((rs.map bE).length<100000)=true:=decide_eq_true (by rw [List.length_map];omega)
    have ways:aI (c8 Γ (aa Γ 249) (az Γ 249) [3] true (cG iP.body)) [.int 1,.int 2,.int 3] ⟨[some a,some t.toD,some .non,none,none,none,none,none,none,none],[],S⟩ = .nx ⟨[some a,some t.toD,some .non,some (.int 3),none,none,none,none,none,none],[],S⟩:=aA (s1:=⟨[some a,some t.toD,some .non,some (.int 1),none,none,none,none,none,none],[],S⟩) (aD rfl (bA false (aX 0 (r1) aZ) (by kernel_rfl))) (aA (s1:=⟨[some a,some t.toD,some .non,some (.int 2),none,none,none,none,none,none],[],S⟩) (aD rfl (bA false (aX 0 (r2) aZ) (by kernel_rfl))) (aA (s1:=⟨[some a,some t.toD,some .non,some (.int 3),none,none,none,none,none,none],[],S⟩) (aD rfl (bA false (aX 0 (r3) aZ) (by kernel_rfl))) rfl))
    exact ⟨S,(aF true (aX 0 (r0) (aX 0 (ways) (aX 1 (nt) (aX 0 (lk) (aX 1 (fz) (aX 0 (pl) (aX 0 (lp) (aX 0 (nt) (aX 0 (l2) (aX 1 (fr) (aX 3 (ne) (aX 1 (nt) (aX 0 (de) (aX 1 (ni) (aX 1 (nt) (aX 0 (re) (aX 0 (rnr) (aX 0 (me) (aX 0 (ne) (aX 1 (le) (aX 0 (nt) (aX 0 (l2) (aX 1 (fr) (aX 0 (eq) aZ)))))))))))))))))))))))) (by kernel_rfl))⟩
 ·exact ⟨S,rC (.name 9990) trivial nt bd a S⟩
theorem xl (ns:List Int):∃ st':List O,aa Γ 250 zO [.lst (ns.map .int)] [] = .ok (.bl true) st':=by
 obtain ⟨x,hx⟩:=mV ns 0 248 []
 have mx:=iZ (i:=x) (j:=6364136223846793005) (by decide)
 generalize hc:x * 6364136223846793005 % 1000000000039=cc at *
 obtain ⟨t,S,pg,hp⟩:=u8 ns cc
 have hd:exS Γ (aa Γ 249) (az Γ 249) (hdS 0 iP.body) ⟨[some (.lst (ns.map .int)),none,none,none,none,none,none,none,none,none],[],[]⟩ = .nx ⟨[some (.lst (ns.map .int)),some t.toD,none,none,none,none,none,none,none,none],[],S⟩:=(bA false (aX 0 (hx) (aX 0 (mx) (aX 0 (eh hc (by decide)) (aX 0 (hp) aZ)))) (by kernel_rfl))
 obtain ⟨st',h2⟩:=rD pg (.lst (ns.map .int)) S
 exact ⟨st',bZ 0 iP rfl rfl hd h2⟩
def jd (K:Fg):Prop:=∃ C:Addr,wD K "BlameError" C∧NaL K C []
def qh (K:Fg):Prop:=∃ C:Addr,wD K "NoPart" C∧NaL K C []
def qg (K:Fg):Prop:=∃ C fI:Addr,tE K "NoName" "NoName.__init__" (b9 (top 3) 0) veB "ValueError.__new__" C fI∧NaL K C ["place"]
def o6 (K:Fg):Prop:=∃ C fI:Addr,tE K "TooDeep" "TooDeep.__init__" (b9 (top 4) 0) veB "ValueError.__new__" C fI∧NaL K C ["place"]
def qk (K:Fg):Prop:=∃ C fI:Addr,tE K "Parted" "Parted.__init__" (b9 (top 5) 0) veB "ValueError.__new__" C fI∧NaL K C ["place","kind","by","wanted","way"]
def qe (K:Fg):Prop:=∃ C f0 f1 f2 f3 f4:Addr,yU K "Looker" C∧NaL K C ["kinds","wanted"]∧oX K C "__init__" "Looker.__init__" (b9 (top 39) 0) f0∧oX K C "look" "Looker.look" (b9 (top 39) 1) f1∧oX K C "hold" "Looker.hold" (b9 (top 39) 2) f2∧oX K C "hold_choice" "Looker.hold_choice" (b9 (top 39) 3) f3∧oX K C "want" "Looker.want" (b9 (top 39) 4) f4
def mrl:List (Str×Str×Bool):=[("BlameError","Parted",false),("NoPart","Parted",false),("NoName","Parted",false),("TooDeep","Parted",false),("Parted","Parted",true),("BlameError","TooDeep",false),("NoPart","TooDeep",false),("NoName","TooDeep",false),("TooDeep","TooDeep",true),("Parted","TooDeep",false),("BlameError","NoName",false),("NoPart","NoName",false),("NoName","NoName",true),("TooDeep","NoName",false),("Parted","NoName",false)]
structure Txt (K:Fg):Prop where
 fn:fY K fnl
 gl:GlL K gll
 tl:lV K tbl
 bl:NoL K T.bl
 mr:MrL K mrl
 bi_BlameError:∃ B,PySem.W.nsIn K mainGlobals "BlameError" = some (some (.ref B))∧ka K B
 x_BlameError:jd K
 x_NoPart:qh K
 x_NoName:qg K
 x_TooDeep:o6 K
 x_Parted:qk K
 x_Looker:qe K
theorem tx:((((fnl.map fun p=>(p.1,p.1,p.2)) ++ mel).zip vrl).all fun p=>fnC p.1.2.2 && (gc { T with mu:=p.2.1,alt:=p.2.2.1,fc:=p.2.2.2.1,oc:=p.2.2.2.2 } p.1.2.2).isSome)=true:=by kernel_rfl
theorem wE {P:Program} {w:World} {K:Fg} {h:Heap} {mg:Str→Option Value} {fa:Addr} {os:OsState} (Y:K.In h) (G:h.Ns mainGlobals mg) (hfa:mg "law" = some (.ref fa)) (T':Txt K) :
 ∃ X:Cx,X.W.P=P∧X.W.w=w∧X.K=K∧X.mg=mg∧X.base=h∧X.os=os∧X.calm=true∧bJ X (aa Γ 250) 252 47 fa:=by
 obtain ⟨ad,hF,hG⟩:=T'.fn.ad Y G
 obtain ⟨C_BlameError,BL,na_BlameError⟩:=T'.x_BlameError
 obtain ⟨C_NoPart,BM,na_NoPart⟩:=T'.x_NoPart
 obtain ⟨C_NoName,fi_NoName,BJ,na_NoName⟩:=T'.x_NoName
 obtain ⟨BR,Fi_NoName⟩:=BJ.ini
 obtain ⟨C_TooDeep,fi_TooDeep,BI,na_TooDeep⟩:=T'.x_TooDeep
 obtain ⟨BQ,Fi_TooDeep⟩:=BI.ini
 obtain ⟨C_Parted,fi_Parted,BK,na_Parted⟩:=T'.x_Parted
 obtain ⟨BS,Fi_Parted⟩:=BK.ini
 obtain ⟨C_Looker,a_Looker___init__,a_Looker_look,a_Looker_hold,a_Looker_hold_choice,a_Looker_want,BO,na_Looker,⟨⟨fd_Looker___init__,F_Looker___init__⟩,M_Looker___init__⟩,⟨⟨fd_Looker_look,F_Looker_look⟩,M_Looker_look⟩,⟨⟨fd_Looker_hold,F_Looker_hold⟩,M_Looker_hold⟩,⟨⟨fd_Looker_hold_choice,F_Looker_hold_choice⟩,M_Looker_hold_choice⟩,⟨⟨fd_Looker_want,F_Looker_want⟩,M_Looker_want⟩⟩:=T'.x_Looker
 let X:Cx:=⟨⟨P,w,[⟨C_BlameError,[]⟩,⟨C_NoPart,[]⟩,⟨C_NoName,["place"]⟩,⟨C_TooDeep,["place"]⟩,⟨C_Parted,["place","kind","by","wanted","way"]⟩,⟨C_Looker,["kinds","wanted"]⟩],[2,2,2,2,2,0]⟩,K,mg,h,os,Γ,fun _ _ _=>.bad,fun _ _ _=>.bad,callerA,[],[],envOfC "" (au (top 0)) 0 0 .none,true⟩
 have hB_BlameError:∀ (b:Str) (c:List Nat),some (("BlameError":Str),c)=some (b,c)→∃ B,mg b=some (.ref B)∧ka K B:=fun b c e=>by cases e;obtain ⟨B,h1,h2⟩:=T'.bi_BlameError;exact ⟨B,PySem.W.mg_of Y G h1,h2⟩
 have hM:FsL K mel [a_Looker___init__,a_Looker_look,a_Looker_hold,a_Looker_hold_choice,a_Looker_want]:=⟨⟨_,F_Looker___init__⟩,⟨_,F_Looker_look⟩,⟨_,F_Looker_hold⟩,⟨_,F_Looker_hold_choice⟩,⟨_,F_Looker_want⟩,trivial⟩
 have BP:dK X T.an 0 ⟨2,[],0,[],[],[]⟩ ⟨C_BlameError,[]⟩:=⟨rfl,(fun z=>absurd rfl z),na_BlameError.at,rfl,(show ([]:List Str)=List.map T.an [] by decide +kernel),(show ([]:List Str).Nodup by decide +kernel),fun _=>⟨BL.fd,BL.hh⟩⟩
 have BV:dK X T.an 1 ⟨2,[],0,[],[0],[]⟩ ⟨C_NoPart,[]⟩:=⟨rfl,(fun z=>absurd rfl z),na_NoPart.at,rfl,(show ([]:List Str)=List.map T.an [] by decide +kernel),(show ([]:List Str).Nodup by decide +kernel),fun _=>⟨BM.fd,BM.hh⟩⟩
 have BU:dK X T.an 2 ⟨2,[0],0,[],[0],[0]⟩ ⟨C_NoName,["place"]⟩:=⟨rfl,(fun z=>absurd rfl z),na_NoName.at,rfl,(show (["place"]:List Str)=List.map T.an [0] by decide +kernel),(show (["place"]:List Str).Nodup by decide +kernel),fun _=>⟨BJ.fd,BJ.hh⟩⟩
 have BT:dK X T.an 3 ⟨2,[0],0,[],[0],[0]⟩ ⟨C_TooDeep,["place"]⟩:=⟨rfl,(fun z=>absurd rfl z),na_TooDeep.at,rfl,(show (["place"]:List Str)=List.map T.an [0] by decide +kernel),(show (["place"]:List Str).Nodup by decide +kernel),fun _=>⟨BI.fd,BI.hh⟩⟩
 have BW:dK X T.an 4 ⟨2,[0,1,2,3,4],0,[],[0],[0,2]⟩ ⟨C_Parted,["place","kind","by","wanted","way"]⟩:=⟨rfl,(fun z=>absurd rfl z),na_Parted.at,rfl,(show (["place","kind","by","wanted","way"]:List Str)=List.map T.an [0,1,2,3,4] by decide +kernel),(show (["place","kind","by","wanted","way"]:List Str).Nodup by decide +kernel),fun _=>⟨BK.fd,BK.hh⟩⟩
 have BN:dK X T.an 5 ⟨0,[5,3],49,[],[],[]⟩ ⟨C_Looker,["kinds","wanted"]⟩:=⟨rfl,fun _=>BO.cls,na_Looker.at,rfl,(show (["kinds","wanted"]:List Str)=List.map T.an [5,3] by decide +kernel),(show (["kinds","wanted"]:List Str).Nodup by decide +kernel),fun z=>absurd z (by decide)⟩
 have Pg:tD T X (ad ++ [a_Looker___init__,a_Looker_look,a_Looker_hold,a_Looker_hold_choice,a_Looker_want]) 1:=by
  refine ⟨rfl,fun j f e=>wV rfl rfl tx (hF.app hM) e,fun j x e=>?_,fun j x e=>?_,fun j x e=>?_,fun x e=>PySem.W.mg_none_of Y G (T'.bl.at x e),fun c k e=>?_,fun q e=>?_,fun j x e hz=>?_,fun j x e hz=>?_,fun j x e hz=>?_,fun j x e hz=>?_,fun j x e hz=>?_⟩
  ·obtain ⟨f,h1,h2⟩:=ql hG e
   exact ⟨f,List.getElem?_append_left (List.getElem?_eq_some_iff.mp h1).1 ▸ h1,h2⟩
  ·obtain ⟨d,u,h1,h2,h3⟩:=T'.gl.at e
   exact ⟨d,u,h1,PySem.W.mg_of Y G h2,h3⟩
  ·obtain ⟨t,a,h1,h2,h3⟩:=T'.tl.at e
   exact ⟨t,a,h1,PySem.W.mg_of Y G h2,h3⟩
  ·exact dN (P:=fun (c:Nat) (k:Cl)=>∃ i,dK X T.an c k i) (show eO _ 0 Γ.cl from ⟨⟨_,BP⟩,⟨_,BV⟩,⟨_,BU⟩,⟨_,BT⟩,⟨_,BW⟩,⟨_,BN⟩,trivial⟩) e
  ·obtain ⟨i,e⟩:=List.mem_iff_getElem?.mp e
   exact dN (P:=fun (_:Nat) (q:Str×Nat×Nat)=>∃ f,(ad ++ [a_Looker___init__,a_Looker_look,a_Looker_hold,a_Looker_hold_choice,a_Looker_want])[q.2.2]? = some f∧oY X T.an q.1 q.2.1 f) (show eO _ 0 T.me from ⟨⟨a_Looker_look,fZ (n:=49) (k:=1) hF.len,⟨_,_,rfl,BN,rfl,M_Looker_look,(show ("look":Str) ∉ (["kinds","wanted"]:List Str) by decide +kernel)⟩⟩,⟨a_Looker_hold,fZ (n:=49) (k:=2) hF.len,⟨_,_,rfl,BN,rfl,M_Looker_hold,(show ("hold":Str) ∉ (["kinds","wanted"]:List Str) by decide +kernel)⟩⟩,⟨a_Looker_hold_choice,fZ (n:=49) (k:=3) hF.len,⟨_,_,rfl,BN,rfl,M_Looker_hold_choice,(show ("hold_choice":Str) ∉ (["kinds","wanted"]:List Str) by decide +kernel)⟩⟩,⟨a_Looker_want,fZ (n:=49) (k:=4) hF.len,⟨_,_,rfl,BN,rfl,M_Looker_want,(show ("want":Str) ∉ (["kinds","wanted"]:List Str) by decide +kernel)⟩⟩,trivial⟩) e
  ·exact dN (P:=fun (j:Nat) (x:Str)=>x≠("":Str)→∃ f i cl,(ad ++ [a_Looker___init__,a_Looker_look,a_Looker_hold,a_Looker_hold_choice,a_Looker_want])[cl.init]? = some f∧Mk K i.ad f∧Γ.cl[j]? = some cl∧cl.what=0∧X.W.ci[j]? = some i∧X.W.what[j]? = some 0∧mg x=some (.ref i.ad)) (show eO _ 0 T.nw from ⟨(fun z=>absurd rfl z),(fun z=>absurd rfl z),(fun z=>absurd rfl z),(fun z=>absurd rfl z),(fun z=>absurd rfl z),(fun _=>⟨a_Looker___init__,⟨C_Looker,_⟩,_,fZ (n:=49) (k:=0) hF.len,⟨BO.mks,M_Looker___init__.at_,M_Looker___init__.fn,BO.kp⟩,rfl,rfl,rfl,rfl,PySem.W.mg_of Y G BO.a⟩),trivial⟩) e hz
  ·exact dN (P:=fun (j:Nat) (x:Str)=>x≠("":Str)→∃ f fd ps i cl,FnI X 1 f fd ps i.nm none∧b6 K fd ps []∧Mk K i.ad f∧Cls K i.ad∧(∀ f∈i.nm,cZ K i.ad f)∧Γ.cl[j]? = some cl∧X.W.ci[j]? = some i∧X.W.what[j]? = some 1∧i.nm.length=cl.at_.length∧mg x=some (.ref i.ad)) (show eO _ 0 T.nd from ⟨(fun z=>absurd rfl z),(fun z=>absurd rfl z),(fun z=>absurd rfl z),(fun z=>absurd rfl z),(fun z=>absurd rfl z),(fun z=>absurd rfl z),trivial⟩) e hz
  ·exact dN (P:=fun (j:Nat) (x:Str)=>x≠("":Str)→∃ (k:Cl) (i:CI) (fI:Addr) (fd:FuncData) (ps:List Str) (Bx nwI iniI:String) (bmB:List Value),ExcBaseFacts Bx nwI iniI bmB∧ie K i.ad fI bmB nwI∧FnJ X 1 fI fd ps i.nm k i.ad∧b6 K fd ps []∧fX K i.ad∧(∀ f∈i.nm,PySem.W.findIn K (.ref i.ad) f=some none)∧Γ.cl[j]? = some k∧X.W.ci[j]? = some i∧X.W.what[j]? = some 2∧i.nm.length=k.at_.length∧PySem.W.mroIn K i.ad (.type "BaseException")=some true∧PySem.W.typeIn K (.ref i.ad)=some (.type "type")∧PySem.W.keepIn K (.ref i.ad)=true∧mg x=some (.ref i.ad)∧k.at_.isEmpty=false) (show eO _ 0 T.ex from ⟨(fun z=>absurd rfl z),(fun z=>absurd rfl z),(fun _=>⟨_,⟨C_NoName,_⟩,fi_NoName,BR,_,_,_,_,_,PySem.F.excBase_ValueError,BJ.own,⟨_,(eR (X:=X) (nm:=["place"]) (some ("BlameError",[0])) Fi_NoName (by kernel_rfl) fun b c e=>hB_BlameError b c (by cases e;rfl)).1,.inr ⟨rfl,BJ.own⟩⟩,(eR (X:=X) (nm:=["place"]) (some ("BlameError",[0])) Fi_NoName (by kernel_rfl) fun b c e=>hB_BlameError b c (by cases e;rfl)).2,BJ.st,na_NoName.at,rfl,rfl,rfl,rfl,BJ.fd.be,BJ.ec.ty,BJ.kp,PySem.W.mg_of Y G BJ.a,rfl⟩),(fun _=>⟨_,⟨C_TooDeep,_⟩,fi_TooDeep,BQ,_,_,_,_,_,PySem.F.excBase_ValueError,BI.own,⟨_,(eR (X:=X) (nm:=["place"]) (some ("BlameError",[0])) Fi_TooDeep (by kernel_rfl) fun b c e=>hB_BlameError b c (by cases e;rfl)).1,.inr ⟨rfl,BI.own⟩⟩,(eR (X:=X) (nm:=["place"]) (some ("BlameError",[0])) Fi_TooDeep (by kernel_rfl) fun b c e=>hB_BlameError b c (by cases e;rfl)).2,BI.st,na_TooDeep.at,rfl,rfl,rfl,rfl,BI.fd.be,BI.ec.ty,BI.kp,PySem.W.mg_of Y G BI.a,rfl⟩),(fun _=>⟨_,⟨C_Parted,_⟩,fi_Parted,BS,_,_,_,_,_,PySem.F.excBase_ValueError,BK.own,⟨_,(eR (X:=X) (nm:=["place","kind","by","wanted","way"]) (some ("BlameError",[0,2])) Fi_Parted (by kernel_rfl) fun b c e=>hB_BlameError b c (by cases e;rfl)).1,.inr ⟨rfl,BK.own⟩⟩,(eR (X:=X) (nm:=["place","kind","by","wanted","way"]) (some ("BlameError",[0,2])) Fi_Parted (by kernel_rfl) fun b c e=>hB_BlameError b c (by cases e;rfl)).2,BK.st,na_Parted.at,rfl,rfl,rfl,rfl,BK.fd.be,BK.ec.ty,BK.kp,PySem.W.mg_of Y G BK.a,rfl⟩),(fun z=>absurd rfl z),trivial⟩) e hz
  ·exact dN (P:=fun (j:Nat) (x:Str)=>x≠("":Str)→p9 X j x) (show eO _ 0 T.hx from ⟨(fun z=>absurd rfl z),(fun z=>absurd rfl z),(fun _=>⟨⟨C_NoName,_⟩,rfl,PySem.W.mg_of Y G BJ.a,BJ.ec,fun c k ic h1 h2 h3=>dN (P:=fun (c:Nat) (k:Cl)=>∀ ic,X.W.ci[c]? = some ic→X.W.what[c]? = some 2→PySem.W.mroIn K ic.ad (.ref C_NoName)=some (c == 2 || k.sup.contains 2)) (show eO _ 0 Γ.cl from ⟨(fun _ e _=>by cases e;exact T'.mr.at (by decide +kernel) BL.a BJ.a),(fun _ e _=>by cases e;exact T'.mr.at (by decide +kernel) BM.a BJ.a),(fun _ e _=>by cases e;exact T'.mr.at (by decide +kernel) BJ.a BJ.a),(fun _ e _=>by cases e;exact T'.mr.at (by decide +kernel) BI.a BJ.a),(fun _ e _=>by cases e;exact T'.mr.at (by decide +kernel) BK.a BJ.a),(fun _ _ z=>absurd z (by show some 0≠some 2;decide)),trivial⟩) h1 ic h2 h3⟩),(fun _=>⟨⟨C_TooDeep,_⟩,rfl,PySem.W.mg_of Y G BI.a,BI.ec,fun c k ic h1 h2 h3=>dN (P:=fun (c:Nat) (k:Cl)=>∀ ic,X.W.ci[c]? = some ic→X.W.what[c]? = some 2→PySem.W.mroIn K ic.ad (.ref C_TooDeep)=some (c == 3 || k.sup.contains 3)) (show eO _ 0 Γ.cl from ⟨(fun _ e _=>by cases e;exact T'.mr.at (by decide +kernel) BL.a BI.a),(fun _ e _=>by cases e;exact T'.mr.at (by decide +kernel) BM.a BI.a),(fun _ e _=>by cases e;exact T'.mr.at (by decide +kernel) BJ.a BI.a),(fun _ e _=>by cases e;exact T'.mr.at (by decide +kernel) BI.a BI.a),(fun _ e _=>by cases e;exact T'.mr.at (by decide +kernel) BK.a BI.a),(fun _ _ z=>absurd z (by show some 0≠some 2;decide)),trivial⟩) h1 ic h2 h3⟩),(fun _=>⟨⟨C_Parted,_⟩,rfl,PySem.W.mg_of Y G BK.a,BK.ec,fun c k ic h1 h2 h3=>dN (P:=fun (c:Nat) (k:Cl)=>∀ ic,X.W.ci[c]? = some ic→X.W.what[c]? = some 2→PySem.W.mroIn K ic.ad (.ref C_Parted)=some (c == 4 || k.sup.contains 4)) (show eO _ 0 Γ.cl from ⟨(fun _ e _=>by cases e;exact T'.mr.at (by decide +kernel) BL.a BK.a),(fun _ e _=>by cases e;exact T'.mr.at (by decide +kernel) BM.a BK.a),(fun _ e _=>by cases e;exact T'.mr.at (by decide +kernel) BJ.a BK.a),(fun _ e _=>by cases e;exact T'.mr.at (by decide +kernel) BI.a BK.a),(fun _ e _=>by cases e;exact T'.mr.at (by decide +kernel) BK.a BK.a),(fun _ _ z=>absurd z (by show some 0≠some 2;decide)),trivial⟩) h1 ic h2 h3⟩),(fun z=>absurd rfl z),trivial⟩) e hz
  ·exact dN (P:=fun (j:Nat) (x:Str)=>x≠("":Str)→RtP X j x) (show eO _ 0 T.xt from ⟨(fun z=>absurd rfl z),(fun z=>absurd rfl z),(fun z=>absurd rfl z),(fun z=>absurd rfl z),(fun z=>absurd rfl z),(fun z=>absurd rfl z),trivial⟩) e hz
 obtain ⟨f,h1,h2⟩:=ql hG (j:=47) (x:="law") rfl
 rw [hfa] at h2
 cases h2
 exact ⟨X,rfl,rfl,rfl,rfl,rfl,rfl,rfl,jX Pg 250 47 fa (List.getElem?_append_left (List.getElem?_eq_some_iff.mp h1).1 ▸ h1)⟩
theorem walk {l:PySem.W.OpenLaw} {q:Program} {loose:List Str} {XP:(Str→Option Value)→Heap→Prop} {YP:World→Heap→Prop} {d:DefRec} {K:Params→Fg} (hn:l.most=some 63) (hdf:d.params.defaults = []) (hd:d.name = "law")
 (hY:∀ (w:World) (h:Heap),YP w h→(K w.params).In h) (F:∀ (w:World) (h:Heap) (Y:(K w.params).In h),Txt (KOf Y)):PySem.W.WalkO q loose XP YP l.row.toRowW d [] (fun f vs=>PySem.call f vs):=
 vA (n:=63) hn (by decide) hdf ⟨rfl,by decide,by decide⟩ hY (fun w mg fa h os Y G e md=>wE Y G (hd ▸ e) (F w h Y)) (fun ns _=>xl ns)
end L2.K41
end
section
open PySem PySem.W PyProof.Rows
namespace PySem.W.Fast
def tw12192647654285195134:Nat:=0
def tw2083310190258776747:Nat:=0
def tw12199047539057011110:Nat:=0
def tw5467767995817487648:Nat:=0
def tw9252538241502101468:Nat:=0
def tw13589029215009581606:Nat:=0
def tw1898338981243009634:Nat:=0
def tw5167787155960021018:Nat:=0
def tw5960594972789721967:Nat:=0
def tw8422535320323266150:Nat:=0
def tw2617126999525397009:Nat:=0
def tw3465521553206084752:Nat:=0
def tw17472743000592201776:Nat:=0
def tw18314339099709117532:Nat:=0
def tw5642022261728829237:Nat:=0
def tw1442535469196067185:Nat:=0
def tw323353564081408191:Nat:=0
def tw993195793164555725:Nat:=0
def tw13908395532079628469:Nat:=0
def tw2068972873763403120:Nat:=0
def tw7821331978598987080:Nat:=0
def tw7505559693023393182:Nat:=0
def tw9056099652341895068:Nat:=0
def tw6994271802953106982:Nat:=0
def tw5709158764288323427:Nat:=0
def tw8098807893542619435:Nat:=0
def tw3847188329942715646:Nat:=0
def tw3245127776565763195:Nat:=0
def tw12354279481591677263:Nat:=0
def tw16206692366271616541:Nat:=0
def tw6296586148785316192:Nat:=0
def tw1116995741436814734:Nat:=0
def tw559620243759553166:Nat:=0
def tw17305294716094535190:Nat:=0
def tw9478103923202082389:Nat:=0
def tw10889322051974528575:Nat:=0
def tw2645816465805385048:Nat:=0
def tw2125529447933184988:Nat:=0
def tw14538210864141904518:Nat:=0
def tw1193750101126491505:Nat:=0
def tw3152647006760589298:Nat:=0
def tw17756048432773757830:Nat:=0
def tw17274888747209151994:Nat:=0
def tw4958367442961813411:Nat:=0
def tw995707552769483125:Nat:=0
def tw8888476477723083534:Nat:=0
def tw12363993829808059389:Nat:=0
def tw13498334674304457010:Nat:=0
def tw6868209902949317084:Nat:=0
def tw7586422009223105075:Nat:=0
def tw16656756740662898814:Nat:=0
def tw16034935290034792591:Nat:=0
def tw367309801510403742:Nat:=0
def tw17631961688693815417:Nat:=0
def tw15704827579217370138:Nat:=0
def tw6943463184001170311:Nat:=0
def tw3418344797536346638:Nat:=0
def tw9542950900414924185:Nat:=0
def tw12461652208410111245:Nat:=0
def tw719030006216645859:Nat:=0
def tw637621137193114618:Nat:=0
def tw14909475613110314808:Nat:=0
def tw13272129793116859158:Nat:=0
def tw12321924622649761885:Nat:=0
def tw18056529954038636877:Nat:=0
def tw12042073960465863011:Nat:=0
def tw15007222574104344444:Nat:=0
def tw3415646059631466820:Nat:=0
def tw15985101206989185969:Nat:=0
def tw7632573002913448450:Nat:=0
def tw18379929267141872536:Nat:=0
def tw6967521588583300473:Nat:=0
def tw17176949223371244845:Nat:=0
def tw10069282821520560610:Nat:=0
def tw9664826619268132860:Nat:=0
def tw7728662385008812653:Nat:=0
def tw13089368096704836621:Nat:=0
def tw12672622574059408573:Nat:=0
def tw14206749944937635367:Nat:=0
def tw10195610501824446385:Nat:=0
def tw5359266966975085600:Nat:=0
def tw10305217482210330739:Nat:=0
def tw17472562642104652740:Nat:=0
def tw11004364170256268106:Nat:=0
def tw10177832957099828761:Nat:=0
def tw9078138049298184223:Nat:=0
def tw9725280193726784644:Nat:=0
def tw14299331051029468921:Nat:=0
def tw6782453108454590121:Nat:=0
def tw15413906603265116756:Nat:=0
def tw12690229831078009969:Nat:=0
def tw7782603408601924435:Nat:=0
def tw12585124542434394933:Nat:=0
def tw6395080135112170655:Nat:=0
def tw14958798435585729496:Nat:=0
def tw13159303858991671857:Nat:=0
def tw9841807530659452770:Nat:=0
def tw9920138762823520197:Nat:=0
def tw4185900682663644354:Nat:=0
def tw11563236056960144100:Nat:=0
def tw278705419348659726:Nat:=0
def tw12743961040029588677:Nat:=0
def tw17391989850626485348:Nat:=0
def tw7392906481178779988:Nat:=0
def tw12391168296834797960:Nat:=0
def tw488441940631554709:Nat:=0
def tw14051551451729784177:Nat:=0
def tw13738097264260808914:Nat:=0
def tw12512821837042011607:Nat:=0
def tw13944424949636210952:Nat:=0
def tw12109826760888908066:Nat:=0
def tw8333152205528386757:Nat:=0
def tw4511303251344701671:Nat:=0
def tw5471006906244380431:Nat:=0
def tw6902220446600045703:Nat:=0
def tw13513403225936186537:Nat:=0
def tw14568185301023749285:Nat:=0
def tw9474924951720733580:Nat:=0
def tw10471013728380689836:Nat:=0
def tw9467962640183619454:Nat:=0
def tw14819056277359784128:Nat:=0
def tw8245531753589705355:Nat:=0
def tw16710613391851674939:Nat:=0
def tw15792667096786073887:Nat:=0
def tw2233151332875707344:Nat:=0
def tw1853578194937701868:Nat:=0
def tw10394388459745039599:Nat:=0
def tw11483591115324972616:Nat:=0
def tw9265843017241994781:Nat:=0
def tw11834919405286890160:Nat:=0
def tw11028113857866647865:Nat:=0
def tw16325774988030499552:Nat:=0
def tw18352705737498722679:Nat:=0
def tw15347513098323932407:Nat:=0
def tw2563811076122888553:Nat:=0
def tw12142675648782410997:Nat:=0
def tw10419633546767284138:Nat:=0
def tw100010211722647415:Nat:=0
def tw4287842844284802031:Nat:=0
def tw6619482160455129858:Nat:=0
def tw4883105540619397188:Nat:=0
def tw9244593551110402256:Nat:=0
def tw12175892310620863479:Nat:=0
def tw10958709217670535611:Nat:=0
def tw16495149793420061568:Nat:=0
def tw3223979720143248202:Nat:=0
def tw12079809756287031190:Nat:=0
def tw14470252460794086417:Nat:=0
def tw740987791706488187:Nat:=0
def tw8359038738260089711:Nat:=0
def tw5599659114262031461:Nat:=0
def tw5767457143216196795:Nat:=0
def tw8511160666921959619:Nat:=0
def tw12533283434489851826:Nat:=0
def tw1509484500173765816:Nat:=0
def tw8422203279927098075:Nat:=0
def tw4450241413832629369:Nat:=0
def tw13956668468690896739:Nat:=0
def tw9066501350432245651:Nat:=0
def tw5926844110097309443:Nat:=0
def tw15953937189337720434:Nat:=0
def tw8370734047648497525:Nat:=0
def tw14069997397862903965:Nat:=0
def tw23587753362492952:Nat:=0
def tw16862611801411087433:Nat:=0
def tw8159713435083446684:Nat:=0
def tw16061208666900964958:Nat:=0
def tw15895861874345560270:Nat:=0
def tw15803803049520267566:Nat:=0
def tw17402820531109351006:Nat:=0
def tw14944510191675001749:Nat:=0
def tw11351193016803326690:Nat:=0
def tw6665074103628930007:Nat:=0
def tw5191796741521385192:Nat:=0
def tw6338792916147630042:Nat:=0
def tw5792610153618282278:Nat:=0
def tw16439595264301390602:Nat:=0
def tw17632373384748557004:Nat:=0
def tw5552573160880642103:Nat:=0
def tw8966829912809622992:Nat:=0
def tw7863696649363220384:Nat:=0
def tw14507897215290147288:Nat:=0
def tw8256075982438482568:Nat:=0
def tw15375746248445093596:Nat:=0
def tw9746159644166002630:Nat:=0
def tw983120000197071150:Nat:=0
def tw272951198685245326:Nat:=0
def tw18351886343202290698:Nat:=0
def tw16682474600123756067:Nat:=0
def tw12909148666227066662:Nat:=0
def tw12665375439937094550:Nat:=0
def tw14833064002459898360:Nat:=0
def tw325241030806339400:Nat:=0
def tw5633698597823778605:Nat:=0
def tw17787103130092344447:Nat:=0
def tw11782079838851652724:Nat:=0
def tw8345874766570331339:Nat:=0
def tw5134530828284115230:Nat:=0
def tw14202155722425830351:Nat:=0
def tw7335804638062748232:Nat:=0
def tw1837350847209528110:Nat:=0
def tw4993250327438819778:Nat:=0
def tw3961847149967095670:Nat:=0
def tw2306715554617033064:Nat:=0
def tw17069106758528698455:Nat:=0
def tw161489139693373259:Nat:=0
def tw14456726620837035022:Nat:=0
def tw138571279318422081:Nat:=0
def tw12077243782486239792:Nat:=0
def tw11528689451075441168:Nat:=0
def tw6560956475877682771:Nat:=0
def tw14913643819056374287:Nat:=0
def tw14396920155765860158:Nat:=0
def tw8029014890641076851:Nat:=0
def tw6677255034309147635:Nat:=0
def tw4934275789984023446:Nat:=0
def tw18269338755465108454:Nat:=0
def tw18346653101142551623:Nat:=0
def tw15210406714433501969:Nat:=0
def tw236934926980100103:Nat:=0
def tw4022187842706863228:Nat:=0
def tw3336317578827818478:Nat:=0
def tw2384059686550884140:Nat:=0
def tw16060182608053264916:Nat:=0
def tw15947135369440697734:Nat:=0
def tw14435666513285853911:Nat:=0
def tw11077470591792431721:Nat:=0
def tw432585588644310733:Nat:=0
def tw4176313140304067582:Nat:=0
def tw13675033784662359284:Nat:=0
def tw12162708202722204628:Nat:=0
def tw7134249500939736640:Nat:=0
def tw3226468096072604524:Nat:=0
def tw3127018087306953908:Nat:=0
def tw2771985143518990014:Nat:=0
def tw2218005602183530736:Nat:=0
def tw16178433928255079058:Nat:=0
def tw9390371518276071061:Nat:=0
def tw4621026054952322603:Nat:=0
def tw15397077163260540747:Nat:=0
def tw15639018896988118721:Nat:=0
def tw14714567099317029762:Nat:=0
def tw12460683243405479140:Nat:=0
def tw4105016892858524382:Nat:=0
def tw9786134516943071495:Nat:=0
def tw9616733004954729218:Nat:=0
def tw9352699076570720394:Nat:=0
def tw8462679966449023543:Nat:=0
def tw7976977066377621737:Nat:=0
def tw7970354856341038907:Nat:=0
def tw7482193258839902379:Nat:=0
def tw6181610243495756849:Nat:=0
def tw446223550317094727:Nat:=0
def tw3621270257633376528:Nat:=0
def tw3287258051959289246:Nat:=0
def tw2978659249384319864:Nat:=0
def tw18003759592513537301:Nat:=0
def tw17858886173909239115:Nat:=0
def tw16906549715399962729:Nat:=0
def tw16387912663927650040:Nat:=0
def tw16204658220031285348:Nat:=0
def tw15038547751866661746:Nat:=0
def tw14160668862031935372:Nat:=0
def tw13659214190198888365:Nat:=0
def tw13185032398375191117:Nat:=0
def tw12990197167766864073:Nat:=0
def tw12936011902015051626:Nat:=0
def tw1265146265524509421:Nat:=0
def tw11991034414548336406:Nat:=0
def tw11668015649810980581:Nat:=0
def tw11480175123159130068:Nat:=0
def tw11352165097242897300:Nat:=0
def tw11293322691322485432:Nat:=0
def tw11095961985235177333:Nat:=0
def tw11037466259701903623:Nat:=0
def tw10487107219759331054:Nat:=0
def tw10297200955146675775:Nat:=0
def tw10170661415865158955:Nat:=0
def tw8820319695498915845:Nat:=0
def tw551130441874254201:Nat:=0
def tw10212680091017586843:Nat:=0
def tw14032288814372275220:Nat:=0
def tw8753184408855951521:Nat:=0
def tw14825866474971400563:Nat:=0
def tw7070946473366693231:Nat:=0
def tw135048286972072677:Nat:=0
def tw5380841494285513358:Nat:=0
def tw10203461714392738868:Nat:=0
def tw13795735570150940074:Nat:=0
def tw9713303510233421399:Nat:=0
def tw7007340048895781724:Nat:=0
def tw6135742576956927414:Nat:=0
def tw433857738632719061:Nat:=0
def tw14063505536811890737:Nat:=0
def tw13109836292019989699:Nat:=0
def tw12082154046293923834:Nat:=0
def tw1027869691888251972:Nat:=0
def tw16586310107937543547:Nat:=0
def tw9727907905642383723:Nat:=0
def tw9100473920347315371:Nat:=0
def tw9384499759360452311:Nat:=0
def tw1662442052540181345:Nat:=0
def tw1079264942186533944:Nat:=0
def tw16298917888508113334:Nat:=0
def tw586578823672476816:Nat:=0
def tw8439636723928279825:Nat:=0
def tw10374599231477701858:Nat:=0
def tw6877312619667671221:Nat:=0
def tw6747810372497309373:Nat:=0
def tw3557256248414019586:Nat:=0
def tw11338781499433935163:Nat:=0
def tw4928989627271929090:Nat:=0
def tw2533572732508691224:Nat:=0
def tw11831138426081619831:Nat:=0
def tw8862692592708003081:Nat:=0
def tw7751124691260903309:Nat:=0
def tw7506758247449308872:Nat:=0
def tw7350470127451217715:Nat:=0
def tw6694841817304865700:Nat:=0
def tw6556793817178045492:Nat:=0
def tw5522130312899123869:Nat:=0
def tw5389985035774501168:Nat:=0
def tw5071344958317527899:Nat:=0
def tw4288234959889860134:Nat:=0
def tw4272127188830309413:Nat:=0
def tw2743123115303015143:Nat:=0
def tw2661357651789767484:Nat:=0
def tw2492780070812443016:Nat:=0
def tw18352007658354627651:Nat:=0
def tw17674100878191197532:Nat:=0
def tw17314428156628380550:Nat:=0
def tw16802552260457470571:Nat:=0
def tw15847074347859628343:Nat:=0
def tw15457365310649830624:Nat:=0
def tw15199798987453891263:Nat:=0
def tw14656937887669074513:Nat:=0
def tw14429723931966396737:Nat:=0
def tw14243096241527140231:Nat:=0
def tw14047533120731568229:Nat:=0
def tw13991862548236732960:Nat:=0
def tw13107535010504082046:Nat:=0
def tw12918899215394829466:Nat:=0
def tw12768696371159984731:Nat:=0
def tw12764783346329655157:Nat:=0
def tw11775114038446565535:Nat:=0
def tw11697422648008510779:Nat:=0
def tw11574647156508774363:Nat:=0
def tw11140078198574780618:Nat:=0
def tw10692936647131779043:Nat:=0
def tw10644485232487159785:Nat:=0
def tw10340440391494066969:Nat:=0
def tw1014755898953730727:Nat:=0
def tw3971517054527282050:Nat:=0
def tw2100505187037770083:Nat:=0
def tw5885515459260562219:Nat:=0
def tw1720559861425062573:Nat:=0
def tw13746823259102791665:Nat:=0
def tw13340090414011879230:Nat:=0
def tw13157771073495771284:Nat:=0
def tw13032674568534857558:Nat:=0
def tw8215458909869984950:Nat:=0
def tw13980855056565684888:Nat:=0
def tw11787489074049629561:Nat:=0
def tw7675603207939226743:Nat:=0
def tw9780764725688383227:Nat:=0
def tw6788293982716860860:Nat:=0
def tw15102057071103992950:Nat:=0
def tw13127423572494899965:Nat:=0
def tw645607562895113279:Nat:=0
def tw1915936504939020000:Nat:=0
def tw6982894037262234900:Nat:=0
def tw2295064406892520217:Nat:=0
def tw9936964854790814407:Nat:=0
def tw9905696037194069881:Nat:=0
def tw9824377969664233646:Nat:=0
def tw9808696326402445832:Nat:=0
def tw975375049197645455:Nat:=0
def tw9684059576784426544:Nat:=0
def tw9449039636033304260:Nat:=0
def tw9315760737258782922:Nat:=0
def tw9271816323375711199:Nat:=0
def tw8852957523623007209:Nat:=0
def tw8836440802759735318:Nat:=0
def tw8721315535902653640:Nat:=0
def tw8641055864022460424:Nat:=0
def tw8628604794670959574:Nat:=0
def tw8474598465754173299:Nat:=0
def tw836046467917005459:Nat:=0
def tw8237781173924581405:Nat:=0
def tw8225280391535087437:Nat:=0
def tw8059105393316121396:Nat:=0
def tw7897047536607735246:Nat:=0
def tw7835431503462378412:Nat:=0
def tw7650745598338403693:Nat:=0
def tw7646749397458490891:Nat:=0
def tw7222499230877643452:Nat:=0
def tw7136761646753993093:Nat:=0
def tw7105937192431666115:Nat:=0
def tw7013920587939360367:Nat:=0
def tw6967818858880140406:Nat:=0
def tw6961953441297167464:Nat:=0
def tw6947548058500237150:Nat:=0
def tw694264607824876369:Nat:=0
def tw6874156835883346528:Nat:=0
def tw6846831357675341309:Nat:=0
def tw6796176070348914461:Nat:=0
def tw6743989558458391188:Nat:=0
def tw6640168588147743803:Nat:=0
def tw6524040062490440050:Nat:=0
def tw6364699096788511702:Nat:=0
def tw5574465225048563979:Nat:=0
def tw5542311022063103392:Nat:=0
def tw5264997170794796813:Nat:=0
def tw512616068130817377:Nat:=0
def tw5016804359132920941:Nat:=0
def tw4787514253735913730:Nat:=0
def tw4646592512033375054:Nat:=0
def tw4505478184080910658:Nat:=0
def tw4443216308187374329:Nat:=0
def tw4442160061503530862:Nat:=0
def tw4354588911575581281:Nat:=0
def tw3931332335131309023:Nat:=0
def tw3608455116587554281:Nat:=0
def tw3481384360036061766:Nat:=0
def tw3254758965879251805:Nat:=0
def tw3048048458927199863:Nat:=0
def tw2872738305255538879:Nat:=0
def tw2851792195993541381:Nat:=0
def tw2760591643703488652:Nat:=0
def tw2630610909631431723:Nat:=0
def tw2617158790016188296:Nat:=0
def tw2441534080508736021:Nat:=0
def tw2327152404651184962:Nat:=0
def tw2323200150734100548:Nat:=0
def tw2253700770304070806:Nat:=0
def tw18420869938249318590:Nat:=0
def tw18406851049551828391:Nat:=0
def tw17670070997381720965:Nat:=0
def tw17240062870094299547:Nat:=0
def tw17222917906643784994:Nat:=0
def tw17080263128675508002:Nat:=0
def tw16962733231688739509:Nat:=0
def tw16927197313432527679:Nat:=0
def tw1689126128293614539:Nat:=0
def tw16865510011069641480:Nat:=0
def tw16755681840422971828:Nat:=0
def tw16406278368197182782:Nat:=0
def tw16012505323876630856:Nat:=0
def tw15865501218116622680:Nat:=0
def tw15802160595051158869:Nat:=0
def tw15582905216527132104:Nat:=0
def tw15484659669325716665:Nat:=0
def tw15391547971994634829:Nat:=0
def tw15224244376616222953:Nat:=0
def tw15124472415658464351:Nat:=0
def tw14721775562031990860:Nat:=0
def tw1471295026947232253:Nat:=0
def tw14685533458887694848:Nat:=0
def tw145565869346463681:Nat:=0
def tw14498487426752748278:Nat:=0
def tw1399662288500331231:Nat:=0
def tw13992126932369565114:Nat:=0
def tw13944191257705039646:Nat:=0
def tw13860364739129141979:Nat:=0
def tw13535761992150888660:Nat:=0
def tw13080028748993018471:Nat:=0
def tw13059026499604241896:Nat:=0
def tw13022549078577480832:Nat:=0
def tw12878742614912417750:Nat:=0
def tw12661781409835370187:Nat:=0
def tw12417223723101272301:Nat:=0
def tw12198927466306342289:Nat:=0
def tw12099702571066730023:Nat:=0
def tw12004141434641183074:Nat:=0
def tw11999238189879200019:Nat:=0
def tw11926222598800974399:Nat:=0
def tw11903618002395670959:Nat:=0
def tw11706892018094863418:Nat:=0
def tw1163017753750343160:Nat:=0
def tw10948165721608688498:Nat:=0
def tw10778433878808102786:Nat:=0
def tw10773808722726076039:Nat:=0
def tw10236218339577237016:Nat:=0
def tw10158587262221568205:Nat:=0
def tw10081082621765765585:Nat:=0
def tw10012688418933300268:Nat:=0
end PySem.W.Fast
set_option maxRecDepth 100000 in
set_option maxHeartbeats 0 in
theorem PySem.Challenge.cw_blamewise_k41_looks_told_holds : PySem.Challenge.rw_blamewise_k41_looks_told.Holds := by
 w_on;o_law;k_head;(case hw=>w_witness2)
 k_fill
 refine L2.K41.walk (l:=PySem.Challenge.rw_blamewise_k41_looks_told) rfl rfl rfl (fun w h Y=>PySem.W.kIn_of Y) ?F
 case F=>
  intro w h KX
  dsimp only [L2.Ev.KOf]
  refine' L2.K41.Txt.mk ?fn ?gl ?tl ?bl ?mr ?bi_BlameError ?x_BlameError ?x_NoPart ?x_NoName ?x_TooDeep ?x_Parted ?x_Looker
  (case fn=>(repeat (apply L2.Ev.hl_cons;(case a=>k_is);(case l=>k_is);(case c=>k_is);(case k=>k_is)));exact trivial)
  (case gl=>(repeat (apply L2.Ev.gl_cons;(case a=>k_is);(case b=>kernel_rfl)));exact trivial)
  (case tl=>(repeat (apply L2.Ev.tb_cons;(case a=>k_is);(case b=>kernel_rfl)));exact trivial)
  (case bl=>(repeat (apply L2.Ev.nl_cons;(case a=>k_is)));exact trivial)
  (case mr=>(repeat (apply L2.Ev.mr_cons;(case a=>k_is);(case b=>k_is);(case c=>k_is)));exact trivial)
  (case bi_BlameError=>(refine' ⟨_,?bi0,?bi1,?bi2,?bi3⟩;(case bi0=>k_is);(case bi1=>k_is);(case bi2=>k_is);(case bi3=>k_is)))
  (case x_BlameError=>(refine' ⟨_,L2.Ev.xb_mk ?a ?ga ?gn ?cl ?sg ?tk ?ob ?be ?is ?tyC ?hh,trivial⟩;(case a=>k_is);(case ga=>k_is);(case gn=>k_is);(case cl=>k_is);(case sg=>k_is);(case tk=>k_is);(case ob=>k_is);(case be=>k_is);(case is=>kernel_rfl);(case tyC=>k_is);(case hh=>k_is)))
  (case x_NoPart=>(refine' ⟨_,L2.Ev.xb_mk ?a ?ga ?gn ?cl ?sg ?tk ?ob ?be ?is ?tyC ?hh,trivial⟩;(case a=>k_is);(case ga=>k_is);(case gn=>k_is);(case cl=>k_is);(case sg=>k_is);(case tk=>k_is);(case ob=>k_is);(case be=>k_is);(case is=>kernel_rfl);(case tyC=>k_is);(case hh=>k_is)))
  (case x_NoName=>(refine' ⟨_,_,L2.Ev.xc_mk ?a ?l ?t ?ini ?fl ?fn ?fc ?fk ?ga ?gn ?cl ?sg ?tk ?ob ?be ?is ?kp ?tyC ?sa ?ov ?hdc ?hh ?me,?n0,trivial⟩;(case a=>k_is);(case l=>k_is);(case t=>kernel_rfl);(case ini=>k_is);(case fl=>k_is);(case fn=>k_is);(case fc=>k_is);(case fk=>k_is);(case ga=>k_is);(case gn=>k_is);(case cl=>k_is);(case sg=>k_is);(case tk=>k_is);(case ob=>k_is);(case be=>k_is);(case is=>kernel_rfl);(case kp=>k_is);(case tyC=>k_is);(case sa=>k_is);(case ov=>kernel_rfl);(case hdc=>kernel_rfl);(case hh=>k_is);(case me=>k_is);(case n0=>k_is)))
  (case x_TooDeep=>(refine' ⟨_,_,L2.Ev.xc_mk ?a ?l ?t ?ini ?fl ?fn ?fc ?fk ?ga ?gn ?cl ?sg ?tk ?ob ?be ?is ?kp ?tyC ?sa ?ov ?hdc ?hh ?me,?n0,trivial⟩;(case a=>k_is);(case l=>k_is);(case t=>kernel_rfl);(case ini=>k_is);(case fl=>k_is);(case fn=>k_is);(case fc=>k_is);(case fk=>k_is);(case ga=>k_is);(case gn=>k_is);(case cl=>k_is);(case sg=>k_is);(case tk=>k_is);(case ob=>k_is);(case be=>k_is);(case is=>kernel_rfl);(case kp=>k_is);(case tyC=>k_is);(case sa=>k_is);(case ov=>kernel_rfl);(case hdc=>kernel_rfl);(case hh=>k_is);(case me=>k_is);(case n0=>k_is)))
  (case x_Parted=>(refine' ⟨_,_,L2.Ev.xc_mk ?a ?l ?t ?ini ?fl ?fn ?fc ?fk ?ga ?gn ?cl ?sg ?tk ?ob ?be ?is ?kp ?tyC ?sa ?ov ?hdc ?hh ?me,?n0,?n1,?n2,?n3,?n4,trivial⟩;(case a=>k_is);(case l=>k_is);(case t=>kernel_rfl);(case ini=>k_is);(case fl=>k_is);(case fn=>k_is);(case fc=>k_is);(case fk=>k_is);(case ga=>k_is);(case gn=>k_is);(case cl=>k_is);(case sg=>k_is);(case tk=>k_is);(case ob=>k_is);(case be=>k_is);(case is=>kernel_rfl);(case kp=>k_is);(case tyC=>k_is);(case sa=>k_is);(case ov=>kernel_rfl);(case hdc=>kernel_rfl);(case hh=>k_is);(case me=>k_is);(case n0=>k_is);(case n1=>k_is);(case n2=>k_is);(case n3=>k_is);(case n4=>k_is)))
  (case x_Looker=>(refine' ⟨_,_,_,_,_,_,L2.Ev.cc_mk ?a ?pg ?hd ?po ?sa ?mk ?kp,⟨?n0,?n1,trivial⟩,L2.Ev.me_mk ?at0 ?fl0 ?fn0 ?fc0 ?fk0,L2.Ev.me_mk ?at1 ?fl1 ?fn1 ?fc1 ?fk1,L2.Ev.me_mk ?at2 ?fl2 ?fn2 ?fc2 ?fk2,L2.Ev.me_mk ?at3 ?fl3 ?fn3 ?fc3 ?fk3,L2.Ev.me_mk ?at4 ?fl4 ?fn4 ?fc4 ?fk4⟩;(case a=>k_is);(case pg=>k_is);(case hd=>k_is);(case po=>k_is);(case sa=>k_is);(case mk=>k_is);(case kp=>k_is);(case n0=>k_is);(case n1=>k_is);(case at0=>k_is);(case fl0=>k_is);(case fn0=>k_is);(case fc0=>k_is);(case fk0=>k_is);(case at1=>k_is);(case fl1=>k_is);(case fn1=>k_is);(case fc1=>k_is);(case fk1=>k_is);(case at2=>k_is);(case fl2=>k_is);(case fn2=>k_is);(case fc2=>k_is);(case fk2=>k_is);(case at3=>k_is);(case fl3=>k_is);(case fn3=>k_is);(case fc3=>k_is);(case fk3=>k_is);(case at4=>k_is);(case fl4=>k_is);(case fn4=>k_is);(case fc4=>k_is);(case fk4=>k_is)))
end
