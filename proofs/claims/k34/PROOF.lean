import PyProof.Rows.All
import Wide.All
import OpenK.AllK
import Wide.FinOn
import Lean
import PyProof.EqAt
import PyProof.EqKinds
import PyProof.TupleCall
import KE.KTabLook
import KE.LcSums
import PyProof.ListMulRoad
import KE.KEqDict
import PyProof.DictIter
import PySem.Challenge.RW_blamewise_k34_names_and_depths
local macro_rules | `(tactic| nofun)=>`(tactic| decide +kernel)
noncomputable section
open PySem PySem.Spec PyProof.Rows
set_option Elab.async false
set_option linter.all false
set_option maxRecDepth 100000
set_option maxHeartbeats 8000000
set_option Elab.async false
set_option linter.all false
set_option maxRecDepth 100000
namespace L2
abbrev Key:=Sum Int Str
def iC:Key→Value→Bool
 | .inl k,v=>Value.isInt k v
 | .inr x,v=>Value.isStrOf x v
def Av (w:World):Key→Int
 | .inl k=>hashInt k
 | .inr x=>hashStr w x
theorem bD:∀ {k:Key} {v:Value},iC k v=true→(∃ i t,k=Sum.inl i∧v=Value.int i t)∨(∃ x t,k=Sum.inr x∧v=Value.str x t)
 | .inl i,v,h=>by
   obtain ⟨t,e⟩:=Value.isInt_shape (k:=i) (v:=v) h
   exact .inl ⟨i,t,rfl,e⟩
 | .inr x,v,h=>by
   obtain ⟨t,e⟩:=Value.isStrOf_shape (x:=x) (v:=v) h
   exact .inr ⟨x,t,rfl,e⟩
theorem qj (i:Int) (t:Tok):iC (.inl i) (.int i t)=true:=by simp [iC,Value.isInt]
theorem ql (x:Str) (t:Tok):iC (.inr x) (.str x t)=true:=by simp [iC,Value.isStrOf]
theorem w6 (a b:Int):decide ((Sum.inl a:Key)=Sum.inl b)=(a == b):=by
 by_cases e:a=b
 ·subst e;simp
 ·have h:¬ (Sum.inl a:Key)=Sum.inl b:=fun q=>e (Sum.inl.inj q)
  rw [decide_eq_false h]
  exact (beq_eq_false_iff_ne.mpr e).symm
theorem xf (a b:Str):decide ((Sum.inr a:Key)=Sum.inr b)=decide (a=b):=by
 by_cases e:a=b
 ·subst e;simp
 ·have h:¬ (Sum.inr a:Key)=Sum.inr b:=fun q=>e (Sum.inr.inj q)
  rw [decide_eq_false h,decide_eq_false e]
theorem w9 (a:Int) (b:Str):decide ((Sum.inl a:Key)=Sum.inr b)=false:=decide_eq_false (fun q=>nomatch q)
theorem xc (a:Str) (b:Int):decide ((Sum.inr a:Key)=Sum.inl b)=false:=decide_eq_false (fun q=>nomatch q)
def bF (prog:Program) (w:World):PySem.KeyKind prog w Key where
 is:=iC
 hash:=Av w
 inj:=fun v a b ha hb=>by
  rcases bD ha with ⟨i,t,rfl,rfl⟩ | ⟨x,t,rfl,rfl⟩
  ·rcases bD hb with ⟨j,u,rfl,e⟩ | ⟨y,u,rfl,e⟩
   ·injection e with e1 _;rw [e1]
   ·exact nomatch e
  ·rcases bD hb with ⟨j,u,rfl,e⟩ | ⟨y,u,rfl,e⟩
   ·exact nomatch e
   ·injection e with e1 _;rw [e1]
 byValue:=fun k v h=>by
  rcases bD h with ⟨i,t,rfl,rfl⟩ | ⟨x,t,rfl,rfl⟩ <;> rfl
 pyHash:=fun hv h=>by
  rcases bD hv with ⟨i,t,rfl,rfl⟩ | ⟨x,t,rfl,rfl⟩
  ·exact wpAny_pyHash_int h
  ·exact wpAny_pyHash_str h
 eqBool:=fun hu hv h=>by
  rcases bD hu with ⟨i,t,rfl,rfl⟩ | ⟨x,t,rfl,rfl⟩
  ·rcases bD hv with ⟨j,u,rfl,rfl⟩ | ⟨y,u,rfl,rfl⟩
   ·rw [w6] at h;exact wpAny_eqBool_int h
   ·rw [w9] at h;exact SeqAt.EqAt.int_str i t y u _ _ _ _ h
  ·rcases bD hv with ⟨j,u,rfl,rfl⟩ | ⟨y,u,rfl,rfl⟩
   ·rw [xc] at h;exact SeqAt.EqAt.str_int x t j u _ _ _ _ h
   ·rw [xf] at h;exact wpAny_eqBool_str h
 «strs»:=fun k x t v h=>by
  rcases bD h with ⟨i,u,rfl,e⟩ | ⟨y,u,rfl,e⟩
  ·exact nomatch e
  ·injection e with e1 _
   subst e1
   cases v <;> rfl
theorem mh (prog:Program) (w:World) (i:Int) (t:Tok):(bF prog w).is (.inl i) (.int i t)=true:=qj i t
theorem mi (prog:Program) (w:World) (x:Str) (t:Tok):(bF prog w).is (.inr x) (.str x t)=true:=ql x t
end L2
namespace L2
inductive V where
 | non | bl (b:Bool) | int (i:Int) | str (x:Str) | byt (b:Array UInt8) | flt (b:UInt64) | ref (a:Addr) | ty (n:String)
 deriving DecidableEq
def aU:V→Value→Prop
 | .non,u=>u=Value.none
 | .bl b,u=>u=Value.bool b
 | .int i,u=>∃ t,u=Value.int i t
 | .str x,u=>∃ t,u=Value.str x t
 | .byt b,u=>∃ t,u=Value.bytes b t
 | .flt b,u=>∃ t,u=Value.float b t
 | .ref a,u=>u=Value.ref a
 | .ty n,u=>u=Value.type n
abbrev aQ:List V→List Value→Prop:=Paired aU
theorem aQ.length {xs:List V} {us:List Value} (r:aQ xs us):xs.length=us.length:=Paired.length r
theorem aQ.get:∀ {xs:List V} {us:List Value} {i:Nat} {x:V},aQ xs us→xs[i]? = some x→∃ u,us[i]? = some u∧aU x u
 | _,_,_,_,.nil,e=>by simp at e
 | _,_,0,_,.cons r _,e=>by simp at e;subst e;exact ⟨_,rfl,r⟩
 | _,_,i+1,x,.cons _ t,e=>by
   obtain ⟨u,h1,h2⟩:=aQ.get (i:=i) (x:=x) t (by simpa using e)
   exact ⟨u,by simpa using h1,h2⟩
theorem aQ.set {x:V} {u:Value} (r:aU x u):∀ {xs:List V} {us:List Value} (i:Nat),aQ xs us→aQ (xs.set i x) (us.set i u)
 | _,_,_,.nil=>.nil
 | _,_,0,.cons _ t=>.cons r t
 | _,_,i+1,.cons q t=>.cons q (aQ.set r i t)
theorem aQ.append:∀ {xs ys:List V} {us ws:List Value},aQ xs us→aQ ys ws→aQ (xs ++ ys) (us ++ ws)
 | _,_,_,_,.nil,s=>s
 | _,_,_,_,.cons r t,s=>.cons r (aQ.append t s)
theorem aQ.take:∀ {xs:List V} {us:List Value} (n:Nat),aQ xs us→aQ (xs.take n) (us.take n)
 | _,_,0,_=>.nil
 | _,_,_+1,.nil=>.nil
 | _,_,n+1,.cons r t=>.cons r (aQ.take n t)
theorem aQ.drop:∀ {xs:List V} {us:List Value} (n:Nat),aQ xs us→aQ (xs.drop n) (us.drop n)
 | _,_,0,r=>r
 | _,_,_+1,.nil=>.nil
 | _,_,n+1,.cons _ t=>aQ.drop n t
def cN:Option V→Option Value→Prop
 | some v,some u=>aU v u
 | none,none=>True
 | _,_=>False
def KV {κ:Type}:List (κ×V)→List (κ×Value)→Prop:=Paired fun (p:κ×V) (q:κ×Value)=>p.1=q.1∧aU p.2 q.2
def kV:Key→V
 | .inl i=>.int i
 | .inr x=>.str x
inductive HO where
 | lst (xs:List V)
 | tup (xs:List V)
 | dK (kvs:List (Key×V)) | dT (kvs:List (List Key×V))
 | set (S:Int→Bool) (n:Nat)
 | ins (C dx:Addr) (fs:List (Str×V))
 | own (x:Addr)
 | xd (fs:List (Str×V))
 | met (f x:Addr)
 | rng (lo hi:Int)
 | frz (o:Obj) (u:HO)
 | tbl (ps:Array Value)
 | ext (φ:Heap→Prop)
abbrev Hp:=Addr→Option HO
def upd (H:Hp) (a:Addr) (o:HO):Hp:=fun b=>if b=a then some o else H b
theorem ad {H:Hp} {a:Addr} {o:HO}:upd H a o a=some o:=by unfold upd;rw [if_pos rfl]
theorem aj {H:Hp} {a b:Addr} {o:HO} (h:b≠a):upd H a o b=H b:=by unfold upd;rw [if_neg h]
theorem hX {H:Hp} {a:Addr} {o u:HO}:upd (upd H a o) a u=upd H a u:=by
 funext b;unfold upd;split <;> rfl
theorem yU {H:Hp} {a b:Addr} {o u:HO} (h:H a=some o) (h':H b=some u) (d:o≠u):a≠b:=by
 intro e;subst e;rw [h] at h';exact d (Option.some.inj h')
theorem al {H:Hp} {a b:Addr} {o:HO} (h:H a=some o) (h':H b=none):a≠b:=by
 intro e;subst e;rw [h] at h';cases h'
section
variable (P:Program) (w:World)
def bo (H:Hp) (h:Heap) (a:Addr):HO→Prop
 | .lst xs=>xs.length≤sizeLine∧∃ (its:List Value) (n:Nat),aQ xs its∧h.get? a=some { cls:=.type "list",data:=.seq its.toArray n }
 | .tup xs=>xs.length≤sizeLine∧∃ its:List Value,aQ xs its∧IsTup h a its.toArray
 | .dK kvs=>kvs.length≤sizeLine∧(a == sysModules)=false∧∃ vs,KV kvs vs∧h.DictOf (bF P w) a vs
 | .dT kvs=>kvs.length≤sizeLine∧(a == sysModules)=false∧∃ xs:List (List Key×Addr×Value),
  Paired (fun (p:List Key×V) (q:List Key×Addr×Value)=>p.1=q.1∧H q.2.1=some (.tup (p.1.map kV))∧aU p.2 q.2.2) kvs xs ∧
  ∃ o es ep,h.get? a=some o∧o.ExactDict∧o.data = .dict es ep∧es.toList=xs.map (entryOfKey (tupleKind (bF P w)))∧(xs.map (·.1)).Nodup
 | .set S n=>h.SetOf (intKind P w) a S n
 | .ins C dx fs=>H dx=some (.own a)∧fs.length≤1000∧dx≠a∧h.get? a=some (W.instObj C dx) ∧
  ∃ mA,h.Ns1 dx mA∧(∀ f,cN (fs.lookup f) (mA f))∧PySem.Within mA (fs.map (·.1))
 | .own _=>∃ o,h.get? a=some o
 | .xd fs=>∃ mA,h.Ns1 a mA∧∀ f,cN (fs.lookup f) (mA f)
 | .rng lo hi=>∃ t u v,h.get? a=some { cls:=.type "range",data:=.fields #[.int lo t,.int hi u,.int 1 v] }
 | .frz o u=>h.get? a=some o∧bo H h a u
 | .tbl ps=>h.get? a=some { cls:=.none,data:=.fields ps }
 | .met f x=>h.get? a=some (W.methodObj (.ref f) (.ref x))
 | .ext φ=>φ h∧(∃ o,h.get? a=some o)∧∀ h1 h2:Heap,φ h1→(∀ o,h1.get? a=some o→h2.get? a=some o)→φ h2
def HOk (H:Hp) (h:Heap):Prop:=∀ a o,H a=some o→bo P w H h a o
end
section
variable {P:Program} {w:World} {H H':Hp} {h h':Heap} {a:Addr} {o:HO}
theorem bo.lt (x:bo P w H h a o):a<h.objs.size:=by
 cases o with
 | lst xs=>obtain ⟨_,_,_,_,e⟩:=x;exact Heap.lt_size e
 | tup xs=>obtain ⟨_,_,_,p⟩:=x;exact p.lt
 | dK kvs=>obtain ⟨_,_,_,_,o,_,_,e,_⟩:=x;exact Heap.lt_size e
 | dT kvs=>obtain ⟨_,_,_,_,o,_,_,e,_⟩:=x;exact Heap.lt_size e
 | set S n=>obtain ⟨o,_,_,_,e,_⟩:=x;exact Heap.lt_size e
 | ins C dx fs=>obtain ⟨_,_,_,e,_⟩:=x;exact Heap.lt_size e
 | own y=>obtain ⟨_,e⟩:=x;exact Heap.lt_size e
 | xd fs=>obtain ⟨_,⟨_,_,_,e,_⟩,_⟩:=x;exact Heap.lt_size e
 | rng lo hi=>obtain ⟨_,_,_,e⟩:=x;exact Heap.lt_size e
 | frz ob u=>obtain ⟨e,_⟩:=x;exact Heap.lt_size e
 | tbl ps=>exact Heap.lt_size (show h.get? a=some _ from x)
 | met f y=>exact Heap.lt_size (show h.get? a=some _ from x)
 | ext φ=>obtain ⟨_,⟨_,e⟩,_⟩:=x;exact Heap.lt_size e
theorem Paired.mapP {α β:Type} {F G:α→β→Prop}:∀ {l₁:List α} {l₂:List β},Paired F l₁ l₂→(∀ a b,F a b→G a b)→Paired G l₁ l₂
 | _,_,.nil,_=>.nil
 | _,_,.cons r t,f=>.cons (f _ _ r) (Paired.mapP t f)
theorem bo.stay (x:bo P w H h a o) (k:∀ b u,(b=a∨H b=some (.own a))→h.get? b=some u→h'.get? b=some u)
 (ho:∀ b,H b=some (.own a)→H' b=some (.own a)) (ht:∀ b xs,H b=some (.tup xs)→H' b=some (.tup xs)):bo P w H' h' a o:=by
 induction o with
 | lst xs=>obtain ⟨z,its,n,r,e⟩:=x;exact ⟨z,its,n,r,k _ _ (.inl rfl) e⟩
 | tup xs=>obtain ⟨z,its,r,ob,e,c⟩:=x;exact ⟨z,its,r,ob,k _ _ (.inl rfl) e,c⟩
 | dK kvs=>obtain ⟨z,y,vs,r,ob,es,ep,e,c⟩:=x;exact ⟨z,y,vs,r,ob,es,ep,k _ _ (.inl rfl) e,c⟩
 | dT kvs=>
   obtain ⟨z,y,xs,r,ob,es,ep,e,c⟩:=x
   exact ⟨z,y,xs,Paired.mapP r fun p q z=>⟨z.1,ht _ _ z.2.1,z.2.2⟩,ob,es,ep,k _ _ (.inl rfl) e,c⟩
 | set S n=>obtain ⟨ob,es,ep,t,e,c⟩:=x;exact ⟨ob,es,ep,t,k _ _ (.inl rfl) e,c⟩
 | ins C dx fs=>
   obtain ⟨d,z,ne,e,mA,⟨od,es,ep,e2,c⟩,r⟩:=x
   exact ⟨ho _ d,z,ne,k _ _ (.inl rfl) e,mA,⟨od,es,ep,k _ _ (.inr d) e2,c⟩,r⟩
 | own y=>obtain ⟨ob,e⟩:=x;exact ⟨ob,k _ _ (.inl rfl) e⟩
 | xd fs=>obtain ⟨mA,⟨od,es,ep,e,c⟩,r⟩:=x;exact ⟨mA,⟨od,es,ep,k _ _ (.inl rfl) e,c⟩,r⟩
 | rng lo hi=>obtain ⟨t,u,v,e⟩:=x;exact ⟨t,u,v,k _ _ (.inl rfl) e⟩
 | frz ob u ih=>obtain ⟨e,q⟩:=x;exact ⟨k _ _ (.inl rfl) e,ih q⟩
 | tbl ps=>
   have e:h.get? a=some { cls:=.none,data:=.fields ps }:=x
   show h'.get? a=some { cls:=.none,data:=.fields ps }
   exact k a _ (.inl rfl) e
 | met f y=>
   have e:h.get? a=some (W.methodObj (.ref f) (.ref y)):=x
   show h'.get? a=some (W.methodObj (.ref f) (.ref y))
   exact k a _ (.inl rfl) e
 | ext φ=>obtain ⟨p,⟨o,e⟩,st⟩:=x;exact ⟨st _ _ p fun o q=>k _ _ (.inl rfl) q,⟨o,k _ _ (.inl rfl) e⟩,st⟩
theorem HOk.lt (x:HOk P w H h) (e:H a=some o):a<h.objs.size:=(x a o e).lt
theorem HOk.fresh (x:HOk P w H h) (e:h.objs.size≤a):H a=none:=by
 cases q:H a with
 | none=>rfl
 | some u=>exact absurd (Nat.lt_of_lt_of_le (x.lt q) e) (Nat.lt_irrefl _)
theorem HOk.kept (x:HOk P w H h) (k:∀ b u,h.get? b=some u→h'.get? b=some u):HOk P w H h':=fun a o e=>
 (x a o e).stay (fun b u _ q=>k b u q) (fun _ q=>q) fun _ _ q=>q
theorem HOk.laid (x:HOk P w H h) (k:∀ b u,h.get? b=some u→h'.get? b=some u) (hp:h.objs.size≤a) (new:bo P w (upd H a o) h' a o):HOk P w (upd H a o) h':=fun b u e=>by
 have hn:=x.fresh hp
 by_cases hb:b=a
 ·subst hb;rw [ad] at e;cases e;exact new
 ·rw [aj hb] at e
  exact (x b u e).stay (fun c v _ q=>k c v q) (fun c q=>by rw [aj (al q hn)];exact q) fun c xs q=>by rw [aj (al q hn)];exact q
end
def Rd (H:Hp) (a:Addr) (u:HO):Prop:=H a=some u∨∃ o,H a=some (.frz o u)
theorem Rd.ok {P:Program} {w:World} {H:Hp} {h:Heap} {a:Addr} {u:HO} (r:Rd H a u) (x:HOk P w H h):bo P w H h a u:=by
 rcases r with r | ⟨o,r⟩
 ·exact x a u r
 ·obtain ⟨_,q⟩:=x a _ r
  exact q
def Mut:Option HO→Prop
 | some (.lst _)=>True
 | some (.dK _)=>True
 | some (.dT _)=>True
 | some (.set _ _)=>True
 | some (.ins _ _ _)=>True
 | some (.ext _)=>True
 | _=>False
section
variable {P:Program} {w:World} {H:Hp} {h h':Heap} {x e:Addr} {o':HO}
theorem HOk.write (ok:HOk P w H h) (mu:Mut (H x)) (he:e=x∨H e=some (.own x)) (k:∀ b u,b≠e→h.get? b=some u→h'.get? b=some u) (heo:∃ u,h'.get? e=some u)
 (new:bo P w (upd H x o') h' x o'):HOk P w (upd H x o') h':=fun b u q=>by
 have nown:∀ c y,H c=some (.own y)→c≠x:=fun c y r z=>by subst z;rw [r] at mu;exact mu
 have ntup:∀ c xs,H c=some (.tup xs)→c≠x:=fun c xs r z=>by subst z;rw [r] at mu;exact mu
 by_cases hb:b=x
 ·subst hb;rw [ad] at q;cases q;exact new
 ·rw [aj hb] at q
  by_cases hbe:b=e
  ·have q':H b=some (.own x):=by
    rcases he with z | z
    ·exact absurd (hbe.trans z) hb
    ·rw [hbe];exact z
   rw [q] at q';cases q'
   obtain ⟨v,hv⟩:=heo
   exact ⟨v,by rw [hbe];exact hv⟩
  ·refine (ok b u q).stay (fun c v hc r=>k c v ?_ r) (fun c r=>by rw [aj (nown c b r)];exact r) fun c xs r=>by rw [aj (ntup c xs r)];exact r
   rcases hc with rfl | hc
   ·exact hbe
   ·rintro rfl
    rcases he with z | z
    ·exact nown c b hc z
    ·rw [hc] at z;cases z;exact hb rfl
end
structure Un (fs ex:List Addr) (H H':Hp) (h h':Heap):Prop where
 keep:∀ b o,h.get? b=some o→H b=none→b ∉ fs→b ∉ ex→h'.get? b=some o
 slot:∀ b o,h.get? b=some o→H b=none→b∈fs→b ∉ ex→∃ sl,h'.get? b=some { o with slots:=sl }
 free:∀ b o,h.get? b=some o→H b=none→b ∉ ex→H' b=none
 there:∀ b o,h.get? b=some o→b ∉ ex→∃ o',h'.get? b=some o'
 tups:∀ b xs,H b=some (.tup xs)→H' b=some (.tup xs)
 frzs:∀ b o u,H b=some (.frz o u)→H' b=some (.frz o u)
 tbls:∀ b ps,H b=some (.tbl ps)→∃ more,H' b=some (.tbl (ps ++ more))
section
variable {fs fs' ex ex':List Addr} {H H1 H2:Hp} {h h1 h2 h':Heap} {a x e:Addr} {o:HO}
theorem Un.any (u:Un fs ex H H1 h h1) {b:Addr} {ob:Obj} (q:h.get? b=some ob) (n:H b=none) (hx:b ∉ ex):∃ sl,h1.get? b=some { ob with slots:=sl }:=by
 by_cases hb:b∈fs
 ·exact u.slot b ob q n hb hx
 ·exact ⟨ob.slots,u.keep b ob q n hb hx⟩
theorem Un.kept (k:∀ b u,h.get? b=some u→h'.get? b=some u):Un fs ex H H h h':=
 ⟨fun b ob q _ _ _=>k b ob q,fun b ob q _ _ _=>⟨ob.slots,k b ob q⟩,fun _ _ _ n _=>n,fun b ob q _=>⟨ob,k b ob q⟩,fun _ _ q=>q,fun _ _ _ q=>q,fun _ ps q=>⟨#[],by rw [q];simp⟩⟩
theorem Un.refl:Un fs ex H H h h:=Un.kept fun _ _ q=>q
theorem Un.laid (k:∀ b u,h.get? b=some u→h'.get? b=some u) (hp:h.objs.size≤a) (hn:H a=none):Un fs ex H (upd H a o) h h' where
 keep:=fun b u q _ _ _=>k b u q
 slot:=fun b u q _ _ _=>⟨u.slots,k b u q⟩
 free:=fun b u q n _=>by rw [aj (Nat.ne_of_lt (Nat.lt_of_lt_of_le (Heap.lt_size q) hp))];exact n
 there:=fun b u q _=>⟨u,k b u q⟩
 tups:=fun b xs q=>by rw [aj (al q hn)];exact q
 frzs:=fun b u xs q=>by rw [aj (al q hn)];exact q
 tbls:=fun b ps q=>⟨#[],by rw [aj (al q hn),q];simp⟩
theorem Un.write (mu:Mut (H x)) (he:e=x∨H e=some (.own x)) (k:∀ b u,b≠e→h.get? b=some u→h'.get? b=some u) (heo:∃ u,h'.get? e=some u):Un fs ex H (upd H x o) h h':=by
 have hx:∀ b,H b=none→b≠x:=fun b n z=>by subst z;rw [n] at mu;exact mu
 have hb:∀ b,H b=none→b≠e:=fun b n z=>by
  subst z
  rcases he with r | r
  ·exact hx b n r
  ·rw [n] at r;cases r
 have hm:∀ b u,H b=some u→¬ Mut (some u)→b≠x:=fun b u q nm z=>by subst z;rw [q] at mu;exact nm mu
 refine ⟨fun b u q n _ _=>k b u (hb b n) q,fun b u q n _ _=>⟨u.slots,k b u (hb b n) q⟩,fun b u q n _=>by rw [aj (hx b n)];exact n,fun b u q _=>?_,
  fun b xs q=>by rw [aj (hm b _ q fun z=>z)];exact q,fun b u xs q=>by rw [aj (hm b _ q fun z=>z)];exact q,fun b ps q=>⟨#[],by rw [aj (hm b _ q fun z=>z),q];simp⟩⟩
 by_cases hbe:b=e
 ·subst hbe;exact heo
 ·exact ⟨u,k b u hbe q⟩
end
def trk (h:Heap) (H:Hp):List Addr:=(List.range h.objs.size).filter fun a=>(H a).isSome
def kq (h:Heap) (H:Hp):Heap:=W.hideAll h (trk h H)
theorem qd (h:Heap) (H:Hp):(kq h H).objs.size=h.objs.size:=W.hideAll_size _ _
theorem rO {h:Heap} {H:Hp} {b:Addr} {o:Obj} (e:h.get? b=some o) (n:H b=none):(kq h H).get? b=some o:=
 W.hideAll_get _ e fun hm=>by
  have q:(H b).isSome=true:=(List.mem_filter.mp hm).2
  rw [n] at q;simp at q
theorem uM {h:Heap} {H:Hp} {b:Addr} {o:Obj} (e:(kq h H).get? b=some o):h.get? b=some o∧H b=none:=by
 have e':h.get? b=some o:=W.of_hideAll (trk h H) e
 refine ⟨e',?_⟩
 cases q:H b with
 | none=>rfl
 | some x=>
   have hm:b∈trk h H:=List.mem_filter.mpr ⟨List.mem_range.mpr (Heap.lt_size e'),by simp [q]⟩
   have z:(kq h H).get? b=none:=W.hideAll_none (trk h H) hm
   rw [z] at e;cases e
end L2
namespace L2
structure Mod (K:W.Frag) (mg:Str→Option Value) (base:Heap):Prop where
 kin:K.In base
 glob:base.Ns mainGlobals mg
 blt:∃ mb,base.Ns builtinsNs mb∧∀ x:Str,x≠"__name__"→mb x=bootBuiltins x
 nolimit:base.NoLimit
structure Cx where
 prog:Program
 w:World
 K:W.Frag
 mg:Str→Option Value
 base:Heap
 A:Around
 N:List Str
 s₀:Shared
 H₀:Hp
 env:Env
 outer:List Env
 stack:List Env
 ex:List Addr
 fn:Str→Bool
 calm:Bool
 pn:List (Addr×Obj)
 xe:Value→Shared→Prop
def frs (l:List Env):List Addr:=l.filterMap (·.frame)
abbrev Cx.fs (X:Cx):List Addr:=frs X.outer
def Vis (sc:Scope) (x:Str):Prop:=sc.names.lookup x=some .local∨sc.names.lookup x=some .cell∨sc.names.lookup x=some .free
def Loc (sc:Scope) (x:Str):Prop:=sc.names.lookup x=some .local∨sc.names.lookup x=some .cell
def Am (env:Env) (h:Heap) (m:Str→Option Value) (x:Str) (u:Value):Prop:=
 (env.kindOf x=some .local∧m x=some u)∨((env.kindOf x=some .cell∨env.kindOf x=some .free)∧∃ c,env.cells.lookup x=some c∧h.IsCell c (some u))
structure Cx.Ok (X:Cx):Prop where
 mod:Mod X.K X.mg X.base
 kind:X.env.scope.kind = .function
 glob:X.env.globals=mainGlobals
 blt:X.env.builtins=builtinsNs
 above:X.s₀.heap.objs.size≤X.env.locals
 inj:∀ x y c,X.env.cells.lookup x=some c→X.env.cells.lookup y=some c→x=y
 has:∀ x,(X.env.kindOf x=some .cell∨X.env.kindOf x=some .free)→∃ c,X.env.cells.lookup x=some c
 cab:∀ x c,X.fn x=true→X.env.cells.lookup x=some c→X.s₀.heap.objs.size≤c
 hd:X.calm=true→X.A.handled=none
 frames:X.A.frames=some X.stack
 stk:X.stack=X.outer∨(X.stack=X.env :: X.outer∧X.env.frame=some X.env.locals)
 exf:∀ b∈X.ex,b≠X.env.locals∧∀ x c,X.env.cells.lookup x=some c→c≠b
 bs:∀ b o,X.base.get? b=some o→X.s₀.heap.get? b=some o∧X.H₀ b=none
 bsz:X.base.objs.size≤X.s₀.heap.objs.size
 noex:∀ b o,X.base.get? b=some o→b ∉ X.ex
 exfs:∀ b∈X.ex,b ∉ X.fs
 funs:X.s₀.heap.FunFrames X.base X.outer
 frf:∀ b∈X.fs,X.H₀ b=none
structure Inv (X:Cx) (pins:List (Addr×Obj)) (σ:List (Option V)) (H:Hp) (s:Shared):Prop where
 ok:X.Ok
 os:s.os=X.s₀.os
 bare:AllBare s.gens
 base:Un X.fs X.ex X.H₀ H X.s₀.heap s.heap
 loc:∃ m,s.heap.Ns X.env.locals m∧∀ (i:Nat) (x:Str) (v:V),X.N[i]? = some x→σ[i]? = some (some v)→Vis X.env.scope x→∃ u,aU v u∧Am X.env s.heap m x u
 cell:∀ x c,X.env.cells.lookup x=some c→∃ v,s.heap.IsCell c v
 free:H X.env.locals=none
 freeC:∀ x c,X.env.cells.lookup x=some c→H c=none
 pin:∀ p∈X.pn ++ pins,s.heap.get? p.1=some p.2∧H p.1=none∧p.1≠X.env.locals∧p.1 ∉ X.fs∧∀ v,p.2.data≠.cell v
 hok:HOk X.prog X.w H s.heap
 len:σ.length=X.N.length
section
variable {X:Cx} {pins:List (Addr×Obj)} {σ:List (Option V)} {H H':Hp} {s:Shared} {h':Heap}
theorem Cx.Ok.nofr (ok:X.Ok) {b:Addr} {o:Obj} (e:X.base.get? b=some o):b ∉ X.fs:=fun hb=>by
 have:=(ok.funs.mem hb).1
 rw [e] at this;cases this
theorem Inv.bs (I:Inv X pins σ H s):∀ b o,X.base.get? b=some o→s.heap.get? b=some o∧H b=none:=fun b o e=>
 ⟨I.base.keep b o (I.ok.bs b o e).1 (I.ok.bs b o e).2 (I.ok.nofr e) (I.ok.noex b o e),I.base.free b o (I.ok.bs b o e).1 (I.ok.bs b o e).2 (I.ok.noex b o e)⟩
theorem Inv.bk (I:Inv X pins σ H s):∀ b o,X.base.get? b=some o→s.heap.get? b=some o:=fun b o e=>(I.bs b o e).1
theorem Inv.mod (I:Inv X pins σ H s):Mod X.K X.mg X.base:=I.ok.mod
theorem Inv.kIn (I:Inv X pins σ H s):X.K.In s.heap:=I.ok.mod.kin.keeps I.bk
theorem Inv.lt (I:Inv X pins σ H s):X.env.locals<s.heap.objs.size:=let ⟨_,hn,_⟩:=I.loc;hn.lt
theorem Inv.sz (I:Inv X pins σ H s):X.s₀.heap.objs.size≤s.heap.objs.size:=Nat.le_trans I.ok.above (Nat.le_of_lt I.lt)
theorem Inv.nofs (I:Inv X pins σ H s) {a:Addr} (h:s.heap.objs.size≤a):a ∉ X.fs:=fun hb=>by
 obtain ⟨_,o,ho,_⟩:=I.ok.funs.mem hb
 exact absurd (Nat.lt_of_lt_of_le (Heap.lt_size ho) (Nat.le_trans I.sz h)) (Nat.lt_irrefl _)
theorem Inv.cne (I:Inv X pins σ H s):∀ x c,X.env.cells.lookup x=some c→c≠X.env.locals:=fun x c e z=>by
 obtain ⟨v,o,ho,hd⟩:=I.cell x c e
 obtain ⟨m,⟨o',es,ep,ho',hd',_⟩,_⟩:=I.loc
 rw [z,ho'] at ho;cases ho;rw [hd'] at hd;cases hd
theorem Inv.funs (I:Inv X pins σ H s):s.heap.FunFrames X.base X.outer:=by
 have all:∀ (l:List Env),(∀ b∈frs l,b∈X.fs)→X.s₀.heap.FunFrames X.base l→s.heap.FunFrames X.base l:=by
  intro l
  induction l with
  | nil=>intro _ _;trivial
  | cons env r ih=>
    intro hs hl
    obtain ⟨hk,⟨L,o,hf,hn,ho,hd⟩,hr⟩:=hl
    have hL:L∈X.fs:=hs L (by unfold frs;rw [List.filterMap_cons,hf];exact List.mem_cons_self)
    obtain ⟨sl,e⟩:=I.base.slot L o ho (I.ok.frf L hL) hL fun z=>I.ok.exfs L z hL
    exact ⟨hk,⟨L,_,hf,hn,e,hd⟩,ih (fun b hb=>hs b (by unfold frs;rw [List.filterMap_cons,hf];exact List.mem_cons_of_mem _ hb)) hr⟩
 exact all X.outer (fun _ hb=>hb) I.ok.funs
theorem Inv.stack (I:Inv X pins σ H s):s.heap.FunFrames X.base X.stack:=by
 rcases I.ok.stk with e | ⟨e,hf⟩
 ·rw [e];exact I.funs
 ·rw [e]
  obtain ⟨m,hn,_⟩:=I.loc
  refine .cons (by rw [I.ok.kind];decide) hf hn ?_ I.funs
  exact Heap.get?_none_of_le (Nat.le_trans I.ok.bsz I.ok.above)
theorem Inv.stkSub (I:Inv X pins σ H s):∀ b∈frs X.stack,b∈X.env.locals :: X.fs:=fun b hb=>by
 rcases I.ok.stk with e | ⟨e,hf⟩
 ·rw [e] at hb;exact List.mem_cons_of_mem _ hb
 ·rw [e] at hb
  unfold frs at hb
  rw [List.filterMap_cons,hf] at hb
  exact hb
theorem Inv.stkFree (I:Inv X pins σ H s):∀ b∈frs X.stack,H b=none:=fun b hb=>by
 rcases List.mem_cons.mp (I.stkSub b hb) with e | hb
 ·rw [e];exact I.free
 ·obtain ⟨_,o,ho,_⟩:=I.ok.funs.mem hb
  exact I.base.free b o ho (I.ok.frf b hb) fun z=>I.ok.exfs b z hb
theorem Inv.step {g':Array GenState} {t':Nat} {d':Drawn} {ch:List Addr} (I:Inv X pins σ H s)
 (hch:∀ b∈ch,(b∈X.ex∨X.s₀.heap.objs.size≤b)∧b≠X.env.locals∧(∀ x c,X.env.cells.lookup x=some c→c≠b)∧∀ p∈X.pn ++ pins,p.1≠b)
 (keep:∀ b o,b≠X.env.locals→b ∉ X.fs→b ∉ ch→s.heap.get? b=some o→H b=none→h'.get? b=some o)
 (slot:∀ b o,b≠X.env.locals→b∈X.fs→b ∉ ch→s.heap.get? b=some o→H b=none→∃ sl,h'.get? b=some { o with slots:=sl }) (free:∀ b o,b ∉ ch→s.heap.get? b=some o→H b=none→H' b=none)
 (there:∀ b o,b ∉ ch→s.heap.get? b=some o→∃ o',h'.get? b=some o')
 (tups:∀ b xs,H b=some (.tup xs)→H' b=some (.tup xs)) (frzs:∀ b o u,H b=some (.frz o u)→H' b=some (.frz o u)) (tbls:∀ b ps,H b=some (.tbl ps)→∃ more,H' b=some (.tbl (ps ++ more)))
 (ns:∀ m,s.heap.Ns X.env.locals m→h'.Ns X.env.locals m) (hok:HOk X.prog X.w H' h') (hg:AllBare g') :
 Inv X pins σ H' { s with heap:=h',gens:=g',drawn:=d',toks:=t' }:=by
 have neL:∀ b o,X.s₀.heap.get? b=some o→b≠X.env.locals:=fun b o e=>Nat.ne_of_lt (Nat.lt_of_lt_of_le (Heap.lt_size e) I.ok.above)
 have neC:∀ b o,X.s₀.heap.get? b=some o→b ∉ X.ex→b ∉ ch:=fun b o e hx hb=>by
  rcases (hch b hb).1 with z | z
  ·exact hx z
  ·exact absurd (Nat.lt_of_lt_of_le (Heap.lt_size e) z) (Nat.lt_irrefl _)
 have cellK:∀ x c,X.env.cells.lookup x=some c→∀ v,s.heap.IsCell c v→h'.IsCell c v:=fun x c e v ⟨o,ho,hd⟩=>by
  have nch:c ∉ ch:=fun z=>(hch c z).2.2.1 x c e rfl
  by_cases hc:c∈X.fs
  ·obtain ⟨sl,q⟩:=slot c o (I.cne x c e) hc nch ho (I.freeC x c e)
   exact ⟨_,q,hd⟩
  ·exact ⟨o,keep c o (I.cne x c e) hc nch ho (I.freeC x c e),hd⟩
 refine ⟨I.ok,I.os,hg,⟨fun b o e n hb hx=>?_,fun b o e n hb hx=>?_,fun b o e n hx=>?_,fun b o e hx=>?_,fun b xs e=>tups b xs (I.base.tups b xs e),fun b o xs e=>frzs b o xs (I.base.frzs b o xs e),fun b ps e=>?_⟩,?_,fun x c e=>?_,?_,fun x c e=>?_,fun p hp=>?_,hok,I.len⟩
 ·exact keep b o (neL b o e) hb (neC b o e hx) (I.base.keep b o e n hb hx) (I.base.free b o e n hx)
 ·obtain ⟨sl,e1⟩:=I.base.slot b o e n hb hx
  obtain ⟨sl',e2⟩:=slot b _ (neL b o e) hb (neC b o e hx) e1 (I.base.free b o e n hx)
  exact ⟨sl',e2⟩
 ·obtain ⟨o',e1⟩:=I.base.there b o e hx
  exact free b o' (neC b o e hx) e1 (I.base.free b o e n hx)
 ·obtain ⟨o',e1⟩:=I.base.there b o e hx
  exact there b o' (neC b o e hx) e1
 ·obtain ⟨m1,e1⟩:=I.base.tbls b ps e
  obtain ⟨m2,e2⟩:=tbls b _ e1
  exact ⟨m1 ++ m2,by rw [e2,Array.append_assoc]⟩
 ·obtain ⟨m,hn,hl⟩:=I.loc
  refine ⟨m,ns m hn,fun i x v e1 e2 e3=>?_⟩
  obtain ⟨u,r,l⟩:=hl i x v e1 e2 e3
  refine ⟨u,r,?_⟩
  rcases l with l | ⟨k,c,e,z⟩
  ·exact .inl l
  ·exact .inr ⟨k,c,e,cellK x c e _ z⟩
 ·obtain ⟨v,z⟩:=I.cell x c e
  exact ⟨v,cellK x c e v z⟩
 ·obtain ⟨m,⟨o,_,_,ho,_⟩,_⟩:=I.loc
  exact free _ o (fun z=>(hch _ z).2.1 rfl) ho I.free
 ·obtain ⟨v,o,ho,hd⟩:=I.cell x c e
  exact free c o (fun z=>(hch c z).2.2.1 x c e rfl) ho (I.freeC x c e)
 ·obtain ⟨e,n,ne,nf,d⟩:=I.pin p hp
  have nch:p.1 ∉ ch:=fun z=>(hch p.1 z).2.2.2 p hp rfl
  exact ⟨keep p.1 p.2 ne nf nch e n,free p.1 p.2 nch e n,ne,nf,d⟩
theorem Inv.un {t':Nat} (I:Inv X pins σ H s) (u:Un X.fs [] H H' s.heap h') (hok:HOk X.prog X.w H' h'):Inv X pins σ H' { s with heap:=h',toks:=t' }:=by
 obtain ⟨m,⟨o,es,ep,ho,r⟩,_⟩:=id I.loc
 obtain ⟨sl,hL⟩:=u.any ho I.free (by simp)
 exact I.step (g':=s.gens) (d':=s.drawn) (ch:=[]) (fun _ z=>nomatch z) (fun b o _ hb _ e n=>u.keep b o e n hb (by simp)) (fun b o _ hb _ e n=>u.slot b o e n hb (by simp)) (fun b o _ e n=>u.free b o e n (by simp)) (fun b o _ e=>u.there b o e (by simp)) u.tups u.frzs u.tbls (fun m' hm=>by
  obtain ⟨o',es',ep',ho',r'⟩:=hm
  rw [ho] at ho';cases ho'
  exact ⟨_,es',ep',hL,r'⟩) hok I.bare
theorem Inv.call {g':Array GenState} {t':Nat} {d':Drawn} {ch:List Addr} (I:Inv X pins σ H s) (u:Un (frs X.stack) ch H H' s.heap h') (hok:HOk X.prog X.w H' h') (hg:AllBare g')
 (hch:∀ b∈ch,(b∈X.ex∨X.s₀.heap.objs.size≤b)∧b≠X.env.locals∧(∀ x c,X.env.cells.lookup x=some c→c≠b)∧∀ p∈X.pn ++ pins,p.1≠b) :
 Inv X pins σ H' { s with heap:=h',gens:=g',drawn:=d',toks:=t' }:=by
 obtain ⟨m,⟨o,es,ep,ho,r⟩,_⟩:=id I.loc
 obtain ⟨sl,hL⟩:=u.any ho I.free fun z=>(hch _ z).2.1 rfl
 exact I.step (ch:=ch) hch (fun b o hL hb hc e n=>u.keep b o e n (fun z=>(List.mem_cons.mp (I.stkSub b z)).elim hL hb) hc) (fun b o _ _ hc e n=>u.any e n hc) (fun b o hc e n=>u.free b o e n hc) (fun b o hc e=>u.there b o e hc) u.tups u.frzs u.tbls (fun m' hm=>by
  obtain ⟨o',es',ep',ho',r'⟩:=hm
  rw [ho] at ho';cases ho'
  exact ⟨_,es',ep',hL,r'⟩) hok hg
theorem Inv.turned {t':Nat} {it:Addr} (I:Inv X pins σ H s) (k:∀ b o,b≠it→s.heap.get? b=some o→h'.get? b=some o) (hn:H it=none) (hL:it≠X.env.locals)
 (h1:it∈X.ex∨X.s₀.heap.objs.size≤it) (h2:∀ x c,X.env.cells.lookup x=some c→c≠it) (h3:∀ p∈X.pn ++ pins,p.1≠it):Inv X pins σ H { s with heap:=h',toks:=t' }:=by
 have nit:∀ b u,H b=some u→b≠it:=fun b u e z=>by rw [z,hn] at e;cases e
 refine I.step (g':=s.gens) (d':=s.drawn) (ch:=[it]) (fun b hb=>?_) (fun b o _ _ hc e _=>k b o (fun z=>hc (by simp [z])) e) (fun b o _ _ hc e _=>⟨o.slots,k b o (fun z=>hc (by simp [z])) e⟩) (fun _ _ _ _ n=>n)
  (fun b o hc e=>⟨o,k b o (fun z=>hc (by simp [z])) e⟩) (fun _ _ e=>e) (fun _ _ _ e=>e) (fun b ps e=>⟨#[],by rw [e];simp⟩) (fun m hm=>?_) (fun b u e=>?_) I.bare
 ·have e:b=it:=by simpa using hb
  subst e
  exact ⟨h1,hL,h2,h3⟩
 ·obtain ⟨o,es,ep,ho,r⟩:=hm
  exact ⟨o,es,ep,k _ o (Ne.symm hL) ho,r⟩
 ·refine (I.hok b u e).stay (fun c v hc q=>k c v ?_ q) (fun _ q=>q) fun _ _ q=>q
  rcases hc with z | z
  ·rw [z];exact nit b u e
  ·exact nit c _ z
theorem Inv.tok (I:Inv X pins σ H s) (t:Nat):Inv X pins σ H { s with toks:=t }:=I.un (h':=s.heap) (t':=t) Un.refl I.hok
theorem Inv.kept {t':Nat} (I:Inv X pins σ H s) (k:∀ b u,s.heap.get? b=some u→h'.get? b=some u):Inv X pins σ H { s with heap:=h',toks:=t' }:=I.un (Un.kept k) (I.hok.kept k)
theorem Inv.laid {a:Addr} {o:HO} {t':Nat} (I:Inv X pins σ H s) (k:∀ b u,s.heap.get? b=some u→h'.get? b=some u) (hp:s.heap.objs.size≤a) (new:bo X.prog X.w (upd H a o) h' a o) :
 Inv X pins σ (upd H a o) { s with heap:=h',toks:=t' }:=I.un (Un.laid k hp (I.hok.fresh hp)) (I.hok.laid k hp new)
theorem Inv.write {x e:Addr} {o:HO} {t':Nat} (I:Inv X pins σ H s) (mu:Mut (H x)) (he:e=x∨H e=some (.own x)) (k:∀ b u,b≠e→s.heap.get? b=some u→h'.get? b=some u) (heo:∃ u,h'.get? e=some u)
 (new:bo X.prog X.w (upd H x o) h' x o):Inv X pins σ (upd H x o) { s with heap:=h',toks:=t' }:=I.un (Un.write mu he k heo) (I.hok.write mu he k heo new)
theorem Inv.pins_of {pins':List (Addr×Obj)} (I:Inv X pins σ H s) (h:∀ p∈pins',s.heap.get? p.1=some p.2∧H p.1=none∧p.1≠X.env.locals∧p.1 ∉ X.fs∧∀ v,p.2.data≠.cell v):Inv X pins' σ H s:=
 ⟨I.ok,I.os,I.bare,I.base,I.loc,I.cell,I.free,I.freeC,fun p hp=>(List.mem_append.mp hp).elim (fun z=>I.pin p (List.mem_append_left _ z)) (h p),I.hok,I.len⟩
theorem iH {N:List Str} (hN:N.Nodup) {i j:Nat} {x:Str} (a:N[i]? = some x) (b:N[j]? = some x):i=j:=by
 obtain ⟨h1,e1⟩:=List.getElem?_eq_some_iff.mp a
 obtain ⟨h2,e2⟩:=List.getElem?_eq_some_iff.mp b
 exact (List.getElem_inj hN).mp (e1.trans e2.symm)
theorem jU {M:Model} {A:Around} {E:Value→Shared→Prop} {i:Nat} {x:Str} {v:V} {u:Value} {Q:Unit→Shared→Prop} (I:Inv X pins σ H s) (hN:X.N.Nodup) (hi:X.N[i]? = some x) (hx:Loc X.env.scope x) (r:aU v u)
 (h:∀ s',Inv X pins (σ.set i (some v)) H s'→(∃ a,Heap.SameBut a s.heap s'.heap∧(a=X.env.locals∨X.env.cells.lookup x=some a))→Q () s') (hf:X.fn x=true∨X.env.scope.names.lookup x=some .local:=by first | exact .inl rfl | exact .inr rfl | assumption):wpAny M A (storeName X.env x u) Q E s:=by
 obtain ⟨m,hn,hl⟩:=id I.loc
 have hcls:(X.env.scope.kind == .class || (X.env.scope.kind == .module && X.env.locals != X.env.globals))=false:=by rw [I.ok.kind];rfl
 have hiσ:i<σ.length:=by rw [I.len];exact (List.getElem?_eq_some_iff.mp hi).1
 have cne:=I.cne
 have tracked:∀ {a:Addr} {h':Heap},(∃ o,s.heap.get? a=some o∧H a=none)→Heap.SameBut a s.heap h'→HOk X.prog X.w H h':=fun {a h'} ha hs b ob e=>by
  obtain ⟨_,_,hfree⟩:=ha
  refine (I.hok b ob e).stay (fun c w' hc q=>(hs.2 c ?_).trans q) (fun _ q=>q) fun _ _ q=>q
  rintro rfl
  rcases hc with rfl | hc
  ·rw [hfree] at e;cases e
  ·rw [hfree] at hc;cases hc
 rcases hx with hk | hk
 ·refine wpAny_storeName_local hk hn (fun h' hn' hs=>?_) hcls
  obtain ⟨oL,_,_,hoL,_⟩:=id hn
  refine h _ ⟨I.ok,I.os,I.bare,⟨fun b o e n hb hx=>?_,fun b o e n hb hx=>?_,I.base.free,fun b o e hx=>?_,I.base.tups,I.base.frzs,I.base.tbls⟩,⟨_,hn',fun j y v' e1 e2 e3=>?_⟩,fun y c e=>?_,I.free,I.freeC,fun p hp=>?_,tracked ⟨oL,hoL,I.free⟩ hs,by simpa using I.len⟩ ⟨_,hs,.inl rfl⟩
  ·exact (hs.2 b (Nat.ne_of_lt (Nat.lt_of_lt_of_le (Heap.lt_size e) I.ok.above))).trans (I.base.keep b o e n hb hx)
  ·obtain ⟨sl,e1⟩:=I.base.slot b o e n hb hx
   exact ⟨sl,(hs.2 b (Nat.ne_of_lt (Nat.lt_of_lt_of_le (Heap.lt_size e) I.ok.above))).trans e1⟩
  ·obtain ⟨o',e1⟩:=I.base.there b o e hx
   exact ⟨o',(hs.2 b (Nat.ne_of_lt (Nat.lt_of_lt_of_le (Heap.lt_size e) I.ok.above))).trans e1⟩
  ·by_cases hj:j=i
   ·subst hj
    rw [hi] at e1;cases e1
    rw [List.getElem?_set_self hiσ] at e2
    cases e2
    exact ⟨u,r,.inl ⟨hk,by simp⟩⟩
   ·rw [List.getElem?_set_ne (Ne.symm hj)] at e2
    obtain ⟨u',r',q⟩:=hl j y v' e1 e2 e3
    refine ⟨u',r',?_⟩
    rcases q with ⟨k,e⟩ | ⟨k,c,e,z⟩
    ·refine .inl ⟨k,?_⟩
     have:y≠x:=fun e=>hj (iH hN e1 (e ▸ hi))
     simp [this,e]
    ·exact .inr ⟨k,c,e,z.sameBut hs (cne y c e)⟩
  ·obtain ⟨w',z⟩:=I.cell y c e
   exact ⟨w',z.sameBut hs (cne y c e)⟩
  ·obtain ⟨e,n,ne,nf,d⟩:=I.pin p hp
   exact ⟨(hs.2 p.1 ne).trans e,n,ne,nf,d⟩
 ·have hfn:X.fn x=true:=by
   rcases hf with z | z
   ·exact z
   ·rw [z] at hk;cases hk
  obtain ⟨c,hc⟩:=I.ok.has x (.inl hk)
  obtain ⟨w',z⟩:=I.cell x c hc
  refine wpAny_storeName_cell I.ok.kind hk hc z (fun h' hc' hs=>?_)
  obtain ⟨oc,hoc,hocd⟩:=id z
  refine h { s with heap:=h' } ⟨I.ok,I.os,I.bare,⟨fun b o e n hb hx=>?_,fun b o e n hb hx=>?_,I.base.free,fun b o e hx=>?_,I.base.tups,I.base.frzs,I.base.tbls⟩,⟨m,hn.sameBut hs (Ne.symm (cne x c hc)),fun j y v' e1 e2 e3=>?_⟩,fun y c' e=>?_,I.free,I.freeC,fun p hp=>?_,tracked ⟨oc,hoc,I.freeC x c hc⟩ hs,by simpa using I.len⟩ ⟨c,hs,.inr hc⟩
  ·exact (hs.2 b (Nat.ne_of_lt (Nat.lt_of_lt_of_le (Heap.lt_size e) (I.ok.cab x c hfn hc)))).trans (I.base.keep b o e n hb hx)
  ·obtain ⟨sl,e1⟩:=I.base.slot b o e n hb hx
   exact ⟨sl,(hs.2 b (Nat.ne_of_lt (Nat.lt_of_lt_of_le (Heap.lt_size e) (I.ok.cab x c hfn hc)))).trans e1⟩
  ·obtain ⟨o',e1⟩:=I.base.there b o e hx
   exact ⟨o',(hs.2 b (Nat.ne_of_lt (Nat.lt_of_lt_of_le (Heap.lt_size e) (I.ok.cab x c hfn hc)))).trans e1⟩
  ·by_cases hj:j=i
   ·subst hj
    rw [hi] at e1;cases e1
    rw [List.getElem?_set_self hiσ] at e2
    cases e2
    exact ⟨u,r,.inr ⟨.inl hk,c,hc,hc'⟩⟩
   ·rw [List.getElem?_set_ne (Ne.symm hj)] at e2
    obtain ⟨u',r',q⟩:=hl j y v' e1 e2 e3
    refine ⟨u',r',?_⟩
    rcases q with q | ⟨k,c',e,z'⟩
    ·exact .inl q
    ·refine .inr ⟨k,c',e,z'.sameBut hs ?_⟩
     rintro rfl
     exact hj (iH hN e1 (I.ok.inj _ _ _ e hc ▸ hi))
  ·by_cases hcc:c'=c
   ·subst hcc;exact ⟨_,hc'⟩
   ·obtain ⟨w2,z2⟩:=I.cell y c' e
    exact ⟨w2,z2.sameBut hs hcc⟩
  ·obtain ⟨e,n,ne,nf,d⟩:=I.pin p hp
   refine ⟨(hs.2 p.1 ?_).trans e,n,ne,nf,d⟩
   intro q
   rw [q,hoc] at e
   have q':oc=p.2:=Option.some.inj e
   exact d w' (by rw [← q'];exact hocd)
theorem iW {M:Model} {A:Around} {E:Value→Shared→Prop} {i:Nat} {x:Str} {v:V} {u:Value} {Q:Unit→Shared→Prop} (I:Inv X pins σ H s) (hN:X.N.Nodup) (hi:X.N[i]? = some x) (hx:Loc X.env.scope x) (r:aU v u)
 (h:∀ s',Inv X pins (σ.set i (some v)) H s'→Q () s') (hf:X.fn x=true∨X.env.scope.names.lookup x=some .local:=by first | exact .inl rfl | exact .inr rfl | assumption):wpAny M A (storeName X.env x u) Q E s:=
 jU I hN hi hx r (fun s' I' _=>h s' I') hf
theorem Inv.call' {s':Shared} {ch:List Addr} (I:Inv X pins σ H s) (ho:s'.os=s.os) (u:Un (frs X.stack) ch H H' s.heap s'.heap) (hok:HOk X.prog X.w H' s'.heap) (hg:AllBare s'.gens)
 (hch:∀ b∈ch,(b∈X.ex∨X.s₀.heap.objs.size≤b)∧b≠X.env.locals∧(∀ x c,X.env.cells.lookup x=some c→c≠b)∧∀ p∈X.pn ++ pins,p.1≠b):Inv X pins σ H' s':=by
 obtain ⟨h',g',d',t',o'⟩:=s'
 have e:o'=s.os:=ho
 subst e
 exact I.call (g':=g') (t':=t') (d':=d') u hok hg hch
end
abbrev XK:=Value→Option Addr→Hp→Prop
abbrev St:=List (Option V)
abbrev VK:=V→Hp→Prop
abbrev TE:=St→Hp→VK→Prop
abbrev TT:=St→Hp→(Bool→Hp→Prop)→Prop
abbrev TA:=St→Hp→(List V→Hp→Prop)→Prop
structure fJ where
 nx:St→Hp→Prop
 rt:VK
 bk:St→Hp→Prop:=fun _ _=>False
 ct:St→Hp→Prop:=fun _ _=>False
abbrev TS:=fJ→St→Hp→Prop
def EP (X:Cx) (pins:List (Addr×Obj)) (σ:St) (Q:VK) (u:Value) (s':Shared):Prop:=∃ v H',Inv X pins σ H' s'∧aU v u∧Q v H'
def TP (X:Cx) (pins:List (Addr×Obj)) (σ:St) (Q:Bool→Hp→Prop) (b:Bool) (s':Shared):Prop:=∃ H',Inv X pins σ H' s'∧Q b H'
def AP (X:Cx) (pins:List (Addr×Obj)) (σ:St) (Q:List V→Hp→Prop) (us:List Value) (s':Shared):Prop:=∃ vs H',Inv X pins σ H' s'∧aQ vs us∧Q vs H'
def SP (X:Cx) (pins:List (Addr×Obj)) (D:fJ) (f:Flow) (s':Shared):Prop:=
 match f with
 | .next=>∃ σ' H',Inv X pins σ' H' s'∧D.nx σ' H'
 | .brk=>∃ σ' H',Inv X pins σ' H' s'∧D.bk σ' H'
 | .cont=>∃ σ' H',Inv X pins σ' H' s'∧D.ct σ' H'
 | .ret u=>∃ v σ' H',Inv X pins σ' H' s'∧aU v u∧D.rt v H'
def PE (X:Cx) (e:Expr) (t:TE):Prop:=
 ∀ (pins:List (Addr×Obj)) (s:Shared) (σ:St) (H:Hp) (Q:VK),Inv X pins σ H s→t σ H Q→wpAny (model X.prog X.w) X.A (eval e X.env) (EP X pins σ Q) X.xe s
def PT (X:Cx) (e:Expr) (t:TT):Prop:=
 ∀ (pins:List (Addr×Obj)) (s:Shared) (σ:St) (H:Hp) (Q:Bool→Hp→Prop),Inv X pins σ H s→t σ H Q→wpAny (model X.prog X.w) X.A (isTrue e X.env (eval e X.env)) (TP X pins σ Q) X.xe s
def PW (X:Cx) (e:Expr) (t:TT):Prop:=
 ∀ (whole:Sem Value) (pins:List (Addr×Obj)) (s:Shared) (σ:St) (H:Hp) (Q:Bool→Hp→Prop),Inv X pins σ H s→t σ H Q→wpAny (model X.prog X.w) X.A (isTrue e X.env whole) (TP X pins σ Q) X.xe s
theorem PW.pt {X:Cx} {e:Expr} {t:TT} (h:PW X e t):PT X e t:=h _
def PA (X:Cx) (es:List Expr) (t:TA):Prop:=
 ∀ (pos:Pos) (pins:List (Addr×Obj)) (s:Shared) (σ:St) (H:Hp) (Q:List V→Hp→Prop),Inv X pins σ H s→t σ H Q→wpAny (model X.prog X.w) X.A (spliced (backTo pos (starEach es X.env))) (AP X pins σ Q) X.xe s
def PS (X:Cx) (st:Stmt) (t:TS):Prop:=
 ∀ (pins:List (Addr×Obj)) (s:Shared) (σ:St) (H:Hp) (D:fJ),Inv X pins σ H s→t D σ H→wpAny (model X.prog X.w) X.A (exec st X.env) (SP X pins D) X.xe s
def PSs (X:Cx) (st:List Stmt) (t:TS):Prop:=
 ∀ (pins:List (Addr×Obj)) (s:Shared) (σ:St) (H:Hp) (D:fJ),Inv X pins σ H s→t D σ H→wpAny (model X.prog X.w) X.A (execs st X.env) (SP X pins D) X.xe s
theorem thn {α:Type} {t:Sem α} {Q Q':α→Shared→Prop} {M:Model} {A:Around} {E:Value→Shared→Prop} {s:Shared} (h:wpAny M A t Q E s) (hQ:∀ a s,Q a s→Q' a s):wpAny M A t Q' E s:=wpAny_mono h hQ fun _ _ x=>x
end L2
namespace L2
section
variable {X:Cx}
def bW (i:Nat):TE:=fun σ H Q=>∃ v,σ[i]? = some (some v)∧Q v H
def tC (v:V):TE:=fun _ H Q=>Q v H
theorem xN {i:Nat} {x:Str} {pos:Pos} (hN:X.N[i]? = some x) (hv:Vis X.env.scope x) (hd:(x == ("__debug__":Str))=false:=by decide) (hcd:(x == ("__classdict__":Str))=false:=by decide):PE X (.Name x pos) (bW i):=by
 intro pins s σ H Q I h
 obtain ⟨v,e,h⟩:=h
 obtain ⟨m,hn,hl⟩:=I.loc
 obtain ⟨u,r,l⟩:=hl i x v hN e hv
 have fin:EP X pins σ Q u s:=⟨v,H,I,r,h⟩
 rcases l with ⟨hk,hm⟩ | ⟨hk,c,hc,hcell⟩
 ·exact wpAny_Name (wpAny_loadName_local I.ok.kind hk hn hm fin) hd
 ·rcases hk with hk | hk
  ·exact wpAny_Name (wpAny_loadName_cell I.ok.kind hk hc hcell fin) hd
  ·exact wpAny_Name (wpAny_loadName_free I.ok.kind hk hc hcell fin hcd) hd
theorem ac {i j pos}:PE X (.Constant (.int i) j pos) (tC (.int i)):=fun _ _ _ H _ I h=>wpAny_Constant_int ⟨.int i,H,I.tok _,⟨_,rfl⟩,h⟩
theorem fj {b j pos}:PE X (.Constant (.bool b) j pos) (tC (.bl b)):=fun _ _ _ H _ I h=>Constant_bool ⟨.bl b,H,I,rfl,h⟩
theorem dj {j pos}:PE X (.Constant .none j pos) (tC .non):=fun _ _ _ H _ I h=>Constant_none ⟨.non,H,I,rfl,h⟩
theorem ai {x j pos}:PE X (.Constant (.str x) j pos) (tC (.str x)):=fun _ _ _ H _ I h=>Calls.Constant_str ⟨.str x,H,I.tok _,⟨_,rfl⟩,h⟩
def Gl (X:Cx) (x:Str):Prop:=X.env.kindOf x=some .globalImplicit
theorem cW {E:Value→Shared→Prop} {pins:List (Addr×Obj)} {s:Shared} {σ:St} {H:Hp} {x:Str} {u:Value} {pos:Pos} {Q:Value→Shared→Prop} (I:Inv X pins σ H s) (hg:Gl X x) (hm:X.mg x=some u) (h:Q u s)
 (hd:(x == ("__debug__":Str))=false:=by decide):wpAny (model X.prog X.w) X.A (eval (.Name x pos) X.env) Q E s:=
 Calls.Name_function_global I.ok.kind hg (Calls.loadGlobal_global (by rw [I.ok.glob];exact I.mod.glob.keeps I.bk) hm h) hd
theorem dN {E:Value→Shared→Prop} {pins:List (Addr×Obj)} {s:Shared} {σ:St} {H:Hp} {x:Str} {u:Value} {pos:Pos} {Q:Value→Shared→Prop} (I:Inv X pins σ H s) (hg:Gl X x) (hm:X.mg x=none) (hv:bootBuiltins x=some u) (h:Q u s)
 (hn:x≠"__name__":=by decide) (hd:(x == ("__debug__":Str))=false:=by decide):wpAny (model X.prog X.w) X.A (eval (.Name x pos) X.env) Q E s:=by
 obtain ⟨mb,h1,h2⟩:=I.mod.blt
 exact Calls.Name_function_global I.ok.kind hg (Calls.loadGlobal_builtin (by rw [I.ok.glob];exact I.mod.glob.keeps I.bk) hm (by rw [I.ok.blt];exact h1.keeps I.bk) ((h2 x hn).trans hv) h) hd
theorem fq {x:Str} {v:V} {u:Value} {pos:Pos} (hg:Gl X x) (hm:X.mg x=some u) (r:aU v u) (hd:(x == ("__debug__":Str))=false:=by decide):PE X (.Name x pos) (tC v):=
 fun _ _ _ H _ I h=>cW I hg hm ⟨v,H,I,r,h⟩ hd
theorem ve {x:Str} {v:V} {u:Value} {pos:Pos} (hg:Gl X x) (hm:X.mg x=none) (hv:bootBuiltins x=some u) (r:aU v u) (hn:x≠"__name__":=by decide) (hd:(x == ("__debug__":Str))=false:=by decide):PE X (.Name x pos) (tC v):=
 fun _ _ _ H _ I h=>dN I hg hm hv ⟨v,H,I,r,h⟩ hn hd
variable {a b:Expr} {ta tb:TE} {pos:Pos}
def PC (X:Cx) (op:CmpOp) (a b:Expr) (t:TE):Prop:=
 ∀ (pins:List (Addr×Obj)) (s:Shared) (σ:St) (H:Hp) (Q:VK),Inv X pins σ H s→t σ H Q →
   wpAny (model X.prog X.w) X.A (eval a X.env) (fun v s₁=>wpAny (model X.prog X.w) X.A (eval b X.env) (fun u s₂=>wpAny (model X.prog X.w) X.A (compareOp op v u) (EP X pins σ Q) X.xe s₂) X.xe s₁) X.xe s
def tB (t:TE):TT:=fun σ H Q=>t σ H fun x H1=>∃ c,x = .bl c∧Q c H1
theorem kO {op:CmpOp} {t:TE} (h:PC X op a b t) (h1:behindInMarks op b=false:=by first | exact nobehind _ (by decide) (by decide) | rfl):PT X (.Compare a [op] [b] pos) (tB t):=by
 intro pins s σ H Q I hw
 refine wpAny_isTrue_Compare1 (thn (h pins s σ H _ I hw) fun v s1 h1=>thn h1 fun u s2 h2=>thn h2 fun c s3 ⟨x,H1,I1,r1,q1⟩=>?_) h1
 obtain ⟨d,rfl,q⟩:=q1
 cases r1
 exact wpAny_truthy_bool ⟨H1,I1,q⟩
theorem eR {e:Expr} {t:TE} (h:PE X e t) (he:∀ whole,isTrue e X.env whole=(do let v ← whole;standAt e.pos;holding [v] (truthy v)):=by intro _;rfl):PT X e (tB t):=by
 intro pins s σ H Q I hw
 refine isTrue_plain (thn (h pins s σ H _ I hw) fun v s1 ⟨x,H1,I1,r1,q1⟩=>?_) (he _)
 obtain ⟨d,rfl,q⟩:=q1
 cases r1
 exact wpAny_truthy_bool ⟨H1,I1,q⟩
variable {tA tB':TT} {rest:List Expr}
def vL (t u:TT):TT:=fun σ H Q=>t σ H fun c H1=>if c=true then u σ H1 Q else Q false H1
def tOr (t u:TT):TT:=fun σ H Q=>t σ H fun c H1=>if c=true then Q true H1 else u σ H1 Q
theorem bC (ha:PT X a tA):PW X (.BoolOp .And [a] pos) tA:=by
 intro wh pins s σ H Q I h
 refine isTrue_and (thn (ha pins s σ H Q I h) fun c s1 e=>?_)
 cases c with
 | true=>exact isTrue_and_nil e
 | false=>exact e
theorem dR (ha:PT X a tA):PW X (.BoolOp .Or [a] pos) tA:=by
 intro wh pins s σ H Q I h
 refine isTrue_or (thn (ha pins s σ H Q I h) fun c s1 e=>?_)
 cases c with
 | false=>exact isTrue_or_nil e
 | true=>exact e
theorem bE (ha:PT X a tA) (hb:PW X (.BoolOp .And (b :: rest) pos) tB'):PW X (.BoolOp .And (a :: b :: rest) pos) (vL tA tB'):=by
 intro wh pins s σ H Q I h
 refine isTrue_and (thn (ha pins s σ H _ I h) fun c s1 ⟨H1,I1,q1⟩=>?_)
 cases c with
 | true=>exact hb wh pins s1 σ H1 Q I1 q1
 | false=>exact ⟨H1,I1,q1⟩
theorem eB (ha:PT X a tA) (hb:PW X (.BoolOp .Or (b :: rest) pos) tB'):PW X (.BoolOp .Or (a :: b :: rest) pos) (tOr tA tB'):=by
 intro wh pins s σ H Q I h
 refine isTrue_or (thn (ha pins s σ H _ I h) fun c s1 ⟨H1,I1,q1⟩=>?_)
 cases c with
 | true=>exact ⟨H1,I1,q1⟩
 | false=>exact hb wh pins s1 σ H1 Q I1 q1
def tIf (t:TT) (ta tb:TE):TE:=fun σ H Q=>t σ H fun c H1=>if c=true then ta σ H1 Q else tb σ H1 Q
theorem sP {c:Expr} (hc:PT X c tA) (ha:PE X a ta) (hb:PE X b tb):PE X (.IfExp c a b pos) (tIf tA ta tb):=by
 intro pins s σ H Q I h
 refine wpAny_IfExp (thn (hc pins s σ H _ I h) fun d s1 ⟨H1,I1,q1⟩=>?_)
 cases d with
 | true=>exact ha pins s1 σ H1 Q I1 q1
 | false=>exact hb pins s1 σ H1 Q I1 q1
end
end L2
namespace L2
def SqL (K:W.Frag) (H:Hp) (a:Addr) (xs:List V):Prop:=
 Rd H a (.lst xs) ∨
  ∃ (o:Obj) (its:Array Value) (n:Nat),K.lookup a=some o∧o.cls = .type "list"∧o.dict=none∧o.data = .seq its n∧its.size≤sizeLine∧aQ xs its.toList
def SqT (K:W.Frag) (H:Hp) (a:Addr) (xs:List V):Prop:=
 Rd H a (.tup xs) ∨
  ∃ (o:Obj) (its:Array Value) (n:Nat),K.lookup a=some o∧o.cls = .type "tuple"∧o.data = .seq its n∧its.size≤sizeLine∧aQ xs its.toList
def An:Value→Option V
 | .none=>some .non
 | .bool b=>some (.bl b)
 | .int i _=>some (.int i)
 | .str x _=>some (.str x)
 | .bytes b _=>some (.byt b)
 | .float b _=>some (.flt b)
 | .ref a=>some (.ref a)
 | .type n=>some (.ty n)
 | _=>none
theorem aU.abs {x:V} {u:Value} (r:aU x u):An u=some x:=by
 cases x with
 | non=>cases r;rfl
 | bl _=>cases r;rfl
 | int _=>obtain ⟨t,rfl⟩:=r;rfl
 | str _=>obtain ⟨t,rfl⟩:=r;rfl
 | byt _=>obtain ⟨t,rfl⟩:=r;rfl
 | flt _=>obtain ⟨t,rfl⟩:=r;rfl
 | ref _=>cases r;rfl
 | ty _=>cases r;rfl
theorem aU.inj {x y:V} {u:Value} (r:aU x u) (q:aU y u):x=y:=Option.some.inj (r.abs.symm.trans q.abs)
theorem aQ.inj:∀ {xs ys:List V} {us:List Value},aQ xs us→aQ ys us→xs=ys
 | _,_,_,.nil,.nil=>rfl
 | _,_,_,.cons r t,.cons r' t'=>by rw [r.inj r',aQ.inj t t']
section
variable {X:Cx} {pins:List (Addr×Obj)} {σ:St} {H:Hp} {s:Shared} {a:Addr} {xs ys:List V}
theorem SqL.of {K:W.Frag} (h:H a=some (.lst xs)):SqL K H a xs:=.inl (.inl h)
theorem SqT.of {K:W.Frag} (h:H a=some (.tup xs)):SqT K H a xs:=.inl (.inl h)
theorem Inv.list (I:Inv X pins σ H s) (h:SqL X.K H a xs):∃ its:List Value,aQ xs its∧PlainL s.heap a its.toArray∧xs.length≤sizeLine:=by
 rcases h with h | ⟨o,its,n,hk,hc,hd,hs,hz,r⟩
 ·obtain ⟨z,its,n,r,e⟩:=h.ok I.hok
  exact ⟨its,r,⟨_,n,e,rfl,rfl,rfl⟩,z⟩
 ·refine ⟨its.toList,r,⟨o,n,I.kIn a o hk,hc,hd,by simpa using hs⟩,?_⟩
  have e:=r.length
  simp only [Array.length_toList] at e
  omega
theorem Inv.tuple (I:Inv X pins σ H s) (h:SqT X.K H a xs):∃ its:List Value,aQ xs its∧IsTup s.heap a its.toArray∧xs.length≤sizeLine:=by
 rcases h with h | ⟨o,its,n,hk,hc,hs,hz,r⟩
 ·obtain ⟨z,its,r,p⟩:=h.ok I.hok
  exact ⟨its,r,p,z⟩
 ·refine ⟨its.toList,r,⟨o,I.kIn a o hk,hc,n,by simpa using hs⟩,?_⟩
  have e:=r.length
  simp only [Array.length_toList] at e
  omega
theorem Inv.list_inj (I:Inv X pins σ H s) (h:SqL X.K H a xs) (h':SqL X.K H a ys):xs=ys:=by
 obtain ⟨its,r,⟨o,n,e,_,_,d⟩,_⟩:=I.list h
 obtain ⟨its',r',⟨o',n',e',_,_,d'⟩,_⟩:=I.list h'
 rw [e] at e';cases e'
 rw [d] at d'
 injection d' with d1 _
 have:its=its':=by simpa using congrArg Array.toList d1
 subst this
 exact r.inj r'
theorem Inv.tuple_inj (I:Inv X pins σ H s) (h:SqT X.K H a xs) (h':SqT X.K H a ys):xs=ys:=by
 obtain ⟨its,r,⟨o,e,_,n,d⟩,_⟩:=I.tuple h
 obtain ⟨its',r',⟨o',e',_,n',d'⟩,_⟩:=I.tuple h'
 rw [e] at e';cases e'
 rw [d] at d'
 injection d' with d1 _
 have:its=its':=by simpa using congrArg Array.toList d1
 subst this
 exact r.inj r'
end
abbrev Cx.wish (X:Cx) (E:Value→Shared→Prop):Cx:={ X with xe:=E }
abbrev Cx.nox (X:Cx):Cx:=X.wish fun _ _=>False
theorem Cx.Ok.wish {X:Cx} (ok:X.Ok) (E:Value→Shared→Prop):(X.wish E).Ok:=
 ⟨ok.mod,ok.kind,ok.glob,ok.blt,ok.above,ok.inj,ok.has,ok.cab,ok.hd,ok.frames,ok.stk,ok.exf,ok.bs,ok.bsz,ok.noex,ok.exfs,ok.funs,ok.frf⟩
theorem Cx.Ok.unwish {X:Cx} {E:Value→Shared→Prop} (ok:(X.wish E).Ok):X.Ok:=
 ⟨ok.mod,ok.kind,ok.glob,ok.blt,ok.above,ok.inj,ok.has,ok.cab,ok.hd,ok.frames,ok.stk,ok.exf,ok.bs,ok.bsz,ok.noex,ok.exfs,ok.funs,ok.frf⟩
section
variable {X:Cx} {pins:List (Addr×Obj)} {σ:St} {H:Hp} {s:Shared} {E:Value→Shared→Prop}
theorem Inv.wish (I:Inv X pins σ H s) (E:Value→Shared→Prop):Inv (X.wish E) pins σ H s:=⟨I.ok.wish E,I.os,I.bare,I.base,I.loc,I.cell,I.free,I.freeC,I.pin,I.hok,I.len⟩
theorem Inv.unwish (I:Inv (X.wish E) pins σ H s):Inv X pins σ H s:=⟨I.ok.unwish,I.os,I.bare,I.base,I.loc,I.cell,I.free,I.freeC,I.pin,I.hok,I.len⟩
theorem SP.unwish {D:fJ} {f:Flow} {s':Shared} (h:SP (X.wish E) pins D f s'):SP X pins D f s':=by
 cases f with
 | next=>obtain ⟨σ',H',I,q⟩:=h;exact ⟨σ',H',I.unwish,q⟩
 | brk=>obtain ⟨σ',H',I,q⟩:=h;exact ⟨σ',H',I.unwish,q⟩
 | cont=>obtain ⟨σ',H',I,q⟩:=h;exact ⟨σ',H',I.unwish,q⟩
 | ret u=>obtain ⟨v,σ',H',I,r,q⟩:=h;exact ⟨v,σ',H',I.unwish,r,q⟩
theorem PSs.nox {st:List Stmt} {t:TS} (h:PSs X.nox st t):PSs X st t:=fun pins s σ H D I hw=>
 wpAny_mono (h pins s σ H D (I.wish _) hw) (fun _ _ q=>q.unwish) fun _ _ z=>False.elim z
end
section
variable {X:Cx} {st:Stmt} {rest:List Stmt} {t u:TS} {e:Expr} {te:TE} {pos:Pos}
def pK:TS:=fun D σ H=>D.nx σ H
def vO (t u:TS):TS:=fun D σ H=>t { D with nx:=u D } σ H
theorem aw:PSs X [] pK:=fun _ _ σ H _ I h=>wpAny_execs_nil ⟨σ,H,I,h⟩
theorem ag (h1:PS X st t) (h2:PSs X rest u):PSs X (st :: rest) (vO t u):=by
 intro pins s σ H D I h
 refine wpAny_execs_cons (thn (h1 pins s σ H { D with nx:=u D } I h) fun f s1 q=>?_)
 cases f with
 | next=>
   obtain ⟨σ',H',I',q⟩:=q
   exact h2 pins s1 σ' H' D I' q
 | ret v=>exact q
 | brk=>exact q
 | cont=>exact q
theorem ah (h1:PS X st t):PSs X [st] t:=by
 intro pins s σ H D I h
 refine wpAny_execs_cons (thn (h1 pins s σ H D I h) fun f s1 q=>?_)
 cases f with
 | next=>exact wpAny_execs_nil q
 | ret v=>exact q
 | brk=>exact q
 | cont=>exact q
theorem Inv.quiet {pins:List (Addr×Obj)} {σ:St} {H:Hp} {s:Shared} (I:Inv X pins σ H s):interactive X.env=false:=by simp [interactive,I.ok.kind]
def Ab (te:TE):TS:=fun D σ H=>te σ H fun _ H1=>D.nx σ H1
theorem bB (he:PE X e te) (hs:swapsWith e none pos.line X.env=pure false:=by rfl):PS X (.Expr e pos) (Ab te):=by
 intro pins s σ H D I h
 exact wpAny_Expr_any (thn (he pins s σ H _ I h) fun v s1 ⟨x,H1,I1,r1,q1⟩=>⟨σ,H1,I1,q1⟩) I.quiet hs
def AM (te:TE):TS:=fun D σ H=>te σ H D.rt
theorem ar (he:PE X e te):PS X (.Return (some e) pos) (AM te):=by
 intro pins s σ H D I h
 exact wpAny_Return_some (thn (he pins s σ H _ I h) fun v s1 ⟨x,H1,I1,r1,q1⟩=>⟨x,σ,H1,I1,r1,q1⟩)
def tZ (c:TT) (t u:TS):TS:=fun D σ H=>c σ H fun b H1=>if b=true then t D σ H1 else u D σ H1
theorem aC {c:Expr} {a b:List Stmt} {tc:TT} (hc:PT X c tc) (ha:PSs X a t) (hb:PSs X b u):PS X (.If c a b pos) (tZ tc t u):=by
 intro pins s σ H D I h
 refine wpAny_If (thn (hc pins s σ H _ I h) fun d s1 ⟨H1,I1,q1⟩=>?_)
 cases d with
 | true=>exact ha pins s1 σ H1 D I1 q1
 | false=>exact hb pins s1 σ H1 D I1 q1
def yq:TS:=fun _ _ _=>False
theorem qA {sts:List Stmt}:PSs X sts yq:=fun _ _ _ _ _ _ h=>h.elim
end
abbrev TG:=V→St→Hp→(St→Hp→Prop)→Prop
abbrev TGs:=List V→St→Hp→(St→Hp→Prop)→Prop
def PG (X:Cx) (target:Expr) (t:TG):Prop:=
 ∀ (pins:List (Addr×Obj)) (s:Shared) (σ:St) (H:Hp) (v:V) (u:Value) (Q:St→Hp→Prop),Inv X pins σ H s→aU v u→t v σ H Q →
   wpAny (model X.prog X.w) X.A (assign target X.env u) (fun _ s'=>∃ σ' H',Inv X pins σ' H' s'∧Q σ' H') X.xe s
def PGs (X:Cx) (ts:List Expr) (t:TGs):Prop:=
 ∀ (pins:List (Addr×Obj)) (s:Shared) (σ:St) (H:Hp) (vs:List V) (us:List Value) (Q:St→Hp→Prop),Inv X pins σ H s→aQ vs us→t vs σ H Q →
   wpAny (model X.prog X.w) X.A (assignInOrder ((assignEach ts X.env).map (·.2)) us) (fun _ s'=>∃ σ' H',Inv X pins σ' H' s'∧Q σ' H') X.xe s
abbrev wL:=V→V→V→Hp→(Hp→Prop)→Prop
def yE (X:Cx) (t:wL):Prop:=
 ∀ (pins:List (Addr×Obj)) (s:Shared) (σ:St) (H:Hp) (o i v:V) (ov iv u:Value) (Q:Hp→Prop),Inv X pins σ H s→aU o ov→aU i iv→aU v u→t o i v H Q →
   wpAny (model X.prog X.w) X.A (setItem ov iv u) (fun _ s'=>∃ H',Inv X pins σ H' s'∧Q H') X.xe s
section
variable {X:Cx} {pos:Pos}
def aX (i:Nat):TG:=fun v σ H Q=>Q (σ.set i (some v)) H
theorem aV {i:Nat} {x:Str} (hN:X.N.Nodup) (hi:X.N[i]? = some x) (hx:Loc X.env.scope x) (hf:X.fn x=true∨X.env.scope.names.lookup x=some .local:=by first | exact .inl rfl | exact .inr rfl | assumption):PG X (.Name x pos) (aX i):=by
 intro pins s σ H v u Q I r h
 exact wpAny_assign_Name (iW I hN hi hx r (fun s' I'=>⟨_,H,I',h⟩) hf)
def wT:TGs:=fun vs σ H Q=>vs = []∧Q σ H
def lU (t:TG) (u:TGs):TGs:=fun vs σ H Q=>∃ v r,vs=v :: r∧t v σ H fun σ' H'=>u r σ' H' Q
theorem fu:PGs X [] wT:=by
 intro pins s σ H vs us Q I r h
 obtain ⟨e,h⟩:=h
 subst e
 cases r
 exact assignInOrder_nil ⟨σ,H,I,h⟩
theorem bQ {e:Expr} {es:List Expr} {t:TG} {u:TGs} (h1:PG X e t) (h2:PGs X es u)
 (hs:(assignEach (e :: es) X.env).map (·.2)=assign e X.env :: (assignEach es X.env).map (·.2):=by rfl):PGs X (e :: es) (lU t u):=by
 intro pins s σ H vs us Q I r h
 obtain ⟨v,vr,e1,h⟩:=h
 subst e1
 cases r with
 | cons r rr=>
   rw [hs]
   refine assignInOrder_cons (thn (h1 pins s σ H _ _ _ I r h) fun _ s1 ⟨σ1,H1,I1,q1⟩=>?_)
   exact h2 pins s1 σ1 H1 _ _ Q I1 rr q1
def wU (K:W.Frag) (n:Nat) (t:TGs):TG:=fun v σ H Q=>∃ a xs,v = .ref a∧SqT K H a xs∧xs.length=n∧t xs σ H Q
theorem iN {es:List Expr} {k:Nat} {t:TGs} {n:Nat} (hc:X.calm=true) (h:PGs X es t)
 (hn:(assignEach es X.env).length=n:=by rfl) (hst:(assignEach es X.env).findIdx? (·.1)=none:=by rfl):PG X (.Tuple es k pos) (wU X.K n t):=by
 intro pins s σ H v u Q I r hw
 obtain ⟨a,xs,e1,hq,hl,hw⟩:=hw
 subst e1
 cases r
 obtain ⟨its,rv,ht,hz⟩:=I.tuple hq
 refine assign_Tuple_tuple (I.ok.hd hc) ht (by simp [hn,← hl,rv.length]) hst fun h' hx=>?_
 have I1:Inv X pins σ H { s with heap:=h' }:=I.kept (t':=s.toks) fun b o e=>hx b o (Nat.ne_of_lt (Heap.lt_size e)) e
 exact h pins _ σ H xs _ Q I1 (by simpa using rv) hw
def As (to ti:TE) (t:wL):TG:=fun v σ H Q=>to σ H fun o H1=>ti σ H1 fun i H2=>t o i v H2 fun H3=>Q σ H3
theorem nz {o i:Expr} {to ti:TE} {t:wL} (ho:PE X o to) (hi:PE X i ti) (hs:yE X t)
 (ha:∀ v,assign (.Subscript o i pos) X.env v=(do
  let ov ← holding [v] (eval o X.env)
  let iv ← holding [v,ov] (eval i X.env)
  standAt pos
  holding [v,ov,iv] (setItem ov iv v)
  release [v,ov,iv] []):=by intro _;rfl):PG X (.Subscript o i pos) (As to ti t):=by
 intro pins s σ H v u Q I r h
 rw [ha]
 refine wpAny_bind (wpAny_holding (thn (ho pins s σ H _ I h) fun ov s1 ⟨x,H1,I1,r1,q1⟩=>?_))
 refine wpAny_bind (wpAny_holding (thn (hi pins s1 σ H1 _ I1 q1) fun iv s2 ⟨y,H2,I2,r2,q2⟩=>?_))
 refine wpAny_bind (wpAny_standAt (wpAny_bind (wpAny_holding (thn (hs pins s2 σ H2 x y v ov iv u _ I2 r1 r2 r q2) fun _ s3 ⟨H3,I3,q3⟩=>?_))))
 exact wpAny_release ⟨σ,H3,I3,q3⟩
def nV (te:TE) (g:TG):TS:=fun D σ H=>te σ H fun x H1=>g x σ H1 D.nx
theorem nE {tg e:Expr} {te:TE} {g:TG} (he:PE X e te) (hg:PG X tg g) (hs:swapsWithSole [tg] e pos.line X.env=pure false:=by rfl) (hw:swappedStores [tg] e X.env=pure none:=by rfl)
 (h1:(assignEach [tg] X.env).map (·.2) = [assign tg X.env]:=by rfl):PS X (.Assign [tg] e pos) (nV te g):=by
 intro pins s σ H D I h
 refine wpAny_Assign_stores (thn (he pins s σ H _ I h) fun v s1 ⟨x,H1,I1,r1,q1⟩=>?_) hs hw
 rw [h1]
 exact thn (hg pins s1 σ H1 x v _ I1 r1 q1) fun _ s2 q=>q
theorem xP {i:Nat} {x:Str} {e:Expr} {te:TE} {pos':Pos} (hN:X.N.Nodup) (hi:X.N[i]? = some x) (hx:Loc X.env.scope x) (he:PE X e te) (hs:swapsWith e (some (.Name x pos')) pos.line X.env=pure false:=by rfl) (hf:X.fn x=true∨X.env.scope.names.lookup x=some .local:=by first | exact .inl rfl | exact .inr rfl | assumption) :
 PS X (.Assign [.Name x pos'] e pos) (nV te (aX i)):=by
 intro pins s σ H D I h
 refine wpAny_Assign_Name (thn (he pins s σ H _ I h) fun v s1 ⟨y,H1,I1,r1,q1⟩=>?_) hs
 exact iW I1 hN hi hx r1 (fun s2 I2=>⟨_,H1,I2,q1⟩) hf
end
structure It where
 go:Nat→Hp→Prop
 yld:Nat→Hp→V→Hp→Prop
 stop:Nat→Hp→Prop
def dY (X:Cx) (pins:List (Addr×Obj)) (H:Hp) (b:Addr):Prop:=
 H b=none∧b≠X.env.locals∧b ∉ X.fs∧(b∈X.ex∨X.s₀.heap.objs.size≤b)∧(∀ x c,X.env.cells.lookup x=some c→c≠b)∧∀ p∈X.pn ++ pins,p.1≠b
theorem Inv.fpOk {X:Cx} {pins:List (Addr×Obj)} {σ:St} {H H':Hp} {s:Shared} {b:Addr} (I:Inv X pins σ H s) (hb:s.heap.objs.size≤b) (hn:H' b=none):dY X pins H' b:=by
 refine ⟨hn,Nat.ne_of_gt (Nat.lt_of_lt_of_le I.lt hb),I.nofs hb,.inr (Nat.le_trans I.sz hb),fun x c e z=>?_,fun p hp z=>?_⟩
 ·obtain ⟨v,q⟩:=I.cell x c e
  exact absurd (Nat.lt_of_lt_of_le q.lt (by rw [z];exact hb)) (Nat.lt_irrefl _)
 ·exact absurd (Nat.lt_of_lt_of_le (Heap.lt_size (I.pin p hp).1) (by rw [z];exact hb)) (Nat.lt_irrefl _)
structure ia (P:Program) (w:World) (K:W.Frag) (tg:Expr) (J:It) (fp:List Addr) (it:Addr) (tn:Nat→Heap→Prop):Prop where
 mem:it∈fp
 obj:∀ i h,tn i h→∀ b∈fp,∃ o,h.get? b=some o∧∀ v,o.data≠.cell v
 keep:∀ i h h',tn i h→(∀ b∈fp,∀ o,h.get? b=some o→h'.get? b=some o)→tn i h'
 item:∀ (X:Cx),X.prog=P→X.w=w→X.K=K→X.calm=true→∀ (i:Nat) (pins:List (Addr×Obj)) (s:Shared) (σ:St) (H:Hp) (E:Value→Shared→Prop),Inv X pins σ H s→(∀ b∈fp,dY X pins H b)→tn i s.heap→J.go i H →
  wpAny (model P w) X.A (pyNext (.ref it)) (fun r s1=>∃ u,r=some u ∧
   wpAny (model P w) X.A (letOwnedTupleGo tg (.ref it) u) (fun _ s2=>∃ x H',Inv X pins σ H' s2∧aU x u∧J.yld i H x H'∧tn (i+1) s2.heap∧∀ b∈fp,H' b=none) E s1) E s
 done:∀ (X:Cx),X.prog=P→X.w=w→X.K=K→X.calm=true→∀ (i:Nat) (pins:List (Addr×Obj)) (s:Shared) (σ:St) (H:Hp) (E:Value→Shared→Prop),Inv X pins σ H s→(∀ b∈fp,dY X pins H b)→tn i s.heap→J.stop i H →
  wpAny (model P w) X.A (pyNext (.ref it)) (fun r s1=>r=none∧Inv X pins σ H s1) E s
 self:∀ (A:Around) (i:Nat) (s:Shared) (Q:Value→Shared→Prop) (E:Value→Shared→Prop),tn i s.heap→Q (.ref it) s→wpAny (model P w) A (pyIter (.ref it)) Q E s
abbrev TI:=St→Hp→(It→Hp→Prop)→Prop
def PIE (X:Cx) (pins:List (Addr×Obj)) (σ:St) (tg:Expr) (R:It→Hp→Prop) (itv:Value) (s2:Shared):Prop:=
 ∃ (it:Addr) (fp:List Addr) (tn:Nat→Heap→Prop) (J:It) (H':Hp),itv = .ref it∧Inv X pins σ H' s2∧ia X.prog X.w X.K tg J fp it tn∧tn 0 s2.heap∧(∀ b∈fp,dY X pins H' b)∧R J H'
def PI (X:Cx) (tg iter:Expr) (wi:TI):Prop:=
 ∀ (pins:List (Addr×Obj)) (s:Shared) (σ:St) (H:Hp) (R:It→Hp→Prop),Inv X pins σ H s→wi σ H R →
   wpAny (model X.prog X.w) X.A (eval iter X.env) (fun v s1=>wpAny (model X.prog X.w) X.A (pyIter v) (PIE X pins σ tg R) X.xe s1) X.xe s
theorem oK {M:Model} {A:Around} {E:Value→Shared→Prop} {s:Shared} {tg:Expr} {it:Addr} {u:Value} {o:Obj} {n:String} {vs:Array Value} {Q:Unit→Shared→Prop} (ho:s.heap.get? it=some o) (hc:o.cls = .type n) (hd:o.data = .fields vs)
 (hn:["enumerate","zip","dict_itemiterator","dict_reverseitemiterator","odict_iterator","itertools.zip_longest","itertools.pairwise"].contains n=false) (hQ:Q () s):wpAny M A (letOwnedTupleGo tg (.ref it) u) Q E s:=by
 unfold letOwnedTupleGo
 cases tg <;> first
  | exact wpAny_pure hQ
  | (cases u <;> first
   | exact wpAny_pure hQ
   | (refine wpAny_bind (wpAny_load ho ?_)
      rw [hc,hd]
      show wpAny M A (if (["enumerate","zip","dict_itemiterator","dict_reverseitemiterator","odict_iterator","itertools.zip_longest","itertools.pairwise"].contains n && vs[0]? == some (rawInt _))=true then _ else _) Q E s
      rw [if_neg (by intro h;rw [hn,Bool.false_and] at h;cases h)]
      exact wpAny_pure hQ))
def Itl (K:W.Frag) (a:Addr):It:=
 ⟨fun i H=>∃ xs x,SqL K H a xs∧xs[i]? = some x,fun i H x H'=>H'=H∧∀ xs,SqL K H a xs→xs[i]? = some x,fun i H=>∃ xs,SqL K H a xs∧xs.length≤i⟩
def Itt (K:W.Frag) (a:Addr):It:=
 ⟨fun i H=>∃ xs x,SqT K H a xs∧xs[i]? = some x,fun i H x H'=>H'=H∧∀ xs,SqT K H a xs→xs[i]? = some x,fun i H=>∃ xs,SqT K H a xs∧xs.length≤i⟩
def Itr (lo:Int) (n:Nat):It:=⟨fun i _=>i<n,fun i H x H'=>H'=H∧x = .int (lo+i),fun i _=>n≤i⟩
theorem qM {P:Program} {w:World} {K:W.Frag} {tg:Expr} (a it:Addr):ia P w K tg (Itl K a) [it] it (fun i h=>h.IsListIter it a i) where
 mem:=by simp
 obj:=fun i h st b hb=>by
  have e:b=it:=by simpa using hb
  subst e
  obtain ⟨o,e,c,d⟩:=st
  exact ⟨o,e,fun v z=>by rw [d] at z;cases z⟩
 keep:=fun i h h' st k=>st.at fun o e=>k it (by simp) o e
 item:=by
  intro X hP hw hK hc i pins s σ H E I hf st hg
  subst hP hw hK
  obtain ⟨xs,x,hq,hx⟩:=hg
  obtain ⟨its,rv,p,hz⟩:=I.list hq
  obtain ⟨u,hu,ru⟩:=rv.get hx
  obtain ⟨f0,f1,f2,f3,f4,f5⟩:=hf it (by simp)
  refine wpAny_pyNext_list_item st p.isList (x:=u) (by simpa using hu) fun h' st' sb=>?_
  have I1:Inv X pins σ H { s with heap:=h' }:=I.turned (t':=s.toks) (fun b o hb e=>(sb.2 b hb).trans e) f0 f1 f3 f4 f5
  obtain ⟨o,e,c,d⟩:=id st'
  exact ⟨u,rfl,oK (s:={ s with heap:=h' }) e c d (by decide) ⟨x,H,I1,ru,⟨rfl,fun ys hy=>by rw [I.list_inj hy hq];exact hx⟩,st',fun b hb=>(hf b hb).1⟩⟩
 done:=by
  intro X hP hw hK hc i pins s σ H E I hf st hg
  subst hP hw hK
  obtain ⟨xs,hq,hx⟩:=hg
  obtain ⟨its,rv,p,hz⟩:=I.list hq
  obtain ⟨f0,f1,f2,f3,f4,f5⟩:=hf it (by simp)
  have hl:=rv.length
  exact wpAny_pyNext_list_end (I.ok.hd hc) st p.isList (by simp;omega) fun h' eb=>⟨rfl,I.turned (t':=s.toks) (fun b o hb e=>eb b o hb e) f0 f1 f3 f4 f5⟩
 self:=fun _ _ _ _ _ st h=>wpAny_pyIter_listiter st h
theorem og {P:Program} {w:World} {K:W.Frag} {tg:Expr} (a it:Addr):ia P w K tg (Itt K a) [it] it (fun i h=>h.IsTupleIter it a i) where
 mem:=by simp
 obj:=fun i h st b hb=>by
  have e:b=it:=by simpa using hb
  subst e
  obtain ⟨o,e,c,d⟩:=st
  exact ⟨o,e,fun v z=>by rw [d] at z;cases z⟩
 keep:=fun i h h' st k=>st.at fun o e=>k it (by simp) o e
 item:=by
  intro X hP hw hK hc i pins s σ H E I hf st hg
  subst hP hw hK
  obtain ⟨xs,x,hq,hx⟩:=hg
  obtain ⟨its,rv,p,hz⟩:=I.tuple hq
  obtain ⟨u,hu,ru⟩:=rv.get hx
  obtain ⟨f0,f1,f2,f3,f4,f5⟩:=hf it (by simp)
  refine wpAny_pyNext_tuple_item st (show s.heap.IsTuple a its.toArray from p) (x:=u) (by simpa using hu) fun h' st' sb=>?_
  have I1:Inv X pins σ H { s with heap:=h' }:=I.turned (t':=s.toks) (fun b o hb e=>(sb.2 b hb).trans e) f0 f1 f3 f4 f5
  obtain ⟨o,e,c,d⟩:=id st'
  exact ⟨u,rfl,oK (s:={ s with heap:=h' }) e c d (by decide) ⟨x,H,I1,ru,⟨rfl,fun ys hy=>by rw [I.tuple_inj hy hq];exact hx⟩,st',fun b hb=>(hf b hb).1⟩⟩
 done:=by
  intro X hP hw hK hc i pins s σ H E I hf st hg
  subst hP hw hK
  obtain ⟨xs,hq,hx⟩:=hg
  obtain ⟨its,rv,p,hz⟩:=I.tuple hq
  obtain ⟨f0,f1,f2,f3,f4,f5⟩:=hf it (by simp)
  have hl:=rv.length
  exact wpAny_pyNext_tuple_end (I.ok.hd hc) st (show s.heap.IsTuple a its.toArray from p) (by simp;omega) fun h' eb=>⟨rfl,I.turned (t':=s.toks) (fun b o hb e=>eb b o hb e) f0 f1 f3 f4 f5⟩
 self:=fun _ _ _ _ _ st h=>wpAny_pyIter_tupleiter st h
theorem oa {P:Program} {w:World} {K:W.Frag} {tg:Expr} (it:Addr) (lo:Int) (n:Nat):ia P w K tg (Itr lo n) [it] it (fun i h=>IsRangeIter h it (lo+(i:Nat) * 1) ((n:Int) - (i:Nat)) 1) where
 mem:=by simp
 obj:=fun i h st b hb=>by
  have e:b=it:=by simpa using hb
  subst e
  exact ⟨_,st,fun v z=>by
   have z':Data.fields _=Data.cell v:=z
   cases z'⟩
 keep:=fun i h h' st k=>k it (by simp) _ st
 item:=by
  intro X hP hw hK hc i pins s σ H E I hf st hg
  subst hP hw hK
  obtain ⟨f0,f1,f2,f3,f4,f5⟩:=hf it (by simp)
  have W:=Walks.range (prog:=X.prog) (w:=X.w) (I.ok.hd hc) it lo 1 n
  refine W.item i s _ _ hg st fun v h' tk hv st' kk=>?_
  obtain ⟨t,rfl⟩:=hv
  have I1:Inv X pins σ H { s with heap:=h',toks:=tk }:=I.turned (fun b o hb e=>kk b o (by simpa using hb) e) f0 f1 f3 f4 f5
  refine ⟨_,rfl,oK (s:={ s with heap:=h',toks:=tk }) (n:="range_iterator") st' rfl rfl (by decide) ⟨.int (lo+i),H,I1,⟨t,?_⟩,⟨rfl,rfl⟩,st',fun b hb=>(hf b hb).1⟩⟩
  rw [Int.mul_one]
 done:=by
  intro X hP hw hK hc i pins s σ H E I hf st hg
  subst hP hw hK
  obtain ⟨f0,f1,f2,f3,f4,f5⟩:=hf it (by simp)
  exact wpAny_pyNext_range_end (I.ok.hd hc) st (by have:n≤i:=hg;omega) fun h' eb=>⟨rfl,I.turned (t':=s.toks) (fun b o hb e=>eb b o hb e) f0 f1 f3 f4 f5⟩
 self:=fun _ _ _ _ _ st h=>wpAny_pyIter_rangeiter st h
end L2
namespace L2
section
variable {X:Cx} {tg:Expr}
theorem sV {pins:List (Addr×Obj)} {σ:St} {H:Hp} {s:Shared} {R:It→Hp→Prop} {E:Value→Shared→Prop} {lo hi:Int} {t u v:Tok} {tk:Nat} (I:Inv X pins σ H s) (h1:-(2 ^ 62)≤lo) (h2:lo<2 ^ 62) (h3:-(2 ^ 62)≤hi) (h4:hi<2 ^ 62)
 (q:R (Itr lo (hi - lo).toNat) H):wpAny (model X.prog X.w) X.A (pyIter (.ref s.heap.objs.size)) (PIE X pins σ tg R) E { s with heap:=s.heap.push { cls:=.type "range",data:=.fields #[.int lo t,.int hi u,.int 1 v] },toks:=tk }:=by
 refine wpAny_pyIter_range (IsRange.new ..) (small_one h1 h2 h3 h4) ?_
 have I1:Inv X pins σ H { s with heap:=s.heap.push { cls:=.type "range",data:=.fields #[.int lo t,.int hi u,.int 1 v] },toks:=tk }:=I.kept fun b o e=>Heap.get?_push_of_some _ e
 refine ⟨(s.heap.push { cls:=.type "range",data:=.fields #[.int lo t,.int hi u,.int 1 v] }).objs.size,[(s.heap.push { cls:=.type "range",data:=.fields #[.int lo t,.int hi u,.int 1 v] }).objs.size],_,_,H,rfl,
  I1.kept (t':=tk) fun b o e=>Heap.get?_push_of_some _ e,oa _ lo (hi - lo).toNat,?_,fun b hb=>?_,q⟩
 ·have e1:lo+((0:Nat):Int) * 1=lo:=by simp
  have e2:(((hi - lo).toNat:Nat):Int) - ((0:Nat):Int)=Builtin.Range.rangeSize lo hi 1:=by rw [rangeSize_one];split <;> omega
  show IsRangeIter _ _ (lo+((0:Nat):Int) * 1) ((((hi - lo).toNat:Nat):Int) - ((0:Nat):Int)) 1
  rw [e1,e2]
  exact Heap.get?_push_size _ rfl
 ·have e:b=(s.heap.push { cls:=.type "range",data:=.fields #[.int lo t,.int hi u,.int 1 v] }).objs.size:=by simpa using hb
  subst e
  exact I1.fpOk (Nat.le_refl _) (I1.hok.fresh (Nat.le_refl _))
def yP (ta:TA):TI:=fun σ H R=>ta σ H fun vs H1=>∃ j:Int,vs = [.int j]∧-(2 ^ 62)≤j∧j<2 ^ 62∧R (Itr 0 j.toNat) H1
theorem bN {a:Expr} {ta:TA} {p pos:Pos} (hg:Gl X "range") (hm:X.mg "range" = none) (ha:PA X [a] ta) (hs:starEach [a] X.env = [(false,eval a X.env)]:=by rfl):PI X tg (.Call (.Name "range" p) [a] [] pos) (yP ta):=by
 intro pins s σ H R I h
 refine Call_ (dN I hg hm boot_range (PyProof.Rows.callWith_type1 (thn (ha pos pins s σ H _ I h) fun us s1 ⟨vs,H1,I1,r1,q1⟩=>?_) hs rfl))
 obtain ⟨j,e,q1,q2,q⟩:=q1
 subst e
 cases r1 with
 | cons r rr=>
   cases rr
   obtain ⟨t,rfl⟩:=r
   exact call_range_1 (sV I1 (by omega) (by omega) q1 q2 (by simpa using q))
def Ac (wi:TI) (g:TG) (tb:TS):TS:=fun D σ H=>wi σ H fun J H1=>∃ W:Nat→Nat→St→Hp→Prop,(∃ m,W 0 m σ H1)∧∀ i m σ H,W i m σ H →
 (J.stop i H∧D.nx σ H)∨(J.go i H∧∃ N:St→Hp→Prop,(∀ σ' H',N σ' H'→∃ m',m'<m∧W (i+1) m' σ' H')∧∀ x H',J.yld i H x H'→g x σ H' fun σ2 H2=>tb { D with nx:=N,ct:=N,bk:=D.nx } σ2 H2)
def iO (fp:List Addr) (h:Heap):List (Addr×Obj):=fp.filterMap fun b=>(h.get? b).map fun o=>(b,o)
theorem dO {fp:List Addr} {h:Heap} {b:Addr} {o:Obj} (hb:b∈fp) (e:h.get? b=some o):(b,o)∈iO fp h:=List.mem_filterMap.mpr ⟨b,hb,by rw [e];rfl⟩
theorem qw {fp:List Addr} {h:Heap} {p:Addr×Obj} (hp:p∈iO fp h):p.1∈fp∧h.get? p.1=some p.2:=by
 obtain ⟨b,hb,e⟩:=List.mem_filterMap.mp hp
 cases q:h.get? b with
 | none=>rw [q] at e;cases e
 | some o=>
   rw [q] at e
   have e':(b,o)=p:=Option.some.inj e
   subst e'
   exact ⟨hb,q⟩
theorem Inv.pinned {pins:List (Addr×Obj)} {σ:St} {H:Hp} {s:Shared} {fp:List Addr} (I:Inv X pins σ H s) (hf:∀ b∈fp,dY X pins H b) (ho:∀ b∈fp,∃ o,s.heap.get? b=some o∧∀ v,o.data≠.cell v):Inv X (pins ++ iO fp s.heap) σ H s:=
 I.pins_of fun p hp=>(List.mem_append.mp hp).elim (fun z=>I.pin p (List.mem_append_right _ z)) fun z=>by
   obtain ⟨hb,e⟩:=qw z
   obtain ⟨f0,f1,f2,_⟩:=hf p.1 hb
   obtain ⟨o,e',d⟩:=ho p.1 hb
   rw [e] at e';cases e'
   exact ⟨e,f0,f1,f2,d⟩
theorem Inv.unpinned {pins pl:List (Addr×Obj)} {σ:St} {H:Hp} {s:Shared} (I:Inv X (pins ++ pl) σ H s):Inv X pins σ H s:=I.pins_of fun p hp=>I.pin p (List.mem_append_right _ (List.mem_append_left _ hp))
theorem cQ {iter:Expr} {body:List Stmt} {wi:TI} {g:TG} {tb:TS} {pos:Pos} (hp:PassesOwn (model X.prog X.w) X.A X.env X.xe) (hc:X.calm=true) (hi:PI X tg iter wi) (hg:PG X tg g) (hb:PSs X body tb)
 (hs:∀ x,foldedSetIterable iter X.env x=pure x:=by intro _;rfl):PS X (.For tg iter body [] pos) (Ac wi g tb):=by
 intro pins s σ H D I h
 refine wpAny_For (thn (hi pins s σ H _ I h) fun v s1 h1=>thn h1 fun itv s2 h2=>?_) hs
 obtain ⟨it,fp,tn,J,H2,e,I2,T,st2,f2,W,⟨m0,w0⟩,turn⟩:=h2
 subst e
 have stat:∀ {H':Hp},(∀ b∈fp,H' b=none)→∀ b∈fp,dY X pins H' b:=fun hn b hb=>⟨hn b hb,(f2 b hb).2⟩
 refine codeAny_forLoop_any (fun n s'=>∃ i σ' H',Inv X pins σ' H' s'∧tn i s'.heap∧(∀ b∈fp,H' b=none)∧W i n σ' H') ?_ m0 ⟨0,σ,H2,I2,st2,fun b hb=>(f2 b hb).1,w0⟩
 rintro n s3 ⟨i,σ3,H3,I3,st3,fr3,w3⟩
 rcases turn i n σ3 H3 w3 with ⟨stop,qn⟩ | ⟨go,N,hN,step⟩
 ·refine wpAny_passesOwn hp (thn (T.done X rfl rfl rfl hc i pins s3 σ3 H3 X.xe I3 (stat fr3) st3 stop) fun r s4 ⟨hr,I4⟩=>?_)
  subst hr
  exact wpAny_execs_nil ⟨σ3,H3,I4,qn⟩
 ·refine wpAny_passesOwn hp (thn (T.item X rfl rfl rfl hc i pins s3 σ3 H3 X.xe I3 (stat fr3) st3 go) fun r s4 ⟨u,hr,h4⟩=>?_)
  subst hr
  refine wpAny_passesOwn hp (thn h4 fun _ s5 ⟨x,H5,I5,r5,y5,st5,fr5⟩=>?_)
  have I5':=I5.pinned (stat fr5) (T.obj _ _ st5)
  refine wpAny_passesOwn hp (thn (hg _ s5 σ3 H5 x u _ I5' r5 (step x H5 y5)) fun _ s6 ⟨σ6,H6,I6,q6⟩=>?_)
  refine wpAny_passesOwn hp (thn (hb _ s6 σ6 H6 _ I6 q6) fun f s7 q7=>?_)
  have again:∀ {σ7:St} {H7:Hp},Inv X (pins ++ iO fp s5.heap) σ7 H7 s7→N σ7 H7→∃ m,m<n∧∃ i σ' H',Inv X pins σ' H' s7∧tn i s7.heap∧(∀ b∈fp,H' b=none)∧W i m σ' H':=fun {σ7 H7} I7 n7=>by
   obtain ⟨m',hm,w7⟩:=hN σ7 H7 n7
   refine ⟨m',hm,i+1,σ7,H7,I7.unpinned,T.keep _ _ _ st5 fun b hb o e=>(I7.pin (b,o) (List.mem_append_right _ (List.mem_append_right _ (dO hb e)))).1,fun b hb=>?_,w7⟩
   obtain ⟨o,e,d⟩:=T.obj _ _ st5 b hb
   exact (I7.pin (b,o) (List.mem_append_right _ (List.mem_append_right _ (dO hb e)))).2.1
  cases f with
  | next=>obtain ⟨σ7,H7,I7,n7⟩:=q7;exact again I7 n7
  | cont=>obtain ⟨σ7,H7,I7,n7⟩:=q7;exact again I7 n7
  | brk=>obtain ⟨σ7,H7,I7,q7⟩:=q7;exact ⟨σ7,H7,I7.unpinned,q7⟩
  | ret v=>obtain ⟨x7,σ7,H7,I7,r7,q7⟩:=q7;exact ⟨x7,σ7,H7,I7.unpinned,r7,q7⟩
end
theorem ck {lo:Int} {n:Nat} {g:TG} {tb:TS} {D:fJ} {σ:St} {H:Hp} (Pv:Nat→St→Hp→Prop) (h0:Pv 0 σ H)
 (hs:∀ i σ H,i<n→Pv i σ H→g (.int (lo+i)) σ H fun σ2 H2=>tb { D with nx:=Pv (i+1),ct:=Pv (i+1),bk:=D.nx } σ2 H2) (hd:∀ σ H,Pv n σ H→D.nx σ H) :
 ∃ W:Nat→Nat→St→Hp→Prop,(∃ m,W 0 m σ H)∧∀ i m σ H,W i m σ H →
   ((Itr lo n).stop i H∧D.nx σ H)∨((Itr lo n).go i H∧∃ N:St→Hp→Prop,(∀ σ' H',N σ' H'→∃ m',m'<m∧W (i+1) m' σ' H')∧∀ x H',(Itr lo n).yld i H x H'→g x σ H' fun σ2 H2=>tb { D with nx:=N,ct:=N,bk:=D.nx } σ2 H2):=by
 refine ⟨fun i m σ H=>m=n - i∧i≤n∧Pv i σ H,⟨n,by simp,Nat.zero_le _,h0⟩,?_⟩
 rintro i m σ H ⟨rfl,hi,p⟩
 by_cases hlt:i<n
 ·refine .inr ⟨hlt,Pv (i+1),fun σ' H' p'=>⟨n - (i+1),by omega,rfl,hlt,p'⟩,fun x H' y=>?_⟩
  obtain ⟨e,y⟩:=y
  subst e y
  exact hs i σ _ hlt p
 ·have e:i=n:=by omega
  subst e
  exact .inl ⟨Nat.le_refl _,hd σ H p⟩
end L2
namespace L2
abbrev R2:=V→V→Hp→VK→Prop
def OpR (X:Cx) (f:Value→Value→Sem Value) (r:R2):Prop:=
 ∀ (pins:List (Addr×Obj)) (s:Shared) (σ:St) (H:Hp) (x y:V) (v u:Value) (Q:VK),Inv X pins σ H s→aU x v→aU y u→r x y H Q →
   wpAny (model X.prog X.w) X.A (f v u) (EP X pins σ Q) X.xe s
def UnR (X:Cx) (f:Value→Sem Value) (r:V→Hp→VK→Prop):Prop:=
 ∀ (pins:List (Addr×Obj)) (s:Shared) (σ:St) (H:Hp) (x:V) (v:Value) (Q:VK),Inv X pins σ H s→aU x v→r x H Q →
   wpAny (model X.prog X.w) X.A (f v) (EP X pins σ Q) X.xe s
def dU (X:Cx) (f:Value) (r:List V→Hp→VK→Prop):Prop:=
 ∀ (pins:List (Addr×Obj)) (s:Shared) (σ:St) (H:Hp) (xs:List V) (us:List Value) (Q:VK),Inv X pins σ H s→aQ xs us→r xs H Q →
   wpAny (model X.prog X.w) X.A (call f us) (EP X pins σ Q) X.xe s
def tOp (r:R2) (ta tb:TE):TE:=fun σ H Q=>ta σ H fun x H1=>tb σ H1 fun y H2=>r x y H2 Q
def tUn (r:V→Hp→VK→Prop) (ta:TE):TE:=fun σ H Q=>ta σ H fun x H1=>r x H1 Q
def rI (C:Int→Int→Prop) (g:Int→Int→V):R2:=fun x y H Q=>∃ i j,x = .int i∧y = .int j∧C i j∧Q (g i j) H
def rI0 (g:Int→Int→V):R2:=fun x y H Q=>∃ i j,x = .int i∧y = .int j∧Q (g i j) H
def rU (g:Int→V):V→Hp→VK→Prop:=fun x H Q=>∃ i,x = .int i∧Q (g i) H
section
variable {X:Cx} {a b c:Expr} {ta tb tc:TE} {pos:Pos}
theorem pS (ha:PE X a ta) (hb:PE X b tb) {pins:List (Addr×Obj)} {s:Shared} {σ:St} {H:Hp} {R:V→V→Hp→Prop} (I:Inv X pins σ H s)
 (h:ta σ H fun x H1=>tb σ H1 fun y H2=>R x y H2) {Q:Value→Shared→Prop} {f:Value→Value→Sem Value}
 (hf:∀ v u s2 x y H2,Inv X pins σ H2 s2→aU x v→aU y u→R x y H2→wpAny (model X.prog X.w) X.A (f v u) Q X.xe s2) :
 wpAny (model X.prog X.w) X.A (eval a X.env) (fun v s₁=>wpAny (model X.prog X.w) X.A (eval b X.env) (fun u s₂=>wpAny (model X.prog X.w) X.A (f v u) Q X.xe s₂) X.xe s₁) X.xe s:=by
 refine thn (ha pins s σ H _ I h) fun v s1 ⟨x,H1,I1,r1,q1⟩=>?_
 refine thn (hb pins s1 σ H1 _ I1 q1) fun u s2 ⟨y,H2,I2,r2,q2⟩=>?_
 exact hf v u s2 x y H2 I2 r1 r2 q2
theorem am {op:Operator} {r:R2} (ho:OpR X (binaryOp op) r) (ha:PE X a ta) (hb:PE X b tb):PE X (.BinOp a op b pos) (tOp r ta tb):=by
 intro pins s σ H Q I h
 exact wpAny_BinOp (pS ha hb I h fun v u s2 x y H2 I2 rx ry q=>ho pins s2 σ H2 x y v u Q I2 rx ry q)
theorem ww {op:UnaryOp} {r:V→Hp→VK→Prop} (ho:UnR X (unaryOp op) r) (ha:PE X a ta):PE X (.UnaryOp op a pos) (tUn r ta):=by
 intro pins s σ H Q I h
 exact UnaryOp_ (thn (ha pins s σ H _ I h) fun v s1 ⟨x,H1,I1,r1,q1⟩=>ho pins s1 σ H1 x v Q I1 r1 q1)
theorem opI {f:Value→Value→Sem Value} {C:Int→Int→Prop} {g:Int→Int→Int}
 (rule:∀ (i j:Int) (t u:Tok) (s:Shared) (Q:Value→Shared→Prop) (E:Value→Shared→Prop),C i j→Q (.int (g i j) s.toks) { s with toks:=s.toks+1 }→wpAny (model X.prog X.w) X.A (f (.int i t) (.int j u)) Q E s) :
 OpR X f (rI C fun i j=>.int (g i j)):=by
 intro pins s σ H x y v u Q I rx ry h
 obtain ⟨i,j,rfl,rfl,hc,q⟩:=h
 obtain ⟨t,rfl⟩:=rx
 obtain ⟨t',rfl⟩:=ry
 exact rule i j t t' s _ _ hc ⟨.int (g i j),H,I.tok _,⟨_,rfl⟩,q⟩
theorem zq {f:Value→Value→Sem Value} {g:Int→Int→Int}
 (rule:∀ (i j:Int) (t u:Tok) (s:Shared) (Q:Value→Shared→Prop) (E:Value→Shared→Prop),Q (.int (g i j) s.toks) { s with toks:=s.toks+1 }→wpAny (model X.prog X.w) X.A (f (.int i t) (.int j u)) Q E s) :
 OpR X f (rI0 fun i j=>.int (g i j)):=by
 intro pins s σ H x y v u Q I rx ry h
 obtain ⟨i,j,rfl,rfl,q⟩:=h
 obtain ⟨t,rfl⟩:=rx
 obtain ⟨t',rfl⟩:=ry
 exact rule i j t t' s _ _ ⟨.int (g i j),H,I.tok _,⟨_,rfl⟩,q⟩
theorem xw {f:Value→Value→Sem Value} {g:Int→Int→Bool}
 (rule:∀ (i j:Int) (t u:Tok) (s:Shared) (Q:Value→Shared→Prop) (E:Value→Shared→Prop),Q (.bool (g i j)) s→wpAny (model X.prog X.w) X.A (f (.int i t) (.int j u)) Q E s) :
 OpR X f (rI0 fun i j=>.bl (g i j)):=by
 intro pins s σ H x y v u Q I rx ry h
 obtain ⟨i,j,rfl,rfl,q⟩:=h
 obtain ⟨t,rfl⟩:=rx
 obtain ⟨t',rfl⟩:=ry
 exact rule i j t t' s _ _ ⟨.bl (g i j),H,I,rfl,q⟩
def Al (i j:Int):Prop:=0≤j∧j≤1000000∧i.natAbs<2 ^ 64
def ui (i j:Int):Prop:=(-(2 ^ 64)<i∧i<2 ^ 64)∨(-(2 ^ 64)<j∧j<2 ^ 64)
theorem ui.ok {i j:Int} (h:ui i j):IntMulOk i j:=by
 rcases h with ⟨h1,h2⟩ | ⟨h1,h2⟩
 ·exact .of_left (intBits_le_64 h1 h2)
 ·exact .of_right (intBits_le_64 h1 h2)
theorem xy:OpR X (binaryOp .Add) (rI0 fun i j=>.int (i+j)):=zq fun _ _ _ _ _ _ _ q=>add_int q
theorem bu:OpR X (binaryOp .Sub) (rI0 fun i j=>.int (i - j)):=zq fun _ _ _ _ _ _ _ q=>sub_int q
theorem xC:OpR X (binaryOp .Mult) (rI ui fun i j=>.int (i * j)):=opI fun _ _ _ _ _ _ _ hc q=>mul_int q hc.ok
theorem aE:OpR X (binaryOp .Mod) (rI (fun _ j=>0<j) fun i j=>.int (i % j)):=opI fun i j _ _ _ _ _ hc q=>by
 have h1:(0:Int)<j:=hc
 exact mod_int' (by omega) (by rw [Int.fmod_eq_emod_of_nonneg i (by omega)];exact q)
theorem xE:OpR X (binaryOp .Pow) (rI Al fun i j=>.int (i ^ j.toNat)):=opI fun _ _ _ _ _ _ _ hc q=>pow_int_small hc.1 hc.2.1 hc.2.2 q
theorem unI {f:Value→Sem Value} {g:Int→Int}
 (rule:∀ (i:Int) (t:Tok) (s:Shared) (Q:Value→Shared→Prop) (E:Value→Shared→Prop),Q (.int (g i) s.toks) { s with toks:=s.toks+1 }→wpAny (model X.prog X.w) X.A (f (.int i t)) Q E s) :
 UnR X f (rU fun i=>.int (g i)):=by
 intro pins s σ H x v Q I rx h
 obtain ⟨i,rfl,q⟩:=h
 obtain ⟨t,rfl⟩:=rx
 exact rule i t s _ _ ⟨.int (g i),H,I.tok _,⟨_,rfl⟩,q⟩
theorem uc:UnR X (unaryOp .USub) (rU fun i=>.int (-i)):=unI fun _ _ _ _ _ q=>neg_int q
end
def vA:V→V→Bool
 | .non,.non=>true | .non,.int _=>true | .int _,.non=>true | .non,.bl _=>true | .bl _,.non=>true | .non,.str _=>true | .str _,.non=>true
 | .int _,.int _=>true | .bl _,.bl _=>true | .str _,.str _=>true | .byt _,.byt _=>true
 | .int _,.str _=>true | .str _,.int _=>true | .bl _,.str _=>true | .str _,.bl _=>true
 | _,_=>false
def rEq:R2:=fun x y H Q=>vA x y=true∧Q (.bl (decide (x=y))) H
def rNe:R2:=fun x y H Q=>vA x y=true∧Q (.bl (!decide (x=y))) H
theorem fe {i j:Int}:decide (V.int i=V.int j)=(i == j):=by
 rw [Bool.eq_iff_iff]
 simp
theorem qX {i j:Bool}:decide (V.bl i=V.bl j)=(i == j):=by
 rw [Bool.eq_iff_iff]
 simp
theorem oH {i j:Str}:decide (V.str i=V.str j)=(i == j):=by
 rw [Bool.eq_iff_iff]
 simp
theorem oG {i j:Array UInt8}:decide (V.byt i=V.byt j)=(i.toList == j.toList):=by
 rw [Bool.eq_iff_iff]
 cases i
 cases j
 simp
section
variable {X:Cx} {a b c:Expr} {ta tb tc:TE} {pos:Pos}
theorem bj {pins:List (Addr×Obj)} {σ:St} {H:Hp} {s:Shared} {Q:VK} {k k':Bool} (I:Inv X pins σ H s) (q:Q (.bl k) H) (e:k=k'):EP X pins σ Q (.bool k') s:=by
 subst e
 exact ⟨.bl k,H,I,rfl,q⟩
theorem zt:OpR X (compareOp .Eq) rEq:=by
 intro pins s σ H x y v u Q I rx ry h
 obtain ⟨hs,q⟩:=h
 cases x with
 | non=>
   cases rx
   cases y with
   | non=>cases ry;exact PySem.EqNone.eq_none_none (bj I q (by simp))
   | bl j=>cases ry;exact PySem.EqNone.eq_none_bool (bj I q (by simp))
   | int j=>obtain ⟨t',rfl⟩:=ry;exact PySem.EqNone.eq_none_int (bj I q (by simp))
   | str j=>obtain ⟨t',rfl⟩:=ry;exact PySem.EqNone.eq_none_str (bj I q (by simp))
   | _=>exact absurd (show false=true from hs) Bool.false_ne_true
 | bl i=>
   cases rx
   cases y with
   | non=>cases ry;exact PySem.EqNone.eq_bool_none (bj I q (by simp))
   | bl j=>cases ry;exact eq_bool (bj I q qX)
   | str j=>obtain ⟨t',rfl⟩:=ry;exact PySem.EqMixed.eq_bool_str (bj I q (by simp))
   | _=>exact absurd (show false=true from hs) Bool.false_ne_true
 | int i=>
   obtain ⟨t,rfl⟩:=rx
   cases y with
   | non=>cases ry;exact PySem.EqNone.eq_int_none (bj I q (by simp))
   | int j=>obtain ⟨t',rfl⟩:=ry;exact eq_int (bj I q fe)
   | str j=>obtain ⟨t',rfl⟩:=ry;exact PySem.EqMixed.eq_int_str (bj I q (by simp))
   | _=>exact absurd (show false=true from hs) Bool.false_ne_true
 | str i=>
   obtain ⟨t,rfl⟩:=rx
   cases y with
   | non=>cases ry;exact PySem.EqNone.eq_str_none (bj I q (by simp))
   | bl j=>cases ry;exact PySem.EqMixed.eq_str_bool (bj I q (by simp))
   | int j=>obtain ⟨t',rfl⟩:=ry;exact PySem.EqMixed.eq_str_int (bj I q (by simp))
   | str j=>obtain ⟨t',rfl⟩:=ry;exact eq_str (bj I q oH)
   | _=>exact absurd (show false=true from hs) Bool.false_ne_true
 | byt i=>
   obtain ⟨t,rfl⟩:=rx
   cases y with
   | byt j=>obtain ⟨t',rfl⟩:=ry;exact W.eq_bytes (bj I q oG)
   | _=>exact absurd (show false=true from hs) Bool.false_ne_true
 | _=>cases y <;> exact absurd (show false=true from hs) Bool.false_ne_true
theorem zv:OpR X (compareOp .NotEq) rNe:=by
 intro pins s σ H x y v u Q I rx ry h
 obtain ⟨hs,q⟩:=h
 cases x with
 | non=>
   cases rx
   cases y with
   | non=>cases ry;exact PySem.EqNone.ne_none_none (bj I q (by simp))
   | bl j=>cases ry;exact PySem.EqNone.ne_none_bool (bj I q (by simp))
   | int j=>obtain ⟨t',rfl⟩:=ry;exact PySem.EqNone.ne_none_int (bj I q (by simp))
   | str j=>obtain ⟨t',rfl⟩:=ry;exact PySem.EqNone.ne_none_str (bj I q (by simp))
   | _=>exact absurd (show false=true from hs) Bool.false_ne_true
 | bl i=>
   cases rx
   cases y with
   | non=>cases ry;exact PySem.EqNone.ne_bool_none (bj I q (by simp))
   | bl j=>cases ry;exact ne_bool (bj I q (congrArg not qX))
   | str j=>obtain ⟨t',rfl⟩:=ry;exact PySem.EqMixed.ne_bool_str (bj I q (by simp))
   | _=>exact absurd (show false=true from hs) Bool.false_ne_true
 | int i=>
   obtain ⟨t,rfl⟩:=rx
   cases y with
   | non=>cases ry;exact PySem.EqNone.ne_int_none (bj I q (by simp))
   | int j=>obtain ⟨t',rfl⟩:=ry;exact ne_int (bj I q (congrArg not fe))
   | str j=>obtain ⟨t',rfl⟩:=ry;exact PySem.EqMixed.ne_int_str (bj I q (by simp))
   | _=>exact absurd (show false=true from hs) Bool.false_ne_true
 | str i=>
   obtain ⟨t,rfl⟩:=rx
   cases y with
   | non=>cases ry;exact PySem.EqNone.ne_str_none (bj I q (by simp))
   | bl j=>cases ry;exact PySem.EqMixed.ne_str_bool (bj I q (by simp))
   | int j=>obtain ⟨t',rfl⟩:=ry;exact PySem.EqMixed.ne_str_int (bj I q (by simp))
   | str j=>obtain ⟨t',rfl⟩:=ry;exact ne_str (bj I q (congrArg not oH))
   | _=>exact absurd (show false=true from hs) Bool.false_ne_true
 | byt i=>
   obtain ⟨t,rfl⟩:=rx
   cases y with
   | byt j=>obtain ⟨t',rfl⟩:=ry;exact W.ne_bytes (bj I q (congrArg not oG))
   | _=>exact absurd (show false=true from hs) Bool.false_ne_true
 | _=>cases y <;> exact absurd (show false=true from hs) Bool.false_ne_true
theorem wu:OpR X (compareOp .Lt) (rI0 fun i j=>.bl (decide (i<j))):=xw fun _ _ _ _ _ _ _ q=>lt_int q
theorem eg:OpR X (compareOp .Gt) (rI0 fun i j=>.bl (decide (j<i))):=xw fun _ _ _ _ _ _ _ q=>gt_int q
theorem zu:OpR X (compareOp .GtE) (rI0 fun i j=>.bl (decide (j≤i))):=xw fun _ _ _ _ _ _ _ q=>ge_int q
theorem xB:OpR X (compareOp .Is) (fun x y H Q=>y = .non∧Q (.bl (decide (x = .non))) H):=by
 intro pins s σ H x y v u Q I rx ry h
 obtain ⟨rfl,q⟩:=h
 cases ry
 refine is_none_gen (bj I q ?_)
 cases x <;> first
  | (cases rx;rfl)
  | (obtain ⟨t,rfl⟩:=rx;rfl)
theorem gS:OpR X (compareOp .IsNot) (fun x y H Q=>y = .non∧Q (.bl (!decide (x = .non))) H):=by
 intro pins s σ H x y v u Q I rx ry h
 obtain ⟨rfl,q⟩:=h
 cases ry
 refine isnot_none_gen (bj I q ?_)
 cases x <;> first
  | (cases rx;rfl)
  | (obtain ⟨t,rfl⟩:=rx;rfl)
theorem aq (b:Expr) {op:CmpOp} (h:op≠.In:=by decide) (h2:op≠.NotIn:=by decide):behindInMarks op b=false:=by
 have e1:(op == CmpOp.In)=false:=by cases op <;> first | rfl | exact absurd rfl h
 have e2:(op == CmpOp.NotIn)=false:=by cases op <;> first | rfl | exact absurd rfl h2
 cases b <;> simp [behindInMarks,e1,e2]
theorem fm {op:CmpOp} {r:R2} (ho:OpR X (compareOp op) r) (ha:PE X a ta) (hb:PE X b tb) (hm:behindInMarks op b=false):PE X (.Compare a [op] [b] pos) (tOp r ta tb):=by
 intro pins s σ H Q I h
 exact wpAny_Compare1 (pS ha hb I h fun v u s2 x y H2 I2 rx ry q=>ho pins s2 σ H2 x y v u Q I2 rx ry q) hm
def pL (t:TE):TT:=fun σ H Q=>t σ H fun x H'=>∃ k,x = .bl k∧Q k H'
theorem ak {op:CmpOp} {r:R2} (ho:OpR X (compareOp op) r) (ha:PE X a ta) (hb:PE X b tb) (hm:behindInMarks op b=false):PT X (.Compare a [op] [b] pos) (pL (tOp r ta tb)):=by
 intro pins s σ H Q I h
 refine wpAny_isTrue_Compare1 (thn (ha pins s σ H _ I h) fun v s1 ⟨x,H1,I1,r1,q1⟩=>thn (hb pins s1 σ H1 _ I1 q1) fun u s2 ⟨y,H2,I2,r2,q2⟩=>
  thn (ho pins s2 σ H2 x y v u _ I2 r1 r2 q2) fun c s3 ⟨z,H3,I3,r3,k,e,q3⟩=>?_) hm
 subst e
 cases r3
 exact wpAny_truthy_bool ⟨H3,I3,q3⟩
theorem fQ:(sizeLine:Nat)<2 ^ 63:=by rw [sizeLine_eq];decide
theorem ng:OpR X (binaryOp .Add) (fun x y H Q=>∃ i j,x = .str i∧y = .str j∧i.length+j.length≤sizeLine∧Q (.str (i ++ j)) H):=by
 intro pins s σ H x y v u Q I rx ry h
 obtain ⟨i,j,rfl,rfl,hz,q⟩:=h
 obtain ⟨t,rfl⟩:=rx
 obtain ⟨t',rfl⟩:=ry
 exact add_str (fun t' tk=>⟨.str (i ++ j),H,I.tok _,⟨_,rfl⟩,q⟩) hz
theorem jY {x:V} {us:List Value} (r:aQ [x] us):∃ u,us = [u]∧aU x u:=by
 cases r with
 | cons r1 r2=>cases r2;exact ⟨_,rfl,r1⟩
theorem eD:dU X (.type "int") (fun xs H Q=>(∃ i,xs = [.int i]∧Q (.int i) H)∨∃ k,xs = [.bl k]∧Q (.int (if k then 1 else 0)) H):=by
 intro pins s σ H xs us Q I r h
 rcases h with ⟨i,rfl,q⟩ | ⟨k,rfl,q⟩
 ·obtain ⟨u,rfl,t,rfl⟩:=jY r
  exact call_int_int ⟨.int i,H,I,⟨_,rfl⟩,q⟩
 ·obtain ⟨u,rfl,r1⟩:=jY r
  cases r1
  exact call_int_bool ⟨.int (if k then 1 else 0),H,I.tok _,⟨_,rfl⟩,q⟩
end
end L2
namespace L2
structure mD (h:Heap) (x dx C:Addr) (mA:Str→Option Value):Prop where
 obj:h.get? x=some (W.instObj C dx)
 ns:h.Ns1 dx mA
 ne:dx≠x
theorem jF {h:Heap} {dx:Addr} {mA:Str→Option Value} (n:h.Ns1 dx mA):∃ od,h.get? dx=some od∧∀ name,W.lookIn name od=some (mA name):=by
 obtain ⟨o,es,ep,ho,hd,hk,_,hm⟩:=n
 refine ⟨o,ho,fun name=>?_⟩
 have e:=hm name
 unfold nsFind findBy at e
 rw [← Array.find?_toList] at e
 unfold W.lookIn
 rw [hd]
 dsimp only
 split
 ·rename_i y q
  rw [q] at e
  exact congrArg some e
 ·rename_i q
  rw [q] at e
  have a:es.toList.any (·.refKey)=false:=by
   rw [List.any_eq_false]
   intro y hy
   obtain ⟨z,t,hkey⟩:=hk y (Array.mem_toList_iff.mp hy)
   simp [DictEntry.refKey,hkey]
  have a':¬ es.toList.any (·.refKey)=true:=by rw [a];exact Bool.false_ne_true
  rw [if_neg a']
  exact congrArg some e
theorem mD.look {h:Heap} {x dx C:Addr} {mA:Str→Option Value} (I:mD h x dx C mA):∃ od,W.InstAt h x (W.instObj C dx) C (some od)∧∀ name,W.lookIn name od=some (mA name):=
 let ⟨od,ho,hl⟩:=jF I.ns
 ⟨od,⟨I.obj,rfl,rfl,ho⟩,hl⟩
section
variable {prog:Program} {w:World} {A:Around} {E:Value→Shared→Prop} {s:Shared} {K:W.Frag} {x dx C f:Addr} {mA:Str→Option Value} {name:Str} {v:Value}
theorem uz {expr:Bool} {Q:Value→Shared→Prop} (X:K.In s.heap) (I:mD s.heap x dx C mA) (hg:W.plainGet K C name=true) (hh:W.hasDictIn K C=true)
 (ha:W.findIn K (.ref C) name=some none) (hv:mA name=some v) (hv':W.handedIn v=true) (h:Q v { s with toks:=s.toks+1 }) :
 wpAny (model prog w) A (getAttr (.ref x) name expr) Q E s:=by
 obtain ⟨od,J,hl⟩:=I.look
 exact W.get_value X J (W.plainGet_of hg).1 (W.findObj_own hh ha rfl (by rw [hl,hv])) hv' h
theorem rN {pl:Sem Bool} {Q:Value×List Value→Shared→Prop} (X:K.In s.heap) (I:mD s.heap x dx C mA) (hg:W.plainGet K C name=true)
 (hf:W.findIn K (.ref C) name=some (some (.ref f))) (ht:W.isFn K (.ref f)=true) (hv:mA name=none) (h:Q (.ref f,[.ref x]) s) :
 wpAny (model prog w) A (getMethod (.ref x) name pl) Q E s:=by
 obtain ⟨od,J,hl⟩:=I.look
 exact W.method_fn X J (W.plainGet_of hg).1 (W.plainGet_of hg).2 hf (beq_iff_eq.mp ht) (by show (W.lookIn name od).map (·.isSome)=some false;rw [hl,hv];rfl) h
theorem vB {ns:List Str} {Q:Unit→Shared→Prop} (X:K.In s.heap) (I:mD s.heap x dx C mA)
 (hs:W.findIn K (.ref C) "__setattr__" = some (some (.builtin "object.__setattr__"))) (hp:W.plainOver K C=true) (ht:W.takerIn K C name=some none) (hh:W.hasDictIn K C=true)
 (hw:PySem.Within mA ns) (hsz:ns.length≤sizeLine)
 (h:∀ h',mD h' x dx C (fun y=>if y=name then some v else mA y)→Heap.SameBut dx s.heap h'→Q () { s with heap:=h',toks:=s.toks+2 }) :
 wpAny (model prog w) A (setAttr (.ref x) name v) Q E s:=by
 obtain ⟨od,J,hl⟩:=I.look
 refine W.set_plain X J hs (W.osa_open (s:={ s with toks:=s.toks+1 }) (r:=none) X J hp ht fun b=>?_)
 obtain ⟨cd,hc,hd'⟩:=W.any_some hh
 have hx:s.heap.get? x=some ⟨.ref C,some dx,.plain,#[]⟩:=I.obj
 refine wpAny_bind (wpAny_pure (wpAny_bind (wpAny_bind (wpAny_loadPart hx (wpAny_bind (W.Looks.here (s:={ s with toks:=s.toks+1 }) (W.looks_clsIn X hc) ?_))))))
 rw [hd']
 refine wpAny_pure (a:=some dx) (wpAny_bind (wpAny_pure (wpAny_bind ?_)))
 refine wpAny_nsSet1 (s:={ s with toks:=s.toks+1 }) I.ns fun h' hn2 hs2=>?_
 obtain ⟨oD,esD,epD,hoD,hdD,hcD⟩:=hn2.count (PySem.Within.cons name v hw)
 refine wpAny_bind (wpAny_lookBehind hoD (by rw [hdD];exact pastItsLine_dict (Nat.le_trans hcD (by rw [List.length_cons];omega))) ?_)
 exact wpAny_pure (h _ ⟨(hs2.2 _ (Ne.symm I.ne)).trans I.obj,hn2,I.ne⟩ hs2)
theorem sf {R:Result→Shared→Prop} {vs:List Value} {kw:List (Str×Value)} (X:K.In s.heap) (hm:W.makesIn K C=true)
 (hi:W.findIn K (.ref C) "__init__" = some (some (.ref f))) (hf:W.typeIn K (.ref f)=some (.type "function"))
 (h:codeAny (model prog w) (A.under (.builtin "type.__call__" ⟨.ref C :: vs,kw⟩)) (.call (.ref f) ⟨.ref (s.heap.objs.size+1) :: vs,kw⟩) (W.InitBack (s.heap.objs.size+1) R)
  { s with heap:=(s.heap.push W.emptyDict).push (W.instObj C s.heap.objs.size) }) :
 codeAny (model prog w) A (.call (.ref C) ⟨vs,kw⟩) R s:=by
 obtain ⟨hh,g,d,t,os⟩:=s
 exact W.make_core (W.makes_of X hm) (W.looks_findIn X hi) (fun self=>W.bind_fn X self hf) (.inl rfl) h
end
def dH (f:Str) (v:V):List (Str×V)→List (Str×V)
 | []=>[(f,v)]
 | (g,x) :: r=>if g=f then (g,v) :: r else (g,x) :: dH f v r
theorem d8 (f g:Str) (v:V):∀ fs:List (Str×V),(dH f v fs).lookup g=if g=f then some v else fs.lookup g
 | []=>by
   show List.lookup g [(f,v)]=_
   by_cases h:g=f
   ·have hb:(g == f)=true:=beq_iff_eq.mpr h
    simp only [List.lookup,hb,if_pos h]
   ·have hb:(g == f)=false:=beq_eq_false_iff_ne.mpr h
    simp only [List.lookup,hb,if_neg h]
 | (k,x) :: r=>by
   have ih:=d8 f g v r
   rw [show dH f v ((k,x) :: r)=(if k=f then (k,v) :: r else (k,x) :: dH f v r) from rfl]
   by_cases hk:k=f
   ·rw [if_pos hk]
    by_cases h:g=k
    ·have hb:(g == k)=true:=beq_iff_eq.mpr h
     simp only [List.lookup,hb,if_pos (h.trans hk)]
    ·have hb:(g == k)=false:=beq_eq_false_iff_ne.mpr h
     simp only [List.lookup,hb,if_neg (fun e:g=f=>h (e.trans hk.symm))]
   ·rw [if_neg hk]
    by_cases h:g=k
    ·have hb:(g == k)=true:=beq_iff_eq.mpr h
     simp only [List.lookup,hb,if_neg (fun e:g=f=>hk (h.symm.trans e))]
    ·have hb:(g == k)=false:=beq_eq_false_iff_ne.mpr h
     simp only [List.lookup,hb]
     exact ih
theorem dD (f:Str) (v:V):∀ fs:List (Str×V),f∈(dH f v fs).map (·.1)∧∀ g,g∈fs.map (·.1)→g∈(dH f v fs).map (·.1)
 | []=>⟨by simp [dH],fun g h=>by simp at h⟩
 | (k,x) :: r=>by
   obtain ⟨i1,i2⟩:=dD f v r
   rw [show dH f v ((k,x) :: r)=(if k=f then (k,v) :: r else (k,x) :: dH f v r) from rfl]
   by_cases hk:k=f
   ·rw [if_pos hk]
    subst hk
    exact ⟨by simp,fun g h=>by simpa using h⟩
   ·rw [if_neg hk]
    refine ⟨?_,fun g h=>?_⟩
    ·rw [List.map_cons]
     exact List.mem_cons_of_mem _ i1
    ·rw [List.map_cons] at h ⊢
     rcases List.mem_cons.mp h with e | e
     ·exact List.mem_cons.mpr (.inl e)
     ·exact List.mem_cons_of_mem _ (i2 g e)
theorem gA (f:Str) (v:V):∀ fs:List (Str×V),(dH f v fs).length≤fs.length+1
 | []=>by simp [dH]
 | (k,x) :: r=>by
   have ih:=gA f v r
   rw [show dH f v ((k,x) :: r)=(if k=f then (k,v) :: r else (k,x) :: dH f v r) from rfl]
   by_cases hk:k=f
   ·rw [if_pos hk,List.length_cons,List.length_cons];omega
   ·rw [if_neg hk,List.length_cons,List.length_cons];omega
theorem cN.some_of {v:V} {o:Option Value} (r:cN (some v) o):∃ u,o=some u∧aU v u:=by
 cases o with
 | none=>exact (show False from r).elim
 | some u=>exact ⟨u,rfl,r⟩
theorem cN.none_of {o:Option Value} (r:cN none o):o=none:=by
 cases o with
 | none=>rfl
 | some u=>exact (show False from r).elim
theorem jw {v:V} {u:Value} (r:aU v u):W.handedIn u=true:=by
 cases v with
 | non=>cases (show u=Value.none from r);rfl
 | bl b=>cases (show u=Value.bool b from r);rfl
 | int i=>obtain ⟨t,e⟩:=(show ∃ t,u=Value.int i t from r);cases e;rfl
 | str x=>obtain ⟨t,e⟩:=(show ∃ t,u=Value.str x t from r);cases e;rfl
 | byt b=>obtain ⟨t,e⟩:=(show ∃ t,u=Value.bytes b t from r);cases e;rfl
 | flt b=>obtain ⟨t,e⟩:=(show ∃ t,u=Value.float b t from r);cases e;rfl
 | ref a=>cases (show u=Value.ref a from r);rfl
 | ty n=>cases (show u=Value.type n from r);rfl
section
variable {P:Program} {w:World} {H H':Hp} {h h':Heap} {a C dx:Addr} {fs fs':List (Str×V)}
theorem gP (hok:HOk P w H h) (e:H a=some (.ins C dx fs)):∃ mA,mD h a dx C mA∧(∀ f,cN (fs.lookup f) (mA f))∧PySem.Within mA (fs.map (·.1))∧fs.length≤1000∧H dx=some (.own a):=by
 obtain ⟨d,z,ne,ob,mA,n,r,q⟩:=(show bo P w H h a (.ins C dx fs) from hok a _ e)
 exact ⟨mA,⟨ob,n,ne⟩,r,q,z,d⟩
end
structure Cls (K:W.Frag) (C:Addr):Prop where
 pg:W.plainGet K C Str.empty=true
 hd:W.hasDictIn K C=true
 po:W.plainOver K C=true
 sa:W.findIn K (.ref C) "__setattr__" = some (some (.builtin "object.__setattr__"))
theorem Cls.get {K:W.Frag} {C:Addr} (c:Cls K C) (f:Str):W.plainGet K C f=true:=c.pg
def b7 (K:W.Frag) (C:Addr) (f:Str):Prop:=W.findIn K (.ref C) f=some none
theorem b7.taker {K:W.Frag} {C:Addr} {f:Str} (n:b7 K C f):W.takerIn K C f=some none:=by
 unfold W.takerIn
 rw [show W.findIn K (.ref C) f=some none from n]
 rfl
structure j6 (K:W.Frag) (C:Addr) (m:Str) (f:Addr):Prop where
 at_:W.findIn K (.ref C) m=some (some (.ref f))
 fn:W.isFn K (.ref f)=true
 kp:W.keepIn K (.ref f)=true
section
variable {X:Cx} {pins:List (Addr×Obj)} {σ:St} {H:Hp} {s:Shared} {a C dx:Addr} {fs:List (Str×V)} {f:Str} {v:V} {A:Around} {E:Value→Shared→Prop}
theorem mM {b:Bool} {Q:Value→Shared→Prop} (I:Inv X pins σ H s) (e:H a=some (.ins C dx fs)) (c:Cls X.K C) (n:b7 X.K C f) (l:fs.lookup f=some v)
 (h:∀ u s',Inv X pins σ H s'→aU v u→Q u s'):wpAny (model X.prog X.w) A (getAttr (.ref a) f b) Q E s:=by
 obtain ⟨mA,O,r,_,_,_⟩:=gP I.hok e
 obtain ⟨u,hu,ru⟩:=cN.some_of (v:=v) (o:=mA f) (by rw [← l];exact r f)
 exact uz I.kIn O (c.get f) c.hd n hu (jw ru) (h u _ (I.tok _) ru)
theorem mN {m:Str} {g:Addr} {pl:Sem Bool} {Q:Value×List Value→Shared→Prop} (I:Inv X pins σ H s) (e:H a=some (.ins C dx fs)) (c:Cls X.K C) (k:j6 X.K C m g) (l:fs.lookup m=none)
 (h:Q (.ref g,[.ref a]) s):wpAny (model X.prog X.w) A (getMethod (.ref a) m pl) Q E s:=by
 obtain ⟨mA,O,r,_,_,_⟩:=gP I.hok e
 have hn:mA m=none:=cN.none_of (by rw [← l];exact r m)
 exact rN I.kIn O (c.get m) k.at_ k.fn hn h
theorem nN {y:V} {u:Value} {Q:Unit→Shared→Prop} (I:Inv X pins σ H s) (e:H a=some (.ins C dx fs)) (c:Cls X.K C) (n:b7 X.K C f) (hl:fs.length<1000) (ry:aU y u)
 (h:∀ s',Inv X pins σ (upd H a (.ins C dx (dH f y fs))) s'→Q () s'):wpAny (model X.prog X.w) A (setAttr (.ref a) f u) Q E s:=by
 obtain ⟨mA,O,r,wi,_,ho⟩:=gP I.hok e
 have hz:(fs.map (·.1)).length≤sizeLine:=by rw [List.length_map,sizeLine_eq];omega
 refine vB I.kIn O c.sa c.po n.taker c.hd wi hz fun h' O' sb=>h _ ?_
 have hd:∃ o,h'.get? dx=some o:=let ⟨o,_,_,e',_⟩:=O'.ns;⟨o,e'⟩
 refine I.write (x:=a) (e:=dx) (by rw [e];exact True.intro) (.inr ho) (fun b q hb z=>(sb.2 b hb).trans z) hd ?_
 refine ⟨by rw [aj O.ne];exact ho,?_,O.ne,O'.obj,_,O'.ns,fun g=>?_,fun g hg=>?_⟩
 ·have:=gA f y fs;omega
 ·show cN ((dH f y fs).lookup g) (if g=f then some u else mA g)
  rw [d8]
  by_cases q:g=f
  ·rw [if_pos q,if_pos q];exact ry
  ·rw [if_neg q,if_neg q];exact r g
 ·by_cases q:g=f
  ·rw [q];exact (dD f y fs).1
  ·refine (dD f y fs).2 g (wi g fun z=>hg ?_)
   show (if g=f then some u else mA g)=none
   rw [if_neg q];exact z
theorem Inv.made (I:Inv X pins σ H s):Inv X pins σ (upd (upd H s.heap.objs.size (.own (s.heap.objs.size+1))) (s.heap.objs.size+1) (.ins C s.heap.objs.size []))
 { s with heap:=(s.heap.push W.emptyDict).push (W.instObj C s.heap.objs.size) }:=by
 have e1:(s.heap.push W.emptyDict).get? s.heap.objs.size=some W.emptyDict:=Heap.get?_push_size s.heap rfl
 have e2:((s.heap.push W.emptyDict).push (W.instObj C s.heap.objs.size)).get? (s.heap.objs.size+1)=some (W.instObj C s.heap.objs.size):=by
  have:=Heap.get?_push_size (s.heap.push W.emptyDict) (o:=W.instObj C s.heap.objs.size) rfl
  rwa [Heap.size_push] at this
 have e3:(s.heap.push W.emptyDict).Ns s.heap.objs.size (fun _=>none):=⟨W.emptyDict,#[],_,e1,rfl,(fun e he=>absurd he (by simp)),fun _=>rfl⟩
 have I1:=I.laid (a:=s.heap.objs.size) (o:=.own (s.heap.objs.size+1)) (h':=s.heap.push W.emptyDict) (t':=s.toks) (fun b u q=>Heap.get?_push_of_some _ q) (Nat.le_refl _) ⟨_,e1⟩
 refine I1.laid (a:=s.heap.objs.size+1) (o:=.ins C s.heap.objs.size []) (t':=s.toks) (fun b u q=>Heap.get?_push_of_some _ q) (Nat.le_of_eq (Heap.size_push _ _)) ?_
 have ne:s.heap.objs.size≠s.heap.objs.size+1:=Nat.ne_of_lt (Nat.lt_succ_self _)
 refine ⟨by rw [aj ne,ad],Nat.zero_le _,ne,e2,fun _=>none,(Heap.Ns1.of_empty e3).at fun o q=>Heap.get?_push_of_some _ q,fun _=>True.intro,fun y hy=>absurd rfl hy⟩
theorem oy {prog:Program} {w:World} {env:Env} {e:Expr} {f:Str} {pos:Pos} {s:Shared} {Q:Value→Shared→Prop} (hb:attributeBase e f env (eval e env)=eval e env)
 (h:wpAny (model prog w) A (eval e env) (fun o s₁=>wpAny (model prog w) A (getAttr o f true) Q E s₁) E s):wpAny (model prog w) A (eval (.Attribute e f pos) env) Q E s:=
 Attribute_any_ h (by rw [arm_eval_Attribute,hb])
end
def AI (K:W.Frag) (ta:TE) (f:Str):TE:=fun σ H Q=>ta σ H fun x H1=>∃ a C dx fs v,x = .ref a∧H1 a=some (.ins C dx fs)∧Cls K C∧b7 K C f∧fs.lookup f=some v∧Q v H1
def AD (K:W.Frag) (ta tv:TE) (f:Str):TS:=fun D σ H=>tv σ H fun y H1=>ta σ H1 fun x H2=>∃ a C dx fs,x = .ref a∧H2 a=some (.ins C dx fs)∧Cls K C∧b7 K C f∧fs.length<1000 ∧
 D.nx σ (upd H2 a (.ins C dx (dH f y fs)))
section
variable {X:Cx} {o e value:Expr} {f:Str} {pos pos' tpos:Pos} {ta tv:TE}
theorem kJ (he:PE X e ta) (hb:attributeBase e f X.env (eval e X.env)=eval e X.env):PE X (.Attribute e f pos) (AI X.K ta f):=by
 intro pins s σ H Q I h
 refine oy hb (thn (he pins s σ H _ I h) fun u s1 ⟨x,H1,I1,rx,a,C,dx,fs,v,ex,ea,c,n,l,q⟩=>?_)
 subst ex
 obtain rfl:u=Value.ref a:=rx
 exact mM I1 ea c n l fun u' s2 I2 ru=>⟨v,H1,I2,ru,q⟩
theorem sT (ha:PE X o ta) (hv:PE X value tv) (hs:swapsWith value (some (.Attribute o f pos')) pos.line X.env=pure false):PS X (.Assign [.Attribute o f pos'] value pos) (AD X.K ta tv f):=by
 intro pins s σ H D I h
 refine plainObj_wpAny_Assign_Attribute (thn (hv pins s σ H _ I h) fun u s1 ⟨y,H1,I1,ry,q⟩=>thn (ha pins s1 σ H1 _ I1 q) fun ov s2 ⟨x,H2,I2,rx,a,C,dx,fs,ex,ea,c,n,l,q2⟩=>?_) hs
 subst ex
 obtain rfl:ov=Value.ref a:=rx
 exact nN I2 ea c n l ry fun s3 I3=>⟨σ,_,I3,q2⟩
end
section
variable {X:Cx} {pins:List (Addr×Obj)} {σ:St} {H:Hp} {s:Shared} {A:Around} {E:Value→Shared→Prop} {Q:Value→Shared→Prop} {c:Value} {b:Bool}
inductive fM (K:W.Frag) (H:Hp):V→Value→Prop where
 | non:fM K H .non (.type "NoneType")
 | bl (x:Bool):fM K H (.bl x) (.type "bool")
 | int (i:Int):fM K H (.int i) (.type "int")
 | str (x:Str):fM K H (.str x) (.type "str")
 | flt (x:UInt64):fM K H (.flt x) (.type "float")
 | lst {a:Addr} {xs:List V} (e:H a=some (.lst xs)):fM K H (.ref a) (.type "list")
 | frz {a:Addr} {o:Obj} {xs:List V} (e:H a=some (.frz o (.lst xs))):fM K H (.ref a) (.type "list")
 | tup {a:Addr} {xs:List V} (e:H a=some (.tup xs)):fM K H (.ref a) (.type "tuple")
 | dK {a:Addr} {kvs:List (Key×V)} (e:H a=some (.dK kvs)):fM K H (.ref a) (.type "dict")
 | dT {a:Addr} {kvs:List (List Key×V)} (e:H a=some (.dT kvs)):fM K H (.ref a) (.type "dict")
 | ins {a C dx:Addr} {fs:List (Str×V)} (e:H a=some (.ins C dx fs)) (cl:Cls K C) (ha:W.findIn K (.ref C) "__class__" = some (some (.builtin "object.__class__")))
  (hn:W.specialIn K (.builtin "object.__class__") "__get__" = some (some (.builtin "getset_descriptor.__get__"))) (htk:W.takesIn K (.builtin "object.__class__")=some true)
  (hm:W.mroIn K C (.type "object")=some true):fM K H (.ref a) (.ref C)
theorem qh {x:V} {u t:Value} (I:Inv X pins σ H s) (rx:aU x u) (ty:fM X.K H x t) (e:W.kitOne X.K t c=some b) (h:∀ tk,Q (.bool b) { s with toks:=tk }) :
 wpAny (model X.prog X.w) A (call (.builtin "isinstance") [u,c]) Q E s:=by
 cases ty with
 | non=>cases (show u=Value.none from rx);exact W.kia_one W.kitx_none I.kIn True.intro e (fun z=>nomatch z) h
 | bl y=>cases (show u=Value.bool y from rx);exact W.kia_one W.kitx_bool I.kIn True.intro e (fun z=>nomatch z) h
 | int i=>obtain ⟨t,q⟩:=(show ∃ t,u=Value.int i t from rx);cases q;exact W.kia_one W.kitx_int I.kIn True.intro e (fun z=>nomatch z) h
 | str y=>obtain ⟨t,q⟩:=(show ∃ t,u=Value.str y t from rx);cases q;exact W.kia_one W.kitx_str I.kIn True.intro e (fun z=>nomatch z) h
 | flt y=>obtain ⟨t,q⟩:=(show ∃ t,u=Value.float y t from rx);cases q;exact W.kia_one W.kitx_float I.kIn True.intro e (fun z=>nomatch z) h
 | @lst a xs ea=>
   cases (show u=Value.ref a from rx)
   obtain ⟨_,_,n,_,h1⟩:=(show bo X.prog X.w H s.heap a (.lst xs) from I.hok a _ ea)
   exact W.kia_one W.kitx_list I.kIn ⟨_,h1,rfl⟩ e (fun z=>nomatch z) h
 | @frz a ob xs ea=>
   cases (show u=Value.ref a from rx)
   obtain ⟨_,_,_,n,_,h1⟩:=(show bo X.prog X.w H s.heap a (.frz ob (.lst xs)) from I.hok a _ ea)
   exact W.kia_one W.kitx_list I.kIn ⟨_,h1,rfl⟩ e (fun z=>nomatch z) h
 | @tup a xs ea=>
   cases (show u=Value.ref a from rx)
   obtain ⟨_,_,_,p⟩:=(show bo X.prog X.w H s.heap a (.tup xs) from I.hok a _ ea)
   obtain ⟨o,h1,h2,_⟩:=p
   exact W.kia_one W.kitx_tuple I.kIn ⟨o,h1,h2⟩ e (fun z=>nomatch z) h
 | @dK a kvs ea=>
   cases (show u=Value.ref a from rx)
   obtain ⟨_,_,vs,_,p⟩:=(show bo X.prog X.w H s.heap a (.dK kvs) from I.hok a _ ea)
   obtain ⟨o,es,ep,h1,h2,_⟩:=p
   exact W.kia_one W.kitx_dict I.kIn ⟨o,h1,h2.1⟩ e (fun z=>nomatch z) h
 | @dT a kvs ea=>
   cases (show u=Value.ref a from rx)
   obtain ⟨_,_,xs,_,o,es,ep,h1,h2,_⟩:=(show bo X.prog X.w H s.heap a (.dT kvs) from I.hok a _ ea)
   exact W.kia_one W.kitx_dict I.kIn ⟨o,h1,h2.1⟩ e (fun z=>nomatch z) h
 | @ins a C dx fs ea cl ha hn htk hm=>
   cases (show u=Value.ref a from rx)
   obtain ⟨mA,O,_⟩:=gP I.hok ea
   obtain ⟨od,J,_⟩:=O.look
   exact W.kia_one (W.kitx_own (cl.get _) cl.hd ha hn htk hm) I.kIn J e (fun z=>nomatch z) h
end
end L2
namespace L2
structure Room (k:Nat) (A:Around):Prop where
 hd:A.handled=none
 dp:A.depth+3 * k+5<recursionLimit
 un:A.units+16 * k+200<cLine
theorem Room.mono {j k:Nat} {A:Around} (r:Room k A) (h:j≤k):Room j A:=⟨r.hd,by have:=r.dp;omega,by have:=r.un;omega⟩
theorem Room.deeper {k:Nat} {A:Around} (r:Room (k+1) A) (env:Env):Room k (A.deeper env):=
 ⟨r.hd,by have:=r.dp;show A.depth+1+3 * k+5<_;omega,by have:=r.un;show A.units+3+16 * k+200<_;omega⟩
theorem mT {A:Around} {C:Addr} {us:List Value} {kw:List (Str×Value)}:(A.under (.builtin "type.__call__" ⟨.ref C :: us,kw⟩)).depth=A.depth+1:=by
 first | rfl | simp [Around.under,Code.weight,Code.isCreation,Code.isGuard,Code.isCaller,Code.frames,Code.isFrame,guardIds]
theorem mU {A:Around} {C:Addr} {us:List Value} {kw:List (Str×Value)}:(A.under (.builtin "type.__call__" ⟨.ref C :: us,kw⟩)).units=A.units+1:=by
 first | rfl | simp [Around.under,Code.cUnits,Code.frames,Code.isFrame]
theorem Room.make {k:Nat} {A:Around} (r:Room (k+1) A) (C:Addr) (us:List Value) (kw:List (Str×Value)):Room k (A.under (.builtin "type.__call__" ⟨.ref C :: us,kw⟩)):=
 ⟨r.hd,by have:=r.dp;rw [mT];omega,by have:=r.un;rw [mU];omega⟩
theorem Room.depth {k:Nat} {A:Around} (r:Room k A):A.depth<recursionLimit:=by have:=r.dp;omega
theorem Room.units {k:Nat} {A:Around} (r:Room k A):A.units+64<cLine:=by have:=r.un;omega
def je:TA:=fun _ H Q=>Q [] H
def cj (ta:TE) (tr:TA):TA:=fun σ H Q=>ta σ H fun x H1=>tr σ H1 fun xs H2=>Q (x :: xs) H2
section
variable {X:Cx} {e:Expr} {es:List Expr} {te:TE} {t:TA} {pos:Pos}
theorem ae:PA X [] je:=fun _ _ _ _ H Q I h=>Calls.spliced_nil ⟨[],H,I,.nil,h⟩
theorem u9 (ha:PE X e te) (hr:PA X es t) (hs:starEach (e :: es) X.env=(false,eval e X.env) :: starEach es X.env:=by rfl):PA X (e :: es) (cj te t):=by
 intro pos pins s σ H Q I h
 rw [hs]
 show wpAny _ _ (spliced ((false,eval e X.env) :: backTo pos (starEach es X.env))) _ _ s
 refine Calls.spliced_cons (thn (ha pins s σ H _ I h) fun u s1 ⟨x,H1,I1,r1,q1⟩=>?_)
 exact thn (hr pos pins s1 σ H1 _ I1 q1) fun us s2 ⟨xs,H2,I2,r2,q2⟩=>⟨x :: xs,H2,I2,.cons r1 r2,q2⟩
def AN (t:TA):TE:=fun σ H Q=>t σ H fun xs H1=>xs.length≤sizeLine∧∀ p,H1 p=none→Q (.ref p) (upd H1 p (.tup xs))
def AL (t:TA):TE:=fun σ H Q=>t σ H fun xs H1=>xs.length≤sizeLine∧∀ p,H1 p=none→Q (.ref p) (upd H1 p (.lst xs))
theorem ap {x1} (h:PA X es t):PE X (.Tuple es x1 pos) (AN t):=by
 intro pins s σ H Q I hq
 refine wpAny_Tuple_spliced (thn (h pos pins s σ H _ I hq) fun us s1 ⟨xs,H1,I1,r,z,q⟩=>⟨by rw [← r.length];exact z,?_⟩)
 have hf:H1 s1.heap.objs.size=none:=I1.hok.fresh (Nat.le_refl _)
 refine ⟨.ref s1.heap.objs.size,upd H1 s1.heap.objs.size (.tup xs),I1.laid (t':=s1.toks) (fun b u e=>Heap.get?_push_of_some _ e) (Nat.le_refl _) ?_,rfl,q _ hf⟩
 exact ⟨z,us,r,⟨_,Heap.get?_push_size _ rfl,rfl,_,rfl⟩⟩
theorem bY (h:PA X es t):PE X (.List es pos) (AL t):=by
 intro pins s σ H Q I hq
 refine wpAny_List_spliced (thn (h pos pins s σ H _ I hq) fun us s1 ⟨xs,H1,I1,r,z,q⟩=>⟨by rw [← r.length];exact z,?_⟩)
 have hf:H1 s1.heap.objs.size=none:=I1.hok.fresh (Nat.le_refl _)
 refine ⟨.ref s1.heap.objs.size,upd H1 s1.heap.objs.size (.lst xs),I1.laid (t':=s1.toks) (fun b u e=>Heap.get?_push_of_some _ e) (Nat.le_refl _) ?_,rfl,q _ hf⟩
 exact ⟨z,us,0,r,Heap.get?_push_size _ rfl⟩
end
abbrev Sp:=List V→Hp→VK→XK→Prop
abbrev CXT:=List Env→Hp→Shared→XK→Value→Shared→Prop
structure mC (P:Program) (w:World) (K:W.Frag) (mg:Str→Option Value) (base:Heap) (A:Around) (outer:List Env) (s:Shared) (H:Hp):Prop where
 frames:A.frames=some outer
 mod:Mod K mg base
 bs:∀ b o,base.get? b=some o→s.heap.get? b=some o∧H b=none
 bsz:base.objs.size≤s.heap.objs.size
 funs:s.heap.FunFrames base outer
 frf:∀ b∈frs outer,H b=none
 hok:HOk P w H s.heap
 bare:AllBare s.gens
def CE (outer:List Env) (P:Program) (w:World) (H:Hp) (s:Shared) (Q:VK) (u:Value) (s':Shared):Prop:=
 ∃ v H',s'.os=s.os∧AllBare s'.gens∧Un (frs outer) [] H H' s.heap s'.heap∧HOk P w H' s'.heap∧aU v u∧Q v H'
def CR (CX:CXT) (outer:List Env) (P:Program) (w:World) (H:Hp) (s:Shared) (Q:VK) (E:XK) (r:Result) (s':Shared):Prop:=
 match r with
 | .ok (.ret u)=>CE outer P w H s Q u s'
 | .ok _=>False
 | .error e=>CX outer H s E e s'
structure aY (P:Program) (w:World) (K:W.Frag) (mg:Str→Option Value) (base:Heap) (CX:CXT) (k:Nat) (f:Addr) (fd:FuncData) (ps:List Str) (sp:Sp):Prop where
 len:∀ vs H Q E,sp vs H Q E→vs.length=ps.length
 run:∀ (A:Around) (outer:List Env) (s:Shared) (H:Hp) (args:Args) (us:List Value) (vs:List V) (Q:VK) (E:XK),Room k A→mC P w K mg base A outer s H→BindsTo s fd args (ps.zip us)→aQ vs us→sp vs H Q E →
  codeAny (model P w) A (.call (.ref f) args) (CR CX outer P w H s Q E) s
theorem mC.make {P:Program} {w:World} {K:W.Frag} {mg:Str→Option Value} {base:Heap} {A:Around} {outer:List Env} {s:Shared} {H:Hp} (e:mC P w K mg base A outer s H) (C:Addr) (us:List Value) (kw:List (Str×Value)) :
 mC P w K mg base (A.under (.builtin "type.__call__" ⟨.ref C :: us,kw⟩)) outer s H:=⟨by first | exact e.frames | (simpa [Around.under,Code.envs,Code.isFrame,pushEnvs] using e.frames),e.mod,e.bs,e.bsz,e.funs,e.frf,e.hok,e.bare⟩
section
variable {X:Cx} {pins:List (Addr×Obj)} {σ:St} {H:Hp} {s s':Shared}
theorem Inv.env0 (I:Inv X pins σ H s):mC X.prog X.w X.K X.mg X.base X.A X.stack s H:=
 ⟨I.ok.frames,I.ok.mod,I.bs,Nat.le_trans I.ok.bsz I.sz,I.stack,I.stkFree,I.hok,I.bare⟩
theorem Inv.after {Q:VK} {u:Value} (I:Inv X pins σ H s) (h:CE X.stack X.prog X.w H s Q u s'):EP X pins σ Q u s':=by
 obtain ⟨v,H',os,bare,un,hok,r,q⟩:=h
 obtain ⟨hh,g,d,t,os'⟩:=s'
 obtain rfl:os'=s.os:=os
 exact ⟨v,H',I.call (h':=hh) (g':=g) (d':=d) (t':=t) (ch:=[]) un hok bare (fun b z=>absurd z (by simp)),r,q⟩
end
def jV (sp:Sp) (dvs:List V) (E:XK) (t:TA):TE:=fun σ H Q=>t σ H fun vs H1=>sp (vs ++ dvs) H1 Q E
def t5 (C:Addr) (m:Str) (sp:Sp) (dvs:List V) (E:XK) (ta:TE) (t:TA):TE:=fun σ H Q=>ta σ H fun x H1=>∃ a dx fs,x = .ref a∧H1 a=some (.ins C dx fs)∧fs.lookup m=none ∧
 t σ H1 fun vs H2=>sp (x :: (vs ++ dvs)) H2 Q E
def wH (C:Addr) (sp:Sp) (dvs:List V) (E:XK) (t:TA):TE:=fun σ H Q=>t σ H fun vs H1=>∀ x dx,H1 x=none→H1 dx=none→dx≠x →
 sp (.ref x :: (vs ++ dvs)) (upd (upd H1 dx (.own x)) x (.ins C dx [])) (fun v H2=>v = .non∧Q (.ref x) H2) E
def aI (K:W.Frag) (fd:FuncData) (ps:List Str) (ds:List Value):Prop:=
 ∀ (s:Shared) (us:List Value),K.In s.heap→(us ++ ds).length=ps.length→BindsTo s fd ⟨us,[]⟩ (ps.zip (us ++ ds))
theorem aI.all {K:W.Frag} {fd:FuncData} {ps:List Str} (h:∀ us:List Value,us.length=ps.length→bindArgs fd ⟨us,[]⟩=pure (ps.zip us)):aI K fd ps []:=fun s us _ hl=>by
 rw [List.append_nil] at hl ⊢
 exact .of_eq (h us hl)
def fK (CX:CXT) (X:Cx) (E:XK):Prop:=∀ (pins:List (Addr×Obj)) (σ:St) (H:Hp) (s:Shared) (e:Value) (s':Shared),Inv X pins σ H s→CX X.stack H s E e s'→X.xe e s'
section
variable {X:Cx} {CX:CXT} {k:Nat} {f C:Addr} {fd:FuncData} {ps:List Str} {sp:Sp} {dvs:List V} {ds:List Value} {E:XK} {x m:Str} {p pos apos:Pos} {e o:Expr} {es:List Expr} {ta:TE} {t:TA}
theorem sZ {pins:List (Addr×Obj)} {σ:St} {H:Hp} {s:Shared} {Q:VK} {us:List Value} {vs:List V} (F:aY X.prog X.w X.K X.mg X.base CX k f fd ps sp) (hr:Room k X.A) (hb:aI X.K fd ps ds) (hd:aQ dvs ds) (hx:fK CX X E)
 (I:Inv X pins σ H s) (r:aQ vs us) (h:sp (vs ++ dvs) H Q E):wpAny (model X.prog X.w) X.A (call (.ref f) us) (EP X pins σ Q) X.xe s:=by
 have r2:aQ (vs ++ dvs) (us ++ ds):=r.append hd
 have hl:(us ++ ds).length=ps.length:=by rw [← r2.length];exact F.len _ _ _ _ h
 refine wpAny_call (codeAny_mono (F.run X.A X.stack s H ⟨us,[]⟩ (us ++ ds) (vs ++ dvs) Q E hr I.env0 (hb s us I.kIn hl) r2 h) fun r s' hq=>?_)
 cases r with
 | error e=>exact hx pins σ H s e s' I hq
 | ok fl=>
   cases fl with
   | ret u=>exact I.after hq
   | next=>exact False.elim hq
   | brk=>exact False.elim hq
   | cont=>exact False.elim hq
theorem pj (F:aY X.prog X.w X.K X.mg X.base CX k f fd ps sp) (hr:Room k X.A) (hg:Gl X x) (hm:X.mg x=some (.ref f)) (hk:W.keepIn X.K (.ref f)=true) (hb:aI X.K fd ps ds) (hd:aQ dvs ds) (hx:fK CX X E)
 (ha:PA X (e :: es) t) (hdb:(x == ("__debug__":Str))=false:=by decide) (he:starEach (e :: es) X.env=(false,eval e X.env) :: starEach es X.env:=by rfl) (hpl:(backTo pos (starEach es X.env)).any (·.1)=false:=by rfl) :
 PE X (.Call (.Name x p) (e :: es) [] pos) (jV sp dvs E t):=by
 intro pins s σ H Q I h
 refine wpAny_Call_Name_kw (cW I hg hm ?_ hdb)
 refine W.callWith_K (h₀:=X.base) I.ok.mod.kin hk (thn (ha pos pins s σ H _ I h) fun us s1 ⟨vs,H1,I1,r,q⟩=>⟨I1.kIn,?_⟩) he hpl
 exact sZ F hr hb hd hx I1 r q
theorem pk {pl:Sem Bool} (he:PE X o ta) (c:Cls X.K C) (hm:j6 X.K C m f) (F:aY X.prog X.w X.K X.mg X.base CX k f fd ps sp) (hr:Room k X.A) (hb:aI X.K fd ps ds) (hd:aQ dvs ds) (hx:fK CX X E) (ha:PA X (e :: es) t)
 (hst:starEach (e :: es) X.env=(false,eval e X.env) :: starEach es X.env:=by rfl) (hpl:(backTo pos (starEach es X.env)).any (·.1)=false:=by rfl)
 (ht:eval (.Call (.Attribute o m apos) (e :: es) [] pos) X.env=(do
  let ov ← eval o X.env
  standAt apos.atName
  let (f,first) ← holding [ov] (getMethod ov m pl)
  callWith pos f first (backTo pos (starEach (e :: es) X.env)) (backToKw pos (keywordEach [] X.env))):=by rfl) :
 PE X (.Call (.Attribute o m apos) (e :: es) [] pos) (t5 C m sp dvs E ta t):=by
 intro pins s σ H Q I h
 refine W.methodCall_KW (pl:=pl) (thn (he pins s σ H _ I h) fun u s1 ⟨x,H1,I1,rx,a,dx,fs,ex,ea,l,q⟩=>?_) ht
 subst ex
 obtain rfl:u=Value.ref a:=rx
 refine mN I1 ea c hm l ?_
 refine W.callWith_K (first:=[.ref a]) (h₀:=X.base) I.ok.mod.kin hm.kp (thn (ha pos pins s1 σ H1 _ I1 q) fun us s2 ⟨vs,H2,I2,r,q2⟩=>⟨I2.kIn,?_⟩) hst hpl
 exact sZ (us:=.ref a :: us) (vs:=.ref a :: vs) F hr hb hd hx I2 (.cons rfl r) q2
structure Mk (K:W.Frag) (C f:Addr):Prop where
 makes:W.makesIn K C=true
 init:W.findIn K (.ref C) "__init__" = some (some (.ref f))
 fn:W.isFn K (.ref f)=true
 kp:W.keepIn K (.ref C)=true
theorem tf {pins:List (Addr×Obj)} {σ:St} {H:Hp} {s:Shared} {Q:VK} {us:List Value} {vs:List V} (M:Mk X.K C f) (F:aY X.prog X.w X.K X.mg X.base CX k f fd ps sp) (hr:Room (k+1) X.A) (hb:aI X.K fd ps ds) (hd:aQ dvs ds)
 (hx:fK CX X E) (I:Inv X pins σ H s) (r:aQ vs us)
 (h:∀ x dx,H x=none→H dx=none→dx≠x→sp (.ref x :: (vs ++ dvs)) (upd (upd H dx (.own x)) x (.ins C dx [])) (fun v H2=>v = .non∧Q (.ref x) H2) E) :
 wpAny (model X.prog X.w) X.A (call (.ref C) us) (EP X pins σ Q) X.xe s:=by
 have hq:=h (s.heap.objs.size+1) s.heap.objs.size (I.hok.fresh (Nat.le_succ _)) (I.hok.fresh (Nat.le_refl _)) (Nat.ne_of_lt (Nat.lt_succ_self _))
 have I2:=Inv.made (C:=C) I
 have r2:aQ (V.ref (s.heap.objs.size+1) :: (vs ++ dvs)) (Value.ref (s.heap.objs.size+1) :: (us ++ ds)):=.cons rfl (r.append hd)
 have hl:(Value.ref (s.heap.objs.size+1) :: us ++ ds).length=ps.length:=by
  have e:=r2.length
  rw [F.len _ _ _ _ hq] at e
  exact e.symm
 refine wpAny_call (sf (f:=f) I.kIn M.makes M.init (beq_iff_eq.mp M.fn) (codeAny_mono (F.run _ X.stack _ _ ⟨Value.ref (s.heap.objs.size+1) :: us,[]⟩ (Value.ref (s.heap.objs.size+1) :: (us ++ ds)) _ _ E (hr.make C us [])
  (I2.env0.make C us []) (hb _ (Value.ref (s.heap.objs.size+1) :: us) I2.kIn hl) r2 hq) fun r s' hq'=>?_))
 cases r with
 | error e=>exact hx pins σ _ _ e s' I2 hq'
 | ok fl=>
   cases fl with
   | ret u=>
     obtain ⟨v,H',I3,rv,ev,q3⟩:=I2.after hq'
     subst ev
     exact ⟨rv,⟨V.ref (s.heap.objs.size+1),H',I3,rfl,q3⟩⟩
   | next=>exact False.elim hq'
   | brk=>exact False.elim hq'
   | cont=>exact False.elim hq'
theorem sQ (M:Mk X.K C f) (F:aY X.prog X.w X.K X.mg X.base CX k f fd ps sp) (hr:Room (k+1) X.A) (hg:Gl X x) (hm:X.mg x=some (.ref C)) (hb:aI X.K fd ps ds) (hd:aQ dvs ds) (hx:fK CX X E)
 (hdb:(x == ("__debug__":Str))=false:=by decide):PE X (.Call (.Name x p) [] [] pos) (wH C sp dvs E je):=by
 intro pins s σ H Q I h
 refine wpAny_Call_Name_kw (cW I hg hm ?_ hdb)
 exact W.callWith_K0 I.kIn M.kp (tf (us:=[]) M F hr hb hd hx I .nil h)
end
def PK (X:Cx) (kws:List Keyword) (t:TA):Prop:=
 ∀ (pos:Pos) (pins:List (Addr×Obj)) (s:Shared) (σ:St) (H:Hp) (Q:List V→Hp→Prop),Inv X pins σ H s→t σ H Q→wpAny (model X.prog X.w) X.A (evalAll ((backToKw pos (keywordEach kws X.env)).map (·.2))) (AP X pins σ Q) X.xe s
section
variable {X:Cx} {CX:CXT} {k:Nat} {f C:Addr} {fd:FuncData} {ps ks:List Str} {sp:Sp} {E:XK} {x m:Str} {p pos apos kpos:Pos} {e o:Expr} {es:List Expr} {kws:List Keyword} {te ta:TE} {t tk:TA} {nm:Option Str}
theorem sS:PK X [] je:=fun _ _ _ _ H Q I h=>wpAny_evalAll_nil ⟨[],H,I,.nil,h⟩
theorem pr (ha:PE X e te) (hr:PK X kws t):PK X (⟨nm,e,kpos⟩ :: kws) (cj te t):=by
 intro pos pins s σ H Q I h
 show wpAny _ _ (evalAll ((do let v ← eval e X.env;standAt pos;pure v) :: (backToKw pos (keywordEach kws X.env)).map (·.2))) _ _ s
 refine wpAny_evalAll_cons (wpAny_bind (thn (ha pins s σ H _ I h) fun u s1 ⟨x,H1,I1,r1,q1⟩=>wpAny_bind (wpAny_standAt (wpAny_pure ?_))))
 exact thn (hr pos pins s1 σ H1 _ I1 q1) fun us s2 ⟨xs,H2,I2,r2,q2⟩=>⟨x :: xs,H2,I2,.cons r1 r2,q2⟩
variable {g:List Value→List Value→List Value} {gV:List V→List V→List V}
end
structure aA (N P:List Str) (sc:Scope):Prop where
 kind:sc.kind = .function
 co:sc.isCoroutine=false
 gen:sc.isGenerator=false
 nd:N.Nodup
 pre:N.take P.length=P
 par:∀ x∈P,sc.names.lookup x=some .local∨sc.names.lookup x=some .cell
 nofree:∀ y∈sc.names,y.2≠.free
theorem jp {kindOf:Str→Option NameKind} {x:Str}:∀ {binds:List (Str×Value)} {m:Str→Option Value},(∀ v,(x,v) ∉ binds)→bindL kindOf binds m x=m x
 | [],_,_=>rfl
 | (n,v) :: r,m,h=>by
   unfold bindL
   rw [jp fun w hw=>h w (List.mem_cons_of_mem _ hw)]
   split
   ·have:x≠n:=by rintro rfl;exact h v List.mem_cons_self
    simp [this]
   ·rfl
theorem jn {kindOf:Str→Option NameKind} {x:Str}:∀ {binds:List (Str×Value)} {m:Str→Option Value},(∀ v,(x,v) ∉ binds)→bindC kindOf binds m x=m x
 | [],_,_=>rfl
 | (n,v) :: r,m,h=>by
   unfold bindC
   rw [jn fun w hw=>h w (List.mem_cons_of_mem _ hw)]
   split
   ·rfl
   ·have:x≠n:=by rintro rfl;exact h v List.mem_cons_self
    simp [this]
theorem jo {kindOf:Str→Option NameKind} {x:Str} {v:Value}:∀ {P:List Str} {vs:List Value} {i:Nat} {m:Str→Option Value},P.Nodup→P[i]? = some x→vs[i]? = some v→kindOf x=some .local →
 bindL kindOf (P.zip vs) m x=some v
 | [],_,_,_,_,h,_,_=>by simp at h
 | _ :: _,[],_,_,_,_,h,_=>by simp at h
 | p :: P,w :: vs,0,m,nd,h1,h2,hk=>by
   simp at h1 h2;subst h1;subst h2
   show bindL kindOf ((p,w) :: P.zip vs) m p=_
   unfold bindL
   rw [jp fun v hv=>(List.nodup_cons.mp nd).1 (List.of_mem_zip hv).1,if_pos hk]
   simp
 | p :: P,w :: vs,i+1,m,nd,h1,h2,hk=>by
   show bindL kindOf ((p,w) :: P.zip vs) m x=_
   unfold bindL
   exact jo (i:=i) (List.nodup_cons.mp nd).2 (by simpa using h1) (by simpa using h2) hk
theorem jm {kindOf:Str→Option NameKind} {x:Str} {v:Value}:∀ {P:List Str} {vs:List Value} {i:Nat} {m:Str→Option Value},P.Nodup→P[i]? = some x→vs[i]? = some v→kindOf x≠some .local →
 bindC kindOf (P.zip vs) m x=some v
 | [],_,_,_,_,h,_,_=>by simp at h
 | _ :: _,[],_,_,_,_,h,_=>by simp at h
 | p :: P,w :: vs,0,m,nd,h1,h2,hk=>by
   simp at h1 h2;subst h1;subst h2
   show bindC kindOf ((p,w) :: P.zip vs) m p=_
   unfold bindC
   rw [jn fun v hv=>(List.nodup_cons.mp nd).1 (List.of_mem_zip hv).1,if_neg hk]
   simp
 | p :: P,w :: vs,i+1,m,nd,h1,h2,hk=>by
   show bindC kindOf ((p,w) :: P.zip vs) m x=_
   unfold bindC
   exact jm (i:=i) (List.nodup_cons.mp nd).2 (by simpa using h1) (by simpa using h2) hk
def fA (N:List Str) (vs:List V):St:=vs.map some ++ List.replicate (N.length - vs.length) none
def ja (CX:CXT) (P:Program) (w:World) (K:W.Frag) (mg:Str→Option Value) (base:Heap) (N:List Str) (qual:Str) (scope:Scope) (f:Addr) (cd:Value) (A:Around) (outer:List Env) (s:Shared) (H:Hp) (E:XK):Cx where
 prog:=P
 w:=w
 K:=K
 mg:=mg
 base:=base
 A:=A.deeper (envOfC qual scope s.heap.objs.size f cd)
 N:=N
 s₀:=s
 H₀:=H
 env:=envOfC qual scope s.heap.objs.size f cd
 outer:=outer
 stack:=envOfC qual scope s.heap.objs.size f cd :: outer
 ex:=[]
 calm:=true
 fn:=fun _=>true
 pn:=[]
 xe:=fun e s'=>wpAny (model P w) (A.deeper (envOfC qual scope s.heap.objs.size f cd)) (leaving (envOfC qual scope s.heap.objs.size f cd) e) (fun _ s''=>CX outer H s E e s'') (fun e' s''=>CX outer H s E e' s'') s'
theorem lF {sc:Scope} {n:Nat} {x:Str} (h:sc.names.lookup x=some .cell):∃ c,(cellsFrom n sc.names []).lookup x=some c:=by
 have q:=W.cellsFrom_some sc.names n [] (.inl h)
 exact Option.isSome_iff_exists.mp q
theorem qg {CX:CXT} {P:Program} {w:World} {K:W.Frag} {mg:Str→Option Value} {base:Heap} {N ps:List Str} {qual:Str} {scope:Scope} {f:Addr} {cd:Value} {A:Around} {outer:List Env} {s s1:Shared} {H:Hp} {E:XK} {us:List Value} {vs:List V}
 (S:aA N ps scope) (hd:A.handled=none) (e0:mC P w K mg base A outer s H) (hl:vs.length=ps.length) (r:aQ vs us)
 (x:InCallC s s.heap.objs.size (bindL (envOfC qual scope s.heap.objs.size f cd).kindOf (ps.zip us) fun _=>none) (cellsFrom (s.heap.objs.size+1) scope.names []) (bindC (envOfC qual scope s.heap.objs.size f cd).kindOf (ps.zip us) fun _=>none) s1) :
 Inv (ja CX P w K mg base N qual scope f cd A outer s H E) [] (fA N vs) H s1:=by
 have hpl:ps.length≤N.length:=by have:=congrArg List.length S.pre;rw [List.length_take] at this;omega
 obtain ⟨h1,tk,rfl,hk⟩:=x.done
 have noA:∀ b:Addr,b ∉ (ja CX P w K mg base N qual scope f cd A outer s H E).ex:=fun b z=>absurd (show b∈([]:List Addr) from z) (by simp)
 refine ⟨⟨e0.mod,S.kind,rfl,rfl,Nat.le_refl _,fun y z c h1 h2=>?_,fun y hy=>?_,fun y c _ h=>?_,fun _=>hd,Around.frames_deeper e0.frames,.inr ⟨rfl,rfl⟩,fun b z=>absurd z (noA b),e0.bs,e0.bsz,fun b _ _=>noA b,fun b z=>absurd z (noA b),e0.funs,e0.frf⟩,
  rfl,e0.bare,Un.kept hk,⟨_,x.toInCall.ns,fun i y v h1 h2 h3=>?_⟩,fun y c h=>⟨_,x.cell y c h⟩,e0.hok.fresh (Nat.le_refl _),fun y c h=>?_,fun p hp=>absurd (show p∈([]:List (Addr×Obj)) from hp) (by simp),e0.hok.kept hk,?_⟩
 ·exact name_of_addr x.apart (PySem.mem_of_lookup h1) (PySem.mem_of_lookup h2)
 ·have hy:scope.names.lookup y=some .cell∨scope.names.lookup y=some .free:=hy
  rcases hy with hy | hy
  ·exact lF hy
  ·exact absurd rfl (S.nofree _ (PySem.mem_of_lookup hy))
 ·exact Nat.le_of_lt (x.above y c (PySem.mem_of_lookup h))
 ·have hi:i<vs.length:=by
   unfold fA at h2
   by_cases hi:i<vs.length
   ·exact hi
   ·rw [List.getElem?_append_right (by simpa using hi)] at h2
    rw [List.getElem?_replicate] at h2
    split at h2 <;> cases h2
  have ha:vs[i]? = some v:=by
   unfold fA at h2
   rw [List.getElem?_append_left (by simpa using hi),List.getElem?_map] at h2
   cases e:vs[i]? with
   | none=>rw [e] at h2;cases h2
   | some a=>rw [e] at h2;cases h2;rfl
  obtain ⟨u,hu,rv⟩:=r.get ha
  have hp:ps[i]? = some y:=by
   rw [← S.pre,List.getElem?_take_of_lt (by omega)];exact h1
  have ndP:ps.Nodup:=by rw [← S.pre];exact S.nd.sublist (List.take_sublist _ _)
  refine ⟨u,rv,?_⟩
  rcases S.par y (List.mem_of_getElem? hp) with k | k
  ·exact .inl ⟨k,jo ndP hp hu k⟩
  ·obtain ⟨c,e⟩:=lF (n:=s.heap.objs.size+1) k
   refine .inr ⟨.inl k,c,e,?_⟩
   have q:=x.cell y c e
   rw [jm ndP hp hu (by show scope.names.lookup y≠_;rw [k];decide)] at q
   exact q
 ·exact e0.hok.fresh (Nat.le_of_lt (x.above y c (PySem.mem_of_lookup h)))
 ·unfold fA
  show _=N.length
  rw [List.length_append,List.length_map,List.length_replicate]
  omega
theorem wc {CX:CXT} {P:Program} {w:World} {K:W.Frag} {mg:Str→Option Value} {base:Heap} {k:Nat} {f:Addr} {name qual:Str} {params:Arguments} {body:List Stmt} {scope:Scope} {dV kV doc pm cdv ct oc:Value} {an od:Option Addr}
 {osl:Array (Option Value)} {N ps:List Str} {sp:Sp} (lk:K.lookup f=some ⟨oc,od,.func (W.fnOf name qual params body scope dV kV doc pm an cdv ct),osl⟩) (hcd:W.codeIn K cdv qual=true) (S:aA N ps scope)
 (len:∀ vs H Q E,sp vs H Q E→vs.length=ps.length)
 (hbody:∀ (A:Around) (outer:List Env) (s:Shared) (H:Hp) (vs:List V) (Q:VK) (E:XK),Room k (A.deeper (envOfC qual scope s.heap.objs.size f cdv))→sp vs H Q E →
  ∃ t,PSs (ja CX P w K mg base N qual scope f cdv A outer s H E) body t∧t { nx:=fun _ H'=>Q .non H',rt:=Q } (fA N vs) H) :
 aY P w K mg base CX (k+1) f (W.fnOf name qual params body scope dV kV doc pm an cdv ct) ps sp:=by
 refine ⟨len,fun A outer s H args us vs Q E hr e0 hb r hsp=>?_⟩
 have hl:=len _ _ _ _ hsp
 have KX:K.In s.heap:=e0.mod.kin.keeps fun b o e=>(e0.bs b o e).1
 have lim:s.heap.NoLimit:=e0.mod.nolimit.keeps fun b o e=>(e0.bs b o e).1
 have hkind:∀ y∈ps.zip us,scope.names.lookup y.1=some .local∨(scope.names.lookup y.1=some .cell∧((cellsFrom (s.heap.objs.size+1) scope.names []).lookup y.1).isSome=true):=fun ⟨n,v⟩ hy=>by
  rcases S.par n (List.of_mem_zip hy).1 with q | q
  ·exact .inl q
  ·exact .inr ⟨q,W.cellsFrom_some _ _ _ (.inl q)⟩
 refine codeAny_call_function hr.depth (KX _ _ lk) rfl S.co S.gen rfl (W.codeRec_of KX hcd) (hb _ _ _ _ ?_)
 refine wpAny_newFunctionEnv_cells S.kind hkind fun env he s1 x=>?_
 subst he
 refine ⟨lim.keeps x.toInCall.keep,codeAny_func ?_⟩
 obtain ⟨t,ht,hq⟩:=hbody A outer s H vs Q E (hr.deeper _) hsp
 have I:Inv (ja CX P w K mg base N qual scope f cdv A outer s H E) [] (fA N vs) H s1:=qg S hr.hd e0 hl r x
 refine wpAny_mono (ht [] s1 (fA N vs) H _ I hq) (fun fl s' hs=>?_) fun e s' hs=>hs
 have fin:∀ {σ':St} {H':Hp} {v:V} {u:Value},Inv (ja CX P w K mg base N qual scope f cdv A outer s H E) [] σ' H' s'→aU v u→Q v H'→CE outer P w H s Q u s':=
  fun {σ' H' v u} J rv q=>⟨v,H',J.os,J.bare,J.base,J.hok,rv,q⟩
 cases fl with
 | ret u=>
   obtain ⟨v,σ',H',J,rv,q⟩:=hs
   exact fin J rv q
 | next=>
   obtain ⟨σ',H',J,q⟩:=hs
   exact fin (v:=V.non) (u:=Value.none) J rfl q
 | brk=>
   obtain ⟨_,_,_,q⟩:=hs
   exact False.elim q
 | cont=>
   obtain ⟨_,_,_,q⟩:=hs
   exact False.elim q
end L2
namespace L2
section
variable {X:Cx} {x:Str} {p pos:Pos} {e:Expr} {es:List Expr} {t:TA} {id T:String} {r:List V→Hp→VK→Prop}
def tCB (r:List V→Hp→VK→Prop) (t:TA):TE:=fun σ H Q=>t σ H fun vs H1=>r vs H1 Q
theorem aM (hc:dU X (.builtin id) r) (hg:Gl X x) (hm:X.mg x=none) (hv:bootBuiltins x=some (.builtin id)) (ha:PA X (e :: es) t) (hn:x≠"__name__":=by decide) (hdb:(x == ("__debug__":Str))=false:=by decide)
 (he:starEach (e :: es) X.env=(false,eval e X.env) :: starEach es X.env:=by rfl) (hpl:(backTo pos (starEach es X.env)).any (·.1)=false:=by rfl):PE X (.Call (.Name x p) (e :: es) [] pos) (tCB r t):=by
 intro pins s σ H Q I h
 refine wpAny_Call_Name_kw (dN I hg hm hv ?_ hn hdb)
 exact PyProof.Rows.callWith_builtin1 (thn (ha pos pins s σ H _ I h) fun us s1 ⟨vs,H1,I1,r1,q1⟩=>hc pins s1 σ H1 vs us Q I1 r1 q1) he hpl
theorem bw (hc:dU X (.type T) r) (hg:Gl X x) (hm:X.mg x=none) (hv:bootBuiltins x=some (.type T)) (ha:PA X (e :: es) t) (hn:x≠"__name__":=by decide) (hdb:(x == ("__debug__":Str))=false:=by decide)
 (he:starEach (e :: es) X.env=(false,eval e X.env) :: starEach es X.env:=by rfl) (hpl:(backTo pos (starEach es X.env)).any (·.1)=false:=by rfl):PE X (.Call (.Name x p) (e :: es) [] pos) (tCB r t):=by
 intro pins s σ H Q I h
 refine wpAny_Call_Name_kw (dN I hg hm hv ?_ hn hdb)
 exact PyProof.Rows.callWith_type1 (thn (ha pos pins s σ H _ I h) fun us s1 ⟨vs,H1,I1,r1,q1⟩=>hc pins s1 σ H1 vs us Q I1 r1 q1) he hpl
end
end L2
namespace HT
open PySem PyProof.Rows
section
variable {prog:Program} {w:World} {A:Around} {E:Value→Shared→Prop} {s:Shared}
theorem cat_tup {t b:Addr} {vs ws:List Value} {Q:Value→Shared→Prop} (ht:IsTup s.heap t vs.toArray) (hb:IsTup s.heap b ws.toArray) (hv:vs≠[])
 (h1:ws = []→Q (.ref t) s) (h2:ws≠[]→Q (.ref s.heap.objs.size) { s with heap:=s.heap.push { cls:=.type "tuple",data:=.seq (vs ++ ws).toArray } })
 (hsz:vs.length+ws.length≤sizeLine):wpAny (model prog w) A (binaryOp .Add (.ref t) (.ref b)) Q E s:=by
 obtain ⟨⟨cls,dd,data,sl⟩,ho,hc,n,hd⟩:=id ht
 obtain ⟨⟨cls2,dd2,data2,sl2⟩,ho2,hc2,n2,hd2⟩:=id hb
 simp only at hc hd hc2 hd2
 subst hc hd hc2 hd2
 have e:vs.toArray ++ ws.toArray=(vs ++ ws).toArray:=by simp
 by_cases hw:ws = []
 ·exact concat_meets ⟨_,ho,rfl⟩ ⟨_,ho2,rfl⟩ noFill_tuple_add seq_tuple_add PySem.F.slot_tuple_add PySem.F.entry_tuple_add (PySem.F.args_tuple_add_2 _ _)
   (tuple_addW1 t b vs.toArray ws.toArray n n2 dd dd2 sl sl2 (by simpa using hv) (by simp [hw])) ⟨ho,ho2,h1 hw⟩
 ·refine concat_meets ⟨_,ho,rfl⟩ ⟨_,ho2,rfl⟩ noFill_tuple_add seq_tuple_add PySem.F.slot_tuple_add PySem.F.entry_tuple_add (PySem.F.args_tuple_add_2 _ _)
   (tuple_addW2 t b vs.toArray ws.toArray n n2 dd dd2 sl sl2 (by simpa using hv) (by simpa using hw) (by rw [List.size_toArray,List.size_toArray];exact hsz)) ⟨ho,ho2,?_⟩
  rw [e]
  exact h2 hw
def sIx (n d:Nat):Option Int→Nat
 | none=>d
 | some v=>if v<0 then (v+(n:Int)).toNat else min v.toNat n
theorem xW (n d:Nat) (hd:d≤n) (o:Option Int):sIx n d o≤n:=by
 cases o with
 | none=>exact hd
 | some v=>
   show (if v<0 then (v+(n:Int)).toNat else min v.toNat n)≤n
   by_cases hv:v<0
   ·rw [if_pos hv];omega
   ·rw [if_neg hv];exact Nat.min_le_right _ _
theorem oC (v:Int) (n d:Nat):(if v<0 then max (v+(n:Int)) 0 else min v (n:Int))=((sIx n d (some v):Nat):Int):=by
 show (if v<0 then max (v+(n:Int)) 0 else min v (n:Int))=(((if v<0 then (v+(n:Int)).toNat else min v.toNat n):Nat):Int)
 by_cases hv:v<0
 ·simp only [if_pos hv];omega
 ·simp only [if_neg hv];omega
theorem mF (lo hi:Option Int) (n:Nat):Builtin.Slice.sliceAdjust lo hi 1 (n:Int)=(((sIx n 0 lo:Nat):Int),((sIx n n hi:Nat):Int)):=by
 have h1:¬ ((1:Int)<0):=by omega
 unfold Builtin.Slice.sliceAdjust
 simp only [h1,if_false]
 refine Prod.ext ?_ ?_
 ·cases lo with
  | none=>rfl
  | some v=>exact oC v n 0
 ·cases hi with
  | none=>rfl
  | some v=>exact oC v n n
theorem nC (i j:Nat):Builtin.Slice.slicePlaces (i:Int) (j:Int) 1=j - i:=by
 unfold Builtin.Slice.slicePlaces
 have h1:(1:Int)>0:=by omega
 simp only [h1,if_true,Int.ediv_one]
 split <;> omega
theorem iT {v:Value} {o:Option Int} {Q:Option Int→Shared→Prop} (p:IsPart v o) (h:Q o s):wpAny (model prog w) A (Builtin.Slice.slicePartIndex v) Q E s:=by
 cases p with
 | none=>exact slicePart_none h
 | int i t=>exact slicePart_int h
theorem dI {sl:Addr} {vl vu:Value} {lo hi:Option Int} {n:Nat} {Q:Int×Int×Nat→Shared→Prop} (hs:s.heap.IsSliceOf sl vl vu .none) (pl:IsPart vl lo) (pu:IsPart vu hi)
 (h:Q (((sIx n 0 lo:Nat):Int),1,sIx n n hi - sIx n 0 lo) s):wpAny (model prog w) A (Builtin.Slice.sliceApplied (.ref sl) (pure (n:Int))) Q E s:=by
 obtain ⟨os,hos,hcs,hds⟩:=id hs
 unfold Builtin.Slice.sliceApplied Builtin.Slice.sliceFields
 refine wpAny_bind (wpAny_bind (wpAny_field hos hds (x:=vl) rfl (wpAny_bind (wpAny_field hos hds (x:=vu) rfl (wpAny_bind (wpAny_field hos hds (x:=.none) rfl (wpAny_pure ?_)))))))
 refine wpAny_bind (slicePart_none ?_)
 show wpAny _ _ (if ((1:Int) == 0)=true then _ else _) _ _ s
 rw [if_neg (by decide)]
 refine wpAny_bind (iT pl (wpAny_bind (iT pu (wpAny_bind (wpAny_pure ?_)))))
 show wpAny _ _ (match Builtin.Slice.sliceAdjust lo hi 1 (n:Int) with | (lo,hi)=>pure (lo,(1:Int),Builtin.Slice.slicePlaces lo hi 1)) _ _ s
 rw [mF lo hi n]
 show wpAny _ _ (pure (((sIx n 0 lo:Nat):Int),(1:Int),Builtin.Slice.slicePlaces ((sIx n 0 lo:Nat):Int) ((sIx n n hi:Nat):Int) 1)) _ _ s
 rw [nC]
 exact wpAny_pure h
theorem sR (xs:Array Value) (i k:Nat):((List.range k).filterMap fun (m:Nat)=>xs[((i:Int)+(m:Int) * 1).toNat]?).toArray=((xs.toList.drop i).take k).toArray:=by
 have e:(fun (m:Nat)=>xs[((i:Int)+(m:Int) * 1).toNat]?)=fun m=>xs[i+m]?:=by
  funext m
  have:((i:Int)+(m:Int) * 1).toNat=i+m:=by omega
  rw [this]
 rw [e]
 have:=pick_run xs i k
 rw [List.filterMap_map] at this
 have e2:((fun x=>xs[x]?) ∘ fun x=>i+x)=fun m=>xs[i+m]?:=rfl
 rw [e2] at this
 rw [this]
theorem getItem_tuple_cut {t sl:Addr} {items:Array Value} {vl vu:Value} {lo hi:Option Int} {Q:Value→Shared→Prop} (ht:IsTup s.heap t items) (hs:s.heap.IsSliceOf sl vl vu .none) (pl:IsPart vl lo) (pu:IsPart vu hi)
 (hw:¬ (sIx items.size 0 lo=0∧sIx items.size items.size hi=items.size))
 (h:Q (.ref s.heap.objs.size) { s with heap:=s.heap.push { cls:=.type "tuple",data:=.seq ((items.toList.drop (sIx items.size 0 lo)).take (sIx items.size items.size hi - sIx items.size 0 lo)).toArray } })
 (hsz:items.size≤sizeLine):wpAny (model prog w) A (getItem (.ref t) (.ref sl)) Q E s:=by
 have htake:sizeOk (.seq ((items.toList.drop (sIx items.size 0 lo)).take (sIx items.size items.size hi - sIx items.size 0 lo)).toArray):=by
  show ((items.toList.drop (sIx items.size 0 lo)).take (sIx items.size items.size hi - sIx items.size 0 lo)).toArray.size≤sizeLine
  rw [List.size_toArray,List.length_take,List.length_drop,Array.length_toList]
  omega
 have hj:sIx items.size items.size hi≤items.size:=xW _ _ (Nat.le_refl _) hi
 obtain ⟨os,hos,hcs,hds⟩:=id hs
 have hTs:s.TypeIs (.ref sl) "slice":=⟨os,hos,hcs⟩
 unfold getItem
 try with_reducible refine wpAny_holding ?_
 first | refine wpAny_bind (wpAny_pure ?_) | skip
 refine wpAny_bind (wpAny_sequenceKey ht.typeIs (by decide) ?_)
 refine wpAny_bind (wpAny_callSpecial?_slot (name:=Str.ofString "__getitem__") ht.typeIs PyProof.Rows.slot_tuple_getitem
  (wpAny_call_entry PyProof.Rows.slot_tuple_getitem ht.typeIs entry_tuple_getitem ?_ (args_tuple_getitem _ _)))
 show wpAny _ _ (Builtin.Tuple.tupleItemsOf (.ref t) >>= _) _ _ s
 refine wpAny_bind (tupleItemsOf_ ht ?_)
 refine wpAny_bind (wpAny_typeOf hTs ?_)
 rw [if_pos (by decide)]
 refine wpAny_bind (dI hs pl pu ?_)
 have hno:¬ ((((sIx items.size 0 lo:Nat):Int) == 0 && (1:Int) == 1 && (sIx items.size items.size hi - sIx items.size 0 lo) == items.size)=true):=by
  intro q
  rw [Bool.and_eq_true,Bool.and_eq_true] at q
  have q1:((sIx items.size 0 lo:Nat):Int)=0:=eq_of_beq q.1.1
  have q2:sIx items.size items.size hi - sIx items.size 0 lo=items.size:=eq_of_beq q.2
  exact hw ⟨by omega,by omega⟩
 show wpAny _ _ (if (((sIx items.size 0 lo:Nat):Int) == 0 && (1:Int) == 1 && (sIx items.size items.size hi - sIx items.size 0 lo) == items.size)=true then _ else _) _ _ s
 rw [if_neg hno,sR]
 first
  | exact wpAny_bind (m:=Builtin.Tuple.tupleExact _) (wpAny_newObj_type (wpAny_pure ⟨_,rfl,wpAny_pure h⟩) htake)
  | exact wpAny_bind (m:=Builtin.Tuple.tupleExact _) (wpAny_newObj_type (wpAny_bind (wpAny_pure (wpAny_pure ⟨_,rfl,wpAny_pure h⟩))) htake)
  | exact wpAny_bind (wpAny_bind (m:=Builtin.Tuple.tupleExact _) (wpAny_newObj_type (wpAny_pure (wpAny_pure ⟨_,rfl,wpAny_pure h⟩)) htake))
  | exact wpAny_bind (wpAny_bind (m:=Builtin.Tuple.tupleExact _) (wpAny_newObj_type (wpAny_pure ⟨_,rfl,wpAny_pure h⟩) htake))
end
end HT
namespace L2
abbrev TO:=St→Hp→(Option Int→Hp→Prop)→Prop
def PO (X:Cx) (e:Option Expr) (t:TO):Prop:=
 ∀ (pins:List (Addr×Obj)) (s:Shared) (σ:St) (H:Hp) (Q:Option Int→Hp→Prop),Inv X pins σ H s→t σ H Q →
   wpAny (model X.prog X.w) X.A (evalPart e X.env) (fun u s'=>∃ o H',Inv X pins σ H' s'∧IsPart u o∧Q o H') X.xe s
def vM:TO:=fun _ H Q=>Q none H
def Ae (t:TE):TO:=fun σ H Q=>t σ H fun x H1=>∃ i,x = .int i∧Q (some i) H1
theorem mO {ns:List Int}:∀ {us:List Value},aQ (ns.map V.int) us→IntsAre us ns:=by
 induction ns with
 | nil=>intro us r;rw [List.map_nil] at r;cases r;exact .nil
 | cons n ns ih=>
   intro us r
   rw [List.map_cons] at r
   cases r with
   | cons r1 r2=>
     obtain ⟨t,e⟩:=r1
     subst e
     exact .cons n t (ih r2)
section
variable {X:Cx} {e:Expr} {te:TE} {lo hi:Option Expr} {tl th:TO} {pos p2:Pos}
theorem kM:PO X none vM:=by
 intro pins s σ H Q I h
 rw [evalPart_none]
 exact wpAny_pure ⟨none,H,I,.none,h⟩
theorem kN (h:PE X e te):PO X (some e) (Ae te):=by
 intro pins s σ H Q I hw
 rw [evalPart_some]
 refine thn (h pins s σ H _ I hw) fun u s1 ⟨x,H1,I1,r1,q1⟩=>?_
 obtain ⟨i,rfl,q⟩:=q1
 obtain ⟨t,rfl⟩:=r1
 exact ⟨some i,H1,I1,.int i t,q⟩
def SlR (X:Cx) (r:V→Option Int→Option Int→Hp→VK→Prop):Prop:=
 ∀ (pins:List (Addr×Obj)) (s:Shared) (σ:St) (H:Hp) (x:V) (v vl vu:Value) (lo hi:Option Int) (sl:Addr) (Q:VK),Inv X pins σ H s→aU x v→s.heap.IsSliceOf sl vl vu .none→IsPart vl lo→IsPart vu hi→r x lo hi H Q →
   ∃ T id,typeLookup (.type T) "__getitem__" = pure (some (.builtin id))∧s.TypeIs v T∧wpAny (model X.prog X.w) X.A (getItem v (.ref sl)) (EP X pins σ Q) X.xe s
theorem SlR.or {r r':V→Option Int→Option Int→Hp→VK→Prop} (h:SlR X r) (h':SlR X r'):SlR X (fun x lo hi H Q=>r x lo hi H Q∨r' x lo hi H Q):=by
 intro pins s σ H x v vl vu lo hi sl Q I rx hs pl pu q
 rcases q with q | q
 ·exact h pins s σ H x v vl vu lo hi sl Q I rx hs pl pu q
 ·exact h' pins s σ H x v vl vu lo hi sl Q I rx hs pl pu q
def tSl (r:V→Option Int→Option Int→Hp→VK→Prop) (te:TE) (tl th:TO):TE:=fun σ H Q=>te σ H fun x H1=>tl σ H1 fun l H2=>th σ H2 fun u H3=>r x l u H3 Q
theorem iM {r:V→Option Int→Option Int→Hp→VK→Prop} (hr:SlR X r) (he:PE X e te) (hl:PO X lo tl) (hu:PO X hi th):PE X (.Subscript e (.Slice lo hi none p2) pos) (tSl r te tl th):=by
 intro pins s σ H Q I h
 refine Subscript_ (thn (he pins s σ H _ I h) fun v s1 ⟨x,H1,I1,r1,q1⟩=>?_)
 refine wpAny_Slice (thn (hl pins s1 σ H1 _ I1 q1) fun vl s2 ⟨l,H2,I2,pl,q2⟩=>thn (hu pins s2 σ H2 _ I2 q2) fun vu s3 ⟨u,H3,I3,pu,q3⟩=>?_)
 rw [evalPart_none]
 refine wpAny_pure ?_
 have I4:Inv X pins σ H3 { s3 with heap:=s3.heap.push { cls:=.type "slice",data:=.fields #[vl,vu,.none] } }:=I3.kept (t':=s3.toks) fun b ob q=>Heap.get?_push_of_some _ q
 obtain ⟨T,id,hT,ht,hg⟩:=hr pins { s3 with heap:=s3.heap.push { cls:=.type "slice",data:=.fields #[vl,vu,.none] } } σ H3 x v vl vu l u s3.heap.objs.size Q I4 r1 (Heap.IsSliceOf.new ..) pl pu q3
 show wpAny (model X.prog X.w) X.A (subscriptTail e (.Slice lo hi none p2) v (.ref s3.heap.objs.size)) (EP X pins σ Q) X.xe { s3 with heap:=s3.heap.push { cls:=.type "slice",data:=.fields #[vl,vu,.none] } }
 exact tail_any (ops:=[.ref s3.heap.objs.size,v]) ht hT hg (by with_unfolding_all rfl)
def im (xs:List V) (lo hi:Option Int):List V:=(xs.drop (HT.sIx xs.length 0 lo)).take (HT.sIx xs.length xs.length hi - HT.sIx xs.length 0 lo)
theorem gq (xs:List V) (lo hi:Option Int):(im xs lo hi).length≤xs.length:=by
 unfold im
 rw [List.length_take,List.length_drop]
 omega
def zH (K:W.Frag):V→Option Int→Option Int→Hp→VK→Prop:=fun x lo hi H Q=>∃ a xs,x = .ref a∧SqT K H a xs ∧
 ¬ (HT.sIx xs.length 0 lo=0∧HT.sIx xs.length xs.length hi=xs.length)∧∀ p,H p=none→Q (.ref p) (upd H p (.tup (im xs lo hi)))
theorem x9:SlR X (zH X.K):=by
 intro pins s σ H x v vl vu lo hi sl Q I rx hs pl pu h
 obtain ⟨a,xs,rfl,hx,hw,q⟩:=h
 cases rx
 obtain ⟨its,r,ht,hz⟩:=I.tuple hx
 have hlen:its.toArray.size=xs.length:=by rw [List.size_toArray];exact r.length.symm
 refine ⟨"tuple",_,PyProof.Rows.slot_tuple_getitem.lookup,ht.typeIs,?_⟩
 refine HT.getItem_tuple_cut ht hs pl pu (by rw [hlen];exact hw) ?_ (by rw [hlen];exact hz)
 rw [hlen]
 refine ⟨.ref s.heap.objs.size,_,I.laid (t':=s.toks) (o:=.tup (im xs lo hi)) (fun b ob q=>Heap.get?_push_of_some _ q) (Nat.le_refl _) ?_,rfl,q _ (I.hok.fresh (Nat.le_refl _))⟩
 exact ⟨Nat.le_trans (gq xs lo hi) hz,_,(r.drop (HT.sIx xs.length 0 lo)).take (HT.sIx xs.length xs.length hi - HT.sIx xs.length 0 lo),IsTup.new _ _⟩
def px (K:W.Frag):R2:=fun x y H Q=>∃ a b xs ys,x = .ref a∧y = .ref b∧SqT K H a xs∧SqT K H b ys∧xs≠[]∧xs.length+ys.length≤sizeLine ∧
 (ys = []→Q (.ref a) H)∧(ys≠[]→∀ p,H p=none→Q (.ref p) (upd H p (.tup (xs ++ ys))))
theorem aQ.nil_iff {xs:List V} {us:List Value} (r:aQ xs us):us = []↔xs = []:=by
 cases r with
 | nil=>simp
 | cons _ _=>simp
theorem u8:OpR X (binaryOp .Add) (px X.K):=by
 intro pins s σ H x y v u Q I rx ry h
 obtain ⟨a,b,xs,ys,rfl,rfl,ha,hb,hx,hz,q1,q2⟩:=h
 cases rx
 cases ry
 obtain ⟨its,r1,p1,_⟩:=I.tuple ha
 obtain ⟨its2,r2,p2,_⟩:=I.tuple hb
 refine HT.cat_tup p1 p2 (fun z=>hx (r1.nil_iff.mp z)) (fun z=>⟨.ref a,H,I,rfl,q1 (r2.nil_iff.mp z)⟩) (fun z=>?_) (by rw [← r1.length,← r2.length];exact hz)
 refine ⟨.ref s.heap.objs.size,_,I.laid (t':=s.toks) (o:=.tup (xs ++ ys)) (fun b ob q=>Heap.get?_push_of_some _ q) (Nat.le_refl _) ?_,rfl,q2 (fun w=>z (r2.nil_iff.mpr w)) _ (I.hok.fresh (Nat.le_refl _))⟩
 exact ⟨by rw [List.length_append];exact hz,_,r1.append r2,IsTup.new _ _⟩
end
end L2
namespace L2
def ixN (n:Nat) (i:Int):Option Nat:=if 0≤i then (if i<n then some i.toNat else none) else if -(n:Int)≤i then some (i+n).toNat else none
def atI {α:Type} (xs:List α) (i:Int):Option α:=(ixN xs.length i).bind fun j=>xs[j]?
theorem oQ {n:Nat} {i:Int} {j:Nat} (h:ixN n i=some j):seqIndex? i n=some j∧j<n∧-(n:Int)≤i∧i<n:=by
 unfold ixN at h
 by_cases h0:0≤i
 ·rw [if_pos h0] at h
  by_cases h1:i<n
  ·rw [if_pos h1] at h
   have e:i.toNat=j:=Option.some.inj h
   exact ⟨by rw [seqIndex_of h0 h1,e],by omega,by omega,h1⟩
  ·rw [if_neg h1] at h;cases h
 ·rw [if_neg h0] at h
  by_cases h1:-(n:Int)≤i
  ·rw [if_pos h1] at h
   have e:(i+n).toNat=j:=Option.some.inj h
   exact ⟨by rw [seqIndex_neg (by omega) h1,e],by omega,h1,by omega⟩
  ·rw [if_neg h1] at h;cases h
theorem j8 {α:Type} {xs:List α} {i:Int} {v:α} (h:atI xs i=some v):∃ j,seqIndex? i xs.length=some j∧xs[j]? = some v∧j<xs.length∧-(xs.length:Int)≤i∧i<xs.length:=by
 unfold atI at h
 cases e:ixN xs.length i with
 | none=>rw [e] at h;cases h
 | some j=>
   rw [e] at h
   obtain ⟨h1,h2,h3,h4⟩:=oQ e
   exact ⟨j,h1,h,h2,h3,h4⟩
theorem aH {α:Type} {xs:List α} {j:Nat} {v:α} (h:xs[j]? = some v):atI xs (j:Int)=some v:=by
 have hj:j<xs.length:=(List.getElem?_eq_some_iff.mp h).1
 have e:ixN xs.length (j:Int)=some j:=by
  unfold ixN
  rw [if_pos (by omega),if_pos (by omega)];simp
 unfold atI;rw [e];exact h
def eZ (b:Expr):Prop:=∀ o i,subscripted b false o i=operate [o,i] (getItem o i)
def IxR (X:Cx) (r:R2):Prop:=
 ∀ (value slice:Expr) (pins:List (Addr×Obj)) (s:Shared) (σ:St) (H:Hp) (x y:V) (v u:Value) (Q:VK),Inv X pins σ H s→aU x v→aU y u→r x y H Q →
   subscripted slice false v u=operate [v,u] (getItem v u)→wpAny (model X.prog X.w) X.A (subscriptTail value slice v u) (EP X pins σ Q) X.xe s
def MtR (X:Cx) (id:String) (r:V→List V→Hp→VK→Prop):Prop:=
 ∀ (pins:List (Addr×Obj)) (s:Shared) (σ:St) (H:Hp) (x:V) (xs:List V) (v:Value) (us:List Value) (Q:VK),Inv X pins σ H s→aU x v→aQ xs us→r x xs H Q →
   wpAny (model X.prog X.w) X.A (call (.builtin id) (v :: us)) (EP X pins σ Q) X.xe s
section
variable {X:Cx} {a b:Expr} {ta tb:TE} {pos:Pos}
theorem IxR.or {r r':R2} (h:IxR X r) (h':IxR X r'):IxR X (fun x y H Q=>r x y H Q∨r' x y H Q):=by
 intro value slice pins s σ H x y v u Q I rx ry q hs
 rcases q with q | q
 ·exact h value slice pins s σ H x y v u Q I rx ry q hs
 ·exact h' value slice pins s σ H x y v u Q I rx ry q hs
theorem aG {r:R2} (hr:IxR X r) (ha:PE X a ta) (hb:PE X b tb) (hs:eZ b):PE X (.Subscript a b pos) (tOp r ta tb):=by
 intro pins s σ H Q I h
 exact Subscript_ (pS ha hb I h fun v u s2 x y H2 I2 rx ry q=>hr a b pins s2 σ H2 x y v u Q I2 rx ry q (hs _ _))
def zy (K:W.Frag):R2:=fun x y H Q=>∃ p xs i v,x = .ref p∧y = .int i∧SqL K H p xs∧atI xs i=some v∧Q v H
def zB (K:W.Frag):R2:=fun x y H Q=>∃ p xs i v,x = .ref p∧y = .int i∧SqT K H p xs∧atI xs i=some v∧Q v H
def zA:R2:=fun x y H Q=>∃ z i c,x = .str z∧y = .int i∧z.length≤sizeLine∧atI z.cps.toList i=some c∧Q (.str ⟨#[c]⟩) H
theorem uD:IxR X (zy X.K):=by
 intro value slice pins s σ H x y v u Q I rx ry h hs
 obtain ⟨p,xs,i,z,rfl,rfl,hq,he,q⟩:=h
 cases rx
 obtain ⟨t,rfl⟩:=ry
 obtain ⟨its,r,pl,hz⟩:=I.list hq
 obtain ⟨j,h1,h2,h3,h4,h5⟩:=j8 he
 obtain ⟨w,ew,rw'⟩:=r.get h2
 have hl:=r.length
 have hn:=fQ
 have fin:EP X pins σ Q w s:=⟨z,H,I,rw',q⟩
 by_cases h0:0≤i
 ·have hj:i.toNat=j:=by
   rw [seqIndex_of h0 h5] at h1
   exact Option.some.inj h1
  exact item_listR pl.isList h0 (by omega) (by rw [hj];simpa using ew) fin hs
 ·have hj:(i+(its.toArray.size:Int)).toNat=j:=by
   rw [seqIndex_neg (by omega) h4] at h1
   rw [List.size_toArray,← hl]
   exact Option.some.inj h1
  exact subscriptTail_builtinR (x:=w) pl.isList.typeIs slot_list_getitem.lookup
   (wpAny_getItem_list_neg (Q:=fun r s'=>r=w∧EP X pins σ Q r s') pl.isList (by omega) (by rw [List.size_toArray] <;> omega) (by omega) (by rw [hj];simpa using ew) ⟨rfl,fin⟩) hs
theorem wZ:IxR X (zB X.K):=by
 intro value slice pins s σ H x y v u Q I rx ry h hs
 obtain ⟨p,xs,i,z,rfl,rfl,hq,he,q⟩:=h
 cases rx
 obtain ⟨t,rfl⟩:=ry
 obtain ⟨its,r,pl,hz⟩:=I.tuple hq
 obtain ⟨j,h1,h2,h3,h4,h5⟩:=j8 he
 obtain ⟨w,ew,rw'⟩:=r.get h2
 have hl:=r.length
 have hn:=fQ
 have fin:EP X pins σ Q w s:=⟨z,H,I,rw',q⟩
 exact subscriptTail_builtinR (x:=w) pl.typeIs slot_tuple_getitem.lookup
  (getItem_tuple (j:=j) (Q:=fun r s'=>r=w∧EP X pins σ Q r s') pl (by omega) (by omega) (by rw [List.size_toArray,← hl];exact h1) (by simpa using ew) ⟨rfl,fin⟩) hs
theorem wY:IxR X zA:=by
 intro value slice pins s σ H x y v u Q I rx ry h hs
 obtain ⟨z,i,c,rfl,rfl,hz,he,q⟩:=h
 obtain ⟨t,rfl⟩:=rx
 obtain ⟨t',rfl⟩:=ry
 obtain ⟨j,h1,h2,h3,h4,h5⟩:=j8 he
 have hl:z.cps.toList.length=z.length:=by simp [Str.length]
 rw [hl] at h1 h4 h5
 have hn:=fQ
 exact tail_any (typeIs_str s z t) slot_str_getitem.lookup (getItem_str (c:=c) (by
  have e1:decide (i < -(2 ^ 63:Int))=false:=decide_eq_false (by omega)
  have e2:decide (i≥2 ^ 63)=false:=decide_eq_false (by omega)
  rw [e1,e2,Bool.or_false]) (by rw [h1];simpa using h2) ⟨.str ⟨#[c]⟩,H,I.tok _,⟨_,rfl⟩,q⟩) hs
def rIx (K:W.Frag):R2:=fun x y H Q=>zy K x y H Q∨zB K x y H Q∨zA x y H Q
theorem az:IxR X (rIx X.K):=uD.or (wZ.or wY)
theorem mV (its:List Value) (n j:Nat) (u:Value):Obj.mapSeq (·.setIfInBounds j u) { cls:=.type "list",data:=.seq its.toArray n }={ cls:=.type "list",data:=.seq (its.set j u).toArray n }:=by
 simp [Obj.mapSeq]
theorem Inv.lst {pins:List (Addr×Obj)} {σ:St} {H:Hp} {s:Shared} {p:Addr} {xs:List V} (I:Inv X pins σ H s) (h:H p=some (.lst xs)) :
 ∃ (its:List Value) (n:Nat),aQ xs its∧s.heap.get? p=some { cls:=.type "list",data:=.seq its.toArray n }∧xs.length≤sizeLine:=by
 obtain ⟨z,its,n,r,e⟩:=I.hok p _ h
 exact ⟨its,n,r,e,z⟩
theorem Inv.lstUpd {pins:List (Addr×Obj)} {σ:St} {H:Hp} {s:Shared} {p:Addr} {xs ys:List V} {its its':List Value} {n n':Nat} {f:Obj→Obj} (I:Inv X pins σ H s) (h:H p=some (.lst xs))
 (ho:s.heap.get? p=some { cls:=.type "list",data:=.seq its.toArray n }) (hf:f { cls:=.type "list",data:=.seq its.toArray n }={ cls:=.type "list",data:=.seq its'.toArray n' }) (r:aQ ys its') (hz:ys.length≤sizeLine) (t:Nat) :
 Inv X pins σ (upd H p (.lst ys)) { s with heap:=s.heap.update p f,toks:=t }:=by
 have e:(s.heap.update p f).get? p=some { cls:=.type "list",data:=.seq its'.toArray n' }:=by
  rw [Heap.get?_update_self f ho (by rw [hf] <;> rfl),hf]
 refine I.write (x:=p) (e:=p) (by rw [h];trivial) (.inl rfl) (fun b u hb q=>(Heap.get?_update_other _ _ (Ne.symm hb)).trans q) ⟨_,e⟩ ?_
 exact ⟨hz,its',n',r,e⟩
def zF:V→V→V→Hp→(Hp→Prop)→Prop:=fun o i v H Q=>∃ p xs k j,o = .ref p∧i = .int k∧H p=some (.lst xs)∧ixN xs.length k=some j∧Q (upd H p (.lst (xs.set j v)))
theorem iS:yE X zF:=by
 intro pins s σ H o i v ov iv u Q I ro ri rv h
 obtain ⟨p,xs,k,j,rfl,rfl,hp,hj,q⟩:=h
 cases ro
 obtain ⟨t,rfl⟩:=ri
 obtain ⟨its,n,r,ho,hz⟩:=I.lst hp
 obtain ⟨h1,h2,h3,h4⟩:=oQ hj
 have hl:=r.length
 have hn:=fQ
 have I':Inv X pins σ (upd H p (.lst (xs.set j v))) { s with heap:=s.heap.update p (Obj.mapSeq (·.setIfInBounds j u)) }:=
  I.lstUpd hp ho (mV its n j u) (r.set rv j) (by rw [List.length_set];exact hz) s.toks
 by_cases h0:0≤k
 ·have hk:k.toNat=j:=by
   rw [seqIndex_of h0 h4] at h1
   exact Option.some.inj h1
  exact W.ki_setAt ho h0 (by omega) (by rw [List.size_toArray,← hl];exact h4) (by rw [hk];exact ⟨_,I',q⟩)
 ·have hk:(k+(its.toArray.size:Int)).toNat=j:=by
   rw [seqIndex_neg (by omega) h3] at h1
   rw [List.size_toArray,← hl]
   exact Option.some.inj h1
  exact W.ki_setBack ho (by omega) (by rw [List.size_toArray,← hl];exact h3) (by omega) (by rw [hk];exact ⟨_,I',q⟩)
theorem kX (lo hi:Option Int) (n:Nat):(sliceBounds lo hi none n).1=((HT.sIx n 0 lo:Nat):Int)∧(sliceBounds lo hi none n).2.1=((HT.sIx n n hi:Nat):Int)∧(sliceBounds lo hi none n).2.2=1:=by
 refine ⟨?_,?_,rfl⟩
 ·cases lo with
  | none=>simp [sliceBounds,HT.sIx]
  | some i=>
    simp only [sliceBounds,HT.sIx,Option.getD_none,show (1:Int)>0 by decide,if_true]
    by_cases h:i<0
    ·simp only [h,if_true] <;> omega
    ·simp only [h,if_false] <;> omega
 ·cases hi with
  | none=>simp [sliceBounds,HT.sIx]
  | some i=>
    simp only [sliceBounds,HT.sIx,Option.getD_none,show (1:Int)>0 by decide,if_true]
    by_cases h:i<0
    ·simp only [h,if_true] <;> omega
    ·simp only [h,if_false] <;> omega
theorem jd (its:List Value) (lo hi:Option Int):slicePick its.toArray lo hi none=((its.drop (HT.sIx its.length 0 lo)).take (HT.sIx its.length its.length hi - HT.sIx its.length 0 lo)).toArray:=by
 obtain ⟨h1,h2,h3⟩:=kX lo hi its.toArray.size
 unfold slicePick
 rw [h1,h2,h3]
 simp only [sliceRange_one,pick_run,List.size_toArray] <;> rfl
def zG (K:W.Frag):V→Option Int→Option Int→Hp→VK→Prop:=fun x lo hi H Q=>∃ a xs,x = .ref a∧SqL K H a xs∧∀ p,H p=none→Q (.ref p) (upd H p (.lst (im xs lo hi)))
theorem vC:SlR X (zG X.K):=by
 intro pins s σ H x v vl vu lo hi sl Q I rx hs pl pu h
 obtain ⟨a,xs,rfl,hx,q⟩:=h
 cases rx
 obtain ⟨its,r,ht,hz⟩:=I.list hx
 have hlen:=r.length
 refine ⟨"list",_,slot_list_getitem.lookup,ht.isList.typeIs,?_⟩
 refine wpAny_getItem_list_slice ht.isList hs pl pu .none (by simp) ?_ (by rw [List.size_toArray] <;> omega)
 rw [jd,← hlen]
 refine ⟨.ref s.heap.objs.size,_,I.laid (t':=s.toks) (o:=.lst (im xs lo hi)) (fun b ob q=>Heap.get?_push_of_some _ q) (Nat.le_refl _) ?_,rfl,q _ (I.hok.fresh (Nat.le_refl _))⟩
 exact ⟨Nat.le_trans (gq xs lo hi) hz,_,0,(r.drop (HT.sIx xs.length 0 lo)).take (HT.sIx xs.length xs.length hi - HT.sIx xs.length 0 lo),Heap.get?_push_size _ rfl⟩
def cV:V→Bool
 | .non=>true
 | .bl _=>true
 | .int _=>true
 | .str _=>true
 | _=>false
def eqV:V→V→Bool
 | .non,.non=>true
 | .bl a,.bl b=>a == b
 | .bl a,.int b=>(if a then 1 else 0) == b
 | .int a,.bl b=>a == (if b then 1 else 0)
 | .int a,.int b=>a == b
 | .str a,.str b=>a == b
 | _,_=>false
theorem cD {A:Around} {s:Shared} {y x:V} {u v:Value} (ry:aU y u) (rx:aU x v) (fy:cV y=true) (fx:cV x=true):SeqAt.EqAt A s u v (eqV y x):=by
 cases y with
 | non=>
   cases ry
   cases x with
   | non=>cases rx;exact SeqAt.EqAt.same _
   | bl b=>cases rx;exact SeqAt.EqAt.none_bool b
   | int b=>obtain ⟨t,rfl⟩:=rx;exact SeqAt.EqAt.none_int b t
   | str b=>obtain ⟨t,rfl⟩:=rx;exact SeqAt.EqAt.none_str b t
   | _=>exact absurd (show false=true from fx) Bool.false_ne_true
 | bl a=>
   cases ry
   cases x with
   | non=>cases rx;exact SeqAt.EqAt.bool_none a
   | bl b=>cases rx;exact SeqAt.EqAt.bool_bool a b
   | int b=>obtain ⟨t,rfl⟩:=rx;exact SeqAt.EqAt.bool_int a b t
   | str b=>obtain ⟨t,rfl⟩:=rx;exact SeqAt.EqAt.bool_str a b t
   | _=>exact absurd (show false=true from fx) Bool.false_ne_true
 | int a=>
   obtain ⟨t',rfl⟩:=ry
   cases x with
   | non=>cases rx;exact SeqAt.EqAt.int_none a t'
   | bl b=>cases rx;exact SeqAt.EqAt.int_bool a t' b
   | int b=>obtain ⟨t,rfl⟩:=rx;exact SeqAt.EqAt.int_int a t' b t
   | str b=>obtain ⟨t,rfl⟩:=rx;exact SeqAt.EqAt.int_str a t' b t
   | _=>exact absurd (show false=true from fx) Bool.false_ne_true
 | str a=>
   obtain ⟨t',rfl⟩:=ry
   cases x with
   | non=>cases rx;exact SeqAt.EqAt.str_none a t'
   | bl b=>cases rx;exact SeqAt.EqAt.str_bool a t' b
   | int b=>obtain ⟨t,rfl⟩:=rx;exact SeqAt.EqAt.str_int a t' b t
   | str b=>obtain ⟨t,rfl⟩:=rx;exact SeqAt.EqAt.str_str a t' b t
   | _=>exact absurd (show false=true from fx) Bool.false_ne_true
 | _=>exact absurd (show false=true from fy) Bool.false_ne_true
def eqU (x:V) (u:Value):Bool:=match u with
 | .none=>eqV .non x
 | .bool b=>eqV (.bl b) x
 | .int i _=>eqV (.int i) x
 | .str z _=>eqV (.str z) x
 | _=>false
theorem rA {x y:V} {u:Value} (r:aU y u) (f:cV y=true):eqU x u=eqV y x:=by
 cases y with
 | non=>cases r;rfl
 | bl b=>cases r;rfl
 | int i=>obtain ⟨t,rfl⟩:=r;rfl
 | str z=>obtain ⟨t,rfl⟩:=r;rfl
 | _=>exact absurd (show false=true from f) Bool.false_ne_true
theorem e9 {x:V}:∀ {xs:List V} {us:List Value},aQ xs us→xs.all cV=true→us.any (eqU x)=xs.any fun y=>eqV y x
 | _,_,.nil,_=>rfl
 | y :: xs,u :: us,.cons r t,f=>by
   rw [List.all_cons,Bool.and_eq_true] at f
   rw [List.any_cons,List.any_cons,rA r f.1,e9 t f.2]
theorem dF {A:Around} {s:Shared} {x:V} {v:Value} (rx:aU x v) (fx:cV x=true):∀ {xs:List V} {us:List Value},aQ xs us→xs.all cV=true→∀ u∈us,SeqAt.EqAt A s u v (eqU x u)
 | _,_,.nil,_=>fun u hu=>by cases hu
 | y :: xs,u :: us,.cons r t,f=>fun u' hu=>by
   rw [List.all_cons,Bool.and_eq_true] at f
   rcases List.mem_cons.mp hu with rfl | hu
   ·rw [rA r f.1];exact cD r rx f.1 fx
   ·exact dF rx fx t f.2 u' hu
def inV (x:V) (xs:List V):Bool:=xs.any fun y=>eqV y x
def rIn (K:W.Frag) (neg:Bool):R2:=fun x y H Q=>∃ p xs,y = .ref p∧(SqL K H p xs∨SqT K H p xs)∧cV x=true∧xs.all cV=true∧Q (.bl (if neg then !inV x xs else inV x xs)) H
theorem eF:OpR X (compareOp .In) (rIn X.K false):=by
 intro pins s σ H x y v u Q I rx ry h
 obtain ⟨p,xs,rfl,hq,fx,fs,q⟩:=h
 cases ry
 rcases hq with hq | hq
 ·obtain ⟨its,r,pl,hz⟩:=I.list hq
  refine SeqAt.in_listAt (eqU x) pl.isList (fun w hw=>dF rx fx r fs w (by simpa using hw)) ⟨.bl _,H,I,rfl,?_⟩
  rw [show its.toArray.any (eqU x)=its.any (eqU x) by simp,e9 r fs]
  exact q
 ·obtain ⟨its,r,pl,hz⟩:=I.tuple hq
  refine SeqAt.in_tupleAt (eqU x) pl (fun w hw=>dF rx fx r fs w (by simpa using hw)) ⟨.bl _,H,I,rfl,?_⟩
  rw [show its.toArray.any (eqU x)=its.any (eqU x) by simp,e9 r fs]
  exact q
theorem dP:OpR X (compareOp .NotIn) (rIn X.K true):=by
 intro pins s σ H x y v u Q I rx ry h
 obtain ⟨p,xs,rfl,hq,fx,fs,q⟩:=h
 cases ry
 rcases hq with hq | hq
 ·obtain ⟨its,r,pl,hz⟩:=I.list hq
  refine SeqAt.notIn_listAt (eqU x) pl.isList (fun w hw=>dF rx fx r fs w (by simpa using hw)) ⟨.bl _,H,I,rfl,?_⟩
  rw [show its.toArray.any (eqU x)=its.any (eqU x) by simp,e9 r fs]
  exact q
 ·obtain ⟨its,r,pl,hz⟩:=I.tuple hq
  refine SeqAt.notIn_tupleAt (eqU x) pl (fun w hw=>dF rx fx r fs w (by simpa using hw)) ⟨.bl _,H,I,rfl,?_⟩
  rw [show its.toArray.any (eqU x)=its.any (eqU x) by simp,e9 r fs]
  exact q
theorem ki:dU X (.builtin "len") (fun xs H Q=>∃ p ys,xs = [.ref p]∧(SqL X.K H p ys∨SqT X.K H p ys)∧Q (.int ys.length) H):=by
 intro pins s σ H xs us Q I r h
 obtain ⟨p,ys,rfl,hq,q⟩:=h
 obtain ⟨u,rfl,rx⟩:=jY r
 cases rx
 have hn:=fQ
 rcases hq with hq | hq
 ·obtain ⟨its,r',pl,hz⟩:=I.list hq
  have hlen:=r'.length
  exact Calls.call_len_list pl.isList (by simp only [List.size_toArray] <;> omega) ⟨.int ys.length,H,I.tok _,⟨s.toks+1,by rw [List.size_toArray,hlen]⟩,q⟩
 ·obtain ⟨its,r',pl,hz⟩:=I.tuple hq
  have hlen:=r'.length
  exact len_tuple pl (by simp only [List.size_toArray] <;> omega) ⟨.int ys.length,H,I.tok _,⟨s.toks+1,by rw [List.size_toArray,hlen]⟩,q⟩
theorem kj:dU X (.builtin "len") (fun xs H Q=>∃ z,xs = [.str z]∧z.length≤sizeLine∧Q (.int z.length) H):=by
 intro pins s σ H xs us Q I r h
 obtain ⟨z,rfl,hz,q⟩:=h
 obtain ⟨u,rfl,t,rfl⟩:=jY r
 have hn:=fQ
 exact len_str (by omega) ⟨.int z.length,H,I.tok _,⟨_,rfl⟩,q⟩
theorem dL:dU X (.type "list") (fun xs H Q=>∃ p ys,xs = [.ref p]∧(SqL X.K H p ys∨SqT X.K H p ys)∧∀ l,H l=none→Q (.ref l) (upd H l (.lst ys))):=by
 intro pins s σ H xs us Q I r h
 obtain ⟨p,ys,rfl,hq,q⟩:=h
 obtain ⟨u,rfl,rx⟩:=jY r
 cases rx
 have fin:∀ (its:List Value),aQ ys its→ys.length≤sizeLine→∀ (h':Heap) (c':Nat),(∀ b o',s.heap.get? b=some o'→h'.get? b=some o') →
  h'.get? s.heap.objs.size=some { cls:=.type "list",dict:=none,data:=.seq its.toArray c',slots:=#[] }→EP X pins σ Q (.ref s.heap.objs.size) { s with heap:=h' }:=fun its r' hz h' c' kp e=>
  ⟨.ref s.heap.objs.size,_,I.laid (t':=s.toks) kp (Nat.le_refl _) (show bo X.prog X.w _ h' _ (.lst ys) from ⟨hz,its,c',r',e⟩),rfl,q _ (I.hok.fresh (Nat.le_refl _))⟩
 rcases hq with hq | hq
 ·obtain ⟨its,r',pl,hz⟩:=I.list hq
  have hlen:=r'.length
  obtain ⟨o,ho,hc,n,hd⟩:=pl.isList
  exact call_list_seq p (.inl rfl) ho hc hd (fun h' c' kp e=>fin its r' hz h' c' kp e) (by simp only [List.size_toArray] <;> omega)
 ·obtain ⟨its,r',pl,hz⟩:=I.tuple hq
  have hlen:=r'.length
  obtain ⟨o,ho,hc,n,hd⟩:=pl
  exact call_list_seq p (.inr rfl) ho hc hd (fun h' c' kp e=>fin its r' hz h' c' kp e) (by simp only [List.size_toArray] <;> omega)
theorem bV:dU X (.type "tuple") (fun xs H Q=>∃ p ys,xs = [.ref p]∧((SqL X.K H p ys∧∀ l,H l=none→Q (.ref l) (upd H l (.tup ys)))∨(SqT X.K H p ys∧Q (.ref p) H))):=by
 intro pins s σ H xs us Q I r h
 obtain ⟨p,ys,rfl,h⟩:=h
 obtain ⟨u,rfl,rx⟩:=jY r
 cases rx
 rcases h with ⟨hq,q⟩ | ⟨hq,q⟩
 ·obtain ⟨its,r',pl,hz⟩:=I.list hq
  have hlen:=r'.length
  refine call_tuple_list pl.isList (fun h' kp=>?_) (by simp only [List.size_toArray] <;> omega)
  have I1:Inv X pins σ H { s with heap:=h' }:=I.kept (t':=s.toks) kp
  have I2:Inv X pins σ (upd H h'.objs.size (.tup ys)) { s with heap:=h'.push { cls:=.type "tuple",data:=.seq its.toArray } }:=
   I1.laid (t':=s.toks) (fun b o e=>Heap.get?_push_of_some _ e) (Nat.le_refl _) (show bo X.prog X.w _ _ _ (.tup ys) from ⟨hz,its,r',IsTup.new _ _⟩)
  exact ⟨.ref h'.objs.size,_,I2,rfl,q _ (I1.hok.fresh (Nat.le_refl _))⟩
 ·obtain ⟨its,r',pl,hz⟩:=I.tuple hq
  exact call_tuple_same pl ⟨.ref p,H,I,rfl,q⟩
def tyV (K:W.Frag) (T:String) (x:V) (H:Hp):Prop:=match x with
 | .str _=>T = "str"
 | .int _=>T = "int"
 | .ref p=>(T = "list"∧∃ xs,SqL K H p xs)∨(T = "tuple"∧∃ o,K.lookup p=some o∧o.cls = .type "tuple"∧o.dict=none) ∨
  (T = "dict"∧((∃ kvs,H p=some (.dK kvs))∨∃ kvs,H p=some (.dT kvs)))∨(T = "set"∧∃ S n,H p=some (.set S n))
 | _=>False
theorem yw {pins:List (Addr×Obj)} {σ:St} {H:Hp} {s:Shared} {T:String} {x:V} {v:Value} (I:Inv X pins σ H s) (r:aU x v) (ty:tyV X.K T x H) :
 s.TypeIs v T∧∀ a,v = .ref a→∃ ob,s.heap.get? a=some ob∧ob.dict=none:=by
 cases x with
 | str z=>
   obtain ⟨t,rfl⟩:=r
   cases (show T = "str" from ty)
   exact ⟨typeIs_str s z t,fun _ e=>nomatch e⟩
 | int i=>
   obtain ⟨t,rfl⟩:=r
   cases (show T = "int" from ty)
   exact ⟨typeIs_int s i t,fun _ e=>nomatch e⟩
 | ref p=>
   cases r
   rcases ty with ⟨rfl,xs,hq⟩ | ⟨rfl,o,hk,hc,hd⟩ | ⟨rfl,hk⟩ | ⟨rfl,S,n,hk⟩
   ·obtain ⟨its,_,pl,_⟩:=I.list hq
    refine ⟨pl.isList.typeIs,fun a e=>?_⟩
    cases e
    obtain ⟨o,n,e,c,hd,_⟩:=pl
    exact ⟨o,e,hd⟩
   ·refine ⟨⟨o,I.kIn p o hk,hc⟩,fun a e=>?_⟩
    cases e
    exact ⟨o,I.kIn _ o hk,hd⟩
   ·have z:∃ o,s.heap.get? p=some o∧o.ExactDict:=by
     rcases hk with ⟨kvs,hk⟩ | ⟨kvs,hk⟩
     ·obtain ⟨_,_,_,_,o,_,_,e,ex,_⟩:=I.hok p _ hk
      exact ⟨o,e,ex⟩
     ·obtain ⟨_,_,_,_,o,_,_,e,ex,_⟩:=I.hok p _ hk
      exact ⟨o,e,ex⟩
    obtain ⟨o,e,ex⟩:=z
    refine ⟨⟨o,e,ex.1⟩,fun a e2=>?_⟩
    cases e2
    exact ⟨o,e,ex.2.1⟩
   ·obtain ⟨o,_,_,_,e,ex,_⟩:=I.hok p _ hk
    refine ⟨⟨o,e,ex.1⟩,fun a e2=>?_⟩
    cases e2
    exact ⟨o,e,ex.2.1⟩
 | _=>exact False.elim ty
def tBM (K:W.Frag) (T:String) (r:V→List V→Hp→VK→Prop) (to:TE) (t:TA):TE:=fun σ H Q=>to σ H fun x H1=>tyV K T x H1∧t σ H1 fun xs H2=>r x xs H2 Q
variable {o e:Expr} {es:List Expr} {to:TE} {t:TA} {name:Str} {apos cpos:Pos} {T id:String} {r:V→List V→Hp→VK→Prop}
theorem jK (pa:PlainAttrs T) (slot:Slot T name id) (hty:typeOf (.builtin id)=pure (.type "method_descriptor")) (hm:MtR X id r) (ho:PE X o to) (ha:PA X (e :: es) t)
 (hbase:attributeBase o name X.env (eval o X.env)=eval o X.env:=by rfl)
 (hfew:((backTo cpos (starEach (e :: es) X.env)).all (fun x=>!x.1) && (backToKw cpos (keywordEach [] X.env)).all (fun x=>x.1.isSome)
  && decide ((e :: es).length+([]:List Keyword).length+(if ([]:List Keyword).isEmpty then 0 else 1)<30))=true:=by rfl)
 (hline:(apos.endLine == cpos.line)=true:=by rfl) (hs:starEach (e :: es) X.env=(false,eval e X.env) :: starEach es X.env:=by rfl) (hplain:(backTo cpos (starEach es X.env)).any (·.1)=false:=by rfl) :
 PE X (.Call (.Attribute o name apos) (e :: es) [] cpos) (tBM X.K T r to t):=by
 intro pins s σ H Q I h
 refine wpAny_Call_method_late hbase hfew hline rfl (thn (ho pins s σ H _ I h) fun v s1 ⟨x,H1,I1,r1,ty,q1⟩=>?_)
 obtain ⟨h1,h2⟩:=yw I1 r1 ty
 refine ⟨T,id,pa,slot,hty,h1,h2,?_⟩
 have hA:=ha cpos pins s1 σ H1 _ I1 q1
 rw [hs] at hA ⊢
 refine Calls.callWith_builtin (by show (false || (backTo cpos (starEach es X.env)).any (·.1))=false;rw [hplain] <;> rfl) (Calls.evalArgs_plain ?_)
 exact thn hA fun us s2 ⟨vs,H2,I2,r2,q2⟩=>hm pins s2 σ H2 x vs v us Q I2 r1 r2 q2
end
end L2
namespace L2
def MtM (X:Cx) (id:String) (r:V→List V→Hp→VK→Prop):Prop:=
 ∀ (pins:List (Addr×Obj)) (s:Shared) (σ:St) (H:Hp) (x:V) (xs:List V) (v:Value) (us:List Value) (Q:VK),Inv X pins σ H s→aU x v→aQ xs us→r x xs H Q →
   wpAny (model X.prog X.w) X.A (call (.builtin id) (v :: us)) (EP X pins σ Q) X.xe s
theorem aQ.one:∀ {x:V} {us:List Value},aQ [x] us→∃ u,us = [u]∧aU x u
 | _,_,.cons r .nil=>⟨_,rfl,r⟩
theorem aQ.two:∀ {x y:V} {us:List Value},aQ [x,y] us→∃ u v,us = [u,v]∧aU x u∧aU y v
 | _,_,_,.cons r (.cons q .nil)=>⟨_,_,rfl,r,q⟩
section
variable {X:Cx} {pins:List (Addr×Obj)} {σ:St} {H:Hp} {s:Shared} {l b:Addr} {xs ys zs:List V}
theorem Inv.lset {its its':List Value} {n:Nat} {f:Array Value→Array Value} {t':Nat} (I:Inv X pins σ H s) (hH:H l=some (.lst xs))
 (e:s.heap.get? l=some { cls:=.type "list",data:=.seq its.toArray n }) (hf:f its.toArray=its'.toArray) (hv:aQ ys its') (hz:ys.length≤sizeLine) :
 Inv X pins σ (upd H l (.lst ys)) { s with heap:=s.heap.update l (Obj.mapSeq f),toks:=t' }:=by
 have q:=PySem.IsL.update e f
 rw [hf] at q
 refine I.write (x:=l) (e:=l) (by rw [hH];exact trivial) (.inl rfl) (fun b' u hb hu=>(Heap.get?_update_other s.heap (Obj.mapSeq f) (Ne.symm hb)).trans hu) ⟨_,q⟩ ?_
 exact ⟨hz,its',_,hv,q⟩
theorem Inv.lnew {its:List Value} {t':Nat} (I:Inv X pins σ H s) (hv:aQ ys its) (hz:ys.length≤sizeLine) :
 Inv X pins σ (upd H s.heap.objs.size (.lst ys)) { s with heap:=s.heap.push { cls:=.type "list",data:=.seq its.toArray },toks:=t' }:=
 I.laid (fun _ _ q=>Heap.get?_push_of_some _ q) (Nat.le_refl _) ⟨hz,its,0,hv,Heap.get?_push_size _ rfl⟩
theorem Inv.fresh (I:Inv X pins σ H s):H s.heap.objs.size=none:=I.hok.fresh (Nat.le_refl _)
theorem Inv.lstM (I:Inv X pins σ H s) (hH:H l=some (.lst xs)):xs.length≤sizeLine∧∃ (its:List Value) (n:Nat),aQ xs its∧xs.length=its.length∧s.heap.get? l=some { cls:=.type "list",data:=.seq its.toArray n }:=by
 obtain ⟨z,its,n,r,e⟩:=I.hok l _ hH
 exact ⟨z,its,n,r,r.length,e⟩
end
section
variable {X:Cx}
def vp:V→List V→Hp→VK→Prop:=fun x vs H Q=>∃ l xs y,x = .ref l∧vs = [y]∧H l=some (.lst xs)∧xs.length<sizeLine∧Q .non (upd H l (.lst (xs ++ [y])))
theorem cL:MtM X "list.append" vp:=by
 intro pins s σ H x vs v us Q I rx rv h
 obtain ⟨l,xs,y,rfl,rfl,hH,hz,q⟩:=h
 cases rx
 obtain ⟨u,rfl,ru⟩:=rv.one
 obtain ⟨z,its,n,r,hl,e⟩:=I.lstM hH
 refine call_meets F.slot_list_append ⟨_,e,rfl⟩ F.entry_list_append (F.args_list_append_2 _ _) (PySem.list_append l its.toArray n u (by rw [List.size_toArray];omega)) ⟨e,?_⟩
 refine ⟨.non,_,I.lset (its':=its ++ [u]) hH e (by simp) (r.append (.cons ru .nil)) ?_,rfl,q⟩
 rw [List.length_append,List.length_singleton]
 omega
def xR:R2:=fun x y H Q=>∃ l b xs zs,x = .ref l∧y = .ref b∧H l=some (.lst xs)∧H b=some (.lst zs)∧xs.length+zs.length≤sizeLine∧∀ p,H p=none→Q (.ref p) (upd H p (.lst (xs ++ zs)))
theorem xz:OpR X (binaryOp .Add) xR:=by
 intro pins s σ H x y v u Q I rx ry h
 obtain ⟨l,b,xs,zs,rfl,rfl,hH,hB,hz,q⟩:=h
 cases rx
 cases ry
 obtain ⟨z,its,n,r,hl,e⟩:=I.lstM hH
 obtain ⟨z2,its2,n2,r2,hl2,e2⟩:=I.lstM hB
 refine PySem.P.add_list e e2 ?_ (by rw [List.size_toArray,List.size_toArray];omega)
 have ea:its.toArray ++ its2.toArray=(its ++ its2).toArray:=by simp
 rw [ea]
 exact ⟨.ref _,_,I.lnew (t':=s.toks) (r.append r2) (by rw [List.length_append];omega),rfl,q _ I.fresh⟩
end
end L2
namespace Att
open PySem PySem.W PySem.Calls PyProof.Rows
theorem gK {P:Params} {h:Heap}:∀ (ns:List Int) (vs:List Value),WellAll P h vs (ns.map WData.int)→IntsAre vs ns:=by
 intro ns
 induction ns with
 | nil=>
   intro vs w
   rw [List.map_nil] at w
   cases w
   exact .nil
 | cons n ns ih=>
   intro vs w
   rw [List.map_cons] at w
   cases w with
   | cons a b=>
     cases a
     exact .cons _ _ (ih _ b)
theorem qC {l:OpenLaw} {n:Nat} (hn:l.most=some n) {P:Params} {h:Heap} {args:List WData} {vals:List Value}
 (hpre:l.row.toRowW.claim.pre args=true) (hwl:WellAll P h vals args) :
 ∃ a vs ns,vals = [Value.ref a]∧args = [WData.list (ns.map WData.int)]∧h.get? a=some { cls:=.type "list",data:=.seq vs.toArray }∧IntsAre vs ns∧ns.length≤n:=by
 have hsh:WShape.hasAll [] args [.list .int]=true:=(pre_splitW hpre).1
 have hc:l.pre.holds [] { args:=args }=true:=(pre_splitW hpre).2
 obtain ⟨d,r,rfl,h1,h2⟩:=hasAllW_cons hsh
 obtain rfl:=hasAllW_nil h2
 obtain ⟨xs,rfl,h3⟩:=hasW_list h1
 obtain ⟨ns,rfl⟩:=items_int h3
 have hlen:ns.length≤n:=by
  unfold OpenLaw.pre at hc
  have h4:(WTm.not (.lt (.lit (.int (n:Int))) (.len (.arg 0)))).holds [] { args:=[.list (ns.map .int)] }=true:=by
   have h4:=(holds_andW hc).1
   rw [hn] at h4
   exact h4
  have h5:=condW_of h4 (w_not (w_lt w_lit (w_len_list (w_arg rfl))))
  rw [List.length_map] at h5
  refine Nat.le_of_not_lt fun q=>?_
  have q':(n:Int)<((ns.length:Nat):Int):=by omega
  first
   | (rw [decide_eq_true q'] at h5;exact absurd h5 (by decide))
   | (simp at h5;omega)
 cases hwl with
 | cons w1 w2=>
   cases w2
   cases w1 with
   | list ho hall=>exact ⟨_,_,ns,rfl,rfl,ho,gK ns _ hall,hlen⟩
theorem qz (l:OpenLaw) (args:List WData):l.row.toRowW.claim.post args (.bool true) args=true:=
 postW_of (r:=l.row.toRowW) (X:=(true == true))
  (show WShape.has [] (.bool true) .bool=true by first | rfl | decide | simp [WShape.has,WShape.arms,WShape.armsAll])
  (show (WTm.eq .res (.lit (.bool true))).value [] { args:=args,res:=some (.bool true),after:=args }=some (.bool (true == true)) from w_eq_bool (w_res rfl) w_lit) rfl
theorem attach_call {l:OpenLaw} {n:Nat} {q:Program} {loose:List Str} {XP:(Str→Option Value)→Heap→Prop} {YP:World→Heap→Prop} {d:DefRec}
 (hn:l.most=some n) (hdf:d.params.defaults = [])
 (call:∀ (w:World) (s₀ s₁:Shared) (mg mb:Str→Option Value) (fa:Addr) (o:Obj) (pm cd doc:Value) (a:Addr) (vs:List Value) (ns:List Int),
  Ground q loose [] XP w s₀ mg mb s₁.heap→YP w s₁.heap →
  s₁.heap.get? fa=some o→o.data = .func (docDef d.name d.params d.body d.scope pm cd doc)→s₁.heap.CodeRec cd d.name→mg d.name=some (.ref fa) →
  s₁.heap.get? a=some { cls:=.type "list",data:=.seq vs.toArray }→IntsAre vs ns→ns.length≤n→s₁.gens = #[] →
  codeAny (model l.prog w) callerA (.call (.ref fa) ⟨[.ref a],[]⟩) (fun r s'=>r = .ok (.ret (.bool true))∧OldK s₁.heap s'.heap∧s'.os=s₁.os∧AllBare s'.gens) s₁) :
 WalkO q loose XP YP l.row.toRowW d [] (fun f vs=>PySem.call f vs):=by
 intro w s₀ s₁ mg mb G Y fa o pm cd doc dV kV ho hd hcd hD hmg hg args vals as hpre hlay hrd hwl hlo
 obtain rfl:dV = .none:=Dflts.none hD hdf
 obtain rfl:kV = .none:=Dflts.noKw hD
 obtain ⟨a,vs,ns,rfl,rfl,hobj,hints,hlen⟩:=qC hn hpre hwl
 refine enter_call (codeAny_mono (call w s₀ s₁ mg mb fa o pm cd doc a vs ns G Y ho (fd_plain hd) hcd hmg hobj hints hlen hg) fun r s' hq=>?_)
 obtain ⟨rfl,h2,h3,h4⟩:=hq
 exact ⟨.inl ⟨.bool true,.bool true,[],rfl,fun _=>rfl,.bool true,qz l _,fun _=>⟨List.Pairwise.nil,fun _ hm=>(nomatch hm)⟩⟩,h2,h3,h4⟩
end Att
namespace L2
theorem jZ:∀ {vs:List Value} {ns:List Int},IntsAre vs ns→aQ (ns.map V.int) vs
 | _,_,.nil=>.nil
 | _,_,.cons n t h=>.cons ⟨t,rfl⟩ (jZ h)
def wK (H:Hp):Prop:=∀ b,H b=none∨∃ o xs,H b=some (.frz o (.lst xs))
theorem rZ {P:Program} {w:World} {K:W.Frag} {mg mb:Str→Option Value} {CX:CXT} {k:Nat} {fa a:Addr} {fd:FuncData} {x:Str} {sp:Sp} {s₁:Shared} {vs:List Value} {ns:List Int}
 (KX:K.In s₁.heap) (hns:s₁.heap.Ns mainGlobals mg) (hb:s₁.heap.Ns builtinsNs mb) (hbb:∀ x:Str,x≠"__name__"→mb x=bootBuiltins x) (hlim:s₁.heap.NoLimit) (hg:s₁.gens = #[])
 (ha:s₁.heap.get? a=some { cls:=.type "list",data:=.seq vs.toArray }) (hi:IntsAre vs ns) (hl:ns.length≤sizeLine) (hr:Room k callerA)
 (F:∀ base:Heap,K.In base→base.Ns mainGlobals mg→aY P w K mg base CX k fa fd [x] sp) (hbind:∀ (s:Shared) (u:Value),BindsTo s fd ⟨[u],[]⟩ [(x,u)])
 (hsp:∀ H:Hp,wK H→SqL K H a (ns.map V.int)→sp [.ref a] H (fun v _=>v = .bl true) fun _ _ _=>False)
 (hCX:∀ H e s',CX [] H s₁ (fun _ _ _=>False) e s'→False) :
 codeAny (model P w) callerA (.call (.ref fa) ⟨[.ref a],[]⟩) (fun r s'=>r = .ok (.ret (.bool true))∧OldK s₁.heap s'.heap∧s'.os=s₁.os∧AllBare s'.gens) s₁:=by
 have rv:=jZ hi
 have lenV:=hi.length
 have core:∀ H:Hp,wK H→SqL K H a (ns.map V.int)→HOk P w H s₁.heap→(∀ b,H b≠none→b=a)→(H a≠none→K.lookup a=none) →
  codeAny (model P w) callerA (.call (.ref fa) ⟨[.ref a],[]⟩) (fun r s'=>r = .ok (.ret (.bool true))∧OldK s₁.heap s'.heap∧s'.os=s₁.os∧AllBare s'.gens) s₁:=by
  intro H hO hS hok hA hK
  have base_of:∀ {b:Addr} {o:Obj},s₁.heap.get? b=some o→H b=none→(kq s₁.heap H).get? b=some o:=fun e n=>rO e n
  have noA:∀ {b:Addr} {o:Obj} {es:Array DictEntry} {ep:Nat},s₁.heap.get? b=some o→o.data = .dict es ep→H b=none:=fun {b o es ep} e d=>by
   cases q:H b with
   | none=>rfl
   | some u=>
     have e':b=a:=hA b (by rw [q];simp)
     subst e'
     rw [ha] at e;cases e
     have d':Data.seq vs.toArray _=Data.dict es ep:=d
     cases d'
  have nsK:∀ {b:Addr} {m:Str→Option Value},s₁.heap.Ns b m→(kq s₁.heap H).Ns b m:=fun {b m} ⟨o,es,ep,e,d,r⟩=>⟨o,es,ep,base_of e (noA e d),d,r⟩
  have hKb:K.In (kq s₁.heap H):=fun b o e=>base_of (KX b o e) (by
   cases q:H b with
   | none=>rfl
   | some u=>
     have e':b=a:=hA b (by rw [q];simp)
     subst e'
     rw [hK (by rw [q];simp)] at e;cases e)
  have hM:Mod K mg (kq s₁.heap H):=⟨hKb,nsK hns,⟨mb,nsK hb,hbb⟩,let ⟨mc,h1,h2⟩:=hlim;⟨mc,nsK h1,h2⟩⟩
  have e0:mC P w K mg (kq s₁.heap H) callerA [] s₁ H:=⟨rfl,hM,fun b o e=>uM e,Nat.le_of_eq (qd _ _),trivial,fun b hb=>absurd (show b∈([]:List Addr) from hb) (by simp),hok,.of_eq hg⟩
  refine codeAny_mono ((F _ hKb (nsK hns)).run callerA [] s₁ H ⟨[.ref a],[]⟩ [.ref a] [.ref a] _ _ hr e0 (hbind s₁ (.ref a)) (.cons rfl .nil) (hsp H hO hS)) fun r s' h=>?_
  cases r with
  | error e=>exact (hCX H e s' h).elim
  | ok fl=>
    cases fl with
    | next=>exact False.elim h
    | brk=>exact False.elim h
    | cont=>exact False.elim h
    | ret u=>
      obtain ⟨v,H',os,bare,un,hok',r',q⟩:=h
      have q':v = .bl true:=q
      subst q'
      obtain rfl:u=Value.bool true:=r'
      refine ⟨rfl,OldK.of_keep fun b o e=>?_,os,bare⟩
      cases q:H b with
      | none=>exact un.keep b o e q (by intro z;exact absurd (show b∈([]:List Addr) from z) (by simp)) (by simp)
      | some u=>
        rcases hO b with z | ⟨ob,xs,z⟩
        ·rw [q] at z;cases z
        ·have z2:=un.frzs b ob _ z
         obtain ⟨e1,_⟩:=hok b _ z
         obtain ⟨e2,_⟩:=hok' b _ z2
         rw [e] at e1;cases e1
         exact e2
 cases hk:K.lookup a with
 | some o=>
   have e:=KX a o hk
   rw [ha] at e
   cases e
   refine core (fun _=>none) (fun _=>.inl rfl) (.inr ⟨_,vs.toArray,_,hk,rfl,rfl,rfl,by rw [List.size_toArray,lenV];exact hl,by simpa using rv⟩) (fun b u z=>by have z':(none:Option HO)=some u:=z;cases z') (fun b z=>absurd rfl z) fun z=>absurd rfl z
 | none=>
   refine core (fun b=>if b=a then some (.frz { cls:=.type "list",data:=.seq vs.toArray } (.lst (ns.map V.int))) else none) (fun b=>?_) (.inl (.inr ⟨{ cls:=.type "list",data:=.seq vs.toArray },if_pos rfl⟩)) (fun b u z=>?_) (fun b z=>?_) fun _=>hk
   ·by_cases hb:b=a
    ·exact .inr ⟨_,_,if_pos hb⟩
    ·exact .inl (if_neg hb)
   ·by_cases hb:b=a
    ·have z':=(if_pos hb).symm.trans z
     cases z'
     subst hb
     exact ⟨ha,by rw [List.length_map];exact hl,vs,_,rv,ha⟩
    ·have z':=(if_neg hb).symm.trans z
     cases z'
   ·by_cases hb:b=a
    ·exact hb
    ·exact absurd (if_neg hb) z
end L2
namespace L2
abbrev KOf {K:W.Frag} {h:Heap} (_:K.In h):W.Frag:=K
theorem walk_of {l:W.OpenLaw} {n k:Nat} {q:Program} {loose:List Str} {XP:(Str→Option Value)→Heap→Prop} {YP:World→Heap→Prop} {d:DefRec} {K:Params→W.Frag} {CX:World→CXT} {sp:World→Sp} {x:Str}
 (hn:l.most=some n) (hn2:n≤sizeLine) (hdf:d.params.defaults = []) (hr:Room k callerA)
 (hY:∀ (w:World) (h:Heap),YP w h→(K w.params).In h)
 (F:∀ (w:World) (mg:Str→Option Value) (fa:Addr) (h:Heap),(K w.params).In h→h.Ns mainGlobals mg→mg d.name=some (.ref fa) →
  ∃ fd:FuncData,(∀ (s:Shared) (u:Value),BindsTo s fd ⟨[u],[]⟩ [(x,u)]) ∧
    ∀ base:Heap,(K w.params).In base→base.Ns mainGlobals mg→aY l.prog w (K w.params) mg base (CX w) k fa fd [x] (sp w))
 (hsp:∀ (w:World) (H:Hp) (a:Addr) (ns:List Int),ns.length≤n→wK H→SqL (K w.params) H a (ns.map V.int)→sp w [.ref a] H (fun v _=>v = .bl true) fun _ _ _=>False)
 (hCX:∀ (w:World) (H:Hp) (s:Shared) (e:Value) (s':Shared),CX w [] H s (fun _ _ _=>False) e s'→False) :
 W.WalkO q loose XP YP l.row.toRowW d [] (fun f vs=>PySem.call f vs):=by
 refine Att.attach_call hn hdf fun w s₀ s₁ mg mb fa o pm cd doc a vs ns G Y ho hd hcd hmg hobj hints hlen hg=>?_
 have KX:=hY w _ Y
 obtain ⟨fd,hb,hF⟩:=F w mg fa _ KX G.T.g hmg
 exact rZ KX G.T.g G.T.b G.T.builtins G.T.nolimit hg hobj hints (Nat.le_trans hlen hn2) hr hF hb (fun H hO hS=>hsp w H a ns hlen hO hS) fun H e s'=>hCX w H s₁ e s'
end L2
namespace L2
def cb (s:Stmt):Arguments:=match s with
 | .FunctionDef _ a _ _ _ _ _ _ _ _=>a
 | _=>{ posonlyargs:=[],args:=[],vararg:=none,kwonlyargs:=[],kw_defaults:=[],kwarg:=none,defaults:=[] }
def bT (s:Stmt):List Stmt:=match s with
 | .FunctionDef _ _ b _ _ _ _ _ _ _=>b
 | _=>[]
def au (s:Stmt):Scope:=match s with
 | .FunctionDef _ _ _ _ _ _ sc _ _ _=>sc
 | _=>{ kind:=.function,names:=[],isGenerator:=false,isCoroutine:=false }
abbrev CX0:CXT:=fun _ _ _ _ _ _=>False
abbrev E0:XK:=fun _ _ _=>False
theorem sO {X:Cx}:fK CX0 X E0:=fun _ _ _ _ _ _ _ h=>h.elim
structure Fun (K:W.Frag) (x qual:Str) (st:Stmt) (f:Addr) (fd:FuncData):Prop where
 ex:∃ (oc:Value) (od:Option Addr) (kV doc pm:Value) (an:Option Addr) (cdv ct:Value) (osl:Array (Option Value)),
  fd=W.fnOf x qual (cb st) (bT st) (au st) .none kV doc pm an cdv ct∧K.lookup f=some ⟨oc,od,.func fd,osl⟩∧W.codeIn K cdv qual=true
 kp:W.keepIn K (.ref f)=true
section
variable {P:Program} {w:World} {K:W.Frag} {mg:Str→Option Value} {base:Heap}
theorem Fun.ok {x qual:Str} {st:Stmt} {f:Addr} {fd:FuncData} {N ps:List Str} {k:Nat} {sp:Sp} (F:Fun K x qual st f fd) (S:aA N ps (au st)) (len:∀ vs H Q E,sp vs H Q E→vs.length=ps.length)
 (hbody:∀ (cdv:Value) (A:Around) (outer:List Env) (s:Shared) (H:Hp) (vs:List V) (Q:VK) (E:XK),Room k (A.deeper (envOfC qual (au st) s.heap.objs.size f cdv))→sp vs H Q E →
  ∃ t,PSs (ja CX0 P w K mg base N qual (au st) f cdv A outer s H E).nox (bT st) t∧t { nx:=fun _ H'=>Q .non H',rt:=Q } (fA N vs) H):aY P w K mg base CX0 (k+1) f fd ps sp:=by
 obtain ⟨oc,od,kV,doc,pm,an,cdv,ct,osl,rfl,lk,hcd⟩:=F.ex
 refine wc lk hcd S len fun A outer s H vs Q E hr hsp=>?_
 obtain ⟨t,h,q⟩:=hbody cdv A outer s H vs Q E hr hsp
 exact ⟨t,h.nox,q⟩
theorem Fun.binds {x qual:Str} {st:Stmt} {f:Addr} {fd:FuncData} {ps:List Str} (F:Fun K x qual st f fd)
 (h:∀ (kV doc pm:Value) (an:Option Addr) (cdv ct:Value) (us:List Value),us.length=ps.length→bindArgs (W.fnOf x qual (cb st) (bT st) (au st) .none kV doc pm an cdv ct) ⟨us,[]⟩=pure (ps.zip us)):aI K fd ps []:=by
 obtain ⟨oc,od,kV,doc,pm,an,cdv,ct,osl,rfl,lk,hcd⟩:=F.ex
 exact .all (h kV doc pm an cdv ct)
theorem eQ {x qual:Str} {st:Stmt} {f:Addr} {oc:Value} {od an:Option Addr} {osl:Array (Option Value)} {kV doc pm cdv ct:Value} (l:K.lookup f=some ⟨oc,od,.func (W.fnOf x qual (cb st) (bT st) (au st) .none kV doc pm an cdv ct),osl⟩)
 (c:W.codeIn K cdv qual=true) (k:W.keepIn K (.ref f)=true):Fun K x qual st f (W.fnOf x qual (cb st) (bT st) (au st) .none kV doc pm an cdv ct):=⟨⟨oc,od,kV,doc,pm,an,cdv,ct,osl,rfl,l,c⟩,k⟩
end
theorem fX {n:Nat} (h:n≤1000):n<sizeLine:=Nat.lt_of_le_of_lt h (by decide)
section
variable {X:Cx}
theorem pv (i:Nat) {x:Str} {pos:Pos} (hN:X.N[i]? = some x:=by rfl) (hv:Vis X.env.scope x:=by first | exact Or.inl rfl | exact Or.inr (Or.inl rfl) | exact Or.inr (Or.inr rfl)) (hd:(x == ("__debug__":Str))=false:=by decide)
 (hcd:(x == ("__classdict__":Str))=false:=by decide):PE X (.Name x pos) (bW i):=xN hN hv hd hcd
end
theorem bf {A B:Prop} (h:B):if false=true then A else B:=by
 rw [if_neg Bool.false_ne_true]
 exact h
theorem br {A B:Prop} (h:A):if true=true then A else B:=by
 rw [if_pos rfl]
 exact h
theorem qi {c A B:Prop} [Decidable c] (h1:c→A) (h2:¬ c→B):if c then A else B:=by
 by_cases h:c
 ·rw [if_pos h]
  exact h1 h
 ·rw [if_neg h]
  exact h2 h
end L2
section
namespace L2.Bw
def ii (env:Env):List (Str×NameKind)→List (Str×Addr)→List (Str×Addr)
 | [],cs=>cs
 | y :: r,cs=>ii env r (if (y.2 == NameKind.free)=true then (match env.cells.lookup y.1 with | some a=>(y.1,a) :: cs | none=>cs) else cs)
theorem di {β:Type}:∀ {l:List (Str×β)} {p:Str×β},p∈l→∃ c,l.lookup p.1=some c
 | [],_,h=>nomatch h
 | (a,b) :: r,p,h=>by
   cases e:p.1 == a with
   | true=>exact ⟨b,by simp only [List.lookup_cons,e]⟩
   | false=>
     rcases List.mem_cons.mp h with q | q
     ·subst q;simp at e
     ·obtain ⟨c,hc⟩:=di q
      exact ⟨c,by simp only [List.lookup_cons,e];exact hc⟩
theorem lH {env:Env}:∀ {ns:List (Str×NameKind)} {cs:List (Str×Addr)} {p:Str×Addr},p∈ii env ns cs→p∈cs∨env.cells.lookup p.1=some p.2
 | [],_,_,h=>.inl h
 | y :: r,cs,p,h=>by
   rcases lH (ns:=r) h with q | q
   ·by_cases hk:(y.2 == NameKind.free)=true
    ·rw [if_pos hk] at q
     cases e:env.cells.lookup y.1 with
     | none=>rw [e] at q;exact .inl q
     | some a=>
       rw [e] at q
       rcases List.mem_cons.mp q with rfl | q
       ·exact .inr e
       ·exact .inl q
    ·rw [if_neg hk] at q;exact .inl q
   ·exact .inr q
theorem jr {env:Env}:∀ {ns:List (Str×NameKind)} {cs:List (Str×Addr)} {p:Str×Addr},p∈cs→p∈ii env ns cs
 | [],_,_,h=>h
 | y :: r,cs,p,h=>by
   refine jr (ns:=r) ?_
   by_cases hk:(y.2 == NameKind.free)=true
   ·rw [if_pos hk]
    cases e:env.cells.lookup y.1 with
    | none=>exact h
    | some a=>exact List.mem_cons_of_mem _ h
   ·rw [if_neg hk];exact h
theorem ij {env:Env}:∀ {ns:List (Str×NameKind)} {cs:List (Str×Addr)} {y:Str×NameKind} {c:Addr},y∈ns→y.2 = .free→env.cells.lookup y.1=some c→(y.1,c)∈ii env ns cs
 | z :: r,cs,y,c,h,hf,hc=>by
   rcases List.mem_cons.mp h with rfl | h
   ·refine jr (ns:=r) ?_
    rw [if_pos (by rw [hf];rfl),hc]
    exact List.mem_cons_self
   ·exact ij (ns:=r) h hf hc
theorem eN {env:Env} {f:(Str×NameKind)→List (Str×Addr)→Sem (ForInStep (List (Str×Addr)))}
 (hf:∀ y cs,f y cs=if (y.2 == NameKind.free)=true then (do let a ← cellOf env y.1;pure (ForInStep.yield ((y.1,a) :: cs))) else pure (ForInStep.yield cs)) :
 ∀ (ns:List (Str×NameKind)) (cs:List (Str×Addr)),(∀ y∈ns,y.2 = .free→∃ c,env.cells.lookup y.1=some c)→(forIn ns cs f:Sem _)=pure (ii env ns cs)
 | [],cs,_=>rfl
 | y :: r,cs,h=>by
   rw [List.forIn_cons,hf]
   by_cases hk:(y.2 == NameKind.free)=true
   ·obtain ⟨c,hc⟩:=h y List.mem_cons_self (by simpa using hk)
    have e1:cellOf env y.1=pure c:=by unfold cellOf;rw [hc]
    rw [if_pos hk,e1]
    have ih:=eN hf r ((y.1,c) :: cs) fun z hz=>h z (List.mem_cons_of_mem _ hz)
    show (forIn r ((y.1,c) :: cs) f:Sem _)=pure (ii env r _)
    rw [ih,if_pos hk,hc]
   ·have ih:=eN hf r cs fun z hz=>h z (List.mem_cons_of_mem _ hz)
    rw [if_neg hk]
    show (forIn r cs f:Sem _)=pure (ii env r _)
    rw [ih,if_neg hk]
theorem il {env:Env} {sc:Scope} (h:∀ y∈sc.names,y.2 = .free→∃ c,env.cells.lookup y.1=some c):closureFor sc env=pure (ii env sc.names []):=by
 simp only [closureFor]
 rw [eN (env:=env) (fun y cs=>by obtain ⟨n,kd⟩:=y;by_cases hk:(kd == NameKind.free)=true <;> simp [hk]) sc.names [] h]
 rfl
def cxC (X:Cx) (N:List Str) (sc:Scope) (C:Addr) (s:Shared) (H:Hp) (fp:List Addr):Cx where
 prog:=X.prog
 w:=X.w
 K:=X.K
 mg:=X.mg
 base:=X.base
 A:=X.A
 N:=N
 s₀:=s
 H₀:=H
 env:=compEnvC sc (ii X.env sc.names []) C X.env
 outer:=X.stack
 stack:=X.stack
 ex:=fp
 fn:=fun _=>false
 calm:=X.calm
 pn:=[]
 xe:=fun _ _=>False
def ph (sc:Scope) (env:Env) (p:Str×Str):Bool:=match (relabel sc env).names.lookup p.1 with
 | some .local=>false
 | some .cell=>p.1 == p.2
 | some .free=>p.1 == p.2
 | _=>true
structure Lc (X:Cx) (sc:Scope) (k:Nat) (N:List Str):Prop where
 nocell:∀ y∈sc.names,y.2≠.cell
 kind:sc.kind = .function
 names:∀ y∈sc.names,y.2 = .local→sc.names.lookup y.1=some .local
 fr:∀ y∈sc.names,y.2 = .free→X.env.kindOf y.1=some .cell∨X.env.kindOf y.1=some .free
 len:N.length=k+X.N.length
 old:((N.drop k).zip X.N).all (ph sc X.env)=true
theorem dW {X:Cx} {sc:Scope} {k:Nat} {N:List Str} (h1:(sc.names.all fun y=>y.2 != .cell)=true) (h2:sc.kind = .function) (h3:(sc.names.all fun y=>y.2 != .local || sc.names.lookup y.1 == some .local)=true)
 (h4:(sc.names.all fun y=>y.2 != .free || (X.env.kindOf y.1 == some .cell || X.env.kindOf y.1 == some .free))=true) (h5:N.length=k+X.N.length) (h6:((N.drop k).zip X.N).all (ph sc X.env)=true):Lc X sc k N where
 nocell:=fun y hy=>by have:=List.all_eq_true.mp h1 y hy;simpa using this
 kind:=h2
 names:=fun y hy hl=>by have:=List.all_eq_true.mp h3 y hy;simpa [hl] using this
 fr:=fun y hy hl=>by have:=List.all_eq_true.mp h4 y hy;simpa [hl] using this
 len:=h5
 old:=h6
section
variable {X:Cx} {sc:Scope} {k:Nat} {N:List Str} {pins:List (Addr×Obj)} {σ:St} {H:Hp} {s:Shared} {fp:List Addr}
theorem Lc.cells (L:Lc X sc k N) (ok:X.Ok):∀ y∈sc.names,y.2 = .free→∃ c,X.env.cells.lookup y.1=some c:=fun y hy hf=>ok.has y.1 (L.fr y hy hf)
theorem ik {x:Str} {c:Addr} (e:(ii X.env sc.names []).lookup x=some c):X.env.cells.lookup x=some c:=by
 rcases lH (PySem.mem_of_lookup e) with q | q
 ·exact nomatch q
 ·exact q
theorem cU (L:Lc X sc k N) {x:Str} {kd:NameKind} (e:(relabel sc X.env).names.lookup x=some kd) (hk:kd = .cell∨kd = .free):(x,NameKind.free)∈sc.names:=by
 have hm:=PySem.mem_of_lookup e
 obtain ⟨⟨n,k'⟩,hy,q⟩:=List.mem_map.mp hm
 dsimp only at q
 by_cases hc:(k' == NameKind.free && X.env.scope.kind == .function && X.env.kindOf n == some .cell)=true
 ·rw [if_pos hc] at q
  have e1:n=x:=congrArg Prod.fst q
  have e2:k' = .free:=by simp at hc;exact hc.1.1
  subst e1 e2
  exact hy
 ·rw [if_neg hc] at q
  have e1:n=x:=congrArg Prod.fst q
  have e2:k'=kd:=congrArg Prod.snd q
  subst e1 e2
  rcases hk with rfl | rfl
  ·exact absurd rfl (L.nocell _ hy)
  ·exact hy
theorem pU (L:Lc X sc k N) {i:Nat} {x:Str} (hi:N[i]? = some x) (hk:k≤i) (v:Vis (relabel sc X.env) x):X.N[i - k]? = some x∧(x,NameKind.free)∈sc.names:=by
 have hlt:i<N.length:=(List.getElem?_eq_some_iff.mp hi).1
 have hl:=L.len
 have h2:i - k<X.N.length:=by omega
 have e1:(N.drop k)[i - k]? = some x:=by rw [List.getElem?_drop];rw [show k+(i - k)=i by omega];exact hi
 have e2:X.N[i - k]? = some X.N[i - k]:=List.getElem?_eq_getElem h2
 have hz:((N.drop k).zip X.N)[i - k]? = some (x,X.N[i - k]):=by rw [List.getElem?_zip_eq_some];exact ⟨e1,e2⟩
 have ho:=List.all_eq_true.mp L.old _ (List.mem_of_getElem? hz)
 have v':(relabel sc X.env).names.lookup x=some .local∨(relabel sc X.env).names.lookup x=some .cell∨(relabel sc X.env).names.lookup x=some .free:=v
 unfold ph at ho
 rcases v' with q | q | q
 ·simp only [q] at ho;cases ho
 ·simp only [q] at ho
  have e3:x=X.N[i - k]:=by simpa using ho
  exact ⟨by rw [e2,← e3],cU L q (.inl rfl)⟩
 ·simp only [q] at ho
  have e3:x=X.N[i - k]:=by simpa using ho
  exact ⟨by rw [e2,← e3],cU L q (.inr rfl)⟩
theorem yS (L:Lc X sc k N) (I:Inv X pins σ H s) (fo:∀ b∈fp,dY X pins H b) (ob:∀ b∈fp,∃ o,s.heap.get? b=some o) {C:Addr} (hC:s.heap.objs.size≤C):(cxC X N sc C s H fp).Ok where
 mod:=I.ok.mod
 kind:=L.kind
 glob:=I.ok.glob
 blt:=I.ok.blt
 above:=hC
 inj:=fun x y c h1 h2=>I.ok.inj x y c (ik h1) (ik h2)
 has:=fun x hx=>by
  have hx':(relabel sc X.env).names.lookup x=some .cell∨(relabel sc X.env).names.lookup x=some .free:=hx
  have hm:(x,NameKind.free)∈sc.names:=by
   rcases hx' with q | q
   ·exact cU L q (.inl rfl)
   ·exact cU L q (.inr rfl)
  obtain ⟨c,hc⟩:=L.cells I.ok _ hm rfl
  exact di (ij hm rfl hc)
 cab:=fun x c h _=>nomatch h
 hd:=I.ok.hd
 frames:=I.ok.frames
 stk:=.inl rfl
 exf:=fun b hb=>by
  obtain ⟨o,e⟩:=ob b hb
  refine ⟨Nat.ne_of_lt (Nat.lt_of_lt_of_le (Heap.lt_size e) hC),fun x c h=>(fo b hb).2.2.2.2.1 x c (ik h)⟩
 bs:=I.bs
 bsz:=Nat.le_trans I.ok.bsz I.sz
 noex:=fun b o e hb=>by
  rcases (fo b hb).2.2.2.1 with q | q
  ·exact I.ok.noex b o e q
  ·exact absurd (Nat.lt_of_lt_of_le (Heap.lt_size e) (Nat.le_trans I.ok.bsz q)) (Nat.lt_irrefl _)
 exfs:=fun b hb hf=>by
  rcases List.mem_cons.mp (I.stkSub b hf) with q | q
  ·exact (fo b hb).2.1 q
  ·exact (fo b hb).2.2.1 q
 funs:=I.stack
 frf:=I.stkFree
theorem sd (L:Lc X sc k N) (I:Inv X pins σ H s) (fo:∀ b∈fp,dY X pins H b) (ob:∀ b∈fp,∃ o,s.heap.get? b=some o) {C:Addr} {h':Heap} {tk n:Nat} {m:Str→Option Value} (hC:s.heap.objs.size<C)
 (kp:∀ b o,s.heap.get? b=some o→h'.get? b=some o) (hd:h'.get? s.heap.objs.size=some { cls:=.type "list",data:=.seq ([]:List Value).toArray n }) (hn:h'.Ns C m) :
 Inv (cxC X N sc C s H fp) [] (List.replicate k none ++ σ) (upd H s.heap.objs.size (.lst [])) { s with heap:=h',toks:=tk }:=by
 have hD:H s.heap.objs.size=none:=I.hok.fresh (Nat.le_refl _)
 have nofr:∀ b,H b=none→b≠s.heap.objs.size→upd H s.heap.objs.size (.lst []) b=none:=fun b h1 h2=>by rw [aj h2];exact h1
 have clt:∀ x c,X.env.cells.lookup x=some c→c<s.heap.objs.size:=fun x c e=>by obtain ⟨v,q⟩:=I.cell x c e;exact q.lt
 have ckeep:∀ {c:Addr} {v:Option Value},s.heap.IsCell c v→h'.IsCell c v:=fun {c v} ⟨o,e,d⟩=>⟨o,kp c o e,d⟩
 refine ⟨yS L I fo ob (Nat.le_of_lt hC),rfl,I.bare,Un.laid kp (Nat.le_refl _) hD,⟨m,hn,fun i x v h1 h2 h3=>?_⟩,fun x c e=>?_,?_,fun x c e=>?_,fun p hp=>absurd (show p∈([]:List (Addr×Obj)) from hp) (by simp),?_,?_⟩
 ·have hki:k≤i:=by
   by_cases q:i<k
   ·rw [List.getElem?_append_left (by simpa using q),List.getElem?_replicate,if_pos q] at h2
    cases h2
   ·omega
  rw [List.getElem?_append_right (by simpa using hki),List.length_replicate] at h2
  obtain ⟨hx,hm⟩:=pU L h1 hki h3
  have hkx:=L.fr _ hm rfl
  have hvis:Vis X.env.scope x:=by
   rcases hkx with q | q
   ·exact .inr (.inl q)
   ·exact .inr (.inr q)
  obtain ⟨m0,_,hl⟩:=I.loc
  obtain ⟨u,r,l⟩:=hl (i - k) x v hx h2 hvis
  refine ⟨u,r,?_⟩
  rcases l with ⟨q,_⟩ | ⟨_,c,hc,hcell⟩
  ·rcases hkx with z | z
   ·rw [show X.env.kindOf x=some .cell from z] at q;cases q
   ·rw [show X.env.kindOf x=some .free from z] at q;cases q
  ·obtain ⟨c',hc'⟩:=di (ij hm rfl hc)
   have e:=ik hc'
   rw [hc] at e;cases e
   refine .inr ⟨?_,c,hc',ckeep hcell⟩
   have v':(relabel sc X.env).names.lookup x=some .local∨(relabel sc X.env).names.lookup x=some .cell∨(relabel sc X.env).names.lookup x=some .free:=h3
   rcases v' with z | z | z
   ·exfalso
    have hlt:i<N.length:=(List.getElem?_eq_some_iff.mp h1).1
    have hl':=L.len
    have h2':i - k<X.N.length:=by omega
    have hz:((N.drop k).zip X.N)[i - k]? = some (x,X.N[i - k]):=by
     rw [List.getElem?_zip_eq_some]
     exact ⟨by rw [List.getElem?_drop,show k+(i - k)=i by omega];exact h1,List.getElem?_eq_getElem h2'⟩
    have ho:=List.all_eq_true.mp L.old _ (List.mem_of_getElem? hz)
    unfold ph at ho
    simp only [z] at ho
    cases ho
   ·exact .inl z
   ·exact .inr z
 ·obtain ⟨v,q⟩:=I.cell x c (ik e)
  exact ⟨v,ckeep q⟩
 ·exact nofr C (I.hok.fresh (Nat.le_of_lt hC)) (Nat.ne_of_gt hC)
 ·exact nofr c (I.freeC x c (ik e)) (Nat.ne_of_lt (clt x c (ik e)))
 ·exact I.hok.laid kp (Nat.le_refl _) (show bo X.prog X.w _ h' _ (.lst []) from ⟨Nat.zero_le _,[],n,.nil,hd⟩)
 ·show (List.replicate k none ++ σ).length=N.length
  rw [List.length_append,List.length_replicate,L.len,I.len]
theorem r9 (I:Inv X pins σ H s) (fo:∀ b∈fp,dY X pins H b) {C:Addr} {σ':St} {H':Hp} {s':Shared} (J:Inv (cxC X N sc C s H fp) [] σ' H' s'):Inv X pins σ H' s':=
 I.call' (ch:=fp) J.os J.base J.hok J.bare fun b hb=>let ⟨_,h1,_,h3,h4,h5⟩:=fo b hb;⟨h3,h1,h4,h5⟩
end
def PTs (Y:Cx) (ifs:List Expr) (t:TT):Prop:=
 ∀ (pins:List (Addr×Obj)) (s:Shared) (σ:St) (H:Hp) (Q:Bool→Hp→Prop),Inv Y pins σ H s→t σ H Q →
   wpAny (model Y.prog Y.w) Y.A (forIn ifs true fun c r=>if r=true then do let ok ← isTrue c Y.env (eval c Y.env);pure (ForInStep.yield ok) else pure (ForInStep.yield r)) (TP Y pins σ Q) Y.xe s
def yu:TT:=fun _ H Q=>Q true H
theorem cZ {Y:Cx}:PTs Y [] yu:=fun _ _ _ H _ I h=>wpAny_tests_nil ⟨H,I,h⟩
theorem gY {Y:Cx} {c:Expr} {t:TT} (h:PT Y c t):PTs Y [c] t:=fun pins s σ H Q I q=>wpAny_tests_one (h pins s σ H Q I q)
def lB (J:It) (g:TG) (tt:TT) (te:TE) (D:Addr) (W:Nat→Nat→St→Hp→Prop) (Qe:Hp→Prop):Prop:=∀ i m σ H,W i m σ H →
 (J.stop i H∧Qe H)∨(J.go i H∧∀ x H',J.yld i H x H'→g x σ H' fun σ2 H2=>tt σ2 H2 fun b H3=>
   if b=true then te σ2 H3 fun y H4=>∃ ys,H4 D=some (.lst ys)∧ys.length<sizeLine∧∃ m',m'<m∧W (i+1) m' σ2 (upd H4 D (.lst (ys ++ [y])))
   else ∃ m',m'<m∧W (i+1) m' σ2 H3)
theorem uG {Y:Cx} {elt tg iter:Expr} {ifs:List Expr} {sc:Scope} {pos:Pos} {J:It} {fp:List Addr} {it D:Addr} {tn:Nat→Heap→Prop} {g:TG} {tt:TT} {te:TE} {W:Nat→Nat→St→Hp→Prop} {Qe:Hp→Prop}
 {R:Result→Shared→Prop} (hc:Y.calm=true) (hx:∀ e s,Y.xe e s→False) (T:ia Y.prog Y.w Y.K tg J fp it tn) (fo:∀ H':Hp,(∀ b∈fp,H' b=none)→∀ b∈fp,dY Y [] H' b)
 (hg:PG Y tg g) (ht:PTs Y ifs tt) (he:PE Y elt te) (turn:lB J g tt te D W Qe) (hR:∀ σ' H' s',Inv Y [] σ' H' s'→Qe H'→R (.ok .next) s')
 {σ:St} {H:Hp} {s:Shared} {m0:Nat} (I:Inv Y [] σ H s) (st:tn 0 s.heap) (fr:∀ b∈fp,H b=none) (w0:W 0 m0 σ H) :
 codeAny (model Y.prog Y.w) Y.A (.compLoop (.ListComp elt [⟨tg,iter,ifs,0⟩] sc pos) 0 (.ref it) (.ref D) Y.env) R s:=by
 refine codeAny_loop rfl (fun n s'=>∃ i σ' H',Inv Y [] σ' H' s'∧tn i s'.heap∧(∀ b∈fp,H' b=none)∧W i n σ' H') (fun n s3 hI=>?_) m0 ⟨0,σ,H,I,st,fr,w0⟩
 obtain ⟨i,σ3,H3,I3,st3,fr3,w3⟩:=hI
 show wpAny (model Y.prog Y.w) Y.A ((compTurn (.ListComp elt [⟨tg,iter,ifs,0⟩] sc pos) 0 (.ref it) (.ref D) Y.env).onRaise (fun x=>do noteFrame x Y.env;theTreesLotGoes x)) _ _ s3
 refine wpAny_noted ?_
 rw [compTurn_list]
 refine wpAny_bind (wpAny_standAt (wpAny_bind ?_))
 rcases turn i n σ3 H3 w3 with ⟨stop,qn⟩ | ⟨go,step⟩
 ·refine thn (T.done Y rfl rfl rfl hc i [] s3 σ3 H3 _ I3 (fo H3 fr3) st3 stop) fun r s4 q4=>?_
  obtain ⟨hr,I4⟩:=q4
  subst hr
  exact wpAny_pure (hR σ3 H3 s4 I4 qn)
 ·refine thn (T.item Y rfl rfl rfl hc i [] s3 σ3 H3 _ I3 (fo H3 fr3) st3 go) fun r s4 q4=>?_
  obtain ⟨u,hr,h4⟩:=q4
  subst hr
  refine wpAny_bind (thn h4 fun _ s5 q5=>?_)
  obtain ⟨x,H5,I5,r5,y5,st5,fr5⟩:=q5
  have I5':=I5.pinned (fo H5 fr5) (T.obj _ _ st5)
  have quit:∀ {e:Value} {s':Shared} {Z:Prop},Y.xe e s'→Z:=fun h=>(hx _ _ h).elim
  refine wpAny_bind (wpAny_mono (hg _ s5 σ3 H5 x u _ I5' r5 (step x H5 y5)) (fun _ s6 q6=>?_) fun _ _ e=>quit e)
  obtain ⟨σ6,H6,I6,q6⟩:=q6
  have fin:∀ {σ7:St} {H7:Hp} {s7:Shared},Inv Y ([] ++ iO fp s5.heap) σ7 H7 s7→(∃ m',m'<n∧W (i+1) m' σ7 H7)→∃ m,m<n∧∃ i σ' H',Inv Y [] σ' H' s7∧tn i s7.heap∧(∀ b∈fp,H' b=none)∧W i m σ' H':=fun {σ7 H7 s7} I7 q7=>by
   obtain ⟨m',hm,w7⟩:=q7
   refine ⟨m',hm,i+1,σ7,H7,I7.unpinned,T.keep _ _ _ st5 fun b hb o e=>(I7.pin (b,o) (List.mem_append_right _ (List.mem_append_right _ (dO hb e)))).1,fun b hb=>?_,w7⟩
   obtain ⟨o,e,d⟩:=T.obj _ _ st5 b hb
   exact (I7.pin (b,o) (List.mem_append_right _ (List.mem_append_right _ (dO hb e)))).2.1
  refine wpAny_bind (wpAny_mono (ht _ s6 σ6 H6 _ I6 q6) (fun b s7 q7=>?_) fun _ _ e=>quit e)
  obtain ⟨H7,I7,q7⟩:=q7
  cases b with
  | false=>
    rw [if_neg Bool.false_ne_true] at q7
    exact wpAny_pure ⟨rfl,fin I7 q7⟩
  | true=>
    rw [if_pos rfl] at q7
    refine wpAny_bind (wpAny_bind (wpAny_mono (he _ s7 σ6 H7 _ I7 q7) (fun v s8 q8=>?_) fun _ _ e=>quit e))
    obtain ⟨y,H8,I8,r8,ys,hD,hz,q8⟩:=q8
    refine wpAny_bind (wpAny_mono (cL _ s8 σ6 H8 (.ref D) [y] (.ref D) [v] (fun _ H9=>∃ m',m'<n∧W (i+1) m' σ6 H9) I8 rfl (.cons r8 .nil) ⟨D,ys,y,rfl,rfl,hD,hz,q8⟩) (fun _ s9 q9=>?_) fun _ _ e=>quit e)
    obtain ⟨_,H9,I9,_,q9⟩:=q9
    exact wpAny_pure (wpAny_pure ⟨rfl,fin I9 q9⟩)
theorem ma {X:Cx} {sc:Scope} {k:Nat} {N:List Str} {elt tg iter:Expr} {ifs:List Expr} {pos:Pos} {g:TG} {tt:TT} {te:TE} (L:Lc X sc k N) (hc:X.calm=true)
 (hg:∀ C s H fp,PG (cxC X N sc C s H fp) tg g) (ht:∀ C s H fp,PTs (cxC X N sc C s H fp) ifs tt) (he:∀ C s H fp,PE (cxC X N sc C s H fp) elt te)
 {pins:List (Addr×Obj)} {σ:St} {H:Hp} {s:Shared} {it:Addr} {fp:List Addr} {tn:Nat→Heap→Prop} {J:It} {Q:V→Hp→Prop} {E:Value→Shared→Prop} {RR:Value→Addr→Result→Shared→Prop}
 (I:Inv X pins σ H s) (T:ia X.prog X.w X.K tg J fp it tn) (st:tn 0 s.heap) (fo:∀ b∈fp,dY X pins H b)
 (hq:∀ D,H D=none→∃ W,(∃ m,W 0 m (List.replicate k none ++ σ) (upd H D (.lst [])))∧lB J g tt te D W (Q (.ref D)))
 (hRR:∀ C σ' H' s',s.heap.objs.size<C→Inv (cxC X N sc C s H fp) [] σ' H' s'→Q (.ref s.heap.objs.size) H'→RR (.ref s.heap.objs.size) C (.ok .next) s') :
 wpAny (model X.prog X.w) X.A (newList []) (fun acc s3=>wpAny (model X.prog X.w) X.A (newFunctionEnv sc X.env.globals (ii X.env sc.names []) [] X.env.qual none .none (some X.env)) (fun cenv s4=>
  codeAny (model X.prog X.w) X.A (.compStart (.ListComp elt [⟨tg,iter,ifs,0⟩] sc pos) 0 (.ref it) acc { cenv with scope:=relabel sc X.env }) (RR acc cenv.locals) s4) E s3) E s:=by
 refine wpAny_newObj_type (wpAny_newFunctionEnv L.nocell (by intro y hy;simp at hy) (fun h1 hns hsb=>?_) L.kind)
 dsimp only at hns hsb ⊢
 generalize hG:s.heap.push { cls:=.type "list",dict:=none,data:=.seq ([]:List Value).toArray }=G at hns hsb ⊢
 have hC:G.objs.size=s.heap.objs.size+1:=by rw [← hG,Heap.size_push]
 have hlt:s.heap.objs.size<G.objs.size:=by omega
 have ob:∀ b∈fp,∃ o,s.heap.get? b=some o:=fun b hb=>let ⟨o,e,_⟩:=T.obj _ _ st b hb;⟨o,e⟩
 have up:∀ b o,G.get? b=some o→h1.get? b=some o:=fun b o e=>hsb.extBut b o (Nat.ne_of_lt (Heap.lt_size e)) (Heap.get?_push_of_some _ e)
 have kp:∀ b o,s.heap.get? b=some o→h1.get? b=some o:=fun b o e=>up b o (hG ▸ Heap.get?_push_of_some _ e)
 have I0:Inv (cxC X N sc G.objs.size s H fp) [] (List.replicate k none ++ σ) (upd H s.heap.objs.size (.lst [])) { s with heap:=h1,toks:=s.toks+([]:List (Str×Value)).length }:=
  sd L I fo ob hlt kp (up _ _ (hG ▸ Heap.get?_push_size _ rfl)) hns
 have st1:tn 0 h1:=T.keep _ _ _ st fun b _ o e=>kp b o e
 have hD:H s.heap.objs.size=none:=I.hok.fresh (Nat.le_refl _)
 obtain ⟨W,⟨m0,w0⟩,turn⟩:=hq _ hD
 have foY:∀ H':Hp,(∀ b∈fp,H' b=none)→∀ b∈fp,dY (cxC X N sc G.objs.size s H fp) [] H' b:=fun H' hn b hb=>
  ⟨hn b hb,(I0.ok.exf b hb).1,I0.ok.exfs b hb,.inl hb,(I0.ok.exf b hb).2,fun p hp=>absurd (show p∈([]:List (Addr×Obj)) from hp) (by simp)⟩
 have fr0:∀ b∈fp,upd H s.heap.objs.size (.lst []) b=none:=fun b hb=>by
  obtain ⟨o,e⟩:=ob b hb
  rw [aj (Nat.ne_of_lt (Heap.lt_size e))]
  exact (fo b hb).1
 have loop:codeAny (model X.prog X.w) X.A (.compLoop (.ListComp elt [⟨tg,iter,ifs,0⟩] sc pos) 0 (.ref it) (.ref s.heap.objs.size) (cxC X N sc G.objs.size s H fp).env) (RR (.ref s.heap.objs.size) G.objs.size) { s with heap:=h1,toks:=s.toks+([]:List (Str×Value)).length }:=
  uG (Y:=cxC X N sc G.objs.size s H fp) (iter:=iter) hc (fun _ _ h=>h) T foY (hg _ _ _ _) (ht _ _ _ _) (he _ _ _ _) turn (fun σ' H' s' J' q=>hRR _ σ' H' s' hlt J' q) I0 st1 fr0 w0
 exact codeAny_compStart_list loop (T.self _ 0 _ _ _ st1 loop)
def tLC (k:Nat) (wi:TI) (g:TG) (tt:TT) (te:TE):TE:=fun σ H Q=>wi σ H fun J H1=>∀ D,H1 D=none →
 ∃ W,(∃ m,W 0 m (List.replicate k none ++ σ) (upd H1 D (.lst [])))∧lB J g tt te D W (Q (.ref D))
section
variable {X:Cx} {sc:Scope} {k:Nat} {N:List Str} {elt tg iter:Expr} {ifs:List Expr} {pos:Pos} {wi:TI} {g:TG} {tt:TT} {te:TE}
theorem iL (L:Lc X sc k N) (hc:X.calm=true) (hi:PI X tg iter wi) (hg:∀ C s H fp,PG (cxC X N sc C s H fp) tg g) (ht:∀ C s H fp,PTs (cxC X N sc C s H fp) ifs tt) (he:∀ C s H fp,PE (cxC X N sc C s H fp) elt te)
 (hs:∀ x,foldedSetIterable iter X.env x=pure x:=by intro _;rfl):PE X (.ListComp elt [⟨tg,iter,ifs,0⟩] sc pos) (tLC k wi g tt te):=by
 intro pins s σ H Q I h
 rw [eval_ListComp]
 refine wpAny_comprehension_free (use:=none) rfl hs (il (L.cells I.ok)) L.kind L.names (thn (hi pins s σ H _ I h) fun v s1 h1=>thn h1 fun itv s2 h2=>?_)
 obtain ⟨it,fp,tn,J,H2,e,I2,T,st2,f2,q2⟩:=h2
 subst e
 refine ma (RR:=fun acc C=>compPost (model X.prog X.w) X.A X.xe none (EP X pins σ Q) acc C) L hc hg ht he I2 T st2 f2 q2 fun C σ' H' s' hC J' q=>?_
 have I3:=r9 I2 f2 J'
 obtain ⟨m,hn,_⟩:=J'.loc
 refine ⟨m,hn,fun h' sb=>?_⟩
 obtain ⟨f0,f1,f2',f3,f4,f5⟩:=I2.fpOk (Nat.le_of_lt hC) (show H' C=none from J'.free)
 exact ⟨.ref s2.heap.objs.size,H',I3.turned (t':=s'.toks) (fun b o hb e=>(sb.2 b hb).trans e) f0 f1 f3 f4 f5,rfl,q⟩
theorem mt {i:Nat} {x:Str} {pos' spos:Pos} (L:Lc X sc k N) (hc:X.calm=true) (hN:X.N.Nodup) (hx:X.N[i]? = some x) (hl:Loc X.env.scope x) (hi:PI X tg iter wi)
 (hg:∀ C s H fp,PG (cxC X N sc C s H fp) tg g) (ht:∀ C s H fp,PTs (cxC X N sc C s H fp) ifs tt) (he:∀ C s H fp,PE (cxC X N sc C s H fp) elt te)
 (hsw:swapsWith (.ListComp elt [⟨tg,iter,ifs,0⟩] sc pos) (some (.Name x pos')) spos.line X.env=pure true:=by rfl) (hf:X.fn x=true∨X.env.scope.names.lookup x=some .local:=by first | exact .inl rfl | exact .inr rfl | assumption)
 (hs:∀ x,foldedSetIterable iter X.env x=pure x:=by intro _;rfl):PS X (.Assign [.Name x pos'] (.ListComp elt [⟨tg,iter,ifs,0⟩] sc pos) spos) (nV (tLC k wi g tt te) (aX i)):=by
 intro pins s σ H D I h
 rw [exec_Assign_Name_used _ _ _ _ hsw]
 refine wpAny_bind (wpAny_standAt (wpAny_bind ?_))
 show wpAny _ X.A (do let _ ← comprehension (.ListComp elt [⟨tg,iter,ifs,0⟩] sc pos) sc X.env _ (newList []) false (eval iter X.env) (some (assign (.Name x pos') X.env))) _ _ s
 refine wpAny_bind (thn (wpAny_comprehension_free (use:=some (assign (.Name x pos') X.env)) (Q:=fun _ s'=>SP X pins D .next s') rfl hs (il (L.cells I.ok)) L.kind L.names
  (thn (hi pins s σ H _ I h) fun v s1 h1=>thn h1 fun itv s2 h2=>?_)) fun _ s' hq=>wpAny_pure (wpAny_pure hq))
 obtain ⟨it,fp,tn,J,H2,e,I2,T,st2,f2,q2⟩:=h2
 subst e
 refine ma (Q:=fun v H1=>aX i v σ H1 D.nx) (RR:=fun acc C=>compPost (model X.prog X.w) X.A X.xe (some (assign (.Name x pos') X.env)) (fun _ s'=>SP X pins D .next s') acc C) L hc hg ht he I2 T st2 f2 q2 fun C σ' H' s' hC J' q=>?_
 have I3:=r9 I2 f2 J'
 obtain ⟨m,hn,_⟩:=J'.loc
 obtain ⟨f0,f1,f2',f3,f4,f5⟩:=I2.fpOk (Nat.le_of_lt hC) (show H' C=none from J'.free)
 show wpAny _ X.A (assign (.Name x pos') X.env (.ref s2.heap.objs.size)) _ _ _
 refine wpAny_assign_Name (jU I3 hN hx hl (v:=.ref s2.heap.objs.size) rfl (fun s4 I4 hs4=>?_) hf)
 obtain ⟨a,sb,ha⟩:=hs4
 have hne:C≠a:=by
  rcases ha with rfl | ha
  ·exact f1
  ·exact fun e=>f4 x a ha e.symm
 refine ⟨m,hn.sameBut sb hne,fun h' sb'=>?_⟩
 exact ⟨_,H',I4.turned (t':=s4.toks) (fun b o hb e=>(sb'.2 b hb).trans e) f0 f1 f3 f4 f5,q⟩
end
def Gr (M:Addr→Prop) (H H':Hp):Prop:=∀ b o,H b=some o→¬ M b→H' b=some o
abbrev M0:Addr→Prop:=fun _=>False
abbrev M1 (a:Addr):Addr→Prop:=fun b=>b=a
def Tm (H H':Hp):Prop:=∀ a xs,H a=some (.tup xs)→H' a=some (.tup xs)
theorem Gr.trans {M:Addr→Prop} {H H1 H2:Hp} (a:Gr M H H1) (b:Gr M H1 H2):Gr M H H2:=fun c o h n=>b c o (a c o h n) n
theorem Gr.wide {M M':Addr→Prop} {H H':Hp} (a:Gr M H H') (s:∀ b,M b→M' b):Gr M' H H':=fun c o h n=>a c o h fun q=>n (s c q)
theorem Gr.put {M:Addr→Prop} {H:Hp} {p:Addr} {o:HO} (h:M p):Gr M H (upd H p o):=fun b u e n=>by
 rw [aj (fun q=>n (by rw [q];exact h))];exact e
theorem Gr.tm {M:Addr→Prop} {H H':Hp} (g:Gr M H H') (h:∀ b xs,M b→H b=some (.tup xs)→False):Tm H H':=fun a xs e=>g a _ e fun m=>h a xs m e
theorem Gr.tm1 {H H':Hp} {l:Addr} {xs:List V} (g:Gr (M1 l) H H') (h:H l=some (.lst xs)):Tm H H':=g.tm fun b ys m e=>by cases (show b=l from m);rw [h] at e;cases e
theorem Gr.free {H H':Hp} {M:Addr→Prop} (g:Gr M H H') {l:Addr} (h:H' l=none) (n:¬ M l):H l=none:=by
 cases q:H l with
 | none=>rfl
 | some o=>rw [g l o q n] at h;cases h
theorem Gr.seq {K:W.Frag} {M:Addr→Prop} {H H':Hp} {a:Addr} {xs:List V} (g:Gr M H H') (n:¬ M a) (h:SqL K H a xs):SqL K H' a xs:=by
 rcases h with (h | ⟨o,h⟩) | h
 ·exact .inl (.inl (g _ _ h n))
 ·exact .inl (.inr ⟨o,g _ _ h n⟩)
 ·exact .inr h
def rT:Expr→Bool
 | .Starred ..=>true
 | _=>false
theorem vJ {e:Expr} {es:List Expr} {env:Env} (h:rT e=false):starEach (e :: es) env=(false,eval e env) :: starEach es env:=by
 cases e <;> first | rfl | cases h
theorem pa {X:Cx} {e:Expr} {es:List Expr} {te:TE} {t:TA} (ha:PE X e te) (hr:PA X es t) (h:rT e=false:=by rfl):PA X (e :: es) (cj te t):=u9 ha hr (vJ h)
structure Cal (P:Program) (w:World) (K:W.Frag) (mg:Str→Option Value) (base:Heap) (x:Str) (ps:List Str) (k:Nat) (sp:Sp):Prop where
 ex:∃ f fd,aY P w K mg base CX0 k f fd ps sp∧aI K fd ps []∧W.keepIn K (.ref f)=true∧mg x=some (.ref f)
theorem ao {X:Cx} {x:Str} {ps:List Str} {k n:Nat} {sp:Sp} {p pos:Pos} {e:Expr} {es:List Expr} {t:TA} (c:Cal X.prog X.w X.K X.mg X.base x ps k sp) (hr:Room n X.A) (ha:PA X (e :: es) t) (hn:k≤n:=by omega) (hg:Gl X x:=by rfl)
 (hdb:(x == ("__debug__":Str))=false:=by decide) (he:starEach (e :: es) X.env=(false,eval e X.env) :: starEach es X.env:=by rfl)
 (hpl:(backTo pos (starEach es X.env)).any (·.1)=false:=by rfl):PE X (.Call (.Name x p) (e :: es) [] pos) (jV sp [] E0 t):=by
 obtain ⟨f,fd,F,b,kp,m⟩:=c.ex
 exact pj F (hr.mono hn) hg m kp b .nil sO ha hdb he hpl
section
variable {X:Cx}
def jL (K:W.Frag):R2:=fun x y H Q=>(∃ i j,x = .int i∧y = .int j∧Q (.int (i+j)) H)∨(∃ i j,x = .str i∧y = .str j∧i.length+j.length≤sizeLine∧Q (.str (i ++ j)) H)∨xR x y H Q∨px K x y H Q
theorem u6:OpR X (binaryOp .Add) (jL X.K):=fun pins s σ H x y v u Q I rx ry h=>by
 rcases h with h | h | h | h
 ·exact xy pins s σ H x y v u Q I rx ry h
 ·exact ng pins s σ H x y v u Q I rx ry h
 ·exact xz pins s σ H x y v u Q I rx ry h
 ·exact u8 pins s σ H x y v u Q I rx ry h
theorem Ao {K:W.Frag} {i j:Int} {H:Hp} {Q:VK} (q:Q (.int (i+j)) H):jL K (.int i) (.int j) H Q:=.inl ⟨i,j,rfl,rfl,q⟩
theorem yF {K:W.Frag} {i j:Str} {H:Hp} {Q:VK} (h:i.length+j.length≤sizeLine) (q:Q (.str (i ++ j)) H):jL K (.str i) (.str j) H Q:=.inr (.inl ⟨i,j,rfl,rfl,h,q⟩)
theorem Ap {K:W.Frag} {x y:V} {H:Hp} {Q:VK} (h:xR x y H Q):jL K x y H Q:=.inr (.inr (.inl h))
theorem wM {K:W.Frag} {x y:V} {H:Hp} {Q:VK} (h:px K x y H Q):jL K x y H Q:=.inr (.inr (.inr h))
def wz (K:W.Frag):List V→Hp→VK→Prop:=fun xs H Q=>(∃ p ys,xs = [.ref p]∧(SqL K H p ys∨SqT K H p ys)∧Q (.int ys.length) H)∨∃ z,xs = [.str z]∧z.length≤sizeLine∧Q (.int z.length) H
theorem bh:dU X (.builtin "len") (wz X.K):=fun pins s σ H xs us Q I r h=>by
 rcases h with h | h
 ·exact ki pins s σ H xs us Q I r h
 ·exact kj pins s σ H xs us Q I r h
theorem gF {x:Str} {T:String} {pos:Pos} (hg:Gl X x) (hm:X.mg x=none) (hv:bootBuiltins x=some (.type T)) (hn:x≠"__name__":=by decide) (hd:(x == ("__debug__":Str))=false:=by decide):PE X (.Name x pos) (tC (.ty T)):=
 ve hg hm hv (v:=.ty T) rfl hn hd
def At (K:W.Frag) (tl:TE):TI:=fun σ H R=>tl σ H fun x H1=>∃ a,x = .ref a∧(((∃ xs,SqL K H1 a xs)∧R (Itl K a) H1)∨((∃ xs,SqT K H1 a xs)∧R (Itt K a) H1))
theorem dl {tg l:Expr} {tl:TE} (hl:PE X l tl):PI X tg l (At X.K tl):=by
 intro pins s σ H R I h
 refine thn (hl pins s σ H _ I h) fun v s1 q=>?_
 obtain ⟨x,H1,I1,r1,a,e,q1⟩:=q
 subst e
 cases r1
 have one:∀ b∈[s1.heap.objs.size],dY X pins H1 b:=fun b hb=>by
  cases (show b=s1.heap.objs.size by simpa using hb)
  exact I1.fpOk (Nat.le_refl _) (I1.hok.fresh (Nat.le_refl _))
 rcases q1 with ⟨⟨xs,hq⟩,q⟩ | ⟨⟨xs,hq⟩,q⟩
 ·obtain ⟨its,rv,p,hz⟩:=I1.list hq
  exact wpAny_pyIter_list p.isList ⟨s1.heap.objs.size,[s1.heap.objs.size],_,_,H1,rfl,I1.kept (t':=s1.toks) fun b o e=>Heap.get?_push_of_some _ e,qM a _,⟨_,Heap.get?_push_size _ rfl,rfl,rfl⟩,one,q⟩
 ·obtain ⟨its,rv,p,hz⟩:=I1.tuple hq
  exact wpAny_pyIter_tuple (show s1.heap.IsTuple a its.toArray from p) ⟨s1.heap.objs.size,[s1.heap.objs.size],_,_,H1,rfl,I1.kept (t':=s1.toks) fun b o e=>Heap.get?_push_of_some _ e,og a _,⟨_,Heap.get?_push_size _ rfl,rfl,rfl⟩,one,q⟩
def IsI (K:W.Frag) (H:Hp) (x:V) (n:String) (b:Bool):Prop:=∃ t,fM K H x t∧W.kitOne K t (.type n)=some b
theorem qR:dU X (.builtin "isinstance") (fun xs H Q=>∃ x n b,xs = [x,.ty n]∧IsI X.K H x n b∧Q (.bl b) H):=by
 intro pins s σ H xs us Q I r h
 obtain ⟨x,n,b,e,⟨t,ty,k⟩,q⟩:=h
 subst e
 obtain ⟨u,w,e,ru,rw'⟩:=aQ.two r
 subst e
 cases rw'
 exact qh I ru ty k fun tk=>⟨.bl b,H,I.tok tk,rfl,q⟩
end
section
variable {X:Cx} {pins:List (Addr×Obj)} {σ:St} {H:Hp} {s:Shared} {h':Heap} {ch:List Addr}
theorem hW {t':Nat} {T:Addr} {xs:List V} (I:Inv X pins σ H s) (k:∀ b o,b ∉ ch→s.heap.get? b=some o→h'.get? b=some o) (fo:∀ b∈ch,dY X pins H b) (hT:s.heap.objs.size≤T)
 (new:∃ its:List Value,aQ xs its∧IsTup h' T its.toArray) (hz:xs.length≤sizeLine):Inv X pins σ (upd H T (.tup xs)) { s with heap:=h',toks:=t' }:=by
 have hTn:H T=none:=I.hok.fresh hT
 have nit:∀ b u,H b=some u→b ∉ ch:=fun b u e z=>by rw [(fo b z).1] at e;cases e
 have old:∀ b u,H b=some u→upd H T (.tup xs) b=some u:=fun b u e=>by rw [aj (al e hTn)];exact e
 refine I.step (g':=s.gens) (d':=s.drawn) (ch:=ch) (fun b hb=>?_) (fun b o _ _ hc e _=>k b o hc e) (fun b o _ _ hc e _=>⟨o.slots,k b o hc e⟩) (fun b o _ e n=>?_) (fun b o hc e=>⟨o,k b o hc e⟩)
  (fun b ys e=>old b _ e) (fun b o u e=>old b _ e) (fun b ps e=>⟨#[],by rw [old b _ e];simp⟩) (fun m hm=>?_) (fun b u e=>?_) I.bare
 ·obtain ⟨_,h1,_,h3,h4,h5⟩:=fo b hb
  exact ⟨h3,h1,h4,h5⟩
 ·rw [aj (Nat.ne_of_lt (Nat.lt_of_lt_of_le (Heap.lt_size e) hT))];exact n
 ·obtain ⟨o,es,ep,ho,r⟩:=hm
  exact ⟨o,es,ep,k _ o (fun z=>(fo _ z).2.1 rfl) ho,r⟩
 ·by_cases hb:b=T
  ·subst hb
   rw [ad] at e;cases e
   obtain ⟨its,r,p⟩:=new
   exact ⟨hz,its,r,p⟩
  ·rw [aj hb] at e
   refine (I.hok b u e).stay (fun c v hc q=>k c v ?_ q) (fun c q=>old c _ q) fun c ys q=>old c _ q
   rcases hc with z | z
   ·rw [z];exact nit b u e
   ·exact nit c _ z
theorem hV {t':Nat} (I:Inv X pins σ H s) (k:∀ b o,b ∉ ch→s.heap.get? b=some o→h'.get? b=some o) (fo:∀ b∈ch,dY X pins H b):Inv X pins σ H { s with heap:=h',toks:=t' }:=by
 have nit:∀ b u,H b=some u→b ∉ ch:=fun b u e z=>by rw [(fo b z).1] at e;cases e
 refine I.step (g':=s.gens) (d':=s.drawn) (ch:=ch) (fun b hb=>?_) (fun b o _ _ hc e _=>k b o hc e) (fun b o _ _ hc e _=>⟨o.slots,k b o hc e⟩) (fun b o _ e n=>n) (fun b o hc e=>⟨o,k b o hc e⟩)
  (fun b ys e=>e) (fun b o u e=>e) (fun b ps e=>⟨#[],by rw [e];simp⟩) (fun m hm=>?_) (fun b u e=>?_) I.bare
 ·obtain ⟨_,h1,_,h3,h4,h5⟩:=fo b hb
  exact ⟨h3,h1,h4,h5⟩
 ·obtain ⟨o,es,ep,ho,r⟩:=hm
  exact ⟨o,es,ep,k _ o (fun z=>(fo _ z).2.1 rfl) ho,r⟩
 ·refine (I.hok b u e).stay (fun c v hc q=>k c v ?_ q) (fun c q=>q) fun c ys q=>q
  rcases hc with z | z
  ·rw [z];exact nit b u e
  ·exact nit c _ z
end
theorem cE {X:Cx} {pins:List (Addr×Obj)} {σ:St} {H:Hp} {s:Shared} (I:Inv X pins σ H s) {c l:Addr} {us:List V} (f:dY X pins H c) (hq:SqL X.K H l us):l≠c:=fun e=>by
 subst e
 rcases hq with q | q
 ·rcases q with q | ⟨o,q⟩
  ·rw [f.1] at q;cases q
  ·rw [f.1] at q;cases q
 ·obtain ⟨o,its,n,q,_⟩:=q
  have bk:=I.ok.mod.kin _ _ q
  rcases f.2.2.2.1 with f | f
  ·exact I.ok.noex _ _ bk f
  ·exact absurd (Nat.lt_of_lt_of_le (Heap.lt_size bk) (Nat.le_trans I.ok.bsz f)) (Nat.lt_irrefl _)
theorem j5 {z TI TO i1 i2 a b:Addr} (h:z≠TI∧z≠TO∧z≠i1∧z≠i2∧TI≠TO∧TI≠i1∧TI≠i2∧TO≠i1∧TO≠i2∧i1≠i2) (ha:∀ c∈[z,TI,TO,i1,i2],a≠c) (hb:∀ c∈[z,TI,TO,i1,i2],b≠c):ZipApart z TI TO i1 i2 a b:=by
 obtain ⟨h1,h2,h3,h4,h5,h6,h7,h8,h9,h0⟩:=h
 simp only [List.mem_cons,List.not_mem_nil,or_false,forall_eq_or_imp,forall_eq] at ha hb
 obtain ⟨a1,a2,a3,a4,a5⟩:=ha
 obtain ⟨b1,b2,b3,b4,b5⟩:=hb
 constructor <;> first | assumption | exact Ne.symm (by assumption)
def Itz (K:W.Frag) (a b:Addr):It where
 go:=fun i H=>∃ xs ys,SqL K H a xs∧SqL K H b ys∧i<xs.length∧i<ys.length
 yld:=fun i H v H'=>∃ T x y,v = .ref T∧H T=none∧H'=upd H T (.tup [x,y])∧(∀ xs,SqL K H a xs→xs[i]? = some x)∧∀ ys,SqL K H b ys→ys[i]? = some y
 stop:=fun i H=>∃ xs ys,SqL K H a xs∧SqL K H b ys∧i=min xs.length ys.length
theorem ub {P:Program} {w:World} {K:W.Frag} {es:List Expr} {k:Nat} {tp:Pos} (a b z TI TO i1 i2:Addr) (hap:z≠TI∧z≠TO∧z≠i1∧z≠i2∧TI≠TO∧TI≠i1∧TI≠i2∧TO≠i1∧TO≠i2∧i1≠i2) :
 ia P w K (.Tuple es k tp) (Itz K a b) [z,TI,TO,i1,i2] z (fun i h=>IsZip h z TI TO .none∧IsPair h TI (.ref i1) (.ref i2)∧(∃ u v,IsPair h TO u v)∧h.IsListIter i1 a i∧h.IsListIter i2 b i) where
 mem:=by simp
 obj:=fun i h st c hc=>by
  obtain ⟨h1,h2,⟨u,v,h3⟩,⟨o4,e4,c4,d4⟩,⟨o5,e5,c5,d5⟩⟩:=st
  have hc':c=z∨c=TI∨c=TO∨c=i1∨c=i2:=by simpa using hc
  rcases hc' with rfl | rfl | rfl | rfl | rfl
  ·exact ⟨_,h1,fun v q=>by cases (show Data.fields _=Data.cell v from q)⟩
  ·exact ⟨_,h2,fun v q=>by cases (show Data.seq _ _=Data.cell v from q)⟩
  ·exact ⟨_,h3,fun v q=>by cases (show Data.seq _ _=Data.cell v from q)⟩
  ·exact ⟨o4,e4,fun v q=>by rw [d4] at q;cases q⟩
  ·exact ⟨o5,e5,fun v q=>by rw [d5] at q;cases q⟩
 keep:=fun i h h' st kp=>by
  obtain ⟨h1,h2,⟨u,v,h3⟩,h4,h5⟩:=st
  exact ⟨kp z (by simp) _ h1,kp TI (by simp) _ h2,⟨u,v,kp TO (by simp) _ h3⟩,h4.at fun o e=>kp i1 (by simp) o e,h5.at fun o e=>kp i2 (by simp) o e⟩
 item:=by
  intro X hP hw hK hc i pins s σ H E I hf st hg
  subst hP hw hK
  obtain ⟨xs,ys,hx,hy,l1,l2⟩:=hg
  obtain ⟨its1,r1,p1,z1⟩:=I.list hx
  obtain ⟨its2,r2,p2,z2⟩:=I.list hy
  obtain ⟨h1,h2,h3,h4,h5⟩:=st
  have len1:=r1.length
  have jc:=r2.length
  have D:ZipApart z TI TO i1 i2 a b:=j5 hap (fun c hc=>cE I (hf c hc) hx) (fun c hc=>cE I (hf c hc) hy)
  have W:=WalksT.zip2 (prog:=X.prog) (w:=X.w) (A:=X.A) (I.ok.hd hc) z TI TO i1 i2 a b D its1.toArray its2.toArray
  refine W.item i s _ _ (by simp;omega) ⟨h1,h2,h3,h4,h5,p1.isList,p2.isList⟩ fun T vals h' tk hv hT ht hm kp=>?_
  obtain ⟨x,y,ex,ey,rfl⟩:=hv
  refine ⟨_,rfl,W.go es k tp i T _ _ _ hm fun h2' st2 kp2=>?_⟩
  obtain ⟨g1,g2,g3,g4,g5,_,_⟩:=st2
  obtain ⟨xv,ev,rx⟩:∃ xv,xs[i]? = some xv∧aU xv x:=by
   have hi:xs[i]? = some xs[i]:=List.getElem?_eq_getElem l1
   obtain ⟨u,hu,ru⟩:=r1.get hi
   have e2:its1[i]? = some x:=by simpa using ex
   rw [e2] at hu;cases hu
   exact ⟨_,hi,ru⟩
  obtain ⟨yv,eyv,ry⟩:∃ yv,ys[i]? = some yv∧aU yv y:=by
   have hi:ys[i]? = some ys[i]:=List.getElem?_eq_getElem l2
   obtain ⟨u,hu,ru⟩:=r2.get hi
   have e2:its2[i]? = some y:=by simpa using ey
   rw [e2] at hu;cases hu
   exact ⟨_,hi,ru⟩
  have Tw:T ∉ [z,TO,i1,i2]:=W.apart _ _ _ hm
  have ht2:IsTup h2' T #[x,y]:=by
   obtain ⟨o,e,r⟩:=ht
   exact ⟨o,kp2 T o Tw e,r⟩
  have I2:Inv X pins σ (upd H T (.tup [xv,yv])) { s with heap:=h2',toks:=tk }:=
   hW (ch:=[z,TO,i1,i2]) I (fun b o hb e=>kp2 b o hb (kp b o hb e)) (fun b hb=>hf b (by simp at hb ⊢;rcases hb with rfl | rfl | rfl | rfl <;> simp)) hT ⟨[x,y],.cons rx (.cons ry .nil),ht2⟩ (by show 2≤sizeLine;decide)
  refine ⟨.ref T,_,I2,rfl,⟨T,xv,yv,rfl,I.hok.fresh hT,rfl,fun us hu=>?_,fun us hu=>?_⟩,⟨g1,g2,g3,g4,g5⟩,fun b hb=>?_⟩
  ·rw [I.list_inj hu hx];exact ev
  ·rw [I.list_inj hu hy];exact eyv
  ·have hbT:b≠T:=by
    obtain ⟨o,e,_⟩:∃ o,s.heap.get? b=some o∧True:=by
     have hc':b=z∨b=TI∨b=TO∨b=i1∨b=i2:=by simpa using hb
     obtain ⟨u3,v3,h3⟩:=h3
     obtain ⟨o4,e4,_⟩:=h4
     obtain ⟨o5,e5,_⟩:=h5
     rcases hc' with rfl | rfl | rfl | rfl | rfl
     ·exact ⟨_,h1,trivial⟩
     ·exact ⟨_,h2,trivial⟩
     ·exact ⟨_,h3,trivial⟩
     ·exact ⟨_,e4,trivial⟩
     ·exact ⟨_,e5,trivial⟩
    exact Nat.ne_of_lt (Nat.lt_of_lt_of_le (Heap.lt_size e) hT)
   rw [aj hbT]
   exact (hf b hb).1
 done:=by
  intro X hP hw hK hc i pins s σ H E I hf st hg
  subst hP hw hK
  obtain ⟨xs,ys,hx,hy,hi⟩:=hg
  obtain ⟨its1,r1,p1,z1⟩:=I.list hx
  obtain ⟨its2,r2,p2,z2⟩:=I.list hy
  obtain ⟨h1,h2,h3,h4,h5⟩:=st
  have len1:=r1.length
  have jc:=r2.length
  have D:ZipApart z TI TO i1 i2 a b:=j5 hap (fun c hc=>cE I (hf c hc) hx) (fun c hc=>cE I (hf c hc) hy)
  have W:=WalksT.zip2 (prog:=X.prog) (w:=X.w) (A:=X.A) (I.ok.hd hc) z TI TO i1 i2 a b D its1.toArray its2.toArray
  have hn:i=min its1.toArray.size its2.toArray.size:=by simp;omega
  refine W.done s _ _ (by rw [← hn];exact ⟨h1,h2,h3,h4,h5,p1.isList,p2.isList⟩) fun h' tk kp=>⟨rfl,?_⟩
  exact hV (ch:=[z,TO,i1,i2]) I kp (fun b hb=>hf b (by simp at hb ⊢;rcases hb with rfl | rfl | rfl | rfl <;> simp))
 self:=fun _ _ _ _ _ st h=>wpAny_pyIter_zip st.1 h
theorem wN (n:Nat):n+4≠n+2∧n+4≠n+3∧n+4≠n∧n+4≠n+1∧n+2≠n+3∧n+2≠n∧n+2≠n+1∧n+3≠n∧n+3≠n+1∧n≠n+1:=by omega
theorem le5 (n c:Nat) (h:c=n+4∨c=n+2∨c=n+3∨c=n∨c=n+1):n≤c:=by omega
section
variable {X:Cx}
def Au (K:W.Frag) (ta:TA):TI:=fun σ H R=>ta σ H fun vs H1=>∃ a b xs ys,vs = [.ref a,.ref b]∧SqL K H1 a xs∧SqL K H1 b ys∧R (Itz K a b) H1
theorem xO {es:List Expr} {k:Nat} {tp p pos:Pos} {a b:Expr} {ta:TA} (hg:Gl X "zip") (hm:X.mg "zip" = none) (ha:PA X [a,b] ta) (hs:starEach [a,b] X.env = [(false,eval a X.env),(false,eval b X.env)]:=by rfl) (hs2:starEach [b] X.env = [(false,eval b X.env)]:=by rfl) :
 PI X (.Tuple es k tp) (.Call (.Name "zip" p) [a,b] [] pos) (Au X.K ta):=by
 intro pins s σ H R I h
 refine Call_ (dN I hg hm boot_zip (PyProof.Rows.callWith_type1 (thn (ha pos pins s σ H _ I h) fun us s1 q1=>?_) (by rw [hs,hs2]) (by rw [hs2];rfl)))
 obtain ⟨vs,H1,I1,r1,l1,l2,xs,ys,e,hx,hy,q⟩:=q1
 subst e
 obtain ⟨u,w',e,ru,rw'⟩:=aQ.two r1
 subst e
 cases ru;cases rw'
 obtain ⟨i1,v1,p1,z1⟩:=I1.list hx
 obtain ⟨i2,v2,p2,z2⟩:=I1.list hy
 refine call_zip_2 p1.isList p2.isList fun h' hz hTI hTO g1 g2 hsz kp=>wpAny_pyIter_zip hz ?_
 have I2:Inv X pins σ H1 { s1 with heap:=h' }:=I1.kept (t':=s1.toks) kp
 refine ⟨s1.heap.objs.size+4,[s1.heap.objs.size+4,s1.heap.objs.size+2,s1.heap.objs.size+3,s1.heap.objs.size,s1.heap.objs.size+1],_,Itz X.K l1 l2,H1,rfl,I2,ub l1 l2 _ _ _ _ _ (wN _),⟨hz,hTI,⟨_,_,hTO⟩,g1,g2⟩,fun c hc=>?_,q⟩
 have hc':s1.heap.objs.size≤c:=le5 _ _ (by simpa using hc)
 exact I1.fpOk hc' (I1.hok.fresh hc')
end
def dJ:List Str→List Value→Bool
 | [],[]=>true
 | x :: r,v :: q=>(match v with | .str y _=>y == x | _=>false) && dJ r q
 | _,_=>false
theorem fG:∀ {ss:List Str} {us:List Value},dJ ss us=true→aQ (ss.map V.str) us
 | [],[],_=>.nil
 | x :: r,v :: q,h=>by
   unfold dJ at h
   have h':=Bool.and_eq_true_iff.mp h
   refine .cons ?_ (fG h'.2)
   have h1:=h'.1
   cases v with
   | str y t=>exact ⟨t,by rw [show y=x by simpa using h1]⟩
   | _=>exact absurd h1 (by simp)
 | [],_ :: _,h=>by simp [dJ] at h
 | _ :: _,[],h=>by simp [dJ] at h
def gC (K:W.Frag) (ss:List Str) (v:Value):Bool:=match v with
 | .ref b=>(match K.lookup b with
   | some o=>o.cls == .type "tuple" && (match o.data with | .seq its _=>decide (its.size≤1000) && dJ ss its.toList | _=>false)
   | none=>false)
 | _=>false
def IsT (K:W.Frag) (ss:List Str) (v:Value):Prop:=∃ b,v = .ref b∧∀ H:Hp,SqT K H b (ss.map V.str)
theorem rV {K:W.Frag} (ss:List Str) (v:Value) (h:gC K ss v=true):IsT K ss v:=by
 unfold gC at h
 cases v with
 | ref b=>
   refine ⟨b,rfl,fun H=>.inr ?_⟩
   cases e:K.lookup b with
   | none=>simp only [e] at h;cases h
   | some o=>
     simp only [e] at h
     rw [Bool.and_eq_true_iff] at h
     cases d:o.data with
     | seq its n=>
       simp only [d] at h
       rw [Bool.and_eq_true_iff] at h
       exact ⟨o,its,n,rfl,by simpa using h.1,d,Nat.le_trans (of_decide_eq_true h.2.1) (Nat.le_of_lt (fX (Nat.le_refl _))),fG h.2.2⟩
     | _=>simp [d] at h
 | _=>simp at h
theorem ko {prog:Program} {w:World} {A:Around} {E:Value→Shared→Prop} {s:Shared} {δ:Type} {R:δ→Value→Prop} {a:Addr} {D:List (Str×δ)} {z:Str} {tz:Tok} {d:δ} {Q:Option Value→Shared→Prop}
 (T:KTD.TabOf R s.heap a D) (hat:KTD.datumAt z D=some d) (h:∀ v,R d v→Q (some v) { s with toks:=s.toks+1 }):wpAny (model prog w) A (dictGet a (.str z tz)) Q E s:=by
 obtain ⟨_,o,es,ep,ho,_,hd,hr⟩:=T
 obtain ⟨v,hv,hfl⟩:=hr.find_some hat
 have all:(es.all fun e=>isExactStrKey e.key)=true:=by
  obtain ⟨l⟩:=es
  simpa using hr.exact
 have hq:Q (findBy (fun k v=>v.isStr k) es z) { s with toks:=s.toks+1 }:=by
  rw [show findBy (fun k v=>v.isStr k) es z=some v by obtain ⟨l⟩:=es;simpa [findBy] using hv]
  exact h v hfl
 rw [findBy_of_findIdx?] at hq
 unfold dictGet
 refine wpAny_holding ?_
 refine wpAny_bind (wpAny_pyHash_str (wpAny_bind (KTD.kt_dictFind_strs (s:={ s with toks:=s.toks+1 }) ho hd all ?_)))
 cases hi:es.findIdx? fun e=>e.key.isStr z with
 | none=>
   rw [hi] at hq
   exact wpAny_pure hq
 | some i=>
   rw [hi] at hq
   exact wpAny_bind (wpAny_dictEntries (s:={ s with toks:=s.toks+1 }) ho hd (wpAny_pure hq))
section
variable {X:Cx}
def AC (K:W.Frag) (a:Addr) (D:List (Str×List Str)):R2:=fun x y H Q=>x = .ref a∧∃ z ss,y = .str z∧KTD.datumAt z D=some ss∧∀ c,SqT K H c (ss.map V.str)→Q (.ref c) H
theorem xM {x:Str} {p pos:Pos} {b:Expr} {tb:TE} {a:Addr} {D:List (Str×List Str)} (hg:Gl X x) (hm:X.mg x=some (.ref a)) (hK:KTD.tabLook (gC X.K) (fun b=>X.K.lookup b) a D=true) (hb:PE X b tb) (hs:eZ b)
 (hd:(x == ("__debug__":Str))=false:=by decide) (hl:∀ r,letTemporaryGo (.Name x p) (.ref a) r=pure ():=by intro _;rfl):PE X (.Subscript (.Name x p) b pos) (tOp (AC X.K a D) (tC (.ref a)) tb):=by
 intro pins s σ H Q I h
 refine Subscript_ (pS (fq hg hm (v:=.ref a) rfl hd) hb I h fun v u s2 x' y H2 I2 rx ry q=>?_)
 obtain ⟨e,z,ss,e',hat,q⟩:=q
 subst e e'
 cases rx
 obtain ⟨tz,e⟩:=ry
 subst e
 have T:KTD.TabOf (IsT X.K) s2.heap a D:=KTD.tab_of_look rV (fun b o e=>I2.kIn b o e) hK
 have ty:s2.TypeIs (.ref a) "dict":=by obtain ⟨_,o,_,_,ho,hc,_⟩:=T;exact ⟨o,ho,hc.1⟩
 refine subscriptTail_builtin ty slot_dict_getitem.lookup ?_ (hs _ _) hl
 unfold getItem
 refine wpAny_holding ?_
 refine wpAny_bind (wpAny_sequenceKey ty (by decide) ?_)
 refine wpAny_bind (wpAny_callSpecial?_slot (name:=Str.ofString "__getitem__") ty slot_dict_getitem (wpAny_call_entry slot_dict_getitem ty entry_dict_getitem ?_ (args_dict_getitem _ _)))
 show wpAny _ _ (dictGet a (.str z tz) >>= _) _ _ s2
 refine wpAny_bind (ko T hat fun v hv=>wpAny_pure ⟨v,rfl,wpAny_pure ?_⟩)
 obtain ⟨c,e,hc⟩:=hv
 subst e
 exact ⟨.ref c,H2,I2.tok _,rfl,q c (hc H2)⟩
end
theorem uB {T newId:String} {me:Value} {more:List Value} {kws:List (Str×Value)} (a1:typeLookup (.type T) "__init__" = pure (some (.builtin "object.__init__"))) (a2:Bind.madeBy (.type T)=pure (some newId))
 (a3:(some newId != some "object.__new__")=true) (a4:more≠[]):Meets (Builtin.«object.__init__» ⟨me :: more,kws⟩) (fun _ R s=>s.TypeIs me T∧R (.ok (.ret .none)) s):=by
 refine Meets.of_wp fun prog w A R s q=>?_
 obtain ⟨ty,q⟩:=q
 cases more with
 | nil=>exact absurd rfl a4
 | cons b more=>
   repeat (any_goals (first | assumption | wp_step))
   exact ⟨_,rfl,q⟩
section
variable {prog:Program} {w:World} {A:Around} {E:Value→Shared→Prop} {s:Shared}
theorem lE {T newId:String} {Bn:Builtin} {args:List Value} {kws:List (Str×Value)} {S:PySem.Spec} {Q Q1:Value→Shared→Prop} (ft:TypeCalled T newId "object.__init__") (ne:(some newId != some "object.__new__")=true) (na:args≠[])
 (c1:checkTypeCall T ⟨args,kws⟩=pure ()) (c2:checkBuiltinCall newId ⟨.type T :: args,kws⟩=pure ()) (e1:entryFor table newId=some Bn) (g:Meets (Bn ⟨.type T :: args,kws⟩) S) (h:S A.in1 (wants Q1 E) s)
 (hn:∀ obj s1,Q1 obj s1→s1.TypeIs obj T∧argsOk "object.__init__" ⟨obj :: args,kws⟩∧Q obj s1):wpAny (model prog w) A (call (.type T) args kws) Q E s:=by
 obtain ⟨c,tl,m1⟩:=ft.mro
 have m2:=ft.made
 have m3:=ft.sub
 refine wpAny_call (codeAny_of_tree ?_)
 show wpAny _ _ (callAny (.type T) _) _ _ _
 refine wpAny_pure ⟨Code.quiet_builtin _ (by decide +kernel),codeAny_builtin F.entry_type_call ?_⟩
 rw [Around.under_plain (weight_type_call_type T args kws) (units_type_call_type T args kws)]
 have m4:=ft.notType
 have m5:=ft.canCreate
 repeat (any_goals (first | assumption | wp_step))
 refine codeAny_mono (codeAny_call_builtin ft.plain e1 (wpAny_of_eq c2 (g prog w A.in1 _ s h))) fun r s1 q1=>?_
 cases r with
 | error e=>exact q1
 | ok fl=>
   cases fl with
   | ret obj=>
     obtain ⟨ty,ok,qq⟩:=hn _ _ q1
     have m6:=ft.init.lookup
     have m7:=ft.init.bind obj
     repeat (any_goals (first | assumption | wp_step))
     refine codeAny_mono (codeAny_call_builtin ft.init.plain F.entry_object_init (ft.init.check _ _ _ _ _ _ _ _ ty ok (uB m6 m2 ne na prog w A.in1 (wants (fun r s2=>r = .none∧Q obj s2) E) s1 ⟨ty,rfl,qq⟩))) fun r2 s2 q2=>?_
     cases r2 with
     | error e=>exact q2
     | ok f2=>
       cases f2 with
       | ret r=>
         obtain ⟨e,q3⟩:=q2
         subst e
         repeat (any_goals (first | assumption | wp_step))
       | _=>exact q2.elim
   | _=>exact q1.elim
theorem rj (t:Addr) (n:Int) (tk:Tok) (hn:Builtin.SmallTypes.fitsIndex n=true) (items:Array Value) :
 Meets (Builtin.«enumerate.__new__» ⟨[.type "enumerate",.ref t],[("start",.int n tk)]⟩) (fun _ R s=>s.heap.IsTuple t items ∧
  R (.ok (.ret (.ref (s.heap.push { cls:=.type "tuple_iterator",data:=.fields #[.ref t,.int 0 0] }).objs.size)))
    { s with heap:=(s.heap.push { cls:=.type "tuple_iterator",data:=.fields #[.ref t,.int 0 0] }).push { cls:=.type "enumerate",data:=.fields #[.none,.bool false,.ref s.heap.objs.size,rawInt n,.none,.none] } }):=
 .of_wp fun prog w A R s h=>by
  obtain ⟨hp,g,d,tk',os⟩:=s
  obtain ⟨ht,h⟩:=h
  have sub:=sub_enumerate
  wp_walk
  refine wpAny_stack_any fun st=>wpAny_pure ?_
  split
  ·rename_i c _ _ _ _ _
   cases (c == Value.type "enumerate")
   ·wp_walk using wpAny_pyIter_tuple ht
    exact ⟨_,rfl,h⟩
   ·wp_walk using wpAny_pyIter_tuple ht
    exact ⟨_,rfl,h⟩
  ·wp_walk using wpAny_pyIter_tuple ht
   exact ⟨_,rfl,h⟩
theorem sv {it t:Addr} {i:Nat} {xs:Array Value} {x:Value} {Q:Value→Shared→Prop} (g:s.heap.IsTupleIter it t i) (gt:s.heap.IsTuple t xs) (gx:xs[i]? = some x)
 (q:∀ h1,h1.IsTupleIter it t (i+1)→Heap.SameBut it s.heap h1→Q x { s with heap:=h1 }):wpAny (model prog w) A (Builtin.SmallTypes.nextOf (.ref it)) Q E s:=by
 obtain ⟨o,eo,co,dd⟩:=id g
 obtain ⟨ot,et,_,nt,dt⟩:=gt
 unfold Builtin.SmallTypes.nextOf
 refine wpAny_bind (wpAny_callSpecial?_slot (name:=Str.ofString "__next__") g.typeIs F.slot_tuple_iterator_next (wpAny_call_entry F.slot_tuple_iterator_next g.typeIs F.entry_tuple_iterator_next ?_ (F.args_tuple_iterator_next_1 _)))
 show wpAny _ _ (field (.ref it) 0 >>= fun _=>_) _ _ s
 refine wpAny_bind (wpAny_field eo dd (x:=.ref t) rfl ?_)
 show wpAny _ _ (if (Value.ref t == Value.none)=true then _ else _) _ _ s
 have nn:¬ ((Value.ref t == Value.none)=true):=Bool.false_ne_true
 rw [if_neg nn]
 show wpAny _ _ (field (.ref it) 1 >>= fun _=>_) _ _ s
 refine wpAny_bind (wpAny_field eo dd (x:=.int i 0) rfl ?_)
 show wpAny _ _ (seqItems? (.ref t) >>= fun _=>_) _ _ s
 refine wpAny_bind (wpAny_seqItems et dt ?_)
 simp only [Int.toNat_natCast,gx]
 refine wpAny_bind (wpAny_setField eo dd (by simp) (wpAny_pure ⟨x,rfl,wpAny_pure (q _ ⟨_,Heap.get?_update_self _ eo (Obj.isFreed_of_fields (Obj.data_mapFields dd _)),(Obj.cls_mapFields ..).trans co,?_⟩ (Heap.SameBut.update ..))⟩))
 rw [Obj.data_mapFields dd]
 simp [rawInt]
theorem p9 {e it t:Addr} {i:Nat} {j:Int} {xs:Array Value} {x old:Value} {Q:Option Value→Shared→Prop} (ge:IsEnum s.heap e it j old) (g:s.heap.IsTupleIter it t i) (gt:s.heap.IsTuple t xs) (gx:xs[i]? = some x) (ne:e≠it)
 (q:∀ h1 tk,IsEnumOut h1 e it (j+1) x s.heap.objs.size→h1.IsTupleIter it t (i+1)→h1.get? s.heap.objs.size=some { cls:=.type "tuple",data:=.seq #[.int j tk,x] } →
  (∀ b o,b≠e→b≠it→s.heap.get? b=some o→h1.get? b=some o)→Q (some (.ref s.heap.objs.size)) { s with heap:=h1,toks:=tk+1 }):wpAny (model prog w) A (pyNext (.ref e)) Q E s:=by
 have ty:s.TypeIs (.ref e) "enumerate":=⟨_,ge,rfl⟩
 unfold pyNext
 refine wpAny_bind (wpAny_attempt (wpAny_callSpecial?_slot (name:=Str.ofString "__next__") ty F.slot_enumerate_next (wpAny_call_entry F.slot_enumerate_next ty F.entry_enumerate_next ?_ (F.args_enumerate_next_1 _))))
 obtain ⟨hp,gs,d,tk0,os⟩:=s
 show wpAny _ _ (field (.ref e) 2 >>= fun _=>_) _ _ _
 refine wpAny_bind (wpAny_field ge rfl (x:=.ref it) rfl ?_)
 refine wpAny_bind (sv g gt gx fun h1 g1 s1=>?_)
 replace s1:Heap.SameBut it hp h1:=s1
 have e1:IsEnum h1 e it j old:=(s1.2 e ne).trans ge
 show wpAny _ _ (field (.ref e) 3 >>= fun _=>_) _ _ ⟨h1,gs,d,tk0,os⟩
 refine wpAny_bind (wpAny_field e1 rfl (x:=rawInt j) rfl ?_)
 show wpAny _ _ (field (.ref e) 4 >>= fun _=>_) _ _ ⟨h1,gs,d,tk0,os⟩
 refine wpAny_bind (wpAny_field e1 rfl (x:=.none) rfl ?_)
 show wpAny _ _ (mkInt j >>= fun _=>_) _ _ ⟨h1,gs,d,tk0,os⟩
 refine wpAny_bind (wpAny_mkInt ?_)
 show wpAny _ _ (setField (.ref e) 3 (rawInt (j+1)) >>= fun _=>_) _ _ ⟨h1,gs,d,tk0+1,os⟩
 refine wpAny_bind (wpAny_setField_rec e1 (by simp) fun h2 e2 s2=>?_)
 replace s2:Heap.SameBut e h1 h2:=s2
 replace e2:IsEnum h2 e it (j+1) old:=e2
 show wpAny _ _ (setField (.ref e) 4 .none >>= fun _=>_) _ _ ⟨h2,gs,d,tk0+1,os⟩
 refine wpAny_bind (wpAny_setField_rec e2 (by simp) fun h3 e3 s3=>?_)
 replace s3:Heap.SameBut e h2 h3:=s3
 replace e3:IsEnum h3 e it (j+1) old:=e3
 show wpAny _ _ (newTuple [.int j tk0,x] >>= fun _=>_) _ _ ⟨h3,gs,d,tk0+1,os⟩
 refine wpAny_bind (wpAny_newTuple ?_)
 have e4:IsEnum (h3.push { cls:=.type "tuple",data:=.seq #[.int j tk0,x] }) e it (j+1) old:=Heap.get?_push_of_some _ e3
 generalize hh4:h3.push { cls:=.type "tuple",data:=.seq #[.int j tk0,x] }=h4 at e4
 have sz:h3.objs.size=hp.objs.size:=by rw [s3.1,s2.1,s1.1]
 have lt:e<hp.objs.size:=Heap.lt_size ge
 have t4:h4.get? hp.objs.size=some { cls:=.type "tuple",data:=.seq #[.int j tk0,x] }:=by rw [← hh4,← sz];exact Heap.get?_push_size _ rfl
 have k4:∀ b o,b≠e→b≠it→hp.get? b=some o→h4.get? b=some o:=fun b o n1 n2 hb=>by
  rw [← hh4];exact Heap.get?_push_of_some _ (s3.extBut b o n1 (s2.extBut b o n1 (s1.extBut b o n2 hb)))
 have g4:h4.IsTupleIter it t (i+1):=g1.at fun o y=>by
  rw [← hh4];exact Heap.get?_push_of_some _ (s3.extBut it o (Ne.symm ne) (s2.extBut it o (Ne.symm ne) y))
 show wpAny _ _ (Builtin.SmallTypes.ownedTupleIsFree (.ref e) >>= fun _=>_) _ _ ⟨h4,gs,d,tk0+1,os⟩
 rw [sz]
 clear hh4 e3 s3 e2 s2 e1 s1 g1 sz h3 h2 h1
 refine wpAny_bind ?_
 unfold Builtin.SmallTypes.ownedTupleIsFree
 refine wpAny_bind (wpAny_field e4 rfl (x:=.none) rfl (wpAny_pure ?_))
 simp only [if_true]
 refine wpAny_bind (wpAny_rule (wpAny_bind (wpAny_field e4 rfl (x:=old) rfl ?_)))
 refine wpAny_bind (wpAny_setField_rec e4 (by simp) fun h5 e5 s5=>?_)
 replace s5:Heap.SameBut e h4 h5:=s5
 replace e5:IsEnum h5 e it (j+1) x:=e5
 show wpAny _ _ (Builtin.SmallTypes.ownedTupleHandOut (.ref e) (.ref hp.objs.size) >>= fun _=>_) _ _ ⟨h5,gs,d,tk0+1,os⟩
 refine wpAny_bind ?_
 unfold Builtin.SmallTypes.ownedTupleHandOut
 refine wpAny_bind (wpAny_setField_rec e5 (by simp) fun h6 e6 s6=>?_)
 replace s6:Heap.SameBut e h5 h6:=s6
 replace e6:IsEnumOut h6 e it (j+1) x hp.objs.size:=e6
 refine wpAny_setField_rec e6 (by simp) fun h7 e7 s7=>?_
 replace s7:Heap.SameBut e h6 h7:=s7
 replace e7:IsEnumOut h7 e it (j+1) x hp.objs.size:=e7
 have up:∀ b o,b≠e→h4.get? b=some o→h7.get? b=some o:=fun b o n1 y=>s7.extBut b o n1 (s6.extBut b o n1 (s5.extBut b o n1 y))
 refine wpAny_bind (wpAny_letGo (wpAny_pure ⟨_,rfl,wpAny_pure ?_⟩))
 exact q h7 tk0 e7 (g4.at fun o y=>up it o (Ne.symm ne) y) (up _ _ (Nat.ne_of_gt lt) t4) fun b o n1 n2 y=>up b o n1 (k4 b o n1 n2 y)
theorem kH {it t:Addr} {i:Nat} {xs:Array Value} {Q:Value→Shared→Prop} (hh:A.handled=none) (g:s.heap.IsTupleIter it t i) (gt:s.heap.IsTuple t xs) (gx:xs[i]? = none)
 (q:∀ h1 x,Heap.ExtBut it s.heap h1→(∃ o,h1.get? x=some o∧o.cls = .type "StopIteration")→E (.ref x) { s with heap:=h1 }):wpAny (model prog w) A (Builtin.SmallTypes.nextOf (.ref it)) Q E s:=by
 obtain ⟨o,eo,co,dd⟩:=id g
 obtain ⟨ot,et,_,nt,dt⟩:=gt
 unfold Builtin.SmallTypes.nextOf
 refine wpAny_bind (wpAny_callSpecial?_slot (name:=Str.ofString "__next__") g.typeIs F.slot_tuple_iterator_next (wpAny_call_entry F.slot_tuple_iterator_next g.typeIs F.entry_tuple_iterator_next ?_ (F.args_tuple_iterator_next_1 _)))
 show wpAny _ _ (field (.ref it) 0 >>= fun _=>_) _ _ s
 refine wpAny_bind (wpAny_field eo dd (x:=.ref t) rfl ?_)
 show wpAny _ _ (if (Value.ref t == Value.none)=true then _ else _) _ _ s
 have nn:¬ ((Value.ref t == Value.none)=true):=Bool.false_ne_true
 rw [if_neg nn]
 show wpAny _ _ (field (.ref it) 1 >>= fun _=>_) _ _ s
 refine wpAny_bind (wpAny_field eo dd (x:=.int i 0) rfl ?_)
 show wpAny _ _ (seqItems? (.ref t) >>= fun _=>_) _ _ s
 refine wpAny_bind (wpAny_seqItems et dt ?_)
 simp only [Int.toNat_natCast,gx]
 refine wpAny_bind (wpAny_rule (wpAny_bind (wpAny_setField eo dd (by simp) ?_)))
 show wpAny _ _ (newExc (.type "StopIteration") [] >>= fun _=>_) _ _ _
 refine wpAny_bind ?_
 simp only [newExc,newTuple]
 refine wpAny_bind (wpAny_newObj_type ?_ (by size_fits))
 refine wpAny_bind (m:=firstArgMember _ _) (wpAny_of_eq (a:=Value.none) (by first | rfl | (simp only [firstArgMember];rfl)) (wpAny_newObj_type ?_ (by size_fits)))
 simp only [raiseNew]
 refine wpAny_bind (wpAny_handled ?_)
 first | rw [show A.in1.handled=none from hh] | rw [hh]
 exact wpAny_bind (wpAny_pure (wpAny_throw (q _ _ (((Heap.SameBut.update ..).extBut.push _).push _) ⟨_,Heap.get?_push_size _ rfl,rfl⟩)))
theorem rh {e it t:Addr} {i:Nat} {j:Int} {xs:Array Value} {old:Value} {Q:Option Value→Shared→Prop} (hh:A.handled=none) (ge:IsEnum s.heap e it j old) (g:s.heap.IsTupleIter it t i) (gt:s.heap.IsTuple t xs) (gx:xs[i]? = none)
 (q:∀ h1,Heap.ExtBut it s.heap h1→Q none { s with heap:=h1 }):wpAny (model prog w) A (pyNext (.ref e)) Q E s:=by
 have ty:s.TypeIs (.ref e) "enumerate":=⟨_,ge,rfl⟩
 unfold pyNext
 refine wpAny_bind (wpAny_attempt (wpAny_callSpecial?_slot (name:=Str.ofString "__next__") ty F.slot_enumerate_next (wpAny_call_entry F.slot_enumerate_next ty F.entry_enumerate_next ?_ (F.args_enumerate_next_1 _))))
 show wpAny _ _ (field (.ref e) 2 >>= fun _=>_) _ _ _
 refine wpAny_bind (wpAny_field ge rfl (x:=.ref it) rfl ?_)
 refine wpAny_bind (kH hh g gt gx fun h1 x k1 k2=>?_)
 obtain ⟨o,ho,hc⟩:=k2
 exact wpAny_bind (wpAny_isInstance (T:="StopIteration") (b:=true) ⟨o,ho,hc⟩ isSubtype_stop (wpAny_pure (q _ k1)))
end
def Ite (K:W.Frag) (a:Addr) (lo:Int):It where
 go:=fun i H=>∃ xs x,SqT K H a xs∧xs[i]? = some x
 yld:=fun i H v H'=>∃ T x,v = .ref T∧H T=none∧H'=upd H T (.tup [.int (lo+i),x])∧∀ xs,SqT K H a xs→xs[i]? = some x
 stop:=fun i H=>∃ xs,SqT K H a xs∧xs.length≤i
theorem qL {P:Program} {w:World} {K:W.Frag} {es:List Expr} {k:Nat} {tp:Pos} (a e it:Addr) (lo:Int) (ne:e≠it) :
 ia P w K (.Tuple es k tp) (Ite K a lo) [e,it] e (fun i h=>(∃ old,IsEnum h e it (lo+i) old)∧h.IsTupleIter it a i) where
 mem:=by simp
 obj:=fun i h st c hc=>by
  obtain ⟨⟨old,h1⟩,⟨o2,e2,c2,d2⟩⟩:=st
  have hc':c=e∨c=it:=by simpa using hc
  rcases hc' with rfl | rfl
  ·exact ⟨_,h1,fun v q=>by cases (show Data.fields _=Data.cell v from q)⟩
  ·exact ⟨o2,e2,fun v q=>by rw [d2] at q;cases q⟩
 keep:=fun i h h' st kp=>by
  obtain ⟨⟨old,h1⟩,h2⟩:=st
  exact ⟨⟨old,kp e (by simp) _ h1⟩,h2.at fun o q=>kp it (by simp) o q⟩
 item:=by
  intro X hP hw hK hc i pins s σ H E I hf st hg
  subst hP hw hK
  obtain ⟨xs,x,hq,hx⟩:=hg
  obtain ⟨its,rv,p,hz⟩:=I.tuple hq
  obtain ⟨u,hu,ru⟩:=rv.get hx
  obtain ⟨⟨old,h1⟩,h2⟩:=st
  refine p9 h1 h2 (show s.heap.IsTuple a its.toArray from p) (x:=u) (by simpa using hu) ne fun h' tk ho hi ht kp=>⟨_,rfl,?_⟩
  refine wpAny_letOwnedTupleGo_enum ho fun h'' he' hs'=>?_
  replace hs':Heap.SameBut e h' h'':=hs'
  replace he':IsEnum h'' e it (lo+i+1) u:=he'
  have zT:=(hs'.2 s.heap.objs.size (Nat.ne_of_gt (Heap.lt_size h1))).trans ht
  have kp':∀ b o,b ∉ [e,it]→s.heap.get? b=some o→h''.get? b=some o:=fun b o hb q=>(hs'.2 b (fun z=>hb (z ▸ List.mem_cons_self))).trans (kp b o (fun z=>hb (z ▸ List.mem_cons_self)) (fun z=>hb (z ▸ List.mem_cons_of_mem _ List.mem_cons_self)) q)
  have hsz:e<s.heap.objs.size:=Heap.lt_size h1
  have hiz:it<s.heap.objs.size:=by obtain ⟨o,q,_⟩:=h2;exact Heap.lt_size q
  have htT:IsTup h'' s.heap.objs.size #[.int (lo+i) tk,u]:=⟨_,zT,rfl,0,rfl⟩
  have hTn:H s.heap.objs.size=none:=I.hok.fresh (Nat.le_refl _)
  have I2:Inv X pins σ (upd H s.heap.objs.size (.tup [.int (lo+i),x])) { s with heap:=h'',toks:=tk+1 }:=
   hW (ch:=[e,it]) I kp' hf (Nat.le_refl _) ⟨[.int (lo+i) tk,u],.cons ⟨tk,rfl⟩ (.cons ru .nil),htT⟩ (by show 2≤sizeLine;decide)
  refine ⟨.ref s.heap.objs.size,_,I2,rfl,⟨_,x,rfl,hTn,rfl,fun ys hy=>by rw [I.tuple_inj hy hq];exact hx⟩,⟨⟨u,?_⟩,hi.at fun o q=>(hs'.2 it (Ne.symm ne)).trans q⟩,fun b hb=>?_⟩
  ·have z:lo+((i+1:Nat):Int)=lo+(i:Int)+1:=by omega
   rw [z];exact he'
  ·have hb':b=e∨b=it:=by simpa using hb
   have hne:b≠s.heap.objs.size:=by
    rcases hb' with z | z
    ·rw [z];exact Nat.ne_of_lt hsz
    ·rw [z];exact Nat.ne_of_lt hiz
   rw [aj hne]
   exact (hf b hb).1
 done:=by
  intro X hP hw hK hc i pins s σ H E I hf st hg
  subst hP hw hK
  obtain ⟨xs,hq,hx⟩:=hg
  obtain ⟨its,rv,p,hz⟩:=I.tuple hq
  obtain ⟨⟨old,h1⟩,h2⟩:=st
  have hl:=rv.length
  refine rh (I.ok.hd hc) h1 h2 (show s.heap.IsTuple a its.toArray from p) (by simp;omega) fun h' kp=>⟨rfl,?_⟩
  exact hV (ch:=[e,it]) (t':=s.toks) I (fun b o hb q=>kp b o (fun z=>hb (z ▸ List.mem_cons_of_mem _ List.mem_cons_self)) q) hf
 self:=fun _ _ _ _ _ st h=>by
  obtain ⟨⟨old,h1⟩,_⟩:=st
  exact wpAny_pyIter_enum h1 h
section
variable {X:Cx}
def yO (K:W.Frag) (ta tk:TA):TI:=fun σ H R=>ta σ H fun vs H1=>tk σ H1 fun zs H2=>∃ a xs n,vs = [.ref a]∧zs = [.int n]∧Builtin.SmallTypes.fitsIndex n=true∧SqT K H2 a xs∧R (Ite K a n) H2
theorem pT {M:Model} {A:Around} {E:Value→Shared→Prop} {s:Shared} {env:Env} {pos:Pos} {T:String} {e:Expr} {rest:List Expr} {kws:List Keyword} {Q:Value→Shared→Prop}
 (h:wpAny M A (spliced (backTo pos (starEach (e :: rest) env))) (fun vs s1=>wpAny M A (evalAll ((backToKw pos (keywordEach kws env)).map (·.2))) (fun ks s2=>wpAny M A (call (.type T) vs (((backToKw pos (keywordEach kws env)).filterMap (·.1)).zip ks)) Q E s2) E s1) E s)
 (he:starEach (e :: rest) env=(false,eval e env) :: starEach rest env) (h1:(backTo pos (starEach (e :: rest) env)).any (·.1)=false) (h2:(backToKw pos (keywordEach kws env)).all (·.1.isSome)=true) (h3:(backToKw pos (keywordEach kws env)).any (·.1.isNone)=false) :
 wpAny M A (callWith pos (.type T) [] (backTo pos (starEach (e :: rest) env)) (backToKw pos (keywordEach kws env))) Q E s:=by
 have k:wpAny M A (evalArgs (.type T) true (backTo pos (starEach (e :: rest) env)) (backToKw pos (keywordEach kws env))) (fun a s1=>wpAny M A (call (.type T) ([] ++ a.pos) a.kw) Q E s1) E s:=by
  rw [he] at h ⊢
  exact evalArgs_kwB h2 h
 unfold callWith
 refine wpAny_bind (wpAny_holding (thn k fun a s1 q=>wpAny_bind (wpAny_standAt ?_)))
 simp only [h1,h3,Bool.or_false]
 exact wpAny_bind (wpAny_pure (wpAny_bind (thn q fun r s2 q2=>wpAny_bind (wpAny_holding (wpAny_point (wpAny_pure q2))))))
theorem pZ {prog:Program} {w:World} {A:Around} {E:Value→Shared→Prop} {s:Shared} {t:Addr} {xs:Array Value} {n:Int} {tk:Tok} {Q:Value→Shared→Prop} (hn:Builtin.SmallTypes.fitsIndex n=true) (ht:s.heap.IsTuple t xs)
 (h:Q (.ref (s.heap.push { cls:=.type "tuple_iterator",data:=.fields #[.ref t,.int 0 0] }).objs.size)
  { s with heap:=(s.heap.push { cls:=.type "tuple_iterator",data:=.fields #[.ref t,.int 0 0] }).push { cls:=.type "enumerate",data:=.fields #[.none,.bool false,.ref s.heap.objs.size,rawInt n,.none,.none] } }) :
 wpAny (model prog w) A (call (.type "enumerate") [.ref t] [("start",.int n tk)]) Q E s:=by
 refine lE (Q1:=fun obj s1=>obj = .ref (s.heap.push { cls:=.type "tuple_iterator",data:=.fields #[.ref t,.int 0 0] }).objs.size∧s1={ s with heap:=(s.heap.push { cls:=.type "tuple_iterator",data:=.fields #[.ref t,.int 0 0] }).push { cls:=.type "enumerate",data:=.fields #[.none,.bool false,.ref s.heap.objs.size,rawInt n,.none,.none] } })
  F.called_enumerate (by decide) (by simp) (by kernel_rfl) (by kernel_rfl) F.entry_enumerate_new (rj t n tk hn xs) ⟨ht,rfl,rfl⟩ fun obj s1 q=>?_
 obtain ⟨e,e'⟩:=q
 subst e e'
 exact ⟨⟨_,Heap.get?_push_size _ rfl,rfl⟩,by first | (simp [argsOk];done) | (unfold argsOk;kernel_rfl) | (unfold argsOk;decide +kernel) | kernel_rfl,h⟩
theorem vj {es:List Expr} {k:Nat} {tp p pos kp:Pos} {a b:Expr} {ta tk:TA} (hg:Gl X "enumerate") (hm:X.mg "enumerate" = none) (ha:PA X [a] ta) (hk:PK X [⟨some "start",b,kp⟩] tk) (hs:starEach [a] X.env = [(false,eval a X.env)]:=by rfl) :
 PI X (.Tuple es k tp) (.Call (.Name "enumerate" p) [a] [⟨some "start",b,kp⟩] pos) (yO X.K ta tk):=by
 intro pins s σ H R I h
 refine wpAny_Call_Name_kw (dN I hg hm boot_enumerate ?_)
 refine pT (thn (ha pos pins s σ H _ I h) fun us s1 q1=>?_) (by rw [hs];rfl) (by rw [hs];rfl) rfl rfl
 obtain ⟨vs,H1,I1,r1,q1⟩:=q1
 refine thn (hk pos pins s1 σ H1 _ I1 q1) fun ws s2 q2=>?_
 obtain ⟨zs,H2,I2,r2,l,xs,n,e,e',hn,hx,q⟩:=q2
 subst e e'
 obtain ⟨u,e,ru⟩:=aQ.one r1
 obtain ⟨u2,e',ru2⟩:=aQ.one r2
 subst e e'
 cases ru
 obtain ⟨tz,e⟩:=ru2
 subst e
 obtain ⟨its,rv,p1,z1⟩:=I2.tuple hx
 refine pZ hn (show s2.heap.IsTuple l its.toArray from p1) (wpAny_pyIter_enum (Heap.get?_push_size _ rfl) ?_)
 have hsz:(s2.heap.push { cls:=.type "tuple_iterator",data:=.fields #[.ref l,.int 0 0] }).objs.size=s2.heap.objs.size+1:=Heap.size_push ..
 rw [hsz]
 refine ⟨s2.heap.objs.size+1,[s2.heap.objs.size+1,s2.heap.objs.size],_,Ite X.K l n,H2,rfl,I2.kept (t':=s2.toks) fun b o e=>Heap.get?_push_of_some _ (Heap.get?_push_of_some _ e),qL l _ _ n (Nat.succ_ne_self _),⟨⟨.none,?_⟩,⟨_,Heap.get?_push_of_some _ (Heap.get?_push_size _ rfl),rfl,rfl⟩⟩,fun c hc=>?_,q⟩
 ·have z:n+((0:Nat):Int)=n:=by omega
  rw [z,← hsz]
  exact Heap.get?_push_size _ rfl
 ·have hc':s2.heap.objs.size≤c:=by
   rcases List.mem_cons.mp hc with z | z
   ·rw [z];exact Nat.le_succ _
   ·rw [List.mem_singleton.mp z];exact Nat.le_refl _
  exact I2.fpOk hc' (I2.hok.fresh hc')
end
section
variable {prog:Program} {w:World} {A:Around} {R:Result→Shared→Prop} {it:Addr} {fp wr:List Addr} {n:Nat} {f:Nat→Int} {Z:Nat→Heap→Prop}
abbrev jh (f:Nat→Int):Nat→Value→Prop:=fun i v=>∃ t,v = .int (f i) t
abbrev eK (f:Nat→Int):Nat→Nat→Bool:=fun i j=>decide (f i>f j)
theorem xi (W:Walks prog w A.in1 it fp wr n (jh f) Z) (kws:List (Str×Value)) (B:Addr) (nB:B ∉ fp) :
 ∀ (k j:Nat) (s:Shared) (u:Value) (c:Nat),n - (j+1)=k→j+1≤n→Z (j+1) s.heap→jh f (argBest (eK f) j) u→s.heap.get? B=some { cls:=.type "list",dict:=none,data:=.seq #[u,u] c,slots:=#[] } →
 (∀ v h1 tk,jh f (argBest (eK f) (n - 1)) v→(∀ b o,b ∉ wr→b≠B→s.heap.get? b=some o→h1.get? b=some o)→R (.ok (.ret v)) { s with heap:=h1,toks:=tk }) →
 codeAny (model prog w) A (.builtin "max.loop" ⟨[.ref it,.none,.ref B],kws⟩) R s:=by
 have nw:B ∉ wr:=fun h=>nB (W.sub _ h)
 have nm:(toString "max" ++ toString ".loop":String) = "max.loop":=by decide
 have cmp:CmpOf prog w A.in1 .Gt (jh f) (eK f):=CmpOf.ints_gt f fun _ _ h=>h
 intro k
 induction k with
 | zero=>
   intro j s u c hk hj hz hu hB hR
   have e:j+1=n:=by omega
   refine codeAny_builtin F.entry_max_loop ?_
   rw [Around.under_plainId F.plain_max_loop _]
   show wpAny _ A.in1 (seqItems? (.ref B) >>= fun _=>_) _ _ s
   refine wpAny_bind (wpAny_seqItems hB rfl ?_)
   show wpAny _ A.in1 (tryCatch (pyNext (.ref it)) _ >>= fun _=>_) _ _ s
   refine wpAny_bind (wpAny_tryCatch (W.done s _ _ (e ▸ hz) fun h1 tk k1=>?_))
   show wpAny _ A.in1 (updateSeq B (fun _=>#[]) >>= fun _=>_) _ _ _
   refine wpAny_bind (wpAny_updateSeq (k1 B _ nw hB) rfl (wpAny_bind (wpAny_letGo (wpAny_pure ?_))))
   exact hR u _ tk (by rw [← e];exact hu) fun b o n1 n2 q=>(Heap.get?_update_other _ _ (Ne.symm n2)).trans (k1 b o n1 q)
 | succ k ih=>
   intro j s u c hk hj hz hu hB hR
   have lt:j+1<n:=by omega
   refine codeAny_builtin F.entry_max_loop ?_
   rw [Around.under_plainId F.plain_max_loop _]
   show wpAny _ A.in1 (seqItems? (.ref B) >>= fun _=>_) _ _ s
   refine wpAny_bind (wpAny_seqItems hB rfl ?_)
   show wpAny _ A.in1 (tryCatch (pyNext (.ref it)) _ >>= fun _=>_) _ _ s
   refine wpAny_bind (wpAny_tryCatch (W.item (j+1) s _ _ lt hz fun v h1 tk hv hz1 k1=>?_))
   have hB1:=k1 B _ nw hB
   show wpAny _ A.in1 (tryCatch (holding [v,v] (richCompare .Gt v u >>= _)) _ >>= fun _=>_) _ _ _
   refine wpAny_bind (wpAny_tryCatch (wpAny_holding (wpAny_bind (cmp (j+1) (argBest (eK f) j) v u _ _ _ hv hu ?_))))
   refine wpAny_bind (wpAny_holding (wpAny_truthy_bool (wpAny_bind (wpAny_letGo (wpAny_pure ?_)))))
   cases hb:eK f (j+1) (argBest (eK f) j) with
   | true=>
     simp only [if_true]
     refine wpAny_bind (wpAny_updateSeq hB1 rfl (wpAny_bind (wpAny_letGo ?_)))
     rw [nm]
     refine wpAny_pure ⟨plainId_quiet F.plain_max_loop _,ih (j+1) _ v _ (by omega) lt (W.frame _ _ _ hz1 fun b hbf o q=>(Heap.get?_update_other _ _ (fun z:B=b=>nB (by rw [z];exact hbf))).trans q) ?_ (Heap.get?_update_self _ hB1 rfl) fun v' h2 tk2 hv' k2=>?_⟩
     ·simp only [argBest,hb,if_true];exact hv
     ·exact hR v' h2 tk2 hv' fun b o n1 n2 q=>k2 b o n1 n2 ((Heap.get?_update_other _ _ (Ne.symm n2)).trans (k1 b o n1 q))
   | false=>
     simp only [Bool.false_eq_true,if_false]
     refine wpAny_bind (wpAny_letGo ?_)
     rw [nm]
     refine wpAny_pure ⟨plainId_quiet F.plain_max_loop _,ih (j+1) _ u c (by omega) lt hz1 ?_ hB1 fun v' h2 tk2 hv' k2=>hR v' h2 tk2 hv' fun b o n1 n2 q=>k2 b o n1 n2 (k1 b o n1 q)⟩
     simp only [argBest,hb,Bool.false_eq_true,if_false];exact hu
theorem kh (f:Nat→Int):∀ k i,i≤k→f i≤f (argBest (eK f) k)
 | 0,i,h=>by cases (show i=0 by omega);exact Int.le_refl _
 | k+1,i,h=>by
   unfold argBest
   cases hb:eK f (k+1) (argBest (eK f) k) with
   | true=>
     have hb':f (k+1)>f (argBest (eK f) k):=of_decide_eq_true hb
     simp only [if_true]
     by_cases e:i=k+1
     ·rw [e];exact Int.le_refl _
     ·have:=kh f k i (by omega);omega
   | false=>
     have hb':¬ f (k+1)>f (argBest (eK f) k):=of_decide_eq_false hb
     simp only [Bool.false_eq_true,if_false]
     by_cases e:i=k+1
     ·rw [e];omega
     ·exact kh f k i (by omega)
theorem oz (f:Nat→Int):∀ k,argBest (eK f) k≤k
 | 0=>Nat.le_refl _
 | k+1=>by
   unfold argBest
   cases eK f (k+1) (argBest (eK f) k) with
   | true=>exact Nat.le_refl _
   | false=>exact Nat.le_trans (oz f k) (Nat.le_succ _)
end
def qo (d:Int):List Int→Int
 | []=>d
 | x :: r=>r.foldl (fun a b=>if b>a then b else a) x
theorem rK (r:List Int):∀ x:Int,x≤r.foldl (fun a b=>if b>a then b else a) x∧(∀ y∈r,y≤r.foldl (fun a b=>if b>a then b else a) x)∧(r.foldl (fun a b=>if b>a then b else a) x=x∨r.foldl (fun a b=>if b>a then b else a) x∈r):=by
 induction r with
 | nil=>intro x;exact ⟨Int.le_refl _,fun y h=>(nomatch h),.inl rfl⟩
 | cons b r ih=>
   intro x
   have h:=ih (if b>x then b else x)
   rw [List.foldl_cons]
   obtain ⟨h1,h2,h3⟩:=h
   by_cases c:b>x
   ·rw [if_pos c] at h1 h2 h3 ⊢
    refine ⟨by omega,fun y hy=>?_,?_⟩
    ·rcases List.mem_cons.mp hy with rfl | hy
     ·exact h1
     ·exact h2 y hy
    ·rcases h3 with h3 | h3
     ·exact .inr (by rw [h3];exact List.mem_cons_self)
     ·exact .inr (List.mem_cons_of_mem _ h3)
   ·rw [if_neg c] at h1 h2 h3 ⊢
    refine ⟨h1,fun y hy=>?_,?_⟩
    ·rcases List.mem_cons.mp hy with rfl | hy
     ·omega
     ·exact h2 y hy
    ·rcases h3 with h3 | h3
     ·exact .inl h3
     ·exact .inr (List.mem_cons_of_mem _ h3)
theorem oX {d m:Int} {ns:List Int} (ne:ns≠[]) (hm:m∈ns) (hg:∀ y∈ns,y≤m):qo d ns=m:=by
 cases ns with
 | nil=>exact absurd rfl ne
 | cons x r=>
   obtain ⟨h1,h2,h3⟩:=rK r x
   have k1:qo d (x :: r)=r.foldl (fun a b=>if b>a then b else a) x:=rfl
   rw [k1]
   have a1:r.foldl (fun a b=>if b>a then b else a) x≤m:=by
    rcases h3 with h3 | h3
    ·rw [h3];exact hg x List.mem_cons_self
    ·exact hg _ (List.mem_cons_of_mem _ h3)
   have a2:m≤r.foldl (fun a b=>if b>a then b else a) x:=by
    rcases List.mem_cons.mp hm with rfl | hm
    ·exact h1
    ·exact h2 m hm
   omega
theorem gz:∀ {us:List Value} {ns:List Int} {i:Nat} {v:Value},IntsAre us ns→us[i]? = some v→∃ t,v = .int (ns.getD i 0) t
 | _,_,_,_,.nil,e=>by simp at e
 | _,_,0,v,.cons _ t _,e=>by simp at e;subst e;exact ⟨t,by simp⟩
 | _,_,i+1,v,.cons _ _ r,e=>by
   obtain ⟨t,h⟩:=gz (i:=i) r (by simpa using e)
   exact ⟨t,by simpa using h⟩
section
variable {X:Cx}
def zC (K:W.Frag):List V→List V→Hp→VK→Prop:=fun vs zs H Q=>∃ l ns d,vs = [.ref l]∧zs = [.int d]∧SqL K H l (ns.map V.int)∧Q (.int (qo d ns)) H
def tKw (r:List V→List V→Hp→VK→Prop) (ta tk:TA):TE:=fun σ H Q=>ta σ H fun vs H1=>tk σ H1 fun zs H2=>r vs zs H2 Q
theorem xj {prog:Program} {w:World} {A:Around} {E:Value→Shared→Prop} {s:Shared} {l:Addr} {us:List Value} {ns:List Int} {d:Int} {td:Tok} {Q:Value→Shared→Prop} (hh:A.handled=none) (hl:s.heap.IsList l us.toArray) (hi:IntsAre us ns)
 (q:∀ t h1 tk,(∀ b o,s.heap.get? b=some o→h1.get? b=some o)→Q (.int (qo d ns) t) { s with heap:=h1,toks:=tk }):wpAny (model prog w) A (call (.builtin "max") [.ref l] [("default",.int d td)]) Q E s:=by
 have nm:(toString "max" ++ toString ".loop":String) = "max.loop":=by decide
 have hlt:l<s.heap.objs.size:=by obtain ⟨_,e,_⟩:=hl;exact Heap.lt_size e
 refine wpAny_call (codeAny_call_builtin F.plain_max F.entry_max (wpAny_of_eq (a:=()) (by kernel_rfl) ?_))
 show wpAny _ A.in1 (Builtin.Builtins.bindParams "max" ["key","default"] 0 ⟨[],[("default",.int d td)]⟩ >>= fun _=>_) _ _ s
 refine wpAny_bind (wpAny_of_eq (a:=[none,some (.int d td)]) (by rfl) (wpAny_bind (wpAny_pure ?_)))
 refine wpAny_bind (wpAny_pyIter_list hl (wpAny_bind (wpAny_newObj_type ?_)))
 rw [nm]
 let it:Addr:=s.heap.objs.size
 generalize hh1:s.heap.push { cls:=.type "list_iterator",data:=.fields #[.ref l,.int 0 0] }=h1
 have sz1:h1.objs.size=s.heap.objs.size+1:=by rw [← hh1];exact Heap.size_push ..
 have kp1:∀ b o,s.heap.get? b=some o→h1.get? b=some o:=fun b o e=>by rw [← hh1];exact Heap.get?_push_of_some _ e
 have it1:h1.IsListIter s.heap.objs.size l 0:=by rw [← hh1];exact ⟨_,Heap.get?_push_size _ rfl,rfl,rfl⟩
 have W:=Walks.list (prog:=prog) (w:=w) (A:=A.in1) hh s.heap.objs.size l (Nat.ne_of_lt hlt) us.toArray
 have nB:h1.objs.size ∉ [s.heap.objs.size,l]:=fun hm=>by
  rw [sz1] at hm
  rcases List.mem_cons.mp hm with z | z
  ·exact absurd z (Nat.succ_ne_self _)
  ·rw [List.mem_singleton] at z;exact absurd hlt (by rw [← z];exact Nat.not_lt.mpr (Nat.le_succ _))
 have hlen:us.length=ns.length:=hi.length
 have hB:(h1.push { cls:=.type "list",dict:=none,data:=.seq ([]:List Value).toArray }).get? h1.objs.size=some { cls:=.type "list",dict:=none,data:=.seq #[] 0,slots:=#[] }:=Heap.get?_push_size _ rfl
 have st0:(h1.push { cls:=.type "list",dict:=none,data:=.seq ([]:List Value).toArray }).IsListIter s.heap.objs.size l 0∧(h1.push { cls:=.type "list",dict:=none,data:=.seq ([]:List Value).toArray }).IsList l us.toArray:=
  ⟨it1.at fun o e=>Heap.get?_push_of_some _ e,(hl.at fun o e=>kp1 l o e).at fun o e=>Heap.get?_push_of_some _ e⟩
 have back:∀ (h2:Heap),(∀ b o,b ∉ [s.heap.objs.size]→b≠h1.objs.size→(h1.push { cls:=.type "list",dict:=none,data:=.seq ([]:List Value).toArray }).get? b=some o→h2.get? b=some o)→∀ b o,s.heap.get? b=some o→h2.get? b=some o:=fun h2 k b o e=>by
  have lt:=Heap.lt_size e
  refine k b o (fun z=>?_) (fun z=>?_) (Heap.get?_push_of_some _ (kp1 b o e))
  ·rw [List.mem_singleton.mp z] at lt;exact Nat.lt_irrefl _ lt
  ·rw [z,sz1] at lt;exact absurd lt (Nat.not_lt.mpr (Nat.le_succ _))
 refine wpAny_pure ⟨plainId_quiet F.plain_max_loop _,?_⟩
 refine codeAny_builtin F.entry_max_loop ?_
 rw [Around.under_plainId F.plain_max_loop _]
 show wpAny _ A.in1 (seqItems? (.ref h1.objs.size) >>= fun _=>_) _ _ _
 refine wpAny_bind (wpAny_seqItems hB rfl ?_)
 show wpAny _ A.in1 (tryCatch (pyNext (.ref s.heap.objs.size)) _ >>= fun _=>_) _ _ _
 cases hns:ns with
 | nil=>
   have hz:us.toArray.size=0:=by rw [hns] at hlen;simpa using hlen
   refine wpAny_bind (wpAny_tryCatch (W.done _ _ _ (by rw [hz];exact st0) fun h2 tk k2=>?_))
   refine wpAny_bind (wpAny_rule (wpAny_pure ?_))
   have:=q td h2 tk (back h2 fun b o n1 n2 e=>k2 b o n1 e)
   rw [hns] at this
   exact this
 | cons x r=>
   have hz:0<us.toArray.size:=by rw [hns] at hlen;simp;rw [hlen];simp
   let f:Nat→Int:=fun i=>ns.getD i 0
   have P:∀ i v,us.toArray[i]? = some v→jh f i v:=fun i v e=>by
    have e':us[i]? = some v:=by simpa using e
    obtain ⟨t,ht⟩:=gz hi e'
    exact ⟨t,ht⟩
   have W':Walks prog w A.in1 s.heap.objs.size [s.heap.objs.size,l] [s.heap.objs.size] us.toArray.size (jh f) (fun i h=>h.IsListIter s.heap.objs.size l i∧h.IsList l us.toArray):=
    { sub:=W.sub,frame:=W.frame,done:=W.done,self:=W.self,item:=fun i s Q E hi st hQ=>W.item i s Q E hi st fun v h' tk hP=>hQ v h' tk (P i v hP) }
   refine wpAny_bind (wpAny_tryCatch (W'.item 0 _ _ _ hz st0 fun v h2 tk hv st2 k2=>?_))
   have nBw:h1.objs.size ∉ [s.heap.objs.size]:=fun z=>nB (by rw [List.mem_singleton.mp z];exact List.mem_cons_self)
   have hB2:=k2 _ _ nBw hB
   show wpAny _ A.in1 (updateSeq h1.objs.size (fun _=>#[v,v]) >>= fun _=>_) _ _ _
   refine wpAny_bind (wpAny_updateSeq hB2 rfl ?_)
   rw [nm]
   refine wpAny_pure ⟨plainId_quiet F.plain_max_loop _,xi W' _ h1.objs.size nB _ 0 _ v _ rfl hz (W'.frame _ _ _ st2 fun b hb o e=>(Heap.get?_update_other _ _ (fun z:h1.objs.size=b=>nB (by rw [z];exact hb))).trans e) hv (Heap.get?_update_self _ hB2 rfl) fun v' h3 tk3 hv' k3=>?_⟩
   obtain ⟨t',e'⟩:=hv'
   have lt:=oz f (us.toArray.size - 1)
   have hmem:f (argBest (eK f) (us.toArray.size - 1))=qo d ns:=by
    have hl2:argBest (eK f) (us.toArray.size - 1)<ns.length:=by simp at lt hz ⊢;omega
    refine (oX (by rw [hns];simp) ?_ fun y hy=>?_).symm
    ·show ns.getD _ 0∈ns
     rw [List.getD_eq_getElem?_getD,List.getElem?_eq_getElem hl2]
     exact List.getElem_mem _
    ·obtain ⟨i,hi',rfl⟩:=List.mem_iff_getElem.mp hy
     have:=kh f (us.toArray.size - 1) i (by simp;omega)
     have e2:f i=ns[i]:=by show ns.getD i 0=_;rw [List.getD_eq_getElem?_getD,List.getElem?_eq_getElem hi'];rfl
     rw [← e2];exact this
   have q':=q t' h3 tk3 (back h3 fun b o n1 n2 e=>k3 b o n1 n2 ((Heap.get?_update_other _ _ (Ne.symm n2)).trans (k2 b o n1 e)))
   subst e'
   rw [hmem]
   exact q'
theorem xK {p pos kp:Pos} {a b:Expr} {ta tk:TA} (hc:X.calm=true) (hg:Gl X "max") (hm:X.mg "max" = none) (ha:PA X [a] ta) (hk:PK X [⟨some "default",b,kp⟩] tk) (hs:starEach [a] X.env = [(false,eval a X.env)]:=by rfl) :
 PE X (.Call (.Name "max" p) [a] [⟨some "default",b,kp⟩] pos) (tKw (zC X.K) ta tk):=by
 intro pins s σ H Q I h
 refine wpAny_Call_Name_kw (dN I hg hm boot_max ?_)
 refine callWith_kw (thn (ha pos pins s σ H _ I h) fun us s1 q1=>?_) (by rw [hs];rfl) (by rw [hs];rfl) rfl rfl
 obtain ⟨vs,H1,I1,r1,q1⟩:=q1
 refine thn (hk pos pins s1 σ H1 _ I1 q1) fun ws s2 q2=>?_
 obtain ⟨zs,H2,I2,r2,l,ns,d,e,e',hx,q⟩:=q2
 subst e e'
 obtain ⟨u,e,ru⟩:=aQ.one r1
 obtain ⟨u2,e',ru2⟩:=aQ.one r2
 subst e e'
 cases ru
 obtain ⟨tz,e⟩:=ru2
 subst e
 obtain ⟨its,rv,p1,z1⟩:=I2.list hx
 exact xj (I2.ok.hd hc) p1.isList (mO rv) fun t h1 tk' kp=>⟨.int _,H2,I2.kept kp,⟨t,rfl⟩,q⟩
end
theorem vm {X:Cx} {pos pos':Pos} {i:Nat} {x:Str} {e:Expr} {te:TE} (hN:X.N.Nodup) (hi:X.N[i]? = some x) (hx:Loc X.env.scope x) (hs:swapsWith e (some (.Name x pos')) pos.line X.env=pure false) (hf:X.fn x=true∨X.env.scope.names.lookup x=some .local) (he:PE X e te) :
 PS X (.Assign [.Name x pos'] e pos) (nV te (aX i)):=xP hN hi hx he hs hf
end L2.Bw
namespace L2.K11
open L2.Bw
noncomputable def table:List (Str×List Str):=[("whole",["number"]),("truth",["truth"]),("given",["given"]),("name",["name"]),("fn",["name","kind","node"]),("self",["name","name","kind","kind","node"]),("call",["node","node"]),
 ("let",["name","node","node"]),("if",["node","node","node"]),("do",["sign","node","node"]),("row",["kind","nodes"]),("at",["node","node"]),("size",["node"]),("pair",["node","node"]),("one",["node"]),("two",["node"]),
 ("as",["kind","node"]),("look",["put in","put in","node"])]
noncomputable def words:List Str:=table.map (·.1)
noncomputable def cnt (ys:List Str) (z:Str):Nat:=ys.countP fun y=>decide (y=z)
noncomputable def nf (x:Str):Nat:=if x = "whole" then 1 else if x = "truth" then 1 else if x = "given" then 1 else if x = "do" then 1 else cnt ["name","fn","let","self","self"] x
noncomputable def nk (x:Str):Nat:=cnt ["fn","self","self","row","as","look","look"] x
noncomputable def np (x:Str):Nat:=if x = "if" then 3 else if x∈(["call","let","do","at","pair"]:List Str) then 2 else if x∈(["whole","truth","given","name"]:List Str) then 0 else 1
noncomputable def ixs (sort:Str) (k:Nat):List Str→List Int
 | []=>[]
 | y :: r=>if y=sort then (k:Int) :: ixs sort (k+1) r else ixs sort (k+1) r
noncomputable def rng (lo n:Nat):List Int:=(List.range' lo n).map fun (i:Nat)=>(i:Int)
noncomputable def form (x:Str):List Str:=(KTD.datumAt x table).getD []
theorem form_of:∀ x∈words,KTD.datumAt x table=some (form x)∧(form x).length≤5∧(x≠"row"→ixs "node" 2 (form x)=rng (2+nf x+nk x) (np x))∧(x≠"look"→ixs "kind" 2 (form x)=rng (2+nf x) (nk x))∧(x = "look"→ixs "kind" 2 (form x) = []):=by
 decide +kernel
end L2.K11
end
section
namespace L2.Bk
open L2.Bw PyProof.Rows.LSm
noncomputable def Kt (K:W.Frag) (a:Addr) (xs:List V):Prop:=∃ (o:Obj) (its:Array Value) (n:Nat),K.lookup a=some o∧o.cls = .type "tuple"∧o.data = .seq its n∧its.size≤sizeLine∧aQ xs its.toList
noncomputable def Tp (K:W.Frag) (H:Hp) (a:Addr) (xs:List V):Prop:=H a=some (.tup xs)∨Kt K a xs
theorem Tp.of {K:W.Frag} {H:Hp} {a:Addr} {xs:List V} (h:H a=some (.tup xs)):Tp K H a xs:=.inl h
theorem Tp.sq {K:W.Frag} {H:Hp} {a:Addr} {xs:List V} (h:Tp K H a xs):SqT K H a xs:=by
 rcases h with h | h
 ·exact SqT.of h
 ·exact .inr h
theorem Tp.mono {K:W.Frag} {H H':Hp} {a:Addr} {xs:List V} (h:Tp K H a xs) (m:Tm H H'):Tp K H' a xs:=by
 rcases h with h | h
 ·exact .inl (m _ _ h)
 ·exact .inr h
inductive Dk where
 | non
 | int (i:Int)
 | bl (b:Bool)
 | str (x:Str)
 | tup (xs:List Dk)
mutual
noncomputable def RK (K:W.Frag) (H:Hp):Dk→V→Prop
 | .non,v=>v = .non
 | .int i,v=>v = .int i
 | .bl b,v=>v = .bl b
 | .str x,v=>v = .str x
 | .tup ds,v=>∃ a vs,v = .ref a∧Tp K H a vs∧RKs K H ds vs
noncomputable def RKs (K:W.Frag) (H:Hp):List Dk→List V→Prop
 | [],vs=>vs = []
 | d :: ds,vs=>∃ v r,vs=v :: r∧RK K H d v∧RKs K H ds r
end
mutual
noncomputable def Dk.dq:Dk→Nat
 | .tup ds=>1+dqs ds
 | .non=>0
 | .int _=>0
 | .bl _=>0
 | .str _=>0
noncomputable def dqs:List Dk→Nat
 | []=>0
 | d :: ds=>max d.dq (dqs ds)
end
theorem iq (ds:List Dk):(Dk.tup ds).dq=1+dqs ds:=by rw [Dk.dq]
theorem re:Dk.non.dq=0:=by rw [Dk.dq]
theorem kl (x:Str):(Dk.str x).dq=0:=by rw [Dk.dq]
theorem mK (x:Int):(Dk.int x).dq=0:=by rw [Dk.dq]
theorem v9 (x:Bool):(Dk.bl x).dq=0:=by rw [Dk.dq]
theorem ux:dqs []=0:=by rw [dqs]
theorem ir (d:Dk) (ds:List Dk):dqs (d :: ds)=max d.dq (dqs ds):=by rw [dqs]
theorem RK.n {K:W.Frag} {H:Hp}:RK K H .non .non:=by rw [RK]
theorem RK.s {K:W.Frag} {H:Hp} (x:Str):RK K H (.str x) (.str x):=by rw [RK]
theorem RK.i {K:W.Frag} {H:Hp} (x:Int):RK K H (.int x) (.int x):=by rw [RK]
theorem RK.b {K:W.Frag} {H:Hp} (x:Bool):RK K H (.bl x) (.bl x):=by rw [RK]
theorem RKs.nil {K:W.Frag} {H:Hp}:RKs K H [] []:=rfl
theorem RKs.cons {K:W.Frag} {H:Hp} {d:Dk} {ds:List Dk} {v:V} {vs:List V} (h:RK K H d v) (t:RKs K H ds vs):RKs K H (d :: ds) (v :: vs):=⟨v,vs,rfl,h,t⟩
theorem RK.tup {K:W.Frag} {H:Hp} {a:Addr} {ds:List Dk} {vs:List V} (h:Tp K H a vs) (t:RKs K H ds vs):RK K H (.tup ds) (.ref a):=⟨a,vs,rfl,h,t⟩
theorem RKs.length {K:W.Frag} {H:Hp}:∀ {ds:List Dk} {vs:List V},RKs K H ds vs→ds.length=vs.length
 | [],vs,h=>by cases (show vs = [] from h);rfl
 | d :: ds,vs,⟨v,r,e,_,t⟩=>by subst e;simp [RKs.length t]
theorem RKs.get {K:W.Frag} {H:Hp}:∀ {ds:List Dk} {vs:List V} {i:Nat} {d:Dk},RKs K H ds vs→ds[i]? = some d→∃ v,vs[i]? = some v∧RK K H d v
 | [],_,_,_,_,e=>by simp at e
 | d :: ds,vs,0,d',⟨v,r,e,h,_⟩,e'=>by subst e;simp at e';subst e';exact ⟨v,rfl,h⟩
 | d :: ds,vs,i+1,d',⟨v,r,e,_,t⟩,e'=>by
   subst e
   obtain ⟨u,h1,h2⟩:=RKs.get (i:=i) t (by simpa using e')
   exact ⟨u,by simpa using h1,h2⟩
theorem RKs.getV {K:W.Frag} {H:Hp}:∀ {ds:List Dk} {vs:List V} {i:Nat} {v:V},RKs K H ds vs→vs[i]? = some v→∃ d,ds[i]? = some d∧RK K H d v:=fun {ds vs i v} h e=>by
 have hl:=h.length
 have hi:i<ds.length:=by rw [hl];exact (List.getElem?_eq_some_iff.mp e).1
 obtain ⟨u,h1,h2⟩:=h.get (List.getElem?_eq_getElem hi)
 rw [e] at h1;cases h1
 exact ⟨_,List.getElem?_eq_getElem hi,h2⟩
theorem RKs.append {K:W.Frag} {H:Hp}:∀ {ds es:List Dk} {vs us:List V},RKs K H ds vs→RKs K H es us→RKs K H (ds ++ es) (vs ++ us)
 | [],_,vs,_,h,t=>by cases (show vs = [] from h);exact t
 | d :: ds,es,vs,us,⟨v,r,e,h,t'⟩,t=>by subst e;exact .cons h (RKs.append t' t)
theorem RKs.split {K:W.Frag} {H:Hp}:∀ {ds es:List Dk} {vs:List V},RKs K H (ds ++ es) vs→∃ us ws,vs=us ++ ws∧RKs K H ds us∧RKs K H es ws
 | [],_,vs,h=>⟨[],vs,rfl,rfl,h⟩
 | d :: ds,es,vs,⟨v,r,e,h,t⟩=>by
   subst e
   obtain ⟨us,ws,e,h1,h2⟩:=RKs.split t
   subst e
   exact ⟨v :: us,ws,rfl,.cons h h1,h2⟩
mutual
theorem RK.mono {K:W.Frag} {H H':Hp} (m:Tm H H'):∀ {d:Dk} {v:V},RK K H d v→RK K H' d v
 | .non,_,h=>h
 | .int _,_,h=>h
 | .bl _,_,h=>h
 | .str _,_,h=>h
 | .tup _,_,⟨a,vs,e,h,t⟩=>⟨a,vs,e,h.mono m,RKs.mono m t⟩
theorem RKs.mono {K:W.Frag} {H H':Hp} (m:Tm H H'):∀ {ds:List Dk} {vs:List V},RKs K H ds vs→RKs K H' ds vs
 | [],_,h=>h
 | _ :: _,_,⟨v,r,e,h,t⟩=>⟨v,r,e,RK.mono m h,RKs.mono m t⟩
end
theorem cH {d:Dk}:∀ {ds:List Dk},d∈ds→d.dq≤dqs ds
 | e :: ds,h=>by
   rcases List.mem_cons.mp h with rfl | h
   ·exact Nat.le_max_left _ _
   ·exact Nat.le_trans (cH h) (Nat.le_max_right _ _)
theorem mL {n:Nat}:∀ {ds:List Dk},(∀ d∈ds,d.dq≤n)→dqs ds≤n
 | [],_=>Nat.zero_le _
 | e :: ds,h=>Nat.max_le.mpr ⟨h e List.mem_cons_self,mL fun d hd=>h d (List.mem_cons_of_mem _ hd)⟩
theorem _root_.L2.Room.u1 {k:Nat} {A:Around} (r:Room k A):A.units+1<cLine:=by have:=r.un;omega
section
variable {X:Cx}
noncomputable def IsJ (K:W.Frag) (H:Hp) (x:V) (n:String) (b:Bool):Prop:=IsI K H x n b∨∃ a xs,x = .ref a∧Kt K a xs∧W.kitOne K (.type "tuple") (.type n)=some b
theorem cO:dU X (.builtin "isinstance") (fun xs H Q=>∃ x n b,xs = [x,.ty n]∧IsJ X.K H x n b∧Q (.bl b) H):=by
 intro pins s σ H xs us Q I r h
 obtain ⟨x,n,b,e,ty,q⟩:=h
 rcases ty with ty | ⟨a,ys,e',⟨o,its,m,hk,hc,hd,hz,rv⟩,k⟩
 ·exact qR pins s σ H xs us Q I r ⟨x,n,b,e,ty,q⟩
 ·subst e e'
  obtain ⟨u,w,e,ru,rw'⟩:=aQ.two r
  subst e
  cases rw'
  cases (show u=Value.ref a from ru)
  exact W.kia_one W.kitx_tuple I.kIn ⟨o,I.kIn a o hk,hc⟩ k (fun z=>nomatch z) fun tk=>⟨.bl b,H,I.tok tk,rfl,q⟩
theorem wB {s:Shared} {pins:List (Addr×Obj)} {σ:St} {H:Hp} (I:Inv X pins σ H s):∀ (n:Nat) {A:Around} {d:Dk} {x y:V} {u v:Value},d.dq≤n→RK X.K H d x→RK X.K H d y→aU x u→aU y v→A.units+n<cLine→SeqAt.EqAt A s u v true:=by
 intro n
 induction n with
 | zero=>
   intro A d x y u v hn hx hy ru rv hu
   cases d with
   | non=>cases (show x = .non from hx);cases (show y = .non from hy);have k:=cD (A:=A) (s:=s) ru rv rfl rfl;simpa [eqV] using k
   | int i=>cases (show x = .int i from hx);cases (show y = .int i from hy);have k:=cD (A:=A) (s:=s) ru rv rfl rfl;simpa [eqV] using k
   | bl b=>cases (show x = .bl b from hx);cases (show y = .bl b from hy);have k:=cD (A:=A) (s:=s) ru rv rfl rfl;simpa [eqV] using k
   | str z=>cases (show x = .str z from hx);cases (show y = .str z from hy);have k:=cD (A:=A) (s:=s) ru rv rfl rfl;simpa [eqV] using k
   | tup ds=>have k:1+dqs ds≤0:=hn;omega
 | succ n ih=>
   intro A d x y u v hn hx hy ru rv hu
   cases d with
   | non=>cases (show x = .non from hx);cases (show y = .non from hy);have k:=cD (A:=A) (s:=s) ru rv rfl rfl;simpa [eqV] using k
   | int i=>cases (show x = .int i from hx);cases (show y = .int i from hy);have k:=cD (A:=A) (s:=s) ru rv rfl rfl;simpa [eqV] using k
   | bl b=>cases (show x = .bl b from hx);cases (show y = .bl b from hy);have k:=cD (A:=A) (s:=s) ru rv rfl rfl;simpa [eqV] using k
   | str z=>cases (show x = .str z from hx);cases (show y = .str z from hy);have k:=cD (A:=A) (s:=s) ru rv rfl rfl;simpa [eqV] using k
   | tup ds=>
     have hn':1+dqs ds≤n+1:=hn
     obtain ⟨a,vs,e,ha,ta⟩:=hx
     obtain ⟨b,ws,e',hb,tb⟩:=hy
     subst e e'
     cases ru;cases rv
     by_cases hab:a=b
     ·subst hab;exact SeqAt.EqAt.same _
     ·obtain ⟨i1,r1,p1,z1⟩:=I.tuple ha.sq
      obtain ⟨i2,r2,p2,z2⟩:=I.tuple hb.sq
      have l1:=r1.length
      have l2:=r2.length
      have l3:=ta.length
      have l4:=tb.length
      have key:=SeqAt.RcAt.tuples (A:=A) (s:=s) (e:=fun _=>true) p1 p2 (by omega) fun j h1 h2=>by
       have hjd:j<ds.length:=by simp at h1;omega
       obtain ⟨x1,e1,q1⟩:=ta.get (List.getElem?_eq_getElem hjd)
       obtain ⟨y1,e2,q2⟩:=tb.get (List.getElem?_eq_getElem hjd)
       obtain ⟨u1,f1,w1⟩:=r1.get e1
       obtain ⟨v1,f2,w2⟩:=r2.get e2
       have g1:i1.toArray[j]=u1:=by
        have h1':j<i1.length:=by simpa using h1
        rw [List.getElem?_eq_getElem h1'] at f1
        simpa using f1
       have g2:i2.toArray[j]=v1:=by
        have h2':j<i2.length:=by simpa using h2
        rw [List.getElem?_eq_getElem h2'] at f2
        simpa using f2
       rw [g1,g2]
       have k:=cH (List.getElem_mem hjd)
       exact ih (A:=A.in1) (by omega) q1 q2 w1 w2 (by show A.units+1+n<cLine;omega)
      have val:((List.range (min i1.toArray.size i2.toArray.size)).all (fun _=>true) && i1.toArray.size == i2.toArray.size)=true:=by
       simp;omega
      rw [val] at key
      exact SeqAt.EqAt.of_refs hab key
inductive EqK (K:W.Frag) (H:Hp):V→V→Bool→Prop where
 | lists {a c:Addr} {vs ws:List V} {ds:List Dk} (ha:SqL K H a vs) (hc:SqL K H c ws) (ta:RKs K H ds vs) (tc:RKs K H ds ws) (hd:dqs ds≤60):EqK K H (.ref a) (.ref c) true
 | lens {a c:Addr} {vs ws:List V} (ha:SqL K H a vs) (hc:SqL K H c ws) (hl:vs.length≠ws.length):EqK K H (.ref a) (.ref c) false
 | data {x y:V} {ds:List Dk} (hx:RK K H (.tup ds) x) (hy:RK K H (.tup ds) y) (hd:dqs ds≤60):EqK K H x y true
 | heads {a c:Addr} {h z:Str} {r:List V} (ha:SqT K H a (.str h :: r)) (hc:SqT K H c [.str z]):EqK K H (.ref a) (.ref c) (decide (h=z) && r.isEmpty)
theorem cP {vs:List V} {us:List Value} {j:Nat} {x:V} (r:aQ vs us) (hx:vs[j]? = some x) (h:j<us.toArray.size):aU x us.toArray[j]:=by
 obtain ⟨u,f,w⟩:=r.get hx
 have h':j<us.length:=by simpa using h
 rw [List.getElem?_eq_getElem h'] at f
 cases f
 simpa using w
theorem rC {k:Nat} (hr:Room k X.A) {s:Shared} {pins:List (Addr×Obj)} {σ:St} {H:Hp} (I:Inv X pins σ H s) {x y:V} {u v:Value} {b:Bool} (h:EqK X.K H x y b) (rx:aU x u) (ry:aU y v):SeqAt.RcAt X.A s u v b∧SeqAt.RcNeAt X.A s u v (!b):=by
 have hu:=hr.units
 cases h with
 | @lists a c vs ws ds ha hc ta tc hd=>
   cases rx;cases ry
   obtain ⟨i1,r1,p1,z1⟩:=I.list ha
   obtain ⟨i2,r2,p2,z2⟩:=I.list hc
   have l1:=r1.length
   have l2:=r2.length
   have l3:=ta.length
   have l4:=tc.length
   have it:∀ j (h1:j<i1.toArray.size) (h2:j<i2.toArray.size),SeqAt.EqAt X.A.in1 s i1.toArray[j] i2.toArray[j] ((fun _=>true) j):=fun j h1 h2=>by
    have hjd:j<ds.length:=by simp at h1;omega
    obtain ⟨x1,e1,q1⟩:=ta.get (List.getElem?_eq_getElem hjd)
    obtain ⟨y1,e2,q2⟩:=tc.get (List.getElem?_eq_getElem hjd)
    have k:=cH (List.getElem_mem hjd)
    exact wB I 60 (A:=X.A.in1) (by omega) q1 q2 (cP r1 e1 h1) (cP r2 e2 h2) (by show X.A.units+1+60<cLine;omega)
   have e:(List.range i1.toArray.size).all (fun _=>true)=true:=by simp
   have k1:=SeqAt.RcAt.lists (A:=X.A) (s:=s) p1.isList p2.isList (by simp;omega) (by omega) it
   have k2:=SeqAt.RcNeAt.lists (A:=X.A) (s:=s) p1.isList p2.isList (by simp;omega) (by omega) it
   rw [e] at k1 k2
   exact ⟨k1,k2⟩
 | @lens a c vs ws ha hc hl=>
   cases rx;cases ry
   obtain ⟨i1,r1,p1,z1⟩:=I.list ha
   obtain ⟨i2,r2,p2,z2⟩:=I.list hc
   have l1:=r1.length
   have l2:=r2.length
   exact ⟨SeqAt.RcAt.lists_lengths p1.isList p2.isList (by simp;omega) (by omega),SeqAt.RcNeAt.lists_lengths p1.isList p2.isList (by simp;omega) (by omega)⟩
 | @data x y ds hx hy hd=>
   obtain ⟨a,vs,e1,ha,ta⟩:=(show ∃ a vs,x = .ref a∧Tp X.K H a vs∧RKs X.K H ds vs by rw [RK] at hx;exact hx)
   obtain ⟨c,ws,e2,hc,tc⟩:=(show ∃ a vs,y = .ref a∧Tp X.K H a vs∧RKs X.K H ds vs by rw [RK] at hy;exact hy)
   subst e1 e2
   cases rx;cases ry
   obtain ⟨i1,r1,p1,z1⟩:=I.tuple ha.sq
   obtain ⟨i2,r2,p2,z2⟩:=I.tuple hc.sq
   have l1:=r1.length
   have l2:=r2.length
   have l3:=ta.length
   have l4:=tc.length
   have it:∀ j (h1:j<i1.toArray.size) (h2:j<i2.toArray.size),SeqAt.EqAt X.A.in1 s i1.toArray[j] i2.toArray[j] ((fun _=>true) j):=fun j h1 h2=>by
    have hjd:j<ds.length:=by simp at h1;omega
    obtain ⟨x1,e1,q1⟩:=ta.get (List.getElem?_eq_getElem hjd)
    obtain ⟨y1,e2,q2⟩:=tc.get (List.getElem?_eq_getElem hjd)
    have k:=cH (List.getElem_mem hjd)
    exact wB I 60 (A:=X.A.in1) (by omega) q1 q2 (cP r1 e1 h1) (cP r2 e2 h2) (by show X.A.units+1+60<cLine;omega)
   have e:((List.range (min i1.toArray.size i2.toArray.size)).all (fun _=>true) && i1.toArray.size == i2.toArray.size)=true:=by
    simp;omega
   have k1:=SeqAt.RcAt.tuples (A:=X.A) (s:=s) p1 p2 (by omega) it
   have k2:=SeqAt.RcNeAt.tuples (A:=X.A) (s:=s) p1 p2 (by omega) it
   rw [e] at k1 k2
   exact ⟨k1,k2⟩
 | @heads a c h z r ha hc=>
   cases rx;cases ry
   obtain ⟨i1,r1,p1,z1⟩:=I.tuple ha
   obtain ⟨i2,r2,p2,z2⟩:=I.tuple hc
   have l1:=r1.length
   have l2:=r2.length
   have it:∀ j (h1:j<i1.toArray.size) (h2:j<i2.toArray.size),SeqAt.EqAt X.A.in1 s i1.toArray[j] i2.toArray[j] ((fun _=>decide (h=z)) j):=fun j h1 h2=>by
    have hj:j=0:=by simp at h2 l2;omega
    subst hj
    have k:=cD (A:=X.A.in1) (s:=s) (cP r1 (x:=.str h) rfl h1) (cP r2 (x:=.str z) rfl h2) rfl rfl
    have e:eqV (.str h) (.str z)=decide (h=z):=by show (h == z)=_;by_cases q:h=z <;> simp [q]
    rw [e] at k
    exact k
   have e:((List.range (min i1.toArray.size i2.toArray.size)).all (fun _=>decide (h=z)) && i1.toArray.size == i2.toArray.size)=(decide (h=z) && r.isEmpty):=by
    have m:min i1.toArray.size i2.toArray.size=1:=by simp at l1 l2 ⊢;omega
    rw [m]
    simp at l1 l2
    cases r with
    | nil=>simp at l1;simp [← l1,← l2]
    | cons q r=>simp at l1;simp [← l1,← l2]
   have k1:=SeqAt.RcAt.tuples (A:=X.A) (s:=s) p1 p2 (by omega) it
   have k2:=SeqAt.RcNeAt.tuples (A:=X.A) (s:=s) p1 p2 (by omega) it
   rw [e] at k1 k2
   exact ⟨k1,k2⟩
noncomputable def xS (K:W.Frag):R2:=fun x y H Q=>(vA x y=true∧Q (.bl (decide (x=y))) H)∨∃ b,EqK K H x y b∧Q (.bl b) H
noncomputable def zD (K:W.Frag):R2:=fun x y H Q=>(vA x y=true∧Q (.bl (!decide (x=y))) H)∨∃ b,EqK K H x y b∧Q (.bl (!b)) H
theorem xA {k:Nat} (hr:Room k X.A):OpR X (compareOp .Eq) (xS X.K):=by
 intro pins s σ H x y v u Q I rx ry h
 rcases h with h | ⟨b,h,q⟩
 ·exact zt pins s σ H x y v u Q I rx ry h
 ·exact (rC hr I h rx ry).1 _ _ _ _ ⟨.bl b,H,I,rfl,q⟩
theorem xD {k:Nat} (hr:Room k X.A):OpR X (compareOp .NotEq) (zD X.K):=by
 intro pins s σ H x y v u Q I rx ry h
 rcases h with h | ⟨b,h,q⟩
 ·exact zv pins s σ H x y v u Q I rx ry h
 ·exact (rC hr I h rx ry).2 _ _ _ _ ⟨.bl (!b),H,I,rfl,q⟩
theorem Ar {K:W.Frag} {x y:V} {b:Bool} {H:Hp} {Q:VK} (h:EqK K H x y b) (q:Q (.bl b) H):xS K x y H Q:=.inr ⟨b,h,q⟩
end
end L2.Bk
end
section
namespace HT
section
variable {prog:Program} {w:World} {A:Around} {E:Value→Shared→Prop} {s:Shared}
theorem getItem_tuple_all {t sl:Addr} {items:Array Value} {vl vu:Value} {lo hi:Option Int} {Q:Value→Shared→Prop} (ht:IsTup s.heap t items) (hs:s.heap.IsSliceOf sl vl vu .none) (pl:IsPart vl lo) (pu:IsPart vu hi)
 (hw:sIx items.size 0 lo=0∧sIx items.size items.size hi=items.size) (h:Q (.ref t) s):wpAny (model prog w) A (getItem (.ref t) (.ref sl)) Q E s:=by
 obtain ⟨os,hos,hcs,hds⟩:=id hs
 have hTs:s.TypeIs (.ref sl) "slice":=⟨os,hos,hcs⟩
 unfold getItem
 try with_reducible refine wpAny_holding ?_
 first | refine wpAny_bind (wpAny_pure ?_) | skip
 refine wpAny_bind (wpAny_sequenceKey ht.typeIs (by decide) ?_)
 refine wpAny_bind (wpAny_callSpecial?_slot (name:=Str.ofString "__getitem__") ht.typeIs PyProof.Rows.slot_tuple_getitem
  (wpAny_call_entry PyProof.Rows.slot_tuple_getitem ht.typeIs entry_tuple_getitem ?_ (args_tuple_getitem _ _)))
 show wpAny _ _ (Builtin.Tuple.tupleItemsOf (.ref t) >>= _) _ _ s
 refine wpAny_bind (tupleItemsOf_ ht ?_)
 refine wpAny_bind (wpAny_typeOf hTs ?_)
 rw [if_pos (by decide)]
 refine wpAny_bind (dI hs pl pu ?_)
 have hyes:(((sIx items.size 0 lo:Nat):Int) == 0 && (1:Int) == 1 && (sIx items.size items.size hi - sIx items.size 0 lo) == items.size)=true:=by
  rw [hw.1,hw.2]
  simp
 show wpAny _ _ (if (((sIx items.size 0 lo:Nat):Int) == 0 && (1:Int) == 1 && (sIx items.size items.size hi - sIx items.size 0 lo) == items.size)=true then _ else _) _ _ s
 rw [if_pos hyes]
 show wpAny _ _ (Builtin.Tuple.tupleIsExact (.ref t) >>= _) _ _ s
 refine wpAny_bind ?_
 unfold Builtin.Tuple.tupleIsExact
 refine wpAny_bind (wpAny_typeOf ht.typeIs (wpAny_pure ?_))
 rw [if_pos (by decide)]
 refine wpAny_bind (wpAny_rule ?_)
 first
  | exact wpAny_pure ⟨_,rfl,wpAny_pure h⟩
  | exact wpAny_bind (wpAny_pure (wpAny_pure ⟨_,rfl,wpAny_pure h⟩))
  | exact wpAny_bind (wpAny_bind (wpAny_pure (wpAny_pure ⟨_,rfl,wpAny_pure h⟩)))
end
end HT
namespace L2.Bk
open L2.Bw
section
variable {X:Cx}
def zI (K:W.Frag):V→Option Int→Option Int→Hp→VK→Prop:=fun x lo hi H Q=>∃ a xs,x = .ref a∧SqT K H a xs∧(HT.sIx xs.length 0 lo=0∧HT.sIx xs.length xs.length hi=xs.length)∧Q (.ref a) H
theorem vE:SlR X (zI X.K):=by
 intro pins s σ H x v vl vu lo hi sl Q I rx hs pl pu h
 obtain ⟨a,xs,e,hx,hw,q⟩:=h
 subst e
 cases rx
 obtain ⟨its,r,ht,hz⟩:=I.tuple hx
 have hlen:its.toArray.size=xs.length:=by rw [List.size_toArray];exact r.length.symm
 refine ⟨"tuple",_,PyProof.Rows.slot_tuple_getitem.lookup,ht.typeIs,?_⟩
 exact HT.getItem_tuple_all ht hs pl pu (by rw [hlen];exact hw) ⟨.ref a,H,I,rfl,q⟩
def xU (K:W.Frag):V→Option Int→Option Int→Hp→VK→Prop:=fun x lo hi H Q=>zG K x lo hi H Q∨zH K x lo hi H Q∨zI K x lo hi H Q
theorem x8:SlR X (xU X.K):=vC.or (x9.or vE)
theorem vD {K:W.Frag} {H:Hp} {a:Addr} {h:V} {r:List V} {Q:VK} (ha:SqT K H a (h :: r)) (q:∀ p,H p=none→Q (.ref p) (upd H p (.tup r))):xU K (.ref a) (some 1) none H Q:=by
 refine .inr (.inl ⟨a,_,rfl,ha,?_,fun p hp=>?_⟩)
 ·intro z
  have e:HT.sIx (h :: r).length 0 (some 1)=1:=by
   show _=_
   simp [HT.sIx]
  omega
 ·have k:=q p hp
  have e:im (h :: r) (some 1) none=r:=by
   unfold im
   have e:HT.sIx (h :: r).length 0 (some 1)=1:=by simp [HT.sIx]
   have e2:HT.sIx (h :: r).length (h :: r).length none=(h :: r).length:=by simp [HT.sIx]
   rw [e,e2]
   simp
  rw [e]
  exact k
end
end L2.Bk
end
section
namespace L2.Bw
def Nx (n:Nat) (Pv:Nat→St→Hp→Prop) (i:Nat) (σ:St) (H:Hp):Prop:=∃ m',m'<n - i∧(m'=n - (i+1)∧i+1≤n∧Pv (i+1) σ H)
theorem nx {n i:Nat} {Pv:Nat→St→Hp→Prop} {σ:St} {H:Hp} (h:i<n) (p:Pv (i+1) σ H):Nx n Pv i σ H:=⟨n - (i+1),by omega,rfl,by omega,p⟩
theorem md {J:It} {g:TG} {tt:TT} {te:TE} {D:Addr} {Qe:Hp→Prop} {σ:St} {H:Hp} {n:Nat} (Pv:Nat→St→Hp→Prop) (h0:Pv 0 σ H) (hgo:∀ i σ H,i<n→Pv i σ H→J.go i H) (hstop:∀ σ H,Pv n σ H→J.stop n H)
 (hs:∀ i σ H,i<n→Pv i σ H→∀ x H',J.yld i H x H'→g x σ H' fun σ2 H2=>tt σ2 H2 fun b H3=>if b=true then te σ2 H3 fun y H4=>∃ ys,H4 D=some (.lst ys)∧ys.length<sizeLine∧Nx n Pv i σ2 (upd H4 D (.lst (ys ++ [y]))) else Nx n Pv i σ2 H3)
 (hd:∀ σ H,Pv n σ H→Qe H):∃ W,(∃ m,W 0 m σ H)∧lB J g tt te D W Qe:=by
 refine ⟨fun i m σ H=>m=n - i∧i≤n∧Pv i σ H,⟨n,by simp,Nat.zero_le _,h0⟩,?_⟩
 rintro i m σ H ⟨rfl,hi,p⟩
 by_cases hlt:i<n
 ·exact .inr ⟨hgo i σ H hlt p,fun x H' y=>hs i σ H hlt p x H' y⟩
 ·have e:i=n:=by omega
  subst e
  exact .inl ⟨hstop σ H p,hd σ H p⟩
theorem d7 {J:It} {g:TG} {te:TE} {D:Addr} {Qe:Hp→Prop} {σ:St} {H:Hp} {n:Nat} (Pv:Nat→St→Hp→Prop) (h0:Pv 0 σ H) (hgo:∀ i σ H,i<n→Pv i σ H→J.go i H) (hstop:∀ σ H,Pv n σ H→J.stop n H)
 (hs:∀ i σ H,i<n→Pv i σ H→∀ x H',J.yld i H x H'→g x σ H' fun σ2 H2=>te σ2 H2 fun y H4=>∃ ys,H4 D=some (.lst ys)∧ys.length<sizeLine∧Nx n Pv i σ2 (upd H4 D (.lst (ys ++ [y]))))
 (hd:∀ σ H,Pv n σ H→Qe H):∃ W,(∃ m,W 0 m σ H)∧lB J g yu te D W Qe:=by
 refine md Pv h0 hgo hstop (fun i σ H hi p x H' y=>?_) hd
 exact cast (congrArg (g x σ H') (funext fun a=>funext fun b=>by unfold yu;exact (if_pos rfl).symm)) (hs i σ H hi p x H' y)
theorem rS (x:Str) (ss:List Str):inV (.str x) (ss.map V.str)=decide (x∈ss):=by
 unfold inV
 induction ss with
 | nil=>rfl
 | cons y r ih=>
   rw [List.map_cons,List.any_cons,ih]
   have e:eqV (.str y) (.str x)=decide (x=y):=by
    show (y == x)=_
    by_cases q:x=y
    ·subst q;simp
    ·have q':¬ y=x:=fun z=>q z.symm
     simp [q,q']
   rw [e]
   by_cases q:x=y <;> simp [q]
end L2.Bw
namespace L2.Bk
open L2.Bw
theorem pF {n:Nat} (h:n≤1000):n≤sizeLine:=Nat.le_of_lt (fX h)
theorem bA {n:Nat} (h:n≤1000000):n<sizeLine:=Nat.lt_of_le_of_lt h (by decide)
theorem ib {α:Type} {xs:List α} {i:Int} (h0:0≤i) (h1:i<(xs.length:Int)):∃ c,atI xs i=some c∧c∈xs:=by
 have hk:i.toNat<xs.length:=by omega
 have z:atI xs ((i.toNat:Nat):Int)=some xs[i.toNat]:=aH (List.getElem?_eq_getElem hk)
 rw [show ((i.toNat:Nat):Int)=i by omega] at z
 exact ⟨_,z,List.getElem_mem hk⟩
theorem b9 {ss:List Str} {i:Int} (h0:0≤i) (h1:i<(ss.length:Int)):∃ c,atI (ss.map V.str) i=some (.str c)∧c∈ss:=by
 obtain ⟨c,e,hc⟩:=ib (xs:=ss.map V.str) h0 (by rw [List.length_map];exact h1)
 obtain ⟨y,hy,rfl⟩:=List.mem_map.mp hc
 exact ⟨y,e,hy⟩
theorem ba {x y:Str}:decide (V.str x=V.str y)=decide (x=y):=by
 by_cases h:x=y
 ·subst h;simp
 ·have:¬ V.str x=V.str y:=fun q=>h (by cases q;rfl)
  simp [h,this]
theorem cu {α:Type} {ps:List α} {i:Nat} (h:i<ps.length):ps.take (i+1)=ps.take i ++ [ps[i]]:=by
 rw [List.take_add_one,List.getElem?_eq_getElem h];rfl
theorem eP {J:It} {g:TG} {tb:TS} {D:fJ} {σ:St} {H:Hp} {n:Nat} (Pv:Nat→St→Hp→Prop) (h0:Pv 0 σ H) (hgo:∀ i σ H,i<n→Pv i σ H→J.go i H) (hstop:∀ σ H,Pv n σ H→J.stop n H)
 (hs:∀ i σ H,i<n→Pv i σ H→∀ x H',J.yld i H x H'→g x σ H' fun σ2 H2=>tb { D with nx:=Pv (i+1),ct:=Pv (i+1),bk:=D.nx } σ2 H2) (hd:∀ σ H,Pv n σ H→D.nx σ H) :
 ∃ W:Nat→Nat→St→Hp→Prop,(∃ m,W 0 m σ H)∧∀ i m σ H,W i m σ H →
   (J.stop i H∧D.nx σ H)∨(J.go i H∧∃ N:St→Hp→Prop,(∀ σ' H',N σ' H'→∃ m',m'<m∧W (i+1) m' σ' H')∧∀ x H',J.yld i H x H'→g x σ H' fun σ2 H2=>tb { D with nx:=N,ct:=N,bk:=D.nx } σ2 H2):=by
 refine ⟨fun i m σ H=>m=n - i∧i≤n∧Pv i σ H,⟨n,by simp,Nat.zero_le _,h0⟩,?_⟩
 rintro i m σ H ⟨rfl,hi,p⟩
 by_cases hlt:i<n
 ·exact .inr ⟨hgo i σ H hlt p,Pv (i+1),fun σ' H' p'=>⟨n - (i+1),by omega,rfl,hlt,p'⟩,fun x H' y=>hs i σ H hlt p x H' y⟩
 ·have e:i=n:=by omega
  subst e
  exact .inl ⟨hstop σ H p,hd σ H p⟩
theorem kC {n j:Nat} (h:j<n):ixN n (j:Int)=some j:=by
 unfold ixN
 rw [if_pos (by omega),if_pos (by omega)]
 simp
abbrev Old (H H':Hp):Prop:=∀ b o,H b=some o→H' b=some o
theorem Old.gr {H H':Hp} (h:Old H H'):Gr M0 H H':=fun b o e _=>h b o e
theorem Old.tm {H H':Hp} (h:Old H H'):Tm H H':=fun a xs e=>h a _ e
theorem Old.refl (H:Hp):Old H H:=fun _ _ h=>h
theorem Old.free {H H':Hp} (o:Old H H') {a:Addr} (h:H' a=none):H a=none:=by
 cases q:H a with
 | none=>rfl
 | some x=>rw [o a x q] at h;cases h
theorem Old.trans {H H1 H2:Hp} (a:Old H H1) (b:Old H1 H2):Old H H2:=fun c o h=>b c o (a c o h)
theorem Old.new {H:Hp} {p:Addr} {o:HO} (h:H p=none):Old H (upd H p o):=fun b u e=>by rw [aj (al e h)];exact e
theorem RK.get {K:W.Frag} {H:Hp} {ds:List Dk} {v:V} (h:RK K H (.tup ds) v):∃ a vs,v = .ref a∧Tp K H a vs∧RKs K H ds vs:=by rw [RK] at h;exact h
theorem RK.str {K:W.Frag} {H:Hp} {x:Str} {v:V} (h:RK K H (.str x) v):v = .str x:=by rw [RK] at h;exact h
theorem RK.kind {K:W.Frag} {H:Hp} {x:Str} {ds:List Dk} {v:V} (h:RK K H (.tup (.str x :: ds)) v):∃ a vs,v = .ref a∧Tp K H a (.str x :: vs)∧RKs K H ds vs:=by
 obtain ⟨a,us,rfl,ha,u,r,rfl,hu,hr⟩:=RK.get h
 cases RK.str hu
 exact ⟨a,r,rfl,ha,hr⟩
theorem qS {K:W.Frag} {H:Hp} {a b:Addr} {xs ys:List V} {ds es:List Dk} {Q:VK} (ha:Tp K H a xs) (hb:Tp K H b ys) (ra:RKs K H ds xs) (rb:RKs K H es ys) (ne:xs≠[]) (hz:xs.length+ys.length≤1000)
 (q:∀ (c:Addr) (H':Hp),Old H H'→RK K H' (.tup (ds ++ es)) (.ref c)→Q (.ref c) H'):px K (.ref a) (.ref b) H Q:=by
 refine ⟨a,b,xs,ys,rfl,rfl,ha.sq,hb.sq,ne,pF hz,fun e=>?_,fun e p hp=>?_⟩
 ·subst e
  cases (show es = [] from List.length_eq_zero_iff.mp rb.length)
  exact q a H (Old.refl _) (by rw [List.append_nil];exact RK.tup ha ra)
 ·have g:Old H (upd H p (.tup (xs ++ ys))):=Old.new hp
  exact q p _ g (RK.tup (.of ad) ((ra.append rb).mono g.tm))
theorem bM {X:Cx} {x:Str} {a:Addr} {pos:Pos} (hg:Gl X x) (hm:X.mg x=some (.ref a)) (hd:(x == ("__debug__":Str))=false:=by decide):PE X (.Name x pos) (tC (.ref a)):=fq hg hm (show aU (.ref a) (.ref a) from rfl) hd
inductive Kn where
 | mk (h:Str) (ks:List Kn)
mutual
def Kn.d:Kn→Dk
 | .mk h ks=>.tup (.str h :: Kn.ds ks)
def Kn.ds:List Kn→List Dk
 | []=>[]
 | t :: r=>t.d :: Kn.ds r
end
mutual
def Kn.dep:Kn→Nat
 | .mk _ ks=>1+Kn.deps ks
def Kn.deps:List Kn→Nat
 | []=>0
 | t :: r=>max t.dep (Kn.deps r)
end
mutual
def Kn.ok:Kn→Prop
 | .mk _ ks=>ks.length≤2∧Kn.oks ks
def Kn.oks:List Kn→Prop
 | []=>True
 | t :: r=>t.ok∧Kn.oks r
end
theorem aZ:∀ (ks:List Kn),(Kn.ds ks).length=ks.length
 | []=>rfl
 | _ :: r=>by show (Kn.ds r).length+1=r.length+1;rw [aZ r]
theorem de:∀ {ks:List Kn} {i:Nat} (h:i<ks.length),(Kn.ds ks)[i]? = some ks[i].d
 | _ :: _,0,_=>rfl
 | _ :: r,i+1,h=>by
   show (Kn.ds r)[i]? = _
   exact de (ks:=r) (by simpa using h)
theorem jt:∀ (ks ls:List Kn),Kn.ds (ks ++ ls)=Kn.ds ks ++ Kn.ds ls
 | [],_=>rfl
 | t :: r,ls=>by show t.d :: Kn.ds (r ++ ls)=t.d :: (Kn.ds r ++ Kn.ds ls);rw [jt r ls]
theorem gR:∀ {ks:List Kn} {i:Nat} (h:i<ks.length),Kn.oks ks→ks[i].ok
 | _ :: _,0,_,q=>q.1
 | _ :: r,i+1,h,q=>gR (ks:=r) (by simpa using h) q.2
theorem dB:∀ {ks:List Kn} {i:Nat} (h:i<ks.length),ks[i].dep≤Kn.deps ks
 | _ :: _,0,_=>Nat.le_max_left _ _
 | _ :: r,i+1,h=>Nat.le_trans (dB (ks:=r) (by simpa using h)) (Nat.le_max_right _ _)
theorem lL:∀ {ks:List Kn},ks≠[]→((Kn.deps ks:Nat):Int)∈ks.map (fun t=>((t.dep:Nat):Int))
 | [t],_=>by
   have e:Kn.deps [t]=t.dep:=by show max t.dep 0=t.dep;omega
   rw [e]
   exact List.mem_cons_self
 | t :: u :: r,_=>by
   have ih:=lL (ks:=u :: r) (by simp)
   have e:Kn.deps (t :: u :: r)=max t.dep (Kn.deps (u :: r)):=rfl
   rw [e]
   by_cases c:t.dep≤Kn.deps (u :: r)
   ·rw [Nat.max_eq_right c]
    exact List.mem_cons_of_mem _ ih
   ·rw [Nat.max_eq_left (by omega)]
    exact List.mem_cons_self
theorem pY (ks:List Kn):qo 0 (ks.map (fun t=>((t.dep:Nat):Int)))=((Kn.deps ks:Nat):Int):=by
 by_cases c:ks = []
 ·subst c;rfl
 ·refine oX (by simpa using c) (lL c) fun y hy=>?_
  obtain ⟨t,ht,rfl⟩:=List.mem_map.mp hy
  obtain ⟨i,hi,rfl⟩:=List.getElem_of_mem ht
  exact Int.ofNat_le.mpr (dB hi)
mutual
theorem wQ:∀ (t:Kn),t.d.dq=t.dep
 | .mk h ks=>by
   show (Dk.tup (.str h :: Kn.ds ks)).dq=1+Kn.deps ks
   rw [iq,ir,kl,qZ ks]
   omega
theorem qZ:∀ (ks:List Kn),dqs (Kn.ds ks)=Kn.deps ks
 | []=>by show dqs []=0;rw [dqs]
 | t :: r=>by
   show dqs (t.d :: Kn.ds r)=max t.dep (Kn.deps r)
   rw [ir,wQ t,qZ r]
end
end L2.Bk
end
section
namespace L2
open L2.Bw L2.K11
theorem sz (n:Nat) (h:n≤1000:=by decide):n≤sizeLine:=Nat.le_trans h (by decide)
theorem zp (n:Int) (h:0<n:=by decide):0<n:=h
theorem psX {X:Cx} {pos pos':Pos} (i:Nat) {x:Str} {e:Expr} {te:TE} (hN:X.N.Nodup) (he:PE X e te) (hi:X.N[i]? = some x:=by rfl) (hx:Loc X.env.scope x:=by first | exact Or.inl rfl | exact Or.inr rfl) (hs:swapsWith e (some (.Name x pos')) pos.line X.env=pure false:=by rfl) (hf:X.fn x=true∨X.env.scope.names.lookup x=some .local:=by first | exact .inl rfl | exact .inr rfl):PS X (.Assign [.Name x pos'] e pos) (nV te (aX i)):=vm hN hi hx hs hf he
theorem pxK {X:Cx} {a b:Expr} {ta tb:TE} {pos:Pos} (K:W.Frag) (ha:PE X a ta) (hb:PE X b tb) (hs:eZ b) (hK:X.K=K:=by rfl):PE X (.Subscript a b pos) (tOp (rIx K) ta tb):=by
 subst hK
 exact aG az ha hb hs
end L2
end
section
namespace L2
section
variable {κ:Type} [DecidableEq κ]
noncomputable def cG (kvs:List (κ×V)) (k:κ):Option V:=(kvs.find? fun kv=>decide (kv.1=k)).map (·.2)
noncomputable def putK (kvs:List (κ×V)) (k:κ) (v:V):List (κ×V):=
 if (kvs.any fun kv=>decide (kv.1=k))=true then kvs.map (fun kv=>if kv.1=k then (kv.1,v) else kv) else kvs ++ [(k,v)]
theorem bS {p:κ×V} {r:List (κ×V)} {k:κ} (e:p.1=k):cG (p :: r) k=some p.2:=by simp [cG,List.find?_cons,e]
theorem bR {p:κ×V} {r:List (κ×V)} {k:κ} (e:¬ p.1=k):cG (p :: r) k=cG r k:=by simp [cG,List.find?_cons,e]
theorem fF (k:κ):∀ kvs:List (κ×V),(kvs.any fun kv=>decide (kv.1=k))=(cG kvs k).isSome
 | []=>rfl
 | p :: r=>by
   rw [List.any_cons]
   by_cases e:p.1=k
   ·simp only [bS e,decide_eq_true e,Bool.true_or,Option.isSome_some]
   ·rw [bR e,decide_eq_false e,Bool.false_or];exact fF k r
theorem mx (k j:κ) (y:V):∀ kvs:List (κ×V),cG (kvs.map fun kv=>if kv.1=k then (kv.1,y) else kv) j=(cG kvs j).map fun x=>if j=k then y else x
 | []=>rfl
 | p :: r=>by
   have ih:=mx k j y r
   rw [List.map_cons]
   by_cases h:p.1=k
   ·rw [if_pos h]
    by_cases e:p.1=j
    ·rw [bS (p:=(p.1,y)) e,bS e,Option.map_some,if_pos (e.symm.trans h)]
    ·rw [bR (p:=(p.1,y)) e,bR e,ih]
   ·rw [if_neg h]
    by_cases e:p.1=j
    ·rw [bS (p:=p) e,bS e,Option.map_some,if_neg (fun z=>h (e.trans z))]
    ·rw [bR (p:=p) e,bR e,ih]
theorem jX (k j:κ) (y:V):∀ kvs:List (κ×V),cG kvs k=none→cG (kvs ++ [(k,y)]) j=if j=k then some y else cG kvs j
 | [],_=>by
   by_cases e:k=j
   ·rw [if_pos e.symm];exact bS (p:=(k,y)) e
   ·rw [if_neg (fun z=>e z.symm)];exact bR (p:=(k,y)) e
 | p :: r,hn=>by
   rw [List.cons_append]
   have hk:¬ p.1=k:=fun z=>by rw [bS z] at hn;cases hn
   rw [bR hk] at hn
   have ih:=jX k j y r hn
   by_cases e:p.1=j
   ·rw [bS e,bS e,if_neg (fun z=>hk (e.trans z))]
   ·rw [bR e,bR e,ih]
theorem iZ (kvs:List (κ×V)) (k j:κ) (y:V):cG (putK kvs k y) j=if j=k then some y else cG kvs j:=by
 unfold putK
 by_cases a:(kvs.any fun kv=>decide (kv.1=k))=true
 ·rw [if_pos a,mx]
  rw [fF] at a
  by_cases e:j=k
  ·obtain ⟨x,hx⟩:=Option.isSome_iff_exists.mp a
   rw [if_pos e,e,hx,Option.map_some,if_pos rfl]
  ·rw [if_neg e]
   cases cG kvs j with
   | none=>rfl
   | some x=>rw [Option.map_some,if_neg e]
 ·rw [if_neg a]
  refine jX k j y kvs ?_
  rw [fF] at a
  cases q:cG kvs k with
  | none=>rfl
  | some x=>rw [q] at a;exact (a rfl).elim
theorem aR (kvs:List (κ×V)) (k:κ) (v:V):(putK kvs k v).length≤kvs.length+1:=by
 unfold putK
 split
 ·rw [List.length_map];omega
 ·rw [List.length_append,List.length_cons,List.length_nil];omega
theorem cN.isSome_eq {o:Option V} {u:Option Value} (r:cN o u):o.isSome=u.isSome:=by
 cases o with
 | none=>cases u with
   | none=>rfl
   | some _=>exact (show False from r).elim
 | some _=>cases u with
   | none=>exact (show False from r).elim
   | some _=>rfl
theorem KV.val {kvs:List (κ×V)} {vs:List (κ×Value)} (r:KV kvs vs) (k:κ):cN (cG kvs k) (valueAt vs k):=by
 unfold KV at r
 induction r with
 | nil=>exact True.intro
 | @cons p q ps qs h t ih=>
   obtain ⟨h1,h2⟩:=h
   by_cases e:p.1=k
   ·have e':q.1=k:=h1.symm.trans e
    have b:valueAt (q :: qs) k=some q.2:=by simp [valueAt,List.find?_cons,e']
    rw [bS e,b];exact h2
   ·have e':¬ q.1=k:=fun z=>e (h1.trans z)
    have b:valueAt (q :: qs) k=valueAt qs k:=by simp [valueAt,List.find?_cons,e']
    rw [bR e,b];exact ih
theorem KV.any {kvs:List (κ×V)} {vs:List (κ×Value)} (r:KV kvs vs) (k:κ):(kvs.any fun kv=>decide (kv.1=k))=vs.any fun kv=>decide (kv.1=k):=by
 unfold KV at r
 induction r with
 | nil=>rfl
 | cons h t ih=>rw [List.any_cons,List.any_cons,ih,h.1]
theorem KV.repl {kvs:List (κ×V)} {vs:List (κ×Value)} (r:KV kvs vs) (k:κ) {y:V} {u:Value} (ry:aU y u) :
 KV (kvs.map fun kv=>if kv.1=k then (kv.1,y) else kv) (vs.map fun kv=>if kv.1=k then (kv.1,u) else kv):=by
 unfold KV at r ⊢
 induction r with
 | nil=>exact .nil
 | @cons p q ps qs h t ih=>
   rw [List.map_cons,List.map_cons]
   refine .cons ?_ ih
   obtain ⟨h1,h2⟩:=h
   by_cases e:p.1=k
   ·rw [if_pos e,if_pos (h1.symm.trans e)];exact ⟨h1,ry⟩
   ·rw [if_neg e,if_neg (fun z=>e (h1.trans z))];exact ⟨h1,h2⟩
theorem KV.put {kvs:List (κ×V)} {vs:List (κ×Value)} (r:KV kvs vs) (k:κ) {y:V} {u:Value} (ry:aU y u):KV (putK kvs k y) (stored vs k u):=by
 unfold putK stored
 rw [r.any k]
 by_cases e:(vs.any fun kv=>decide (kv.1=k))=true
 ·rw [if_pos e,if_pos e];exact r.repl k ry
 ·rw [if_neg e,if_neg e];exact Paired.snoc r ⟨rfl,ry⟩
theorem KV.length {kvs:List (κ×V)} {vs:List (κ×Value)} (r:KV kvs vs):kvs.length=vs.length:=Paired.length r
end
theorem oU {P:Program} {w:World} {k:Key} {u:Value} (r:aU (kV k) u):(bF P w).is k u=true:=by
 cases k with
 | inl i=>obtain ⟨t,e⟩:=(show ∃ t,u=Value.int i t from r);subst e;exact mh P w i t
 | inr x=>obtain ⟨t,e⟩:=(show ∃ t,u=Value.str x t from r);subst e;exact mi P w x t
theorem jB {P:Program} {w:World}:∀ {ks:List Key} {us:List Value},aQ (ks.map kV) us→ItemsAre (bF P w) ks us
 | [],_,r=>by rw [List.map_nil] at r;cases r;exact .nil
 | k :: ks,_,r=>by
   rw [List.map_cons] at r
   cases r with
   | cons h t=>exact .cons (oU h) (jB t)
noncomputable abbrev KT (H:Hp):List (List Key×V)→List (List Key×Addr×Value)→Prop:=Paired fun p q=>p.1=q.1∧H q.2.1=some (.tup (p.1.map kV))∧aU p.2 q.2.2
theorem KT.val {H:Hp} {kvs:List (List Key×V)} {xs:List (List Key×Addr×Value)} (r:KT H kvs xs) (k:List Key):cN (cG kvs k) ((atKey xs k).map (·.2)):=by
 induction r with
 | nil=>exact True.intro
 | @cons p q ps qs h t ih=>
   obtain ⟨h1,_,h2⟩:=h
   by_cases e:p.1=k
   ·have e':q.1=k:=h1.symm.trans e
    have b:atKey (q :: qs) k=some q.2:=by simp [atKey,List.find?_cons,e']
    rw [bS e,b];exact h2
   ·have e':¬ q.1=k:=fun z=>e (h1.trans z)
    have b:atKey (q :: qs) k=atKey qs k:=by simp [atKey,List.find?_cons,e']
    rw [bR e,b];exact ih
theorem KT.repl {H:Hp} {kvs:List (List Key×V)} {xs:List (List Key×Addr×Value)} (r:KT H kvs xs) (k:List Key) {y:V} {u:Value} (ry:aU y u) :
 KT H (kvs.map fun kv=>if kv.1=k then (kv.1,y) else kv) (xs.map (putAt k u)):=by
 induction r with
 | nil=>exact .nil
 | @cons p q ps qs h t ih=>
   rw [List.map_cons,List.map_cons]
   refine .cons ?_ ih
   obtain ⟨h1,h2,h3⟩:=h
   unfold putAt
   by_cases e:p.1=k
   ·rw [if_pos e,if_pos (h1.symm.trans e)];exact ⟨h1,h2,ry⟩
   ·rw [if_neg e,if_neg (fun z=>e (h1.trans z))];exact ⟨h1,h2,h3⟩
theorem KT.put {H:Hp} {kvs:List (List Key×V)} {xs:List (List Key×Addr×Value)} (r:KT H kvs xs) (k:List Key) {b:Addr} {y:V} {u:Value} (hb:H b=some (.tup (k.map kV))) (ry:aU y u) :
 KT H (putK kvs k y) (storedH xs k b u):=by
 have e:(kvs.any fun kv=>decide (kv.1=k))=(atKey xs k).isSome:=by
  rw [fF,(r.val k).isSome_eq,Option.isSome_map]
 unfold putK storedH
 rw [e]
 by_cases q:(atKey xs k).isSome=true
 ·rw [if_pos q,if_pos q];exact r.repl k ry
 ·rw [if_neg q,if_neg q];exact Paired.snoc r ⟨rfl,hb,ry⟩
theorem KT.keeps {H H':Hp} {kvs:List (List Key×V)} {xs:List (List Key×Addr×Value)} (r:KT H kvs xs) (ht:∀ b ys,H b=some (.tup ys)→H' b=some (.tup ys)):KT H' kvs xs:=
 Paired.mapP r fun _ _ z=>⟨z.1,ht _ _ z.2.1,z.2.2⟩
section
variable {P:Program} {w:World} {H:Hp} {h:Heap} {a:Addr}
theorem wA {u:HO} (ok:HOk P w H h) (e:Rd H a u):bo P w H h a u:=e.ok ok
theorem oI {kvs:List (Key×V)} (ok:HOk P w H h) (e:Rd H a (.dK kvs)):kvs.length≤sizeLine∧(a == sysModules)=false∧∃ vs,KV kvs vs∧h.DictOf (bF P w) a vs:=
 show bo P w H h a (.dK kvs) from wA ok e
theorem yJ {kvs:List (Key×V)} (ok:HOk P w H h) (e:H a=some (.dK kvs)):kvs.length≤sizeLine∧(a == sysModules)=false∧∃ vs,KV kvs vs∧h.DictOf (bF P w) a vs:=oI ok (.inl e)
theorem kD {ks:List Key} (ok:HOk P w H h) (e:H a=some (.tup (ks.map kV))):(tupleKind (bF P w)).is h ks a:=by
 obtain ⟨_,its,r,o,h1,h2,n,h3⟩:=(show bo P w H h a (.tup (ks.map kV)) from ok a _ e)
 exact ⟨o,its.toArray,n,h1,h2,h3,by simpa using jB r⟩
theorem oJ {kvs:List (List Key×V)} (ok:HOk P w H h) (e:Rd H a (.dT kvs)):kvs.length≤sizeLine∧(a == sysModules)=false ∧
 ∃ xs,KT H kvs xs∧h.DictOfH (tupleKind (bF P w)) a xs:=by
 obtain ⟨z,y,xs,r,o,es,ep,h1,h2,h3,h4,h5⟩:=(show bo P w H h a (.dT kvs) from wA ok e)
 refine ⟨z,y,xs,r,o,es,ep,h1,h2,h3,h4,fun x hx=>?_,h5⟩
 have all:∀ {l:List (List Key×V)} {m:List (List Key×Addr×Value)},KT H l m→∀ x∈m,(tupleKind (bF P w)).is h x.1 x.2.1:=by
  intro l m q
  induction q with
  | nil=>intro x hx;exact nomatch hx
  | @cons p q ps qs hq t ih=>
    intro x hx
    rcases List.mem_cons.mp hx with e | hx
    ·subst e
     exact kD ok (by rw [← hq.1];exact hq.2.1)
    ·exact ih x hx
 exact all r x hx
theorem yL {kvs:List (List Key×V)} (ok:HOk P w H h) (e:H a=some (.dT kvs)):kvs.length≤sizeLine∧(a == sysModules)=false ∧
 ∃ xs,KT H kvs xs∧h.DictOfH (tupleKind (bF P w)) a xs:=oJ ok (.inl e)
end
noncomputable def i9 (H:Hp) (a:Addr) (y:V) (r:Option V):Prop:=
 (∃ kvs k,Rd H a (.dK kvs)∧y=kV k∧r=cG kvs k)∨∃ kvs k b,Rd H a (.dT kvs)∧y = .ref b∧H b=some (.tup (k.map kV))∧r=cG kvs k
noncomputable def eX (H:Hp) (a:Addr) (y v:V) (H':Hp):Prop:=
 (∃ kvs k,H a=some (.dK kvs)∧y=kV k∧kvs.length<sizeLine∧H'=upd H a (.dK (putK kvs k v))) ∨
 ∃ kvs k b,H a=some (.dT kvs)∧y = .ref b∧H b=some (.tup (k.map kV))∧kvs.length<sizeLine∧H'=upd H a (.dT (putK kvs k v))
theorem i9.k {H:Hp} {a:Addr} {kvs:List (Key×V)} {k:Key} (e:H a=some (.dK kvs)):i9 H a (kV k) (cG kvs k):=.inl ⟨kvs,k,.inl e,rfl,rfl⟩
theorem eX.k {H:Hp} {a:Addr} {kvs:List (Key×V)} {k:Key} {v:V} (e:H a=some (.dK kvs)) (hl:kvs.length<sizeLine):eX H a (kV k) v (upd H a (.dK (putK kvs k v))):=.inl ⟨kvs,k,e,rfl,hl,rfl⟩
section
variable {X:Cx} {pins:List (Addr×Obj)} {σ:St} {H:Hp} {s:Shared} {a:Addr} {y v:V} {u r:Value} {o:Option V} {A:Around} {E:Value→Shared→Prop}
theorem Inv.big (I:Inv X pins σ H s):sysModules<s.heap.objs.size:=by
 have h:mainGlobals<s.heap.objs.size:=(I.mod.glob.keeps I.bk).lt
 exact Nat.lt_trans (by decide) h
theorem pW {Q:Value→Shared→Prop} (hu:A.units+1<cLine) (I:Inv X pins σ H s) (g:i9 H a y (some v)) (ry:aU y u) (h:∀ w' s',Inv X pins σ H s'→aU v w'→Q w' s') :
 wpAny (model X.prog X.w) A (getItem (.ref a) u) Q E s:=by
 rcases g with ⟨kvs,k,e,ey,l⟩ | ⟨kvs,k,b,e,ey,eb,l⟩
 ·subst ey
  obtain ⟨z,hd,vs,rel,dd⟩:=oI I.hok e
  obtain ⟨w',hw,rw'⟩:=cN.some_of (v:=v) (o:=valueAt vs k) (by rw [l];exact rel.val k)
  exact wpAny_getItem_of (oU ry) dd.mapOf hw (h w' _ (I.tok _) rw')
 ·subst ey
  cases (show u=Value.ref b from ry)
  obtain ⟨z,hd,xs,rel,dd⟩:=oJ I.hok e
  obtain ⟨w',hw,rw'⟩:=cN.some_of (v:=v) (o:=(atKey xs k).map (·.2)) (by rw [l];exact rel.val k)
  obtain ⟨p,hp,hp2⟩:=Option.map_eq_some_iff.mp hw
  refine wpAny_getItem_heap (tupleKind_room_in1 hu) (kD I.hok eb) dd hp ?_
  rw [hp2]
  exact h w' _ (I.tok _) rw'
theorem Aq {Q:Value→Shared→Prop} (hu:A.units+1<cLine) (I:Inv X pins σ H s) (g:i9 H a y o) (ry:aU y u) (h:∀ s',Inv X pins σ H s'→Q (.bool o.isSome) s') :
 wpAny (model X.prog X.w) A (compareOp .In u (.ref a)) Q E s:=by
 rcases g with ⟨kvs,k,e,ey,l⟩ | ⟨kvs,k,b,e,ey,eb,l⟩
 ·subst ey
  obtain ⟨z,hd,vs,rel,dd⟩:=oI I.hok e
  refine wpAny_in_of (oU ry) hd dd.mapOf ?_
  rw [← (rel.val k).isSome_eq,← l]
  exact h _ (I.tok _)
 ·subst ey
  cases (show u=Value.ref b from ry)
  obtain ⟨z,hd,xs,rel,dd⟩:=oJ I.hok e
  refine wpAny_in_heap (tupleKind_room_in1 hu) (kD I.hok eb) hd dd ?_
  have q:=(rel.val k).isSome_eq
  rw [Option.isSome_map] at q
  rw [← q,← l]
  exact h _ (I.tok _)
theorem oE {h':Heap} {t':Nat} {ob:HO} (I:Inv X pins σ H s) (mu:Mut (H a)) (hs:Heap.SameBut a s.heap h') (he:∃ q,h'.get? a=some q) (new:bo X.prog X.w (upd H a ob) h' a ob) :
 Inv X pins σ (upd H a ob) { s with heap:=h',toks:=t' }:=
 I.write (x:=a) (e:=a) mu (.inl rfl) (fun b q hb z=>(hs.2 b hb).trans z) he new
theorem wP {P:Program} {w:World} {H':Hp} {h':Heap} {kvs:List (Key×V)} {vs:List (Key×Value)} (z:kvs.length≤sizeLine) (hd:(a == sysModules)=false) (rel:KV kvs vs) (dd:h'.DictOf (bF P w) a vs) :
 bo P w H' h' a (.dK kvs):=⟨z,hd,vs,rel,dd⟩
theorem pX {H':Hp} {Q:Unit→Shared→Prop} (hu:A.units+1<cLine) (I:Inv X pins σ H s) (g:eX H a y v H') (ry:aU y u) (rv:aU v r) (h:∀ s',Inv X pins σ H' s'→Q () s') :
 wpAny (model X.prog X.w) A (setItem (.ref a) u r) Q E s:=by
 rcases g with ⟨kvs,k,e,ey,l,eH⟩ | ⟨kvs,k,b,e,ey,eb,l,eH⟩
 ·subst ey eH
  obtain ⟨z,hd,vs,rel,dd⟩:=yJ I.hok e
  have hz:vs.length≤sizeLine:=by rw [← rel.length];exact z
  have hl:(putK kvs k v).length≤sizeLine:=by have:=aR kvs k v;omega
  refine wpAny_setItem_pairs (hsz:=hz) (oU ry) dd fun h' dd' hs=>h _ ?_
  have he:∃ q,h'.get? a=some q:=let ⟨q,_,_,hq,_⟩:=dd';⟨q,hq⟩
  exact oE I (by rw [e];exact True.intro) hs he (wP hl hd (rel.put k rv) dd')
 ·subst ey eH
  cases (show u=Value.ref b from ry)
  obtain ⟨z,hd,xs,rel,dd⟩:=yL I.hok e
  have hz:xs.length≤sizeLine:=by rw [← Paired.length rel];exact z
  have hl:(putK kvs k v).length≤sizeLine:=by have:=aR kvs k v;omega
  refine wpAny_setItem_heap (hsz:=hz) (tupleKind_room_in1 hu) (kD I.hok eb) dd fun h' dd' hs=>h _ ?_
  obtain ⟨q,es,ep,hq,h2,h3,h4,_,h5⟩:=dd'
  refine oE I (by rw [e];exact True.intro) hs ⟨q,hq⟩ ⟨hl,hd,_,(rel.put k eb rv).keeps fun c ys ec=>?_,q,es,ep,hq,h2,h3,h4,h5⟩
  rw [aj (yU ec e (fun z=>nomatch z))]
  exact ec
end
noncomputable def yD (i:Expr):Prop:=∀ ov iv,subscripted i false ov iv=operate [ov,iv] (getItem ov iv)
theorem vK {prog:Program} {w:World} {A:Around} {E:Value→Shared→Prop} {s:Shared} {env:Env} {value slice:Expr} {pos:Pos} {T id:String} {Q:Value→Shared→Prop}
 (hl:typeLookup (.type T) "__getitem__" = pure (some (.builtin id))) (hs:yD slice)
 (h:wpAny (model prog w) A (eval value env) (fun o s₁=>wpAny (model prog w) A (eval slice env) (fun i s₂=>s₂.TypeIs o T∧wpAny (model prog w) A (getItem o i) Q E s₂) E s₁) E s) :
 wpAny (model prog w) A (eval (.Subscript value slice pos) env) Q E s:=by
 refine Subscript_ (wpAny_mono h (fun o s₁ h₁=>wpAny_mono h₁ (fun i s₂ h₂=>?_) fun _ _ x=>x) fun _ _ x=>x)
 obtain ⟨hT,h₂⟩:=h₂
 unfold subscriptTail
 refine wpAny_bind ?_
 rw [getitemInPython_of_ne hT.not_modules]
 refine wpAny_bind (wpAny_specialOf hT hl ?_)
 have fin:wpAny (model prog w) A (subscripted slice false o i) (fun r s₃=>wpAny (model prog w) A (letTemporaryGo value o r >>= fun _=>pure r) Q E s₃) E s₂:=by
  rw [hs o i]
  exact wpAny_operating (wpAny_mono h₂ (fun r s₃ h₃=>wpAny_bind (wpAny_letTemporaryGo (wpAny_pure h₃))) fun _ _ x=>x)
 first
  | exact wpAny_pure (wpAny_bind fin)
  | exact wpAny_bind (wpAny_pure (wpAny_bind fin))
  | exact wpAny_bind fin
theorem lO {X:Cx} {pins:List (Addr×Obj)} {σ:St} {H:Hp} {s:Shared} {a:Addr} {y:V} {o:Option V} (I:Inv X pins σ H s) (g:i9 H a y o):s.TypeIs (.ref a) "dict":=by
 rcases g with ⟨kvs,k,e,_,_⟩ | ⟨kvs,k,b,e,_,_,_⟩
 ·obtain ⟨_,_,vs,_,dd⟩:=oI I.hok e
  exact dd.typeIs
 ·obtain ⟨_,_,xs,_,dd⟩:=oJ I.hok e
  exact dd.typeIs
noncomputable def Aa (td ty:TE):TE:=fun σ H Q=>td σ H fun x H1=>ty σ H1 fun y H2=>∃ a v,x = .ref a∧i9 H2 a y (some v)∧Q v H2
noncomputable def AH (ty td:TE):TE:=fun σ H Q=>ty σ H fun y H1=>td σ H1 fun x H2=>∃ a o,x = .ref a∧i9 H2 a y o∧Q (.bl o.isSome) H2
noncomputable def zL (td ty tv:TE):TS:=fun D σ H=>tv σ H fun v H1=>td σ H1 fun x H2=>ty σ H2 fun y H3=>∃ a H4,x = .ref a∧eX H3 a y v H4∧D.nx σ H4
section
variable {X:Cx} {o i e value:Expr} {pos pos' tpos:Pos} {td ty tv:TE}
theorem gT (hu:X.A.units+1<cLine) (ho:PE X o td) (hi:PE X i ty) (hs:yD i):PE X (.Subscript o i pos) (Aa td ty):=by
 intro pins s σ H Q I h
 refine vK PySem.F.slot_dict_getitem.lookup hs (thn (ho pins s σ H _ I h) fun u s1 ⟨x,H1,I1,rx,q1⟩=>thn (hi pins s1 σ H1 _ I1 q1) fun iv s2 ⟨y,H2,I2,ry,a,v,ex,g,q2⟩=>?_)
 subst ex
 obtain rfl:u=Value.ref a:=rx
 exact ⟨lO I2 g,pW hu I2 g ry fun w' s3 I3 rw'=>⟨v,H2,I3,rw',q2⟩⟩
theorem xJ (hu:X.A.units+1<cLine) (hi:PE X i ty) (ho:PE X o td):PC X .In i o (AH ty td):=by
 intro pins s σ H Q I h
 refine thn (hi pins s σ H _ I h) fun iv s1 ⟨y,H1,I1,ry,q1⟩=>thn (ho pins s1 σ H1 _ I1 q1) fun u s2 ⟨x,H2,I2,rx,a,ov,ex,g,q2⟩=>?_
 subst ex
 obtain rfl:u=Value.ref a:=rx
 exact Aq hu I2 g ry fun s3 I3=>⟨.bl ov.isSome,H2,I3,rfl,q2⟩
theorem cy (hu:X.A.units+1<cLine) (ho:PE X o td) (hi:PE X i ty) (hv:PE X value tv) (hs:swapsWith value (some (.Subscript o i pos')) pos.line X.env=pure false) :
 PS X (.Assign [.Subscript o i pos'] value pos) (zL td ty tv):=by
 intro pins s σ H D I h
 refine wpAny_Assign_Subscript (thn (hv pins s σ H _ I h) fun r s1 ⟨v,H1,I1,rv,q1⟩=>thn (ho pins s1 σ H1 _ I1 q1) fun u s2 ⟨x,H2,I2,rx,q2⟩=>thn (hi pins s2 σ H2 _ I2 q2) fun iv s3 ⟨y,H3,I3,ry,a,H4,ex,g,q3⟩=>?_) hs
 subst ex
 obtain rfl:u=Value.ref a:=rx
 exact pX hu I3 g ry rv fun s4 I4=>⟨σ,H4,I4,q3⟩
end
theorem qY {P:Program} {w:World} {H:Hp} (h:Heap) (hb:sysModules<h.objs.size):bo P w H (h.push { cls:=.type "dict",data:=.dict #[] }) h.objs.size (.dK []):=
 ⟨Nat.zero_le _,beq_eq_false_iff_ne.mpr (Ne.symm (Nat.ne_of_lt hb)),[],.nil,Heap.DictOf.new h⟩
noncomputable def yo:TE:=fun _ H Q=>∀ p,H p=none→Q (.ref p) (upd H p (.dK []))
section
variable {X:Cx} {pos:Pos}
theorem dG:PE X (.Dict [] [] pos) yo:=fun pins s σ H Q I h=>
 wpAny_Dict_empty ⟨.ref s.heap.objs.size,_,I.laid (a:=s.heap.objs.size) (o:=.dK []) (t':=s.toks) (fun _ _ q=>Heap.get?_push_of_some _ q) (Nat.le_refl _) (qY s.heap I.big),rfl,h _ (I.hok.fresh (Nat.le_refl _))⟩
end
end L2
end
section
namespace L2.Bk
open L2.Bw
noncomputable def Kn.h:Kn→Str
 | .mk h _=>h
noncomputable def Kn.ks:Kn→List Kn
 | .mk _ ks=>ks
noncomputable def bO (h:Str):Option Nat:=if h = "whole" then some 0 else if h = "truth" then some 0 else if h = "?" then some 0 else if h = "row" then some 1 else if h = "to" then some 2 else if h = "pair" then some 2 else none
mutual
noncomputable def Kn.wf:Kn→Prop
 | .mk h ks=>bO h=some ks.length∧Kn.wfs ks
noncomputable def Kn.wfs:List Kn→Prop
 | []=>True
 | t :: r=>t.wf∧Kn.wfs r
end
theorem lD {h:Str} {n:Nat} (e:bO h=some n):n≤2:=by
 unfold bO at e
 repeat' split at e
 all_goals first | (cases e;omega) | cases e
theorem ox {n:Nat} (e:bO "?" = some n):n=0:=by
 have:bO "?" = some 0:=by nofun
 rw [this] at e
 cases e
 rfl
mutual
theorem i6:∀ {t:Kn},t.wf→t.ok
 | .mk _ _,⟨e,hs⟩=>⟨lD e,pN hs⟩
theorem pN:∀ {ks:List Kn},Kn.wfs ks→Kn.oks ks
 | [],_=>trivial
 | _ :: _,⟨h,hs⟩=>⟨i6 h,pN hs⟩
end
theorem hZ:∀ {ks:List Kn} {i:Nat} (h:i<ks.length),Kn.wfs ks→ks[i].wf
 | _ :: _,0,_,q=>q.1
 | _ :: r,i+1,h,q=>hZ (ks:=r) (by simpa using h) q.2
noncomputable def qK:Kn:=.mk "?" []
theorem AQ:qK.wf:=⟨by nofun,trivial⟩
mutual
noncomputable def Kn.join:Kn→Kn→Kn
 | .mk h ks,.mk g ls=>if h=g then .mk h (Kn.joins ks ls) else qK
noncomputable def Kn.joins:List Kn→List Kn→List Kn
 | t :: r,u :: q=>t.join u :: Kn.joins r q
 | [],_=>[]
 | _ :: _,[]=>[]
end
theorem cJ:∀ (ks ls:List Kn),(Kn.joins ks ls).length=min ks.length ls.length
 | [],ls=>by show 0=_;simp
 | _ :: _,[]=>by show 0=_;simp
 | _ :: r,_ :: q=>by show (Kn.joins r q).length+1=_;rw [cJ r q];simp
theorem jD:∀ {ks ls:List Kn} {i:Nat} (h1:i<ks.length) (h2:i<ls.length),(Kn.joins ks ls)[i]? = some (ks[i].join ls[i])
 | _ :: _,_ :: _,0,_,_=>rfl
 | _ :: r,_ :: q,i+1,h1,h2=>by
   show (Kn.joins r q)[i]? = _
   exact jD (ks:=r) (ls:=q) (by simpa using h1) (by simpa using h2)
theorem mQ:∀ {ks ls:List Kn} {i:Nat} (h1:i<ks.length) (h2:i<ls.length),(Kn.joins ks ls).take (i+1)=(Kn.joins ks ls).take i ++ [ks[i].join ls[i]]:=fun {ks ls i} h1 h2=>by
 have hl:i<(Kn.joins ks ls).length:=by rw [cJ];omega
 rw [cu hl]
 have e:=jD h1 h2
 rw [List.getElem?_eq_getElem hl] at e
 rw [Option.some.inj e]
mutual
theorem oS:∀ {a b:Kn},a.wf→b.wf→(a.join b).wf
 | .mk h ks,.mk g ls,⟨ea,ha⟩,⟨eb,hb⟩=>by
   show (if h=g then Kn.mk h (Kn.joins ks ls) else qK).wf
   by_cases c:h=g
   ·subst c
    rw [if_pos rfl]
    have e:ks.length=ls.length:=by rw [ea] at eb;exact Option.some.inj eb
    exact ⟨by rw [cJ,← e,Nat.min_self];exact ea,l9 ha hb⟩
   ·rw [if_neg c];exact AQ
theorem l9:∀ {ks ls:List Kn},Kn.wfs ks→Kn.wfs ls→Kn.wfs (Kn.joins ks ls)
 | [],_,_,_=>trivial
 | _ :: _,[],_,_=>trivial
 | _ :: _,_ :: _,⟨h,hs⟩,⟨g,gs⟩=>⟨oS h g,l9 hs gs⟩
end
mutual
theorem lZ:∀ (a b:Kn),(a.join b).dep≤a.dep
 | .mk h ks,.mk g ls=>by
   show (if h=g then Kn.mk h (Kn.joins ks ls) else qK).dep≤1+Kn.deps ks
   by_cases c:h=g
   ·rw [if_pos c]
    have:=jC ks ls
    show 1+Kn.deps (Kn.joins ks ls)≤_
    omega
   ·rw [if_neg c]
    show 1+0≤_
    omega
theorem jC:∀ (ks ls:List Kn),Kn.deps (Kn.joins ks ls)≤Kn.deps ks
 | [],_=>Nat.le_refl _
 | _ :: _,[]=>Nat.zero_le _
 | t :: r,u :: q=>by
   have h1:=lZ t u
   have h2:=jC r q
   show max (t.join u).dep (Kn.deps (Kn.joins r q))≤max t.dep (Kn.deps r)
   omega
end
end L2.Bk
end
section
namespace PySem
namespace F
theorem z3_typeCall (a b c:Value):checkTypeCall "zip" ⟨[a,b,c],[]⟩=pure ():=by kernel_rfl
theorem z3_newCall (a b c:Value):checkBuiltinCall "zip.__new__" ⟨[.type "zip",a,b,c],[]⟩=pure ():=by kernel_rfl
theorem z3_args_init (a b c d:Value):argsOk "object.__init__" ⟨[a,b,c,d],[]⟩:=by
 unfold argsOk;rw [signature?_of (id:="object.__init__") (n:=['_','_','t','i','n','i','_','_']) (o:=['t','c','e','j','b','o']) (by kernel_rfl) owner_object];kernel_rfl
end F
abbrev Is3 (h:Heap) (T:Addr) (a b c:Value):Prop:=h.get? T=some { cls:=.type "tuple",data:=.seq #[a,b,c] }
section
variable {prog:Program} {w:World} {A:Around} {E:Value→Shared→Prop} {s:Shared}
theorem gi {T:Addr} {a b c x:Value} {k:Nat} {Q:Unit→Shared→Prop} (hT:Is3 s.heap T a b c)
 (h:∀ h',h'.get? T=some { cls:=.type "tuple",data:=.seq ((#[a,b,c]:Array Value).setIfInBounds k x) }→Heap.SameBut T s.heap h'→Q () { s with heap:=h' }):wpAny (model prog w) A (updateSeq T (·.setIfInBounds k x)) Q E s:=by
 refine wpAny_updateSeq hT rfl (h _ ?_ (Heap.SameBut.update ..));rw [Heap.get?_update_self _ hT rfl];simp [Obj.mapSeq]
theorem gL {it t:Addr} {i:Nat} {items} {x:Value} {Q:Value→Shared→Prop} (hit:s.heap.IsTupleIter it t i) (ht:s.heap.IsTuple t items) (hx:items[i]? = some x)
 (hQ:∀ h',h'.IsTupleIter it t (i+1)→Heap.SameBut it s.heap h'→Q x { s with heap:=h' }):wpAny (model prog w) A (Builtin.SmallTypes.nextOf (.ref it)) Q E s:=by
 obtain ⟨o,ho,hc,hd⟩:=id hit
 obtain ⟨ol,hol,_,nl,hdl⟩:=ht
 unfold Builtin.SmallTypes.nextOf
 refine wpAny_bind (wpAny_callSpecial?_slot (name:=Str.ofString "__next__") hit.typeIs F.slot_tuple_iterator_next (wpAny_call_entry F.slot_tuple_iterator_next hit.typeIs F.entry_tuple_iterator_next ?_ (F.args_tuple_iterator_next_1 _)))
 show wpAny _ _ (field (.ref it) 0 >>= _) _ _ s;refine wpAny_bind (wpAny_field ho hd (x:=.ref t) rfl ?_)
 show wpAny _ _ (if (Value.ref t == Value.none)=true then _ else _) _ _ s;rw [if_neg (show ¬ ((Value.ref t == Value.none)=true) from Bool.false_ne_true)]
 show wpAny _ _ (field (.ref it) 1 >>= _) _ _ s;refine wpAny_bind (wpAny_field ho hd (x:=.int i 0) rfl ?_)
 show wpAny _ _ (seqItems? (.ref t) >>= _) _ _ s;refine wpAny_bind (wpAny_seqItems hol hdl ?_);simp only [Int.toNat_natCast,hx]
 refine wpAny_bind (wpAny_setField ho hd (by simp) (wpAny_pure ⟨x,rfl,wpAny_pure (hQ _ ?_ (Heap.SameBut.update ..))⟩))
 exact ⟨_,Heap.get?_update_self _ ho (Obj.isFreed_of_fields (Obj.data_mapFields hd _)),(Obj.cls_mapFields ..).trans hc,by rw [Obj.data_mapFields hd];simp [rawInt]⟩
theorem iY {it t:Addr} {i:Nat} {items} {Q:Value→Shared→Prop} (hh:A.handled=none) (hit:s.heap.IsTupleIter it t i) (ht:s.heap.IsTuple t items) (hx:items[i]? = none)
 (hE:∀ h' e,Heap.ExtBut it s.heap h'→(∃ o,h'.get? e=some o∧o.cls = .type "StopIteration")→E (.ref e) { s with heap:=h' }):wpAny (model prog w) A (Builtin.SmallTypes.nextOf (.ref it)) Q E s:=by
 obtain ⟨o,ho,hc,hd⟩:=id hit
 obtain ⟨ol,hol,_,nl,hdl⟩:=ht
 unfold Builtin.SmallTypes.nextOf
 refine wpAny_bind (wpAny_callSpecial?_slot (name:=Str.ofString "__next__") hit.typeIs F.slot_tuple_iterator_next (wpAny_call_entry F.slot_tuple_iterator_next hit.typeIs F.entry_tuple_iterator_next ?_ (F.args_tuple_iterator_next_1 _)))
 show wpAny _ _ (field (.ref it) 0 >>= _) _ _ s;refine wpAny_bind (wpAny_field ho hd (x:=.ref t) rfl ?_)
 show wpAny _ _ (if (Value.ref t == Value.none)=true then _ else _) _ _ s;rw [if_neg (show ¬ ((Value.ref t == Value.none)=true) from Bool.false_ne_true)]
 show wpAny _ _ (field (.ref it) 1 >>= _) _ _ s;refine wpAny_bind (wpAny_field ho hd (x:=.int i 0) rfl ?_)
 show wpAny _ _ (seqItems? (.ref t) >>= _) _ _ s;refine wpAny_bind (wpAny_seqItems hol hdl ?_);simp only [Int.toNat_natCast,hx]
 refine wpAny_bind (wpAny_rule (wpAny_bind (wpAny_setField ho hd (by simp) ?_)));show wpAny _ _ (newExc (.type "StopIteration") [] >>= _) _ _ _
 refine wpAny_bind ?_;simp only [newExc,newTuple];refine wpAny_bind (wpAny_newObj_type ?_ (by size_fits))
 refine wpAny_bind (m:=firstArgMember _ _) (wpAny_of_eq (a:=Value.none) (by first | rfl | (simp only [firstArgMember];rfl)) ?_);refine wpAny_newObj_type ?_ (by size_fits)
 simp only [raiseNew];refine wpAny_bind (wpAny_handled ?_);first | rw [show A.in1.handled=none from hh] | rw [hh]
 refine wpAny_bind (wpAny_pure (wpAny_throw ?_));exact hE _ _ (((Heap.SameBut.update ..).extBut.push _).push _) ⟨_,Heap.get?_push_size _ rfl,rfl⟩
structure Z3 (z TI TO i1 i2 i3 t b c:Addr):Prop where
 TIz:TI≠z
 TOz:TO≠z
 i1z:i1≠z
 i2z:i2≠z
 i3z:i3≠z
 TITO:TI≠TO
 TIi1:TI≠i1
 TIi2:TI≠i2
 TIi3:TI≠i3
 TOi1:TO≠i1
 TOi2:TO≠i2
 TOi3:TO≠i3
 i12:i1≠i2
 i13:i1≠i3
 i23:i2≠i3
 tz:t≠z
 tTO:t≠TO
 ti1:t≠i1
 ti2:t≠i2
 ti3:t≠i3
 bz:b≠z
 bTO:b≠TO
 bi1:b≠i1
 bi2:b≠i2
 bi3:b≠i3
 cz:c≠z
 cTO:c≠TO
 ci1:c≠i1
 ci2:c≠i2
 ci3:c≠i3
theorem vZ {z TI TO i1 i2 i3 t b c:Addr} {k:Nat} {xs ys zs:Array Value} {x y v a0 b0 c0:Value} {Q:Value→Shared→Prop} (D:Z3 z TI TO i1 i2 i3 t b c) (hz:IsZip s.heap z TI TO .none) (hTI:Is3 s.heap TI (.ref i1) (.ref i2) (.ref i3)) (hTO:Is3 s.heap TO a0 b0 c0)
 (h1:s.heap.IsTupleIter i1 t k) (h2:s.heap.IsListIter i2 b k) (h3:s.heap.IsListIter i3 c k) (hl1:s.heap.IsTuple t xs) (hl2:s.heap.IsList b ys) (hl3:s.heap.IsList c zs) (hx:xs[k]? = some x) (hy:ys[k]? = some y) (hv:zs[k]? = some v)
 (hQ:∀ h',IsZip h' z TI TO (rawInt s.heap.objs.size)→Is3 h' TO x y v→h'.IsTupleIter i1 t (k+1)→h'.IsListIter i2 b (k+1)→h'.IsListIter i3 c (k+1)→Is3 h' s.heap.objs.size x y v→h'.objs.size=s.heap.objs.size+1 →
  (∀ d o,d≠z→d≠TO→d≠i1→d≠i2→d≠i3→s.heap.get? d=some o→h'.get? d=some o)→Q (.ref s.heap.objs.size) { s with heap:=h' }) :
 wpAny (model prog w) A (Builtin.«zip.__next__» ⟨[.ref z],[]⟩) (fun fin s'=>∃ v,fin = .done (.ret v)∧Q v s') E s:=by
 show wpAny _ _ (field (.ref z) 2 >>= _) _ _ _;refine wpAny_bind (wpAny_field hz rfl (x:=.bool false) rfl ?_)
 show wpAny _ _ (field (.ref z) 3 >>= _) _ _ _;refine wpAny_bind (wpAny_field hz rfl (x:=.ref TI) rfl ?_)
 refine wpAny_bind (wpAny_seqItems hTI rfl ?_);show wpAny _ _ (Builtin.SmallTypes.ownedTupleIsFree (.ref z) >>= _) _ _ _
 refine wpAny_bind ?_;unfold Builtin.SmallTypes.ownedTupleIsFree;refine wpAny_bind (wpAny_field hz rfl (x:=.none) rfl (wpAny_pure ?_));simp only [if_true]
 refine wpAny_bind (wpAny_rule ?_);refine wpAny_bind (wpAny_field hz rfl (x:=.ref TO) rfl ?_);refine wpAny_bind (wpAny_setField_rec hz (by simp) fun h₁ hz₁ hs₁=>?_)
 replace hz₁:IsZip h₁ z TI TO .ellipsis:=hz₁
 refine wpAny_bind ?_;simp only [List.zipIdx_cons,List.zipIdx_nil,List.forIn_cons,List.forIn_nil]
 refine wpAny_bind (wpAny_bind (wpAny_onRaise ?_));show wpAny _ _ (Builtin.SmallTypes.nextOf (.ref i1) >>= _) _ _ _
 refine wpAny_bind (gL (h1.extBut hs₁.extBut D.i1z) (hl1.extBut hs₁.extBut D.tz) hx fun h₂ h1₂ hs₂=>wpAny_pure ?_)
 have hTO₂:Is3 h₂ TO a0 b0 c0:=hs₂.extBut _ _ D.TOi1 (hs₁.extBut _ _ D.TOz hTO)
 refine wpAny_bind (wpAny_seqItems hTO₂ rfl ?_);refine wpAny_bind (gi hTO₂ fun h₃ hTO₃ hs₃=>?_)
 replace hTO₃:Is3 h₃ TO x b0 c0:=hTO₃
 refine wpAny_bind (wpAny_letGo (wpAny_pure ?_));refine wpAny_bind (wpAny_bind (wpAny_onRaise ?_));show wpAny _ _ (Builtin.SmallTypes.nextOf (.ref i2) >>= _) _ _ _
 refine wpAny_bind (wpAny_nextOf_list_item (((h2.extBut hs₁.extBut D.i2z).extBut hs₂.extBut D.i12.symm).extBut hs₃.extBut D.TOi2.symm) (((hl2.extBut hs₁.extBut D.bz).extBut hs₂.extBut D.bi1).extBut hs₃.extBut D.bTO) hy fun h₄ h2₄ hs₄=>wpAny_pure ?_)
 have hTO₄:Is3 h₄ TO x b0 c0:=hs₄.extBut _ _ D.TOi2 hTO₃
 refine wpAny_bind (wpAny_seqItems hTO₄ rfl ?_);refine wpAny_bind (gi hTO₄ fun h₅ hTO₅ hs₅=>?_)
 replace hTO₅:Is3 h₅ TO x y c0:=hTO₅
 refine wpAny_bind (wpAny_letGo (wpAny_pure ?_));refine wpAny_bind (wpAny_bind (wpAny_onRaise ?_));show wpAny _ _ (Builtin.SmallTypes.nextOf (.ref i3) >>= _) _ _ _
 refine wpAny_bind (wpAny_nextOf_list_item (((((h3.extBut hs₁.extBut D.i3z).extBut hs₂.extBut D.i13.symm).extBut hs₃.extBut D.TOi3.symm).extBut hs₄.extBut D.i23.symm).extBut hs₅.extBut D.TOi3.symm)
  (((((hl3.extBut hs₁.extBut D.cz).extBut hs₂.extBut D.ci1).extBut hs₃.extBut D.cTO).extBut hs₄.extBut D.ci2).extBut hs₅.extBut D.cTO) hv fun h₆ h3₆ hs₆=>wpAny_pure ?_)
 have hTO₆:Is3 h₆ TO x y c0:=hs₆.extBut _ _ D.TOi3 hTO₅
 refine wpAny_bind (wpAny_seqItems hTO₆ rfl ?_);refine wpAny_bind (gi hTO₆ fun h₇ hTO₇ hs₇=>?_)
 replace hTO₇:Is3 h₇ TO x y v:=hTO₇
 refine wpAny_bind (wpAny_letGo (wpAny_pure (wpAny_pure ?_)));refine wpAny_bind (wpAny_seqItems hTO₇ rfl ?_);refine wpAny_bind (wpAny_newTuple ?_)
 have hsz:h₇.objs.size=s.heap.objs.size:=by rw [hs₇.1,hs₆.1,hs₅.1,hs₄.1,hs₃.1,hs₂.1,hs₁.1]
 have hz₇:IsZip h₇ z TI TO .ellipsis:=hs₇.extBut _ _ D.TOz.symm (hs₆.extBut _ _ D.i3z.symm (hs₅.extBut _ _ D.TOz.symm (hs₄.extBut _ _ D.i2z.symm (hs₃.extBut _ _ D.TOz.symm (hs₂.extBut _ _ D.i1z.symm hz₁)))))
 have hk₇:∀ d o,d≠z→d≠TO→d≠i1→d≠i2→d≠i3→s.heap.get? d=some o→h₇.get? d=some o:=fun d o c1 c2 c3 c4 c5 e=>
  hs₇.extBut _ _ c2 (hs₆.extBut _ _ c5 (hs₅.extBut _ _ c2 (hs₄.extBut _ _ c4 (hs₃.extBut _ _ c2 (hs₂.extBut _ _ c3 (hs₁.extBut _ _ c1 e))))))
 have h1₇:h₇.IsTupleIter i1 t (k+1):=((((h1₂.extBut hs₃.extBut D.TOi1.symm).extBut hs₄.extBut D.i12).extBut hs₅.extBut D.TOi1.symm).extBut hs₆.extBut D.i13).extBut hs₇.extBut D.TOi1.symm
 have h2₇:h₇.IsListIter i2 b (k+1):=((h2₄.extBut hs₅.extBut D.TOi2.symm).extBut hs₆.extBut D.i23).extBut hs₇.extBut D.TOi2.symm
 have h3₇:h₇.IsListIter i3 c (k+1):=h3₆.extBut hs₇.extBut D.TOi3.symm
 have hzlt:z<h₇.objs.size:=Heap.lt_size hz₇
 show wpAny _ _ (Builtin.SmallTypes.ownedTupleHandOut (.ref z) (.ref h₇.objs.size) >>= _) _ _ _
 refine wpAny_bind ?_;unfold Builtin.SmallTypes.ownedTupleHandOut
 have hz₈:IsZip (h₇.push { cls:=.type "tuple",data:=.seq #[x,y,v] }) z TI TO .ellipsis:=Heap.get?_push_of_some _ hz₇
 refine wpAny_bind (wpAny_setField_rec hz₈ (by simp) fun h₉ hz₉ hs₉=>?_)
 replace hz₉:IsZip h₉ z TI TO (rawInt h₇.objs.size):=hz₉
 refine wpAny_setField_rec hz₉ (by simp) fun hA hzA hsA=>?_
 replace hzA:IsZip hA z TI TO (rawInt h₇.objs.size):=hzA
 have up:∀ d o,d≠z→h₇.get? d=some o→hA.get? d=some o:=fun d o c1 e=>hsA.extBut _ _ c1 (hs₉.extBut _ _ c1 (Heap.get?_push_of_some _ e))
 have hTA:Is3 hA h₇.objs.size x y v:=hsA.extBut _ _ (Nat.ne_of_gt hzlt) (hs₉.extBut _ _ (Nat.ne_of_gt hzlt) (Heap.get?_push_size _ rfl))
 have hzA8:hA.objs.size=h₇.objs.size+1:=by rw [hsA.1,hs₉.1,Heap.size_push]
 rw [hsz] at hzA hTA hzA8
 refine wpAny_pure ⟨_,rfl,?_⟩
 show Q (.ref h₇.objs.size) _
 rw [hsz]
 exact hQ hA hzA (up _ _ D.TOz hTO₇) (h1₇.at fun o e=>up _ o D.i1z e) (h2₇.at fun o e=>up _ o D.i2z e) (h3₇.at fun o e=>up _ o D.i3z e) hTA hzA8 fun d o c1 c2 c3 c4 c5 e=>up d o c1 (hk₇ d o c1 c2 c3 c4 c5 e)
theorem yB {z TI TO i1 i2 i3 t b c:Addr} {k:Nat} {xs:Array Value} {Q:Fin→Shared→Prop} (hh:A.handled=none) (D:Z3 z TI TO i1 i2 i3 t b c) (hz:IsZip s.heap z TI TO .none) (hTI:Is3 s.heap TI (.ref i1) (.ref i2) (.ref i3))
 (h1:s.heap.IsTupleIter i1 t k) (hl1:s.heap.IsTuple t xs) (hx:xs[k]? = none)
 (hE:∀ h' e,(∀ d o,d≠z→d≠i1→s.heap.get? d=some o→h'.get? d=some o)→(∃ o,h'.get? e=some o∧o.cls = .type "StopIteration")→E (.ref e) { s with heap:=h' }) :
 wpAny (model prog w) A (Builtin.«zip.__next__» ⟨[.ref z],[]⟩) Q E s:=by
 show wpAny _ _ (field (.ref z) 2 >>= _) _ _ _;refine wpAny_bind (wpAny_field hz rfl (x:=.bool false) rfl ?_)
 show wpAny _ _ (field (.ref z) 3 >>= _) _ _ _;refine wpAny_bind (wpAny_field hz rfl (x:=.ref TI) rfl ?_)
 refine wpAny_bind (wpAny_seqItems hTI rfl ?_);show wpAny _ _ (Builtin.SmallTypes.ownedTupleIsFree (.ref z) >>= _) _ _ _
 refine wpAny_bind ?_;unfold Builtin.SmallTypes.ownedTupleIsFree;refine wpAny_bind (wpAny_field hz rfl (x:=.none) rfl (wpAny_pure ?_));simp only [if_true]
 refine wpAny_bind (wpAny_rule ?_);refine wpAny_bind (wpAny_field hz rfl (x:=.ref TO) rfl ?_);refine wpAny_bind (wpAny_setField_rec hz (by simp) fun h₁ hz₁ hs₁=>?_)
 replace hz₁:IsZip h₁ z TI TO .ellipsis:=hz₁
 refine wpAny_bind ?_;simp only [List.zipIdx_cons,List.zipIdx_nil,List.forIn_cons,List.forIn_nil]
 refine wpAny_bind (wpAny_bind (wpAny_onRaise ?_));show wpAny _ _ (Builtin.SmallTypes.nextOf (.ref i1) >>= _) _ _ _
 refine wpAny_bind (iY hh (h1.extBut hs₁.extBut D.i1z) (hl1.extBut hs₁.extBut D.tz) hx fun h₂ e hs₂ he=>?_)
 obtain ⟨oe,hoe,hce⟩:=he
 have hz₂:IsZip h₂ z TI TO .ellipsis:=hs₂ _ _ D.i1z.symm hz₁
 have hez:e≠z:=fun x=>by subst x;rw [hz₂] at hoe;cases hoe;simp at hce
 exact wpAny_setField_rec hz₂ (by simp) fun h₃ _ hs₃=>hE h₃ e (fun d o c1 c3 x=>hs₃.extBut _ _ c1 (hs₂ _ _ c3 (hs₁.extBut _ _ c1 x))) ⟨oe,hs₃.extBut _ _ hez hoe,hce⟩
theorem i8 {z TI TO i1 i2 i3 t b c:Addr} {k:Nat} {xs ys zs:Array Value} {x y v a0 b0 c0:Value} {Q:Option Value→Shared→Prop} (D:Z3 z TI TO i1 i2 i3 t b c) (hz:IsZip s.heap z TI TO .none) (hTI:Is3 s.heap TI (.ref i1) (.ref i2) (.ref i3)) (hTO:Is3 s.heap TO a0 b0 c0)
 (h1:s.heap.IsTupleIter i1 t k) (h2:s.heap.IsListIter i2 b k) (h3:s.heap.IsListIter i3 c k) (hl1:s.heap.IsTuple t xs) (hl2:s.heap.IsList b ys) (hl3:s.heap.IsList c zs) (hx:xs[k]? = some x) (hy:ys[k]? = some y) (hv:zs[k]? = some v)
 (hQ:∀ h',IsZip h' z TI TO (rawInt s.heap.objs.size)→Is3 h' TO x y v→h'.IsTupleIter i1 t (k+1)→h'.IsListIter i2 b (k+1)→h'.IsListIter i3 c (k+1)→Is3 h' s.heap.objs.size x y v→h'.objs.size=s.heap.objs.size+1 →
  (∀ d o,d≠z→d≠TO→d≠i1→d≠i2→d≠i3→s.heap.get? d=some o→h'.get? d=some o)→Q (some (.ref s.heap.objs.size)) { s with heap:=h' }):wpAny (model prog w) A (pyNext (.ref z)) Q E s:=by
 have hT:s.TypeIs (.ref z) "zip":=⟨_,hz,rfl⟩
 unfold pyNext
 exact wpAny_bind (wpAny_attempt (wpAny_callSpecial?_slot (name:=Str.ofString "__next__") hT F.slot_zip_next (wpAny_call_entry F.slot_zip_next hT F.entry_zip_next
  (vZ D hz hTI hTO h1 h2 h3 hl1 hl2 hl3 hx hy hv fun h' a1 a2 a3 a4 a5 a6 a7 a8=>wpAny_pure (hQ h' a1 a2 a3 a4 a5 a6 a7 a8)) (F.args_zip_next_1 _))))
theorem jf {z TI TO i1 i2 i3 t b c:Addr} {k:Nat} {xs:Array Value} {Q:Option Value→Shared→Prop} (hh:A.handled=none) (D:Z3 z TI TO i1 i2 i3 t b c) (hz:IsZip s.heap z TI TO .none) (hTI:Is3 s.heap TI (.ref i1) (.ref i2) (.ref i3))
 (h1:s.heap.IsTupleIter i1 t k) (hl1:s.heap.IsTuple t xs) (hx:xs[k]? = none) (hQ:∀ h',(∀ d o,d≠z→d≠i1→s.heap.get? d=some o→h'.get? d=some o)→Q none { s with heap:=h' }):wpAny (model prog w) A (pyNext (.ref z)) Q E s:=by
 have hT:s.TypeIs (.ref z) "zip":=⟨_,hz,rfl⟩
 unfold pyNext
 refine wpAny_bind (wpAny_attempt (wpAny_callSpecial?_slot (name:=Str.ofString "__next__") hT F.slot_zip_next (wpAny_call_entry F.slot_zip_next hT F.entry_zip_next (yB hh D hz hTI h1 hl1 hx fun h' e hk he=>?_) (F.args_zip_next_1 _))))
 obtain ⟨o,ho,hc⟩:=he
 refine wpAny_bind (wpAny_isInstance (T:="StopIteration") (b:=true) ⟨o,ho,hc⟩ isSubtype_stop ?_)
 exact wpAny_pure (hQ _ hk)
end
end PySem
end
section
namespace PySem
noncomputable abbrev vU (h:Heap) (t:Addr):Heap:=h.push { cls:=.type "tuple_iterator",data:=.fields #[.ref t,.int 0 0] }
noncomputable abbrev vV (h:Heap) (t b:Addr):Heap:=(vU h t).push { cls:=.type "list_iterator",data:=.fields #[.ref b,.int 0 0] }
noncomputable abbrev vW (h:Heap) (t b c:Addr):Heap:=(vV h t b).push { cls:=.type "list_iterator",data:=.fields #[.ref c,.int 0 0] }
noncomputable abbrev vX (h:Heap) (t b c:Addr):Heap:=(vW h t b c).push { cls:=.type "tuple",data:=.seq #[.ref h.objs.size,.ref (vU h t).objs.size,.ref (vV h t b).objs.size] }
noncomputable abbrev vY (h:Heap) (t b c:Addr):Heap:=(vX h t b c).push { cls:=.type "tuple",data:=.seq #[.none,.none,.none] }
noncomputable abbrev oh (h:Heap) (t b c:Addr):Heap:=(vY h t b c).push { cls:=.type "zip",data:=.fields #[.none,.bool false,.bool false,.ref (vW h t b c).objs.size,.ref (vX h t b c).objs.size] }
theorem yC (t b c:Addr) (xs ys zs:Array Value) :
 Meets (Builtin.«zip.__new__» ⟨[.type "zip",.ref t,.ref b,.ref c],[]⟩) (fun _ R s=>s.heap.IsTuple t xs∧s.heap.IsList b ys∧s.heap.IsList c zs∧R (.ok (.ret (.ref (vY s.heap t b c).objs.size))) { s with heap:=oh s.heap t b c }):=
 .of_wp fun prog w A R s h=>by
  obtain ⟨hp,g,d,tk,os⟩:=s;obtain ⟨hl1,hl2,hl3,h⟩:=h
  have hsub:=sub_zip
  have hL1:Heap.IsTuple (Shared.heap ⟨hp,g,d,tk,os⟩) t xs:=hl1
  have hL2:Heap.IsList (Shared.heap ⟨hp.push { cls:=.type "tuple_iterator",data:=.fields #[.ref t,.int 0 0] },g,d,tk,os⟩) b ys:=Heap.IsList.push hl2 _
  have hL3:Heap.IsList (Shared.heap ⟨(hp.push { cls:=.type "tuple_iterator",data:=.fields #[.ref t,.int 0 0] }).push { cls:=.type "list_iterator",data:=.fields #[.ref b,.int 0 0] },g,d,tk,os⟩) c zs:=Heap.IsList.push (Heap.IsList.push hl3 _) _
  wp_walk using wpAny_pyIter_tuple hL1,wpAny_pyIter_list hL2,wpAny_pyIter_list hL3
  exact ⟨_,rfl,h⟩
section
variable {prog:Program} {w:World} {A:Around} {E:Value→Shared→Prop} {s:Shared}
theorem mH {t b c:Addr} {xs ys zs:Array Value} {Q:Value→Shared→Prop} (hl1:s.heap.IsTuple t xs) (hl2:s.heap.IsList b ys) (hl3:s.heap.IsList c zs)
 (h:∀ h',IsZip h' (s.heap.objs.size+5) (s.heap.objs.size+3) (s.heap.objs.size+4) .none→Is3 h' (s.heap.objs.size+3) (.ref s.heap.objs.size) (.ref (s.heap.objs.size+1)) (.ref (s.heap.objs.size+2)) →
  Is3 h' (s.heap.objs.size+4) .none .none .none→h'.IsTupleIter s.heap.objs.size t 0→h'.IsListIter (s.heap.objs.size+1) b 0→h'.IsListIter (s.heap.objs.size+2) c 0→(∀ d o,s.heap.get? d=some o→h'.get? d=some o)→Q (.ref (s.heap.objs.size+5)) { s with heap:=h' }) :
 wpAny (model prog w) A (call (.type "zip") [.ref t,.ref b,.ref c]) Q E s:=by
 refine callType_new F.called_zip (by decide) (F.z3_typeCall _ _ _) (F.z3_newCall _ _ _) (fun obj=>F.z3_args_init obj _ _ _) F.entry_zip_new (yC t b c xs ys zs) ⟨hl1,hl2,hl3,?_⟩
 have z1:(vU s.heap t).objs.size=s.heap.objs.size+1:=Heap.size_push ..
 have z2:(vV s.heap t b).objs.size=s.heap.objs.size+2:=by rw [Heap.size_push,z1]
 have z3:(vW s.heap t b c).objs.size=s.heap.objs.size+3:=by rw [Heap.size_push,z2]
 have z4:(vX s.heap t b c).objs.size=s.heap.objs.size+4:=by rw [Heap.size_push,z3]
 have z5:(vY s.heap t b c).objs.size=s.heap.objs.size+5:=by rw [Heap.size_push,z4]
 have g6:(oh s.heap t b c).get? (vY s.heap t b c).objs.size=some _:=Heap.get?_push_size _ rfl
 have g5:(oh s.heap t b c).get? (vX s.heap t b c).objs.size=some _:=Heap.get?_push_of_some _ (Heap.get?_push_size _ rfl)
 have g4:(oh s.heap t b c).get? (vW s.heap t b c).objs.size=some _:=Heap.get?_push_of_some _ (Heap.get?_push_of_some _ (Heap.get?_push_size _ rfl))
 have g3:(oh s.heap t b c).get? (vV s.heap t b).objs.size=some _:=Heap.get?_push_of_some _ (Heap.get?_push_of_some _ (Heap.get?_push_of_some _ (Heap.get?_push_size _ rfl)))
 have g2:(oh s.heap t b c).get? (vU s.heap t).objs.size=some _:=Heap.get?_push_of_some _ (Heap.get?_push_of_some _ (Heap.get?_push_of_some _ (Heap.get?_push_of_some _ (Heap.get?_push_size _ rfl))))
 have g1:(oh s.heap t b c).get? s.heap.objs.size=some _:=Heap.get?_push_of_some _ (Heap.get?_push_of_some _ (Heap.get?_push_of_some _ (Heap.get?_push_of_some _ (Heap.get?_push_of_some _ (Heap.get?_push_size _ rfl)))))
 show _∧_
 rw [z3,z4,z5] at g6
 rw [z1,z2,z3] at g4
 rw [z4] at g5
 rw [z2] at g3
 rw [z1] at g2
 rw [z5]
 exact ⟨⟨_,g6,rfl⟩,h _ g6 g4 g5 ⟨_,g1,rfl,rfl⟩ ⟨_,g2,rfl,rfl⟩ ⟨_,g3,rfl,rfl⟩ fun d o x=>Heap.get?_push_of_some _ (Heap.get?_push_of_some _ (Heap.get?_push_of_some _ (Heap.get?_push_of_some _ (Heap.get?_push_of_some _ (Heap.get?_push_of_some _ x)))))⟩
end
end PySem
namespace L2.Bk
open L2.Bw
theorem pf {X:Cx} {pins:List (Addr×Obj)} {σ:St} {H:Hp} {s:Shared} (I:Inv X pins σ H s) {c l:Addr} {us:List V} (f:dY X pins H c) (hq:SqT X.K H l us):l≠c:=fun e=>by
 subst e
 rcases hq with q | q
 ·rcases q with q | ⟨o,q⟩
  ·rw [f.1] at q;cases q
  ·rw [f.1] at q;cases q
 ·obtain ⟨o,its,n,q,_⟩:=q
  have bk:=I.ok.mod.kin _ _ q
  rcases f.2.2.2.1 with f | f
  ·exact I.ok.noex _ _ bk f
  ·exact absurd (Nat.lt_of_lt_of_le (Heap.lt_size bk) (Nat.le_trans I.ok.bsz f)) (Nat.lt_irrefl _)
noncomputable def mB (z TI TO i1 i2 i3:Addr):Prop:=z≠TI∧z≠TO∧z≠i1∧z≠i2∧z≠i3∧TI≠TO∧TI≠i1∧TI≠i2∧TI≠i3∧TO≠i1∧TO≠i2∧TO≠i3∧i1≠i2∧i1≠i3∧i2≠i3
theorem mz {z TI TO i1 i2 i3 t b c:Addr} (h:mB z TI TO i1 i2 i3) (ha:∀ d∈[z,TI,TO,i1,i2,i3],t≠d) (hb:∀ d∈[z,TI,TO,i1,i2,i3],b≠d) (hc:∀ d∈[z,TI,TO,i1,i2,i3],c≠d):Z3 z TI TO i1 i2 i3 t b c:=by
 obtain ⟨h1,h2,h3,h4,h5,h6,h7,h8,h9,h10,h11,h12,h13,h14,h15⟩:=h
 simp only [List.mem_cons,List.not_mem_nil,or_false,forall_eq_or_imp,forall_eq] at ha hb hc
 obtain ⟨a1,a2,a3,a4,a5,a6⟩:=ha
 obtain ⟨b1,b2,b3,b4,b5,b6⟩:=hb
 obtain ⟨c1,c2,c3,c4,c5,c6⟩:=hc
 constructor <;> first | assumption | exact Ne.symm (by assumption)
noncomputable def It3 (K:W.Frag) (t b c:Addr):It where
 go:=fun i H=>∃ us xs ys,SqT K H t us∧SqL K H b xs∧SqL K H c ys∧i<us.length∧i<xs.length∧i<ys.length
 yld:=fun i H v H'=>∃ T u x y,v = .ref T∧H T=none∧H'=upd H T (.tup [u,x,y])∧(∀ us,SqT K H t us→us[i]? = some u)∧(∀ xs,SqL K H b xs→xs[i]? = some x)∧∀ ys,SqL K H c ys→ys[i]? = some y
 stop:=fun i H=>∃ us xs ys,SqT K H t us∧SqL K H b xs∧SqL K H c ys∧i=us.length
theorem qN {P:Program} {w:World} {K:W.Frag} {es:List Expr} {k:Nat} {tp:Pos} (t b c z TI TO i1 i2 i3:Addr) (hap:mB z TI TO i1 i2 i3) :
 ia P w K (.Tuple es k tp) (It3 K t b c) [z,TI,TO,i1,i2,i3] z (fun i h=>IsZip h z TI TO .none∧Is3 h TI (.ref i1) (.ref i2) (.ref i3)∧(∃ u v x,Is3 h TO u v x)∧h.IsTupleIter i1 t i∧h.IsListIter i2 b i∧h.IsListIter i3 c i) where
 mem:=by simp
 obj:=fun i h st d hd=>by
  obtain ⟨h1,h2,⟨u,v,x,h3⟩,⟨o4,e4,c4,d4⟩,⟨o5,e5,c5,d5⟩,⟨o6,e6,c6,d6⟩⟩:=st
  have hd':d=z∨d=TI∨d=TO∨d=i1∨d=i2∨d=i3:=by simpa using hd
  rcases hd' with rfl | rfl | rfl | rfl | rfl | rfl
  ·exact ⟨_,h1,fun v q=>by cases (show Data.fields _=Data.cell v from q)⟩
  ·exact ⟨_,h2,fun v q=>by cases (show Data.seq _ _=Data.cell v from q)⟩
  ·exact ⟨_,h3,fun v q=>by cases (show Data.seq _ _=Data.cell v from q)⟩
  ·exact ⟨o4,e4,fun v q=>by rw [d4] at q;cases q⟩
  ·exact ⟨o5,e5,fun v q=>by rw [d5] at q;cases q⟩
  ·exact ⟨o6,e6,fun v q=>by rw [d6] at q;cases q⟩
 keep:=fun i h h' st kp=>by
  obtain ⟨h1,h2,⟨u,v,x,h3⟩,h4,h5,h6⟩:=st
  exact ⟨kp z (by simp) _ h1,kp TI (by simp) _ h2,⟨u,v,x,kp TO (by simp) _ h3⟩,h4.at fun o e=>kp i1 (by simp) o e,h5.at fun o e=>kp i2 (by simp) o e,h6.at fun o e=>kp i3 (by simp) o e⟩
 item:=by
  intro X hP hw hK hc i pins s σ H E I hf st hg
  subst hP hw hK
  obtain ⟨us,xs,ys,hu,hx,hy,l0,l1,l2⟩:=hg
  obtain ⟨its0,r0,p0,z0⟩:=I.tuple hu
  obtain ⟨its1,r1,p1,z1⟩:=I.list hx
  obtain ⟨its2,r2,p2,z2⟩:=I.list hy
  obtain ⟨h1,h2,h3,h4,h5,h6⟩:=st
  have D:Z3 z TI TO i1 i2 i3 t b c:=mz hap (fun d hd=>pf I (hf d hd) hu) (fun d hd=>cE I (hf d hd) hx) (fun d hd=>cE I (hf d hd) hy)
  obtain ⟨uv,euv,ru⟩:=r0.get (List.getElem?_eq_getElem l0)
  obtain ⟨xv,exv,rx⟩:=r1.get (List.getElem?_eq_getElem l1)
  obtain ⟨yv,eyv,ry⟩:=r2.get (List.getElem?_eq_getElem l2)
  obtain ⟨a0,b0,c0,h3'⟩:=h3
  refine i8 D h1 h2 h3' h4 h5 h6 (show s.heap.IsTuple t its0.toArray from p0) p1.isList p2.isList (x:=uv) (y:=xv) (v:=yv) (by simpa using euv) (by simpa using exv) (by simpa using eyv) fun h' a1 a2 a3 a4 a5 a6 a7 kp=>?_
  have lt:∀ {d o},s.heap.get? d=some o→s.heap.objs.size≠d:=fun e=>Nat.ne_of_gt (Heap.lt_size e)
  refine ⟨_,rfl,wpAny_letOwnedTupleGo_zip a1 fun h2' hz' hs'=>?_⟩
  have n1:s.heap.objs.size≠z:=lt h1
  have n2:s.heap.objs.size≠TO:=lt h3'
  have n3:s.heap.objs.size≠i1:=by obtain ⟨_,e,_⟩:=h4;exact lt e
  have n4:s.heap.objs.size≠i2:=by obtain ⟨_,e,_⟩:=h5;exact lt e
  have n5:s.heap.objs.size≠i3:=by obtain ⟨_,e,_⟩:=h6;exact lt e
  have n6:s.heap.objs.size≠TI:=lt h2
  have ht2:IsTup h2' s.heap.objs.size #[uv,xv,yv]:=⟨_,hs'.extBut _ _ n1 a6,rfl,_,rfl⟩
  have hT:s.heap.objs.size≤s.heap.objs.size:=Nat.le_refl _
  have I2:Inv X pins σ (upd H s.heap.objs.size (.tup [us[i],xs[i],ys[i]])) { s with heap:=h2',toks:=s.toks }:=
   hW (ch:=[z,TO,i1,i2,i3]) I (fun d o hd e=>hs'.extBut _ _ (fun x=>hd (by simp [x])) (kp d o (fun x=>hd (by simp [x])) (fun x=>hd (by simp [x])) (fun x=>hd (by simp [x])) (fun x=>hd (by simp [x])) (fun x=>hd (by simp [x])) e))
    (fun d hd=>hf d (by simp at hd ⊢;rcases hd with rfl | rfl | rfl | rfl | rfl <;> simp)) hT ⟨[uv,xv,yv],.cons ru (.cons rx (.cons ry .nil)),ht2⟩ (sz 3)
  refine ⟨.ref s.heap.objs.size,_,I2,rfl,⟨s.heap.objs.size,us[i],xs[i],ys[i],rfl,I.hok.fresh hT,rfl,fun vs hv=>?_,fun vs hv=>?_,fun vs hv=>?_⟩,
   ⟨hz',hs'.extBut _ _ D.TIz (kp _ _ D.TIz D.TITO D.TIi1 D.TIi2 D.TIi3 h2),⟨_,_,_,hs'.extBut _ _ D.TOz a2⟩,a3.extBut hs'.extBut D.i1z,a4.extBut hs'.extBut D.i2z,a5.extBut hs'.extBut D.i3z⟩,fun d hd=>?_⟩
  ·rw [I.tuple_inj hv hu];exact List.getElem?_eq_getElem l0
  ·rw [I.list_inj hv hx];exact List.getElem?_eq_getElem l1
  ·rw [I.list_inj hv hy];exact List.getElem?_eq_getElem l2
  ·have hd':d=z∨d=TI∨d=TO∨d=i1∨d=i2∨d=i3:=by simpa using hd
   have hne:d≠s.heap.objs.size:=by
    rcases hd' with rfl | rfl | rfl | rfl | rfl | rfl
    ·exact n1.symm
    ·exact n6.symm
    ·exact n2.symm
    ·exact n3.symm
    ·exact n4.symm
    ·exact n5.symm
   rw [aj hne]
   exact (hf d hd).1
 done:=by
  intro X hP hw hK hc i pins s σ H E I hf st hg
  subst hP hw hK
  obtain ⟨us,xs,ys,hu,hx,hy,hi⟩:=hg
  obtain ⟨its0,r0,p0,z0⟩:=I.tuple hu
  obtain ⟨h1,h2,h3,h4,h5,h6⟩:=st
  have len0:=r0.length
  have D:Z3 z TI TO i1 i2 i3 t b c:=mz hap (fun d hd=>pf I (hf d hd) hu) (fun d hd=>cE I (hf d hd) hx) (fun d hd=>cE I (hf d hd) hy)
  refine jf (I.ok.hd hc) D h1 h2 h4 (show s.heap.IsTuple t its0.toArray from p0) (by simp;omega) fun h' kp=>⟨rfl,?_⟩
  exact hV (ch:=[z,i1]) (t':=s.toks) I (fun d o hd e=>kp d o (fun x=>hd (by simp [x])) (fun x=>hd (by simp [x])) e) (fun d hd=>hf d (by simp at hd ⊢;rcases hd with rfl | rfl <;> simp))
 self:=fun _ _ _ _ _ st h=>wpAny_pyIter_zip st.1 h
theorem uj (n:Nat):(n+5:Nat)≠n+3∧(n+5:Nat)≠n+4∧(n+5:Nat)≠n∧(n+5:Nat)≠n+1∧(n+5:Nat)≠n+2∧(n+3:Nat)≠n+4∧(n+3:Nat)≠n∧(n+3:Nat)≠n+1∧(n+3:Nat)≠n+2∧(n+4:Nat)≠n∧(n+4:Nat)≠n+1∧(n+4:Nat)≠n+2∧(n:Nat)≠n+1∧(n:Nat)≠n+2∧(n+1:Nat)≠n+2:=by omega
theorem wO (n:Nat):mB (n+5) (n+3) (n+4) n (n+1) (n+2):=uj n
theorem le6 (n c:Nat) (h:c=n+5∨c=n+3∨c=n+4∨c=n∨c=n+1∨c=n+2):n≤c:=by omega
section
variable {X:Cx}
noncomputable def yQ (K:W.Frag) (ta:TA):TI:=fun σ H R=>ta σ H fun vs H1=>∃ t b c us xs ys,vs = [.ref t,.ref b,.ref c]∧SqT K H1 t us∧SqL K H1 b xs∧SqL K H1 c ys∧R (It3 K t b c) H1
theorem Aj {x y z:V} {us:List Value} (r:aQ [x,y,z] us):∃ a b c,us = [a,b,c]∧aU x a∧aU y b∧aU z c:=by
 cases r with
 | cons r1 r=>cases r with
   | cons r2 r=>cases r with
     | cons r3 r=>cases r;exact ⟨_,_,_,rfl,r1,r2,r3⟩
theorem vk {es:List Expr} {k:Nat} {tp p pos:Pos} {a b c:Expr} {ta:TA} (hg:Gl X "zip") (hm:X.mg "zip" = none) (ha:PA X [a,b,c] ta) (hs:starEach [a,b,c] X.env = [(false,eval a X.env),(false,eval b X.env),(false,eval c X.env)]:=by rfl) (hs2:starEach [b,c] X.env = [(false,eval b X.env),(false,eval c X.env)]:=by rfl) :
 PI X (.Tuple es k tp) (.Call (.Name "zip" p) [a,b,c] [] pos) (yQ X.K ta):=by
 intro pins s σ H R I h
 refine Call_ (dN I hg hm boot_zip (PyProof.Rows.callWith_type1 (thn (ha pos pins s σ H _ I h) fun us s1 q1=>?_) (by rw [hs,hs2]) (by rw [hs2];rfl)))
 obtain ⟨vs,H1,I1,r1,t1,l1,l2,ws,xs,ys,e,hw,hx,hy,q⟩:=q1
 subst e
 obtain ⟨u0,u1,u2,e,ru0,ru1,ru2⟩:=Aj r1
 subst e
 cases ru0;cases ru1;cases ru2
 obtain ⟨i0,v0,p0,z0⟩:=I1.tuple hw
 obtain ⟨i1,v1,p1,z1⟩:=I1.list hx
 obtain ⟨i2,v2,p2,z2⟩:=I1.list hy
 refine mH (show s1.heap.IsTuple t1 i0.toArray from p0) p1.isList p2.isList fun h' hz hTI hTO g0 g1 g2 kp=>wpAny_pyIter_zip hz ?_
 have I2:Inv X pins σ H1 { s1 with heap:=h' }:=I1.kept (t':=s1.toks) kp
 refine ⟨s1.heap.objs.size+5,[s1.heap.objs.size+5,s1.heap.objs.size+3,s1.heap.objs.size+4,s1.heap.objs.size,s1.heap.objs.size+1,s1.heap.objs.size+2],_,It3 X.K t1 l1 l2,H1,rfl,I2,qN t1 l1 l2 _ _ _ _ _ _ (wO _),⟨hz,hTI,⟨_,_,_,hTO⟩,g0,g1,g2⟩,fun d hd=>?_,q⟩
 have hd':s1.heap.objs.size≤d:=le6 _ _ (by simpa using hd)
 exact I1.fpOk hd' (I1.hok.fresh hd')
end
noncomputable def fB:List (Str×List Str):=[("whole",[]),("truth",[]),("?",[]),("to",["arg","res"]),("row",["item"]),("pair",["one","two"])]
noncomputable def aJ (h:Str):List Str:=(KTD.datumAt h fB).getD []
theorem iz {h:Str} {n:Nat} (e:bO h=some n):h∈(["whole","truth","?","row","to","pair"]:List Str):=by
 unfold bO at e
 by_cases c1:h = "whole"
 ·simp [c1]
 rw [if_neg c1] at e
 by_cases c2:h = "truth"
 ·simp [c2]
 rw [if_neg c2] at e
 by_cases c3:h = "?"
 ·simp [c3]
 rw [if_neg c3] at e
 by_cases c4:h = "row"
 ·simp [c4]
 rw [if_neg c4] at e
 by_cases c5:h = "to"
 ·simp [c5]
 rw [if_neg c5] at e
 by_cases c6:h = "pair"
 ·simp [c6]
 rw [if_neg c6] at e
 cases e
theorem jT:∀ h∈(["whole","truth","?","row","to","pair"]:List Str),KTD.datumAt h fB=some (aJ h)∧bO h=some (aJ h).length:=by nofun
theorem gg {h:Str} {n:Nat} (e:bO h=some n):(aJ h).length=n:=by
 have:=(jT h (iz e)).2
 rw [e] at this
 exact (Option.some.inj this).symm
mutual
noncomputable def Kn.part:Kn→Kn→Option (List Str)
 | .mk h ks,.mk g ls=>if h = "?" then none else if g = "?" then none else if h=g then Kn.parts (aJ h) ks ls else some []
noncomputable def Kn.parts:List Str→List Kn→List Kn→Option (List Str)
 | s :: ss,t :: r,u :: q=>match t.part u with
   | some w=>some (s :: w)
   | none=>Kn.parts ss r q
 | [],_,_=>none
 | _ :: _,[],_=>none
 | _ :: _,_ :: _,[]=>none
end
mutual
noncomputable def Kn.ways:Kn→Kn→List (List Str)
 | .mk h ks,.mk g ls=>if h = "?" then [] else if g = "?" then [] else if h=g then Kn.wayss (aJ h) ks ls else [[]]
noncomputable def Kn.wayss:List Str→List Kn→List Kn→List (List Str)
 | s :: ss,t :: r,u :: q=>(t.ways u).map (s :: ·) ++ Kn.wayss ss r q
 | [],_,_=>[]
 | _ :: _,[],_=>[]
 | _ :: _,_ :: _,[]=>[]
end
mutual
theorem jJ:∀ (a b:Kn),a.part b=(a.ways b).head?
 | .mk h ks,.mk g ls=>by
   show (if h = "?" then none else if g = "?" then none else if h=g then Kn.parts (aJ h) ks ls else some [])=(if h = "?" then [] else if g = "?" then [] else if h=g then Kn.wayss (aJ h) ks ls else [[]]).head?
   by_cases c1:h = "?"
   ·rw [if_pos c1,if_pos c1];rfl
   rw [if_neg c1,if_neg c1]
   by_cases c2:g = "?"
   ·rw [if_pos c2,if_pos c2];rfl
   rw [if_neg c2,if_neg c2]
   by_cases c3:h=g
   ·rw [if_pos c3,if_pos c3];exact gE _ ks ls
   ·rw [if_neg c3,if_neg c3];rfl
theorem gE:∀ (ss:List Str) (ks ls:List Kn),Kn.parts ss ks ls=(Kn.wayss ss ks ls).head?
 | [],_,_=>by rw [Kn.parts,Kn.wayss];rfl
 | _ :: _,[],_=>rfl
 | _ :: _,_ :: _,[]=>rfl
 | s :: ss,t :: r,u :: q=>by
   show (match t.part u with | some w=>some (s :: w) | none=>Kn.parts ss r q)=((t.ways u).map (s :: ·) ++ Kn.wayss ss r q).head?
   rw [jJ t u,gE ss r q]
   cases t.ways u with
   | nil=>rfl
   | cons w ws=>rfl
end
mutual
theorem jI:∀ (a b:Kn),a.part b=b.part a
 | .mk h ks,.mk g ls=>by
   show (if h = "?" then none else if g = "?" then none else if h=g then Kn.parts (aJ h) ks ls else some [])=(if g = "?" then none else if h = "?" then none else if g=h then Kn.parts (aJ g) ls ks else some [])
   by_cases c1:h = "?"
   ·rw [if_pos c1,if_pos c1];split <;> rfl
   rw [if_neg c1,if_neg c1]
   by_cases c2:g = "?"
   ·rw [if_pos c2,if_pos c2]
   rw [if_neg c2,if_neg c2]
   by_cases c3:h=g
   ·subst c3
    rw [if_pos rfl,if_pos rfl];exact iJ _ ks ls
   ·rw [if_neg c3,if_neg (fun z=>c3 z.symm)]
theorem iJ:∀ (ss:List Str) (ks ls:List Kn),Kn.parts ss ks ls=Kn.parts ss ls ks
 | [],ks,ls=>by rw [Kn.parts,Kn.parts]
 | _ :: _,[],[]=>rfl
 | _ :: _,[],_ :: _=>rfl
 | _ :: _,_ :: _,[]=>rfl
 | s :: ss,t :: r,u :: q=>by
   show (match t.part u with | some w=>some (s :: w) | none=>Kn.parts ss r q)=(match u.part t with | some w=>some (s :: w) | none=>Kn.parts ss q r)
   rw [jI t u,iJ ss r q]
end
theorem ni {ss:List Str} {ks ls:List Kn} {i:Nat} (h0:i<ss.length) (h1:i<ks.length) (h2:i<ls.length) :
 Kn.parts (ss.drop i) (ks.drop i) (ls.drop i)=match ks[i].part ls[i] with | some w=>some (ss[i] :: w) | none=>Kn.parts (ss.drop (i+1)) (ks.drop (i+1)) (ls.drop (i+1)):=by
 rw [List.drop_eq_getElem_cons h0,List.drop_eq_getElem_cons h1,List.drop_eq_getElem_cons h2]
 rfl
mutual
theorem j3:∀ (a b:Kn),∀ w∈a.ways b,w.length<a.dep
 | .mk h ks,.mk g ls,w,hw=>by
   have hw':w∈(if h = "?" then [] else if g = "?" then [] else if h=g then Kn.wayss (aJ h) ks ls else [[]]):=hw
   have hd:(Kn.mk h ks).dep=1+Kn.deps ks:=rfl
   split at hw'
   ·cases hw'
   ·split at hw'
    ·cases hw'
    ·split at hw'
     ·have:=gH (aJ h) ks ls w hw'
      omega
     ·rw [List.mem_singleton.mp hw',List.length_nil]
      omega
theorem gH:∀ (ss:List Str) (ks ls:List Kn),∀ w∈Kn.wayss ss ks ls,w.length≤Kn.deps ks
 | [],_,_,_,hw=>by rw [Kn.wayss] at hw;cases hw
 | _ :: _,[],_,_,hw=>nomatch hw
 | _ :: _,_ :: _,[],_,hw=>nomatch hw
 | s :: ss,t :: r,u :: q,w,hw=>by
   have hd:Kn.deps (t :: r)=max t.dep (Kn.deps r):=rfl
   rcases List.mem_append.mp hw with z | z
   ·obtain ⟨v,hv,e⟩:=List.mem_map.mp z
    subst e
    have:=j3 t u v hv
    rw [List.length_cons]
    omega
   ·have:=gH ss r q w z
    omega
end
noncomputable def wd (w:List Str):Dk:=.tup (w.map Dk.str)
noncomputable def od:Option (List Str)→Dk
 | none=>.non
 | some w=>wd w
theorem xI (b:Kn):qK.part b=none:=by
 obtain ⟨g,ls⟩:=b
 have e:qK.part (.mk g ls)=if ("?":Str) = "?" then none else if g = "?" then none else if ("?":Str)=g then Kn.parts (aJ "?") [] ls else some []:=rfl
 exact e.trans (if_pos rfl)
end L2.Bk
end
section
namespace L2.Bk
open L2.Bw PyProof.Rows.LSm
mutual
def Dk.eqb:Dk→Dk→Bool
 | .tup ds,y=>match y with | .tup es=>dX ds es | _=>false
 | .non,y=>match y with | .non=>true | _=>false
 | .bl a,y=>match y with | .bl b=>a == b | .int b=>(if a then 1 else 0) == b | _=>false
 | .int a,y=>match y with | .int b=>a == b | .bl b=>a == (if b then 1 else 0) | _=>false
 | .str a,y=>match y with | .str b=>a == b | _=>false
def dX:List Dk→List Dk→Bool
 | [],y=>match y with | []=>true | _ :: _=>false
 | d :: ds,y=>match y with | e :: es=>d.eqb e && dX ds es | []=>false
end
mutual
theorem iw:∀ (d:Dk),d.eqb d=true
 | .tup ds=>by show dX ds ds=true;exact cK ds
 | .non=>rfl
 | .bl a=>by show (a == a)=true;simp
 | .int a=>by show (a == a)=true;simp
 | .str a=>by show (a == a)=true;simp
theorem cK:∀ (ds:List Dk),dX ds ds=true
 | []=>rfl
 | d :: ds=>by show (d.eqb d && dX ds ds)=true;rw [iw d,cK ds];rfl
end
theorem eO:∀ (ds es:List Dk),dX ds es=((List.range (min ds.length es.length)).all (fun j=>(ds[j]?.getD .non).eqb (es[j]?.getD .non)) && ds.length == es.length)
 | [],[]=>rfl
 | [],e :: es=>by simp [dX]
 | d :: ds,[]=>by simp [dX]
 | d :: ds,e :: es=>by
   show (d.eqb e && dX ds es)=_
   rw [eO ds es]
   have m:min (d :: ds).length (e :: es).length=min ds.length es.length+1:=by simp only [List.length_cons];omega
   rw [m,List.range_succ_eq_map,List.all_cons,List.all_map]
   have e2:((d :: ds).length == (e :: es).length)=(ds.length == es.length):=by simp
   rw [e2,Bool.and_assoc]
   rfl
def unV:Value→V
 | .none=>.non | .bool b=>.bl b | .int i _=>.int i | .str x _=>.str x | .bytes b _=>.byt b | .float b _=>.flt b | .ref a=>.ref a | .type n=>.ty n | _=>.non
theorem py {x:V} {u:Value} (h:aU x u):unV u=x:=by
 cases x with
 | non=>cases (show u=Value.none from h);rfl
 | bl b=>cases (show u=Value.bool b from h);rfl
 | int i=>obtain ⟨t,e⟩:=(show ∃ t,u=Value.int i t from h);subst e;rfl
 | str i=>obtain ⟨t,e⟩:=(show ∃ t,u=Value.str i t from h);subst e;rfl
 | byt i=>obtain ⟨t,e⟩:=(show ∃ t,u=Value.bytes i t from h);subst e;rfl
 | flt i=>obtain ⟨t,e⟩:=(show ∃ t,u=Value.float i t from h);subst e;rfl
 | ref a=>cases (show u=Value.ref a from h);rfl
 | ty n=>cases (show u=Value.type n from h);rfl
theorem sW {x y:V} {u:Value} (hx:aU x u) (hy:aU y u):x=y:=(py hx).symm.trans (py hy)
theorem my:∀ {xs ys:List V} {us:List Value},aQ xs us→aQ ys us→xs=ys
 | _,_,_,.nil,h=>by cases h;rfl
 | _,_,_,.cons r t,h=>by
   cases h with
   | cons r' t'=>rw [sW r r',my t t']
section
variable {X:Cx}
theorem t9 {s:Shared} {pins:List (Addr×Obj)} {σ:St} {H:Hp} (I:Inv X pins σ H s) {a:Addr} {xs ys:List V} (h1:Tp X.K H a xs) (h2:Tp X.K H a ys):xs=ys:=by
 obtain ⟨i1,r1,⟨o1,e1,c1,n1,d1⟩,z1⟩:=I.tuple h1.sq
 obtain ⟨i2,r2,⟨o2,e2,c2,n2,d2⟩,z2⟩:=I.tuple h2.sq
 rw [e1] at e2
 cases e2
 rw [d1] at d2
 injection d2 with d2
 have e:i1=i2:=by simpa using d2
 subst e
 exact my r1 r2
mutual
theorem xV {s:Shared} {pins:List (Addr×Obj)} {σ:St} {H:Hp} (I:Inv X pins σ H s):∀ {d e:Dk} {x:V},RK X.K H d x→RK X.K H e x→d=e
 | .tup ds,e,x,h,h2=>by
   obtain ⟨a,vs,rfl,ha,ta⟩:=RK.get h
   cases e with
   | tup es=>
     obtain ⟨b,ws,e,hb,tb⟩:=RK.get h2
     cases e
     cases t9 I ha hb
     rw [kR I ta tb]
   | non=>rw [RK] at h2;cases h2
   | int i=>rw [RK] at h2;cases h2
   | bl i=>rw [RK] at h2;cases h2
   | str i=>rw [RK] at h2;cases h2
 | .non,e,x,h,h2=>by
   rw [RK] at h;subst h
   cases e with
   | tup es=>obtain ⟨b,ws,e,hb,tb⟩:=RK.get h2;cases e
   | non=>rfl
   | _=>(rw [RK] at h2) <;> cases h2
 | .int _,e,x,h,h2=>by
   rw [RK] at h;subst h
   cases e with
   | tup es=>obtain ⟨b,ws,e,hb,tb⟩:=RK.get h2;cases e
   | _=>rw [RK] at h2;cases h2;try rfl
 | .bl _,e,x,h,h2=>by
   rw [RK] at h;subst h
   cases e with
   | tup es=>obtain ⟨b,ws,e,hb,tb⟩:=RK.get h2;cases e
   | _=>rw [RK] at h2;cases h2;try rfl
 | .str _,e,x,h,h2=>by
   rw [RK] at h;subst h
   cases e with
   | tup es=>obtain ⟨b,ws,e,hb,tb⟩:=RK.get h2;cases e
   | _=>rw [RK] at h2;cases h2;try rfl
theorem kR {s:Shared} {pins:List (Addr×Obj)} {σ:St} {H:Hp} (I:Inv X pins σ H s):∀ {ds es:List Dk} {xs:List V},RKs X.K H ds xs→RKs X.K H es xs→ds=es
 | [],es,xs,h,h2=>by
   cases (show xs = [] from h)
   cases es with
   | nil=>rfl
   | cons e es=>obtain ⟨v,r,e,_⟩:=h2;cases e
 | d :: ds,es,xs,h,h2=>by
   obtain ⟨v,r,rfl,h,t⟩:=h
   cases es with
   | nil=>cases (show v :: r = [] from h2)
   | cons e es=>
     obtain ⟨v',r',e,h',t'⟩:=h2
     cases e
     rw [xV I h h',kR I t t']
end
def Dk.flat:Dk→Bool
 | .tup _=>false
 | _=>true
theorem ix {s:Shared} {A:Around} {x:V} {u:Value} {b:Addr} {its:Array Value} (fx:cV x=true) (ru:aU x u) (p:s.heap.IsTuple b its) (hu:A.units<cLine):SeqAt.EqAt A s u (.ref b) false∧SeqAt.EqAt A s (.ref b) u false:=by
 cases x with
 | non=>cases (show u=Value.none from ru);exact ⟨SeqAt.EqAt.none_tuple p hu,SeqAt.EqAt.tuple_none p hu⟩
 | bl k=>cases (show u=Value.bool k from ru);exact ⟨SeqAt.EqAt.bool_tuple k p hu,SeqAt.EqAt.tuple_bool k p hu⟩
 | int k=>obtain ⟨t,e⟩:=(show ∃ t,u=Value.int k t from ru);subst e;exact ⟨SeqAt.EqAt.int_tuple k t p hu,SeqAt.EqAt.tuple_int k t p hu⟩
 | str k=>obtain ⟨t,e⟩:=(show ∃ t,u=Value.str k t from ru);subst e;exact ⟨SeqAt.EqAt.str_tuple k t p hu,SeqAt.EqAt.tuple_str k t p hu⟩
 | byt k=>cases fx
 | flt k=>cases fx
 | ref k=>cases fx
 | ty k=>cases fx
theorem dZ {K:W.Frag} {H:Hp} {d:Dk} {x:V} (h:RK K H d x):(∃ ds,d = .tup ds)∨(cV x=true∧(∀ es,d.eqb (.tup es)=false∧(Dk.tup es).eqb d=false)∧d.dq=0):=by
 cases d with
 | tup ds=>exact .inl ⟨ds,rfl⟩
 | non=>rw [RK] at h;subst h;exact .inr ⟨rfl,fun es=>⟨rfl,rfl⟩,re⟩
 | int k=>rw [RK] at h;subst h;exact .inr ⟨rfl,fun es=>⟨rfl,rfl⟩,mK _⟩
 | bl k=>rw [RK] at h;subst h;exact .inr ⟨rfl,fun es=>⟨rfl,rfl⟩,v9 _⟩
 | str k=>rw [RK] at h;subst h;exact .inr ⟨rfl,fun es=>⟨rfl,rfl⟩,kl _⟩
theorem lR {K:W.Frag} {H:Hp} {d e:Dk} {x y:V} (h:RK K H d x) (h2:RK K H e y) (fx:cV x=true) (fy:cV y=true):d.eqb e=eqV x y:=by
 cases d with
 | tup ds=>obtain ⟨a,vs,e,_⟩:=RK.get h;subst e;cases fx
 | _=>
   rw [RK] at h
   cases e with
   | tup es=>obtain ⟨a,vs,e,_⟩:=RK.get h2;subst e;cases fy
   | _=>rw [RK] at h2;subst h h2;rfl
theorem sX {s:Shared} {pins:List (Addr×Obj)} {σ:St} {H:Hp} (I:Inv X pins σ H s):∀ (n:Nat) {A:Around} {d e:Dk} {x y:V} {u v:Value},d.dq≤n→RK X.K H d x→RK X.K H e y→aU x u→aU y v→A.units+n<cLine→SeqAt.EqAt A s u v (d.eqb e):=by
 intro n
 induction n with
 | zero=>
   intro A d e x y u v hn hx hy ru rv hu
   rcases dZ hx with ⟨ds,rfl⟩ | ⟨fx,nx,dx⟩
   ·have k:1+dqs ds≤0:=hn;omega
   rcases dZ hy with ⟨es,rfl⟩ | ⟨fy,ny,dy⟩
   ·obtain ⟨b,ws,rfl,hb,tb⟩:=RK.get hy
    obtain ⟨i2,r2,p2,z2⟩:=I.tuple hb.sq
    cases rv
    rw [(nx es).1]
    exact (ix fx ru p2 (by omega)).1
   ·rw [lR hx hy fx fy]
    exact cD ru rv fx fy
 | succ n ih=>
   intro A d e x y u v hn hx hy ru rv hu
   rcases dZ hx with ⟨ds,rfl⟩ | ⟨fx,nx,dx⟩
   ·have hn':1+dqs ds≤n+1:=hn
    obtain ⟨a,vs,rfl,ha,ta⟩:=RK.get hx
    obtain ⟨i1,r1,p1,z1⟩:=I.tuple ha.sq
    rcases dZ hy with ⟨es,rfl⟩ | ⟨fy,ny,dy⟩
    ·obtain ⟨b,ws,rfl,hb,tb⟩:=RK.get hy
     cases ru;cases rv
     by_cases hab:a=b
     ·subst hab
      have e1:=t9 I ha hb
      subst e1
      rw [kR I ta tb]
      have e2:(Dk.tup es).eqb (.tup es)=true:=iw _
      rw [e2]
      exact SeqAt.EqAt.same _
     ·obtain ⟨i2,r2,p2,z2⟩:=I.tuple hb.sq
      have l1:=r1.length
      have l2:=r2.length
      have l3:=ta.length
      have l4:=tb.length
      have key:=SeqAt.RcAt.tuples (A:=A) (s:=s) (e:=fun j=>(ds[j]?.getD .non).eqb (es[j]?.getD .non)) p1 p2 (by omega) fun j h1 h2=>by
       have hjd:j<ds.length:=by simp at h1;omega
       have hje:j<es.length:=by simp at h2;omega
       obtain ⟨x1,e1,q1⟩:=ta.get (List.getElem?_eq_getElem hjd)
       obtain ⟨y1,e2,q2⟩:=tb.get (List.getElem?_eq_getElem hje)
       have k:=cH (List.getElem_mem hjd)
       simp only [List.getElem?_eq_getElem hjd,List.getElem?_eq_getElem hje,Option.getD_some]
       exact ih (A:=A.in1) (by omega) q1 q2 (cP r1 e1 h1) (cP r2 e2 h2) (by show A.units+1+n<cLine;omega)
      have val:((List.range (min i1.toArray.size i2.toArray.size)).all (fun j=>(ds[j]?.getD .non).eqb (es[j]?.getD .non)) && i1.toArray.size == i2.toArray.size)=dX ds es:=by
       rw [eO,List.size_toArray,List.size_toArray,← l1,← l2,← l3,← l4]
      rw [val] at key
      exact SeqAt.EqAt.of_refs hab key
    ·cases ru
     rw [(ny ds).2]
     exact (ix fy rv p1 (by omega)).2
   ·rcases dZ hy with ⟨es,rfl⟩ | ⟨fy,ny,dy⟩
    ·obtain ⟨b,ws,rfl,hb,tb⟩:=RK.get hy
     obtain ⟨i2,r2,p2,z2⟩:=I.tuple hb.sq
     cases rv
     rw [(nx es).1]
     exact (ix fx ru p2 (by omega)).1
    ·rw [lR hx hy fx fy]
     exact cD ru rv fx fy
theorem rB {k:Nat} (hr:Room k X.A) {s:Shared} {pins:List (Addr×Obj)} {σ:St} {H:Hp} (I:Inv X pins σ H s) {x y:V} {u v:Value} {ds es:List Dk} (hx:RK X.K H (.tup ds) x) (hy:RK X.K H (.tup es) y) (hd:dqs ds≤60) (ru:aU x u) (rv:aU y v):SeqAt.RcAt X.A s u v (dX ds es)∧SeqAt.RcNeAt X.A s u v (!dX ds es):=by
 have hu:=hr.units
 obtain ⟨a,vs,rfl,ha,ta⟩:=RK.get hx
 obtain ⟨b,ws,rfl,hb,tb⟩:=RK.get hy
 cases ru;cases rv
 obtain ⟨i1,r1,p1,z1⟩:=I.tuple ha.sq
 obtain ⟨i2,r2,p2,z2⟩:=I.tuple hb.sq
 have l1:=r1.length
 have l2:=r2.length
 have l3:=ta.length
 have l4:=tb.length
 have it:∀ j (h1:j<i1.toArray.size) (h2:j<i2.toArray.size),SeqAt.EqAt X.A.in1 s i1.toArray[j] i2.toArray[j] ((fun j=>(ds[j]?.getD .non).eqb (es[j]?.getD .non)) j):=fun j h1 h2=>by
  have hjd:j<ds.length:=by simp at h1;omega
  have hje:j<es.length:=by simp at h2;omega
  obtain ⟨x1,e1,q1⟩:=ta.get (List.getElem?_eq_getElem hjd)
  obtain ⟨y1,e2,q2⟩:=tb.get (List.getElem?_eq_getElem hje)
  have k:=cH (List.getElem_mem hjd)
  simp only [List.getElem?_eq_getElem hjd,List.getElem?_eq_getElem hje,Option.getD_some]
  exact sX I 60 (A:=X.A.in1) (by omega) q1 q2 (cP r1 e1 h1) (cP r2 e2 h2) (by show X.A.units+1+60<cLine;omega)
 have e:((List.range (min i1.toArray.size i2.toArray.size)).all (fun j=>(ds[j]?.getD .non).eqb (es[j]?.getD .non)) && i1.toArray.size == i2.toArray.size)=dX ds es:=by
  rw [eO,List.size_toArray,List.size_toArray,← l1,← l2,← l3,← l4]
 have k1:=SeqAt.RcAt.tuples (A:=X.A) (s:=s) p1 p2 (by omega) it
 have k2:=SeqAt.RcNeAt.tuples (A:=X.A) (s:=s) p1 p2 (by omega) it
 rw [e] at k1 k2
 exact ⟨k1,k2⟩
def vq (K:W.Frag):R2:=fun x y H Q=>(∃ ds es,RK K H (.tup ds) x∧RK K H (.tup es) y∧dqs ds≤60∧Q (.bl (dX ds es)) H)∨xS K x y H Q
def AB (K:W.Frag):R2:=fun x y H Q=>(∃ ds es,RK K H (.tup ds) x∧RK K H (.tup es) y∧dqs ds≤60∧Q (.bl (!dX ds es)) H)∨zD K x y H Q
theorem ax {k:Nat} (hr:Room k X.A):OpR X (compareOp .Eq) (vq X.K):=by
 intro pins s σ H x y v u Q I rx ry h
 rcases h with ⟨ds,es,h1,h2,hd,q⟩ | h
 ·exact (rB hr I h1 h2 hd rx ry).1 _ _ _ _ ⟨.bl _,H,I,rfl,q⟩
 ·exact xA hr pins s σ H x y v u Q I rx ry h
theorem iI {k:Nat} (hr:Room k X.A):OpR X (compareOp .NotEq) (AB X.K):=by
 intro pins s σ H x y v u Q I rx ry h
 rcases h with ⟨ds,es,h1,h2,hd,q⟩ | h
 ·exact (rB hr I h1 h2 hd rx ry).2 _ _ _ _ ⟨.bl _,H,I,rfl,q⟩
 ·exact xD hr pins s σ H x y v u Q I rx ry h
def wy (K:W.Frag):R2:=fun x y H Q=>∃ a b ys,x = .ref a∧y = .ref b∧SqT K H a []∧SqT K H b ys∧Q (.ref b) H
theorem u7:OpR X (binaryOp .Add) (wy X.K):=by
 intro pins s σ H x y v u Q I rx ry h
 obtain ⟨a,b,ys,rfl,rfl,ha,hb,q⟩:=h
 cases rx
 cases ry
 obtain ⟨its,r1,p1,_⟩:=I.tuple ha
 obtain ⟨its2,r2,p2,_⟩:=I.tuple hb
 cases r1
 obtain ⟨⟨cls,dd,data,sl⟩,ho,hc,n,hd⟩:=id p1
 obtain ⟨⟨cls2,dd2,data2,sl2⟩,ho2,hc2,n2,hd2⟩:=id p2
 simp only at hc hd hc2 hd2
 subst hc hd hc2 hd2
 exact concat_meets ⟨_,ho,rfl⟩ ⟨_,ho2,rfl⟩ noFill_tuple_add seq_tuple_add PySem.F.slot_tuple_add PySem.F.entry_tuple_add (PySem.F.args_tuple_add_2 _ _)
  (tuple_addW0 a b #[] its2.toArray n n2 dd dd2 sl sl2 rfl) ⟨ho,ho2,⟨.ref b,H,I,rfl,q⟩⟩
def jM (K:W.Frag):R2:=fun x y H Q=>wy K x y H Q∨jL K x y H Q
theorem a9:OpR X (binaryOp .Add) (jM X.K):=by
 intro pins s σ H x y v u Q I rx ry h
 rcases h with h | h
 ·exact u7 pins s σ H x y v u Q I rx ry h
 ·exact u6 pins s σ H x y v u Q I rx ry h
theorem yG {K:W.Frag} {i j:Int} {H:Hp} {Q:VK} (q:Q (.int (i+j)) H):jM K (.int i) (.int j) H Q:=.inr (Ao q)
theorem yH {K:W.Frag} {H:Hp} {x y:V} {ds es:List Dk} {Q:VK} (ha:RK K H (.tup ds) x) (hb:RK K H (.tup es) y) (hz:ds.length+es.length≤1000)
 (q:∀ (v:V) (H':Hp),Old H H'→RK K H' (.tup (ds ++ es)) v→Q v H'):jM K x y H Q:=by
 obtain ⟨a,xs,rfl,ta,ra⟩:=RK.get ha
 obtain ⟨b,ys,rfl,tb,rb⟩:=RK.get hb
 have l1:=ra.length
 have l2:=rb.length
 cases xs with
 | nil=>
   cases (show ds = [] from List.length_eq_zero_iff.mp l1)
   exact .inl ⟨a,b,ys,rfl,rfl,ta.sq,tb.sq,q _ H (Old.refl _) (RK.tup tb rb)⟩
 | cons x r=>exact .inr (wM (qS ta tb ra rb (by simp) (by omega) fun c H' o r=>q _ H' o r))
end
end L2.Bk
namespace PySem
open PySem.Sem (wp)
theorem fU:fillsNumberSlot (.type "tuple") "mul" = pure false:=
 fillsNumberSlot_seq (id:="tuple.__mul__") (r:=some (.builtin "tuple.__rmul__")) F.slot_tuple_mul.lookup (by nofun) F.slot_tuple_rmul.lookup (by nofun)
theorem kQ:seqRepeat? (.type "tuple")=pure (some (.builtin "tuple.__mul__")):=by
 unfold seqRepeat?
 rw [seqSlot_of (T:="tuple") (name:="__mul__") (id:="tuple.__mul__") F.slot_tuple_mul.lookup (by nofun),seqSlot_of (T:="tuple") (name:="__rmul__") (id:="tuple.__rmul__") F.slot_tuple_rmul.lookup (by nofun)]
 rfl
theorem iA (a:Int) (t:Tok) (l:Addr) (items:Array Value) (n:Nat) (dd:Option Addr) (sl:Array (Option Value)) :
 Meets (Builtin.«int.__rmul__» ⟨[.int a t,.ref l],[]⟩) (fun _ R s=>s.heap.get? l=some { cls:=.type "tuple",dict:=dd,data:=.seq items n,slots:=sl }∧R (.ok (.ret Value.notImplemented)) s):=
 .of_wp fun prog w A R s h=>by obtain ⟨hp,g,d,tk,os⟩:=s;obtain ⟨hl,h⟩:=h;wp_walk;exact ⟨_,rfl,h⟩
theorem nY (l:Addr) (v:Value) (n:Nat) (u:Tok) (dd:Option Addr) (sl:Array (Option Value)) :
 Meets (Builtin.«tuple.__mul__» ⟨[.ref l,.int 1 u],[]⟩) (fun _ R s=>s.heap.get? l=some { cls:=.type "tuple",dict:=dd,data:=.seq #[v] n,slots:=sl }∧R (.ok (.ret (.ref l))) s):=
 .of_wp fun prog w A R s h=>by obtain ⟨hp,g,d,tk,os⟩:=s;obtain ⟨hl,h⟩:=h;have f1:=AutoSeq1.idx_int;wp_walk using wpAny_loadPart' hl;exact ⟨_,rfl,h⟩
theorem nX (l:Addr) (v:Value) (n:Nat) (u:Tok) (dd:Option Addr) (sl:Array (Option Value)) :
 Meets (Builtin.«tuple.__mul__» ⟨[.ref l,.int 0 u],[]⟩) (fun _ R s=>s.heap.get? l=some { cls:=.type "tuple",dict:=dd,data:=.seq #[v] n,slots:=sl }∧R (.ok (.ret (.ref s.heap.objs.size))) { s with heap:=s.heap.push { cls:=.type "tuple",data:=.seq #[] } }):=
 .of_wp fun prog w A R s h=>by obtain ⟨hp,g,d,tk,os⟩:=s;obtain ⟨hl,h⟩:=h;have f1:=AutoSeq1.idx_int;wp_walk using wpAny_loadPart' hl;exact ⟨_,rfl,h⟩
theorem nZ (l:Addr) (v:Value) (n:Nat) (u:Tok) (dd:Option Addr) (sl:Array (Option Value)) :
 Meets (Builtin.«tuple.__mul__» ⟨[.ref l,.int 2 u],[]⟩) (fun _ R s=>s.heap.get? l=some { cls:=.type "tuple",dict:=dd,data:=.seq #[v] n,slots:=sl }∧R (.ok (.ret (.ref s.heap.objs.size))) { s with heap:=s.heap.push { cls:=.type "tuple",data:=.seq #[v,v] } }):=
 .of_wp fun prog w A R s h=>by obtain ⟨hp,g,d,tk,os⟩:=s;obtain ⟨hl,h⟩:=h;have f1:=AutoSeq1.idx_int;wp_walk using wpAny_loadPart' hl;exact ⟨_,rfl,h⟩
end PySem
namespace L2.Bk
open L2.Bw
section
variable {X:Cx}
def zE (K:W.Frag):R2:=fun x y H Q=>∃ a v i,x = .ref a∧y = .int i∧SqT K H a [v]∧((i=1∧Q (.ref a) H)∨(i=0∧∀ p,H p=none→Q (.ref p) (upd H p (.tup [])))∨(i=2∧∀ p,H p=none→Q (.ref p) (upd H p (.tup [v,v]))))
theorem xF:OpR X (binaryOp .Mult) (zE X.K):=by
 intro pins s σ H x y v u Q I rx ry h
 obtain ⟨a,v1,i,rfl,rfl,ha,h⟩:=h
 cases rx
 obtain ⟨tk,rfl⟩:=ry
 obtain ⟨its,r1,p1,_⟩:=I.tuple ha
 obtain ⟨u1,e1,ru1⟩:=aQ.one r1
 subst e1
 obtain ⟨⟨cls,dd,data,sl⟩,ho,hc,n,hd⟩:=id p1
 simp only at hc hd
 subst hc hd
 refine wpAny_binaryOp_repeat_ref (T:="tuple") (U:="int") (by decide) ⟨_,ho,rfl⟩ (fun s'=>typeIs_int s' i tk) fU PySem.F.fills_int_mul PySem.F.slot_int_rmul kQ PySem.F.slot_int_index.lookup ?_
 refine call_meets PySem.F.slot_int_rmul (typeIs_int s i tk) PySem.F.entry_int_rmul (PySem.F.args_int_rmul_2 _ _) (iA i tk a #[u1] n dd sl) ⟨ho,rfl,⟨_,ho,rfl⟩,?_⟩
 rcases h with ⟨rfl,q⟩ | ⟨rfl,q⟩ | ⟨rfl,q⟩
 ·exact call_meets PySem.F.slot_tuple_mul ⟨_,ho,rfl⟩ PySem.F.entry_tuple_mul (PySem.F.args_tuple_mul_2 _ _) (nY a u1 n tk dd sl) ⟨ho,.ref a,H,I,rfl,q⟩
 ·refine call_meets PySem.F.slot_tuple_mul ⟨_,ho,rfl⟩ PySem.F.entry_tuple_mul (PySem.F.args_tuple_mul_2 _ _) (nX a u1 n tk dd sl) ⟨ho,?_⟩
  refine ⟨.ref s.heap.objs.size,_,I.laid (t':=s.toks) (o:=.tup []) (fun b ob q=>Heap.get?_push_of_some _ q) (Nat.le_refl _) ?_,rfl,q _ (I.hok.fresh (Nat.le_refl _))⟩
  exact ⟨sz 0,[],.nil,IsTup.new _ _⟩
 ·refine call_meets PySem.F.slot_tuple_mul ⟨_,ho,rfl⟩ PySem.F.entry_tuple_mul (PySem.F.args_tuple_mul_2 _ _) (nZ a u1 n tk dd sl) ⟨ho,?_⟩
  refine ⟨.ref s.heap.objs.size,_,I.laid (t':=s.toks) (o:=.tup [v1,v1]) (fun b ob q=>Heap.get?_push_of_some _ q) (Nat.le_refl _) ?_,rfl,q _ (I.hok.fresh (Nat.le_refl _))⟩
  exact ⟨sz 2,[u1,u1],.cons ru1 (.cons ru1 .nil),IsTup.new _ _⟩
def sU (K:W.Frag):R2:=fun x y H Q=>zE K x y H Q∨(rI ui fun i j=>.int (i * j)) x y H Q
theorem bP:OpR X (binaryOp .Mult) (sU X.K):=by
 intro pins s σ H x y v u Q I rx ry h
 rcases h with h | h
 ·exact xF pins s σ H x y v u Q I rx ry h
 ·exact xC pins s σ H x y v u Q I rx ry h
end
theorem vS {a:Kn} (h:a.wf) (e:a.h = "?"):a=qK:=by
 obtain ⟨g,ks⟩:=a
 cases (show g = "?" from e)
 have:=ox h.1
 rw [List.length_eq_zero_iff.mp this]
 rfl
end L2.Bk
end
section
namespace L2.Bk
open L2.Bw
section
variable {X:Cx}
theorem vg {x:Str} {i:Int} {tk:Tok} {pos:Pos} (hg:Gl X x) (hm:X.mg x=some (.int i tk)) (hd:(x == ("__debug__":Str))=false:=by decide):PE X (.Name x pos) (tC (.int i)):=fq hg hm (show aU (.int i) (.int i tk) from ⟨tk,rfl⟩) hd
end
theorem vd (b:Kn) (h:b=qK) (a:Kn):a.part b=none:=by rw [h,jI];exact xI a
section
variable {X:Cx}
def qP (i j:Int):Prop:=(0<j∧j<1073741824)∨j=10 ^ 20
theorem ay:OpR X (binaryOp .FloorDiv) (rI qP fun i j=>.int (i / j)):=opI fun i j _ _ _ _ _ hc q=>by
 rcases hc with ⟨h1,h2⟩ | h
 ·exact floordiv_int (by omega) (by rw [Int.fdiv_eq_ediv_of_nonneg i (by omega)];exact q) (.inl (PyProof.noPylong_small (by omega)))
 ·subst h
  exact floordiv_int (by decide) (by rw [Int.fdiv_eq_ediv_of_nonneg i (by decide)];exact q) (.inl (PyProof.noPylong_of_log2 (by nofun)))
end
end L2.Bk
end
section
namespace L2.Ex
structure Wr (S ch:List Addr) (h h':Heap):Prop where
 keep:∀ b o,h.get? b=some o→b ∉ S→b ∉ ch→h'.get? b=some o
 slot:∀ b o,h.get? b=some o→b ∉ ch→∃ sl,h'.get? b=some { o with slots:=sl }
 there:∀ b o,h.get? b=some o→∃ o',h'.get? b=some o'
section
variable {S ch ch':List Addr} {h h1 h2 h':Heap}
theorem Wr.trans (x:Wr S ch h h1) (y:Wr S ch h1 h2):Wr S ch h h2:=
 ⟨fun b o e n m=>y.keep b o (x.keep b o e n m) n m,fun b o e m=>let ⟨_,e1⟩:=x.slot b o e m;let ⟨sl,e2⟩:=y.slot b _ e1 m;⟨sl,e2⟩,fun b o e=>let ⟨_,e1⟩:=x.there b o e;y.there b _ e1⟩
theorem Wr.mono (x:Wr S ch h h') (k:∀ b∈ch,b∈ch'):Wr S ch' h h':=⟨fun b o e n m=>x.keep b o e n fun z=>m (k b z),fun b o e m=>x.slot b o e fun z=>m (k b z),x.there⟩
theorem Wr.kept (k:∀ b o,h.get? b=some o→h'.get? b=some o):Wr S ch h h':=⟨fun b o e _ _=>k b o e,fun b o e _=>⟨o.slots,k b o e⟩,fun b o e=>⟨o,k b o e⟩⟩
theorem Wr.set {a:Addr} {o:Obj} {vs:Array Value} (ho:h.get? a=some o) (hd:o.data = .fields vs) (g:Array Value→Array Value):Wr S [a] h (h.update a (Obj.mapFields g)):=by
 have ot:∀ b,b≠a→(h.update a (Obj.mapFields g)).get? b=h.get? b:=fun b n=>Heap.get?_update_other h _ fun z=>n z.symm
 have nm:∀ b,b ∉ [a]→b≠a:=fun b m z=>m (by rw [z];exact List.mem_cons_self)
 refine ⟨fun b u e _ m=>by rw [ot b (nm b m)];exact e,fun b u e m=>⟨u.slots,by rw [ot b (nm b m)];exact e⟩,fun b u e=>?_⟩
 by_cases z:b=a
 ·subst z
  exact ⟨_,Heap.get?_update_self _ ho (Obj.isFreed_of_fields (Obj.data_mapFields hd g))⟩
 ·exact ⟨u,by rw [ot b z];exact e⟩
theorem Wr.slots (x:Heap.SlotsOnly S h h'):Wr S ch h h':=⟨fun b o e n _=>(x.2.1 b n).trans e,fun b o e _=>x.2.2 b o e,fun b o e=>let ⟨_,q⟩:=x.2.2 b o e;⟨_,q⟩⟩
end
theorem lN (g:Array Value→Array Value) (o:Obj):(Obj.mapFields g o).dict=o.dict:=by
 obtain ⟨c,d,dt,sl⟩:=o
 cases dt <;> rfl
def Tr (h:Heap) (a:Addr) (cls:Value) (dx:Option Addr) (T:Addr) (fl:Value):Prop:=
 ∃ oe vs oT ts,h.get? a=some oe∧(oe.cls=cls∧oe.dict=dx)∧oe.data = .fields vs∧vs[1]? = some (.ref T)∧T≠a∧h.get? T=some oT∧oT.data = .fields ts∧ts[3]? = some fl
def Rw (h:Heap) (a:Addr) (cls:Value) (dx:Option Addr):Prop:=∃ oe vs,h.get? a=some oe∧(oe.cls=cls∧oe.dict=dx)∧oe.data = .fields vs∧vs[1]? = some .none
section
variable {M:Model} {A:Around} {E:Value→Shared→Prop} {s:Shared} {a T L:Addr} {cls fl:Value} {dx:Option Addr} {Q:Unit→Shared→Prop} {base:Heap} {env:Env} {outer:List Env} {S:List Addr}
theorem eS {fr:Option Addr} (t:Tr s.heap a cls dx T fl) (hQ:∀ h',Tr h' a cls dx T (fr.elim .none fun f=>rawInt f)→Wr S [T] s.heap h'→Q () { s with heap:=h' }):wpAny M A (setFlight (.ref a) fr) Q E s:=by
 obtain ⟨oe,vs,oT,ts,he,hc,hd,h1,ne,hT,hdT,h3⟩:=t
 have z3:=(Array.getElem?_eq_some_iff.mp h3).1
 unfold setFlight
 refine wpAny_bind (wpAny_field he hd h1 ?_)
 rw [if_pos (show (Value.ref T != Value.none)=true by simp)]
 refine wpAny_setField hT hdT z3 (hQ _ ?_ (Wr.set hT hdT _))
 have dT:=Obj.data_mapFields hdT (·.setIfInBounds 3 (fr.elim Value.none fun f=>rawInt f))
 exact ⟨oe,vs,_,_,(Heap.get?_update_other _ _ ne).trans he,hc,hd,h1,ne,Heap.get?_update_self _ hT (Obj.isFreed_of_fields dT),dT,by simp [z3]⟩
theorem entry {oe:Obj} {vs:Array Value} {head:Value} {hn:Bool} (hfr:A.frames=some (env :: outer)) (hl:s.heap.FunFrames base (env :: outer)) (hf:env.frame=some L) (he:s.heap.get? a=some oe) (hd:oe.data = .fields vs) (hz:1<vs.size)
 (hQ:∀ h' T,s.heap.get? T=none→Tr h' a oe.cls oe.dict T (rawInt L)→Wr (frs (env :: outer)) [a] s.heap h'→Q () { s with heap:=h' }) :
 wpAny M A (do let x ← frameOf env;let pl ← entryPlaceOf L hn;let b ← EntryCells.newEntry head x .none (rawInt L) .none pl;setField (.ref a) 1 b) Q E s:=by
 have na:a ∉ (env :: outer).filterMap (·.frame):=fun m=>by
  obtain ⟨_,o,ho,nf⟩:=hl.mem m
  rw [he] at ho
  cases ho
  exact nf vs hd
 refine wpAny_bind (wpAny_frameOf_fun hfr hl hf fun g hg=>wpAny_bind (wpAny_entryPlaceOf fun pl hp=>?_))
 unfold EntryCells.newEntry newFields;refine wpAny_bind (wpAny_newObj_type ?_ (IsPlace.sizeOk5 hp _ _ _ _ _))
 have ea:g.get? a=some oe:=(hg.2.1 a na).trans he
 generalize hu:([head,Value.ref L,Value.none,rawInt L,Value.none] ++ (if pl.isEmpty then List.replicate 6 Value.none else pl)).toArray=us
 have u3:us[3]? = some (rawInt L):=by rw [← hu];rfl
 have ea2:=Heap.get?_push_of_some (h:=g) { cls:=.type "traceback",dict:=none,data:=.fields us } ea
 have nT:g.objs.size≠a:=Nat.ne_of_gt (Heap.lt_size ea)
 refine wpAny_setField ea2 hd hz (hQ _ g.objs.size ?_ ?_ ?_)
 ·rw [hg.1];exact Heap.get?_none_of_le (Nat.le_refl _)
 ·have da:=Obj.data_mapFields hd (·.setIfInBounds 1 (Value.ref g.objs.size))
  exact ⟨_,_,_,us,Heap.get?_update_self _ ea2 (Obj.isFreed_of_fields da),⟨Obj.cls_mapFields _ _,lN _ _⟩,da,by simp [hz],nT,(Heap.get?_update_other _ _ (Ne.symm nT)).trans (Heap.get?_push_size g rfl),rfl,u3⟩
 ·exact (Wr.slots (ch:=[a]) hg).trans ((Wr.kept fun b o e=>Heap.get?_push_of_some _ e).trans (Wr.set ea2 hd _))
theorem sC (hfr:A.frames=some (env :: outer)) (hl:s.heap.FunFrames base (env :: outer)) (hf:env.frame=some L) (x:Rw s.heap a cls dx)
 (hQ:∀ h' T,s.heap.get? T=none→Tr h' a cls dx T (rawInt L)→Wr (frs (env :: outer)) [a] s.heap h'→Q () { s with heap:=h' }):wpAny M A (noteFrame (.ref a) env) Q E s:=by
 obtain ⟨oe,vs,he,⟨rfl,rfl⟩,hd,h1⟩:=x
 unfold noteFrame
 simp only [hf]
 refine wpAny_bind (wpAny_field he hd h1 ?_)
 rw [if_neg (by decide)]
 exact entry hfr hl hf he hd (Array.getElem?_eq_some_iff.mp h1).1 hQ
theorem jH (hfr:A.frames=some (env :: outer)) (hl:s.heap.FunFrames base (env :: outer)) (hf:env.frame=some L) (x:Tr s.heap a cls dx T .none)
 (hQ:∀ h' T',s.heap.get? T'=none→Tr h' a cls dx T' (rawInt L)→Wr (frs (env :: outer)) [a,T] s.heap h'→Q () { s with heap:=h' }):wpAny M A (noteFrame (.ref a) env) Q E s:=by
 obtain ⟨oe,vs,oT,ts,he,⟨rfl,rfl⟩,hd,h1,ne,hT,hdT,h3⟩:=x
 unfold noteFrame
 simp only [hf]
 refine wpAny_bind (wpAny_field he hd h1 ?_)
 rw [if_pos (show (Value.ref T != Value.none)=true by simp)]
 refine wpAny_bind (wpAny_field hT hdT h3 ?_)
 rw [if_neg (show ¬ ((Value.none == rawInt L)=true) by simp [rawInt])]
 refine wpAny_bind (wpAny_setField hT hdT (Array.getElem?_eq_some_iff.mp h3).1 ?_)
 have w1:Wr (frs (env :: outer)) [T] s.heap _:=Wr.set hT hdT (·.setIfInBounds 3 Value.none)
 refine entry hfr (hl.of_keeps fun b o e nf=>⟨o,?_,rfl⟩) hf ((Heap.get?_update_other _ _ ne).trans he) hd (Array.getElem?_eq_some_iff.mp h1).1 fun h' T' n t w=>hQ h' T' ?_ t ((w1.mono (by simp)).trans (w.mono (by simp)))
 ·refine (Heap.get?_update_other _ _ fun z=>?_).trans e
  subst z
  rw [hT] at e
  cases e
  exact nf ts hdT
 ·cases q:s.heap.get? T' with
  | none=>rfl
  | some o=>
    obtain ⟨o',e'⟩:=w1.there T' o q
    rw [n] at e'
    cases e'
theorem qv (hf:env.frame=some L) (x:Tr s.heap a cls dx T (rawInt L)) (hQ:Q () s):wpAny M A (noteFrame (.ref a) env) Q E s:=by
 obtain ⟨oe,vs,oT,ts,he,⟨rfl,rfl⟩,hd,h1,ne,hT,hdT,h3⟩:=x
 unfold noteFrame
 simp only [hf]
 refine wpAny_bind (wpAny_field he hd h1 ?_)
 rw [if_pos (show (Value.ref T != Value.none)=true by simp)]
 refine wpAny_bind (wpAny_field hT hdT h3 ?_)
 rw [if_pos (show (rawInt L == rawInt L)=true by simp)]
 exact wpAny_pure hQ
end
def CXF (P:Program) (w:World):CXT:=fun outer H s E e s'=>∃ (a T:Addr) (cls:Value) (dx:Option Addr) (H':Hp),e = .ref a∧Tr s'.heap a cls dx T .none∧s.heap.get? a=none∧s.heap.get? T=none∧H' a=none∧H' T=none ∧
 s'.os=s.os∧AllBare s'.gens∧Un (frs outer) [] H H' s.heap s'.heap∧HOk P w H' s'.heap∧E cls dx H'
structure XB (X:Cx) (E:XK) (a:Addr) (cls:Value) (dx:Option Addr) (H':Hp) (s':Shared):Prop where
 na:X.s₀.heap.get? a=none
 ua:H' a=none
 os:s'.os=X.s₀.os
 bare:AllBare s'.gens
 un:Un (frs X.outer) [] X.H₀ H' X.s₀.heap s'.heap
 hok:HOk X.prog X.w H' s'.heap
 funs:s'.heap.FunFrames X.base (X.env :: X.outer)
 frf:∀ b∈frs (X.env :: X.outer),H' b=none
 nl:X.s₀.heap.get? X.env.locals=none
 fr:X.env.frame=some X.env.locals
 af:X.A.frames=some (X.env :: X.outer)
 e:E cls dx H'
def XS (X:Cx) (E:XK) (e:Value) (s':Shared):Prop:=∃ a cls dx H',e = .ref a∧XB X E a cls dx H' s' ∧
 (Rw s'.heap a cls dx∨∃ T fl,Tr s'.heap a cls dx T fl∧(fl = .none∨fl=rawInt X.env.locals)∧X.s₀.heap.get? T=none∧H' T=none)
theorem rP {P:Program} {w:World} {H:Hp} {h:Heap} {a:Addr} {o:HO} (x:bo P w H h a o):∃ u,h.get? a=some u:=by
 cases o with
 | lst xs=>obtain ⟨_,_,_,_,e⟩:=x;exact ⟨_,e⟩
 | tup xs=>obtain ⟨_,_,_,u,e,_⟩:=x;exact ⟨u,e⟩
 | dK kvs=>obtain ⟨_,_,_,_,u,_,_,e,_⟩:=x;exact ⟨u,e⟩
 | dT kvs=>obtain ⟨_,_,_,_,u,_,_,e,_⟩:=x;exact ⟨u,e⟩
 | set S n=>obtain ⟨u,_,_,_,e,_⟩:=x;exact ⟨u,e⟩
 | ins C dx fs=>obtain ⟨_,_,_,e,_⟩:=x;exact ⟨_,e⟩
 | own y=>exact x
 | xd fs=>obtain ⟨_,⟨u,_,_,e,_⟩,_⟩:=x;exact ⟨u,e⟩
 | rng lo hi=>obtain ⟨_,_,_,e⟩:=x;exact ⟨_,e⟩
 | frz ob u=>obtain ⟨e,_⟩:=x;exact ⟨_,e⟩
 | tbl ps=>exact ⟨_,(show h.get? a=some _ from x)⟩
 | met f y=>exact ⟨_,(show h.get? a=some _ from x)⟩
 | ext φ=>obtain ⟨_,e,_⟩:=x;exact e
theorem ff {P:Program} {w:World} {H:Hp} {h:Heap} {a:Addr} (x:HOk P w H h) (e:h.get? a=none):H a=none:=by
 cases q:H a with
 | none=>rfl
 | some o=>
   obtain ⟨u,hu⟩:=rP (x a o q)
   rw [e] at hu
   cases hu
section
variable {P:Program} {w:World} {H H0:Hp} {h h0 h':Heap} {S ch fs:List Addr} {L:Addr}
theorem rR (x:HOk P w H h) (y:Wr S ch h h') (hc:∀ b∈ch,H b=none) (hs:∀ b∈S,H b=none):HOk P w H h':=fun a o e=>by
 have nt:∀ b u,H b=some u→b ∉ S∧b ∉ ch:=fun b u q=>⟨(fun z=>by rw [hs b z] at q;cases q),(fun z=>by rw [hc b z] at q;cases q)⟩
 refine (x a o e).stay (fun b u hb q=>?_) (fun _ q=>q) fun _ _ q=>q
 rcases hb with rfl | hb
 ·exact y.keep _ u q (nt _ _ e).1 (nt _ _ e).2
 ·exact y.keep _ u q (nt _ _ hb).1 (nt _ _ hb).2
theorem wI (x:Un fs [] H0 H h0 h) (y:Wr S ch h h') (hs:∀ b∈S,b∈fs∨h0.get? b=none) (hc:∀ b∈ch,h0.get? b=none):Un fs [] H0 H h0 h':=by
 have nc:∀ b o,h0.get? b=some o→b ∉ ch:=fun b o e z=>by rw [hc b z] at e;cases e
 have nS:∀ b o,h0.get? b=some o→b ∉ fs→b ∉ S:=fun b o e n z=>(hs b z).elim n fun q=>by rw [q] at e;cases e
 refine ⟨fun b o e n hb hx=>y.keep b o (x.keep b o e n hb hx) (nS b o e hb) (nc b o e),fun b o e n hb hx=>?_,x.free,fun b o e hx=>?_,x.tups,x.frzs,x.tbls⟩
 ·obtain ⟨sl,e1⟩:=x.slot b o e n hb hx
  obtain ⟨sl2,e2⟩:=y.slot b _ e1 (nc b o e)
  exact ⟨sl2,e2⟩
 ·obtain ⟨o1,e1⟩:=x.there b o e hx
  exact y.there b o1 e1
theorem wS {base:Heap} {l:List Env} (x:h.FunFrames base l) (y:Wr S ch h h') (hc:∀ b∈ch,∃ o vs,h.get? b=some o∧o.data = .fields vs):h'.FunFrames base l:=x.of_keeps fun b o e nf=>by
 obtain ⟨sl,e1⟩:=y.slot b o e fun z=>by
  obtain ⟨o2,vs,q,d⟩:=hc b z
  rw [e] at q
  cases q
  exact nf vs d
 exact ⟨_,e1,rfl⟩
end
theorem Tr.fa {h:Heap} {a T:Addr} {cls fl:Value} {dx:Option Addr} (t:Tr h a cls dx T fl):∃ o vs,h.get? a=some o∧o.data = .fields vs:=let ⟨oe,vs,_,_,h1,_,h2,_⟩:=t;⟨oe,vs,h1,h2⟩
theorem Tr.ft {h:Heap} {a T:Addr} {cls fl:Value} {dx:Option Addr} (t:Tr h a cls dx T fl):∃ o vs,h.get? T=some o∧o.data = .fields vs:=let ⟨_,_,oT,ts,_,_,_,_,_,h1,h2,_⟩:=t;⟨oT,ts,h1,h2⟩
theorem Rw.fa {h:Heap} {a:Addr} {cls:Value} {dx:Option Addr} (t:Rw h a cls dx):∃ o vs,h.get? a=some o∧o.data = .fields vs:=let ⟨oe,vs,h1,_,h2,_⟩:=t;⟨oe,vs,h1,h2⟩
section
variable {X:Cx} {E:XK} {a:Addr} {cls:Value} {dx:Option Addr} {H':Hp} {s':Shared} {M:Model} {Z:Value→Shared→Prop} {Q:Unit→Shared→Prop}
theorem lT (hf:X.env.frame=some X.env.locals):frs (X.env :: X.outer)=X.env.locals :: frs X.outer:=by unfold frs;rw [List.filterMap_cons,hf]
theorem XB.wr (x:XB X E a cls dx H' s') {ch:List Addr} {h':Heap} (y:Wr (frs (X.env :: X.outer)) ch s'.heap h') (hc:∀ b∈ch,X.s₀.heap.get? b=none∧H' b=none∧∃ o vs,s'.heap.get? b=some o∧o.data = .fields vs):XB X E a cls dx H' { s' with heap:=h' }:=by
 refine ⟨x.na,x.ua,x.os,x.bare,wI x.un y (fun b hb=>?_) (fun b hb=>(hc b hb).1),rR x.hok y (fun b hb=>(hc b hb).2.1) x.frf,wS x.funs y (fun b hb=>(hc b hb).2.2),x.frf,x.nl,x.fr,x.af,x.e⟩
 rw [lT x.fr] at hb
 rcases List.mem_cons.mp hb with z | z
 ·rw [z];exact .inr x.nl
 ·exact .inl z
theorem pQ {e:Value} (x:XS X E e s')
 (hQ:∀ h' a T cls dx H',e = .ref a→XB X E a cls dx H' { s' with heap:=h' }→Tr h' a cls dx T (rawInt X.env.locals)→X.s₀.heap.get? T=none→H' T=none→Q () { s' with heap:=h' }):wpAny M X.A (noteFrame e X.env) Q Z s':=by
 obtain ⟨a,cls,dx,H',rfl,b,t⟩:=x
 have hfr:=b.af
 have new:∀ T,s'.heap.get? T=none→X.s₀.heap.get? T=none:=fun T n=>by
  cases q:X.s₀.heap.get? T with
  | none=>rfl
  | some o=>
    obtain ⟨o',e'⟩:=b.un.there T o q (by simp)
    rw [n] at e'
    cases e'
 rcases t with t | ⟨T,fl,t,hfl,nT,uT⟩
 ·refine sC hfr b.funs b.fr t fun h' T n t' y=>hQ h' a T cls dx H' rfl (b.wr y fun c hc=>?_) t' (new T n) (ff b.hok n)
  rw [List.mem_singleton.mp hc]
  exact ⟨b.na,b.ua,t.fa⟩
 ·rcases hfl with rfl | rfl
  ·refine jH hfr b.funs b.fr t fun h' T' n t' y=>hQ h' a T' cls dx H' rfl (b.wr y fun c hc=>?_) t' (new T' n) (ff b.hok n)
   rcases List.mem_cons.mp hc with z | z
   ·rw [z];exact ⟨b.na,b.ua,t.fa⟩
   ·rw [List.mem_singleton.mp z];exact ⟨nT,uT,t.ft⟩
  ·obtain ⟨hp,g,d,k,o⟩:=s'
   exact qv b.fr t (hQ hp a T cls dx H' rfl b t nT uT)
theorem j4 {T:Addr} {fl:Value} {fr:Option Addr} (b:XB X E a cls dx H' s') (t:Tr s'.heap a cls dx T fl) (nT:X.s₀.heap.get? T=none) (uT:H' T=none)
 (hQ:∀ h',XB X E a cls dx H' { s' with heap:=h' }→Tr h' a cls dx T (fr.elim .none fun f=>rawInt f)→Q () { s' with heap:=h' }):wpAny M X.A (setFlight (.ref a) fr) Q Z s':=by
 refine eS (S:=frs (X.env :: X.outer)) t fun h' t' y=>hQ h' (b.wr y fun c hc=>?_) t'
 rw [List.mem_singleton.mp hc]
 exact ⟨nT,uT,t.ft⟩
theorem ug {e:Value} (x:XS X E e s'):wpAny M X.A (leaving X.env e) (fun _ s''=>CXF X.prog X.w X.outer X.H₀ X.s₀ E e s'') Z s':=by
 unfold leaving
 refine wpAny_bind (pQ x fun h' a T cls dx H' e1 b t nT uT=>?_)
 subst e1
 refine j4 (fr:=none) b t nT uT fun h2 b2 t2=>?_
 exact ⟨a,T,cls,dx,H',rfl,t2,b2.na,nT,b2.ua,uT,b2.os,b2.bare,b2.un,b2.hok,b2.e⟩
theorem yA:PassesOwn M X.A X.env (XS X E):=fun e s' x=>by
 unfold notedBy
 refine pQ x fun h' a T cls dx H' e1 b t nT uT=>?_
 subst e1
 unfold cameBackBy
 obtain ⟨oe,vs,oT,ts,he,hc,hd,h1,r⟩:=id t
 refine wpAny_bind (wpAny_field he hd h1 ?_)
 rw [if_neg (show ¬ ((Value.ref T == Value.none)=true) by simp)]
 rw [b.fr]
 refine j4 (fr:=some X.env.locals) b t nT uT fun h2 b2 t2=>?_
 exact ⟨a,cls,dx,H',rfl,b2,.inr ⟨T,_,t2,.inr rfl,nT,uT⟩⟩
end
theorem pP {X:Cx} {E:XK} {pins:List (Addr×Obj)} {σ:St} {H:Hp} {s s':Shared} {e:Value} (I:Inv X pins σ H s) (hst:X.stack=X.env :: X.outer) (hf:X.env.frame=some X.env.locals) (hex:X.ex = []) (x:CXF X.prog X.w X.stack H s E e s'):XS X E e s':=by
 obtain ⟨a,T,cls,dx,H',rfl,t,na,nT,ua,uT,os,bare,un,hok,q⟩:=x
 rw [hst] at un
 have fc:=lT hf
 have b0:=I.base
 rw [hex] at b0
 have nl:X.s₀.heap.get? X.env.locals=none:=Heap.get?_none_of_le I.ok.above
 have back:∀ b,s.heap.get? b=none→X.s₀.heap.get? b=none:=fun b n=>by
  cases z:X.s₀.heap.get? b with
  | none=>rfl
  | some o=>
    obtain ⟨o',e'⟩:=b0.there b o z (by simp)
    rw [n] at e'
    cases e'
 have neL:∀ b o,X.s₀.heap.get? b=some o→b≠X.env.locals:=fun b o z w=>by rw [w,nl] at z;cases z
 refine ⟨a,cls,dx,H',rfl,⟨back a na,ua,os.trans I.os,bare,⟨fun b o z n hb hx=>?_,fun b o z n hb hx=>?_,fun b o z n hx=>?_,fun b o z hx=>?_,fun b xs z=>un.tups b xs (b0.tups b xs z),fun b o u z=>un.frzs b o u (b0.frzs b o u z),fun b ps z=>?_⟩,hok,?_,?_,nl,hf,(by rw [← hst];exact I.ok.frames),q⟩,.inr ⟨T,.none,t,.inl rfl,back T nT,uT⟩⟩
 ·refine un.keep b o (b0.keep b o z n hb hx) (b0.free b o z n hx) (fun w=>?_) (by simp)
  rw [fc] at w
  rcases List.mem_cons.mp w with w | w
  ·exact neL b o z w
  ·exact hb w
 ·obtain ⟨sl,e1⟩:=b0.slot b o z n hb hx
  obtain ⟨sl2,e2⟩:=un.any e1 (b0.free b o z n hx) (by simp)
  exact ⟨sl2,e2⟩
 ·obtain ⟨o',e'⟩:=b0.there b o z hx
  exact un.free b o' e' (b0.free b o z n hx) (by simp)
 ·obtain ⟨o',e'⟩:=b0.there b o z hx
  exact un.there b o' e' (by simp)
 ·obtain ⟨m1,e1⟩:=b0.tbls b ps z
  obtain ⟨m2,e2⟩:=un.tbls b _ e1
  exact ⟨m1 ++ m2,by rw [e2,Array.append_assoc]⟩
 ·have st:=I.stack
  rw [hst] at st
  have all:∀ (l:List Env),(∀ b∈frs l,b∈frs (X.env :: X.outer))→s.heap.FunFrames X.base l→s'.heap.FunFrames X.base l:=by
   intro l
   induction l with
   | nil=>intro _ _;trivial
   | cons v r ih=>
     intro hs hl
     obtain ⟨hk,⟨L,o,h1,hn,ho,hd⟩,hr⟩:=hl
     have hm:L∈frs (v :: r):=by unfold frs;rw [List.filterMap_cons,h1];exact List.mem_cons_self
     have hL:H L=none:=I.stkFree L (by rw [hst];exact hs L hm)
     obtain ⟨sl,e2⟩:=un.any ho hL (by simp)
     exact ⟨hk,⟨L,_,h1,hn,e2,hd⟩,ih (fun b hb=>hs b (by unfold frs;rw [List.filterMap_cons,h1];exact List.mem_cons_of_mem _ hb)) hr⟩
  exact all _ (fun _ hb=>hb) st
 ·intro b hb
  have hb':b∈frs X.stack:=by rw [hst];exact hb
  obtain ⟨_,o,ho,_⟩:=I.stack.mem hb'
  exact un.free b o ho (I.stkFree b hb') (by simp)
theorem xQ {X:Cx} {E:XK} {st:List Stmt} {t:TS} (h:PSs (X.wish (XS X E)) st t) (hst:X.stack=X.env :: X.outer) (hx:∀ e s',wpAny (model X.prog X.w) X.A (leaving X.env e) (fun _ s''=>CXF X.prog X.w X.outer X.H₀ X.s₀ E e s'') (fun e' s''=>CXF X.prog X.w X.outer X.H₀ X.s₀ E e' s'') s'→X.xe e s'):PSs X st t:=fun pins s σ H D I hw=>
 wpAny_mono (h pins s σ H D (I.wish _) hw) (fun _ _ q=>q.unwish) fun e s' z=>hx e s' (ug z)
theorem cI {P:Program} {w:World} {K:W.Frag} {mg:Str→Option Value} {base:Heap} {x qual:Str} {st:Stmt} {f:Addr} {fd:FuncData} {N ps:List Str} {k:Nat} {sp:Sp} (F:Fun K x qual st f fd) (S:aA N ps (au st)) (len:∀ vs H Q E,sp vs H Q E→vs.length=ps.length)
 (hbody:∀ (cdv:Value) (A:Around) (outer:List Env) (s:Shared) (H:Hp) (vs:List V) (Q:VK) (E:XK),Room k (A.deeper (envOfC qual (au st) s.heap.objs.size f cdv))→sp vs H Q E →
  ∃ t,PSs ((ja (CXF P w) P w K mg base N qual (au st) f cdv A outer s H E).wish (XS (ja (CXF P w) P w K mg base N qual (au st) f cdv A outer s H E) E)) (bT st) t∧t { nx:=fun _ H'=>Q .non H',rt:=Q } (fA N vs) H):aY P w K mg base (CXF P w) (k+1) f fd ps sp:=by
 obtain ⟨oc,od,kV,doc,pm,an,cdv,ct,osl,rfl,lk,hcd⟩:=F.ex
 refine wc lk hcd S len fun A outer s H vs Q E hr hsp=>?_
 obtain ⟨t,h,q⟩:=hbody cdv A outer s H vs Q E hr hsp
 exact ⟨t,xQ h rfl (fun e s' z=>z),q⟩
structure dw (P:Program) (w:World) (K:W.Frag) (mg:Str→Option Value) (base:Heap) (x:Str) (ps:List Str) (k:Nat) (sp:Sp):Prop where
 ex:∃ f fd,aY P w K mg base (CXF P w) k f fd ps sp∧aI K fd ps []∧W.keepIn K (.ref f)=true∧mg x=some (.ref f)
theorem cY {Y:Cx} {E:XK} {x:Str} {ps:List Str} {k n:Nat} {sp:Sp} {p pos:Pos} {e:Expr} {es:List Expr} {t:TA} (c:dw Y.prog Y.w Y.K Y.mg Y.base x ps k sp) (hr:Room n Y.A) (ha:PA (Y.wish (XS Y E)) (e :: es) t) (hn:k≤n:=by omega) (hst:Y.stack=Y.env :: Y.outer:=by rfl) (hf:Y.env.frame=some Y.env.locals:=by rfl) (hex:Y.ex = []:=by rfl) (hg:Gl Y x:=by rfl)
 (hdb:(x == ("__debug__":Str))=false:=by decide) (he:starEach (e :: es) Y.env=(false,eval e Y.env) :: starEach es Y.env:=by rfl) (hpl:(backTo pos (starEach es Y.env)).any (·.1)=false:=by rfl):PE (Y.wish (XS Y E)) (.Call (.Name x p) (e :: es) [] pos) (jV sp [] E t):=by
 obtain ⟨f,fd,F,b,kp,m⟩:=c.ex
 exact pj (X:=Y.wish (XS Y E)) (CX:=CXF Y.prog Y.w) F (hr.mono hn) hg m kp b .nil (fun pins σ H s e s' I q=>pP I.unwish hst hf hex q) ha hdb he hpl
end L2.Ex
end
section
namespace L2.Ex
open PySem.W
structure c9 (K:Frag) (C:Addr):Prop where
 ga:findIn K (.ref C) "__getattribute__" = some (some (.builtin "BaseException.__getattribute__"))
 gn:findIn K (.ref C) "__getattr__" = some none
 cl:findIn K (.ref C) "__class__" = some (some (.builtin "object.__class__"))
 sg:specialIn K (.builtin "object.__class__") "__get__" = some (some (.builtin "getset_descriptor.__get__"))
 tk:takesIn K (.builtin "object.__class__")=some true
 ob:mroIn K C (.type "object")=some true
 be:mroIn K C (.type "BaseException")=some true
 is:(clsIn K C).isSome=true
theorem rG {K:Frag} {C:Addr} (Y:c9 K C) (od:Option Obj):findObj K C od "__class__" = some (.bind (.builtin "getset_descriptor.__get__") (.builtin "object.__class__")):=by
 obtain ⟨cd,hc⟩:=Option.isSome_iff_exists.mp Y.is
 unfold findObj
 rw [hc,Option.bind_some,Y.cl,Option.bind_some]
 simp [Y.sg,Y.tk]
section
variable {prog:Program} {w:World} {A:Around} {E:Value→Shared→Prop} {K:Frag} {C a:Addr} {o:Obj} {od:Option Obj} {h:Heap} {g:Array GenState} {d:Drawn} {t:Nat} {os:OsState}
theorem lG {M:Model} {nameV:Value} {Q:Unit→Shared→Prop} (Y:c9 K C) (X:K.In h) (I:InstAt h a o C od) (hq:Q () ⟨h,g,d,t,os⟩):wpAny M A (checkBuiltinCall "BaseException.__getattribute__" ⟨[.ref a,nameV],[]⟩) Q E ⟨h,g,d,t,os⟩:=by
 have k1:builtinKind "BaseException.__getattribute__" = some .slot:=by nofun
 have k2:splitId "BaseException.__getattribute__" = some ("BaseException","__getattribute__"):=by nofun
 have L:Looks M h (isInstance (.ref a) (.type "BaseException")) true:=(I.type (M:=M)).andThen (looks_mroIn X Y.be)
 have ha:=F.args_bexc_ga (.ref a) nameV
 simp only [checkBuiltinCall,k1,k2]
 refine wpAny_bind (L.at ?_)
 repeat (any_goals (first | assumption | wp_step))
theorem lI {tk:Tok} {Q:Fin→Shared→Prop} (Y:c9 K C) (X:K.In h) (I:InstAt h a o C od) (hq:Q (.done (.ret (.ref C))) ⟨h,g,d,t,os⟩) :
 wpAny (model prog w) A (Builtin.«object.__getattribute__» ⟨[.ref a,.str "__class__" tk],[]⟩) Q E ⟨h,g,d,t,os⟩:=by
 have L0:=I.type (M:=model prog w)
 have L1:=looks_find (M:=model prog w) X I (rG Y od)
 refine wpAny_bind (wpAny_pure (wpAny_bind (wpAny_pure (wpAny_bind (L0.at (wpAny_bind (L1.at ?_)))))))
 show wpAny _ _ (holding [Value.builtin "object.__class__"] (call (Value.builtin "getset_descriptor.__get__") [Value.builtin "object.__class__",Value.ref a,Value.ref C]) >>= ret) _ _ _
 exact wpAny_bind (wpAny_holding (wpAny_call (class_get (s:=⟨h,g,d,t,os⟩) X I Y.ob (wpAny_pure hq))))
theorem mI {Q:Option Value→Shared→Prop} (Y:c9 K C) (X:K.In h) (I:InstAt h a o C od) (hq:Q (some (.ref C)) ⟨h,g,d,t+1,os⟩):wpAny (model prog w) A (getAttr? (.ref a) "__class__") Q E ⟨h,g,d,t,os⟩:=by
 have L0:=I.type (M:=model prog w)
 have L1:=looks_findIn (M:=model prog w) X Y.ga
 have L2:=looks_findIn (M:=model prog w) X Y.gn
 have G:=PySem.F.attrBase_ValueError.ga
 have b1:=G.bind (.ref a)
 unfold getAttr?;unfold getAttrBy?;unfold getAttrBy
 refine wpAny_bind (wpAny_mkText ?_)
 refine wpAny_bind (wpAny_attempt (wpAny_holding ?_))
 refine wpAny_bind (L0.at ?_)
 refine wpAny_bind (L1.at ?_)
 show wpAny _ _ (getAttrByItsOwn _ _ _ _ _ _) _ _ _
 unfold getAttrByItsOwn
 refine wpAny_bind (L2.at ?_)
 refine wpAny_bind (wpAny_attempt (wpAny_holding ?_))
 show wpAny _ _ (boundAndCalled _ _ _) _ _ _
 unfold boundAndCalled
 rw [b1]
 refine wpAny_bind (wpAny_pure ?_)
 refine wpAny_call (codeAny_call_builtin G.plain F.entry_bexc_ga (lG Y X I (lI Y X I ?_)))
 exact handed_on rfl (wpAny_pure hq)
end
theorem qV {K:Frag} {C:Addr} (e:(clsIn K C).isSome=true):∃ c' d' cd' sl',K.lookup C=some ⟨c',d',.cls cd',sl'⟩:=by
 unfold clsIn at e
 split at e
 ·rename_i q;exact ⟨_,_,_,_,q⟩
 ·cases e
section
variable {X:Cx}
theorem yz {fs:List Addr} {H:Hp} {h h':Heap} {a:Addr} {o:HO} (k:∀ b u,h.get? b=some u→h'.get? b=some u) (ha:h.get? a=none) (hn:H a=none):Un fs [] H (upd H a o) h h' where
 keep:=fun b u q _ _ _=>k b u q
 slot:=fun b u q _ _ _=>⟨u.slots,k b u q⟩
 free:=fun b u q n _=>by rw [aj (fun z=>by rw [z,ha] at q;cases q)];exact n
 there:=fun b u q _=>⟨u,k b u q⟩
 tups:=fun b xs q=>by rw [aj (al q hn)];exact q
 frzs:=fun b u xs q=>by rw [aj (al q hn)];exact q
 tbls:=fun b ps q=>⟨#[],by rw [aj (al q hn),q];simp⟩
theorem oM {P:Program} {w:World} {H:Hp} {h h':Heap} {a:Addr} {o:HO} (x:HOk P w H h) (k:∀ b u,h.get? b=some u→h'.get? b=some u) (hn:H a=none) (new:bo P w (upd H a o) h' a o):HOk P w (upd H a o) h':=fun b u e=>by
 by_cases hb:b=a
 ·subst hb;rw [ad] at e;cases e;exact new
 ·rw [aj hb] at e
  exact (x b u e).stay (fun c v _ q=>k c v q) (fun c q=>by rw [aj (al q hn)];exact q) fun c xs q=>by rw [aj (al q hn)];exact q
end
section
variable {X:Cx} {pins:List (Addr×Obj)} {σ:St} {H:Hp} {s:Shared}
structure e8 (X:Cx) (pins:List (Addr×Obj)) (H:Hp) (b:Addr):Prop where
 s0:X.s₀.heap.get? b=none
 un:H b=none
 nl:b≠X.env.locals
 nc:∀ x c,X.env.cells.lookup x=some c→c≠b
 np:∀ p∈X.pn ++ pins,p.1≠b
theorem Inv.strange (I:Inv X pins σ H s) (hex:X.ex = []) {b:Addr} (n:s.heap.get? b=none):e8 X pins H b:=by
 have b0:=I.base
 rw [hex] at b0
 refine ⟨?_,ff I.hok n,fun z=>?_,fun x c e z=>?_,fun p hp z=>?_⟩
 ·cases z:X.s₀.heap.get? b with
  | none=>rfl
  | some o=>
    obtain ⟨o',e'⟩:=b0.there b o z (by simp)
    rw [n] at e'
    cases e'
 ·obtain ⟨m,⟨o,_,_,ho,_⟩,_⟩:=I.loc
  rw [← z,n] at ho
  cases ho
 ·obtain ⟨v,o,ho,_⟩:=I.cell x c e
  rw [z,n] at ho
  cases ho
 ·have:=(I.pin p hp).1
  rw [z,n] at this
  cases this
theorem Inv.wr {ch:List Addr} {h':Heap} {t':Nat} (I:Inv X pins σ H s) (hex:X.ex = []) (y:Wr (frs X.stack) ch s.heap h') (hc:∀ b∈ch,e8 X pins H b):Inv X pins σ H { s with heap:=h',toks:=t' }:=by
 have b0:=I.base
 rw [hex] at b0
 have nS:∀ b,b≠X.env.locals→b ∉ X.fs→b ∉ frs X.stack:=fun b n1 n2 z=>(List.mem_cons.mp (I.stkSub b z)).elim n1 n2
 have nl0:X.s₀.heap.get? X.env.locals=none:=Heap.get?_none_of_le I.ok.above
 refine ⟨I.ok,I.os,I.bare,?_,?_,fun x c e=>?_,I.free,I.freeC,fun p hp=>?_,rR I.hok y (fun b hb=>(hc b hb).un) I.stkFree,I.len⟩
 ·rw [hex]
  refine wI b0 y (fun b hb=>?_) (fun b hb=>(hc b hb).s0)
  rcases List.mem_cons.mp (I.stkSub b hb) with z | z
  ·rw [z];exact .inr nl0
  ·exact .inl z
 ·obtain ⟨m,⟨o,es,ep,ho,r⟩,hl⟩:=I.loc
  obtain ⟨sl,e1⟩:=y.slot _ o ho fun z=>(hc _ z).nl rfl
  refine ⟨m,⟨_,es,ep,e1,r⟩,fun i x v e2 e3 e4=>?_⟩
  obtain ⟨u,ru,l⟩:=hl i x v e2 e3 e4
  refine ⟨u,ru,?_⟩
  rcases l with l | ⟨k,c,e,oc,hoc,hd⟩
  ·exact .inl l
  ·obtain ⟨sl2,e5⟩:=y.slot c oc hoc fun z=>(hc c z).nc x c e rfl
   exact .inr ⟨k,c,e,_,e5,hd⟩
 ·obtain ⟨v,oc,hoc,hd⟩:=I.cell x c e
  obtain ⟨sl2,e5⟩:=y.slot c oc hoc fun z=>(hc c z).nc x c e rfl
  exact ⟨v,_,e5,hd⟩
 ·obtain ⟨e,n,ne,nf,d⟩:=I.pin p hp
  exact ⟨y.keep _ _ e (nS _ ne nf) fun z=>(hc _ z).np p hp rfl,n,ne,nf,d⟩
theorem Inv.track {b:Addr} {o:HO} (I:Inv X pins σ H s) (q:e8 X pins H b) (new:bo X.prog X.w (upd H b o) s.heap b o):Inv X pins σ (upd H b o) s:=by
 have nb:∀ c u,X.s₀.heap.get? c=some u→c≠b:=fun c u e z=>by rw [z,q.s0] at e;cases e
 refine ⟨I.ok,I.os,I.bare,⟨I.base.keep,I.base.slot,fun c u e n hx=>by rw [aj (nb c u e)];exact I.base.free c u e n hx,I.base.there,fun c xs e=>?_,fun c u v e=>?_,fun c ps e=>?_⟩,I.loc,I.cell,by rw [aj (Ne.symm q.nl)];exact I.free,fun x c e=>by rw [aj (q.nc x c e)];exact I.freeC x c e,fun p hp=>?_,oM I.hok (fun _ _ e=>e) q.un new,I.len⟩
 ·have z:=I.base.tups c xs e
  rw [aj (al z q.un)];exact z
 ·have z:=I.base.frzs c u v e
  rw [aj (al z q.un)];exact z
 ·obtain ⟨m,z⟩:=I.base.tbls c ps e
  exact ⟨m,by rw [aj (al z q.un)];exact z⟩
 ·obtain ⟨e,n,ne,nf,d⟩:=I.pin p hp
  exact ⟨e,by rw [aj (q.np p hp)];exact n,ne,nf,d⟩
theorem Inv.gone {i:Nat} {x:Str} {m:Str→Option Value} {v:Option Value} {h':Heap} {t':Nat} (I:Inv X pins σ H s) (hi:X.N[i]? = some x) (hl:X.env.kindOf x=some .local) (hn:s.heap.Ns X.env.locals m) (hn':h'.Ns X.env.locals (fun y=>if y=x then v else m y)) (hs:Heap.SameBut X.env.locals s.heap h') (nd:X.N.Nodup):Inv X pins (σ.set i none) H { s with heap:=h',toks:=t' }:=by
 obtain ⟨oL,es,ep,hoL,r⟩:=id hn
 have neL:∀ b o,X.s₀.heap.get? b=some o→b≠X.env.locals:=fun b o e=>Nat.ne_of_lt (Nat.lt_of_lt_of_le (Heap.lt_size e) I.ok.above)
 refine ⟨I.ok,I.os,I.bare,⟨fun b o e n hb hx=>(hs.2 b (neL b o e)).trans (I.base.keep b o e n hb hx),fun b o e n hb hx=>?_,I.base.free,fun b o e hx=>?_,I.base.tups,I.base.frzs,I.base.tbls⟩,⟨_,hn',fun j y w e1 e2 e3=>?_⟩,fun y c e=>?_,I.free,I.freeC,fun p hp=>?_,fun b ob e=>?_,by rw [List.length_set];exact I.len⟩
 ·obtain ⟨sl,e1⟩:=I.base.slot b o e n hb hx
  exact ⟨sl,(hs.2 b (neL b o e)).trans e1⟩
 ·obtain ⟨o',e1⟩:=I.base.there b o e hx
  exact ⟨o',(hs.2 b (neL b o e)).trans e1⟩
 ·have ji:j≠i:=fun z=>by
   subst z
   by_cases lt:j<σ.length
   ·rw [List.getElem?_set_self lt] at e2;cases e2
   ·rw [List.getElem?_eq_none (by rw [List.length_set];omega)] at e2;cases e2
  rw [List.getElem?_set_ne (Ne.symm ji)] at e2
  obtain ⟨m2,hn2,hl2⟩:=I.loc
  obtain ⟨u,ru,l⟩:=hl2 j y w e1 e2 e3
  refine ⟨u,ru,?_⟩
  have em:m2=m:=by
   obtain ⟨o2,es2,ep2,ho2,hd2,_,hm2⟩:=hn2
   obtain ⟨o3,es3,ep3,ho3,hd3,_,hm3⟩:=hn
   rw [ho2] at ho3
   cases ho3
   rw [hd2] at hd3
   cases hd3
   funext z
   rw [← hm2 z,← hm3 z]
  rcases l with ⟨k,e⟩ | ⟨k,c,e,z⟩
  ·refine .inl ⟨k,?_⟩
   have yx:y≠x:=fun z=>ji (iH nd e1 (z ▸ hi))
   rw [em] at e
   simp [yx,e]
  ·exact .inr ⟨k,c,e,z.sameBut hs (I.cne y c e)⟩
 ·obtain ⟨w,z⟩:=I.cell y c e
  exact ⟨w,z.sameBut hs (I.cne y c e)⟩
 ·obtain ⟨e,n,ne,nf,d⟩:=I.pin p hp
  exact ⟨(hs.2 p.1 ne).trans e,n,ne,nf,d⟩
 ·refine (I.hok b ob e).stay (fun c w hc q=>(hs.2 c fun z=>?_).trans q) (fun _ q=>q) fun _ _ q=>q
  rcases hc with hc | hc
  ·rw [← hc,z,I.free] at e;cases e
  ·rw [z,I.free] at hc;cases hc
end
theorem qu {M:Model} {A:Around} {E:Value→Shared→Prop} {s:Shared} {env:Env} {n:Str} {pos:Pos} {m:Str→Option Value} {Q:Unit→Shared→Prop} (hl:env.kindOf n=some .local) (hn:s.heap.Ns env.locals m) (hp:(env.scope.kind == .class || (env.scope.kind == .module && env.locals != env.globals))=false)
 (h:∀ h' v,h'.Ns env.locals (fun y=>if y=n then v else m y)→Heap.SameBut env.locals s.heap h'→Q () { s with heap:=h',toks:=s.toks+1 }):wpAny M A (do bindName env n .none;unbindBehindTheSuite env n pos) Q E s:=by
 refine wpAny_bind (wpAny_bindName (wpAny_storeName_local hl hn (fun h1 n1 s1=>?_) hp))
 unfold unbindBehindTheSuite unbindName;refine wpAny_onRaise (wpAny_bind (wpAny_point (wpAny_bind ?_)))
 unfold deleteName;simp only [hl,hp];rw [if_neg (by decide)]
 refine wpAny_bind (wpAny_nsDel_keeps n1 fun h2 v n2 s2=>?_)
 simp only [if_true,Option.isSome_some,Bool.not_true,Bool.false_eq_true,if_false]
 refine wpAny_pure (wpAny_point (h h2 v ?_ (s1.trans s2)))
 have e:(fun y=>if y=n then v else if y=n then some Value.none else m y)=fun y=>if y=n then v else m y:=by
  funext y
  by_cases z:y=n <;> simp [z]
 rw [e] at n2
 exact n2
abbrev eE (X:Cx) (e:Value):Cx:={ X with A:=X.A.mark (some e),calm:=false,xe:=fun _ _=>False }
theorem jz {X:Cx} {pins:List (Addr×Obj)} {σ:St} {H:Hp} {s:Shared} (e:Value) (I:Inv X pins σ H s):Inv (eE X e) pins σ H s:=
 ⟨⟨I.ok.mod,I.ok.kind,I.ok.glob,I.ok.blt,I.ok.above,I.ok.inj,I.ok.has,I.ok.cab,(fun z=>nomatch z),I.ok.frames,I.ok.stk,I.ok.exf,I.ok.bs,I.ok.bsz,I.ok.noex,I.ok.exfs,I.ok.funs,I.ok.frf⟩,I.os,I.bare,I.base,I.loc,I.cell,I.free,I.freeC,I.pin,I.hok,I.len⟩
theorem uC {X:Cx} {pins:List (Addr×Obj)} {σ:St} {H:Hp} {s:Shared} {e:Value} (hd:X.A.handled=none) (I:Inv (eE X e) pins σ H s):Inv X pins σ H s:=
 ⟨⟨I.ok.mod,I.ok.kind,I.ok.glob,I.ok.blt,I.ok.above,I.ok.inj,I.ok.has,I.ok.cab,(fun _=>hd),I.ok.frames,I.ok.stk,I.ok.exf,I.ok.bs,I.ok.bsz,I.ok.noex,I.ok.exfs,I.ok.funs,I.ok.frf⟩,I.os,I.bare,I.base,I.loc,I.cell,I.free,I.freeC,I.pin,I.hok,I.len⟩
structure ly (K:Frag) (B:Addr):Prop where
 ty:typeIn K (.ref B)=some (.type "type")
 is:(clsIn K B).isSome=true
 be:mroIn K B (.type "BaseException")=some true
theorem oO {K:Frag} {M:Model} {h:Heap} {C:Addr} (X:K.In h) (e:(clsIn K C).isSome=true):Looks M h (isType (.ref C)) true:=by
 obtain ⟨c',d',cd',sl',hk⟩:=qV e
 intro A' Q' E' s' k q
 unfold isType;unfold loadHead
 exact wpAny_bind (wpAny_loadPart (k _ _ (X _ _ hk)) (wpAny_pure q))
theorem mW {K:Frag} {M:Model} {A:Around} {E:Value→Shared→Prop} {s:Shared} {a B C:Addr} {o:Obj} {Q:Bool→Shared→Prop} (X:K.In s.heap) (Y:ly K B) (he:s.heap.get? a=some o) (hc:o.cls = .ref C) (hm:mroIn K C (.ref B)=some true) (hq:Q true s):wpAny M A (excMatches (.ref a) (.ref B)) Q E s:=by
 have L1:Looks M s.heap (isInstance (.ref B) (.type "tuple")) false:=(looks_typeIn X Y.ty).andThen (Looks.of_pure tc_notTuple)
 have L2:=oO (M:=M) X Y.is
 have L3:=looks_mroIn (M:=M) X Y.be
 have L4:=looks_mroIn (M:=M) X hm
 obtain ⟨h,g,d,t,os⟩:=s
 unfold excMatches isExcClass
 refine wpAny_bind (L1.at ?_)
 dsimp only
 rw [if_neg Bool.false_ne_true]
 refine wpAny_bind (wpAny_pure ?_)
 rw [List.forIn_cons]
 refine wpAny_bind (wpAny_bind (wpAny_bind (wpAny_bind (L2.at ?_))))
 rw [if_pos rfl]
 refine L3.at ?_
 rw [if_neg (show ¬ ((!true)=true) by decide)]
 refine wpAny_pure ?_
 dsimp only
 rw [List.forIn_nil]
 refine wpAny_pure ?_
 have T0:∀ {Q':Value→Shared→Prop},Q' (.ref C) ⟨h,g,d,t,os⟩→wpAny M A (typeOf (.ref a)) Q' E ⟨h,g,d,t,os⟩:=fun {Q'} q'=>by
  repeat (first | (with_reducible refine wpAny_loadPart_at he ?_;rw [hc]) | wp_step)
  exact q'
 refine wpAny_bind (T0 ?_)
 rw [List.forIn_cons]
 refine wpAny_bind (wpAny_bind (wpAny_bind (L4.at ?_)))
 rw [if_pos rfl]
 exact wpAny_pure (wpAny_pure (wpAny_pure hq))
theorem rD {X:Cx} {pins:List (Addr×Obj)} {σ:St} {H:Hp} {s:Shared} {x:Str} {ps:List Str} {k n:Nat} {sp:Sp} {p pos:Pos} {e:Expr} {es:List Expr} {t:TA} {Q:VK} {Ec:XK} (c:dw X.prog X.w X.K X.mg X.base x ps k sp) (hr:Room n X.A) (hn:k≤n) (ha:PA X.nox (e :: es) t) (I:Inv X pins σ H s) (h:t σ H fun vs H1=>sp vs H1 Q Ec) (hg:Gl X x)
 (hdb:(x == ("__debug__":Str))=false) (he:starEach (e :: es) X.env=(false,eval e X.env) :: starEach es X.env) (hpl:(backTo pos (starEach es X.env)).any (·.1)=false) :
 wpAny (model X.prog X.w) X.A (eval (.Call (.Name x p) (e :: es) [] pos) X.env) (EP X pins σ Q) (fun e' s'=>∃ H1 s1,Inv X pins σ H1 s1∧CXF X.prog X.w X.stack H1 s1 Ec e' s') s:=by
 obtain ⟨fa,fd,F,b,kp,m⟩:=c.ex
 refine wpAny_Call_Name_kw (cW I hg m ?_ hdb)
 have hp:=ha pos pins s σ H _ (I.wish _) h
 refine callWith_K (h₀:=X.base) I.ok.mod.kin kp (wpAny_mono hp (fun us s1 z=>?_) (fun _ _ z=>False.elim z)) he hpl
 obtain ⟨vs,H1,I0,r,q⟩:=z
 have I1:=I0.unwish
 refine ⟨I1.kIn,?_⟩
 have hl:us.length=ps.length:=by rw [← r.length];exact F.len _ _ _ _ q
 have hb:=b s1 us I1.kIn (by rw [List.append_nil];exact hl)
 rw [List.append_nil] at hb
 refine wpAny_call (codeAny_mono (F.run X.A X.stack s1 H1 ⟨us,[]⟩ us vs Q Ec (hr.mono hn) I1.env0 hb r q) fun rr s' hq=>?_)
 cases rr with
 | error e'=>exact ⟨H1,s1,I1,hq⟩
 | ok fl=>
   cases fl with
   | ret u=>exact I1.after hq
   | next=>exact False.elim hq
   | brk=>exact False.elim hq
   | cont=>exact False.elim hq
section
variable {X:Cx}
abbrev TJ:=Str→St→Hp→VK→Prop
def PJ (X:Cx) (es:List Expr) (t:TJ):Prop:=∀ (pins:List (Addr×Obj)) (s:Shared) (σ:St) (H:Hp) (acc:Str) (Q:VK),Inv X pins σ H s→t acc σ H Q →
 Joins (model X.prog X.w) X.A X.xe (evalEach es X.env) acc (fun out s1=>out.length≤sizeLine∧EP X pins σ Q (.str out s1.toks) { s1 with toks:=s1.toks+1 }) s
def tJn:TJ:=fun acc σ H Q=>acc.length≤sizeLine∧Q (.str acc) H
def tJc (te:TE) (t:TJ):TJ:=fun acc σ H Q=>te σ H fun v H1=>∃ y,v = .str y∧(acc ++ y).length≤sizeLine∧t (acc ++ y) σ H1 Q
theorem nA:PJ X [] tJn:=fun pins s σ H acc Q I h=>⟨h.1,.str acc,H,I.tok _,⟨_,rfl⟩,h.2⟩
theorem cx {e:Expr} {es:List Expr} {te:TE} {t:TJ} (he:PE X e te) (ht:PJ X es t):PJ X (e :: es) (tJc te t):=by
 intro pins s σ H acc Q I h
 show wpAny _ _ (eval e X.env) _ _ _
 refine thn (he pins s σ H _ I h) fun v s1 z=>?_
 obtain ⟨w,H1,I1,r,y,rfl,hz,q⟩:=z
 obtain ⟨tk,rfl⟩:=r
 exact ⟨y,tk,rfl,hz,ht pins s1 σ H1 _ Q I1 q⟩
def Ad (t:TJ):TE:=fun σ H Q=>t Str.empty σ H Q
theorem kL {e1 e2:Expr} {es:List Expr} {t:TJ} {pos:Pos} (ht:PJ X (e1 :: e2 :: es) t):PE X (.JoinedStr (e1 :: e2 :: es) pos) (Ad t):=by
 intro pins s σ H Q I h
 exact wpAny_JoinedStr (ht pins s σ H _ Q I h)
end
theorem eJ (ss:List Str):(ss.map V.str).all cV=true:=by
 rw [List.all_map,List.all_eq_true]
 intro _ _
 rfl
theorem pJ {ss:List Str} {its:List Value} (r:aQ (ss.map V.str) its) {j:Nat} (h:j<its.length):∃ z tk,ss[j]? = some z∧its[j] = .str z tk:=by
 have hl:=r.length
 rw [List.length_map] at hl
 have e:(ss.map V.str)[j]? = some (.str ss[j]):=by rw [List.getElem?_map,List.getElem?_eq_getElem (by omega)];rfl
 obtain ⟨u,hu,tk,rfl⟩:=r.get e
 rw [List.getElem?_eq_getElem h] at hu
 exact ⟨ss[j],tk,List.getElem?_eq_getElem (by omega),Option.some.inj hu⟩
def xT (S:Hp→Addr→List V→Prop):V→List V→Hp→VK→Prop:=fun x vs H Q=>∃ (p:Addr) (ss:List Str) (z:Str) (j:Nat),x = .ref p∧vs = [.str z]∧S H p (ss.map V.str)∧ss[j]? = some z∧(∀ m,m<j→ss[m]?≠some z)∧j≤1000∧Q (.int (j:Nat)) H
section
variable {X:Cx}
theorem lV {M:Model} {A:Around} {E:Value→Shared→Prop} {s:Shared} {items:Array Value} {x:Value} {e:Value→Bool} {Q:Option PySem.Fin×Unit→Shared→Prop} (he:∀ y∈items,∀ (E':Value→Shared→Prop) (Q':Bool→Shared→Prop),Q' (e y) s→wpAny M A (eqBool y x) Q' E' s) {j:Nat} (hj:j<items.size) (hit:e items[j]=true)
 (hq:Q (some (.done (.ret (.int j s.toks))),()) { s with toks:=s.toks+1 }):∀ (k i:Nat),i+k=items.size→i≤j→(∀ m (hm:m<items.size),i≤m→m<j→e items[m]=false) →
 wpAny M A (forIn (List.range' i k) ((none:Option PySem.Fin),()) fun (i:Nat) _=>match items[i]? with
  | some y=>do
    if ← eqBool y x then
     let r ← retInt (i:Nat)
     pure (ForInStep.done (some r,()))
    else pure (ForInStep.yield (none,()))
  | _=>pure (ForInStep.yield (none,()))) Q E s
 | 0,i,h1,h2,_=>by omega
 | k+1,i,h1,h2,hn=>by
   have hi:i<items.size:=by omega
   rw [List.range'_succ,List.forIn_cons,Array.getElem?_eq_getElem hi]
   refine wpAny_bind (wpAny_bind (he _ (Array.getElem_mem hi) _ _ ?_))
   by_cases z:i=j
   ·subst z
    rw [hit,if_pos rfl]
    refine wpAny_bind ?_
    unfold retInt
    exact wpAny_bind (wpAny_mkInt (wpAny_pure (wpAny_pure (wpAny_pure hq))))
   ·rw [hn i hi (Nat.le_refl _) (by omega),if_neg Bool.false_ne_true]
    exact wpAny_pure (lV he hj hit hq k (i+1) (by omega) (by omega) fun m hm h3 h4=>hn m hm (by omega) h4)
theorem qI (l:Addr) (items:Array Value) (x:Value) (e:Value→Bool) (j:Nat) (hj:j<items.size) (hit:e items[j]=true) (hno:∀ m (hm:m<items.size),m<j→e items[m]=false) :
 Meets (Builtin.«tuple.index» ⟨[.ref l,x],[]⟩) (fun A R s=>IsTup s.heap l items∧(∀ y,y∈items→SeqAt.EqAt A.in1 s y x (e y))∧R (.ok (.ret (.int j s.toks))) { s with toks:=s.toks+1 }):=by
 intro prog w A R s h
 obtain ⟨ht,he,hq⟩:=h
 unfold Builtin.«tuple.index»
 refine wpAny_bind (wpAny_pure ?_)
 refine wpAny_bind (tupleItemsOf_ ht ?_)
 refine wpAny_bind (wpAny_pure ?_)
 refine wpAny_bind (wpAny_pure ?_)
 dsimp only
 rw [Nat.min_self,Std.Legacy.Range.forIn_eq_forIn_range']
 have ez:Std.Legacy.Range.size [:items.size]=items.size:=by simp [Std.Legacy.Range.size]
 rw [ez]
 refine wpAny_bind (lV (e:=e) (fun y hy E' Q' q'=>he y hy prog w E' Q' q') hj hit ?_ items.size 0 (by omega) (by omega) fun m hm _ h4=>hno m hm h4)
 exact wpAny_pure hq
theorem qt:MtR X "tuple.index" (xT (SqT X.K)):=by
 intro pins s σ H x vs v us Q I rx rv h
 obtain ⟨p,ss,z,j,rfl,rfl,hS,hj,hno,h1000,q⟩:=h
 cases rx
 obtain ⟨u,rfl,tk,rfl⟩:=rv.one
 obtain ⟨its,r,pl,hz⟩:=I.tuple hS
 have hl:=r.length
 rw [List.length_map] at hl
 have hj':j<its.length:=by have:=(List.getElem?_eq_some_iff.mp hj).1;omega
 have eqs:∀ (A:Around) (y:Value),y∈its.toArray→SeqAt.EqAt A s y (.str z tk) (eqU (.str z) y):=fun A y hy=>dF (x:=.str z) ⟨tk,rfl⟩ rfl r (eJ ss) y (by simpa using hy)
 obtain ⟨o,ho,hc,n,hd⟩:=id pl
 refine call_meets PySem.F.slot_tuple_index ⟨_,ho,hc⟩ PySem.F.entry_tuple_index (PySem.F.args_tuple_index_2 _ _) (qI p its.toArray (.str z tk) (eqU (.str z)) j (by simpa using hj') ?_ ?_) ⟨pl,fun y hy=>eqs _ y hy,⟨.int j,H,I.tok _,⟨_,rfl⟩,q⟩⟩
 ·obtain ⟨z',tk',e1,e2⟩:=pJ r hj'
  rw [hj] at e1
  cases e1
  show eqU (.str z) its[j]=true
  rw [e2]
  exact beq_self_eq_true z
 ·intro m hm hlt
  have hm':m<its.length:=by simpa using hm
  obtain ⟨z',tk',e1,e2⟩:=pJ r hm'
  show eqU (.str z) its[m]=false
  rw [e2]
  exact beq_eq_false_iff_ne.mpr fun w=>hno m hlt (by rw [e1,w])
end
end L2.Ex
end
section
namespace L2.Bk
open L2.Bw
noncomputable def five:List Str:=["arg","res","item","one","two"]
noncomputable def la (t:Kn) (s:Str):Option Kn:=if t.h = "?" then some qK else if s∈aJ t.h then t.ks[(aJ t.h).idxOf s]? else none
end L2.Bk
end
section
namespace L2.Ex
theorem gX {Y:Cx} {E:XK} {tg iter:Expr} {body:List Stmt} {wi:TI} {g:TG} {tb:TS} {pos:Pos} (hc:Y.calm=true) (hi:PI (Y.wish (XS Y E)) tg iter wi) (hg:PG (Y.wish (XS Y E)) tg g) (hb:PSs (Y.wish (XS Y E)) body tb)
 (hs:∀ x,foldedSetIterable iter Y.env x=pure x:=by intro _;rfl):PS (Y.wish (XS Y E)) (.For tg iter body [] pos) (Ac wi g tb):=
 cQ (X:=Y.wish (XS Y E)) (yA (X:=Y) (E:=E)) hc hi hg hb hs
end L2.Ex
namespace L2.Bw
def jG (K:W.Frag) (ss:List Str) (v:Value):Bool:=gC K ss v && (match v with | .ref b=>(match K.lookup b with | some o=>o.dict.isNone | none=>false) | _=>false)
def IsN (K:W.Frag) (ss:List Str) (v:Value):Prop:=∃ b,v = .ref b∧(∀ H:Hp,SqT K H b (ss.map V.str))∧∃ o,K.lookup b=some o∧o.cls = .type "tuple"∧o.dict=none
theorem wX {K:W.Frag} (ss:List Str) (v:Value) (h:jG K ss v=true):IsN K ss v:=by
 unfold jG at h
 rw [Bool.and_eq_true_iff] at h
 obtain ⟨b,rfl,hq⟩:=rV ss v h.1
 refine ⟨b,rfl,hq,?_⟩
 have h1:=h.1
 unfold gC at h1
 have h2:=h.2
 cases e:K.lookup b with
 | none=>simp only [e] at h2;cases h2
 | some o=>
   simp only [e] at h2 h1
   rw [Bool.and_eq_true_iff] at h1
   exact ⟨o,rfl,by simpa using h1.1,by simpa using h2⟩
section
variable {X:Cx}
def zK (K:W.Frag) (a:Addr) (D:List (Str×List Str)):R2:=fun x y H Q=>x = .ref a∧∃ z ss,y = .str z∧KTD.datumAt z D=some ss∧∀ c,(∀ H':Hp,SqT K H' c (ss.map V.str))→(∃ o,K.lookup c=some o∧o.cls = .type "tuple"∧o.dict=none)→Q (.ref c) H
theorem vh {x:Str} {p pos:Pos} {b:Expr} {tb:TE} {a:Addr} {D:List (Str×List Str)} (hg:Gl X x) (hm:X.mg x=some (.ref a)) (hK:KTD.tabLook (jG X.K) (fun b=>X.K.lookup b) a D=true) (hb:PE X b tb) (hs:eZ b)
 (hd:(x == ("__debug__":Str))=false:=by decide) (hl:∀ r,letTemporaryGo (.Name x p) (.ref a) r=pure ():=by intro _;rfl):PE X (.Subscript (.Name x p) b pos) (tOp (zK X.K a D) (tC (.ref a)) tb):=by
 intro pins s σ H Q I h
 refine Subscript_ (pS (fq hg hm (v:=.ref a) rfl hd) hb I h fun v u s2 x' y H2 I2 rx ry q=>?_)
 obtain ⟨e,z,ss,e',hat,q⟩:=q
 subst e e'
 cases rx
 obtain ⟨tz,e⟩:=ry
 subst e
 have T:KTD.TabOf (IsN X.K) s2.heap a D:=KTD.tab_of_look wX (fun b o e=>I2.kIn b o e) hK
 have ty:s2.TypeIs (.ref a) "dict":=by obtain ⟨_,o,_,_,ho,hc,_⟩:=T;exact ⟨o,ho,hc.1⟩
 refine subscriptTail_builtin ty slot_dict_getitem.lookup ?_ (hs _ _) hl
 unfold getItem
 refine wpAny_holding ?_
 refine wpAny_bind (wpAny_sequenceKey ty (by decide) ?_)
 refine wpAny_bind (wpAny_callSpecial?_slot (name:=Str.ofString "__getitem__") ty slot_dict_getitem (wpAny_call_entry slot_dict_getitem ty entry_dict_getitem ?_ (args_dict_getitem _ _)))
 show wpAny _ _ (dictGet a (.str z tz) >>= _) _ _ s2
 refine wpAny_bind (ko T hat fun v hv=>wpAny_pure ⟨v,rfl,wpAny_pure ?_⟩)
 obtain ⟨c,e,hc,ho⟩:=hv
 subst e
 exact ⟨.ref c,H2,I2.tok _,rfl,q c hc ho⟩
end
end L2.Bw
end
section
namespace L2.Ex
open PySem.W
def mq (bmB:List Value):List Value→Bool
 | []=>false
 | v :: r=>(v :: r) == bmB || match v with | .ref _=>mq bmB r | _=>false
theorem gG {self:Value} {bmB:List Value} (hp:refuseLoop self "__setattr__" bmB=pure ()):∀ {l:List Value},mq bmB l=true→refuseLoop self "__setattr__" l=pure ()
 | [],e=>by cases e
 | v :: r,e=>by
   unfold mq at e
   rcases Bool.or_eq_true_iff.mp e with z | z
   ·rw [beq_iff_eq.mp z];exact hp
   ·split at z
    ·rw [refuseLoop_ref];exact gG hp z
    ·cases z
abbrev veB:List Value:=[.type "ValueError",.type "Exception",.type "BaseException",.type "object"]
structure jg (K:Frag) (C:Addr):Prop where
 sa:findIn K (.ref C) "__setattr__" = some (some (.builtin "object.__setattr__"))
 over:((clsIn K C).any fun cd=>mq veB cd.mro)=true
 hd:((clsIn K C).any fun cd=>cd.hasDict)=true
 ob:mroIn K C (.type "object")=some true
section
variable {prog:Program} {w:World} {A:Around} {E:Value→Shared→Prop} {s:Shared} {K:Frag} {x C:Addr} {o:Obj} {vs:Array Value} {mA:Str→Option Value} {name:Str} {v:Value} {ns:List Str}
theorem jy {M:Model} {d:Addr} {tk:Tok} {Q:Fin→Shared→Prop} (hn:s.heap.Ns1 d mA) (hw:Within mA ns) (hz:ns.length<1000)
 (hq:∀ h',h'.Ns1 d (fun y=>if y=name then some v else mA y)→Heap.SameBut d s.heap h'→Q (.done (.ret .none)) { s with heap:=h',toks:=s.toks+1 }):wpAny M A (Builtin.ObjectAttr.storeInDict d (.str name tk) name v) Q E s:=by
 unfold Builtin.ObjectAttr.storeInDict Builtin.ObjectAttr.newKeyGuard
 refine wpAny_bind (wpAny_pure (wpAny_bind (wpAny_nsSet1 hn fun h' n' sb=>?_)))
 obtain ⟨od,es,ep,e1,e2,e3⟩:=n'.count (Within.cons name v hw)
 have few:es.size≤sizeLine:=Nat.le_trans e3 (by rw [List.length_cons,sizeLine_eq];omega)
 refine wpAny_bind (wpAny_lookBehind e1 (by rw [e2];exact pastItsLine_dict (Nat.le_succ_of_le few)) ?_)
 exact wpAny_pure (hq h' n' sb)
theorem ju {Q:Unit→Shared→Prop} (X:K.In s.heap) (Z:jg K C) (hf:findIn K (.ref C) name=some none) (hx:s.heap.get? x=some o) (hc:o.cls = .ref C) (hd:o.data = .fields vs)
 (hm:(o.dict=none∧∀ n,mA n=none)∨∃ d,o.dict=some d∧d≠x∧s.heap.Ns1 d mA) (hw:Within mA ns) (hz:ns.length<1000)
 (hq:∀ h' d t',h'.get? x=some { o with dict:=some d }→d≠x→h'.Ns1 d (fun y=>if y=name then some v else mA y)→(∀ b u,b≠x→b≠d→s.heap.get? b=some u→h'.get? b=some u) →
  (o.dict=some d∨(o.dict=none∧s.heap.get? d=none))→Q () { s with heap:=h',toks:=t' }):wpAny (model prog w) A (setAttr (.ref x) name v) Q E s:=by
 obtain ⟨od,I⟩:∃ od,InstAt s.heap x o C od:=by
  rcases hm with ⟨z,_⟩ | ⟨d,z,_,od,_,_,e,_⟩
  ·exact ⟨none,hx,hc,by unfold notCls;rw [hd],by rw [z];trivial⟩
  ·exact ⟨some od,hx,hc,by unfold notCls;rw [hd],by rw [z];exact e⟩
 have SF:=PySem.F.store_ValueError
 obtain ⟨cd,hcd,hov⟩:=any_some Z.over
 obtain ⟨cd',hcd',hhd⟩:=any_some Z.hd
 rw [hcd] at hcd'
 cases hcd'
 refine set_plain X I Z.sa ?_
 obtain ⟨h,g,d,t,os⟩:=s
 have sub:Looks (model prog w) h (isInstance (.ref x) (.type "object")) true:=I.type.andThen (looks_mroIn X Z.ob)
 refine codeAny_call_builtin SF.slot.plain SF.entry (@check_slot (model prog w) _ _ ⟨h,g,d,t+1,os⟩ "object.__setattr__" "object" "__setattr__" (.ref x) [.str name t,v] [] _ SF.kind SF.split sub (SF.args (.ref x) (.str name t) v) ?_)
 have lm:Looks (model prog w) h (mroOf (.ref C)) cd.mro:=(looks_clsIn X hcd).andThen .now
 rw [osa_eq,refuse_eq]
 have l0:=I.type (M:=model prog w)
 have lf:=looks_findIn (M:=model prog w) X hf
 refine wpAny_bind (wpAny_bind (l0.at (wpAny_bind (lm.at ?_))))
 rw [gG (SF.passes _) hov]
 refine wpAny_pure (wpAny_bind (l0.at (wpAny_bind (lf.at ?_))))
 refine wpAny_bind (wpAny_pure ?_)
 refine wpAny_bind (wpAny_pure ?_)
 have lc:=looks_clsIn (M:=model prog w) X hcd
 obtain ⟨oc,odi,oda,osl⟩:=o
 dsimp only at hc hd hm hx
 subst hc hd
 refine wpAny_bind (wpAny_bind (wpAny_loadPart hx (wpAny_bind (lc.at ?_))))
 rw [hhd]
 rcases hm with ⟨rfl,hmA⟩ | ⟨dx,rfl,hne,hns⟩
 ·obtain rfl:mA=fun _=>none:=funext hmA
  have hxs:x≠h.objs.size:=Nat.ne_of_lt (Heap.lt_size hx)
  have hx1:=Heap.get?_push_of_some { cls:=.type "dict",data:=.dict #[] } hx
  refine wpAny_bind (wpAny_alloc' (wpAny_bind (wpAny_update' hx1 ?_)))
  have hg:((h.push { cls:=.type "dict",data:=.dict #[] }).update x fun o=>{ cls:=o.cls,dict:=some h.objs.size,data:=o.data,slots:=o.slots }).get? h.objs.size=some { cls:=.type "dict",data:=.dict #[] }:=
   (Heap.get?_update_ne _ _ _ _ (Ne.symm hxs)).trans (Heap.get?_push_at rfl rfl)
  have hn0:((h.push { cls:=.type "dict",data:=.dict #[] }).update x fun o=>{ cls:=o.cls,dict:=some h.objs.size,data:=o.data,slots:=o.slots }).Ns h.objs.size (fun _=>none):=
   ⟨_,#[],_,hg,rfl,fun e he=>absurd he (by simp),fun _=>rfl⟩
  refine wpAny_pure (a:=some h.objs.size) ?_
  refine jy (Heap.Ns1.of_empty hn0) Within.nil (by decide) fun h' n' sb=>?_
  refine hq h' h.objs.size _ ?_ (Ne.symm hxs) n' (fun b u h1 h2 e=>?_) (.inr ⟨rfl,Heap.get?_none_of_le (Nat.le_refl _)⟩)
  ·refine (sb.2 x hxs).trans (Heap.get?_update_self _ hx1 rfl)
  ·exact (sb.2 b h2).trans ((Heap.get?_update_ne _ _ _ _ h1).trans (Heap.get?_push_of_some _ e))
 ·refine wpAny_pure (a:=some dx) ?_
  refine jy hns hw hz fun h' n' sb=>?_
  exact hq h' dx _ ((sb.2 x (Ne.symm hne)).trans hx) hne n' (fun b u _ h2 e=>(sb.2 b h2).trans e) (.inl rfl)
theorem rF {d:Addr} {expr:Bool} {Q:Value→Shared→Prop} (Y:c9 K C) (hh:hasDictIn K C=true) (X:K.In s.heap) (hf:findIn K (.ref C) name=some none) (hx:s.heap.get? x=some o) (hc:o.cls = .ref C) (hd:o.data = .fields vs) (hdi:o.dict=some d) (hn:s.heap.Ns1 d mA) (hv:mA name=some v) (hv':handedIn v=true)
 (hq:Q v { s with toks:=s.toks+1 }):wpAny (model prog w) A (getAttr (.ref x) name expr) Q E s:=by
 obtain ⟨od,ho,hl⟩:=jF hn
 have I:InstAt s.heap x o C (some od):=⟨hx,hc,by unfold notCls;rw [hd],by rw [hdi];exact ho⟩
 have fo:findObj K C (some od) name=some (.value v):=findObj_own hh hf rfl (by rw [hl,hv])
 obtain ⟨h,g,dr,t,os⟩:=s
 have l0:=I.type (M:=model prog w)
 have l1:=looks_findIn (M:=model prog w) X Y.ga
 have l2:=looks_findIn (M:=model prog w) X Y.gn
 have l3:=looks_find (M:=model prog w) X I fo
 have G:=PySem.F.attrBase_ValueError.ga
 have b1:=G.bind (.ref x)
 unfold getAttr getAttrBy
 refine wpAny_bind (wpAny_mkText (wpAny_holding (wpAny_bind (l0.at (wpAny_bind (l1.at ?_))))))
 show wpAny _ _ (getAttrByItsOwn _ _ _ _ _ _) _ _ _
 unfold getAttrByItsOwn
 refine wpAny_bind (l2.at (wpAny_bind (wpAny_attempt (wpAny_holding ?_))))
 unfold callGetattribute
 rw [show (expr && onTheHeap (Value.builtin "BaseException.__getattribute__"))=false from Bool.and_false _,if_neg Bool.false_ne_true]
 unfold boundAndCalled
 rw [b1]
 refine wpAny_bind (wpAny_pure ?_)
 refine wpAny_call (codeAny_call_builtin G.plain F.entry_bexc_ga (lG Y X I ?_))
 refine wpAny_bind (wpAny_pure (wpAny_bind (wpAny_pure (wpAny_bind (l0.at (wpAny_bind (l3.at ?_)))))))
 exact wpAny_pure (handed_on hv' hq)
end
structure gJ (K:Frag) (C fI:Addr) (bmB:List Value) (newId:String):Prop where
 at_:∃ (nm q:Str) (N:Addr) (bs bm:List Value) (hdct:Bool) (sn:List Str) (sub:List Value) (ab:Bool) (col:Option Bool) (dd:Option Addr) (k0 k1 k2 k3 k5:Option Value),
  K.lookup C=some (excClassObj nm q C N bs bm hdct sn sub ab col dd k0 k1 k2 k3 k5 newId)∧tailIn K bmB bm=true
 init:findIn K (.ref C) "__init__" = some (some (.ref fI))
 fn:isFn K (.ref fI)=true
section
variable {prog:Program} {w:World} {A:Around} {E:Value→Shared→Prop} {K:Frag} {C fI:Addr} {rest bmB:List Value} {B newId initId:String} {h:Heap} {g:Array GenState} {d:Drawn} {t:Nat} {os:OsState}
abbrev j9 (h:Heap) (C:Addr) (rest:List Value):Heap:=(h.push { cls:=.type "tuple",data:=.seq rest.toArray }).push { cls:=.ref C,data:=.fields #[.ref h.objs.size,.none,.none,.none,.bool false,.none] }
theorem ic (b:Addr) (u:Obj) (z:h.get? b=some u):(j9 h C rest).get? b=some u:=Heap.get?_push_of_some _ (Heap.get?_push_of_some _ z)
theorem pR:Heap.MadeExcOf h (j9 h C rest) (h.objs.size+1) (.ref C) rest where
 keeps:=ic
 new:=Heap.get?_none_of_le (Nat.le_succ _)
 there:=⟨h.objs.size,by heap_get,Heap.get?_none_of_le (Nat.le_refl _),Heap.get?_push_of_some _ (Heap.get?_push_at rfl rfl)⟩
theorem jb {Q:Fin→Shared→Prop} (F:ExcBaseFacts B newId initId bmB) (X:K.In h) (O:gJ K C fI bmB newId) (hz:rest.length≤sizeLine)
 (hq:∀ h' e,Heap.MadeExcOf h h' e (.ref C) rest→wpAny (model prog w) A (call (.ref fI) (.ref e :: rest)) (fun r s'=>r = .none∧Q (.done (.ret (.ref e))) s') E ⟨h',g,d,t,os⟩) :
 wpAny (model prog w) A (Builtin.«type.__call__» ⟨.ref C :: rest,[]⟩) Q E ⟨h,g,d,t,os⟩:=by
 obtain ⟨nm,q,N,bs,bm,hdct,sn,sub,ab,col,dd,k0,k1,k2,k3,k5,l,tl⟩:=O.at_
 have c0:=X _ _ l
 have T:=tail_of_in X tl
 have X1:K.In (j9 h C rest):=fun b u z=>ic b u (X b u z)
 have c1:=X1 _ _ l
 have m1:=(pR (h:=h) (C:=C) (rest:=rest))
 obtain ⟨tt,e1,_,_⟩:=id m1.there
 have self:(Value.ref C :: bm).contains (.ref C)=true:=by simp
 have l1:=looks_findIn (M:=model prog w) X1 O.init
 have l2:=fun self=>bind_fn (M:=model prog w) X1 self (beq_iff_eq.mp O.fn)
 repeat (first | with_reducible refine wpAny_loadPart_at c0 ?_ | with_reducible refine wpAny_madeBy_exc c0 ?_ | wp_step)
 refine codeAny_call_builtin_code (Code.quiet_builtin _ F.quiet) (wpAny_check_new_subT F T c0 (codeAny_exc_new_subT F T c0 ?_ hz))
 show wpAny _ _ _ _ _ _
 unfold isInstance
 repeat (first | with_reducible refine wpAny_loadPart_at e1 ?_ | (with_reducible refine wpAny_isSubtype_exc c1 ?_;rw [self]) | wp_step)
 refine l1.at (wpAny_holding (wpAny_bind ((l2 _).at ?_)))
 refine wpAny_bind (wpAny_mono (hq _ _ m1) (fun r s' z=>?_) fun _ _ z=>z)
 obtain ⟨rfl,z⟩:=z
 wp_walk
 exact z
theorem rE {Q:Value→Shared→Prop} (F:ExcBaseFacts B newId initId bmB) (X:K.In h) (O:gJ K C fI bmB newId) (hz:rest.length≤sizeLine)
 (hq:∀ h' e,Heap.MadeExcOf h h' e (.ref C) rest→wpAny (model prog w) (A.under (.builtin "type.__call__" ⟨.ref C :: rest,[]⟩)) (call (.ref fI) (.ref e :: rest)) (fun r s'=>r = .none∧Q (.ref e) s') E ⟨h',g,d,t,os⟩) :
 wpAny (model prog w) A (call (.ref C) rest) Q E ⟨h,g,d,t,os⟩:=by
 obtain ⟨nm,q,N,bs,bm,hdct,sn,sub,ab,col,dd,k0,k1,k2,k3,k5,l,tl⟩:=O.at_
 have c0:=X _ _ l
 have y1:=tc_lookup
 have y2:=tc_bind (.ref C)
 have y3:Shared.TypeIs ⟨h,g,d,t,os⟩ (.ref C) "type":=⟨_,c0,rfl⟩
 refine wpAny_call (codeAny_of_tree ?_)
 show wpAny _ _ (callAny (.ref C) _) _ _ _
 repeat (any_goals (first | assumption | with_reducible refine wpAny_loadPart_at c0 ?_ | wp_step))
 refine ⟨rfl,codeAny_call_builtin_at (Code.quiet_builtin _ (by nofun)) entry_typeCall (wpAny_check_type_call_sub c0 ?_)⟩
 exact jb F X O hz fun h' e m=>hq h' e m
end
def XP (fr:Bool) (p C:Addr) (dx:Option Addr) (h:Heap):Prop:=∃ o vs,h.get? p=some o∧o.cls = .ref C∧o.data = .fields vs∧(0<vs.size∧(fr=true→vs[1]? = some .none))∧o.dict=dx∧∀ d,dx=some d→d≠p
def XQ (fr:Bool) (p C:Addr) (dx:Option Addr):HO:=.ext (XP fr p C dx)
def DO (d:Addr) (fs:List (Str×V)):HO:=.ext fun h=>∃ mA,h.Ns1 d mA∧(∀ f,cN (fs.lookup f) (mA f))∧PySem.Within mA (fs.map (·.1))
section
variable {P:Program} {w:World} {H:Hp} {h h':Heap} {p C d:Addr} {dx:Option Addr} {fs:List (Str×V)} {fr:Bool}
theorem pO (x:XP fr p C dx h):bo P w H h p (XQ fr p C dx):=by
 obtain ⟨o,vs,e,r⟩:=id x
 exact ⟨x,⟨o,e⟩,fun h1 h2 ⟨o1,vs1,e1,r1⟩ y=>⟨o1,vs1,y o1 e1,r1⟩⟩
theorem v8 {mA:Str→Option Value} (n:h.Ns1 d mA) (r:∀ f,cN (fs.lookup f) (mA f)) (wi:PySem.Within mA (fs.map (·.1))):bo P w H h d (DO d fs):=by
 obtain ⟨o,es,ep,e,_⟩:=id n
 exact ⟨⟨mA,n,r,wi⟩,⟨o,e⟩,fun h1 h2 ⟨m1,n1,r1,w1⟩ y=>⟨m1,n1.at y,r1,w1⟩⟩
theorem pz {f:Str} {y:V} {u:Value} {mA:Str→Option Value} (r:∀ g,cN (fs.lookup g) (mA g)) (ry:aU y u):∀ g,cN ((dH f y fs).lookup g) (if g=f then some u else mA g):=fun g=>by
 rw [d8]
 by_cases q:g=f
 ·rw [if_pos q,if_pos q];exact ry
 ·rw [if_neg q,if_neg q];exact r g
theorem i7 {f:Str} {y:V} {u:Value} {mA:Str→Option Value} (wi:PySem.Within mA (fs.map (·.1))):PySem.Within (fun g=>if g=f then some u else mA g) ((dH f y fs).map (·.1)):=fun g hg=>by
 by_cases q:g=f
 ·rw [q];exact (dD f y fs).1
 ·refine (dD f y fs).2 g (wi g fun z=>hg ?_)
  show (if g=f then some u else mA g)=none
  rw [if_neg q];exact z
end
section
variable {X:Cx}
theorem eU {pins:List (Addr×Obj)} {σ:St} {H:Hp} {s:Shared} {p C:Addr} {dx:Option Addr} {fr:Bool} (I:Inv X pins σ H s) (e:H p=some (XQ fr p C dx)):XP fr p C dx s.heap:=(I.hok p _ e).1
theorem mJ {pins:List (Addr×Obj)} {σ:St} {H:Hp} {s:Shared} {d:Addr} {fs:List (Str×V)} (I:Inv X pins σ H s) (e:H d=some (DO d fs)):∃ mA,s.heap.Ns1 d mA∧(∀ f,cN (fs.lookup f) (mA f))∧PySem.Within mA (fs.map (·.1)):=(I.hok d _ e).1
def sXF (K:Frag) (ta tv:TE) (f:Str):TS:=fun D σ H=>tv σ H fun y H1=>ta σ H1 fun x H2=>∃ fr p C,x = .ref p∧jg K C∧findIn K (.ref C) f=some none ∧
 ((H2 p=some (XQ fr p C none)∧∀ d,H2 d=none→d≠p→D.nx σ (upd (upd H2 p (XQ fr p C (some d))) d (DO d [(f,y)]))) ∨
  ∃ d fs,H2 p=some (XQ fr p C (some d))∧H2 d=some (DO d fs)∧fs.length<900∧D.nx σ (upd H2 d (DO d (dH f y fs))))
theorem dQ {o value:Expr} {ta tv:TE} {f:Str} {pos pos':Pos} (hex:X.ex = []) (ha:PE X o ta) (hv:PE X value tv) (hs:swapsWith value (some (.Attribute o f pos')) pos.line X.env=pure false):PS X (.Assign [.Attribute o f pos'] value pos) (sXF X.K ta tv f):=by
 intro pins s σ H D I h
 refine plainObj_wpAny_Assign_Attribute (thn (hv pins s σ H _ I h) fun u s1 ⟨y,H1,I1,ry,q⟩=>thn (ha pins s1 σ H1 _ I1 q) fun ov s2 ⟨x,H2,I2,rx,fr,p,C,ex,Z,hf,q2⟩=>?_) hs
 subst ex
 obtain rfl:ov=Value.ref p:=rx
 rcases q2 with ⟨ep,q2⟩ | ⟨d,fs,ep,ed,lz,q2⟩
 ·obtain ⟨ob,vs,e1,e2,e3,e4,e5,e6⟩:=eU I2 ep
  refine ju (mA:=fun _=>none) (ns:=[]) I2.kIn Z hf e1 e2 e3 (.inl ⟨e5,fun _=>rfl⟩) Within.nil (by decide) fun h' d t' g1 ne n k ds=>?_
  have nd:s2.heap.get? d=none:=by
   rcases ds with z | ⟨_,z⟩
   ·rw [e5] at z;cases z
   ·exact z
  have st:=Inv.strange I2 hex nd
  have I3:Inv X pins σ (upd H2 p (XQ fr p C (some d))) { s2 with heap:=h',toks:=t' }:=I2.write (x:=p) (e:=p) (by rw [ep];exact True.intro) (.inl rfl) (fun b u2 hb z=>k b u2 hb (fun w=>by rw [w,nd] at z;cases z) z) ⟨_,g1⟩
   (pO ⟨_,vs,g1,e2,e3,e4,rfl,fun d' z=>by cases z;exact ne⟩)
  have I4:=Inv.track (b:=d) (o:=DO d [(f,y)]) I3 ⟨st.s0,by rw [aj ne];exact st.un,st.nl,st.nc,st.np⟩ (v8 n (fun g=>?_) ?_)
  ·exact ⟨σ,_,I4,q2 d st.un ne⟩
  ·exact pz (fs:=[]) (fun _=>(show cN none none from trivial)) ry g
  ·exact i7 (fs:=[]) (f:=f) (y:=y) Within.nil
 ·obtain ⟨ob,vs,e1,e2,e3,e4,e5,e6⟩:=eU I2 ep
  obtain ⟨mA,n0,r0,w0⟩:=mJ I2 ed
  have ne0:=e6 d rfl
  refine ju (mA:=mA) (ns:=fs.map (·.1)) I2.kIn Z hf e1 e2 e3 (.inr ⟨d,e5,ne0,n0⟩) w0 (by rw [List.length_map];omega) fun h' d' t' g1 ne n k ds=>?_
  obtain rfl:d=d':=by
   rcases ds with z | ⟨z,_⟩
   ·rw [e5] at z;exact Option.some.inj z
   ·rw [e5] at z;cases z
  obtain ⟨od,es,epx,g2,_⟩:=id n
  have eo:({ ob with dict:=some d }:Obj)=ob:=by rw [← e5]
  rw [eo] at g1
  refine ⟨σ,_,I2.write (x:=d) (e:=d) (t':=t') (by rw [ed];exact True.intro) (.inl rfl) (fun b u2 hb z=>?_) ⟨_,g2⟩ (v8 n (pz r0 ry) (i7 w0)),q2⟩
  by_cases hbp:b=p
  ·rw [hbp] at z ⊢
   rw [e1] at z
   cases z
   exact g1
  ·exact k b u2 hbp hb z
def tXF (K:Frag) (ta:TE) (f:Str):TE:=fun σ H Q=>ta σ H fun x H1=>∃ fr p C d fs v,x = .ref p∧H1 p=some (XQ fr p C (some d))∧H1 d=some (DO d fs)∧c9 K C∧hasDictIn K C=true∧findIn K (.ref C) f=some none∧fs.lookup f=some v∧Q v H1
theorem vT {pins:List (Addr×Obj)} {σ:St} {H:Hp} {s:Shared} {A:Around} {E:Value→Shared→Prop} {p C d:Addr} {fs:List (Str×V)} {f:Str} {v:V} {b fr:Bool} {Q:Value→Shared→Prop} (I:Inv X pins σ H s) (ep:H p=some (XQ fr p C (some d))) (ed:H d=some (DO d fs)) (Y:c9 X.K C) (hh:hasDictIn X.K C=true) (hf:findIn X.K (.ref C) f=some none) (l:fs.lookup f=some v)
 (h:∀ u s',Inv X pins σ H s'→aU v u→Q u s'):wpAny (model X.prog X.w) A (getAttr (.ref p) f b) Q E s:=by
 obtain ⟨ob,vs,e1,e2,e3,e4,e5,e6⟩:=eU I ep
 obtain ⟨mA,n0,r0,w0⟩:=mJ I ed
 obtain ⟨u,hu,ru⟩:=cN.some_of (v:=v) (o:=mA f) (by rw [← l];exact r0 f)
 exact rF Y hh I.kIn hf e1 e2 e3 e5 n0 hu (jw ru) (h u _ (I.tok _) ru)
end
section
variable {X:Cx}
theorem pq {e:Expr} {f:Str} {pos:Pos} {ta:TE} (he:PE X e ta) (hb:attributeBase e f X.env (eval e X.env)=eval e X.env):PE X (.Attribute e f pos) (tXF X.K ta f):=by
 intro pins s σ H Q I h
 refine oy hb (thn (he pins s σ H _ I h) fun u s1 ⟨x,H1,I1,rx,fr,p,C,d,fs,v,ex,ep,ed,Y,hh,hf,l,q⟩=>?_)
 subst ex
 obtain rfl:u=Value.ref p:=rx
 exact vT I1 ep ed Y hh hf l fun u' s2 I2 ru=>⟨v,H1,I2,ru,q⟩
structure li (K:Frag) (B:Addr):Prop where
 ga:specialIn K (.ref B) "__getattribute__" = some (some (.builtin "type.__getattribute__"))
 rd:readsIn K B (.type "type")=true
 at_:findCls K (.ref B) (.type "type") "__init__" = some (.val (.builtin "ValueError.__init__"))
def tBI (C:Addr) (t:TA):TE:=fun σ H Q=>t σ H fun vs H1=>∃ fr p dx r,vs = .ref p :: r∧H1 p=some (XQ fr p C dx)∧r.length≤sizeLine∧Q .non H1
theorem iK {x:Str} {B C fI:Addr} {np apos pos:Pos} {e:Expr} {es:List Expr} {t:TA} {pl:Sem Bool} (Z:li X.K B) (O:gJ X.K C fI veB "ValueError.__new__") (hm:X.mg x=some (.ref B)) (hg:Gl X x) (ha:PA X (e :: es) t)
 (hdb:(x == ("__debug__":Str))=false:=by decide) (hst:starEach (e :: es) X.env=(false,eval e X.env) :: starEach es X.env:=by rfl) (hpl:(backTo pos (starEach es X.env)).any (·.1)=false:=by rfl)
 (ht:eval (.Call (.Attribute (.Name x np) "__init__" apos) (e :: es) [] pos) X.env=(do
  let ov ← eval (.Name x np) X.env
  standAt apos.atName
  let (f,first) ← holding [ov] (getMethod ov "__init__" pl)
  callWith pos f first (backTo pos (starEach (e :: es) X.env)) (backToKw pos (keywordEach [] X.env))):=by rfl) :
 PE X (.Call (.Attribute (.Name x np) "__init__" apos) (e :: es) [] pos) (tBI C t):=by
 intro pins s σ H Q I h
 have F:=PySem.F.excBase_ValueError
 refine methodCall_KW (pl:=pl) (cW I hg hm ?_ hdb) ht
 refine method_cls I.kIn Z.ga (cls_value I.kIn Z.rd Z.at_ rfl ?_)
 have hA:=ha pos pins _ σ H _ (I.tok (s.toks+1)) h
 rw [hst] at hA ⊢
 refine Calls.callWith_builtin (by show (false || (backTo pos (starEach es X.env)).any (·.1))=false;rw [hpl] <;> rfl) (Calls.evalArgs_plain (thn hA fun us s2 z=>?_))
 obtain ⟨vs,H2,I2,r2,fr,p,dx,r,rfl,ep,lz,q⟩:=z
 obtain ⟨u0,ur,rfl,ru,rr⟩:∃ u0 ur,us=u0 :: ur∧aU (.ref p) u0∧aQ r ur:=by
  cases r2 with
  | cons a b=>exact ⟨_,_,rfl,a,b⟩
 obtain rfl:u0=Value.ref p:=ru
 obtain ⟨ob,fv,e1,e2,e3,e4,e5,e6⟩:=eU I2 ep
 obtain ⟨nm,q',N,bs,bm,hdct,sn,sub,ab,col,dd,k0,k1,k2,k3,k5,l,tl⟩:=O.at_
 have K2:=I2.kIn
 obtain ⟨h2,g2,d2,t2,o2⟩:=s2
 have lz':ur.length≤sizeLine:=by rw [← rr.length];exact lz
 show wpAny _ _ (call (.builtin "ValueError.__init__") (.ref p :: ur)) _ _ _
 refine wpAny_call (codeAny_call_builtin F.init.plain F.initEntry (wpAny_check_init_subT F (tail_of_in K2 tl) (K2 _ _ l) e1 e2 ?_))
 have e1':=Heap.get?_push_of_some (h:=h2) { cls:=.type "tuple",data:=.seq ur.toArray } e1
 obtain ⟨f0,e0⟩:∃ f0,fv[0]? = some f0:=⟨_,Array.getElem?_eq_getElem e4.1⟩
 unfold Builtin.«BaseException.__init__» Builtin.BaseException.bexcPut
 refine wpAny_bind (wpAny_newTuple ?_ lz')
 refine wpAny_bind (wpAny_bind (wpAny_field e1' e3 e0 (wpAny_bind (wpAny_setField e1' e3 e4.1 ?_))))
 have dT:=Obj.data_mapFields e3 (·.setIfInBounds 0 (Value.ref h2.objs.size))
 have gs:=Heap.get?_update_self (h:=h2.push { cls:=.type "tuple",data:=.seq ur.toArray }) (Obj.mapFields (·.setIfInBounds 0 (Value.ref h2.objs.size))) e1' (Obj.isFreed_of_fields dT)
 have fin:EP X pins σ Q Value.none ⟨(h2.push { cls:=.type "tuple",data:=.seq ur.toArray }).update p (Obj.mapFields (·.setIfInBounds 0 (Value.ref h2.objs.size))),g2,d2,t2,o2⟩:=by
  have I3:=I2.write (x:=p) (e:=p) (o:=XQ fr p C dx) (t':=t2) (h':=(h2.push { cls:=.type "tuple",data:=.seq ur.toArray }).update p (Obj.mapFields (·.setIfInBounds 0 (Value.ref h2.objs.size)))) (by rw [ep];exact True.intro) (.inl rfl)
   (fun b u2 hb z=>(Heap.get?_update_other _ _ (Ne.symm hb)).trans (Heap.get?_push_of_some _ z)) ⟨_,gs⟩
   (pO ⟨_,_,gs,by rw [Obj.cls_mapFields];exact e2,dT,⟨by simpa using e4.1,fun z=>by simpa using e4.2 z⟩,by rw [lN];exact e5,e6⟩)
  have eh:upd H2 p (XQ fr p C dx)=H2:=by
   funext b
   by_cases z:b=p
   ·rw [z,ad,ep]
   ·rw [aj z]
  rw [eh] at I3
  exact ⟨.non,H2,I3,rfl,q⟩
 cases f0 <;> first | exact wpAny_pure (wpAny_pure fin) | exact wpAny_letGo (wpAny_pure fin)
end
def del (H:Hp) (a:Addr):Hp:=fun b=>if b=a then none else H b
theorem lK {H:Hp} {a:Addr}:del H a a=none:=by unfold del;rw [if_pos rfl]
theorem db {H:Hp} {a b:Addr} (n:b≠a):del H a b=H b:=by unfold del;rw [if_neg n]
theorem lJ {H:Hp} {a b:Addr} (n:H b=none):del H a b=none:=by unfold del;split <;> first | rfl | exact n
theorem uA {P:Program} {w:World} {H:Hp} {h:Heap} {a:Addr} {φ:Heap→Prop} (x:HOk P w H h) (e:H a=some (.ext φ)):HOk P w (del H a) h:=fun b o q=>by
 by_cases z:b=a
 ·rw [z,lK] at q;cases q
 rw [db z] at q
 exact (x b o q).stay (fun _ _ _ q=>q) (fun c q=>by rw [db (fun z=>by rw [z,e] at q;cases q)];exact q) fun c xs q=>by rw [db (fun z=>by rw [z,e] at q;cases q)];exact q
theorem yy {fs ch:List Addr} {H0 H:Hp} {h0 h:Heap} {a:Addr} {φ:Heap→Prop} (u:Un fs ch H0 H h0 h) (e:H a=some (.ext φ)):Un fs ch H0 (del H a) h0 h where
 keep:=u.keep
 slot:=u.slot
 free:=fun b o q n hx=>lJ (u.free b o q n hx)
 there:=u.there
 tups:=fun b xs q=>by
  have z:=u.tups b xs q
  rw [db (fun y=>by rw [y,e] at z;cases z)];exact z
 frzs:=fun b o xs q=>by
  have z:=u.frzs b o xs q
  rw [db (fun y=>by rw [y,e] at z;cases z)];exact z
 tbls:=fun b ps q=>by
  obtain ⟨m,z⟩:=u.tbls b ps q
  exact ⟨m,by rw [db (fun y=>by rw [y,e] at z;cases z)];exact z⟩
section
variable {X:Cx}
theorem sY {pins:List (Addr×Obj)} {σ:St} {H:Hp} {s:Shared} {Q:Addr→Hp→Prop} {us:List Value} {vs:List V} {k:Nat} {C fI:Addr} {fd:FuncData} {ps:List Str} {sp:Sp} {E:Value→Shared→Prop} (O:gJ X.K C fI veB "ValueError.__new__") (F:aY X.prog X.w X.K X.mg X.base CX0 k fI fd ps sp) (hr:Room (k+1) X.A) (hb:aI X.K fd ps [])
 (I:Inv X pins σ H s) (r:aQ vs us) (lz:vs.length≤sizeLine) (h:∀ p,H p=none→sp (.ref p :: vs) (upd H p (XQ true p C none)) (fun v H2=>v = .non∧Q p H2) E0) :
 wpAny (model X.prog X.w) X.A (call (.ref C) us) (fun v s'=>∃ p,v = .ref p∧s.heap.get? p=none∧∃ H',Inv X pins σ H' s'∧Q p H') E s:=by
 have lz':us.length≤sizeLine:=by rw [← r.length];exact lz
 obtain ⟨h1,g1,d1,t1,o1⟩:=s
 refine rE PySem.F.excBase_ValueError I.kIn O lz' fun h' p m=>?_
 have np:H p=none:=ff I.hok m.new
 obtain ⟨tt,ht,_,_⟩:=m.there
 have I2:Inv X pins σ (upd H p (XQ true p C none)) ⟨h',g1,d1,t1,o1⟩:=I.un (h':=h') (t':=t1) (yz m.keeps m.new np) (oM I.hok m.keeps np (pO ⟨_,_,ht,rfl,rfl,⟨by simp,fun _=>rfl⟩,rfl,fun d z=>by cases z⟩))
 have hq:=h p np
 have r2:aQ (V.ref p :: vs) (Value.ref p :: us):=.cons rfl r
 have hl:(Value.ref p :: us ++ []).length=ps.length:=by
  rw [List.append_nil,← r2.length]
  exact F.len _ _ _ _ hq
 have hbb:=hb ⟨h',g1,d1,t1,o1⟩ (Value.ref p :: us) I2.kIn hl
 rw [List.append_nil] at hbb
 refine wpAny_call (codeAny_mono (F.run _ X.stack _ _ ⟨Value.ref p :: us,[]⟩ (Value.ref p :: us) _ _ E0 (hr.make C us []) (I2.env0.make C us []) hbb r2 hq) fun rr s' hq'=>?_)
 cases rr with
 | error e=>exact hq'.elim
 | ok fl=>
   cases fl with
   | ret u=>
     obtain ⟨v,H',I3,rv,ev,q3⟩:=I2.after hq'
     subst ev
     exact ⟨rv,p,rfl,m.new,H',I3,q3⟩
   | next=>exact False.elim hq'
   | brk=>exact False.elim hq'
   | cont=>exact False.elim hq'
theorem uh {E:XK} {pins:List (Addr×Obj)} {σ:St} {H H':Hp} {s s':Shared} {p C:Addr} {dx:Option Addr} (I0:Inv X pins σ H s) (n0:s.heap.get? p=none) (I:Inv X pins σ H' s') (hst:X.stack=X.env :: X.outer) (hf:X.env.frame=some X.env.locals) (hex:X.ex = []) (ep:H' p=some (XQ true p C dx)) (q:E (.ref C) dx (del H' p)):XS X E (.ref p) s':=by
 have st0:=Inv.strange I0 hex n0
 have b0:=I.base
 rw [hex] at b0
 have st:=I.stack
 rw [hst] at st
 obtain ⟨ob,vs,e1,e2,e3,e4,e5,e6⟩:=eU I ep
 refine ⟨p,.ref C,dx,del H' p,rfl,⟨st0.s0,lK,I.os,I.bare,yy b0 ep,uA I.hok ep,st,(fun b hb=>lJ (I.stkFree b (by rw [hst];exact hb))),Heap.get?_none_of_le I.ok.above,hf,(by rw [← hst];exact I.ok.frames),q⟩,.inl ⟨ob,vs,e1,⟨e2,e5⟩,e3,e4.2 rfl⟩⟩
theorem qB {M:Model} {A:Around} {E:Value→Shared→Prop} {s:Shared} {K:Frag} {env:Env} {C:Addr} {x:Sem Value} {Q:Flow→Shared→Prop} (be:mroIn K C (.type "BaseException")=some true) (ty:typeIn K (.ref C)=some (.type "type")) (hh:A.handled=none)
 (h:wpAny M A x (fun v s1=>∃ p ob vs,v = .ref p∧K.In s1.heap∧s1.heap.get? p=some ob∧ob.cls = .ref C∧ob.data = .fields vs∧vs[1]? = some .none∧E (.ref p) s1) E s):wpAny M A (raiseStmt env (some x) none) Q E s:=by
 unfold raiseStmt
 refine wpAny_bind (wpAny_mono h (fun v s1 z=>?_) fun _ _ z=>z)
 obtain ⟨p,⟨oc,od,oda,osl⟩,vs,rfl,Xk,e1,e2,e3,e4,q⟩:=z
 simp only at e2 e3
 subst e2 e3
 obtain ⟨h1,g1,d1,t1,o1⟩:=s1
 have l0:Looks M h1 (typeOf (.ref p)) (.ref C):=(Looks.ld e1).andThen .now
 have l1:Looks M h1 (isInstance (.ref p) (.type "BaseException")) true:=l0.andThen (looks_mroIn Xk be)
 have l2:=looks_typeIn (M:=M) Xk ty
 have l3:Looks M h1 (isType (.ref p)) false:=(Looks.ld e1).andThen .now
 have l4:Looks M h1 (isExcClass (.ref p)) false:=l3.andThen .now
 refine wpAny_bind (wpAny_pure (wpAny_bind (wpAny_holding ?_)))
 unfold excFromValue raisedInstance setFlight
 refine wpAny_bind (l4.at ?_)
 rw [if_neg Bool.false_ne_true]
 refine wpAny_bind (l1.at ?_)
 rw [if_pos rfl]
 refine wpAny_pure (wpAny_bind (l3.at ?_))
 rw [if_neg Bool.false_ne_true]
 refine wpAny_bind (wpAny_bind (l0.at (wpAny_bind (l2.at ?_))))
 rw [if_pos (show (Value.type "type" == Value.type "type")=true by decide)]
 refine wpAny_pure (wpAny_bind (wpAny_bind (wpAny_field e1 rfl e4 ?_)))
 rw [if_neg (show ¬ ((Value.none != Value.none)=true) by decide)]
 exact wpAny_pure (wpAny_raiseNew_none hh q)
def vN (C:Addr) (sp:Sp) (E:XK) (t:TA):TS:=fun _ σ H=>t σ H fun vs H1=>vs.length≤sizeLine∧∀ p,H1 p=none→sp (.ref p :: vs) (upd H1 p (XQ true p C none)) (fun v H2=>v = .non∧∃ dx,H2 p=some (XQ true p C dx)∧E (.ref C) dx (del H2 p)) E0
theorem fV {Y:Cx} {E:XK} {x:Str} {C fI:Addr} {k n:Nat} {fd:FuncData} {ps:List Str} {sp:Sp} {np cpos pos:Pos} {e:Expr} {es:List Expr} {t:TA} (O:gJ Y.K C fI veB "ValueError.__new__") (F:aY Y.prog Y.w Y.K Y.mg Y.base CX0 k fI fd ps sp) (hr:Room n Y.A) (hb:aI Y.K fd ps []) (hm:Y.mg x=some (.ref C)) (kp:keepIn Y.K (.ref C)=true) (be:mroIn Y.K C (.type "BaseException")=some true) (ty:typeIn Y.K (.ref C)=some (.type "type"))
 (ha:PA (Y.wish (XS Y E)) (e :: es) t) (hn:k+1≤n:=by omega) (hst:Y.stack=Y.env :: Y.outer:=by rfl) (hf:Y.env.frame=some Y.env.locals:=by rfl) (hex:Y.ex = []:=by rfl) (hc:Y.calm=true:=by rfl) (hg:Gl Y x:=by rfl) (hdb:(x == ("__debug__":Str))=false:=by decide)
 (he:starEach (e :: es) Y.env=(false,eval e Y.env) :: starEach es Y.env:=by rfl) (hpl:(backTo cpos (starEach es Y.env)).any (·.1)=false:=by rfl) :
 PS (Y.wish (XS Y E)) (.Raise (some (.Call (.Name x np) (e :: es) [] cpos)) none pos) (vN C sp E t):=by
 intro pins s σ H D I h
 have hh:=I.ok.hd hc
 rw [arm_exec_Raise]
 refine wpAny_bind (wpAny_standAt (qB (K:=Y.K) (C:=C) be ty hh (wpAny_bind ?_)))
 refine wpAny_Call_Name_kw (cW I hg hm ?_ hdb)
 refine callWith_K (h₀:=Y.base) I.ok.mod.kin kp (thn (ha cpos pins s σ H _ I h) fun us s1 z=>?_) he hpl
 obtain ⟨vs,H1,I1,r,lz,qE⟩:=z
 refine ⟨I1.kIn,?_⟩
 refine wpAny_mono (sY (X:=Y) (Q:=fun p H2=>∃ dx,H2 p=some (XQ true p C dx)∧E (.ref C) dx (del H2 p)) (E:=XS Y E) O F (hr.mono hn) hb I1.unwish r lz fun p np=>?_) (fun v s' z=>?_) fun _ _ z=>z
 ·exact qE p np
 ·obtain ⟨p,rfl,n0,H',I3,dx,ep,q⟩:=z
  obtain ⟨ob,vs',e1,e2,e3,e4,e5,e6⟩:=eU I3 ep
  refine wpAny_bind (wpAny_standAt (wpAny_pure ⟨p,ob,vs',rfl,I3.kIn,e1,e2,e3,e4.2 rfl,uh I1.unwish n0 I3 hst hf hex ep q⟩))
end
def mE (K:Frag) (B:Addr) (k:Nat) (ts:TS) (D:fJ) (σ:St):XK:=fun cls dx H2=>∃ C,cls = .ref C∧mroIn K C (.ref B)=some true∧(∀ d,dx=some d→∃ o,H2 d=some o) ∧
 ∀ a,H2 a=none→ts { nx:=fun σ' H'=>D.nx (σ'.set k none) H',rt:=fun _ _=>False } (σ.set k (some (.ref a))) (upd H2 a (XQ false a C dx))
theorem ut {X:Cx} {pins:List (Addr×Obj)} {σ:St} {H1:Hp} {s1 s':Shared} {e:Value} {B:Addr} {Bn n:Str} {np hpos:Pos} {k:Nat} {b₀:Stmt} {suite:List Stmt} {rest:List ExceptHandler} {ts:TS} {D:fJ}
 (I:Inv X pins σ H1 s1) (x:CXF X.prog X.w X.stack H1 s1 (mE X.K B k ts D σ) e s') (Y:ly X.K B) (hm:X.mg Bn=some (.ref B)) (hN:X.N.Nodup) (hk:X.N[k]? = some n) (hl:X.env.scope.names.lookup n=some .local) (hS:∀ a,PSs (eE X (.ref a)) (b₀ :: suite) ts)
 (hst:X.stack=X.env :: X.outer) (hf:X.env.frame=some X.env.locals) (hex:X.ex = []) (hc:X.calm=true) (hg:Gl X Bn) (hdb:(Bn == ("__debug__":Str))=false) :
 wpAny (model X.prog X.w) X.A (noteFrame e X.env) (fun _ s₂=>wpAny (model X.prog X.w) X.A (setFlight e none) (fun _ s₃=>wpAny (model X.prog X.w) X.A (handleBy e X.env (.ExceptHandler (some (.Name Bn np)) (some n) (b₀ :: suite) hpos :: rest)) (SP X pins D) X.xe s₃) X.xe s₂) X.xe s':=by
 obtain ⟨a,T,cls,dx,H',rfl,t,na,nT,ua,uT,os,bare,un,hok,C,rfl,hsub,there,q⟩:=x
 have I':Inv X pins σ H' s':=I.call' os un hok bare (fun _ z=>nomatch z)
 have qa0:=Inv.strange I hex na
 have qT0:=Inv.strange I hex nT
 have qa:e8 X pins H' a:=⟨qa0.s0,ua,qa0.nl,qa0.nc,qa0.np⟩
 have qT:e8 X pins H' T:=⟨qT0.s0,uT,qT0.nl,qT0.nc,qT0.np⟩
 have hfr:X.A.frames=some (X.env :: X.outer):=by rw [← hst];exact I.ok.frames
 have hd:=I.ok.hd hc
 have st':=I'.stack
 rw [hst] at st'
 refine jH hfr st' hf t fun h2 T2 n2 t2 y2=>?_
 have qT2:=Inv.strange I' hex n2
 rw [← hst] at y2
 have I2:=Inv.wr (t':=s'.toks) I' hex y2 (fun b hb=>by
  rcases List.mem_cons.mp hb with z | z
  ·rw [z];exact qa
  ·rw [List.mem_singleton.mp z];exact qT)
 refine eS (S:=frs X.stack) (fr:=none) t2 fun h3 t3 y3=>?_
 have I3:=Inv.wr (t':=s'.toks) I2 hex y3 (fun b hb=>by rw [List.mem_singleton.mp hb];exact qT2)
 refine wpAny_handleBy_cons ?_ (fun z=>nomatch z)
 refine codeAny_handlers_test ?_
 have J3:=jz (.ref a) I3
 refine cW (X:=eE X (.ref a)) J3 hg hm ?_ hdb
 obtain ⟨oe,vs,oT,tt,he,⟨hcl,hdi⟩,hda,h1,ne,hT,hdT,h3'⟩:=id t3
 refine mW I3.kIn Y he hcl hsub ?_
 show codeAny _ _ _ _ _
 refine codeAny_handlers_suite_as ?_
 refine eS (S:=frs X.stack) (fr:=none) t3 fun h4 t4 y4=>?_
 have I4:=Inv.wr (t':=s'.toks) I3 hex y4 (fun b hb=>by rw [List.mem_singleton.mp hb];exact qT2)
 obtain ⟨oe4,vs4,oT4,tt4,he4,⟨hcl4,hdi4⟩,hda4,h14,_⟩:=id t4
 have neD:∀ d,dx=some d→d≠a:=fun d z w=>by
  obtain ⟨o,e⟩:=there d z
  rw [w,ua] at e
  cases e
 have I5:=Inv.track I4 qa (pO ⟨oe4,vs4,he4,hcl4,hda4,⟨Nat.lt_of_lt_of_le Nat.zero_lt_one (Nat.le_of_lt (Array.getElem?_eq_some_iff.mp h14).1),fun z=>nomatch z⟩,hdi4,fun d z=>neD d z⟩:bo X.prog X.w (upd H' a (XQ false a C dx)) h4 a (XQ false a C dx))
 have J5:=jz (.ref a) I5
 refine iW (X:=eE X (.ref a)) (i:=k) (v:=.ref a) J5 hN hk (Or.inl hl) rfl (fun s6 J6=>?_) (.inr hl)
 refine wpAny_mono (hS a pins s6 _ _ _ J6 (q a ua)) (fun f s7 z=>?_) (fun _ _ z=>False.elim z)
 cases f with
 | next=>
   obtain ⟨σ',H'',J7,dn⟩:=z
   have I7:=uC hd J7
   obtain ⟨m,hn,_⟩:=I7.loc
   refine qu hl hn (by rw [I.ok.kind];rfl) fun h8 v n8 s8=>?_
   exact ⟨σ'.set k none,H'',Inv.gone I7 hk hl hn n8 s8 hN,dn⟩
 | ret u=>obtain ⟨_,_,_,_,_,z⟩:=z;exact z.elim
 | brk=>obtain ⟨_,_,_,z⟩:=z;exact z.elim
 | cont=>obtain ⟨_,_,_,z⟩:=z;exact z.elim
section
variable {X:Cx}
theorem qm {K:Frag} {p C:Addr} (Y:c9 K C):KitX K (.ref p) (.ref C) (fun h=>∃ o od,InstAt h p o C od) where
 ty:=fun M h _ z=>let ⟨_,_,I⟩:=z;I.type
 it:=fun M h X _=>oO X Y.is
 ne:=fun h tp dd its n sl X e=>by
  obtain ⟨c',d',cd',sl',hk⟩:=qV Y.is
  refine beq_eq_false_iff_ne.mpr fun z=>?_
  cases z
  rw [X _ _ hk] at e
  cases e
 ca:=fun {prog w A E Q s} X z hq=>by
  obtain ⟨_,_,I⟩:=z
  obtain ⟨h,g,d,t,os⟩:=s
  exact mI Y X I hq
def AA (K:Frag):List V→Hp→VK→Prop:=fun xs H Q=>∃ (fr:Bool) (p C:Addr) (dx:Option Addr) (c:V) (cv:Value) (b:Bool),xs = [.ref p,c]∧aU c cv∧(∀ u,aU c u→u=cv)∧H p=some (XQ fr p C dx)∧(∀ d,dx=some d→∃ fs,H d=some (DO d fs))∧c9 K C∧kitOne K (.ref C) cv=some b∧Q (.bl b) H
theorem dA:dU X (.builtin "isinstance") (AA X.K):=by
 intro pins s σ H xs us Q I r h
 obtain ⟨fr,p,C,dx,c,cv,b,rfl,rc,un,hp,hd,Y,k,q⟩:=h
 obtain ⟨u,v,e,ru,rv⟩:=aQ.two r
 subst e
 cases (show u=Value.ref p from ru)
 rw [un v rv]
 have J:∃ o od,InstAt s.heap p o C od:=by
  obtain ⟨ob,vs,e1,e2,e3,e4,e5,e6⟩:=eU I hp
  cases dx with
  | none=>exact ⟨ob,none,e1,e2,by unfold notCls;rw [e3],by rw [e5];trivial⟩
  | some d=>
    obtain ⟨fs,ed⟩:=hd d rfl
    obtain ⟨mA,⟨od,es,ep,e7,_⟩,_⟩:=mJ I ed
    exact ⟨ob,some od,e1,e2,by unfold notCls;rw [e3],by rw [e5];exact e7⟩
 exact kia_one (qm Y) I.kIn J k (fun z=>nomatch z) fun tk=>⟨.bl b,H,I.tok tk,rfl,q⟩
end
end L2.Ex
end
section
namespace L2.Bw
def ItL (K:W.Frag) (a:Addr):It where
 go:=fun i H=>∃ xs,SqL K H a xs∧i<xs.length
 yld:=fun i H v H'=>∃ T x,v = .ref T∧H T=none∧H'=upd H T (.tup [.int (i:Nat),x])∧∀ xs,SqL K H a xs→xs[i]? = some x
 stop:=fun i H=>∃ xs,SqL K H a xs∧xs.length=i
theorem n9 {P:Program} {w:World} {K:W.Frag} {es:List Expr} {k:Nat} {tp:Pos} (a e it:Addr) (ne:e≠it) :
 ia P w K (.Tuple es k tp) (ItL K a) [e,it] e (fun i h=>(∃ old,IsEnum h e it (i:Nat) old)∧h.IsListIter it a i) where
 mem:=by simp
 obj:=fun i h st c hc=>by
  obtain ⟨⟨old,h1⟩,⟨o2,e2,c2,d2⟩⟩:=st
  have hc':c=e∨c=it:=by simpa using hc
  rcases hc' with rfl | rfl
  ·exact ⟨_,h1,fun v q=>by cases (show Data.fields _=Data.cell v from q)⟩
  ·exact ⟨o2,e2,fun v q=>by rw [d2] at q;cases q⟩
 keep:=fun i h h' st kp=>by
  obtain ⟨⟨old,h1⟩,h2⟩:=st
  exact ⟨⟨old,kp e (by simp) _ h1⟩,h2.at fun o q=>kp it (by simp) o q⟩
 item:=by
  intro X hP hw hK hc i pins s σ H E I hf st hg
  subst hP hw hK
  obtain ⟨xs,hx,l1⟩:=hg
  obtain ⟨its,r1,p1,z1⟩:=I.list hx
  have len:=r1.length
  have W:=WalksT.enumerate (prog:=X.prog) (w:=X.w) (A:=X.A) (I.ok.hd hc) e it a ne (cE I (hf e (by simp)) hx) (cE I (hf it (by simp)) hx) its.toArray
  refine W.item i s _ _ (by simp;omega) ⟨st.1,st.2,p1.isList⟩ fun T vals h' tk hv hT ht hm kp=>?_
  obtain ⟨t,x,ex,rfl⟩:=hv
  have Tw:T ∉ [e,it]:=W.apart _ _ _ hm
  refine ⟨_,rfl,W.go es k tp i T _ _ _ hm fun h2' st2 kp2=>?_⟩
  obtain ⟨g1,g2,_⟩:=st2
  obtain ⟨xv,ev,rx⟩:∃ xv,xs[i]? = some xv∧aU xv x:=by
   have hi:xs[i]? = some xs[i]:=List.getElem?_eq_getElem l1
   obtain ⟨u,hu,ru⟩:=r1.get hi
   have e2:its[i]? = some x:=by simpa using ex
   rw [e2] at hu;cases hu
   exact ⟨_,hi,ru⟩
  have ht2:IsTup h2' T #[.int i t,x]:=by
   obtain ⟨o,eo,r⟩:=ht
   exact ⟨o,kp2 T o Tw eo,r⟩
  have I2:Inv X pins σ (upd H T (.tup [.int (i:Nat),xv])) { s with heap:=h2',toks:=tk }:=
   hW (ch:=[e,it]) I (fun b o hb q=>kp2 b o hb (kp b o hb q)) hf hT ⟨[.int i t,x],.cons ⟨t,rfl⟩ (.cons rx .nil),ht2⟩ (sz 2)
  refine ⟨.ref T,_,I2,rfl,⟨T,xv,rfl,I.hok.fresh hT,rfl,fun us hu=>by rw [I.list_inj hu hx];exact ev⟩,⟨g1,g2⟩,fun b hb=>?_⟩
  have hbT:b≠T:=fun z=>Tw (z ▸ hb)
  rw [aj hbT]
  exact (hf b hb).1
 done:=by
  intro X hP hw hK hc i pins s σ H E I hf st hg
  subst hP hw hK
  obtain ⟨xs,hx,hi⟩:=hg
  obtain ⟨its,r1,p1,z1⟩:=I.list hx
  have len:=r1.length
  have W:=WalksT.enumerate (prog:=X.prog) (w:=X.w) (A:=X.A) (I.ok.hd hc) e it a ne (cE I (hf e (by simp)) hx) (cE I (hf it (by simp)) hx) its.toArray
  have hn:i=its.toArray.size:=by simp;omega
  refine W.done s _ _ (by rw [← hn];exact ⟨st.1,st.2,p1.isList⟩) fun h' tk kp=>⟨rfl,?_⟩
  exact hV (ch:=[e,it]) I kp hf
 self:=fun _ _ _ _ _ st h=>let ⟨⟨_,z⟩,_⟩:=st;wpAny_pyIter_enum z h
section
variable {X:Cx}
def wW (K:W.Frag) (ta:TA):TI:=fun σ H R=>ta σ H fun vs H1=>∃ a xs,vs = [.ref a]∧H1 a=some (.lst xs)∧R (ItL K a) H1
theorem fz {es:List Expr} {k:Nat} {tp p pos:Pos} {a:Expr} {ta:TA} (hg:Gl X "enumerate") (hm:X.mg "enumerate" = none) (ha:PA X [a] ta) (hs:starEach [a] X.env = [(false,eval a X.env)]:=by rfl) :
 PI X (.Tuple es k tp) (.Call (.Name "enumerate" p) [a] [] pos) (wW X.K ta):=by
 intro pins s σ H R I h
 refine Call_ (dN I hg hm boot_enumerate (PyProof.Rows.callWith_type1 (thn (ha pos pins s σ H _ I h) fun us s1 q1=>?_) (by rw [hs];rfl) rfl))
 obtain ⟨vs,H1,I1,r1,l,xs,e,hx,q⟩:=q1
 subst e
 obtain ⟨u,e,ru⟩:=aQ.one r1
 subst e
 cases ru
 obtain ⟨lz,its,n,v1,_,ho⟩:=I1.lstM hx
 refine call_enumerate_1 ho fun h' g1 g2 hsz kp=>wpAny_pyIter_enum g1 ?_
 have I2:Inv X pins σ H1 { s1 with heap:=h' }:=I1.kept (t':=s1.toks) kp
 refine ⟨s1.heap.objs.size+1,[s1.heap.objs.size+1,s1.heap.objs.size],_,ItL X.K l,H1,rfl,I2,n9 l _ _ (Nat.succ_ne_self _),⟨⟨_,g1⟩,g2⟩,fun c hc=>?_,q⟩
 have hc':s1.heap.objs.size≤c:=by
  rcases List.mem_cons.mp hc with z | z
  ·rw [z];exact Nat.le_succ _
  ·rw [List.mem_singleton.mp z];exact Nat.le_refl _
 exact I1.fpOk hc' (I1.hok.fresh hc')
end
end L2.Bw
end
section
namespace L2.Bk
open L2.Bw L2.Ex
section
variable {X:Cx}
def AJ (te:TE):TE:=fun σ H Q=>te σ H fun v H1=>∃ i:Int,v = .int i∧i.natAbs.log2<1920∧Q (.str (Str.ofString (toString i))) H1
theorem kK {e:Expr} {te:TE} {pos:Pos} (he:PE X e te):PE X (.FormattedValue e (-1) none pos) (AJ te):=by
 intro pins s σ H Q I h
 refine FormattedValue_plain (thn (he pins s σ H _ I h) fun v s1 z=>?_)
 obtain ⟨y,H1,I1,r,i,rfl,hi,q⟩:=z
 obtain ⟨tk,rfl⟩:=r
 exact wpAny_formatField_int hi ⟨.str _,H1,I1.tok _,⟨_,rfl⟩,q⟩
end
inductive Tn where
 | mk (w:Str) (p:Int) (fr mid:List Dk) (ps:List Tn)
mutual
noncomputable def Tn.d:Tn→Dk
 | .mk w p fr mid ps=>.tup (.str w :: .int p :: (fr ++ mid ++ (if w = "row" then [.tup (Tn.ds ps)] else Tn.ds ps)))
noncomputable def Tn.ds:List Tn→List Dk
 | []=>[]
 | t :: r=>t.d :: Tn.ds r
end
noncomputable def Tn.w:Tn→Str | .mk w _ _ _ _=>w
noncomputable def Tn.p:Tn→Int | .mk _ p _ _ _=>p
noncomputable def Tn.fr:Tn→List Dk | .mk _ _ fr _ _=>fr
noncomputable def Tn.ps:Tn→List Tn | .mk _ _ _ _ ps=>ps
mutual
noncomputable def Tn.dep:Tn→Nat
 | .mk _ _ _ _ ps=>1+Tn.deps ps
noncomputable def Tn.deps:List Tn→Nat
 | []=>0
 | t :: r=>max t.dep (Tn.deps r)
end
noncomputable def eM:List Str:=["name","fn","let","self"]
mutual
noncomputable def Tn.wf:Tn→Prop
 | .mk w p fr mid ps=>(w∈K11.words∧fr.length=K11.nf w∧mid.length=K11.nk w∧(w≠"row"→ps.length=K11.np w)∧ps.length≤5∧(w∈eM→∃ ns:List Str,fr=ns.map Dk.str)∧0≤p∧p<100000)∧Tn.wfs ps
noncomputable def Tn.wfs:List Tn→Prop
 | []=>True
 | t :: r=>t.wf∧Tn.wfs r
end
theorem bq:∀ (ks:List Tn),(Tn.ds ks).length=ks.length
 | []=>rfl
 | _ :: r=>by show (Tn.ds r).length+1=r.length+1;rw [bq r]
theorem hU:∀ {ks:List Tn} {i:Nat} (h:i<ks.length),(Tn.ds ks)[i]? = some ks[i].d
 | _ :: _,0,_=>rfl
 | _ :: r,i+1,h=>by
   show (Tn.ds r)[i]? = _
   exact hU (ks:=r) (by simpa using h)
theorem jW:∀ {ks:List Tn} {i:Nat} (h:i<ks.length),ks[i].dep≤Tn.deps ks
 | t :: r,0,_=>Nat.le_max_left _ _
 | t :: r,i+1,h=>Nat.le_trans (jW (ks:=r) (by simpa using h)) (Nat.le_max_right _ _)
theorem mw:∀ {ks:List Tn} {i:Nat} (h:i<ks.length),Tn.wfs ks→ks[i].wf
 | t :: r,0,_,z=>z.1
 | t :: r,i+1,h,z=>mw (ks:=r) (by simpa using h) z.2
noncomputable def txs:List Dk→List Str
 | []=>[]
 | .str s :: r=>s :: txs r
 | _ :: r=>txs r
theorem fE:∀ ns:List Str,txs (ns.map Dk.str)=ns
 | []=>rfl
 | _ :: r=>by show _ :: txs (r.map Dk.str)=_;rw [fE r]
noncomputable def bnd (w:Str) (ns:List Str) (i:Nat):List Str:=if w = "fn"∨w = "self"∨(w = "let"∧i=1) then ns else []
mutual
noncomputable def Tn.frees:Tn→List Str→List (Int×Str)
 | .mk w p fr _ ps,bs=>(if w = "name"∧(txs fr).headD "" ∉ bs then [(p,(txs fr).headD "")] else []) ++ Tn.freess w (txs fr) 0 ps bs
noncomputable def Tn.freess:Str→List Str→Nat→List Tn→List Str→List (Int×Str)
 | _,_,_,[],_=>[]
 | w,ns,i,t :: r,bs=>t.frees (bs ++ bnd w ns i) ++ Tn.freess w ns (i+1) r bs
end
theorem df:∀ (ks ls:List Tn) (w:Str) (ns:List Str) (i:Nat) (bs:List Str),Tn.freess w ns i (ks ++ ls) bs=Tn.freess w ns i ks bs ++ Tn.freess w ns (i+ks.length) ls bs
 | [],ls,w,ns,i,bs=>rfl
 | t :: r,ls,w,ns,i,bs=>by
   show t.frees _ ++ Tn.freess w ns (i+1) (r ++ ls) bs=t.frees _ ++ Tn.freess w ns (i+1) r bs ++ _
   rw [df r ls,List.append_assoc]
   have e:i+1+r.length=i+(t :: r).length:=by simp;omega
   rw [e]
theorem lS (ks:List Tn) (t:Tn) (w:Str) (ns:List Str) (bs:List Str):Tn.freess w ns 0 (ks ++ [t]) bs=Tn.freess w ns 0 ks bs ++ t.frees (bs ++ bnd w ns ks.length):=by
 rw [df,Nat.zero_add]
 show _ ++ (t.frees _ ++ [])=_
 rw [List.append_nil]
theorem RKs.txs {K:W.Frag} {H:Hp}:∀ {ns:List Str} {vs:List V},RKs K H (ns.map Dk.str) vs→vs=ns.map V.str
 | [],vs,r=>r
 | n :: ns,vs,r=>by
   obtain ⟨v,vs',rfl,h1,h2⟩:=r
   rw [RK.str h1,RKs.txs h2]
   rfl
theorem RK.node {K:W.Frag} {H:Hp} {w:Str} {p:Int} {fr mid:List Dk} {ps:List Tn} {v:V} (r:RK K H (Tn.mk w p fr mid ps).d v):∃ (a:Addr) (uf um up:List V),v = .ref a∧Tp K H a (.str w :: .int p :: (uf ++ um ++ up))∧RKs K H fr uf∧RKs K H mid um∧RKs K H (if w = "row" then [.tup (Tn.ds ps)] else Tn.ds ps) up:=by
 obtain ⟨a,us,rfl,ha,ru⟩:=RK.get (show RK K H (.tup (.str w :: .int p :: (fr ++ mid ++ (if w = "row" then [.tup (Tn.ds ps)] else Tn.ds ps)))) v from r)
 obtain ⟨v1,r1,rfl,h1,v2,r2,rfl,h2,ru⟩:=ru
 obtain ⟨x1,up,rfl,x2,hup⟩:=ru.split
 obtain ⟨uf,um,rfl,hf,hm⟩:=x2.split
 rw [RK.str h1,show v2 = .int p by rw [RK] at h2;exact h2] at ha
 exact ⟨a,uf,um,up,rfl,ha,hf,hm,hup⟩
end L2.Bk
end
section
namespace L2.Bk
open L2.Bw L2.Ex
section
variable {X:Cx}
def zx:List V→Hp→VK→Prop:=fun xs H Q=>∃ a kvs,xs = [.ref a]∧H a=some (.dK kvs)∧∀ p,H p=none→Q (.ref p) (upd H p (.dK kvs))
theorem fO:dU X (.type "dict") zx:=by
 intro pins s σ H xs us Q I r h
 obtain ⟨a,kvs,rfl,ha,q⟩:=h
 obtain ⟨u,e,ru⟩:=aQ.one r
 subst e
 cases ru
 obtain ⟨z,y,vs,rel,dd⟩:=(show bo X.prog X.w H s.heap a (.dK kvs) from I.hok a _ ha)
 have lv:=rel.length
 refine kt_call_dict (knd:=bF X.prog X.w) y dd (by rw [← lv];exact z) fun h' hd' sb=>?_
 have kp:∀ b o,s.heap.get? b=some o→h'.get? b=some o:=fun b o e=>(sb.2 b (Nat.ne_of_lt (Heap.lt_size e))).trans (Heap.get?_push_of_some _ e)
 have np:=I.fresh
 refine ⟨.ref s.heap.objs.size,_,I.laid (t':=s.toks) (o:=.dK kvs) kp (Nat.le_refl _) ⟨z,?_,vs,rel,hd'⟩,rfl,q _ np⟩
 have hb:=Inv.big I
 exact beq_eq_false_iff_ne.mpr (Nat.ne_of_gt hb)
end
mutual
def bZ (K:W.Frag):Dk→Value→Bool
 | .str x,v=>(match v with | .str y _=>y == x | _=>false)
 | .tup ds,v=>(match v with
   | .ref b=>(match K.lookup b with
     | some o=>o.cls == .type "tuple" && (match o.data with | .seq its _=>decide (its.size≤1000) && fR K ds its.toList | _=>false)
     | none=>false)
   | _=>false)
 | _,_=>false
def fR (K:W.Frag):List Dk→List Value→Bool
 | [],vs=>vs.isEmpty
 | d :: ds,vs=>(match vs with | v :: r=>bZ K d v && fR K ds r | []=>false)
end
noncomputable def IsD (K:W.Frag) (d:Dk) (v:Value):Prop:=∃ x:V,aU x v∧∀ H:Hp,RK K H d x
mutual
theorem mP {K:W.Frag}:∀ (d:Dk) (v:Value),bZ K d v=true→IsD K d v
 | .str x,v,h=>by
   cases v with
   | str y t=>
     simp only [bZ] at h
     exact ⟨.str x,⟨t,by rw [show y=x by simpa using h]⟩,fun H=>.s _⟩
   | _=>simp [bZ] at h
 | .tup ds,v,h=>by
   cases v with
   | ref b=>
     simp only [bZ] at h
     cases e:K.lookup b with
     | none=>simp only [e] at h;cases h
     | some o=>
       simp only [e] at h
       rw [Bool.and_eq_true_iff] at h
       cases d:o.data with
       | seq its n=>
         simp only [d] at h
         rw [Bool.and_eq_true_iff] at h
         obtain ⟨xs,rv,rk⟩:=oN ds its.toList h.2.2
         have lx:=rv.length
         have kt:Kt K b xs:=⟨o,its,n,e,by simpa using h.1,d,Nat.le_trans (of_decide_eq_true h.2.1) (Nat.le_of_lt (fX (Nat.le_refl _))),rv⟩
         exact ⟨.ref b,rfl,fun H=>RK.tup (.inr kt) (rk H)⟩
       | _=>simp [d] at h
   | _=>simp [bZ] at h
 | .int _,v,h=>by simp [bZ] at h
 | .bl _,v,h=>by simp [bZ] at h
 | .non,v,h=>by simp [bZ] at h
theorem oN {K:W.Frag}:∀ (ds:List Dk) (vs:List Value),fR K ds vs=true→∃ xs:List V,aQ xs vs∧∀ H:Hp,RKs K H ds xs
 | [],vs,h=>by
   cases vs with
   | nil=>exact ⟨[],.nil,fun _=>.nil⟩
   | cons _ _=>simp [fR] at h
 | d :: ds,vs,h=>by
   cases vs with
   | nil=>simp [fR] at h
   | cons v r=>
     simp only [fR] at h
     have h':=Bool.and_eq_true_iff.mp h
     obtain ⟨x,rx,kx⟩:=mP d v h'.1
     obtain ⟨xs,rxs,kxs⟩:=oN ds r h'.2
     exact ⟨x :: xs,.cons rx rxs,fun H=>.cons (kx H) (kxs H)⟩
end
theorem uy {prog:Program} {w:World} {A:Around} {E:Value→Shared→Prop} {s:Shared} {δ:Type} {R:δ→Value→Prop} {a:Addr} {D:List (Str×δ)} {z:Str} {tz:Tok} {Q:Option Value→Shared→Prop}
 (T:KTD.TabOf R s.heap a D) (hat:KTD.datumAt z D=none) (h:Q none { s with toks:=s.toks+1 }):wpAny (model prog w) A (dictGet a (.str z tz)) Q E s:=by
 obtain ⟨_,o,es,ep,ho,_,hd,hr⟩:=T
 have hv:=hr.find_none hat
 have all:(es.all fun e=>isExactStrKey e.key)=true:=by
  obtain ⟨l⟩:=es
  simpa using hr.exact
 have hq:Q (findBy (fun k v=>v.isStr k) es z) { s with toks:=s.toks+1 }:=by
  rw [show findBy (fun k v=>v.isStr k) es z=none by obtain ⟨l⟩:=es;simpa [findBy] using hv]
  exact h
 rw [findBy_of_findIdx?] at hq
 unfold dictGet
 refine wpAny_holding (wpAny_bind (wpAny_pyHash_str (wpAny_bind (KTD.kt_dictFind_strs (s:={ s with toks:=s.toks+1 }) ho hd all ?_))))
 cases hi:es.findIdx? fun e=>e.key.isStr z with
 | none=>
   rw [hi] at hq
   exact wpAny_pure hq
 | some i=>
   rw [hi] at hq
   exact wpAny_bind (wpAny_dictEntries (s:={ s with toks:=s.toks+1 }) ho hd (wpAny_pure hq))
section
variable {X:Cx}
def zJ (K:W.Frag) (a:Addr) (D:List (Str×Dk)):R2:=fun x y H Q=>x = .ref a∧∃ z d,y = .str z∧KTD.datumAt z D=some d∧∀ v,(∀ H':Hp,RK K H' d v)→Q v H
theorem gW {x:Str} {p pos:Pos} {b:Expr} {tb:TE} {a:Addr} {D:List (Str×Dk)} (hg:Gl X x) (hm:X.mg x=some (.ref a)) (hK:KTD.tabLook (bZ X.K) (fun b=>X.K.lookup b) a D=true) (hb:PE X b tb) (hs:eZ b)
 (hd:(x == ("__debug__":Str))=false:=by decide) (hl:∀ r,letTemporaryGo (.Name x p) (.ref a) r=pure ():=by intro _;rfl):PE X (.Subscript (.Name x p) b pos) (tOp (zJ X.K a D) (tC (.ref a)) tb):=by
 intro pins s σ H Q I h
 refine Subscript_ (pS (fq hg hm (v:=.ref a) rfl hd) hb I h fun v u s2 x' y H2 I2 rx ry q=>?_)
 obtain ⟨e,z,d,e',hat,q⟩:=q
 subst e e'
 cases rx
 obtain ⟨tz,e⟩:=ry
 subst e
 have T:KTD.TabOf (IsD X.K) s2.heap a D:=KTD.tab_of_look mP (fun b o e=>I2.kIn b o e) hK
 have ty:s2.TypeIs (.ref a) "dict":=by obtain ⟨_,o,_,_,ho,hc,_⟩:=T;exact ⟨o,ho,hc.1⟩
 refine subscriptTail_builtin ty slot_dict_getitem.lookup ?_ (hs _ _) hl
 unfold getItem
 refine wpAny_holding (wpAny_bind (wpAny_sequenceKey ty (by decide) (wpAny_bind (wpAny_callSpecial?_slot (name:=Str.ofString "__getitem__") ty slot_dict_getitem (wpAny_call_entry slot_dict_getitem ty entry_dict_getitem ?_ (args_dict_getitem _ _))))))
 show wpAny _ _ (dictGet a (.str z tz) >>= _) _ _ s2
 refine wpAny_bind (ko T hat fun v hv=>wpAny_pure ⟨v,rfl,wpAny_pure ?_⟩)
 obtain ⟨y,ry,rk⟩:=hv
 exact ⟨y,H2,I2.tok _,ry,q y rk⟩
def AK (D:List Str) (te:TE):TE:=fun σ H Q=>te σ H fun y H1=>∃ z,y = .str z∧Q (.bl (decide (z∈D))) H1
theorem js {δ:Type} {z:Str}:∀ {D:List (Str×δ)},(KTD.datumAt z D).isSome=decide (z∈D.map (·.1))
 | []=>rfl
 | (x,d) :: r=>by
   have ih:=js (z:=z) (D:=r)
   rw [KTD.datumAt]
   by_cases c:z=x
   ·simp [c]
   ·simp [c,ih]
theorem nj {x:Str} {p:Pos} {b:Expr} {tb:TE} {a:Addr} {D:List (Str×Dk)} (hg:Gl X x) (hm:X.mg x=some (.ref a)) (hK:KTD.tabLook (bZ X.K) (fun b=>X.K.lookup b) a D=true) (hb:PE X b tb) (hd:(x == ("__debug__":Str))=false:=by decide):PC X .In b (.Name x p) (AK (D.map (·.1)) tb):=by
 intro pins s σ H Q I h
 refine thn (hb pins s σ H _ I h) fun iv s1 ⟨y,H1,I1,ry,z,ez,q⟩=>?_
 subst ez
 obtain ⟨tz,rfl⟩:=ry
 refine cW I1 hg hm ?_ hd
 have T:KTD.TabOf (IsD X.K) s1.heap a D:=KTD.tab_of_look mP (fun b o e=>I1.kIn b o e) hK
 have ty:s1.TypeIs (.ref a) "dict":=by obtain ⟨_,o,_,_,ho,hc,_⟩:=T;exact ⟨o,ho,hc.1⟩
 have nsm:=T.1
 show wpAny _ _ (do return Value.bool (← contains (.ref a) (.str z tz))) _ _ s1
 refine wpAny_bind ?_
 unfold contains
 refine wpAny_holding ?_
 refine wpAny_bind (wpAny_specialOf ty slot_dict_contains.lookup ?_)
 show wpAny _ _ (if (some (Value.builtin "dict.__contains__") == some Value.none)=true then _ else _) _ _ s1
 rw [if_neg (by rw [beq_builtin_none];exact Bool.false_ne_true)]
 refine wpAny_bind (wpAny_callSpecialUnlessNone?_slot (name:=Str.ofString "__contains__") ty slot_dict_contains (wpAny_call_entry slot_dict_contains ty entry_dict_contains ?_ (args_dict_contains _ _)))
 show wpAny _ _ (dictGet a (.str z tz) >>= _) _ _ s1
 have em:=js (z:=z) (D:=D)
 cases hat:KTD.datumAt z D with
 | some d=>
   rw [hat] at em
   rw [← em] at q
   refine wpAny_bind (ko T hat fun v _=>?_)
   show wpAny _ _ (ret (.bool true)) _ _ _
   exact wpAny_pure ⟨_,rfl,wpAny_truthy_bool (wpAny_pure ⟨.bl true,H1,I1.tok _,rfl,q⟩)⟩
 | none=>
   rw [hat] at em
   rw [← em] at q
   refine wpAny_bind (uy T hat ?_)
   show wpAny _ _ (Builtin.Dict.pendingKey? a (.str z tz) >>= _) _ _ _
   exact wpAny_bind (wpAny_pendingKey_other nsm (wpAny_pure ⟨_,rfl,wpAny_truthy_bool (wpAny_pure ⟨.bl false,H1,I1.tok _,rfl,q⟩)⟩))
end
end L2.Bk
end
section
namespace L2.Ex
open L2.Bw L2.Bk
structure qQ (P:Program) (w:World) (K:W.Frag) (mg:Str→Option Value) (base:Heap) (C:Addr) (m:Str) (ps:List Str) (k:Nat) (sp:Sp):Prop where
 ex:∃ f fd,aY P w K mg base CX0 k f fd ps sp∧aI K fd ps []∧j6 K C m f
structure eL (P:Program) (w:World) (K:W.Frag) (mg:Str→Option Value) (base:Heap) (C:Addr) (m:Str) (ps:List Str) (k:Nat) (sp:Sp):Prop where
 ex:∃ f fd,aY P w K mg base (CXF P w) k f fd ps sp∧aI K fd ps []∧j6 K C m f
structure wJ (P:Program) (w:World) (K:W.Frag) (mg:Str→Option Value) (base:Heap) (x:Str) (C:Addr) (k:Nat) (sp:Sp):Prop where
 ex:∃ f fd,aY P w K mg base CX0 k f fd ["self"] sp∧aI K fd ["self"] []∧Mk K C f∧mg x=some (.ref C)
theorem nu {X:Cx} {C:Addr} {ps:List Str} {k n:Nat} {sp:Sp} {m:Str} {apos pos:Pos} {o e:Expr} {es:List Expr} {ta:TE} {t:TA} {pl:Sem Bool} (c:qQ X.prog X.w X.K X.mg X.base C m ps k sp) (cl:Cls X.K C) (hr:Room n X.A) (he:PE X o ta) (ha:PA X (e :: es) t) (hn:k≤n:=by omega)
 (hst:starEach (e :: es) X.env=(false,eval e X.env) :: starEach es X.env:=by rfl) (hpl:(backTo pos (starEach es X.env)).any (·.1)=false:=by rfl)
 (ht:eval (.Call (.Attribute o m apos) (e :: es) [] pos) X.env=(do
  let ov ← eval o X.env
  standAt apos.atName
  let (f,first) ← holding [ov] (getMethod ov m pl)
  callWith pos f first (backTo pos (starEach (e :: es) X.env)) (backToKw pos (keywordEach [] X.env))):=by rfl) :
 PE X (.Call (.Attribute o m apos) (e :: es) [] pos) (t5 C m sp [] E0 ta t):=by
 obtain ⟨f,fd,F,b,M⟩:=c.ex
 exact pk he cl M F (hr.mono hn) b .nil sO ha hst hpl ht
theorem gU {Y:Cx} {E:XK} {C:Addr} {ps:List Str} {k n:Nat} {sp:Sp} {m:Str} {apos pos:Pos} {o e:Expr} {es:List Expr} {ta:TE} {t:TA} {pl:Sem Bool} (c:eL Y.prog Y.w Y.K Y.mg Y.base C m ps k sp) (cl:Cls Y.K C) (hr:Room n Y.A) (he:PE (Y.wish (XS Y E)) o ta) (ha:PA (Y.wish (XS Y E)) (e :: es) t) (hn:k≤n:=by omega)
 (hst:Y.stack=Y.env :: Y.outer:=by rfl) (hf:Y.env.frame=some Y.env.locals:=by rfl) (hex:Y.ex = []:=by rfl)
 (hss:starEach (e :: es) Y.env=(false,eval e Y.env) :: starEach es Y.env:=by rfl) (hpl:(backTo pos (starEach es Y.env)).any (·.1)=false:=by rfl)
 (ht:eval (.Call (.Attribute o m apos) (e :: es) [] pos) Y.env=(do
  let ov ← eval o Y.env
  standAt apos.atName
  let (f,first) ← holding [ov] (getMethod ov m pl)
  callWith pos f first (backTo pos (starEach (e :: es) Y.env)) (backToKw pos (keywordEach [] Y.env))):=by rfl) :
 PE (Y.wish (XS Y E)) (.Call (.Attribute o m apos) (e :: es) [] pos) (t5 C m sp [] E ta t):=by
 obtain ⟨f,fd,F,b,M⟩:=c.ex
 exact pk (X:=Y.wish (XS Y E)) (CX:=CXF Y.prog Y.w) he cl M F (hr.mono hn) b .nil (fun pins σ H s e s' I q=>pP I.unwish hst hf hex q) ha hss hpl ht
theorem xL {X:Cx} {x:Str} {C:Addr} {k n:Nat} {sp:Sp} {p pos:Pos} (c:wJ X.prog X.w X.K X.mg X.base x C k sp) (hr:Room n X.A) (hn:k+1≤n:=by omega) (hg:Gl X x:=by rfl) (hdb:(x == ("__debug__":Str))=false:=by decide):PE X (.Call (.Name x p) [] [] pos) (wH C sp [] E0 je):=by
 obtain ⟨f,fd,F,b,M,m⟩:=c.ex
 exact sQ M F (hr.mono hn) hg m b .nil sO hdb
end L2.Ex
end
section
namespace L2.Ex
open L2.Bw L2.Bk PySem.W
def Ag (K:Frag) (B:Addr) (k:Nat) (sp:Sp) (t:TA) (ts:TS):TS:=fun D σ H=>t σ H fun vs H1=>sp vs H1 (fun v H2=>D.nx σ H2) (mE K B k ts D σ)
theorem vo {X:Cx} {f:Str} {ps:List Str} {lv lw:Nat} {sp:Sp} {p cpos apos np hpos pos:Pos} {e:Expr} {es:List Expr} {t:TA} {B:Addr} {Bn n:Str} {k:Nat} {b₀:Stmt} {suite:List Stmt} {ts:TS}
 (c:dw X.prog X.w X.K X.mg X.base f ps lv sp) (hr:Room lw X.A) (ha:PA X.nox (e :: es) t) (Y:ly X.K B) (hm:X.mg Bn=some (.ref B)) (hN:X.N.Nodup) (hk:X.N[k]? = some n) (hl:X.env.scope.names.lookup n=some .local) (hS:∀ a,PSs (eE X (.ref a)) (b₀ :: suite) ts)
 (hn:lv≤lw:=by omega) (hst:X.stack=X.env :: X.outer:=by rfl) (hf:X.env.frame=some X.env.locals:=by rfl) (hex:X.ex = []:=by rfl) (hc:X.calm=true:=by rfl) (hgf:Gl X f:=by rfl) (hgB:Gl X Bn:=by rfl) (hdf:(f == ("__debug__":Str))=false:=by decide) (hdB:(Bn == ("__debug__":Str))=false:=by decide)
 (he:starEach (e :: es) X.env=(false,eval e X.env) :: starEach es X.env:=by rfl) (hpl:(backTo cpos (starEach es X.env)).any (·.1)=false:=by rfl) (hsw:swapsWith (.Call (.Name f p) (e :: es) [] cpos) none apos.line X.env=pure false:=by rfl) :
 PS X (.Try [.Expr (.Call (.Name f p) (e :: es) [] cpos) apos] [.ExceptHandler (some (.Name Bn np)) (some n) (b₀ :: suite) hpos] [] [] pos) (Ag X.K B k sp t ts):=by
 intro pins s σ H D I h
 refine wpAny_Try_except ?_
 have body:wpAny (model X.prog X.w) X.A (exec (.Expr (.Call (.Name f p) (e :: es) [] cpos) apos) X.env) (SP X pins { D with bk:=fun _ _=>False,ct:=fun _ _=>False,rt:=fun _ _=>False }) (fun e' s'=>∃ H1 s1,Inv X pins σ H1 s1∧CXF X.prog X.w X.stack H1 s1 (mE X.K B k ts D σ) e' s') s:=by
  refine wpAny_Expr_any (thn (rD c hr hn ha I h hgf hdf he hpl) fun v s1 z=>?_) I.quiet hsw
  obtain ⟨y,H1,I1,r1,q1⟩:=z
  exact ⟨_,H1,I1,q1⟩
 refine wpAny_execs_cons (wpAny_mono body (fun fl s1 z=>?_) fun e' s1 z=>?_)
 ·cases fl with
  | next=>exact wpAny_execs_nil (wpAny_execs_nil z)
  | ret u=>obtain ⟨_,_,_,_,_,z⟩:=z;exact z.elim
  | brk=>obtain ⟨_,_,_,z⟩:=z;exact z.elim
  | cont=>obtain ⟨_,_,_,z⟩:=z;exact z.elim
 ·obtain ⟨H1,s2,I2,xx⟩:=z
  exact ut I2 xx Y hm hN hk hl hS hst hf hex hc hgB hdB
theorem uq {P:Program} {w:World} {K:W.Frag} {mg:Str→Option Value} {base:Heap} {k:Nat} {f:Addr} {fd:FuncData} {ps:List Str} {sp:Sp} (F:aY P w K mg base (CXF P w) k f fd ps sp) :
 aY P w K mg base CX0 k f fd ps (fun vs H Q _=>sp vs H Q fun _ _ _=>False):=by
 refine ⟨fun vs H Q E h=>F.len vs H Q _ h,fun A outer s H args us vs Q E hr he hb hv hs=>codeAny_mono (F.run A outer s H args us vs Q _ hr he hb hv hs) fun r s' z=>?_⟩
 cases r with
 | ok fl=>cases fl <;> exact z
 | error e=>
   obtain ⟨_,_,_,_,_,_,_,_,_,_,_,_,_,_,_,z⟩:=z
   exact z.elim
theorem calm {P:Program} {w:World} {K:W.Frag} {mg:Str→Option Value} {base:Heap} {x:Str} {ps:List Str} {k:Nat} {sp:Sp} (c:dw P w K mg base x ps k sp):Cal P w K mg base x ps k (fun vs H Q _=>sp vs H Q fun _ _ _=>False):=by
 obtain ⟨f,fd,F,b,kp,m⟩:=c.ex
 exact ⟨⟨f,fd,uq F,b,kp,m⟩⟩
end L2.Ex
end
section
namespace L2.Bk
open L2.Bw L2.Ex
theorem Ak:qK.wf:=⟨by nofun,trivial⟩
inductive Tk where
 | mk (w:Str) (p:Int) (fr:List Dk) (ks:List Kn) (ps:List Tk)
mutual
noncomputable def Tk.tn:Tk→Tn
 | .mk w p fr ks ps=>.mk w p fr (Kn.ds ks) (Tk.tns ps)
noncomputable def Tk.tns:List Tk→List Tn
 | []=>[]
 | t :: r=>t.tn :: Tk.tns r
end
noncomputable def Tk.w:Tk→Str | .mk w _ _ _ _=>w
noncomputable def Tk.p:Tk→Int | .mk _ p _ _ _=>p
noncomputable def Tk.fr:Tk→List Dk | .mk _ _ fr _ _=>fr
noncomputable def Tk.ks:Tk→List Kn | .mk _ _ _ ks _=>ks
noncomputable def Tk.ps:Tk→List Tk | .mk _ _ _ _ ps=>ps
mutual
noncomputable def Tk.ok:Tk→Prop
 | .mk w _ fr ks ps=>(Kn.wfs ks∧Kn.deps ks≤7∧(∀ d∈fr,d.flat=true)∧w≠"look")∧Tk.oks ps
noncomputable def Tk.oks:List Tk→Prop
 | []=>True
 | t :: r=>t.ok∧Tk.oks r
end
theorem aF:∀ (ps:List Tk),(Tk.tns ps).length=ps.length
 | []=>rfl
 | t :: r=>by show (Tk.tns r).length+1=r.length+1;rw [aF r]
theorem le:∀ {ps:List Tk} {i:Nat} (h:i<ps.length),(Tk.tns ps)[i]? = some ps[i].tn
 | _ :: _,0,_=>rfl
 | _ :: r,i+1,h=>by
   show (Tk.tns r)[i]? = _
   exact le (ps:=r) (by simpa using h)
def Dk.isT:Dk→Bool
 | .tup _=>true
 | _=>false
theorem jA {K:W.Frag} {H:Hp} {d:Dk} {v:V} (r:RK K H d v):IsJ K H v "tuple" d.isT:=by
 cases d with
 | tup ds=>
   obtain ⟨a,vs,rfl,ha,_⟩:=RK.get r
   rcases ha with h | h
   ·exact .inl ⟨_,.tup h,show W.kitOne K (.type "tuple") (.type "tuple")=some true from (by nofun:W.kitOne [] (.type "tuple") (.type "tuple")=some true)⟩
   ·exact .inr ⟨a,vs,rfl,h,show W.kitOne K (.type "tuple") (.type "tuple")=some true from (by nofun:W.kitOne [] (.type "tuple") (.type "tuple")=some true)⟩
 | non=>rw [RK] at r;subst r;exact .inl ⟨_,.non,show W.kitOne K (.type "NoneType") (.type "tuple")=some false from (by nofun:W.kitOne [] (.type "NoneType") (.type "tuple")=some false)⟩
 | int i=>rw [RK] at r;subst r;exact .inl ⟨_,.int i,show W.kitOne K (.type "int") (.type "tuple")=some false from (by nofun:W.kitOne [] (.type "int") (.type "tuple")=some false)⟩
 | bl i=>rw [RK] at r;subst r;exact .inl ⟨_,.bl i,show W.kitOne K (.type "bool") (.type "tuple")=some false from (by nofun:W.kitOne [] (.type "bool") (.type "tuple")=some false)⟩
 | str i=>rw [RK] at r;subst r;exact .inl ⟨_,.str i,show W.kitOne K (.type "str") (.type "tuple")=some false from (by nofun:W.kitOne [] (.type "str") (.type "tuple")=some false)⟩
mutual
theorem yK:∀ {t:Tk},t.ok→t.tn.d.dq≤2 * t.tn.dep+8
 | .mk w p fr ks ps,o=>by
   show (Dk.tup (.str w :: .int p :: (fr ++ Kn.ds ks ++ (if w = "row" then [.tup (Tn.ds (Tk.tns ps))] else Tn.ds (Tk.tns ps))))).dq≤2 * (1+Tn.deps (Tk.tns ps))+8
   rw [iq]
   have h:=km o.2
   have hk:dqs (Kn.ds ks)≤7:=by rw [qZ];exact o.1.2.1
   have z:dqs (.str w :: .int p :: (fr ++ Kn.ds ks ++ (if w = "row" then [.tup (Tn.ds (Tk.tns ps))] else Tn.ds (Tk.tns ps))))≤2 * Tn.deps (Tk.tns ps)+9:=mL fun d hd=>by
    rcases List.mem_cons.mp hd with rfl | hd
    ·rw [kl];omega
    rcases List.mem_cons.mp hd with rfl | hd
    ·rw [mK];omega
    rcases List.mem_append.mp hd with hd | hd
    ·rcases List.mem_append.mp hd with hd | hd
     ·have:=o.1.2.2.1 d hd
      cases d with
      | tup _=>cases this
      | non=>rw [re];omega
      | int _=>rw [mK];omega
      | bl _=>rw [v9];omega
      | str _=>rw [kl];omega
     ·have:=cH hd
      omega
    ·split at hd
     ·rw [List.mem_singleton.mp hd,iq]
      omega
     ·have:=cH hd
      omega
   omega
theorem km:∀ {ps:List Tk},Tk.oks ps→dqs (Tn.ds (Tk.tns ps))≤2 * Tn.deps (Tk.tns ps)+8
 | [],_=>by show dqs []≤_;rw [ux];omega
 | t :: r,o=>by
   show dqs (t.tn.d :: Tn.ds (Tk.tns r))≤2 * max t.tn.dep (Tn.deps (Tk.tns r))+8
   rw [ir]
   have h1:=yK o.1
   have h2:=km o.2
   omega
end
inductive Rf where
 | deep (p:Int)
 | par (p:Int) (k:Kn) (b:Int) (w:Kn) (way:List Str)
noncomputable abbrev Nv:=Str→Option Kn
noncomputable def cX (e:Nv) (x:Str) (k:Kn):Nv:=fun y=>if y=x then some k else e y
noncomputable def cf:Kn:=.mk "whole" []
noncomputable def bI:Kn:=.mk "truth" []
noncomputable def Kn.hd:Kn→Str | .mk h _=>h
noncomputable def Kn.pt:Kn→Nat→Kn | .mk h ks,i=>if h = "?" then qK else (ks[i]?).getD qK
noncomputable def bL (w:Str):Option Kn:=if w = "call" then some (.mk "to" [qK,qK]) else if w = "at"∨w = "size" then some (.mk "row" [qK]) else if w = "one"∨w = "two" then some (.mk "pair" [qK,qK]) else none
noncomputable def bG (w:Str) (ks f:List Kn):Kn:=
 if w = "do"∨(w = "at"∧f.length=2) then cf
 else if w = "if"∧f.length=1 then bI
 else if w = "row"∨w = "as" then ks.headD qK
 else if w = "self" then (ks[1]?).getD qK
 else if w = "call"∧f.length=2 then (f.headD qK).pt 0
 else match bL w with
  | some n=>if (f.headD qK).hd≠n.hd then n else f.getLastD qK
  | none=>f.getLastD qK
noncomputable def bH (w:Str) (fr:List Dk) (ks f:List Kn) (e:Nv):Kn:=
 if w = "whole"∨w = "given"∨w = "size" then cf
 else if w = "truth" then bI
 else if w = "call"∨w = "two" then (f.headD qK).pt 1
 else if w = "at"∨w = "one" then (f.headD qK).pt 0
 else if w = "name" then (e ((txs fr).headD "")).getD qK
 else if w = "fn" then .mk "to" [ks.headD qK,f.headD qK]
 else if w = "self" then .mk "to" [ks.headD qK,(ks[1]?).getD qK]
 else if w = "let" then (f[1]?).getD qK
 else if w = "if" then ((f[1]?).getD qK).join ((f[2]?).getD qK)
 else if w = "do" then (if (txs fr).headD ""∈(["<","="]:List Str) then bI else cf)
 else if w = "row" then .mk "row" [ks.headD qK]
 else if w = "pair" then .mk "pair" [f.headD qK,(f[1]?).getD qK]
 else ks.headD qK
noncomputable def bwK (w:Str) (fr:List Dk) (ks f:List Kn) (i:Nat) (e:Nv):Nv:=
 if w = "fn" then cX e ((txs fr).headD "") (ks.headD qK)
 else if w = "self" then cX (cX e ((txs fr).headD "") (.mk "to" [ks.headD qK,(ks[1]?).getD qK])) (((txs fr)[1]?).getD "") (ks.headD qK)
 else if w = "let"∧i=1 then cX e ((txs fr).headD "") (f.headD qK)
 else e
noncomputable def bU (w:Str) (p pl np:Int) (ks f:List Kn):Option Rf:=
 if w = "if"∧f.length=3 then (((f[2]?).getD qK).part ((f[1]?).getD qK)).map fun way=>.par np ((f[2]?).getD qK) pl ((f[1]?).getD qK) way
 else ((f.getLastD qK).part (bG w ks f)).map fun way=>.par np (f.getLastD qK) p (bG w ks f) way
mutual
noncomputable def Tk.lk:Tk→Nv→Except Rf Kn
 | .mk w p fr ks ps,e=>if ks.any (fun k=>decide (4<k.dep)) then .error (.deep p) else
  match Tk.lks w p ((ps[1]?).map Tk.p |>.getD 0) fr ks ps 0 e [] with
  | .error r=>.error r
  | .ok f=>if 4<(bH w fr ks f e).dep then .error (.deep p) else .ok (bH w fr ks f e)
noncomputable def Tk.lks (w:Str) (p pl:Int) (fr:List Dk) (ks:List Kn):List Tk→Nat→Nv→List Kn→Except Rf (List Kn)
 | [],_,_,f=>.ok f
 | n :: r,i,e,f=>match n.lk (bwK w fr ks f i e) with
   | .error r=>.error r
   | .ok k=>match bU w p pl n.p ks (f ++ [k]) with
     | some r=>.error r
     | none=>Tk.lks w p pl fr ks r (i+1) e (f ++ [k])
end
theorem gB (w:Str) (p:Int) (fr:List Dk) (ks:List Kn) (ps:List Tk) (e:Nv):(Tk.mk w p fr ks ps).lk e=if ks.any (fun k=>decide (4<k.dep)) then .error (.deep p) else
 match Tk.lks w p ((ps[1]?).map Tk.p |>.getD 0) fr ks ps 0 e [] with
 | .error r=>.error r
 | .ok f=>if 4<(bH w fr ks f e).dep then .error (.deep p) else .ok (bH w fr ks f e):=by rw [Tk.lk]
theorem fi (w:Str) (p pl:Int) (fr:List Dk) (ks:List Kn) (i:Nat) (e:Nv) (f:List Kn):Tk.lks w p pl fr ks [] i e f = .ok f:=by rw [Tk.lks]
theorem dE (w:Str) (p pl:Int) (fr:List Dk) (ks:List Kn) (n:Tk) (r:List Tk) (i:Nat) (e:Nv) (f:List Kn):Tk.lks w p pl fr ks (n :: r) i e f=match n.lk (bwK w fr ks f i e) with
 | .error r=>.error r
 | .ok k=>match bU w p pl n.p ks (f ++ [k]) with
   | some r=>.error r
   | none=>Tk.lks w p pl fr ks r (i+1) e (f ++ [k]):=by rw [Tk.lks]
structure Kg (k:Kn) (m:Nat):Prop where
 wf:k.wf
 dep:k.dep≤m
noncomputable def Nv.ok (e:Nv):Prop:=∀ x k,e x=some k→Kg k 5
theorem dh:Kg qK 1:=⟨Ak,Nat.le_refl _⟩
theorem ce:Kg cf 1:=⟨⟨by nofun,trivial⟩,Nat.le_refl _⟩
theorem cC:Kg bI 1:=⟨⟨by nofun,trivial⟩,Nat.le_refl _⟩
theorem Kg.mono {k:Kn} {m n:Nat} (h:Kg k m) (l:m≤n):Kg k n:=⟨h.wf,Nat.le_trans h.dep l⟩
theorem iE {a b:Kn} {m:Nat} (ha:Kg a m) (hb:Kg b m):Kg (.mk "to" [a,b]) (m+1):=⟨⟨by show bO "to" = some 2;decide +kernel,ha.wf,hb.wf,trivial⟩,by
 have:=ha.dep;have:=hb.dep
 show 1+max a.dep (max b.dep 0)≤m+1;omega⟩
theorem fh {a b:Kn} {m:Nat} (ha:Kg a m) (hb:Kg b m):Kg (.mk "pair" [a,b]) (m+1):=⟨⟨by show bO "pair" = some 2;decide +kernel,ha.wf,hb.wf,trivial⟩,by
 have:=ha.dep;have:=hb.dep
 show 1+max a.dep (max b.dep 0)≤m+1;omega⟩
theorem iD {a:Kn} {m:Nat} (ha:Kg a m):Kg (.mk "row" [a]) (m+1):=⟨⟨by show bO "row" = some 1;decide +kernel,ha.wf,trivial⟩,by
 have:=ha.dep
 show 1+max a.dep 0≤m+1;omega⟩
theorem rW {k:Kn} {m:Nat} (h:Kg k m) (i:Nat):Kg (k.pt i) m:=by
 obtain ⟨g,ks⟩:=k
 have h1:=h.dep
 have h1':1+Kn.deps ks≤m:=h1
 show Kg (if g = "?" then qK else (ks[i]?).getD qK) m
 split
 ·exact dh.mono (by omega)
 ·by_cases c:i<ks.length
  ·rw [List.getElem?_eq_getElem c]
   have:=dB c
   exact ⟨hZ c h.wf.2,by show ks[i].dep≤m;omega⟩
  ·rw [List.getElem?_eq_none (by omega)]
   exact dh.mono (by omega)
theorem cB {f:List Kn} {m:Nat} (hm:1≤m) (h:∀ k∈f,Kg k m):Kg (f.headD qK) m:=by
 cases f with
 | nil=>exact dh.mono hm
 | cons k r=>exact h k List.mem_cons_self
theorem dM {f:List Kn} {m:Nat} (hm:1≤m) (h:∀ k∈f,Kg k m) (i:Nat):Kg ((f[i]?).getD qK) m:=by
 by_cases c:i<f.length
 ·rw [List.getElem?_eq_getElem c]
  exact h _ (List.getElem_mem c)
 ·rw [List.getElem?_eq_none (by omega)]
  exact dh.mono hm
theorem kE {f:List Kn} {m:Nat} (hm:1≤m) (h:∀ k∈f,Kg k m):Kg (f.getLastD qK) m:=by
 cases hf:f.getLast? with
 | none=>
   have:f = []:=by simpa using hf
   subst this
   exact dh.mono hm
 | some k=>
   have e:f.getLastD qK=k:=by rw [List.getLastD_eq_getLast?,hf];rfl
   rw [e]
   exact h k (List.mem_of_getLast? hf)
theorem uF {w:Str} {ks f:List Kn} (hk:∀ k∈ks,Kg k 4) (hf:∀ k∈f,Kg k 4):Kg (bG w ks f) 4:=by
 unfold bG
 split
 ·exact ce.mono (by omega)
 split
 ·exact cC.mono (by omega)
 split
 ·exact cB (by omega) hk
 split
 ·exact dM (by omega) hk 1
 split
 ·exact rW (cB (by omega) hf) 0
 split
 ·rename_i n hn
  split
  ·unfold bL at hn
   split at hn
   ·cases hn;exact (iE dh dh).mono (by omega)
   split at hn
   ·cases hn;exact (iD dh).mono (by omega)
   split at hn
   ·cases hn;exact (fh dh dh).mono (by omega)
   ·cases hn
  ·exact kE (by omega) hf
 ·exact kE (by omega) hf
theorem uE {a b:Kn} {m:Nat} (hm:1≤m) (ha:Kg a m) (hb:Kg b m):Kg (a.join b) m:=⟨oS ha.wf hb.wf,Nat.le_trans (lZ a b) ha.dep⟩
theorem cm {c:Prop} [Decidable c] {a b:Kn} {m:Nat} (ha:Kg a m) (hb:Kg b m):Kg (if c then a else b) m:=by
 by_cases h:c
 ·rw [if_pos h];exact ha
 ·rw [if_neg h];exact hb
theorem xg {w:Str} {fr:List Dk} {ks f:List Kn} {e:Nv} (hk:∀ k∈ks,Kg k 4) (hf:∀ k∈f,Kg k 4) (he:e.ok):Kg (bH w fr ks f e) 5:=by
 have a1:=cB (by omega) hk
 have a2:=cB (by omega) hf
 have a3:=fun i=>dM (by omega) hk i
 have a4:=fun i=>dM (by omega) hf i
 have an:Kg ((e ((txs fr).headD "")).getD qK) 5:=by
  cases h:e ((txs fr).headD "") with
  | none=>exact dh.mono (by omega)
  | some k=>exact he _ k h
 unfold bH
 exact cm (ce.mono (by omega)) (cm (cC.mono (by omega)) (cm ((rW a2 1).mono (by omega)) (cm ((rW a2 0).mono (by omega)) (cm an (cm (iE a1 a2) (cm (iE a1 (a3 1)) (cm ((a4 1).mono (by omega)) (cm ((uE (by omega) (a4 1) (a4 2)).mono (by omega)) (cm (cm (cC.mono (by omega)) (ce.mono (by omega))) (cm (iD a1) (cm (fh a2 (a4 1)) (a1.mono (by omega)))))))))))))
theorem kI {e:Nv} (he:e.ok) (x:Str) {k:Kn} (h:Kg k 5):(cX e x k).ok:=fun y k' hk=>by
 unfold cX at hk
 split at hk
 ·cases hk;exact h
 ·exact he y k' hk
theorem yZ {w:Str} {fr:List Dk} {ks f:List Kn} {i:Nat} {e:Nv} (hk:∀ k∈ks,Kg k 4) (hf:∀ k∈f,Kg k 4) (he:e.ok):(bwK w fr ks f i e).ok:=by
 have a1:=cB (by omega) hk
 have a3:=fun i=>dM (by omega) hk i
 unfold bwK
 split
 ·exact kI he _ (a1.mono (by omega))
 split
 ·exact kI (kI he _ (iE a1 (a3 1))) _ (a1.mono (by omega))
 split
 ·exact kI he _ ((cB (by omega) hf).mono (by omega))
 ·exact he
noncomputable def Nv.has (e:Nv) (bs:List Str):Prop:=∀ x∈bs,(e x).isSome=true
theorem gN {e:Nv} {bs:List Str} (h:e.has bs) (x:Str) (k:Kn):(cX e x k).has (bs ++ [x]):=fun y hy=>by
 unfold cX
 rcases List.mem_append.mp hy with hy | hy
 ·split
  ·rfl
  ·exact h y hy
 ·rw [if_pos (List.mem_singleton.mp hy)]
  rfl
theorem wV {w:Str} {fr:List Dk} {ks f:List Kn} {i:Nat} {e:Nv} {bs:List Str} (h:e.has bs) (h1:w∈eM→fr=(txs fr).map Dk.str∧(txs fr).length=K11.nf w):(bwK w fr ks f i e).has (bs ++ bnd w (txs fr) i):=by
 have nf1:K11.nf "fn" = 1∧K11.nf "self" = 2∧K11.nf "let" = 1:=by nofun
 unfold bwK bnd
 by_cases c1:w = "fn"
 ·rw [if_pos c1,if_pos (.inl c1)]
  have l:=(h1 (by rw [c1];decide +kernel)).2
  rw [c1,nf1.1] at l
  obtain ⟨x,hx⟩:=List.length_eq_one_iff.mp l
  rw [hx]
  exact gN h _ _
 rw [if_neg c1]
 by_cases c2:w = "self"
 ·rw [if_pos c2,if_pos (.inr (.inl c2))]
  have l:=(h1 (by rw [c2];decide +kernel)).2
  rw [c2,nf1.2.1] at l
  obtain ⟨x,y,hx⟩:∃ x y,txs fr = [x,y]:=by
   cases ht:txs fr with
   | nil=>rw [ht] at l;cases l
   | cons x r=>cases r with
     | nil=>rw [ht] at l;cases l
     | cons y r=>cases r with
       | nil=>exact ⟨x,y,rfl⟩
       | cons z r=>rw [ht] at l;simp at l
  rw [hx]
  have z:=gN (gN h x (.mk "to" [ks.headD qK,(ks[1]?).getD qK])) y (ks.headD qK)
  rw [List.append_assoc] at z
  exact z
 rw [if_neg c2]
 by_cases c3:w = "let"∧i=1
 ·rw [if_pos c3,if_pos (.inr (.inr c3))]
  have l:=(h1 (by rw [c3.1];decide +kernel)).2
  rw [c3.1,nf1.2.2] at l
  obtain ⟨x,hx⟩:=List.length_eq_one_iff.mp l
  rw [hx]
  exact gN h _ _
 ·rw [if_neg c3,if_neg (fun z=>z.elim c1 fun z=>z.elim c2 c3),List.append_nil]
  exact h
mutual
def Tk.cnt:Tk→Nat
 | .mk _ _ _ _ ps=>1+Tk.cnts ps
def Tk.cnts:List Tk→Nat
 | []=>0
 | t :: r=>t.cnt+Tk.cnts r
end
mutual
def Tk.dos:Tk→Prop
 | .mk w _ fr _ ps=>(w = "do"→∃ o,fr = [.str o])∧Tk.doss ps
def Tk.doss:List Tk→Prop
 | []=>True
 | t :: r=>t.dos∧Tk.doss r
end
theorem uw (t:Tk):0<t.cnt:=by
 cases t
 show 0<1+_
 omega
theorem lP:∀ {ps:List Tk} {i:Nat} (h:i<ps.length),Tk.doss ps→ps[i].dos
 | _ :: _,0,_,d=>d.1
 | _ :: _,i+1,h,d=>lP (i:=i) (Nat.lt_of_succ_lt_succ h) d.2
theorem mo:∀ {ps:List Tk} {i:Nat} (h:i<ps.length),Tk.oks ps→ps[i].ok
 | _ :: _,0,_,d=>d.1
 | _ :: _,i+1,h,d=>mo (i:=i) (Nat.lt_of_succ_lt_succ h) d.2
theorem iF:∀ {ps:List Tk} {i:Nat} (h:i<ps.length),Tn.wfs (Tk.tns ps)→ps[i].tn.wf
 | _ :: _,0,_,d=>d.1
 | _ :: _,i+1,h,d=>iF (i:=i) (Nat.lt_of_succ_lt_succ h) d.2
theorem jE:∀ {ps:List Tk} {i:Nat} (h:i<ps.length),ps[i].tn.dep≤Tn.deps (Tk.tns ps)
 | t :: r,0,_=>by show t.tn.dep≤max t.tn.dep (Tn.deps (Tk.tns r));omega
 | t :: r,i+1,h=>by
   have:=jE (ps:=r) (i:=i) (Nat.lt_of_succ_lt_succ h)
   exact Nat.le_trans this (Nat.le_max_right _ _)
theorem pV {ps:List Tk} {i:Nat} (h:i<ps.length):Tk.cnts (ps.drop i)=ps[i].cnt+Tk.cnts (ps.drop (i+1)):=by
 rw [List.drop_eq_getElem_cons h]
 rfl
theorem iy:∀ {ps:List Tk} {i:Nat} (h:i<ps.length) (w:Str) (ns:List Str) (j:Nat) (bs:List Str),Tn.freess w ns j (Tk.tns ps) bs = []→ps[i].tn.frees (bs ++ bnd w ns (j+i)) = []
 | t :: r,0,_,w,ns,j,bs,e=>by
   have e':t.tn.frees (bs ++ bnd w ns j) ++ Tn.freess w ns (j+1) (Tk.tns r) bs = []:=e
   exact (List.append_eq_nil_iff.mp e').1
 | t :: r,i+1,h,w,ns,j,bs,e=>by
   have e':t.tn.frees (bs ++ bnd w ns j) ++ Tn.freess w ns (j+1) (Tk.tns r) bs = []:=e
   have:=iy (ps:=r) (i:=i) (Nat.lt_of_succ_lt_succ h) w ns (j+1) bs (List.append_eq_nil_iff.mp e').2
   rw [show j+(i+1)=j+1+i by omega]
   exact this
theorem rM {x:Str} {p:Int} {fr:List Dk} {ks:List Kn} {ps:List Tk} {bs:List Str} (h:(Tk.mk x p fr ks ps).tn.frees bs = []):(x = "name"→(txs fr).headD ""∈bs)∧∀ {i:Nat} (hi:i<ps.length),ps[i].tn.frees (bs ++ bnd x (txs fr) i) = []:=by
 have h':(if x = "name"∧(txs fr).headD "" ∉ bs then [(p,(txs fr).headD "")] else []) ++ Tn.freess x (txs fr) 0 (Tk.tns ps) bs = []:=h
 obtain ⟨h1,h2⟩:=List.append_eq_nil_iff.mp h'
 refine ⟨fun c=>Decidable.by_contra fun z=>?_,fun {i} hi=>?_⟩
 ·rw [if_pos ⟨c,z⟩] at h1
  cases h1
 ·have:=iy hi x (txs fr) 0 bs h2
  rw [Nat.zero_add] at this
  exact this
def Fit (x:Str) (g:List Kn):Prop:=∀ n,bL x=some n→(g.headD qK).hd = "?"∨(g.headD qK).hd=n.hd
theorem kG {x:Str} {n:Kn} (h:bL x=some n):x∈(["call","at","size","one","two"]:List Str)∧n.hd≠"?":=by
 unfold bL at h
 by_cases c1:x = "call"
 ·rw [if_pos c1] at h;cases h
  rw [c1];decide +kernel
 rw [if_neg c1] at h
 by_cases c2:x = "at"∨x = "size"
 ·rw [if_pos c2] at h;cases h
  rcases c2 with c2 | c2 <;> (rw [c2];decide +kernel)
 rw [if_neg c2] at h
 by_cases c3:x = "one"∨x = "two"
 ·rw [if_pos c3] at h;cases h
  rcases c3 with c3 | c3 <;> (rw [c3];decide +kernel)
 rw [if_neg c3] at h
 cases h
theorem sB:∀ x∈(["call","at","size","one","two"]:List Str),x≠"do"∧x≠"if"∧x≠"row"∧x≠"as"∧x≠"self":=by nofun
theorem qb {x:Str} {p pl np:Int} {ks:List Kn} {k:Kn} (h:bU x p pl np ks [k]=none):Fit x [k]:=fun n hn=>by
 obtain ⟨hw,hq⟩:=kG hn
 obtain ⟨d1,d2,d3,d4,d5⟩:=sB x hw
 show k.hd = "?"∨k.hd=n.hd
 unfold bU at h
 rw [if_neg (fun z=>d2 z.1)] at h
 have hp:([k].getLastD qK).part (bG x ks [k])=none:=by
  cases e:([k].getLastD qK).part (bG x ks [k]) with
  | none=>rfl
  | some w=>rw [e] at h;cases h
 by_cases c:k.hd=n.hd
 ·exact .inr c
 have ew:bG x ks [k]=n:=by
  unfold bG
  rw [if_neg (fun z=>z.elim d1 fun z=>absurd (show 1=2 from z.2) (by decide)),if_neg (fun z=>d2 z.1),if_neg (fun z=>z.elim d3 d4),if_neg d5,if_neg (fun z=>absurd (show 1=2 from z.2) (by decide)),hn]
  exact if_pos c
 rw [ew] at hp
 have hp':k.part n=none:=hp
 obtain ⟨g,gs⟩:=k
 obtain ⟨m,ms⟩:=n
 rw [Kn.part] at hp'
 by_cases c2:g = "?"
 ·exact .inl c2
 ·rw [if_neg c2,if_neg (show ¬ m = "?" from hq),if_neg (show ¬ g=m from c)] at hp'
  cases hp'
theorem lQ {x:Str} {g:List Kn} (hg:g≠[]) (k:Kn) (h:Fit x g):Fit x (g ++ [k]):=fun n hn=>by
 have:=h n hn
 cases g with
 | nil=>exact absurd rfl hg
 | cons a r=>exact this
end L2.Bk
end
section
namespace L2.Ex
open L2.Bw L2.Bk
section
variable {X:Cx} {pins:List (Addr×Obj)} {σ:St} {H:Hp} {s:Shared} {d:Addr}
theorem rQ {P:Program} {w:World} {H:Hp} {h:Heap} {d:Addr} {u v:HO} (ok:HOk P w H h) (e:H d=some u) (n1:∀ a,u≠.own a) (n2:∀ xs,u≠.tup xs) (new:bo P w (upd H d v) h d v):HOk P w (upd H d v) h:=fun b o q=>by
 by_cases hb:b=d
 ·subst hb;rw [ad] at q;cases q;exact new
 ·rw [aj hb] at q
  refine (ok b o q).stay (fun _ _ _ z=>z) (fun c z=>?_) (fun c xs z=>?_)
  ·rw [aj (fun y=>by subst y;rw [e] at z;exact n1 _ (Option.some.inj z))];exact z
  ·rw [aj (fun y=>by subst y;rw [e] at z;exact n2 _ (Option.some.inj z))];exact z
theorem mn {P:Program} {w:World} {H:Hp} {h:Heap} {d:Addr} {u v:HO} {a:Addr} {o:HO} (x:bo P w H h a o) (e:H d=some u) (n1:∀ a,u≠.own a) (n2:∀ xs,u≠.tup xs):bo P w (upd H d v) h a o:=
 x.stay (fun _ _ _ z=>z) (fun c z=>by rw [aj (fun y=>by subst y;rw [e] at z;exact n1 _ (Option.some.inj z))];exact z) (fun c xs z=>by rw [aj (fun y=>by subst y;rw [e] at z;exact n2 _ (Option.some.inj z))];exact z)
theorem lX {u v:HO} (I:Inv X pins σ H s) (e:H d=some u) (n1:∀ a,u≠.own a) (n2:∀ xs,u≠.tup xs) (n3:∀ ps,u≠.tbl ps) (n4:∀ o z,X.H₀ d≠some (.frz o z)) (new:bo X.prog X.w (upd H d v) s.heap d v):Inv X pins σ (upd H d v) s:=by
 have ne:∀ b,H b=none→b≠d:=fun b n z=>by subst z;rw [e] at n;cases n
 refine ⟨I.ok,I.os,I.bare,⟨I.base.keep,I.base.slot,fun b o q n hx=>?_,I.base.there,fun b xs q=>?_,fun b o z q=>?_,fun b ps q=>?_⟩,I.loc,I.cell,?_,fun x c q=>?_,fun p hp=>?_,rQ I.hok e n1 n2 new,I.len⟩
 ·have z:=I.base.free b o q n hx
  rw [aj (ne b z)];exact z
 ·have z:=I.base.tups b xs q
  rw [aj (fun y=>by subst y;rw [e] at z;exact n2 _ (Option.some.inj z))];exact z
 ·have y:=I.base.frzs b o z q
  rw [aj (fun y=>by subst y;exact n4 _ _ q)];exact y
 ·obtain ⟨more,z⟩:=I.base.tbls b ps q
  exact ⟨more,by rw [aj (fun y=>by subst y;rw [e] at z;exact n3 _ (Option.some.inj z))];exact z⟩
 ·rw [aj (ne _ I.free).symm.symm];exact I.free
 ·rw [aj (ne _ (I.freeC x c q))];exact I.freeC x c q
 ·obtain ⟨a1,a2,a3⟩:=I.pin p hp
  exact ⟨a1,by rw [aj (ne _ a2)];exact a2,a3⟩
def Itd (d:Addr) (o:Obj) (kvs:List (Key×V)):It:=
 ⟨fun i H=>H d=some (.frz o (.dK kvs))∧i<kvs.length,fun i H x H'=>H'=H∧∃ k v,kvs[i]? = some (k,v)∧x=kV k,fun i H=>H d=some (.frz o (.dK kvs))∧kvs.length≤i⟩
theorem vt {P:Program} {w:World} {k:Key} {u:Value} (h:(bF P w).is k u=true):aU (kV k) u:=by
 rcases bD (show iC k u=true from h) with ⟨i,t,rfl,rfl⟩ | ⟨x,t,rfl,rfl⟩
 ·exact ⟨t,rfl⟩
 ·exact ⟨t,rfl⟩
theorem xh {kvs:List (Key×V)} {vs:List (Key×Value)} (r:KV kvs vs) {i:Nat} {k:Key} {v:V} (h:kvs[i]? = some (k,v)):∃ u,vs[i]? = some (k,u):=by
 induction r generalizing i with
 | nil=>cases h
 | @cons a b l1 l2 q t ih=>
   cases i with
   | zero=>cases h;exact ⟨b.2,by have q1:k=b.1:=q.1;show some b=_;rw [q1]⟩
   | succ j=>exact ih (i:=j) h
theorem qJ {P:Program} {w:World} {K:W.Frag} {tg:Expr} {o:Obj} {kvs:List (Key×V)} (d it:Addr) {ep:Nat} {es:Array DictEntry} (hep:o.data = .dict es ep):ia P w K tg (Itd d o kvs) [it] it (fun i h=>h.IsKeyIter it d i kvs.length ep) where
 mem:=by simp
 obj:=fun i h st b hb=>by
  have e:b=it:=by simpa using hb
  subst e
  obtain ⟨o,e,c,d⟩:=st
  exact ⟨o,e,fun v z=>by rw [d] at z;cases z⟩
 keep:=fun i h h' st k=>by
  obtain ⟨o,e,c,d⟩:=st
  exact ⟨o,k it (by simp) o e,c,d⟩
 item:=by
  intro X hP hw hK hc i pins s σ H E I hf st hg
  subst hP hw hK
  obtain ⟨hd,hi⟩:=hg
  obtain ⟨go,_,_,vs,r,od,es',ep',e1,c1,d1,r1⟩:=I.hok d _ hd
  rw [go] at e1
  cases e1
  rw [hep] at d1
  cases d1
  have hl:=Paired.length r
  obtain ⟨f0,f1,f2,f3,f4,f5⟩:=hf it (by simp)
  obtain ⟨⟨k,v⟩,hx⟩:∃ p,kvs[i]? = some p:=⟨kvs[i],List.getElem?_eq_getElem hi⟩
  obtain ⟨u,hu⟩:=xh r hx
  have st':s.heap.IsKeyIter it d i vs.length ep:=by rw [← hl];exact st
  have dm:s.heap.DictAt (bF X.prog X.w) d vs ep:=⟨o,es,go,c1,hep,r1⟩
  refine wpAny_pyNext_dict_item st' dm hu fun key h' hkey st2 sb=>?_
  have I1:Inv X pins σ H { s with heap:=h' }:=I.turned (t':=s.toks) (fun b o hb e=>(sb.2 b hb).trans e) f0 f1 f3 f4 f5
  rw [← hl] at st2
  obtain ⟨o2,e2,c2,d2⟩:=id st2
  exact ⟨key,rfl,oK (s:={ s with heap:=h' }) e2 c2 d2 (by decide) ⟨kV k,H,I1,vt hkey,⟨rfl,k,v,hx,rfl⟩,st2,fun b hb=>(hf b hb).1⟩⟩
 done:=by
  intro X hP hw hK hc i pins s σ H E I hf st hg
  subst hP hw hK
  obtain ⟨hd,hi⟩:=hg
  obtain ⟨go,_,_,vs,r,od,es',ep',e1,c1,d1,r1⟩:=I.hok d _ hd
  rw [go] at e1
  cases e1
  rw [hep] at d1
  cases d1
  have hl:=Paired.length r
  obtain ⟨f0,f1,f2,f3,f4,f5⟩:=hf it (by simp)
  have st':s.heap.IsKeyIter it d i vs.length ep:=by rw [← hl];exact st
  have dm:s.heap.DictAt (bF X.prog X.w) d vs ep:=⟨o,es,go,c1,hep,r1⟩
  exact wpAny_pyNext_dict_end (I.ok.hd hc) st' dm (List.getElem?_eq_none (by omega)) fun h' eb=>⟨rfl,I.turned (t':=s.toks) (fun b o hb e=>eb b o hb e) f0 f1 f3 f4 f5⟩
 self:=fun _ _ _ _ _ st h=>wpAny_pyIter_keyiter st h
def yN (H₀:Hp) (tl:TE):TI:=fun σ H R=>tl σ H fun x H1=>∃ d kvs,x = .ref d∧H1 d=some (.dK kvs)∧(∀ o z,H₀ d≠some (.frz o z))∧∀ o,R (Itd d o kvs) (upd H1 d (.frz o (.dK kvs)))
theorem vi {tg l:Expr} {tl:TE} (hl:PE X l tl):PI X tg l (yN X.H₀ tl):=by
 intro pins s σ H R I h
 refine thn (hl pins s σ H _ I h) fun v s1 ⟨x,H1,I1,r1,q1⟩=>?_
 obtain ⟨d,kvs,e,hd,hn,q⟩:=q1
 subst e
 cases r1
 obtain ⟨hz,hs,vs,r,o,es,ep,e1,c1,d1,r2⟩:=id (I1.hok d _ hd)
 have I2:Inv X pins σ (upd H1 d (.frz o (.dK kvs))) s1:=lX I1 hd (fun _ z=>nomatch z) (fun _ z=>nomatch z) (fun _ z=>nomatch z) hn ⟨e1,mn (I1.hok d _ hd) hd (fun _ z=>nomatch z) (fun _ z=>nomatch z)⟩
 have dm:s1.heap.DictAt (bF X.prog X.w) d vs ep:=⟨o,es,e1,c1,d1,r2⟩
 refine wpAny_pyIter_dict hs dm ?_
 have hl2:=Paired.length r
 refine ⟨s1.heap.objs.size,[s1.heap.objs.size],_,_,_,rfl,I2.kept (t':=s1.toks) fun b o e=>Heap.get?_push_of_some _ e,qJ d _ d1,⟨_,Heap.get?_push_size _ rfl,rfl,by rw [hl2];rfl⟩,fun b hb=>?_,q o⟩
 have e:b=s1.heap.objs.size:=by simpa using hb
 subst e
 exact I2.fpOk (Nat.le_refl _) (I2.hok.fresh (Nat.le_refl _))
def Af (H₀:Hp) (ts:TS):TS:=fun D σ H=>ts { D with nx:=fun σ1 H1=>∃ d o kvs,H1 d=some (.frz o (.dK kvs))∧(∀ o z,H₀ d≠some (.frz o z))∧D.nx σ1 (upd H1 d (.dK kvs)) } σ H
theorem vn {st:Stmt} {ts:TS} (h:PS X st ts):PS X st (Af X.H₀ ts):=by
 intro pins s σ H D I q
 refine thn (h pins s σ H _ I q) fun f s1 q1=>?_
 cases f with
 | next=>
   obtain ⟨σ1,H1,I1,d,o,kvs,hd,hn,q⟩:=q1
   obtain ⟨_,x2⟩:=I1.hok d _ hd
   exact ⟨σ1,_,lX I1 hd (fun _ z=>nomatch z) (fun _ z=>nomatch z) (fun _ z=>nomatch z) hn (mn x2 hd (fun _ z=>nomatch z) (fun _ z=>nomatch z)),q⟩
 | brk=>exact q1
 | cont=>exact q1
 | ret u=>exact q1
end
end L2.Ex
end
section
namespace L2.Bk
open L2.Bw
section
variable {X:Cx}
def Az (K:W.Frag):R2:=fun x y H Q=>(∃ p xs d ds,y = .ref p∧SqL K H p xs∧RKs K H ds xs∧RK K H d x∧dqs ds≤55∧Q (.bl (ds.any fun e=>e.eqb d)) H)∨rIn K false x y H Q
theorem sM {k:Nat} (hr:Room k X.A):OpR X (compareOp .In) (Az X.K):=by
 intro pins s σ H x y v u Q I rx ry h
 rcases h with ⟨p,xs,d,ds,rfl,hq,rs,rd,hd,q⟩ | h
 ·cases ry
  have hu:=hr.units
  obtain ⟨its,r,pl,hz⟩:=I.list hq
  have l1:=r.length
  have l2:=rs.length
  have eqs:∀ j (h1:j<its.toArray.size) (h2:j<ds.length),SeqAt.EqAt X.A.in1 s its.toArray[j] v (ds[j].eqb d):=fun j h1 h2=>by
   obtain ⟨x1,e1,q1⟩:=rs.get (List.getElem?_eq_getElem h2)
   have k:=cH (List.getElem_mem h2)
   exact sX I 60 (A:=X.A.in1) (by omega) q1 rd (cP r e1 h1) rx (by show X.A.units+1+60<cLine;omega)
  have cl:∀ z,Decidable (∃ j,∃ (h1:j<its.toArray.size) (h2:j<ds.length),its.toArray[j]=z∧ds[j].eqb d=true):=fun z=>Classical.propDecidable _
  refine SeqAt.in_listAt (fun z=>@decide _ (cl z)) pl.isList (fun z hz=>?_) ⟨.bl _,H,I,rfl,?_⟩
  ·rcases Classical.em (∃ j,∃ (h1:j<its.toArray.size) (h2:j<ds.length),its.toArray[j]=z∧ds[j].eqb d=true) with c | c
   ·obtain ⟨j,h1,h2,e,t⟩:=id c
    have w:=eqs j h1 h2
    rw [e,t] at w
    rw [show @decide _ (cl z)=true from @decide_eq_true _ (cl z) c]
    exact w
   ·obtain ⟨j,h1,e⟩:=Array.getElem_of_mem hz
    have h2:j<ds.length:=by simp at h1;omega
    have w:=eqs j h1 h2
    have t:ds[j].eqb d=false:=by
     cases t:ds[j].eqb d with
     | false=>rfl
     | true=>exact absurd ⟨j,h1,h2,e,t⟩ c
    rw [e,t] at w
    rw [show @decide _ (cl z)=false from @decide_eq_false _ (cl z) c]
    exact w
  ·have e:(its.toArray.any fun z=>@decide _ (cl z))=ds.any fun e=>e.eqb d:=by
    rw [Bool.eq_iff_iff,Array.any_eq_true,List.any_eq_true]
    constructor
    ·rintro ⟨i,hi,t⟩
     obtain ⟨j,h1,h2,e,t⟩:=@of_decide_eq_true _ (cl _) t
     exact ⟨ds[j],List.getElem_mem h2,t⟩
    ·rintro ⟨e,he,t⟩
     obtain ⟨j,h2,rfl⟩:=List.getElem_of_mem he
     have h1:j<its.toArray.size:=by simp;omega
     exact ⟨j,h1,@decide_eq_true _ (cl _) ⟨j,h1,h2,rfl,t⟩⟩
   rw [e]
   exact q
 ·exact eF pins s σ H x y v u Q I rx ry h
end
end L2.Bk
end
section
namespace L2.K34
open L2.Bw L2.Bk L2.Ex
def top (i:Nat):Stmt:=PySem.Challenge.pw_blamewise_k34_names_and_depths.main.body.getD i (.Pass ⟨0,0,0,0⟩)
def gu (s:Stmt) (j:Nat):Stmt:=match s with
 | .ClassDef _ _ _ body _ _ _ _ _ _ _=>body.getD j (.Pass ⟨0,0,0,0⟩)
 | _=>.Pass ⟨0,0,0,0⟩
structure Tx (mg:Str→Option Value):Prop where
 len:mg "len" = none
 isinstance:mg "isinstance" = none
 list:mg "list" = none
 tuple:mg "tuple" = none
 int:mg "int" = none
 bool:mg "bool" = none
 str:mg "str" = none
 range:mg "range" = none
 zip:mg "zip" = none
 max:mg "max" = none
 enumerate:mg "enumerate" = none
 dict:mg "dict" = none
theorem at0 {v:V} {us:List V}:atI (v :: us) 0=some v:=aH (j:=0) rfl
theorem at1 {u v:V} {us:List V}:atI (u :: v :: us) 1=some v:=aH (j:=1) rfl
theorem at2 {a b v:V} {us:List V}:atI (a :: b :: v :: us) 2=some v:=aH (j:=2) rfl
theorem at3 {a b c v:V} {us:List V}:atI (a :: b :: c :: v :: us) 3=some v:=aH (j:=3) rfl
section
variable {P:Program} {w:World} {K:W.Frag} {mg:Str→Option Value} {base:Heap} {f:Addr} {fd:FuncData}
abbrev sKi:Stmt:=top 11
def qF (K:W.Frag):Sp:=fun vs H Q _=>∃ (v:V) (h:Str) (ds:List Dk),vs = [v]∧RK K H (.tup (.str h :: ds)) v ∧
 ∀ (r:Addr) (us:List V) (H':Hp),Old H H'→H r=none→H' r=some (.lst us)→RKs K H' ds us→Q (.ref r) H'
theorem AE:aA ["kind"] ["kind"] (au sKi):=⟨rfl,rfl,rfl,by nofun,rfl,by nofun,by nofun⟩
theorem zm {n:Nat} (F:Fun K "kinds_in" "kinds_in" sKi f fd) (T:Tx mg):aY P w K mg base CX0 (n+1) f fd ["kind"] (qF K):=by
 refine F.ok AE (fun vs H Q E h=>?_) (fun cdv A outer s H vs Q E hr h=>?_)
 ·obtain ⟨v,h,ds,rfl,_⟩:=h
  rfl
 obtain ⟨v,h,ds,rfl,rv,q⟩:=h
 obtain ⟨a,us,rfl,ha,ru⟩:=RK.kind rv
 refine' ⟨_,?n0,?Z⟩
 case' n0=>refine' ah (ar ?N2)
 case' N2=>refine' bw (dL) rfl T.list boot_list ?N3
 case' N3=>refine' pa ?N4 ae
 case' N4=>refine' iM x8 (pv 0) ?N5 kM
 case N5=>exact kN ac
 refine ⟨_,rfl,_,rfl,vD ha.sq fun p hp=>?_⟩
 have o1:Old H (upd H p (.tup us)):=Old.new hp
 refine ⟨p,us,rfl,.inr (SqT.of ad),fun l hl=>?_⟩
 have o2:Old (upd H p (.tup us)) (upd (upd H p (.tup us)) l (.lst us)):=Old.new hl
 exact q l us _ (o1.trans o2) (o1.free hl) ad (ru.mono (o1.trans o2).tm)
abbrev nM:Stmt:=top 10
def hJ (K:W.Frag):Sp:=fun vs H Q _=>∃ (v:V) (h:Str) (n:Nat) (ds:List Dk),vs = [v]∧RK K H (.tup (.str h :: ds)) v∧bO h=some n∧∀ c,(∀ H':Hp,SqT K H' c ((aJ h).map V.str))→(∃ o,K.lookup c=some o∧o.cls = .type "tuple"∧o.dict=none)→Q (.ref c) H
theorem vz:aA ["kind"] ["kind"] (au nM):=⟨rfl,rfl,rfl,by nofun,rfl,by nofun,by nofun⟩
theorem sK {m:Nat} {fa:Addr} (F:Fun K "steps" "steps" nM f fd) (ES:mg "STEPS" = some (.ref fa)) (EQ:KTD.tabLook (jG K) (fun b=>K.lookup b) fa fB=true):aY P w K mg base CX0 (m+1) f fd ["kind"] (hJ K):=by
 refine F.ok vz (fun vs H Q E h=>?_) (fun cdv A outer s H vs Q E hr h=>?_)
 ·obtain ⟨v,h,n,ds,rfl,_⟩:=h
  rfl
 obtain ⟨v,h,n,ds,rfl,rv,ear,q⟩:=h
 obtain ⟨xa,us,rfl,ha,ru⟩:=RK.kind rv
 refine' ⟨_,?n0,?Z⟩
 case' n0=>refine' ah (ar ?N2)
 case' N2=>refine' vh rfl ES EQ ?N3 (fun _ _=>rfl)
 case N3=>exact aG az (pv 0) ac (fun _ _=>rfl)
 exact ⟨_,rfl,.inr (.inl ⟨xa,_,0,.str h,rfl,rfl,ha.sq,(by exact aH (j:=0) rfl),rfl,h,aJ h,rfl,(jT h (iz ear)).1,fun c hc ho=>q c hc ho⟩)⟩
abbrev sWk:Stmt:=top 12
def yl (K:W.Frag):Sp:=fun vs H Q _=>∃ (v:V) (c:Addr) (h:Str) (ds es:List Dk) (ws:List V),vs = [v,.ref c]∧RK K H (.tup (.str h :: ds)) v∧H c=some (.lst ws)∧RKs K H es ws∧es.length≤900 ∧
 ∀ (v':V) (H':Hp),Old H H'→RK K H' (.tup (.str h :: es)) v'→Q v' H'
theorem AG:aA ["kind","some"] ["kind","some"] (au sWk):=⟨rfl,rfl,rfl,by nofun,rfl,by nofun,by nofun⟩
theorem zo {n:Nat} (F:Fun K "with_kinds" "with_kinds" sWk f fd) (T:Tx mg):aY P w K mg base CX0 (n+1) f fd ["kind","some"] (yl K):=by
 refine F.ok AG (fun vs H Q E h=>?_) (fun cdv A outer s H vs Q E hr h=>?_)
 ·obtain ⟨v,c,h,ds,es,ws,rfl,_⟩:=h
  rfl
 obtain ⟨v,c,h,ds,es,ws,rfl,rv,hc,rs,hz,q⟩:=h
 obtain ⟨a,us,rfl,ha,ru⟩:=RK.kind rv
 have ls:=rs.length
 refine' ⟨_,?n0,?Z⟩
 case' n0=>refine' ah (ar ?N2)
 case' N2=>refine' am a9 ?N3 (bw (bV) rfl T.tuple boot_tuple (pa (pv 1) ae))
 case' N3=>refine' ap ?N4
 case' N4=>refine' pa ?N5 ae
 case N5=>exact aG az (pv 0) ac (fun _ _=>rfl)
 refine ⟨_,rfl,.inr (.inl ⟨a,_,0,.str h,rfl,rfl,ha.sq,(by exact aH (j:=0) rfl),sz 1,fun p hp=>?_⟩)⟩
 have o1:Old H (upd H p (.tup [.str h])):=Old.new hp
 refine ⟨_,rfl,c,ws,rfl,.inl ⟨SqL.of (o1 _ _ hc),fun p2 hp2=>?_⟩⟩
 have o2:Old (upd H p (.tup [.str h])) (upd (upd H p (.tup [.str h])) p2 (.tup ws)):=Old.new hp2
 refine .inr (wM (qS (ds:=[.str h]) (es:=es) (.of (o2 _ _ ad)) (.of ad) (.cons (.s _) .nil) (rs.mono (o1.trans o2).tm) (by simp) (by simp;omega) fun c' H' o3 r3=>?_))
 exact q _ _ ((o1.trans o2).trans o3) r3
abbrev tq:Stmt:=top 21
def nQ (K:W.Frag):Sp:=fun vs H Q _=>∃ (x:Str),vs = [.str x]∧x∈K11.words∧∀ c,SqT K H c ((K11.form x).map V.str)→Q (.ref c) H
theorem x5:aA ["word"] ["word"] (au tq):=⟨rfl,rfl,rfl,by nofun,rfl,by nofun,by nofun⟩
theorem uS {m:Nat} {fa:Addr} (F:Fun K "form" "form" tq f fd) (ER:mg "FORMS" = some (.ref fa)) (EO:KTD.tabLook (gC K) (fun b=>K.lookup b) fa K11.table=true):aY P w K mg base CX0 (m+1) f fd ["word"] (nQ K):=by
 refine F.ok x5 (fun vs H Q E h=>?_) (fun cdv A outer s H vs Q E hr h=>?_)
 ·obtain ⟨x,rfl,_⟩:=h
  rfl
 obtain ⟨x,rfl,hx,q⟩:=h
 refine' ⟨_,?n0,?Z⟩
 case' n0=>refine' ah (ar ?N2)
 case N2=>exact xM rfl ER EO (pv 0) (fun _ _=>rfl)
 exact ⟨_,rfl,rfl,x,K11.form x,rfl,(K11.form_of x hx).1,q⟩
abbrev iP:Stmt:=top 22
def eI (K:W.Frag):Sp:=fun vs H Q _=>∃ (a:Addr) (x:Str) (us:List V) (so:Str),vs = [.ref a,.str so]∧Tp K H a (.str x :: us)∧x∈K11.words ∧
 ∀ (r:Addr) (H':Hp),Old H H'→H r=none→H' r=some (.lst ((K11.ixs so 2 (K11.form x)).map V.int))→Q (.ref r) H'
theorem jQ:aA ["tree","sort"] ["tree","sort"] (au iP):=⟨rfl,rfl,rfl,by nofun,rfl,by nofun,by nofun⟩
theorem iB (so:Str):∀ (ss:List Str) (k:Nat) (y:Str),K11.ixs so k (ss ++ [y])=K11.ixs so k ss ++ (if y=so then [((k+ss.length:Nat):Int)] else [])
 | [],k,y=>by show (if y=so then _ else _)=_;split <;> rfl
 | z :: r,k,y=>by
   show (if z=so then (k:Int) :: K11.ixs so (k+1) (r ++ [y]) else K11.ixs so (k+1) (r ++ [y]))=(if z=so then (k:Int) :: K11.ixs so (k+1) r else K11.ixs so (k+1) r) ++ _
   rw [iB so r (k+1) y]
   have e:k+1+r.length=k+(z :: r).length:=by simp;omega
   rw [e]
   split <;> rfl
theorem oR (so:Str):∀ (ss:List Str) (k:Nat),(K11.ixs so k ss).length≤ss.length
 | [],_=>Nat.le_refl _
 | z :: r,k=>by
   have:=oR so r (k+1)
   show (if z=so then (k:Int) :: K11.ixs so (k+1) r else K11.ixs so (k+1) r).length≤r.length+1
   split
   ·simp;omega
   ·omega
theorem mZ {m:Nat} (F:Fun K "indexes" "indexes" iP f fd) (T:Tx mg) (Ge:Cal P w K mg base "form" ["word"] 1 (nQ K)):aY P w K mg base CX0 (m+2) f fd ["tree","sort"] (eI K):=by
 refine F.ok jQ (fun vs H Q E h=>?_) (fun cdv A outer s H vs Q E hr h=>?_)
 ·obtain ⟨a,x,us,so,rfl,_⟩:=h
  rfl
 obtain ⟨a,x,us,so,rfl,ha,hx,q⟩:=h
 have nd:=jQ.nd
 obtain ⟨f1,f2,_⟩:=K11.form_of x hx
 refine' ⟨_,?n0,?Z⟩
 case' n0=>refine' ah (ar ?N2)
 case' N2=>refine' iL (g:=wU K 2 (lU (aX 0) (lU (aX 1) wT))) (tt:=pL (tOp (vq K) (bW 1) (bW 3))) (te:=bW 0) (k:=2) (N:=["index","found","tree","sort"]) (dW rfl rfl rfl rfl rfl rfl) rfl ?N3 (fun _ _ _ _=>?N4) (fun _ _ _ _=>?N5) (fun _ _ _ _=>?N6)
 case' N3=>refine' vj rfl T.enumerate ?N7 ?N8
 case' N7=>refine' pa ?N9 ae
 case' N9=>refine' ao Ge hr ?Na
 case' Na=>refine' pa ?Nb ae
 case Nb=>exact aG az (pv 0) ac (fun _ _=>rfl)
 case N8=>exact pr ac sS
 case N4=>
  refine' iN rfl ?Nc
  case' Nc=>refine' bQ ?Nd ?Ne
  case Nd=>exact aV (i:=0) (by show List.Nodup (["index","found","tree","sort"]:List Str);decide +kernel) rfl (Or.inl rfl)
  case' Ne=>refine' bQ ?Nf fu
  first | case Nf=>exact aV (i:=1) (by show List.Nodup (["index","found","tree","sort"]:List Str);decide +kernel) rfl (Or.inl rfl) | case Ne=>exact aV (i:=1) (by show List.Nodup (["index","found","tree","sort"]:List Str);decide +kernel) rfl (Or.inl rfl)
 case N5=>exact gY (ak (show OpR _ _ (vq K) from ax hr) (pv 1) (pv 3) (aq _))
 case N6=>exact pv 0
 refine ⟨_,rfl,.inr (.inl ⟨a,_,0,.str x,rfl,rfl,ha.sq,at0,x,rfl,hx,fun c hc=>⟨c,_,2,rfl,rfl,by nofun,hc,fun D hD=>?_⟩⟩)⟩
 have same2:∀ {H':Hp},Old H H'→SqT K H' c ((K11.form x).map V.str):=fun {H'} g=>by
  rcases hc with (h | ⟨o,h⟩) | h
  ·exact .inl (.inl (g _ _ h))
  ·exact .inl (.inr ⟨o,g _ _ h⟩)
  ·exact .inr h
 have lenf:((K11.form x).map V.str).length=(K11.form x).length:=List.length_map _
 have neD:∀ b o,H b=some o→b≠D:=fun b o e=>al e hD
 refine md (n:=(K11.form x).length) (fun i σ H2=>∃ (k1 k2:Option V),σ = [k1,k2,some (.ref a),some (.str so)]∧Old H H2∧H2 D=some (.lst ((K11.ixs so 2 ((K11.form x).take i)).map V.int))) ⟨none,none,rfl,fun b o e=>by rw [aj (neD b o e)];exact e,ad⟩ ?_ ?_ ?_ ?_
 ·intro i σ H2 hi hv
  obtain ⟨k1,k2,rfl,g,hD2⟩:=hv
  exact ⟨_,.str (K11.form x)[i],same2 g,by rw [List.getElem?_map,List.getElem?_eq_getElem hi];rfl⟩
 ·intro σ H2 hv
  obtain ⟨k1,k2,rfl,g,hD2⟩:=hv
  exact ⟨_,same2 g,by rw [lenf];exact Nat.le_refl _⟩
 ·intro i σ H2 hi hv v H3 hy
  obtain ⟨k1,k2,rfl,g,hD2⟩:=hv
  obtain ⟨t,y,rfl,ht,rfl,hyx⟩:=hy
  have ey:y = .str (K11.form x)[i]:=by
   have:=hyx _ (same2 g)
   rw [List.getElem?_map,List.getElem?_eq_getElem hi] at this
   exact (Option.some.inj this).symm
  subst ey
  have ntD:D≠t:=al hD2 ht
  refine ⟨t,_,rfl,SqT.of ad,rfl,_,_,rfl,_,_,rfl,rfl,?_⟩
  refine ⟨_,rfl,_,rfl,.inr (.inl ⟨rfl,_,rfl,?_⟩)⟩
  rw [ba]
  have g3:∀ b o,H b=some o→upd H2 t (.tup [.int (2+(i:Int)),.str (K11.form x)[i]]) b=some o:=fun b o e=>by rw [aj (al (g b o e) ht)];exact g b o e
  have hD3:upd H2 t (.tup [.int (2+(i:Int)),.str (K11.form x)[i]]) D=some (.lst ((K11.ixs so 2 ((K11.form x).take i)).map V.int)):=by rw [aj ntD];exact hD2
  have tk:(K11.form x).take (i+1)=(K11.form x).take i ++ [(K11.form x)[i]]:=cu hi
  have lt:((K11.form x).take i).length=i:=by rw [List.length_take];omega
  refine qi (fun cc=>?_) (fun cc=>?_)
  ·have c':(K11.form x)[i]=so:=of_decide_eq_true cc
   refine ⟨_,rfl,_,hD3,?_,nx hi ⟨_,_,rfl,fun b o e=>by rw [aj (neD b o e)];exact g3 b o e,?_⟩⟩
   ·have:=oR so ((K11.form x).take i) 2
    rw [List.length_map]
    exact bA (by rw [List.length_take] at this;omega)
   ·rw [ad,tk,iB,if_pos c',List.map_append,lt]
    have e2:(2:Int)+(i:Int)=((2+i:Nat):Int):=by omega
    rw [e2]
    rfl
  ·have c':¬ (K11.form x)[i]=so:=of_decide_eq_false (Bool.eq_false_iff.mpr cc)
   refine nx hi ⟨_,_,rfl,g3,?_⟩
   rw [hD3,tk,iB,if_neg c',List.append_nil]
 ·intro σ H2 hv
  obtain ⟨k1,k2,rfl,g,hD2⟩:=hv
  rw [List.take_length] at hD2
  exact q D H2 g hD hD2
abbrev nI:Stmt:=top 23
def g9 (K:W.Frag):Sp:=fun vs H Q _=>∃ (v:V) (t:Tn),vs = [v]∧RK K H t.d v∧t.wf ∧
 ∀ (r:Addr) (us:List V) (H':Hp),Old H H'→H r=none→H' r=some (.lst us)→RKs K H' (Tn.ds t.ps) us→Q (.ref r) H'
theorem pD:aA ["tree"] ["tree"] (au nI):=⟨rfl,rfl,rfl,by nofun,rfl,by nofun,by nofun⟩
theorem gZ {lo n i:Nat} (h:i<n):(K11.rng lo n)[i]? = some ((lo+i:Nat):Int):=by
 unfold K11.rng
 rw [List.getElem?_map,List.getElem?_range' h]
 simp
theorem pA (lo n:Nat):(K11.rng lo n).length=n:=by unfold K11.rng;simp
theorem sx:K11.nf "row" = 0:=by nofun
theorem sy:K11.nk "row" = 1:=by nofun
theorem sI {m:Nat} (F:Fun K "parts" "parts" nI f fd) (T:Tx mg) (A5:Cal P w K mg base "indexes" ["tree","sort"] 2 (eI K)):aY P w K mg base CX0 (m+3) f fd ["tree"] (g9 K):=by
 refine F.ok pD (fun vs H Q E h=>?_) (fun cdv A outer s H vs Q E hr h=>?_)
 ·obtain ⟨v,t,rfl,_⟩:=h
  rfl
 obtain ⟨v,t,rfl,rv,wt,q⟩:=h
 have nd:=pD.nd
 obtain ⟨x,p,fr,mid,ps⟩:=t
 obtain ⟨⟨hx,lf,lm,lp,few,_⟩,_⟩:=wt
 obtain ⟨a,uf,um,up,rfl,ha,rf,rm,rp⟩:=RK.node rv
 have l1:=rf.length
 have l2:=rm.length
 refine' ⟨_,?n0,?Z⟩
 case' n0=>refine' ag (aC ?N3 ?N4 aw) ?N2
 case' N3=>refine' ak (ax hr) ?N5 ai (aq _)
 case N5=>exact aG az (pv 0) ac (fun _ _=>rfl)
 case' N4=>refine' ah (ar ?N7)
 case' N7=>refine' bw (dL) rfl T.list boot_list ?N8
 case' N8=>refine' pa ?N9 ae
 case N9=>exact aG az (pv 0) ac (fun _ _=>rfl)
 case' N2=>refine' ah (ar ?Nb)
 case' Nb=>refine' iL (te:=tOp (rIx K) (bW 1) (bW 0)) (k:=1) (N:=["index","tree"]) (dW rfl rfl rfl rfl rfl rfl) rfl ?Nc (fun _ _ _ _=>?Nd) (fun _ _ _ _=>?Ne) (fun _ _ _ _=>?Nf)
 case Nc=>exact dl (ao A5 hr (pa (pv 0) (pa ai ae)))
 case Nd=>exact aV (i:=0) (by show List.Nodup (["index","tree"]:List Str);decide +kernel) rfl (Or.inl rfl)
 case Ne=>exact cZ
 case Nf=>exact aG az (pv 1) (pv 0) (fun _ _=>rfl)
 refine ⟨_,rfl,.inr (.inl ⟨a,_,0,.str x,rfl,rfl,ha.sq,at0,.inr (.inl ⟨rfl,_,rfl,?_⟩)⟩)⟩
 rw [ba]
 by_cases cr:x = "row"
 ·rw [decide_eq_true cr]
  refine br ?_
  rw [if_pos cr] at rp
  rw [cr,sx] at lf
  rw [cr,sy] at lm
  obtain ⟨pv,e0,rfl,rpv,e1⟩:=rp
  have e1':e0 = []:=e1
  subst e1'
  obtain rfl:uf = []:=List.length_eq_zero_iff.mp (l1.symm.trans lf)
  obtain ⟨k0,rfl⟩:∃ k0,um = [k0]:=List.length_eq_one_iff.mp (l2.symm.trans lm)
  obtain ⟨b,us,rfl,hb,rus⟩:=RK.get rpv
  refine ⟨_,rfl,.inr (.inl ⟨a,_,3,.ref b,rfl,rfl,ha.sq,at3,b,us,rfl,.inr hb.sq,fun l hl=>?_⟩)⟩
  have o:Old H (upd H l (.lst us)):=Old.new hl
  exact q l us _ o hl ad (rus.mono o.tm)
 ·rw [decide_eq_false cr]
  refine bf ?_
  rw [if_neg cr] at rp
  have l3:=rp.length
  rw [bq] at l3
  have lp':=lp cr
  refine ⟨_,rfl,a,x,_,"node",rfl,ha,hx,fun r H1 o1 hr0 hr1=>⟨r,rfl,.inl ⟨⟨_,SqL.of hr1⟩,fun D hD=>?_⟩⟩⟩
  rw [(K11.form_of x hx).2.2.1 cr] at hr1
  have lo0:([V.str x,V.int p] ++ uf ++ um).length=2+K11.nf x+K11.nk x:=by
   rw [List.length_append,List.length_append,← l1,← l2,lf,lm]
   rfl
  have ln:up.length=K11.np x:=by rw [← l3];exact lp'
  have e1:V.str x :: V.int p :: (uf ++ um ++ up)=([V.str x,V.int p] ++ uf ++ um) ++ up:=by simp
  have lu5:up.length≤5:=by rw [← l3];exact few
  clear lp' l3 lf lm l1 l2 lp
  generalize 2+K11.nf x+K11.nk x=lo at hr1 lo0
  generalize K11.np x=n at hr1 ln
  rw [e1] at ha
  generalize [V.str x,V.int p] ++ uf ++ um=pre at ha lo0
  have neD:∀ b o,H1 b=some o→b≠D:=fun b o e=>al e hD
  have lr:((K11.rng lo n).map V.int).length=n:=by rw [List.length_map,pA]
  refine d7 (n:=n) (fun i σ H2=>∃ (k1:Option V),σ = [k1,some (.ref a)]∧Old H1 H2∧H2 D=some (.lst (up.take i))) ⟨none,rfl,Old.new hD,ad⟩ ?_ ?_ ?_ ?_
  ·intro i σ H2 hi hv
   obtain ⟨k1,rfl,o2,hD2⟩:=hv
   exact ⟨_,_,SqL.of (o2 _ _ hr1),by rw [List.getElem?_map,gZ hi];rfl⟩
  ·intro σ H2 hv
   obtain ⟨k1,rfl,o2,hD2⟩:=hv
   exact ⟨_,SqL.of (o2 _ _ hr1),by rw [lr];exact Nat.le_refl _⟩
  ·intro i σ H2 hi hv y H3 hy
   obtain ⟨k1,rfl,o2,hD2⟩:=hv
   obtain ⟨e1,hyx⟩:=hy
   subst e1
   have ey:=hyx _ (SqL.of (o2 _ _ hr1))
   rw [List.getElem?_map,gZ hi] at ey
   cases ey
   have iu:i<up.length:=by omega
   have eu:(pre ++ up)[lo+i]? = some up[i]:=by
    rw [List.getElem?_append_right (by omega),lo0,show lo+i - lo=i by omega,List.getElem?_eq_getElem iu]
   have ha3:=(ha.mono (o1.trans o2).tm).sq
   refine ⟨_,rfl,_,rfl,.inr (.inl ⟨a,_,_,up[i],rfl,rfl,ha3,aH eu,?_⟩)⟩
   refine ⟨_,hD2,bA (by rw [List.length_take];omega),nx hi ⟨_,rfl,fun b o e=>by rw [aj (neD b o e)];exact o2 b o e,?_⟩⟩
   rw [ad,cu iu]
  ·intro σ H2 hv
   obtain ⟨k1,rfl,o2,hD2⟩:=hv
   rw [List.take_of_length_le (by omega)] at hD2
   exact q D up H2 (o1.trans o2) (o1.free hD) hD2 (rp.mono (o1.trans o2).tm)
abbrev sWr:Stmt:=top 24
def AO:Tn→List Dk | .mk _ _ _ mid _=>mid
def ym (K:W.Frag):Sp:=fun vs H Q _=>∃ (v:V) (t:Tn),vs = [v]∧RK K H t.d v∧t.wf∧t.w≠"look" ∧
 ∀ (r:Addr) (us:List V) (H':Hp),Old H H'→H r=none→H' r=some (.lst us)→RKs K H' (AO t) us→Q (.ref r) H'
theorem z9:aA ["tree"] ["tree"] (au sWr):=⟨rfl,rfl,rfl,by nofun,rfl,by nofun,by nofun⟩
theorem yV:∀ x∈K11.words,K11.nk x≤5:=by nofun
theorem zl {m:Nat} (F:Fun K "written" "written" sWr f fd) (T:Tx mg) (A5:Cal P w K mg base "indexes" ["tree","sort"] 2 (eI K)):aY P w K mg base CX0 (m+3) f fd ["tree"] (ym K):=by
 refine F.ok z9 (fun vs H Q E h=>?_) (fun cdv A outer s H vs Q E hr h=>?_)
 ·obtain ⟨v,t,rfl,_⟩:=h
  rfl
 obtain ⟨v,t,rfl,rv,wt,nl,q⟩:=h
 have nd:=z9.nd
 obtain ⟨x,p,fr,mid,ps⟩:=t
 obtain ⟨⟨hx,lf,lm,_⟩,_⟩:=wt
 obtain ⟨a,uf,um,up,rfl,ha,rf,rm,rp⟩:=RK.node rv
 have l1:=rf.length
 have l2:=rm.length
 refine' ⟨_,?n0,?Z⟩
 case' n0=>refine' ah (ar ?N2)
 case' N2=>refine' iL (te:=tOp (rIx K) (bW 1) (bW 0)) (k:=1) (N:=["index","tree"]) (dW rfl rfl rfl rfl rfl rfl) rfl ?N3 (fun _ _ _ _=>?N4) (fun _ _ _ _=>?N5) (fun _ _ _ _=>?N6)
 case N3=>exact dl (ao A5 hr (pa (pv 0) (pa ai ae)))
 case N4=>exact aV (i:=0) (by show List.Nodup (["index","tree"]:List Str);decide +kernel) rfl (Or.inl rfl)
 case N5=>exact cZ
 case N6=>exact aG az (pv 1) (pv 0) (fun _ _=>rfl)
 refine ⟨_,rfl,a,x,_,"kind",rfl,ha,hx,fun r H1 o1 hr0 hr1=>⟨r,rfl,.inl ⟨⟨_,SqL.of hr1⟩,fun D hD=>?_⟩⟩⟩
 rw [(K11.form_of x hx).2.2.2.1 nl] at hr1
 have lo0:([V.str x,V.int p] ++ uf).length=2+K11.nf x:=by
  rw [List.length_append,← l1,lf]
  rfl
 have ln:um.length=K11.nk x:=by rw [← l2];exact lm
 have lu5:um.length≤5:=by rw [ln];exact yV x hx
 have e1:V.str x :: V.int p :: (uf ++ um ++ up)=([V.str x,V.int p] ++ uf) ++ (um ++ up):=by simp
 clear l1 l2
 generalize 2+K11.nf x=lo at hr1 lo0
 generalize K11.nk x=n at hr1 ln
 rw [e1] at ha
 generalize [V.str x,V.int p] ++ uf=pre at ha lo0
 have neD:∀ b o,H1 b=some o→b≠D:=fun b o e=>al e hD
 have lr:((K11.rng lo n).map V.int).length=n:=by rw [List.length_map,pA]
 refine d7 (n:=n) (fun i σ H2=>∃ (k1:Option V),σ = [k1,some (.ref a)]∧Old H1 H2∧H2 D=some (.lst (um.take i))) ⟨none,rfl,Old.new hD,ad⟩ ?_ ?_ ?_ ?_
 ·intro i σ H2 hi hv
  obtain ⟨k1,rfl,o2,hD2⟩:=hv
  exact ⟨_,_,SqL.of (o2 _ _ hr1),by rw [List.getElem?_map,gZ hi];rfl⟩
 ·intro σ H2 hv
  obtain ⟨k1,rfl,o2,hD2⟩:=hv
  exact ⟨_,SqL.of (o2 _ _ hr1),by rw [lr];exact Nat.le_refl _⟩
 ·intro i σ H2 hi hv y H3 hy
  obtain ⟨k1,rfl,o2,hD2⟩:=hv
  obtain ⟨e1,hyx⟩:=hy
  subst e1
  have ey:=hyx _ (SqL.of (o2 _ _ hr1))
  rw [List.getElem?_map,gZ hi] at ey
  cases ey
  have iu:i<um.length:=by omega
  have eu:(pre ++ (um ++ up))[lo+i]? = some um[i]:=by
   rw [List.getElem?_append_right (by omega),lo0,show lo+i - lo=i by omega,List.getElem?_append_left iu,List.getElem?_eq_getElem iu]
  have ha3:=(ha.mono (o1.trans o2).tm).sq
  refine ⟨_,rfl,_,rfl,.inr (.inl ⟨a,_,_,um[i],rfl,rfl,ha3,aH eu,?_⟩)⟩
  refine ⟨_,hD2,bA (by rw [List.length_take];omega),nx hi ⟨_,rfl,fun b o e=>by rw [aj (neD b o e)];exact o2 b o e,?_⟩⟩
  rw [ad,cu iu]
 ·intro σ H2 hv
  obtain ⟨k1,rfl,o2,hD2⟩:=hv
  rw [List.take_of_length_le (by omega)] at hD2
  exact q D um H2 (o1.trans o2) (o1.free hD) hD2 (rm.mono (o1.trans o2).tm)
theorem pw {h:Str} {ks:List Kn} {us:List V} (e:bO h=some ks.length) (l:ks.length=us.length):(decide (h = "?") && us.isEmpty)=decide (h = "?"):=by
 by_cases c:h = "?"
 ·subst c
  have:=ox e
  have:us = []:=List.length_eq_zero_iff.mp (by omega)
  subst this
  rfl
 ·rw [decide_eq_false c,Bool.false_and]
abbrev nH:Stmt:=top 13
def eG (K:W.Frag) (m:Nat):Sp:=fun vs H Q _=>∃ (v:V) (t:Kn),vs = [v]∧RK K H t.d v∧t.ok∧t.dep<m∧∀ (H':Hp),Old H H'→Q (.int ((t.dep:Nat):Int)) H'
theorem pC:aA ["kind"] ["kind"] (au nH):=⟨rfl,rfl,rfl,by nofun,rfl,by nofun,by nofun⟩
theorem sE {m:Nat} (F:Fun K "depth" "depth" nH f fd) (T:Tx mg) (AT:Cal P w K mg base "kinds_in" ["kind"] 1 (qF K)) (Cv:Cal P w K mg base "depth" ["kind"] (m+1) (eG K m)):aY P w K mg base CX0 (m+2) f fd ["kind"] (eG K (m+1)):=by
 refine F.ok pC (fun vs H Q E h=>?_) (fun cdv A outer s H vs Q E hr h=>?_)
 ·obtain ⟨v,t,rfl,_⟩:=h
  rfl
 obtain ⟨v,t,rfl,rv,hok,hns,q⟩:=h
 have nd:=pC.nd
 obtain ⟨h,ks⟩:=t
 obtain ⟨few,hoks⟩:=hok
 have rv':RK K H (.tup (.str h :: Kn.ds ks)) v:=rv
 have hns':1+Kn.deps ks<m+1:=hns
 refine' ⟨_,?n0,?Z⟩
 case' n0=>refine' ah (ar ?N2)
 case' N2=>refine' am a9 ac ?N3
 case' N3=>refine' xK rfl rfl T.max ?N4 ?N5
 case' N4=>refine' pa ?N6 ae
 case' N6=>refine' iL (k:=1) (N:=["inner","kind"]) (dW rfl rfl rfl rfl rfl rfl) rfl ?N7 (fun _ _ _ _=>?N8) (fun _ _ _ _=>?N9) (fun _ _ _ _=>?Na)
 case N7=>exact dl (ao AT hr (pa (pv 0) ae))
 case N8=>exact aV (i:=0) (by show List.Nodup (["inner","kind"]:List Str);decide +kernel) rfl (Or.inl rfl)
 case N9=>exact cZ
 case Na=>exact ao Cv hr (pa (pv 0) ae)
 case N5=>exact pr ac sS
 refine ⟨_,rfl,v,h,Kn.ds ks,rfl,rv',fun r us H1 o1 hr0 hr1 rus=>⟨r,rfl,.inl ⟨⟨_,SqL.of hr1⟩,fun D hD=>?_⟩⟩⟩
 have lus:=rus.length
 rw [aZ] at lus
 have neD:∀ b o,H1 b=some o→b≠D:=fun b o e=>al e hD
 refine d7 (n:=ks.length) (fun i σ H2=>∃ k1:Option V,σ = [k1,some v]∧Old H1 H2∧H2 D=some (.lst (((ks.take i).map (fun t=>((t.dep:Nat):Int))).map V.int))) ⟨none,rfl,Old.new hD,by rw [ad];rfl⟩ ?_ ?_ ?_ ?_
 ·intro i σ H2 hi hv
  obtain ⟨k1,rfl,g,hD2⟩:=hv
  obtain ⟨u,hu⟩:∃ u,us[i]? = some u:=⟨_,List.getElem?_eq_getElem (by omega)⟩
  exact ⟨_,u,SqL.of (g _ _ hr1),hu⟩
 ·intro σ H2 hv
  obtain ⟨k1,rfl,g,hD2⟩:=hv
  exact ⟨_,SqL.of (g _ _ hr1),by omega⟩
 ·intro i σ H2 hi hv y H3 hy
  obtain ⟨k1,rfl,g,hD2⟩:=hv
  obtain ⟨e1,hyx⟩:=hy
  subst e1
  have eu:us[i]? = some y:=hyx _ (SqL.of (g _ _ hr1))
  obtain ⟨d,ed,rd⟩:=rus.getV eu
  rw [de hi] at ed
  cases ed
  refine ⟨_,rfl,y,ks[i],rfl,rd.mono g.tm,gR hi hoks,Nat.lt_of_le_of_lt (dB hi) (by omega),fun H4 o4=>⟨_,o4 _ _ hD2,?_,nx hi ⟨_,rfl,fun b o e=>by rw [aj (neD b o e)];exact o4 _ _ (g b o e),?_⟩⟩⟩
  ·refine bA ?_
   rw [List.length_map,List.length_map,List.length_take]
   omega
  ·rw [ad,cu hi,List.map_append,List.map_append]
   rfl
 ·intro σ H2 hv
  obtain ⟨k1,rfl,g,hD2⟩:=hv
  rw [List.take_length] at hD2
  refine ⟨D,_,0,rfl,rfl,SqL.of hD2,yG ?_⟩
  rw [pY]
  have k:=q H2 (o1.trans g)
  have e:((Kn.dep (Kn.mk h ks):Nat):Int)=1+((Kn.deps ks:Nat):Int):=by
   show ((1+Kn.deps ks:Nat):Int)=_
   omega
  rw [e] at k
  exact k
abbrev tu:Stmt:=top 18
def eT (K:W.Frag) (m:Nat):Sp:=fun vs H Q _=>∃ (x y:V) (a b:Kn),vs = [x,y]∧RK K H a.d x∧RK K H b.d y∧a.ok∧b.ok∧a.dep<m∧∀ (v:V) (H':Hp),Old H H'→RK K H' (a.join b).d v→Q v H'
theorem tK:aA ["kind","other"] ["kind","other"] (au tu):=⟨rfl,rfl,rfl,by nofun,rfl,by nofun,by nofun⟩
theorem uU {m:Nat} {ua:Addr} (F:Fun K "join" "join" tu f fd) (T:Tx mg) (AW:mg "UNTOLD" = some (.ref ua)) (AX:Kt K ua [.str "?"]) (AT:Cal P w K mg base "kinds_in" ["kind"] 1 (qF K)) (BG:Cal P w K mg base "with_kinds" ["kind","some"] 1 (yl K)) (BY:Cal P w K mg base "join" ["kind","other"] (m+1) (eT K m)) :
 aY P w K mg base CX0 (m+2) f fd ["kind","other"] (eT K (m+1)):=by
 refine F.ok tK (fun vs H Q E h=>?_) (fun cdv A outer s H vs Q E hr h=>?_)
 ·obtain ⟨x,y,a,b,rfl,_⟩:=h
  rfl
 obtain ⟨x,y,a,b,rfl,rx,ry,oka,okb,hm,q⟩:=h
 have nd:=tK.nd
 obtain ⟨h,ks⟩:=a
 obtain ⟨g,ls⟩:=b
 have rx':RK K H (.tup (.str h :: Kn.ds ks)) x:=rx
 have ry':RK K H (.tup (.str g :: Kn.ds ls)) y:=ry
 obtain ⟨xa,us,rfl,ha,ru⟩:=RK.kind rx'
 obtain ⟨xb,ws,rfl,hb,rw'⟩:=RK.kind ry'
 have hm':1+Kn.deps ks<m+1:=hm
 obtain ⟨fa,okas⟩:=oka
 obtain ⟨fb,okbs⟩:=okb
 refine' ⟨_,?n0,?Z⟩
 case' n0=>refine' ag (aC ?N3 ?N4 aw) ?N2
 case' N3=>refine' ak (iI hr) ?N5 ?N6 (aq _)
 case N5=>exact aG az (pv 0) ac (fun _ _=>rfl)
 case N6=>exact aG az (pv 1) ac (fun _ _=>rfl)
 case' N4=>refine' ah ?N7
 case N7=>exact ar (bM rfl AW)
 case' N2=>refine' ah (ar ?N9)
 case' N9=>refine' ao BG hr ?Na
 case' Na=>refine' pa (pv 0) ?Nb
 case' Nb=>refine' pa ?Nc ae
 case' Nc=>refine' iL (g:=wU K 2 (lU (aX 0) (lU (aX 1) wT))) (k:=2) (N:=["inner","beside","kind","other"]) (dW rfl rfl rfl rfl rfl rfl) rfl ?Nd (fun _ _ _ _=>?Ne) (fun _ _ _ _=>?Nf) (fun _ _ _ _=>?Ng)
 case Nd=>exact xO rfl T.zip (pa (ao AT hr (pa (pv 0) ae)) (pa (ao AT hr (pa (pv 1) ae)) ae))
 case Ne=>
  refine' iN rfl ?Nh
  case' Nh=>refine' bQ ?Ni ?Nj
  case Ni=>exact aV (i:=0) (by show List.Nodup (["inner","beside","kind","other"]:List Str);decide +kernel) rfl (Or.inl rfl)
  case' Nj=>refine' bQ ?Nk fu
  first | case Nk=>exact aV (i:=1) (by show List.Nodup (["inner","beside","kind","other"]:List Str);decide +kernel) rfl (Or.inl rfl) | case Nj=>exact aV (i:=1) (by show List.Nodup (["inner","beside","kind","other"]:List Str);decide +kernel) rfl (Or.inl rfl)
 case Nf=>exact cZ
 case Ng=>exact ao BY hr (pa (pv 0) (pa (pv 1) ae))
 refine ⟨_,rfl,.inr (.inl ⟨xa,_,0,.str h,rfl,rfl,ha.sq,(by exact aH (j:=0) rfl),_,rfl,.inr (.inl ⟨xb,_,0,.str g,rfl,rfl,hb.sq,(by exact aH (j:=0) rfl),.inr (.inl ⟨rfl,_,rfl,?_⟩)⟩)⟩)⟩
 rw [ba]
 by_cases c:h=g
 ·subst c
  rw [decide_eq_true rfl]
  refine bf ?_
  have ej:(Kn.mk h ks).join (.mk h ls) = .mk h (Kn.joins ks ls):=if_pos rfl
  rw [ej] at q
  refine ⟨_,rfl,_,rfl,_,h,Kn.ds ks,rfl,rx',fun r1 us1 H1 o1 hr1 hr1' rus1=>⟨_,rfl,_,h,Kn.ds ls,rfl,ry'.mono o1.tm,fun r2 us2 H2 o2 hr2 hr2' rus2=>⟨r1,r2,us1,us2,rfl,SqL.of (o2 _ _ hr1'),SqL.of hr2',fun D hD=>?_⟩⟩⟩
  have l1:=rus1.length
  have l2:=rus2.length
  rw [aZ] at l1 l2
  have hr1H:=o2 _ _ hr1'
  have rus1H:=rus1.mono o2.tm
  have neD:∀ b o,H2 b=some o→b≠D:=fun b o e=>al e hD
  have lj:=cJ ks ls
  refine d7 (n:=(Kn.joins ks ls).length) (fun i σ H3=>∃ (k1 k2:Option V) (zs:List V),σ = [k1,k2,some (.ref xa),some (.ref xb)]∧Old H2 H3∧H3 D=some (.lst zs)∧RKs K H3 (Kn.ds ((Kn.joins ks ls).take i)) zs) ⟨none,none,[],rfl,Old.new hD,ad,rfl⟩ ?_ ?_ ?_ ?_
  ·intro i σ H3 hi hv
   obtain ⟨k1,k2,zs,rfl,o3,hD3,rz⟩:=hv
   exact ⟨_,_,SqL.of (o3 _ _ hr1H),SqL.of (o3 _ _ hr2'),by omega,by omega⟩
  ·intro σ H3 hv
   obtain ⟨k1,k2,zs,rfl,o3,hD3,rz⟩:=hv
   exact ⟨_,_,SqL.of (o3 _ _ hr1H),SqL.of (o3 _ _ hr2'),by omega⟩
  ·intro i σ H3 hi hv v H4 hy
   obtain ⟨k1,k2,zs,rfl,o3,hD3,rz⟩:=hv
   obtain ⟨t,x,y,rfl,ht,rfl,hx,hyy⟩:=hy
   have ex:=hx _ (SqL.of (o3 _ _ hr1H))
   have ey:=hyy _ (SqL.of (o3 _ _ hr2'))
   have i1:i<ks.length:=by omega
   have i2:i<ls.length:=by omega
   obtain ⟨d1,e1,rd1⟩:=rus1H.getV ex
   obtain ⟨d2,e2,rd2⟩:=rus2.getV ey
   rw [de i1] at e1
   rw [de i2] at e2
   cases e1
   cases e2
   have o4:Old H3 (upd H3 t (.tup [x,y])):=Old.new ht
   have o34:=o3.trans o4
   have lz:=rz.length
   rw [aZ,List.length_take] at lz
   refine ⟨t,_,rfl,SqT.of ad,rfl,_,_,rfl,_,_,rfl,rfl,_,rfl,_,rfl,x,y,ks[i],ls[i],rfl,rd1.mono o34.tm,rd2.mono o34.tm,gR i1 okas,gR i2 okbs,Nat.lt_of_le_of_lt (dB i1) (by omega),fun v H5 o5 rv=>?_⟩
   have hD5:=o5 _ _ (o4 _ _ hD3)
   have tm:Tm H5 (upd H5 D (.lst (zs ++ [v]))):=fun b xs e=>by
    rw [aj]
    ·exact e
    ·intro z
     rw [z,hD5] at e
     cases e
   refine ⟨_,hD5,bA (by omega),nx hi ⟨_,_,_,rfl,fun b o e=>by rw [aj (neD b o e)];exact o5 _ _ (o34 b o e),ad,?_⟩⟩
   rw [mQ i1 i2,jt]
   exact ((rz.mono (o4.trans o5).tm).mono tm).append (.cons (rv.mono tm) .nil)
  ·intro σ H3 hv
   obtain ⟨k1,k2,zs,rfl,o3,hD3,rz⟩:=hv
   rw [List.take_length] at rz
   refine ⟨_,D,h,Kn.ds ks,Kn.ds (Kn.joins ks ls),zs,rfl,rx'.mono ((o1.trans o2).trans o3).tm,hD3,rz,by rw [aZ];omega,fun v' H' o' r'=>?_⟩
   exact q v' H' (((o1.trans o2).trans o3).trans o') r'
 ·rw [decide_eq_false c]
  refine br ?_
  have ej:(Kn.mk h ks).join (.mk g ls)=qK:=if_neg c
  rw [ej] at q
  exact q (.ref ua) H (Old.refl _) (RK.tup (.inr AX) (.cons (.s _) .nil))
abbrev iQ:Stmt:=top 17
def cM (K:W.Frag) (m:Nat):Sp:=fun vs H Q _=>∃ (x y:V) (a b:Kn),vs = [x,y]∧RK K H a.d x∧RK K H b.d y∧a.wf∧b.wf∧a.dep<m∧a.dep≤8∧∀ (v:V) (H':Hp),Old H H'→RK K H' (od (a.part b)) v→Q v H'
theorem jR:aA ["kind","other","step","inner","beside","way"] ["kind","other"] (au iQ):=⟨rfl,rfl,rfl,by nofun,rfl,by nofun,by nofun⟩
theorem m8 {m:Nat} {ua:Addr} (F:Fun K "parting" "parting" iQ f fd) (T:Tx mg) (AW:mg "UNTOLD" = some (.ref ua)) (AX:Kt K ua [.str "?"]) (Cc:Cal P w K mg base "steps" ["kind"] 1 (hJ K)) (AT:Cal P w K mg base "kinds_in" ["kind"] 1 (qF K)) (Bt:Cal P w K mg base "parting" ["kind","other"] (m+1) (cM K m)) :
 aY P w K mg base CX0 (m+2) f fd ["kind","other"] (cM K (m+1)):=by
 refine F.ok jR (fun vs H Q E h=>?_) (fun cdv A outer s H vs Q E hr h=>?_)
 ·obtain ⟨x,y,a,b,rfl,_⟩:=h
  rfl
 obtain ⟨x,y,a,b,rfl,rx,ry,wa,wb,hm,h8,q⟩:=h
 have nd:=jR.nd
 obtain ⟨h,ks⟩:=a
 obtain ⟨g,ls⟩:=b
 have rx':RK K H (.tup (.str h :: Kn.ds ks)) x:=rx
 have ry':RK K H (.tup (.str g :: Kn.ds ls)) y:=ry
 obtain ⟨xa,us,rfl,ha,ru⟩:=RK.kind rx'
 obtain ⟨xb,ws,rfl,hb,rw'⟩:=RK.kind ry'
 have hm':1+Kn.deps ks<m+1:=hm
 have h8':1+Kn.deps ks≤8:=h8
 obtain ⟨ea,wks⟩:=wa
 obtain ⟨eb,wls⟩:=wb
 have lu:=ru.length
 have lw:=rw'.length
 rw [aZ] at lu lw
 have ep:(Kn.mk h ks).part (.mk g ls)=if h = "?" then none else if g = "?" then none else if h=g then Kn.parts (aJ h) ks ls else some []:=rfl
 refine' ⟨_,?n0,?Z⟩
 case' n0=>refine' ag (aC ?N3 ?N4 aw) ?N2
 case' N3=>refine' PW.pt ?N5
 case' N5=>refine' eB (ak (ax hr) (pv 0) (bM rfl AW) (aq _)) ?N6
 case N6=>exact dR (ak (ax hr) (pv 1) (bM rfl AW) (aq _))
 case' N4=>refine' ah ?N7
 case N7=>exact ar dj
 case' N2=>refine' ag (aC ?Na ?Nb aw) ?N9
 case' Na=>refine' ak (iI hr) ?Nc ?Nd (aq _)
 case Nc=>exact aG az (pv 0) ac (fun _ _=>rfl)
 case Nd=>exact aG az (pv 1) ac (fun _ _=>rfl)
 case' Nb=>refine' ah ?Ne
 case Ne=>exact ar (ap ae)
 case' N9=>refine' ag ?Nf ?Ng
 case' Nf=>refine' cQ PassesOwn.never rfl ?Nh ?Ni ?Nj
 case Nh=>exact vk rfl T.zip (pa (ao Cc hr (pa (pv 0) ae)) (pa (ao AT hr (pa (pv 0) ae)) (pa (ao AT hr (pa (pv 1) ae)) ae)))
 case' Ni=>refine' iN rfl ?Nk
 case' Nk=>refine' bQ ?Nl ?Nm
 case Nl=>exact aV (i:=2) nd rfl (Or.inl rfl)
 case' Nm=>refine' bQ ?Nn ?No
 case Nn=>exact aV (i:=3) nd rfl (Or.inl rfl)
 case' No=>refine' bQ ?Np fu
 case Np=>exact aV (i:=4) nd rfl (Or.inl rfl)
 case' Nj=>refine' ag ?Nq ?Nr
 case Nq=>exact psX 5 nd (ao Bt hr (pa (pv 3) (pa (pv 4) ae)))
 case' Nr=>refine' ah ?Ns
 case' Ns=>refine' aC (ak gS (pv 5) dj (aq _)) ?Nt aw
 case' Nt=>refine' ah ?Nu
 case Nu=>exact ar (am a9 (ap (pa (pv 2) ae)) (pv 5))
 case' Ng=>refine' ah ?Nv
 case Nv=>exact ar dj
 refine ⟨_,rfl,.inr (.inr ⟨_,.heads ha.sq (Tp.sq (.inr AX)),_,rfl,?_⟩)⟩
 rw [pw ea lu]
 by_cases c1:h = "?"
 ·rw [decide_eq_true c1]
  rw [ep,if_pos c1] at q
  exact br (br (q .non H (Old.refl _) .n))
 rw [decide_eq_false c1]
 rw [if_neg c1] at ep
 refine bf ?_
 refine ⟨_,rfl,.inr (.inr ⟨_,.heads hb.sq (Tp.sq (.inr AX)),_,rfl,?_⟩)⟩
 rw [pw eb lw]
 by_cases c2:g = "?"
 ·rw [decide_eq_true c2]
  rw [ep,if_pos c2] at q
  exact br (q .non H (Old.refl _) .n)
 rw [decide_eq_false c2]
 rw [if_neg c2] at ep
 refine bf ?_
 refine ⟨_,rfl,.inr (.inl ⟨xa,_,0,.str h,rfl,rfl,ha.sq,(by exact aH (j:=0) rfl),_,rfl,.inr (.inl ⟨xb,_,0,.str g,rfl,rfl,hb.sq,(by exact aH (j:=0) rfl),.inr (.inl ⟨rfl,_,rfl,?_⟩)⟩)⟩)⟩
 rw [ba]
 by_cases c:h=g
 ·subst c
  rw [decide_eq_true rfl]
  refine bf ?_
  rw [if_pos rfl] at ep
  rw [ep] at q
  have el:ks.length=ls.length:=by rw [ea] at eb;exact Option.some.inj eb
  have es:=gg ea
  refine ⟨_,rfl,_,h,_,Kn.ds ks,rfl,rx',ea,fun c0 hcO hcT=>?_⟩
  refine ⟨_,rfl,_,h,Kn.ds ks,rfl,rx',fun r1 us1 H1 o1 hr1 hr1' rus1=>⟨_,rfl,_,h,Kn.ds ls,rfl,ry'.mono o1.tm,fun r2 us2 H2 o2 hr2 hr2' rus2=>⟨c0,r1,r2,_,us1,us2,rfl,hcO _,SqL.of (o2 _ _ hr1'),SqL.of hr2',?_⟩⟩⟩
  have l1:=rus1.length
  have l2:=rus2.length
  rw [aZ] at l1 l2
  have hr1H:=o2 _ _ hr1'
  have rus1H:=rus1.mono o2.tm
  have o12:=o1.trans o2
  refine eP (n:=ks.length) (fun i σ H3=>∃ (k1 k2 k3 k4:Option V),σ = [some (.ref xa),some (.ref xb),k1,k2,k3,k4]∧Old H2 H3∧Kn.parts (aJ h) ks ls=Kn.parts ((aJ h).drop i) (ks.drop i) (ls.drop i)) ⟨none,none,none,none,rfl,Old.refl _,rfl⟩ ?_ ?_ ?_ ?_
  ·intro i σ H3 hi hv
   obtain ⟨k1,k2,k3,k4,rfl,o3,e3⟩:=hv
   exact ⟨_,_,_,hcO _,SqL.of (o3 _ _ hr1H),SqL.of (o3 _ _ hr2'),by rw [List.length_map];omega,by omega,by omega⟩
  ·intro σ H3 hv
   obtain ⟨k1,k2,k3,k4,rfl,o3,e3⟩:=hv
   exact ⟨_,_,_,hcO _,SqL.of (o3 _ _ hr1H),SqL.of (o3 _ _ hr2'),by rw [List.length_map];omega⟩
  ·intro i σ H3 hi hv v H4 hy
   obtain ⟨k1,k2,k3,k4,rfl,o3,e3⟩:=hv
   obtain ⟨t,u,x,y,rfl,ht,rfl,hu,hx,hyy⟩:=hy
   have i0:i<(aJ h).length:=by omega
   have i2:i<ls.length:=by omega
   have eu:=hu _ (hcO _)
   rw [List.getElem?_map,List.getElem?_eq_getElem i0] at eu
   cases eu
   have ex:=hx _ (SqL.of (o3 _ _ hr1H))
   have ey:=hyy _ (SqL.of (o3 _ _ hr2'))
   obtain ⟨d1,e1,rd1⟩:=rus1H.getV ex
   obtain ⟨d2,e2,rd2⟩:=rus2.getV ey
   rw [de hi] at e1
   rw [de i2] at e2
   cases e1
   cases e2
   have o4:=Old.new (o:=.tup [.str (aJ h)[i],x,y]) ht
   have o34:=o3.trans o4
   have dg:=dB hi
   refine ⟨t,_,rfl,SqT.of ad,rfl,_,_,rfl,_,_,rfl,_,_,rfl,rfl,?_⟩
   refine ⟨_,rfl,_,rfl,x,y,ks[i],ls[i],rfl,rd1.mono o34.tm,rd2.mono o34.tm,hZ hi wks,hZ i2 wls,by omega,by omega,fun wv H5 o5 rv=>?_⟩
   have pd':=ni i0 hi i2
   rw [← e3] at pd'
   refine ⟨_,rfl,rfl,_,rfl,?_⟩
   cases hp:ks[i].part ls[i] with
   | none=>
     rw [hp] at rv pd'
     cases (show wv = .non by rw [od,RK] at rv;exact rv)
     exact bf ⟨_,_,_,_,rfl,o34.trans o5,pd'⟩
   | some w0=>
     rw [hp] at rv pd'
     obtain ⟨wa',wvs,rfl,hwa,rws⟩:=RK.get (show RK K H5 (.tup (w0.map Dk.str)) wv from rv)
     refine br ?_
     have lw0:=rws.length
     rw [List.length_map] at lw0
     have hmem:w0∈ks[i].ways ls[i]:=by
      have e:=jJ ks[i] ls[i]
      rw [hp] at e
      cases hw:ks[i].ways ls[i] with
      | nil=>rw [hw] at e;cases e
      | cons w1 r1=>rw [hw] at e;cases e;exact List.mem_cons_self
     have sh:=j3 _ _ _ hmem
     refine ⟨_,rfl,sz 1,fun p6 hp6=>⟨_,rfl,?_⟩⟩
     have o6:=Old.new (o:=.tup [.str (aJ h)[i]]) hp6
     refine .inr (wM (qS (ds:=[.str (aJ h)[i]]) (.of ad) (hwa.mono o6.tm) (.cons (.s _) .nil) (rws.mono o6.tm) (by simp) (by simp;omega) fun c7 H7 o7 r7=>?_))
     refine q (.ref c7) H7 ((((o12.trans o34).trans o5).trans o6).trans o7) ?_
     rw [pd']
     exact r7
  ·intro σ H3 hv
   obtain ⟨k1,k2,k3,k4,rfl,o3,e3⟩:=hv
   refine q .non H3 (o12.trans o3) ?_
   rw [e3,← es,List.drop_length,Kn.parts]
   exact .n
 ·rw [decide_eq_false c]
  refine br ?_
  rw [if_neg c] at ep
  rw [ep] at q
  refine ⟨sz 0,fun p hp=>?_⟩
  exact q (.ref p) _ (Old.new hp) (RK.tup (.of ad) .nil)
theorem kA {i:Int} (h0:0≤i) (h1:i<100000):i.natAbs.log2<1920:=by
 have a1:i.natAbs<2 ^ 17:=by omega
 by_cases z:i.natAbs=0
 ·rw [z];decide
 ·exact Nat.lt_of_lt_of_le ((Nat.log2_lt z).mpr a1) (by decide)
theorem kB {i:Int} (h0:0≤i) (h1:i<100000):(Str.ofString (toString i)).length≤8:=by
 rw [PySem.ofString_length]
 exact int_text_length_le10 (k:=7) (by decide) (by omega)
theorem cF (m:Nat) (h:m≤1000):m≤sizeLine:=Nat.le_trans h (by decide)
def fY (C:Addr):Sp:=fun vs H Q _=>∃ (p:Addr) (i:Int),vs = [.ref p,.int i]∧H p=some (XQ true p C none)∧0≤i∧i<100000∧∀ d,H d=none→d≠p→Q .non (upd (upd H p (XQ true p C (some d))) d (DO d [("place",.int i)]))
abbrev kS:Stmt:=gu (top 4) 0
theorem vw:aA ["self","place"] ["self","place"] (au kS):=⟨rfl,rfl,rfl,by nofun,rfl,by nofun,by nofun⟩
theorem sF {n:Nat} {B C fI:Addr} (F:Fun K "__init__" "TooDeep.__init__" kS f fd) (T:Tx mg) (AZ:li K B) (CK:gJ K C fI veB "ValueError.__new__") (AS:mg "BlameError" = some (.ref B)) (S:jg K C) (hf:W.findIn K (.ref C) "place" = some none):aY P w K mg base CX0 (n+1) f fd ["self","place"] (fY C):=by
 refine F.ok vw (fun vs H Q E h=>?_) (fun cdv A outer s H vs Q E hr h=>?_)
 ·obtain ⟨p,i,rfl,_⟩:=h
  rfl
 obtain ⟨p,i,rfl,hp,h0,h1,q⟩:=h
 refine' ⟨_,?n0,?Z⟩
 case' n0=>refine' ag ?N1 ?N2
 case' N1=>refine' bB ?N3
 case' N3=>refine' iK AZ CK AS rfl ?N4
 case' N4=>refine' pa (pv 0) ?N5
 case' N5=>refine' pa ?N6 ae
 case' N6=>refine' kL ?N7
 case' N7=>refine' cx ai ?N8
 case' N8=>refine' cx ?N9 ?Na
 case N9=>exact kK (pv 1)
 case Na=>exact cx ai nA
 case' N2=>refine' ah ?Nb
 case Nb=>exact dQ rfl (pv 0) (pv 1) rfl
 have lg:=kA h0 h1
 have tl2:=kB h0 h1
 have l0:Str.empty.length=0:=rfl
 have l1:(Str.ofString "a kind at place ").length=16:=by nofun
 have l2:(Str.ofString " is too deep").length=12:=by nofun
 refine ⟨_,rfl,_,rfl,?_,_,rfl,i,rfl,lg,_,rfl,?_,_,rfl,?_,?_,true,p,none,_,rfl,hp,by show 1≤sizeLine;decide,?_⟩
 ·exact cF _ (by rw [strLen_append,l0,l1];omega)
 ·exact cF _ (by rw [strLen_append,strLen_append,l0,l1];omega)
 ·exact cF _ (by rw [strLen_append,strLen_append,strLen_append,l0,l1,l2];omega)
 ·exact cF _ (by rw [strLen_append,strLen_append,strLen_append,l0,l1,l2];omega)
 exact ⟨_,rfl,_,rfl,true,p,C,rfl,S,hf,.inl ⟨hp,fun d hd ne=>q d hd ne⟩⟩
abbrev kU:Stmt:=gu (top 5) 0
def ptd (pl:Int) (kv:V) (by':Int) (wv yv:V):List (Str×V):=[("place",.int pl),("kind",kv),("by",.int by'),("wanted",wv),("way",yv)]
def kY (C:Addr):Sp:=fun vs H Q _=>∃ (p:Addr) (i j:Int) (kv wv yv:V),vs = [.ref p,.int i,kv,.int j,wv,yv]∧H p=some (XQ true p C none)∧(0≤i∧i<100000)∧(0≤j∧j<100000)∧∀ d,H d=none→d≠p→Q .non (upd (upd H p (XQ true p C (some d))) d (DO d (ptd i kv j wv yv)))
theorem vy:aA ["self","place","kind","by","wanted","way"] ["self","place","kind","by","wanted","way"] (au kU):=⟨rfl,rfl,rfl,by nofun,rfl,by nofun,by nofun⟩
theorem sH {n:Nat} {B C fI:Addr} (F:Fun K "__init__" "Parted.__init__" kU f fd) (T:Tx mg) (AZ:li K B) (C0:gJ K C fI veB "ValueError.__new__") (AS:mg "BlameError" = some (.ref B)) (S:jg K C) (f1:W.findIn K (.ref C) "place" = some none) (f2:W.findIn K (.ref C) "kind" = some none) (f3:W.findIn K (.ref C) "by" = some none) (f4:W.findIn K (.ref C) "wanted" = some none) (f5:W.findIn K (.ref C) "way" = some none):aY P w K mg base CX0 (n+1) f fd ["self","place","kind","by","wanted","way"] (kY C):=by
 refine F.ok vy (fun vs H Q E h=>?_) (fun cdv A outer s H vs Q E hr h=>?_)
 ·obtain ⟨p,i,j,kv,wv,yv,rfl,_⟩:=h
  rfl
 obtain ⟨p,i,j,kv,wv,yv,rfl,hp,⟨h0,h1⟩,⟨j0,j1⟩,q⟩:=h
 refine' ⟨_,?n0,?Z⟩
 case' n0=>refine' ag ?N1 ?N2
 case' N1=>refine' bB ?N3
 case' N3=>refine' iK AZ C0 AS rfl ?N4
 case' N4=>refine' pa (pv 0) ?N5
 case' N5=>refine' pa ?N6 ae
 case' N6=>refine' kL ?N7
 case' N7=>refine' cx ai ?N8
 case' N8=>refine' cx ?N9 ?Na
 case N9=>exact kK (pv 1)
 case' Na=>refine' cx ai ?Nb
 case' Nb=>refine' cx ?Nc ?Nd
 case Nc=>exact kK (pv 3)
 case Nd=>exact cx ai nA
 case' N2=>refine' ag ?Ne ?Nf
 case Ne=>exact dQ rfl (pv 0) (pv 1) rfl
 case' Nf=>refine' ag ?Ng ?Nh
 case Ng=>exact dQ rfl (pv 0) (pv 2) rfl
 case' Nh=>refine' ag ?Ni ?Nj
 case Ni=>exact dQ rfl (pv 0) (pv 3) rfl
 case' Nj=>refine' ag ?Nk ?Nl
 case Nk=>exact dQ rfl (pv 0) (pv 4) rfl
 case' Nl=>refine' ah ?Nm
 case Nm=>exact dQ rfl (pv 0) (pv 5) rfl
 have lg:=kA h0 h1
 have tl2:=kB h0 h1
 have lgj:=kA j0 j1
 have tlj:=kB j0 j1
 have l0:Str.empty.length=0:=rfl
 have l1:(Str.ofString "the kind at place ").length=18:=by nofun
 have l2:(Str.ofString " parts from the one that place ").length=31:=by nofun
 have l3:(Str.ofString " wants").length=6:=by nofun
 refine ⟨_,rfl,_,rfl,?_,_,rfl,i,rfl,lg,_,rfl,?_,_,rfl,?_,_,rfl,j,rfl,lgj,_,rfl,?_,_,rfl,?_,?_,true,p,none,_,rfl,hp,by show 1≤sizeLine;decide,?_⟩
 ·exact cF _ (by rw [strLen_append,l0,l1];omega)
 ·exact cF _ (by rw [strLen_append,strLen_append,l0,l1];omega)
 ·exact cF _ (by rw [strLen_append,strLen_append,strLen_append,l0,l1,l2];omega)
 ·exact cF _ (by rw [strLen_append,strLen_append,strLen_append,strLen_append,l0,l1,l2];omega)
 ·exact cF _ (by rw [strLen_append,strLen_append,strLen_append,strLen_append,strLen_append,l0,l1,l2,l3];omega)
 ·exact cF _ (by rw [strLen_append,strLen_append,strLen_append,strLen_append,strLen_append,l0,l1,l2,l3];omega)
 refine ⟨_,rfl,_,rfl,true,p,C,rfl,S,f1,.inl ⟨hp,fun d hd ne=>?_⟩⟩
 have e0:∀ {o:HO},upd (upd H p (XQ true p C (some d))) d o p=some (XQ true p C (some d)):=fun {o}=>by rw [aj (Ne.symm ne),ad]
 refine ⟨_,rfl,_,rfl,true,p,C,rfl,S,f2,.inr ⟨d,_,e0,ad,by show 1<900;decide,?_⟩⟩
 rw [hX]
 refine ⟨_,rfl,_,rfl,true,p,C,rfl,S,f3,.inr ⟨d,_,e0,ad,by show 2<900;decide,?_⟩⟩
 rw [hX]
 refine ⟨_,rfl,_,rfl,true,p,C,rfl,S,f4,.inr ⟨d,_,e0,ad,by show 3<900;decide,?_⟩⟩
 rw [hX]
 refine ⟨_,rfl,_,rfl,true,p,C,rfl,S,f5,.inr ⟨d,_,e0,ad,by show 4<900;decide,?_⟩⟩
 rw [hX]
 exact q d hd ne
abbrev kT:Stmt:=gu (top 3) 0
theorem vx:aA ["self","place"] ["self","place"] (au kT):=⟨rfl,rfl,rfl,by nofun,rfl,by nofun,by nofun⟩
theorem sG {n:Nat} {B C fI:Addr} (F:Fun K "__init__" "NoName.__init__" kT f fd) (T:Tx mg) (AZ:li K B) (CZ:gJ K C fI veB "ValueError.__new__") (AS:mg "BlameError" = some (.ref B)) (S:jg K C) (hf:W.findIn K (.ref C) "place" = some none):aY P w K mg base CX0 (n+1) f fd ["self","place"] (fY C):=by
 refine F.ok vx (fun vs H Q E h=>?_) (fun cdv A outer s H vs Q E hr h=>?_)
 ·obtain ⟨p,i,rfl,_⟩:=h
  rfl
 obtain ⟨p,i,rfl,hp,h0,h1,q⟩:=h
 refine' ⟨_,?n0,?Z⟩
 case' n0=>refine' ag ?N1 ?N2
 case' N1=>refine' bB ?N3
 case' N3=>refine' iK AZ CZ AS rfl ?N4
 case' N4=>refine' pa (pv 0) ?N5
 case' N5=>refine' pa ?N6 ae
 case' N6=>refine' kL ?N7
 case' N7=>refine' cx ai ?N8
 case' N8=>refine' cx ?N9 nA
 case N9=>exact kK (pv 1)
 case' N2=>refine' ah ?Na
 case Na=>exact dQ rfl (pv 0) (pv 1) rfl
 have lg:i.natAbs.log2<1920:=by
  have a1:i.natAbs<2 ^ 17:=by omega
  by_cases z:i.natAbs=0
  ·rw [z];decide
  ·exact Nat.lt_of_lt_of_le ((Nat.log2_lt z).mpr a1) (by decide)
 have tl:(toString i).length≤8:=int_text_length_le10 (k:=7) (by decide) (by omega)
 have tl2:(Str.ofString (toString i)).length≤8:=by rw [PySem.ofString_length];exact tl
 have sz:∀ m:Nat,m≤1000→m≤sizeLine:=fun m h=>Nat.le_trans h (by decide)
 have l0:Str.empty.length=0:=rfl
 have l1:(Str.ofString "nothing binds the name at place ").length=32:=by nofun
 refine ⟨_,rfl,_,rfl,?_,_,rfl,i,rfl,lg,_,rfl,?_,?_,true,p,none,_,rfl,hp,by show 1≤sizeLine;decide,?_⟩
 ·refine sz _ ?_
  rw [strLen_append,l0,l1]
  omega
 ·refine sz _ ?_
  rw [strLen_append,strLen_append,l0,l1]
  omega
 ·refine sz _ ?_
  rw [strLen_append,strLen_append,l0,l1]
  omega
 exact ⟨_,rfl,_,rfl,true,p,C,rfl,S,hf,.inl ⟨hp,fun d hd ne=>q d hd ne⟩⟩
theorem fg (z:Str) (ss:List Str):inV (.str z) (ss.map V.str)=decide (z∈ss):=rS z ss
theorem sw:K11.nf "name" = 1∧K11.nf "fn" = 1∧K11.nf "let" = 1∧K11.nf "self" = 2∧K11.np "name" = 0:=by nofun
theorem uo {w:Str} {ns:List Str} (i:Nat) (h:w∈eM→ns.length=K11.nf w):(bnd w ns i).length≤2:=by
 obtain ⟨n1,n2,n3,n4,_⟩:=sw
 unfold bnd
 split
 ·rename_i z
  rcases z with z | z | ⟨z,_⟩
  ·subst z;rw [h (by nofun),n2];decide
  ·subst z;rw [h (by nofun),n4];decide
  ·subst z;rw [h (by nofun),n3];decide
 ·exact Nat.zero_le _
theorem cR {tt:TT} {ta tb u:TS} {D:fJ} {σ:St} {H:Hp} (P:St→Hp→Prop) (h1:∀ R:St→Hp→Prop,(∀ σ H,P σ H→R σ H)→tZ tt ta tb { D with nx:=R } σ H) (h2:∀ σ H,P σ H→u D σ H):vO (tZ tt ta tb) u D σ H:=h1 (u D) h2
abbrev sNb:Stmt:=top 27
def yi (K:W.Frag):Sp:=fun vs H Q _=>∃ (v:V) (t:Tn) (i:Nat),vs = [v,.int i]∧RK K H t.d v∧t.wf∧∀ (v':V) (H':Hp),Old H H'→RK K H' (.tup ((bnd t.w (txs t.fr) i).map Dk.str)) v'→Q v' H'
theorem zW:aA ["tree","number","word"] ["tree","number"] (au sNb):=⟨rfl,rfl,rfl,by nofun,rfl,by nofun,by nofun⟩
theorem zn {n:Nat} (F:Fun K "names_bound" "names_bound" sNb f fd) (T:Tx mg):aY P w K mg base CX0 (n+1) f fd ["tree","number"] (yi K):=by
 refine F.ok zW (fun vs H Q E h=>?_) (fun cdv A outer s H vs Q E hr h=>?_)
 ·obtain ⟨v,t,i,rfl,_⟩:=h
  rfl
 obtain ⟨v,t,i,rfl,rv,wt,q⟩:=h
 have nd:=zW.nd
 obtain ⟨x,p,fr,mid,ps⟩:=t
 obtain ⟨⟨hx,lf,lm,lp,few,hn,_⟩,_⟩:=wt
 obtain ⟨a,uf,um,up,rfl,ha,rf,rm,rp⟩:=RK.node rv
 obtain ⟨n1,n2,n3,n4,n5⟩:=sw
 have one:∀ y,x=y→y∈eM→K11.nf y=1→∃ z:Str,fr = [.str z]∧uf = [.str z]:=fun y e hy e1=>by
  subst e
  obtain ⟨ns,rfl⟩:=hn hy
  rw [List.length_map,e1] at lf
  obtain ⟨z,rfl⟩:=List.length_eq_one_iff.mp lf
  exact ⟨z,rfl,RKs.txs rf⟩
 have two:x = "self"→∃ z y:Str,fr = [.str z,.str y]∧uf = [.str z,.str y]:=fun e=>by
  subst e
  obtain ⟨ns,rfl⟩:=hn (by nofun)
  rw [List.length_map,n4] at lf
  match ns,lf,rf with
  | [z,y],_,rf=>exact ⟨z,y,rfl,RKs.txs rf⟩
 refine' ⟨_,?n0,?Z⟩
 case' n0=>refine' ag ?N1 ?N2
 case' N1=>refine' psX 2 nd ?N3
 case N3=>exact aG az (pv 0) ac (fun _ _=>rfl)
 case' N2=>refine' ag (aC (ak (ax hr) (pv 2) ai (aq _)) ?N6 aw) ?N5
 case' N6=>refine' ah (ar ?N8)
 case' N8=>refine' ap ?N9
 case' N9=>refine' pa ?Na ae
 case Na=>exact aG az (pv 0) ac (fun _ _=>rfl)
 case' N5=>refine' ag (aC (ak (ax hr) (pv 2) ai (aq _)) ?Nd aw) ?Nc
 case' Nd=>refine' ah (ar ?Nf)
 case' Nf=>refine' ap ?Ng
 case' Ng=>refine' pa ?Nh ?Ni
 case Nh=>exact aG az (pv 0) ac (fun _ _=>rfl)
 case' Ni=>refine' pa ?Nj ae
 case Nj=>exact aG az (pv 0) ac (fun _ _=>rfl)
 case' Nc=>refine' ag (aC ?Nm ?Nn aw) ?Nl
 case' Nm=>refine' PW.pt ?No
 case' No=>refine' bE (ak (ax hr) (pv 2) ai (aq _)) ?Np
 case Np=>exact bC (ak (ax hr) (pv 1) ac (aq _))
 case' Nn=>refine' ah (ar ?Nr)
 case' Nr=>refine' ap ?Ns
 case' Ns=>refine' pa ?Nt ae
 case Nt=>exact aG az (pv 0) ac (fun _ _=>rfl)
 case' Nl=>refine' ah ?Nu
 case Nu=>exact ar (ap ae)
 refine ⟨_,rfl,.inr (.inl ⟨a,_,0,.str x,rfl,rfl,ha.sq,at0,?_⟩)⟩
 refine ⟨_,rfl,.inr (.inl ⟨rfl,_,rfl,?_⟩)⟩
 rw [ba]
 by_cases c1:x = "fn"
 ·rw [decide_eq_true c1]
  refine br ?_
  obtain ⟨z,rfl,rfl⟩:=one "fn" c1 (by nofun) n2
  refine ⟨_,rfl,.inr (.inl ⟨a,_,2,.str z,rfl,rfl,ha.sq,at2,sz 1,fun b hb=>?_⟩)⟩
  have o:Old H (upd H b (.tup [.str z])):=Old.new hb
  refine q (.ref b) _ o ?_
  have e:bnd x (txs [.str z]) i = [z]:=if_pos (.inl c1)
  show RK K _ (.tup ((bnd x (txs [.str z]) i).map Dk.str)) _
  rw [e]
  exact RK.tup (.of ad) (.cons (.s _) .nil)
 rw [decide_eq_false c1]
 refine bf ?_
 refine ⟨_,rfl,.inr (.inl ⟨rfl,_,rfl,?_⟩)⟩
 rw [ba]
 by_cases c2:x = "self"
 ·rw [decide_eq_true c2]
  refine br ?_
  obtain ⟨z,y,rfl,rfl⟩:=two c2
  refine ⟨_,rfl,.inr (.inl ⟨a,_,2,.str z,rfl,rfl,ha.sq,at2,_,rfl,.inr (.inl ⟨a,_,3,.str y,rfl,rfl,ha.sq,at3,sz 2,fun b hb=>?_⟩)⟩)⟩
  have o:Old H (upd H b (.tup [.str z,.str y])):=Old.new hb
  refine q (.ref b) _ o ?_
  have e:bnd x (txs [.str z,.str y]) i = [z,y]:=if_pos (.inr (.inl c2))
  show RK K _ (.tup ((bnd x (txs [.str z,.str y]) i).map Dk.str)) _
  rw [e]
  exact RK.tup (.of ad) (.cons (.s _) (.cons (.s _) .nil))
 rw [decide_eq_false c2]
 refine bf ?_
 refine ⟨_,rfl,.inr (.inl ⟨rfl,_,rfl,?_⟩)⟩
 rw [ba]
 have rest:(¬ (x = "let"∧i=1))→∀ b,H b=none→Q (.ref b) (upd H b (.tup [])):=fun h b hb=>by
  refine q (.ref b) _ (Old.new hb) ?_
  have e:bnd x (txs fr) i = []:=if_neg (fun z=>z.elim c1 fun z=>z.elim c2 h)
  show RK K _ (.tup ((bnd x (txs fr) i).map Dk.str)) _
  rw [e]
  exact RK.tup (.of ad) .nil
 by_cases c3:x = "let"
 ·rw [decide_eq_true c3]
  refine br ?_
  refine ⟨_,rfl,.inr (.inl ⟨rfl,_,rfl,?_⟩)⟩
  rw [fe,show ((i:Int) == 1)=decide ((i:Int)=1) from rfl]
  by_cases c4:i=1
  ·rw [show decide ((i:Int)=1)=true from decide_eq_true (by omega)]
   refine br ?_
   obtain ⟨z,rfl,rfl⟩:=one "let" c3 (by nofun) n3
   refine ⟨_,rfl,.inr (.inl ⟨a,_,2,.str z,rfl,rfl,ha.sq,at2,sz 1,fun b hb=>?_⟩)⟩
   have o:Old H (upd H b (.tup [.str z])):=Old.new hb
   refine q (.ref b) _ o ?_
   have e:bnd x (txs [.str z]) i = [z]:=if_pos (.inr (.inr ⟨c3,c4⟩))
   show RK K _ (.tup ((bnd x (txs [.str z]) i).map Dk.str)) _
   rw [e]
   exact RK.tup (.of ad) (.cons (.s _) .nil)
  ·rw [show decide ((i:Int)=1)=false from decide_eq_false (by omega)]
   refine bf ?_
   exact ⟨sz 0,rest (fun z=>c4 z.2)⟩
 ·rw [decide_eq_false c3]
  refine bf ?_
  exact ⟨sz 0,rest (fun z=>c3 z.1)⟩
abbrev sNB:Stmt:=top 26
def qH (K:W.Frag) (C:Addr) (m:Nat):Sp:=fun vs H Q E=>∃ (v y:V) (t:Tn) (bs:List Str),vs = [v,y]∧RK K H t.d v∧t.wf∧RK K H (.tup (bs.map Dk.str)) y∧t.dep<m∧bs.length+2 * t.dep≤900 ∧
 (t.frees bs = []→∀ H',Old H H'→Q .non H')∧(∀ p n r,t.frees bs=(p,n) :: r→∀ d H',Old H H'→H' d=some (DO d [("place",.int p)])→E (.ref C) (some d) H')
theorem zV:aA ["tree","bound","number","part"] ["tree","bound"] (au sNB):=⟨rfl,rfl,rfl,by nofun,rfl,by nofun,by nofun⟩
theorem zd {m:Nat} {C fI:Addr} {fdI:FuncData} (F:Fun K "need_bound" "need_bound" sNB f fd) (T:Tx mg) (CZ:gJ K C fI veB "ValueError.__new__") (Hn:aY P w K mg base CX0 1 fI fdI ["self","place"] (fY C)) (He:aI K fdI ["self","place"] []) (Bc:mg "NoName" = some (.ref C)) (Hq:W.keepIn K (.ref C)=true) (GK:W.mroIn K C (.type "BaseException")=some true) (G6:W.typeIn K (.ref C)=some (.type "type"))
 (A1:Cal P w K mg base "parts" ["tree"] 3 (g9 K)) (Bq:Cal P w K mg base "names_bound" ["tree","number"] 1 (yi K)) (BE:dw P w K mg base "need_bound" ["tree","bound"] (m+4) (qH K C m)):aY P w K mg base (CXF P w) (m+5) f fd ["tree","bound"] (qH K C (m+1)):=by
 refine cI F zV (fun vs H Q E h=>?_) (fun cdv A outer s H vs Q E hr h=>?_)
 ·obtain ⟨v,y,t,bs,rfl,_⟩:=h
  rfl
 obtain ⟨v,y,t,bs,rfl,rv,wt,ry,hd,hz,qn,qe⟩:=h
 have nd:=zV.nd
 obtain ⟨x,p,fr,mid,ps⟩:=t
 obtain ⟨⟨hx,lf,lm,lp,few,hn,h0,h1⟩,wps⟩:=id wt
 obtain ⟨a,uf,um,up,rfl,ha,rf,rm,rp⟩:=RK.node rv
 obtain ⟨b,us,rfl,hb,rb⟩:=RK.get ry
 cases RKs.txs rb
 obtain ⟨n1,n2,n3,n4,n5⟩:=sw
 have ef:(Tn.mk x p fr mid ps).frees bs=(if x = "name"∧(txs fr).headD "" ∉ bs then [(p,(txs fr).headD "")] else []) ++ Tn.freess x (txs fr) 0 ps bs:=rfl
 have hdd:1+Tn.deps ps<m+1:=hd
 have hzz:bs.length+2 * (1+Tn.deps ps)≤900:=hz
 have lns:x∈eM→(txs fr).length=K11.nf x:=fun h=>by
  obtain ⟨ns,rfl⟩:=hn h
  rw [fE,← lf,List.length_map]
 refine' ⟨_,?n0,?Z⟩
 case' n0=>refine' ag (aC ?N3 ?N4 aw) ?N2
 case' N3=>refine' PW.pt ?N5
 case' N5=>refine' bE ?N6 ?N7
 case' N6=>refine' ak (ax hr) ?N8 ai (aq _)
 case N8=>exact aG az (pv 0) ac (fun _ _=>rfl)
 case' N7=>refine' bC ?N9
 case' N9=>refine' ak dP ?Na (pv 1) rfl
 case Na=>exact aG az (pv 0) ac (fun _ _=>rfl)
 case' N4=>refine' ah ?Nb
 case' Nb=>refine' fV CZ Hn hr He Bc Hq GK G6 ?Nc
 case' Nc=>refine' pa ?Nd ae
 case Nd=>exact aG az (pv 0) ac (fun _ _=>rfl)
 case' N2=>refine' ah ?Ne
 case' Ne=>refine' gX rfl ?Nf ?Ng ?Nh
 case Nf=>exact fz rfl T.enumerate (pa (ao A1 hr (pa (pv 0) ae)) ae)
 case' Ng=>refine' iN rfl ?Ni
 case' Ni=>refine' bQ ?Nj ?Nk
 case Nj=>exact aV (i:=2) nd rfl (Or.inl rfl)
 case' Nk=>refine' bQ ?Nl fu
 case Nl=>exact aV (i:=3) nd rfl (Or.inl rfl)
 case' Nh=>refine' ah ?Nm
 case' Nm=>refine' bB ?Nn
 case Nn=>exact cY BE hr (pa (pv 3) (pa (am a9 (pv 1) (ao Bq hr (pa (pv 0) (pa (pv 2) ae)))) ae))
 refine cR (fun σ H1=>σ = [some (.ref a),some (.ref b),none,none]∧H1=H∧¬ (x = "name"∧(txs fr).headD "" ∉ bs)) (fun R hR=>?_) (fun σ H1 hP=>?_)
 ·refine ⟨_,rfl,.inr (.inl ⟨a,_,0,.str x,rfl,rfl,ha.sq,at0,.inr (.inl ⟨rfl,_,rfl,?_⟩)⟩)⟩
  rw [ba]
  by_cases c1:x = "name"
  ·rw [decide_eq_true c1]
   refine br ?_
   obtain ⟨ns,rfl⟩:=hn (by rw [c1];decide +kernel)
   rw [List.length_map,c1,n1] at lf
   obtain ⟨z,rfl⟩:=List.length_eq_one_iff.mp lf
   obtain rfl:=RKs.txs rf
   refine ⟨_,rfl,.inr (.inl ⟨a,_,2,.str z,rfl,rfl,ha.sq,at2,_,rfl,b,_,rfl,.inr hb.sq,rfl,eJ _,_,rfl,?_⟩)⟩
   rw [if_pos rfl,fg]
   by_cases c2:z∈bs
   ·rw [decide_eq_true c2]
    exact bf (hR _ _ ⟨rfl,rfl,fun h=>h.2 c2⟩)
   ·rw [decide_eq_false c2]
    refine br ?_
    have e1:(Tn.mk x p (List.map Dk.str [z]) mid ps).frees bs=(p,z) :: Tn.freess x (txs (List.map Dk.str [z])) 0 ps bs:=by
     rw [ef,if_pos ⟨c1,c2⟩]
     rfl
    refine ⟨_,rfl,.inr (.inl ⟨a,_,1,.int p,rfl,rfl,ha.sq,at1,sz 1,fun pe hpe=>⟨pe,p,rfl,ad,h0,h1,fun d hd ne=>⟨rfl,some d,?_,?_⟩⟩⟩)⟩
    ·rw [aj (Ne.symm ne),ad]
    ·have hd':H d=none:=by rw [aj ne] at hd;exact hd
     refine qe p z _ e1 d _ (fun c o e=>?_) ?_
     ·rw [db (al e hpe),aj (al e hd'),aj (al e hpe),aj (al e hpe)]
      exact e
     ·rw [db ne,ad]
  ·rw [decide_eq_false c1]
   exact bf (bf (hR _ _ ⟨rfl,rfl,fun h=>c1 h.1⟩))
 obtain ⟨rfl,rfl,nf0⟩:=hP
 rw [if_neg nf0,List.nil_append] at ef
 refine ⟨_,rfl,_,Tn.mk x p fr mid ps,rfl,rv,wt,fun r us H2 o2 hr0 hr2 rus=>⟨r,us,rfl,hr2,?_⟩⟩
 have lus:=rus.length
 rw [bq] at lus
 have lus':ps.length=us.length:=lus
 refine eP (n:=us.length) (fun i σ H3=>∃ (k1 k2:Option V),σ = [some (.ref a),some (.ref b),k1,k2]∧Old H2 H3∧Tn.freess x (txs fr) 0 (ps.take i) bs = [])
  ⟨none,none,rfl,Old.refl _,rfl⟩ ?_ ?_ ?_ ?_
 ·intro i σ H3 hi hv
  obtain ⟨k1,k2,rfl,o3,e3⟩:=hv
  exact ⟨_,SqL.of (o3 _ _ hr2),hi⟩
 ·intro σ H3 hv
  obtain ⟨k1,k2,rfl,o3,e3⟩:=hv
  exact ⟨_,SqL.of (o3 _ _ hr2),rfl⟩
 ·intro i σ H3 hi hv z H4 hy
  obtain ⟨k1,k2,rfl,o3,e3⟩:=hv
  obtain ⟨T4,uv,rfl,hT4,rfl,hyx⟩:=hy
  have eu:us[i]? = some uv:=hyx _ (SqL.of (o3 _ _ hr2))
  have ip:i<ps.length:=by omega
  obtain ⟨d,ed,rd⟩:=rus.getV eu
  rw [show (Tn.ds (Tn.mk x p fr mid ps).ps)[i]? = some ps[i].d from hU ip] at ed
  cases ed
  have o4:Old H3 (upd H3 T4 (.tup [.int (i:Nat),uv])):=Old.new hT4
  have oA:=(o2.trans o3).trans o4
  have bl:=uo i lns
  have dg:=jW ip
  have snoc:Tn.freess x (txs fr) 0 (ps.take (i+1)) bs=ps[i].frees (bs ++ bnd x (txs fr) i):=by
   rw [cu ip,lS,e3,List.nil_append,List.length_take,Nat.min_eq_left (by omega)]
  refine ⟨T4,_,rfl,SqT.of ad,rfl,_,_,rfl,_,_,rfl,rfl,?_⟩
  refine ⟨_,rfl,_,rfl,_,rfl,_,rfl,_,Tn.mk x p fr mid ps,i,rfl,rv.mono oA.tm,wt,fun nv H5 o5 rn=>?_⟩
  refine yH (ry.mono (oA.trans o5).tm) rn (by rw [List.length_map,List.length_map];show bs.length+(bnd x (txs fr) i).length≤1000;omega) fun bv H6 o6 rb6=>?_
  rw [← List.map_append] at rb6
  refine ⟨uv,bv,ps[i],bs ++ bnd x (txs fr) i,rfl,rd.mono ((o3.trans o4).trans (o5.trans o6)).tm,mw ip wps,rb6,by omega,by rw [List.length_append];omega,fun e H7 o7=>?_,fun pp nn rr e d H7 o7 h7=>?_⟩
  ·exact ⟨_,_,rfl,((o3.trans o4).trans (o5.trans o6)).trans o7,by rw [snoc];exact e⟩
  ·refine qe pp nn (rr ++ Tn.freess x (txs fr) (0+(ps.take (i+1)).length) (ps.drop (i+1)) bs) ?_ d H7 (oA.trans ((o5.trans o6).trans o7)) h7
   rw [ef]
   have ez:=df (ps.take (i+1)) (ps.drop (i+1)) x (txs fr) 0 bs
   rw [List.take_append_drop] at ez
   rw [ez,snoc,e]
   rfl
 ·intro σ H3 hv
  obtain ⟨k1,k2,rfl,o3,e3⟩:=hv
  rw [← lus',List.take_length] at e3
  exact qn (by rw [ef];exact e3) _ (o2.trans o3)
abbrev sNN:Stmt:=top 25
def yh (K:W.Frag) (C:Addr) (m:Nat):Sp:=fun vs H Q E=>∃ (v:V) (t:Tn),vs = [v]∧RK K H t.d v∧t.wf∧t.dep<m∧2 * t.dep≤900 ∧
 (t.frees [] = []→∀ H',Old H H'→Q .non H')∧(∀ p n r,t.frees []=(p,n) :: r→∀ d H',Old H H'→H' d=some (DO d [("place",.int p)])→E (.ref C) (some d) H')
theorem AF:aA ["tree"] ["tree"] (au sNN):=⟨rfl,rfl,rfl,by nofun,rfl,by nofun,by nofun⟩
theorem ze {m:Nat} {C:Addr} (F:Fun K "need_names" "need_names" sNN f fd) (T:Tx mg) (BE:dw P w K mg base "need_bound" ["tree","bound"] (m+4) (qH K C m)):aY P w K mg base (CXF P w) (m+5) f fd ["tree"] (yh K C m):=by
 refine cI F AF (fun vs H Q E h=>?_) (fun cdv A outer s H vs Q E hr h=>?_)
 ·obtain ⟨v,t,rfl,_⟩:=h
  rfl
 obtain ⟨v,t,rfl,rv,wt,hd,hz,qn,qe⟩:=h
 refine' ⟨_,?n0,?Z⟩
 case' n0=>refine' ah ?N1
 case' N1=>refine' bB ?N2
 case N2=>exact cY BE hr (pa (pv 0) (pa (ap ae) ae))
 refine ⟨_,rfl,sz 0,fun e he=>?_⟩
 have o1:Old H (upd H e (.tup [])):=Old.new he
 exact ⟨v,.ref e,t,[],rfl,rv.mono o1.tm,wt,RK.tup (.of ad) .nil,hd,by simpa using hz,fun z H' o'=>qn z _ (o1.trans o'),fun p n r z d H' o' h'=>qe p n r z d H' (o1.trans o') h'⟩
abbrev iR:Stmt:=top 15
def gb (K:W.Frag):Sp:=fun vs H Q _=>∃ (v:V) (t u:Kn) (z:Str),vs = [v,.str z]∧RK K H t.d v∧t.wf∧t.dep≤7∧z∈five∧la t z=some u∧∀ (v':V) (H':Hp),Old H H'→RK K H' u.d v'→Q v' H'
theorem jS:aA ["kind","step","fitting","head"] ["kind","step"] (au iR):=⟨rfl,rfl,rfl,by nofun,rfl,by nofun,by nofun⟩
theorem jx:∀ (ss:List Str) (z:Str) (m:Nat),m<ss.idxOf z→ss[m]?≠some z
 | [],z,m,h=>by simp
 | a :: ss,z,m,h=>by
   rw [List.idxOf_cons] at h
   cases b:(a == z) with
   | true=>rw [b] at h;exact absurd h (Nat.not_lt_zero _)
   | false=>
     rw [b] at h
     have ne:a≠z:=fun e=>by rw [e,beq_self_eq_true] at b;cases b
     cases m with
     | zero=>intro e;exact ne (Option.some.inj e)
     | succ m=>
       rw [List.getElem?_cons_succ]
       exact jx ss z m (Nat.lt_of_succ_lt_succ h)
theorem m9 {n:Nat} {ua fa:Addr} (F:Fun K "stepped" "stepped" iR f fd) (T:Tx mg) (AW:mg "UNTOLD" = some (.ref ua)) (AX:Kt K ua [.str "?"]) (B6:mg "ALL_STEPS" = some (.ref fa)) (B4:Kt K fa (five.map V.str)) (Cc:Cal P w K mg base "steps" ["kind"] 1 (hJ K)) (AT:Cal P w K mg base "kinds_in" ["kind"] 1 (qF K)):aY P w K mg base CX0 (n+2) f fd ["kind","step"] (gb K):=by
 refine F.ok jS (fun vs H Q E h=>?_) (fun cdv A outer s H vs Q E hr h=>?_)
 ·obtain ⟨v,t,u,z,rfl,_⟩:=h
  rfl
 obtain ⟨v,t,u0,z,rfl,rv,wt,dt,hz,eu0,q0⟩:=h
 have qs:∀ (u:Kn) (v':V) (H':Hp),la t z=some u→Old H H'→RK K H' u.d v'→Q v' H':=fun u v' H' e o r=>q0 v' H' o (by rw [eu0] at e;rw [Option.some.inj e];exact r)
 have nd:=jS.nd
 refine' ⟨_,?n0,?Z⟩
 case' n0=>refine' ag (aC ?N3 ?N4 aw) ?N2
 case' N3=>refine' PW.pt ?N5
 case' N5=>refine' bE (ak (ax hr) (pv 0) (bM rfl AW) (aq _)) ?N6
 case N6=>exact bC (ak eF (pv 1) (bM rfl B6) rfl)
 case' N4=>refine' ah ?N7
 case N7=>exact ar (bM rfl AW)
 case' N2=>refine' ag ?N8 ?N9
 case N8=>exact psX 2 nd (ao Cc hr (pa (pv 0) ae))
 case' N9=>refine' ag ?Na ?Nb
 case Na=>exact aC (ak dP (pv 1) (pv 2) rfl) qA aw
 case' Nb=>refine' ah (ar ?Nd)
 case' Nd=>refine' aG az (ao AT hr (pa (pv 0) ae)) ?Ne (fun _ _=>rfl)
 case Ne=>exact jK PySem.F.plainAttrs_tuple PySem.F.slot_tuple_index PySem.F.type_tuple_index qt (pv 2) (pa (pv 1) ae)
 obtain ⟨h,ks⟩:=t
 have wt':=wt
 obtain ⟨ear,wks⟩:=wt
 obtain ⟨xa,us,rfl,ha,ru⟩:=RK.kind (show RK K H (.tup (.str h :: Kn.ds ks)) v from rv)
 have lus:=ru.length
 rw [aZ] at lus
 have hd6:=iz ear
 have tU:Tp K H ua [.str "?"]:=.inr AX
 have tA:SqT K H fa (five.map V.str):=(show Tp K H fa (five.map V.str) from .inr B4).sq
 refine ⟨_,rfl,.inr (Ar (.heads ha.sq tU.sq) ⟨_,rfl,?_⟩)⟩
 by_cases cq:h = "?"
 ·have e0:us = []:=by
   have z0:=vS wt' cq
   have:ks = []:=by injection z0
   rw [this] at lus
   exact List.length_eq_zero_iff.mp lus.symm
  rw [e0,decide_eq_true cq]
  refine br ?_
  refine ⟨_,rfl,fa,_,rfl,.inr tA,rfl,eJ _,_,rfl,?_⟩
  rw [if_neg Bool.false_ne_true,fg,decide_eq_true hz]
  refine br ?_
  refine qs qK (.ref ua) H ?_ (Old.refl _) (RK.tup tU (.cons (.s _) .nil))
  unfold la
  exact if_pos cq
 rw [decide_eq_false cq]
 refine bf (bf ?_)
 dsimp only [pK]
 refine ⟨_,rfl,_,h,_,_,rfl,rv,ear,fun c hco ho=>?_⟩
 refine ⟨_,rfl,_,rfl,c,_,rfl,.inr (hco _),rfl,eJ _,_,rfl,?_⟩
 rw [if_pos rfl,fg]
 by_cases cz:z∈aJ h
 ·rw [decide_eq_true cz]
  refine bf ?_
  have jl:(aJ h).idxOf z<(aJ h).length:=List.idxOf_lt_length_iff.mpr cz
  have sl:=gg ear
  have jk:(aJ h).idxOf z<ks.length:=by omega
  have few:=lD ear
  refine ⟨_,rfl,_,h,_,rfl,rv,fun r us' H' o' hr' hl' ru'=>?_⟩
  obtain ⟨u,hu,rku⟩:=ru'.get (de jk)
  refine ⟨_,rfl,.inr (.inl ⟨rfl,ho⟩),_,rfl,c,aJ h,z,_,rfl,rfl,hco _,?_,?_,by omega,.inl ⟨r,us',_,u,rfl,rfl,SqL.of hl',aH hu,?_⟩⟩
  ·rw [List.getElem?_eq_getElem jl,List.getElem_idxOf]
  ·intro m hm e
   exact jx _ _ _ hm e
  ·refine qs ks[(aJ h).idxOf z] u H' ?_ o' rku
   unfold la
   exact (if_neg cq).trans ((if_pos cz).trans (List.getElem?_eq_getElem jk))
 ·rw [decide_eq_false cz]
  have e:la (.mk h ks) z=none:=by
   unfold la
   exact (if_neg cq).trans (if_neg cz)
  rw [e] at eu0
  cases eu0
abbrev tH:Stmt:=top 14
def k9 (K:W.Frag):Sp:=fun vs H Q _=>∃ (v:V) (t u:Kn) (p:Addr) (z:Str),vs = [v,.ref p]∧RK K H t.d v∧t.wf∧t.dep≤7∧Tp K H p [.str z]∧z∈five∧la t z=some u∧∀ (v':V) (H':Hp),Old H H'→RK K H' u.d v'→Q v' H'
theorem tR:aA ["kind","way","found","step"] ["kind","way"] (au tH):=⟨rfl,rfl,rfl,by nofun,rfl,by nofun,by nofun⟩
theorem u5 {n:Nat} (F:Fun K "part" "part" tH f fd) (T:Tx mg) (CO:Cal P w K mg base "stepped" ["kind","step"] 2 (gb K)):aY P w K mg base CX0 (n+3) f fd ["kind","way"] (k9 K):=by
 refine F.ok tR (fun vs H Q E h=>?_) (fun cdv A outer s H vs Q E hr h=>?_)
 ·obtain ⟨v,t,u,p,z,rfl,_⟩:=h
  rfl
 obtain ⟨v,t,u,p,z,rfl,rv,wt,dt,hp,hz,eu,q⟩:=h
 have nd:=tR.nd
 refine' ⟨_,?n0,?Z⟩
 case' n0=>refine' ag ?N1 ?N2
 case N1=>exact psX 2 nd (pv 0)
 case' N2=>refine' ag ?N3 ?N4
 case' N3=>refine' cQ PassesOwn.never rfl ?N5 ?N6 ?N7
 case N5=>exact dl (pv 1)
 case N6=>exact aV (i:=3) nd rfl (Or.inl rfl)
 case' N7=>refine' ah ?N8
 case N8=>exact psX 2 nd (ao CO hr (pa (pv 2) (pa (pv 3) ae)))
 case' N4=>refine' ah ?N9
 case N9=>exact ar (pv 2)
 refine ⟨_,rfl,?_⟩
 refine ⟨_,rfl,p,rfl,.inr ⟨⟨_,hp.sq⟩,?_⟩⟩
 refine eP (n:=1) (fun i σ H1=>∃ (k:Option V) (uv:V),σ = [some v,some (.ref p),some uv,k]∧Old H H1∧((i=0∧uv=v)∨(i=1∧RK K H1 u.d uv))) ⟨none,v,rfl,Old.refl _,.inl ⟨rfl,rfl⟩⟩ ?_ ?_ ?_ ?_
 ·intro i σ H1 hi hv
  obtain ⟨k,uv,rfl,o1,_⟩:=hv
  exact ⟨_,.str z,(hp.mono o1.tm).sq,by rw [show i=0 by omega];rfl⟩
 ·intro σ H1 hv
  obtain ⟨k,uv,rfl,o1,_⟩:=hv
  exact ⟨_,(hp.mono o1.tm).sq,Nat.le_refl _⟩
 ·intro i σ H1 hi hv y H2 hy
  obtain ⟨k,uv,rfl,o1,h1⟩:=hv
  obtain ⟨e1,hyx⟩:=hy
  subst e1
  obtain rfl:i=0:=by omega
  have ey:=hyx _ ((hp.mono o1.tm).sq)
  cases ey
  obtain ⟨_,rfl⟩ | ⟨h1,_⟩:=h1
  ·exact ⟨_,rfl,_,rfl,uv,t,u,z,rfl,rv.mono o1.tm,wt,dt,hz,eu,fun v' H' o' r'=>⟨_,v',rfl,o1.trans o',.inr ⟨rfl,r'⟩⟩⟩
  ·omega
 ·intro σ H1 hv
  obtain ⟨k,uv,rfl,o1,h1⟩:=hv
  obtain ⟨h1,_⟩ | ⟨_,r1⟩:=h1
  ·omega
  ·exact ⟨_,rfl,q uv H1 o1 r1⟩
def dSK:List (Str×Dk):=[("whole",.tup [.str "whole"]),("given",.tup [.str "whole"]),("size",.tup [.str "whole"]),("truth",.tup [.str "truth"])]
def dTO:List (Str×Dk):=[("call",.tup [.str "res"]),("at",.tup [.str "item"]),("one",.tup [.str "one"]),("two",.tup [.str "two"])]
def dND:List (Str×Dk):=[("call",.tup [.str "to",.tup [.str "?"],.tup [.str "?"]]),("at",.tup [.str "row",.tup [.str "?"]]),("size",.tup [.str "row",.tup [.str "?"]]),("one",.tup [.str "pair",.tup [.str "?"],.tup [.str "?"]]),("two",.tup [.str "pair",.tup [.str "?"],.tup [.str "?"]])]
theorem kP {H H2:Hp} {pe d:Addr} {C:Addr} {fs:List (Str×V)} (hpe:H pe=none) (hd:upd H pe (XQ true pe C none) d=none) (ne:d≠pe) (e:H2=upd (upd (upd H pe (XQ true pe C none)) pe (XQ true pe C (some d))) d (DO d fs)) :
 H2 pe=some (XQ true pe C (some d))∧Old H (del H2 pe)∧del H2 pe d=some (DO d fs):=by
 subst e
 have hd':H d=none:=by rw [aj ne] at hd;exact hd
 refine ⟨?_,fun c o e=>?_,?_⟩
 ·rw [aj (Ne.symm ne),ad]
 ·rw [db (al e hpe),aj (al e hd'),aj (al e hpe),aj (al e hpe)]
  exact e
 ·rw [db ne,ad]
abbrev sSm:Stmt:=top 39
def vH (K:W.Frag) (C:Addr):Sp:=fun vs H Q E=>∃ (nv kv av wv:V) (n a:Tn) (k wk:Kn),vs = [nv,kv,av,wv]∧RK K H n.d nv∧n.wf∧RK K H a.d av∧a.wf∧RK K H k.d kv∧RK K H wk.d wv∧k.wf∧wk.wf∧k.dep≤7 ∧
 (k.part wk=none→∀ H',Old H H'→Q .non H')∧(∀ way,k.part wk=some way→∀ d yv H',Old H H'→RK K H' (.tup (way.map Dk.str)) yv→H' d=some (DO d (ptd n.p kv a.p wv yv))→E (.ref C) (some d) H')
theorem zZ:aA ["node","kind","against","wanted","way"] ["node","kind","against","wanted"] (au sSm):=⟨rfl,rfl,rfl,by nofun,rfl,by nofun,by nofun⟩
theorem zh {n:Nat} {C fI:Addr} {fdI:FuncData} (F:Fun K "need_same" "need_same" sSm f fd) (T:Tx mg) (C0:gJ K C fI veB "ValueError.__new__") (Ho:aY P w K mg base CX0 1 fI fdI ["self","place","kind","by","wanted","way"] (kY C)) (Hf:aI K fdI ["self","place","kind","by","wanted","way"] []) (Be:mg "Parted" = some (.ref C)) (Hr:W.keepIn K (.ref C)=true) (GL:W.mroIn K C (.type "BaseException")=some true) (G7:W.typeIn K (.ref C)=some (.type "type"))
 (Bt:Cal P w K mg base "parting" ["kind","other"] 9 (cM K 8)):aY P w K mg base (CXF P w) (n+10) f fd ["node","kind","against","wanted"] (vH K C):=by
 refine cI F zZ (fun vs H Q E h=>?_) (fun cdv A outer s H vs Q E hr h=>?_)
 ·obtain ⟨nv,kv,av,wv,n,a,k,wk,rfl,_⟩:=h
  rfl
 obtain ⟨nv,kv,av,wv,n,a,k,wk,rfl,rn,wn,ra,wa,rk,rw',wk1,wk2,dk,qn,qe⟩:=h
 have nd:=zZ.nd
 obtain ⟨x,p,fr,mid,ps⟩:=n
 obtain ⟨⟨_,_,_,_,_,_,h0,h1⟩,_⟩:=wn
 obtain ⟨an,uf,um,up,rfl,han,_⟩:=RK.node rn
 obtain ⟨x',p',fr',mid',ps'⟩:=a
 obtain ⟨⟨_,_,_,_,_,_,j0,j1⟩,_⟩:=wa
 obtain ⟨aa,uf',um',up',rfl,haa,_⟩:=RK.node ra
 refine' ⟨_,?n0,?Z⟩
 case' n0=>refine' ag ?N1 ?N2
 case N1=>exact psX 4 nd (ao Bt hr (pa (pv 1) (pa (pv 3) ae)))
 case' N2=>refine' ah ?N3
 case' N3=>refine' aC (ak gS (pv 4) dj (aq _)) ?N4 aw
 case' N4=>refine' ah ?N5
 case' N5=>refine' fV C0 Ho hr Hf Be Hr GL G7 ?N6
 case' N6=>refine' pa ?N7 ?N8
 case N7=>exact aG az (pv 0) ac (fun _ _=>rfl)
 case' N8=>refine' pa (pv 1) ?N9
 case' N9=>refine' pa ?Na (pa (pv 3) (pa (pv 4) ae))
 case Na=>exact aG az (pv 2) ac (fun _ _=>rfl)
 refine ⟨_,rfl,_,rfl,kv,wv,k,wk,rfl,rk,rw',wk1,wk2,by omega,by omega,fun yv H1 o1 ry=>?_⟩
 refine ⟨_,rfl,rfl,_,rfl,?_⟩
 cases ep:k.part wk with
 | none=>
   rw [ep] at ry
   cases (show yv = .non by rw [od,RK] at ry;exact ry)
   exact bf (qn ep _ o1)
 | some way=>
   rw [ep] at ry
   have ry':RK K H1 (.tup (way.map Dk.str)) yv:=ry
   obtain ⟨ya,yvs,rfl,_,_⟩:=RK.get ry'
   refine br ?_
   refine ⟨_,rfl,.inr (.inl ⟨an,_,1,.int p,rfl,rfl,(han.mono o1.tm).sq,at1,_,rfl,_,rfl,.inr (.inl ⟨aa,_,1,.int p',rfl,rfl,(haa.mono o1.tm).sq,at1,_,rfl,_,rfl,sz 5,fun pe hpe=>⟨pe,p,p',kv,wv,.ref ya,rfl,ad,⟨h0,h1⟩,⟨j0,j1⟩,fun d hd ne=>⟨rfl,some d,?_,?_⟩⟩⟩)⟩)⟩
   ·exact (kP hpe hd ne rfl).1
   ·obtain ⟨_,o2,hd2⟩:=kP (fs:=ptd p kv p' wv (.ref ya)) hpe hd ne rfl
    exact qe way ep d (.ref ya) _ (o1.trans o2) (ry'.mono o2.tm) hd2
abbrev sN0:Stmt:=top 38
def yg (K:W.Frag) (C:Addr):Sp:=fun vs H Q E=>∃ (v kv:V) (t:Tn) (k:Kn),vs = [v,kv]∧RK K H t.d v∧t.wf∧RK K H k.d kv∧k.ok∧k.dep≤8∧(¬ 4<k.dep→∀ H',Old H H'→Q .non H')∧(4<k.dep→∀ d H',Old H H'→H' d=some (DO d [("place",.int t.p)])→E (.ref C) (some d) H')
theorem zU:aA ["tree","kind"] ["tree","kind"] (au sN0):=⟨rfl,rfl,rfl,by nofun,rfl,by nofun,by nofun⟩
theorem zc {n:Nat} {tk:Tok} {C fI:Addr} {fdI:FuncData} (F:Fun K "need_shallow" "need_shallow" sN0 f fd) (T:Tx mg) (CK:gJ K C fI veB "ValueError.__new__") (GV:aY P w K mg base CX0 1 fI fdI ["self","place"] (fY C)) (GE:aI K fdI ["self","place"] []) (A6:mg "TooDeep" = some (.ref C)) (GW:W.keepIn K (.ref C)=true) (Gd:W.mroIn K C (.type "BaseException")=some true) (Gs:W.typeIn K (.ref C)=some (.type "type"))
 (BI:mg "MOST_DEPTH" = some (.int 4 tk)) (Cv:Cal P w K mg base "depth" ["kind"] 10 (eG K 9)):aY P w K mg base (CXF P w) (n+11) f fd ["tree","kind"] (yg K C):=by
 refine cI F zU (fun vs H Q E h=>?_) (fun cdv A outer s H vs Q E hr h=>?_)
 ·obtain ⟨v,kv,t,k,rfl,_⟩:=h
  rfl
 obtain ⟨v,kv,t,k,rfl,rv,wt,rk,ok,dk,qn,qe⟩:=h
 have nd:=zU.nd
 obtain ⟨x,p,fr,mid,ps⟩:=t
 obtain ⟨⟨_,_,_,_,_,_,h0,h1⟩,_⟩:=wt
 obtain ⟨a,uf,um,up,rfl,ha,_⟩:=RK.node rv
 refine' ⟨_,?n0,?Z⟩
 case' n0=>refine' ah ?N1
 case' N1=>refine' aC ?N2 ?N3 aw
 case' N2=>refine' ak eg (ao Cv hr (pa (pv 1) ae)) ?N4 (aq _)
 case N4=>exact vg rfl BI
 case' N3=>refine' ah ?N5
 case' N5=>refine' fV CK GV hr GE A6 GW Gd Gs ?N6
 case' N6=>refine' pa ?N7 ae
 case N7=>exact aG az (pv 0) ac (fun _ _=>rfl)
 refine ⟨_,rfl,kv,k,rfl,rk,ok,by omega,fun H1 o1=>⟨_,_,rfl,rfl,_,rfl,?_⟩⟩
 refine qi (fun c=>?_) (fun c=>?_)
 ·have c':(4:Int)<(k.dep:Nat):=of_decide_eq_true c
  refine ⟨_,rfl,.inr (.inl ⟨a,_,1,.int p,rfl,rfl,(ha.mono o1.tm).sq,at1,sz 1,fun pe hpe=>⟨pe,p,rfl,ad,h0,h1,fun d hd ne=>⟨rfl,some d,?_,?_⟩⟩⟩)⟩
  ·exact (kP hpe hd ne rfl).1
  ·obtain ⟨_,o2,hd2⟩:=kP (fs:=[("place",.int p)]) hpe hd ne rfl
   exact qe (by omega) d _ (o1.trans o2) hd2
 ·have c':¬ (4:Int)<(k.dep:Nat):=of_decide_eq_false (Bool.eq_false_iff.mpr c)
  exact qn (by omega) _ o1
def gI (K:W.Frag) (H:Hp) (kvs:List (Key×V)) (e:Nv):Prop:=∀ x k,e x=some k→∃ v,cG kvs (.inr x)=some v∧RK K H k.d v
theorem gI.mono {H H':Hp} {kvs:List (Key×V)} {e:Nv} (h:gI K H kvs e) (m:Tm H H'):gI K H' kvs e:=fun x k hk=>by
 obtain ⟨v,h1,h2⟩:=h x k hk
 exact ⟨v,h1,h2.mono m⟩
theorem gI.put {H:Hp} {kvs:List (Key×V)} {e:Nv} (h:gI K H kvs e) {x:Str} {k:Kn} {v:V} (r:RK K H k.d v):gI K H (putK kvs (.inr x) v) (cX e x k):=fun y k' hk=>by
 unfold cX at hk
 rw [iZ]
 by_cases c:y=x
 ·rw [if_pos c] at hk
  cases hk
  exact ⟨v,if_pos (by rw [c]),r⟩
 ·rw [if_neg c] at hk
  obtain ⟨u,h1,h2⟩:=h y k' hk
  exact ⟨u,by rw [if_neg (fun z=>c (Sum.inr.inj z))];exact h1,h2⟩
structure Fd (K:W.Frag) (H:Hp) (fa:Addr) (g:List Kn):Prop where
 ex:∃ fvs,H fa=some (.lst fvs)∧RKs K H (Kn.ds g) fvs
theorem Fd.get {H:Hp} {fa:Addr} {g:List Kn} (h:Fd K H fa g) {i:Nat} (hi:i<g.length):∃ fvs u,SqL K H fa fvs∧fvs.length=g.length∧atI fvs (i:Int)=some u∧RK K H ((g[i]?).getD qK).d u:=by
 obtain ⟨fvs,h1,h2⟩:=h.ex
 obtain ⟨u,e,r⟩:=h2.get (de hi)
 have l:=h2.length
 rw [aZ] at l
 exact ⟨fvs,u,SqL.of h1,l.symm,aH e,by rw [List.getElem?_eq_getElem hi];exact r⟩
theorem Fd.old {H H':Hp} {fa:Addr} {g:List Kn} (h:Fd K H fa g) (o:Old H H'):Fd K H' fa g:=by
 obtain ⟨fvs,h1,h2⟩:=h.ex
 exact ⟨⟨fvs,o _ _ h1,h2.mono o.tm⟩⟩
theorem dC (g:List Kn):g.headD qK=(g[0]?).getD qK:=by cases g <;> rfl
abbrev sBW:Stmt:=top 40
def yc (K:W.Frag):Sp:=fun vs H Q _=>∃ (v:V) (t:Tk) (i:Nat) (fa b:Addr) (g:List Kn) (kvs:List (Key×V)) (e:Nv),vs = [v,.int (i:Int),.ref fa,.ref b]∧RK K H t.tn.d v∧t.tn.wf∧Fd K H fa g∧(t.w = "let"→i=1→g≠[])∧H b=some (.dK kvs)∧kvs.length≤1000∧gI K H kvs e ∧
 ∀ (r:Addr) (kvs':List (Key×V)) (H':Hp),Old H H'→H r=none→H' r=some (.dK kvs')→kvs'.length≤kvs.length+2→gI K H' kvs' (bwK t.w t.fr t.ks g i e)→Q (.ref r) H'
theorem zM:aA ["tree","number","found","bound","inner"] ["tree","number","found","bound"] (au sBW):=⟨rfl,rfl,rfl,by nofun,rfl,by nofun,by nofun⟩
theorem d9:K11.nf "fn" = 1∧K11.nk "fn" = 1∧K11.nf "self" = 2∧K11.nk "self" = 2∧K11.nf "let" = 1∧K11.nf "name" = 1∧K11.nf "do" = 1∧K11.nf "row" = 0∧K11.nk "row" = 1∧K11.nf "as" = 0∧K11.nk "as" = 1:=by nofun
theorem gh {α:Type}:∀ {l:List α},l.length=2→∃ a b,l = [a,b]
 | [a,b],_=>⟨a,b,rfl⟩
theorem y6 {n:Nat} (F:Fun K "bound_within" "bound_within" sBW f fd) (T:Tx mg):aY P w K mg base CX0 (n+1) f fd ["tree","number","found","bound"] (yc K):=by
 refine F.ok zM (fun vs H Q E h=>?_) (fun cdv A outer s H vs Q E hr h=>?_)
 ·obtain ⟨v,t,i,fa,b,g,kvs,e,rfl,_⟩:=h
  rfl
 obtain ⟨v,t,i,fa,b,g,kvs,e,rfl,rv,wt,hf,hlet,hb,lk,he,q⟩:=h
 have nd:=zM.nd
 obtain ⟨x,p,fr,ks,ps⟩:=t
 have rv':RK K H (Tn.mk x p fr (Kn.ds ks) (Tk.tns ps)).d v:=rv
 obtain ⟨⟨hx,lf,lm,_,_,hn,_⟩,_⟩:=(show (Tn.mk x p fr (Kn.ds ks) (Tk.tns ps)).wf from wt)
 obtain ⟨a,uf,um,up,rfl,ha,rf,rm,_⟩:=RK.node rv'
 rw [aZ] at lm
 obtain ⟨f1,f2,f3,f4,f5,_⟩:=d9
 have hlet':x = "let"→i=1→g≠[]:=hlet
 have q':∀ (r:Addr) (kvs':List (Key×V)) (H':Hp),Old H H'→H r=none→H' r=some (.dK kvs')→kvs'.length≤kvs.length+2→gI K H' kvs' (bwK x fr ks g i e)→Q (.ref r) H':=q
 refine' ⟨_,?n0,?Z⟩
 case' n0=>refine' ag ?N1 ?N2
 case N1=>exact psX 4 nd (bw (fO) rfl T.dict boot_dict (pa (pv 3) ae))
 case' N2=>refine' ag (aC ?N5 ?N6 ?N7) ?N4
 case' N5=>refine' ak (ax hr) ?N8 ai (aq _)
 case N8=>exact aG az (pv 0) ac (fun _ _=>rfl)
 case' N6=>refine' ah ?N9
 case' N9=>refine' cy hr.u1 (pv 4) ?Na ?Nb rfl
 case Na=>exact aG az (pv 0) ac (fun _ _=>rfl)
 case Nb=>exact aG az (pv 0) ac (fun _ _=>rfl)
 case' N7=>refine' ah ?Nc
 case' Nc=>refine' aC ?Nd ?Ne ?Nf
 case' Nd=>refine' ak (ax hr) ?Ng ai (aq _)
 case Ng=>exact aG az (pv 0) ac (fun _ _=>rfl)
 case' Ne=>refine' ag ?Nh ?Ni
 case' Nh=>refine' cy hr.u1 (pv 4) ?Nj ?Nk rfl
 case Nj=>exact aG az (pv 0) ac (fun _ _=>rfl)
 case' Nk=>refine' ap ?Nl
 case' Nl=>refine' pa ai ?Nm
 case' Nm=>refine' pa ?Nn ?No
 case Nn=>exact aG az (pv 0) ac (fun _ _=>rfl)
 case' No=>refine' pa ?Np ae
 case Np=>exact aG az (pv 0) ac (fun _ _=>rfl)
 case' Ni=>refine' ah ?Nq
 case' Nq=>refine' cy hr.u1 (pv 4) ?Nr ?Ns rfl
 case Nr=>exact aG az (pv 0) ac (fun _ _=>rfl)
 case Ns=>exact aG az (pv 0) ac (fun _ _=>rfl)
 case' Nf=>refine' ah ?Nt
 case' Nt=>refine' aC ?Nu ?Nv aw
 case' Nu=>refine' PW.pt ?Nw
 case' Nw=>refine' bE ?Nx ?Ny
 case' Nx=>refine' ak (ax hr) ?Nz ai (aq _)
 case Nz=>exact aG az (pv 0) ac (fun _ _=>rfl)
 case Ny=>exact bC (ak (ax hr) (pv 1) ac (aq _))
 case' Nv=>refine' ah ?N10
 case' N10=>refine' cy hr.u1 (pv 4) ?N11 ?N12 rfl
 case N11=>exact aG az (pv 0) ac (fun _ _=>rfl)
 case N12=>exact aG az (pv 2) ac (fun _ _=>rfl)
 case' N4=>refine' ah ?N13
 case N13=>exact ar (pv 4)
 refine ⟨_,rfl,b,kvs,rfl,hb,fun r hr0=>?_⟩
 have o1:=Old.new (o:=.dK kvs) hr0
 have hr1:upd H r (.dK kvs) r=some (.dK kvs):=ad
 generalize upd H r (.dK kvs)=H1 at o1 hr1 ⊢
 have ha1:=ha.mono o1.tm
 have he1:=he.mono o1.tm
 have tmP:∀ {kvs2:List (Key×V)} {H2:Hp},H2 r=some (.dK kvs)→Tm H2 (upd H2 r (.dK kvs2)):=fun {kvs2 H2} h=>fun c xs e=>by
  rw [aj]
  ·exact e
  ·intro z;rw [z,h] at e;cases e
 have tmP2:∀ {k1 k2:List (Key×V)},Tm H1 (upd (upd H1 r (.dK k1)) r (.dK k2)):=fun {k1 k2} c xs e=>by
  have nc:c≠r:=fun z=>by rw [z,hr1] at e;cases e
  rw [aj nc,aj nc];exact e
 have oP:∀ {o:HO},Old H (upd H1 r o):=fun {o} c y e=>by rw [aj (al e hr0)];exact o1 _ _ e
 dsimp only [aX]
 refine cR (fun σ H2=>∃ kvs2,σ = [some (.ref a),some (.int (i:Int)),some (.ref fa),some (.ref b),some (.ref r)]∧Old H H2∧H2 r=some (.dK kvs2)∧kvs2.length≤kvs.length+2∧gI K H2 kvs2 (bwK x fr ks g i e)) (fun R hR=>?_) (fun σ H2 hP=>?_)
 ·refine ⟨_,rfl,.inr (.inl ⟨a,_,0,.str x,rfl,rfl,ha1.sq,at0,.inr (.inl ⟨rfl,_,rfl,?_⟩)⟩)⟩
  rw [ba]
  by_cases c1:x = "fn"
  ·rw [decide_eq_true c1]
   obtain ⟨ns,rfl⟩:=hn (by rw [c1];decide +kernel)
   obtain rfl:=RKs.txs rf
   rw [List.length_map,c1,f1] at lf
   rw [c1,f2] at lm
   obtain ⟨nm,rfl⟩:=List.length_eq_one_iff.mp lf
   obtain ⟨k0,rfl⟩:=List.length_eq_one_iff.mp lm
   obtain ⟨kv,um',rfl,rkv,_⟩:=rm
   refine br ⟨_,rfl,.inr (.inl ⟨a,_,3,kv,rfl,rfl,ha1.sq,at3,_,rfl,_,rfl,.inr (.inl ⟨a,_,2,.str nm,rfl,rfl,ha1.sq,at2,r,_,rfl,eX.k (k:=.inr nm) hr1 (bA (by omega)),?_⟩)⟩)⟩
   have ee:bwK x ([nm].map Dk.str) [k0] g i e=cX e nm k0:=by unfold bwK;rw [if_pos c1];rfl
   refine hR _ _ ⟨_,rfl,oP,ad,Nat.le_trans (aR _ _ _) (by omega),?_⟩
   rw [ee]
   exact (he1.put (rkv.mono o1.tm)).mono (tmP hr1)
  rw [decide_eq_false c1]
  refine bf ?_
  refine ⟨_,rfl,.inr (.inl ⟨a,_,0,.str x,rfl,rfl,ha1.sq,at0,.inr (.inl ⟨rfl,_,rfl,?_⟩)⟩)⟩
  rw [ba]
  by_cases c2:x = "self"
  ·rw [decide_eq_true c2]
   obtain ⟨ns,rfl⟩:=hn (by rw [c2];decide +kernel)
   obtain rfl:=RKs.txs rf
   rw [List.length_map,c2,f3] at lf
   rw [c2,f4] at lm
   obtain ⟨nm,nm2,rfl⟩:=gh lf
   obtain ⟨k0,k1,rfl⟩:=gh lm
   obtain ⟨kv,um',rfl,rkv,rm'⟩:=rm
   obtain ⟨kv1,um'',rfl,rkv1,_⟩:=rm'
   refine br ?_
   have a4:atI (V.str x :: V.int p :: ([nm,nm2].map V.str ++ (kv :: kv1 :: um'') ++ up)) 4=some kv:=aH (j:=4) rfl
   have a5:atI (V.str x :: V.int p :: ([nm,nm2].map V.str ++ (kv :: kv1 :: um'') ++ up)) 5=some kv1:=aH (j:=5) rfl
   refine ⟨_,rfl,.inr (.inl ⟨a,_,4,kv,rfl,rfl,ha1.sq,a4,_,rfl,.inr (.inl ⟨a,_,5,kv1,rfl,rfl,ha1.sq,a5,sz 3,fun ta hta=>?_⟩)⟩)⟩
   have o2:=Old.new (o:=.tup [.str "to",kv,kv1]) hta
   have rto:RK K (upd H1 ta (.tup [.str "to",kv,kv1])) (Kn.mk "to" [k0,k1]).d (.ref ta):=RK.tup (.of ad) (.cons (.s _) (.cons ((rkv.mono o1.tm).mono o2.tm) (.cons ((rkv1.mono o1.tm).mono o2.tm) .nil)))
   have hr2:=o2 _ _ hr1
   generalize upd H1 ta (.tup [.str "to",kv,kv1])=H2 at o2 rto hr2 ⊢
   have o12:=o1.trans o2
   have ha2:=ha1.mono o2.tm
   refine ⟨_,rfl,_,rfl,.inr (.inl ⟨a,_,2,.str nm,rfl,rfl,ha2.sq,at2,r,_,rfl,eX.k (k:=.inr nm) hr2 (bA (by omega)),?_⟩)⟩
   have tm3:=tmP (kvs2:=putK kvs (.inr nm) (.ref ta)) hr2
   have e3:=(he1.mono o2.tm).put (x:=nm) rto |>.mono tm3
   have o3:Old H (upd H2 r (.dK (putK kvs (.inr nm) (.ref ta)))):=fun c y ee=>by rw [aj (al ee hr0)];exact o12 _ _ ee
   have hr3:upd H2 r (.dK (putK kvs (.inr nm) (.ref ta))) r=some (.dK (putK kvs (.inr nm) (.ref ta))):=ad
   have ha3:=ha2.mono tm3
   have rk3:=((rkv.mono o1.tm).mono o2.tm).mono tm3
   have l3:=aR kvs (.inr nm:Key) (V.ref ta)
   generalize upd H2 r (.dK (putK kvs (.inr nm) (.ref ta)))=H3 at e3 o3 hr3 ha3 rk3 ⊢
   generalize putK kvs (.inr nm) (.ref ta)=kvs3 at e3 hr3 l3
   have tm4:Tm H3 (upd H3 r (.dK (putK kvs3 (.inr nm2) kv))):=fun c xs e=>by
    rw [aj]
    ·exact e
    ·intro z;rw [z,hr3] at e;cases e
   refine ⟨_,rfl,.inr (.inl ⟨a,_,4,kv,rfl,rfl,ha3.sq,a4,_,rfl,_,rfl,.inr (.inl ⟨a,_,3,.str nm2,rfl,rfl,ha3.sq,at3,r,_,rfl,eX.k (k:=.inr nm2) hr3 (bA (by omega)),?_⟩)⟩)⟩
   have ee:bwK x ([nm,nm2].map Dk.str) [k0,k1] g i e=cX (cX e nm (.mk "to" [k0,k1])) nm2 k0:=by unfold bwK;rw [if_neg c1,if_pos c2];rfl
   refine hR _ _ ⟨_,rfl,fun c y ee=>by rw [aj (al ee hr0)];exact o3 _ _ ee,ad,Nat.le_trans (aR _ _ _) (by omega),?_⟩
   rw [ee]
   exact (e3.put (x:=nm2) rk3).mono tm4
  rw [decide_eq_false c2]
  refine bf ?_
  have keep:¬ (x = "let"∧i=1)→R [some (.ref a),some (.int (i:Int)),some (.ref fa),some (.ref b),some (.ref r)] H1:=fun z=>hR _ _ ⟨kvs,rfl,o1,hr1,by omega,by
   have ee:bwK x fr ks g i e=e:=by unfold bwK;rw [if_neg c1,if_neg c2,if_neg z]
   rw [ee];exact he1⟩
  refine ⟨_,rfl,.inr (.inl ⟨a,_,0,.str x,rfl,rfl,ha1.sq,at0,.inr (.inl ⟨rfl,_,rfl,?_⟩)⟩)⟩
  rw [ba]
  by_cases c3:x = "let"
  ·rw [decide_eq_true c3]
   refine br ⟨_,rfl,.inr (.inl ⟨rfl,_,rfl,?_⟩)⟩
   rw [fe,show ((i:Int) == 1)=decide ((i:Int)=1) from rfl]
   by_cases c4:i=1
   ·rw [decide_eq_true (show (i:Int)=1 by omega)]
    obtain ⟨ns,rfl⟩:=hn (by rw [c3];decide +kernel)
    obtain rfl:=RKs.txs rf
    rw [List.length_map,c3,f5] at lf
    obtain ⟨nm,rfl⟩:=List.length_eq_one_iff.mp lf
    have gl:0<g.length:=List.length_pos_iff.mpr (hlet' c3 c4)
    obtain ⟨fvs,u,hs,_,eu,ru⟩:=(hf.old o1).get gl
    refine br ⟨_,rfl,.inl ⟨fa,_,0,u,rfl,rfl,hs,eu,_,rfl,_,rfl,.inr (.inl ⟨a,_,2,.str nm,rfl,rfl,ha1.sq,at2,r,_,rfl,eX.k (k:=.inr nm) hr1 (bA (by omega)),?_⟩)⟩⟩
    have ee:bwK x ([nm].map Dk.str) ks g i e=cX e nm ((g[0]?).getD qK):=by unfold bwK;rw [if_neg c1,if_neg c2,if_pos ⟨c3,c4⟩,dC];rfl
    refine hR _ _ ⟨_,rfl,oP,ad,Nat.le_trans (aR _ _ _) (by omega),?_⟩
    rw [ee]
    exact (he1.put ru).mono (tmP hr1)
   ·rw [decide_eq_false (show ¬ (i:Int)=1 by omega)]
    exact bf (keep fun z=>c4 z.2)
  ·rw [decide_eq_false c3]
   exact bf (bf (keep fun z=>c3 z.1))
 obtain ⟨kvs2,rfl,o2,hr2,l2,e2⟩:=hP
 exact ⟨_,rfl,q' r kvs2 H2 o2 hr0 hr2 l2 e2⟩
theorem Fd.last {H:Hp} {fa:Addr} {g:List Kn} (h:Fd K H fa g) (hg:g≠[]):∃ fvs u,SqL K H fa fvs∧fvs.length=g.length∧atI fvs (-1)=some u∧RK K H (g.getLastD qK).d u:=by
 obtain ⟨fvs,h1,h2⟩:=h.ex
 have hl:0<g.length:=List.length_pos_iff.mpr hg
 obtain ⟨u,e,r⟩:=h2.get (de (i:=g.length - 1) (by omega))
 have l:=h2.length
 rw [aZ] at l
 refine ⟨fvs,u,SqL.of h1,l.symm,?_,?_⟩
 ·rw [show atI fvs (-1)=fvs[fvs.length - 1]? from by
   unfold atI
   rw [show ixN fvs.length (-1)=some (fvs.length - 1) from by unfold ixN;simp;omega]
   rfl,← l];exact e
 ·rw [List.getLastD_eq_getLast?,List.getLast?_eq_getElem?,List.getElem?_eq_getElem (by omega)];exact r
theorem cg {x y:Int}:decide (V.int x=V.int y)=decide (x=y):=fe
theorem tY {k:Kn} {z:Str} {i:Nat} (wf:k.wf) (h:k.hd≠"?"→z∈aJ k.hd∧(aJ k.hd).idxOf z=i):la k z=some (k.pt i):=by
 obtain ⟨g,ks⟩:=k
 show (if g = "?" then some qK else if z∈aJ g then ks[(aJ g).idxOf z]? else none)=some (if g = "?" then qK else (ks[i]?).getD qK)
 by_cases c:g = "?"
 ·rw [if_pos c,if_pos c]
 ·obtain ⟨h1,h2⟩:=h c
  rw [if_neg c,if_neg c,if_pos (show z∈aJ g from h1),show (aJ g).idxOf z=i from h2]
  have jl:(aJ g).idxOf z<(aJ g).length:=List.idxOf_lt_length_iff.mpr h1
  have sl:=gg wf.1
  have e:(aJ g).idxOf z=i:=h2
  rw [List.getElem?_eq_getElem (by omega)]
  rfl
theorem ndK (x:Str) (h:x∈dND.map (·.1)):∃ nh nks,bL x=some (.mk nh nks)∧KTD.datumAt x dND=some (Kn.mk nh nks).d:=by
 rcases List.mem_cons.mp h with rfl | h
 ·exact ⟨_,_,rfl,by kernel_rfl⟩
 rcases List.mem_cons.mp h with rfl | h
 ·exact ⟨_,_,rfl,by kernel_rfl⟩
 rcases List.mem_cons.mp h with rfl | h
 ·exact ⟨_,_,rfl,by kernel_rfl⟩
 rcases List.mem_cons.mp h with rfl | h
 ·exact ⟨_,_,rfl,by kernel_rfl⟩
 obtain rfl:=List.mem_singleton.mp h
 exact ⟨_,_,rfl,by kernel_rfl⟩
theorem ndN (x:Str) (h:x ∉ dND.map (·.1)):bL x=none:=by
 have c:∀ z∈dND.map (·.1),x≠z:=fun z hz e=>h (e ▸ hz)
 unfold bL
 rw [if_neg (c "call" (by nofun)),if_neg (fun z=>z.elim (c "at" (by nofun)) (c "size" (by nofun))),if_neg (fun z=>z.elim (c "one" (by nofun)) (c "two" (by nofun)))]
abbrev sWa:Stmt:=top 41
def yk (K:W.Frag):Sp:=fun vs H Q _=>∃ (v:V) (fa:Addr) (t:Tk) (g:List Kn),vs = [v,.ref fa]∧RK K H t.tn.d v∧t.tn.wf∧Fd K H fa g∧g≠[]∧(∀ k∈g,Kg k 4)∧(t.w = "call"→g.length=2→(g.headD qK).hd = "?"∨(g.headD qK).hd = "to")∧∀ v' H',Old H H'→RK K H' (bG t.w t.ks g).d v'→Q v' H'
theorem z8:aA ["tree","found","word"] ["tree","found"] (au sWa):=⟨rfl,rfl,rfl,by nofun,rfl,by nofun,by nofun⟩
theorem zk {n:Nat} {aN aW aT:Addr} (F:Fun K "wanted_kind" "wanted_kind" sWa f fd) (T:Tx mg) (Cg:mg "WHOLE" = some (.ref aW)) (Ce:Kt K aW [.str "whole"]) (Cf:mg "TRUTH" = some (.ref aT)) (Cd:Kt K aT [.str "truth"]) (B7:mg "NEEDED" = some (.ref aN)) (B5:KTD.tabLook (bZ K) (fun b=>K.lookup b) aN dND=true) (CN:Cal P w K mg base "part" ["kind","way"] 3 (k9 K)):aY P w K mg base CX0 (n+4) f fd ["tree","found"] (yk K):=by
 refine F.ok z8 (fun vs H Q E h=>?_) (fun cdv A outer s H vs Q E hr h=>?_)
 ·obtain ⟨v,fa,t,g,rfl,_⟩:=h
  rfl
 obtain ⟨v,fa,t,g,rfl,rv,wt,hf,gn,kg,hc,q⟩:=h
 have nd:=z8.nd
 obtain ⟨x,p,fr,ks,ps⟩:=t
 have rv':RK K H (Tn.mk x p fr (Kn.ds ks) (Tk.tns ps)).d v:=rv
 obtain ⟨⟨hx,lf,lm,_,_,hn,_⟩,_⟩:=(show (Tn.mk x p fr (Kn.ds ks) (Tk.tns ps)).wf from wt)
 obtain ⟨a,uf,um,up,rfl,ha,rf,rm,_⟩:=RK.node rv'
 have l1:=rf.length
 have l2:=rm.length
 rw [aZ] at lm
 have q':∀ v' H',Old H H'→RK K H' (bG x ks g).d v'→Q v' H':=q
 refine' ⟨_,?n0,?Z⟩
 case' n0=>refine' ag ?N1 ?N2
 case' N1=>refine' psX 2 nd ?N3
 case N3=>exact aG az (pv 0) ac (fun _ _=>rfl)
 case' N2=>refine' ag (aC ?N6 ?N7 aw) ?N5
 case' N6=>refine' PW.pt ?N8
 case' N8=>refine' eB (ak (ax hr) (pv 2) ai (aq _)) ?N9
 case' N9=>refine' dR ?Na
 case' Na=>refine' PW.pt ?Nb
 case' Nb=>refine' bE (ak (ax hr) (pv 2) ai (aq _)) ?Nc
 case Nc=>exact bC (ak (ax hr) (aM (bh) rfl T.len boot_len (pa (pv 1) ae)) ac (aq _))
 case' N7=>refine' ah ?Nd
 case Nd=>exact ar (bM rfl Cg)
 case' N5=>refine' ag (aC ?Ng ?Nh aw) ?Nf
 case' Ng=>refine' PW.pt ?Ni
 case' Ni=>refine' bE (ak (ax hr) (pv 2) ai (aq _)) ?Nj
 case Nj=>exact bC (ak (ax hr) (aM (bh) rfl T.len boot_len (pa (pv 1) ae)) ac (aq _))
 case' Nh=>refine' ah ?Nk
 case Nk=>exact ar (bM rfl Cf)
 case' Nf=>refine' ag (aC (ak eF (pv 2) (ap (pa ai (pa ai ae))) rfl) ?Nn aw) ?Nm
 case' Nn=>refine' ah (ar ?Np)
 case Np=>exact aG az (pv 0) ac (fun _ _=>rfl)
 case' Nm=>refine' ag (aC (ak (ax hr) (pv 2) ai (aq _)) ?Ns aw) ?Nr
 case' Ns=>refine' ah (ar ?Nu)
 case Nu=>exact aG az (pv 0) ac (fun _ _=>rfl)
 case' Nr=>refine' ag (aC ?Nx ?Ny aw) ?Nw
 case' Nx=>refine' PW.pt ?Nz
 case' Nz=>refine' bE (ak (ax hr) (pv 2) ai (aq _)) ?N10
 case N10=>exact bC (ak (ax hr) (aM (bh) rfl T.len boot_len (pa (pv 1) ae)) ac (aq _))
 case' Ny=>refine' ah (ar ?N12)
 case' N12=>refine' ao CN hr ?N13
 case' N13=>refine' pa ?N14 (pa (ap (pa ai ae)) ae)
 case N14=>exact aG az (pv 1) ac (fun _ _=>rfl)
 case' Nw=>refine' ag (aC ?N17 ?N18 aw) ?N16
 case' N17=>refine' PW.pt ?N19
 case' N19=>refine' bE ?N1a ?N1b
 case' N1a=>refine' kO ?N1c
 case N1c=>exact nj rfl B7 B5 (pv 2)
 case' N1b=>refine' bC ?N1d
 case' N1d=>refine' ak (iI hr) ?N1e ?N1f (aq _)
 case' N1e=>refine' aG az ?N1g ac (fun _ _=>rfl)
 case N1g=>exact aG az (pv 1) ac (fun _ _=>rfl)
 case' N1f=>refine' aG az ?N1h ac (fun _ _=>rfl)
 case N1h=>exact gW rfl B7 B5 (pv 2) (fun _ _=>rfl)
 case' N18=>refine' ah (ar ?N1j)
 case N1j=>exact gW rfl B7 B5 (pv 2) (fun _ _=>rfl)
 case' N16=>refine' ah (ar ?N1l)
 case' N1l=>refine' aG az (pv 1) ?N1m (fun _ _=>rfl)
 case N1m=>exact ww uc ac
 refine ⟨_,rfl,.inr (.inl ⟨a,_,0,.str x,rfl,rfl,ha.sq,at0,?_⟩)⟩
 obtain ⟨fvs,hfa,rfs⟩:=hf.ex
 have hs:SqL K H fa fvs:=SqL.of hfa
 have ll:=rfs.length
 rw [aZ] at ll
 have gl:0<g.length:=List.length_pos_iff.mpr gn
 have jc:decide ((fvs.length:Int)=2)=decide (g.length=2):=decide_eq_decide.mpr ⟨fun e=>by omega,fun e=>by omega⟩
 have len1:decide ((fvs.length:Int)=1)=decide (g.length=1):=decide_eq_decide.mpr ⟨fun e=>by omega,fun e=>by omega⟩
 dsimp only [aX]
 refine cR (fun σ H1=>σ = [some (.ref a),some (.ref fa),some (.str x)]∧H=H1∧¬ (x = "do"∨(x = "at"∧g.length=2))) (fun R hR=>?_) (fun σ H1 hP=>?_)
 ·have fin:(x = "do"∨(x = "at"∧g.length=2))→Q (.ref aW) H:=fun c=>q' _ _ (Old.refl _) (by
   rw [show bG x ks g=cf by unfold bG;exact if_pos c]
   exact RK.tup (.inr Ce) (.cons (.s _) .nil))
  refine ⟨_,rfl,.inr (.inl ⟨rfl,_,rfl,?_⟩)⟩
  rw [ba]
  by_cases c1:x = "do"
  ·rw [decide_eq_true c1]
   exact br (br (fin (.inl c1)))
  rw [decide_eq_false c1]
  refine bf ⟨_,rfl,.inr (.inl ⟨rfl,_,rfl,?_⟩)⟩
  rw [ba]
  by_cases c2:x = "at"
  ·rw [decide_eq_true c2]
   refine br ⟨_,rfl,.inl ⟨fa,fvs,rfl,.inl hs,.inr (.inl ⟨rfl,_,rfl,?_⟩)⟩⟩
   rw [cg,jc]
   by_cases c3:g.length=2
   ·rw [decide_eq_true c3]
    exact br (fin (.inr ⟨c2,c3⟩))
   ·rw [decide_eq_false c3]
    exact bf (hR _ _ ⟨rfl,rfl,fun z=>z.elim c1 fun z=>c3 z.2⟩)
  ·rw [decide_eq_false c2]
   exact bf (bf (hR _ _ ⟨rfl,rfl,fun z=>z.elim c1 fun z=>c2 z.1⟩))
 obtain ⟨rfl,rfl,n1⟩:=hP
 have w1:bG x ks g=bG x ks g:=rfl
 conv at w1=>rhs;unfold bG
 rw [if_neg n1] at w1
 refine cR (fun σ H1=>σ = [some (.ref a),some (.ref fa),some (.str x)]∧H=H1∧¬ (x = "if"∧g.length=1)) (fun R hR=>?_) (fun σ H1 hP=>?_)
 ·refine ⟨_,rfl,.inr (.inl ⟨rfl,_,rfl,?_⟩)⟩
  rw [ba]
  by_cases c2:x = "if"
  ·rw [decide_eq_true c2]
   refine br ⟨_,rfl,.inl ⟨fa,fvs,rfl,.inl hs,.inr (.inl ⟨rfl,_,rfl,?_⟩)⟩⟩
   rw [cg,len1]
   by_cases c3:g.length=1
   ·rw [decide_eq_true c3]
    refine br (q' _ _ (Old.refl _) ?_)
    rw [w1,if_pos ⟨c2,c3⟩]
    exact RK.tup (.inr Cd) (.cons (.s _) .nil)
   ·rw [decide_eq_false c3]
    exact bf (hR _ _ ⟨rfl,rfl,fun z=>c3 z.2⟩)
  ·rw [decide_eq_false c2]
   exact bf (bf (hR _ _ ⟨rfl,rfl,fun z=>c2 z.1⟩))
 obtain ⟨rfl,rfl,n2⟩:=hP
 rw [if_neg n2] at w1
 obtain ⟨f1,f2,f3,f4,f5,f6,f7,f8,f9,f10,f11⟩:=d9
 refine ⟨_,rfl,sz 2,fun r hr0=>⟨r,_,rfl,.inr (SqT.of ad),rfl,rfl,_,rfl,?_⟩⟩
 have o1:=Old.new (o:=.tup [.str "row",.str "as"]) hr0
 generalize upd H r (.tup [.str "row",.str "as"])=H1 at o1 ⊢
 have ha1:=ha.mono o1.tm
 have hs1:SqL K H1 fa fvs:=SqL.of (o1 _ _ hfa)
 rw [if_neg Bool.false_ne_true,show [V.str "row",V.str "as"]=(["row","as"]:List Str).map V.str from rfl,fg]
 by_cases c3:x = "row"∨x = "as"
 ·rw [decide_eq_true (show x∈(["row","as"]:List Str) from c3.elim (fun c=>c ▸ .head _) (fun c=>c ▸ .tail _ (.head _)))]
  rw [if_pos c3] at w1
  have e1:fr.length=0∧ks.length=1:=by rcases c3 with rfl | rfl <;> exact ⟨by omega,by omega⟩
  obtain rfl:uf = []:=List.length_eq_zero_iff.mp (l1.symm.trans e1.1)
  obtain ⟨k0,rfl⟩:=List.length_eq_one_iff.mp e1.2
  obtain ⟨mv,ur,rfl,rmv,_⟩:=rm
  refine br ⟨_,rfl,.inr (.inl ⟨a,_,2,mv,rfl,rfl,ha1.sq,at2,q' _ _ o1 ?_⟩)⟩
  rw [w1]
  exact rmv.mono o1.tm
 rw [decide_eq_false (show x ∉ (["row","as"]:List Str) from fun z=>by
  rcases List.mem_cons.mp z with z | z
  ·exact c3 (.inl z)
  ·exact c3 (.inr (List.mem_singleton.mp z)))]
 rw [if_neg c3] at w1
 refine bf ⟨_,rfl,.inr (.inl ⟨rfl,_,rfl,?_⟩)⟩
 rw [ba]
 by_cases c4:x = "self"
 ·rw [decide_eq_true c4]
  rw [if_pos c4] at w1
  rw [c4,f3] at lf
  rw [c4,f4] at lm
  obtain ⟨x0,x1,rfl⟩:=gh lf
  obtain ⟨k0,k1,rfl⟩:=gh lm
  obtain ⟨y0,uf',rfl,_,rf'⟩:=rf
  obtain ⟨y1,uf'',rfl,_,rf''⟩:=rf'
  obtain rfl:uf'' = []:=rf''
  obtain ⟨kv,um',rfl,rkv,rm'⟩:=rm
  obtain ⟨kv1,um'',rfl,rkv1,_⟩:=rm'
  refine br ⟨_,rfl,.inr (.inl ⟨a,_,5,kv1,rfl,rfl,ha1.sq,aH (j:=5) rfl,q' _ _ o1 ?_⟩)⟩
  rw [w1]
  exact rkv1.mono o1.tm
 rw [decide_eq_false c4]
 rw [if_neg c4] at w1
 refine bf ?_
 obtain ⟨_,u0,_,_,eu0,ru0⟩:=hf.get gl
 have hf1:=hf.old o1
 obtain ⟨fvs1,u1,hs1',_,eu1,ru1⟩:=hf1.get gl
 obtain ⟨fvs2,u2,hs2',_,eu2,ru2⟩:=hf1.last gn
 have kg0:Kg (g.headD qK) 4:=cB (by omega) kg
 rw [← dC] at ru1
 dsimp only [pK]
 refine cR (fun σ H2=>σ = [some (.ref a),some (.ref fa),some (.str x)]∧H1=H2∧¬ (x = "call"∧g.length=2)) (fun R hR=>?_) (fun σ H2 hP=>?_)
 ·refine ⟨_,rfl,.inr (.inl ⟨rfl,_,rfl,?_⟩)⟩
  rw [ba]
  by_cases c2:x = "call"
  ·rw [decide_eq_true c2]
   refine br ⟨_,rfl,.inl ⟨fa,fvs,rfl,.inl hs1,.inr (.inl ⟨rfl,_,rfl,?_⟩)⟩⟩
   rw [cg,jc]
   by_cases c5:g.length=2
   ·rw [decide_eq_true c5]
    have st:la (g.headD qK) "arg" = some ((g.headD qK).pt 0):=tY kg0.wf (fun nq=>by
     rw [(hc c2 c5).resolve_left nq];decide +kernel)
    refine br ⟨_,rfl,.inl ⟨fa,fvs1,0,u1,rfl,rfl,hs1',eu1,sz 1,fun pa hpa=>?_⟩⟩
    have o2:=Old.new (o:=.tup [.str "arg"]) hpa
    refine ⟨u1,g.headD qK,(g.headD qK).pt 0,pa,"arg",rfl,ru1.mono o2.tm,kg0.wf,by have:=kg0.dep;omega,.of ad,by nofun,st,fun v' H' o' r'=>q' _ _ ((o1.trans o2).trans o') ?_⟩
    rw [w1,if_pos ⟨c2,c5⟩]
    exact r'
   ·rw [decide_eq_false c5]
    exact bf (hR _ _ ⟨rfl,rfl,fun z=>c5 z.2⟩)
  ·rw [decide_eq_false c2]
   exact bf (bf (hR _ _ ⟨rfl,rfl,fun z=>c2 z.1⟩))
 obtain ⟨rfl,rfl,n5⟩:=hP
 rw [if_neg n5] at w1
 have lastly:bG x ks g=g.getLastD qK→Q u2 H1:=fun e=>q' _ _ o1 (by rw [e];exact ru2)
 refine ⟨_,rfl,_,rfl,_,rfl,?_⟩
 by_cases cn:x∈dND.map (·.1)
 ·rw [decide_eq_true cn]
  obtain ⟨nh,nks,en,ed⟩:=ndK x cn
  rw [en] at w1
  obtain ⟨ua,uus,rfl,hua,_⟩:=RK.kind (show RK K H1 (.tup (.str (g.headD qK).hd :: Kn.ds (g.headD qK).ks)) u1 by
   have:=ru1
   cases hg:g.headD qK
   rw [hg] at this
   exact this)
  refine br ⟨_,rfl,.inl ⟨fa,fvs1,0,.ref ua,rfl,rfl,hs1',eu1,.inr (.inl ⟨ua,_,0,.str (g.headD qK).hd,rfl,rfl,hua.sq,at0,?_⟩)⟩⟩
  refine ⟨_,rfl,rfl,_,_,rfl,ed,fun v hv=>?_⟩
  obtain ⟨va,vus,rfl,hva,_⟩:=RK.kind (show RK K H1 (.tup (.str nh :: Kn.ds nks)) v from hv H1)
  refine .inr (.inl ⟨va,_,0,.str nh,rfl,rfl,hva.sq,at0,.inr (.inl ⟨rfl,_,rfl,?_⟩)⟩)
  rw [ba]
  by_cases c6:(g.headD qK).hd=nh
  ·rw [decide_eq_true c6]
   refine bf ⟨_,rfl,_,rfl,.inl ⟨fa,fvs2,-1,u2,rfl,rfl,hs2',eu2,lastly ?_⟩⟩
   rw [w1]
   exact if_neg (fun z=>z c6)
  ·rw [decide_eq_false c6]
   refine br ⟨_,rfl,rfl,_,_,rfl,ed,fun v2 hv2=>q' _ _ o1 ?_⟩
   rw [w1]
   have:(if (g.headD qK).hd≠(Kn.mk nh nks).hd then (Kn.mk nh nks) else g.getLastD qK)=Kn.mk nh nks:=if_pos c6
   exact (show RK K H1 (if (g.headD qK).hd≠(Kn.mk nh nks).hd then (Kn.mk nh nks) else g.getLastD qK).d v2 by rw [this];exact hv2 H1)
 ·rw [decide_eq_false cn]
  refine bf (bf ⟨_,rfl,_,rfl,.inl ⟨fa,fvs2,-1,u2,rfl,rfl,hs2',eu2,lastly ?_⟩⟩)
  rw [w1,ndN x cn]
theorem toK (x:Str) (h:x∈dTO.map (·.1)) (fr:List Dk) (ks g:List Kn) (e:Nv):∃ z i nh nks,KTD.datumAt x dTO=some (.tup [.str z])∧z∈five∧bL x=some (.mk nh nks)∧(z∈aJ nh∧(aJ nh).idxOf z=i)∧bH x fr ks g e=(g.headD qK).pt i:=by
 rcases List.mem_cons.mp h with rfl | h
 ·exact ⟨"res",1,_,_,by kernel_rfl,by nofun,rfl,by nofun,by unfold bH;rw [if_neg (by nofun),if_neg (by nofun),if_pos (by nofun)]⟩
 rcases List.mem_cons.mp h with rfl | h
 ·exact ⟨"item",0,_,_,by kernel_rfl,by nofun,rfl,by nofun,by unfold bH;rw [if_neg (by nofun),if_neg (by nofun),if_neg (by nofun),if_pos (by nofun)]⟩
 rcases List.mem_cons.mp h with rfl | h
 ·exact ⟨"one",0,_,_,by kernel_rfl,by nofun,rfl,by nofun,by unfold bH;rw [if_neg (by nofun),if_neg (by nofun),if_neg (by nofun),if_pos (by nofun)]⟩
 obtain rfl:=List.mem_singleton.mp h
 exact ⟨"two",1,_,_,by kernel_rfl,by nofun,rfl,by nofun,by unfold bH;rw [if_neg (by nofun),if_neg (by nofun),if_pos (by nofun)]⟩
theorem skK (x:Str) (h:x∈dSK.map (·.1)) (fr:List Dk) (ks g:List Kn) (e:Nv):KTD.datumAt x dSK=some (bH x fr ks g e).d:=by
 rcases List.mem_cons.mp h with rfl | h
 ·rw [show bH "whole" fr ks g e=cf by unfold bH;exact if_pos (by nofun)];kernel_rfl
 rcases List.mem_cons.mp h with rfl | h
 ·rw [show bH "given" fr ks g e=cf by unfold bH;exact if_pos (by nofun)];kernel_rfl
 rcases List.mem_cons.mp h with rfl | h
 ·rw [show bH "size" fr ks g e=cf by unfold bH;exact if_pos (by nofun)];kernel_rfl
 obtain rfl:=List.mem_singleton.mp h
 rw [show bH "truth" fr ks g e=bI by unfold bH;rw [if_neg (by nofun)];exact if_pos (by nofun)];kernel_rfl
theorem ml:K11.np "call" = 2∧K11.np "at" = 2∧K11.np "one" = 1∧K11.np "two" = 1∧K11.np "fn" = 1∧K11.np "let" = 2∧K11.np "if" = 3∧K11.np "pair" = 2:=by nofun
theorem ul:∀ z∈K11.words,z = "as"∨z∈(["whole","given","size","truth","call","at","one","two","name","fn","self","let","if","do","row","pair","look"]:List Str):=by nofun
theorem t8:∀ x:Str,x∈dTO.map (·.1)→x≠"row"∧0<K11.np x:=(show ∀ x∈dTO.map (·.1),x≠("row":Str)∧0<K11.np x by nofun)
abbrev sOw:Stmt:=top 42
def yj (K:W.Frag):Sp:=fun vs H Q _=>∃ (v:V) (fa b:Addr) (t:Tk) (g:List Kn) (kvs:List (Key×V)) (e:Nv),vs = [v,.ref fa,.ref b]∧RK K H t.tn.d v∧t.tn.wf∧t.w≠"look"∧Fd K H fa g∧g.length=t.ps.length∧(∀ k∈g,Kg k 4)∧Fit t.w g∧(t.w = "do"→∃ o,t.fr = [.str o])∧(t.w = "name"→(e ((txs t.fr).headD "")).isSome=true)∧H b=some (.dK kvs)∧gI K H kvs e ∧
 ∀ v' H',Old H H'→RK K H' (bH t.w t.fr t.ks g e).d v'→Q v' H'
theorem zX:aA ["tree","found","bound","word"] ["tree","found","bound"] (au sOw):=⟨rfl,rfl,rfl,by nofun,rfl,by nofun,by nofun⟩
theorem zf {n:Nat} {aS aO aW aT:Addr} (F:Fun K "own_kind" "own_kind" sOw f fd) (T:Tx mg) (Cg:mg "WHOLE" = some (.ref aW)) (Ce:Kt K aW [.str "whole"]) (Cf:mg "TRUTH" = some (.ref aT)) (Cd:Kt K aT [.str "truth"]) (A4:mg "SURE_KINDS" = some (.ref aS)) (A3:KTD.tabLook (bZ K) (fun b=>K.lookup b) aS dSK=true) (Bh:mg "TAKEN_OUT" = some (.ref aO)) (Bg:KTD.tabLook (bZ K) (fun b=>K.lookup b) aO dTO=true)
 (CN:Cal P w K mg base "part" ["kind","way"] 3 (k9 K)) (BY:Cal P w K mg base "join" ["kind","other"] 9 (eT K 8)):aY P w K mg base CX0 (n+10) f fd ["tree","found","bound"] (yj K):=by
 refine F.ok zX (fun vs H Q E h=>?_) (fun cdv A outer s H vs Q E hr h=>?_)
 ·obtain ⟨v,fa,b,t,g,kvs,e,rfl,_⟩:=h
  rfl
 obtain ⟨v,fa,b,t,g,kvs,e,rfl,rv,wt,nl,hf,lg,kg,fit,hdo,hnm,hb,he,q⟩:=h
 have nd:=zX.nd
 obtain ⟨x,p,fr,ks,ps⟩:=t
 have rv':RK K H (Tn.mk x p fr (Kn.ds ks) (Tk.tns ps)).d v:=rv
 obtain ⟨⟨hx,lf,lm,lp,_,hn,_⟩,_⟩:=(show (Tn.mk x p fr (Kn.ds ks) (Tk.tns ps)).wf from wt)
 obtain ⟨a,uf,um,up,rfl,ha,rf,rm,_⟩:=RK.node rv'
 have l1:=rf.length
 have l2:=rm.length
 rw [aZ] at lm
 rw [aF] at lp
 have lg':g.length=ps.length:=lg
 rw [← lg'] at lp
 have q':∀ v' H',Old H H'→RK K H' (bH x fr ks g e).d v'→Q v' H':=q
 obtain ⟨f1,f2,f3,f4,f5,f6,f7,f8,f9,f10,f11⟩:=d9
 obtain ⟨p1,p2,p3,p4,p5,p6,p7,p8⟩:=ml
 have kgD:∀ i,Kg ((g[i]?).getD qK) 4:=fun i=>dM (by omega) kg i
 have kg0:Kg (g.headD qK) 4:=cB (by omega) kg
 refine' ⟨_,?n0,?Z⟩
 case' n0=>refine' ag ?N1 ?N2
 case' N1=>refine' psX 3 nd ?N3
 case N3=>exact aG az (pv 0) ac (fun _ _=>rfl)
 case' N2=>refine' ag (aC ?N6 ?N7 aw) ?N5
 case' N6=>refine' kO ?N8
 case N8=>exact nj rfl A4 A3 (pv 3)
 case' N7=>refine' ah (ar ?Na)
 case Na=>exact gW rfl A4 A3 (pv 3) (fun _ _=>rfl)
 case' N5=>refine' ag (aC ?Nd ?Ne aw) ?Nc
 case' Nd=>refine' kO ?Nf
 case Nf=>exact nj rfl Bh Bg (pv 3)
 case' Ne=>refine' ah (ar ?Nh)
 case' Nh=>refine' ao CN hr ?Ni
 case' Ni=>refine' pa ?Nj ?Nk
 case Nj=>exact aG az (pv 1) ac (fun _ _=>rfl)
 case' Nk=>refine' pa ?Nl ae
 case Nl=>exact gW rfl Bh Bg (pv 3) (fun _ _=>rfl)
 case' Nc=>refine' ag (aC (ak (ax hr) (pv 3) ai (aq _)) ?No aw) ?Nn
 case' No=>refine' ah (ar ?Nq)
 case' Nq=>refine' gT hr.u1 (pv 2) ?Nr (fun _ _=>rfl)
 case Nr=>exact aG az (pv 0) ac (fun _ _=>rfl)
 case' Nn=>refine' ag (aC (ak (ax hr) (pv 3) ai (aq _)) ?Nu aw) ?Nt
 case' Nu=>refine' ah (ar ?Nw)
 case' Nw=>refine' ap ?Nx
 case' Nx=>refine' pa ai ?Ny
 case' Ny=>refine' pa ?Nz ?N10
 case Nz=>exact aG az (pv 0) ac (fun _ _=>rfl)
 case' N10=>refine' pa ?N11 ae
 case N11=>exact aG az (pv 1) ac (fun _ _=>rfl)
 case' Nt=>refine' ag (aC (ak (ax hr) (pv 3) ai (aq _)) ?N14 aw) ?N13
 case' N14=>refine' ah (ar ?N16)
 case' N16=>refine' ap ?N17
 case' N17=>refine' pa ai ?N18
 case' N18=>refine' pa ?N19 ?N1a
 case N19=>exact aG az (pv 0) ac (fun _ _=>rfl)
 case' N1a=>refine' pa ?N1b ae
 case N1b=>exact aG az (pv 0) ac (fun _ _=>rfl)
 case' N13=>refine' ag (aC (ak (ax hr) (pv 3) ai (aq _)) ?N1e aw) ?N1d
 case' N1e=>refine' ah (ar ?N1g)
 case N1g=>exact aG az (pv 1) ac (fun _ _=>rfl)
 case' N1d=>refine' ag (aC (ak (ax hr) (pv 3) ai (aq _)) ?N1j aw) ?N1i
 case' N1j=>refine' ah (ar ?N1l)
 case' N1l=>refine' ao BY hr ?N1m
 case' N1m=>refine' pa ?N1n ?N1o
 case N1n=>exact aG az (pv 1) ac (fun _ _=>rfl)
 case' N1o=>refine' pa ?N1p ae
 case N1p=>exact aG az (pv 1) ac (fun _ _=>rfl)
 case' N1i=>refine' ag (aC (ak (ax hr) (pv 3) ai (aq _)) ?N1s aw) ?N1r
 case' N1s=>refine' ah (ar ?N1u)
 case' N1u=>refine' sP ?N1v (bM rfl Cf) (bM rfl Cg)
 case' N1v=>refine' ak eF ?N1w (ap (pa ai (pa ai ae))) rfl
 case N1w=>exact aG az (pv 0) ac (fun _ _=>rfl)
 case' N1r=>refine' ag (aC (ak (ax hr) (pv 3) ai (aq _)) ?N1z aw) ?N1y
 case' N1z=>refine' ah (ar ?N21)
 case' N21=>refine' ap ?N22
 case' N22=>refine' pa ai ?N23
 case' N23=>refine' pa ?N24 ae
 case N24=>exact aG az (pv 0) ac (fun _ _=>rfl)
 case' N1y=>refine' ag (aC (ak (ax hr) (pv 3) ai (aq _)) ?N27 aw) ?N26
 case' N27=>refine' ah (ar ?N29)
 case' N29=>refine' ap ?N2a
 case' N2a=>refine' pa ai ?N2b
 case' N2b=>refine' pa ?N2c ?N2d
 case N2c=>exact aG az (pv 1) ac (fun _ _=>rfl)
 case' N2d=>refine' pa ?N2e ae
 case N2e=>exact aG az (pv 1) ac (fun _ _=>rfl)
 case' N26=>refine' ah (ar ?N2g)
 case N2g=>exact aG az (pv 0) ac (fun _ _=>rfl)
 refine ⟨_,rfl,.inr (.inl ⟨a,_,0,.str x,rfl,rfl,ha.sq,at0,?_⟩)⟩
 refine ⟨_,rfl,_,rfl,_,rfl,?_⟩
 by_cases cs:x∈dSK.map (·.1)
 ·rw [decide_eq_true cs]
  exact br ⟨_,rfl,rfl,_,_,rfl,skK x cs fr ks g e,fun v hv=>q' v H (Old.refl _) (hv H)⟩
 rw [decide_eq_false cs]
 refine bf ?_
 refine ⟨_,rfl,_,rfl,_,rfl,?_⟩
 by_cases ct:x∈dTO.map (·.1)
 ·rw [decide_eq_true ct]
  obtain ⟨z,i,nh,nks,ed,hz,en,st,eo⟩:=toK x ct fr ks g e
  have gp:0<g.length:=by rw [lp (t8 x ct).1];exact (t8 x ct).2
  obtain ⟨fvs,u,hs,_,eu,ru⟩:=hf.get gp
  rw [← dC] at ru
  refine br ⟨_,rfl,.inl ⟨fa,fvs,0,u,rfl,rfl,hs,eu,_,rfl,rfl,_,_,rfl,ed,fun v hv=>?_⟩⟩
  obtain ⟨pa,us,rfl,hpa,ez⟩:=RK.kind (hv H)
  obtain rfl:us = []:=ez
  refine ⟨u,g.headD qK,(g.headD qK).pt i,pa,z,rfl,ru,kg0.wf,by have:=kg0.dep;omega,hpa,hz,tY kg0.wf (fun nq=>by rw [(fit _ en).resolve_left nq];exact st),fun v' H' o' r'=>q' _ _ o' ?_⟩
  rw [eo]
  exact r'
 rw [decide_eq_false ct]
 refine bf ?_
 have cS:∀ z∈dSK.map (·.1),x≠z:=fun z hz ez=>cs (ez ▸ hz)
 have cT:∀ z∈dTO.map (·.1),x≠z:=fun z hz ez=>ct (ez ▸ hz)
 have w1:bH x fr ks g e=bH x fr ks g e:=rfl
 conv at w1=>rhs;unfold bH
 rw [if_neg (fun z=>z.elim (cS "whole" (by nofun)) (fun z=>z.elim (cS "given" (by nofun)) (cS "size" (by nofun)))),if_neg (cS "truth" (by nofun)),if_neg (fun z=>z.elim (cT "call" (by nofun)) (cT "two" (by nofun))),if_neg (fun z=>z.elim (cT "at" (by nofun)) (cT "one" (by nofun)))] at w1
 refine ⟨_,rfl,.inr (.inl ⟨rfl,_,rfl,?_⟩)⟩
 rw [ba]
 by_cases c1:x = "name"
 ·rw [decide_eq_true c1]
  rw [if_pos c1] at w1
  obtain ⟨ns,rfl⟩:=hn (by rw [c1];decide +kernel)
  obtain rfl:=RKs.txs rf
  rw [List.length_map,c1,f6] at lf
  obtain ⟨nm,rfl⟩:=List.length_eq_one_iff.mp lf
  have hs:=hnm c1
  obtain ⟨k,hk⟩:=Option.isSome_iff_exists.mp (show (e nm).isSome=true from hs)
  obtain ⟨kv,hv,rk⟩:=he nm k hk
  refine br ⟨_,rfl,_,rfl,.inr (.inl ⟨a,_,2,.str nm,rfl,rfl,ha.sq,at2,b,kv,rfl,?_,q' kv H (Old.refl _) ?_⟩)⟩
  ·have z:=i9.k (k:=.inr nm) hb
   rw [hv] at z
   exact z
  ·rw [w1,show (txs ([nm].map Dk.str)).headD "" = nm from rfl,hk]
   exact rk
 rw [decide_eq_false c1]
 rw [if_neg c1] at w1
 refine bf ⟨_,rfl,.inr (.inl ⟨rfl,_,rfl,?_⟩)⟩
 rw [ba]
 by_cases c2:x = "fn"
 ·rw [decide_eq_true c2]
  rw [if_pos c2] at w1
  have lg1:=lp (by rw [c2];decide +kernel)
  rw [c2,p5] at lg1
  rw [c2,f1] at lf
  rw [c2,f2] at lm
  obtain ⟨x0,rfl⟩:=List.length_eq_one_iff.mp lf
  obtain ⟨k0,rfl⟩:=List.length_eq_one_iff.mp lm
  obtain ⟨y0,uf',rfl,_,rf'⟩:=rf
  obtain rfl:uf' = []:=rf'
  obtain ⟨kv,um',rfl,rkv,_⟩:=rm
  obtain ⟨fvs,u,hs,_,eu,ru⟩:=hf.get (i:=0) (by omega)
  refine br ⟨_,rfl,.inr (.inl ⟨a,_,3,kv,rfl,rfl,ha.sq,at3,_,rfl,.inl ⟨fa,fvs,0,u,rfl,rfl,hs,eu,sz 3,fun r hr0=>q' _ _ (Old.new hr0) ?_⟩⟩)⟩
  rw [w1,dC g]
  exact RK.tup (.of ad) (.cons (.s _) (.cons (rkv.mono (Old.new hr0).tm) (.cons (ru.mono (Old.new hr0).tm) .nil)))
 rw [decide_eq_false c2]
 rw [if_neg c2] at w1
 refine bf ⟨_,rfl,.inr (.inl ⟨rfl,_,rfl,?_⟩)⟩
 rw [ba]
 by_cases c3:x = "self"
 ·rw [decide_eq_true c3]
  rw [if_pos c3] at w1
  rw [c3,f3] at lf
  rw [c3,f4] at lm
  obtain ⟨x0,x1,rfl⟩:=gh lf
  obtain ⟨k0,k1,rfl⟩:=gh lm
  obtain ⟨y0,uf',rfl,_,rf'⟩:=rf
  obtain ⟨y1,uf'',rfl,_,rf''⟩:=rf'
  obtain rfl:uf'' = []:=rf''
  obtain ⟨kv,um',rfl,rkv,rm'⟩:=rm
  obtain ⟨kv1,um'',rfl,rkv1,_⟩:=rm'
  refine br ⟨_,rfl,.inr (.inl ⟨a,_,4,kv,rfl,rfl,ha.sq,aH (j:=4) rfl,_,rfl,.inr (.inl ⟨a,_,5,kv1,rfl,rfl,ha.sq,aH (j:=5) rfl,sz 3,fun r hr0=>q' _ _ (Old.new hr0) ?_⟩)⟩)⟩
  rw [w1]
  exact RK.tup (.of ad) (.cons (.s _) (.cons (rkv.mono (Old.new hr0).tm) (.cons (rkv1.mono (Old.new hr0).tm) .nil)))
 rw [decide_eq_false c3]
 rw [if_neg c3] at w1
 refine bf ⟨_,rfl,.inr (.inl ⟨rfl,_,rfl,?_⟩)⟩
 rw [ba]
 by_cases c4:x = "let"
 ·rw [decide_eq_true c4]
  rw [if_pos c4] at w1
  have lg1:=lp (by rw [c4];decide +kernel)
  rw [c4,p6] at lg1
  obtain ⟨fvs,u,hs,_,eu,ru⟩:=hf.get (i:=1) (by omega)
  refine br ⟨_,rfl,.inl ⟨fa,fvs,1,u,rfl,rfl,hs,eu,q' _ _ (Old.refl _) ?_⟩⟩
  rw [w1]
  exact ru
 rw [decide_eq_false c4]
 rw [if_neg c4] at w1
 refine bf ⟨_,rfl,.inr (.inl ⟨rfl,_,rfl,?_⟩)⟩
 rw [ba]
 by_cases c5:x = "if"
 ·rw [decide_eq_true c5]
  rw [if_pos c5] at w1
  have lg1:=lp (by rw [c5];decide +kernel)
  rw [c5,p7] at lg1
  obtain ⟨fvs,u,hs,_,eu,ru⟩:=hf.get (i:=1) (by omega)
  obtain ⟨fvs2,u2,hs2,_,eu2,ru2⟩:=hf.get (i:=2) (by omega)
  refine br ⟨_,rfl,.inl ⟨fa,fvs,1,u,rfl,rfl,hs,eu,_,rfl,.inl ⟨fa,fvs2,2,u2,rfl,rfl,hs2,eu2,?_⟩⟩⟩
  refine ⟨u,u2,(g[1]?).getD qK,(g[2]?).getD qK,rfl,ru,ru2,i6 (kgD 1).wf,i6 (kgD 2).wf,by have:=(kgD 1).dep;omega,fun v' H' o' r'=>q' _ _ o' ?_⟩
  rw [w1]
  exact r'
 rw [decide_eq_false c5]
 rw [if_neg c5] at w1
 refine bf ⟨_,rfl,.inr (.inl ⟨rfl,_,rfl,?_⟩)⟩
 rw [ba]
 by_cases c6:x = "do"
 ·rw [decide_eq_true c6]
  rw [if_pos c6] at w1
  obtain ⟨o,eo⟩:=hdo c6
  obtain rfl:fr = [.str o]:=eo
  obtain ⟨y0,uf',rfl,ry0,rf'⟩:=rf
  obtain rfl:y0 = .str o:=by rw [RK] at ry0;exact ry0
  refine br ⟨_,rfl,.inr (.inl ⟨a,_,2,.str o,rfl,rfl,ha.sq,at2,sz 2,fun r hr0=>⟨r,_,rfl,.inr (SqT.of ad),rfl,rfl,_,rfl,?_⟩⟩)⟩
  have o1:=Old.new (o:=.tup [.str "<",.str "="]) hr0
  generalize upd H r (.tup [.str "<",.str "="])=H1 at o1 ⊢
  rw [if_neg Bool.false_ne_true,show [V.str "<",V.str "="]=(["<","="]:List Str).map V.str from rfl,fg]
  by_cases c:o∈(["<","="]:List Str)
  ·rw [decide_eq_true c]
   refine br (q' _ _ o1 ?_)
   rw [w1,if_pos (show (txs [.str o]).headD ""∈(["<","="]:List Str) from c)]
   exact RK.tup (.inr Cd) (.cons (.s _) .nil)
  ·rw [decide_eq_false c]
   refine bf (q' _ _ o1 ?_)
   rw [w1,if_neg (show ¬ (txs [.str o]).headD ""∈(["<","="]:List Str) from c)]
   exact RK.tup (.inr Ce) (.cons (.s _) .nil)
 rw [decide_eq_false c6]
 rw [if_neg c6] at w1
 refine bf ⟨_,rfl,.inr (.inl ⟨rfl,_,rfl,?_⟩)⟩
 rw [ba]
 by_cases c7:x = "row"
 ·rw [decide_eq_true c7]
  rw [if_pos c7] at w1
  rw [c7,f8] at lf
  rw [c7,f9] at lm
  obtain rfl:uf = []:=List.length_eq_zero_iff.mp (l1.symm.trans lf)
  obtain ⟨k0,rfl⟩:=List.length_eq_one_iff.mp lm
  obtain ⟨kv,um',rfl,rkv,_⟩:=rm
  refine br ⟨_,rfl,.inr (.inl ⟨a,_,2,kv,rfl,rfl,ha.sq,at2,sz 2,fun r hr0=>q' _ _ (Old.new hr0) ?_⟩)⟩
  rw [w1]
  exact RK.tup (.of ad) (.cons (.s _) (.cons (rkv.mono (Old.new hr0).tm) .nil))
 rw [decide_eq_false c7]
 rw [if_neg c7] at w1
 refine bf ⟨_,rfl,.inr (.inl ⟨rfl,_,rfl,?_⟩)⟩
 rw [ba]
 by_cases c8:x = "pair"
 ·rw [decide_eq_true c8]
  rw [if_pos c8] at w1
  have lg1:=lp (by rw [c8];decide +kernel)
  rw [c8,p8] at lg1
  obtain ⟨fvs,u,hs,_,eu,ru⟩:=hf.get (i:=0) (by omega)
  obtain ⟨fvs2,u2,hs2,_,eu2,ru2⟩:=hf.get (i:=1) (by omega)
  refine br ⟨_,rfl,.inl ⟨fa,fvs,0,u,rfl,rfl,hs,eu,_,rfl,.inl ⟨fa,fvs2,1,u2,rfl,rfl,hs2,eu2,sz 3,fun r hr0=>q' _ _ (Old.new hr0) ?_⟩⟩⟩
  rw [w1,dC g]
  exact RK.tup (.of ad) (.cons (.s _) (.cons (ru.mono (Old.new hr0).tm) (.cons (ru2.mono (Old.new hr0).tm) .nil)))
 rw [decide_eq_false c8]
 rw [if_neg c8] at w1
 have ea:x = "as":=(ul x hx).resolve_right fun z=>by
  rcases List.mem_append.mp (show x∈dSK.map (·.1) ++ (dTO.map (·.1) ++ (["name","fn","self","let","if","do","row","pair","look"]:List Str)) from z) with z | z
  ·exact cs z
  rcases List.mem_append.mp z with z | z
  ·exact ct z
  rcases List.mem_cons.mp z with z | z
  ·exact c1 z
  rcases List.mem_cons.mp z with z | z
  ·exact c2 z
  rcases List.mem_cons.mp z with z | z
  ·exact c3 z
  rcases List.mem_cons.mp z with z | z
  ·exact c4 z
  rcases List.mem_cons.mp z with z | z
  ·exact c5 z
  rcases List.mem_cons.mp z with z | z
  ·exact c6 z
  rcases List.mem_cons.mp z with z | z
  ·exact c7 z
  rcases List.mem_cons.mp z with z | z
  ·exact c8 z
  ·exact nl (List.mem_singleton.mp z)
 rw [ea,f10] at lf
 rw [ea,f11] at lm
 obtain rfl:uf = []:=List.length_eq_zero_iff.mp (l1.symm.trans lf)
 obtain ⟨k0,rfl⟩:=List.length_eq_one_iff.mp lm
 obtain ⟨kv,um',rfl,rkv,_⟩:=rm
 refine bf ⟨_,rfl,.inr (.inl ⟨a,_,2,kv,rfl,rfl,ha.sq,at2,q' _ _ (Old.refl _) ?_⟩)⟩
 rw [w1]
 exact rkv
structure bX (C:Addr) (H:Hp) (L kd wd:Addr) (ks ws:List (Key×V)):Prop where
 hi:∃ dx,H L=some (.ins C dx [("kinds",.ref kd),("wanted",.ref wd)])
 hk:H kd=some (.dK ks)
 hw:H wd=some (.dK ws)
 hn:kd≠wd
theorem lkW {a b:V}:([("kinds",a),("wanted",b)]:List (Str×V)).lookup ("wanted":Str)=some b:=by kernel_rfl
theorem lkK {a b:V}:([("kinds",a),("wanted",b)]:List (Str×V)).lookup ("kinds":Str)=some a:=by kernel_rfl
theorem lkN {a b:V}:∀ m∈(["want","look","hold","hold_choice"]:List Str),([("kinds",a),("wanted",b)]:List (Str×V)).lookup m=none:=by
 intro m hm
 rcases List.mem_cons.mp hm with rfl | hm
 ·kernel_rfl
 rcases List.mem_cons.mp hm with rfl | hm
 ·kernel_rfl
 rcases List.mem_cons.mp hm with rfl | hm
 ·kernel_rfl
 rcases List.mem_cons.mp hm with rfl | hm
 ·kernel_rfl
 ·exact nomatch hm
def Out (kd wd:Addr) (H H':Hp):Prop:=∀ b o,b≠kd→b≠wd→H b=some o→H' b=some o
theorem Out.refl {kd wd:Addr} {H:Hp}:Out kd wd H H:=fun _ _ _ _ e=>e
theorem Out.trans {kd wd:Addr} {H H1 H2:Hp} (h:Out kd wd H H1) (g:Out kd wd H1 H2):Out kd wd H H2:=fun b o n1 n2 e=>g b o n1 n2 (h b o n1 n2 e)
theorem Out.old {kd wd:Addr} {H H1:Hp} (h:Old H H1):Out kd wd H H1:=fun b o _ _ e=>h b o e
theorem Out.tm {C L kd wd:Addr} {H H1:Hp} {ks ws:List (Key×V)} (l:bX C H L kd wd ks ws) (h:Out kd wd H H1):Tm H H1:=fun a xs e=>h a _ (fun z=>by subst z;rw [l.hk] at e;cases e) (fun z=>by subst z;rw [l.hw] at e;cases e) e
theorem Out.putW {kd wd:Addr} {H:Hp} {o:HO}:Out kd wd H (upd H wd o):=fun b o n1 n2 e=>by rw [aj n2];exact e
theorem Out.putK {kd wd:Addr} {H:Hp} {o:HO}:Out kd wd H (upd H kd o):=fun b o n1 n2 e=>by rw [aj n1];exact e
theorem bX.old {C L kd wd:Addr} {H H1:Hp} {ks ws:List (Key×V)} (l:bX C H L kd wd ks ws) (h:Old H H1):bX C H1 L kd wd ks ws:=⟨let ⟨dx,e⟩:=l.hi;⟨dx,h _ _ e⟩,h _ _ l.hk,h _ _ l.hw,l.hn⟩
theorem bX.nk {C L kd wd:Addr} {H:Hp} {ks ws:List (Key×V)} (l:bX C H L kd wd ks ws):L≠kd:=fun z=>by subst z;obtain ⟨dx,e⟩:=l.hi;rw [l.hk] at e;cases e
theorem bX.nw {C L kd wd:Addr} {H:Hp} {ks ws:List (Key×V)} (l:bX C H L kd wd ks ws):L≠wd:=fun z=>by subst z;obtain ⟨dx,e⟩:=l.hi;rw [l.hw] at e;cases e
theorem bX.putW {C L kd wd:Addr} {H:Hp} {ks ws ws':List (Key×V)} (l:bX C H L kd wd ks ws):bX C (upd H wd (.dK ws')) L kd wd ks ws':=⟨let ⟨dx,e⟩:=l.hi;⟨dx,by rw [aj l.nw];exact e⟩,by rw [aj l.hn];exact l.hk,ad,l.hn⟩
theorem bX.putK {C L kd wd:Addr} {H:Hp} {ks ws ks':List (Key×V)} (l:bX C H L kd wd ks ws):bX C (upd H kd (.dK ks')) L kd wd ks' ws:=⟨let ⟨dx,e⟩:=l.hi;⟨dx,by rw [aj l.nk];exact e⟩,ad,by rw [aj (Ne.symm l.hn)];exact l.hw,l.hn⟩
abbrev jP:Stmt:=gu (top 37) 4
def iV (K:W.Frag) (C:Addr):Sp:=fun vs H Q _=>∃ (L kd wd:Addr) (ks ws:List (Key×V)) (nv kv:V) (n:Tn),vs = [.ref L,nv,kv]∧bX C H L kd wd ks ws∧ws.length≤1000∧RK K H n.d nv∧Q .non (upd H wd (.dK (putK ws (.inl n.p) kv)))
theorem tS:aA ["self","node","kind"] ["self","node","kind"] (au jP):=⟨rfl,rfl,rfl,by nofun,rfl,by nofun,by nofun⟩
theorem uP {m:Nat} {C:Addr} (F:Fun K "want" "Looker.want" jP f fd) (AR:Cls K C) (a_wanted:b7 K C "wanted"):aY P w K mg base CX0 (m+1) f fd ["self","node","kind"] (iV K C):=by
 refine F.ok tS (fun vs H Q E h=>?_) (fun cdv A outer s H vs Q E hr h=>?_)
 ·obtain ⟨L,kd,wd,ks,ws,nv,kv,n,rfl,_⟩:=h
  rfl
 obtain ⟨L,kd,wd,ks,ws,nv,kv,n,rfl,lk,few,rn,q⟩:=h
 have nd:=tS.nd
 obtain ⟨x,p,fr,mid,ps⟩:=n
 obtain ⟨a,uf,um,up,rfl,ha,_⟩:=RK.node rn
 obtain ⟨dx,hL⟩:=lk.hi
 refine' ⟨_,?n0,?Z⟩
 case' n0=>refine' ah ?N1
 case' N1=>refine' cy hr.u1 (kJ (pv 0) rfl) ?N2 (pv 2) rfl
 case N2=>exact aG az (pv 1) ac (fun _ _=>rfl)
 refine ⟨_,rfl,_,rfl,L,C,dx,_,.ref wd,rfl,hL,AR,a_wanted,lkW,_,rfl,.inr (.inl ⟨a,_,1,.int p,rfl,rfl,ha.sq,at1,wd,_,rfl,eX.k (k:=.inl p) lk.hw (bA (by omega)),q⟩)⟩
abbrev sLI:Stmt:=gu (top 37) 0
def yf (C:Addr):Sp:=fun vs H Q _=>∃ (L dx:Addr),vs = [.ref L]∧H L=some (.ins C dx [])∧∀ kd wd H',H kd=none→H wd=none→(∀ b o,b≠L→H b=some o→H' b=some o)→bX C H' L kd wd [] []→Q .non H'
theorem zR:aA ["self"] ["self"] (au sLI):=⟨rfl,rfl,rfl,by nofun,rfl,by nofun,by nofun⟩
theorem za {m:Nat} {C:Addr} (F:Fun K "__init__" "Looker.__init__" sLI f fd) (AR:Cls K C) (a_kinds:b7 K C "kinds") (a_wanted:b7 K C "wanted"):aY P w K mg base CX0 (m+1) f fd ["self"] (yf C):=by
 refine F.ok zR (fun vs H Q E h=>?_) (fun cdv A outer s H vs Q E hr h=>?_)
 ·obtain ⟨L,dx,rfl,_⟩:=h
  rfl
 obtain ⟨L,dx,rfl,hL,q⟩:=h
 have nd:=zR.nd
 refine' ⟨_,?n0,?Z⟩
 case' n0=>refine' ag ?N1 ?N2
 case N1=>exact sT (pv 0) dG rfl
 case' N2=>refine' ah ?N3
 case N3=>exact sT (pv 0) dG rfl
 refine fun kd hk=>?_
 have nk:L≠kd:=al hL hk
 refine ⟨_,rfl,L,C,dx,[],rfl,by rw [aj nk];exact hL,AR,a_kinds,by decide,?_⟩
 refine fun wd hw=>?_
 have nw:wd≠L:=fun z=>by subst z;rw [ad] at hw;cases hw
 have hw1:upd H kd (.dK []) wd=none:=by rw [aj nw] at hw;exact hw
 have nkw:wd≠kd:=fun z=>by subst z;rw [ad] at hw1;cases hw1
 have hw0:H wd=none:=by rw [aj nkw] at hw1;exact hw1
 refine ⟨_,rfl,L,C,dx,[("kinds",.ref kd)],rfl,by rw [aj (Ne.symm nw),ad];rfl,AR,a_wanted,by show 1<1000;decide,?_⟩
 have e:dH ("wanted":Str) (V.ref wd) ([("kinds",V.ref kd)]:List (Str×V))=([("kinds",V.ref kd),("wanted",V.ref wd)]:List (Str×V)):=by kernel_rfl
 rw [e]
 refine q kd wd _ hk hw0 (fun b o nb e=>?_) ⟨⟨dx,ad⟩,?_,?_,Ne.symm nkw⟩
 ·rw [aj nb,aj (al e hw0),aj nb,aj (al e hk)]
  exact e
 ·rw [aj (Ne.symm nk),aj (Ne.symm nkw),aj (Ne.symm nk),ad]
 ·rw [aj nw,ad]
def RfR (K:W.Frag) (H:Hp) (d:Addr):Rf→Prop
 | .deep p=>H d=some (DO d [("place",.int p)])
 | .par p k b w way=>∃ kv wv yv,RK K H k.d kv∧RK K H w.d wv∧RK K H (.tup (way.map Dk.str)) yv∧H d=some (DO d (ptd p kv b wv yv))
def qU (Cp Ct:Addr):Rf→Addr
 | .deep _=>Ct
 | .par ..=>Cp
theorem t6 {α:Type}:∀ {l:List α},l.length=3→∃ a b c,l = [a,b,c]
 | [a,b,c],_=>⟨a,b,c,rfl⟩
theorem Out.fnd {C L kd wd fa:Addr} {H H1:Hp} {ks ws:List (Key×V)} {g:List Kn} (l:bX C H L kd wd ks ws) (h:Out kd wd H H1) (hf:Fd K H fa g):Fd K H1 fa g:=by
 obtain ⟨fvs,h1,h2⟩:=hf.ex
 exact ⟨⟨fvs,h fa _ (fun z=>by subst z;rw [l.hk] at h1;cases h1) (fun z=>by subst z;rw [l.hw] at h1;cases h1) h1,h2.mono (Out.tm l h)⟩⟩
abbrev sHC:Stmt:=gu (top 37) 3
def yd (K:W.Frag) (C Cp:Addr):Sp:=fun vs H Q E=>∃ (L kd wd fa:Addr) (ks ws:List (Key×V)) (tv:V) (t n0 n1 n2:Tk) (g:List Kn),vs = [.ref L,tv,.ref fa]∧bX C H L kd wd ks ws∧ws.length≤990∧RK K H t.tn.d tv∧t.tn.wf∧t.w = "if"∧t.ps = [n0,n1,n2]∧Fd K H fa g∧g.length=3∧(∀ k∈g,Kg k 4) ∧
 (((g[2]?).getD qK).part ((g[1]?).getD qK)=none→∀ ws' H',Out kd wd H H'→bX C H' L kd wd ks ws'→ws'.length≤ws.length+2→Q .non H') ∧
 (∀ way,((g[2]?).getD qK).part ((g[1]?).getD qK)=some way→∀ d H',Old H H'→RfR K H' d (.par n2.p ((g[2]?).getD qK) n1.p ((g[1]?).getD qK) way)→E (.ref Cp) (some d) H')
theorem zP:aA ["self","tree","found","node"] ["self","tree","found"] (au sHC):=⟨rfl,rfl,rfl,by nofun,rfl,by nofun,by nofun⟩
theorem wm:K11.nf "if" = 0∧K11.nk "if" = 0:=by nofun
theorem vP (n:Tk):n.tn.p=n.p:=by cases n;rfl
theorem y8 {m:Nat} {C Cp:Addr} (F:Fun K "hold_choice" "Looker.hold_choice" sHC f fd) (T:Tx mg) (AR:Cls K C) (BC:qQ P w K mg base C "want" ["self","node","kind"] 1 (iV K C)) (BY:Cal P w K mg base "join" ["kind","other"] 9 (eT K 8))
 (AY:dw P w K mg base "need_same" ["node","kind","against","wanted"] 10 (vH K Cp)):aY P w K mg base (CXF P w) (m+11) f fd ["self","tree","found"] (yd K C Cp):=by
 refine cI F zP (fun vs H Q E h=>?_) (fun cdv A outer s H vs Q E hr h=>?_)
 ·obtain ⟨L,kd,wd,fa,ks,ws,tv,t,n0,n1,n2,g,rfl,_⟩:=h
  rfl
 obtain ⟨L,kd,wd,fa,ks,ws,tv,t,n0,n1,n2,g,rfl,lk,few,rt,wt,ei,eps,hf,lg,kg,qn,qe⟩:=h
 have nd:=zP.nd
 obtain ⟨x,p,fr,kks,ps⟩:=t
 obtain rfl:x = "if":=ei
 obtain rfl:ps = [n0,n1,n2]:=eps
 have rt':RK K H (Tn.mk "if" p fr (Kn.ds kks) [n0.tn,n1.tn,n2.tn]).d tv:=rt
 obtain ⟨⟨hx,lf,lm,_⟩,w0,w1,w2,_⟩:=(show (Tn.mk "if" p fr (Kn.ds kks) [n0.tn,n1.tn,n2.tn]).wf from wt)
 obtain ⟨a,uf,um,up,rfl,ha,rf,rm,rp⟩:=RK.node rt'
 rw [wm.1] at lf
 rw [wm.2] at lm
 obtain rfl:uf = []:=List.length_eq_zero_iff.mp (rf.length.symm.trans lf)
 obtain rfl:um = []:=List.length_eq_zero_iff.mp (rm.length.symm.trans lm)
 rw [if_neg (by nofun)] at rp
 obtain ⟨v0,up1,rfl,rv0,rp1⟩:=rp
 obtain ⟨v1,up2,rfl,rv1,rp2⟩:=rp1
 obtain ⟨v2,up3,rfl,rv2,rp3⟩:=rp2
 obtain rfl:up3 = []:=rp3
 have a3:atI (V.str "if" :: V.int p :: ([] ++ [] ++ [v0,v1,v2])) 3=some v1:=aH (j:=3) rfl
 have a4:atI (V.str "if" :: V.int p :: ([] ++ [] ++ [v0,v1,v2])) 4=some v2:=aH (j:=4) rfl
 have kgD:∀ i,Kg ((g[i]?).getD qK) 4:=fun i=>dM (by omega) kg i
 obtain ⟨fvs,u1,hs,_,eu1,ru1⟩:=hf.get (i:=1) (by omega)
 obtain ⟨fvs2,u2,hs2,_,eu2,ru2⟩:=hf.get (i:=2) (by omega)
 refine' ⟨_,?n0,?Z⟩
 case' n0=>refine' ag ?N1 ?N2
 case' N1=>refine' bB ?N3
 case' N3=>refine' cY AY hr ?N4
 case' N4=>refine' pa ?N5 ?N6
 case N5=>exact aG az (pv 1) ac (fun _ _=>rfl)
 case' N6=>refine' pa ?N7 ?N8
 case N7=>exact aG az (pv 2) ac (fun _ _=>rfl)
 case' N8=>refine' pa ?N9 ?Na
 case N9=>exact aG az (pv 1) ac (fun _ _=>rfl)
 case' Na=>refine' pa ?Nb ae
 case Nb=>exact aG az (pv 2) ac (fun _ _=>rfl)
 case' N2=>refine' ah ?Nc
 case' Nc=>refine' gX rfl ?Nd ?Ne ?Nf
 case' Nd=>refine' dl ?Ng
 case' Ng=>refine' ap ?Nh
 case' Nh=>refine' pa ?Ni ?Nj
 case Ni=>exact aG az (pv 1) ac (fun _ _=>rfl)
 case' Nj=>refine' pa ?Nk ae
 case Nk=>exact aG az (pv 1) ac (fun _ _=>rfl)
 case Ne=>exact aV (i:=3) nd rfl (Or.inl rfl)
 case' Nf=>refine' ah ?Nl
 case' Nl=>refine' bB ?Nm
 case' Nm=>refine' nu BC AR hr (pv 0) ?Nn
 case' Nn=>refine' pa (pv 3) ?No
 case' No=>refine' pa ?Np ae
 case' Np=>refine' ao BY hr ?Nq
 case' Nq=>refine' pa ?Nr ?Ns
 case Nr=>exact aG az (pv 2) ac (fun _ _=>rfl)
 case' Ns=>refine' pa ?Nt ae
 case Nt=>exact aG az (pv 2) ac (fun _ _=>rfl)
 refine ⟨_,rfl,.inr (.inl ⟨a,_,4,v2,rfl,rfl,ha.sq,a4,_,rfl,.inl ⟨fa,fvs2,2,u2,rfl,rfl,hs2,eu2,_,rfl,.inr (.inl ⟨a,_,3,v1,rfl,rfl,ha.sq,a3,_,rfl,.inl ⟨fa,fvs,1,u1,rfl,rfl,hs,eu1,?_⟩⟩)⟩⟩)⟩
 refine ⟨v2,u2,v1,u1,n2.tn,n1.tn,_,_,rfl,rv2,w2,rv1,w1,ru2,ru1,(kgD 2).wf,(kgD 1).wf,by have:=(kgD 2).dep;omega,fun e H1 o1=>?_,fun way e d yv H1 o1 ry hd=>?_⟩
 ·have ha1:=ha.mono o1.tm
  refine ⟨_,rfl,.inr (.inl ⟨a,_,3,v1,rfl,rfl,ha1.sq,a3,_,rfl,.inr (.inl ⟨a,_,4,v2,rfl,rfl,ha1.sq,a4,sz 2,fun ta hta=>?_⟩)⟩)⟩
  have o2:=o1.trans (Old.new (o:=.tup [v1,v2]) hta)
  have ht2:Tp K (upd H1 ta (.tup [v1,v2])) ta [v1,v2]:=.of ad
  generalize upd H1 ta (.tup [v1,v2])=H2 at o2 ht2 ⊢
  have lk2:=lk.old o2
  have hf2:=hf.old o2
  refine ⟨ta,rfl,.inr ⟨⟨_,ht2.sq⟩,?_⟩⟩
  refine eP (n:=2) (fun i σ H5=>∃ (k:Option V) (ws':List (Key×V)),σ = [some (.ref L),some (.ref a),some (.ref fa),k]∧Out kd wd H2 H5∧bX C H5 L kd wd ks ws'∧ws'.length≤ws.length+i) ⟨none,ws,rfl,Out.refl,lk2,Nat.le_refl _⟩ ?_ ?_ ?_ ?_
  ·intro i σ H5 hi hv
   obtain ⟨k,ws',rfl,o5,lk5,l5⟩:=hv
   exact ⟨_,_,(ht2.mono (Out.tm lk2 o5)).sq,List.getElem?_eq_getElem (by show i<2;omega)⟩
  ·intro σ H5 hv
   obtain ⟨k,ws',rfl,o5,lk5,l5⟩:=hv
   exact ⟨_,(ht2.mono (Out.tm lk2 o5)).sq,Nat.le_refl _⟩
  ·intro i σ H5 hi hv y H6 hy
   obtain ⟨k,ws',rfl,o5,lk5,l5⟩:=hv
   obtain ⟨e1,hyx⟩:=hy
   subst e1
   have ey:=hyx _ ((ht2.mono (Out.tm lk2 o5)).sq)
   have tm5:=Out.tm lk2 o5
   obtain ⟨n,rn⟩:∃ n:Tn,RK K H6 n.d y:=by
    match i,hi,ey with
    | 0,_,ey=>cases ey;exact ⟨_,(rv1.mono o2.tm).mono tm5⟩
    | 1,_,ey=>cases ey;exact ⟨_,(rv2.mono o2.tm).mono tm5⟩
   obtain ⟨dx,hi5⟩:=lk5.hi
   have hf5:=Out.fnd lk2 o5 hf2
   obtain ⟨fvs5,y1,hs5,_,ey1,ry1⟩:=hf5.get (i:=1) (by omega)
   obtain ⟨fvs6,y2,hs6,_,ey2,ry2⟩:=hf5.get (i:=2) (by omega)
   refine ⟨_,rfl,L,dx,_,rfl,hi5,lkN _ (by nofun),_,rfl,_,rfl,.inl ⟨fa,fvs5,1,y1,rfl,rfl,hs5,ey1,_,rfl,.inl ⟨fa,fvs6,2,y2,rfl,rfl,hs6,ey2,?_⟩⟩⟩
   refine ⟨y1,y2,(g[1]?).getD qK,(g[2]?).getD qK,rfl,ry1,ry2,i6 (kgD 1).wf,i6 (kgD 2).wf,by have:=(kgD 1).dep;omega,fun jv H7 o7 r7=>?_⟩
   have lk7:=lk5.old o7
   refine ⟨L,kd,wd,ks,ws',y,jv,n,rfl,lk7,by omega,rn.mono o7.tm,?_⟩
   exact ⟨_,_,rfl,(o5.trans (Out.old o7)).trans Out.putW,lk7.putW,Nat.le_trans (aR _ _ _) (by omega)⟩
  ·intro σ H5 hv
   obtain ⟨k,ws',rfl,o5,lk5,l5⟩:=hv
   exact qn e ws' H5 ((Out.old o2).trans o5) lk5 l5
 ·rw [vP,vP] at hd
  exact qe way e d H1 o1 ⟨u2,u1,yv,ru2.mono o1.tm,ru1.mono o1.tm,ry,hd⟩
theorem bK {tt:TT} {ta tb:TS} {D:fJ} {σ:St} {H:Hp} (B:Prop) [Decidable B] (h:∀ R:Bool→Hp→Prop,R (decide B) H→tt σ H R) (h1:B→ta D σ H) (h2:¬ B→tb D σ H):tZ tt ta tb D σ H:=h _ (by
 by_cases c:B
 ·rw [decide_eq_true c];exact br (h1 c)
 ·rw [decide_eq_false c];exact bf (h2 c))
abbrev jN:Stmt:=gu (top 37) 2
def plK (ps:List Tk):Int:=((ps[1]?).map Tk.p).getD 0
def nR (K:W.Frag) (C Cp:Addr):Sp:=fun vs H Q E=>∃ (L kd wd fa:Addr) (ks ws:List (Key×V)) (tv nv:V) (t n:Tk) (g:List Kn),vs = [.ref L,tv,nv,.ref fa]∧bX C H L kd wd ks ws∧ws.length≤990∧RK K H t.tn.d tv∧t.tn.wf∧RK K H n.tn.d nv∧n.tn.wf∧Fd K H fa g∧g≠[]∧(∀ k∈g,Kg k 4)∧(∀ k∈t.ks,Kg k 4) ∧
 (t.w = "call"→g.length=2→(g.headD qK).hd = "?"∨(g.headD qK).hd = "to")∧(t.w = "if"→g.length=3→t.ps[2]? = some n) ∧
 (bU t.w t.p (plK t.ps) n.p t.ks g=none→∀ ws' H',Out kd wd H H'→bX C H' L kd wd ks ws'→ws'.length≤ws.length+2→Q .non H') ∧
 (∀ r,bU t.w t.p (plK t.ps) n.p t.ks g=some r→∀ d H',Old H H'→RfR K H' d r→(∀ z,qU Cp z r=Cp)→E (.ref Cp) (some d) H')
theorem tJ:aA ["self","tree","node","found","kind"] ["self","tree","node","found"] (au jN):=⟨rfl,rfl,rfl,by nofun,rfl,by nofun,by nofun⟩
theorem uN {m:Nat} {C Cp:Addr} (F:Fun K "hold" "Looker.hold" jN f fd) (T:Tx mg) (AR:Cls K C) (BC:qQ P w K mg base C "want" ["self","node","kind"] 1 (iV K C)) (Bo:eL P w K mg base C "hold_choice" ["self","tree","found"] 11 (yd K C Cp)) (Br:Cal P w K mg base "wanted_kind" ["tree","found"] 4 (yk K))
 (AY:dw P w K mg base "need_same" ["node","kind","against","wanted"] 10 (vH K Cp)):aY P w K mg base (CXF P w) (m+12) f fd ["self","tree","node","found"] (nR K C Cp):=by
 refine cI F tJ (fun vs H Q E h=>?_) (fun cdv A outer s H vs Q E hr h=>?_)
 ·obtain ⟨L,kd,wd,fa,ks,ws,tv,nv,t,n,g,rfl,_⟩:=h
  rfl
 obtain ⟨L,kd,wd,fa,ks,ws,tv,nv,t,n,g,rfl,lk,few,rt,wt,rn,wn,hf,gn,kg,kks,hc,h3,qn,qe⟩:=h
 have nd:=tJ.nd
 obtain ⟨x,p,fr,cs,ps⟩:=t
 have rt':RK K H (Tn.mk x p fr (Kn.ds cs) (Tk.tns ps)).d tv:=rt
 obtain ⟨⟨hx,lf,lm,lp,_⟩,_⟩:=(show (Tn.mk x p fr (Kn.ds cs) (Tk.tns ps)).wf from wt)
 rw [aF] at lp
 obtain ⟨a,uf,um,up,rfl,ha,_⟩:=RK.node rt'
 have qn':bU x p (plK ps) n.p cs g=none→∀ ws' H',Out kd wd H H'→bX C H' L kd wd ks ws'→ws'.length≤ws.length+2→Q .non H':=qn
 have qe':∀ r,bU x p (plK ps) n.p cs g=some r→∀ d H',Old H H'→RfR K H' d r→(∀ z,qU Cp z r=Cp)→E (.ref Cp) (some d) H':=qe
 have kgD:∀ i,Kg ((g[i]?).getD qK) 4:=fun i=>dM (by omega) kg i
 have kgl:Kg (g.getLastD qK) 4:=kE (by omega) kg
 have kw:Kg (bG x cs g) 4:=uF kks kg
 obtain ⟨fvs,hfa,rfs⟩:=hf.ex
 have hs:SqL K H fa fvs:=SqL.of hfa
 have ll:=rfs.length
 rw [aZ] at ll
 have len3:decide ((fvs.length:Int)=3)=decide (g.length=3):=decide_eq_decide.mpr ⟨fun e=>by omega,fun e=>by omega⟩
 obtain ⟨dx,hi⟩:=lk.hi
 refine' ⟨_,?n0,?Z⟩
 case' n0=>refine' ah ?N1
 case' N1=>refine' aC ?N2 ?N3 ?N4
 case' N2=>refine' PW.pt ?N5
 case' N5=>refine' bE ?N6 ?N7
 case' N6=>refine' ak (ax hr) ?N8 ai (aq _)
 case N8=>exact aG az (pv 1) ac (fun _ _=>rfl)
 case N7=>exact bC (ak (ax hr) (aM (bh) rfl T.len boot_len (pa (pv 3) ae)) ac (aq _))
 case' N3=>refine' ah ?N9
 case' N9=>refine' bB ?Na
 case Na=>exact gU Bo AR hr (pv 0) (pa (pv 1) (pa (pv 3) ae))
 case' N4=>refine' ag ?Nb ?Nc
 case Nb=>exact psX 4 nd (ao Br hr (pa (pv 1) (pa (pv 3) ae)))
 case' Nc=>refine' ag ?Nd ?Ne
 case' Nd=>refine' bB ?Nf
 case' Nf=>refine' cY AY hr ?Ng
 case' Ng=>refine' pa (pv 2) ?Nh
 case' Nh=>refine' pa ?Ni (pa (pv 1) (pa (pv 4) ae))
 case' Ni=>refine' aG az (pv 3) ?Nj (fun _ _=>rfl)
 case Nj=>exact ww uc ac
 case' Ne=>refine' ah ?Nk
 case' Nk=>refine' bB ?Nl
 case Nl=>exact nu BC AR hr (pv 0) (pa (pv 2) (pa (pv 4) ae))
 have rest:¬ (x = "if"∧g.length=3)→bU x p (plK ps) n.p cs g=((g.getLastD qK).part (bG x cs g)).map (fun way=>.par n.p (g.getLastD qK) p (bG x cs g) way):=fun z=>by unfold bU;exact if_neg z
 refine bK (x = "if"∧g.length=3) (fun R hR=>?_) (fun c=>?_) (fun c=>?_)
 ·refine ⟨_,rfl,.inr (.inl ⟨a,_,0,.str x,rfl,rfl,ha.sq,at0,.inr (.inl ⟨rfl,_,rfl,?_⟩)⟩)⟩
  rw [ba]
  by_cases c1:x = "if"
  ·rw [decide_eq_true c1]
   refine br ⟨_,rfl,.inl ⟨fa,fvs,rfl,.inl hs,.inr (.inl ⟨rfl,_,rfl,?_⟩)⟩⟩
   rw [cg,len3]
   rw [show decide (x = "if"∧g.length=3)=decide (g.length=3) from decide_eq_decide.mpr ⟨fun z=>z.2,fun z=>⟨c1,z⟩⟩] at hR
   exact hR
  ·rw [decide_eq_false c1]
   rw [decide_eq_false (show ¬ (x = "if"∧g.length=3) from fun z=>c1 z.1)] at hR
   exact bf hR
 ·obtain ⟨c1,c2⟩:=c
  have lp3:=lp (by rw [c1];decide +kernel)
  rw [c1,ml.2.2.2.2.2.2.1] at lp3
  obtain ⟨n0,n1,n2,rfl⟩:=t6 lp3
  have en:n2=n:=Option.some.inj (h3 c1 c2)
  have eh:bU x p (plK [n0,n1,n2]) n.p cs g=(((g[2]?).getD qK).part ((g[1]?).getD qK)).map fun way=>.par n.p ((g[2]?).getD qK) n1.p ((g[1]?).getD qK) way:=by unfold bU;exact if_pos ⟨c1,c2⟩
  refine ⟨_,rfl,L,dx,_,rfl,hi,lkN _ (by nofun),_,rfl,_,rfl,?_⟩
  refine ⟨L,kd,wd,fa,ks,ws,.ref a,Tk.mk x p fr cs [n0,n1,n2],n0,n1,n2,g,rfl,lk,few,rt,wt,c1,rfl,hf,c2,kg,fun e ws' H' o l1 l2=>qn' (by rw [eh,e];rfl) ws' H' o l1 l2,fun way e d H' o r=>qe' (.par n.p ((g[2]?).getD qK) n1.p ((g[1]?).getD qK) way) (by rw [eh,e];rfl) d H' o (by rw [← en];exact r) (fun _=>rfl)⟩
 ·have eh:=rest c
  refine ⟨_,rfl,_,rfl,.ref a,fa,Tk.mk x p fr cs ps,g,rfl,rt,wt,hf,gn,kg,hc,fun wv H1 o1 rw1=>?_⟩
  obtain ⟨fvs2,u2,hs2,_,eu2,ru2⟩:=(hf.old o1).last gn
  refine ⟨nv,rfl,_,rfl,_,rfl,.inl ⟨fa,fvs2,-1,u2,rfl,rfl,hs2,eu2,_,rfl,_,rfl,?_⟩⟩
  refine ⟨nv,u2,.ref a,wv,n.tn,(Tk.mk x p fr cs ps).tn,g.getLastD qK,bG x cs g,rfl,rn.mono o1.tm,wn,rt.mono o1.tm,wt,ru2,rw1,kgl.wf,kw.wf,by have:=kgl.dep;omega,fun e H2 o2=>?_,fun way e d yv H2 o2 ry hd=>?_⟩
  ·have lk2:=(lk.old o1).old o2
   obtain ⟨dx,hi⟩:=lk2.hi
   refine ⟨_,rfl,L,dx,_,rfl,hi,lkN _ (by nofun),_,rfl,_,rfl,L,kd,wd,ks,ws,nv,wv,n.tn,rfl,lk2,by omega,(rn.mono o1.tm).mono o2.tm,?_⟩
   exact qn' (by rw [eh,e];rfl) _ _ ((Out.old (o1.trans o2)).trans Out.putW) lk2.putW (Nat.le_trans (aR _ _ _) (by omega))
  ·rw [vP,vP] at hd
   exact qe' (.par n.p (g.getLastD qK) p (bG x cs g) way) (by rw [eh,e];rfl) d H2 (o1.trans o2) ⟨u2,wv,yv,ru2.mono o2.tm,rw1.mono o2.tm,ry,hd⟩ (fun _=>rfl)
theorem bX.upd {C L kd wd b:Addr} {H:Hp} {ks ws:List (Key×V)} {o:HO} (l:bX C H L kd wd ks ws) (n1:L≠b) (n2:kd≠b) (n3:wd≠b):bX C (upd H b o) L kd wd ks ws:=
 ⟨let ⟨dx,e⟩:=l.hi;⟨dx,by rw [aj n1];exact e⟩,by rw [aj n2];exact l.hk,by rw [aj n3];exact l.hw,l.hn⟩
theorem oV {ks:List Kn} {us:List V} {H:Hp} {i:Nat} {v:V} (h:RKs K H (Kn.ds ks) us) (e:us[i]? = some v):∃ hi:i<ks.length,RK K H ks[i].d v:=by
 obtain ⟨d,ed,rd⟩:=h.getV e
 have hi:i<ks.length:=by
  have:=(List.getElem?_eq_some_iff.mp ed).1
  rw [aZ] at this
  exact this
 rw [de hi] at ed
 cases ed
 exact ⟨hi,rd⟩
theorem lh:∀ {ks:List Kn} {k:Kn},k∈ks→Kn.wfs ks→k.wf
 | _ :: _,_,.head _,h=>h.1
 | _ :: _,_,.tail _ m,h=>lh m h.2
theorem lM:∀ {ks:List Kn} {k:Kn},k∈ks→k.dep≤Kn.deps ks
 | k :: r,_,.head _=>by show k.dep≤max k.dep (Kn.deps r);omega
 | k :: r,z,.tail _ m=>by
   have:=lM m
   show z.dep≤max k.dep (Kn.deps r);omega
theorem wR (g:List Kn) (k:Kn):Kn.ds (g ++ [k])=Kn.ds g ++ [k.d]:=by
 induction g with
 | nil=>rfl
 | cons a r ih=>show a.d :: Kn.ds (r ++ [k])=a.d :: (Kn.ds r ++ [k.d]);rw [ih]
abbrev jO:Stmt:=gu (top 37) 1
structure Lkb (t:Tk) (e:Nv) (bs:List Str):Prop where
 wf:t.tn.wf
 ok:t.ok
 dos:t.dos
 eok:e.ok
 has:e.has bs
 free:t.tn.frees bs = []
def fZ (K:W.Frag) (C Cp Ct:Addr) (m:Nat):Sp:=fun vs H Q E=>∃ (L kd wd b:Addr) (ks ws kvs:List (Key×V)) (tv:V) (t:Tk) (e:Nv) (bs:List Str),vs = [.ref L,tv,.ref b]∧bX C H L kd wd ks ws∧b≠kd∧b≠wd∧ks.length+t.cnt≤980∧ws.length+2 * t.cnt≤980∧RK K H t.tn.d tv∧Lkb t e bs∧H b=some (.dK kvs)∧kvs.length+2 * t.tn.dep≤1000∧gI K H kvs e∧t.tn.dep≤m ∧
 (∀ k,t.lk e = .ok k→Kg k 4→∀ kv ks' ws' H',Out kd wd H H'→bX C H' L kd wd (putK ks' (.inl t.p) kv) ws'→(putK ks' (.inl t.p) kv).length≤ks.length+t.cnt→ws'.length+2≤ws.length+2 * t.cnt→RK K H' k.d kv→Q kv H') ∧
 (∀ r,t.lk e = .error r→∀ d H',Out kd wd H H'→RfR K H' d r→E (.ref (qU Cp Ct r)) (some d) H')
theorem tN:aA ["self","tree","bound","kind","found","number","node","own"] ["self","tree","bound"] (au jO):=⟨rfl,rfl,rfl,by nofun,rfl,by nofun,by nofun⟩
theorem uO {m:Nat} {C Cp Ct:Addr} (F:Fun K "look" "Looker.look" jO f fd) (T:Tx mg) (AR:Cls K C) (a_kinds:b7 K C "kinds") (F8:eL P w K mg base C "hold" ["self","tree","node","found"] 12 (nR K C Cp)) (CY:eL P w K mg base C "look" ["self","tree","bound"] (m+12) (fZ K C Cp Ct m))
 (CP:Cal P w K mg base "written" ["tree"] 3 (ym K)) (A0:dw P w K mg base "need_shallow" ["tree","kind"] 11 (yg K Ct)) (A1:Cal P w K mg base "parts" ["tree"] 3 (g9 K)) (Bb:Cal P w K mg base "bound_within" ["tree","number","found","bound"] 1 (yc K)) (Cs:Cal P w K mg base "own_kind" ["tree","found","bound"] 10 (yj K)) :
 aY P w K mg base (CXF P w) (m+13) f fd ["self","tree","bound"] (fZ K C Cp Ct (m+1)):=by
 refine cI F tN (fun vs H Q E h=>?_) (fun cdv A outer s H vs Q E hr h=>?_)
 ·obtain ⟨L,kd,wd,b,ks,ws,kvs,tv,t,e,bs,rfl,_⟩:=h
  rfl
 obtain ⟨L,kd,wd,b,ks,ws,kvs,tv,t,e,bs,rfl,lk,nbk,nbw,fk,fw,rt,N,hb,lkv,he,hd,qk,qr⟩:=h
 have nd:=tN.nd
 obtain ⟨x,p,fr,cs,ps⟩:=t
 have rt':RK K H (Tn.mk x p fr (Kn.ds cs) (Tk.tns ps)).d tv:=rt
 have wt:=N.wf
 obtain ⟨⟨hx,lf,lm,lp,l5p,hn,hp01⟩,wps⟩:=(show (Tn.mk x p fr (Kn.ds cs) (Tk.tns ps)).wf from N.wf)
 obtain ⟨⟨wks,dks,flt,nlk⟩,oks⟩:=N.ok
 obtain ⟨hdo,doss⟩:=N.dos
 obtain ⟨fnm,fps⟩:=rM N.free
 have hcnt:(Tk.mk x p fr cs ps).cnt=1+Tk.cnts ps:=rfl
 have hdep:(Tk.mk x p fr cs ps).tn.dep=1+Tn.deps (Tk.tns ps):=rfl
 rw [hcnt] at fk fw
 rw [hdep] at lkv hd
 rw [aF] at lp l5p
 have nm1:x∈eM→fr=(txs fr).map Dk.str∧(txs fr).length=K11.nf x:=fun z=>by
  obtain ⟨ns,rfl⟩:=hn z
  rw [fE]
  exact ⟨rfl,by rw [List.length_map] at lf;exact lf⟩
 obtain ⟨a,uf,um,up,rfl,ha,_⟩:=RK.node rt'
 obtain ⟨dx0,hi0⟩:=lk.hi
 refine' ⟨_,?n0,?Z⟩
 case' n0=>refine' ag ?N1 ?N2
 case' N1=>refine' gX rfl ?N3 ?N4 ?N5
 case N3=>exact dl (ao CP hr (pa (pv 1) ae))
 case N4=>exact aV (i:=3) nd rfl (Or.inl rfl)
 case' N5=>refine' ah ?N6
 case' N6=>refine' bB ?N7
 case N7=>exact cY A0 hr (pa (pv 1) (pa (pv 3) ae))
 case' N2=>refine' ag ?N8 ?N9
 case N8=>exact psX 4 nd (bY ae)
 case' N9=>refine' ag ?Na ?Nb
 case' Na=>refine' gX rfl ?Nc ?Nd ?Ne
 case Nc=>exact fz rfl T.enumerate (pa (ao A1 hr (pa (pv 1) ae)) ae)
 case' Nd=>refine' iN rfl ?Nf
 case' Nf=>refine' bQ ?Ng ?Nh
 case Ng=>exact aV (i:=5) nd rfl (Or.inl rfl)
 case' Nh=>refine' bQ ?Ni fu
 case Ni=>exact aV (i:=6) nd rfl (Or.inl rfl)
 case' Ne=>refine' ag ?Nj ?Nk
 case' Nj=>refine' bB ?Nl
 case' Nl=>refine' jK PySem.F.plainAttrs_list PySem.F.slot_list_append PySem.F.type_list_append cL (pv 4) ?Nm
 case' Nm=>refine' pa ?Nn ae
 case Nn=>exact gU CY AR hr (pv 0) (pa (pv 6) (pa (ao Bb hr (pa (pv 1) (pa (pv 5) (pa (pv 4) (pa (pv 2) ae))))) ae))
 case' Nk=>refine' ah ?No
 case' No=>refine' bB ?Np
 case Np=>exact gU F8 AR hr (pv 0) (pa (pv 1) (pa (pv 6) (pa (pv 4) ae)))
 case' Nb=>refine' ag ?Nq ?Nr
 case Nq=>exact psX 7 nd (ao Cs hr (pa (pv 1) (pa (pv 4) (pa (pv 2) ae))))
 case' Nr=>refine' ag ?Ns ?Nt
 case' Ns=>refine' bB ?Nu
 case Nu=>exact cY A0 hr (pa (pv 1) (pa (pv 7) ae))
 case' Nt=>refine' ag ?Nv ?Nw
 case' Nv=>refine' cy hr.u1 (kJ (pv 0) rfl) ?Nx (pv 7) rfl
 case Nx=>exact aG az (pv 1) ac (fun _ _=>rfl)
 case' Nw=>refine' ah ?Ny
 case Ny=>exact ar (pv 7)
 refine ⟨_,rfl,.ref a,(Tk.mk x p fr cs ps).tn,rfl,rt,wt,nlk,fun r us H1 o1 hr0 hr1 rus=>⟨r,rfl,.inl ⟨⟨_,SqL.of hr1⟩,?_⟩⟩⟩
 have rus':RKs K H1 (Kn.ds cs) us:=rus
 have lus:=rus'.length
 rw [aZ] at lus
 refine eP (n:=us.length) (fun i σ H2=>∃ (k3:Option V),σ = [some (.ref L),some (.ref a),some (.ref b),k3,none,none,none,none]∧Old H1 H2∧∀ (j:Nat) (hj:j<cs.length),j<i→cs[j].dep≤4) ⟨none,rfl,Old.refl _,fun j _ z=>absurd z (Nat.not_lt_zero _)⟩ ?_ ?_ ?_ ?_
 ·intro i σ H2 hi hv
  obtain ⟨k3,rfl,o2,_⟩:=hv
  exact ⟨_,_,SqL.of (o2 _ _ hr1),List.getElem?_eq_getElem hi⟩
 ·intro σ H2 hv
  obtain ⟨k3,rfl,o2,_⟩:=hv
  exact ⟨_,SqL.of (o2 _ _ hr1),Nat.le_refl _⟩
 ·intro i σ H2 hi hv y H3 hy
  obtain ⟨k3,rfl,o2,lo⟩:=hv
  obtain ⟨e1,hyx⟩:=hy
  subst e1
  have ey:=hyx _ (SqL.of (o2 _ _ hr1))
  obtain ⟨hz,rz⟩:=oV rus' ey
  have mem:cs[i]∈cs:=List.getElem_mem hz
  refine ⟨_,rfl,_,rfl,_,y,(Tk.mk x p fr cs ps).tn,cs[i],rfl,rt.mono (o1.trans o2).tm,wt,rz.mono o2.tm,i6 (lh mem wks),by have:=lM mem;omega,fun c4 H4 o4=>⟨_,rfl,o2.trans o4,fun j hj lj=>?_⟩,fun c4 d H4 o4 hd4=>?_⟩
  ·by_cases c:j<i
   ·exact lo j hj c
   ·obtain rfl:j=i:=by omega
    omega
  ·refine qr (.deep p) ?_ d H4 (Out.old ((o1.trans o2).trans o4)) hd4
   rw [gB,if_pos (List.any_eq_true.mpr ⟨_,mem,decide_eq_true c4⟩)]
 intro σ H2 hv
 obtain ⟨k3,rfl,o2,lo⟩:=hv
 have kcs:∀ k∈cs,Kg k 4:=fun k hk=>by
  obtain ⟨j,hj,ej⟩:=List.getElem_of_mem hk
  have:=lo j hj (by omega)
  rw [ej] at this
  exact ⟨lh hk wks,this⟩
 have elk:(Tk.mk x p fr cs ps).lk e=match Tk.lks x p (plK ps) fr cs ps 0 e [] with
  | .error r=>.error r
  | .ok f=>if 4<(bH x fr cs f e).dep then .error (.deep p) else .ok (bH x fr cs f e):=by
  rw [gB,if_neg]
  ·rfl
  ·intro z
   obtain ⟨k,hk,dk⟩:=List.any_eq_true.mp z
   have:=(kcs k hk).dep
   have:=of_decide_eq_true dk
   omega
 refine ⟨sz 0,fun fa hfa=>?_⟩
 have o3:Old H (upd H2 fa (.lst [])):=(o1.trans o2).trans (Old.new hfa)
 have hf3:upd H2 fa (.lst []) fa=some (.lst []):=ad
 have hfa0:H fa=none:=(o1.trans o2).free hfa
 have nL:L≠fa:=al hi0 hfa0
 have nK:kd≠fa:=al lk.hk hfa0
 have nW:wd≠fa:=al lk.hw hfa0
 have nB:b≠fa:=al hb hfa0
 revert o3 hf3
 generalize upd H2 fa (.lst [])=H3
 intro o3 hf3
 refine ⟨_,rfl,.ref a,(Tk.mk x p fr cs ps).tn,rfl,rt.mono o3.tm,wt,fun r2 us2 H4 o4 hr4 hr5 rus2=>⟨r2,us2,rfl,hr5,?_⟩⟩
 have rus3:RKs K H4 (Tn.ds (Tk.tns ps)) us2:=rus2
 have l2:ps.length=us2.length:=by
  have:=rus3.length
  rw [bq,aF] at this
  exact this
 have o5:=o3.trans o4
 have lk4:=lk.old o5
 have nr2:r2≠fa:=fun z=>by rw [z,hf3] at hr4;cases hr4
 have out4:Out kd wd H H4:=Out.old o5
 refine eP (n:=us2.length) (fun i σ H5=>∃ (k5 k6:Option V) (g:List Kn) (ks5 ws5:List (Key×V)),σ = [some (.ref L),some (.ref a),some (.ref b),k3,some (.ref fa),k5,k6,none]∧Out kd wd H H5∧Tm H4 H5∧H5 r2=some (.lst us2)∧bX C H5 L kd wd ks5 ws5∧Fd K H5 fa g∧g.length=i∧(∀ k∈g,Kg k 4)∧(g≠[]→Fit x g)∧Tk.lks x p (plK ps) fr cs ps 0 e []=Tk.lks x p (plK ps) fr cs (ps.drop i) i e g∧ks5.length+Tk.cnts (ps.drop i)≤ks.length+Tk.cnts ps∧ws5.length+2 * Tk.cnts (ps.drop i)≤ws.length+2 * Tk.cnts ps) ⟨none,none,[],ks,ws,rfl,out4,fun _ _ z=>z,hr5,lk4,⟨⟨[],o4 _ _ hf3,rfl⟩⟩,rfl,fun k z=>(nomatch z),fun z=>absurd rfl z,rfl,Nat.le_refl _,Nat.le_refl _⟩ ?_ ?_ ?_ ?_
 ·intro i σ H5 hi hv
  obtain ⟨k5,k6,g,ks5,ws5,rfl,out5,tm5,h2,_⟩:=hv
  exact ⟨_,SqL.of h2,hi⟩
 ·intro σ H5 hv
  obtain ⟨k5,k6,g,ks5,ws5,rfl,out5,tm5,h2,_⟩:=hv
  exact ⟨_,SqL.of h2,rfl⟩
 ·intro i σ H5 hi hv z H6 hy
  obtain ⟨k5,k6,g,ks5,ws5,rfl,out5,tm5,h2,lk5,hf5,lg,kg,fit,elks,fk5,fw5⟩:=hv
  have hi':i<ps.length:=by omega
  obtain ⟨T4,uv,rfl,hT4,rfl,hyx⟩:=hy
  have eu:us2[i]? = some uv:=hyx _ (SqL.of h2)
  have rn:RK K H4 ps[i].tn.d uv:=by
   obtain ⟨d,ed,rd⟩:=rus3.getV eu
   have e1:(Tk.tns ps)[i]'(by rw [aF];exact hi')=ps[i].tn:=by
    have:=le hi'
    rw [List.getElem?_eq_getElem (by rw [aF];exact hi')] at this
    exact Option.some.inj this
   rw [hU (by rw [aF];exact hi'),e1] at ed
   cases ed
   exact rd
  refine ⟨T4,_,rfl,SqT.of ad,rfl,_,_,rfl,_,_,rfl,rfl,?_⟩
  have o6:Old H5 (upd H5 T4 (.tup [.int (i:Int),uv])):=Old.new hT4
  revert o6
  generalize upd H5 T4 (.tup [.int (i:Int),uv])=H6
  intro o6
  have out6:=out5.trans (Out.old o6)
  have tm6:Tm H4 H6:=fun c xs e=>o6 _ _ (tm5 c xs e)
  have lk6:=lk5.old o6
  have hf6:=hf5.old o6
  have hb6:H6 b=some (.dK kvs):=out6 b _ nbk nbw hb
  have tmH6:Tm H H6:=Out.tm lk out6
  obtain ⟨dx,hi6⟩:=lk6.hi
  obtain ⟨fv6,hfv6,_⟩:=hf6.ex
  refine ⟨_,rfl,.inl ⟨rfl,_,SqL.of hfv6⟩,_,rfl,L,dx,_,rfl,hi6,lkN _ (by nofun),_,rfl,_,rfl,_,rfl,_,rfl,_,rfl,?_⟩
  refine ⟨.ref a,Tk.mk x p fr cs ps,i,fa,b,g,kvs,e,rfl,rt.mono tmH6,wt,hf6,(fun _ z1 z2=>by rw [z2,z1] at lg;cases lg),hb6,by omega,he.mono tmH6,fun r3 kvs' H7 o7 hr3 hr3' lkv' he7=>?_⟩
  have lk7:=lk6.old o7
  have out7:=out6.trans (Out.old o7)
  have tm7:Tm H4 H7:=fun c xs e=>o7 _ _ (tm6 c xs e)
  have hf7:=hf6.old o7
  have rn7:=rn.mono tm7
  have cd:=pV hi'
  have dn:=jE hi'
  have cp:=uw ps[i]
  have h27:H7 r2=some (.lst us2):=o7 _ _ (o6 _ _ h2)
  have elk2:Tk.lks x p (plK ps) fr cs (ps.drop i) i e g=match ps[i].lk (bwK x fr cs g i e) with
   | .error r=>.error r
   | .ok k=>match bU x p (plK ps) ps[i].p cs (g ++ [k]) with
     | some r=>.error r
     | none=>Tk.lks x p (plK ps) fr cs (ps.drop (i+1)) (i+1) e (g ++ [k]):=by
   rw [List.drop_eq_getElem_cons hi']
   exact dE _ _ _ _ _ _ _ _ _ _
  refine ⟨L,kd,wd,r3,ks5,ws5,kvs',uv,ps[i],bwK x fr cs g i e,bs ++ bnd x (txs fr) i,rfl,lk7,Ne.symm (al lk6.hk hr3),Ne.symm (al lk6.hw hr3),by omega,by omega,rn7,⟨iF hi' wps,mo hi' oks,lP hi' doss,yZ kcs kg N.eok,wV N.has nm1,fps hi'⟩,hr3',by omega,he7,by omega,fun k ek kgk kv ks8 ws8 H8 out8 lk8 l8 l8w rk=>?_,fun r er d H8 out8 rf=>?_⟩
  ·have hf8:=Out.fnd lk7 out8 hf7
   obtain ⟨fvs,hfa8,rfs8⟩:=hf8.ex
   have lfv:=rfs8.length
   rw [aZ] at lfv
   refine ⟨fa,fvs,kv,rfl,rfl,hfa8,bA (by omega),?_⟩
   have h28:H8 r2=some (.lst us2):=out8 r2 _ (fun z=>by rw [z,lk7.hk] at h27;cases h27) (fun z=>by rw [z,lk7.hw] at h27;cases h27) h27
   have tm8:Tm H7 H8:=Out.tm lk7 out8
   have tm9:Tm H8 (upd H8 fa (.lst (fvs ++ [kv]))):=fun c xs e=>by rw [aj (fun z=>by rw [z,hfa8] at e;cases e)];exact e
   have lk9:bX C (upd H8 fa (.lst (fvs ++ [kv]))) L kd wd _ ws8:=lk8.upd nL nK nW
   have h29:upd H8 fa (.lst (fvs ++ [kv])) r2=some (.lst us2):=by rw [aj nr2];exact h28
   have fd9:Fd K (upd H8 fa (.lst (fvs ++ [kv]))) fa (g ++ [k]):=⟨⟨_,ad,by
    rw [wR]
    exact RKs.append (rfs8.mono tm9) (.cons (rk.mono tm9) .nil)⟩⟩
   have out9:Out kd wd H (upd H8 fa (.lst (fvs ++ [kv]))):=fun c o n1 n2 e=>by
    rw [aj (al e hfa0)]
    exact (out7.trans out8) c o n1 n2 e
   have tm49:Tm H4 (upd H8 fa (.lst (fvs ++ [kv]))):=fun c xs e=>tm9 _ _ (tm8 _ _ (tm7 c xs e))
   revert lk9 h29 fd9 out9 tm49
   generalize upd H8 fa (.lst (fvs ++ [kv]))=H9
   intro lk9 h29 fd9 out9 tm49
   have gl1:(g ++ [k]).length=i+1:=by rw [List.length_append,lg];rfl
   have gne:g ++ [k]≠[]:=by simp
   have kg':∀ z∈g ++ [k],Kg z 4:=fun z hz=>by
    rcases List.mem_append.mp hz with hz | hz
    ·exact kg z hz
    ·rw [List.mem_singleton.mp hz];exact kgk
   obtain ⟨dx1,hi9⟩:=lk9.hi
   have tmH9:Tm H H9:=Out.tm lk out9
   refine ⟨_,rfl,L,dx1,_,rfl,hi9,lkN _ (by nofun),_,rfl,_,rfl,_,rfl,?_⟩
   refine ⟨L,kd,wd,fa,_,ws8,.ref a,uv,Tk.mk x p fr cs ps,ps[i],g ++ [k],rfl,lk9,by omega,rt.mono tmH9,wt,rn.mono tm49,iF hi' wps,fd9,gne,kg',kcs,fun c1 c2=>?_,fun c1 c2=>?_,fun eh ws' H10 out10 lk10 lw=>?_,fun r eh d H10 o10 rf cl=>?_⟩
   ·have gn:g≠[]:=fun z=>by rw [z] at c2;cases c2
    have:=lQ gn k (fit gn) (.mk "to" [qK,qK]) (by rw [show x = "call" from c1];rfl)
    exact this
   ·rw [gl1] at c2
    obtain rfl:i=2:=by omega
    exact List.getElem?_eq_getElem hi'
   ·have eh':bU x p (plK ps) ps[i].p cs (g ++ [k])=none:=eh
    have h210:H10 r2=some (.lst us2):=out10 r2 _ (fun z=>by rw [z,lk9.hk] at h29;cases h29) (fun z=>by rw [z,lk9.hw] at h29;cases h29) h29
    have tm10:=Out.tm lk9 out10
    refine ⟨_,_,g ++ [k],_,ws',rfl,out9.trans out10,fun c xs e=>tm10 _ _ (tm49 c xs e),h210,lk10,Out.fnd lk9 out10 fd9,gl1,kg',fun _=>?_,?_,by omega,by omega⟩
    ·by_cases gn:g = []
     ·subst gn
      exact qb eh'
     ·exact lQ gn k (fit gn)
    ·rw [elks,elk2,ek]
     show (match bU x p (plK ps) ps[i].p cs (g ++ [k]) with | some r=>Except.error r | none=>Tk.lks x p (plK ps) fr cs (ps.drop (i+1)) (i+1) e (g ++ [k]))=_
     rw [eh']
   ·have eh':bU x p (plK ps) ps[i].p cs (g ++ [k])=some r:=eh
    have z:=qr r (by
     rw [elk,elks,elk2,ek]
     show (match (match bU x p (plK ps) ps[i].p cs (g ++ [k]) with | some r=>Except.error r | none=>Tk.lks x p (plK ps) fr cs (ps.drop (i+1)) (i+1) e (g ++ [k])) with | .error r=>Except.error r | .ok f=>if 4<(bH x fr cs f e).dep then .error (.deep p) else .ok (bH x fr cs f e))=_
     rw [eh']) d H10 (out9.trans (Out.old o10)) rf
    rw [cl Ct] at z
    exact z
  ·refine qr r ?_ d H8 (out7.trans out8) rf
   rw [elk,elks,elk2,er]
 ·intro σ H5 hv
  obtain ⟨k5,k6,g,ks5,ws5,rfl,out5,tm5,h2,lk5,hf5,lg,kg,fit,elks,fk5,fw5⟩:=hv
  rw [← l2,List.drop_length] at elks fk5 fw5
  rw [fi] at elks
  have c0:Tk.cnts []=0:=rfl
  rw [c0] at fk5 fw5
  have tmH5:=Out.tm lk out5
  have hb5:H5 b=some (.dK kvs):=out5 b _ nbk nbw hb
  have kgo:Kg (bH x fr cs g e) 5:=xg kcs kg N.eok
  refine ⟨_,rfl,_,rfl,_,rfl,.ref a,fa,b,Tk.mk x p fr cs ps,g,kvs,e,rfl,rt.mono tmH5,wt,nlk,hf5,lg.trans l2.symm,kg,?_,hdo,fun c=>N.has _ (fnm c),hb5,he.mono tmH5,fun kv H6 o6 rk=>?_⟩
  ·by_cases gn:g = []
   ·subst gn
    exact fun _ _=>.inl rfl
   ·exact fit gn
  have rk':RK K H6 (bH x fr cs g e).d kv:=rk
  refine ⟨_,rfl,_,rfl,.ref a,kv,(Tk.mk x p fr cs ps).tn,bH x fr cs g e,rfl,(rt.mono tmH5).mono o6.tm,wt,rk',i6 kgo.wf,by have:=kgo.dep;omega,fun c4 H7 o7=>?_,fun c4 d H7 o7 hd7=>?_⟩
  ·have oF:=o6.trans o7
   have lk7:=lk5.old oF
   obtain ⟨dx,hi⟩:=lk7.hi
   have pl:=aR ks5 (.inl p:Key) kv
   refine ⟨_,rfl,_,rfl,L,C,dx,_,.ref kd,rfl,hi,AR,a_kinds,lkK,_,rfl,.inr (.inl ⟨a,_,1,.int p,rfl,rfl,((ha.mono tmH5).mono oF.tm).sq,at1,kd,_,rfl,eX.k (k:=.inl p) lk7.hk (bA (by omega)),?_⟩)⟩
   have out8:Out kd wd H7 (upd H7 kd (.dK (putK ks5 (.inl p) kv))):=Out.putK
   have tm8:=Out.tm lk7 out8
   refine ⟨_,rfl,qk (bH x fr cs g e) ?_ ⟨kgo.wf,by omega⟩ kv ks5 ws5 _ ((out5.trans (Out.old oF)).trans out8) lk7.putK ?_ ?_ ((rk'.mono o7.tm).mono tm8)⟩
   ·rw [elk,elks]
    exact if_neg c4
   ·rw [hcnt]
    exact Nat.le_trans pl (by omega)
   ·rw [hcnt];omega
  ·refine qr (.deep p) ?_ d H7 (out5.trans (Out.old (o6.trans o7))) hd7
   rw [elk,elks]
   exact if_pos c4
abbrev xY:Stmt:=top 35
def nv0:Nv:=fun _=>none
structure Lkp (t:Tk):Prop where
 wf:t.tn.wf
 ok:t.ok
 dos:t.dos
 cnt:t.cnt≤400
 dep:t.tn.dep≤9
def pI (K:W.Frag) (Cp Ct Cn:Addr):Sp:=fun vs H Q E=>∃ (tv:V) (t:Tk),vs = [tv]∧RK K H t.tn.d tv∧Lkp t ∧
 (t.tn.frees [] = []→∀ k,t.lk nv0 = .ok k→Kg k 4→∀ r kd wd kv ks' ws' H',Old H H'→RK K H' k.d kv→H' r=some (.tup [.ref kd,.ref wd])→H' kd=some (.dK (putK ks' (.inl t.p) kv))→H' wd=some (.dK ws')→Q (.ref r) H') ∧
 (t.tn.frees [] = []→∀ r,t.lk nv0 = .error r→∀ d H',Old H H'→RfR K H' d r→E (.ref (qU Cp Ct r)) (some d) H')∧(∀ p n r,t.tn.frees []=(p,n) :: r→∀ d H',Old H H'→H' d=some (DO d [("place",.int p)])→E (.ref Cn) (some d) H')
theorem wD:aA ["tree","looker"] ["tree"] (au xY):=⟨rfl,rfl,rfl,by nofun,rfl,by nofun,by nofun⟩
theorem xo {m:Nat} {C Cp Ct Cn:Addr} (F:Fun K "looked" "looked" xY f fd) (T:Tx mg) (AR:Cls K C) (a_kinds:b7 K C "kinds") (a_wanted:b7 K C "wanted") (Du:wJ P w K mg base "Looker" C 1 (yf C)) (BC:qQ P w K mg base C "want" ["self","node","kind"] 1 (iV K C)) (CY:eL P w K mg base C "look" ["self","tree","bound"] 21 (fZ K C Cp Ct 9))
 (BF:dw P w K mg base "need_names" ["tree"] 15 (yh K Cn 10)):aY P w K mg base (CXF P w) (m+22) f fd ["tree"] (pI K Cp Ct Cn):=by
 refine cI F wD (fun vs H Q E h=>?_) (fun cdv A outer s H vs Q E hr h=>?_)
 ·obtain ⟨tv,t,rfl,_⟩:=h
  rfl
 obtain ⟨tv,t,rfl,rt,g,qn,qe,qf⟩:=h
 have nd:=wD.nd
 have gd:=g.dep
 have gc:=g.cnt
 refine' ⟨_,?n0,?Z⟩
 case' n0=>refine' ag ?N1 ?N2
 case' N1=>refine' bB ?N3
 case N3=>exact cY BF hr (pa (pv 0) ae)
 case' N2=>refine' ag ?N4 ?N5
 case' N4=>refine' psX 1 nd ?N6
 case N6=>exact xL Du hr
 case' N5=>refine' ag ?N7 ?N8
 case' N7=>refine' bB ?N9
 case' N9=>refine' nu BC AR hr (pv 1) ?Na
 case' Na=>refine' pa (pv 0) ?Nb
 case' Nb=>refine' pa ?Nc ae
 case Nc=>exact gU CY AR hr (pv 1) (pa (pv 0) (pa dG ae))
 case' N8=>refine' ah ?Nd
 case Nd=>exact ar (ap (pa (kJ (pv 1) rfl) (pa (kJ (pv 1) rfl) ae)))
 refine ⟨_,rfl,tv,t.tn,rfl,rt,g.wf,by omega,by omega,fun gf H1 o1=>?_,fun p n r z d H1 o1 h1=>qf p n r z d H1 o1 h1⟩
 have qn:=qn gf
 have qe:=qe gf
 refine fun L dx hL hdx ne=>⟨L,dx,rfl,ad,fun kd wd H2 hk hw keep lk=>⟨rfl,?_⟩⟩
 have o2:Old H1 H2:=fun b o e=>keep b o (al e hL) (by rw [aj (al e hL),aj (al e hdx)];exact e)
 obtain ⟨dx1,hi2⟩:=lk.hi
 refine ⟨_,rfl,L,dx1,_,rfl,hi2,lkN _ (by nofun),_,rfl,_,rfl,L,dx1,_,rfl,hi2,lkN _ (by nofun),_,rfl,fun b hb=>?_⟩
 have o3:Old H2 (upd H2 b (.dK [])):=Old.new hb
 have oB:=(o1.trans o2).trans o3
 have gone:∀ x,upd (upd H1 dx (.own L)) L (.ins C dx []) x=none→H x=none:=fun x h=>by
  have n1:x≠L:=fun z=>by rw [z,ad] at h;cases h
  rw [aj n1] at h
  have n2:x≠dx:=fun z=>by rw [z,ad] at h;cases h
  rw [aj n2] at h
  exact o1.free h
 have kd0:H kd=none:=gone kd hk
 have wd0:H wd=none:=gone wd hw
 have oOut:∀ {H':Hp},Out kd wd (upd H2 b (.dK [])) H'→Old H H':=fun o b' o' e=>o b' o' (al e kd0) (al e wd0) (oB b' o' e)
 have lk3:=lk.old o3
 refine ⟨L,kd,wd,b,[],[],[],tv,t,nv0,[],rfl,lk3,Ne.symm (al lk.hk hb),Ne.symm (al lk.hw hb),by show 0+_≤_;omega,by show 0+_≤_;omega,rt.mono oB.tm,⟨g.wf,g.ok,g.dos,fun x k z=>(nomatch z),fun x z=>(nomatch z),gf⟩,ad,by show 0+_≤_;omega,fun x k z=>(nomatch z),gd,fun k ek kgk kv ks4 ws4 H4 out4 lk4 l4 l4w rk=>?_,fun r er d H4 out4 rf=>qe r er d H4 (oOut out4) rf⟩
 have l4w':ws4.length+2≤0+2 * t.cnt:=l4w
 refine ⟨L,kd,wd,_,_,tv,kv,t.tn,rfl,lk4,by omega,rt.mono (oOut out4).tm,?_⟩
 have out5:Out kd wd H4 (upd H4 wd (.dK (putK ws4 (.inl t.tn.p) kv))):=Out.putW
 have lk5:bX C (upd H4 wd (.dK (putK ws4 (.inl t.tn.p) kv))) L kd wd (putK ks4 (.inl t.p) kv) (putK ws4 (.inl t.tn.p) kv):=lk4.putW
 have tm5:=Out.tm lk4 out5
 have ob:=oOut (out4.trans out5)
 obtain ⟨dx5,hi5⟩:=lk5.hi
 refine ⟨_,rfl,L,C,dx5,_,.ref kd,rfl,hi5,AR,a_kinds,lkK,_,rfl,L,C,dx5,_,.ref wd,rfl,hi5,AR,a_wanted,lkW,sz 2,fun r hr0=>?_⟩
 have o6:=Old.new (o:=.tup [.ref kd,.ref wd]) hr0
 exact qn k ek kgk r kd wd kv ks4 _ _ (ob.trans o6) ((rk.mono tm5).mono o6.tm) ad (o6 _ _ lk5.hk) (o6 _ _ lk5.hw)
abbrev sKo:Stmt:=top 36
def ye (K:W.Frag) (Cp Ct Cn:Addr):Sp:=fun vs H Q E=>∃ (tv:V) (t:Tk),vs = [tv]∧RK K H t.tn.d tv∧Lkp t∧(t.tn.frees [] = []→∀ k,t.lk nv0 = .ok k→Kg k 4→∀ kv H',Old H H'→RK K H' k.d kv→Q kv H')∧(t.tn.frees [] = []→∀ r,t.lk nv0 = .error r→∀ d H',Old H H'→RfR K H' d r→E (.ref (qU Cp Ct r)) (some d) H')∧(∀ p n r,t.tn.frees []=(p,n) :: r→∀ d H',Old H H'→H' d=some (DO d [("place",.int p)])→E (.ref Cn) (some d) H')
theorem zQ:aA ["tree"] ["tree"] (au sKo):=⟨rfl,rfl,rfl,by nofun,rfl,by nofun,by nofun⟩
theorem y9 {m:Nat} {Cp Ct Cn:Addr} (F:Fun K "kind_of" "kind_of" sKo f fd) (T:Tx mg) (Bs:dw P w K mg base "looked" ["tree"] 22 (pI K Cp Ct Cn)):aY P w K mg base (CXF P w) (m+23) f fd ["tree"] (ye K Cp Ct Cn):=by
 refine cI F zQ (fun vs H Q E h=>?_) (fun cdv A outer s H vs Q E hr h=>?_)
 ·obtain ⟨tv,t,rfl,_⟩:=h
  rfl
 obtain ⟨tv,t,rfl,rt,g,qn,qe,qf⟩:=h
 have nd:=zQ.nd
 obtain ⟨x,p,fr,cs,ps⟩:=t
 obtain ⟨a,uf,um,up,rfl,ha,_⟩:=RK.node (show RK K H (Tn.mk x p fr (Kn.ds cs) (Tk.tns ps)).d tv from rt)
 refine' ⟨_,?n0,?Z⟩
 case' n0=>refine' ah (ar ?N2)
 case' N2=>refine' gT hr.u1 ?N3 ?N4 (fun _ _=>rfl)
 case' N3=>refine' aG az ?N5 ac (fun _ _=>rfl)
 case N5=>exact cY Bs hr (pa (pv 0) ae)
 case N4=>exact aG az (pv 0) ac (fun _ _=>rfl)
 refine ⟨_,rfl,.ref a,Tk.mk x p fr cs ps,rfl,rt,g,fun gf k ek kgk r kd wd kv ks' ws' H1 o1 rk hr1 hk hw=>?_,qe,qf⟩
 have qn:=qn gf
 refine .inr (.inl ⟨r,_,0,.ref kd,rfl,rfl,SqT.of hr1,at0,_,rfl,.inr (.inl ⟨a,_,1,.int p,rfl,rfl,(ha.mono o1.tm).sq,at1,kd,kv,rfl,?_,qn k ek kgk kv H1 o1 rk⟩)⟩)
 have z:=i9.k (k:=.inl p) hk
 rw [show cG (putK ks' (.inl (Tk.mk x p fr cs ps).p) kv) (.inl p:Key)=some kv by rw [iZ];exact if_pos rfl] at z
 exact z
theorem bg {tt:TT} {ta u:TS} {D:fJ} {σ:St} {H:Hp} (B:Prop) [Decidable B] (h:∀ R:Bool→Hp→Prop,R (decide B) H→tt σ H R) (h1:B→ta { D with nx:=u D } σ H) (h2:¬ B→u D σ H):vO (tZ tt ta pK) u D σ H:=bK (D:={ D with nx:=u D }) B h h1 h2
theorem gD {t1 t2:TT} {σ:St} {H:Hp} {R:Bool→Hp→Prop} (A B:Prop) [Decidable A] [Decidable B] (hR:R (decide (A∨B)) H) (h1:∀ R:Bool→Hp→Prop,R (decide A) H→t1 σ H R) (h2:∀ R:Bool→Hp→Prop,R (decide B) H→t2 σ H R):tOr t1 t2 σ H R:=h1 _ (by
 by_cases c:A
 ·rw [decide_eq_true (.inl c)] at hR
  rw [decide_eq_true c]
  exact br hR
 ·rw [decide_eq_false c]
  rw [show decide (A∨B)=decide B from decide_eq_decide.mpr ⟨fun z=>z.resolve_left c,.inr⟩] at hR
  exact bf (h2 _ hR))
theorem b8 {t1 t2:TT} {σ:St} {H:Hp} {R:Bool→Hp→Prop} (A B:Prop) [Decidable A] [Decidable B] (hR:R (decide (A∧B)) H) (h1:∀ R:Bool→Hp→Prop,R (decide A) H→t1 σ H R) (h2:A→∀ R:Bool→Hp→Prop,R (decide B) H→t2 σ H R):vL t1 t2 σ H R:=h1 _ (by
 by_cases c:A
 ·rw [decide_eq_true c]
  rw [show decide (A∧B)=decide B from decide_eq_decide.mpr ⟨fun z=>z.2,fun z=>⟨c,z⟩⟩] at hR
  exact br (h2 c _ hR)
 ·rw [decide_eq_false c]
  rw [decide_eq_false (fun z:A∧B=>c z.1)] at hR
  exact bf hR)
theorem kW {ta u:TS} {D:fJ} {σ:St} {H:Hp} (h:ta { D with nx:=u D } σ H):vO ta u D σ H:=h
abbrev tj:Stmt:=top 44
def nP (K:W.Frag):Sp:=fun vs H Q _=>∃ (a:Addr) (ns:List Int) (k:Int),vs = [.ref a,.int k]∧SqL K H a (ns.map V.int)∧0≤k∧∀ i:Int,Q (.int i) H
theorem tI:aA ["_law_script","_law_k"] ["_law_script","_law_k"] (au tj):=⟨rfl,rfl,rfl,by nofun,rfl,by nofun,by nofun⟩
theorem ig {ns:List Int} {k:Int} (h0:0≤k) (h:k<(ns.length:Int)):∃ y,atI (ns.map V.int) k=some (.int y):=by
 obtain ⟨j,ej⟩:∃ j:Nat,k=(j:Int):=⟨k.toNat,by omega⟩
 have hj:j<ns.length:=by omega
 exact ⟨ns[j],by rw [ej];exact aH (by rw [List.getElem?_map,List.getElem?_eq_getElem hj];rfl)⟩
theorem uQ {n:Nat} (F:Fun K "_law_cell_at" "_law_cell_at" tj f fd) (T:Tx mg):aY P w K mg base CX0 (n+1) f fd ["_law_script","_law_k"] (nP K):=by
 refine F.ok tI (fun vs H Q E h=>?_) (fun cdv A outer s H vs Q E hr h=>?_)
 ·obtain ⟨a,ns,k,rfl,_⟩:=h
  rfl
 obtain ⟨a,ns,k,rfl,hS,hk,q⟩:=h
 have nd:=tI.nd
 refine' ⟨_,?n0,?Z⟩
 case' n0=>refine' ag (aC (ak wu (pv 1) (aM (bh) rfl T.len boot_len (pa (pv 0) ae)) (aq _)) ?N3 aw) ?N2
 case' N3=>refine' ah (ar ?N5)
 case N5=>exact pxK K (pv 0) (pv 1) (fun _ _=>rfl)
 case' N2=>refine' ah ?N6
 case N6=>exact ar ac
 refine ⟨_,rfl,_,rfl,.inl ⟨a,_,rfl,.inl hS,_,_,rfl,rfl,_,rfl,?_⟩⟩
 refine qi (fun cc=>?_) (fun cc=>q 0)
 have c':k<((ns.map V.int).length:Int):=of_decide_eq_true cc
 rw [List.length_map] at c'
 obtain ⟨y,ey⟩:=ig hk c'
 exact ⟨_,rfl,_,rfl,.inl ⟨a,_,k,_,rfl,rfl,hS,ey,q y⟩⟩
abbrev tF:Stmt:=top 46
structure Dl (K:W.Frag) (H:Hp) (d a wl:Addr) (ns:List Int) (ws:List Str) (i b c fl:Int):Prop where
 hd:H d=some (.lst [.ref a,.int i,.int b,.int c,.ref wl,.int fl])
 ha:SqL K H a (ns.map V.int)
 ne:a=d→∀ H':Hp,SqL K H' a (ns.map V.int)
 hw:H wl=some (.lst (ws.map V.str))
 nw:wl≠d
 i0:0≤i
 five:ws.length=5
theorem Dl.put {H:Hp} {d a wl:Addr} {ns:List Int} {ws:List Str} {i b c fl i' c':Int} (D:Dl K H d a wl ns ws i b c fl) (h:0≤i'):Dl K (upd H d (.lst [.ref a,.int i',.int b,.int c',.ref wl,.int fl])) d a wl ns ws i' b c' fl:=⟨ad,by
 by_cases z:a=d
 ·exact D.ne z _
 ·exact (Gr.put (M:=M1 d) rfl).seq z D.ha,D.ne,by rw [aj D.nw];exact D.hw,D.nw,h,D.five⟩
theorem Dl.old {H H':Hp} {d a wl:Addr} {ns:List Int} {ws:List Str} {i b c fl:Int} (D:Dl K H d a wl ns ws i b c fl) (o:Old H H'):Dl K H' d a wl ns ws i b c fl:=⟨o _ _ D.hd,o.gr.seq (fun z=>z) D.ha,D.ne,o _ _ D.hw,D.nw,D.i0,D.five⟩
theorem Dl.i1 {i b c fl:Int} {a wl:Addr}:atI [V.ref a,.int i,.int b,.int c,.ref wl,.int fl] 1=some (.int i):=aH (j:=1) rfl
theorem Dl.i2 {i b c fl:Int} {a wl:Addr}:atI [V.ref a,.int i,.int b,.int c,.ref wl,.int fl] 2=some (.int b):=aH (j:=2) rfl
theorem Dl.i3 {i b c fl:Int} {a wl:Addr}:atI [V.ref a,.int i,.int b,.int c,.ref wl,.int fl] 3=some (.int c):=aH (j:=3) rfl
theorem Dl.i5 {i b c fl:Int} {a wl:Addr}:atI [V.ref a,.int i,.int b,.int c,.ref wl,.int fl] 5=some (.int fl):=aH (j:=5) rfl
theorem Dl.i4 {i b c fl:Int} {a wl:Addr}:atI [V.ref a,.int i,.int b,.int c,.ref wl,.int fl] 4=some (.ref wl):=aH (j:=4) rfl
def kZ (K:W.Frag):Sp:=fun vs H Q _=>∃ (d a wl:Addr) (ns:List Int) (ws:List Str) (i b c fl:Int),vs = [.ref d]∧Dl K H d a wl ns ws i b c fl∧∀ (v:V) (H':Hp) (r:Int),v = .int r→0≤r→H'=upd H d (.lst [.ref a,.int (i+1),.int b,.int c,.ref wl,.int fl])→Q v H'
theorem tP:aA ["_law_deal"] ["_law_deal"] (au tF):=⟨rfl,rfl,rfl,by nofun,rfl,by nofun,by nofun⟩
theorem uY {n:Nat} (F:Fun K "_law_next" "_law_next" tF f fd) (T:Tx mg):aY P w K mg base CX0 (n+1) f fd ["_law_deal"] (kZ K):=by
 refine F.ok tP (fun vs H Q E h=>?_) (fun cdv A outer s H vs Q E hr h=>?_)
 ·obtain ⟨d,a,wl,ns,ws,i,b,c,fl,rfl,_⟩:=h
  rfl
 obtain ⟨d,a,wl,ns,ws,i,b,c,fl,rfl,D,q⟩:=h
 have nd:=tP.nd
 refine' ⟨_,?n0,?Z⟩
 case' n0=>refine' ag ?N1 ?N2
 case' N1=>refine' nE ?N3 ?N4
 case' N3=>refine' am a9 ?N5 ac
 case N5=>exact pxK K (pv 0) ac (fun _ _=>rfl)
 case N4=>exact nz (pv 0) ac iS
 case' N2=>refine' ag (aC ?N8 ?N9 aw) ?N7
 case' N8=>refine' PW.pt ?Na
 case' Na=>refine' eB ?Nb ?Nc
 case' Nb=>refine' ak eg ?Nd ac (aq _)
 case Nd=>exact pxK K (pv 0) ac (fun _ _=>rfl)
 case' Nc=>refine' dR ?Ne
 case' Ne=>refine' ak zu ?Nf ?Ng (aq _)
 case Nf=>exact pxK K (pv 0) ac (fun _ _=>rfl)
 case' Ng=>refine' aM (bh) rfl T.len boot_len ?Nh
 case' Nh=>refine' pa ?Ni ae
 case Ni=>exact pxK K (pv 0) ac (fun _ _=>rfl)
 case' N9=>refine' ah ?Nj
 case Nj=>exact ar ac
 case' N7=>refine' ah (ar ?Nl)
 case' Nl=>refine' am aE ?Nm ac
 case' Nm=>refine' am a9 ?Nn ?No
 case' Nn=>refine' am bP ?Np ac
 case' Np=>refine' pxK K ?Nq ?Nr (fun _ _=>rfl)
 case Nq=>exact pxK K (pv 0) ac (fun _ _=>rfl)
 case Nr=>exact pxK K (pv 0) ac (fun _ _=>rfl)
 case' No=>refine' am bP ac ?Ns
 case Ns=>exact pxK K (pv 0) ac (fun _ _=>rfl)
 refine ⟨_,rfl,.inl ⟨d,_,1,.int i,rfl,rfl,SqL.of D.hd,Dl.i1,.inr (.inl ⟨_,_,rfl,rfl,?_⟩)⟩⟩
 refine ⟨_,rfl,d,_,1,1,rfl,rfl,D.hd,kC (n:=6) (j:=1) (by decide),?_⟩
 have i0:=D.i0
 have D1:=D.put (i':=i+1) (c':=c) (by omega)
 have q1:∀ r:Int,0≤r→Q (.int r) (upd H d (.lst ([V.ref a,.int i,.int b,.int c,.ref wl,.int fl].set 1 (.int (i+1))))):=fun r r0=>q _ _ r rfl r0 rfl
 have D1':Dl K (upd H d (.lst ([V.ref a,.int i,.int b,.int c,.ref wl,.int fl].set 1 (.int (i+1))))) d a wl ns ws (i+1) b c fl:=D1
 generalize upd H d (.lst ([V.ref a,.int i,.int b,.int c,.ref wl,.int fl].set 1 (.int (i+1))))=H1 at q1 D1' ⊢
 dsimp only
 refine bg ((30:Int)<c∨(ns.length:Int)≤i+1) (fun R hR=>gD _ _ hR (fun R hR=>⟨_,rfl,.inl ⟨d,_,3,.int c,rfl,rfl,SqL.of D1'.hd,Dl.i3,_,_,rfl,rfl,_,rfl,hR⟩⟩) fun R hR=>⟨_,rfl,.inl ⟨d,_,1,.int (i+1),rfl,rfl,SqL.of D1'.hd,Dl.i1,_,rfl,.inl ⟨d,_,0,.ref a,rfl,rfl,SqL.of D1'.hd,at0,.inl ⟨a,_,rfl,.inl D1'.ha,_,_,rfl,rfl,_,rfl,?_⟩⟩⟩⟩) (fun _=>q1 3 (by decide)) (fun cc=>?_)
 ·rw [List.length_map]
  exact hR
 have c':¬ ((ns.length:Int)≤i+1):=fun z=>cc (.inr z)
 obtain ⟨y,ey⟩:=ig (ns:=ns) (k:=i+1) (by omega) (by omega)
 refine ⟨_,rfl,.inl ⟨d,_,0,.ref a,rfl,rfl,SqL.of D1'.hd,at0,_,rfl,.inl ⟨d,_,1,.int (i+1),rfl,rfl,SqL.of D1'.hd,Dl.i1,.inl ⟨a,_,_,.int y,rfl,rfl,D1'.ha,ey,.inr ⟨_,_,rfl,rfl,.inr ⟨by decide,by decide⟩,_,rfl,.inl ⟨d,_,1,.int (i+1),rfl,rfl,SqL.of D1'.hd,Dl.i1,.inr ⟨_,_,rfl,rfl,.inl ⟨by decide,by decide⟩,.inr (.inl ⟨_,_,rfl,rfl,_,_,rfl,rfl,(zp 1000000000039),q1 _ (Int.emod_nonneg _ (by decide))⟩)⟩⟩⟩⟩⟩⟩⟩
abbrev nJ:Stmt:=top 47
def dS (K:W.Frag):Sp:=fun vs H Q _=>∃ (d a wl:Addr) (ns:List Int) (ws:List Str) (i b c fl:Int),vs = [.ref d]∧Dl K H d a wl ns ws i b c fl∧∀ (v:V) (H':Hp) (r:Int),v = .int r→0≤r→r<9973→H'=upd H d (.lst [.ref a,.int i,.int b,.int (c+1),.ref wl,.int fl])→Q v H'
theorem pE:aA ["_law_deal"] ["_law_deal"] (au nJ):=⟨rfl,rfl,rfl,by nofun,rfl,by nofun,by nofun⟩
theorem sJ {n:Nat} (F:Fun K "_law_place" "_law_place" nJ f fd) (T:Tx mg):aY P w K mg base CX0 (n+1) f fd ["_law_deal"] (dS K):=by
 refine F.ok pE (fun vs H Q E h=>?_) (fun cdv A outer s H vs Q E hr h=>?_)
 ·obtain ⟨d,a,wl,ns,ws,i,b,c,fl,rfl,_⟩:=h
  rfl
 obtain ⟨d,a,wl,ns,ws,i,b,c,fl,rfl,D,q⟩:=h
 have nd:=pE.nd
 refine' ⟨_,?n0,?Z⟩
 case' n0=>refine' ag ?N1 ?N2
 case' N1=>refine' nE ?N3 ?N4
 case' N3=>refine' am a9 ?N5 ac
 case N5=>exact pxK K (pv 0) ac (fun _ _=>rfl)
 case N4=>exact nz (pv 0) ac iS
 case' N2=>refine' ah (ar ?N7)
 case' N7=>refine' am aE ?N8 ac
 case' N8=>refine' am a9 ?N9 ?Na
 case N9=>exact pxK K (pv 0) ac (fun _ _=>rfl)
 case' Na=>refine' am bP ac ?Nb
 case Nb=>exact pxK K (pv 0) ac (fun _ _=>rfl)
 refine ⟨_,rfl,.inl ⟨d,_,3,.int c,rfl,rfl,SqL.of D.hd,Dl.i3,.inr (.inl ⟨_,_,rfl,rfl,?_⟩)⟩⟩
 refine ⟨_,rfl,d,_,3,3,rfl,rfl,D.hd,kC (n:=6) (j:=3) (by decide),?_⟩
 have D1:=D.put (i':=i) (c':=c+1) D.i0
 have q1:∀ r:Int,0≤r→r<9973→Q (.int r) (upd H d (.lst ([V.ref a,.int i,.int b,.int c,.ref wl,.int fl].set 3 (.int (c+1))))):=fun r r0 r1=>q _ _ r rfl r0 r1 rfl
 have D1':Dl K (upd H d (.lst ([V.ref a,.int i,.int b,.int c,.ref wl,.int fl].set 3 (.int (c+1))))) d a wl ns ws i b (c+1) fl:=D1
 generalize upd H d (.lst ([V.ref a,.int i,.int b,.int c,.ref wl,.int fl].set 3 (.int (c+1))))=H1 at q1 D1' ⊢
 refine ⟨_,rfl,.inl ⟨d,_,2,.int b,rfl,rfl,SqL.of D1'.hd,Dl.i2,_,rfl,.inl ⟨d,_,3,.int (c+1),rfl,rfl,SqL.of D1'.hd,Dl.i3,.inr ⟨_,_,rfl,rfl,.inl ⟨by decide,by decide⟩,.inr (.inl ⟨_,_,rfl,rfl,_,_,rfl,rfl,(zp 9973),q1 _ (Int.emod_nonneg _ (by decide)) (Int.emod_lt_of_pos _ (by decide))⟩)⟩⟩⟩⟩
abbrev xZ:Stmt:=top 48
def tV (K:W.Frag):Sp:=fun vs H Q _=>∃ (a:Int),vs = [.int a]∧∀ i:Int,Q (.int i) H
theorem wE:aA ["_law_cell"] ["_law_cell"] (au xZ):=⟨rfl,rfl,rfl,by nofun,rfl,by nofun,by nofun⟩
theorem xu {n:Nat} (F:Fun K "_law_number" "_law_number" xZ f fd) (T:Tx mg):aY P w K mg base CX0 (n+1) f fd ["_law_cell"] (tV K):=by
 refine F.ok wE (fun vs H Q E h=>?_) (fun cdv A outer s H vs Q E hr h=>?_)
 ·obtain ⟨a,rfl,_⟩:=h
  rfl
 obtain ⟨a,rfl,q⟩:=h
 have nd:=wE.nd
 refine' ⟨_,?n0,?Z⟩
 case' n0=>refine' ag (aC (ak (ax hr) (am aE (pv 0) ac) ac (aq _)) ?N3 aw) ?N2
 case' N3=>refine' ah ?N4
 case N4=>exact ar (am bP (am bu (am bu (am xE ac ac) ac) (am aE (am ay (pv 0) ac) ac)) (am bu ac (am bP ac (am aE (am ay (pv 0) ac) ac))))
 case' N2=>refine' ag (aC (ak (ax hr) (am aE (pv 0) ac) ac (aq _)) ?N7 aw) ?N6
 case' N7=>refine' ah ?N8
 case N8=>exact ar (am ay (pv 0) ac)
 case' N6=>refine' ah ?N9
 case N9=>exact ar (am bu (am aE (am ay (pv 0) ac) ac) ac)
 refine bg (a % 8=1) (fun R hR=>⟨_,rfl,_,_,rfl,rfl,(zp 8),.inr (.inl ⟨rfl,_,rfl,by rw [cg];exact hR⟩)⟩) (fun _=>?_) (fun _=>?_)
 ·have b0:0≤a / 8 % 2:=Int.emod_nonneg _ (by decide)
  have b1:a / 8 % 2<2:=Int.emod_lt_of_pos _ (by decide)
  exact ⟨_,_,rfl,rfl,⟨by decide,by decide,by decide⟩,_,_,rfl,rfl,_,rfl,_,_,rfl,rfl,.inl ⟨by decide,by decide⟩,_,_,rfl,rfl,(zp 1000),_,_,rfl,rfl,_,rfl,_,_,rfl,rfl,.inl ⟨by decide,by decide⟩,_,_,rfl,rfl,(zp 2),.inr ⟨_,_,rfl,rfl,.inl ⟨by decide,by decide⟩,_,_,rfl,rfl,.inr ⟨_,_,rfl,rfl,.inr ⟨by show -(2 ^ 64)<1 - 2 * (a / 8 % 2);omega,by show 1 - 2 * (a / 8 % 2)<2 ^ 64;omega⟩,q _⟩⟩⟩
 refine bg (a % 8=2) (fun R hR=>⟨_,rfl,_,_,rfl,rfl,(zp 8),.inr (.inl ⟨rfl,_,rfl,by rw [cg];exact hR⟩)⟩) (fun _=>?_) (fun _=>?_)
 ·exact ⟨_,rfl,_,_,rfl,rfl,.inl ⟨by decide,by decide⟩,q _⟩
 ·exact ⟨_,rfl,_,_,rfl,rfl,.inl ⟨by decide,by decide⟩,_,_,rfl,rfl,(zp 12),_,_,rfl,rfl,q _⟩
theorem rH {p1 p2 p3:Addr} {i:Int} {H:Hp} (h0:0≤i) (h1:i<3) (t1:Tp K H p1 [.str "whole"]) (t2:Tp K H p2 [.str "truth"]) (t3:Tp K H p3 [.str "?"]):∃ (k:Kn) (v:V),atI [V.ref p1,V.ref p2,V.ref p3] i=some v∧Kg k 1∧RK K H k.d v:=by
 have c:i=0∨i=1∨i=2:=by omega
 rcases c with c | c | c <;> subst c
 ·exact ⟨cf,.ref p1,rfl,ce,RK.tup t1 (.cons (.s _) .nil)⟩
 ·exact ⟨bI,.ref p2,rfl,cC,RK.tup t2 (.cons (.s _) .nil)⟩
 ·exact ⟨qK,.ref p3,rfl,dh,RK.tup t3 (.cons (.s _) .nil)⟩
theorem zw {i:Int} {vs:List V} {m:Nat} {H:Hp} (h0:0≤i) (h1:i<(vs.length:Int)) (h:∀ v∈vs,∃ k:Kn,Kg k m∧RK K H k.d v):∃ (k:Kn) (v:V),atI vs i=some v∧Kg k m∧RK K H k.d v:=by
 obtain ⟨v,ev,hv⟩:=ib h0 h1
 obtain ⟨k,hk,rk⟩:=h v hv
 exact ⟨k,v,ev,hk,rk⟩
abbrev tx:Stmt:=top 49
def iU (K:W.Frag):Sp:=fun vs H Q _=>∃ (a:Int),vs = [.int a]∧∀ (t:Kn) (v:V) (H':Hp),RK K H' t.d v→Kg t 2→Old H H'→Q v H'
theorem tL:aA ["_law_cell","_law_flat_here","_law_one","_law_two"] ["_law_cell"] (au tx):=⟨rfl,rfl,rfl,by nofun,rfl,by nofun,by nofun⟩
theorem uV {m:Nat} (F:Fun K "_law_kind" "_law_kind" tx f fd) (T:Tx mg):aY P w K mg base CX0 (m+1) f fd ["_law_cell"] (iU K):=by
 refine F.ok tL (fun vs H Q E h=>?_) (fun cdv A outer s H vs Q E hr h=>?_)
 ·obtain ⟨a,rfl,_⟩:=h
  rfl
 obtain ⟨a,rfl,q⟩:=h
 have nd:=tL.nd
 refine' ⟨_,?n0,?Z⟩
 case' n0=>refine' ag ?N1 ?N2
 case N1=>exact psX 1 nd (bY (pa (ap (pa ai ae)) (pa (ap (pa ai ae)) (pa (ap (pa ai ae)) ae))))
 case' N2=>refine' ag ?N3 ?N4
 case' N3=>refine' psX 2 nd ?N5
 case N5=>exact pxK K (pv 1) (am aE (pv 0) ac) (fun _ _=>rfl)
 case' N4=>refine' ag ?N6 ?N7
 case' N6=>refine' psX 3 nd ?N8
 case N8=>exact pxK K (pv 1) (am aE (am ay (pv 0) ac) ac) (fun _ _=>rfl)
 case' N7=>refine' ah (ar ?Na)
 case Na=>exact pxK K (bY (pa (pv 2) (pa (ap (pa ai (pa (pv 3) (pa (pv 2) ae)))) (pa (ap (pa ai (pa (pv 2) ae))) (pa (ap (pa ai (pa (pv 2) (pa (pv 3) ae)))) (pa (pv 2) ae)))))) (am aE (am ay (pv 0) ac) ac) (fun _ _=>rfl)
 refine ⟨sz 1,fun p1 hp1=>⟨sz 1,fun p2 hp2=>⟨sz 1,fun p3 hp3=>⟨sz 3,fun p4 hp4=>?_⟩⟩⟩⟩
 have o1:Old H (upd H p1 (.tup [.str "whole"])):=Old.new hp1
 have o2:=Old.new (o:=.tup [.str "truth"]) hp2
 have o3:=Old.new (o:=.tup [.str "?"]) hp3
 have o4:=Old.new (o:=.lst [.ref p1,.ref p2,.ref p3]) hp4
 have t1:Tp K _ p1 [.str "whole"]:=.of (o4 _ _ (o3 _ _ (o2 _ _ ad)))
 have t2:Tp K _ p2 [.str "truth"]:=.of (o4 _ _ (o3 _ _ ad))
 have t3:Tp K _ p3 [.str "?"]:=.of (o4 _ _ ad)
 have oo:=((o1.trans o2).trans o3).trans o4
 have hl4:upd (upd (upd (upd H p1 (.tup [.str "whole"])) p2 (.tup [.str "truth"])) p3 (.tup [.str "?"])) p4 (HO.lst [.ref p1,.ref p2,.ref p3]) p4=some (.lst [.ref p1,.ref p2,.ref p3]):=ad
 obtain ⟨ka,va,eva,gka,rka⟩:=rH (K:=K) (Int.emod_nonneg a (by decide:(3:Int)≠0)) (Int.emod_lt_of_pos a (by decide)) t1 t2 t3
 obtain ⟨kb,vb,evb,gkb,rkb⟩:=rH (K:=K) (Int.emod_nonneg (a / 3) (by decide:(3:Int)≠0)) (Int.emod_lt_of_pos (a / 3) (by decide)) t1 t2 t3
 revert oo rka rkb hl4
 generalize upd (upd (upd (upd H p1 (.tup [.str "whole"])) p2 (.tup [.str "truth"])) p3 (.tup [.str "?"])) p4 (.lst [.ref p1,.ref p2,.ref p3])=H1
 intro oo hl4 rka rkb
 refine ⟨_,rfl,_,rfl,_,_,rfl,rfl,(zp 3),.inl ⟨p4,_,_,va,rfl,rfl,SqL.of hl4,eva,?_⟩⟩
 refine ⟨_,rfl,_,rfl,_,_,rfl,rfl,.inl ⟨by decide,by decide⟩,_,_,rfl,rfl,(zp 3),.inl ⟨p4,_,_,vb,rfl,rfl,SqL.of hl4,evb,?_⟩⟩
 refine ⟨_,rfl,_,rfl,_,rfl,sz 3,fun q1 hq1=>⟨_,rfl,sz 2,fun q2 hq2=>⟨_,rfl,_,rfl,sz 3,fun q3 hq3=>⟨_,rfl,sz 5,fun q4 hq4=>?_⟩⟩⟩⟩
 have u1:Old H1 (upd H1 q1 (.tup [.str "to",vb,va])):=Old.new hq1
 have u2:=Old.new (o:=.tup [.str "row",va]) hq2
 have u3:=Old.new (o:=.tup [.str "pair",va,vb]) hq3
 have u4:=Old.new (o:=.lst [va,.ref q1,.ref q2,.ref q3,va]) hq4
 have s1:Tp K _ q1 [.str "to",vb,va]:=.of (u4 _ _ (u3 _ _ (u2 _ _ ad)))
 have s2:Tp K _ q2 [.str "row",va]:=.of (u4 _ _ (u3 _ _ ad))
 have s3:Tp K _ q3 [.str "pair",va,vb]:=.of (u4 _ _ ad)
 have uu:=((u1.trans u2).trans u3).trans u4
 have hl5:upd (upd (upd (upd H1 q1 (.tup [.str "to",vb,va])) q2 (.tup [.str "row",va])) q3 (.tup [.str "pair",va,vb])) q4 (HO.lst [va,.ref q1,.ref q2,.ref q3,va]) q4=some (.lst [va,.ref q1,.ref q2,.ref q3,va]):=ad
 have rka2:=rka.mono uu.tm
 have rkb2:=rkb.mono uu.tm
 obtain ⟨kc,vc,evc,gkc,rkc⟩:=zw (K:=K) (m:=2) (vs:=[va,.ref q1,.ref q2,.ref q3,va]) (Int.emod_nonneg (a / 9) (by decide:(5:Int)≠0)) (Int.emod_lt_of_pos (a / 9) (by decide)) (fun v hv=>by
  rcases List.mem_cons.mp hv with rfl | hv
  ·exact ⟨ka,gka.mono (by omega),rka2⟩
  rcases List.mem_cons.mp hv with rfl | hv
  ·exact ⟨_,iE gkb gka,RK.tup s1 (.cons (.s _) (.cons rkb2 (.cons rka2 .nil)))⟩
  rcases List.mem_cons.mp hv with rfl | hv
  ·exact ⟨_,iD gka,RK.tup s2 (.cons (.s _) (.cons rka2 .nil))⟩
  rcases List.mem_cons.mp hv with rfl | hv
  ·exact ⟨_,fh gka gkb,RK.tup s3 (.cons (.s _) (.cons rka2 (.cons rkb2 .nil)))⟩
  ·rw [List.mem_singleton.mp hv]
   exact ⟨ka,gka.mono (by omega),rka2⟩)
 revert uu rkc rka2 rkb2 hl5
 generalize upd (upd (upd (upd H1 q1 (.tup [.str "to",vb,va])) q2 (.tup [.str "row",va])) q3 (.tup [.str "pair",va,vb])) q4 (.lst [va,.ref q1,.ref q2,.ref q3,va])=H2
 intro uu hl5 rka2 rkb2 rkc
 exact ⟨_,rfl,_,_,rfl,rfl,.inl ⟨by decide,by decide⟩,_,_,rfl,rfl,(zp 5),.inl ⟨q4,_,_,vc,rfl,rfl,SqL.of hl5,evc,q kc vc _ rkc gkc (oo.trans uu)⟩⟩
abbrev sFl:Stmt:=top 53
def vF (K:W.Frag):Sp:=fun vs H Q _=>∃ (a:Int),vs = [.int a]∧∀ (t:Kn) (v:V) (H':Hp),RK K H' t.d v→Kg t 1→Old H H'→Q v H'
theorem zN:aA ["_law_cell"] ["_law_cell"] (au sFl):=⟨rfl,rfl,rfl,by nofun,rfl,by nofun,by nofun⟩
theorem uR {m:Nat} (F:Fun K "_law_flat" "_law_flat" sFl f fd) (T:Tx mg):aY P w K mg base CX0 (m+1) f fd ["_law_cell"] (vF K):=by
 refine F.ok zN (fun vs H Q E h=>?_) (fun cdv A outer s H vs Q E hr h=>?_)
 ·obtain ⟨a,rfl,_⟩:=h
  rfl
 obtain ⟨a,rfl,q⟩:=h
 have nd:=zN.nd
 refine' ⟨_,?n0,?Z⟩
 case' n0=>refine' ah (ar ?N2)
 case N2=>exact pxK K (bY (pa (ap (pa ai ae)) (pa (ap (pa ai ae)) (pa (ap (pa ai ae)) ae)))) (am aE (pv 0) ac) (fun _ _=>rfl)
 refine ⟨sz 1,fun p1 hp1=>⟨sz 1,fun p2 hp2=>⟨sz 1,fun p3 hp3=>⟨sz 3,fun p4 hp4=>?_⟩⟩⟩⟩
 have o1:Old H (upd H p1 (.tup [.str "whole"])):=Old.new hp1
 have o2:=Old.new (o:=.tup [.str "truth"]) hp2
 have o3:=Old.new (o:=.tup [.str "?"]) hp3
 have o4:=Old.new (o:=.lst [.ref p1,.ref p2,.ref p3]) hp4
 have t1:Tp K _ p1 [.str "whole"]:=.of (o4 _ _ (o3 _ _ (o2 _ _ ad)))
 have t2:Tp K _ p2 [.str "truth"]:=.of (o4 _ _ (o3 _ _ ad))
 have t3:Tp K _ p3 [.str "?"]:=.of (o4 _ _ ad)
 have oo:=((o1.trans o2).trans o3).trans o4
 obtain ⟨ka,va,eva,gka,rka⟩:=rH (K:=K) (Int.emod_nonneg a (by decide:(3:Int)≠0)) (Int.emod_lt_of_pos a (by decide)) t1 t2 t3
 exact ⟨_,rfl,_,_,rfl,rfl,(zp 3),.inl ⟨p4,_,_,va,rfl,rfl,SqL.of ad,eva,q ka va _ rka gka oo⟩⟩
abbrev sMo:Stmt:=top 50
def qG (K:W.Frag):Sp:=fun vs H Q _=>∃ (b:Addr) (x:Str) (kv:V) (kvs:List (Key×V)),vs = [.ref b,.str x,kv]∧H b=some (.dK kvs)∧kvs.length≤1000∧∀ (r:Addr) (H':Hp),Old H H'→H r=none→H' r=some (.dK (putK kvs (.inr x) kv))→Q (.ref r) H'
theorem zS:aA ["_law_names","_law_word","_law_kind_here","_law_more_here"] ["_law_names","_law_word","_law_kind_here"] (au sMo):=⟨rfl,rfl,rfl,by nofun,rfl,by nofun,by nofun⟩
theorem zb {n:Nat} (F:Fun K "_law_more" "_law_more" sMo f fd) (T:Tx mg):aY P w K mg base CX0 (n+1) f fd ["_law_names","_law_word","_law_kind_here"] (qG K):=by
 refine F.ok zS (fun vs H Q E h=>?_) (fun cdv A outer s H vs Q E hr h=>?_)
 ·obtain ⟨b,x,kv,kvs,rfl,_⟩:=h
  rfl
 obtain ⟨b,x,kv,kvs,rfl,hb,lk,q⟩:=h
 have nd:=zS.nd
 refine' ⟨_,?n0,?Z⟩
 case' n0=>refine' ag ?N1 ?N2
 case N1=>exact psX 3 nd (bw (fO) rfl T.dict boot_dict (pa (pv 0) ae))
 case' N2=>refine' ag ?N3 ?N4
 case N3=>exact cy hr.u1 (pv 3) (pv 1) (pv 2) rfl
 case' N4=>refine' ah ?N5
 case N5=>exact ar (pv 3)
 refine ⟨_,rfl,b,kvs,rfl,hb,fun r hr0=>?_⟩
 refine ⟨_,rfl,_,rfl,_,rfl,r,_,rfl,eX.k (k:=.inr x) ad (bA (by omega)),_,rfl,q r _ (fun c y e=>?_) hr0 ad⟩
 rw [aj (al e hr0),aj (al e hr0)]
 exact e
def _root_.L2.Bk.Kn.lm:Kn→Nat
 | .mk h ks=>if h = "whole"∨h = "truth" then 1 else (Kn.mk h ks).dep+1
def lb:Nat→Nat
 | 0=>0
 | m+1=>1+2 * lb m
theorem mf (k:Kn):k.lm≤k.dep+1:=by
 obtain ⟨h,ks⟩:=k
 show (if h = "whole"∨h = "truth" then 1 else (Kn.mk h ks).dep+1)≤_
 split
 ·omega
 ·exact Nat.le_refl _
def Nok (K:W.Frag) (H:Hp) (kvs:List (Key×V)):Prop:=∀ p∈kvs,∃ (x:Str) (k:Kn),p.1 = .inr x∧RK K H k.d p.2∧k.dep≤5
theorem Nok.tm {K:W.Frag} {H H':Hp} {kvs:List (Key×V)} (h:Nok K H kvs) (g:Tm H H'):Nok K H' kvs:=fun p hp=>by
 obtain ⟨x,k,e,r,l⟩:=h p hp
 exact ⟨x,k,e,r.mono g,l⟩
theorem Nok.put {K:W.Frag} {H:Hp} {kvs:List (Key×V)} (h:Nok K H kvs) {x:Str} {k:Kn} {v:V} (r:RK K H k.d v) (l:k.dep≤5):Nok K H (putK kvs (.inr x) v):=fun p hp=>by
 unfold putK at hp
 split at hp
 ·obtain ⟨q,hq,e⟩:=List.mem_map.mp hp
  obtain ⟨y,k',e1,r1,l1⟩:=h q hq
  split at e
  ·subst e;exact ⟨y,k,e1,r,l⟩
  ·subst e;exact ⟨y,k',e1,r1,l1⟩
 ·rcases List.mem_append.mp hp with hp | hp
  ·exact h p hp
  ·rw [List.mem_singleton.mp hp];exact ⟨x,k,rfl,r,l⟩
theorem ud {kvs:List (Key×V)} {k:Key} {v:V} (h:(k,v)∈kvs):∃ v',cG kvs k=some v'∧(k,v')∈kvs:=by
 unfold cG
 cases e:kvs.find? (fun kv=>decide (kv.1=k)) with
 | none=>
   have:=List.find?_eq_none.mp e _ h
   simp at this
 | some p=>
   have h1:=List.find?_some e
   have h2:=List.mem_of_find?_eq_some e
   have e1:p.1=k:=by simpa using h1
   exact ⟨p.2,rfl,by rw [← e1];exact h2⟩
structure Mp (t:Tk) (c d:Nat):Prop where
 wf:t.tn.wf
 ok:t.ok
 dos:t.dos
 cnt:t.cnt≤c
 dep:t.tn.dep≤d
structure Mk (K:W.Frag) (H:Hp) (v:V) (t:Tk) (c d:Nat):Prop where
 r:RK K H t.tn.d v
 mp:Mp t c d
theorem Mp.up {t:Tk} {c d c' d':Nat} (h:Mp t c d) (h1:c≤c') (h2:d≤d'):Mp t c' d':=⟨h.wf,h.ok,h.dos,Nat.le_trans h.cnt h1,Nat.le_trans h.dep h2⟩
theorem Mk.up {K:W.Frag} {H:Hp} {v:V} {t:Tk} {c d c' d':Nat} (h:Mk K H v t c d) (h1:c≤c') (h2:d≤d'):Mk K H v t c' d':=⟨h.r,h.mp.up h1 h2⟩
theorem Mk.tm {K:W.Frag} {H H':Hp} {v:V} {t:Tk} {c d:Nat} (h:Mk K H v t c d) (g:Tm H H'):Mk K H' v t c d:=⟨h.r.mono g,h.mp⟩
def Mps (c d:Nat) (ps:List Tk):Prop:=∀ t∈ps,Mp t c d
theorem su {c d:Nat}:∀ {ps:List Tk},Mps c d ps→Tn.wfs (Tk.tns ps)
 | [],_=>trivial
 | t :: r,h=>⟨(h t (.head _)).wf,su fun u hu=>h u (.tail _ hu)⟩
theorem sr {c d:Nat}:∀ {ps:List Tk},Mps c d ps→Tk.oks ps
 | [],_=>trivial
 | t :: r,h=>⟨(h t (.head _)).ok,sr fun u hu=>h u (.tail _ hu)⟩
theorem pc {c d:Nat}:∀ {ps:List Tk},Mps c d ps→Tk.doss ps
 | [],_=>trivial
 | t :: r,h=>⟨(h t (.head _)).dos,pc fun u hu=>h u (.tail _ hu)⟩
theorem o0 {c d:Nat}:∀ {ps:List Tk},Mps c d ps→Tk.cnts ps≤ps.length * c
 | [],_=>Nat.zero_le _
 | t :: r,h=>by
   have a:=(h t (.head _)).cnt
   have b:=o0 (ps:=r) fun u hu=>h u (.tail _ hu)
   show t.cnt+Tk.cnts r≤(r.length+1) * c
   rw [Nat.succ_mul]
   omega
theorem pb {c d:Nat}:∀ {ps:List Tk},Mps c d ps→Tn.deps (Tk.tns ps)≤d
 | [],_=>Nat.zero_le _
 | t :: r,h=>by
   have a:=(h t (.head _)).dep
   have b:=pb (ps:=r) fun u hu=>h u (.tail _ hu)
   show max t.tn.dep (Tn.deps (Tk.tns r))≤d
   omega
theorem sm {t:Tk} {c d:Nat} (h:Mp t c d):Mps c d [t]:=fun u hu=>by rw [List.mem_singleton.mp hu];exact h
theorem qp {t u:Tk} {c d:Nat} (h:Mp t c d) (h':Mp u c d):Mps c d [t,u]:=fun x hx=>by
 rcases List.mem_cons.mp hx with rfl | hx
 ·exact h
 ·exact sm h' x hx
theorem Ay {t u z:Tk} {c d:Nat} (h:Mp t c d) (h':Mp u c d) (h2:Mp z c d):Mps c d [t,u,z]:=fun x hx=>by
 rcases List.mem_cons.mp hx with rfl | hx
 ·exact h
 ·exact qp h' h2 x hx
theorem rX:∀ {ks:List Kn},(∀ k∈ks,Kg k 6)→Kn.wfs ks
 | [],_=>trivial
 | k :: r,h=>⟨(h k (.head _)).wf,rX fun k' hk=>h k' (.tail _ hk)⟩
theorem oW:∀ {ks:List Kn},(∀ k∈ks,Kg k 6)→Kn.deps ks≤7
 | [],_=>Nat.zero_le _
 | k :: r,h=>by
   have a:=(h k (.head _)).dep
   have b:=oW (ks:=r) fun k' hk=>h k' (.tail _ hk)
   show max k.dep (Kn.deps r)≤7
   omega
theorem kg1 {k:Kn} {m:Nat} (h:Kg k m) (hm:m≤6):∀ k'∈[k],Kg k' 6:=fun k' hk=>by rw [List.mem_singleton.mp hk];exact h.mono hm
theorem kg2 {k l:Kn} {m:Nat} (h:Kg k m) (h':Kg l m) (hm:m≤6):∀ k'∈[k,l],Kg k' 6:=fun k' hk=>by
 rcases List.mem_cons.mp hk with rfl | hk
 ·exact h.mono hm
 ·exact kg1 h' hm k' hk
theorem d0:∀ ss:List Str,∀ d∈ss.map Dk.str,d.flat=true:=fun ss d hd=>by
 obtain ⟨s,_,rfl⟩:=List.mem_map.mp hd
 rfl
theorem made {x:Str} {p:Int} {fr:List Dk} {ks:List Kn} {ps:List Tk} {c d:Nat} (gw:x∈K11.words) (nl:x≠"look") (lf:fr.length=K11.nf x) (lk:ks.length=K11.nk x) (lp:x≠"row"→ps.length=K11.np x) (l4:ps.length≤4) (hn:x∈eM→∃ ns:List Str,fr=ns.map Dk.str) (p0:0≤p) (p1:p<100000) (flt:∀ d∈fr,d.flat=true) (hk:∀ k∈ks,Kg k 6) (hdo:x = "do"→∃ o,fr = [.str o]) (hm:Mps c d ps):Mp (.mk x p fr ks ps) (1+ps.length * c) (d+1):=by
 refine ⟨⟨⟨gw,lf,by rw [aZ];exact lk,fun z=>by rw [aF];exact lp z,by rw [aF];omega,hn,p0,p1⟩,su hm⟩,⟨⟨rX hk,oW hk,flt,nl⟩,sr hm⟩,⟨hdo,pc hm⟩,?_,?_⟩
 ·have a:=o0 hm
  show 1+Tk.cnts ps≤_
  omega
 ·have a:=pb hm
  show 1+Tn.deps (Tk.tns ps)≤d+1
  omega
theorem mR:∀ x∈(["whole","truth","given","name"]:List Str),x∈K11.words∧K11.nf x=1∧K11.nk x=0∧K11.np x=0∧x≠"look"∧x≠"row"∧x≠"do":=by nofun
theorem cw {K:W.Frag} {H:Hp} {v:V} {x:Str} {p:Int} {d:Dk} (hx:x∈(["whole","truth","given","name"]:List Str)) (p0:0≤p) (p1:p<100000) (fd:d.flat=true) (hn:x∈eM→∃ s,d = .str s) (r:RK K H (.tup [.str x,.int p,d]) v):Mk K H v (.mk x p [d] [] []) 1 1:=by
 obtain ⟨f1,f2,f3,f4,f5,f6,f7⟩:=mR x hx
 refine ⟨?_,(made (c:=0) (d:=0) f1 f5 f2.symm f3.symm (fun _=>f4.symm) (by decide) (fun z=>?_) p0 p1 (fun e he=>by rw [List.mem_singleton.mp he];exact fd) (fun k hk=>nomatch hk) (fun z=>absurd z f7) (fun t ht=>nomatch ht))⟩
 ·show RK K H (.tup (.str x :: .int p :: ([d] ++ [] ++ (if x = "row" then [.tup []] else [])))) v
  rw [if_neg f6]
  exact r
 ·obtain ⟨s,rfl⟩:=hn z
  exact ⟨[s],rfl⟩
theorem aK:(K11.nf "let" = 1∧K11.nk "let" = 0∧K11.np "let" = 2)∧(K11.nf "as" = 0∧K11.nk "as" = 1∧K11.np "as" = 1)∧(K11.nf "self" = 2∧K11.nk "self" = 2∧K11.np "self" = 1)∧(K11.nf "if" = 0∧K11.nk "if" = 0∧K11.np "if" = 3)∧(K11.nf "do" = 1∧K11.nk "do" = 0∧K11.np "do" = 2)∧(K11.nf "row" = 0∧K11.nk "row" = 1)∧(K11.nf "fn" = 1∧K11.nk "fn" = 1∧K11.np "fn" = 1):=by nofun
theorem qO:∀ x∈(["call","at","pair"]:List Str),x∈K11.words∧x≠"look"∧K11.nf x=0∧K11.nk x=0∧K11.np x=2∧x ∉ eM∧x≠"do"∧x≠"row":=by nofun
theorem qx:∀ x∈(["size","one","two"]:List Str),x∈K11.words∧x≠"look"∧K11.nf x=0∧K11.nk x=0∧K11.np x=1∧x ∉ eM∧x≠"do"∧x≠"row":=by nofun
section
variable {K:W.Frag} {H:Hp} {p:Int} {q:Addr} {c d:Nat}
theorem sj {s:Str} {k:Kn} {t:Tk} {kv v:V} {m:Nat} (p0:0≤p) (p1:p<100000) (gk:Kg k m) (hm:m≤6) (M:Mp t c d) (h:H q=some (.tup [.str "fn",.int p,.str s,kv,v])) (rk:RK K H k.d kv) (rt:RK K H t.tn.d v):Mk K H (.ref q) (.mk "fn" p [.str s] [k] [t]) (1+c) (d+1):=
 ⟨RK.tup (.of h) (.cons (.s _) (.cons (.i _) (.cons (.s _) (.cons rk (.cons rt .nil))))),(made (p:=p) (x:="fn") (fr:=[.str s]) (ks:=[k]) (ps:=[t]) (by nofun) (by nofun) aK.2.2.2.2.2.2.1.symm aK.2.2.2.2.2.2.2.1.symm (fun _=>aK.2.2.2.2.2.2.2.2.symm) (by show 1≤4;decide) (fun _=>⟨[s],rfl⟩) p0 p1 (d0 [s]) (kg1 gk hm) (fun z=>absurd z (by nofun)) (sm M)).up (by show 1+1 * c≤_;omega) (Nat.le_refl _)⟩
theorem oY {s s':Str} {k l:Kn} {t:Tk} {kv lv v:V} {m:Nat} (p0:0≤p) (p1:p<100000) (gk:Kg k m) (gl:Kg l m) (hm:m≤6) (M:Mp t c d) (h:H q=some (.tup [.str "self",.int p,.str s,.str s',kv,lv,v])) (rk:RK K H k.d kv) (rl:RK K H l.d lv) (rt:RK K H t.tn.d v):Mk K H (.ref q) (.mk "self" p [.str s,.str s'] [k,l] [t]) (1+c) (d+1):=
 ⟨RK.tup (.of h) (.cons (.s _) (.cons (.i _) (.cons (.s _) (.cons (.s _) (.cons rk (.cons rl (.cons rt .nil))))))),(made (p:=p) (x:="self") (fr:=[.str s,.str s']) (ks:=[k,l]) (ps:=[t]) (by nofun) (by nofun) aK.2.2.1.1.symm aK.2.2.1.2.1.symm (fun _=>aK.2.2.1.2.2.symm) (by show 1≤4;decide) (fun _=>⟨[s,s'],rfl⟩) p0 p1 (d0 [s,s']) (kg2 gk gl hm) (fun z=>absurd z (by nofun)) (sm M)).up (by show 1+1 * c≤_;omega) (Nat.le_refl _)⟩
theorem mj {k:Kn} {t:Tk} {kv v:V} {m:Nat} (p0:0≤p) (p1:p<100000) (gk:Kg k m) (hm:m≤6) (M:Mp t c d) (h:H q=some (.tup [.str "as",.int p,kv,v])) (rk:RK K H k.d kv) (rt:RK K H t.tn.d v):Mk K H (.ref q) (.mk "as" p [] [k] [t]) (1+c) (d+1):=
 ⟨RK.tup (.of h) (.cons (.s _) (.cons (.i _) (.cons rk (.cons rt .nil)))),(made (p:=p) (x:="as") (fr:=[]) (ks:=[k]) (ps:=[t]) (by nofun) (by nofun) aK.2.1.1.symm aK.2.1.2.1.symm (fun _=>aK.2.1.2.2.symm) (by show 1≤4;decide) (fun z=>absurd z (by nofun)) p0 p1 (d0 []) (kg1 gk hm) (fun z=>absurd z (by nofun)) (sm M)).up (by show 1+1 * c≤_;omega) (Nat.le_refl _)⟩
theorem xk {s:Str} {t u:Tk} {v v':V} (p0:0≤p) (p1:p<100000) (M:Mp t c d) (M':Mp u c d) (h:H q=some (.tup [.str "let",.int p,.str s,v,v'])) (rt:RK K H t.tn.d v) (ru:RK K H u.tn.d v'):Mk K H (.ref q) (.mk "let" p [.str s] [] [t,u]) (1+2 * c) (d+1):=
 ⟨RK.tup (.of h) (.cons (.s _) (.cons (.i _) (.cons (.s _) (.cons rt (.cons ru .nil))))),made (by nofun) (by nofun) aK.1.1.symm aK.1.2.1.symm (fun _=>aK.1.2.2.symm) (by show 2≤4;decide) (fun _=>⟨[s],rfl⟩) p0 p1 (d0 [s]) (fun k hk=>nomatch hk) (fun z=>absurd z (by nofun)) (qp M M')⟩
theorem wj {t u z:Tk} {v v' v2:V} (p0:0≤p) (p1:p<100000) (M:Mp t c d) (M':Mp u c d) (M2:Mp z c d) (h:H q=some (.tup [.str "if",.int p,v,v',v2])) (rt:RK K H t.tn.d v) (ru:RK K H u.tn.d v') (rz:RK K H z.tn.d v2):Mk K H (.ref q) (.mk "if" p [] [] [t,u,z]) (1+3 * c) (d+1):=
 ⟨RK.tup (.of h) (.cons (.s _) (.cons (.i _) (.cons rt (.cons ru (.cons rz .nil))))),made (by nofun) (by nofun) aK.2.2.2.1.1.symm aK.2.2.2.1.2.1.symm (fun _=>aK.2.2.2.1.2.2.symm) (by show 3≤4;decide) (fun z=>absurd z (by nofun)) p0 p1 (d0 []) (fun k hk=>nomatch hk) (fun z=>absurd z (by nofun)) (Ay M M' M2)⟩
theorem si {s:Str} {t u:Tk} {v v':V} (p0:0≤p) (p1:p<100000) (M:Mp t c d) (M':Mp u c d) (h:H q=some (.tup [.str "do",.int p,.str s,v,v'])) (rt:RK K H t.tn.d v) (ru:RK K H u.tn.d v'):Mk K H (.ref q) (.mk "do" p [.str s] [] [t,u]) (1+2 * c) (d+1):=
 ⟨RK.tup (.of h) (.cons (.s _) (.cons (.i _) (.cons (.s _) (.cons rt (.cons ru .nil))))),made (by nofun) (by nofun) aK.2.2.2.2.1.1.symm aK.2.2.2.2.1.2.1.symm (fun _=>aK.2.2.2.2.1.2.2.symm) (by show 2≤4;decide) (fun z=>absurd z (by nofun)) p0 p1 (d0 [s]) (fun k hk=>nomatch hk) (fun _=>⟨s,rfl⟩) (qp M M')⟩
theorem fS {x:Str} {t u:Tk} {v v':V} (hx:x∈(["call","at","pair"]:List Str)) (p0:0≤p) (p1:p<100000) (M:Mp t c d) (M':Mp u c d) (h:H q=some (.tup [.str x,.int p,v,v'])) (rt:RK K H t.tn.d v) (ru:RK K H u.tn.d v'):Mk K H (.ref q) (.mk x p [] [] [t,u]) (1+2 * c) (d+1):=by
 obtain ⟨f1,f2,f3,f4,f5,f6,f7,f8⟩:=qO x hx
 refine ⟨?_,made f1 f2 f3.symm f4.symm (fun _=>f5.symm) (by show 2≤4;decide) (fun z=>absurd z f6) p0 p1 (d0 []) (fun k hk=>nomatch hk) (fun z=>absurd z f7) (qp M M')⟩
 show RK K H (.tup (.str x :: .int p :: ([] ++ [] ++ (if x = "row" then [.tup [t.tn.d,u.tn.d]] else [t.tn.d,u.tn.d])))) _
 rw [if_neg f8]
 exact RK.tup (.of h) (.cons (.s _) (.cons (.i _) (.cons rt (.cons ru .nil))))
theorem mX {x:Str} {t:Tk} {v:V} (hx:x∈(["size","one","two"]:List Str)) (p0:0≤p) (p1:p<100000) (M:Mp t c d) (h:H q=some (.tup [.str x,.int p,v])) (rt:RK K H t.tn.d v):Mk K H (.ref q) (.mk x p [] [] [t]) (1+c) (d+1):=by
 obtain ⟨f1,f2,f3,f4,f5,f6,f7,f8⟩:=qx x hx
 refine ⟨?_,(made (p:=p) (x:=x) (fr:=[]) (ks:=[]) (ps:=[t]) f1 f2 f3.symm f4.symm (fun _=>f5.symm) (by show 1≤4;decide) (fun z=>absurd z f6) p0 p1 (d0 []) (fun k hk=>nomatch hk) (fun z=>absurd z f7) (sm M)).up (by show 1+1 * c≤_;omega) (Nat.le_refl _)⟩
 show RK K H (.tup (.str x :: .int p :: ([] ++ [] ++ (if x = "row" then [.tup [t.tn.d]] else [t.tn.d])))) _
 rw [if_neg f8]
 exact RK.tup (.of h) (.cons (.s _) (.cons (.i _) (.cons rt .nil)))
theorem sk {k:Kn} {ts:List Tk} {kv v:V} {m n:Nat} (p0:0≤p) (p1:p<100000) (gk:Kg k m) (hm:m≤6) (n4:n≤4) (ln:ts.length≤n) (M:Mps c d ts) (h:H q=some (.tup [.str "row",.int p,kv,v])) (rk:RK K H k.d kv) (rt:RK K H (.tup (Tn.ds (Tk.tns ts))) v):Mk K H (.ref q) (.mk "row" p [] [k] ts) (1+n * c) (d+1):=
 ⟨RK.tup (.of h) (.cons (.s _) (.cons (.i _) (.cons rk (.cons rt .nil)))),(made (p:=p) (x:="row") (fr:=[]) (ks:=[k]) (ps:=ts) (by nofun) (by nofun) aK.2.2.2.2.2.1.1.symm aK.2.2.2.2.2.1.2.symm (fun z=>absurd rfl z) (Nat.le_trans ln n4) (fun z=>absurd z (by nofun)) p0 p1 (d0 []) (kg1 gk hm) (fun z=>absurd z (by nofun)) M).up (by have:=Nat.mul_le_mul_right c ln;omega) (Nat.le_refl _)⟩
end
abbrev x4:Stmt:=top 45
def tX (K:W.Frag):Sp:=fun vs H Q _=>∃ (cell:Int),vs = [.int cell]∧∀ (l:Addr) (ws:List Str) (H':Hp),Old H H'→H l=none→H' l=some (.lst (ws.map V.str))→ws.length=5→Q (.ref l) H'
theorem wG:aA ["_law_cell","_law_letters","_law_base","_law_at","_law_words_here","_law_k","_law_word","_law_j"] ["_law_cell"] (au x4):=⟨rfl,rfl,rfl,by nofun,rfl,by nofun,by nofun⟩
theorem sL {n:Nat} (F:Fun K "_law_words" "_law_words" x4 f fd) (T:Tx mg):aY P w K mg base CX0 (n+1) f fd ["_law_cell"] (tX K):=by
 refine F.ok wG (fun vs H Q E h=>?_) (fun cdv A outer s H vs Q E hr h=>?_)
 ·obtain ⟨cell,rfl,_⟩:=h
  rfl
 obtain ⟨cell,rfl,q⟩:=h
 have nd:=wG.nd
 refine' ⟨_,?n0,?Z⟩
 case' n0=>refine' ag ?N1 ?N2
 case N1=>exact psX 1 nd ai
 case' N2=>refine' ag ?N3 ?N4
 case' N3=>refine' mt (te:=tOp (rI (fun _ j=>0<j) fun i j=>.int (i % j)) (tOp (jM K) (tOp (rI qP fun i j=>.int (i / j)) (bW 1) (tOp (jM K) (bW 0) (tC (.int 1)))) (tOp (sU K) (bW 0) (bW 0))) (tC (.int 26))) (i:=2) (k:=1) (N:=["_law_k","_law_cell","_law_letters","_law_base","_law_at","_law_words_here","!5","_law_word","_law_j"]) (dW rfl rfl rfl rfl rfl rfl) rfl nd rfl (Or.inl rfl) ?N5 (fun _ _ _ _=>?N6) (fun _ _ _ _=>?N7) (fun _ _ _ _=>?N8)
 case N5=>exact bN rfl T.range (pa (am a9 ac (am aE (pv 0) ac)) ae)
 case N6=>exact aV (i:=0) (by show List.Nodup (["_law_k","_law_cell","_law_letters","_law_base","_law_at","_law_words_here","!5","_law_word","_law_j"]:List Str);decide +kernel) rfl (Or.inl rfl)
 case N7=>exact cZ
 case N8=>exact am aE (am a9 (am ay (pv 1) (am a9 (pv 0) ac)) (am bP (pv 0) (pv 0))) ac
 case' N4=>refine' ag ?N9 ?Na
 case N9=>exact psX 3 nd (am aE (am ay (pv 0) ac) (aM (bh) rfl T.len boot_len (pa (pv 2) ae)))
 case' Na=>refine' ag ?Nb ?Nc
 case Nb=>exact psX 4 nd (bY ae)
 case' Nc=>refine' ag ?Nd ?Ne
 case' Nd=>refine' cQ PassesOwn.never rfl ?Nf ?Ng ?Nh
 case Nf=>exact bN rfl T.range (pa ac ae)
 case Ng=>exact aV (i:=5) nd rfl (Or.inl rfl)
 case' Nh=>refine' ag ?Ni ?Nj
 case Ni=>exact psX 6 nd ai
 case' Nj=>refine' ag ?Nk ?Nl
 case' Nk=>refine' cQ PassesOwn.never rfl ?Nm ?Nn ?No
 case Nm=>exact bN rfl T.range (pa (aM (bh) rfl T.len boot_len (pa (pv 2) ae)) ae)
 case Nn=>exact aV (i:=7) nd rfl (Or.inl rfl)
 case' No=>refine' ah ?Np
 case' Np=>refine' psX 6 nd ?Nq
 case' Nq=>refine' am a9 (pv 6) ?Nr
 case' Nr=>refine' pxK K (pv 1) ?Ns (fun _ _=>rfl)
 case' Ns=>refine' am aE ?Nt ac
 case' Nt=>refine' am a9 ?Nu ?Nv
 case Nu=>exact pxK K (pv 2) (pv 7) (fun _ _=>rfl)
 case' Nv=>refine' am bP (am bP ac (pv 5)) ?Nw
 case' Nw=>refine' bw (eD) rfl T.int boot_int ?Nx
 case' Nx=>refine' pa ?Ny ae
 case Ny=>exact fm (ax hr) (pv 7) (pv 3) (aq _)
 case' Nl=>refine' ag (aC ?N11 ?N12 aw) ?N10
 case' N11=>refine' PW.pt ?N13
 case' N13=>refine' eB (ak (ax hr) (pv 6) ai (aq _)) ?N14
 case N14=>exact dR (ak (ax hr) (pv 6) ai (aq _))
 case' N12=>refine' ah ?N15
 case N15=>exact psX 6 nd (am a9 (pv 6) ai)
 case' N10=>refine' ah ?N16
 case' N16=>refine' bB ?N17
 case N17=>exact jK PySem.F.plainAttrs_list PySem.F.slot_list_append PySem.F.type_list_append cL (pv 4) (pa (pv 6) ae)
 case' Ne=>refine' ah ?N18
 case N18=>exact ar (pv 4)
 refine kW ?_
 dsimp only [nV,tC,aX]
 obtain ⟨ky,eky,ky0,ky8⟩:∃ ky:Nat,1+cell % 8=(ky:Int)∧1≤ky∧ky≤8:=by
  have b0:0≤cell % 8:=Int.emod_nonneg _ (by decide)
  have b1:cell % 8<8:=Int.emod_lt_of_pos _ (by decide)
  exact ⟨(1+cell % 8).toNat,by omega,by omega,by omega⟩
 refine ⟨_,rfl,_,_,rfl,rfl,(zp 8),.inr (.inl ⟨_,_,rfl,rfl,ky,by show [V.int (1+cell % 8)]=_;rw [eky],by omega,by omega,fun D9 hD9=>?_⟩)⟩
 have neD:∀ b o,H b=some o→b≠D9:=fun b o e=>al e hD9
 refine d7 (n:=ky) (fun j σ H6=>∃ (k1:Option V) (xs:List Int),σ = [k1,some (.int cell),some (.str "abcdefghijklmnopqrstuvwxyz"),none,none,none,none,none,none]∧Old H H6∧H6 D9=some (.lst (xs.map V.int))∧xs.length=j) ⟨none,[],rfl,Old.new hD9,ad,rfl⟩ ?_ ?_ ?_ ?_
 ·intro j σ H6 hj hv
  exact hj
 ·intro σ H6 hv
  exact Nat.le_refl _
 ·intro j σ H6 hj hv y H7 hy
  obtain ⟨k1,xs,rfl,o6,hD6,lx⟩:=hv
  obtain ⟨rfl,rfl⟩:=hy
  refine ⟨_,rfl,_,rfl,.inr (.inl ⟨_,_,rfl,rfl,_,_,rfl,rfl,.inl ⟨by omega,by omega⟩,_,rfl,_,rfl,.inr ⟨_,_,rfl,rfl,.inl ⟨by omega,by omega⟩,.inr (.inl ⟨_,_,rfl,rfl,_,_,rfl,rfl,(zp 26),_,hD6,bA (by rw [List.length_map];omega),nx hj ⟨_,xs ++ [_],rfl,fun b o e=>by rw [aj (neD b o e)];exact o6 b o e,by rw [ad,List.map_append];rfl,by rw [List.length_append,lx];rfl⟩⟩)⟩⟩)⟩
 intro σ H6 hv
 obtain ⟨k1,xs,rfl,o6,hD6,lx⟩:=hv
 have lm:((xs.map V.int).length:Int)=(ky:Int):=by rw [List.length_map,lx]
 refine ⟨_,rfl,_,_,rfl,rfl,.inl ⟨by decide,by decide⟩,_,rfl,.inl ⟨D9,_,rfl,.inl (SqL.of hD6),_,_,rfl,rfl,(by show (0:Int)<((xs.map V.int).length:Int);omega),?_⟩⟩
 refine ⟨sz 0,fun wl hwl=>?_⟩
 have o7:Old H (upd H6 wl (.lst [])):=o6.trans (Old.new hwl)
 have hw7:upd H6 wl (.lst []) wl=some (.lst (([]:List Str).map V.str)):=ad
 have hwl0:H wl=none:=o6.free hwl
 have nDw:D9≠wl:=fun z=>by rw [z,hwl] at hD6;cases hD6
 have hD7:upd H6 wl (.lst []) D9=some (.lst (xs.map V.int)):=by rw [aj nDw];exact hD6
 generalize upd H6 wl (.lst [])=H7 at o7 hw7 hD7 ⊢
 have lett:∀ i:Int,∃ ch,atI (("abcdefghijklmnopqrstuvwxyz":Str)).cps.toList (i % 26)=some ch:=fun i=>by
  obtain ⟨ch,e,_⟩:=ib (xs:=(("abcdefghijklmnopqrstuvwxyz":Str)).cps.toList) (i:=i % 26) (Int.emod_nonneg _ (by decide)) (by show i % 26<26;exact Int.emod_lt_of_pos _ (by decide))
  exact ⟨ch,e⟩
 dsimp only [aX]
 refine ⟨5,rfl,by decide,by decide,ck (n:=5) (fun i σ H8=>∃ (k5 k6 k7:Option V) (ws:List Str),σ = [some (.int cell),some (.str "abcdefghijklmnopqrstuvwxyz"),some (.ref D9),some (.int (cell / 8 % ((xs.map V.int).length:Int))),some (.ref wl),k5,k6,k7]∧Old H H8∧H8 D9=some (.lst (xs.map V.int))∧H8 wl=some (.lst (ws.map V.str))∧ws.length=i) ⟨none,none,none,[],rfl,o7,hD7,hw7,rfl⟩ ?_ ?_⟩
 ·intro i σ H8 hi hv
  obtain ⟨k5,k6,k7,ws,rfl,o8,hD8,hw8,lw⟩:=hv
  refine ⟨_,rfl,.inl ⟨D9,_,rfl,.inl (SqL.of hD8),ky,by rw [lm],by omega,by omega,ck (n:=ky) (fun j σ H9=>∃ (k7:Option V) (word:Str),σ = [some (.int cell),some (.str "abcdefghijklmnopqrstuvwxyz"),some (.ref D9),some (.int (cell / 8 % ((xs.map V.int).length:Int))),some (.ref wl),some (.int (0+(i:Int))),some (.str word),k7]∧H8=H9∧word.length=j) ⟨k7,"",rfl,rfl,rfl⟩ ?_ ?_⟩⟩
  ·intro j σ H9 hj hv
   obtain ⟨k7,word,rfl,rfl,lwd⟩:=hv
   obtain ⟨y,ey⟩:=ig (ns:=xs) (k:=0+(j:Int)) (by omega) (by omega)
   refine ⟨_,rfl,_,rfl,_,rfl,_,rfl,.inl ⟨D9,_,_,.int y,rfl,rfl,SqL.of hD8,ey,_,rfl,.inr ⟨_,_,rfl,rfl,.inl ⟨by decide,by decide⟩,_,rfl,_,rfl,.inr (.inl ⟨rfl,.inr ⟨_,rfl,.inr ⟨_,_,rfl,rfl,.inl ⟨by omega,by omega⟩,.inr (.inl ⟨_,_,rfl,rfl,_,_,rfl,rfl,(zp 26),.inr (.inr ⟨_,_,_,rfl,rfl,by decide,(lett _).choose_spec,.inr (yF (cF _ (by show word.length+1≤1000;omega)) ?_)⟩)⟩)⟩⟩⟩)⟩⟩⟩
   exact ⟨_,_,rfl,rfl,by rw [strLen_append,lwd];rfl⟩
  ·intro σ H9 hv
   obtain ⟨k7,word,rfl,rfl,lwd⟩:=hv
   have lx:("x":Str).length=1:=by nofun
   have put:∀ (word:Str) (x6:Option V),(fun σ H8=>∃ (k5 k6 k7:Option V) (ws:List Str),σ = [some (.int cell),some (.str "abcdefghijklmnopqrstuvwxyz"),some (.ref D9),some (.int (cell / 8 % ((xs.map V.int).length:Int))),some (.ref wl),k5,k6,k7]∧Old H H8∧H8 D9=some (.lst (xs.map V.int))∧H8 wl=some (.lst (ws.map V.str))∧ws.length=i+1) [some (.int cell),some (.str "abcdefghijklmnopqrstuvwxyz"),some (.ref D9),some (.int (cell / 8 % ((xs.map V.int).length:Int))),some (.ref wl),some (.int (0+(i:Int))),x6,k7] (upd H8 wl (.lst (ws.map V.str ++ [.str word]))):=fun word x6=>⟨_,_,_,ws ++ [word],rfl,fun b o e=>by rw [aj (al e hwl0)];exact o8 b o e,by rw [aj nDw];exact hD8,by rw [ad,List.map_append];rfl,by rw [List.length_append,lw];rfl⟩
   dsimp only
   refine cR (fun σ H9=>∃ word':Str,σ = [some (.int cell),some (.str "abcdefghijklmnopqrstuvwxyz"),some (.ref D9),some (.int (cell / 8 % ((xs.map V.int).length:Int))),some (.ref wl),some (.int (0+(i:Int))),some (.str word'),k7]∧H8=H9) (fun R hR=>?_) (fun σ H9 hP=>?_)
   ·refine bK (word = "yes"∨word = "no") (fun R hR=>gD _ _ hR (fun R hR=>⟨_,rfl,.inr (.inl ⟨rfl,_,rfl,by rw [ba];exact hR⟩)⟩) (fun R hR=>⟨_,rfl,.inr (.inl ⟨rfl,_,rfl,by rw [ba];exact hR⟩)⟩)) (fun _=>?_) (fun _=>hR _ _ ⟨word,rfl,rfl⟩)
    exact ⟨_,rfl,.inr (yF (cF _ (by rw [lx];omega)) (hR _ _ ⟨_,rfl,rfl⟩))⟩
   obtain ⟨word',rfl,rfl⟩:=hP
   exact ⟨_,rfl,.inl ⟨rfl,_,SqL.of hw8⟩,_,rfl,wl,_,.str word',rfl,rfl,hw8,bA (by rw [List.length_map];omega),put word' _⟩
 ·intro σ H8 hv
  obtain ⟨k5,k6,k7,ws,rfl,o8,hD8,hw8,lw⟩:=hv
  exact ⟨_,rfl,q wl ws H8 o8 hwl0 hw8 lw⟩
structure Sd (K:W.Frag) (H H':Hp) (d a wl nd:Addr) (ns:List Int) (ws:List Str) (b fl:Int) (kvs:List (Key×V)):Prop where
 g:Gr (M1 d) H H'
 D:∃ i c,Dl K H' d a wl ns ws i b c fl
 nm:H' nd=some (.dK kvs)
theorem Sd.old {H Hx Hy:Hp} {d a wl nd:Addr} {ns:List Int} {ws:List Str} {b fl:Int} {kvs:List (Key×V)} (S:Sd K H Hx d a wl nd ns ws b fl kvs) (o:Old Hx Hy):Sd K H Hy d a wl nd ns ws b fl kvs:=⟨S.g.trans (o.gr.wide fun _ z=>False.elim z),let ⟨i,c,D⟩:=S.D;⟨i,c,D.old o⟩,o _ _ S.nm⟩
theorem Sd.ne {H Hx:Hp} {d a wl nd:Addr} {ns:List Int} {ws:List Str} {b fl:Int} {kvs:List (Key×V)} (S:Sd K H Hx d a wl nd ns ws b fl kvs) {p:Addr} (h:Hx p=none):p≠d:=fun z=>by
 obtain ⟨i,c,D⟩:=S.D
 rw [z,D.hd] at h
 cases h
theorem Sd.place {H Hx:Hp} {d a wl nd:Addr} {ns:List Int} {ws:List Str} {b fl:Int} {kvs:List (Key×V)} {Q:VK} {E:XK} (S:Sd K H Hx d a wl nd ns ws b fl kvs) (n1:nd≠d) (k:∀ p Hy,0≤p→p<9973→Sd K H Hy d a wl nd ns ws b fl kvs→Gr (M1 d) Hx Hy→Tm Hx Hy→Q (.int p) Hy):dS K [.ref d] Hx Q E:=by
 obtain ⟨i,c,D⟩:=S.D
 exact ⟨d,a,wl,ns,ws,i,b,c,fl,rfl,D,fun v H' r ev r0 r1 eH=>by subst ev;subst eH;exact k r _ r0 r1 ⟨S.g.trans (Gr.put rfl),⟨i,c+1,D.put D.i0⟩,by rw [aj n1];exact S.nm⟩ (Gr.put rfl) ((Gr.put (M:=M1 d) rfl).tm1 D.hd)⟩
theorem Sd.upd {H Hx:Hp} {d a wl nd D9:Addr} {ns:List Int} {ws:List Str} {b fl:Int} {kvs:List (Key×V)} {o:HO} (S:Sd K H Hx d a wl nd ns ws b fl kvs) (h0:H D9=none) (n1:d≠D9) (n2:wl≠D9) (n3:nd≠D9) (aD:a=D9→∀ H':Hp,SqL K H' a (ns.map V.int)):Sd K H (upd Hx D9 o) d a wl nd ns ws b fl kvs:=by
 obtain ⟨i,c,D⟩:=S.D
 refine ⟨fun b o e n=>by rw [aj (al e h0)];exact S.g b o e n,⟨i,c,by rw [aj n1];exact D.hd,?_,D.ne,by rw [aj n2];exact D.hw,D.nw,D.i0,D.five⟩,by rw [aj n3];exact S.nm⟩
 by_cases z:a=D9
 ·exact aD z _
 ·exact (Gr.put (M:=M1 D9) rfl).seq z D.ha
theorem Sd.apart {H Hx:Hp} {d a wl nd D9:Addr} {ns:List Int} {ws:List Str} {b fl:Int} {kvs:List (Key×V)} (S:Sd K H Hx d a wl nd ns ws b fl kvs) (h:Hx D9=none) (n1:nd≠d):d≠D9∧wl≠D9∧nd≠D9∧H D9=none∧(a=D9→∀ H':Hp,SqL K H' a (ns.map V.int)):=by
 obtain ⟨i,c,D⟩:=S.D
 have e1:d≠D9:=fun z=>by rw [← z,D.hd] at h;cases h
 refine ⟨e1,fun z=>(by rw [← z,D.hw] at h;cases h),fun z=>(by rw [← z,S.nm] at h;cases h),S.g.free h (fun z=>e1 z.symm),fun z H'=>?_⟩
 rcases D.ha with hh | hh
 ·rcases hh with hh | ⟨o,hh⟩
  ·rw [z,h] at hh;cases hh
  ·rw [z,h] at hh;cases hh
 ·exact .inr hh
theorem oZ {c d:Nat} {ps:List Tk} {t:Tk} (h:Mps c d ps) (h':Mp t c d):Mps c d (ps ++ [t]):=fun u hu=>by
 rcases List.mem_append.mp hu with hu | hu
 ·exact h u hu
 ·rw [List.mem_singleton.mp hu];exact h'
theorem fD:∀ (ps:List Tk) (t:Tk),Tn.ds (Tk.tns (ps ++ [t]))=Tn.ds (Tk.tns ps) ++ [t.tn.d]
 | [],t=>rfl
 | u :: r,t=>by show u.tn.d :: Tn.ds (Tk.tns (r ++ [t]))=u.tn.d :: (Tn.ds (Tk.tns r) ++ [t.tn.d]);rw [fD r t]
theorem yM {p1 p2 p3:Addr} {i:Int} {H:Hp} (h0:0≤i) (h1:i<3) (t1:Tp K H p1 [.str "whole"]) (t2:Tp K H p2 [.str "truth"]) (t3:Tp K H p3 [.str "whole"]):∃ (k:Kn) (v:V),atI [V.ref p1,.ref p2,.ref p3] i=some v∧Kg k 1∧k.lm≤1∧RK K H k.d v:=by
 have c:i=0∨i=1∨i=2:=by omega
 rcases c with c | c | c <;> subst c
 ·exact ⟨cf,.ref p1,rfl,ce,by nofun,RK.tup t1 (.cons (.s _) .nil)⟩
 ·exact ⟨bI,.ref p2,rfl,cC,by nofun,RK.tup t2 (.cons (.s _) .nil)⟩
 ·exact ⟨cf,.ref p3,rfl,ce,by nofun,RK.tup t3 (.cons (.s _) .nil)⟩
abbrev tD:Stmt:=top 51
def eC (K:W.Frag) (m:Nat):Sp:=fun vs H Q _=>∃ (d a wl nd:Addr) (ns:List Int) (ws:List Str) (i b c fl cell:Int) (k:Kn) (kv:V) (kvs:List (Key×V)),vs = [.ref d,kv,.ref nd,.int cell]∧Dl K H d a wl ns ws i b c fl∧RK K H k.d kv∧Kg k 3∧k.lm≤m∧H nd=some (.dK kvs)∧nd≠d∧Nok K H kvs∧kvs.length+m≤500 ∧
 ∀ (t:Tk) (v:V) (H':Hp) (i' c':Int),Gr (M1 d) H H'→Dl K H' d a wl ns ws i' b c' fl→Mk K H' v t (lb m) m→Q v H'
theorem tM:aA ["_law_deal","_law_want","_law_names","_law_cell","_law_fits","_law_place_here","_law_flat_here","_law_word","_law_items"] ["_law_deal","_law_want","_law_names","_law_cell"] (au tD):=⟨rfl,rfl,rfl,by nofun,rfl,by nofun,by nofun⟩
theorem Sd.leaf {H Hx:Hp} {d a wl nd nd':Addr} {ns:List Int} {ws:List Str} {b fl cell:Int} {kvs kvs':List (Key×V)} {m:Nat} {k:Kn} {kv:V} {Q:VK} {E:XK} (S:Sd K H Hx d a wl nd ns ws b fl kvs) (n1:nd≠d) (h':Hx nd'=some (.dK kvs')) (n':nd'≠d) (rk:RK K Hx k.d kv) (gk:Kg k 3) (lm:k.lm≤m) (nok:Nok K Hx kvs') (few:kvs'.length+m≤500)
 (kk:∀ t v Hy,Sd K H Hy d a wl nd ns ws b fl kvs→Gr (M1 d) Hx Hy→Tm Hx Hy→Mk K Hy v t (lb m) m→Q v Hy):eC K m [.ref d,kv,.ref nd',.int cell] Hx Q E:=by
 obtain ⟨i,c,D⟩:=S.D
 exact ⟨d,a,wl,nd',ns,ws,i,b,c,fl,cell,k,kv,kvs',rfl,D,rk,gk,lm,h',n',nok,few,fun t v Hy i' c' g' D' M=>kk t v Hy ⟨S.g.trans g',⟨i',c',D'⟩,g' _ _ S.nm n1⟩ g' (g'.tm1 D.hd) M⟩
theorem Ax {h:Str} {ks:List Kn} {m:Nat} (n1:h≠"whole") (n2:h≠"truth") (l:(Kn.mk h ks).lm≤m+1):Kn.deps ks+1≤m:=by
 have e:(Kn.mk h ks).lm=(1+Kn.deps ks)+1:=if_neg fun z=>z.elim n1 n2
 omega
theorem wg {h:Str} {ks:List Kn} {m:Nat} (g:Kg (Kn.mk h ks) (m+1)):∀ k∈ks,Kg k m∧k.dep≤Kn.deps ks:=by
 have d:=g.dep
 have d':1+Kn.deps ks≤m+1:=d
 have w:Kn.wfs ks:=g.wf.2
 clear g d
 induction ks with
 | nil=>intro k hk;cases hk
 | cons a r ih=>
   have e:Kn.deps (a :: r)=max a.dep (Kn.deps r):=rfl
   intro k hk
   rcases List.mem_cons.mp hk with rfl | hk
   ·exact ⟨⟨w.1,by omega⟩,by omega⟩
   ·obtain ⟨x,y⟩:=ih (by omega) w.2 k hk
    exact ⟨x,by omega⟩
theorem jj:bO "to" = some 2∧bO "row" = some 1∧bO "pair" = some 2:=by nofun
theorem ow {h:Str} {n:Nat} (e:bO h=some n) (n1:h≠"whole") (n2:h≠"truth") (n3:h≠"?") (n4:h≠"to") (n5:h≠"row"):h = "pair":=by
 by_cases c:h = "pair"
 ·exact c
 ·exact absurd e (by
   unfold bO
   simp [n1,n2,n3,n4,n5,c])
theorem jc {α:Type}:∀ {l:List α},l.length=2→∃ a b,l = [a,b]
 | [a,b],_=>⟨a,b,rfl⟩
theorem uW {m:Nat} (F:Fun K "_law_leaf" "_law_leaf" tD f fd) (T:Tx mg) (AU:Cal P w K mg base "_law_place" ["_law_deal"] 1 (dS K)) (Hh:Cal P w K mg base "_law_number" ["_law_cell"] 1 (tV K)) (Bp:Cal P w K mg base "_law_more" ["_law_names","_law_word","_law_kind_here"] 1 (qG K)) (Cr:Cal P w K mg base "_law_leaf" ["_law_deal","_law_want","_law_names","_law_cell"] (m+1) (eC K m)) :
 aY P w K mg base CX0 (m+2) f fd ["_law_deal","_law_want","_law_names","_law_cell"] (eC K (m+1)):=by
 refine F.ok tM (fun vs H Q E h=>?_) (fun cdv A outer s H vs Q E hr h=>?_)
 ·obtain ⟨d,a,wl,nd,ns,ws,i,b,c,fl,cell,k,kv,kvs,rfl,_⟩:=h
  rfl
 obtain ⟨d,a,wl,nl,ns,ws,i,b,c,fl,cell,k,kv,kvs,rfl,D,rk,gk,lm,hnl,nd1,nok,few,q⟩:=h
 have nd:=tM.nd
 obtain ⟨h,ks⟩:=k
 obtain ⟨ka,ku,rfl,hka,rks⟩:=RK.kind (show RK K H (.tup (.str h :: Kn.ds ks)) kv from rk)
 refine' ⟨_,?n0,?Z⟩
 case' n0=>refine' ag ?N1 ?N2
 case' N1=>refine' vn ?N3
 case' N3=>refine' mt (te:=bW 0) (i:=4) (k:=1) (N:=["_law_word","_law_deal","_law_want","_law_names","_law_cell","_law_fits","_law_place_here","_law_flat_here","!7","_law_items"]) (dW rfl rfl rfl rfl rfl rfl) rfl nd rfl (Or.inl rfl) ?N4 (fun _ _ _ _=>?N5) (fun _ _ _ _=>?N6) (fun _ _ _ _=>?N7)
 case N4=>exact vi (pv 2)
 case N5=>exact aV (i:=0) (by show List.Nodup (["_law_word","_law_deal","_law_want","_law_names","_law_cell","_law_fits","_law_place_here","_law_flat_here","!7","_law_items"]:List Str);decide +kernel) rfl (Or.inl rfl)
 case N6=>
  refine' gY ?N8
  case' N8=>refine' ak (show OpR _ _ (vq K) from ax hr) ?N9 (pv 2) (aq _)
  first | case N9=>exact gT hr.u1 (pv 3) (pv 0) (fun _ _=>rfl) | case N8=>exact gT hr.u1 (pv 3) (pv 0) (fun _ _=>rfl)
 case N7=>exact pv 0
 case' N2=>refine' ag (aC ?Nc ?Nd aw) ?Nb
 case' Nc=>refine' PW.pt ?Ne
 case' Ne=>refine' bE (ak eg (aM (bh) rfl T.len boot_len (pa (pv 4) ae)) ac (aq _)) ?Nf
 case Nf=>exact bC (ak eg (am aE (pv 3) ac) ac (aq _))
 case' Nd=>refine' ah (ar ?Nh)
 case' Nh=>refine' ap ?Ni
 case' Ni=>refine' pa ai ?Nj
 case' Nj=>refine' pa (ao AU hr (pa (pv 0) ae)) ?Nk
 case' Nk=>refine' pa ?Nl ae
 case Nl=>exact pxK K (pv 4) (am aE (am ay (pv 3) ac) (aM (bh) rfl T.len boot_len (pa (pv 4) ae))) (fun _ _=>rfl)
 case' Nb=>refine' ag ?Nm ?Nn
 case Nm=>exact psX 5 nd (ao AU hr (pa (pv 0) ae))
 case' Nn=>refine' ag (aC ?Nq ?Nr aw) ?Np
 case' Nq=>refine' ak (ax hr) ?Ns ai (aq _)
 case Ns=>exact pxK K (pv 1) ac (fun _ _=>rfl)
 case' Nr=>refine' ag (aC (ak (ax hr) (am aE (pv 3) ac) ac (aq _)) ?Nv aw) ?Nu
 case' Nv=>refine' ah ?Nw
 case Nw=>exact ar (ap (pa ai (pa (pv 5) (pa (am aE (am ay (pv 3) ac) ac) ae))))
 case' Nu=>refine' ah ?Nx
 case Nx=>exact ar (ap (pa ai (pa (pv 5) (pa (ao Hh hr (pa (am ay (pv 3) ac) ae)) ae))))
 case' Np=>refine' ag (aC ?N10 ?N11 aw) ?Nz
 case' N10=>refine' ak (ax hr) ?N12 ai (aq _)
 case N12=>exact pxK K (pv 1) ac (fun _ _=>rfl)
 case' N11=>refine' ah (ar ?N14)
 case' N14=>refine' ap ?N15
 case' N15=>refine' pa ai ?N16
 case' N16=>refine' pa (pv 5) ?N17
 case' N17=>refine' pa ?N18 ae
 case N18=>exact fm (ax hr) (am aE (am ay (pv 3) ac) ac) ac (aq _)
 case' Nz=>refine' ag (aC ?N1b ?N1c aw) ?N1a
 case' N1b=>refine' ak (ax hr) ?N1d ai (aq _)
 case N1d=>exact pxK K (pv 1) ac (fun _ _=>rfl)
 case' N1c=>refine' ag ?N1e ?N1f
 case' N1e=>refine' psX 6 nd ?N1g
 case N1g=>exact pxK K (bY (pa (ap (pa ai ae)) (pa (ap (pa ai ae)) (pa (ap (pa ai ae)) ae)))) (am aE (am ay (pv 3) ac) ac) (fun _ _=>rfl)
 case' N1f=>refine' ah ?N1h
 case N1h=>exact ar (ap (pa ai (pa (pv 5) (pa (pv 1) (pa (ao Cr hr (pa (pv 0) (pa (pv 6) (pa dG (pa (am ay (pv 3) ac) ae))))) ae)))))
 case' N1a=>refine' ag (aC ?N1k ?N1l aw) ?N1j
 case' N1k=>refine' ak (ax hr) ?N1m ai (aq _)
 case N1m=>exact pxK K (pv 1) ac (fun _ _=>rfl)
 case' N1l=>refine' ag ?N1n ?N1o
 case' N1n=>refine' psX 7 nd ?N1p
 case' N1p=>refine' pxK K ?N1q (am aE (am ay (pv 3) ac) ac) (fun _ _=>rfl)
 case N1q=>exact pxK K (pv 0) ac (fun _ _=>rfl)
 case' N1o=>refine' ah (ar ?N1s)
 case' N1s=>refine' ap ?N1t
 case' N1t=>refine' pa ai ?N1u
 case' N1u=>refine' pa (pv 5) ?N1v
 case' N1v=>refine' pa (pv 7) ?N1w
 case' N1w=>refine' pa ?N1x ?N1y
 case N1x=>exact pxK K (pv 1) ac (fun _ _=>rfl)
 case' N1y=>refine' pa ?N1z ae
 case' N1z=>refine' ao Cr hr ?N20
 case' N20=>refine' pa (pv 0) ?N21
 case' N21=>refine' pa ?N22 ?N23
 case N22=>exact pxK K (pv 1) ac (fun _ _=>rfl)
 case' N23=>refine' pa ?N24 (pa (am ay (pv 3) ac) ae)
 case' N24=>refine' ao Bp hr ?N25
 case' N25=>refine' pa (pv 2) ?N26
 case' N26=>refine' pa (pv 7) ?N27
 case' N27=>refine' pa ?N28 ae
 case N28=>exact pxK K (pv 1) ac (fun _ _=>rfl)
 case' N1j=>refine' ag (aC ?N2b ?N2c aw) ?N2a
 case' N2b=>refine' ak (ax hr) ?N2d ai (aq _)
 case N2d=>exact pxK K (pv 1) ac (fun _ _=>rfl)
 case' N2c=>refine' ag ?N2e ?N2f
 case' N2e=>refine' mt (te:=jV (eC K m) [] E0 (cj (bW 1) (cj (tOp (rIx K) (bW 2) (tC (.int 1))) (cj (bW 3) (cj (tOp (jM K) (tOp (rI qP fun i j=>.int (i / j)) (bW 4) (tC (.int 36))) (tOp (sU K) (tC (.int 7)) (bW 0))) je))))) (i:=8) (k:=1) (N:=["_law_k","_law_deal","_law_want","_law_names","_law_cell","_law_fits","_law_place_here","_law_flat_here","_law_word","_law_items"]) (dW rfl rfl rfl rfl rfl rfl) rfl nd rfl (Or.inl rfl) ?N2g (fun _ _ _ _=>?N2h) (fun _ _ _ _=>?N2i) (fun _ _ _ _=>?N2j)
 case N2g=>exact bN rfl T.range (pa (am aE (am ay (pv 3) ac) ac) ae)
 case N2h=>exact aV (i:=0) (by show List.Nodup (["_law_k","_law_deal","_law_want","_law_names","_law_cell","_law_fits","_law_place_here","_law_flat_here","_law_word","_law_items"]:List Str);decide +kernel) rfl (Or.inl rfl)
 case N2i=>exact cZ
 case N2j=>
  refine' ao Cr hr ?N2k
  case' N2k=>refine' pa (pv 1) ?N2l
  first | case' N2l=>refine' pa ?N2m (pa (pv 3) (pa (am a9 (am ay (pv 4) ac) (am bP ac (pv 0))) ae)) | case' N2k=>refine' pa ?N2m (pa (pv 3) (pa (am a9 (am ay (pv 4) ac) (am bP ac (pv 0))) ae))
  first | case N2m=>exact pxK K (pv 2) ac (fun _ _=>rfl) | case N2l=>exact pxK K (pv 2) ac (fun _ _=>rfl) | case N2k=>exact pxK K (pv 2) ac (fun _ _=>rfl)
 case' N2f=>refine' ah (ar ?N2o)
 case' N2o=>refine' ap ?N2p
 case' N2p=>refine' pa ai ?N2q
 case' N2q=>refine' pa (pv 5) ?N2r
 case' N2r=>refine' pa ?N2s (pa (bw (bV) rfl T.tuple boot_tuple (pa (pv 8) ae)) ae)
 case N2s=>exact pxK K (pv 1) ac (fun _ _=>rfl)
 case' N2a=>refine' ah (ar ?N2u)
 case' N2u=>refine' ap ?N2v
 case' N2v=>refine' pa ai ?N2w
 case' N2w=>refine' pa (pv 5) ?N2x
 case' N2x=>refine' pa ?N2y ?N2z
 case' N2y=>refine' ao Cr hr ?N30
 case' N30=>refine' pa (pv 0) ?N31
 case' N31=>refine' pa ?N32 (pa (pv 2) (pa (am ay (pv 3) ac) ae))
 case N32=>exact pxK K (pv 1) ac (fun _ _=>rfl)
 case' N2z=>refine' pa ?N33 ae
 case' N33=>refine' ao Cr hr ?N34
 case' N34=>refine' pa (pv 0) ?N35
 case' N35=>refine' pa ?N36 (pa (pv 2) (pa (am ay (pv 3) ac) ae))
 case N36=>exact pxK K (pv 1) ac (fun _ _=>rfl)
 refine ⟨_,rfl,nl,kvs,rfl,hnl,(fun o z e=>by rw [show (ja CX0 P w K mg base _ _ _ f cdv A outer s H E).nox.H₀=H from rfl,hnl] at e;cases e),fun o D9 hD9=>?_⟩
 have nD:D9≠nl:=fun z=>by rw [z,ad] at hD9;cases hD9
 have hD0:H D9=none:=by rw [aj nD] at hD9;exact hD9
 refine md (n:=kvs.length) (fun j σ H6=>∃ (k1:Option V) (ss:List Str),σ = [k1,some (.ref d),some (.ref ka),some (.ref nl),some (.int cell),none,none,none,none,none]∧H6 nl=some (.frz o (.dK kvs))∧(∀ b x,b≠nl→H b=some x→H6 b=some x)∧H6 D9=some (.lst (ss.map V.str))∧ss.length≤j) ⟨none,[],rfl,by rw [aj nD.symm,ad],fun b x n e=>by rw [aj (al e hD0),aj n];exact e,ad,Nat.le_refl _⟩ ?_ ?_ ?_ ?_
 ·intro j σ H6 hj hv
  obtain ⟨_,_,_,hf,_⟩:=hv
  exact ⟨hf,hj⟩
 ·intro σ H6 hv
  obtain ⟨_,_,_,hf,_⟩:=hv
  exact ⟨hf,Nat.le_refl _⟩
 ·intro j σ H6 hj hv y H7 hy
  obtain ⟨k1,ss,rfl,hf,kp,hD6,ls⟩:=hv
  obtain ⟨rfl,key,kv',hx,rfl⟩:=hy
  have hmem:=List.mem_of_getElem? hx
  obtain ⟨x,kn,ek,rkn,ln⟩:=nok _ hmem
  have ek1:key = .inr x:=ek
  subst ek1
  obtain ⟨v',ev',hm'⟩:=ud hmem
  obtain ⟨x',⟨h',ks'⟩,ek',rkn',ln'⟩:=nok _ hm'
  have tm:Tm H H7:=fun b xs e=>kp b _ (fun z=>by subst z;rw [hnl] at e;cases e) e
  refine ⟨_,rfl,_,rfl,nl,v',rfl,.inl ⟨kvs,.inr x,.inr ⟨o,hf⟩,rfl,ev'.symm⟩,_,rfl,.inl ⟨.str h' :: Kn.ds ks',.str h :: Kn.ds ks,rkn'.mono tm,rk.mono tm,?_,_,rfl,?_⟩⟩
  ·have e1:(Dk.tup (.str h' :: Kn.ds ks')).dq=(Kn.mk h' ks').dep:=wQ (Kn.mk h' ks')
   rw [iq] at e1
   have:(Kn.mk h' ks').dep≤5:=ln'
   omega
  ·generalize dX (.str h' :: Kn.ds ks') (.str h :: Kn.ds ks)=bb
   cases bb with
   | true=>exact br ⟨_,rfl,_,hD6,bA (by rw [List.length_map];omega),nx hj ⟨_,ss ++ [x],rfl,by rw [aj nD.symm];exact hf,fun b z n e=>by rw [aj (al e hD0)];exact kp b z n e,by rw [ad,List.map_append];rfl,by rw [List.length_append];show ss.length+1≤j+1;omega⟩⟩
   | false=>exact bf (nx hj ⟨_,ss,rfl,hf,kp,hD6,by omega⟩)
 intro σ H6 hv
 obtain ⟨k1,ss,rfl,hf,kp,hD6,ls⟩:=hv
 refine ⟨nl,o,kvs,hf,(fun o z e=>by rw [show (ja CX0 P w K mg base _ _ _ f cdv A outer s H E).nox.H₀=H from rfl,hnl] at e;cases e),?_⟩
 have o1:Old H (upd H6 nl (.dK kvs)):=fun b x e=>by
  by_cases z:b=nl
  ·subst z;rw [ad];rw [hnl] at e;exact e
  ·rw [aj z];exact kp b x z e
 have hfit:upd H6 nl (.dK kvs) D9=some (.lst (ss.map V.str)):=by rw [aj nD];exact hD6
 generalize upd H6 nl (.dK kvs)=H1 at o1 hfit ⊢
 have S1:Sd K H H1 d a wl nl ns ws b fl kvs:=⟨o1.gr.wide fun _ z=>False.elim z,⟨i,c,D.old o1⟩,o1 _ _ hnl⟩
 have fin:∀ (t:Tk) (v:V) (Hy:Hp),Sd K H Hy d a wl nl ns ws b fl kvs→Mk K Hy v t (lb (m+1)) (m+1)→Q v Hy:=fun t v Hy S M=>by
  obtain ⟨i',c',D'⟩:=S.D
  exact q t v Hy i' c' S.g D' M
 have nDd:D9≠d:=(al D.hd hD0).symm
 have lb1:1≤lb (m+1):=by show 1≤1+2 * lb m;omega
 dsimp only [aX]
 refine bg ((0:Int)<(ss.length:Int)∧0<cell % 4) (fun R hR=>b8 _ _ hR (fun R hR=>⟨_,rfl,.inl ⟨D9,_,rfl,.inl (SqL.of hfit),_,_,rfl,rfl,_,rfl,by rw [List.length_map];exact hR⟩⟩) fun _ R hR=>⟨_,rfl,_,_,rfl,rfl,(zp 4),_,_,rfl,rfl,_,rfl,hR⟩) (fun cc=>?_) (fun _=>?_)
 ·refine ⟨_,rfl,S1.place (E:=E0) nd1 fun p H2 p0 p1 S2 g2 tm2=>?_⟩
  have hfit2:=g2 _ _ hfit nDd
  have lmm:(0:Int)<((ss.map V.str).length:Int):=by rw [List.length_map];exact cc.1
  obtain ⟨nm,enm,hnm⟩:=b9 (ss:=ss) (i:=cell / 4 % ((ss.map V.str).length:Int)) (Int.emod_nonneg _ (by omega)) (by have:=Int.emod_lt_of_pos (cell / 4) lmm;rw [List.length_map] at this ⊢;exact this)
  refine ⟨_,rfl,_,rfl,_,_,rfl,rfl,.inl ⟨by decide,by decide⟩,_,rfl,.inl ⟨D9,_,rfl,.inl (SqL.of hfit2),_,_,rfl,rfl,lmm,.inl ⟨D9,_,_,.str nm,rfl,rfl,SqL.of hfit2,enm,sz 3,fun r hr0=>?_⟩⟩⟩
  have o3:=Old.new (o:=.tup [.str "name",.int p,.str nm]) hr0
  exact fin _ _ _ (S2.old o3) ((cw (by nofun) p0 (by omega) rfl (fun _=>⟨nm,rfl⟩) (RK.tup (.of ad) (.cons (.s _) (.cons (.i _) (.cons (.s _) .nil))))).up lb1 (by omega))
 refine ⟨_,rfl,S1.place (E:=E0) nd1 fun p H2 p0 p1 S2 g2 tm2=>?_⟩
 have tm02:Tm H H2:=fun x y e=>tm2 x y (o1.tm x y e)
 have hka2:=hka.mono tm02
 have rk2:=rk.mono tm02
 have rks2:=rks.mono tm02
 have nok2:=nok.tm tm02
 dsimp only [aX]
 refine bg (h = "whole") (fun R hR=>⟨_,rfl,.inr (.inl ⟨ka,_,0,.str h,rfl,rfl,hka2.sq,at0,.inr (.inl ⟨rfl,_,rfl,by rw [ba];exact hR⟩)⟩)⟩) (fun _=>?_) (fun n1=>?_)
 ·refine bg (cell % 3=0) (fun R hR=>⟨_,rfl,_,_,rfl,rfl,(zp 3),.inr (.inl ⟨rfl,_,rfl,by rw [cg];exact hR⟩)⟩) (fun _=>?_) (fun _=>?_)
  ·refine ⟨_,rfl,_,rfl,_,_,rfl,rfl,.inl ⟨by decide,by decide⟩,_,_,rfl,rfl,(zp 8),sz 3,fun r hr0=>?_⟩
   exact fin _ _ _ (S2.old (Old.new hr0)) ((cw (by nofun) p0 (by omega) rfl (fun z=>absurd z (by nofun)) (RK.tup (.of ad) (.cons (.s _) (.cons (.i _) (.cons (.i _) .nil))))).up lb1 (by omega))
  ·refine ⟨_,rfl,_,rfl,_,_,rfl,rfl,.inl ⟨by decide,by decide⟩,_,rfl,fun z=>⟨sz 3,fun r hr0=>?_⟩⟩
   exact fin _ _ _ (S2.old (Old.new hr0)) ((cw (by nofun) p0 (by omega) rfl (fun z=>absurd z (by nofun)) (RK.tup (.of ad) (.cons (.s _) (.cons (.i _) (.cons (.i _) .nil))))).up lb1 (by omega))
 refine bg (h = "truth") (fun R hR=>⟨_,rfl,.inr (.inl ⟨ka,_,0,.str h,rfl,rfl,hka2.sq,at0,.inr (.inl ⟨rfl,_,rfl,by rw [ba];exact hR⟩)⟩)⟩) (fun _=>?_) (fun n2=>?_)
 ·refine ⟨_,rfl,_,rfl,_,_,rfl,rfl,.inl ⟨by decide,by decide⟩,_,_,rfl,rfl,(zp 2),.inr (.inl ⟨rfl,sz 3,fun r hr0=>?_⟩)⟩
  exact fin _ _ _ (S2.old (Old.new hr0)) ((cw (by nofun) p0 (by omega) rfl (fun z=>absurd z (by nofun)) (RK.tup (.of ad) (.cons (.s _) (.cons (.i _) (.cons (.b _) .nil))))).up lb1 (by omega))
 have lmk:=Ax n1 n2 lm
 have inn:=wg (m:=2) gk
 obtain ⟨i2,c2,D2⟩:=S2.D
 have l5:((ws.length:Nat):Int)=5:=by rw [D2.five];rfl
 obtain ⟨wd,ewd,_⟩:=b9 (ss:=ws) (i:=cell / 12 % 5) (Int.emod_nonneg _ (by decide)) (by rw [l5];exact Int.emod_lt_of_pos _ (by decide))
 have lbm:lb (m+1)=1+2 * lb m:=rfl
 refine bg (h = "?") (fun R hR=>⟨_,rfl,.inr (.inl ⟨ka,_,0,.str h,rfl,rfl,hka2.sq,at0,.inr (.inl ⟨rfl,_,rfl,by rw [ba];exact hR⟩)⟩)⟩) (fun _=>?_) (fun n3=>?_)
 ·refine ⟨sz 1,fun q1 hq1=>⟨sz 1,fun q2 hq2=>⟨sz 1,fun q3 hq3=>⟨sz 3,fun q4 hq4=>?_⟩⟩⟩⟩
  have u1:Old H2 (upd H2 q1 (.tup [.str "whole"])):=Old.new hq1
  have u2:=Old.new (o:=.tup [.str "truth"]) hq2
  have u3:=Old.new (o:=.tup [.str "whole"]) hq3
  have u4:=Old.new (o:=.lst [.ref q1,.ref q2,.ref q3]) hq4
  have uu:=((u1.trans u2).trans u3).trans u4
  obtain ⟨kf,vf,evf,gkf,lmf,rkf⟩:=yM (K:=K) (Int.emod_nonneg (cell / 12) (by decide:(3:Int)≠0)) (Int.emod_lt_of_pos (cell / 12) (by decide)) (.of (u4 _ _ (u3 _ _ (u2 _ _ ad)))) (.of (u4 _ _ (u3 _ _ ad))) (.of (u4 _ _ ad))
  refine ⟨_,rfl,_,_,rfl,rfl,.inl ⟨by decide,by decide⟩,_,_,rfl,rfl,(zp 3),.inl ⟨q4,_,_,vf,rfl,rfl,SqL.of ad,evf,?_⟩⟩
  generalize upd (upd (upd (upd H2 q1 (.tup [.str "whole"])) q2 (.tup [.str "truth"])) q3 (.tup [.str "whole"])) q4 (.lst [.ref q1,.ref q2,.ref q3])=H3 at uu rkf ⊢
  have S3:=S2.old uu
  refine ⟨_,rfl,_,rfl,_,rfl,_,rfl,fun e0 he0=>?_⟩
  have o4:=Old.new (o:=.dK []) he0
  have S4:=S3.old o4
  refine ⟨_,rfl,_,_,rfl,rfl,.inl ⟨by decide,by decide⟩,S4.leaf (E:=E0) nd1 ad (S3.ne he0) (rkf.mono o4.tm) (gkf.mono (by omega)) (Nat.le_trans lmf (by omega)) (fun p hp=>nomatch hp) (by show 0+m≤500;omega) fun t v H5 S5 g5 tm5 M5=>⟨sz 4,fun r hr0=>?_⟩⟩
  have o6:=Old.new (o:=.tup [.str "as",.int p,.ref ka,v]) hr0
  exact fin _ _ _ (S5.old o6) ((mj p0 (by omega) gk (by decide) M5.mp ad (((rk2.mono (uu.trans o4).tm).mono tm5).mono o6.tm) (M5.r.mono o6.tm)).up (by omega) (by omega))
 refine bg (h = "to") (fun R hR=>⟨_,rfl,.inr (.inl ⟨ka,_,0,.str h,rfl,rfl,hka2.sq,at0,.inr (.inl ⟨rfl,_,rfl,by rw [ba];exact hR⟩)⟩)⟩) (fun hto=>?_) (fun n4=>?_)
 ·obtain ⟨k1,k2,rfl⟩:=jc (l:=ks) (by have:=gk.wf.1;rw [hto,jj.1] at this;exact (Option.some.inj this).symm)
  obtain ⟨u1,u2,rfl,ru1,ru2⟩:∃ u1 u2,ku = [u1,u2]∧RK K H2 k1.d u1∧RK K H2 k2.d u2:=by
   obtain ⟨u1,r1,rfl,ru1,u2,r2,rfl,ru2,e⟩:=rks2
   have e':r2 = []:=e
   subst e'
   exact ⟨_,_,rfl,ru1,ru2⟩
  have g1:=inn k1 (.head _)
  have g2':=inn k2 (.tail _ (.head _))
  refine ⟨_,rfl,.inl ⟨d,_,4,.ref wl,rfl,rfl,SqL.of D2.hd,Dl.i4,_,rfl,_,_,rfl,rfl,.inl ⟨by decide,by decide⟩,_,_,rfl,rfl,(zp 5),.inl ⟨wl,_,_,.str wd,rfl,rfl,SqL.of D2.hw,ewd,?_⟩⟩⟩
  refine ⟨_,rfl,_,rfl,_,rfl,.inr (.inl ⟨ka,_,1,u1,rfl,rfl,hka2.sq,at1,_,rfl,_,rfl,.inr (.inl ⟨ka,_,2,u2,rfl,rfl,hka2.sq,aH (j:=2) rfl,_,rfl,_,rfl,_,rfl,.inr (.inl ⟨ka,_,1,u1,rfl,rfl,hka2.sq,at1,nl,wd,u1,kvs,rfl,S2.nm,by omega,fun r2 H3 o3 hr2 hr3=>?_⟩)⟩)⟩)⟩
  have S3:=S2.old o3
  have lp:=aR kvs (.inr wd) u1
  refine ⟨_,rfl,_,_,rfl,rfl,.inl ⟨by decide,by decide⟩,S3.leaf (E:=E0) nd1 hr3 (S2.ne hr2) (ru2.mono o3.tm) (g2'.1.mono (by omega)) (Nat.le_trans (mf k2) (by have:=g2'.2;omega)) ((nok2.tm o3.tm).put (ru1.mono o3.tm) (Nat.le_trans g1.1.dep (by omega))) (by omega) fun t v H5 S5 g5 tm5 M5=>⟨sz 5,fun r hr0=>?_⟩⟩
  have o6:=Old.new (o:=.tup [.str "fn",.int p,.str wd,u1,v]) hr0
  exact fin _ _ _ (S5.old o6) ((sj p0 (by omega) g1.1 (by decide) M5.mp ad (((ru1.mono o3.tm).mono tm5).mono o6.tm) (M5.r.mono o6.tm)).up (by omega) (by omega))
 refine bg (h = "row") (fun R hR=>⟨_,rfl,.inr (.inl ⟨ka,_,0,.str h,rfl,rfl,hka2.sq,at0,.inr (.inl ⟨rfl,_,rfl,by rw [ba];exact hR⟩)⟩)⟩) (fun hrow=>?_) (fun n5=>?_)
 ·obtain ⟨k1,rfl⟩:=List.length_eq_one_iff.mp (show ks.length=1 by have:=gk.wf.1;rw [hrow,jj.2.1] at this;exact (Option.some.inj this).symm)
  obtain ⟨u1,rfl,ru1⟩:∃ u1,ku = [u1]∧RK K H2 k1.d u1:=by
   obtain ⟨u1,r1,rfl,ru1,e⟩:=rks2
   have e':r1 = []:=e
   subst e'
   exact ⟨_,rfl,ru1⟩
  have g1:=inn k1 (.head _)
  obtain ⟨ky,eky,ky2⟩:∃ ky:Nat,cell / 12 % 3=(ky:Int)∧ky≤2:=by
   have b0:0≤cell / 12 % 3:=Int.emod_nonneg _ (by decide)
   have b1:cell / 12 % 3<3:=Int.emod_lt_of_pos _ (by decide)
   exact ⟨(cell / 12 % 3).toNat,by omega,by omega⟩
  refine ⟨_,rfl,_,_,rfl,rfl,.inl ⟨by decide,by decide⟩,_,_,rfl,rfl,(zp 3),ky,by show [V.int (cell / 12 % 3)]=_;rw [eky],by omega,by omega,fun D8 hD8=>?_⟩
  obtain ⟨m1,m2,m3,h0,aD⟩:=S2.apart hD8 nd1
  refine d7 (n:=ky) (fun j σ H6=>∃ (k1:Option V) (ts:List Tk) (tv:List V),σ = [k1,some (.ref d),some (.ref ka),some (.ref nl),some (.int cell),some (.ref D9),some (.int p),none,none,none]∧Sd K H H6 d a wl nl ns ws b fl kvs∧Tm H2 H6∧H6 D8=some (.lst tv)∧RKs K H6 (Tn.ds (Tk.tns ts)) tv∧ts.length=j∧Mps (lb m) m ts) ⟨none,[],[],rfl,S2.old (Old.new hD8),(Old.new hD8).tm,ad,.nil,rfl,fun t ht=>nomatch ht⟩ ?_ ?_ ?_ ?_
  ·intro j σ H6 hj hv
   exact hj
  ·intro σ H6 hv
   exact Nat.le_refl _
  ·intro j σ H6 hj hv y H7 hy
   obtain ⟨k0,ts,tv,rfl,S6,tm6,hD6,rts,lts,Ms⟩:=hv
   obtain ⟨rfl,rfl⟩:=hy
   refine ⟨_,rfl,_,rfl,.inr (.inl ⟨ka,_,1,u1,rfl,rfl,(hka2.mono tm6).sq,at1,_,rfl,_,rfl,_,_,rfl,rfl,.inl ⟨by decide,by decide⟩,_,rfl,.inr ⟨_,_,rfl,rfl,.inl ⟨by decide,by decide⟩,.inr (.inl ⟨_,_,rfl,rfl,S6.leaf (E:=E0) nd1 S6.nm nd1 (ru1.mono tm6) (g1.1.mono (by omega)) (Nat.le_trans (mf k1) (by have:=g1.2;omega)) (nok2.tm tm6) (by omega) fun t v H8 S8 g8 tm8 M8=>?_⟩)⟩⟩)⟩
   have hD8':H8 D8=some (.lst tv):=g8 _ _ hD6 (fun z=>m1 z.symm)
   have ltv:=rts.length
   rw [bq,aF] at ltv
   have tm9:Tm H8 (upd H8 D8 (.lst (tv ++ [v]))):=(Gr.put (M:=M1 D8) rfl).tm1 hD8'
   refine ⟨_,hD8',bA (by omega),nx hj ⟨_,ts ++ [t],tv ++ [v],rfl,S8.upd h0 m1 m2 m3 aD,fun x y e=>tm9 x y (tm8 x y (tm6 x y e)),ad,?_,by rw [List.length_append,lts];rfl,oZ Ms M8.mp⟩⟩
   rw [fD]
   exact ((rts.mono tm8).mono tm9).append (.cons (M8.r.mono tm9) .nil)
  ·intro σ H6 hv
   obtain ⟨k0,ts,tv,rfl,S6,tm6,hD6,rts,lts,Ms⟩:=hv
   refine ⟨_,rfl,_,rfl,.inr (.inl ⟨ka,_,1,u1,rfl,rfl,(hka2.mono tm6).sq,at1,_,rfl,D8,tv,rfl,.inl ⟨SqL.of hD6,fun na hna=>?_⟩⟩)⟩
   have o8:=Old.new (o:=.tup tv) hna
   refine ⟨sz 4,fun q1 hq1=>?_⟩
   have o9:=Old.new (o:=.tup [.str "row",.int p,u1,.ref na]) hq1
   exact fin _ _ _ ((S6.old o8).old o9) ((sk (n:=2) p0 (by omega) g1.1 (by decide) (by decide) (by omega) Ms ad (((ru1.mono tm6).mono o8.tm).mono o9.tm) (RK.tup (.of (o9 _ _ ad)) ((rts.mono o8.tm).mono o9.tm))).up (by omega) (by omega))
 have hpair:=ow gk.wf.1 n1 n2 n3 n4 n5
 obtain ⟨k1,k2,rfl⟩:=jc (l:=ks) (by have:=gk.wf.1;rw [hpair,jj.2.2] at this;exact (Option.some.inj this).symm)
 obtain ⟨u1,u2,rfl,ru1,ru2⟩:∃ u1 u2,ku = [u1,u2]∧RK K H2 k1.d u1∧RK K H2 k2.d u2:=by
  obtain ⟨u1,r1,rfl,ru1,u2,r2,rfl,ru2,e⟩:=rks2
  have e':r2 = []:=e
  subst e'
  exact ⟨_,_,rfl,ru1,ru2⟩
 have g1:=inn k1 (.head _)
 have g2':=inn k2 (.tail _ (.head _))
 refine ⟨_,rfl,_,rfl,_,rfl,.inr (.inl ⟨ka,_,1,u1,rfl,rfl,hka2.sq,at1,_,rfl,_,rfl,_,_,rfl,rfl,.inl ⟨by decide,by decide⟩,S2.leaf (E:=E0) nd1 S2.nm nd1 ru1 (g1.1.mono (by omega)) (Nat.le_trans (mf k1) (by have:=g1.2;omega)) nok2 (by omega) fun t v H3 S3 g3 tm3 M3=>?_⟩)⟩
 refine ⟨_,rfl,_,rfl,.inr (.inl ⟨ka,_,2,u2,rfl,rfl,(hka2.mono tm3).sq,aH (j:=2) rfl,_,rfl,_,rfl,_,_,rfl,rfl,.inl ⟨by decide,by decide⟩,S3.leaf (E:=E0) nd1 S3.nm nd1 (ru2.mono tm3) (g2'.1.mono (by omega)) (Nat.le_trans (mf k2) (by have:=g2'.2;omega)) (nok2.tm tm3) (by omega) fun t' v' H4 S4 g4 tm4 M4=>⟨sz 4,fun r hr0=>?_⟩⟩)⟩
 have o6:=Old.new (o:=.tup [.str "pair",.int p,v,v']) hr0
 exact fin _ _ _ (S4.old o6) ((fS (by nofun) p0 (by omega) M3.mp M4.mp ad ((M3.r.mono tm4).mono o6.tm) (M4.r.mono o6.tm)).up (by omega) (by omega))
def nb:Nat→Nat
 | 0=>15
 | j+1=>1+4 * nb j
def ddb:Nat→Nat
 | 0=>4
 | j+1=>j+6
theorem yT (j:Nat):nb j≤nb (j+1):=by show nb j≤1+4 * nb j;omega
theorem qW (j:Nat):1+ddb j≤ddb (j+1):=by
 cases j with
 | zero=>decide
 | succ j=>show 1+(j+6)≤j+1+6;omega
def du (K:W.Frag) (m:Nat):Sp:=fun vs H Q _=>∃ (d a wl nd:Addr) (ns:List Int) (ws:List Str) (i b c fl:Int) (k:Kn) (kv:V) (kvs:List (Key×V)) (r:Nat),vs = [.ref d,kv,.ref nd,.int (r:Int)]∧Dl K H d a wl ns ws i b c fl∧RK K H k.d kv∧Kg k 3∧H nd=some (.dK kvs)∧nd≠d∧Nok K H kvs∧kvs.length+2 * r≤480∧r<m∧r≤6 ∧
 ∀ (t:Tk) (v:V) (H':Hp) (i' c':Int),Gr (M1 d) H H'→Dl K H' d a wl ns ws i' b c' fl→Mk K H' v t (nb (r - 4)) (ddb (r - 4))→Q v H'
theorem Sd.node {H Hx:Hp} {d a wl nd nd':Addr} {ns:List Int} {ws:List Str} {b fl z:Int} {kvs kvs':List (Key×V)} {m:Nat} (r:Nat) {k:Kn} {kv:V} {Q:VK} {E:XK} (S:Sd K H Hx d a wl nd ns ws b fl kvs) (n1:nd≠d) (h':Hx nd'=some (.dK kvs')) (n':nd'≠d) (rk:RK K Hx k.d kv) (gk:Kg k 3) (nok:Nok K Hx kvs') (few:kvs'.length+2 * r≤480) (hz:z=(r:Int)) (hm:r<m) (h6:r≤6)
 (kk:∀ t v Hy,Sd K H Hy d a wl nd ns ws b fl kvs→Gr (M1 d) Hx Hy→Tm Hx Hy→Mk K Hy v t (nb (r - 4)) (ddb (r - 4))→Q v Hy):du K m [.ref d,kv,.ref nd',.int z] Hx Q E:=by
 obtain ⟨i,c,D⟩:=S.D
 exact ⟨d,a,wl,nd',ns,ws,i,b,c,fl,k,kv,kvs',r,by rw [hz],D,rk,gk,h',n',nok,few,hm,h6,fun t v Hy i' c' g' D' M=>kk t v Hy ⟨S.g.trans g',⟨i',c',D'⟩,g' _ _ S.nm n1⟩ g' (g'.tm1 D.hd) M⟩
abbrev nG:Stmt:=top 52
def pG (K:W.Frag) (m:Nat):Sp:=fun vs H Q _=>∃ (d a wl nd:Addr) (ns:List Int) (ws:List Str) (i b c fl cell:Int) (k:Kn) (kv:V) (kvs:List (Key×V)) (r:Nat),vs = [.ref d,kv,.ref nd,.int (r:Int),.int cell]∧Dl K H d a wl ns ws i b c fl∧RK K H k.d kv∧Kg k 3∧H nd=some (.dK kvs)∧nd≠d∧Nok K H kvs∧kvs.length+2 * r≤480∧5≤r∧r≤m∧r≤6 ∧
 ∀ (t:Tk) (v:V) (H':Hp) (i' c':Int),Gr (M1 d) H H'→Dl K H' d a wl ns ws i' b c' fl→Mk K H' v t (nb (r - 4)) (ddb (r - 4))→Q v H'
theorem pB:aA ["_law_deal","_law_want","_law_names","_law_room","_law_cell","_law_place_here","_law_sign","_law_one","_law_word","_law_more_here","_law_own","_law_items"] ["_law_deal","_law_want","_law_names","_law_room","_law_cell"] (au nG):=⟨rfl,rfl,rfl,by nofun,rfl,by nofun,by nofun⟩
theorem sD {m:Nat} (F:Fun K "_law_built" "_law_built" nG f fd) (T:Tx mg) (AU:Cal P w K mg base "_law_place" ["_law_deal"] 1 (dS K)) (Ew:Cal P w K mg base "_law_flat" ["_law_cell"] 1 (vF K)) (BZ:Cal P w K mg base "_law_kind" ["_law_cell"] 1 (iU K)) (Bp:Cal P w K mg base "_law_more" ["_law_names","_law_word","_law_kind_here"] 1 (qG K)) (AV:Cal P w K mg base "_law_node" ["_law_deal","_law_want","_law_names","_law_room"] (2 * m+7) (du K m)) :
 aY P w K mg base CX0 (2 * m+8) f fd ["_law_deal","_law_want","_law_names","_law_room","_law_cell"] (pG K m):=by
 refine F.ok pB (fun vs H Q E h=>?_) (fun cdv A outer s H vs Q E hr h=>?_)
 ·obtain ⟨d,a,wl,nd,ns,ws,i,b,c,fl,cell,k,kv,kvs,r,rfl,_⟩:=h
  rfl
 obtain ⟨d,a,wl,nl,ns,ws,i,b,c,fl,cell,k,kv,kvs,r,rfl,D,rk,gk,hnl,nd1,nok,few,r5,rm,r6,q⟩:=h
 have nd:=pB.nd
 obtain ⟨h,ks⟩:=k
 obtain ⟨ka,ku,rfl,hka,rks⟩:=RK.kind (show RK K H (.tup (.str h :: Kn.ds ks)) kv from rk)
 refine' ⟨_,?n0,?Z⟩
 case' n0=>refine' ag ?N1 ?N2
 case N1=>exact psX 5 nd (ao AU hr (pa (pv 0) ae))
 case' N2=>refine' ag (aC ?N5 ?N6 aw) ?N4
 case' N5=>refine' PW.pt ?N7
 case' N7=>refine' bE ?N8 ?N9
 case' N8=>refine' ak (ax hr) ?Na ai (aq _)
 case Na=>exact pxK K (pv 1) ac (fun _ _=>rfl)
 case N9=>exact bC (ak (ax hr) (am aE (pv 4) ac) ac (aq _))
 case' N6=>refine' ah ?Nb
 case Nb=>exact ar (ap (pa ai (pa (pv 5) (pa (ao AV hr (pa (pv 0) (pa (ap (pa ai (pa (ao Ew hr (pa (am ay (pv 4) ac) ae)) ae))) (pa (pv 2) (pa (am bu (pv 3) ac) ae))))) ae))))
 case' N4=>refine' ag (aC ?Ne ?Nf aw) ?Nd
 case' Ne=>refine' PW.pt ?Ng
 case' Ng=>refine' eB ?Nh ?Ni
 case' Nh=>refine' ak (ax hr) ?Nj ai (aq _)
 case Nj=>exact pxK K (pv 1) ac (fun _ _=>rfl)
 case' Ni=>refine' dR ?Nk
 case' Nk=>refine' ak (ax hr) ?Nl ai (aq _)
 case Nl=>exact pxK K (pv 1) ac (fun _ _=>rfl)
 case' Nf=>refine' ag ?Nm ?Nn
 case' Nm=>refine' psX 6 nd ?No
 case No=>exact pxK K ai (am aE (pv 4) ac) (fun _ _=>rfl)
 case' Nn=>refine' ag (aC ?Nr ?Ns aw) ?Nq
 case' Nr=>refine' ak (ax hr) ?Nt ai (aq _)
 case Nt=>exact pxK K (pv 1) ac (fun _ _=>rfl)
 case' Ns=>refine' ah ?Nu
 case' Nu=>refine' psX 6 nd ?Nv
 case Nv=>exact pxK K ai (am aE (pv 4) ac) (fun _ _=>rfl)
 case' Nq=>refine' ag ?Nw ?Nx
 case Nw=>exact psX 7 nd (ao AV hr (pa (pv 0) (pa (ap (pa ai ae)) (pa (pv 2) (pa (am bu (pv 3) ac) ae)))))
 case' Nx=>refine' ah ?Ny
 case Ny=>exact ar (ap (pa ai (pa (pv 5) (pa (pv 6) (pa (pv 7) (pa (ao AV hr (pa (pv 0) (pa (ap (pa ai ae)) (pa (pv 2) (pa (am bu (pv 3) ac) ae))))) ae))))))
 case' Nd=>refine' ag (aC ?N11 ?N12 aw) ?N10
 case' N11=>refine' ak (ax hr) ?N13 ai (aq _)
 case N13=>exact pxK K (pv 1) ac (fun _ _=>rfl)
 case' N12=>refine' ah ?N14
 case N14=>exact ar (ap (pa ai (pa (pv 5) (pa (pv 1) (pa (ao AV hr (pa (pv 0) (pa (ao BZ hr (pa (pv 4) ae)) (pa (pv 2) (pa (am bu (pv 3) ac) ae))))) ae)))))
 case' N10=>refine' ag (aC ?N17 ?N18 aw) ?N16
 case' N17=>refine' ak (ax hr) ?N19 ai (aq _)
 case N19=>exact pxK K (pv 1) ac (fun _ _=>rfl)
 case' N18=>refine' ag ?N1a ?N1b
 case' N1a=>refine' psX 8 nd ?N1c
 case' N1c=>refine' pxK K ?N1d (am aE (pv 4) ac) (fun _ _=>rfl)
 case N1d=>exact pxK K (pv 0) ac (fun _ _=>rfl)
 case' N1b=>refine' ag ?N1e ?N1f
 case' N1e=>refine' psX 9 nd ?N1g
 case' N1g=>refine' ao Bp hr ?N1h
 case' N1h=>refine' pa (pv 2) ?N1i
 case' N1i=>refine' pa (pv 8) ?N1j
 case' N1j=>refine' pa ?N1k ae
 case N1k=>exact pxK K (pv 1) ac (fun _ _=>rfl)
 case' N1f=>refine' ag (aC (ak eg (am aE (am ay (pv 4) ac) ac) ac (aq _)) ?N1n aw) ?N1m
 case' N1n=>refine' ah (ar ?N1p)
 case' N1p=>refine' ap ?N1q
 case' N1q=>refine' pa ai ?N1r
 case' N1r=>refine' pa (pv 5) ?N1s
 case' N1s=>refine' pa (pv 8) ?N1t
 case' N1t=>refine' pa ?N1u ?N1v
 case N1u=>exact pxK K (pv 1) ac (fun _ _=>rfl)
 case' N1v=>refine' pa ?N1w ae
 case' N1w=>refine' ao AV hr ?N1x
 case' N1x=>refine' pa (pv 0) ?N1y
 case' N1y=>refine' pa ?N1z (pa (pv 9) (pa (am bu (pv 3) ac) ae))
 case N1z=>exact pxK K (pv 1) ac (fun _ _=>rfl)
 case' N1m=>refine' ag ?N20 ?N21
 case' N20=>refine' psX 10 nd ?N22
 case' N22=>refine' pxK K ?N23 (am aE (am ay (pv 4) ac) ac) (fun _ _=>rfl)
 case N23=>exact pxK K (pv 0) ac (fun _ _=>rfl)
 case' N21=>refine' ag ?N24 ?N25
 case' N24=>refine' psX 9 nd ?N26
 case' N26=>refine' ao Bp hr ?N27
 case' N27=>refine' pa (ao Bp hr (pa (pv 2) (pa (pv 10) (pa (pv 1) ae)))) ?N28
 case' N28=>refine' pa (pv 8) ?N29
 case' N29=>refine' pa ?N2a ae
 case N2a=>exact pxK K (pv 1) ac (fun _ _=>rfl)
 case' N25=>refine' ah (ar ?N2c)
 case' N2c=>refine' ap ?N2d
 case' N2d=>refine' pa ai ?N2e
 case' N2e=>refine' pa (pv 5) ?N2f
 case' N2f=>refine' pa (pv 10) ?N2g
 case' N2g=>refine' pa (pv 8) ?N2h
 case' N2h=>refine' pa ?N2i ?N2j
 case N2i=>exact pxK K (pv 1) ac (fun _ _=>rfl)
 case' N2j=>refine' pa ?N2k ?N2l
 case N2k=>exact pxK K (pv 1) ac (fun _ _=>rfl)
 case' N2l=>refine' pa ?N2m ae
 case' N2m=>refine' ao AV hr ?N2n
 case' N2n=>refine' pa (pv 0) ?N2o
 case' N2o=>refine' pa ?N2p (pa (pv 9) (pa (am bu (pv 3) ac) ae))
 case N2p=>exact pxK K (pv 1) ac (fun _ _=>rfl)
 case' N16=>refine' ag (aC ?N2s ?N2t aw) ?N2r
 case' N2s=>refine' ak (ax hr) ?N2u ai (aq _)
 case N2u=>exact pxK K (pv 1) ac (fun _ _=>rfl)
 case' N2t=>refine' ag ?N2v ?N2w
 case' N2v=>refine' mt (te:=jV (du K m) [] E0 (cj (bW 1) (cj (tOp (rIx K) (bW 2) (tC (.int 1))) (cj (bW 3) (cj (tOp (rI0 fun i j=>.int (i - j)) (bW 4) (tC (.int 1))) je))))) (i:=11) (k:=1) (N:=["_law_k","_law_deal","_law_want","_law_names","_law_room","_law_cell","_law_place_here","_law_sign","_law_one","_law_word","_law_more_here","_law_own","_law_items"]) (dW rfl rfl rfl rfl rfl rfl) rfl nd rfl (Or.inl rfl) ?N2x (fun _ _ _ _=>?N2y) (fun _ _ _ _=>?N2z) (fun _ _ _ _=>?N30)
 case N2x=>exact bN rfl T.range (pa (am aE (pv 4) ac) ae)
 case N2y=>exact aV (i:=0) (by show List.Nodup (["_law_k","_law_deal","_law_want","_law_names","_law_room","_law_cell","_law_place_here","_law_sign","_law_one","_law_word","_law_more_here","_law_own","_law_items"]:List Str);decide +kernel) rfl (Or.inl rfl)
 case N2z=>exact cZ
 case N30=>
  refine' ao AV hr ?N31
  case' N31=>refine' pa (pv 1) ?N32
  first | case' N32=>refine' pa ?N33 (pa (pv 3) (pa (am bu (pv 4) ac) ae)) | case' N31=>refine' pa ?N33 (pa (pv 3) (pa (am bu (pv 4) ac) ae))
  first | case N33=>exact pxK K (pv 2) ac (fun _ _=>rfl) | case N32=>exact pxK K (pv 2) ac (fun _ _=>rfl) | case N31=>exact pxK K (pv 2) ac (fun _ _=>rfl)
 case' N2w=>refine' ah (ar ?N35)
 case' N35=>refine' ap ?N36
 case' N36=>refine' pa ai ?N37
 case' N37=>refine' pa (pv 5) ?N38
 case' N38=>refine' pa ?N39 (pa (bw (bV) rfl T.tuple boot_tuple (pa (pv 11) ae)) ae)
 case N39=>exact pxK K (pv 1) ac (fun _ _=>rfl)
 case' N2r=>refine' ag ?N3a ?N3b
 case' N3a=>refine' psX 7 nd ?N3c
 case' N3c=>refine' ao AV hr ?N3d
 case' N3d=>refine' pa (pv 0) ?N3e
 case' N3e=>refine' pa ?N3f (pa (pv 2) (pa (am bu (pv 3) ac) ae))
 case N3f=>exact pxK K (pv 1) ac (fun _ _=>rfl)
 case' N3b=>refine' ah (ar ?N3h)
 case' N3h=>refine' ap ?N3i
 case' N3i=>refine' pa ai ?N3j
 case' N3j=>refine' pa (pv 5) ?N3k
 case' N3k=>refine' pa (pv 7) ?N3l
 case' N3l=>refine' pa ?N3m ae
 case' N3m=>refine' ao AV hr ?N3n
 case' N3n=>refine' pa (pv 0) ?N3o
 case' N3o=>refine' pa ?N3p (pa (pv 2) (pa (am bu (pv 3) ac) ae))
 case N3p=>exact pxK K (pv 1) ac (fun _ _=>rfl)
 have S0:Sd K H H d a wl nl ns ws b fl kvs:=⟨fun _ _ e _=>e,⟨i,c,D⟩,hnl⟩
 refine ⟨_,rfl,S0.place (E:=E0) nd1 fun p H2 p0 p1 S2 g2 tm02=>?_⟩
 have hka2:=hka.mono tm02
 have rk2:=rk.mono tm02
 have rks2:=rks.mono tm02
 have nok2:=nok.tm tm02
 have inn:=wg (m:=2) gk
 obtain ⟨i2,c2,D2⟩:=S2.D
 have l5:((ws.length:Nat):Int)=5:=by rw [D2.five];rfl
 obtain ⟨wd,ewd,_⟩:=b9 (ss:=ws) (i:=cell % 5) (Int.emod_nonneg _ (by decide)) (by rw [l5];exact Int.emod_lt_of_pos _ (by decide))
 obtain ⟨wo,ewo,_⟩:=b9 (ss:=ws) (i:=cell / 15 % 5) (Int.emod_nonneg _ (by decide)) (by rw [l5];exact Int.emod_lt_of_pos _ (by decide))
 obtain ⟨j,ej⟩:∃ j,r - 4=j+1:=⟨r - 5,by omega⟩
 have ej':r - 1 - 4=j:=by omega
 have hz:(r:Int) - 1=((r - 1:Nat):Int):=by omega
 have u1:1+4 * nb j≤nb (r - 4):=by rw [ej];exact Nat.le_refl _
 have u2:ddb j+1≤ddb (r - 4):=by rw [ej,Nat.add_comm];exact qW j
 have fin:∀ (t:Tk) (v:V) (Hy:Hp),Sd K H Hy d a wl nl ns ws b fl kvs→Mk K Hy v t (nb (r - 4)) (ddb (r - 4))→Q v Hy:=fun t v Hy S M=>by
  obtain ⟨i',c',D'⟩:=S.D
  exact q t v Hy i' c' S.g D' M
 dsimp only [aX]
 refine bg (h = "whole"∧cell % 5=4) (fun R hR=>b8 _ _ hR (fun R hR=>⟨_,rfl,.inr (.inl ⟨ka,_,0,.str h,rfl,rfl,hka2.sq,at0,.inr (.inl ⟨rfl,_,rfl,by rw [ba];exact hR⟩)⟩)⟩) fun _ R hR=>⟨_,rfl,_,_,rfl,rfl,(zp 5),.inr (.inl ⟨rfl,_,rfl,by rw [cg];exact hR⟩)⟩) (fun _=>?_) (fun _=>?_)
 ·refine ⟨_,rfl,_,rfl,_,rfl,_,_,rfl,rfl,.inl ⟨by decide,by decide⟩,_,rfl,fun k1 v1 H3 rk1 gk1 o3=>⟨sz 2,fun q1 hq1=>?_⟩⟩
  have o4:=Old.new (o:=.tup [.str "row",v1]) hq1
  have S4:=(S2.old o3).old o4
  refine ⟨_,rfl,_,rfl,_,_,rfl,rfl,S4.node (E:=E0) (k:=.mk "row" [k1]) (r - 1) nd1 S4.nm nd1 (RK.tup (.of ad) (.cons (.s _) (.cons (rk1.mono o4.tm) .nil))) ((iD gk1).mono (by omega)) ((nok2.tm o3.tm).tm o4.tm) (by omega) hz (by omega) (by omega) fun t v H5 S5 g5 tm5 M5=>⟨sz 3,fun q2 hq2=>?_⟩⟩
  rw [ej'] at M5
  exact fin _ _ _ (S5.old (Old.new hq2)) ((mX (by nofun) p0 (by omega) M5.mp ad (M5.r.mono (Old.new hq2).tm)).up (by omega) u2)
 refine bg (h = "whole"∨h = "truth") (fun R hR=>gD _ _ hR (fun R hR=>⟨_,rfl,.inr (.inl ⟨ka,_,0,.str h,rfl,rfl,hka2.sq,at0,.inr (.inl ⟨rfl,_,rfl,by rw [ba];exact hR⟩)⟩)⟩) (fun R hR=>⟨_,rfl,.inr (.inl ⟨ka,_,0,.str h,rfl,rfl,hka2.sq,at0,.inr (.inl ⟨rfl,_,rfl,by rw [ba];exact hR⟩)⟩)⟩)) (fun _=>?_) (fun nw=>?_)
 ·obtain ⟨ch,ec,_⟩:=ib (xs:=(("+-*+":Str)).cps.toList) (Int.emod_nonneg cell (by decide:(4:Int)≠0)) (by exact Int.emod_lt_of_pos cell (by decide))
  obtain ⟨ch2,ec2,_⟩:=ib (xs:=(("<=":Str)).cps.toList) (Int.emod_nonneg cell (by decide:(2:Int)≠0)) (by exact Int.emod_lt_of_pos cell (by decide))
  refine ⟨_,rfl,_,_,rfl,rfl,(zp 4),.inr (.inr ⟨_,_,ch,rfl,rfl,by nofun,ec,?_⟩)⟩
  dsimp only [aX]
  refine cR (fun σ H3=>H2=H3∧∃ sg:Str,σ = [some (.ref d),some (.ref ka),some (.ref nl),some (.int (r:Int)),some (.int cell),some (.int p),some (.str sg),none,none,none,none,none]) (fun R hR=>?_) (fun σ H3 hP=>?_)
  ·refine bK (h = "truth") (fun R hR=>⟨_,rfl,.inr (.inl ⟨ka,_,0,.str h,rfl,rfl,hka2.sq,at0,.inr (.inl ⟨rfl,_,rfl,by rw [ba];exact hR⟩)⟩)⟩) (fun _=>?_) (fun _=>hR _ _ ⟨rfl,_,rfl⟩)
   exact ⟨_,rfl,_,_,rfl,rfl,(zp 2),.inr (.inr ⟨_,_,ch2,rfl,rfl,by nofun,ec2,hR _ _ ⟨rfl,_,rfl⟩⟩)⟩
  obtain ⟨rfl,sg,rfl⟩:=hP
  refine ⟨_,rfl,sz 1,fun q1 hq1=>?_⟩
  have o3:=Old.new (o:=.tup [.str "whole"]) hq1
  have S3:=S2.old o3
  refine ⟨_,rfl,_,rfl,_,_,rfl,rfl,S3.node (E:=E0) (k:=cf) (r - 1) nd1 S3.nm nd1 (RK.tup (.of ad) (.cons (.s _) .nil)) (ce.mono (by omega)) (nok2.tm o3.tm) (by omega) hz (by omega) (by omega) fun t v H4 S4 g4 tm4 M4=>?_⟩
  refine ⟨_,rfl,_,rfl,_,rfl,_,rfl,sz 1,fun q2 hq2=>?_⟩
  have o5:=Old.new (o:=.tup [.str "whole"]) hq2
  have S5:=S4.old o5
  refine ⟨_,rfl,_,rfl,_,_,rfl,rfl,S5.node (E:=E0) (k:=cf) (r - 1) nd1 S5.nm nd1 (RK.tup (.of ad) (.cons (.s _) .nil)) (ce.mono (by omega)) (((nok2.tm o3.tm).tm tm4).tm o5.tm) (by omega) hz (by omega) (by omega) fun t' v' H6 S6 g6 tm6 M6=>⟨sz 5,fun q3 hq3=>?_⟩⟩
  rw [ej'] at M4 M6
  have o7:=Old.new (o:=.tup [.str "do",.int p,.str sg,v,v']) hq3
  exact fin _ _ _ (S6.old o7) ((si p0 (by omega) M4.mp M6.mp ad (((M4.r.mono o5.tm).mono tm6).mono o7.tm) (M6.r.mono o7.tm)).up (by omega) u2)
 have n1:h≠"whole":=fun z=>nw (.inl z)
 have n2:h≠"truth":=fun z=>nw (.inr z)
 refine bg (h = "?") (fun R hR=>⟨_,rfl,.inr (.inl ⟨ka,_,0,.str h,rfl,rfl,hka2.sq,at0,.inr (.inl ⟨rfl,_,rfl,by rw [ba];exact hR⟩)⟩)⟩) (fun _=>?_) (fun n3=>?_)
 ·refine ⟨_,rfl,_,rfl,_,rfl,_,rfl,_,rfl,fun k1 v1 H3 rk1 gk1 o3=>?_⟩
  have S3:=S2.old o3
  refine ⟨_,rfl,_,rfl,_,_,rfl,rfl,S3.node (E:=E0) (r - 1) nd1 S3.nm nd1 rk1 (gk1.mono (by omega)) (nok2.tm o3.tm) (by omega) hz (by omega) (by omega) fun t v H5 S5 g5 tm5 M5=>⟨sz 4,fun q2 hq2=>?_⟩⟩
  rw [ej'] at M5
  have o6:=Old.new (o:=.tup [.str "as",.int p,.ref ka,v]) hq2
  exact fin _ _ _ (S5.old o6) ((mj p0 (by omega) gk (by decide) M5.mp ad (((rk2.mono o3.tm).mono tm5).mono o6.tm) (M5.r.mono o6.tm)).up (by omega) u2)
 refine bg (h = "to") (fun R hR=>⟨_,rfl,.inr (.inl ⟨ka,_,0,.str h,rfl,rfl,hka2.sq,at0,.inr (.inl ⟨rfl,_,rfl,by rw [ba];exact hR⟩)⟩)⟩) (fun hto=>?_) (fun n4=>?_)
 ·obtain ⟨k1,k2,rfl⟩:=jc (l:=ks) (by have:=gk.wf.1;rw [hto,jj.1] at this;exact (Option.some.inj this).symm)
  obtain ⟨u1',u2',rfl,ru1,ru2⟩:∃ u1 u2,ku = [u1,u2]∧RK K H2 k1.d u1∧RK K H2 k2.d u2:=by
   obtain ⟨u1,r1,rfl,ru1,u2,r2,rfl,ru2,e⟩:=rks2
   have e':r2 = []:=e
   subst e'
   exact ⟨_,_,rfl,ru1,ru2⟩
  have gk1:=(inn k1 (.head _)).1
  have gk2:=(inn k2 (.tail _ (.head _))).1
  refine ⟨_,rfl,.inl ⟨d,_,4,.ref wl,rfl,rfl,SqL.of D2.hd,Dl.i4,_,rfl,_,_,rfl,rfl,(zp 5),.inl ⟨wl,_,_,.str wd,rfl,rfl,SqL.of D2.hw,ewd,?_⟩⟩⟩
  refine ⟨_,rfl,_,rfl,_,rfl,.inr (.inl ⟨ka,_,1,u1',rfl,rfl,hka2.sq,at1,nl,wd,u1',kvs,rfl,S2.nm,by omega,fun r2 H3 o3 hr2 hr3=>?_⟩)⟩
  have S3:=S2.old o3
  have lp:=aR kvs (.inr wd) u1'
  have ru13:=ru1.mono o3.tm
  have ru23:=ru2.mono o3.tm
  have hka3:=hka2.mono o3.tm
  obtain ⟨i3,c3,D3⟩:=S3.D
  dsimp only [aX]
  refine bg (0<cell / 5 % 3) (fun R hR=>⟨_,rfl,_,_,rfl,rfl,.inl ⟨by decide,by decide⟩,_,_,rfl,rfl,(zp 3),_,_,rfl,rfl,_,rfl,hR⟩) (fun _=>?_) (fun _=>?_)
  ·refine ⟨_,rfl,_,rfl,_,rfl,.inr (.inl ⟨ka,_,1,u1',rfl,rfl,hka3.sq,at1,_,rfl,_,rfl,.inr (.inl ⟨ka,_,2,u2',rfl,rfl,hka3.sq,aH (j:=2) rfl,_,rfl,_,rfl,_,_,rfl,rfl,S3.node (E:=E0) (r - 1) nd1 hr3 (S2.ne hr2) ru23 (gk2.mono (by omega)) ((nok2.tm o3.tm).put ru13 (Nat.le_trans gk1.dep (by omega))) (by omega) hz (by omega) (by omega) fun t v H5 S5 g5 tm5 M5=>⟨sz 5,fun q2 hq2=>?_⟩⟩)⟩)⟩
   rw [ej'] at M5
   have o6:=Old.new (o:=.tup [.str "fn",.int p,.str wd,u1',v]) hq2
   exact fin _ _ _ (S5.old o6) ((sj p0 (by omega) gk1 (by decide) M5.mp ad ((ru13.mono tm5).mono o6.tm) (M5.r.mono o6.tm)).up (by omega) u2)
  refine ⟨_,rfl,.inl ⟨d,_,4,.ref wl,rfl,rfl,SqL.of D3.hd,Dl.i4,_,rfl,_,_,rfl,rfl,.inl ⟨by decide,by decide⟩,_,_,rfl,rfl,(zp 5),.inl ⟨wl,_,_,.str wo,rfl,rfl,SqL.of D3.hw,ewo,?_⟩⟩⟩
  refine ⟨_,rfl,_,rfl,_,rfl,nl,wo,.ref ka,kvs,rfl,S3.nm,by omega,fun r4 H4 o4 hr4 hr5=>?_⟩
  have lp2:=aR kvs (.inr wo) (.ref ka)
  refine ⟨_,rfl,_,rfl,.inr (.inl ⟨ka,_,1,u1',rfl,rfl,(hka3.mono o4.tm).sq,at1,r4,wd,u1',putK kvs (.inr wo) (.ref ka),rfl,hr5,by omega,fun r6' H5 o5 hr6 hr7=>?_⟩)⟩
  have S5:=(S3.old o4).old o5
  have o45:=o4.trans o5
  have lp3:=aR (putK kvs (.inr wo) (.ref ka)) (.inr wd) u1'
  have nok5:Nok K H5 (putK (putK kvs (.inr wo) (.ref ka)) (.inr wd) u1'):=((((nok2.tm o3.tm).tm o45.tm).put (((rk2.mono o3.tm).mono o45.tm)) (Nat.le_trans gk.dep (by omega))).put (ru13.mono o45.tm) (Nat.le_trans gk1.dep (by omega)))
  refine ⟨_,rfl,_,rfl,_,rfl,_,rfl,.inr (.inl ⟨ka,_,1,u1',rfl,rfl,(hka3.mono o45.tm).sq,at1,_,rfl,.inr (.inl ⟨ka,_,2,u2',rfl,rfl,(hka3.mono o45.tm).sq,aH (j:=2) rfl,_,rfl,_,rfl,.inr (.inl ⟨ka,_,2,u2',rfl,rfl,(hka3.mono o45.tm).sq,aH (j:=2) rfl,_,rfl,_,rfl,_,_,rfl,rfl,S5.node (E:=E0) (r - 1) nd1 hr7 ((S3.old o4).ne hr6) (ru23.mono o45.tm) (gk2.mono (by omega)) nok5 (by omega) hz (by omega) (by omega) fun t v H6 S6 g6 tm6 M6=>⟨sz 7,fun q2 hq2=>?_⟩⟩)⟩)⟩)⟩
  rw [ej'] at M6
  have o7:=Old.new (o:=.tup [.str "self",.int p,.str wo,.str wd,u1',u2',v]) hq2
  exact fin _ _ _ (S6.old o7) ((oY p0 (by omega) gk1 gk2 (by decide) M6.mp ad (((ru13.mono o45.tm).mono tm6).mono o7.tm) (((ru23.mono o45.tm).mono tm6).mono o7.tm) (M6.r.mono o7.tm)).up (by omega) u2)
 refine bg (h = "row") (fun R hR=>⟨_,rfl,.inr (.inl ⟨ka,_,0,.str h,rfl,rfl,hka2.sq,at0,.inr (.inl ⟨rfl,_,rfl,by rw [ba];exact hR⟩)⟩)⟩) (fun hrow=>?_) (fun n5=>?_)
 ·obtain ⟨k1,rfl⟩:=List.length_eq_one_iff.mp (show ks.length=1 by have:=gk.wf.1;rw [hrow,jj.2.1] at this;exact (Option.some.inj this).symm)
  obtain ⟨u1',rfl,ru1⟩:∃ u1,ku = [u1]∧RK K H2 k1.d u1:=by
   obtain ⟨u1,r1,rfl,ru1,e⟩:=rks2
   have e':r1 = []:=e
   subst e'
   exact ⟨_,rfl,ru1⟩
  have gk1:=(inn k1 (.head _)).1
  obtain ⟨ky,eky,ky4⟩:∃ ky:Nat,cell % 5=(ky:Int)∧ky≤4:=by
   have b0:0≤cell % 5:=Int.emod_nonneg _ (by decide)
   have b1:cell % 5<5:=Int.emod_lt_of_pos _ (by decide)
   exact ⟨(cell % 5).toNat,by omega,by omega⟩
  refine ⟨_,rfl,_,_,rfl,rfl,(zp 5),ky,by show [V.int (cell % 5)]=_;rw [eky],by omega,by omega,fun D8 hD8=>?_⟩
  obtain ⟨m1,m2,m3,h0,aD⟩:=S2.apart hD8 nd1
  refine d7 (n:=ky) (fun j' σ H6=>∃ (k1:Option V) (ts:List Tk) (tv:List V),σ = [k1,some (.ref d),some (.ref ka),some (.ref nl),some (.int (r:Int)),some (.int cell),some (.int p),none,none,none,none,none,none]∧Sd K H H6 d a wl nl ns ws b fl kvs∧Tm H2 H6∧H6 D8=some (.lst tv)∧RKs K H6 (Tn.ds (Tk.tns ts)) tv∧ts.length=j'∧Mps (nb j) (ddb j) ts) ⟨none,[],[],rfl,S2.old (Old.new hD8),(Old.new hD8).tm,ad,.nil,rfl,fun t ht=>nomatch ht⟩ ?_ ?_ ?_ ?_
  ·intro j' σ H6 hj hv
   exact hj
  ·intro σ H6 hv
   exact Nat.le_refl _
  ·intro j' σ H6 hj hv y H7 hy
   obtain ⟨k0,ts,tv,rfl,S6,tm6,hD6,rts,lts,Ms⟩:=hv
   obtain ⟨rfl,rfl⟩:=hy
   refine ⟨_,rfl,_,rfl,.inr (.inl ⟨ka,_,1,u1',rfl,rfl,(hka2.mono tm6).sq,at1,_,rfl,_,rfl,_,_,rfl,rfl,S6.node (E:=E0) (r - 1) nd1 S6.nm nd1 (ru1.mono tm6) (gk1.mono (by omega)) (nok2.tm tm6) (by omega) hz (by omega) (by omega) fun t v H8 S8 g8 tm8 M8=>?_⟩)⟩
   rw [ej'] at M8
   have hD8':H8 D8=some (.lst tv):=g8 _ _ hD6 (fun z=>m1 z.symm)
   have ltv:=rts.length
   rw [bq,aF] at ltv
   have tm9:Tm H8 (upd H8 D8 (.lst (tv ++ [v]))):=(Gr.put (M:=M1 D8) rfl).tm1 hD8'
   refine ⟨_,hD8',bA (by omega),nx hj ⟨_,ts ++ [t],tv ++ [v],rfl,S8.upd h0 m1 m2 m3 aD,fun x y e=>tm9 x y (tm8 x y (tm6 x y e)),ad,?_,by rw [List.length_append,lts];rfl,oZ Ms M8.mp⟩⟩
   rw [fD]
   exact ((rts.mono tm8).mono tm9).append (.cons (M8.r.mono tm9) .nil)
  ·intro σ H6 hv
   obtain ⟨k0,ts,tv,rfl,S6,tm6,hD6,rts,lts,Ms⟩:=hv
   refine ⟨_,rfl,_,rfl,.inr (.inl ⟨ka,_,1,u1',rfl,rfl,(hka2.mono tm6).sq,at1,_,rfl,D8,tv,rfl,.inl ⟨SqL.of hD6,fun na hna=>?_⟩⟩)⟩
   have o8:=Old.new (o:=.tup tv) hna
   refine ⟨sz 4,fun q1 hq1=>?_⟩
   have o9:=Old.new (o:=.tup [.str "row",.int p,u1',.ref na]) hq1
   exact fin _ _ _ ((S6.old o8).old o9) ((sk (n:=4) p0 (by omega) gk1 (by decide) (by decide) (by omega) Ms ad (((ru1.mono tm6).mono o8.tm).mono o9.tm) (RK.tup (.of (o9 _ _ ad)) ((rts.mono o8.tm).mono o9.tm))).up u1 u2)
 have hpair:=ow gk.wf.1 n1 n2 n3 n4 n5
 obtain ⟨k1,k2,rfl⟩:=jc (l:=ks) (by have:=gk.wf.1;rw [hpair,jj.2.2] at this;exact (Option.some.inj this).symm)
 obtain ⟨u1',u2',rfl,ru1,ru2⟩:∃ u1 u2,ku = [u1,u2]∧RK K H2 k1.d u1∧RK K H2 k2.d u2:=by
  obtain ⟨u1,r1,rfl,ru1,u2,r2,rfl,ru2,e⟩:=rks2
  have e':r2 = []:=e
  subst e'
  exact ⟨_,_,rfl,ru1,ru2⟩
 have gk1:=(inn k1 (.head _)).1
 have gk2:=(inn k2 (.tail _ (.head _))).1
 refine ⟨_,rfl,_,rfl,.inr (.inl ⟨ka,_,1,u1',rfl,rfl,hka2.sq,at1,_,rfl,_,rfl,_,_,rfl,rfl,S2.node (E:=E0) (r - 1) nd1 S2.nm nd1 ru1 (gk1.mono (by omega)) nok2 (by omega) hz (by omega) (by omega) fun t v H3 S3 g3 tm3 M3=>?_⟩)⟩
 refine ⟨_,rfl,_,rfl,_,rfl,_,rfl,.inr (.inl ⟨ka,_,2,u2',rfl,rfl,(hka2.mono tm3).sq,aH (j:=2) rfl,_,rfl,_,rfl,_,_,rfl,rfl,S3.node (E:=E0) (r - 1) nd1 S3.nm nd1 (ru2.mono tm3) (gk2.mono (by omega)) (nok2.tm tm3) (by omega) hz (by omega) (by omega) fun t' v' H4 S4 g4 tm4 M4=>⟨sz 4,fun r0 hr0=>?_⟩⟩)⟩
 rw [ej'] at M3 M4
 have o6:=Old.new (o:=.tup [.str "pair",.int p,v,v']) hr0
 exact fin _ _ _ (S4.old o6) ((fS (by nofun) p0 (by omega) M3.mp M4.mp ad ((M3.r.mono tm4).mono o6.tm) (M4.r.mono o6.tm)).up (by omega) u2)
abbrev tE:Stmt:=top 54
def tT (K:W.Frag) (m:Nat):Sp:=fun vs H Q _=>∃ (d a wl nd:Addr) (ns:List Int) (ws:List Str) (i b c fl cell:Int) (k:Kn) (kv:V) (kvs:List (Key×V)),vs = [.ref d,kv,.ref nd,.int 6,.int cell]∧Dl K H d a wl ns ws i b c fl∧RK K H k.d kv∧Kg k 1∧H nd=some (.dK kvs)∧nd≠d∧Nok K H kvs∧kvs.length+12≤480∧6≤m ∧
 ∀ (t:Tk) (v:V) (H':Hp) (i' c':Int),Gr (M1 d) H H'→Dl K H' d a wl ns ws i' b c' fl→Mk K H' v t 245 7→Q v H'
theorem tO:aA ["_law_deal","_law_want","_law_names","_law_room","_law_cell","_law_own","_law_word","_law_take","_law_give","_law_more_here","_law_place_here","_law_small","_law_less","_law_again","_law_fork","_law_loop_here"] ["_law_deal","_law_want","_law_names","_law_room","_law_cell"] (au tE):=⟨rfl,rfl,rfl,by nofun,rfl,by nofun,by nofun⟩
theorem wx {i:Int} {x y:V} {H:Hp} {k l:Kn} (h0:0≤i) (h1:i<2) (rx:RK K H k.d x) (gx:Kg k 1) (ry:RK K H l.d y) (gy:Kg l 1):∃ (k:Kn) (v:V),atI [x,y] i=some v∧Kg k 1∧RK K H k.d v:=by
 have c:i=0∨i=1:=by omega
 rcases c with c | c <;> subst c
 ·exact ⟨k,x,rfl,gx,rx⟩
 ·exact ⟨l,y,rfl,gy,ry⟩
theorem mS {H:Hp} {q:Addr} {p:Int} {s:Str} (p0:0≤p) (p1:p<9973) (h:H q=some (.tup [.str "name",.int p,.str s])):Mk K H (.ref q) (.mk "name" p [.str s] [] []) 1 1:=cw (by nofun) p0 (by omega) rfl (fun _=>⟨s,rfl⟩) (RK.tup (.of h) (.cons (.s _) (.cons (.i _) (.cons (.s _) .nil))))
theorem kF {H:Hp} {q:Addr} {p z:Int} (p0:0≤p) (p1:p<9973) (h:H q=some (.tup [.str "whole",.int p,.int z])):Mk K H (.ref q) (.mk "whole" p [.int z] [] []) 1 1:=cw (by nofun) p0 (by omega) rfl (fun z=>absurd z (by nofun)) (RK.tup (.of h) (.cons (.s _) (.cons (.i _) (.cons (.i _) .nil))))
theorem uX {m:Nat} (F:Fun K "_law_loop" "_law_loop" tE f fd) (T:Tx mg) (AU:Cal P w K mg base "_law_place" ["_law_deal"] 1 (dS K)) (Bp:Cal P w K mg base "_law_more" ["_law_names","_law_word","_law_kind_here"] 1 (qG K)) (AV:Cal P w K mg base "_law_node" ["_law_deal","_law_want","_law_names","_law_room"] (2 * m+7) (du K m)) :
 aY P w K mg base CX0 (2 * m+8) f fd ["_law_deal","_law_want","_law_names","_law_room","_law_cell"] (tT K m):=by
 refine F.ok tO (fun vs H Q E h=>?_) (fun cdv A outer s H vs Q E hr h=>?_)
 ·obtain ⟨d,a,wl,nd,ns,ws,i,b,c,fl,cell,k,kv,kvs,rfl,_⟩:=h
  rfl
 obtain ⟨d,a,wl,nl,ns,ws,i,b,c,fl,cell,k,kv,kvs,rfl,D,rk,gk,hnl,nd1,nok,few,rm,q⟩:=h
 have nd:=tO.nd
 refine' ⟨_,?n0,?Z⟩
 case' n0=>refine' ag ?N1 ?N2
 case' N1=>refine' psX 5 nd ?N3
 case' N3=>refine' pxK K ?N4 (am aE (pv 4) ac) (fun _ _=>rfl)
 case N4=>exact pxK K (pv 0) ac (fun _ _=>rfl)
 case' N2=>refine' ag ?N5 ?N6
 case' N5=>refine' psX 6 nd ?N7
 case' N7=>refine' pxK K ?N8 (am aE (am a9 (am a9 (pv 4) ac) (am aE (am ay (pv 4) ac) ac)) ac) (fun _ _=>rfl)
 case N8=>exact pxK K (pv 0) ac (fun _ _=>rfl)
 case' N6=>refine' ag ?N9 ?Na
 case' N9=>refine' psX 7 nd ?Nb
 case Nb=>exact pxK K (bY (pa (ap (pa ai ae)) (pa (ap (pa ai ae)) ae))) (am aE (am ay (pv 4) ac) ac) (fun _ _=>rfl)
 case' Na=>refine' ag ?Nc ?Nd
 case' Nc=>refine' psX 8 nd ?Ne
 case Ne=>exact pxK K (bY (pa (pv 1) (pa (ap (pa ai ae)) ae))) (am aE (am ay (pv 4) ac) ac) (fun _ _=>rfl)
 case' Nd=>refine' ag ?Nf ?Ng
 case Nf=>exact psX 9 nd (ao Bp hr (pa (ao Bp hr (pa (pv 2) (pa (pv 5) (pa (ap (pa ai (pa (pv 7) (pa (pv 8) ae)))) ae)))) (pa (pv 6) (pa (pv 7) ae))))
 case' Ng=>refine' ag ?Nh ?Ni
 case Nh=>exact psX 10 nd (ao AU hr (pa (pv 0) ae))
 case' Ni=>refine' ag ?Nj ?Nk
 case Nj=>exact psX 11 nd (ap (pa ai (pa (ao AU hr (pa (pv 0) ae)) (pa ai (pa (ap (pa ai (pa (ao AU hr (pa (pv 0) ae)) (pa (pv 6) ae)))) (pa (ap (pa ai (pa (ao AU hr (pa (pv 0) ae)) (pa ac ae)))) ae))))))
 case' Nk=>refine' ag ?Nl ?Nm
 case Nl=>exact psX 12 nd (ap (pa ai (pa (ao AU hr (pa (pv 0) ae)) (pa ai (pa (ap (pa ai (pa (ao AU hr (pa (pv 0) ae)) (pa (pv 6) ae)))) (pa (ap (pa ai (pa (ao AU hr (pa (pv 0) ae)) (pa ac ae)))) ae))))))
 case' Nm=>refine' ag ?Nn ?No
 case Nn=>exact psX 13 nd (ap (pa ai (pa (ao AU hr (pa (pv 0) ae)) (pa (ap (pa ai (pa (ao AU hr (pa (pv 0) ae)) (pa (pv 5) ae)))) (pa (pv 12) ae)))))
 case' No=>refine' ag (aC ?Nr ?Ns aw) ?Nq
 case' Nr=>refine' PW.pt ?Nt
 case' Nt=>refine' bE (ak (ax hr) (am aE (am ay (pv 4) ac) ac) ac (aq _)) ?Nu
 case Nu=>exact bC (ak eg (pv 3) ac (aq _))
 case' Ns=>refine' ah ?Nv
 case Nv=>exact psX 13 nd (ap (pa ai (pa (ao AU hr (pa (pv 0) ae)) (pa (pv 1) (pa (ap (pa ai (pa (ao AU hr (pa (pv 0) ae)) (pa (ap (pa ai ae)) (pa (pv 13) ae))))) ae)))))
 case' Nq=>refine' ag ?Nw ?Nx
 case Nw=>exact psX 14 nd (ap (pa ai (pa (ao AU hr (pa (pv 0) ae)) (pa (pv 11) (pa (ao AV hr (pa (pv 0) (pa (pv 1) (pa (pv 9) (pa (am bu (pv 3) ac) ae))))) (pa (pv 13) ae))))))
 case' Nx=>refine' ag ?Ny ?Nz
 case Ny=>exact psX 15 nd (ap (pa ai (pa (ao AU hr (pa (pv 0) ae)) (pa (pv 5) (pa (pv 6) (pa (pv 7) (pa (pv 8) (pa (pv 14) ae))))))))
 case' Nz=>refine' ah ?N10
 case N10=>exact ar (ap (pa ai (pa (pv 10) (pa (pv 15) (pa (ap (pa ai (pa (ao AU hr (pa (pv 0) ae)) (pa (am aE (am ay (pv 4) ac) ac) ae)))) ae)))))
 have S0:Sd K H H d a wl nl ns ws b fl kvs:=⟨fun _ _ e _=>e,⟨i,c,D⟩,hnl⟩
 have l5:((ws.length:Nat):Int)=5:=by rw [D.five];rfl
 obtain ⟨wo,ewo,_⟩:=b9 (ss:=ws) (i:=cell % 5) (Int.emod_nonneg _ (by decide)) (by rw [l5];exact Int.emod_lt_of_pos _ (by decide))
 obtain ⟨wd,ewd,_⟩:=b9 (ss:=ws) (i:=(cell+1+cell / 5 % 4) % 5) (Int.emod_nonneg _ (by decide)) (by rw [l5];exact Int.emod_lt_of_pos _ (by decide))
 have fin:∀ (t:Tk) (v:V) (Hy:Hp),Sd K H Hy d a wl nl ns ws b fl kvs→Mk K Hy v t 245 7→Q v Hy:=fun t v Hy S M=>by
  obtain ⟨i',c',D'⟩:=S.D
  exact q t v Hy i' c' S.g D' M
 refine ⟨_,rfl,.inl ⟨d,_,4,.ref wl,rfl,rfl,SqL.of D.hd,Dl.i4,_,rfl,_,_,rfl,rfl,(zp 5),.inl ⟨wl,_,_,.str wo,rfl,rfl,SqL.of D.hw,ewo,?_⟩⟩⟩
 refine ⟨_,rfl,.inl ⟨d,_,4,.ref wl,rfl,rfl,SqL.of D.hd,Dl.i4,_,rfl,.inr (.inl ⟨_,_,rfl,rfl,_,rfl,_,_,rfl,rfl,.inl ⟨by decide,by decide⟩,_,_,rfl,rfl,(zp 4),.inr (.inl ⟨_,_,rfl,rfl,_,_,rfl,rfl,(zp 5),.inl ⟨wl,_,_,.str wd,rfl,rfl,SqL.of D.hw,ewd,?_⟩⟩)⟩)⟩⟩
 refine ⟨sz 1,fun q1 hq1=>⟨sz 1,fun q2 hq2=>⟨sz 2,fun q3 hq3=>?_⟩⟩⟩
 have o1:Old H (upd H q1 (.tup [.str "whole"])):=Old.new hq1
 have o2:=Old.new (o:=.tup [.str "?"]) hq2
 have o3:=Old.new (o:=.lst [.ref q1,.ref q2]) hq3
 have oo:=(o1.trans o2).trans o3
 obtain ⟨kt,tv,etv,gkt,rkt⟩:=wx (K:=K) (k:=cf) (l:=qK) (x:=.ref q1) (y:=.ref q2) (Int.emod_nonneg (cell / 20) (by decide:(2:Int)≠0)) (Int.emod_lt_of_pos (cell / 20) (by decide)) (RK.tup (.of (o3 _ _ (o2 _ _ ad))) (.cons (.s _) .nil)) ce (RK.tup (.of (o3 _ _ ad)) (.cons (.s _) .nil)) dh
 refine ⟨_,rfl,_,_,rfl,rfl,.inl ⟨by decide,by decide⟩,_,_,rfl,rfl,(zp 2),.inl ⟨q3,_,_,tv,rfl,rfl,SqL.of ad,etv,?_⟩⟩
 generalize upd (upd (upd H q1 (.tup [.str "whole"])) q2 (.tup [.str "?"])) q3 (.lst [.ref q1,.ref q2])=H1 at oo rkt ⊢
 refine ⟨_,rfl,sz 1,fun q4 hq4=>⟨sz 2,fun q5 hq5=>?_⟩⟩
 have o4:=Old.new (o:=.tup [.str "?"]) hq4
 have o5:=Old.new (o:=.lst [kv,.ref q4]) hq5
 obtain ⟨kg,gv,egv,gkg,rkg⟩:=wx (K:=K) (k:=k) (l:=qK) (x:=kv) (y:=.ref q4) (Int.emod_nonneg (cell / 40) (by decide:(2:Int)≠0)) (Int.emod_lt_of_pos (cell / 40) (by decide)) ((rk.mono oo.tm).mono (o4.trans o5).tm) gk (RK.tup (.of (o5 _ _ ad)) (.cons (.s _) .nil)) dh
 refine ⟨_,rfl,_,_,rfl,rfl,.inl ⟨by decide,by decide⟩,_,_,rfl,rfl,(zp 2),.inl ⟨q5,_,_,gv,rfl,rfl,SqL.of ad,egv,?_⟩⟩
 have o45:=o4.trans o5
 generalize upd (upd H1 q4 (.tup [.str "?"])) q5 (.lst [kv,.ref q4])=H2 at o45 rkg ⊢
 have rkt2:=rkt.mono o45.tm
 have o02:=oo.trans o45
 refine ⟨_,rfl,_,rfl,_,rfl,_,rfl,sz 3,fun q6 hq6=>?_⟩
 have o6:=Old.new (o:=.tup [.str "to",tv,gv]) hq6
 have S3:=(S0.old o02).old o6
 have rto:RK K (upd H2 q6 (.tup [.str "to",tv,gv])) (Kn.mk "to" [kt,kg]).d (.ref q6):=RK.tup (.of ad) (.cons (.s _) (.cons (rkt2.mono o6.tm) (.cons (rkg.mono o6.tm) .nil)))
 refine ⟨nl,wo,.ref q6,kvs,rfl,S3.nm,by omega,fun r1 H4 o7 hr1 hr1'=>?_⟩
 have lp1:=aR kvs (.inr wo) (.ref q6)
 refine ⟨_,rfl,_,rfl,r1,wd,tv,_,rfl,hr1',by omega,fun r2 H5 o8 hr2 hr2'=>?_⟩
 have lp2:=aR (putK kvs (.inr wo) (.ref q6)) (.inr wd) tv
 have o68:=(o6.trans o7).trans o8
 have S5:=(S3.old o7).old o8
 have n2:r2≠d:=(S3.old o7).ne hr2
 have nok5:Nok K H5 (putK (putK kvs (.inr wo) (.ref q6)) (.inr wd) tv):=((((nok.tm o02.tm).tm o68.tm).put ((rto.mono o7.tm).mono o8.tm) (Nat.le_trans (iE gkt gkg).dep (by omega))).put (rkt2.mono o68.tm) (Nat.le_trans gkt.dep (by omega)))
 have rk5:=(rk.mono o02.tm).mono o68.tm
 have rkt5:=rkt2.mono o68.tm
 have rkg5:=rkg.mono o68.tm
 generalize putK (putK kvs (.inr wo) (.ref q6)) (.inr wd) tv=kvs2 at lp2 nok5 hr2'
 clear rto o6 o7 o8 rkt2 rkg rkt
 dsimp only [aX]
 refine ⟨_,rfl,S5.place (E:=E0) nd1 fun pa H10 pa0 pa1 S10 g10 tm10=>?_⟩
 have n2d:∀ {Hx Hy:Hp},Gr (M1 d) Hx Hy→Hx r2=some (.dK kvs2)→Hy r2=some (.dK kvs2):=fun g e=>g _ _ e n2
 have hr10:=n2d g10 hr2'
 dsimp only [aX]
 refine ⟨_,rfl,S10.place (E:=E0) nd1 fun p11 H11 p110 p111 S11 g11 tm11=>⟨_,rfl,S11.place (E:=E0) nd1 fun p12 H12 p120 p121 S12 g12 tm12=>⟨_,rfl,sz 3,fun x13 hx13=>?_⟩⟩⟩
 have o13:=Old.new (o:=.tup [.str "name",.int p12,.str wd]) hx13
 have S13:=S12.old o13
 have M13:Mk K _ _ _ 1 1:=mS p120 p121 (ad (H:=H12) (a:=x13) (o:=.tup [.str "name",.int p12,.str wd]))
 refine ⟨_,rfl,S13.place (E:=E0) nd1 fun p14 H14 p140 p141 S14 g14 tm14=>⟨sz 3,fun x15 hx15=>?_⟩⟩
 have o15:=Old.new (o:=.tup [.str "whole",.int p14,.int 1]) hx15
 have S15:=S14.old o15
 have M15:Mk K _ _ _ 1 1:=kF p140 p141 (ad (H:=H14) (a:=x15) (o:=.tup [.str "whole",.int p14,.int 1]))
 refine ⟨sz 5,fun x16 hx16=>?_⟩
 have o16:=Old.new (o:=.tup [.str "do",.int p11,.str "<",.ref x13,.ref x15]) hx16
 have S16:=S15.old o16
 have Ms:=si (K:=K) (s:="<") p110 (by omega) M13.mp M15.mp (ad (a:=x16) (o:=.tup [.str "do",.int p11,.str "<",.ref x13,.ref x15])) (((M13.r.mono tm14).mono o15.tm).mono o16.tm) (M15.r.mono o16.tm)
 have ta:Tm H10 _:=fun x y e=>o16.tm x y (o15.tm x y (tm14 x y (o13.tm x y (tm12 x y (tm11 x y e)))))
 have hr16:=o16 _ _ (o15 _ _ (n2d g14 (o13 _ _ (n2d g12 (n2d g11 hr10)))))
 generalize upd _ x16 (.tup [.str "do",.int p11,.str "<",.ref x13,.ref x15])=H16 at S16 Ms ta hr16 ⊢
 dsimp only [aX]
 refine ⟨_,rfl,S16.place (E:=E0) nd1 fun p17 H17 p170 p171 S17 g17 tm17=>⟨_,rfl,S17.place (E:=E0) nd1 fun p18 H18 p180 p181 S18 g18 tm18=>⟨_,rfl,sz 3,fun x19 hx19=>?_⟩⟩⟩
 have o19:=Old.new (o:=.tup [.str "name",.int p18,.str wd]) hx19
 have S19:=S18.old o19
 have M19:Mk K _ _ _ 1 1:=mS p180 p181 (ad (H:=H18) (a:=x19) (o:=.tup [.str "name",.int p18,.str wd]))
 refine ⟨_,rfl,S19.place (E:=E0) nd1 fun p20 H20 p200 p201 S20 g20 tm20=>⟨sz 3,fun x21 hx21=>?_⟩⟩
 have o21:=Old.new (o:=.tup [.str "whole",.int p20,.int 1]) hx21
 have S21:=S20.old o21
 have M21:Mk K _ _ _ 1 1:=kF p200 p201 (ad (H:=H20) (a:=x21) (o:=.tup [.str "whole",.int p20,.int 1]))
 refine ⟨sz 5,fun x22 hx22=>?_⟩
 have o22:=Old.new (o:=.tup [.str "do",.int p17,.str "-",.ref x19,.ref x21]) hx22
 have S22:=S21.old o22
 have Ml:=si (K:=K) (s:="-") p170 (by omega) M19.mp M21.mp (ad (a:=x22) (o:=.tup [.str "do",.int p17,.str "-",.ref x19,.ref x21])) (((M19.r.mono tm20).mono o21.tm).mono o22.tm) (M21.r.mono o22.tm)
 have tb:Tm H16 _:=fun x y e=>o22.tm x y (o21.tm x y (tm20 x y (o19.tm x y (tm18 x y (tm17 x y e)))))
 have hr22:=o22 _ _ (o21 _ _ (n2d g20 (o19 _ _ (n2d g18 (n2d g17 hr16)))))
 generalize upd _ x22 (.tup [.str "do",.int p17,.str "-",.ref x19,.ref x21])=H22 at S22 Ml tb hr22 ⊢
 dsimp only [aX]
 refine ⟨_,rfl,S22.place (E:=E0) nd1 fun p23 H23 p230 p231 S23 g23 tm23=>⟨_,rfl,S23.place (E:=E0) nd1 fun p24 H24 p240 p241 S24 g24 tm24=>⟨_,rfl,sz 3,fun x25 hx25=>?_⟩⟩⟩
 have o25:=Old.new (o:=.tup [.str "name",.int p24,.str wo]) hx25
 have S25:=S24.old o25
 have M25:Mk K _ _ _ 1 1:=mS p240 p241 (ad (H:=H24) (a:=x25) (o:=.tup [.str "name",.int p24,.str wo]))
 refine ⟨_,rfl,sz 4,fun x26 hx26=>?_⟩
 have o26:=Old.new (o:=.tup [.str "call",.int p23,.ref x25,.ref x22]) hx26
 have S26:=S25.old o26
 have Ma:=fS (K:=K) (x:="call") (c:=3) (d:=2) (by nofun) p230 (by omega) (M25.mp.up (by decide) (by decide)) Ml.mp (ad (a:=x26) (o:=.tup [.str "call",.int p23,.ref x25,.ref x22])) (M25.r.mono o26.tm) ((((Ml.r.mono tm23).mono tm24).mono o25.tm).mono o26.tm)
 have tc:Tm H22 _:=fun x y e=>o26.tm x y (o25.tm x y (tm24 x y (tm23 x y e)))
 have hr26:=o26 _ _ (o25 _ _ (n2d g24 (n2d g23 hr22)))
 generalize upd _ x26 (.tup [.str "call",.int p23,.ref x25,.ref x22])=H26 at S26 Ma tc hr26 ⊢
 dsimp only [aX]
 refine bg (cell / 80 % 2=1∧(7:Int)<6) (fun R hR=>b8 _ _ hR (fun R hR=>⟨_,rfl,_,_,rfl,rfl,.inl ⟨by decide,by decide⟩,_,_,rfl,rfl,(zp 2),.inr (.inl ⟨rfl,_,rfl,by rw [cg];exact hR⟩)⟩) fun _ R hR=>⟨_,rfl,_,_,rfl,rfl,_,rfl,hR⟩) (fun cc=>absurd cc.2 (by decide)) (fun _=>?_)
 have t526:Tm H5 H26:=fun x y e=>tc x y (tb x y (ta x y (tm10 x y e)))
 refine ⟨_,rfl,S26.place (E:=E0) nd1 fun p27 H27 p270 p271 S27 g27 tm27=>⟨_,rfl,_,rfl,_,rfl,_,rfl,_,rfl,_,_,rfl,rfl,S27.node (E:=E0) 3 nd1 (n2d g27 hr26) n2 ((rk5.mono t526).mono tm27) (gk.mono (by omega)) ((nok5.tm t526).tm tm27) (by omega) rfl (by omega) (by decide) fun t v H28 S28 g28 tm28 M28=>?_⟩⟩
 have M28':Mk K H28 v t 15 4:=M28
 refine ⟨_,rfl,sz 5,fun x29 hx29=>?_⟩
 have o29:=Old.new (o:=.tup [.str "if",.int p27,.ref x16,v,.ref x26]) hx29
 have S29:=S28.old o29
 have Mf:=wj (K:=K) (c:=15) (d:=4) p270 (by omega) (Ms.mp.up (by decide) (by decide)) M28'.mp (Ma.mp.up (by decide) (by decide)) (ad (a:=x29) (o:=.tup [.str "if",.int p27,.ref x16,v,.ref x26])) ((((((Ms.r.mono tb).mono tc).mono tm27).mono tm28).mono o29.tm)) (M28'.r.mono o29.tm) (((Ma.r.mono tm27).mono tm28).mono o29.tm)
 have t529:Tm H5 _:=fun x y e=>o29.tm x y (tm28 x y (tm27 x y (t526 x y e)))
 generalize upd _ x29 (.tup [.str "if",.int p27,.ref x16,v,.ref x26])=H29 at S29 Mf t529 ⊢
 dsimp only [aX]
 refine ⟨_,rfl,S29.place (E:=E0) nd1 fun p30 H30 p300 p301 S30 g30 tm30=>⟨_,rfl,_,rfl,_,rfl,_,rfl,_,rfl,sz 7,fun x31 hx31=>?_⟩⟩
 have o31:=Old.new (o:=.tup [.str "self",.int p30,.str wo,.str wd,tv,gv,.ref x29]) hx31
 have S31:=S30.old o31
 have Mse:=oY (K:=K) p300 (by omega) gkt gkg (by decide) Mf.mp (ad (a:=x31) (o:=.tup [.str "self",.int p30,.str wo,.str wd,tv,gv,.ref x29])) (((rkt5.mono t529).mono tm30).mono o31.tm) (((rkg5.mono t529).mono tm30).mono o31.tm) ((Mf.r.mono tm30).mono o31.tm)
 generalize upd _ x31 (.tup [.str "self",.int p30,.str wo,.str wd,tv,gv,.ref x29])=H31 at S31 Mse ⊢
 dsimp only [aX]
 refine ⟨_,rfl,_,rfl,_,rfl,S31.place (E:=E0) nd1 fun p32 H32 p320 p321 S32 g32 tm32=>⟨_,rfl,_,_,rfl,rfl,.inl ⟨by decide,by decide⟩,_,_,rfl,rfl,(zp 9),sz 3,fun x33 hx33=>?_⟩⟩
 have o33:=Old.new (o:=.tup [.str "whole",.int p32,.int (cell / 160 % 9)]) hx33
 have S33:=S32.old o33
 have M33:Mk K _ _ _ 1 1:=kF p320 p321 (ad (H:=H32) (a:=x33) (o:=.tup [.str "whole",.int p32,.int (cell / 160 % 9)]))
 refine ⟨sz 4,fun x34 hx34=>?_⟩
 have o34:=Old.new (o:=.tup [.str "call",.int pa,.ref x31,.ref x33]) hx34
 exact fin _ _ _ (S33.old o34) ((fS (x:="call") (by nofun) pa0 (by omega) Mse.mp (M33.mp.up (by decide) (by decide)) ad (((Mse.r.mono tm32).mono o33.tm).mono o34.tm) (M33.r.mono o34.tm)).up (by decide) (by decide))
theorem nb0 (j:Nat):15≤nb j:=by
 induction j with
 | zero=>decide
 | succ j ih=>exact Nat.le_trans ih (yT j)
theorem yI (j:Nat):4≤ddb j:=by
 cases j with
 | zero=>decide
 | succ j=>show 4≤j+6;omega
theorem Sd.next {H Hx:Hp} {d a wl nd:Addr} {ns:List Int} {ws:List Str} {b fl:Int} {kvs:List (Key×V)} {Q:VK} {E:XK} (S:Sd K H Hx d a wl nd ns ws b fl kvs) (n1:nd≠d) (k:∀ p Hy,0≤p→Sd K H Hy d a wl nd ns ws b fl kvs→Gr (M1 d) Hx Hy→Tm Hx Hy→Q (.int p) Hy):kZ K [.ref d] Hx Q E:=by
 obtain ⟨i,c,D⟩:=S.D
 exact ⟨d,a,wl,ns,ws,i,b,c,fl,rfl,D,fun v H' r ev r0 eH=>by subst ev;subst eH;exact k r _ r0 ⟨S.g.trans (Gr.put rfl),⟨i+1,c,D.put (by have:=D.i0;omega)⟩,by rw [aj n1];exact S.nm⟩ (Gr.put rfl) ((Gr.put (M:=M1 d) rfl).tm1 D.hd)⟩
abbrev tG:Stmt:=top 55
theorem tQ:aA ["_law_deal","_law_want","_law_names","_law_room","_law_cell","_law_inner","_law_way","_law_place_here","_law_word","_law_kind_here","_law_one","_law_test"] ["_law_deal","_law_want","_law_names","_law_room"] (au tG):=⟨rfl,rfl,rfl,by nofun,rfl,by nofun,by nofun⟩
theorem uZ {m:Nat} (F:Fun K "_law_node" "_law_node" tG f fd) (T:Tx mg) (c_next:Cal P w K mg base "_law_next" ["_law_deal"] 1 (kZ K)) (AU:Cal P w K mg base "_law_place" ["_law_deal"] 1 (dS K)) (Ew:Cal P w K mg base "_law_flat" ["_law_cell"] 1 (vF K)) (BZ:Cal P w K mg base "_law_kind" ["_law_cell"] 1 (iU K)) (Bp:Cal P w K mg base "_law_more" ["_law_names","_law_word","_law_kind_here"] 1 (qG K))
 (Cr:Cal P w K mg base "_law_leaf" ["_law_deal","_law_want","_law_names","_law_cell"] 5 (eC K 4)) (AV:Cal P w K mg base "_law_node" ["_law_deal","_law_want","_law_names","_law_room"] (2 * m+7) (du K m)) (c_built:Cal P w K mg base "_law_built" ["_law_deal","_law_want","_law_names","_law_room","_law_cell"] (2 * m+8) (pG K m)) (c_loop:Cal P w K mg base "_law_loop" ["_law_deal","_law_want","_law_names","_law_room","_law_cell"] (2 * m+8) (tT K m)) :
 aY P w K mg base CX0 (2 * m+9) f fd ["_law_deal","_law_want","_law_names","_law_room"] (du K (m+1)):=by
 refine F.ok tQ (fun vs H Q E h=>?_) (fun cdv A outer s H vs Q E hr h=>?_)
 ·obtain ⟨d,a,wl,nd,ns,ws,i,b,c,fl,k,kv,kvs,r,rfl,_⟩:=h
  rfl
 obtain ⟨d,a,wl,nl,ns,ws,i,b,c,fl,k,kv,kvs,r,rfl,D,rk,gk,hnl,nd1,nok,few,rm,r6,q⟩:=h
 have nd:=tQ.nd
 refine' ⟨_,?n0,?Z⟩
 case' n0=>refine' ag ?N1 ?N2
 case N1=>exact psX 4 nd (ao c_next hr (pa (pv 0) ae))
 case' N2=>refine' ag (aC ?N5 ?N6 aw) ?N4
 case' N5=>refine' PW.pt ?N7
 case' N7=>refine' bE (ak (ax hr) (am aE (pv 4) ac) ac (aq _)) ?N8
 case' N8=>refine' bC ?N9
 case' N9=>refine' ak (ax hr) ?Na ac (aq _)
 case Na=>exact pxK K (pv 0) ac (fun _ _=>rfl)
 case' N6=>refine' ah ?Nb
 case Nb=>exact psX 1 nd (ao BZ hr (pa (am ay (pv 4) ac) ae))
 case' N4=>refine' ag (aC ?Ne ?Nf aw) ?Nd
 case' Ne=>refine' PW.pt ?Ng
 case' Ng=>refine' eB (ak wu (pv 3) ac (aq _)) ?Nh
 case Nh=>exact dR (ak (ax hr) (am aE (pv 4) ac) ac (aq _))
 case' Nf=>refine' ah ?Ni
 case Ni=>exact ar (ao Cr hr (pa (pv 0) (pa (pv 1) (pa (pv 2) (pa (am ay (pv 4) ac) ae)))))
 case' Nd=>refine' ag (aC (ak (ax hr) (am aE (pv 4) ac) ac (aq _)) ?Nl aw) ?Nk
 case' Nl=>refine' ag ?Nm ?Nn
 case' Nm=>refine' psX 5 nd ?No
 case No=>exact pxK K (bY (pa (pv 1) (pa (pv 1) (pa (pv 1) (pa (ao BZ hr (pa (am ay (pv 4) ac) ae)) ae))))) (am aE (am ay (pv 4) ac) ac) (fun _ _=>rfl)
 case' Nn=>refine' ah ?Np
 case Np=>exact ar (ap (pa ai (pa (ao AU hr (pa (pv 0) ae)) (pa (ap (pa ai ae)) (pa (ao AV hr (pa (pv 0) (pa (pv 5) (pa (pv 2) (pa (am bu (pv 3) ac) ae))))) ae)))))
 case' Nk=>refine' ag ?Nq ?Nr
 case Nq=>exact psX 6 nd (am aE (am ay (pv 4) ac) ac)
 case' Nr=>refine' ag ?Ns ?Nt
 case Ns=>exact psX 4 nd (am ay (pv 4) ac)
 case' Nt=>refine' ag ?Nu ?Nv
 case Nu=>exact psX 7 nd (ao AU hr (pa (pv 0) ae))
 case' Nv=>refine' ag ?Nw ?Nx
 case' Nw=>refine' psX 8 nd ?Ny
 case' Ny=>refine' pxK K ?Nz (am aE (pv 4) ac) (fun _ _=>rfl)
 case Nz=>exact pxK K (pv 0) ac (fun _ _=>rfl)
 case' Nx=>refine' ag (aC (ak (ax hr) (pv 6) ac (aq _)) ?N12 aw) ?N11
 case' N12=>refine' ag ?N13 ?N14
 case N13=>exact psX 9 nd (ao BZ hr (pa (am ay (pv 4) ac) ae))
 case' N14=>refine' ag ?N15 ?N16
 case N15=>exact psX 10 nd (ao AV hr (pa (pv 0) (pa (pv 9) (pa (pv 2) (pa (am bu (pv 3) ac) ae)))))
 case' N16=>refine' ah ?N17
 case N17=>exact ar (ap (pa ai (pa (pv 7) (pa (pv 8) (pa (pv 10) (pa (ao AV hr (pa (pv 0) (pa (pv 1) (pa (ao Bp hr (pa (pv 2) (pa (pv 8) (pa (pv 9) ae)))) (pa (am bu (pv 3) ac) ae))))) ae))))))
 case' N11=>refine' ag (aC (ak (ax hr) (pv 6) ac (aq _)) ?N1a aw) ?N19
 case' N1a=>refine' ag ?N1b ?N1c
 case N1b=>exact psX 11 nd (ao AV hr (pa (pv 0) (pa (ap (pa ai ae)) (pa (pv 2) (pa (am bu (pv 3) ac) ae)))))
 case' N1c=>refine' ag ?N1d ?N1e
 case N1d=>exact psX 10 nd (ao AV hr (pa (pv 0) (pa (pv 1) (pa (pv 2) (pa (am bu (pv 3) ac) ae)))))
 case' N1e=>refine' ah ?N1f
 case N1f=>exact ar (ap (pa ai (pa (pv 7) (pa (pv 11) (pa (pv 10) (pa (ao AV hr (pa (pv 0) (pa (pv 1) (pa (pv 2) (pa (am bu (pv 3) ac) ae))))) ae))))))
 case' N19=>refine' ag (aC ?N1i ?N1j aw) ?N1h
 case' N1i=>refine' PW.pt ?N1k
 case' N1k=>refine' bE (ak (ax hr) (pv 6) ac (aq _)) ?N1l
 case N1l=>exact bC (ak (ax hr) (aM (bh) rfl T.len boot_len (pa (pv 1) ae)) ac (aq _))
 case' N1j=>refine' ag ?N1m ?N1n
 case N1m=>exact psX 9 nd (ao BZ hr (pa (pv 4) ae))
 case' N1n=>refine' ag ?N1o ?N1p
 case N1o=>exact psX 10 nd (ao AV hr (pa (pv 0) (pa (ap (pa ai (pa (pv 9) (pa (pv 1) ae)))) (pa (pv 2) (pa (am bu (pv 3) ac) ae)))))
 case' N1p=>refine' ah ?N1q
 case N1q=>exact ar (ap (pa ai (pa (pv 7) (pa (pv 10) (pa (ao AV hr (pa (pv 0) (pa (pv 9) (pa (pv 2) (pa (am bu (pv 3) ac) ae))))) ae)))))
 case' N1h=>refine' ag (aC ?N1t ?N1u aw) ?N1s
 case' N1t=>refine' PW.pt ?N1v
 case' N1v=>refine' bE (ak (ax hr) (pv 6) ac (aq _)) ?N1w
 case N1w=>exact bC (ak (ax hr) (aM (bh) rfl T.len boot_len (pa (pv 1) ae)) ac (aq _))
 case' N1u=>refine' ag (aC (ak (ax hr) (am aE (pv 4) ac) ac (aq _)) ?N1z aw) ?N1y
 case' N1z=>refine' ag ?N20 ?N21
 case N20=>exact psX 10 nd (ao AV hr (pa (pv 0) (pa (ap (pa ai (pa (pv 1) ae))) (pa (pv 2) (pa (am bu (pv 3) ac) ae)))))
 case' N21=>refine' ah ?N22
 case N22=>exact ar (ap (pa ai (pa (pv 7) (pa (pv 10) (pa (ap (pa ai (pa (ao AU hr (pa (pv 0) ae)) (pa (am aE (am ay (pv 4) ac) ac) ae)))) ae)))))
 case' N1y=>refine' ag (aC (ak (ax hr) (am aE (pv 4) ac) ac (aq _)) ?N25 aw) ?N24
 case' N25=>refine' ah ?N26
 case N26=>exact ar (ap (pa ai (pa (pv 7) (pa (ao AV hr (pa (pv 0) (pa (ap (pa ai (pa (pv 1) (pa (ao Ew hr (pa (am ay (pv 4) ac) ae)) ae)))) (pa (pv 2) (pa (am bu (pv 3) ac) ae))))) ae))))
 case' N24=>refine' ah ?N27
 case N27=>exact ar (ap (pa ai (pa (pv 7) (pa (ao AV hr (pa (pv 0) (pa (ap (pa ai (pa (ao Ew hr (pa (am ay (pv 4) ac) ae)) (pa (pv 1) ae)))) (pa (pv 2) (pa (am bu (pv 3) ac) ae))))) ae))))
 case' N1s=>refine' ag (aC ?N2a ?N2b aw) ?N29
 case' N2a=>refine' PW.pt ?N2c
 case' N2c=>refine' bE (ak (ax hr) (pv 6) ac (aq _)) ?N2d
 case' N2d=>refine' bE (ak (ax hr) (aM (bh) rfl T.len boot_len (pa (pv 1) ae)) ac (aq _)) ?N2e
 case N2e=>exact bC (ak eg (pv 3) ac (aq _))
 case' N2b=>refine' ah ?N2f
 case N2f=>exact ar (ao c_loop hr (pa (pv 0) (pa (pv 1) (pa (pv 2) (pa (pv 3) (pa (pv 4) ae))))))
 case' N29=>refine' ah ?N2g
 case N2g=>exact ar (ao c_built hr (pa (pv 0) (pa (pv 1) (pa (pv 2) (pa (pv 3) (pa (pv 4) ae))))))
 have S0:Sd K H H d a wl nl ns ws b fl kvs:=⟨fun _ _ e _=>e,⟨i,c,D⟩,hnl⟩
 have fin:∀ (t:Tk) (v:V) (Hy:Hp),Sd K H Hy d a wl nl ns ws b fl kvs→Mk K Hy v t (nb (r - 4)) (ddb (r - 4))→Q v Hy:=fun t v Hy S M=>by
  obtain ⟨i',c',D'⟩:=S.D
  exact q t v Hy i' c' S.g D' M
 refine ⟨_,rfl,S0.next (E:=E0) nd1 fun cell H1 cl0 S1 g1 tm1=>?_⟩
 dsimp only [aX]
 refine cR (fun σ H2=>∃ (k:Kn) (kv:V),σ = [some (.ref d),some kv,some (.ref nl),some (.int (r:Int)),some (.int cell),none,none,none,none,none,none,none]∧RK K H2 k.d kv∧Kg k 3∧Sd K H H2 d a wl nl ns ws b fl kvs∧Tm H H2) (fun R hR=>?_) (fun σ H2 hP=>?_)
 ·obtain ⟨i1,c1,D1⟩:=S1.D
  refine bK (cell % 13=1∧fl=0) (fun R hR=>b8 _ _ hR (fun R hR=>⟨_,rfl,_,_,rfl,rfl,(zp 13),.inr (.inl ⟨rfl,_,rfl,by rw [cg];exact hR⟩)⟩) fun _ R hR=>⟨_,rfl,.inl ⟨d,_,5,.int fl,rfl,rfl,SqL.of D1.hd,Dl.i5,.inr (.inl ⟨rfl,_,rfl,by rw [cg];exact hR⟩)⟩⟩) (fun _=>?_) (fun _=>hR _ _ ⟨k,kv,rfl,rk.mono tm1,gk,S1,tm1⟩)
  exact ⟨_,rfl,_,_,rfl,rfl,.inl ⟨by decide,by decide⟩,_,rfl,fun k' v' H2 rk' gk' o2=>hR _ _ ⟨k',v',rfl,rk',gk'.mono (by omega),S1.old o2,fun x y e=>o2.tm x y (tm1 x y e)⟩⟩
 obtain ⟨k,kv,rfl,rk2,gk,S2,tm2⟩:=hP
 have nok2:=nok.tm tm2
 clear rk D
 obtain ⟨h,ks⟩:=k
 obtain ⟨ka,ku,rfl,hka2,rks2⟩:=RK.kind (show RK K H2 (.tup (.str h :: Kn.ds ks)) kv from rk2)
 refine bg ((r:Int)<5∨cell % 13=3) (fun R hR=>gD _ _ hR (fun R hR=>⟨_,rfl,_,_,rfl,rfl,_,rfl,hR⟩) fun R hR=>⟨_,rfl,_,_,rfl,rfl,(zp 13),.inr (.inl ⟨rfl,_,rfl,by rw [cg];exact hR⟩)⟩) (fun _=>?_) (fun nr=>?_)
 ·exact ⟨_,rfl,_,rfl,_,rfl,_,rfl,_,_,rfl,rfl,.inl ⟨by decide,by decide⟩,S2.leaf (E:=E0) nd1 S2.nm nd1 rk2 gk (Nat.le_trans (mf _) (by have:=gk.dep;omega)) nok2 (by omega) fun t v H3 S3 g3 tm3 M3=>fin t v H3 S3 (M3.up (nb0 _) (yI _))⟩
 have r5:5≤r:=by
  have:¬ (r:Int)<5:=fun z=>nr (.inl z)
  omega
 obtain ⟨j,ej⟩:∃ j,r - 4=j+1:=⟨r - 5,by omega⟩
 have ej':r - 1 - 4=j:=by omega
 have hz:(r:Int) - 1=((r - 1:Nat):Int):=by omega
 have u1:1+4 * nb j≤nb (r - 4):=by rw [ej];exact Nat.le_refl _
 have u2:ddb j+1≤ddb (r - 4):=by rw [ej,Nat.add_comm];exact qW j
 refine bg (cell % 13=2) (fun R hR=>⟨_,rfl,_,_,rfl,rfl,(zp 13),.inr (.inl ⟨rfl,_,rfl,by rw [cg];exact hR⟩)⟩) (fun _=>?_) (fun _=>?_)
 ·refine ⟨_,rfl,_,rfl,_,rfl,_,rfl,_,_,rfl,rfl,.inl ⟨by decide,by decide⟩,_,rfl,fun kk vv H3 rk3 gk3 o3=>⟨sz 4,fun q1 hq1=>?_⟩⟩
  have o4:=Old.new (o:=.lst [.ref ka,.ref ka,.ref ka,vv]) hq1
  obtain ⟨kc,vc,evc,gkc,rkc⟩:=zw (K:=K) (m:=3) (H:=upd H3 q1 (.lst [.ref ka,.ref ka,.ref ka,vv])) (vs:=[.ref ka,.ref ka,.ref ka,vv]) (Int.emod_nonneg (cell / 13) (by decide:(4:Int)≠0)) (Int.emod_lt_of_pos (cell / 13) (by decide)) (fun v hv=>by
   have e1:∃ k:Kn,Kg k 3∧RK K (upd H3 q1 (.lst [.ref ka,.ref ka,.ref ka,vv])) k.d (.ref ka):=⟨_,gk,(rk2.mono o3.tm).mono o4.tm⟩
   rcases List.mem_cons.mp hv with rfl | hv
   ·exact e1
   rcases List.mem_cons.mp hv with rfl | hv
   ·exact e1
   rcases List.mem_cons.mp hv with rfl | hv
   ·exact e1
   ·rw [List.mem_singleton.mp hv]
    exact ⟨kk,gk3.mono (by omega),rk3.mono o4.tm⟩)
  refine ⟨_,rfl,_,_,rfl,rfl,.inl ⟨by decide,by decide⟩,_,_,rfl,rfl,(zp 4),.inl ⟨q1,_,_,vc,rfl,rfl,SqL.of ad,evc,?_⟩⟩
  have S4:=(S2.old o3).old o4
  have nok4:=(nok2.tm o3.tm).tm o4.tm
  generalize upd H3 q1 (.lst [.ref ka,.ref ka,.ref ka,vv])=H4 at S4 nok4 rkc ⊢
  refine ⟨_,rfl,S4.place (E:=E0) nd1 fun p H5 p0 p1 S5 g5 tm5=>⟨sz 1,fun q2 hq2=>?_⟩⟩
  have o6:=Old.new (o:=.tup [.str "?"]) hq2
  have S6:=S5.old o6
  refine ⟨_,rfl,_,rfl,_,rfl,_,rfl,_,_,rfl,rfl,S6.node (E:=E0) (r - 1) nd1 S6.nm nd1 ((rkc.mono tm5).mono o6.tm) gkc ((nok4.tm tm5).tm o6.tm) (by omega) hz (by omega) (by omega) fun t v H7 S7 g7 tm7 M7=>⟨sz 4,fun q3 hq3=>?_⟩⟩
  rw [ej'] at M7
  have o8:=Old.new (o:=.tup [.str "as",.int p,.ref q2,v]) hq3
  exact fin _ _ _ (S7.old o8) ((mj (k:=qK) p0 (by omega) dh (by decide) M7.mp ad (((RK.tup (.of ad) (.cons (.s _) .nil):RK K _ qK.d (.ref q2)).mono tm7).mono o8.tm) (M7.r.mono o8.tm)).up (by omega) u2)
 refine ⟨_,rfl,_,_,rfl,rfl,.inl ⟨by decide,by decide⟩,_,_,rfl,rfl,(zp 9),?_⟩
 refine ⟨_,rfl,_,_,rfl,rfl,.inl ⟨by decide,by decide⟩,?_⟩
 refine ⟨_,rfl,S2.place (E:=E0) nd1 fun p H3 p0 p1 S3 g3 tm3=>?_⟩
 obtain ⟨i3,c3,D3⟩:=S3.D
 have l5:((ws.length:Nat):Int)=5:=by rw [D3.five];rfl
 obtain ⟨wd,ewd,_⟩:=b9 (ss:=ws) (i:=cell / 117 % 5) (Int.emod_nonneg _ (by decide)) (by rw [l5];exact Int.emod_lt_of_pos _ (by decide))
 refine ⟨_,rfl,.inl ⟨d,_,4,.ref wl,rfl,rfl,SqL.of D3.hd,Dl.i4,_,rfl,_,_,rfl,rfl,(zp 5),.inl ⟨wl,_,_,.str wd,rfl,rfl,SqL.of D3.hw,ewd,?_⟩⟩⟩
 have rk3:=rk2.mono tm3
 have hka3:=hka2.mono tm3
 have nok3:=nok2.tm tm3
 have lku:ku.length=ks.length:=by
  have:=rks2.length
  rw [aZ] at this
  exact this.symm
 dsimp only [aX]
 generalize cell / 117=cell2
 refine bg (cell / 13 % 9=3) (fun R hR=>⟨_,rfl,.inr (.inl ⟨rfl,_,rfl,by rw [cg];exact hR⟩)⟩) (fun _=>?_) (fun _=>?_)
 ·refine ⟨_,rfl,_,_,rfl,rfl,.inl ⟨by decide,by decide⟩,_,rfl,fun k' v' H4 rk' gk' o4=>?_⟩
  have S4:=S3.old o4
  refine ⟨_,rfl,_,rfl,_,rfl,_,rfl,_,_,rfl,rfl,S4.node (E:=E0) (r - 1) nd1 S4.nm nd1 rk' (gk'.mono (by omega)) (nok3.tm o4.tm) (by omega) hz (by omega) (by omega) fun t v H5 S5 g5 tm5 M5=>?_⟩
  refine ⟨_,rfl,_,rfl,_,rfl,_,rfl,_,rfl,_,rfl,_,rfl,_,rfl,nl,wd,v',kvs,rfl,S5.nm,by omega,fun r2 H6 o6 hr2 hr3=>?_⟩
  have S6:=S5.old o6
  have lp:=aR kvs (.inr wd) v'
  refine ⟨_,rfl,_,_,rfl,rfl,S6.node (E:=E0) (r - 1) nd1 hr3 (S5.ne hr2) (((rk3.mono o4.tm).mono tm5).mono o6.tm) gk ((((nok3.tm o4.tm).tm tm5).tm o6.tm).put ((rk'.mono tm5).mono o6.tm) (Nat.le_trans gk'.dep (by omega))) (by omega) hz (by omega) (by omega) fun t' v2 H7 S7 g7 tm7 M7=>⟨sz 5,fun q3 hq3=>?_⟩⟩
  rw [ej'] at M5 M7
  have o8:=Old.new (o:=.tup [.str "let",.int p,.str wd,v,v2]) hq3
  exact fin _ _ _ (S7.old o8) ((xk p0 (by omega) M5.mp M7.mp ad (((M5.r.mono o6.tm).mono tm7).mono o8.tm) (M7.r.mono o8.tm)).up (by omega) u2)
 refine bg (cell / 13 % 9=4) (fun R hR=>⟨_,rfl,.inr (.inl ⟨rfl,_,rfl,by rw [cg];exact hR⟩)⟩) (fun _=>?_) (fun _=>?_)
 ·refine ⟨_,rfl,sz 1,fun q1 hq1=>?_⟩
  have o4:=Old.new (o:=.tup [.str "truth"]) hq1
  have S4:=S3.old o4
  refine ⟨_,rfl,_,rfl,_,_,rfl,rfl,S4.node (E:=E0) (k:=bI) (r - 1) nd1 S4.nm nd1 (RK.tup (.of ad) (.cons (.s _) .nil)) (cC.mono (by omega)) (nok3.tm o4.tm) (by omega) hz (by omega) (by omega) fun t v H5 S5 g5 tm5 M5=>?_⟩
  have t35:Tm H3 H5:=fun x y e=>tm5 x y (o4.tm x y e)
  refine ⟨_,rfl,_,rfl,_,rfl,_,rfl,_,_,rfl,rfl,S5.node (E:=E0) (r - 1) nd1 S5.nm nd1 (rk3.mono t35) gk (nok3.tm t35) (by omega) hz (by omega) (by omega) fun t' v' H6 S6 g6 tm6 M6=>?_⟩
  refine ⟨_,rfl,_,rfl,_,rfl,_,rfl,_,rfl,_,rfl,_,rfl,_,_,rfl,rfl,S6.node (E:=E0) (r - 1) nd1 S6.nm nd1 ((rk3.mono t35).mono tm6) gk ((nok3.tm t35).tm tm6) (by omega) hz (by omega) (by omega) fun t2 v2 H7 S7 g7 tm7 M7=>⟨sz 5,fun q3 hq3=>?_⟩⟩
  rw [ej'] at M5 M6 M7
  have o8:=Old.new (o:=.tup [.str "if",.int p,v,v',v2]) hq3
  exact fin _ _ _ (S7.old o8) ((wj p0 (by omega) M5.mp M6.mp M7.mp ad (((M5.r.mono tm6).mono tm7).mono o8.tm) ((M6.r.mono tm7).mono o8.tm) (M7.r.mono o8.tm)).up (by omega) u2)
 have one_:(((V.str h :: ku).length:Nat):Int)=1→Kg (Kn.mk h ks) 1:=fun z=>by
  have z':ku.length+1=1:=by
   have:((ku.length+1:Nat):Int)=1:=z
   omega
  have:ks = []:=List.length_eq_zero_iff.mp (by omega)
  subst this
  exact ⟨gk.wf,Nat.le_refl _⟩
 refine bg (cell / 13 % 9=5∧(((V.str h :: ku).length:Nat):Int)=1) (fun R hR=>b8 _ _ hR (fun R hR=>⟨_,rfl,.inr (.inl ⟨rfl,_,rfl,by rw [cg];exact hR⟩)⟩) fun _ R hR=>⟨_,rfl,.inl ⟨ka,_,rfl,.inr hka3.sq,.inr (.inl ⟨rfl,_,rfl,by rw [cg];exact hR⟩)⟩⟩) (fun cc=>?_) (fun _=>?_)
 ·have gk1:=one_ cc.2
  refine ⟨_,rfl,_,rfl,fun k' v' H4 rk' gk' o4=>?_⟩
  refine ⟨_,rfl,_,rfl,_,rfl,sz 3,fun q1 hq1=>?_⟩
  have o5:=Old.new (o:=.tup [.str "to",v',.ref ka]) hq1
  have S5:=(S3.old o4).old o5
  have t35:Tm H3 _:=fun x y e=>o5.tm x y (o4.tm x y e)
  refine ⟨_,rfl,_,rfl,_,_,rfl,rfl,S5.node (E:=E0) (k:=.mk "to" [k',.mk h ks]) (r - 1) nd1 S5.nm nd1 (RK.tup (.of ad) (.cons (.s _) (.cons (rk'.mono o5.tm) (.cons (rk3.mono t35) .nil)))) (iE gk' (gk1.mono (by omega))) (nok3.tm t35) (by omega) hz (by omega) (by omega) fun t v H6 S6 g6 tm6 M6=>?_⟩
  refine ⟨_,rfl,_,rfl,_,rfl,_,rfl,_,rfl,_,rfl,_,_,rfl,rfl,S6.node (E:=E0) (r - 1) nd1 S6.nm nd1 ((rk'.mono o5.tm).mono tm6) (gk'.mono (by omega)) ((nok3.tm t35).tm tm6) (by omega) hz (by omega) (by omega) fun t' v2 H7 S7 g7 tm7 M7=>⟨sz 4,fun q3 hq3=>?_⟩⟩
  rw [ej'] at M6 M7
  have o8:=Old.new (o:=.tup [.str "call",.int p,v,v2]) hq3
  exact fin _ _ _ (S7.old o8) ((fS (by nofun) p0 (by omega) M6.mp M7.mp ad ((M6.r.mono tm7).mono o8.tm) (M7.r.mono o8.tm)).up (by omega) u2)
 refine bg (cell / 13 % 9=6∧(((V.str h :: ku).length:Nat):Int)=1) (fun R hR=>b8 _ _ hR (fun R hR=>⟨_,rfl,.inr (.inl ⟨rfl,_,rfl,by rw [cg];exact hR⟩)⟩) fun _ R hR=>⟨_,rfl,.inl ⟨ka,_,rfl,.inr hka3.sq,.inr (.inl ⟨rfl,_,rfl,by rw [cg];exact hR⟩)⟩⟩) (fun cc=>?_) (fun _=>?_)
 ·have gk1:=one_ cc.2
  refine bg (cell2 % 3=0) (fun R hR=>⟨_,rfl,_,_,rfl,rfl,(zp 3),.inr (.inl ⟨rfl,_,rfl,by rw [cg];exact hR⟩)⟩) (fun _=>?_) (fun _=>?_)
  ·refine ⟨_,rfl,_,rfl,sz 2,fun q1 hq1=>?_⟩
   have o5:=Old.new (o:=.tup [.str "row",.ref ka]) hq1
   have S5:=S3.old o5
   refine ⟨_,rfl,_,rfl,_,_,rfl,rfl,S5.node (E:=E0) (k:=.mk "row" [.mk h ks]) (r - 1) nd1 S5.nm nd1 (RK.tup (.of ad) (.cons (.s _) (.cons (rk3.mono o5.tm) .nil))) ((iD gk1).mono (by omega)) (nok3.tm o5.tm) (by omega) hz (by omega) (by omega) fun t v H6 S6 g6 tm6 M6=>?_⟩
   refine ⟨_,rfl,_,rfl,_,rfl,S6.place (E:=E0) nd1 fun p' H7 p0' p1' S7 g7 tm7=>⟨_,rfl,_,_,rfl,rfl,.inl ⟨by decide,by decide⟩,_,_,rfl,rfl,(zp 4),sz 3,fun q2 hq2=>?_⟩⟩
   have o8:=Old.new (o:=.tup [.str "whole",.int p',.int (cell2 / 3 % 4)]) hq2
   have M8:Mk K _ _ _ 1 1:=kF p0' p1' (ad (H:=H7) (a:=q2) (o:=.tup [.str "whole",.int p',.int (cell2 / 3 % 4)]))
   refine ⟨sz 4,fun q3 hq3=>?_⟩
   rw [ej'] at M6
   have o9:=Old.new (o:=.tup [.str "at",.int p,v,.ref q2]) hq3
   exact fin _ _ _ ((S7.old o8).old o9) ((fS (by nofun) p0 (by omega) M6.mp (M8.mp.up (Nat.le_trans (by decide) (nb0 j)) (Nat.le_trans (by decide) (yI j))) ad (((M6.r.mono tm7).mono o8.tm).mono o9.tm) (M8.r.mono o9.tm)).up (by omega) u2)
  refine bg (cell2 % 3=1) (fun R hR=>⟨_,rfl,_,_,rfl,rfl,(zp 3),.inr (.inl ⟨rfl,_,rfl,by rw [cg];exact hR⟩)⟩) (fun _=>?_) (fun _=>?_)
  ·refine ⟨_,rfl,_,rfl,_,rfl,_,rfl,_,_,rfl,rfl,.inl ⟨by decide,by decide⟩,_,rfl,fun k' v' H4 rk' gk' o4=>⟨sz 3,fun q1 hq1=>?_⟩⟩
   have o5:=Old.new (o:=.tup [.str "pair",.ref ka,v']) hq1
   have S5:=(S3.old o4).old o5
   have t35:Tm H3 _:=fun x y e=>o5.tm x y (o4.tm x y e)
   refine ⟨_,rfl,_,rfl,_,_,rfl,rfl,S5.node (E:=E0) (k:=.mk "pair" [.mk h ks,k']) (r - 1) nd1 S5.nm nd1 (RK.tup (.of ad) (.cons (.s _) (.cons (rk3.mono t35) (.cons (rk'.mono o5.tm) .nil)))) ((fh gk1 gk').mono (by omega)) (nok3.tm t35) (by omega) hz (by omega) (by omega) fun t v H6 S6 g6 tm6 M6=>⟨sz 3,fun q3 hq3=>?_⟩⟩
   rw [ej'] at M6
   exact fin _ _ _ (S6.old (Old.new hq3)) ((mX (by nofun) p0 (by omega) M6.mp ad (M6.r.mono (Old.new hq3).tm)).up (by omega) u2)
  ·refine ⟨_,rfl,_,rfl,_,rfl,_,_,rfl,rfl,.inl ⟨by decide,by decide⟩,_,rfl,fun k' v' H4 rk' gk' o4=>⟨_,rfl,sz 3,fun q1 hq1=>?_⟩⟩
   have o5:=Old.new (o:=.tup [.str "pair",v',.ref ka]) hq1
   have S5:=(S3.old o4).old o5
   have t35:Tm H3 _:=fun x y e=>o5.tm x y (o4.tm x y e)
   refine ⟨_,rfl,_,rfl,_,_,rfl,rfl,S5.node (E:=E0) (k:=.mk "pair" [k',.mk h ks]) (r - 1) nd1 S5.nm nd1 (RK.tup (.of ad) (.cons (.s _) (.cons (rk'.mono o5.tm) (.cons (rk3.mono t35) .nil)))) ((fh gk' gk1).mono (by omega)) (nok3.tm t35) (by omega) hz (by omega) (by omega) fun t v H6 S6 g6 tm6 M6=>⟨sz 3,fun q3 hq3=>?_⟩⟩
   rw [ej'] at M6
   exact fin _ _ _ (S6.old (Old.new hq3)) ((mX (by nofun) p0 (by omega) M6.mp ad (M6.r.mono (Old.new hq3).tm)).up (by omega) u2)
 refine bg (cell / 13 % 9=7∧(((V.str h :: ku).length:Nat):Int)=1∧(5:Int)<r) (fun R hR=>b8 _ _ hR (fun R hR=>⟨_,rfl,.inr (.inl ⟨rfl,_,rfl,by rw [cg];exact hR⟩)⟩) fun _ R hR=>b8 _ _ hR (fun R hR=>⟨_,rfl,.inl ⟨ka,_,rfl,.inr hka3.sq,.inr (.inl ⟨rfl,_,rfl,by rw [cg];exact hR⟩)⟩⟩) fun _ R hR=>⟨_,rfl,_,_,rfl,rfl,_,rfl,hR⟩) (fun cc=>?_) (fun _=>?_)
 ·have gk1:=one_ cc.2.1
  obtain rfl:r=6:=by have:=cc.2.2;omega
  exact ⟨_,rfl,_,rfl,_,rfl,_,rfl,_,rfl,d,a,wl,nl,ns,ws,i3,b,c3,fl,cell2,.mk h ks,.ref ka,kvs,rfl,D3,rk3,gk1,S3.nm,nd1,nok3,by omega,by omega,fun t v H' i' c' g' D' M=>fin t v H' ⟨S3.g.trans g',⟨i',c',D'⟩,g' _ _ S3.nm nd1⟩ M⟩
 exact ⟨_,rfl,_,rfl,_,rfl,_,rfl,_,rfl,d,a,wl,nl,ns,ws,i3,b,c3,fl,cell2,.mk h ks,.ref ka,kvs,r,rfl,D3,rk3,gk,S3.nm,nd1,nok3,by omega,r5,by omega,r6,fun t v H' i' c' g' D' M=>fin t v H' ⟨S3.g.trans g',⟨i',c',D'⟩,g' _ _ S3.nm nd1⟩ M⟩
def yR:Dk→Bool
 | .int _=>true
 | .bl _=>true
 | _=>false
theorem we {H:Hp} {d:Dk} {v:V} (r:RK K H d v):IsJ K H v "int" (yR d):=by
 cases d with
 | tup ds=>
   obtain ⟨a,vs,rfl,ha,_⟩:=RK.get r
   rcases ha with h | h
   ·exact .inl ⟨_,.tup h,show W.kitOne K (.type "tuple") (.type "int")=some false from (by nofun:W.kitOne [] (.type "tuple") (.type "int")=some false)⟩
   ·exact .inr ⟨a,vs,rfl,h,show W.kitOne K (.type "tuple") (.type "int")=some false from (by nofun:W.kitOne [] (.type "tuple") (.type "int")=some false)⟩
 | non=>rw [RK] at r;subst r;exact .inl ⟨_,.non,show W.kitOne K (.type "NoneType") (.type "int")=some false from (by nofun:W.kitOne [] (.type "NoneType") (.type "int")=some false)⟩
 | int i=>rw [RK] at r;subst r;exact .inl ⟨_,.int i,show W.kitOne K (.type "int") (.type "int")=some true from (by nofun:W.kitOne [] (.type "int") (.type "int")=some true)⟩
 | bl i=>rw [RK] at r;subst r;exact .inl ⟨_,.bl i,show W.kitOne K (.type "bool") (.type "int")=some true from (by nofun:W.kitOne [] (.type "bool") (.type "int")=some true)⟩
 | str i=>rw [RK] at r;subst r;exact .inl ⟨_,.str i,show W.kitOne K (.type "str") (.type "int")=some false from (by nofun:W.kitOne [] (.type "str") (.type "int")=some false)⟩
theorem yb {H:Hp} {a:Addr} {h h':V} {r:List V} {Q:VK} (ha:SqT K H a (h :: h' :: r)) (q:∀ p,H p=none→Q (.ref p) (upd H p (.tup r))):xU K (.ref a) (some 2) none H Q:=by
 have e:HT.sIx (h :: h' :: r).length 0 (some 2)=2:=by
  simp [HT.sIx]
 refine .inr (.inl ⟨a,_,rfl,ha,?_,fun p hp=>?_⟩)
 ·intro z
  omega
 ·have k:=q p hp
  have e:im (h :: h' :: r) (some 2) none=r:=by
   unfold im
   have e2:HT.sIx (h :: h' :: r).length (h :: h' :: r).length none=(h :: h' :: r).length:=by simp [HT.sIx]
   rw [e,e2]
   simp
  rw [e]
  exact k
abbrev sPt:Stmt:=top 56
def vG (K:W.Frag):Sp:=fun vs H Q _=>∃ (v:V) (t:Tk),vs = [v]∧RK K H t.tn.d v∧t.tn.wf∧t.ok∧∀ (r:Addr) (us:List V) (H':Hp),Old H H'→H r=none→H' r=some (.lst us)→RKs K H' (Tn.ds (Tk.tns t.ps)) us→Q (.ref r) H'
theorem zY:aA ["_law_node_here","_law_word"] ["_law_node_here"] (au sPt):=⟨rfl,rfl,rfl,by nofun,rfl,by nofun,by nofun⟩
theorem gQ:K11.np "whole" = 0∧K11.np "truth" = 0∧K11.np "given" = 0∧K11.np "name" = 0:=by nofun
theorem zg {n:Nat} (F:Fun K "_law_parts" "_law_parts" sPt f fd) (T:Tx mg):aY P w K mg base CX0 (n+1) f fd ["_law_node_here"] (vG K):=by
 refine F.ok zY (fun vs H Q E h=>?_) (fun cdv A outer s H vs Q E hr h=>?_)
 ·obtain ⟨v,t,rfl,_⟩:=h
  rfl
 obtain ⟨v,t,rfl,rv,wt,ot,q⟩:=h
 have nd:=zY.nd
 obtain ⟨x,p,fr,ks,ps⟩:=t
 have rv':RK K H (Tn.mk x p fr (Kn.ds ks) (Tk.tns ps)).d v:=rv
 obtain ⟨⟨hx,lf,lm,lp,l5,_⟩,wps⟩:=(show (Tn.mk x p fr (Kn.ds ks) (Tk.tns ps)).wf from wt)
 obtain ⟨⟨wks,dks,flt,nlk⟩,oks⟩:=ot
 rw [aF] at lp l5
 obtain ⟨a,uf,um,up,rfl,ha,rf,rm,rp⟩:=RK.node rv'
 have q':∀ (r:Addr) (us:List V) (H':Hp),Old H H'→H r=none→H' r=some (.lst us)→RKs K H' (Tn.ds (Tk.tns ps)) us→Q (.ref r) H':=q
 refine' ⟨_,?n0,?Z⟩
 case' n0=>refine' ag ?N1 ?N2
 case' N1=>refine' psX 1 nd ?N3
 case N3=>exact pxK K (pv 0) ac (fun _ _=>rfl)
 case' N2=>refine' ag (aC ?N6 ?N7 aw) ?N5
 case' N6=>refine' PW.pt ?N8
 case' N8=>refine' eB (ak (ax hr) (pv 1) ai (aq _)) ?N9
 case' N9=>refine' eB (ak (ax hr) (pv 1) ai (aq _)) ?Na
 case' Na=>refine' eB (ak (ax hr) (pv 1) ai (aq _)) ?Nb
 case Nb=>exact dR (ak (ax hr) (pv 1) ai (aq _))
 case' N7=>refine' ah ?Nc
 case Nc=>exact ar (bY ae)
 case' N5=>refine' ag (aC (ak (ax hr) (pv 1) ai (aq _)) ?Nf aw) ?Ne
 case' Nf=>refine' ah (ar ?Nh)
 case' Nh=>refine' bw (dL) rfl T.list boot_list ?Ni
 case' Ni=>refine' pa ?Nj ae
 case Nj=>exact pxK K (pv 0) ac (fun _ _=>rfl)
 case' Ne=>refine' ah (ar ?Nl)
 case' Nl=>refine' iL (tt:=vL (tB (tCB (fun xs H Q=>∃ x n b,xs = [x,V.ty n]∧IsJ K H x n b∧Q (V.bl b) H) (cj (bW 0) (cj (tC (.ty "tuple")) je)))) (vL (pL (tOp (rI0 fun i j=>.bl (decide (j<i))) (tCB (wz K) (cj (bW 0) je)) (tC (.int 1)))) (tB (tCB (fun xs H Q=>∃ x n b,xs = [x,V.ty n]∧IsJ K H x n b∧Q (V.bl b) H) (cj (tOp (rIx K) (bW 0) (tC (.int 1))) (cj (tC (.ty "int")) je)))))) (te:=bW 0) (k:=1) (N:=["_law_thing","_law_node_here","_law_word"]) (dW rfl rfl rfl rfl rfl rfl) rfl ?Nm (fun _ _ _ _=>?Nn) (fun _ _ _ _=>?No) (fun _ _ _ _=>?Np)
 case' Nm=>refine' dl ?Nq
 case' Nq=>refine' iM x8 (pv 0) ?Nr kM
 case Nr=>exact kN ac
 case Nn=>exact aV (i:=0) (by show List.Nodup (["_law_thing","_law_node_here","_law_word"]:List Str);decide +kernel) rfl (Or.inl rfl)
 case No=>
  refine' gY ?Ns
  case' Ns=>refine' PW.pt ?Nt
  first | case' Nt=>refine' bE ?Nu ?Nv | case' Ns=>refine' bE ?Nu ?Nv
  case' Nu=>refine' eR ?Nw
  first | case' Nw=>refine' aM (cO) rfl T.isinstance boot_isinstance ?Nx | case' Nu=>refine' aM (cO) rfl T.isinstance boot_isinstance ?Nx
  first | case' Nx=>refine' pa (pv 0) ?Ny | case' Nw=>refine' pa (pv 0) ?Ny | case' Nu=>refine' pa (pv 0) ?Ny
  first | case' Ny=>refine' pa ?Nz ae | case' Nx=>refine' pa ?Nz ae | case' Nw=>refine' pa ?Nz ae | case' Nu=>refine' pa ?Nz ae
  first | case Nz=>exact gF rfl T.tuple boot_tuple | case Ny=>exact gF rfl T.tuple boot_tuple | case Nx=>exact gF rfl T.tuple boot_tuple | case Nw=>exact gF rfl T.tuple boot_tuple | case Nu=>exact gF rfl T.tuple boot_tuple
  case' Nv=>refine' bE (ak eg (aM (bh) rfl T.len boot_len (pa (pv 0) ae)) ac (aq _)) ?N10
  first | case' N10=>refine' bC ?N11 | case' Nv=>refine' bC ?N11
  first | case' N11=>refine' eR ?N12 | case' N10=>refine' eR ?N12 | case' Nv=>refine' eR ?N12
  first | case' N12=>refine' aM (cO) rfl T.isinstance boot_isinstance ?N13 | case' N11=>refine' aM (cO) rfl T.isinstance boot_isinstance ?N13 | case' N10=>refine' aM (cO) rfl T.isinstance boot_isinstance ?N13 | case' Nv=>refine' aM (cO) rfl T.isinstance boot_isinstance ?N13
  first | case' N13=>refine' pa ?N14 ?N15 | case' N12=>refine' pa ?N14 ?N15 | case' N11=>refine' pa ?N14 ?N15 | case' N10=>refine' pa ?N14 ?N15 | case' Nv=>refine' pa ?N14 ?N15
  case N14=>exact pxK K (pv 0) ac (fun _ _=>rfl)
  case' N15=>refine' pa ?N16 ae
  first | case N16=>exact gF rfl T.int boot_int | case N15=>exact gF rfl T.int boot_int
 case Np=>exact pv 0
 refine ⟨_,rfl,.inr (.inl ⟨a,_,0,.str x,rfl,rfl,ha.sq,at0,?_⟩)⟩
 dsimp only [aX]
 refine bg (x = "whole"∨(x = "truth"∨(x = "given"∨x = "name"))) (fun R hR=>gD _ _ hR (fun R hR=>⟨_,rfl,.inr (.inl ⟨rfl,_,rfl,by rw [ba];exact hR⟩)⟩) fun R hR=>gD _ _ hR (fun R hR=>⟨_,rfl,.inr (.inl ⟨rfl,_,rfl,by rw [ba];exact hR⟩)⟩) fun R hR=>gD _ _ hR (fun R hR=>⟨_,rfl,.inr (.inl ⟨rfl,_,rfl,by rw [ba];exact hR⟩)⟩) (fun R hR=>⟨_,rfl,.inr (.inl ⟨rfl,_,rfl,by rw [ba];exact hR⟩)⟩)) (fun c=>?_) (fun c1=>?_)
 ·have l0:ps.length=0:=by
   rcases c with c | c | c | c
   ·rw [lp (by rw [c];decide +kernel),c];exact gQ.1
   ·rw [lp (by rw [c];decide +kernel),c];exact gQ.2.1
   ·rw [lp (by rw [c];decide +kernel),c];exact gQ.2.2.1
   ·rw [lp (by rw [c];decide +kernel),c];exact gQ.2.2.2
  obtain rfl:=List.length_eq_zero_iff.mp l0
  exact ⟨sz 0,fun r hr0=>q' r [] _ (Old.new hr0) hr0 ad .nil⟩
 refine bg (x = "row") (fun R hR=>⟨_,rfl,.inr (.inl ⟨rfl,_,rfl,by rw [ba];exact hR⟩)⟩) (fun c=>?_) (fun c2=>?_)
 ·rw [if_pos c] at rp
  rw [c,sx] at lf
  rw [c,sy] at lm
  obtain ⟨pv,e0,rfl,rpv,e1⟩:=rp
  have e1':e0 = []:=e1
  subst e1'
  obtain rfl:uf = []:=List.length_eq_zero_iff.mp (rf.length.symm.trans lf)
  obtain ⟨k0,rfl⟩:∃ k0,um = [k0]:=List.length_eq_one_iff.mp (rm.length.symm.trans lm)
  obtain ⟨b,us,rfl,hb,rus⟩:=RK.get rpv
  refine ⟨_,rfl,.inr (.inl ⟨a,_,3,.ref b,rfl,rfl,ha.sq,at3,b,us,rfl,.inr hb.sq,fun l hl=>?_⟩)⟩
  exact q' l us _ (Old.new hl) hl ad (rus.mono (Old.new hl).tm)
 ·rw [if_neg c2] at rp
  have l3:=rp.length
  rw [bq,aF] at l3
  refine ⟨_,rfl,_,rfl,yb ha.sq fun sp hsp=>?_⟩
  have o1:=Old.new (o:=.tup (uf ++ um ++ up)) hsp
  have hp1:upd H sp (.tup (uf ++ um ++ up)) sp=some (.tup (uf ++ um ++ up)):=ad
  generalize upd H sp (.tup (uf ++ um ++ up))=H1 at o1 hp1 ⊢
  refine ⟨sp,rfl,.inr ⟨⟨_,SqT.of hp1⟩,fun D hD=>?_⟩⟩
  have neD:∀ b o,H1 b=some o→b≠D:=fun b o e=>al e hD
  have hD0:H D=none:=o1.free hD
  refine md (n:=(uf ++ um ++ up).length) (fun i σ H2=>∃ k1:Option V,σ = [k1,some (.ref a),some (.str x)]∧Old H1 H2∧H2 D=some (.lst (up.take (i - (uf ++ um).length)))) ⟨none,rfl,Old.new hD,by rw [ad,Nat.zero_sub];rfl⟩ ?_ ?_ ?_ ?_
  ·intro i σ H2 hi hv
   obtain ⟨k1,rfl,g,hD2⟩:=hv
   exact ⟨_,_,SqT.of (g _ _ hp1),List.getElem?_eq_getElem hi⟩
  ·intro σ H2 hv
   obtain ⟨k1,rfl,g,hD2⟩:=hv
   exact ⟨_,SqT.of (g _ _ hp1),Nat.le_refl _⟩
  ·intro i σ H2 hi hv y H3 hy
   obtain ⟨k1,rfl,g,hD2⟩:=hv
   obtain ⟨e1,hyx⟩:=hy
   subst e1
   have eu:(uf ++ um ++ up)[i]? = some y:=hyx _ (SqT.of (g _ _ hp1))
   have tmH:=(o1.trans g).tm
   by_cases c3:i<(uf ++ um).length
   ·have keep:Nx (uf ++ um ++ up).length (fun i σ H2=>∃ k1:Option V,σ = [k1,some (.ref a),some (.str x)]∧Old H1 H2∧H2 D=some (.lst (up.take (i - (uf ++ um).length)))) i [some y,some (.ref a),some (.str x)] H3:=nx hi ⟨_,rfl,g,by
     rw [show i+1 - (uf ++ um).length=i - (uf ++ um).length by omega]
     exact hD2⟩
    rw [List.getElem?_append_left c3] at eu
    by_cases c4:i<uf.length
    ·rw [List.getElem?_append_left c4] at eu
     obtain ⟨d,ed,rd⟩:=rf.getV eu
     have fd':d.isT=false:=by
      have:=flt d (List.mem_of_getElem? ed)
      cases d <;> first | rfl | cases this
     refine ⟨_,rfl,y,"tuple",_,rfl,jA (rd.mono tmH),_,rfl,?_⟩
     rw [fd']
     exact bf (bf keep)
    ·rw [List.getElem?_append_right (by omega)] at eu
     obtain ⟨hk,rk⟩:=oV rm eu
     have rk3:=rk.mono tmH
     generalize cs_eq:ks[i - uf.length]=k0 at rk3
     obtain ⟨hh,kk⟩:=k0
     have rk4:RK K H3 (.tup (.str hh :: Kn.ds kk)) y:=rk3
     obtain ⟨ya,yus,rfl,hya,rys⟩:=RK.kind rk4
     refine ⟨_,rfl,_,"tuple",_,rfl,jA rk4,_,rfl,br ?_⟩
     refine ⟨_,rfl,.inl ⟨ya,_,rfl,.inr hya.sq,_,_,rfl,rfl,_,rfl,?_⟩⟩
     cases kk with
     | nil=>
       obtain rfl:yus = []:=rys
       refine qi (fun z=>absurd (show (1:Int)<1 from of_decide_eq_true z) (by decide)) (fun _=>bf keep)
     | cons k1' kr=>
       obtain ⟨z0,zr,rfl,rz0,_⟩:=rys
       refine qi (fun _=>?_) (fun z=>absurd (decide_eq_true (show (1:Int)<((V.str hh :: z0 :: zr).length:Nat) by simp;omega)) z)
       refine ⟨_,rfl,.inr (.inl ⟨ya,_,1,z0,rfl,rfl,hya.sq,at1,z0,"int",_,rfl,we rz0,_,rfl,?_⟩)⟩
       rw [show yR k1'.d=false by cases k1';rfl]
       exact bf keep
   ·rw [List.getElem?_append_right (by omega)] at eu
    have hj:i - (uf ++ um).length<ps.length:=by
     have:=(List.getElem?_eq_some_iff.mp eu).1
     omega
    have rn:RK K H ps[i - (uf ++ um).length].tn.d y:=by
     obtain ⟨d,ed,rd⟩:=rp.getV eu
     have e1:(Tk.tns ps)[i - (uf ++ um).length]'(by rw [aF];exact hj)=ps[i - (uf ++ um).length].tn:=by
      have:=le hj
      rw [List.getElem?_eq_getElem (by rw [aF];exact hj)] at this
      exact Option.some.inj this
     rw [hU (by rw [aF];exact hj),e1] at ed
     cases ed
     exact rd
    have rn3:=rn.mono tmH
    generalize ps[i - (uf ++ um).length]=n0 at rn3
    obtain ⟨x',np,fr',cs',ps'⟩:=n0
    have rn4:RK K H3 (Tn.mk x' np fr' (Kn.ds cs') (Tk.tns ps')).d y:=rn3
    obtain ⟨ya,uf',um',up',rfl,hya,_⟩:=RK.node rn4
    refine ⟨_,rfl,_,"tuple",_,rfl,jA rn4,_,rfl,br ?_⟩
    refine ⟨_,rfl,.inl ⟨ya,_,rfl,.inr hya.sq,_,_,rfl,rfl,_,rfl,?_⟩⟩
    refine qi (fun _=>?_) (fun z=>absurd (decide_eq_true (show (1:Int)<((V.str x' :: V.int np :: (uf' ++ um' ++ up')).length:Nat) by simp;omega)) z)
    refine ⟨_,rfl,.inr (.inl ⟨ya,_,1,.int np,rfl,rfl,hya.sq,at1,.int np,"int",_,rfl,we (.i np),_,rfl,br ?_⟩)⟩
    refine ⟨_,rfl,_,hD2,?_,nx hi ⟨_,rfl,fun b o e=>by rw [aj (neD b o e)];exact g b o e,?_⟩⟩
    ·refine bA ?_
     rw [List.length_take]
     omega
    ·rw [ad,show i+1 - (uf ++ um).length=i - (uf ++ um).length+1 by omega]
     have hj':i - (uf ++ um).length<up.length:=by omega
     rw [cu hj']
     rw [List.getElem?_eq_getElem hj'] at eu
     rw [Option.some.inj eu]
  ·intro σ H2 hv
   obtain ⟨k1,rfl,g,hD2⟩:=hv
   rw [show (uf ++ um ++ up).length - (uf ++ um).length=up.length by rw [List.length_append (as:=uf ++ um)];omega,List.take_length] at hD2
   exact q' D up H2 (o1.trans g) hD0 hD2 (rp.mono (o1.trans g).tm)
noncomputable def Bd:List Tk→List Tk→Prop
 | [],[]=>True
 | p :: ps,t :: ts=>Mp t p.cnt p.tn.dep∧Bd ps ts
 | _,_=>False
theorem mG:∀ {ps ts:List Tk} {p t:Tk},Bd ps ts→Mp t p.cnt p.tn.dep→Bd (ps ++ [p]) (ts ++ [t])
 | [],[],_,_,_,m=>⟨m,trivial⟩
 | _ :: _,_ :: _,_,_,h,m=>⟨h.1,mG h.2 m⟩
 | [],_ :: _,_,_,h,_=>h.elim
 | _ :: _,[],_,_,h,_=>h.elim
theorem ke:∀ {ps ts:List Tk},Bd ps ts→ts.length=ps.length∧Tn.wfs (Tk.tns ts)∧Tk.oks ts∧Tk.doss ts∧Tk.cnts ts≤Tk.cnts ps∧Tn.deps (Tk.tns ts)≤Tn.deps (Tk.tns ps)
 | [],[],_=>⟨rfl,trivial,trivial,trivial,Nat.le_refl _,Nat.le_refl _⟩
 | p :: ps,t :: ts,h=>by
   obtain ⟨a,b,c,d,e,g⟩:=ke h.2
   refine ⟨by rw [List.length_cons,List.length_cons,a],⟨h.1.wf,b⟩,⟨h.1.ok,c⟩,⟨h.1.dos,d⟩,?_,?_⟩
   ·have:=h.1.cnt
    show t.cnt+Tk.cnts ts≤p.cnt+Tk.cnts ps
    omega
   ·have:=h.1.dep
    show max t.tn.dep (Tn.deps (Tk.tns ts))≤max p.tn.dep (Tn.deps (Tk.tns ps))
    omega
 | [],_ :: _,h=>h.elim
 | _ :: _,[],h=>h.elim
theorem pM (t:Tk):∃ (x:Str) (p:Int) (r:List Dk),t.tn.d = .tup (.str x :: .int p :: r):=by
 obtain ⟨x,p,fr,ks,ps⟩:=t
 exact ⟨x,p,_,rfl⟩
theorem iX:∀ {ps:List Tk} {j:Nat} (h:j<ps.length),(Tn.ds (Tk.tns ps))[j]? = some ps[j].tn.d
 | _ :: _,0,_=>rfl
 | _ :: r,j+1,h=>iX (ps:=r) (Nat.lt_of_succ_lt_succ h)
theorem j7 {d:Dk} (h:∀ (x:Str) (p:Int) (r:List Dk),(Dk.tup (.str x :: .int p :: r)).eqb d=false):∀ ps:List Tk,(Tn.ds (Tk.tns ps)).any (fun e=>e.eqb d)=false
 | []=>rfl
 | t :: r=>by
   obtain ⟨x,p,z,e⟩:=pM t
   show (t.tn.d.eqb d || (Tn.ds (Tk.tns r)).any fun e=>e.eqb d)=false
   rw [e,h,j7 h r]
   rfl
theorem ou {ps:List Tk} {j:Nat} (hj:j<ps.length):(Tn.ds (Tk.tns ps)).any (fun e=>e.eqb ps[j].tn.d)=true:=by
 rw [List.any_eq_true]
 refine ⟨ps[j].tn.d,?_,iw _⟩
 have:∀ (ps:List Tk) (j:Nat) (h:j<ps.length),ps[j].tn.d∈Tn.ds (Tk.tns ps):=fun ps=>by
  induction ps with
  | nil=>intro j h;exact absurd h (Nat.not_lt_zero _)
  | cons t r ih=>
    intro j h
    cases j with
    | zero=>exact .head _
    | succ j=>exact .tail _ (ih j (Nat.lt_of_succ_lt_succ h))
 exact this ps j hj
theorem pd {d:Dk} (h:d.isT=false):∀ (x:Str) (p:Int) (r:List Dk),(Dk.tup (.str x :: .int p :: r)).eqb d=false:=fun x p r=>by
 cases d <;> first | rfl | cases h
theorem uJ (k:Kn):∀ (x:Str) (p:Int) (r:List Dk),(Dk.tup (.str x :: .int p :: r)).eqb k.d=false:=fun x p r=>by
 obtain ⟨h,ks⟩:=k
 show ((Dk.str x).eqb (.str h) && dX (.int p :: r) (Kn.ds ks))=false
 cases ks with
 | nil=>exact Bool.and_false _
 | cons a b=>
   obtain ⟨g,gs⟩:=a
   exact Bool.and_false _
theorem xm (ps:List Tk):∀ (x:Str) (p:Int) (r:List Dk),(Dk.tup (.str x :: .int p :: r)).eqb (.tup (Tn.ds (Tk.tns ps)))=false:=fun x p r=>by
 cases ps with
 | nil=>rfl
 | cons t ps=>
   obtain ⟨y,q,z,e⟩:=pM t
   show ((Dk.str x).eqb t.tn.d && _)=false
   rw [e]
   rfl
theorem xl:∀ x∈K11.words,K11.nf x≤5∧K11.nk x≤5:=by nofun
theorem rg {d:Dk}:∀ {ks:List Kn},d∈Kn.ds ks→∃ k:Kn,d=k.d
 | [],h=>nomatch h
 | k :: r,h=>by
   rcases List.mem_cons.mp (show d∈k.d :: Kn.ds r from h) with rfl | h
   ·exact ⟨k,rfl⟩
   ·exact rg h
abbrev sSp:Stmt:=top 57
def nU (K:W.Frag) (m:Nat):Sp:=fun vs H Q _=>∃ (v:V) (bx:Addr) (t:Tk) (n:Int) (nm:Str),vs = [v,.ref bx]∧RK K H t.tn.d v∧t.tn.wf∧t.ok∧t.dos∧t.tn.dep≤m∧t.tn.dep≤20∧H bx=some (.lst [.int n,.str nm])∧∀ (t':Tk) (v':V) (H':Hp) (n':Int),Gr (M1 bx) H H'→H' bx=some (.lst [.int n',.str nm])→Mk K H' v' t' t.cnt t.tn.dep→Q v' H'
theorem z6:aA ["_law_node_here","_law_box","_law_some","_law_things","_law_thing"] ["_law_node_here","_law_box"] (au sSp):=⟨rfl,rfl,rfl,by nofun,rfl,by nofun,by nofun⟩
theorem zi {m:Nat} (F:Fun K "_law_spoiled" "_law_spoiled" sSp f fd) (T:Tx mg) (A1:Cal P w K mg base "_law_parts" ["_law_node_here"] 1 (vG K)) (Cb:Cal P w K mg base "_law_spoiled" ["_law_node_here","_law_box"] (m+1) (nU K m)):aY P w K mg base CX0 (m+2) f fd ["_law_node_here","_law_box"] (nU K (m+1)):=by
 refine F.ok z6 (fun vs H Q E h=>?_) (fun cdv A outer s H vs Q E hr h=>?_)
 ·obtain ⟨v,bx,t,n,nm,rfl,_⟩:=h
  rfl
 obtain ⟨v,bx,t,n,nm,rfl,rv,wt,ot,dt,hd,h20,hbx,q⟩:=h
 have nd:=z6.nd
 obtain ⟨x,p,fr,ks,ps⟩:=t
 have rv':RK K H (Tn.mk x p fr (Kn.ds ks) (Tk.tns ps)).d v:=rv
 obtain ⟨⟨hx,lf,lm,lp,l5,hn,p0,p1⟩,wps⟩:=(show (Tn.mk x p fr (Kn.ds ks) (Tk.tns ps)).wf from wt)
 obtain ⟨⟨wks,dks,flt,nlk⟩,oks⟩:=id ot
 obtain ⟨hdo,dps⟩:=id dt
 rw [aF] at lp l5
 obtain ⟨a,uf,um,up,rfl,ha,rf,rm,rp⟩:=RK.node rv'
 refine' ⟨_,?n0,?Z⟩
 case' n0=>refine' ag ?N1 ?N2
 case N1=>exact psX 2 nd (ao A1 hr (pa (pv 0) ae))
 case' N2=>refine' ag (aC (ak (ax hr) (aM (bh) rfl T.len boot_len (pa (pv 2) ae)) ac (aq _)) ?N5 aw) ?N4
 case' N5=>refine' ag ?N6 ?N7
 case' N6=>refine' nE ?N8 ?N9
 case' N8=>refine' am bu ?Na ac
 case Na=>exact pxK K (pv 1) ac (fun _ _=>rfl)
 case N9=>exact nz (pv 1) ac iS
 case' N7=>refine' ag (aC ?Nd ?Ne aw) ?Nc
 case' Nd=>refine' ak (ax hr) ?Nf ac (aq _)
 case Nf=>exact pxK K (pv 1) ac (fun _ _=>rfl)
 case' Ne=>refine' ah (ar ?Nh)
 case' Nh=>refine' ap ?Ni
 case' Ni=>refine' pa ai ?Nj
 case' Nj=>refine' pa ?Nk ?Nl
 case Nk=>exact pxK K (pv 0) ac (fun _ _=>rfl)
 case' Nl=>refine' pa ?Nm ae
 case Nm=>exact pxK K (pv 1) ac (fun _ _=>rfl)
 case' Nc=>refine' ah ?Nn
 case Nn=>exact ar (pv 0)
 case' N4=>refine' ag ?No ?Np
 case No=>exact psX 3 nd (bY ae)
 case' Np=>refine' ag ?Nq ?Nr
 case' Nq=>refine' cQ PassesOwn.never rfl ?Ns ?Nt ?Nu
 case Ns=>exact dl (pv 0)
 case Nt=>exact aV (i:=4) nd rfl (Or.inl rfl)
 case' Nu=>refine' ah ?Nv
 case' Nv=>refine' aC (ak (sM hr) (pv 4) (pv 2) rfl) ?Nw ?Nx
 case' Nw=>refine' ah ?Ny
 case' Ny=>refine' bB ?Nz
 case Nz=>exact jK PySem.F.plainAttrs_list PySem.F.slot_list_append PySem.F.type_list_append cL (pv 3) (pa (ao Cb hr (pa (pv 4) (pa (pv 1) ae))) ae)
 case' Nx=>refine' ah ?N10
 case' N10=>refine' aC ?N11 ?N12 ?N13
 case' N11=>refine' PW.pt ?N14
 case' N14=>refine' bE ?N15 ?N16
 case' N15=>refine' eR ?N17
 case' N17=>refine' aM (cO) rfl T.isinstance boot_isinstance ?N18
 case' N18=>refine' pa (pv 4) ?N19
 case' N19=>refine' pa ?N1a ae
 case N1a=>exact gF rfl T.tuple boot_tuple
 case' N16=>refine' bE (ak eg (aM (bh) rfl T.len boot_len (pa (pv 4) ae)) ac (aq _)) ?N1b
 case' N1b=>refine' bC ?N1c
 case' N1c=>refine' ak (sM hr) ?N1d (pv 2) rfl
 case N1d=>exact pxK K (pv 4) ac (fun _ _=>rfl)
 case' N12=>refine' ah ?N1e
 case' N1e=>refine' bB ?N1f
 case' N1f=>refine' jK PySem.F.plainAttrs_list PySem.F.slot_list_append PySem.F.type_list_append cL (pv 3) ?N1g
 case' N1g=>refine' pa ?N1h ae
 case' N1h=>refine' bw (bV) rfl T.tuple boot_tuple ?N1i
 case' N1i=>refine' pa ?N1j ae
 case' N1j=>refine' iL (te:=jV (nU K m) [] E0 (cj (bW 0) (cj (bW 2) je))) (k:=1) (N:=["_law_item","_law_node_here","_law_box","_law_some","_law_things","_law_thing"]) (dW rfl rfl rfl rfl rfl rfl) rfl ?N1k (fun _ _ _ _=>?N1l) (fun _ _ _ _=>?N1m) (fun _ _ _ _=>?N1n)
 case N1k=>exact dl (pv 4)
 case N1l=>exact aV (i:=0) (by show List.Nodup (["_law_item","_law_node_here","_law_box","_law_some","_law_things","_law_thing"]:List Str);decide +kernel) rfl (Or.inl rfl)
 case N1m=>exact cZ
 case N1n=>exact ao Cb hr (pa (pv 0) (pa (pv 2) ae))
 case' N13=>refine' ah ?N1o
 case' N1o=>refine' bB ?N1p
 case N1p=>exact jK PySem.F.plainAttrs_list PySem.F.slot_list_append PySem.F.type_list_append cL (pv 3) (pa (pv 4) ae)
 case' Nr=>refine' ah ?N1q
 case N1q=>exact ar (bw (bV) rfl T.tuple boot_tuple (pa (pv 3) ae))
 refine ⟨_,rfl,.ref a,.mk x p fr ks ps,rfl,rv,wt,ot,fun r us H1 o1 hr0 hr1 rus=>?_⟩
 have rus':RKs K H1 (Tn.ds (Tk.tns ps)) us:=rus
 have lus:us.length=ps.length:=by
  have:=rus'.length
  rw [bq,aF] at this
  exact this.symm
 have ha1:=ha.mono o1.tm
 have hb1:=o1 _ _ hbx
 have nrb:r≠bx:=fun z=>by rw [z,hbx] at hr0;cases hr0
 have q':∀ (t':Tk) (v':V) (H':Hp) (n':Int),Gr (M1 bx) H H'→H' bx=some (.lst [.int n',.str nm])→Mk K H' v' t' (1+Tk.cnts ps) (1+Tn.deps (Tk.tns ps))→Q v' H':=q
 dsimp only [aX]
 refine bg ((us.length:Int)=0) (fun R hR=>⟨_,rfl,.inl ⟨r,_,rfl,.inl (SqL.of hr1),.inr (.inl ⟨rfl,_,rfl,by rw [cg];exact hR⟩)⟩⟩) (fun cc=>?_) (fun cc=>?_)
 ·have g1:Gr (M1 bx) H (upd H1 bx (.lst [.int (n - 1),.str nm])):=(o1.gr.wide fun _ z=>False.elim z).trans (Gr.put rfl)
  have tm1:Tm H (upd H1 bx (.lst [.int (n - 1),.str nm])):=g1.tm1 hbx
  have hb2:upd H1 bx (.lst [.int (n - 1),.str nm]) bx=some (.lst [.int (n - 1),.str nm]):=ad
  refine ⟨_,rfl,.inl ⟨bx,_,0,.int n,rfl,rfl,SqL.of hb1,at0,_,_,rfl,rfl,_,rfl,bx,_,0,0,rfl,rfl,hb1,kC (n:=2) (j:=0) (by decide),?_⟩⟩
  have e0:upd H1 bx (.lst ([V.int n,.str nm].set 0 (.int (n - 1))))=upd H1 bx (.lst [.int (n - 1),.str nm]):=rfl
  show _
  dsimp only
  generalize upd H1 bx (.lst [.int (n - 1),.str nm])=H2 at g1 tm1 hb2 e0
  rw [e0]
  refine bg (n - 1=0) (fun R hR=>⟨_,rfl,.inl ⟨bx,_,0,.int (n - 1),rfl,rfl,SqL.of hb2,at0,.inr (.inl ⟨rfl,_,rfl,by rw [cg];exact hR⟩)⟩⟩) (fun _=>?_) (fun _=>?_)
  ·refine ⟨_,rfl,.inr (.inl ⟨a,_,1,.int p,rfl,rfl,(ha.mono tm1).sq,at1,_,rfl,.inl ⟨bx,_,1,.str nm,rfl,rfl,SqL.of hb2,aH (j:=1) rfl,sz 3,fun z hz=>?_⟩⟩)⟩
   have o3:=Old.new (o:=.tup [.str "name",.int p,.str nm]) hz
   exact q' _ _ _ _ (g1.trans (o3.gr.wide fun _ z=>False.elim z)) (o3 _ _ hb2) ((cw (by nofun) p0 p1 rfl (fun _=>⟨nm,rfl⟩) (RK.tup (.of ad) (.cons (.s _) (.cons (.i _) (.cons (.s _) .nil))))).up (by omega) (by omega))
  ·exact ⟨_,rfl,q' _ _ _ _ g1 hb2 ⟨rv.mono tm1,wt,ot,dt,Nat.le_refl _,Nat.le_refl _⟩⟩
 have pl:ps.length≠0:=fun z=>cc (by rw [lus,z];rfl)
 obtain ⟨nf5,nk5⟩:=xl x hx
 have luf:uf.length≤5:=by have:=rf.length;omega
 have lum:um.length≤5:=by
  have:=rm.length
  rw [aZ] at this
  rw [aZ] at lm
  omega
 refine ⟨sz 0,fun th hth=>?_⟩
 have nth_b:th≠bx:=fun z=>by rw [z,hb1] at hth;cases hth
 have nth_r:th≠r:=fun z=>by rw [z,hr1] at hth;cases hth
 have hth0:H th=none:=o1.free hth
 have o2:=Old.new (o:=.lst []) hth
 have rpre:RKs K H (.str x :: .int p :: (fr ++ Kn.ds ks)) (.str x :: .int p :: (uf ++ um)):=.cons (.s _) (.cons (.i _) (rf.append rm))
 have eW:(V.str x :: .int p :: (uf ++ um ++ up))=(V.str x :: .int p :: (uf ++ um)) ++ up:=rfl
 have lpre:(V.str x :: .int p :: (uf ++ um)).length≤12:=by
  rw [List.length_cons,List.length_cons,List.length_append]
  omega
 obtain ⟨pre,epre⟩:∃ pre,pre=V.str x :: .int p :: (uf ++ um):=⟨_,rfl⟩
 rw [← epre] at rpre eW lpre
 have lps:ps.length≤1000:=by omega
 have dq55:dqs (Tn.ds (Tk.tns ps))≤55:=by
  have a1:=km oks
  have a2:1+Tn.deps (Tk.tns ps)≤20:=h20
  omega
 have dep_j:∀ (j:Nat) (hj:j<ps.length),ps[j].tn.wf∧ps[j].ok∧ps[j].dos∧ps[j].tn.dep≤Tn.deps (Tk.tns ps):=by
  clear rus rus' lus rp q q' wt ot dt hd h20 lp l5 eW pl dq55 lps rv rv' cc
  induction ps with
  | nil=>intro j hj;exact absurd hj (Nat.not_lt_zero _)
  | cons t r ih=>
    have e:Tn.deps (Tk.tns (t :: r))=max t.tn.dep (Tn.deps (Tk.tns r)):=rfl
    intro j hj
    cases j with
    | zero=>exact ⟨wps.1,oks.1,dps.1,by show t.tn.dep≤_;omega⟩
    | succ j=>
      obtain ⟨a1,a2,a3,a4⟩:=ih wps.2 oks.2 dps.2 j (Nat.lt_of_succ_lt_succ hj)
      exact ⟨a1,a2,a3,Nat.le_trans a4 (by omega)⟩
 have hdm:Tn.deps (Tk.tns ps)≤m:=by
  have:1+Tn.deps (Tk.tns ps)≤m+1:=hd
  omega
 have h19:Tn.deps (Tk.tns ps)≤20:=by
  have:1+Tn.deps (Tk.tns ps)≤20:=h20
  omega
 dsimp only [aX]
 refine ⟨_,rfl,a,rfl,.inr ⟨⟨_,(ha1.mono o2.tm).sq⟩,?_⟩⟩
 refine eP (n:=(V.str x :: .int p :: (uf ++ um ++ up)).length) (fun i σ H6=>∃ (kt:Option V) (ts:List Tk) (Y:List V) (n6:Int),σ = [some (.ref a),some (.ref bx),some (.ref r),some (.ref th),kt]∧Gr (M1 bx) H H6∧Tm H1 H6∧H6 bx=some (.lst [.int n6,.str nm])∧H6 r=some (.lst us)∧H6 th=some (.lst (pre.take i ++ Y))∧(x≠"row"→Bd (ps.take (i - pre.length)) ts∧RKs K H6 (Tn.ds (Tk.tns ts)) Y)∧(x = "row"→(i≤pre.length→Y = [])∧(pre.length<i→Bd ps ts∧RKs K H6 [.tup (Tn.ds (Tk.tns ts))] Y))) ⟨none,[],[],n,rfl,(o1.trans o2).gr.wide fun _ z=>False.elim z,o2.tm,o2 _ _ hb1,o2 _ _ hr1,ad,fun _=>⟨by rw [Nat.zero_sub];exact trivial,.nil⟩,fun _=>⟨fun _=>rfl,fun z=>absurd z (Nat.not_lt_zero _)⟩⟩ ?_ ?_ ?_ ?_
 ·intro i σ H6 hi hv
  obtain ⟨kt,ts,Y,n6,rfl,g6,tm6,_⟩:=hv
  exact ⟨_,_,(ha1.mono tm6).sq,List.getElem?_eq_getElem hi⟩
 ·intro σ H6 hv
  obtain ⟨kt,ts,Y,n6,rfl,g6,tm6,_⟩:=hv
  exact ⟨_,(ha1.mono tm6).sq,Nat.le_refl _⟩
 ·intro i σ H6 hi hv y H7 hy
  obtain ⟨kt,ts,Y,n6,rfl,g6,tm6,hb6,hr6,hth6,f1,f2⟩:=hv
  obtain ⟨rfl,hyx⟩:=hy
  have eu:=hyx _ (ha1.mono tm6).sq
  rw [eW] at eu hi
  rw [List.length_append] at hi
  have tm06:Tm H H7:=g6.tm1 hbx
  have rus6:=rus'.mono tm6
  have lY:(pre.take i ++ Y).length≤12+Y.length:=by
   rw [List.length_append,List.length_take]
   omega
  by_cases c1:i<pre.length
  ·rw [List.getElem?_append_left c1] at eu
   have Yn:Y = []:=by
    by_cases c2:x = "row"
    ·exact (f2 c2).1 (by omega)
    ·have z:=(f1 c2)
     rw [show i - pre.length=0 by omega] at z
     have b:=z.1
     cases ts with
     | nil=>exact (show Y = [] from z.2)
     | cons _ _=>exact b.elim
   subst Yn
   obtain ⟨d,ed,rd⟩:=rpre.getV eu
   have cls:d.isT=false∨∃ k:Kn,d=k.d:=by
    have hm:=List.mem_of_getElem? ed
    rcases List.mem_cons.mp hm with rfl | hm
    ·exact .inl rfl
    rcases List.mem_cons.mp hm with rfl | hm
    ·exact .inl rfl
    rcases List.mem_append.mp hm with hm | hm
    ·have:=flt d hm
     cases d <;> first | exact .inl rfl | cases this
    ·exact .inr (rg hm)
   have no:∀ (x:Str) (p:Int) (r:List Dk),(Dk.tup (.str x :: .int p :: r)).eqb d=false:=by
    rcases cls with c | ⟨k,rfl⟩
    ·exact pd c
    ·exact uJ k
   have rd6:=rd.mono tm06
   have put:(fun i σ H6=>∃ (kt:Option V) (ts:List Tk) (Y:List V) (n6:Int),σ = [some (.ref a),some (.ref bx),some (.ref r),some (.ref th),kt]∧Gr (M1 bx) H H6∧Tm H1 H6∧H6 bx=some (.lst [.int n6,.str nm])∧H6 r=some (.lst us)∧H6 th=some (.lst (pre.take i ++ Y))∧(x≠"row"→Bd (ps.take (i - pre.length)) ts∧RKs K H6 (Tn.ds (Tk.tns ts)) Y)∧(x = "row"→(i≤pre.length→Y = [])∧(pre.length<i→Bd ps ts∧RKs K H6 [.tup (Tn.ds (Tk.tns ts))] Y))) (i+1) [some (.ref a),some (.ref bx),some (.ref r),some (.ref th),some y] (upd H7 th (.lst ((pre.take i ++ []) ++ [y]))):=by
    refine ⟨_,[],[],n6,rfl,fun b o e n=>by rw [aj (al e hth0)];exact g6 b o e n,fun x y e=>(Gr.put (M:=M1 th) rfl).tm1 hth6 x y (tm6 x y e),by rw [aj nth_b.symm];exact hb6,by rw [aj nth_r.symm];exact hr6,?_,fun _=>⟨by rw [show i+1 - pre.length=0 by omega];exact trivial,.nil⟩,fun _=>⟨fun _=>rfl,fun z=>absurd z (by omega)⟩⟩
    rw [ad,List.append_nil,List.append_nil,List.take_add_one,eu]
    rfl
   dsimp only [aX]
   refine bK False (fun R hR=>⟨_,rfl,_,rfl,.inl ⟨r,us,d,_,rfl,SqL.of hr6,rus6,rd6,dq55,_,rfl,by rw [j7 no ps];exact hR⟩⟩) (fun z=>z.elim) (fun _=>?_)
   have pF:(pre.take i ++ []).length<sizeLine:=bA (Nat.le_trans lY (by show 12+0≤1000000;decide))
   rcases cls with c | ⟨⟨hh,kk⟩,rfl⟩
   ·refine bK (False∧True) (fun R hR=>b8 False True hR (fun R hR=>⟨_,rfl,y,"tuple",_,rfl,jA rd6,_,rfl,by rw [c];exact hR⟩) (fun z=>z.elim)) (fun z=>z.1.elim) (fun _=>?_)
    exact ⟨_,rfl,.inl ⟨rfl,_,SqL.of hth6⟩,_,rfl,th,_,y,rfl,rfl,hth6,pF,put⟩
   ·obtain ⟨ya,yus,rfl,hya,rys⟩:=RK.kind (show RK K H7 (.tup (.str hh :: Kn.ds kk)) y from rd6)
    refine bK (True∧(True∧False)) (fun R hR=>b8 True (True∧False) hR (fun R hR=>⟨_,rfl,_,"tuple",_,rfl,jA rd6,_,rfl,hR⟩) (fun _ R hR=>b8 True False hR (fun R hR=>⟨_,rfl,.inl ⟨ya,_,rfl,.inr hya.sq,_,_,rfl,rfl,_,rfl,by rw [decide_eq_true (show (0:Int)<((V.str hh :: yus).length:Int) by rw [List.length_cons];omega)];exact hR⟩⟩) (fun _ R hR=>⟨_,rfl,.inr (.inl ⟨ya,_,0,.str hh,rfl,rfl,hya.sq,at0,_,rfl,.inl ⟨r,us,.str hh,_,rfl,SqL.of hr6,rus6,.s _,dq55,_,rfl,by rw [j7 (pd rfl) ps];exact hR⟩⟩)⟩))) (fun z=>z.2.2.elim) (fun _=>?_)
    exact ⟨_,rfl,.inl ⟨rfl,_,SqL.of hth6⟩,_,rfl,th,_,_,rfl,rfl,hth6,pF,put⟩
  ·have c1':pre.length≤i:=by omega
   rw [List.getElem?_append_right c1'] at eu
   dsimp only [aX]
   by_cases c2:x = "row"
   ·rw [if_pos c2] at rp
    obtain ⟨yt,yr,rfl,ryt,e⟩:=rp
    have e':yr = []:=e
    subst e'
    have hi':i=pre.length:=by rw [List.length_singleton] at hi;omega
    obtain rfl:yt=y:=by
     rw [show i - pre.length=0 by omega] at eu
     exact Option.some.inj eu
    have Yn:Y = []:=(f2 c2).1 (by omega)
    subst Yn
    have ryt7:=ryt.mono tm06
    obtain ⟨ya,yus,rfl,hya,rys⟩:=RK.get ryt7
    have lys:yus.length=ps.length:=by
     have:=rys.length
     rw [bq,aF] at this
     exact this.symm
    obtain ⟨y0,ey0,ry0⟩:=rys.get (i:=0) (iX (by omega:0<ps.length))
    refine bK False (fun R hR=>⟨_,rfl,_,rfl,.inl ⟨r,us,_,_,rfl,SqL.of hr6,rus6,ryt7,dq55,_,rfl,by rw [j7 (xm ps) ps];exact hR⟩⟩) (fun z=>z.elim) (fun _=>?_)
    refine bK (True∧(True∧True)) (fun R hR=>b8 True (True∧True) hR (fun R hR=>⟨_,rfl,_,"tuple",_,rfl,jA ryt7,_,rfl,hR⟩) (fun _ R hR=>b8 True True hR (fun R hR=>⟨_,rfl,.inl ⟨ya,_,rfl,.inr hya.sq,_,_,rfl,rfl,_,rfl,by rw [decide_eq_true (show (0:Int)<(yus.length:Int) by omega)];exact hR⟩⟩) (fun _ R hR=>⟨_,rfl,.inr (.inl ⟨ya,_,0,y0,rfl,rfl,hya.sq,aH (j:=0) ey0,_,rfl,.inl ⟨r,us,_,_,rfl,SqL.of hr6,rus6,ry0,dq55,_,rfl,by rw [ou (by omega:0<ps.length)];exact hR⟩⟩)⟩))) (fun _=>?_) (fun z=>(z ⟨trivial,trivial,trivial⟩).elim)
    refine ⟨_,rfl,.inl ⟨rfl,_,SqL.of hth6⟩,_,rfl,ya,rfl,.inr ⟨⟨_,hya.sq⟩,fun D9 hD9=>?_⟩⟩
    have nDb:D9≠bx:=fun z=>by rw [z,hb6] at hD9;cases hD9
    have nDr:D9≠r:=fun z=>by rw [z,hr6] at hD9;cases hD9
    have nDt:D9≠th:=fun z=>by rw [z,hth6] at hD9;cases hD9
    have hD0:H D9=none:=g6.free hD9 nDb
    have oD:=Old.new (o:=.lst []) hD9
    refine d7 (n:=yus.length) (fun j σ H8=>∃ (k1:Option V) (ts:List Tk) (tv:List V) (n8:Int),σ = [k1,some (.ref a),some (.ref bx),some (.ref r),some (.ref th),some (.ref ya)]∧Gr (M1 bx) H H8∧Tm H7 H8∧H8 bx=some (.lst [.int n8,.str nm])∧H8 r=some (.lst us)∧H8 th=some (.lst (pre.take i ++ []))∧H8 D9=some (.lst tv)∧Bd (ps.take j) ts∧RKs K H8 (Tn.ds (Tk.tns ts)) tv) ⟨none,[],[],n6,rfl,g6.trans (oD.gr.wide fun _ z=>False.elim z),oD.tm,oD _ _ hb6,oD _ _ hr6,oD _ _ hth6,ad,trivial,.nil⟩ ?_ ?_ ?_ ?_
    ·intro j σ H8 hj hv
     obtain ⟨k1,ts',tv,n8,rfl,g8,tm8,_⟩:=hv
     exact ⟨_,_,(hya.mono tm8).sq,List.getElem?_eq_getElem hj⟩
    ·intro σ H8 hv
     obtain ⟨k1,ts',tv,n8,rfl,g8,tm8,_⟩:=hv
     exact ⟨_,(hya.mono tm8).sq,Nat.le_refl _⟩
    ·intro j σ H8 hj hv z H9 hz
     obtain ⟨k1,ts',tv,n8,rfl,g8,tm8,hb8,hr8,hth8,hD8,bd,rtv⟩:=hv
     obtain ⟨rfl,hzx⟩:=hz
     have ez:=hzx _ (hya.mono tm8).sq
     obtain ⟨dz,edz,rdz⟩:=(rys.mono tm8).getV ez
     have hjp:j<ps.length:=by omega
     have edz':dz=ps[j].tn.d:=Option.some.inj (edz.symm.trans (iX hjp))
     subst edz'
     obtain ⟨a1,a2,a3,a4⟩:=dep_j j hjp
     refine ⟨_,rfl,_,rfl,z,bx,ps[j],n8,nm,rfl,rdz,a1,a2,a3,by omega,by omega,hb8,fun t' v' Ha na ga hba Ma=>?_⟩
     have hDa:=ga _ _ hD8 nDb
     have tmA:Tm H9 Ha:=ga.tm1 hb8
     have tmB:Tm Ha (upd Ha D9 (.lst (tv ++ [v']))):=(Gr.put (M:=M1 D9) rfl).tm1 hDa
     have ltv:tv.length≤1000:=by
      have e1:=rtv.length
      rw [bq,aF,(ke bd).1,List.length_take] at e1
      omega
     refine ⟨_,hDa,bA (by omega),nx hj ⟨_,ts' ++ [t'],tv ++ [v'],na,rfl,fun b o e n=>by rw [aj (al e hD0)];exact (g8.trans ga) b o e n,fun x y e=>tmB x y (tmA x y (tm8 x y e)),by rw [aj nDb.symm];exact hba,by rw [aj nDr.symm];exact ga _ _ hr8 nrb,by rw [aj nDt.symm];exact ga _ _ hth8 nth_b,ad,?_,?_⟩⟩
     ·rw [List.take_add_one,List.getElem?_eq_getElem hjp]
      exact mG bd Ma.mp
     ·rw [fD]
      exact ((rtv.mono tmA).mono tmB).append (.cons (Ma.r.mono tmB) .nil)
    ·intro σ H8 hv
     obtain ⟨k1,ts',tv,n8,rfl,g8,tm8,hb8,hr8,hth8,hD8,bd,rtv⟩:=hv
     refine ⟨D9,tv,rfl,.inl ⟨SqL.of hD8,fun na hna=>?_⟩⟩
     have o9:=Old.new (o:=.tup tv) hna
     have nna:na≠th:=fun z=>by rw [z,hth8] at hna;cases hna
     rw [lys,List.take_length] at bd
     have tmC:=(Gr.put (M:=M1 th) (H:=upd H8 na (.tup tv)) (o:=.lst ((pre.take i ++ []) ++ [.ref na])) rfl).tm1 (o9 _ _ hth8)
     refine ⟨th,_,.ref na,rfl,rfl,o9 _ _ hth8,bA (Nat.le_trans lY (by show 12+0≤1000000;decide)),_,ts',[.ref na],n8,rfl,fun b o e n=>by rw [aj (al e hth0)];exact o9 _ _ (g8 b o e n),fun x y e=>tmC x y (o9.tm x y (tm8 x y (tm6 x y e))),by rw [aj nth_b.symm];exact o9 _ _ hb8,by rw [aj nth_r.symm];exact o9 _ _ hr8,?_,fun z=>absurd c2 z,fun _=>⟨fun z=>absurd z (by omega),fun _=>⟨bd,?_⟩⟩⟩
     ·rw [ad,List.append_nil,List.take_of_length_le (by omega),List.take_of_length_le (by omega)]
     ·exact .cons (RK.tup (.of (by rw [aj nna,ad])) ((rtv.mono o9.tm).mono tmC)) .nil
   ·rw [if_neg c2] at rp
    obtain ⟨d,ed,rd⟩:=rp.getV eu
    have hjp:i - pre.length<ps.length:=by
     have e1:=rp.length
     rw [bq,aF] at e1
     omega
    have ed':d=ps[i - pre.length].tn.d:=Option.some.inj (ed.symm.trans (iX hjp))
    subst ed'
    obtain ⟨a1,a2,a3,a4⟩:=dep_j _ hjp
    have rd6:=rd.mono tm06
    obtain ⟨bd,rY⟩:=f1 c2
    have lYn:Y.length≤1000:=by
     have e1:=rY.length
     rw [bq,aF,(ke bd).1,List.length_take] at e1
     omega
    refine bK True (fun R hR=>⟨_,rfl,_,rfl,.inl ⟨r,us,_,_,rfl,SqL.of hr6,rus6,rd6,dq55,_,rfl,by rw [ou hjp];exact hR⟩⟩) (fun _=>?_) (fun z=>(z trivial).elim)
    refine ⟨_,rfl,.inl ⟨rfl,_,SqL.of hth6⟩,_,rfl,_,rfl,y,bx,ps[i - pre.length],n6,nm,rfl,rd6,a1,a2,a3,by omega,by omega,hb6,fun t' v' Ha na ga hba Ma=>?_⟩
    have htA:=ga _ _ hth6 nth_b
    have tmA:Tm H7 Ha:=ga.tm1 hb6
    have tmB:Tm Ha (upd Ha th (.lst ((pre.take i ++ Y) ++ [v']))):=(Gr.put (M:=M1 th) rfl).tm1 htA
    refine ⟨th,_,v',rfl,rfl,htA,?_,_,ts ++ [t'],Y ++ [v'],na,rfl,fun b o e n=>by rw [aj (al e hth0)];exact (g6.trans ga) b o e n,fun x y e=>tmB x y (tmA x y (tm6 x y e)),by rw [aj nth_b.symm];exact hba,by rw [aj nth_r.symm];exact ga _ _ hr6 nrb,?_,fun _=>⟨?_,?_⟩,fun z=>absurd z c2⟩
    ·refine Nat.lt_of_le_of_lt lY ?_
     exact Nat.lt_of_le_of_lt (Nat.add_le_add_left lYn 12) (by decide)
    ·rw [ad,List.take_of_length_le (by omega),List.take_of_length_le (by omega),List.append_assoc]
    ·rw [show i+1 - pre.length=(i - pre.length)+1 by omega,List.take_add_one,List.getElem?_eq_getElem hjp]
     exact mG bd Ma.mp
    ·rw [fD]
     exact ((rY.mono tmA).mono tmB).append (.cons (Ma.r.mono tmB) .nil)
 ·intro σ H6 hv
  obtain ⟨kt,ts,Y,n6,rfl,g6,tm6,hb6,hr6,hth6,f1,f2⟩:=hv
  have lW:(V.str x :: .int p :: (uf ++ um ++ up)).length=pre.length+up.length:=by rw [eW,List.length_append]
  rw [lW,List.take_of_length_le (by omega)] at hth6
  refine ⟨_,rfl,th,_,rfl,.inl ⟨SqL.of hth6,fun na hna=>?_⟩⟩
  have o9:=Old.new (o:=.tup (pre ++ Y)) hna
  have tm06:Tm H H6:=g6.tm1 hbx
  have bdr:Bd ps ts∧RKs K H6 (if x = "row" then [.tup (Tn.ds (Tk.tns ts))] else Tn.ds (Tk.tns ts)) Y:=by
   by_cases c2:x = "row"
   ·rw [if_pos c2]
    rw [if_pos c2] at rp
    have e1:=rp.length
    exact (f2 c2).2 (by rw [lW,← e1];show pre.length<pre.length+1;omega)
   ·rw [if_neg c2]
    rw [if_neg c2] at rp
    have e1:=rp.length
    rw [bq,aF] at e1
    have z:=f1 c2
    rw [lW,show pre.length+up.length - pre.length=ps.length by omega,List.take_length] at z
    exact z
  obtain ⟨bd,rY⟩:=bdr
  obtain ⟨b1,b2,b3,b4,b5,b6⟩:=ke bd
  refine q' (.mk x p fr ks ts) _ _ n6 (g6.trans (o9.gr.wide fun _ z=>False.elim z)) (o9 _ _ hb6) ⟨?_,⟨⟨hx,lf,lm,fun z=>by rw [aF,b1];exact lp z,by rw [aF,b1];exact l5,hn,p0,p1⟩,b2⟩,⟨⟨wks,dks,flt,nlk⟩,b3⟩,⟨hdo,b4⟩,?_,?_⟩
  ·have z:=((rpre.mono tm06).append rY).mono o9.tm
   exact RK.tup (.of ad) z
  ·show 1+Tk.cnts ts≤1+Tk.cnts ps
   omega
  ·show 1+Tn.deps (Tk.tns ts)≤1+Tn.deps (Tk.tns ps)
   omega
def Kin (kvs:List (Key×V)) (bs:List Str):Prop:=∀ x:Str,(cG kvs (.inr x)).isSome=decide (x∈bs)
theorem Kin.put {kvs:List (Key×V)} {bs:List Str} (h:Kin kvs bs) (x:Str) (v:V):Kin (putK kvs (.inr x) v) (bs ++ [x]):=fun y=>by
 rw [iZ]
 by_cases c:y=x
 ·subst c
  rw [if_pos rfl]
  exact (decide_eq_true (List.mem_append_right _ (.head _))).symm
 ·rw [if_neg (fun z=>c (Sum.inr.inj z)),h y]
  refine decide_eq_decide.mpr ⟨fun z=>List.mem_append_left _ z,fun z=>?_⟩
  rcases List.mem_append.mp z with z | z
  ·exact z
  ·exact absurd (List.mem_singleton.mp z) c
def frD:List (Int×Str)→Dk
 | []=>.non
 | (p,n) :: _=>.tup [.int p,.str n]
theorem rL:K11.nf "name" = 1∧K11.nf "fn" = 1∧K11.nf "self" = 2∧K11.nf "let" = 1∧K11.np "name" = 0∧K11.np "let" = 2:=by nofun
abbrev sFr:Stmt:=top 58
def qD (K:W.Frag) (m:Nat):Sp:=fun vs H Q _=>∃ (v:V) (b:Addr) (t:Tk) (kvs:List (Key×V)) (bs:List Str),vs = [v,.ref b]∧RK K H t.tn.d v∧t.tn.wf∧t.ok∧t.tn.dep≤m∧H b=some (.dK kvs)∧Kin kvs bs∧kvs.length+3 * t.tn.dep≤900∧∀ v' H',Old H H'→RK K H' (frD (t.tn.frees bs)) v'→Q v' H'
theorem zO:aA ["_law_node_here","_law_names","_law_more_here","_law_some","_law_k","_law_place_here"] ["_law_node_here","_law_names"] (au sFr):=⟨rfl,rfl,rfl,by nofun,rfl,by nofun,by nofun⟩
theorem y7 {m:Nat} (F:Fun K "_law_free" "_law_free" sFr f fd) (T:Tx mg) (A1:Cal P w K mg base "_law_parts" ["_law_node_here"] 1 (vG K)) (Gf:Cal P w K mg base "_law_free" ["_law_node_here","_law_names"] (m+1) (qD K m)):aY P w K mg base CX0 (m+2) f fd ["_law_node_here","_law_names"] (qD K (m+1)):=by
 refine F.ok zO (fun vs H Q E h=>?_) (fun cdv A outer s H vs Q E hr h=>?_)
 ·obtain ⟨v,b,t,kvs,bs,rfl,_⟩:=h
  rfl
 obtain ⟨v,b,t,kvs,bs,rfl,rv,wt,ot,hd,hb,kin,few,q⟩:=h
 have nd:=zO.nd
 obtain ⟨x,p,fr,ks,ps⟩:=t
 have rv':RK K H (Tn.mk x p fr (Kn.ds ks) (Tk.tns ps)).d v:=rv
 obtain ⟨⟨hx,lf,lm,lp,l5,hn,p0,p1⟩,wps⟩:=(show (Tn.mk x p fr (Kn.ds ks) (Tk.tns ps)).wf from wt)
 obtain ⟨⟨wks,dks,flt,nlk⟩,oks⟩:=id ot
 rw [aF] at lp l5
 obtain ⟨a,uf,um,up,rfl,ha,rf,rm,rp⟩:=RK.node rv'
 obtain ⟨e1,e2,e3,e4,e5,e6⟩:=rL
 have q':∀ v' H',Old H H'→RK K H' (frD ((if x = "name"∧(txs fr).headD "" ∉ bs then [(p,(txs fr).headD "")] else []) ++ Tn.freess x (txs fr) 0 (Tk.tns ps) bs)) v'→Q v' H':=q
 refine' ⟨_,?n0,?Z⟩
 case' n0=>refine' ag (aC ?N3 ?N4 aw) ?N2
 case' N3=>refine' ak (ax hr) ?N5 ai (aq _)
 case N5=>exact pxK K (pv 0) ac (fun _ _=>rfl)
 case' N4=>refine' ag (aC ?N8 ?N9 aw) ?N7
 case' N8=>refine' kO ?Na
 case' Na=>refine' xJ hr.u1 ?Nb (pv 1)
 case Nb=>exact pxK K (pv 0) ac (fun _ _=>rfl)
 case' N9=>refine' ah ?Nc
 case Nc=>exact ar dj
 case' N7=>refine' ah (ar ?Ne)
 case' Ne=>refine' ap ?Nf
 case' Nf=>refine' pa ?Ng ?Nh
 case Ng=>exact pxK K (pv 0) ac (fun _ _=>rfl)
 case' Nh=>refine' pa ?Ni ae
 case Ni=>exact pxK K (pv 0) ac (fun _ _=>rfl)
 case' N2=>refine' ag ?Nj ?Nk
 case Nj=>exact psX 2 nd (bw (fO) rfl T.dict boot_dict (pa (pv 1) ae))
 case' Nk=>refine' ag (aC ?Nn ?No aw) ?Nm
 case' Nn=>refine' PW.pt ?Np
 case' Np=>refine' eB ?Nq ?Nr
 case' Nq=>refine' ak (ax hr) ?Ns ai (aq _)
 case Ns=>exact pxK K (pv 0) ac (fun _ _=>rfl)
 case' Nr=>refine' dR ?Nt
 case' Nt=>refine' ak (ax hr) ?Nu ai (aq _)
 case Nu=>exact pxK K (pv 0) ac (fun _ _=>rfl)
 case' No=>refine' ah ?Nv
 case' Nv=>refine' cy hr.u1 (pv 2) ?Nw fj rfl
 case Nw=>exact pxK K (pv 0) ac (fun _ _=>rfl)
 case' Nm=>refine' ag (aC ?Nz ?N10 aw) ?Ny
 case' Nz=>refine' ak (ax hr) ?N11 ai (aq _)
 case N11=>exact pxK K (pv 0) ac (fun _ _=>rfl)
 case' N10=>refine' ah ?N12
 case' N12=>refine' cy hr.u1 (pv 2) ?N13 fj rfl
 case N13=>exact pxK K (pv 0) ac (fun _ _=>rfl)
 case' Ny=>refine' ag ?N14 ?N15
 case N14=>exact psX 3 nd (ao A1 hr (pa (pv 0) ae))
 case' N15=>refine' ag ?N16 ?N17
 case' N16=>refine' cQ PassesOwn.never rfl ?N18 ?N19 ?N1a
 case N18=>exact bN rfl T.range (pa (aM (bh) rfl T.len boot_len (pa (pv 3) ae)) ae)
 case N19=>exact aV (i:=4) nd rfl (Or.inl rfl)
 case' N1a=>refine' ag (aC ?N1d ?N1e aw) ?N1c
 case' N1d=>refine' PW.pt ?N1f
 case' N1f=>refine' bE ?N1g ?N1h
 case' N1g=>refine' ak (ax hr) ?N1i ai (aq _)
 case N1i=>exact pxK K (pv 0) ac (fun _ _=>rfl)
 case N1h=>exact bC (ak (ax hr) (pv 4) ac (aq _))
 case' N1e=>refine' ah ?N1j
 case' N1j=>refine' cy hr.u1 (pv 2) ?N1k fj rfl
 case N1k=>exact pxK K (pv 0) ac (fun _ _=>rfl)
 case' N1c=>refine' ag ?N1l ?N1m
 case' N1l=>refine' psX 5 nd ?N1n
 case' N1n=>refine' ao Gf hr ?N1o
 case' N1o=>refine' pa ?N1p (pa (pv 2) ae)
 case N1p=>exact pxK K (pv 3) (pv 4) (fun _ _=>rfl)
 case' N1m=>refine' ah ?N1q
 case' N1q=>refine' aC (ak gS (pv 5) dj (aq _)) ?N1r aw
 case' N1r=>refine' ah ?N1s
 case N1s=>exact ar (pv 5)
 case' N17=>refine' ah ?N1t
 case N1t=>exact ar dj
 have w0:∀ (Hx:Hp),Tm H Hx→SqT K Hx a (.str x :: .int p :: (uf ++ um ++ up)):=fun Hx t=>(ha.mono t).sq
 refine bg (x = "name") (fun R hR=>⟨_,rfl,.inr (.inl ⟨a,_,0,.str x,rfl,rfl,ha.sq,at0,.inr (.inl ⟨rfl,_,rfl,by rw [ba];exact hR⟩)⟩)⟩) (fun cn=>?_) (fun cn=>?_)
 ·subst cn
  obtain ⟨ns,rfl⟩:=hn (by nofun)
  rw [List.length_map,e1] at lf
  obtain ⟨nm,rfl⟩:=List.length_eq_one_iff.mp lf
  have lp0:=lp (by nofun)
  rw [e5] at lp0
  obtain rfl:=List.length_eq_zero_iff.mp lp0
  obtain ⟨u1,r1,rfl,ru1,er⟩:=rf
  have er':r1 = []:=er
  subst er'
  cases RK.str ru1
  have efr:∀ b:Bool,(decide (nm∈bs))=b→frD ((if ("name":Str) = "name"∧(txs (List.map Dk.str [nm])).headD "" ∉ bs then [(p,(txs (List.map Dk.str [nm])).headD "")] else []) ++ Tn.freess "name" (txs (List.map Dk.str [nm])) 0 (Tk.tns []) bs)=if b then .non else .tup [.int p,.str nm]:=fun b hb=>by
   have e:(txs (List.map Dk.str [nm])).headD "" = nm:=rfl
   rw [e]
   cases b with
   | true=>rw [if_neg (fun z=>z.2 (of_decide_eq_true hb))];rfl
   | false=>rw [if_pos ⟨rfl,of_decide_eq_false hb⟩];rfl
  have h2:atI (V.str "name" :: .int p :: ([V.str nm] ++ um ++ up)) 2=some (.str nm):=aH (j:=2) rfl
  refine bg (nm∈bs) (fun R hR=>⟨_,rfl,.inr (.inl ⟨a,_,2,.str nm,rfl,rfl,ha.sq,h2,_,rfl,b,_,rfl,i9.k (k:=.inr nm) hb,_,rfl,by rw [kin nm];exact hR⟩)⟩) (fun ci=>?_) (fun ci=>?_)
  ·have z:=q' .non H (Old.refl _)
   rw [efr true (decide_eq_true ci)] at z
   exact z .n
  ·refine ⟨_,rfl,.inr (.inl ⟨a,_,1,.int p,rfl,rfl,ha.sq,at1,_,rfl,.inr (.inl ⟨a,_,2,.str nm,rfl,rfl,ha.sq,h2,sz 2,fun z hz=>?_⟩)⟩)⟩
   have z':=q' (.ref z) _ (Old.new (o:=.tup [.int p,.str nm]) hz)
   rw [efr false (decide_eq_false ci)] at z'
   exact z' (RK.tup (.of ad) (.cons (.i _) (.cons (.s _) .nil)))
 have q2:∀ v' H',Old H H'→RK K H' (frD (Tn.freess x (txs fr) 0 (Tk.tns ps) bs)) v'→Q v' H':=by
  rw [if_neg (fun z=>cn z.1)] at q'
  exact q'
 clear q q'
 refine ⟨_,rfl,b,kvs,rfl,hb,fun r hr0=>?_⟩
 have o1:=Old.new (o:=.dK kvs) hr0
 have hr1:upd H r (.dK kvs) r=some (.dK kvs):=ad
 have fs:x = "fn"∨x = "self"∨x = "let"→∃ ns:List Str,fr=ns.map Dk.str∧ns.length=K11.nf x∧uf=ns.map V.str:=fun c=>by
  obtain ⟨ns,e⟩:=hn (by rcases c with c | c | c <;> subst c <;> decide +kernel)
  subst e
  exact ⟨ns,rfl,by rw [List.length_map] at lf;exact lf,RKs.txs rf⟩
 have few':kvs.length+3 * (1+Tn.deps (Tk.tns ps))≤900:=few
 have put:∀ {Hx:Hp} {kv1:List (Key×V)} {y:V},Old H Hx→Old H (upd Hx r (.dK kv1)):=fun o b' x' e=>by rw [aj (al e hr0)];exact o b' x' e
 generalize upd H r (.dK kvs)=H1 at o1 hr1 ⊢
 dsimp only [aX]
 refine cR (fun σ H2=>∃ kvs1,σ = [some (.ref a),some (.ref b),some (.ref r),none,none,none]∧Old H H2∧H2 r=some (.dK kvs1)∧kvs1.length≤kvs.length+1∧Kin kvs1 (bs ++ (if x = "fn"∨x = "self" then (txs fr).take 1 else []))) (fun R hR=>?_) (fun σ H2 hP=>?_)
 ·refine bK (x = "fn"∨x = "self") (fun R hR=>gD _ _ hR (fun R hR=>⟨_,rfl,.inr (.inl ⟨a,_,0,.str x,rfl,rfl,w0 _ o1.tm,at0,.inr (.inl ⟨rfl,_,rfl,by rw [ba];exact hR⟩)⟩)⟩) (fun R hR=>⟨_,rfl,.inr (.inl ⟨a,_,0,.str x,rfl,rfl,w0 _ o1.tm,at0,.inr (.inl ⟨rfl,_,rfl,by rw [ba];exact hR⟩)⟩)⟩)) (fun c=>?_) (fun c=>?_)
  ·obtain ⟨ns,efr,lns,euf⟩:=fs (c.imp_right .inl)
   obtain ⟨s1,nr,rfl⟩:∃ s1 nr,ns=s1 :: nr:=by
    cases ns with
    | nil=>rcases c with c | c <;> subst c <;> (rw [List.length_nil] at lns;omega)
    | cons s1 nr=>exact ⟨s1,nr,rfl⟩
   subst efr euf
   refine ⟨_,rfl,_,rfl,.inr (.inl ⟨a,_,2,.str s1,rfl,rfl,w0 _ o1.tm,aH (j:=2) rfl,r,_,rfl,eX.k (k:=.inr s1) hr1 (bA (by omega)),hR _ _ ⟨_,rfl,put (y:=.non) o1,ad,aR _ _ _,?_⟩⟩)⟩
   rw [if_pos c,fE]
   exact kin.put s1 _
  ·refine hR _ _ ⟨kvs,rfl,o1,hr1,by omega,?_⟩
   rw [if_neg c,List.append_nil]
   exact kin
 obtain ⟨kvs1,rfl,o2,hr2,l2,kin2⟩:=hP
 refine cR (fun σ H3=>∃ kvs1,σ = [some (.ref a),some (.ref b),some (.ref r),none,none,none]∧Old H H3∧H3 r=some (.dK kvs1)∧kvs1.length≤kvs.length+2∧Kin kvs1 (bs ++ (if x = "fn"∨x = "self" then txs fr else []))) (fun R hR=>?_) (fun σ H3 hP=>?_)
 ·refine bK (x = "self") (fun R hR=>⟨_,rfl,.inr (.inl ⟨a,_,0,.str x,rfl,rfl,w0 _ o2.tm,at0,.inr (.inl ⟨rfl,_,rfl,by rw [ba];exact hR⟩)⟩)⟩) (fun c=>?_) (fun c=>?_)
  ·obtain ⟨ns,efr,lns,euf⟩:=fs (.inr (.inl c))
   rw [c,e3] at lns
   obtain ⟨s1,s2,rfl⟩:=jc lns
   subst efr euf
   have lp3:=aR kvs1 (.inr s2) (.bl true)
   refine ⟨_,rfl,_,rfl,.inr (.inl ⟨a,_,3,.str s2,rfl,rfl,w0 _ o2.tm,aH (j:=3) rfl,r,_,rfl,eX.k (k:=.inr s2) hr2 (bA (by omega)),hR _ _ ⟨_,rfl,put (y:=.non) o2,ad,by omega,?_⟩⟩)⟩
   rw [if_pos (.inr c),fE] at kin2 ⊢
   have z:=kin2.put s2 (.bl true)
   rw [List.append_assoc] at z
   exact z
  ·refine hR _ _ ⟨kvs1,rfl,o2,hr2,by omega,?_⟩
   by_cases c1:x = "fn"∨x = "self"
   ·obtain ⟨ns,efr,lns,euf⟩:=fs (c1.imp_right .inl)
    have c2:x = "fn":=c1.resolve_right c
    rw [c2,e2] at lns
    obtain ⟨s1,rfl⟩:=List.length_eq_one_iff.mp lns
    subst efr
    rw [if_pos c1] at kin2 ⊢
    exact kin2
   ·rw [if_neg c1] at kin2 ⊢
    exact kin2
 obtain ⟨kvs2,rfl,o3,hr3,l3,kin3⟩:=hP
 refine ⟨_,rfl,.ref a,.mk x p fr ks ps,rfl,rv.mono o3.tm,wt,ot,fun r2 us H4 o4 hr20 hr24 rus=>?_⟩
 have rus':RKs K H4 (Tn.ds (Tk.tns ps)) us:=rus
 have lus:us.length=ps.length:=by
  have:=rus'.length
  rw [bq,aF] at this
  exact this.symm
 have nrr:r2≠r:=fun z=>by rw [z,hr3] at hr20;cases hr20
 have dep_j:∀ (j:Nat) (hj:j<ps.length),ps[j].tn.wf∧ps[j].ok∧ps[j].tn.dep≤Tn.deps (Tk.tns ps):=by
  clear rus rus' lus rp q2 wt ot hd few few' lp l5 rv rv'
  induction ps with
  | nil=>intro j hj;exact absurd hj (Nat.not_lt_zero _)
  | cons t r ih=>
    have e:Tn.deps (Tk.tns (t :: r))=max t.tn.dep (Tn.deps (Tk.tns r)):=rfl
    intro j hj
    cases j with
    | zero=>exact ⟨wps.1,oks.1,by show t.tn.dep≤_;omega⟩
    | succ j=>
      obtain ⟨a1,a2,a4⟩:=ih wps.2 oks.2 j (Nat.lt_of_succ_lt_succ hj)
      exact ⟨a1,a2,Nat.le_trans a4 (by omega)⟩
 have hdm:Tn.deps (Tk.tns ps)≤m:=by
  have:1+Tn.deps (Tk.tns ps)≤m+1:=hd
  omega
 have lus':((us.length:Nat):Int)=(ps.length:Int):=by rw [lus]
 dsimp only [aX]
 refine ⟨_,rfl,.inl ⟨r2,_,rfl,.inl (SqL.of hr24),ps.length,by rw [lus'],by omega,by omega,ck (n:=ps.length) (fun i σ H6=>∃ (k4 k5:Option V) (kvs6:List (Key×V)),σ = [some (.ref a),some (.ref b),some (.ref r),some (.ref r2),k4,k5]∧Old H H6∧Tm H4 H6∧H6 r2=some (.lst us)∧H6 r=some (.dK kvs6)∧kvs6.length≤kvs.length+2+min 1 (i - 1)∧Kin kvs6 (bs ++ (if x = "fn"∨x = "self"∨(x = "let"∧2≤i) then txs fr else []))∧Tn.freess x (txs fr) 0 (Tk.tns ps) bs=Tn.freess x (txs fr) i (Tk.tns (ps.drop i)) bs) ⟨none,none,kvs2,rfl,o3.trans o4,fun _ _ e=>e,hr24,o4 _ _ hr3,by omega,?_,rfl⟩ ?_ ?_⟩⟩
 ·by_cases c:x = "fn"∨x = "self"
  ·rw [if_pos c] at kin3
   rw [if_pos (c.imp_right .inl)]
   exact kin3
  ·rw [if_neg c] at kin3
   rw [if_neg (fun z=>c (z.imp_right fun z=>z.resolve_right fun z=>absurd z.2 (by decide)))]
   exact kin3
 ·intro i σ H6 hi hv
  obtain ⟨k4,k5,kvs6,rfl,o6,tm6,hr26,hr6,l6,kin6,ef⟩:=hv
  dsimp only [aX]
  refine cR (fun σ H7=>∃ kvs7,σ = [some (.ref a),some (.ref b),some (.ref r),some (.ref r2),some (.int (0+(i:Int))),k5]∧Old H H7∧Tm H4 H7∧H7 r2=some (.lst us)∧H7 r=some (.dK kvs7)∧kvs7.length≤kvs.length+2+min 1 (i+1 - 1)∧Kin kvs7 (bs ++ bnd x (txs fr) i)∧Kin kvs7 (bs ++ (if x = "fn"∨x = "self"∨(x = "let"∧2≤i+1) then txs fr else []))) (fun R hR=>?_) (fun σ H7 hP=>?_)
  ·have tm06:=o6.tm
   refine bK (x = "let"∧(0+(i:Int))=1) (fun R hR=>b8 _ _ hR (fun R hR=>⟨_,rfl,.inr (.inl ⟨a,_,0,.str x,rfl,rfl,w0 _ tm06,at0,.inr (.inl ⟨rfl,_,rfl,by rw [ba];exact hR⟩)⟩)⟩) (fun _ R hR=>⟨_,rfl,.inr (.inl ⟨rfl,_,rfl,by rw [cg];exact hR⟩)⟩)) (fun c=>?_) (fun c=>?_)
   ·obtain ⟨cl,ci⟩:=c
    have i1:i=1:=by omega
    subst i1
    obtain ⟨ns,efr,lns,euf⟩:=fs (.inr (.inr cl))
    rw [cl,e4] at lns
    obtain ⟨s1,rfl⟩:=List.length_eq_one_iff.mp lns
    subst efr euf cl
    have lp3:=aR kvs6 (.inr s1) (.bl true)
    rw [if_neg (by nofun),List.append_nil] at kin6
    have kz:=kin6.put s1 (.bl true)
    refine ⟨_,rfl,_,rfl,.inr (.inl ⟨a,_,2,.str s1,rfl,rfl,w0 _ tm06,aH (j:=2) rfl,r,_,rfl,eX.k (k:=.inr s1) hr6 (bA (by omega)),hR _ _ ⟨_,rfl,put (y:=.non) o6,fun b' ys e=>by rw [aj (fun z=>by subst z;have:=tm6 _ _ e;rw [hr6] at this;cases this)];exact tm6 _ _ e,by rw [aj nrr];exact hr26,ad,by omega,?_,?_⟩⟩)⟩
    ·rw [show bnd ("let":Str) (txs (List.map Dk.str [s1])) 1 = [s1] from by unfold bnd;rw [if_pos (by nofun)];rfl]
     exact kz
    ·rw [if_pos (by nofun)]
     exact kz
   ·have nl2:¬ (x = "let"∧2≤i):=fun z=>by
     have:=lp (by rw [z.1];decide +kernel)
     rw [z.1,e6] at this
     omega
    have nl1:¬ (x = "let"∧i=1):=fun z=>c ⟨z.1,by rw [z.2];rfl⟩
    have same:(if x = "fn"∨x = "self"∨(x = "let"∧2≤i) then txs fr else [])=bnd x (txs fr) i:=by
     unfold bnd
     by_cases c3:x = "fn"∨x = "self"
     ·rw [if_pos (c3.imp_right .inl),if_pos (c3.imp_right .inl)]
     ·rw [if_neg (fun z=>c3 (z.imp_right fun z=>z.resolve_right nl2)),if_neg (fun z=>c3 (z.imp_right fun z=>z.resolve_right nl1))]
    have same2:(if x = "fn"∨x = "self"∨(x = "let"∧2≤i+1) then txs fr else [])=bnd x (txs fr) i:=by
     unfold bnd
     by_cases c3:x = "fn"∨x = "self"
     ·rw [if_pos (c3.imp_right .inl),if_pos (c3.imp_right .inl)]
     ·rw [if_neg (fun z=>c3 (z.imp_right fun z=>z.resolve_right fun z=>nl1 ⟨z.1,by
       have h1:¬ 2≤i:=fun y=>nl2 ⟨z.1,y⟩
       have h2:=z.2
       omega⟩)),if_neg (fun z=>c3 (z.imp_right fun z=>z.resolve_right nl1))]
    rw [same] at kin6
    exact hR _ _ ⟨kvs6,rfl,o6,tm6,hr26,hr6,by omega,kin6,by rw [same2];exact kin6⟩
  obtain ⟨kvs7,rfl,o7,tm7,hr27,hr7,l7,kin7,kin7'⟩:=hP
  obtain ⟨y,ey,ry⟩:=(rus'.mono tm7).get (iX hi)
  obtain ⟨a1,a2,a4⟩:=dep_j i hi
  refine ⟨_,rfl,_,rfl,.inl ⟨r2,_,_,y,rfl,rfl,SqL.of hr27,by rw [Int.zero_add];exact aH ey,_,rfl,y,r,ps[i],kvs7,_,rfl,ry,a1,a2,by omega,hr7,kin7,by omega,fun v' H8 o8 rv8=>?_⟩⟩
  have efi:Tn.freess x (txs fr) i (Tk.tns (ps.drop i)) bs=ps[i].tn.frees (bs ++ bnd x (txs fr) i) ++ Tn.freess x (txs fr) (i+1) (Tk.tns (ps.drop (i+1))) bs:=by
   rw [List.drop_eq_getElem_cons hi]
   rfl
  have tm78:=o8.tm
  dsimp only [aX]
  cases efr:ps[i].tn.frees (bs ++ bnd x (txs fr) i) with
  | nil=>
    rw [efr] at rv8 efi
    have e':v' = .non:=rv8
    subst e'
    refine bK False (fun R hR=>⟨_,rfl,rfl,_,rfl,hR⟩) (fun z=>z.elim) (fun _=>?_)
    exact ⟨_,_,kvs7,rfl,o7.trans o8,fun x y e=>tm78 x y (tm7 x y e),o8 _ _ hr27,o8 _ _ hr7,by omega,kin7',ef.trans efi⟩
  | cons pn rest=>
    obtain ⟨pp,nn⟩:=pn
    rw [efr] at rv8 efi
    obtain ⟨va,vus,rfl,hva,_⟩:=RK.get (show RK K H8 (.tup [.int pp,.str nn]) v' from rv8)
    refine bK True (fun R hR=>⟨_,rfl,rfl,_,rfl,hR⟩) (fun _=>?_) (fun z=>(z trivial).elim)
    refine ⟨_,rfl,q2 _ _ (o7.trans o8) ?_⟩
    rw [ef,efi]
    exact rv8
 ·intro σ H6 hv
  obtain ⟨k4,k5,kvs6,rfl,o6,tm6,hr26,hr6,l6,kin6,ef⟩:=hv
  rw [List.drop_length] at ef
  refine q2 .non H6 o6 ?_
  rw [ef]
  exact .n
def toD:List (Int×Str)→Except Rf Kn→Dk
 | (p,_) :: _,_=>.tup [.str "free",.int p]
 | [],.ok _=>.tup [.str "taken"]
 | [],.error (.deep p)=>.tup [.str "deep",.int p]
 | [],.error (.par _ _ _ _ _)=>.tup [.str "parted"]
structure Xd (K:W.Frag) (B C Cp Ct Cn:Addr) (bp bt bn:Bool):Prop where
 hm:W.mroIn K C (.ref B)=some true
 X:c9 K C
 hh:W.hasDictIn K C=true
 ip:W.kitOne K (.ref C) (.ref Cp)=some bp
 it:W.kitOne K (.ref C) (.ref Ct)=some bt
 io:W.kitOne K (.ref C) (.ref Cn)=some bn
abbrev sTo:Stmt:=top 59
def vI (K:W.Frag):Sp:=fun vs H Q _=>∃ (v:V) (t:Tk),vs = [v]∧RK K H t.tn.d v∧Lkp t∧∀ v' H',Old H H'→RK K H' (toD (t.tn.frees []) (t.lk nv0)) v'→Q v' H'
theorem z7:aA ["_law_tree","_law_caught","e","_law_many"] ["_law_tree"] (au sTo):=⟨rfl,rfl,rfl,by nofun,rfl,by nofun,by nofun⟩
theorem zj {n:Nat} {B Cp Ct Cn:Addr} (F:Fun K "_law_told" "_law_told" sTo f fd) (T:Tx mg) (Ea:ly K B) (AS:mg "BlameError" = some (.ref B)) (xp:Xd K B Cp Cp Ct Cn true false false) (xt:Xd K B Ct Cp Ct Cn false true false) (xn:Xd K B Cn Cp Ct Cn false false true)
 (Be:mg "Parted" = some (.ref Cp)) (A6:mg "TooDeep" = some (.ref Ct)) (Bc:mg "NoName" = some (.ref Cn)) (ft:W.findIn K (.ref Ct) "place" = some none) (fn:W.findIn K (.ref Cn) "place" = some none)
 (Bs:dw P w K mg base "looked" ["tree"] 22 (pI K Cp Ct Cn)):aY P w K mg base CX0 (n+23) f fd ["_law_tree"] (vI K):=by
 refine F.ok z7 (fun vs H Q E h=>?_) (fun cdv A outer s H vs Q E hr h=>?_)
 ·obtain ⟨v,t,rfl,_⟩:=h
  rfl
 obtain ⟨v,t,rfl,rv,g,q⟩:=h
 have nd:=z7.nd
 refine' ⟨_,?n0,?Z⟩
 case' n0=>refine' ag ?N1 ?N2
 case N1=>exact psX 1 nd dj
 case' N2=>refine' ag ?N3 ?N4
 case' N3=>refine' vo (k:=2) Bs hr (pa (pv 0) ae) Ea AS nd rfl rfl (fun _=>?N5)
 case N5=>
  refine' ah ?N6
  case N6=>exact psX 1 nd (pv 2)
 case' N4=>refine' ag (aC (ak xB (pv 1) dj (aq _)) ?N9 aw) ?N8
 case' N9=>refine' ah ?Na
 case Na=>exact ar (ap (pa ai ae))
 case' N8=>refine' ag ?Nb ?Nc
 case Nb=>exact psX 3 nd (am a9 (am a9 (bw (eD) rfl T.int boot_int (pa (aM dA rfl T.isinstance boot_isinstance (pa (pv 1) (pa (bM rfl Be) ae))) ae)) (bw (eD) rfl T.int boot_int (pa (aM dA rfl T.isinstance boot_isinstance (pa (pv 1) (pa (bM rfl A6) ae))) ae))) (bw (eD) rfl T.int boot_int (pa (aM dA rfl T.isinstance boot_isinstance (pa (pv 1) (pa (bM rfl Bc) ae))) ae)))
 case' Nc=>refine' ag (aC (ak (iI hr) (pv 3) ac (aq _)) ?Nf aw) ?Ne
 case' Nf=>refine' ah ?Ng
 case Ng=>exact ar (ap (pa ai ae))
 case' Ne=>refine' ag (aC (eR (aM dA rfl T.isinstance boot_isinstance (pa (pv 1) (pa (bM rfl Be) ae)))) ?Nj aw) ?Ni
 case' Nj=>refine' ah ?Nk
 case Nk=>exact ar (ap (pa ai ae))
 case' Ni=>refine' ag (aC (eR (aM dA rfl T.isinstance boot_isinstance (pa (pv 1) (pa (bM rfl Bc) ae)))) ?Nn aw) ?Nm
 case' Nn=>refine' ah (ar ?Np)
 case' Np=>refine' ap ?Nq
 case' Nq=>refine' pa ai ?Nr
 case' Nr=>refine' pa ?Ns ae
 case Ns=>exact pq (pv 1) rfl
 case' Nm=>refine' ah (ar ?Nu)
 case' Nu=>refine' ap ?Nv
 case' Nv=>refine' pa ai ?Nw
 case' Nw=>refine' pa ?Nx ae
 case Nx=>exact pq (pv 1) rfl
 refine kW ?_
 dsimp only [nV,tC,aX]
 refine kW ?_
 refine ⟨_,rfl,v,t,rfl,rv,g,fun gf k ek kgk r kd wd kv ks' ws' H1 o1 rk hr1 hk hw=>?_,fun gf r er d H1 o1 rf=>?_,fun p nm r er d H1 o1 hd=>?_⟩
 ·refine ⟨_,rfl,rfl,_,rfl,br ⟨sz 1,fun b hb=>q _ _ (o1.trans (Old.new hb)) ?_⟩⟩
  rw [gf,ek]
  exact RK.tup (.of ad) (.cons (.s _) .nil)
 ·cases r with
  | deep p=>
    have hd:H1 d=some (DO d [("place",.int p)]):=rf
    refine ⟨Ct,rfl,xt.hm,fun d' e=>⟨_,by cases e;exact hd⟩,fun a ha=>?_⟩
    have o2:Old H1 (upd H1 a (XQ false a Ct (some d))):=Old.new ha
    have hpa:upd H1 a (XQ false a Ct (some d)) a=some (XQ false a Ct (some d)):=ad
    have hda:=o2 _ _ hd
    generalize upd H1 a (XQ false a Ct (some d))=H2 at o2 hpa hda ⊢
    have hdx:∀ d',some d=some d'→∃ fs,H2 d'=some (DO d' fs):=fun d' e=>⟨_,by cases e;exact hda⟩
    refine ⟨_,rfl,?_⟩
    dsimp only [aX]
    refine ⟨_,rfl,rfl,_,rfl,?_⟩
    rw [decide_eq_false (fun z=>nomatch z)]
    refine bf ⟨_,rfl,false,a,Ct,some d,_,_,_,rfl,rfl,fun _ e=>e,hpa,hdx,xt.X,xt.ip,.inr ⟨_,rfl,_,rfl,false,a,Ct,some d,_,_,_,rfl,rfl,fun _ e=>e,hpa,hdx,xt.X,xt.it,.inr ⟨_,rfl,.inr (.inl ⟨_,_,rfl,rfl,_,rfl,false,a,Ct,some d,_,_,_,rfl,rfl,fun _ e=>e,hpa,hdx,xt.X,xt.io,.inr ⟨_,rfl,.inr (.inl ⟨_,_,rfl,rfl,?_⟩)⟩⟩)⟩⟩⟩
    refine ⟨_,rfl,.inr (.inl ⟨rfl,_,rfl,?_⟩)⟩
    refine bf ⟨_,rfl,false,a,Ct,some d,_,_,_,rfl,rfl,fun _ e=>e,hpa,hdx,xt.X,xt.ip,_,rfl,bf ⟨_,rfl,false,a,Ct,some d,_,_,_,rfl,rfl,fun _ e=>e,hpa,hdx,xt.X,xt.io,_,rfl,bf ?_⟩⟩
    refine ⟨_,rfl,false,a,Ct,d,_,.int p,rfl,hpa,hda,xt.X,xt.hh,ft,rfl,sz 2,fun b hb=>q _ _ ((o1.trans o2).trans (Old.new hb)) ?_⟩
    rw [gf,er]
    exact RK.tup (.of ad) (.cons (.s _) (.cons (.i _) .nil))
  | par p k b w way=>
    obtain ⟨kv,wv,yv,rk,rw',ry,hd⟩:=rf
    refine ⟨Cp,rfl,xp.hm,fun d' e=>⟨_,by cases e;exact hd⟩,fun a ha=>?_⟩
    have o2:Old H1 (upd H1 a (XQ false a Cp (some d))):=Old.new ha
    have hpa:upd H1 a (XQ false a Cp (some d)) a=some (XQ false a Cp (some d)):=ad
    have hda:=o2 _ _ hd
    generalize upd H1 a (XQ false a Cp (some d))=H2 at o2 hpa hda ⊢
    have hdx:∀ d',some d=some d'→∃ fs,H2 d'=some (DO d' fs):=fun d' e=>⟨_,by cases e;exact hda⟩
    refine ⟨_,rfl,?_⟩
    dsimp only [aX]
    refine ⟨_,rfl,rfl,_,rfl,?_⟩
    rw [decide_eq_false (fun z=>nomatch z)]
    refine bf ⟨_,rfl,false,a,Cp,some d,_,_,_,rfl,rfl,fun _ e=>e,hpa,hdx,xp.X,xp.ip,.inr ⟨_,rfl,_,rfl,false,a,Cp,some d,_,_,_,rfl,rfl,fun _ e=>e,hpa,hdx,xp.X,xp.it,.inr ⟨_,rfl,.inr (.inl ⟨_,_,rfl,rfl,_,rfl,false,a,Cp,some d,_,_,_,rfl,rfl,fun _ e=>e,hpa,hdx,xp.X,xp.io,.inr ⟨_,rfl,.inr (.inl ⟨_,_,rfl,rfl,?_⟩)⟩⟩)⟩⟩⟩
    refine ⟨_,rfl,.inr (.inl ⟨rfl,_,rfl,?_⟩)⟩
    refine bf ⟨_,rfl,false,a,Cp,some d,_,_,_,rfl,rfl,fun _ e=>e,hpa,hdx,xp.X,xp.ip,_,rfl,br ⟨sz 1,fun b hb=>q _ _ ((o1.trans o2).trans (Old.new hb)) ?_⟩⟩
    rw [gf,er]
    exact RK.tup (.of ad) (.cons (.s _) .nil)
 ·refine ⟨Cn,rfl,xn.hm,fun d' e=>⟨_,by cases e;exact hd⟩,fun a ha=>?_⟩
  have o2:Old H1 (upd H1 a (XQ false a Cn (some d))):=Old.new ha
  have hpa:upd H1 a (XQ false a Cn (some d)) a=some (XQ false a Cn (some d)):=ad
  have hda:=o2 _ _ hd
  generalize upd H1 a (XQ false a Cn (some d))=H2 at o2 hpa hda ⊢
  have hdx:∀ d',some d=some d'→∃ fs,H2 d'=some (DO d' fs):=fun d' e=>⟨_,by cases e;exact hda⟩
  refine ⟨_,rfl,?_⟩
  dsimp only [aX]
  refine ⟨_,rfl,rfl,_,rfl,?_⟩
  rw [decide_eq_false (fun z=>nomatch z)]
  refine bf ⟨_,rfl,false,a,Cn,some d,_,_,_,rfl,rfl,fun _ e=>e,hpa,hdx,xn.X,xn.ip,.inr ⟨_,rfl,_,rfl,false,a,Cn,some d,_,_,_,rfl,rfl,fun _ e=>e,hpa,hdx,xn.X,xn.it,.inr ⟨_,rfl,.inr (.inl ⟨_,_,rfl,rfl,_,rfl,false,a,Cn,some d,_,_,_,rfl,rfl,fun _ e=>e,hpa,hdx,xn.X,xn.io,.inr ⟨_,rfl,.inr (.inl ⟨_,_,rfl,rfl,?_⟩)⟩⟩)⟩⟩⟩
  refine ⟨_,rfl,.inr (.inl ⟨rfl,_,rfl,?_⟩)⟩
  refine bf ⟨_,rfl,false,a,Cn,some d,_,_,_,rfl,rfl,fun _ e=>e,hpa,hdx,xn.X,xn.ip,_,rfl,bf ⟨_,rfl,false,a,Cn,some d,_,_,_,rfl,rfl,fun _ e=>e,hpa,hdx,xn.X,xn.io,_,rfl,br ?_⟩⟩
  refine ⟨_,rfl,false,a,Cn,d,_,.int p,rfl,hpa,hda,xn.X,xn.hh,fn,rfl,sz 2,fun b hb=>q _ _ ((o1.trans o2).trans (Old.new hb)) ?_⟩
  rw [er]
  exact RK.tup (.of ad) (.cons (.s _) (.cons (.i _) .nil))
inductive Tw (b:Int):Nat→Tk→Kn→Prop
 | zero:Tw b 0 (.mk "truth" b [.bl true] [] []) bI
 | fn {i:Nat} {t:Tk} {k:Kn} (s:Str):Tw b i t k→Tw b (i+1) (.mk "fn" (b+10+3 * (i:Int)) [.str s] [qK] [t]) (.mk "to" [qK,k])
 | pair {i:Nat} {t:Tk} {k:Kn}:Tw b i t k→Tw b (i+1) (.mk "pair" (b+10+3 * (i:Int)) [] [] [.mk "truth" (b+10+3 * (i:Int)+1) [.bl false] [] [],t]) (.mk "pair" [bI,k])
theorem Ah {b:Int} {i:Nat} {t:Tk} {k:Kn} (h:Tw b i t k):k.wf∧k.dep=i+1:=by
 induction h with
 | zero=>exact ⟨cC.wf,rfl⟩
 | @fn i t k s h ih=>
   have e:Kn.dep (.mk "to" [qK,k])=1+max qK.dep (max k.dep 0):=rfl
   have e2:qK.dep=1:=rfl
   refine ⟨⟨by show bO "to" = some 2;decide +kernel,dh.wf,ih.1,trivial⟩,?_⟩
   rw [e,ih.2]
   omega
 | @pair i t k h ih=>
   have e:Kn.dep (.mk "pair" [bI,k])=1+max bI.dep (max k.dep 0):=rfl
   have e2:bI.dep=1:=rfl
   refine ⟨⟨by show bO "pair" = some 2;decide +kernel,cC.wf,ih.1,trivial⟩,?_⟩
   rw [e,ih.2]
   omega
theorem vQ {b:Int} {i:Nat} {t:Tk} {k:Kn} (h:Tw b i t k):∀ bs,t.tn.frees bs = []:=by
 induction h with
 | zero=>intro bs;show (if ("truth":Str) = "name"∧_ then _ else _) ++ [] = [];rw [if_neg (fun z=>absurd z.1 (by nofun))];rfl
 | @fn i t k s h ih=>
   intro bs
   show (if ("fn":Str) = "name"∧_ then _ else _) ++ (t.tn.frees _ ++ []) = []
   rw [if_neg (fun z=>absurd z.1 (by nofun)),ih]
   rfl
 | @pair i t k h ih=>
   intro bs
   show (if ("pair":Str) = "name"∧_ then _ else _) ++ (((if ("truth":Str) = "name"∧_ then _ else _) ++ []) ++ (t.tn.frees _ ++ [])) = []
   rw [if_neg (fun z=>absurd z.1 (by nofun)),if_neg (fun z=>absurd z.1 (by nofun)),ih]
   rfl
theorem vR {ks f:List Kn}:bG "fn" ks f=f.getLastD qK:=by
 unfold bG
 rw [if_neg (fun z=>z.elim (fun z=>absurd z (by nofun)) fun z=>absurd z.1 (by nofun)),if_neg (fun z=>absurd z.1 (by nofun)),if_neg (by nofun),if_neg (by nofun),if_neg (fun z=>absurd z.1 (by nofun)),show bL "fn" = none by unfold bL;rw [if_neg (by nofun),if_neg (by nofun),if_neg (by nofun)]]
theorem j2 {ks f:List Kn}:bG "pair" ks f=f.getLastD qK:=by
 unfold bG
 rw [if_neg (fun z=>z.elim (fun z=>absurd z (by nofun)) fun z=>absurd z.1 (by nofun)),if_neg (fun z=>absurd z.1 (by nofun)),if_neg (by nofun),if_neg (by nofun),if_neg (fun z=>absurd z.1 (by nofun)),show bL "pair" = none by unfold bL;rw [if_neg (by nofun),if_neg (by nofun),if_neg (by nofun)]]
theorem ue {ks f:List Kn}:bG "let" ks f=f.getLastD qK:=by
 unfold bG
 rw [if_neg (fun z=>z.elim (fun z=>absurd z (by nofun)) fun z=>absurd z.1 (by nofun)),if_neg (fun z=>absurd z.1 (by nofun)),if_neg (by nofun),if_neg (by nofun),if_neg (fun z=>absurd z.1 (by nofun)),show bL "let" = none by unfold bL;rw [if_neg (by nofun),if_neg (by nofun),if_neg (by nofun)]]
mutual
theorem pi:∀ k:Kn,k.part k=none
 | .mk h ks=>by
   rw [Kn.part]
   by_cases c:h = "?"
   ·rw [if_pos c]
   ·rw [if_neg c,if_neg c,if_pos rfl]
    exact mr _ ks
theorem mr:∀ (ss:List Str) (ks:List Kn),Kn.parts ss ks ks=none
 | [],_=>by rw [Kn.parts]
 | _ :: _,[]=>by rw [Kn.parts]
 | s :: ss,t :: r=>by
   rw [Kn.parts,pi t]
   exact mr ss r
end
theorem gO {w:Str} {p pl np:Int} {ks f:List Kn} (h1:w≠"if") (h2:bG w ks f=f.getLastD qK):bU w p pl np ks f=none:=by
 unfold bU
 rw [if_neg (fun z=>h1 z.1),h2,pi]
 rfl
theorem xH {fr:List Dk} {ks f:List Kn} {e:Nv}:bH "fn" fr ks f e = .mk "to" [ks.headD qK,f.headD qK]:=by
 unfold bH
 rw [if_neg (by nofun),if_neg (by nofun),if_neg (by nofun),if_neg (by nofun),if_neg (by nofun),if_pos rfl]
theorem sN {fr:List Dk} {ks f:List Kn} {e:Nv}:bH "pair" fr ks f e = .mk "pair" [f.headD qK,(f[1]?).getD qK]:=by
 unfold bH
 rw [if_neg (by nofun),if_neg (by nofun),if_neg (by nofun),if_neg (by nofun),if_neg (by nofun),if_neg (by nofun),if_neg (by nofun),if_neg (by nofun),if_neg (by nofun),if_neg (by nofun),if_neg (by nofun),if_pos rfl]
theorem qy {fr:List Dk} {ks f:List Kn} {e:Nv}:bH "truth" fr ks f e=bI:=by
 unfold bH
 rw [if_neg (by nofun),if_pos rfl]
theorem xG {fr:List Dk} {ks f:List Kn} {e:Nv}:bH "as" fr ks f e=ks.headD qK:=by
 unfold bH
 rw [if_neg (by nofun),if_neg (by nofun),if_neg (by nofun),if_neg (by nofun),if_neg (by nofun),if_neg (by nofun),if_neg (by nofun),if_neg (by nofun),if_neg (by nofun),if_neg (by nofun),if_neg (by nofun),if_neg (by nofun)]
theorem iG {p:Int} {d:Dk} {e:Nv}:(Tk.mk "truth" p [d] [] []).lk e = .ok bI:=by
 rw [gB,if_neg (by decide),fi]
 show (if 4<(bH "truth" [d] [] [] e).dep then _ else _)=_
 rw [qy,if_neg (by decide)]
theorem Ai {b:Int} {i:Nat} {t:Tk} {k:Kn} (h:Tw b i t k):∀ e,t.lk e=if i≤3 then .ok k else .error (Rf.deep (b+19)):=by
 induction h with
 | zero=>intro e;rw [iG];rfl
 | @fn i t k s h ih=>
   intro e
   have kk:=(Ah (.fn s h)).2
   rw [gB,if_neg (by decide),Tk.lks,ih]
   by_cases c:i≤3
   ·rw [if_pos c]
    show (match (match bU "fn" _ _ t.p [qK] ([] ++ [k]) with | some r=>Except.error r | none=>Tk.lks "fn" _ _ [.str s] [qK] [] (0+1) e ([] ++ [k])) with | .error r=>Except.error r | .ok f=>if 4<(bH "fn" [.str s] [qK] f e).dep then .error (.deep _) else .ok (bH "fn" [.str s] [qK] f e))=_
    rw [gO (by nofun) vR,fi]
    show (if 4<(bH "fn" [.str s] [qK] [k] e).dep then _ else _)=_
    rw [xH]
    show (if 4<(Kn.mk "to" [qK,k]).dep then Except.error (Rf.deep (b+10+3 * (i:Int))) else .ok (Kn.mk "to" [qK,k]))=_
    rw [kk]
    by_cases c2:i+1≤3
    ·rw [if_neg (by omega),if_pos c2]
    ·rw [if_pos (by omega),if_neg c2,show b+10+3 * (i:Int)=b+19 by omega]
   ·rw [if_neg c,if_neg (by omega)]
 | @pair i t k h ih=>
   intro e
   have kk:=(Ah (.pair h)).2
   rw [gB,if_neg (by decide),dE,iG]
   dsimp only
   rw [gO (by nofun) j2]
   dsimp only
   rw [dE,ih]
   by_cases c:i≤3
   ·rw [if_pos c]
    dsimp only
    rw [gO (by nofun) j2]
    dsimp only
    rw [fi]
    dsimp only
    rw [sN]
    show (if 4<(Kn.mk "pair" [bI,k]).dep then Except.error (Rf.deep (b+10+3 * (i:Int))) else .ok (Kn.mk "pair" [bI,k]))=_
    rw [kk]
    by_cases c2:i+1≤3
    ·rw [if_neg (by omega),if_pos c2]
    ·rw [if_pos (by omega),if_neg c2,show b+10+3 * (i:Int)=b+19 by omega]
   ·rw [if_neg c,if_neg (by omega)]
theorem gM (s:Str) (z:Int):dqs [.str s,.int z]≤60:=mL fun x hx=>by
 rcases List.mem_cons.mp hx with rfl | hx
 ·exact Nat.zero_le _
 ·rw [List.mem_singleton.mp hx];exact Nat.zero_le _
abbrev x3:Stmt:=top 60
def tW (K:W.Frag):Sp:=fun vs H Q _=>∃ (cell b:Int) (wl:Addr) (ws:List Str),vs = [.int cell,.ref wl,.int b]∧H wl=some (.lst (ws.map V.str))∧ws.length=5∧0≤b∧b<9900∧∀ H',Q (.bl true) H'
theorem wF:aA ["_law_cell","_law_words_here","_law_base","_law_many","_law_node_here","_law_kind_here","_law_k","_law_place_here"] ["_law_cell","_law_words_here","_law_base"] (au x3):=⟨rfl,rfl,rfl,by nofun,rfl,by nofun,by nofun⟩
theorem xq {n:Nat} {Cp Ct Cn:Addr} (F:Fun K "_law_towers" "_law_towers" x3 f fd) (T:Tx mg) (Gg:Cal P w K mg base "_law_told" ["_law_tree"] 23 (vI K)) (CM:Cal P w K mg base "kind_of" ["tree"] 23 (fun vs H Q _=>ye K Cp Ct Cn vs H Q fun _ _ _=>False)):aY P w K mg base CX0 (n+24) f fd ["_law_cell","_law_words_here","_law_base"] (tW K):=by
 refine F.ok wF (fun vs H Q E h=>?_) (fun cdv A outer s H vs Q E hr h=>?_)
 ·obtain ⟨cell,b,wl,ws,rfl,_⟩:=h
  rfl
 obtain ⟨cell,b,wl,ws,rfl,hw,l5,b0,b1,q⟩:=h
 have nd:=wF.nd
 refine' ⟨_,?n0,?Z⟩
 case' n0=>refine' ag ?N1 ?N2
 case N1=>exact psX 3 nd (am a9 ac (am aE (pv 0) ac))
 case' N2=>refine' ag ?N3 ?N4
 case N3=>exact psX 4 nd (ap (pa ai (pa (pv 2) (pa fj ae))))
 case' N4=>refine' ag ?N5 ?N6
 case N5=>exact psX 5 nd (ap (pa ai ae))
 case' N6=>refine' ag ?N7 ?N8
 case' N7=>refine' cQ PassesOwn.never rfl ?N9 ?Na ?Nb
 case N9=>exact bN rfl T.range (pa (pv 3) ae)
 case Na=>exact aV (i:=6) nd rfl (Or.inl rfl)
 case' Nb=>refine' ag ?Nc ?Nd
 case Nc=>exact psX 7 nd (am a9 (am a9 (pv 2) ac) (am bP ac (pv 6)))
 case' Nd=>refine' ah ?Ne
 case' Ne=>refine' aC (ak (ax hr) (am aE (am ay (am ay (pv 0) ac) (am a9 ac (pv 6))) ac) ac (aq _)) ?Nf ?Ng
 case' Nf=>refine' ag ?Nh ?Ni
 case' Nh=>refine' psX 4 nd ?Nj
 case' Nj=>refine' ap ?Nk
 case' Nk=>refine' pa ai ?Nl
 case' Nl=>refine' pa (pv 7) ?Nm
 case' Nm=>refine' pa ?Nn (pa (ap (pa ai ae)) (pa (pv 4) ae))
 case Nn=>exact pxK K (pv 1) (am aE (pv 6) ac) (fun _ _=>rfl)
 case' Ni=>refine' ah ?No
 case No=>exact psX 5 nd (ap (pa ai (pa (ap (pa ai ae)) (pa (pv 5) ae))))
 case' Ng=>refine' ag ?Np ?Nq
 case Np=>exact psX 4 nd (ap (pa ai (pa (pv 7) (pa (ap (pa ai (pa (am a9 (pv 7) ac) (pa fj ae)))) (pa (pv 4) ae)))))
 case' Nq=>refine' ah ?Nr
 case Nr=>exact psX 5 nd (ap (pa ai (pa (ap (pa ai ae)) (pa (pv 5) ae))))
 case' N8=>refine' ag (aC (ak eg (pv 3) ac (aq _)) ?Nu aw) ?Nt
 case' Nu=>refine' ah (ar ?Nw)
 case Nw=>exact fm (ax hr) (ao Gg hr (pa (pv 4) ae)) (ap (pa ai (pa (am a9 (pv 2) ac) ae))) (aq _)
 case' Nt=>refine' ah (ar ?Ny)
 case Ny=>exact fm (ax hr) (ao CM hr (pa (pv 4) ae)) (pv 5) (aq _)
 obtain ⟨mm,emm,m1,m7⟩:∃ mm:Nat,1+cell % 7=(mm:Int)∧1≤mm∧mm≤7:=by
  have c0:0≤cell % 7:=Int.emod_nonneg _ (by decide)
  have c1:cell % 7<7:=Int.emod_lt_of_pos _ (by decide)
  exact ⟨(1+cell % 7).toNat,by omega,by omega,by omega⟩
 refine ⟨_,rfl,_,_,rfl,rfl,(zp 7),.inr (.inl ⟨_,_,rfl,rfl,?_⟩)⟩
 refine ⟨_,rfl,sz 3,fun x0 hx0=>?_⟩
 have o1:=Old.new (o:=.tup [.str "truth",.int b,.bl true]) hx0
 refine ⟨sz 1,fun k0 hk0=>?_⟩
 have o2:=Old.new (o:=.tup [.str "truth"]) hk0
 have l5':((ws.length:Nat):Int)=5:=by rw [l5];rfl
 have M0:Mk K (upd H x0 (.tup [.str "truth",.int b,.bl true])) (.ref x0) (.mk "truth" b [.bl true] [] []) 1 1:=cw (by nofun) b0 (by omega) rfl (fun z=>absurd z (by nofun)) (RK.tup (.of ad) (.cons (.s _) (.cons (.i _) (.cons (.b _) .nil))))
 dsimp only [aX]
 refine ⟨_,rfl,mm,by show [V.int (1+cell % 7)]=_;rw [emm],by omega,by omega,ck (n:=mm) (fun i σ H6=>∃ (k6 k7:Option V) (t:Tk) (k:Kn) (nv kv:V),σ = [some (.int cell),some (.ref wl),some (.int b),some (.int (1+cell % 7)),some nv,some kv,k6,k7]∧H6 wl=some (.lst (ws.map V.str))∧Tw b i t k∧Mk K H6 nv t (1+2 * i) (1+i)∧RK K H6 k.d kv) ⟨none,none,_,_,.ref x0,.ref k0,rfl,o2 _ _ (o1 _ _ hw),.zero,M0.tm o2.tm,RK.tup (.of ad) (.cons (.s _) .nil)⟩ ?_ ?_⟩
 ·intro i σ H6 hi hv
  obtain ⟨k6,k7,t,k,nv,kv,rfl,hw6,tw,M6,rk6⟩:=hv
  refine ⟨_,rfl,.inr (.inl ⟨_,_,rfl,rfl,_,rfl,.inr ⟨_,_,rfl,rfl,.inl ⟨by decide,by decide⟩,.inr (.inl ⟨_,_,rfl,rfl,?_⟩)⟩⟩)⟩
  have ep:b+10+3 * (0+(i:Int))=b+10+3 * (i:Int):=by omega
  dsimp only [aX]
  rw [ep]
  obtain ⟨s1,es1,_⟩:=b9 (ss:=ws) (i:=(0+(i:Int)) % 5) (Int.emod_nonneg _ (by decide)) (by rw [l5'];exact Int.emod_lt_of_pos _ (by decide))
  refine bK (cell / 7 / (2+(0+(i:Int))) % 2=0) (fun R hR=>⟨_,rfl,_,_,rfl,rfl,.inl ⟨by decide,by decide⟩,_,rfl,.inr (.inl ⟨_,_,rfl,rfl,_,_,rfl,rfl,.inl ⟨by show (0:Int)<2+(0+(i:Int));omega,by show 2+(0+(i:Int))<1073741824;omega⟩,_,_,rfl,rfl,(zp 2),.inr (.inl ⟨rfl,_,rfl,by rw [cg];exact hR⟩)⟩)⟩) (fun _=>?_) (fun _=>?_)
  ·refine ⟨_,rfl,_,rfl,_,rfl,_,_,rfl,rfl,(zp 5),.inl ⟨wl,_,_,.str s1,rfl,rfl,SqL.of hw6,es1,sz 1,fun q1 hq1=>⟨_,rfl,sz 5,fun q2 hq2=>?_⟩⟩⟩
   have o7:=Old.new (o:=.tup [.str "?"]) hq1
   have o8:=Old.new (o:=.tup [.str "fn",.int (b+10+3 * (i:Int)),.str s1,.ref q1,nv]) hq2
   refine ⟨sz 1,fun q3 hq3=>⟨_,rfl,sz 3,fun q4 hq4=>?_⟩⟩
   have o9:=Old.new (o:=.tup [.str "?"]) hq3
   have o10:=Old.new (o:=.tup [.str "to",.ref q3,kv]) hq4
   have rq:RK K (upd H6 q1 (.tup [.str "?"])) qK.d (.ref q1):=RK.tup (.of ad) (.cons (.s _) .nil)
   have M8:=sj (K:=K) (k:=qK) (by omega) (by omega) dh (by decide) M6.mp (ad (a:=q2) (o:=.tup [.str "fn",.int (b+10+3 * (i:Int)),.str s1,.ref q1,nv])) (rq.mono o8.tm) ((M6.r.mono o7.tm).mono o8.tm)
   refine ⟨_,_,_,_,.ref q2,.ref q4,rfl,o10 _ _ (o9 _ _ (o8 _ _ (o7 _ _ hw6))),.fn s1 tw,((M8.tm o9.tm).tm o10.tm).up (by omega) (by omega),?_⟩
   exact RK.tup (.of ad) (.cons (.s _) (.cons ((RK.tup (.of ad) (.cons (.s _) .nil):RK K _ qK.d (.ref q3)).mono o10.tm) (.cons ((((rk6.mono o7.tm).mono o8.tm).mono o9.tm).mono o10.tm) .nil)))
  ·refine ⟨_,rfl,_,rfl,.inr (.inl ⟨_,_,rfl,rfl,sz 3,fun q1 hq1=>⟨_,rfl,sz 4,fun q2 hq2=>?_⟩⟩)⟩
   have o7:=Old.new (o:=.tup [.str "truth",.int (b+10+3 * (i:Int)+1),.bl false]) hq1
   have o8:=Old.new (o:=.tup [.str "pair",.int (b+10+3 * (i:Int)),.ref q1,nv]) hq2
   have M7:Mk K (upd H6 q1 (.tup [.str "truth",.int (b+10+3 * (i:Int)+1),.bl false])) (.ref q1) (.mk "truth" (b+10+3 * (i:Int)+1) [.bl false] [] []) 1 1:=cw (by nofun) (by omega) (by omega) rfl (fun z=>absurd z (by nofun)) (RK.tup (.of ad) (.cons (.s _) (.cons (.i _) (.cons (.b _) .nil))))
   refine ⟨sz 1,fun q3 hq3=>⟨_,rfl,sz 3,fun q4 hq4=>?_⟩⟩
   have o9:=Old.new (o:=.tup [.str "truth"]) hq3
   have o10:=Old.new (o:=.tup [.str "pair",.ref q3,kv]) hq4
   have w8:=made (x:="pair") (p:=b+10+3 * (i:Int)) (fr:=[]) (ks:=[]) (ps:=[.mk "truth" (b+10+3 * (i:Int)+1) [.bl false] [] [],t]) (c:=1+2 * i) (d:=1+i) (by nofun) (by nofun) (by nofun) (by nofun) (fun _=>by show 2=K11.np "pair";decide +kernel) (by show 2≤4;decide) (fun z=>absurd z (by nofun)) (by omega) (by omega) (d0 []) (fun k hk=>nomatch hk) (fun z=>absurd z (by nofun)) (qp (M7.mp.up (by omega) (by omega)) M6.mp)
   have M8:Mk K (upd (upd H6 q1 (.tup [.str "truth",.int (b+10+3 * (i:Int)+1),.bl false])) q2 (.tup [.str "pair",.int (b+10+3 * (i:Int)),.ref q1,nv])) (.ref q2) (.mk "pair" (b+10+3 * (i:Int)) [] [] [.mk "truth" (b+10+3 * (i:Int)+1) [.bl false] [] [],t]) (1+2 * (i+1)) (1+(i+1)):=⟨RK.tup (.of ad) (.cons (.s _) (.cons (.i _) (.cons (M7.r.mono o8.tm) (.cons ((M6.r.mono o7.tm).mono o8.tm) .nil)))),w8.wf,w8.ok,w8.dos,by
    have:=M6.mp.cnt
    show 1+(1+0+(t.cnt+0))≤_
    omega,Nat.le_trans w8.dep (by omega)⟩
   refine ⟨_,_,_,_,.ref q2,.ref q4,rfl,o10 _ _ (o9 _ _ (o8 _ _ (o7 _ _ hw6))),.pair tw,(M8.tm o9.tm).tm o10.tm,?_⟩
   exact RK.tup (.of ad) (.cons (.s _) (.cons ((RK.tup (.of ad) (.cons (.s _) .nil):RK K _ bI.d (.ref q3)).mono o10.tm) (.cons ((((rk6.mono o7.tm).mono o8.tm).mono o9.tm).mono o10.tm) .nil)))
 ·intro σ H6 hv
  obtain ⟨k6,k7,t,k,nv,kv,rfl,hw6,tw,M6,rk6⟩:=hv
  have L6:Lkp t:=⟨M6.mp.wf,M6.mp.ok,M6.mp.dos,Nat.le_trans M6.mp.cnt (by omega),Nat.le_trans M6.mp.dep (by omega)⟩
  have fr:=vQ tw []
  have lk:=Ai tw nv0
  dsimp only
  refine bg (3<1+cell % 7) (fun R hR=>⟨_,rfl,_,_,rfl,rfl,_,rfl,hR⟩) (fun c=>?_) (fun c=>?_)
  ·refine ⟨_,rfl,nv,t,rfl,M6.r,L6,fun v' H7 o7 r7=>⟨_,rfl,.inr (.inl ⟨_,_,rfl,rfl,sz 2,fun z hz=>?_⟩)⟩⟩
   rw [fr,lk,if_neg (by omega)] at r7
   have o8:=Old.new (o:=.tup [.str "deep",.int (b+19)]) hz
   refine .inl ⟨[.str "deep",.int (b+19)],[.str "deep",.int (b+19)],(show RK K H7 (.tup [.str "deep",.int (b+19)]) v' from r7).mono o8.tm,RK.tup (.of ad) (.cons (.s _) (.cons (.i _) .nil)),gM _ _,?_⟩
   rw [cK]
   exact q _
  ·refine ⟨_,rfl,nv,t,rfl,M6.r,L6,fun _ k' ek kg' kv' H7 o7 rk7=>?_,fun _ r er=>?_,fun p nm r er=>?_⟩
   ·rw [lk,if_pos (by omega)] at ek
    cases ek
    obtain ⟨h,ks⟩:=k
    refine ⟨_,rfl,.inl ⟨.str h :: Kn.ds ks,.str h :: Kn.ds ks,rk7,rk6.mono o7.tm,?_,?_⟩⟩
    ·have e1:(Dk.tup (.str h :: Kn.ds ks)).dq=(Kn.mk h ks).dep:=wQ (Kn.mk h ks)
     rw [iq] at e1
     have:=kg'.dep
     omega
    ·rw [cK]
     exact q _
   ·rw [lk,if_pos (by omega)] at er
    cases er
   ·rw [fr] at er
    cases er
theorem se {q p:Int} {s:Str} {p1 p2:Int} {t:Tk} (h:∀ e,t.lk e = .error (Rf.deep q)):∀ e,(Tk.mk "let" p [.str s] [] [.mk "as" p1 [] [qK] [.mk "truth" p2 [.bl true] [] []],t]).lk e = .error (Rf.deep q):=fun e=>by
 have h1:∀ e,(Tk.mk "as" p1 [] [qK] [.mk "truth" p2 [.bl true] [] []]).lk e = .ok qK:=fun e=>by
  rw [gB,if_neg (by decide),dE,iG]
  dsimp only
  rw [show bU "as" p1 _ _ [qK] ([] ++ [bI])=none from by
   unfold bU
   rw [if_neg (fun z=>absurd z.1 (by nofun)),show bG "as" [qK] ([] ++ [bI])=qK from by
    unfold bG
    rw [if_neg (fun z=>z.elim (fun z=>absurd z (by nofun)) fun z=>absurd z.1 (by nofun)),if_neg (fun z=>absurd z.1 (by nofun)),if_pos (by nofun)]
    rfl]
   show Option.map _ (bI.part qK)=none
   rw [vd qK rfl]
   rfl]
  dsimp only
  rw [fi]
  dsimp only
  rw [xG]
  rfl
 rw [gB,if_neg (by decide),dE,h1]
 dsimp only
 rw [gO (by nofun) ue]
 dsimp only
 rw [dE,h]
theorem uk {p:Int} {k:Kn} {t:Tk} (h:4<k.dep):∀ e,(Tk.mk "as" p [] [k] [t]).lk e = .error (Rf.deep p):=fun e=>by
 rw [gB,if_pos]
 show (decide (4<k.dep) || false)=true
 rw [decide_eq_true h]
 rfl
theorem Aw:Kin [] []:=fun x=>rfl
theorem qc:∀ {l:List Str},l.length=5→∃ a b c d e,l = [a,b,c,d,e]
 | [a,b,c,d,e],_=>⟨a,b,c,d,e,rfl⟩
theorem rJ (ws:List Str):(ws.map V.str).all cV=true:=List.all_eq_true.mpr fun v hv=>by
 obtain ⟨s,_,rfl⟩:=List.mem_map.mp hv
 rfl
theorem t7 (z:Except Rf Kn):∃ (h:Str) (r:List Dk),toD [] z = .tup (.str h :: r)∧h≠"other"∧h≠"free"∧dqs (.str h :: r)≤60:=by
 cases z with
 | ok k=>exact ⟨"taken",[],rfl,by nofun,by nofun,by decide⟩
 | error r=>cases r with
   | deep p=>exact ⟨"deep",[.int p],rfl,by nofun,by nofun,gM _ _⟩
   | par p k b w way=>exact ⟨"parted",[],rfl,by nofun,by nofun,by decide⟩
abbrev xX:Stmt:=top 61
def pH (K:W.Frag):Sp:=fun vs H Q _=>∃ (a:Addr) (ns:List Int),vs = [.ref a]∧SqL K H a (ns.map V.int)∧ns.length≤63∧∀ H',Q (.bl true) H'
theorem wC:aA ["_law_script","_law_cell","_law_words_here","_law_deal","_law_tree","_law_strangers","_law_far","_law_k","_law_some","_law_kind_here","_law_again","_law_due","_law_answer"] ["_law_script"] (au xX):=⟨rfl,rfl,rfl,by nofun,rfl,by nofun,by nofun⟩
theorem xr {m:Nat} (F:Fun K "law" "law" xX f fd) (T:Tx mg) (Ca:Cal P w K mg base "_law_cell_at" ["_law_script","_law_k"] 1 (nP K)) (c_words:Cal P w K mg base "_law_words" ["_law_cell"] 1 (tX K)) (BZ:Cal P w K mg base "_law_kind" ["_law_cell"] 1 (iU K)) (AV:Cal P w K mg base "_law_node" ["_law_deal","_law_want","_law_names","_law_room"] 21 (du K 7))
 (Cb:Cal P w K mg base "_law_spoiled" ["_law_node_here","_law_box"] 8 (nU K 7)) (Gf:Cal P w K mg base "_law_free" ["_law_node_here","_law_names"] 10 (qD K 9)) (Gg:Cal P w K mg base "_law_told" ["_law_tree"] 23 (vI K)) (Hi:Cal P w K mg base "_law_towers" ["_law_cell","_law_words_here","_law_base"] 24 (tW K)):aY P w K mg base CX0 (m+25) f fd ["_law_script"] (pH K):=by
 refine F.ok wC (fun vs H Q E h=>?_) (fun cdv A outer s H vs Q E hr h=>?_)
 ·obtain ⟨a,ns,rfl,_⟩:=h
  rfl
 obtain ⟨a,ns,rfl,hS,h63,q⟩:=h
 have nd:=wC.nd
 refine' ⟨_,?n0,?Z⟩
 case' n0=>refine' ag ?N1 ?N2
 case N1=>exact psX 1 nd (am aE (am bP (ao Ca hr (pa (pv 0) (pa ac ae))) ac) ac)
 case' N2=>refine' ag ?N3 ?N4
 case N3=>exact psX 2 nd (ao c_words hr (pa (pv 1) ae))
 case' N4=>refine' ag (aC (ak (ax hr) (am aE (am ay (pv 1) ac) ac) ac (aq _)) ?N7 aw) ?N6
 case' N7=>refine' ah ?N8
 case N8=>exact ar (ao Hi hr (pa (am ay (pv 1) ac) (pa (pv 2) (pa (am aE (ao Ca hr (pa (pv 0) (pa ac ae))) ac) ae))))
 case' N6=>refine' ag ?N9 ?Na
 case N9=>exact psX 3 nd (bY (pa (pv 0) (pa ac (pa (am aE (ao Ca hr (pa (pv 0) (pa ac ae))) ac) (pa ac (pa (pv 2) (pa (am aE (pv 1) ac) ae)))))))
 case' Na=>refine' ag ?Nb ?Nc
 case Nb=>exact psX 4 nd (ao AV hr (pa (pv 3) (pa (ao BZ hr (pa (am ay (pv 1) ac) ae)) (pa dG (pa ac ae)))))
 case' Nc=>refine' ag ?Nd ?Ne
 case' Nd=>refine' mt (te:=bW 0) (tt:=pL (tOp (rIn K true) (bW 0) (bW 3))) (i:=5) (k:=1) (N:=["_law_word","_law_script","_law_cell","_law_words_here","_law_deal","_law_tree","_law_strangers","_law_far","_law_k","_law_some","_law_kind_here","_law_again","_law_due","_law_answer"]) (dW rfl rfl rfl rfl rfl rfl) rfl nd rfl (Or.inl rfl) ?Nf (fun _ _ _ _=>?Ng) (fun _ _ _ _=>?Nh) (fun _ _ _ _=>?Ni)
 case Nf=>exact dl (bY (pa ai (pa ai (pa ai (pa ai (pa ai (pa ai ae)))))))
 case Ng=>exact aV (i:=0) (by show List.Nodup (["_law_word","_law_script","_law_cell","_law_words_here","_law_deal","_law_tree","_law_strangers","_law_far","_law_k","_law_some","_law_kind_here","_law_again","_law_due","_law_answer"]:List Str);decide +kernel) rfl (Or.inl rfl)
 case Nh=>exact gY (ak dP (pv 0) (pv 3) rfl)
 case Ni=>exact pv 0
 case' Ne=>refine' ag ?Nj ?Nk
 case Nj=>exact psX 6 nd (am aE (am bP (ao Ca hr (pa (pv 0) (pa ac ae))) ac) ac)
 case' Nk=>refine' ag ?Nl ?Nm
 case' Nl=>refine' cQ PassesOwn.never rfl ?Nn ?No ?Np
 case Nn=>exact bN rfl T.range (pa (am aE (am ay (pv 1) ac) ac) ae)
 case No=>exact aV (i:=7) nd rfl (Or.inl rfl)
 case' Np=>refine' ag ?Nq ?Nr
 case' Nq=>refine' psX 8 nd ?Ns
 case' Ns=>refine' am a9 (pv 5) ?Nt
 case' Nt=>refine' iM x8 (pv 2) kM ?Nu
 case Nu=>exact kN ac
 case' Nr=>refine' ah ?Nv
 case' Nv=>refine' psX 4 nd ?Nw
 case' Nw=>refine' ao Cb hr ?Nx
 case' Nx=>refine' pa (pv 4) ?Ny
 case' Ny=>refine' pa ?Nz ae
 case' Nz=>refine' bY ?N10
 case' N10=>refine' pa (am a9 ac (am aE (am ay (pv 6) (am a9 ac (am bP ac (pv 7)))) ac)) ?N11
 case' N11=>refine' pa ?N12 ae
 case N12=>exact pxK K (pv 8) (am aE (am a9 (am ay (pv 1) ac) (pv 7)) (aM (bh) rfl T.len boot_len (pa (pv 8) ae))) (fun _ _=>rfl)
 case' Nm=>refine' ag ?N13 ?N14
 case N13=>exact psX 9 nd (ap (pa ai ae))
 case' N14=>refine' ag ?N15 ?N16
 case' N15=>refine' cQ PassesOwn.never rfl ?N17 ?N18 ?N19
 case N17=>exact bN rfl T.range (pa (am aE (am ay (pv 6) ac) ac) ae)
 case N18=>exact aV (i:=7) nd rfl (Or.inl rfl)
 case' N19=>refine' ah ?N1a
 case' N1a=>refine' psX 9 nd ?N1b
 case N1b=>exact pxK K (bY (pa (ap (pa ai (pa (pv 9) (pa (ap (pa ai ae)) ae)))) (pa (ap (pa ai (pa (pv 9) ae))) (pa (ap (pa ai (pa (ap (pa ai ae)) (pa (pv 9) ae)))) ae)))) (am aE (am a9 (pv 1) (pv 7)) ac) (fun _ _=>rfl)
 case' N16=>refine' ag ?N1c ?N1d
 case N1c=>exact psX 4 nd (ap (pa ai (pa ac (pa (pv 9) (pa (pv 4) ae)))))
 case' N1d=>refine' ag ?N1e ?N1f
 case' N1e=>refine' cQ PassesOwn.never rfl ?N1g ?N1h ?N1i
 case N1g=>exact bN rfl T.range (pa ac ae)
 case N1h=>exact aV (i:=10) nd rfl (Or.inl rfl)
 case' N1i=>refine' ag ?N1j ?N1k
 case N1j=>exact psX 11 nd (ao Gf hr (pa (pv 4) (pa dG ae)))
 case' N1k=>refine' ag ?N1l ?N1m
 case N1l=>exact psX 12 nd (ao Gg hr (pa (pv 4) ae))
 case' N1m=>refine' ah ?N1n
 case' N1n=>refine' aC (ak gS (pv 11) dj (aq _)) ?N1o ?N1p
 case' N1o=>refine' ag (aC ?N1s ?N1t aw) ?N1r
 case' N1s=>refine' ak (iI hr) (pv 12) ?N1u (aq _)
 case' N1u=>refine' ap ?N1v
 case' N1v=>refine' pa ai ?N1w
 case' N1w=>refine' pa ?N1x ae
 case N1x=>exact pxK K (pv 11) ac (fun _ _=>rfl)
 case' N1t=>refine' ah ?N1y
 case N1y=>exact ar fj
 case' N1r=>refine' ah ?N1z
 case' N1z=>refine' psX 4 nd ?N20
 case' N20=>refine' ap ?N21
 case' N21=>refine' pa ai ?N22
 case' N22=>refine' pa ac ?N23
 case' N23=>refine' pa ?N24 (pa (ap (pa ai (pa ac (pa (ap (pa ai ae)) (pa (ap (pa ai (pa ac (pa fj ae)))) ae))))) (pa (pv 4) ae))
 case N24=>exact pxK K (pv 11) ac (fun _ _=>rfl)
 case' N1p=>refine' ah ?N25
 case' N25=>refine' aC (ak eg (am aE (am ay (pv 6) ac) ac) ac (aq _)) ?N26 ?N27
 case' N26=>refine' ah (ar ?N29)
 case N29=>exact fm (ax hr) (pv 12) (ap (pa ai (pa ac ae))) (aq _)
 case' N27=>refine' ah ?N2a
 case' N2a=>refine' aC ?N2b ?N2c aw
 case' N2b=>refine' PW.pt ?N2d
 case' N2d=>refine' eB (ak (ax hr) (pv 12) (ap (pa ai ae)) (aq _)) ?N2e
 case' N2e=>refine' dR ?N2f
 case' N2f=>refine' ak (ax hr) ?N2g ai (aq _)
 case N2g=>exact pxK K (pv 12) ac (fun _ _=>rfl)
 case' N2c=>refine' ah ?N2h
 case N2h=>exact ar fj
 case' N1f=>refine' ah ?N2i
 case N2i=>exact ar fj
 refine ⟨_,rfl,a,ns,0,rfl,hS,by decide,fun c0=>.inr ⟨_,_,rfl,rfl,.inr ⟨by decide,by decide⟩,_,_,rfl,rfl,(zp 1000000000039),?_⟩⟩
 dsimp only
 generalize c0 * 6364136223846793005 % 1000000000039=cell
 refine ⟨_,rfl,_,rfl,fun wl ws H1 o1 hwl0 hwl l5=>?_⟩
 have hS1:SqL K H1 a (ns.map V.int):=o1.gr.seq (fun z=>z) hS
 dsimp only [aX]
 refine bg (cell / 20 % 4=3) (fun R hR=>⟨_,rfl,_,_,rfl,rfl,.inl ⟨by decide,by decide⟩,_,_,rfl,rfl,(zp 4),.inr (.inl ⟨rfl,_,rfl,by rw [cg];exact hR⟩)⟩) (fun _=>?_) (fun _=>?_)
 ·exact ⟨_,rfl,_,_,rfl,rfl,.inl ⟨by decide,by decide⟩,_,rfl,_,rfl,a,ns,1,rfl,hS1,by decide,fun c1=>⟨_,_,rfl,rfl,(zp 9900),_,_,wl,ws,rfl,hwl,l5,Int.emod_nonneg _ (by decide),Int.emod_lt_of_pos _ (by decide),fun H'=>q H'⟩⟩
 refine ⟨_,rfl,_,rfl,a,ns,1,rfl,hS1,by decide,fun c1=>⟨_,_,rfl,rfl,(zp 9973),_,rfl,_,rfl,_,_,rfl,rfl,(zp 2),sz 6,fun d hd=>?_⟩⟩
 dsimp only
 generalize c1 % 9973=b
 generalize cell % 2=fl
 have o2:=Old.new (o:=.lst [.ref a,.int 2,.int b,.int 0,.ref wl,.int fl]) hd
 have ne:a=d→∀ H':Hp,SqL K H' a (ns.map V.int):=fun e H'=>by
  rcases hS1 with h | h
  ·rcases h with h | ⟨o,h⟩
   ·rw [e,hd] at h;cases h
   ·rw [e,hd] at h;cases h
  ·exact .inr h
 have D1:Dl K (upd H1 d (.lst [.ref a,.int 2,.int b,.int 0,.ref wl,.int fl])) d a wl ns ws 2 b 0 fl:=⟨ad,o2.gr.seq (fun z=>z) hS1,ne,o2 _ _ hwl,al hwl hd,by decide,l5⟩
 generalize upd H1 d (.lst [.ref a,.int 2,.int b,.int 0,.ref wl,.int fl])=H2 at D1 ⊢
 refine ⟨_,rfl,_,rfl,_,_,rfl,rfl,.inl ⟨by decide,by decide⟩,_,rfl,fun k kv H3 rk gk o3=>?_⟩
 refine fun e0 he0=>?_
 have o4:=Old.new (o:=.dK []) he0
 have D4:=(D1.old o3).old o4
 refine ⟨d,a,wl,e0,ns,ws,2,b,0,fl,k,kv,[],6,rfl,D4,rk.mono o4.tm,gk.mono (by omega),ad,(al (D1.old o3).hd he0).symm,fun p hp=>(nomatch hp),by decide,by decide,by decide,fun t tv H5 i5 c5 g5 D5 M5=>?_⟩
 have hw5:=D5.hw
 have ha5:=D5.ha
 have M5':Mk K H5 tv t 245 7:=M5
 clear D5 g5 M5 D4 D1
 dsimp only [aX]
 refine ⟨sz 6,fun ll hll=>⟨ll,rfl,.inl ⟨⟨_,SqL.of ad⟩,fun D9 hD9=>?_⟩⟩⟩
 have o6:=Old.new (o:=.lst ((["stray","a","zz","straying","let","b"]:List Str).map V.str)) hll
 have hl6:upd H5 ll (.lst ((["stray","a","zz","straying","let","b"]:List Str).map V.str)) ll=some (.lst ((["stray","a","zz","straying","let","b"]:List Str).map V.str)):=ad
 have hD9':upd H5 ll (.lst ((["stray","a","zz","straying","let","b"]:List Str).map V.str)) D9=none:=hD9
 have oD:=Old.new (o:=.lst []) hD9'
 have nDl:D9≠ll:=fun z=>by rw [z,hl6] at hD9';cases hD9'
 have hD5:H5 D9=none:=o6.free hD9'
 refine md (n:=6) (fun j σ H6=>∃ (k1:Option V) (ss:List Str),σ = [k1,some (.ref a),some (.int cell),some (.ref wl),some (.ref d),some tv,none,none,none,none,none,none,none,none]∧Old H5 H6∧H6 ll=some (.lst ((["stray","a","zz","straying","let","b"]:List Str).map V.str))∧H6 D9=some (.lst (ss.map V.str))∧ss.length≤j) ⟨none,[],rfl,o6.trans oD,oD _ _ hl6,ad,Nat.le_refl _⟩ ?_ ?_ ?_ ?_
 ·intro j σ H6 hj hv
  obtain ⟨k1,ss,rfl,oo,hl,_⟩:=hv
  exact ⟨_,_,SqL.of hl,List.getElem?_eq_getElem hj⟩
 ·intro σ H6 hv
  obtain ⟨k1,ss,rfl,oo,hl,_⟩:=hv
  exact ⟨_,SqL.of hl,Nat.le_refl _⟩
 ·intro j σ H6 hj hv y H7 hy
  obtain ⟨k1,ss,rfl,oo,hl,hD6,lss⟩:=hv
  obtain ⟨rfl,hyx⟩:=hy
  have ey:=hyx _ (SqL.of hl)
  rw [List.getElem?_map] at ey
  obtain ⟨z,ez,rfl⟩:=Option.map_eq_some_iff.mp ey
  refine ⟨_,rfl,_,rfl,wl,_,rfl,.inl (SqL.of (oo _ _ hw5)),rfl,rJ ws,_,rfl,?_⟩
  generalize (if true=true then !inV (V.str z) (ws.map V.str) else inV (V.str z) (ws.map V.str))=bb
  cases bb with
  | true=>exact br ⟨_,rfl,_,hD6,bA (by rw [List.length_map];omega),nx hj ⟨_,ss ++ [z],rfl,fun b x e=>by rw [aj (al e hD5)];exact oo b x e,by rw [aj nDl.symm];exact hl,by rw [ad,List.map_append];rfl,by rw [List.length_append];show ss.length+1≤j+1;omega⟩⟩
  | false=>exact bf (nx hj ⟨_,ss,rfl,oo,hl,hD6,by omega⟩)
 intro σ H6 hv
 obtain ⟨k1,ss,rfl,oo,_,hD6,lss⟩:=hv
 have hw6:=oo _ _ hw5
 have M6:=M5'.tm oo.tm
 have ha6:SqL K H6 a (ns.map V.int):=oo.gr.seq (fun z=>z) ha5
 dsimp only [aX]
 refine ⟨_,rfl,a,ns,2,rfl,ha6,by decide,fun c2=>.inr ⟨_,_,rfl,rfl,.inr ⟨by decide,by decide⟩,_,_,rfl,rfl,(zp 1000000000039),?_⟩⟩
 dsimp only [aX]
 have far0:0≤c2 * 6364136223846793005 % 1000000000039:=Int.emod_nonneg _ (by decide)
 generalize c2 * 6364136223846793005 % 1000000000039=far at far0 ⊢
 obtain ⟨n1,en1,n12⟩:∃ n1:Nat,cell / 2 % 3=(n1:Int)∧n1≤2:=by
  have b0:0≤cell / 2 % 3:=Int.emod_nonneg _ (by decide)
  have b1:cell / 2 % 3<3:=Int.emod_lt_of_pos _ (by decide)
  exact ⟨(cell / 2 % 3).toNat,by omega,by omega⟩
 obtain ⟨w1,w2,w3,w4,w5,rfl⟩:=qc l5
 refine ⟨_,rfl,_,_,rfl,rfl,.inl ⟨by decide,by decide⟩,_,_,rfl,rfl,(zp 3),n1,by show [V.int (cell / 2 % 3)]=_;rw [en1],by omega,by omega,ck (n:=n1) (fun i σ H7=>∃ (k7 k8:Option V) (t:Tk) (tv:V),σ = [some (.ref a),some (.int cell),some (.ref wl),some (.ref d),some tv,some (.ref D9),some (.int far),k7,k8,none,none,none,none]∧H7 wl=some (.lst (([w1,w2,w3,w4,w5]:List Str).map V.str))∧H7 D9=some (.lst (ss.map V.str))∧Mk K H7 tv t 245 7) ⟨none,none,t,tv,rfl,hw6,hD6,M6⟩ ?_ ?_⟩
 ·intro i σ H7 hi hv
  obtain ⟨k7,k8,t,tv,rfl,hw7,hD7,M7⟩:=hv
  refine ⟨_,rfl,_,rfl,_,rfl,.inl ⟨wl,_,rfl,SqL.of hw7,fun p1 hp1=>?_⟩⟩
  rw [show im (([w1,w2,w3,w4,w5]:List Str).map V.str) none (some 3)=([w1,w2,w3]:List Str).map V.str from rfl]
  have o8:=Old.new (o:=.lst (([w1,w2,w3]:List Str).map V.str)) hp1
  refine .inr (Ap ⟨D9,p1,_,_,rfl,rfl,o8 _ _ hD7,ad,by rw [List.length_map];exact Nat.le_of_lt (bA (by show ss.length+3≤1000000;omega)),fun l2 hl2=>?_⟩)
  have o9:=Old.new (o:=.lst (ss.map V.str ++ ([w1,w2,w3]:List Str).map V.str)) hl2
  have h9:upd (upd H7 p1 (.lst (([w1,w2,w3]:List Str).map V.str))) l2 (.lst (ss.map V.str ++ ([w1,w2,w3]:List Str).map V.str)) l2=some (.lst ((ss ++ [w1,w2,w3]).map V.str)):=by rw [ad,List.map_append]
  have o79:=o8.trans o9
  dsimp only [aX]
  have lmm:(0:Int)<(((ss ++ [w1,w2,w3]).map V.str).length:Int):=by
   rw [List.length_map,List.length_append]
   show (0:Int)<((ss.length+3:Nat):Int)
   omega
  obtain ⟨nm,enm,_⟩:=b9 (ss:=ss ++ [w1,w2,w3]) (i:=(cell / 7+(0+(i:Int))) % (((ss ++ [w1,w2,w3]).map V.str).length:Int)) (Int.emod_nonneg _ (by omega)) (by have:=Int.emod_lt_of_pos (cell / 7+(0+(i:Int))) lmm;rw [List.length_map] at this ⊢;exact this)
  clear o9
  revert h9 o79
  generalize upd (upd H7 p1 (.lst (([w1,w2,w3]:List Str).map V.str))) l2 (.lst (ss.map V.str ++ ([w1,w2,w3]:List Str).map V.str))=H9
  intro h9 o79
  refine ⟨_,rfl,_,rfl,_,rfl,.inr ⟨_,_,rfl,rfl,.inl ⟨by decide,by decide⟩,.inr (.inl ⟨_,_,rfl,rfl,_,_,rfl,rfl,.inl ⟨by show (0:Int)<1+30 * (0+(i:Int));omega,by show 1+30 * (0+(i:Int))<1073741824;omega⟩,_,_,rfl,rfl,(zp 9),.inr (.inl ⟨_,_,rfl,rfl,?_⟩)⟩)⟩⟩
  refine ⟨_,rfl,_,rfl,_,_,rfl,rfl,.inl ⟨by decide,by decide⟩,_,rfl,.inr (.inl ⟨_,_,rfl,rfl,_,rfl,.inl ⟨l2,_,rfl,.inl (SqL.of h9),_,_,rfl,rfl,lmm,.inl ⟨l2,_,_,.str nm,rfl,rfl,SqL.of h9,enm,sz 2,fun bx hbx=>?_⟩⟩⟩)⟩
  have o10:=Old.new (o:=.lst [.int (1+far / (1+30 * (0+(i:Int))) % 9),.str nm]) hbx
  have M10:=(M7.tm o79.tm).tm o10.tm
  refine ⟨tv,bx,t,_,nm,rfl,M10.r,M10.mp.wf,M10.mp.ok,M10.mp.dos,M10.mp.dep,Nat.le_trans M10.mp.dep (by decide),ad,fun t' v' H' n' g' hb' M'=>?_⟩
  have nwb:wl≠bx:=al (o79 _ _ hw7) hbx
  have nDb:D9≠bx:=al (o79 _ _ hD7) hbx
  exact ⟨_,_,t',v',rfl,g' _ _ (o10 _ _ (o79 _ _ hw7)) nwb,g' _ _ (o10 _ _ (o79 _ _ hD7)) nDb,M'.up M10.mp.cnt M10.mp.dep⟩
 intro σ H7 hv
 obtain ⟨k7,k8,t,tv,rfl,hw7,hD7,M7⟩:=hv
 dsimp only [aX]
 refine ⟨sz 1,fun k0 hk0=>?_⟩
 have o8:=Old.new (o:=.tup [.str "?"]) hk0
 have M8:=M7.tm o8.tm
 have rk8:RK K (upd H7 k0 (.tup [.str "?"])) qK.d (.ref k0):=RK.tup (.of ad) (.cons (.s _) .nil)
 generalize upd H7 k0 (.tup [.str "?"])=H8 at M8 rk8 ⊢
 dsimp only [aX]
 obtain ⟨n2,en2,n25⟩:∃ n2:Nat,far / 1000 % 6=(n2:Int)∧n2≤5:=by
  have b0:0≤far / 1000 % 6:=Int.emod_nonneg _ (by decide)
  have b1:far / 1000 % 6<6:=Int.emod_lt_of_pos _ (by decide)
  exact ⟨(far / 1000 % 6).toNat,by omega,by omega⟩
 refine ⟨_,rfl,_,_,rfl,rfl,.inl ⟨by decide,by decide⟩,_,_,rfl,rfl,(zp 6),n2,by show [V.int (far / 1000 % 6)]=_;rw [en2],by omega,by omega,ck (n:=n2) (fun i σ H9=>∃ (k7:Option V) (kk:Kn) (kvv:V),σ = [some (.ref a),some (.int cell),some (.ref wl),some (.ref d),some tv,some (.ref D9),some (.int far),k7,k8,some kvv,none,none,none]∧Mk K H9 tv t 245 7∧RK K H9 kk.d kvv∧kk.wf∧kk.dep=1+i) ⟨k7,qK,.ref k0,rfl,M8,rk8,dh.wf,rfl⟩ ?_ ?_⟩
 ·intro i σ H9 hi hv
  obtain ⟨k7,kk,kvv,rfl,M9,rk9,wk,dk⟩:=hv
  refine ⟨_,rfl,sz 1,fun r1 h1=>⟨sz 3,fun r2 h2=>⟨_,rfl,sz 2,fun r3 h3=>⟨sz 1,fun r4 h4=>⟨_,rfl,sz 3,fun r5 h5=>⟨sz 3,fun r6 h6=>?_⟩⟩⟩⟩⟩⟩
  have v1:Old H9 (upd H9 r1 (.tup [.str "?"])):=Old.new h1
  have v2:=Old.new (o:=.tup [.str "to",kvv,.ref r1]) h2
  have v3:=Old.new (o:=.tup [.str "row",kvv]) h3
  have v4:=Old.new (o:=.tup [.str "?"]) h4
  have v5:=Old.new (o:=.tup [.str "pair",.ref r4,kvv]) h5
  have v6:=Old.new (o:=.lst [.ref r2,.ref r3,.ref r5]) h6
  have vv:=((((v1.trans v2).trans v3).trans v4).trans v5).trans v6
  have rkv:=rk9.mono vv.tm
  have e3:∀ z:Int,0≤z→z<3→∃ (k':Kn) (v':V),atI [V.ref r2,.ref r3,.ref r5] z=some v'∧RK K (upd (upd (upd (upd (upd (upd H9 r1 (.tup [.str "?"])) r2 (.tup [.str "to",kvv,.ref r1])) r3 (.tup [.str "row",kvv])) r4 (.tup [.str "?"])) r5 (.tup [.str "pair",.ref r4,kvv])) r6 (.lst [.ref r2,.ref r3,.ref r5])) k'.d v'∧k'.wf∧k'.dep=1+(i+1):=fun z z0 z3=>by
   have eq1:qK.dep=1:=rfl
   have c:z=0∨z=1∨z=2:=by omega
   rcases c with c | c | c <;> subst c
   ·refine ⟨.mk "to" [kk,qK],.ref r2,rfl,RK.tup (.of (v6 _ _ (v5 _ _ (v4 _ _ (v3 _ _ ad))))) (.cons (.s _) (.cons rkv (.cons (RK.tup (.of (v6 _ _ (v5 _ _ (v4 _ _ (v3 _ _ (v2 _ _ ad)))))) (.cons (.s _) .nil)) .nil))),⟨by show bO "to" = some 2;decide +kernel,wk,dh.wf,trivial⟩,?_⟩
    show 1+max kk.dep (max qK.dep 0)=_
    omega
   ·refine ⟨.mk "row" [kk],.ref r3,rfl,RK.tup (.of (v6 _ _ (v5 _ _ (v4 _ _ ad)))) (.cons (.s _) (.cons rkv .nil)),⟨by show bO "row" = some 1;decide +kernel,wk,trivial⟩,?_⟩
    show 1+max kk.dep 0=_
    omega
   ·refine ⟨.mk "pair" [qK,kk],.ref r5,rfl,RK.tup (.of (v6 _ _ ad)) (.cons (.s _) (.cons (RK.tup (.of (v6 _ _ (v5 _ _ ad))) (.cons (.s _) .nil)) (.cons rkv .nil))),⟨by show bO "pair" = some 2;decide +kernel,dh.wf,wk,trivial⟩,?_⟩
    show 1+max qK.dep (max kk.dep 0)=_
    omega
  obtain ⟨k',v',ev',rk',wk',dk'⟩:=e3 ((cell+(0+(i:Int))) % 3) (Int.emod_nonneg _ (by decide)) (Int.emod_lt_of_pos _ (by decide))
  exact ⟨_,rfl,_,rfl,.inr (.inl ⟨_,_,rfl,rfl,_,_,rfl,rfl,(zp 3),.inl ⟨r6,_,_,v',rfl,rfl,SqL.of ad,ev',_,k',v',rfl,M9.tm vv.tm,rk',wk',dk'⟩⟩)⟩
 intro σ H9 hv
 obtain ⟨k7',kk,kvv,rfl,M9,rk9,wk,dk⟩:=hv
 dsimp only [aX]
 refine ⟨_,rfl,_,rfl,sz 4,fun q0 hq0=>?_⟩
 have o10:=Old.new (o:=.tup [.str "as",.int 9990,kvv,tv]) hq0
 have M10:=mj (K:=K) (k:=kk) (m:=6) (by decide) (by decide) ⟨wk,by omega⟩ (by decide) M9.mp (ad (a:=q0) (o:=.tup [.str "as",.int 9990,kvv,tv])) (rk9.mono o10.tm) (M9.r.mono o10.tm)
 have dp10:4<kk.dep→∀ e,(Tk.mk "as" 9990 [] [kk] [t]).lk e = .error (Rf.deep 9990):=fun h=>uk h
 generalize upd H9 q0 (.tup [.str "as",.int 9990,kvv,tv])=H10 at M10 ⊢
 dsimp only [aX]
 refine ⟨2,rfl,by decide,by decide,ck (n:=2) (fun i σ H1=>∃ (k10 k11 k12:Option V) (t:Tk) (tv:V),σ = [some (.ref a),some (.int cell),some (.ref wl),some (.ref d),some tv,some (.ref D9),some (.int far),k7',k8,some kvv,k10,k11,k12]∧Mk K H1 tv t (246+3 * i) (8+i)∧(4<kk.dep→∀ e,t.lk e = .error (Rf.deep 9990))) ⟨none,none,none,_,.ref q0,rfl,M10.up (by decide) (by decide),dp10⟩ ?_ ?_⟩
 ·intro i σ H1 hi hv
  obtain ⟨k10,k11,k12,t,tv,rfl,M1',dp⟩:=hv
  refine ⟨_,rfl,fun e0 he0=>?_⟩
  have o2:=Old.new (o:=.dK []) he0
  have M2:=M1'.tm o2.tm
  refine ⟨tv,e0,t,[],[],rfl,M2.r,M2.mp.wf,M2.mp.ok,Nat.le_trans M2.mp.dep (by omega),ad,Aw,by have:=M2.mp.dep;show 0+3 * _≤900;omega,fun dv H3 o3 rdv=>?_⟩
  have M3:=M2.tm o3.tm
  have L3:Lkp t:=⟨M3.mp.wf,M3.mp.ok,M3.mp.dos,Nat.le_trans M3.mp.cnt (by omega),Nat.le_trans M3.mp.dep (by omega)⟩
  dsimp only [aX]
  refine ⟨_,rfl,tv,t,rfl,M3.r,L3,fun av H4 o4 rav=>?_⟩
  have M4:=M3.tm o4.tm
  have rdv4:=rdv.mono o4.tm
  dsimp only [aX]
  cases efr:t.tn.frees [] with
  | nil=>
    rw [efr] at rdv4 rav
    have e':dv = .non:=rdv4
    subst e'
    refine bK False (fun R hR=>⟨_,rfl,rfl,_,rfl,hR⟩) (fun z=>z.elim) (fun _=>?_)
    refine bK (3<far / 1000 % 6) (fun R hR=>⟨_,rfl,_,_,rfl,rfl,.inl ⟨by decide,by decide⟩,_,_,rfl,rfl,(zp 6),_,_,rfl,rfl,_,rfl,hR⟩) (fun c=>?_) (fun c=>?_)
    ·rw [dp (by omega) nv0] at rav
     refine ⟨_,rfl,sz 2,fun z hz=>?_⟩
     have o5:=Old.new (o:=.tup [.str "deep",.int 9990]) hz
     refine .inl ⟨[.str "deep",.int 9990],[.str "deep",.int 9990],(show RK K H4 (.tup [.str "deep",.int 9990]) av from rav).mono o5.tm,RK.tup (.of ad) (.cons (.s _) (.cons (.i _) .nil)),gM _ _,?_⟩
     rw [cK]
     exact q _
    ·obtain ⟨hh,rr,eA,nO,nF,dq⟩:=t7 (t.lk nv0)
     rw [eA] at rav
     refine ⟨_,rfl,sz 1,fun z hz=>?_⟩
     have o5:=Old.new (o:=.tup [.str "other"]) hz
     have rav5:=rav.mono o5.tm
     obtain ⟨aa,aus,rfl,haa,_⟩:=RK.kind rav5
     refine .inl ⟨_,[.str "other"],rav5,RK.tup (.of ad) (.cons (.s _) .nil),dq,_,rfl,?_⟩
     rw [show dX (Dk.str hh :: rr) [.str "other"]=false from by
      show ((hh == ("other":Str)) && _)=false
      rw [show (hh == ("other":Str))=false from beq_eq_false_iff_ne.mpr nO]
      rfl]
     refine bf ⟨_,rfl,.inr (.inl ⟨aa,_,0,.str hh,rfl,rfl,haa.sq,at0,.inr (.inl ⟨rfl,_,rfl,?_⟩)⟩)⟩
     rw [ba,decide_eq_false nF]
     exact bf ⟨_,_,_,t,tv,rfl,(M4.tm o5.tm).up (by omega) (by omega),dp⟩
  | cons pn rest=>
    obtain ⟨pp,nn⟩:=pn
    rw [efr] at rdv4 rav
    have rdv5:RK K H4 (.tup [.int pp,.str nn]) dv:=rdv4
    have rav5:RK K H4 (.tup [.str "free",.int pp]) av:=rav
    obtain ⟨da,dus,rfl,hda,u1,r1,rfl,ru1,u2,r2,rfl,ru2,er⟩:=RK.get rdv5
    have e1:u1 = .int pp:=ru1
    have e2:u2 = .str nn:=ru2
    have e3:r2 = []:=er
    subst e1 e2 e3
    refine bK True (fun R hR=>⟨_,rfl,rfl,_,rfl,hR⟩) (fun _=>?_) (fun z=>(z trivial).elim)
    refine kW ?_
    refine ⟨_,rfl,_,rfl,.inr (.inl ⟨da,_,0,.int pp,rfl,rfl,hda.sq,at0,sz 2,fun z hz=>?_⟩)⟩
    have o5:=Old.new (o:=.tup [.str "free",.int pp]) hz
    refine .inl ⟨[.str "free",.int pp],[.str "free",.int pp],rav5.mono o5.tm,RK.tup (.of ad) (.cons (.s _) (.cons (.i _) .nil)),gM _ _,_,rfl,?_⟩
    rw [cK]
    refine bf ?_
    have M5:=M4.tm o5.tm
    have hda5:=hda.mono o5.tm
    generalize upd H4 z (.tup [.str "free",.int pp])=H5 at M5 hda5 ⊢
    refine ⟨_,rfl,.inr (.inl ⟨da,_,1,.str nn,rfl,rfl,hda5.sq,at1,sz 1,fun q1 hq1=>⟨sz 3,fun q2 hq2=>⟨sz 4,fun q3 hq3=>⟨_,rfl,sz 5,fun q4 hq4=>?_⟩⟩⟩⟩)⟩
    have v1:Old H5 (upd H5 q1 (.tup [.str "?"])):=Old.new hq1
    have v2:=Old.new (o:=.tup [.str "truth",.int 9993,.bl true]) hq2
    have v3:=Old.new (o:=.tup [.str "as",.int 9992,.ref q1,.ref q2]) hq3
    have v4:=Old.new (o:=.tup [.str "let",.int 9991,.str nn,.ref q3,tv]) hq4
    have Mt:Mk K (upd (upd H5 q1 (.tup [.str "?"])) q2 (.tup [.str "truth",.int 9993,.bl true])) (.ref q2) (.mk "truth" 9993 [.bl true] [] []) 1 1:=cw (by nofun) (by decide) (by decide) rfl (fun z=>absurd z (by nofun)) (RK.tup (.of ad) (.cons (.s _) (.cons (.i _) (.cons (.b _) .nil))))
    have rq:RK K (upd H5 q1 (.tup [.str "?"])) qK.d (.ref q1):=RK.tup (.of ad) (.cons (.s _) .nil)
    have Ma:=mj (K:=K) (k:=qK) (m:=1) (by decide) (by decide) dh (by decide) Mt.mp (ad (a:=q3) (o:=.tup [.str "as",.int 9992,.ref q1,.ref q2])) ((rq.mono v2.tm).mono v3.tm) (Mt.r.mono v3.tm)
    have w8:=made (x:="let") (p:=9991) (fr:=[.str nn]) (ks:=[]) (ps:=[.mk "as" 9992 [] [qK] [.mk "truth" 9993 [.bl true] [] []],t]) (c:=246+3 * i) (d:=8+i) (by nofun) (by nofun) aK.1.1.symm aK.1.2.1.symm (fun _=>aK.1.2.2.symm) (by show 2≤4;decide) (fun _=>⟨[nn],rfl⟩) (by decide) (by decide) (d0 [nn]) (fun k hk=>nomatch hk) (fun z=>absurd z (by nofun)) (qp (Ma.mp.up (by omega) (by omega)) M5.mp)
    have v24:=((v1.trans v2).trans v3).trans v4
    refine ⟨_,_,_,.mk "let" 9991 [.str nn] [] [.mk "as" 9992 [] [qK] [.mk "truth" 9993 [.bl true] [] []],t],.ref q4,rfl,⟨RK.tup (.of ad) (.cons (.s _) (.cons (.i _) (.cons (.s _) (.cons (Ma.r.mono v4.tm) (.cons (M5.r.mono v24.tm) .nil))))),w8.wf,w8.ok,w8.dos,?_,Nat.le_trans w8.dep (by omega)⟩,fun h=>se (dp h)⟩
    have:=M5.mp.cnt
    show 1+((1+(1+0+0))+(t.cnt+0))≤_
    omega
 ·intro σ H1 hv
  exact q H1
theorem none_of {k:Nat} {ps:List Str} {sp:Sp} (no:∀ vs H Q E,¬ sp vs H Q E):aY P w K mg base CX0 k f fd ps sp:=⟨fun vs H Q E h=>absurd h (no vs H Q E),fun A outer s H args us vs Q E _ _ _ _ h=>absurd h (no vs H Q E)⟩
theorem sA:∀ vs H Q E,¬ eG K 0 vs H Q E:=fun vs H Q E h=>by
 obtain ⟨v,t,_,_,_,h1,_⟩:=h
 omega
theorem mY:∀ vs H Q E,¬ cM K 0 vs H Q E:=fun vs H Q E h=>by
 obtain ⟨x,y,a,b,_,_,_,_,_,h1,_⟩:=h
 omega
theorem uI:∀ vs H Q E,¬ eT K 0 vs H Q E:=fun vs H Q E h=>by
 obtain ⟨x,y,a,b,_,_,_,_,_,h1,_⟩:=h
 omega
theorem yX {C:Addr}:∀ vs H Q E,¬ qH K C 0 vs H Q E:=fun vs H Q E h=>by
 obtain ⟨v,y,t,bs,_,_,_,_,h1,_⟩:=h
 omega
theorem uH {C Cp Ct:Addr}:∀ vs H Q E,¬ fZ K C Cp Ct 0 vs H Q E:=fun vs H Q E h=>by
 obtain ⟨L,kd,wd,b,ks,ws,kvs,tv,t,e,bs,_,_,_,_,_,_,_,_,_,_,_,h1,_⟩:=h
 cases t
 exact absurd h1 (by show ¬ 1+_≤0;omega)
theorem uK:∀ vs H Q E,¬ eC K 0 vs H Q E:=fun vs H Q E h=>by
 obtain ⟨d,a,wl,nd,ns,ws,i,b,c,fl,cell,k,kv,kvs,_,_,_,_,h1,_⟩:=h
 obtain ⟨hh,ks⟩:=k
 have:1≤(Kn.mk hh ks).lm:=by
  show 1≤(if hh = "whole"∨hh = "truth" then 1 else (Kn.mk hh ks).dep+1)
  split <;> omega
 omega
theorem uL:∀ vs H Q E,¬ du K 0 vs H Q E:=fun vs H Q E h=>by
 obtain ⟨d,a,wl,nd,ns,ws,i,b,c,fl,k,kv,kvs,r,_,_,_,_,_,_,_,_,h1,_⟩:=h
 omega
theorem yY:∀ vs H Q E,¬ nU K 0 vs H Q E:=fun vs H Q E h=>by
 obtain ⟨v,bx,t,n,nm,_,_,_,_,_,h1,_⟩:=h
 cases t
 exact absurd h1 (by show ¬ 1+_≤0;omega)
theorem yW:∀ vs H Q E,¬ qD K 0 vs H Q E:=fun vs H Q E h=>by
 obtain ⟨v,b,t,kvs,bs,_,_,_,_,h1,_⟩:=h
 cases t
 exact absurd h1 (by show ¬ 1+_≤0;omega)
theorem cA {x:Str} {ps:List Str} {sp:Nat→Sp} (lv:Nat→Nat) (b:aI K fd ps []) (kp:W.keepIn K (.ref f)=true) (m:mg x=some (.ref f)) (no:∀ vs H Q E,¬ sp 0 vs H Q E)
 (step:∀ n,Cal P w K mg base x ps (lv n) (sp n)→aY P w K mg base CX0 (lv (n+1)) f fd ps (sp (n+1))):∀ n,Cal P w K mg base x ps (lv n) (sp n)
 | 0=>⟨⟨f,fd,none_of no,b,kp,m⟩⟩
 | n+1=>⟨⟨f,fd,step n (cA lv b kp m no step n),b,kp,m⟩⟩
def bJ (K:W.Frag) (x:Str) (st:Stmt):Prop:=∃ f fd,Fun K x x st f fd∧W.nsIn K mainGlobals x=some (some (.ref f))
theorem here_mk {K:W.Frag} {x:Str} {st:Stmt} {f:Addr} {od an:Option Addr} {sl:Array (Option Value)} {oc kV dc pm cd ct:Value} (a:W.nsIn K mainGlobals x=some (some (.ref f)))
 (l:K.lookup f=some ⟨oc,od,.func (W.fnOf x x (cb st) (bT st) (au st) .none kV dc pm an cd ct),sl⟩) (c:W.codeIn K cd x=true) (k:W.keepIn K (.ref f)=true):bJ K x st:=⟨f,_,eQ l c k,a⟩
def gm (K:W.Frag):Prop:=∃ ua,W.nsIn K mainGlobals "ALL_STEPS" = some (some (.ref ua))∧Kt K ua [.str "arg",.str "res",.str "item",.str "one",.str "two"]
theorem DY {K:W.Frag} {ua:Addr} {od:Option Addr} {n:Nat} {t0 t1 t2 t3 t4:Tok} {sl:Array (Option Value)} (a:W.nsIn K mainGlobals "ALL_STEPS" = some (some (.ref ua))) (l:K.lookup ua=some ⟨.type "tuple",od,.seq #[.str "arg" t0,.str "res" t1,.str "item" t2,.str "one" t3,.str "two" t4] n,sl⟩):gm K:=
 ⟨ua,a,_,_,n,l,rfl,rfl,sz 5,.cons ⟨t0,rfl⟩ (.cons ⟨t1,rfl⟩ (.cons ⟨t2,rfl⟩ (.cons ⟨t3,rfl⟩ (.cons ⟨t4,rfl⟩ (.nil)))))⟩
def lA (K:W.Frag):Prop:=∃ ua,W.nsIn K mainGlobals "UNTOLD" = some (some (.ref ua))∧Kt K ua [.str "?"]
theorem Gq {K:W.Frag} {ua:Addr} {od:Option Addr} {n:Nat} {tk:Tok} {sl:Array (Option Value)} (a:W.nsIn K mainGlobals "UNTOLD" = some (some (.ref ua))) (l:K.lookup ua=some ⟨.type "tuple",od,.seq #[.str "?" tk] n,sl⟩):lA K:=
 ⟨ua,a,_,_,n,l,rfl,rfl,sz 1,.cons ⟨tk,rfl⟩ .nil⟩
def oq (K:W.Frag):Prop:=∃ ua,W.nsIn K mainGlobals "WHOLE" = some (some (.ref ua))∧Kt K ua [.str "whole"]
theorem G5 {K:W.Frag} {ua:Addr} {od:Option Addr} {n:Nat} {tk:Tok} {sl:Array (Option Value)} (a:W.nsIn K mainGlobals "WHOLE" = some (some (.ref ua))) (l:K.lookup ua=some ⟨.type "tuple",od,.seq #[.str "whole" tk] n,sl⟩):oq K:=
 ⟨ua,a,_,_,n,l,rfl,rfl,sz 1,.cons ⟨tk,rfl⟩ .nil⟩
def om (K:W.Frag):Prop:=∃ ua,W.nsIn K mainGlobals "TRUTH" = some (some (.ref ua))∧Kt K ua [.str "truth"]
theorem G4 {K:W.Frag} {ua:Addr} {od:Option Addr} {n:Nat} {tk:Tok} {sl:Array (Option Value)} (a:W.nsIn K mainGlobals "TRUTH" = some (some (.ref ua))) (l:K.lookup ua=some ⟨.type "tuple",od,.seq #[.str "truth" tk] n,sl⟩):om K:=
 ⟨ua,a,_,_,n,l,rfl,rfl,sz 1,.cons ⟨tk,rfl⟩ .nil⟩
def oj (K:W.Frag):Prop:=∃ fa,W.nsIn K mainGlobals "STEPS" = some (some (.ref fa))∧KTD.tabLook (jG K) (fun b=>K.lookup b) fa fB=true
theorem G3 {K:W.Frag} {fa:Addr} (a:W.nsIn K mainGlobals "STEPS" = some (some (.ref fa))) (h:KTD.tabLook (jG K) (fun b=>K.lookup b) fa fB=true):oj K:=⟨fa,a,h⟩
def oi (K:W.Frag):Prop:=∃ fa,W.nsIn K mainGlobals "FORMS" = some (some (.ref fa))∧KTD.tabLook (gC K) (fun b=>K.lookup b) fa K11.table=true
theorem G2 {K:W.Frag} {fa:Addr} (a:W.nsIn K mainGlobals "FORMS" = some (some (.ref fa))) (h:KTD.tabLook (gC K) (fun b=>K.lookup b) fa K11.table=true):oi K:=⟨fa,a,h⟩
def eV (K:W.Frag):Prop:=∃ fa,W.nsIn K mainGlobals "SURE_KINDS" = some (some (.ref fa))∧KTD.tabLook (bZ K) (fun b=>K.lookup b) fa dSK=true
theorem Dw {K:W.Frag} {fa:Addr} (a:W.nsIn K mainGlobals "SURE_KINDS" = some (some (.ref fa))) (h:KTD.tabLook (bZ K) (fun b=>K.lookup b) fa dSK=true):eV K:=⟨fa,a,h⟩
def gj (K:W.Frag):Prop:=∃ fa,W.nsIn K mainGlobals "TAKEN_OUT" = some (some (.ref fa))∧KTD.tabLook (bZ K) (fun b=>K.lookup b) fa dTO=true
theorem DX {K:W.Frag} {fa:Addr} (a:W.nsIn K mainGlobals "TAKEN_OUT" = some (some (.ref fa))) (h:KTD.tabLook (bZ K) (fun b=>K.lookup b) fa dTO=true):gj K:=⟨fa,a,h⟩
def lq (K:W.Frag):Prop:=∃ fa,W.nsIn K mainGlobals "NEEDED" = some (some (.ref fa))∧KTD.tabLook (bZ K) (fun b=>K.lookup b) fa dND=true
theorem Gp {K:W.Frag} {fa:Addr} (a:W.nsIn K mainGlobals "NEEDED" = some (some (.ref fa))) (h:KTD.tabLook (bZ K) (fun b=>K.lookup b) fa dND=true):lq K:=⟨fa,a,h⟩
def eY (K:W.Frag):Prop:=∃ tk,W.nsIn K mainGlobals "MOST_DEPTH" = some (some (.int 4 tk))
theorem Dp {K:W.Frag} {tk:Tok} (a:W.nsIn K mainGlobals "MOST_DEPTH" = some (some (.int 4 tk))):eY K:=⟨tk,a⟩
theorem wq {P:Program} {w:World} {K:W.Frag} {mg:Str→Option Value} {base:Heap} {f:Addr} {fd:FuncData} {k:Nat} {ps:List Str} {sp:Sp} (no:∀ vs H Q E,¬ sp vs H Q E):aY P w K mg base (CXF P w) k f fd ps sp:=⟨fun vs H Q E h=>absurd h (no vs H Q E),fun A outer s H args us vs Q E _ _ _ _ h=>absurd h (no vs H Q E)⟩
theorem jq {P:Program} {w:World} {K:W.Frag} {mg:Str→Option Value} {base:Heap} {f:Addr} {fd:FuncData} {x:Str} {ps:List Str} {sp:Nat→Sp} (lv:Nat→Nat) (b:aI K fd ps []) (kp:W.keepIn K (.ref f)=true) (m:mg x=some (.ref f)) (no:∀ vs H Q E,¬ sp 0 vs H Q E)
 (step:∀ n,dw P w K mg base x ps (lv n) (sp n)→aY P w K mg base (CXF P w) (lv (n+1)) f fd ps (sp (n+1))):∀ n,dw P w K mg base x ps (lv n) (sp n)
 | 0=>⟨⟨f,fd,wq no,b,kp,m⟩⟩
 | n+1=>⟨⟨f,fd,step n (jq lv b kp m no step n),b,kp,m⟩⟩
theorem ie {P:Program} {w:World} {K:W.Frag} {mg:Str→Option Value} {base:Heap} {f C:Addr} {fd:FuncData} {x:Str} {ps:List Str} {sp:Nat→Sp} (lv:Nat→Nat) (b:aI K fd ps []) (M:j6 K C x f) (no:∀ vs H Q E,¬ sp 0 vs H Q E)
 (step:∀ n,eL P w K mg base C x ps (lv n) (sp n)→aY P w K mg base (CXF P w) (lv (n+1)) f fd ps (sp (n+1))):∀ n,eL P w K mg base C x ps (lv n) (sp n)
 | 0=>⟨⟨f,fd,wq no,b,M⟩⟩
 | n+1=>⟨⟨f,fd,step n (ie lv b M no step n),b,M⟩⟩
structure XD (K:W.Frag) (C fI:Addr) (qn:Str) (sti:Stmt):Prop where
 own:gJ K C fI veB "ValueError.__new__"
 ini:∃ fd,Fun K "__init__" qn sti fI fd
 st:jg K C
 kp:W.keepIn K (.ref C)=true
 ty:W.typeIn K (.ref C)=some (.type "type")
 be:W.mroIn K C (.type "BaseException")=some true
theorem xd_mk {K:W.Frag} {C B fI Cp Ct Cn:Addr} {qn:Str} {st:Stmt} {bp bt bn:Bool} {nm q:Str} {N:Addr} {bs bm:List Value} {hdct:Bool} {sn:List Str} {sub:List Value} {ab:Bool} {col:Option Bool} {dd:Option Addr} {k0 k1 k2 k3 k5:Option Value} {ofd anf:Option Addr} {slf:Array (Option Value)} {ocf kVf dcf pmf cdf ctf:Value}
 (l:K.lookup C=some (excClassObj nm q C N bs bm hdct sn sub ab col dd k0 k1 k2 k3 k5 "ValueError.__new__")) (t:W.tailIn K [.type "ValueError",.type "Exception",.type "BaseException",.type "object"] bm=true) (ini:W.findIn K (.ref C) "__init__" = some (some (.ref fI))) (fl:K.lookup fI=some ⟨ocf,ofd,.func (W.fnOf "__init__" qn (cb st) (bT st) (au st) .none kVf dcf pmf anf cdf ctf),slf⟩) (fn:W.isFn K (.ref fI)=true) (fc:W.codeIn K cdf qn=true) (fk:W.keepIn K (.ref fI)=true) (ga:W.findIn K (.ref C) "__getattribute__" = some (some (.builtin "BaseException.__getattribute__"))) (gn:W.findIn K (.ref C) "__getattr__" = some none) (cl:W.findIn K (.ref C) "__class__" = some (some (.builtin "object.__class__"))) (sg:W.specialIn K (.builtin "object.__class__") "__get__" = some (some (.builtin "getset_descriptor.__get__"))) (tk:W.takesIn K (.builtin "object.__class__")=some true) (ob:W.mroIn K C (.type "object")=some true) (be:W.mroIn K C (.type "BaseException")=some true) (is:(W.clsIn K C).isSome=true) (kp:W.keepIn K (.ref C)=true) (tyC:W.typeIn K (.ref C)=some (.type "type")) (sa:W.findIn K (.ref C) "__setattr__" = some (some (.builtin "object.__setattr__"))) (ov:((W.clsIn K C).any fun cd=>mq veB cd.mro)=true) (hdc:((W.clsIn K C).any fun cd=>cd.hasDict)=true) (hh:W.hasDictIn K C=true) (hm:W.mroIn K C (.ref B)=some true) (ip:W.kitOne K (.ref C) (.ref Cp)=some bp) (it:W.kitOne K (.ref C) (.ref Ct)=some bt) (io:W.kitOne K (.ref C) (.ref Cn)=some bn):XD K C fI qn st∧Xd K B C Cp Ct Cn bp bt bn:=
 ⟨{ own:=⟨⟨nm,q,N,bs,bm,hdct,sn,sub,ab,col,dd,k0,k1,k2,k3,k5,l,t⟩,ini,fn⟩,ini:=⟨_,eQ fl fc fk⟩,st:=⟨sa,ov,hdc,ob⟩,kp:=kp,ty:=tyC,be:=be },{ hm:=hm,X:=⟨ga,gn,cl,sg,tk,ob,be,is⟩,hh:=hh,ip:=ip,it:=it,io:=io }⟩
structure XX (K:W.Frag) (Cp Ct Cn B fP fT fN:Addr):Prop where
 aP:W.nsIn K mainGlobals "Parted" = some (some (.ref Cp))
 aT:W.nsIn K mainGlobals "TooDeep" = some (some (.ref Ct))
 aN:W.nsIn K mainGlobals "NoName" = some (some (.ref Cn))
 aB:W.nsIn K mainGlobals "BlameError" = some (some (.ref B))
 xp:XD K Cp fP "Parted.__init__" kU
 xt:XD K Ct fT "TooDeep.__init__" kS
 xn:XD K Cn fN "NoName.__init__" kT
 yp:Xd K B Cp Cp Ct Cn true false false
 yt:Xd K B Ct Cp Ct Cn false true false
 yn:Xd K B Cn Cp Ct Cn false false true
 bc:ly K B
 bi:li K B
 f1P:W.findIn K (.ref Cp) "place" = some none
 f2P:W.findIn K (.ref Cp) "kind" = some none
 f3P:W.findIn K (.ref Cp) "by" = some none
 f4P:W.findIn K (.ref Cp) "wanted" = some none
 f5P:W.findIn K (.ref Cp) "way" = some none
 f1T:W.findIn K (.ref Ct) "place" = some none
 f1N:W.findIn K (.ref Cn) "place" = some none
def v7 (K:W.Frag):Prop:=∃ Cp Ct Cn B fP fT fN:Addr,XX K Cp Ct Cn B fP fT fN
theorem x_Cls {K:W.Frag} {Cp Ct Cn B fP fT fN:Addr}
 (aP:W.nsIn K mainGlobals "Parted" = some (some (.ref Cp))) (aT:W.nsIn K mainGlobals "TooDeep" = some (some (.ref Ct))) (aN:W.nsIn K mainGlobals "NoName" = some (some (.ref Cn))) (aB:W.nsIn K mainGlobals "BlameError" = some (some (.ref B))) (hP:XD K Cp fP "Parted.__init__" kU∧Xd K B Cp Cp Ct Cn true false false) (hT:XD K Ct fT "TooDeep.__init__" kS∧Xd K B Ct Cp Ct Cn false true false) (hN:XD K Cn fN "NoName.__init__" kT∧Xd K B Cn Cp Ct Cn false false true)
 (f1P:W.findIn K (.ref Cp) "place" = some none) (f2P:W.findIn K (.ref Cp) "kind" = some none) (f3P:W.findIn K (.ref Cp) "by" = some none) (f4P:W.findIn K (.ref Cp) "wanted" = some none) (f5P:W.findIn K (.ref Cp) "way" = some none) (f1T:W.findIn K (.ref Ct) "place" = some none) (f1N:W.findIn K (.ref Cn) "place" = some none) (b1:W.typeIn K (.ref B)=some (.type "type")) (b2:(W.clsIn K B).isSome=true) (b3:W.mroIn K B (.type "BaseException")=some true) (g1:W.specialIn K (.ref B) "__getattribute__" = some (some (.builtin "type.__getattribute__"))) (g2:W.readsIn K B (.type "type")=true) (g3:W.findCls K (.ref B) (.type "type") "__init__" = some (.val (.builtin "ValueError.__init__"))):v7 K:=
 ⟨Cp,Ct,Cn,B,fP,fT,fN,{ aP:=aP,aT:=aT,aN:=aN,aB:=aB,xp:=hP.1,xt:=hT.1,xn:=hN.1,yp:=hP.2,yt:=hT.2,yn:=hN.2,bc:=⟨b1,b2,b3⟩,bi:=⟨g1,g2,g3⟩,f1P:=f1P,f2P:=f2P,f3P:=f3P,f4P:=f4P,f5P:=f5P,f1T:=f1T,f1N:=f1N }⟩
structure LC (K:W.Frag) (C fW fC fH fL fI:Addr):Prop where
 a:W.nsIn K mainGlobals "Looker" = some (some (.ref C))
 cls:Cls K C
 mk':L2.Mk K C fI
 n1:b7 K C "kinds"
 n2:b7 K C "wanted"
 FW:∃ fd,Fun K "want" "Looker.want" jP fW fd
 MW:j6 K C "want" fW
 FC:∃ fd,Fun K "hold_choice" "Looker.hold_choice" sHC fC fd
 MC:j6 K C "hold_choice" fC
 FH:∃ fd,Fun K "hold" "Looker.hold" jN fH fd
 MH:j6 K C "hold" fH
 FL:∃ fd,Fun K "look" "Looker.look" jO fL fd
 ML:j6 K C "look" fL
 FI:∃ fd,Fun K "__init__" "Looker.__init__" sLI fI fd
def lC (K:W.Frag):Prop:=∃ C fW fC fH fL fI:Addr,LC K C fW fC fH fL fI
theorem B9 {K:W.Frag} {C fW fC fH fL fI:Addr} {ofdW anfW:Option Addr} {slfW:Array (Option Value)} {ocfW kVfW dcfW pmfW cdfW ctfW:Value} {ofdC anfC:Option Addr} {slfC:Array (Option Value)} {ocfC kVfC dcfC pmfC cdfC ctfC:Value} {ofdH anfH:Option Addr} {slfH:Array (Option Value)} {ocfH kVfH dcfH pmfH cdfH ctfH:Value} {ofdL anfL:Option Addr} {slfL:Array (Option Value)} {ocfL kVfL dcfL pmfL cdfL ctfL:Value} {ofdI anfI:Option Addr} {slfI:Array (Option Value)} {ocfI kVfI dcfI pmfI cdfI ctfI:Value}
 (a:W.nsIn K mainGlobals "Looker" = some (some (.ref C))) (pg:W.plainGet K C Str.empty=true) (hd:W.hasDictIn K C=true) (po:W.plainOver K C=true) (sa:W.findIn K (.ref C) "__setattr__" = some (some (.builtin "object.__setattr__"))) (mk:W.makesIn K C=true) (kp:W.keepIn K (.ref C)=true) (n1:W.findIn K (.ref C) "kinds" = some none) (n2:W.findIn K (.ref C) "wanted" = some none) (atW:W.findIn K (.ref C) "want" = some (some (.ref fW))) (flW:K.lookup fW=some ⟨ocfW,ofdW,.func (W.fnOf "want" "Looker.want" (cb jP) (bT jP) (au jP) .none kVfW dcfW pmfW anfW cdfW ctfW),slfW⟩) (fnW:W.isFn K (.ref fW)=true) (fcW:W.codeIn K cdfW "Looker.want" = true) (fkW:W.keepIn K (.ref fW)=true) (atC:W.findIn K (.ref C) "hold_choice" = some (some (.ref fC))) (flC:K.lookup fC=some ⟨ocfC,ofdC,.func (W.fnOf "hold_choice" "Looker.hold_choice" (cb sHC) (bT sHC) (au sHC) .none kVfC dcfC pmfC anfC cdfC ctfC),slfC⟩) (fnC:W.isFn K (.ref fC)=true) (fcC:W.codeIn K cdfC "Looker.hold_choice" = true) (fkC:W.keepIn K (.ref fC)=true) (atH:W.findIn K (.ref C) "hold" = some (some (.ref fH))) (flH:K.lookup fH=some ⟨ocfH,ofdH,.func (W.fnOf "hold" "Looker.hold" (cb jN) (bT jN) (au jN) .none kVfH dcfH pmfH anfH cdfH ctfH),slfH⟩) (fnH:W.isFn K (.ref fH)=true) (fcH:W.codeIn K cdfH "Looker.hold" = true) (fkH:W.keepIn K (.ref fH)=true) (atL:W.findIn K (.ref C) "look" = some (some (.ref fL))) (flL:K.lookup fL=some ⟨ocfL,ofdL,.func (W.fnOf "look" "Looker.look" (cb jO) (bT jO) (au jO) .none kVfL dcfL pmfL anfL cdfL ctfL),slfL⟩) (fnL:W.isFn K (.ref fL)=true) (fcL:W.codeIn K cdfL "Looker.look" = true) (fkL:W.keepIn K (.ref fL)=true) (atI:W.findIn K (.ref C) "__init__" = some (some (.ref fI))) (flI:K.lookup fI=some ⟨ocfI,ofdI,.func (W.fnOf "__init__" "Looker.__init__" (cb sLI) (bT sLI) (au sLI) .none kVfI dcfI pmfI anfI cdfI ctfI),slfI⟩) (fnI:W.isFn K (.ref fI)=true) (fcI:W.codeIn K cdfI "Looker.__init__" = true) (fkI:W.keepIn K (.ref fI)=true):lC K:=
 ⟨C,fW,fC,fH,fL,fI,{ a:=a,cls:=⟨pg,hd,po,sa⟩,mk':=⟨mk,atI,fnI,kp⟩,n1:=n1,n2:=n2,FW:=⟨_,eQ flW fcW fkW⟩,MW:=⟨atW,fnW,fkW⟩,FC:=⟨_,eQ flC fcC fkC⟩,MC:=⟨atC,fnC,fkC⟩,FH:=⟨_,eQ flH fcH fkH⟩,MH:=⟨atH,fnH,fkH⟩,FL:=⟨_,eQ flL fcL fkL⟩,ML:=⟨atL,fnL,fkL⟩,FI:=⟨_,eQ flI fcI fkI⟩ }⟩
structure Txt (K:W.Frag):Prop where
 d_steps:bJ K "steps" nM
 Gh:bJ K "kinds_in" sKi
 EE:bJ K "with_kinds" sWk
 d_depth:bJ K "depth" nH
 GP:bJ K "stepped" iR
 d_part:bJ K "part" tH
 GO:bJ K "parting" iQ
 d_join:bJ K "join" tu
 d_form:bJ K "form" tq
 GM:bJ K "indexes" iP
 d_parts:bJ K "parts" nI
 GQ:bJ K "written" sWr
 DL:bJ K "names_bound" sNb
 EC:bJ K "need_bound" sNB
 ED:bJ K "need_names" sNN
 FD:bJ K "need_same" sSm
 Df:bJ K "need_shallow" sN0
 De:bJ K "bound_within" sBW
 Gi:bJ K "own_kind" sOw
 DM:bJ K "wanted_kind" sWa
 Hj:bJ K "looked" xY
 GN:bJ K "kind_of" sKo
 Dc:bJ K "_law_cell_at" tj
 EB:bJ K "_law_words" x4
 Fz:bJ K "_law_next" tF
 EA:bJ K "_law_place" nJ
 DJ:bJ K "_law_number" xZ
 Fv:bJ K "_law_kind" tx
 Ft:bJ K "_law_flat" sFl
 Fy:bJ K "_law_more" sMo
 Fw:bJ K "_law_leaf" tD
 Ey:bJ K "_law_built" nG
 Fx:bJ K "_law_loop" tE
 FA:bJ K "_law_node" tG
 Ez:bJ K "_law_parts" sPt
 Dd:bJ K "_law_spoiled" sSp
 Fu:bJ K "_law_free" sFr
 FB:bJ K "_law_told" sTo
 DK:bJ K "_law_towers" x3
 d_law:bJ K "law" xX
 x_Cls:v7 K
 B9:lC K
 Dv:lA K
 E2:oq K
 E1:om K
 B8:gm K
 Em:oj K
 El:oi K
 BD:eV K
 BW:gj K
 C5:lq K
 BH:eY K
 z_len:W.nsIn K mainGlobals "len" = some none
 E3:W.nsIn K mainGlobals "isinstance" = some none
 z_list:W.nsIn K mainGlobals "list" = some none
 z_tuple:W.nsIn K mainGlobals "tuple" = some none
 z_int:W.nsIn K mainGlobals "int" = some none
 z_bool:W.nsIn K mainGlobals "bool" = some none
 z_str:W.nsIn K mainGlobals "str" = some none
 z_range:W.nsIn K mainGlobals "range" = some none
 z_zip:W.nsIn K mainGlobals "zip" = some none
 z_max:W.nsIn K mainGlobals "max" = some none
 F4:W.nsIn K mainGlobals "enumerate" = some none
 z_dict:W.nsIn K mainGlobals "dict" = some none
theorem zbd1 {α:Type} {P:List α→Prop} (h:∀ a,P [a]):∀ us:List α,us.length=1→P us | [a],_=>h a
theorem zbd2 {α:Type} {P:List α→Prop} (h:∀ a b,P [a,b]):∀ us:List α,us.length=2→P us | [a,b],_=>h a b
theorem zbd3 {α:Type} {P:List α→Prop} (h:∀ a b c,P [a,b,c]):∀ us:List α,us.length=3→P us | [a,b,c],_=>h a b c
theorem zbd4 {α:Type} {P:List α→Prop} (h:∀ a b c d,P [a,b,c,d]):∀ us:List α,us.length=4→P us | [a,b,c,d],_=>h a b c d
theorem zbd5 {α:Type} {P:List α→Prop} (h:∀ a b c d e,P [a,b,c,d,e]):∀ us:List α,us.length=5→P us | [a,b,c,d,e],_=>h a b c d e
theorem zbd6 {α:Type} {P:List α→Prop} (h:∀ a b c d e f,P [a,b,c,d,e,f]):∀ us:List α,us.length=6→P us | [a,b,c,d,e,f],_=>h a b c d e f
theorem all_mk {l:W.OpenLaw} {w:World} {K:W.Frag} {h:Heap} {mg:Str→Option Value} {fa:Addr} (Y:K.In h) (G:h.Ns mainGlobals mg) (hfa:mg "law" = some (.ref fa)) (T:Txt K) :
 ∃ fd:FuncData,(∀ (s:Shared) (v:Value),BindsTo s fd ⟨[v],[]⟩ [("_law_script",v)])∧∀ base:Heap,K.In base→base.Ns mainGlobals mg→aY l.prog w K mg base CX0 25 fa fd ["_law_script"] (pH K):=by
 have X:Tx mg:=⟨W.mg_none_of Y G T.z_len,W.mg_none_of Y G T.E3,W.mg_none_of Y G T.z_list,W.mg_none_of Y G T.z_tuple,W.mg_none_of Y G T.z_int,W.mg_none_of Y G T.z_bool,W.mg_none_of Y G T.z_str,W.mg_none_of Y G T.z_range,W.mg_none_of Y G T.z_zip,W.mg_none_of Y G T.z_max,W.mg_none_of Y G T.F4,W.mg_none_of Y G T.z_dict⟩
 obtain ⟨fL,fdL,FL,aL⟩:=T.d_law
 have e:=hfa.symm.trans (W.mg_of Y G aL)
 cases e
 obtain ⟨Cp,Ct,Cn,B,fP,fT,fN,xx⟩:=T.x_Cls
 obtain ⟨fdP,FP⟩:=xx.xp.ini
 obtain ⟨fdT,FT⟩:=xx.xt.ini
 obtain ⟨fdN,FN⟩:=xx.xn.ini
 obtain ⟨CL,fW,fHC,fH,fLk,fLI,lc⟩:=T.B9
 obtain ⟨fdW,FW⟩:=lc.FW
 obtain ⟨fdHC,FHC⟩:=lc.FC
 obtain ⟨fdH,FH⟩:=lc.FH
 obtain ⟨fdLk,FLk⟩:=lc.FL
 obtain ⟨fdLI,FLI⟩:=lc.FI
 have Hs:=W.mg_of Y G lc.a
 have Be:=W.mg_of Y G xx.aP
 have A6:=W.mg_of Y G xx.aT
 have Bc:=W.mg_of Y G xx.aN
 have AS:=W.mg_of Y G xx.aB
 have b_initP:aI K fdP ["self","place","kind","by","wanted","way"] []:=FP.binds fun _ _ _ _ _ _=>zbd6 fun _ _ _ _ _ _=>rfl
 have b_initT:aI K fdT ["self","place"] []:=FT.binds fun _ _ _ _ _ _=>zbd2 fun _ _=>rfl
 have b_initN:aI K fdN ["self","place"] []:=FN.binds fun _ _ _ _ _ _=>zbd2 fun _ _=>rfl
 have b_want:aI K fdW ["self","node","kind"] []:=FW.binds fun _ _ _ _ _ _=>zbd3 fun _ _ _=>rfl
 have b_hc:aI K fdHC ["self","tree","found"] []:=FHC.binds fun _ _ _ _ _ _=>zbd3 fun _ _ _=>rfl
 have b_hold:aI K fdH ["self","tree","node","found"] []:=FH.binds fun _ _ _ _ _ _=>zbd4 fun _ _ _ _=>rfl
 have b_look:aI K fdLk ["self","tree","bound"] []:=FLk.binds fun _ _ _ _ _ _=>zbd3 fun _ _ _=>rfl
 have b_LI:aI K fdLI ["self"] []:=FLI.binds fun _ _ _ _ _ _=>zbd1 fun _=>rfl
 obtain ⟨u_UNTOLD,Gx,AX⟩:=T.Dv
 have AW:=W.mg_of Y G Gx
 obtain ⟨u_WHOLE,Hc,Ce⟩:=T.E2
 have Cg:=W.mg_of Y G Hc
 obtain ⟨u_TRUTH,Hb,Cd⟩:=T.E1
 have Cf:=W.mg_of Y G Hb
 obtain ⟨u_ALL_STEPS,Eb,B4⟩:=T.B8
 have B6:=W.mg_of Y G Eb
 obtain ⟨u_STEPS,G9,EQ⟩:=T.Em
 have ES:=W.mg_of Y G G9
 obtain ⟨u_FORMS,G8,EO⟩:=T.El
 have ER:=W.mg_of Y G G8
 obtain ⟨Hw,Dy,A3⟩:=T.BD
 have A4:=W.mg_of Y G Dy
 obtain ⟨u_TAKEN_OUT,Ed,Bg⟩:=T.BW
 have Bh:=W.mg_of Y G Ed
 obtain ⟨u_NEEDED,Gw,B5⟩:=T.C5
 have B7:=W.mg_of Y G Gw
 obtain ⟨Hv,Dx⟩:=T.BH
 have BI:=W.mg_of Y G Dx
 obtain ⟨f_steps,FR,D7,a_steps⟩:=T.d_steps
 have m_steps:=W.mg_of Y G a_steps
 have b_steps:aI K FR ["kind"] []:=D7.binds fun _ _ _ _ _ _=>zbd1 fun _=>rfl
 obtain ⟨Gj,CT,Co,F9⟩:=T.Gh
 have Gn:=W.mg_of Y G F9
 have Gb:aI K CT ["kind"] []:=Co.binds fun _ _ _ _ _ _=>zbd1 fun _=>rfl
 obtain ⟨EK,Cm,BB,Ek⟩:=T.EE
 have EZ:=W.mg_of Y G Ek
 have Eu:aI K Cm ["kind","some"] []:=BB.binds fun _ _ _ _ _ _=>zbd2 fun _ _=>rfl
 obtain ⟨f_depth,Hm,D0,a_depth⟩:=T.d_depth
 have m_depth:=W.mg_of Y G a_depth
 have b_depth:aI K Hm ["kind"] []:=D0.binds fun _ _ _ _ _ _=>zbd1 fun _=>rfl
 obtain ⟨GT,Dn,CI,GC⟩:=T.GP
 have G0:=W.mg_of Y G GC
 have GI:aI K Dn ["kind","step"] []:=CI.binds fun _ _ _ _ _ _=>zbd2 fun _ _=>rfl
 obtain ⟨f_part,Gv,F7,a_part⟩:=T.d_part
 have m_part:=W.mg_of Y G a_part
 have b_part:aI K Gv ["kind","way"] []:=F7.binds fun _ _ _ _ _ _=>zbd2 fun _ _=>rfl
 obtain ⟨f_parting,Gm,CH,GA⟩:=T.GO
 have GZ:=W.mg_of Y G GA
 have GH:aI K Gm ["kind","other"] []:=CH.binds fun _ _ _ _ _ _=>zbd2 fun _ _=>rfl
 obtain ⟨f_join,fd_join,F6,a_join⟩:=T.d_join
 have m_join:=W.mg_of Y G a_join
 have b_join:aI K fd_join ["kind","other"] []:=F6.binds fun _ _ _ _ _ _=>zbd2 fun _ _=>rfl
 obtain ⟨f_form,Gu,F5,a_form⟩:=T.d_form
 have m_form:=W.mg_of Y G a_form
 have b_form:aI K Gu ["word"] []:=F5.binds fun _ _ _ _ _ _=>zbd1 fun _=>rfl
 obtain ⟨GR,Dj,CF,Gy⟩:=T.GM
 have GX:=W.mg_of Y G Gy
 have GF:aI K Dj ["tree","sort"] []:=CF.binds fun _ _ _ _ _ _=>zbd2 fun _ _=>rfl
 obtain ⟨f_parts,FQ,D6,a_parts⟩:=T.d_parts
 have m_parts:=W.mg_of Y G a_parts
 have b_parts:aI K FQ ["tree"] []:=D6.binds fun _ _ _ _ _ _=>zbd1 fun _=>rfl
 obtain ⟨GU,Do,CJ,GD⟩:=T.GQ
 have G1:=W.mg_of Y G GD
 have GJ:aI K Do ["tree"] []:=CJ.binds fun _ _ _ _ _ _=>zbd1 fun _=>rfl
 obtain ⟨DQ,B2,Bl,DB⟩:=T.DL
 have DV:=W.mg_of Y G DB
 have DF:aI K B2 ["tree","number"] []:=Bl.binds fun _ _ _ _ _ _=>zbd2 fun _ _=>rfl
 obtain ⟨Hu,DS,Bz,Ei⟩:=T.EC
 have EX:=W.mg_of Y G Ei
 have Es:aI K DS ["tree","bound"] []:=Bz.binds fun _ _ _ _ _ _=>zbd2 fun _ _=>rfl
 obtain ⟨EJ,Cl,BA,Ej⟩:=T.ED
 have EY:=W.mg_of Y G Ej
 have Et:aI K Cl ["tree"] []:=BA.binds fun _ _ _ _ _ _=>zbd1 fun _=>rfl
 obtain ⟨FO,CD,BV,Fe⟩:=T.FD
 have F3:=W.mg_of Y G Fe
 have Fo:aI K CD ["node","kind","against","wanted"] []:=BV.binds fun _ _ _ _ _ _=>zbd4 fun _ _ _ _=>rfl
 obtain ⟨Di,BL,Ba,C4⟩:=T.Df
 have Dt:=W.mg_of Y G C4
 have C9:aI K BL ["tree","kind"] []:=Ba.binds fun _ _ _ _ _ _=>zbd2 fun _ _=>rfl
 obtain ⟨Dh,BK,A9,C3⟩:=T.De
 have Ds:=W.mg_of Y G C3
 have C8:aI K BK ["tree","number","found","bound"] []:=A9.binds fun _ _ _ _ _ _=>zbd4 fun _ _ _ _=>rfl
 obtain ⟨Gk,CU,Cq,Ga⟩:=T.Gi
 have Go:=W.mg_of Y G Ga
 have Gc:aI K CU ["tree","found","bound"] []:=Cq.binds fun _ _ _ _ _ _=>zbd3 fun _ _ _=>rfl
 obtain ⟨DR,B3,Bm,DC⟩:=T.DM
 have DW:=W.mg_of Y G DC
 have DG:aI K B3 ["tree","found"] []:=Bm.binds fun _ _ _ _ _ _=>zbd2 fun _ _=>rfl
 obtain ⟨Hl,DZ,CW,Hd⟩:=T.Hj
 have Ht:=W.mg_of Y G Hd
 have Hg:aI K DZ ["tree"] []:=CW.binds fun _ _ _ _ _ _=>zbd1 fun _=>rfl
 obtain ⟨GS,Dm,CG,Gz⟩:=T.GN
 have GY:=W.mg_of Y G Gz
 have GG:aI K Dm ["tree"] []:=CG.binds fun _ _ _ _ _ _=>zbd1 fun _=>rfl
 obtain ⟨Dg,BJ,A7,C1⟩:=T.Dc
 have Dq:=W.mg_of Y G C1
 have C6:aI K BJ ["_law_script","_law_k"] []:=A7.binds fun _ _ _ _ _ _=>zbd2 fun _ _=>rfl
 obtain ⟨EI,Ck,By,Eh⟩:=T.EB
 have EW:=W.mg_of Y G Eh
 have Er:aI K Ck ["_law_cell"] []:=By.binds fun _ _ _ _ _ _=>zbd1 fun _=>rfl
 obtain ⟨FK,CB,BS,Fa⟩:=T.Fz
 have F0:=W.mg_of Y G Fa
 have Fl:aI K CB ["_law_deal"] []:=BS.binds fun _ _ _ _ _ _=>zbd1 fun _=>rfl
 obtain ⟨EH,Cj,Bx,Eg⟩:=T.EA
 have EV:=W.mg_of Y G Eg
 have Ep:aI K Cj ["_law_deal"] []:=Bx.binds fun _ _ _ _ _ _=>zbd1 fun _=>rfl
 obtain ⟨DN,B0,Bi,Dz⟩:=T.DJ
 have DT:=W.mg_of Y G Dz
 have DD:aI K B0 ["_law_cell"] []:=Bi.binds fun _ _ _ _ _ _=>zbd1 fun _=>rfl
 obtain ⟨FF,Cy,BO,E6⟩:=T.Fv
 have FV:=W.mg_of Y G E6
 have Fh:aI K Cy ["_law_cell"] []:=BO.binds fun _ _ _ _ _ _=>zbd1 fun _=>rfl
 obtain ⟨FE,Cw,BM,E4⟩:=T.Ft
 have FS:=W.mg_of Y G E4
 have Ff:aI K Cw ["_law_cell"] []:=BM.binds fun _ _ _ _ _ _=>zbd1 fun _=>rfl
 obtain ⟨FJ,CA,BR,E9⟩:=T.Fy
 have FZ:=W.mg_of Y G E9
 have Fk:aI K CA ["_law_names","_law_word","_law_kind_here"] []:=BR.binds fun _ _ _ _ _ _=>zbd3 fun _ _ _=>rfl
 obtain ⟨f__law_leaf,EM,BP,E7⟩:=T.Fw
 have FX:=W.mg_of Y G E7
 have Fi:aI K EM ["_law_deal","_law_want","_law_names","_law_cell"] []:=BP.binds fun _ _ _ _ _ _=>zbd4 fun _ _ _ _=>rfl
 obtain ⟨EF,Ch,Bu,Ee⟩:=T.Ey
 have ET:=W.mg_of Y G Ee
 have En:aI K Ch ["_law_deal","_law_want","_law_names","_law_room","_law_cell"] []:=Bu.binds fun _ _ _ _ _ _=>zbd5 fun _ _ _ _ _=>rfl
 obtain ⟨FG,Cz,BQ,E8⟩:=T.Fx
 have FY:=W.mg_of Y G E8
 have Fj:aI K Cz ["_law_deal","_law_want","_law_names","_law_room","_law_cell"] []:=BQ.binds fun _ _ _ _ _ _=>zbd5 fun _ _ _ _ _=>rfl
 obtain ⟨f__law_node,EN,BT,Fb⟩:=T.FA
 have F1:=W.mg_of Y G Fb
 have Fm:aI K EN ["_law_deal","_law_want","_law_names","_law_room"] []:=BT.binds fun _ _ _ _ _ _=>zbd4 fun _ _ _ _=>rfl
 obtain ⟨EG,Ci,Bv,Ef⟩:=T.Ez
 have EU:=W.mg_of Y G Ef
 have Eo:aI K Ci ["_law_node_here"] []:=Bv.binds fun _ _ _ _ _ _=>zbd1 fun _=>rfl
 obtain ⟨Hk,CV,A8,C2⟩:=T.Dd
 have Dr:=W.mg_of Y G C2
 have C7:aI K CV ["_law_node_here","_law_box"] []:=A8.binds fun _ _ _ _ _ _=>zbd2 fun _ _=>rfl
 obtain ⟨f__law_free,EL,BN,E5⟩:=T.Fu
 have FU:=W.mg_of Y G E5
 have Fg:aI K EL ["_law_node_here","_law_names"] []:=BN.binds fun _ _ _ _ _ _=>zbd2 fun _ _=>rfl
 obtain ⟨FM,CC,BU,Fc⟩:=T.FB
 have F2:=W.mg_of Y G Fc
 have Fn:aI K CC ["_law_tree"] []:=BU.binds fun _ _ _ _ _ _=>zbd1 fun _=>rfl
 obtain ⟨DP,B1,Bj,DA⟩:=T.DK
 have DU:=W.mg_of Y G DA
 have DE:aI K B1 ["_law_cell","_law_words_here","_law_base"] []:=Bj.binds fun _ _ _ _ _ _=>zbd3 fun _ _ _=>rfl
 refine ⟨fdL,?_,fun base YB GB=>?_⟩
 ·obtain ⟨oc,od,kV,doc,pm,an,cdv,ct,osl,rfl,lk,hc⟩:=FL.ex
  exact fun s v=>.of_eq rfl
 have i_initP:aY l.prog w K mg base CX0 1 fP fdP ["self","place","kind","by","wanted","way"] (kY Cp):=sH (n:=0) FP X xx.bi xx.xp.own AS xx.xp.st xx.f1P xx.f2P xx.f3P xx.f4P xx.f5P
 have i_initT:aY l.prog w K mg base CX0 1 fT fdT ["self","place"] (fY Ct):=sF (n:=0) FT X xx.bi xx.xt.own AS xx.xt.st xx.f1T
 have i_initN:aY l.prog w K mg base CX0 1 fN fdN ["self","place"] (fY Cn):=sG (n:=0) FN X xx.bi xx.xn.own AS xx.xn.st xx.f1N
 have Cc:Cal l.prog w K mg base "steps" ["kind"] 1 (hJ K):=⟨⟨f_steps,FR,sK D7 ES EQ,b_steps,D7.kp,m_steps⟩⟩
 have AT:Cal l.prog w K mg base "kinds_in" ["kind"] 1 (qF K):=⟨⟨Gj,CT,zm Co X,Gb,Co.kp,Gn⟩⟩
 have BG:Cal l.prog w K mg base "with_kinds" ["kind","some"] 1 (yl K):=⟨⟨EK,Cm,zo BB X,Eu,BB.kp,EZ⟩⟩
 have Cv:Cal l.prog w K mg base "depth" ["kind"] 10 (eG K 9):=cA (sp:=eG K) (fun n=>n+1) b_depth D0.kp m_depth sA (fun n ih=>sE D0 X AT ih) 9
 have CO:Cal l.prog w K mg base "stepped" ["kind","step"] 2 (gb K):=⟨⟨GT,Dn,m9 (n:=0) CI X AW AX B6 B4 Cc AT,GI,CI.kp,G0⟩⟩
 have CN:Cal l.prog w K mg base "part" ["kind","way"] 3 (k9 K):=⟨⟨f_part,Gv,u5 (n:=0) F7 X CO,b_part,F7.kp,m_part⟩⟩
 have Bt:Cal l.prog w K mg base "parting" ["kind","other"] 9 (cM K 8):=cA (sp:=cM K) (fun n=>n+1) GH CH.kp GZ mY (fun n ih=>m8 CH X AW AX Cc AT ih) 8
 have BY:Cal l.prog w K mg base "join" ["kind","other"] 9 (eT K 8):=cA (sp:=eT K) (fun n=>n+1) b_join F6.kp m_join uI (fun n ih=>uU F6 X AW AX AT BG ih) 8
 have Ge:Cal l.prog w K mg base "form" ["word"] 1 (nQ K):=⟨⟨f_form,Gu,uS F5 ER EO,b_form,F5.kp,m_form⟩⟩
 have A5:Cal l.prog w K mg base "indexes" ["tree","sort"] 2 (eI K):=⟨⟨GR,Dj,mZ CF X Ge,GF,CF.kp,GX⟩⟩
 have A1:Cal l.prog w K mg base "parts" ["tree"] 3 (g9 K):=⟨⟨f_parts,FQ,sI D6 X A5,b_parts,D6.kp,m_parts⟩⟩
 have CP:Cal l.prog w K mg base "written" ["tree"] 3 (ym K):=⟨⟨GU,Do,zl CJ X A5,GJ,CJ.kp,G1⟩⟩
 have Bq:Cal l.prog w K mg base "names_bound" ["tree","number"] 1 (yi K):=⟨⟨DQ,B2,zn Bl X,DF,Bl.kp,DV⟩⟩
 have c_NB:∀ n,dw l.prog w K mg base "need_bound" ["tree","bound"] (n+4) (qH K Cn n):=jq (sp:=qH K Cn) (fun n=>n+4) Es Bz.kp EX yX (fun n ih=>zd (m:=n) Bz X xx.xn.own i_initN b_initN Bc xx.xn.kp xx.xn.be xx.xn.ty A1 Bq ih)
 have BF:dw l.prog w K mg base "need_names" ["tree"] 15 (yh K Cn 10):=⟨⟨EJ,Cl,ze (m:=10) BA X (c_NB 10),Et,BA.kp,EY⟩⟩
 have AY:dw l.prog w K mg base "need_same" ["node","kind","against","wanted"] 10 (vH K Cp):=⟨⟨FO,CD,zh (n:=0) BV X xx.xp.own i_initP b_initP Be xx.xp.kp xx.xp.be xx.xp.ty Bt,Fo,BV.kp,F3⟩⟩
 have A0:dw l.prog w K mg base "need_shallow" ["tree","kind"] 11 (yg K Ct):=⟨⟨Di,BL,zc (n:=0) Ba X xx.xt.own i_initT b_initT A6 xx.xt.kp xx.xt.be xx.xt.ty BI Cv,C9,Ba.kp,Dt⟩⟩
 have Bb:Cal l.prog w K mg base "bound_within" ["tree","number","found","bound"] 1 (yc K):=⟨⟨Dh,BK,y6 A9 X,C8,A9.kp,Ds⟩⟩
 have Cs:Cal l.prog w K mg base "own_kind" ["tree","found","bound"] 10 (yj K):=⟨⟨Gk,CU,zf (n:=0) Cq X Cg Ce Cf Cd A4 A3 Bh Bg CN BY,Gc,Cq.kp,Go⟩⟩
 have Br:Cal l.prog w K mg base "wanted_kind" ["tree","found"] 4 (yk K):=⟨⟨DR,B3,zk (n:=0) Bm X Cg Ce Cf Cd B7 B5 CN,DG,Bm.kp,DW⟩⟩
 have BC:qQ l.prog w K mg base CL "want" ["self","node","kind"] 1 (iV K CL):=⟨⟨fW,fdW,uP (m:=0) FW lc.cls lc.n2,b_want,lc.MW⟩⟩
 have Du:wJ l.prog w K mg base "Looker" CL 1 (yf CL):=⟨⟨fLI,fdLI,za (m:=0) FLI lc.cls lc.n1 lc.n2,b_LI,lc.mk',Hs⟩⟩
 have Bo:eL l.prog w K mg base CL "hold_choice" ["self","tree","found"] 11 (yd K CL Cp):=⟨⟨fHC,fdHC,y8 (m:=0) FHC X lc.cls BC BY AY,b_hc,lc.MC⟩⟩
 have F8:eL l.prog w K mg base CL "hold" ["self","tree","node","found"] 12 (nR K CL Cp):=⟨⟨fH,fdH,uN (m:=0) FH X lc.cls BC Bo Br AY,b_hold,lc.MH⟩⟩
 have CY:∀ n,eL l.prog w K mg base CL "look" ["self","tree","bound"] (n+12) (fZ K CL Cp Ct n):=ie (sp:=fZ K CL Cp Ct) (fun n=>n+12) b_look lc.ML uH (fun n ih=>uO (m:=n) FLk X lc.cls lc.n1 F8 ih CP A0 A1 Bb Cs)
 have Bs:dw l.prog w K mg base "looked" ["tree"] 22 (pI K Cp Ct Cn):=⟨⟨Hl,DZ,xo (m:=0) CW X lc.cls lc.n1 lc.n2 Du BC (CY 9) BF,Hg,CW.kp,Ht⟩⟩
 have CM:dw l.prog w K mg base "kind_of" ["tree"] 23 (ye K Cp Ct Cn):=⟨⟨GS,Dm,y9 (m:=0) CG X Bs,GG,CG.kp,GY⟩⟩
 have Da:Cal l.prog w K mg base "_law_cell_at" ["_law_script","_law_k"] 1 (nP K):=⟨⟨Dg,BJ,uQ (n:=0) A7 X,C6,A7.kp,Dq⟩⟩
 have Ev:Cal l.prog w K mg base "_law_words" ["_law_cell"] 1 (tX K):=⟨⟨EI,Ck,sL (n:=0) By X,Er,By.kp,EW⟩⟩
 have Fr:Cal l.prog w K mg base "_law_next" ["_law_deal"] 1 (kZ K):=⟨⟨FK,CB,uY (n:=0) BS X,Fl,BS.kp,F0⟩⟩
 have A2:Cal l.prog w K mg base "_law_place" ["_law_deal"] 1 (dS K):=⟨⟨EH,Cj,sJ (n:=0) Bx X,Ep,Bx.kp,EV⟩⟩
 have DH:Cal l.prog w K mg base "_law_number" ["_law_cell"] 1 (tV K):=⟨⟨DN,B0,xu (n:=0) Bi X,DD,Bi.kp,DT⟩⟩
 have BX:Cal l.prog w K mg base "_law_kind" ["_law_cell"] 1 (iU K):=⟨⟨FF,Cy,uV (m:=0) BO X,Fh,BO.kp,FV⟩⟩
 have CQ:Cal l.prog w K mg base "_law_flat" ["_law_cell"] 1 (vF K):=⟨⟨FE,Cw,uR (m:=0) BM X,Ff,BM.kp,FS⟩⟩
 have Bf:Cal l.prog w K mg base "_law_more" ["_law_names","_law_word","_law_kind_here"] 1 (qG K):=⟨⟨FJ,CA,zb (n:=0) BR X,Fk,BR.kp,FZ⟩⟩
 have c_leafN:∀ n,Cal l.prog w K mg base "_law_leaf" ["_law_deal","_law_want","_law_names","_law_cell"] (n+1) (eC K n):=cA (sp:=eC K) (fun n=>n+1) Fi BP.kp FX uK (fun n ih=>uW (m:=n) BP X A2 DH Bf ih)
 have Fq:=c_leafN 4
 have c_nodeN:∀ n,Cal l.prog w K mg base "_law_node" ["_law_deal","_law_want","_law_names","_law_room"] (2 * n+7) (du K n):=cA (sp:=du K) (fun n=>2 * n+7) Fm BT.kp F1 uL (fun n ih=>uZ (m:=n) BT X Fr A2 CQ BX Bf Fq ih ⟨⟨EF,Ch,sD (m:=n) Bu X A2 CQ BX Bf ih,En,Bu.kp,ET⟩⟩ ⟨⟨FG,Cz,uX (m:=n) BQ X A2 Bf ih,Fj,BQ.kp,FY⟩⟩)
 have Fs:=c_nodeN 7
 have Cu:Cal l.prog w K mg base "_law_parts" ["_law_node_here"] 1 (vG K):=⟨⟨EG,Ci,zg (n:=0) Bv X,Eo,Bv.kp,EU⟩⟩
 have Db:Cal l.prog w K mg base "_law_spoiled" ["_law_node_here","_law_box"] 8 (nU K 7):=cA (sp:=nU K) (fun n=>n+1) C7 A8.kp Dr yY (fun n ih=>zi A8 X Cu ih) 7
 have Fp:Cal l.prog w K mg base "_law_free" ["_law_node_here","_law_names"] 10 (qD K 9):=cA (sp:=qD K) (fun n=>n+1) Fg BN.kp FU yW (fun n ih=>y7 BN X Cu ih) 9
 have CS:Cal l.prog w K mg base "_law_told" ["_law_tree"] 23 (vI K):=⟨⟨FM,CC,zj (n:=0) BU X xx.bc AS xx.yp xx.yt xx.yn Be A6 Bc xx.f1T xx.f1N Bs,Fn,BU.kp,F2⟩⟩
 have DI:Cal l.prog w K mg base "_law_towers" ["_law_cell","_law_words_here","_law_base"] 24 (tW K):=⟨⟨DP,B1,xq (n:=0) Bj X CS (calm CM),DE,Bj.kp,DU⟩⟩
 exact xr (m:=0) FL X Da Ev BX Fs Db Fp CS DI
theorem walk {l:W.OpenLaw} {q:Program} {loose:List Str} {XP:(Str→Option Value)→Heap→Prop} {YP:World→Heap→Prop} {d:DefRec} {K:Params→W.Frag} (hn:l.most=some 63) (hdf:d.params.defaults = [])
 (hY:∀ (w:World) (h:Heap),YP w h→(K w.params).In h)
 (F:∀ (w:World) (mg:Str→Option Value) (fa:Addr) (h:Heap),(K w.params).In h→h.Ns mainGlobals mg→mg d.name=some (.ref fa) →
  ∃ fd:FuncData,(∀ (s:Shared) (u:Value),BindsTo s fd ⟨[u],[]⟩ [("_law_script",u)])∧∀ base:Heap,(K w.params).In base→base.Ns mainGlobals mg→aY l.prog w (K w.params) mg base CX0 25 fa fd ["_law_script"] (pH (K w.params))) :
 W.WalkO q loose XP YP l.row.toRowW d [] (fun f vs=>PySem.call f vs):=
 L2.walk_of (n:=63) (k:=25) (x:="_law_script") (CX:=fun _=>CX0) (sp:=fun w=>pH (K w.params)) hn (by decide) hdf ⟨rfl,by decide,by decide⟩ hY F (fun _ _ a ns hl _ hS=>⟨a,ns,rfl,hS,hl,fun _=>rfl⟩) fun _ _ _ _ _ z=>z
end
end L2.K34
end
section
open PySem PySem.W PyProof.Rows
namespace PySem.W.Fast
def tw10731828765358357337:Nat:=0
def tw4969349674319638244:Nat:=0
def tw15695690005009884606:Nat:=0
def tw11363571121350732436:Nat:=0
def tw11467978139093605706:Nat:=0
def tw12069964434541752083:Nat:=0
def tw3276509491573093947:Nat:=0
def tw12564315159485910612:Nat:=0
def tw6094888159449954553:Nat:=0
def tw2590771817912995671:Nat:=0
def tw13290137870405190116:Nat:=0
def tw12595607401884923852:Nat:=0
def tw3067023757058103102:Nat:=0
def tw7932310938225869777:Nat:=0
def tw12514865136347854383:Nat:=0
def tw1599772370364782683:Nat:=0
def tw6920273996955286633:Nat:=0
def tw6245040706796522605:Nat:=0
def tw6125041193453418793:Nat:=0
def tw12623515014191935309:Nat:=0
def tw15658998645531682292:Nat:=0
def tw4144774652763050249:Nat:=0
def tw4581238968465365414:Nat:=0
def tw5244313730870834117:Nat:=0
def tw15826317450282749700:Nat:=0
def tw12616202262433218802:Nat:=0
def tw533340657757245535:Nat:=0
def tw13890953541732841357:Nat:=0
def tw12559258809795967659:Nat:=0
def tw16582245163782503569:Nat:=0
def tw8045451762762162864:Nat:=0
def tw6658379835468173422:Nat:=0
def tw2453768353646558676:Nat:=0
def tw11598039319090008961:Nat:=0
def tw10972287148462229226:Nat:=0
def tw17688559519023578028:Nat:=0
def tw5492654989706443630:Nat:=0
def tw669818187894187315:Nat:=0
def tw7338882757796440495:Nat:=0
def tw17653753856766359894:Nat:=0
def tw966075831859264615:Nat:=0
def tw14740580340910071329:Nat:=0
def tw9940442073534638561:Nat:=0
def tw2724774481639815943:Nat:=0
def tw12975468006396990234:Nat:=0
def tw5324308004904457169:Nat:=0
def tw8525359603233740526:Nat:=0
def tw4657498961125180169:Nat:=0
def tw4206611637868218944:Nat:=0
def tw512003626104295565:Nat:=0
def tw12625206806994349884:Nat:=0
def tw11533420013812449979:Nat:=0
def tw16572224679256477247:Nat:=0
def tw1426332553984341346:Nat:=0
def tw8235859765033282330:Nat:=0
def tw18166837941009848628:Nat:=0
def tw15061824722794564603:Nat:=0
def tw13110000428079720078:Nat:=0
def tw10975355499955571237:Nat:=0
def tw4232801702225668656:Nat:=0
def tw16852823116759640378:Nat:=0
def tw16061740579330436193:Nat:=0
def tw3342926579281912658:Nat:=0
def tw8689682531085691478:Nat:=0
def tw17053791317479185274:Nat:=0
def tw3245926486289081590:Nat:=0
def tw11698078560239331435:Nat:=0
def tw4696140198293089117:Nat:=0
def tw9991187160146086609:Nat:=0
def tw6523447499289175072:Nat:=0
def tw8299924678453677055:Nat:=0
def tw5197461694123979924:Nat:=0
def tw2365700411392518461:Nat:=0
def tw1140442846271906059:Nat:=0
def tw5299656471399590178:Nat:=0
def tw11962071361097777095:Nat:=0
def tw2522438598363744445:Nat:=0
def tw7949988602329947911:Nat:=0
def tw11855212893966288057:Nat:=0
def tw15768401764166490855:Nat:=0
def tw11559763953430490464:Nat:=0
def tw12240118510319700132:Nat:=0
def tw2064811721344059265:Nat:=0
def tw16567534869920723481:Nat:=0
def tw4306038767296364629:Nat:=0
def tw5573961876949685881:Nat:=0
def tw1980057320441927122:Nat:=0
def tw7970232197542337068:Nat:=0
def tw15843546072667787398:Nat:=0
def tw11002607880166991205:Nat:=0
def tw16145872758186172242:Nat:=0
def tw12087447427976484154:Nat:=0
def tw13252358258940007353:Nat:=0
def tw2562944821237008473:Nat:=0
def tw9027024452595061736:Nat:=0
def tw9815792629658949549:Nat:=0
def tw13636773825193383903:Nat:=0
def tw15819020854737343575:Nat:=0
def tw13145584997996591788:Nat:=0
def tw3265326893746445226:Nat:=0
def tw1347846141793004214:Nat:=0
def tw8730098208194397298:Nat:=0
def tw18135461028914368367:Nat:=0
def tw67204674428439357:Nat:=0
def tw10643338493177999741:Nat:=0
def tw10543037416641909622:Nat:=0
def tw7980463517003132574:Nat:=0
def tw9988565973499936744:Nat:=0
def tw16722313401539754717:Nat:=0
def tw6815522761602349003:Nat:=0
def tw362270103385286696:Nat:=0
def tw1637135931411287335:Nat:=0
def tw16863033217632296639:Nat:=0
def tw12972659517800005472:Nat:=0
def tw7778429779604741038:Nat:=0
def tw10245075491391218126:Nat:=0
def tw7109466793205152239:Nat:=0
def tw2994041331579838268:Nat:=0
def tw16700478403223510127:Nat:=0
def tw9646066185421019189:Nat:=0
def tw1373840455608269665:Nat:=0
def tw2279282114675500895:Nat:=0
def tw6197145914602359677:Nat:=0
def tw10877809369035758550:Nat:=0
def tw17386954155635633185:Nat:=0
def tw1294744104372429152:Nat:=0
def tw337528469104185814:Nat:=0
def tw3008134230991856613:Nat:=0
def tw2499664500739336555:Nat:=0
def tw11701908815283750719:Nat:=0
def tw6653094947973111822:Nat:=0
def tw2077074191084203296:Nat:=0
def tw2079893512597140138:Nat:=0
def tw12506682929075542419:Nat:=0
def tw7206215153496610909:Nat:=0
def tw13778572218833808101:Nat:=0
def tw13561770937218342084:Nat:=0
def tw11918073907710784587:Nat:=0
def tw77409588513726768:Nat:=0
def tw15863415328610458278:Nat:=0
def tw5932568099887672894:Nat:=0
def tw4705275143616111459:Nat:=0
def tw2154204073887001996:Nat:=0
def tw11161985073164134593:Nat:=0
def tw17310228167747118425:Nat:=0
def tw1914348731882671724:Nat:=0
def tw14680481687534399042:Nat:=0
def tw10433215692127682652:Nat:=0
def tw2477661663800027473:Nat:=0
def tw16574345187190966311:Nat:=0
def tw14100433477180484192:Nat:=0
def tw741715433988086249:Nat:=0
def tw17171691058826268835:Nat:=0
def tw10787120029079790115:Nat:=0
def tw17826680601314808015:Nat:=0
def tw14883953059816530763:Nat:=0
def tw2088707807965282198:Nat:=0
def tw15172769060142255860:Nat:=0
def tw18278311164089346306:Nat:=0
def tw17592963082451199858:Nat:=0
def tw9846777547450728424:Nat:=0
def tw7670435142464024140:Nat:=0
def tw2410553161352725214:Nat:=0
def tw17266820361848695095:Nat:=0
def tw5123237966387182364:Nat:=0
def tw12504159645060989461:Nat:=0
def tw9698127731565446704:Nat:=0
def tw12137439633524772434:Nat:=0
def tw6098219982039507151:Nat:=0
def tw2281151929795960627:Nat:=0
def tw1314241168671612025:Nat:=0
def tw4082219363842364746:Nat:=0
def tw6473169190087849811:Nat:=0
def tw13138418777157077113:Nat:=0
def tw8424295235366414695:Nat:=0
def tw10465510487387650451:Nat:=0
def tw5744162569351674479:Nat:=0
def tw9133170145221685718:Nat:=0
def tw12549446356192644774:Nat:=0
def tw3259059864390323818:Nat:=0
def tw16872011710566986174:Nat:=0
def tw12074983483535411723:Nat:=0
def tw5007364898812790980:Nat:=0
def tw13479030223325676327:Nat:=0
def tw9777632925766600974:Nat:=0
def tw15831145521662218613:Nat:=0
def tw8563038037579987238:Nat:=0
def tw11631563918767805109:Nat:=0
def tw8288781673018541986:Nat:=0
def tw16572679452484236287:Nat:=0
def tw13592879913779837624:Nat:=0
def tw3602403203587051703:Nat:=0
def tw18239297216202873944:Nat:=0
end PySem.W.Fast
set_option maxRecDepth 100000 in
set_option maxHeartbeats 0 in
theorem PySem.Challenge.cw_blamewise_k34_names_and_depths_holds : PySem.Challenge.rw_blamewise_k34_names_and_depths.Holds := by
 w_on;o_law;k_head;(case hw=>w_witness2)
 k_fill
 refine L2.K34.walk (l:=PySem.Challenge.rw_blamewise_k34_names_and_depths) rfl rfl (fun w h Y=>W.kIn_of Y) ?F
 case F=>
  intro w mg fa h KX G hmg
  have T:L2.K34.Txt (L2.KOf KX):=by
   dsimp only [L2.KOf]
   refine' L2.K34.Txt.mk  ?_ ?_ ?_ ?_ ?_ ?_ ?_ ?_ ?_ ?_ ?_ ?_ ?_ ?_ ?_ ?_ ?_ ?_ ?_ ?_ ?_ ?_ ?_ ?_ ?_ ?_ ?_ ?_ ?_ ?_ ?_ ?_ ?_ ?_ ?_ ?_ ?_ ?_ ?_ ?_ ?x_Cls ?B9 ?Dv ?E2 ?E1 ?B8 ?Em ?El ?BD ?BW ?C5 ?BH ?_ ?_ ?_ ?_ ?_ ?_ ?_ ?_ ?_ ?_ ?_ ?_
   (case Dv=>refine' L2.K34.Gq ?a ?l;(case a=>k_is);(case l=>k_is))
   (case E2=>refine' L2.K34.G5 ?a ?l;(case a=>k_is);(case l=>k_is))
   (case E1=>refine' L2.K34.G4 ?a ?l;(case a=>k_is);(case l=>k_is))
   (case B8=>refine' L2.K34.DY ?a ?l;(case a=>k_is);(case l=>k_is))
   (case x_Cls=>refine' L2.K34.x_Cls ?aP ?aT ?aN ?aB ?hP ?hT ?hN ?f1P ?f2P ?f3P ?f4P ?f5P ?f1T ?f1N ?b1 ?b2 ?b3 ?g1 ?g2 ?g3;(case aP=>k_is);(case aT=>k_is);(case aN=>k_is);(case aB=>k_is);(case hP=>(refine' L2.K34.xd_mk ?l ?t ?ini ?fl ?fn ?fc ?fk ?ga ?gn ?cl ?sg ?tk ?ob ?be ?is ?kp ?tyC ?sa ?ov ?hdc ?hh ?hm ?ip ?it ?io;(case l=>k_is);(case t=>kernel_rfl);(case ini=>k_is);(case fl=>k_is);(case fn=>k_is);(case fc=>k_is);(case fk=>k_is);(case ga=>k_is);(case gn=>k_is);(case cl=>k_is);(case sg=>k_is);(case tk=>k_is);(case ob=>k_is);(case be=>k_is);(case is=>kernel_rfl);(case kp=>k_is);(case tyC=>k_is);(case sa=>k_is);(case ov=>kernel_rfl);(case hdc=>kernel_rfl);(case hh=>k_is);(case hm=>k_is);(case ip=>kernel_rfl);(case it=>kernel_rfl);(case io=>kernel_rfl)));(case hT=>(refine' L2.K34.xd_mk ?l ?t ?ini ?fl ?fn ?fc ?fk ?ga ?gn ?cl ?sg ?tk ?ob ?be ?is ?kp ?tyC ?sa ?ov ?hdc ?hh ?hm ?ip ?it ?io;(case l=>k_is);(case t=>kernel_rfl);(case ini=>k_is);(case fl=>k_is);(case fn=>k_is);(case fc=>k_is);(case fk=>k_is);(case ga=>k_is);(case gn=>k_is);(case cl=>k_is);(case sg=>k_is);(case tk=>k_is);(case ob=>k_is);(case be=>k_is);(case is=>kernel_rfl);(case kp=>k_is);(case tyC=>k_is);(case sa=>k_is);(case ov=>kernel_rfl);(case hdc=>kernel_rfl);(case hh=>k_is);(case hm=>k_is);(case ip=>kernel_rfl);(case it=>kernel_rfl);(case io=>kernel_rfl)));(case hN=>(refine' L2.K34.xd_mk ?l ?t ?ini ?fl ?fn ?fc ?fk ?ga ?gn ?cl ?sg ?tk ?ob ?be ?is ?kp ?tyC ?sa ?ov ?hdc ?hh ?hm ?ip ?it ?io;(case l=>k_is);(case t=>kernel_rfl);(case ini=>k_is);(case fl=>k_is);(case fn=>k_is);(case fc=>k_is);(case fk=>k_is);(case ga=>k_is);(case gn=>k_is);(case cl=>k_is);(case sg=>k_is);(case tk=>k_is);(case ob=>k_is);(case be=>k_is);(case is=>kernel_rfl);(case kp=>k_is);(case tyC=>k_is);(case sa=>k_is);(case ov=>kernel_rfl);(case hdc=>kernel_rfl);(case hh=>k_is);(case hm=>k_is);(case ip=>kernel_rfl);(case it=>kernel_rfl);(case io=>kernel_rfl)));(case f1P=>k_is);(case f2P=>k_is);(case f3P=>k_is);(case f4P=>k_is);(case f5P=>k_is);(case f1T=>k_is);(case f1N=>k_is);(case b1=>k_is);(case b2=>kernel_rfl);(case b3=>k_is);(case g1=>k_is);(case g2=>kernel_rfl);(case g3=>kernel_rfl))
   (case B9=>refine' L2.K34.B9 ?a ?pg ?hd ?po ?sa ?mk ?kp ?n1 ?n2 ?atW ?flW ?fnW ?fcW ?fkW ?atC ?flC ?fnC ?fcC ?fkC ?atH ?flH ?fnH ?fcH ?fkH ?atL ?flL ?fnL ?fcL ?fkL ?atI ?flI ?fnI ?fcI ?fkI;(case a=>k_is);(case pg=>k_is);(case hd=>k_is);(case po=>k_is);(case sa=>k_is);(case mk=>k_is);(case kp=>k_is);(case n1=>k_is);(case n2=>k_is);(case atW=>k_is);(case flW=>k_is);(case fnW=>k_is);(case fcW=>k_is);(case fkW=>k_is);(case atC=>k_is);(case flC=>k_is);(case fnC=>k_is);(case fcC=>k_is);(case fkC=>k_is);(case atH=>k_is);(case flH=>k_is);(case fnH=>k_is);(case fcH=>k_is);(case fkH=>k_is);(case atL=>k_is);(case flL=>k_is);(case fnL=>k_is);(case fcL=>k_is);(case fkL=>k_is);(case atI=>k_is);(case flI=>k_is);(case fnI=>k_is);(case fcI=>k_is);(case fkI=>k_is))
   (case Em=>refine' L2.K34.G3 ?a ?t;(case a=>k_is);(case t=>kernel_rfl))
   (case El=>refine' L2.K34.G2 ?a ?t;(case a=>k_is);(case t=>kernel_rfl))
   (case BD=>refine' L2.K34.Dw ?a ?t;(case a=>k_is);(case t=>kernel_rfl))
   (case BW=>refine' L2.K34.DX ?a ?t;(case a=>k_is);(case t=>kernel_rfl))
   (case C5=>refine' L2.K34.Gp ?a ?t;(case a=>k_is);(case t=>kernel_rfl))
   (case BH=>refine' L2.K34.Dp ?a;(case a=>k_is))
   all_goals first | (refine' L2.K34.here_mk ?a ?l ?c ?k;(case a=>k_is);(case l=>k_is);(case c=>k_is);(case k=>k_is)) | k_is
  exact L2.K34.all_mk KX G hmg T
end
