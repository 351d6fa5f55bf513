import PyProof.Rows.All
import Wide.All
import OpenK.AllK
import Wide.FinOn
import Lean
import PyProof.EqAt
import PyProof.EqKinds
import PyProof.TupleCall
import KE.KTabLook
import KE.LcSums
import PyProof.ListMulRoad
import KE.KEqDict
import PyProof.DictIter
import PySem.Challenge.RW_blamewise_k61_plain_rows_and_pairs
local macro_rules | `(tactic| nofun)=>`(tactic| decide +kernel)
local macro_rules | `(nofun)=>`(by kernel_rfl)
open PySem PySem.Spec PyProof.Rows
noncomputable section
noncomputable abbrev Fg:=PySem.W.Frag
noncomputable abbrev NK:=List (Str×NameKind)
set_option Elab.async false
set_option linter.all false
set_option maxRecDepth 100000
set_option maxHeartbeats 8000000
set_option Elab.async false
set_option linter.all false
set_option maxRecDepth 100000
namespace L2
noncomputable abbrev Key:=Sum Int Str
noncomputable def jc:Key→Value→Bool
 | .inl k,v=>Value.isInt k v
 | .inr x,v=>Value.isStrOf x v
noncomputable def BC (w:World):Key→Int
 | .inl k=>hashInt k
 | .inr x=>hashStr w x
theorem aH:∀ {k:Key} {v:Value},jc k v=true→(∃ i t,k=Sum.inl i∧v=Value.int i t)∨(∃ x t,k=Sum.inr x∧v=Value.str x t)
 | .inl i,v,h=>by
   obtain ⟨t,e⟩:=Value.isInt_shape (k:=i) (v:=v) h
   exact .inl ⟨i,t,rfl,e⟩
 | .inr x,v,h=>by
   obtain ⟨t,e⟩:=Value.isStrOf_shape (x:=x) (v:=v) h
   exact .inr ⟨x,t,rfl,e⟩
theorem pt (i:Int) (t:Tok):jc (.inl i) (.int i t)=true:=by simp [jc,Value.isInt]
theorem pw (x:Str) (t:Tok):jc (.inr x) (.str x t)=true:=by simp [jc,Value.isStrOf]
theorem xz (a b:Int):decide ((Sum.inl a:Key)=Sum.inl b)=(a == b):=by
 by_cases e:a=b
 ·subst e;simp
 ·have h:¬ (Sum.inl a:Key)=Sum.inl b:=fun q=>e (Sum.inl.inj q)
  rw [decide_eq_false h]
  exact (beq_eq_false_iff_ne.mpr e).symm
theorem xC (a b:Str):decide ((Sum.inr a:Key)=Sum.inr b)=decide (a=b):=by
 by_cases e:a=b
 ·subst e;simp
 ·have h:¬ (Sum.inr a:Key)=Sum.inr b:=fun q=>e (Sum.inr.inj q)
  rw [decide_eq_false h,decide_eq_false e]
theorem xA (a:Int) (b:Str):decide ((Sum.inl a:Key)=Sum.inr b)=false:=decide_eq_false (fun q=>nomatch q)
theorem xB (a:Str) (b:Int):decide ((Sum.inr a:Key)=Sum.inl b)=false:=decide_eq_false (fun q=>nomatch q)
noncomputable def aB (prog:Program) (w:World):PySem.KeyKind prog w Key where
 is:=jc
 hash:=BC w
 inj:=fun v a b ha hb=>by
  rcases aH ha with ⟨i,t,rfl,rfl⟩ | ⟨x,t,rfl,rfl⟩
  ·rcases aH hb with ⟨j,u,rfl,e⟩ | ⟨y,u,rfl,e⟩
   ·injection e with e1 _;rw [e1]
   ·exact nomatch e
  ·rcases aH hb with ⟨j,u,rfl,e⟩ | ⟨y,u,rfl,e⟩
   ·exact nomatch e
   ·injection e with e1 _;rw [e1]
 byValue:=fun k v h=>by
  rcases aH h with ⟨i,t,rfl,rfl⟩ | ⟨x,t,rfl,rfl⟩ <;> rfl
 pyHash:=fun hv h=>by
  rcases aH hv with ⟨i,t,rfl,rfl⟩ | ⟨x,t,rfl,rfl⟩
  ·exact wpAny_pyHash_int h
  ·exact wpAny_pyHash_str h
 eqBool:=fun hu hv h=>by
  rcases aH hu with ⟨i,t,rfl,rfl⟩ | ⟨x,t,rfl,rfl⟩
  ·rcases aH hv with ⟨j,u,rfl,rfl⟩ | ⟨y,u,rfl,rfl⟩
   ·rw [xz] at h;exact wpAny_eqBool_int h
   ·rw [xA] at h;exact SeqAt.EqAt.int_str i t y u _ _ _ _ h
  ·rcases aH hv with ⟨j,u,rfl,rfl⟩ | ⟨y,u,rfl,rfl⟩
   ·rw [xB] at h;exact SeqAt.EqAt.str_int x t j u _ _ _ _ h
   ·rw [xC] at h;exact wpAny_eqBool_str h
 «strs»:=fun k x t v h=>by
  rcases aH h with ⟨i,u,rfl,e⟩ | ⟨y,u,rfl,e⟩
  ·exact nomatch e
  ·injection e with e1 _
   subst e1
   cases v <;> rfl
theorem kZ (prog:Program) (w:World) (i:Int) (t:Tok):(aB prog w).is (.inl i) (.int i t)=true:=pt i t
theorem k6 (prog:Program) (w:World) (x:Str) (t:Tok):(aB prog w).is (.inr x) (.str x t)=true:=pw x t
end L2
namespace L2
inductive V where
 | non | bl (b:Bool) | int (i:Int) | str (x:Str) | byt (b:Array UInt8) | flt (b:UInt64) | ref (a:Addr) | ty (n:String)
 deriving DecidableEq
noncomputable def ar:V→Value→Prop
 | .non,u=>u=Value.none
 | .bl b,u=>u=Value.bool b
 | .int i,u=>∃ t,u=Value.int i t
 | .str x,u=>∃ t,u=Value.str x t
 | .byt b,u=>∃ t,u=Value.bytes b t
 | .flt b,u=>∃ t,u=Value.float b t
 | .ref a,u=>u=Value.ref a
 | .ty n,u=>u=Value.type n
noncomputable abbrev av:List V→List Value→Prop:=Paired ar
theorem av.length {xs:List V} {us:List Value} (r:av xs us):xs.length=us.length:=Paired.length r
theorem av.get:∀ {xs:List V} {us:List Value} {i:Nat} {x:V},av xs us→xs[i]? = some x→∃ u,us[i]? = some u∧ar x u
 | _,_,_,_,.nil,e=>by simp at e
 | _,_,0,_,.cons r _,e=>by simp at e;subst e;exact ⟨_,rfl,r⟩
 | _,_,i+1,x,.cons _ t,e=>by
   obtain ⟨u,h1,h2⟩:=av.get (i:=i) (x:=x) t (by simpa using e)
   exact ⟨u,by simpa using h1,h2⟩
theorem av.set {x:V} {u:Value} (r:ar x u):∀ {xs:List V} {us:List Value} (i:Nat),av xs us→av (xs.set i x) (us.set i u)
 | _,_,_,.nil=>.nil
 | _,_,0,.cons _ t=>.cons r t
 | _,_,i+1,.cons q t=>.cons q (av.set r i t)
theorem av.append:∀ {xs ys:List V} {us ws:List Value},av xs us→av ys ws→av (xs ++ ys) (us ++ ws)
 | _,_,_,_,.nil,s=>s
 | _,_,_,_,.cons r t,s=>.cons r (av.append t s)
theorem av.take:∀ {xs:List V} {us:List Value} (n:Nat),av xs us→av (xs.take n) (us.take n)
 | _,_,0,_=>.nil
 | _,_,_+1,.nil=>.nil
 | _,_,n+1,.cons r t=>.cons r (av.take n t)
theorem av.drop:∀ {xs:List V} {us:List Value} (n:Nat),av xs us→av (xs.drop n) (us.drop n)
 | _,_,0,r=>r
 | _,_,_+1,.nil=>.nil
 | _,_,n+1,.cons _ t=>av.drop n t
noncomputable def bM:Option V→Option Value→Prop
 | some v,some u=>ar v u
 | none,none=>True
 | _,_=>False
noncomputable def KV {κ:Type}:List (κ×V)→List (κ×Value)→Prop:=Paired fun (p:κ×V) (q:κ×Value)=>p.1=q.1∧ar p.2 q.2
noncomputable def kV:Key→V
 | .inl i=>.int i
 | .inr x=>.str x
inductive HO where
 | lst (xs:List V)
 | tup (xs:List V)
 | dK (kvs:List (Key×V)) | dT (kvs:List (List Key×V))
 | set (S:Int→Bool) (n:Nat)
 | ins (C dx:Addr) (fs:List (Str×V))
 | own (x:Addr)
 | xd (fs:List (Str×V))
 | met (f x:Addr)
 | rng (lo hi:Int)
 | frz (o:Obj) (u:HO)
 | tbl (ps:Array Value)
 | ext (φ:Heap→Prop)
noncomputable abbrev Hp:=Addr→Option HO
noncomputable def upd (H:Hp) (a:Addr) (o:HO):Hp:=fun b=>if b=a then some o else H b
theorem ae {H:Hp} {a:Addr} {o:HO}:upd H a o a=some o:=by unfold upd;rw [if_pos rfl]
theorem aa {H:Hp} {a b:Addr} {o:HO} (h:b≠a):upd H a o b=H b:=by unfold upd;rw [if_neg h]
theorem eU {H:Hp} {a:Addr} {o u:HO}:upd (upd H a o) a u=upd H a u:=by
 funext b;unfold upd;split <;> rfl
theorem Ao {H:Hp} {a b:Addr} {o u:HO} (h:H a=some o) (h':H b=some u) (d:o≠u):a≠b:=by
 intro e;subst e;rw [h] at h';exact d (Option.some.inj h')
theorem ak {H:Hp} {a b:Addr} {o:HO} (h:H a=some o) (h':H b=none):a≠b:=by
 intro e;subst e;rw [h] at h';cases h'
section
variable (P:Program) (w:World)
noncomputable def aC (H:Hp) (h:Heap) (a:Addr):HO→Prop
 | .lst xs=>xs.length≤sizeLine∧∃ (its:List Value) (n:Nat),av xs its∧h.get? a=some { cls:=.type "list",data:=.seq its.toArray n }
 | .tup xs=>xs.length≤sizeLine∧∃ its:List Value,av xs its∧IsTup h a its.toArray
 | .dK kvs=>kvs.length≤sizeLine∧(a == sysModules)=false∧∃ vs,KV kvs vs∧h.DictOf (aB P w) a vs
 | .dT kvs=>kvs.length≤sizeLine∧(a == sysModules)=false∧∃ xs:List (List Key×Addr×Value),
  Paired (fun (p:List Key×V) (q:List Key×Addr×Value)=>p.1=q.1∧H q.2.1=some (.tup (p.1.map kV))∧ar p.2 q.2.2) kvs xs ∧
  ∃ o es ep,h.get? a=some o∧o.ExactDict∧o.data = .dict es ep∧es.toList=xs.map (entryOfKey (tupleKind (aB P w)))∧(xs.map (·.1)).Nodup
 | .set S n=>h.SetOf (intKind P w) a S n
 | .ins C dx fs=>H dx=some (.own a)∧fs.length≤1000∧dx≠a∧h.get? a=some (PySem.W.instObj C dx) ∧
  ∃ mA,h.Ns1 dx mA∧(∀ f,bM (fs.lookup f) (mA f))∧PySem.Within mA (fs.map (·.1))
 | .own _=>∃ o,h.get? a=some o
 | .xd fs=>∃ mA,h.Ns1 a mA∧∀ f,bM (fs.lookup f) (mA f)
 | .rng lo hi=>∃ t u v,h.get? a=some { cls:=.type "range",data:=.fields #[.int lo t,.int hi u,.int 1 v] }
 | .frz o u=>h.get? a=some o∧aC H h a u
 | .tbl ps=>h.get? a=some { cls:=.none,data:=.fields ps }
 | .met f x=>h.get? a=some (PySem.W.methodObj (.ref f) (.ref x))
 | .ext φ=>φ h∧(∃ o,h.get? a=some o)∧∀ h1 h2:Heap,φ h1→(∀ o,h1.get? a=some o→h2.get? a=some o)→φ h2
noncomputable def HOk (H:Hp) (h:Heap):Prop:=∀ a o,H a=some o→aC P w H h a o
end
section
variable {P:Program} {w:World} {H H':Hp} {h h':Heap} {a:Addr} {o:HO}
theorem aC.lt (x:aC P w H h a o):a<h.objs.size:=by
 cases o with
 | lst xs=>obtain ⟨_,_,_,_,e⟩:=x;exact Heap.lt_size e
 | tup xs=>obtain ⟨_,_,_,p⟩:=x;exact p.lt
 | dK kvs=>obtain ⟨_,_,_,_,o,_,_,e,_⟩:=x;exact Heap.lt_size e
 | dT kvs=>obtain ⟨_,_,_,_,o,_,_,e,_⟩:=x;exact Heap.lt_size e
 | set S n=>obtain ⟨o,_,_,_,e,_⟩:=x;exact Heap.lt_size e
 | ins C dx fs=>obtain ⟨_,_,_,e,_⟩:=x;exact Heap.lt_size e
 | own y=>obtain ⟨_,e⟩:=x;exact Heap.lt_size e
 | xd fs=>obtain ⟨_,⟨_,_,_,e,_⟩,_⟩:=x;exact Heap.lt_size e
 | rng lo hi=>obtain ⟨_,_,_,e⟩:=x;exact Heap.lt_size e
 | frz ob u=>obtain ⟨e,_⟩:=x;exact Heap.lt_size e
 | tbl ps=>exact Heap.lt_size (show h.get? a=some _ from x)
 | met f y=>exact Heap.lt_size (show h.get? a=some _ from x)
 | ext φ=>obtain ⟨_,⟨_,e⟩,_⟩:=x;exact Heap.lt_size e
theorem Paired.mapP {α β:Type} {F G:α→β→Prop}:∀ {l₁:List α} {l₂:List β},Paired F l₁ l₂→(∀ a b,F a b→G a b)→Paired G l₁ l₂
 | _,_,.nil,_=>.nil
 | _,_,.cons r t,f=>.cons (f _ _ r) (Paired.mapP t f)
theorem aC.stay (x:aC P w H h a o) (k:∀ b u,(b=a∨H b=some (.own a))→h.get? b=some u→h'.get? b=some u)
 (ho:∀ b,H b=some (.own a)→H' b=some (.own a)) (ht:∀ b xs,H b=some (.tup xs)→H' b=some (.tup xs)):aC P w H' h' a o:=by
 induction o with
 | lst xs=>obtain ⟨z,its,n,r,e⟩:=x;exact ⟨z,its,n,r,k _ _ (.inl rfl) e⟩
 | tup xs=>obtain ⟨z,its,r,ob,e,c⟩:=x;exact ⟨z,its,r,ob,k _ _ (.inl rfl) e,c⟩
 | dK kvs=>obtain ⟨z,y,vs,r,ob,es,ep,e,c⟩:=x;exact ⟨z,y,vs,r,ob,es,ep,k _ _ (.inl rfl) e,c⟩
 | dT kvs=>
   obtain ⟨z,y,xs,r,ob,es,ep,e,c⟩:=x
   exact ⟨z,y,xs,Paired.mapP r fun p q z=>⟨z.1,ht _ _ z.2.1,z.2.2⟩,ob,es,ep,k _ _ (.inl rfl) e,c⟩
 | set S n=>obtain ⟨ob,es,ep,t,e,c⟩:=x;exact ⟨ob,es,ep,t,k _ _ (.inl rfl) e,c⟩
 | ins C dx fs=>
   obtain ⟨d,z,ne,e,mA,⟨od,es,ep,e2,c⟩,r⟩:=x
   exact ⟨ho _ d,z,ne,k _ _ (.inl rfl) e,mA,⟨od,es,ep,k _ _ (.inr d) e2,c⟩,r⟩
 | own y=>obtain ⟨ob,e⟩:=x;exact ⟨ob,k _ _ (.inl rfl) e⟩
 | xd fs=>obtain ⟨mA,⟨od,es,ep,e,c⟩,r⟩:=x;exact ⟨mA,⟨od,es,ep,k _ _ (.inl rfl) e,c⟩,r⟩
 | rng lo hi=>obtain ⟨t,u,v,e⟩:=x;exact ⟨t,u,v,k _ _ (.inl rfl) e⟩
 | frz ob u ih=>obtain ⟨e,q⟩:=x;exact ⟨k _ _ (.inl rfl) e,ih q⟩
 | tbl ps=>
   have e:h.get? a=some { cls:=.none,data:=.fields ps }:=x
   show h'.get? a=some { cls:=.none,data:=.fields ps }
   exact k a _ (.inl rfl) e
 | met f y=>
   have e:h.get? a=some (PySem.W.methodObj (.ref f) (.ref y)):=x
   show h'.get? a=some (PySem.W.methodObj (.ref f) (.ref y))
   exact k a _ (.inl rfl) e
 | ext φ=>obtain ⟨p,⟨o,e⟩,st⟩:=x;exact ⟨st _ _ p fun o q=>k _ _ (.inl rfl) q,⟨o,k _ _ (.inl rfl) e⟩,st⟩
theorem HOk.lt (x:HOk P w H h) (e:H a=some o):a<h.objs.size:=(x a o e).lt
theorem HOk.fresh (x:HOk P w H h) (e:h.objs.size≤a):H a=none:=by
 cases q:H a with
 | none=>rfl
 | some u=>exact absurd (Nat.lt_of_lt_of_le (x.lt q) e) (Nat.lt_irrefl _)
theorem HOk.kept (x:HOk P w H h) (k:∀ b u,h.get? b=some u→h'.get? b=some u):HOk P w H h':=fun a o e=>
 (x a o e).stay (fun b u _ q=>k b u q) (fun _ q=>q) fun _ _ q=>q
theorem HOk.laid (x:HOk P w H h) (k:∀ b u,h.get? b=some u→h'.get? b=some u) (hp:h.objs.size≤a) (new:aC P w (upd H a o) h' a o):HOk P w (upd H a o) h':=fun b u e=>by
 have hn:=x.fresh hp
 by_cases hb:b=a
 ·subst hb;rw [ae] at e;cases e;exact new
 ·rw [aa hb] at e
  exact (x b u e).stay (fun c v _ q=>k c v q) (fun c q=>by rw [aa (ak q hn)];exact q) fun c xs q=>by rw [aa (ak q hn)];exact q
end
noncomputable def Rd (H:Hp) (a:Addr) (u:HO):Prop:=H a=some u∨∃ o,H a=some (.frz o u)
theorem Rd.ok {P:Program} {w:World} {H:Hp} {h:Heap} {a:Addr} {u:HO} (r:Rd H a u) (x:HOk P w H h):aC P w H h a u:=by
 rcases r with r | ⟨o,r⟩
 ·exact x a u r
 ·obtain ⟨_,q⟩:=x a _ r
  exact q
noncomputable def Mut:Option HO→Prop
 | some (.lst _)=>True
 | some (.dK _)=>True
 | some (.dT _)=>True
 | some (.set _ _)=>True
 | some (.ins _ _ _)=>True
 | some (.ext _)=>True
 | _=>False
section
variable {P:Program} {w:World} {H:Hp} {h h':Heap} {x e:Addr} {o':HO}
theorem HOk.write (ok:HOk P w H h) (mu:Mut (H x)) (he:e=x∨H e=some (.own x)) (k:∀ b u,b≠e→h.get? b=some u→h'.get? b=some u) (heo:∃ u,h'.get? e=some u)
 (new:aC P w (upd H x o') h' x o'):HOk P w (upd H x o') h':=fun b u q=>by
 have nown:∀ c y,H c=some (.own y)→c≠x:=fun c y r z=>by subst z;rw [r] at mu;exact mu
 have ntup:∀ c xs,H c=some (.tup xs)→c≠x:=fun c xs r z=>by subst z;rw [r] at mu;exact mu
 by_cases hb:b=x
 ·subst hb;rw [ae] at q;cases q;exact new
 ·rw [aa hb] at q
  by_cases hbe:b=e
  ·have q':H b=some (.own x):=by
    rcases he with z | z
    ·exact absurd (hbe.trans z) hb
    ·rw [hbe];exact z
   rw [q] at q';cases q'
   obtain ⟨v,hv⟩:=heo
   exact ⟨v,by rw [hbe];exact hv⟩
  ·refine (ok b u q).stay (fun c v hc r=>k c v ?_ r) (fun c r=>by rw [aa (nown c b r)];exact r) fun c xs r=>by rw [aa (ntup c xs r)];exact r
   rcases hc with rfl | hc
   ·exact hbe
   ·rintro rfl
    rcases he with z | z
    ·exact nown c b hc z
    ·rw [hc] at z;cases z;exact hb rfl
end
structure Un (fs ex:List Addr) (H H':Hp) (h h':Heap):Prop where
 keep:∀ b o,h.get? b=some o→H b=none→b ∉ fs→b ∉ ex→h'.get? b=some o
 slot:∀ b o,h.get? b=some o→H b=none→b∈fs→b ∉ ex→∃ sl,h'.get? b=some { o with slots:=sl }
 free:∀ b o,h.get? b=some o→H b=none→b ∉ ex→H' b=none
 there:∀ b o,h.get? b=some o→b ∉ ex→∃ o',h'.get? b=some o'
 tups:∀ b xs,H b=some (.tup xs)→H' b=some (.tup xs)
 frzs:∀ b o u,H b=some (.frz o u)→H' b=some (.frz o u)
 tbls:∀ b ps,H b=some (.tbl ps)→∃ more,H' b=some (.tbl (ps ++ more))
section
variable {fs fs' ex ex':List Addr} {H H1 H2:Hp} {h h1 h2 h':Heap} {a x e:Addr} {o:HO}
theorem Un.any (u:Un fs ex H H1 h h1) {b:Addr} {ob:Obj} (q:h.get? b=some ob) (n:H b=none) (hx:b ∉ ex):∃ sl,h1.get? b=some { ob with slots:=sl }:=by
 by_cases hb:b∈fs
 ·exact u.slot b ob q n hb hx
 ·exact ⟨ob.slots,u.keep b ob q n hb hx⟩
theorem Un.kept (k:∀ b u,h.get? b=some u→h'.get? b=some u):Un fs ex H H h h':=
 ⟨fun b ob q _ _ _=>k b ob q,fun b ob q _ _ _=>⟨ob.slots,k b ob q⟩,fun _ _ _ n _=>n,fun b ob q _=>⟨ob,k b ob q⟩,fun _ _ q=>q,fun _ _ _ q=>q,fun _ ps q=>⟨#[],by rw [q];simp⟩⟩
theorem Un.refl:Un fs ex H H h h:=Un.kept fun _ _ q=>q
theorem Un.laid (k:∀ b u,h.get? b=some u→h'.get? b=some u) (hp:h.objs.size≤a) (hn:H a=none):Un fs ex H (upd H a o) h h' where
 keep:=fun b u q _ _ _=>k b u q
 slot:=fun b u q _ _ _=>⟨u.slots,k b u q⟩
 free:=fun b u q n _=>by rw [aa (Nat.ne_of_lt (Nat.lt_of_lt_of_le (Heap.lt_size q) hp))];exact n
 there:=fun b u q _=>⟨u,k b u q⟩
 tups:=fun b xs q=>by rw [aa (ak q hn)];exact q
 frzs:=fun b u xs q=>by rw [aa (ak q hn)];exact q
 tbls:=fun b ps q=>⟨#[],by rw [aa (ak q hn),q];simp⟩
theorem Un.write (mu:Mut (H x)) (he:e=x∨H e=some (.own x)) (k:∀ b u,b≠e→h.get? b=some u→h'.get? b=some u) (heo:∃ u,h'.get? e=some u):Un fs ex H (upd H x o) h h':=by
 have hx:∀ b,H b=none→b≠x:=fun b n z=>by subst z;rw [n] at mu;exact mu
 have hb:∀ b,H b=none→b≠e:=fun b n z=>by
  subst z
  rcases he with r | r
  ·exact hx b n r
  ·rw [n] at r;cases r
 have hm:∀ b u,H b=some u→¬ Mut (some u)→b≠x:=fun b u q nm z=>by subst z;rw [q] at mu;exact nm mu
 refine ⟨fun b u q n _ _=>k b u (hb b n) q,fun b u q n _ _=>⟨u.slots,k b u (hb b n) q⟩,fun b u q n _=>by rw [aa (hx b n)];exact n,fun b u q _=>?_,
  fun b xs q=>by rw [aa (hm b _ q fun z=>z)];exact q,fun b u xs q=>by rw [aa (hm b _ q fun z=>z)];exact q,fun b ps q=>⟨#[],by rw [aa (hm b _ q fun z=>z),q];simp⟩⟩
 by_cases hbe:b=e
 ·subst hbe;exact heo
 ·exact ⟨u,k b u hbe q⟩
end
noncomputable def trk (h:Heap) (H:Hp):List Addr:=(List.range h.objs.size).filter fun a=>(H a).isSome
noncomputable def jF (h:Heap) (H:Hp):Heap:=PySem.W.hideAll h (trk h H)
theorem pi (h:Heap) (H:Hp):(jF h H).objs.size=h.objs.size:=PySem.W.hideAll_size _ _
theorem qP {h:Heap} {H:Hp} {b:Addr} {o:Obj} (e:h.get? b=some o) (n:H b=none):(jF h H).get? b=some o:=
 PySem.W.hideAll_get _ e fun hm=>by
  have q:(H b).isSome=true:=(List.mem_filter.mp hm).2
  rw [n] at q;simp at q
theorem uJ {h:Heap} {H:Hp} {b:Addr} {o:Obj} (e:(jF h H).get? b=some o):h.get? b=some o∧H b=none:=by
 have e':h.get? b=some o:=PySem.W.of_hideAll (trk h H) e
 refine ⟨e',?_⟩
 cases q:H b with
 | none=>rfl
 | some x=>
   have hm:b∈trk h H:=List.mem_filter.mpr ⟨List.mem_range.mpr (Heap.lt_size e'),by simp [q]⟩
   have z:(jF h H).get? b=none:=PySem.W.hideAll_none (trk h H) hm
   rw [z] at e;cases e
end L2
namespace L2
structure Mod (K:Fg) (mg:Str→Option Value) (base:Heap):Prop where
 kin:K.In base
 glob:base.Ns mainGlobals mg
 blt:∃ mb,base.Ns builtinsNs mb∧∀ x:Str,x≠"__name__"→mb x=bootBuiltins x
 nolimit:base.NoLimit
structure Cx where
 prog:Program
 w:World
 K:Fg
 mg:Str→Option Value
 base:Heap
 A:Around
 N:List Str
 s₀:Shared
 H₀:Hp
 env:Env
 outer:List Env
 stack:List Env
 ex:List Addr
 fn:Str→Bool
 calm:Bool
 pn:List (Addr×Obj)
 xe:Value→Shared→Prop
noncomputable def frs (l:List Env):List Addr:=l.filterMap (·.frame)
noncomputable abbrev Cx.fs (X:Cx):List Addr:=frs X.outer
noncomputable def Vis (sc:Scope) (x:Str):Prop:=sc.names.lookup x=some .local∨sc.names.lookup x=some .cell∨sc.names.lookup x=some .free
noncomputable def Loc (sc:Scope) (x:Str):Prop:=sc.names.lookup x=some .local∨sc.names.lookup x=some .cell
noncomputable def A7 (env:Env) (h:Heap) (m:Str→Option Value) (x:Str) (u:Value):Prop:=
 (env.kindOf x=some .local∧m x=some u)∨((env.kindOf x=some .cell∨env.kindOf x=some .free)∧∃ c,env.cells.lookup x=some c∧h.IsCell c (some u))
structure Cx.Ok (X:Cx):Prop where
 mod:Mod X.K X.mg X.base
 kind:X.env.scope.kind = .function
 glob:X.env.globals=mainGlobals
 blt:X.env.builtins=builtinsNs
 above:X.s₀.heap.objs.size≤X.env.locals
 inj:∀ x y c,X.env.cells.lookup x=some c→X.env.cells.lookup y=some c→x=y
 has:∀ x,(X.env.kindOf x=some .cell∨X.env.kindOf x=some .free)→∃ c,X.env.cells.lookup x=some c
 cab:∀ x c,X.fn x=true→X.env.cells.lookup x=some c→X.s₀.heap.objs.size≤c
 hd:X.calm=true→X.A.handled=none
 frames:X.A.frames=some X.stack
 stk:X.stack=X.outer∨(X.stack=X.env :: X.outer∧X.env.frame=some X.env.locals)
 exf:∀ b∈X.ex,b≠X.env.locals∧∀ x c,X.env.cells.lookup x=some c→c≠b
 bs:∀ b o,X.base.get? b=some o→X.s₀.heap.get? b=some o∧X.H₀ b=none
 bsz:X.base.objs.size≤X.s₀.heap.objs.size
 noex:∀ b o,X.base.get? b=some o→b ∉ X.ex
 exfs:∀ b∈X.ex,b ∉ X.fs
 funs:X.s₀.heap.FunFrames X.base X.outer
 frf:∀ b∈X.fs,X.H₀ b=none
structure Inv (X:Cx) (pins:List (Addr×Obj)) (σ:List (Option V)) (H:Hp) (s:Shared):Prop where
 ok:X.Ok
 os:s.os=X.s₀.os
 bare:AllBare s.gens
 base:Un X.fs X.ex X.H₀ H X.s₀.heap s.heap
 loc:∃ m,s.heap.Ns X.env.locals m∧∀ (i:Nat) (x:Str) (v:V),X.N[i]? = some x→σ[i]? = some (some v)→Vis X.env.scope x→∃ u,ar v u∧A7 X.env s.heap m x u
 cell:∀ x c,X.env.cells.lookup x=some c→∃ v,s.heap.IsCell c v
 free:H X.env.locals=none
 freeC:∀ x c,X.env.cells.lookup x=some c→H c=none
 pin:∀ p∈X.pn ++ pins,s.heap.get? p.1=some p.2∧H p.1=none∧p.1≠X.env.locals∧p.1 ∉ X.fs∧∀ v,p.2.data≠.cell v
 hok:HOk X.prog X.w H s.heap
 len:σ.length=X.N.length
section
variable {X:Cx} {pins:List (Addr×Obj)} {σ:List (Option V)} {H H':Hp} {s:Shared} {h':Heap}
theorem Cx.Ok.nofr (ok:X.Ok) {b:Addr} {o:Obj} (e:X.base.get? b=some o):b ∉ X.fs:=fun hb=>by
 have:=(ok.funs.mem hb).1
 rw [e] at this;cases this
theorem Inv.bs (I:Inv X pins σ H s):∀ b o,X.base.get? b=some o→s.heap.get? b=some o∧H b=none:=fun b o e=>
 ⟨I.base.keep b o (I.ok.bs b o e).1 (I.ok.bs b o e).2 (I.ok.nofr e) (I.ok.noex b o e),I.base.free b o (I.ok.bs b o e).1 (I.ok.bs b o e).2 (I.ok.noex b o e)⟩
theorem Inv.bk (I:Inv X pins σ H s):∀ b o,X.base.get? b=some o→s.heap.get? b=some o:=fun b o e=>(I.bs b o e).1
theorem Inv.mod (I:Inv X pins σ H s):Mod X.K X.mg X.base:=I.ok.mod
theorem Inv.kIn (I:Inv X pins σ H s):X.K.In s.heap:=I.ok.mod.kin.keeps I.bk
theorem Inv.lt (I:Inv X pins σ H s):X.env.locals<s.heap.objs.size:=let ⟨_,hn,_⟩:=I.loc;hn.lt
theorem Inv.sz (I:Inv X pins σ H s):X.s₀.heap.objs.size≤s.heap.objs.size:=Nat.le_trans I.ok.above (Nat.le_of_lt I.lt)
theorem Inv.nofs (I:Inv X pins σ H s) {a:Addr} (h:s.heap.objs.size≤a):a ∉ X.fs:=fun hb=>by
 obtain ⟨_,o,ho,_⟩:=I.ok.funs.mem hb
 exact absurd (Nat.lt_of_lt_of_le (Heap.lt_size ho) (Nat.le_trans I.sz h)) (Nat.lt_irrefl _)
theorem Inv.cne (I:Inv X pins σ H s):∀ x c,X.env.cells.lookup x=some c→c≠X.env.locals:=fun x c e z=>by
 obtain ⟨v,o,ho,hd⟩:=I.cell x c e
 obtain ⟨m,⟨o',es,ep,ho',hd',_⟩,_⟩:=I.loc
 rw [z,ho'] at ho;cases ho;rw [hd'] at hd;cases hd
theorem Inv.funs (I:Inv X pins σ H s):s.heap.FunFrames X.base X.outer:=by
 have all:∀ (l:List Env),(∀ b∈frs l,b∈X.fs)→X.s₀.heap.FunFrames X.base l→s.heap.FunFrames X.base l:=by
  intro l
  induction l with
  | nil=>intro _ _;trivial
  | cons env r ih=>
    intro hs hl
    obtain ⟨hk,⟨L,o,hf,hn,ho,hd⟩,hr⟩:=hl
    have hL:L∈X.fs:=hs L (by unfold frs;rw [List.filterMap_cons,hf];exact List.mem_cons_self)
    obtain ⟨sl,e⟩:=I.base.slot L o ho (I.ok.frf L hL) hL fun z=>I.ok.exfs L z hL
    exact ⟨hk,⟨L,_,hf,hn,e,hd⟩,ih (fun b hb=>hs b (by unfold frs;rw [List.filterMap_cons,hf];exact List.mem_cons_of_mem _ hb)) hr⟩
 exact all X.outer (fun _ hb=>hb) I.ok.funs
theorem Inv.stack (I:Inv X pins σ H s):s.heap.FunFrames X.base X.stack:=by
 rcases I.ok.stk with e | ⟨e,hf⟩
 ·rw [e];exact I.funs
 ·rw [e]
  obtain ⟨m,hn,_⟩:=I.loc
  refine .cons (by rw [I.ok.kind];decide) hf hn ?_ I.funs
  exact Heap.get?_none_of_le (Nat.le_trans I.ok.bsz I.ok.above)
theorem Inv.stkSub (I:Inv X pins σ H s):∀ b∈frs X.stack,b∈X.env.locals :: X.fs:=fun b hb=>by
 rcases I.ok.stk with e | ⟨e,hf⟩
 ·rw [e] at hb;exact List.mem_cons_of_mem _ hb
 ·rw [e] at hb
  unfold frs at hb
  rw [List.filterMap_cons,hf] at hb
  exact hb
theorem Inv.stkFree (I:Inv X pins σ H s):∀ b∈frs X.stack,H b=none:=fun b hb=>by
 rcases List.mem_cons.mp (I.stkSub b hb) with e | hb
 ·rw [e];exact I.free
 ·obtain ⟨_,o,ho,_⟩:=I.ok.funs.mem hb
  exact I.base.free b o ho (I.ok.frf b hb) fun z=>I.ok.exfs b z hb
theorem Inv.step {g':Array GenState} {t':Nat} {d':Drawn} {ch:List Addr} (I:Inv X pins σ H s)
 (hch:∀ b∈ch,(b∈X.ex∨X.s₀.heap.objs.size≤b)∧b≠X.env.locals∧(∀ x c,X.env.cells.lookup x=some c→c≠b)∧∀ p∈X.pn ++ pins,p.1≠b)
 (keep:∀ b o,b≠X.env.locals→b ∉ X.fs→b ∉ ch→s.heap.get? b=some o→H b=none→h'.get? b=some o)
 (slot:∀ b o,b≠X.env.locals→b∈X.fs→b ∉ ch→s.heap.get? b=some o→H b=none→∃ sl,h'.get? b=some { o with slots:=sl }) (free:∀ b o,b ∉ ch→s.heap.get? b=some o→H b=none→H' b=none)
 (there:∀ b o,b ∉ ch→s.heap.get? b=some o→∃ o',h'.get? b=some o')
 (tups:∀ b xs,H b=some (.tup xs)→H' b=some (.tup xs)) (frzs:∀ b o u,H b=some (.frz o u)→H' b=some (.frz o u)) (tbls:∀ b ps,H b=some (.tbl ps)→∃ more,H' b=some (.tbl (ps ++ more)))
 (ns:∀ m,s.heap.Ns X.env.locals m→h'.Ns X.env.locals m) (hok:HOk X.prog X.w H' h') (hg:AllBare g') :
 Inv X pins σ H' { s with heap:=h',gens:=g',drawn:=d',toks:=t' }:=by
 have neL:∀ b o,X.s₀.heap.get? b=some o→b≠X.env.locals:=fun b o e=>Nat.ne_of_lt (Nat.lt_of_lt_of_le (Heap.lt_size e) I.ok.above)
 have neC:∀ b o,X.s₀.heap.get? b=some o→b ∉ X.ex→b ∉ ch:=fun b o e hx hb=>by
  rcases (hch b hb).1 with z | z
  ·exact hx z
  ·exact absurd (Nat.lt_of_lt_of_le (Heap.lt_size e) z) (Nat.lt_irrefl _)
 have cellK:∀ x c,X.env.cells.lookup x=some c→∀ v,s.heap.IsCell c v→h'.IsCell c v:=fun x c e v ⟨o,ho,hd⟩=>by
  have nch:c ∉ ch:=fun z=>(hch c z).2.2.1 x c e rfl
  by_cases hc:c∈X.fs
  ·obtain ⟨sl,q⟩:=slot c o (I.cne x c e) hc nch ho (I.freeC x c e)
   exact ⟨_,q,hd⟩
  ·exact ⟨o,keep c o (I.cne x c e) hc nch ho (I.freeC x c e),hd⟩
 refine ⟨I.ok,I.os,hg,⟨fun b o e n hb hx=>?_,fun b o e n hb hx=>?_,fun b o e n hx=>?_,fun b o e hx=>?_,fun b xs e=>tups b xs (I.base.tups b xs e),fun b o xs e=>frzs b o xs (I.base.frzs b o xs e),fun b ps e=>?_⟩,?_,fun x c e=>?_,?_,fun x c e=>?_,fun p hp=>?_,hok,I.len⟩
 ·exact keep b o (neL b o e) hb (neC b o e hx) (I.base.keep b o e n hb hx) (I.base.free b o e n hx)
 ·obtain ⟨sl,e1⟩:=I.base.slot b o e n hb hx
  obtain ⟨sl',e2⟩:=slot b _ (neL b o e) hb (neC b o e hx) e1 (I.base.free b o e n hx)
  exact ⟨sl',e2⟩
 ·obtain ⟨o',e1⟩:=I.base.there b o e hx
  exact free b o' (neC b o e hx) e1 (I.base.free b o e n hx)
 ·obtain ⟨o',e1⟩:=I.base.there b o e hx
  exact there b o' (neC b o e hx) e1
 ·obtain ⟨m1,e1⟩:=I.base.tbls b ps e
  obtain ⟨m2,e2⟩:=tbls b _ e1
  exact ⟨m1 ++ m2,by rw [e2,Array.append_assoc]⟩
 ·obtain ⟨m,hn,hl⟩:=I.loc
  refine ⟨m,ns m hn,fun i x v e1 e2 e3=>?_⟩
  obtain ⟨u,r,l⟩:=hl i x v e1 e2 e3
  refine ⟨u,r,?_⟩
  rcases l with l | ⟨k,c,e,z⟩
  ·exact .inl l
  ·exact .inr ⟨k,c,e,cellK x c e _ z⟩
 ·obtain ⟨v,z⟩:=I.cell x c e
  exact ⟨v,cellK x c e v z⟩
 ·obtain ⟨m,⟨o,_,_,ho,_⟩,_⟩:=I.loc
  exact free _ o (fun z=>(hch _ z).2.1 rfl) ho I.free
 ·obtain ⟨v,o,ho,hd⟩:=I.cell x c e
  exact free c o (fun z=>(hch c z).2.2.1 x c e rfl) ho (I.freeC x c e)
 ·obtain ⟨e,n,ne,nf,d⟩:=I.pin p hp
  have nch:p.1 ∉ ch:=fun z=>(hch p.1 z).2.2.2 p hp rfl
  exact ⟨keep p.1 p.2 ne nf nch e n,free p.1 p.2 nch e n,ne,nf,d⟩
theorem Inv.un {t':Nat} (I:Inv X pins σ H s) (u:Un X.fs [] H H' s.heap h') (hok:HOk X.prog X.w H' h'):Inv X pins σ H' { s with heap:=h',toks:=t' }:=by
 obtain ⟨m,⟨o,es,ep,ho,r⟩,_⟩:=id I.loc
 obtain ⟨sl,hL⟩:=u.any ho I.free (by simp)
 exact I.step (g':=s.gens) (d':=s.drawn) (ch:=[]) (fun _ z=>nomatch z) (fun b o _ hb _ e n=>u.keep b o e n hb (by simp)) (fun b o _ hb _ e n=>u.slot b o e n hb (by simp)) (fun b o _ e n=>u.free b o e n (by simp)) (fun b o _ e=>u.there b o e (by simp)) u.tups u.frzs u.tbls (fun m' hm=>by
  obtain ⟨o',es',ep',ho',r'⟩:=hm
  rw [ho] at ho';cases ho'
  exact ⟨_,es',ep',hL,r'⟩) hok I.bare
theorem Inv.call {g':Array GenState} {t':Nat} {d':Drawn} {ch:List Addr} (I:Inv X pins σ H s) (u:Un (frs X.stack) ch H H' s.heap h') (hok:HOk X.prog X.w H' h') (hg:AllBare g')
 (hch:∀ b∈ch,(b∈X.ex∨X.s₀.heap.objs.size≤b)∧b≠X.env.locals∧(∀ x c,X.env.cells.lookup x=some c→c≠b)∧∀ p∈X.pn ++ pins,p.1≠b) :
 Inv X pins σ H' { s with heap:=h',gens:=g',drawn:=d',toks:=t' }:=by
 obtain ⟨m,⟨o,es,ep,ho,r⟩,_⟩:=id I.loc
 obtain ⟨sl,hL⟩:=u.any ho I.free fun z=>(hch _ z).2.1 rfl
 exact I.step (ch:=ch) hch (fun b o hL hb hc e n=>u.keep b o e n (fun z=>(List.mem_cons.mp (I.stkSub b z)).elim hL hb) hc) (fun b o _ _ hc e n=>u.any e n hc) (fun b o hc e n=>u.free b o e n hc) (fun b o hc e=>u.there b o e hc) u.tups u.frzs u.tbls (fun m' hm=>by
  obtain ⟨o',es',ep',ho',r'⟩:=hm
  rw [ho] at ho';cases ho'
  exact ⟨_,es',ep',hL,r'⟩) hok hg
theorem Inv.turned {t':Nat} {it:Addr} (I:Inv X pins σ H s) (k:∀ b o,b≠it→s.heap.get? b=some o→h'.get? b=some o) (hn:H it=none) (hL:it≠X.env.locals)
 (h1:it∈X.ex∨X.s₀.heap.objs.size≤it) (h2:∀ x c,X.env.cells.lookup x=some c→c≠it) (h3:∀ p∈X.pn ++ pins,p.1≠it):Inv X pins σ H { s with heap:=h',toks:=t' }:=by
 have nit:∀ b u,H b=some u→b≠it:=fun b u e z=>by rw [z,hn] at e;cases e
 refine I.step (g':=s.gens) (d':=s.drawn) (ch:=[it]) (fun b hb=>?_) (fun b o _ _ hc e _=>k b o (fun z=>hc (by simp [z])) e) (fun b o _ _ hc e _=>⟨o.slots,k b o (fun z=>hc (by simp [z])) e⟩) (fun _ _ _ _ n=>n)
  (fun b o hc e=>⟨o,k b o (fun z=>hc (by simp [z])) e⟩) (fun _ _ e=>e) (fun _ _ _ e=>e) (fun b ps e=>⟨#[],by rw [e];simp⟩) (fun m hm=>?_) (fun b u e=>?_) I.bare
 ·have e:b=it:=by simpa using hb
  subst e
  exact ⟨h1,hL,h2,h3⟩
 ·obtain ⟨o,es,ep,ho,r⟩:=hm
  exact ⟨o,es,ep,k _ o (Ne.symm hL) ho,r⟩
 ·refine (I.hok b u e).stay (fun c v hc q=>k c v ?_ q) (fun _ q=>q) fun _ _ q=>q
  rcases hc with z | z
  ·rw [z];exact nit b u e
  ·exact nit c _ z
theorem Inv.tok (I:Inv X pins σ H s) (t:Nat):Inv X pins σ H { s with toks:=t }:=I.un (h':=s.heap) (t':=t) Un.refl I.hok
theorem Inv.kept {t':Nat} (I:Inv X pins σ H s) (k:∀ b u,s.heap.get? b=some u→h'.get? b=some u):Inv X pins σ H { s with heap:=h',toks:=t' }:=I.un (Un.kept k) (I.hok.kept k)
theorem Inv.laid {a:Addr} {o:HO} {t':Nat} (I:Inv X pins σ H s) (k:∀ b u,s.heap.get? b=some u→h'.get? b=some u) (hp:s.heap.objs.size≤a) (new:aC X.prog X.w (upd H a o) h' a o) :
 Inv X pins σ (upd H a o) { s with heap:=h',toks:=t' }:=I.un (Un.laid k hp (I.hok.fresh hp)) (I.hok.laid k hp new)
theorem Inv.write {x e:Addr} {o:HO} {t':Nat} (I:Inv X pins σ H s) (mu:Mut (H x)) (he:e=x∨H e=some (.own x)) (k:∀ b u,b≠e→s.heap.get? b=some u→h'.get? b=some u) (heo:∃ u,h'.get? e=some u)
 (new:aC X.prog X.w (upd H x o) h' x o):Inv X pins σ (upd H x o) { s with heap:=h',toks:=t' }:=I.un (Un.write mu he k heo) (I.hok.write mu he k heo new)
theorem Inv.pins_of {pins':List (Addr×Obj)} (I:Inv X pins σ H s) (h:∀ p∈pins',s.heap.get? p.1=some p.2∧H p.1=none∧p.1≠X.env.locals∧p.1 ∉ X.fs∧∀ v,p.2.data≠.cell v):Inv X pins' σ H s:=
 ⟨I.ok,I.os,I.bare,I.base,I.loc,I.cell,I.free,I.freeC,fun p hp=>(List.mem_append.mp hp).elim (fun z=>I.pin p (List.mem_append_left _ z)) (h p),I.hok,I.len⟩
theorem g9 {N:List Str} (hN:N.Nodup) {i j:Nat} {x:Str} (a:N[i]? = some x) (b:N[j]? = some x):i=j:=by
 obtain ⟨h1,e1⟩:=List.getElem?_eq_some_iff.mp a
 obtain ⟨h2,e2⟩:=List.getElem?_eq_some_iff.mp b
 exact (List.getElem_inj hN).mp (e1.trans e2.symm)
theorem jq {M:Model} {A:Around} {E:Value→Shared→Prop} {i:Nat} {x:Str} {v:V} {u:Value} {Q:Unit→Shared→Prop} (I:Inv X pins σ H s) (hN:X.N.Nodup) (hi:X.N[i]? = some x) (hx:Loc X.env.scope x) (r:ar v u)
 (h:∀ s',Inv X pins (σ.set i (some v)) H s'→(∃ a,Heap.SameBut a s.heap s'.heap∧(a=X.env.locals∨X.env.cells.lookup x=some a))→Q () s') (hf:X.fn x=true∨X.env.scope.names.lookup x=some .local:=by first | exact .inl rfl | exact .inr rfl | assumption):wpAny M A (storeName X.env x u) Q E s:=by
 obtain ⟨m,hn,hl⟩:=id I.loc
 have hcls:(X.env.scope.kind == .class || (X.env.scope.kind == .module && X.env.locals != X.env.globals))=false:=by rw [I.ok.kind];rfl
 have hiσ:i<σ.length:=by rw [I.len];exact (List.getElem?_eq_some_iff.mp hi).1
 have cne:=I.cne
 have tracked:∀ {a:Addr} {h':Heap},(∃ o,s.heap.get? a=some o∧H a=none)→Heap.SameBut a s.heap h'→HOk X.prog X.w H h':=fun {a h'} ha hs b ob e=>by
  obtain ⟨_,_,hfree⟩:=ha
  refine (I.hok b ob e).stay (fun c w' hc q=>(hs.2 c ?_).trans q) (fun _ q=>q) fun _ _ q=>q
  rintro rfl
  rcases hc with rfl | hc
  ·rw [hfree] at e;cases e
  ·rw [hfree] at hc;cases hc
 rcases hx with hk | hk
 ·refine wpAny_storeName_local hk hn (fun h' hn' hs=>?_) hcls
  obtain ⟨oL,_,_,hoL,_⟩:=id hn
  refine h _ ⟨I.ok,I.os,I.bare,⟨fun b o e n hb hx=>?_,fun b o e n hb hx=>?_,I.base.free,fun b o e hx=>?_,I.base.tups,I.base.frzs,I.base.tbls⟩,⟨_,hn',fun j y v' e1 e2 e3=>?_⟩,fun y c e=>?_,I.free,I.freeC,fun p hp=>?_,tracked ⟨oL,hoL,I.free⟩ hs,by simpa using I.len⟩ ⟨_,hs,.inl rfl⟩
  ·exact (hs.2 b (Nat.ne_of_lt (Nat.lt_of_lt_of_le (Heap.lt_size e) I.ok.above))).trans (I.base.keep b o e n hb hx)
  ·obtain ⟨sl,e1⟩:=I.base.slot b o e n hb hx
   exact ⟨sl,(hs.2 b (Nat.ne_of_lt (Nat.lt_of_lt_of_le (Heap.lt_size e) I.ok.above))).trans e1⟩
  ·obtain ⟨o',e1⟩:=I.base.there b o e hx
   exact ⟨o',(hs.2 b (Nat.ne_of_lt (Nat.lt_of_lt_of_le (Heap.lt_size e) I.ok.above))).trans e1⟩
  ·by_cases hj:j=i
   ·subst hj
    rw [hi] at e1;cases e1
    rw [List.getElem?_set_self hiσ] at e2
    cases e2
    exact ⟨u,r,.inl ⟨hk,by simp⟩⟩
   ·rw [List.getElem?_set_ne (Ne.symm hj)] at e2
    obtain ⟨u',r',q⟩:=hl j y v' e1 e2 e3
    refine ⟨u',r',?_⟩
    rcases q with ⟨k,e⟩ | ⟨k,c,e,z⟩
    ·refine .inl ⟨k,?_⟩
     have:y≠x:=fun e=>hj (g9 hN e1 (e ▸ hi))
     simp [this,e]
    ·exact .inr ⟨k,c,e,z.sameBut hs (cne y c e)⟩
  ·obtain ⟨w',z⟩:=I.cell y c e
   exact ⟨w',z.sameBut hs (cne y c e)⟩
  ·obtain ⟨e,n,ne,nf,d⟩:=I.pin p hp
   exact ⟨(hs.2 p.1 ne).trans e,n,ne,nf,d⟩
 ·have hfn:X.fn x=true:=by
   rcases hf with z | z
   ·exact z
   ·rw [z] at hk;cases hk
  obtain ⟨c,hc⟩:=I.ok.has x (.inl hk)
  obtain ⟨w',z⟩:=I.cell x c hc
  refine wpAny_storeName_cell I.ok.kind hk hc z (fun h' hc' hs=>?_)
  obtain ⟨oc,hoc,hocd⟩:=id z
  refine h { s with heap:=h' } ⟨I.ok,I.os,I.bare,⟨fun b o e n hb hx=>?_,fun b o e n hb hx=>?_,I.base.free,fun b o e hx=>?_,I.base.tups,I.base.frzs,I.base.tbls⟩,⟨m,hn.sameBut hs (Ne.symm (cne x c hc)),fun j y v' e1 e2 e3=>?_⟩,fun y c' e=>?_,I.free,I.freeC,fun p hp=>?_,tracked ⟨oc,hoc,I.freeC x c hc⟩ hs,by simpa using I.len⟩ ⟨c,hs,.inr hc⟩
  ·exact (hs.2 b (Nat.ne_of_lt (Nat.lt_of_lt_of_le (Heap.lt_size e) (I.ok.cab x c hfn hc)))).trans (I.base.keep b o e n hb hx)
  ·obtain ⟨sl,e1⟩:=I.base.slot b o e n hb hx
   exact ⟨sl,(hs.2 b (Nat.ne_of_lt (Nat.lt_of_lt_of_le (Heap.lt_size e) (I.ok.cab x c hfn hc)))).trans e1⟩
  ·obtain ⟨o',e1⟩:=I.base.there b o e hx
   exact ⟨o',(hs.2 b (Nat.ne_of_lt (Nat.lt_of_lt_of_le (Heap.lt_size e) (I.ok.cab x c hfn hc)))).trans e1⟩
  ·by_cases hj:j=i
   ·subst hj
    rw [hi] at e1;cases e1
    rw [List.getElem?_set_self hiσ] at e2
    cases e2
    exact ⟨u,r,.inr ⟨.inl hk,c,hc,hc'⟩⟩
   ·rw [List.getElem?_set_ne (Ne.symm hj)] at e2
    obtain ⟨u',r',q⟩:=hl j y v' e1 e2 e3
    refine ⟨u',r',?_⟩
    rcases q with q | ⟨k,c',e,z'⟩
    ·exact .inl q
    ·refine .inr ⟨k,c',e,z'.sameBut hs ?_⟩
     rintro rfl
     exact hj (g9 hN e1 (I.ok.inj _ _ _ e hc ▸ hi))
  ·by_cases hcc:c'=c
   ·subst hcc;exact ⟨_,hc'⟩
   ·obtain ⟨w2,z2⟩:=I.cell y c' e
    exact ⟨w2,z2.sameBut hs hcc⟩
  ·obtain ⟨e,n,ne,nf,d⟩:=I.pin p hp
   refine ⟨(hs.2 p.1 ?_).trans e,n,ne,nf,d⟩
   intro q
   rw [q,hoc] at e
   have q':oc=p.2:=Option.some.inj e
   exact d w' (by rw [← q'];exact hocd)
theorem io {M:Model} {A:Around} {E:Value→Shared→Prop} {i:Nat} {x:Str} {v:V} {u:Value} {Q:Unit→Shared→Prop} (I:Inv X pins σ H s) (hN:X.N.Nodup) (hi:X.N[i]? = some x) (hx:Loc X.env.scope x) (r:ar v u)
 (h:∀ s',Inv X pins (σ.set i (some v)) H s'→Q () s') (hf:X.fn x=true∨X.env.scope.names.lookup x=some .local:=by first | exact .inl rfl | exact .inr rfl | assumption):wpAny M A (storeName X.env x u) Q E s:=
 jq I hN hi hx r (fun s' I' _=>h s' I') hf
theorem Inv.call' {s':Shared} {ch:List Addr} (I:Inv X pins σ H s) (ho:s'.os=s.os) (u:Un (frs X.stack) ch H H' s.heap s'.heap) (hok:HOk X.prog X.w H' s'.heap) (hg:AllBare s'.gens)
 (hch:∀ b∈ch,(b∈X.ex∨X.s₀.heap.objs.size≤b)∧b≠X.env.locals∧(∀ x c,X.env.cells.lookup x=some c→c≠b)∧∀ p∈X.pn ++ pins,p.1≠b):Inv X pins σ H' s':=by
 obtain ⟨h',g',d',t',o'⟩:=s'
 have e:o'=s.os:=ho
 subst e
 exact I.call (g':=g') (t':=t') (d':=d') u hok hg hch
end
noncomputable abbrev XK:=Value→Option Addr→Hp→Prop
noncomputable abbrev St:=List (Option V)
noncomputable abbrev VK:=V→Hp→Prop
noncomputable abbrev TE:=St→Hp→VK→Prop
noncomputable abbrev TT:=St→Hp→(Bool→Hp→Prop)→Prop
noncomputable abbrev TA:=St→Hp→(List V→Hp→Prop)→Prop
structure eY where
 nx:St→Hp→Prop
 rt:VK
 bk:St→Hp→Prop:=fun _ _=>False
 ct:St→Hp→Prop:=fun _ _=>False
noncomputable abbrev TS:=eY→St→Hp→Prop
noncomputable def EP (X:Cx) (pins:List (Addr×Obj)) (σ:St) (Q:VK) (u:Value) (s':Shared):Prop:=∃ v H',Inv X pins σ H' s'∧ar v u∧Q v H'
noncomputable def TP (X:Cx) (pins:List (Addr×Obj)) (σ:St) (Q:Bool→Hp→Prop) (b:Bool) (s':Shared):Prop:=∃ H',Inv X pins σ H' s'∧Q b H'
noncomputable def AP (X:Cx) (pins:List (Addr×Obj)) (σ:St) (Q:List V→Hp→Prop) (us:List Value) (s':Shared):Prop:=∃ vs H',Inv X pins σ H' s'∧av vs us∧Q vs H'
noncomputable def SP (X:Cx) (pins:List (Addr×Obj)) (D:eY) (f:Flow) (s':Shared):Prop:=
 match f with
 | .next=>∃ σ' H',Inv X pins σ' H' s'∧D.nx σ' H'
 | .brk=>∃ σ' H',Inv X pins σ' H' s'∧D.bk σ' H'
 | .cont=>∃ σ' H',Inv X pins σ' H' s'∧D.ct σ' H'
 | .ret u=>∃ v σ' H',Inv X pins σ' H' s'∧ar v u∧D.rt v H'
noncomputable def PE (X:Cx) (e:Expr) (t:TE):Prop:=
 ∀ (pins:List (Addr×Obj)) (s:Shared) (σ:St) (H:Hp) (Q:VK),Inv X pins σ H s→t σ H Q→wpAny (model X.prog X.w) X.A (eval e X.env) (EP X pins σ Q) X.xe s
noncomputable def PT (X:Cx) (e:Expr) (t:TT):Prop:=
 ∀ (pins:List (Addr×Obj)) (s:Shared) (σ:St) (H:Hp) (Q:Bool→Hp→Prop),Inv X pins σ H s→t σ H Q→wpAny (model X.prog X.w) X.A (isTrue e X.env (eval e X.env)) (TP X pins σ Q) X.xe s
noncomputable def PW (X:Cx) (e:Expr) (t:TT):Prop:=
 ∀ (whole:Sem Value) (pins:List (Addr×Obj)) (s:Shared) (σ:St) (H:Hp) (Q:Bool→Hp→Prop),Inv X pins σ H s→t σ H Q→wpAny (model X.prog X.w) X.A (isTrue e X.env whole) (TP X pins σ Q) X.xe s
noncomputable def PA (X:Cx) (es:List Expr) (t:TA):Prop:=
 ∀ (pos:Pos) (pins:List (Addr×Obj)) (s:Shared) (σ:St) (H:Hp) (Q:List V→Hp→Prop),Inv X pins σ H s→t σ H Q→wpAny (model X.prog X.w) X.A (spliced (backTo pos (starEach es X.env))) (AP X pins σ Q) X.xe s
noncomputable def PS (X:Cx) (st:Stmt) (t:TS):Prop:=
 ∀ (pins:List (Addr×Obj)) (s:Shared) (σ:St) (H:Hp) (D:eY),Inv X pins σ H s→t D σ H→wpAny (model X.prog X.w) X.A (exec st X.env) (SP X pins D) X.xe s
noncomputable def PSs (X:Cx) (st:List Stmt) (t:TS):Prop:=
 ∀ (pins:List (Addr×Obj)) (s:Shared) (σ:St) (H:Hp) (D:eY),Inv X pins σ H s→t D σ H→wpAny (model X.prog X.w) X.A (execs st X.env) (SP X pins D) X.xe s
theorem thn {α:Type} {t:Sem α} {Q Q':α→Shared→Prop} {M:Model} {A:Around} {E:Value→Shared→Prop} {s:Shared} (h:wpAny M A t Q E s) (hQ:∀ a s,Q a s→Q' a s):wpAny M A t Q' E s:=wpAny_mono h hQ fun _ _ x=>x
end L2
namespace L2
section
variable {X:Cx}
noncomputable def y7 (i:Nat):TE:=fun σ H Q=>∃ v,σ[i]? = some (some v)∧Q v H
noncomputable def tC (v:V):TE:=fun _ H Q=>Q v H
theorem fw {i:Nat} {x:Str} {pos:Pos} (hN:X.N[i]? = some x) (hv:Vis X.env.scope x) (hd:(x == ("__debug__":Str))=false:=by decide) (hcd:(x == ("__classdict__":Str))=false:=by decide):PE X (.Name x pos) (y7 i):=by
 intro pins s σ H Q I h
 obtain ⟨v,e,h⟩:=h
 obtain ⟨m,hn,hl⟩:=I.loc
 obtain ⟨u,r,l⟩:=hl i x v hN e hv
 have fin:EP X pins σ Q u s:=⟨v,H,I,r,h⟩
 rcases l with ⟨hk,hm⟩ | ⟨hk,c,hc,hcell⟩
 ·exact wpAny_Name (wpAny_loadName_local I.ok.kind hk hn hm fin) hd
 ·rcases hk with hk | hk
  ·exact wpAny_Name (wpAny_loadName_cell I.ok.kind hk hc hcell fin) hd
  ·exact wpAny_Name (wpAny_loadName_free I.ok.kind hk hc hcell fin hcd) hd
theorem se {i j pos}:PE X (.Constant (.int i) j pos) (tC (.int i)):=fun _ _ _ H _ I h=>wpAny_Constant_int ⟨.int i,H,I.tok _,⟨_,rfl⟩,h⟩
theorem wp {b j pos}:PE X (.Constant (.bool b) j pos) (tC (.bl b)):=fun _ _ _ H _ I h=>Constant_bool ⟨.bl b,H,I,rfl,h⟩
theorem sj {j pos}:PE X (.Constant .none j pos) (tC .non):=fun _ _ _ H _ I h=>Constant_none ⟨.non,H,I,rfl,h⟩
theorem fu {x j pos}:PE X (.Constant (.str x) j pos) (tC (.str x)):=fun _ _ _ H _ I h=>Calls.Constant_str ⟨.str x,H,I.tok _,⟨_,rfl⟩,h⟩
noncomputable def Gl (X:Cx) (x:Str):Prop:=X.env.kindOf x=some .globalImplicit
theorem cG {E:Value→Shared→Prop} {pins:List (Addr×Obj)} {s:Shared} {σ:St} {H:Hp} {x:Str} {u:Value} {pos:Pos} {Q:Value→Shared→Prop} (I:Inv X pins σ H s) (hg:Gl X x) (hm:X.mg x=some u) (h:Q u s)
 (hd:(x == ("__debug__":Str))=false:=by decide):wpAny (model X.prog X.w) X.A (eval (.Name x pos) X.env) Q E s:=
 Calls.Name_function_global I.ok.kind hg (Calls.loadGlobal_global (by rw [I.ok.glob];exact I.mod.glob.keeps I.bk) hm h) hd
theorem dX {E:Value→Shared→Prop} {pins:List (Addr×Obj)} {s:Shared} {σ:St} {H:Hp} {x:Str} {u:Value} {pos:Pos} {Q:Value→Shared→Prop} (I:Inv X pins σ H s) (hg:Gl X x) (hm:X.mg x=none) (hv:bootBuiltins x=some u) (h:Q u s)
 (hn:x≠"__name__":=by decide) (hd:(x == ("__debug__":Str))=false:=by decide):wpAny (model X.prog X.w) X.A (eval (.Name x pos) X.env) Q E s:=by
 obtain ⟨mb,h1,h2⟩:=I.mod.blt
 exact Calls.Name_function_global I.ok.kind hg (Calls.loadGlobal_builtin (by rw [I.ok.glob];exact I.mod.glob.keeps I.bk) hm (by rw [I.ok.blt];exact h1.keeps I.bk) ((h2 x hn).trans hv) h) hd
theorem jV {x:Str} {v:V} {u:Value} {pos:Pos} (hg:Gl X x) (hm:X.mg x=some u) (r:ar v u) (hd:(x == ("__debug__":Str))=false:=by decide):PE X (.Name x pos) (tC v):=
 fun _ _ _ H _ I h=>cG I hg hm ⟨v,H,I,r,h⟩ hd
theorem uV {x:Str} {v:V} {u:Value} {pos:Pos} (hg:Gl X x) (hm:X.mg x=none) (hv:bootBuiltins x=some u) (r:ar v u) (hn:x≠"__name__":=by decide) (hd:(x == ("__debug__":Str))=false:=by decide):PE X (.Name x pos) (tC v):=
 fun _ _ _ H _ I h=>dX I hg hm hv ⟨v,H,I,r,h⟩ hn hd
variable {a b:Expr} {ta tb:TE} {pos:Pos}
noncomputable def PC (X:Cx) (op:CmpOp) (a b:Expr) (t:TE):Prop:=
 ∀ (pins:List (Addr×Obj)) (s:Shared) (σ:St) (H:Hp) (Q:VK),Inv X pins σ H s→t σ H Q →
   wpAny (model X.prog X.w) X.A (eval a X.env) (fun v s₁=>wpAny (model X.prog X.w) X.A (eval b X.env) (fun u s₂=>wpAny (model X.prog X.w) X.A (compareOp op v u) (EP X pins σ Q) X.xe s₂) X.xe s₁) X.xe s
noncomputable def AZ (ta:TE):TE:=fun σ H Q=>ta σ H fun x H1=>Q (.bl (decide (x = .non))) H1
noncomputable def wA (ta:TE):TE:=fun σ H Q=>ta σ H fun x H1=>Q (.bl (!decide (x = .non))) H1
theorem ar.none_iff {x:V} {v:Value} (r:ar x v):(v == Value.none)=decide (x = .non):=by
 cases x with
 | non=>cases r;rfl
 | bl _=>cases r;rfl
 | int _=>obtain ⟨t,rfl⟩:=r;rfl
 | str _=>obtain ⟨t,rfl⟩:=r;rfl
 | byt _=>obtain ⟨t,rfl⟩:=r;rfl
 | flt _=>obtain ⟨t,rfl⟩:=r;rfl
 | ref _=>cases r;rfl
 | ty _=>cases r;rfl
theorem rX {j pos'} (ha:PE X a ta):PC X .Is a (.Constant .none j pos') (AZ ta):=by
 intro pins s σ H Q I h
 refine thn (ha pins s σ H _ I h) fun v s1 ⟨x,H1,I1,r1,q1⟩=>?_
 exact Constant_none (is_none_gen ⟨.bl _,H1,I1,by rw [r1.none_iff];rfl,q1⟩)
theorem oh {j pos'} (ha:PE X a ta):PC X .IsNot a (.Constant .none j pos') (wA ta):=by
 intro pins s σ H Q I h
 refine thn (ha pins s σ H _ I h) fun v s1 ⟨x,H1,I1,r1,q1⟩=>?_
 exact Constant_none (isnot_none_gen ⟨.bl _,H1,I1,by rw [r1.none_iff];rfl,q1⟩)
noncomputable def tB (t:TE):TT:=fun σ H Q=>t σ H fun x H1=>∃ c,x = .bl c∧Q c H1
theorem mF {op:CmpOp} {t:TE} (h:PC X op a b t) (h1:behindInMarks op b=false:=by first | exact nobehind _ (by decide) (by decide) | rfl):PE X (.Compare a [op] [b] pos) t:=fun pins s σ H Q I hw=>wpAny_Compare1 (h pins s σ H Q I hw) h1
theorem mH {op:CmpOp} {t:TE} (h:PC X op a b t) (h1:behindInMarks op b=false:=by first | exact nobehind _ (by decide) (by decide) | rfl):PT X (.Compare a [op] [b] pos) (tB t):=by
 intro pins s σ H Q I hw
 refine wpAny_isTrue_Compare1 (thn (h pins s σ H _ I hw) fun v s1 h1=>thn h1 fun u s2 h2=>thn h2 fun c s3 ⟨x,H1,I1,r1,q1⟩=>?_) h1
 obtain ⟨d,rfl,q⟩:=q1
 cases r1
 exact wpAny_truthy_bool ⟨H1,I1,q⟩
variable {tA tB':TT} {rest:List Expr}
noncomputable def BR (t u:TT):TT:=fun σ H Q=>t σ H fun c H1=>if c=true then u σ H1 Q else Q false H1
noncomputable def tOr (t u:TT):TT:=fun σ H Q=>t σ H fun c H1=>if c=true then Q true H1 else u σ H1 Q
noncomputable def BW (t:TT):TT:=fun σ H Q=>t σ H fun c H1=>Q (!c) H1
theorem vm (ha:PT X a tA):PW X (.BoolOp .And [a] pos) tA:=by
 intro wh pins s σ H Q I h
 refine isTrue_and (thn (ha pins s σ H Q I h) fun c s1 e=>?_)
 cases c with
 | true=>exact isTrue_and_nil e
 | false=>exact e
theorem yR (ha:PT X a tA):PW X (.BoolOp .Or [a] pos) tA:=by
 intro wh pins s σ H Q I h
 refine isTrue_or (thn (ha pins s σ H Q I h) fun c s1 e=>?_)
 cases c with
 | false=>exact isTrue_or_nil e
 | true=>exact e
theorem yQ (ha:PT X a tA) (hb:PW X (.BoolOp .And (b :: rest) pos) tB'):PW X (.BoolOp .And (a :: b :: rest) pos) (BR tA tB'):=by
 intro wh pins s σ H Q I h
 refine isTrue_and (thn (ha pins s σ H _ I h) fun c s1 ⟨H1,I1,q1⟩=>?_)
 cases c with
 | true=>exact hb wh pins s1 σ H1 Q I1 q1
 | false=>exact ⟨H1,I1,q1⟩
theorem AD (ha:PT X a tA) (hb:PW X (.BoolOp .Or (b :: rest) pos) tB'):PW X (.BoolOp .Or (a :: b :: rest) pos) (tOr tA tB'):=by
 intro wh pins s σ H Q I h
 refine isTrue_or (thn (ha pins s σ H _ I h) fun c s1 ⟨H1,I1,q1⟩=>?_)
 cases c with
 | true=>exact ⟨H1,I1,q1⟩
 | false=>exact hb wh pins s1 σ H1 Q I1 q1
theorem yP (ha:PT X a tA):PT X (.UnaryOp .Not a pos) (BW tA):=by
 intro pins s σ H Q I h
 exact isTrue_not (ha pins s σ H (fun c H1=>Q (!c) H1) I h)
noncomputable def AT (ta tb:TE):TE:=fun σ H Q=>ta σ H fun x H1=>∃ c,x = .bl c∧if c=true then tb σ H1 Q else Q (.bl false) H1
noncomputable def BX (ta tb:TE):TE:=fun σ H Q=>ta σ H fun x H1=>∃ c,x = .bl c∧if c=true then Q (.bl true) H1 else tb σ H1 Q
noncomputable def A1 (ta:TE):TE:=fun σ H Q=>ta σ H fun x H1=>∃ c,x = .bl c∧Q (.bl (!c)) H1
theorem yD (ha:PE X a ta) (hb:PE X (.BoolOp .And (b :: rest) pos) tb):PE X (.BoolOp .And (a :: b :: rest) pos) (AT ta tb):=by
 intro pins s σ H Q I h
 refine BoolOp_and (thn (ha pins s σ H _ I h) fun v s1 ⟨x,H1,I1,r1,q1⟩=>?_)
 obtain ⟨c,rfl,q1⟩:=q1
 cases r1
 refine wpAny_truthy_bool ?_
 cases c with
 | true=>exact hb pins s1 σ H1 Q I1 q1
 | false=>exact ⟨.bl false,H1,I1,rfl,q1⟩
theorem Ax (ha:PE X a ta) (hb:PE X (.BoolOp .Or (b :: rest) pos) tb):PE X (.BoolOp .Or (a :: b :: rest) pos) (BX ta tb):=by
 intro pins s σ H Q I h
 refine BoolOp_or (thn (ha pins s σ H _ I h) fun v s1 ⟨x,H1,I1,r1,q1⟩=>?_)
 obtain ⟨c,rfl,q1⟩:=q1
 cases r1
 refine wpAny_truthy_bool ?_
 cases c with
 | false=>exact hb pins s1 σ H1 Q I1 q1
 | true=>exact ⟨.bl true,H1,I1,rfl,q1⟩
theorem yF (ha:PE X a ta):PE X (.UnaryOp .Not a pos) (A1 ta):=by
 intro pins s σ H Q I h
 refine UnaryOp_ (thn (ha pins s σ H _ I h) fun v s1 ⟨x,H1,I1,r1,q1⟩=>?_)
 obtain ⟨c,rfl,q1⟩:=q1
 cases r1
 exact not_of (wpAny_truthy_bool ⟨.bl (!c),H1,I1,rfl,q1⟩)
noncomputable def tIf (t:TT) (ta tb:TE):TE:=fun σ H Q=>t σ H fun c H1=>if c=true then ta σ H1 Q else tb σ H1 Q
theorem sd {c:Expr} (hc:PT X c tA) (ha:PE X a ta) (hb:PE X b tb):PE X (.IfExp c a b pos) (tIf tA ta tb):=by
 intro pins s σ H Q I h
 refine wpAny_IfExp (thn (hc pins s σ H _ I h) fun d s1 ⟨H1,I1,q1⟩=>?_)
 cases d with
 | true=>exact ha pins s1 σ H1 Q I1 q1
 | false=>exact hb pins s1 σ H1 Q I1 q1
end
end L2
namespace L2
noncomputable def SqL (K:Fg) (H:Hp) (a:Addr) (xs:List V):Prop:=
 Rd H a (.lst xs) ∨
  ∃ (o:Obj) (its:Array Value) (n:Nat),K.lookup a=some o∧o.cls = .type "list"∧o.dict=none∧o.data = .seq its n∧its.size≤sizeLine∧av xs its.toList
noncomputable def SqT (K:Fg) (H:Hp) (a:Addr) (xs:List V):Prop:=
 Rd H a (.tup xs) ∨
  ∃ (o:Obj) (its:Array Value) (n:Nat),K.lookup a=some o∧o.cls = .type "tuple"∧o.data = .seq its n∧its.size≤sizeLine∧av xs its.toList
noncomputable def A9:Value→Option V
 | .none=>some .non
 | .bool b=>some (.bl b)
 | .int i _=>some (.int i)
 | .str x _=>some (.str x)
 | .bytes b _=>some (.byt b)
 | .float b _=>some (.flt b)
 | .ref a=>some (.ref a)
 | .type n=>some (.ty n)
 | _=>none
theorem ar.abs {x:V} {u:Value} (r:ar x u):A9 u=some x:=by
 cases x with
 | non=>cases r;rfl
 | bl _=>cases r;rfl
 | int _=>obtain ⟨t,rfl⟩:=r;rfl
 | str _=>obtain ⟨t,rfl⟩:=r;rfl
 | byt _=>obtain ⟨t,rfl⟩:=r;rfl
 | flt _=>obtain ⟨t,rfl⟩:=r;rfl
 | ref _=>cases r;rfl
 | ty _=>cases r;rfl
theorem ar.inj {x y:V} {u:Value} (r:ar x u) (q:ar y u):x=y:=Option.some.inj (r.abs.symm.trans q.abs)
theorem av.inj:∀ {xs ys:List V} {us:List Value},av xs us→av ys us→xs=ys
 | _,_,_,.nil,.nil=>rfl
 | _,_,_,.cons r t,.cons r' t'=>by rw [r.inj r',av.inj t t']
section
variable {X:Cx} {pins:List (Addr×Obj)} {σ:St} {H:Hp} {s:Shared} {a:Addr} {xs ys:List V}
theorem SqL.of {K:Fg} (h:H a=some (.lst xs)):SqL K H a xs:=.inl (.inl h)
theorem SqT.of {K:Fg} (h:H a=some (.tup xs)):SqT K H a xs:=.inl (.inl h)
theorem Inv.list (I:Inv X pins σ H s) (h:SqL X.K H a xs):∃ its:List Value,av xs its∧PlainL s.heap a its.toArray∧xs.length≤sizeLine:=by
 rcases h with h | ⟨o,its,n,hk,hc,hd,hs,hz,r⟩
 ·obtain ⟨z,its,n,r,e⟩:=h.ok I.hok
  exact ⟨its,r,⟨_,n,e,rfl,rfl,rfl⟩,z⟩
 ·refine ⟨its.toList,r,⟨o,n,I.kIn a o hk,hc,hd,by simpa using hs⟩,?_⟩
  have e:=r.length
  simp only [Array.length_toList] at e
  omega
theorem Inv.tuple (I:Inv X pins σ H s) (h:SqT X.K H a xs):∃ its:List Value,av xs its∧IsTup s.heap a its.toArray∧xs.length≤sizeLine:=by
 rcases h with h | ⟨o,its,n,hk,hc,hs,hz,r⟩
 ·obtain ⟨z,its,r,p⟩:=h.ok I.hok
  exact ⟨its,r,p,z⟩
 ·refine ⟨its.toList,r,⟨o,I.kIn a o hk,hc,n,by simpa using hs⟩,?_⟩
  have e:=r.length
  simp only [Array.length_toList] at e
  omega
theorem Inv.list_inj (I:Inv X pins σ H s) (h:SqL X.K H a xs) (h':SqL X.K H a ys):xs=ys:=by
 obtain ⟨its,r,⟨o,n,e,_,_,d⟩,_⟩:=I.list h
 obtain ⟨its',r',⟨o',n',e',_,_,d'⟩,_⟩:=I.list h'
 rw [e] at e';cases e'
 rw [d] at d'
 injection d' with d1 _
 have:its=its':=by simpa using congrArg Array.toList d1
 subst this
 exact r.inj r'
theorem Inv.tuple_inj (I:Inv X pins σ H s) (h:SqT X.K H a xs) (h':SqT X.K H a ys):xs=ys:=by
 obtain ⟨its,r,⟨o,e,_,n,d⟩,_⟩:=I.tuple h
 obtain ⟨its',r',⟨o',e',_,n',d'⟩,_⟩:=I.tuple h'
 rw [e] at e';cases e'
 rw [d] at d'
 injection d' with d1 _
 have:its=its':=by simpa using congrArg Array.toList d1
 subst this
 exact r.inj r'
end
noncomputable abbrev Cx.wish (X:Cx) (E:Value→Shared→Prop):Cx:={ X with xe:=E }
noncomputable abbrev Cx.nox (X:Cx):Cx:=X.wish fun _ _=>False
theorem Cx.Ok.wish {X:Cx} (ok:X.Ok) (E:Value→Shared→Prop):(X.wish E).Ok:=
 ⟨ok.mod,ok.kind,ok.glob,ok.blt,ok.above,ok.inj,ok.has,ok.cab,ok.hd,ok.frames,ok.stk,ok.exf,ok.bs,ok.bsz,ok.noex,ok.exfs,ok.funs,ok.frf⟩
theorem Cx.Ok.unwish {X:Cx} {E:Value→Shared→Prop} (ok:(X.wish E).Ok):X.Ok:=
 ⟨ok.mod,ok.kind,ok.glob,ok.blt,ok.above,ok.inj,ok.has,ok.cab,ok.hd,ok.frames,ok.stk,ok.exf,ok.bs,ok.bsz,ok.noex,ok.exfs,ok.funs,ok.frf⟩
section
variable {X:Cx} {pins:List (Addr×Obj)} {σ:St} {H:Hp} {s:Shared} {E:Value→Shared→Prop}
theorem Inv.wish (I:Inv X pins σ H s) (E:Value→Shared→Prop):Inv (X.wish E) pins σ H s:=⟨I.ok.wish E,I.os,I.bare,I.base,I.loc,I.cell,I.free,I.freeC,I.pin,I.hok,I.len⟩
theorem Inv.unwish (I:Inv (X.wish E) pins σ H s):Inv X pins σ H s:=⟨I.ok.unwish,I.os,I.bare,I.base,I.loc,I.cell,I.free,I.freeC,I.pin,I.hok,I.len⟩
theorem SP.unwish {D:eY} {f:Flow} {s':Shared} (h:SP (X.wish E) pins D f s'):SP X pins D f s':=by
 cases f with
 | next=>obtain ⟨σ',H',I,q⟩:=h;exact ⟨σ',H',I.unwish,q⟩
 | brk=>obtain ⟨σ',H',I,q⟩:=h;exact ⟨σ',H',I.unwish,q⟩
 | cont=>obtain ⟨σ',H',I,q⟩:=h;exact ⟨σ',H',I.unwish,q⟩
 | ret u=>obtain ⟨v,σ',H',I,r,q⟩:=h;exact ⟨v,σ',H',I.unwish,r,q⟩
theorem PSs.nox {st:List Stmt} {t:TS} (h:PSs X.nox st t):PSs X st t:=fun pins s σ H D I hw=>
 wpAny_mono (h pins s σ H D (I.wish _) hw) (fun _ _ q=>q.unwish) fun _ _ z=>False.elim z
end
section
variable {X:Cx} {st:Stmt} {rest:List Stmt} {t u:TS} {e:Expr} {te:TE} {pos:Pos}
noncomputable def oF:TS:=fun D σ H=>D.nx σ H
noncomputable def BZ (t u:TS):TS:=fun D σ H=>t { D with nx:=u D } σ H
theorem vh:PSs X [] oF:=fun _ _ σ H _ I h=>wpAny_execs_nil ⟨σ,H,I,h⟩
theorem eP (h1:PS X st t) (h2:PSs X rest u):PSs X (st :: rest) (BZ t u):=by
 intro pins s σ H D I h
 refine wpAny_execs_cons (thn (h1 pins s σ H { D with nx:=u D } I h) fun f s1 q=>?_)
 cases f with
 | next=>
   obtain ⟨σ',H',I',q⟩:=q
   exact h2 pins s1 σ' H' D I' q
 | ret v=>exact q
 | brk=>exact q
 | cont=>exact q
theorem j0 (h1:PS X st t):PSs X [st] t:=by
 intro pins s σ H D I h
 refine wpAny_execs_cons (thn (h1 pins s σ H D I h) fun f s1 q=>?_)
 cases f with
 | next=>exact wpAny_execs_nil q
 | ret v=>exact q
 | brk=>exact q
 | cont=>exact q
theorem ve:PS X (.Pass pos) oF:=fun _ _ σ H _ I h=>wpAny_Pass ⟨σ,H,I,h⟩
theorem Inv.quiet {pins:List (Addr×Obj)} {σ:St} {H:Hp} {s:Shared} (I:Inv X pins σ H s):interactive X.env=false:=by simp [interactive,I.ok.kind]
theorem yL {x j pos pos'}:PS X (.Expr (.Constant (.str x) j pos) pos') oF:=fun _ s σ H _ I h=>wpAny_Expr (Calls.Constant_str (show SP X _ _ .next { s with toks:=s.toks+1 } from ⟨σ,H,I.tok _,h⟩)) I.quiet
noncomputable def AV (te:TE):TS:=fun D σ H=>te σ H fun _ H1=>D.nx σ H1
theorem oj (he:PE X e te) (hs:swapsWith e none pos.line X.env=pure false:=by rfl):PS X (.Expr e pos) (AV te):=by
 intro pins s σ H D I h
 exact wpAny_Expr_any (thn (he pins s σ H _ I h) fun v s1 ⟨x,H1,I1,r1,q1⟩=>⟨σ,H1,I1,q1⟩) I.quiet hs
noncomputable def BY (te:TE):TS:=fun D σ H=>te σ H D.rt
theorem yN (he:PE X e te):PS X (.Return (some e) pos) (BY te):=by
 intro pins s σ H D I h
 exact wpAny_Return_some (thn (he pins s σ H _ I h) fun v s1 ⟨x,H1,I1,r1,q1⟩=>⟨x,σ,H1,I1,r1,q1⟩)
noncomputable def A3:TS:=fun D _ H=>D.rt .non H
theorem vf:PS X (.Return none pos) A3:=fun _ _ σ H _ I h=>wpAny_Return_none ⟨.non,σ,H,I,rfl,h⟩
noncomputable def BU (c:TT) (t u:TS):TS:=fun D σ H=>c σ H fun b H1=>if b=true then t D σ H1 else u D σ H1
theorem AB {c:Expr} {a b:List Stmt} {tc:TT} (hc:PT X c tc) (ha:PSs X a t) (hb:PSs X b u):PS X (.If c a b pos) (BU tc t u):=by
 intro pins s σ H D I h
 refine wpAny_If (thn (hc pins s σ H _ I h) fun d s1 ⟨H1,I1,q1⟩=>?_)
 cases d with
 | true=>exact ha pins s1 σ H1 D I1 q1
 | false=>exact hb pins s1 σ H1 D I1 q1
end
noncomputable abbrev TG:=V→St→Hp→(St→Hp→Prop)→Prop
noncomputable abbrev TGs:=List V→St→Hp→(St→Hp→Prop)→Prop
noncomputable def PG (X:Cx) (target:Expr) (t:TG):Prop:=
 ∀ (pins:List (Addr×Obj)) (s:Shared) (σ:St) (H:Hp) (v:V) (u:Value) (Q:St→Hp→Prop),Inv X pins σ H s→ar v u→t v σ H Q →
   wpAny (model X.prog X.w) X.A (assign target X.env u) (fun _ s'=>∃ σ' H',Inv X pins σ' H' s'∧Q σ' H') X.xe s
noncomputable def PGs (X:Cx) (ts:List Expr) (t:TGs):Prop:=
 ∀ (pins:List (Addr×Obj)) (s:Shared) (σ:St) (H:Hp) (vs:List V) (us:List Value) (Q:St→Hp→Prop),Inv X pins σ H s→av vs us→t vs σ H Q →
   wpAny (model X.prog X.w) X.A (assignInOrder ((assignEach ts X.env).map (·.2)) us) (fun _ s'=>∃ σ' H',Inv X pins σ' H' s'∧Q σ' H') X.xe s
noncomputable abbrev tM:=V→V→V→Hp→(Hp→Prop)→Prop
noncomputable def wN (X:Cx) (t:tM):Prop:=
 ∀ (pins:List (Addr×Obj)) (s:Shared) (σ:St) (H:Hp) (o i v:V) (ov iv u:Value) (Q:Hp→Prop),Inv X pins σ H s→ar o ov→ar i iv→ar v u→t o i v H Q →
   wpAny (model X.prog X.w) X.A (setItem ov iv u) (fun _ s'=>∃ H',Inv X pins σ H' s'∧Q H') X.xe s
section
variable {X:Cx} {pos:Pos}
noncomputable def dM (i:Nat):TG:=fun v σ H Q=>Q (σ.set i (some v)) H
theorem u6 {i:Nat} {x:Str} (hN:X.N.Nodup) (hi:X.N[i]? = some x) (hx:Loc X.env.scope x) (hf:X.fn x=true∨X.env.scope.names.lookup x=some .local:=by first | exact .inl rfl | exact .inr rfl | assumption):PG X (.Name x pos) (dM i):=by
 intro pins s σ H v u Q I r h
 exact wpAny_assign_Name (io I hN hi hx r (fun s' I'=>⟨_,H,I',h⟩) hf)
noncomputable def zO:TGs:=fun vs σ H Q=>vs = []∧Q σ H
noncomputable def wg (t:TG) (u:TGs):TGs:=fun vs σ H Q=>∃ v r,vs=v :: r∧t v σ H fun σ' H'=>u r σ' H' Q
theorem u7:PGs X [] zO:=by
 intro pins s σ H vs us Q I r h
 obtain ⟨e,h⟩:=h
 subst e
 cases r
 exact assignInOrder_nil ⟨σ,H,I,h⟩
theorem sv {e:Expr} {es:List Expr} {t:TG} {u:TGs} (h1:PG X e t) (h2:PGs X es u)
 (hs:(assignEach (e :: es) X.env).map (·.2)=assign e X.env :: (assignEach es X.env).map (·.2):=by rfl):PGs X (e :: es) (wg t u):=by
 intro pins s σ H vs us Q I r h
 obtain ⟨v,vr,e1,h⟩:=h
 subst e1
 cases r with
 | cons r rr=>
   rw [hs]
   refine assignInOrder_cons (thn (h1 pins s σ H _ _ _ I r h) fun _ s1 ⟨σ1,H1,I1,q1⟩=>?_)
   exact h2 pins s1 σ1 H1 _ _ Q I1 rr q1
noncomputable def zP (K:Fg) (n:Nat) (t:TGs):TG:=fun v σ H Q=>∃ a xs,v = .ref a∧SqT K H a xs∧xs.length=n∧t xs σ H Q
theorem sr {es:List Expr} {k:Nat} {t:TGs} {n:Nat} (hc:X.calm=true) (h:PGs X es t)
 (hn:(assignEach es X.env).length=n:=by rfl) (hst:(assignEach es X.env).findIdx? (·.1)=none:=by rfl):PG X (.Tuple es k pos) (zP X.K n t):=by
 intro pins s σ H v u Q I r hw
 obtain ⟨a,xs,e1,hq,hl,hw⟩:=hw
 subst e1
 cases r
 obtain ⟨its,rv,ht,hz⟩:=I.tuple hq
 refine assign_Tuple_tuple (I.ok.hd hc) ht (by simp [hn,← hl,rv.length]) hst fun h' hx=>?_
 have I1:Inv X pins σ H { s with heap:=h' }:=I.kept (t':=s.toks) fun b o e=>hx b o (Nat.ne_of_lt (Heap.lt_size e)) e
 exact h pins _ σ H xs _ Q I1 (by simpa using rv) hw
noncomputable def By (to ti:TE) (t:tM):TG:=fun v σ H Q=>to σ H fun o H1=>ti σ H1 fun i H2=>t o i v H2 fun H3=>Q σ H3
theorem yH {o i:Expr} {to ti:TE} {t:tM} (ho:PE X o to) (hi:PE X i ti) (hs:wN X t)
 (ha:∀ v,assign (.Subscript o i pos) X.env v=(do
  let ov ← holding [v] (eval o X.env)
  let iv ← holding [v,ov] (eval i X.env)
  standAt pos
  holding [v,ov,iv] (setItem ov iv v)
  release [v,ov,iv] []):=by intro _;rfl):PG X (.Subscript o i pos) (By to ti t):=by
 intro pins s σ H v u Q I r h
 rw [ha]
 refine wpAny_bind (wpAny_holding (thn (ho pins s σ H _ I h) fun ov s1 ⟨x,H1,I1,r1,q1⟩=>?_))
 refine wpAny_bind (wpAny_holding (thn (hi pins s1 σ H1 _ I1 q1) fun iv s2 ⟨y,H2,I2,r2,q2⟩=>?_))
 refine wpAny_bind (wpAny_standAt (wpAny_bind (wpAny_holding (thn (hs pins s2 σ H2 x y v ov iv u _ I2 r1 r2 r q2) fun _ s3 ⟨H3,I3,q3⟩=>?_))))
 exact wpAny_release ⟨σ,H3,I3,q3⟩
noncomputable def pP (te:TE) (g:TG):TS:=fun D σ H=>te σ H fun x H1=>g x σ H1 D.nx
theorem sC {tg e:Expr} {te:TE} {g:TG} (he:PE X e te) (hg:PG X tg g) (hs:swapsWithSole [tg] e pos.line X.env=pure false:=by rfl) (hw:swappedStores [tg] e X.env=pure none:=by rfl)
 (h1:(assignEach [tg] X.env).map (·.2) = [assign tg X.env]:=by rfl):PS X (.Assign [tg] e pos) (pP te g):=by
 intro pins s σ H D I h
 refine wpAny_Assign_stores (thn (he pins s σ H _ I h) fun v s1 ⟨x,H1,I1,r1,q1⟩=>?_) hs hw
 rw [h1]
 exact thn (hg pins s1 σ H1 x v _ I1 r1 q1) fun _ s2 q=>q
theorem jZ {i:Nat} {x:Str} {e:Expr} {te:TE} {pos':Pos} (hN:X.N.Nodup) (hi:X.N[i]? = some x) (hx:Loc X.env.scope x) (he:PE X e te) (hs:swapsWith e (some (.Name x pos')) pos.line X.env=pure false:=by rfl) (hf:X.fn x=true∨X.env.scope.names.lookup x=some .local:=by first | exact .inl rfl | exact .inr rfl | assumption) :
 PS X (.Assign [.Name x pos'] e pos) (pP te (dM i)):=by
 intro pins s σ H D I h
 refine wpAny_Assign_Name (thn (he pins s σ H _ I h) fun v s1 ⟨y,H1,I1,r1,q1⟩=>?_) hs
 exact io I1 hN hi hx r1 (fun s2 I2=>⟨_,H1,I2,q1⟩) hf
end
structure It where
 go:Nat→Hp→Prop
 yld:Nat→Hp→V→Hp→Prop
 stop:Nat→Hp→Prop
noncomputable def cX (X:Cx) (pins:List (Addr×Obj)) (H:Hp) (b:Addr):Prop:=
 H b=none∧b≠X.env.locals∧b ∉ X.fs∧(b∈X.ex∨X.s₀.heap.objs.size≤b)∧(∀ x c,X.env.cells.lookup x=some c→c≠b)∧∀ p∈X.pn ++ pins,p.1≠b
theorem Inv.fpOk {X:Cx} {pins:List (Addr×Obj)} {σ:St} {H H':Hp} {s:Shared} {b:Addr} (I:Inv X pins σ H s) (hb:s.heap.objs.size≤b) (hn:H' b=none):cX X pins H' b:=by
 refine ⟨hn,Nat.ne_of_gt (Nat.lt_of_lt_of_le I.lt hb),I.nofs hb,.inr (Nat.le_trans I.sz hb),fun x c e z=>?_,fun p hp z=>?_⟩
 ·obtain ⟨v,q⟩:=I.cell x c e
  exact absurd (Nat.lt_of_lt_of_le q.lt (by rw [z];exact hb)) (Nat.lt_irrefl _)
 ·exact absurd (Nat.lt_of_lt_of_le (Heap.lt_size (I.pin p hp).1) (by rw [z];exact hb)) (Nat.lt_irrefl _)
structure iG (P:Program) (w:World) (K:Fg) (tg:Expr) (J:It) (fp:List Addr) (it:Addr) (tn:Nat→Heap→Prop):Prop where
 mem:it∈fp
 obj:∀ i h,tn i h→∀ b∈fp,∃ o,h.get? b=some o∧∀ v,o.data≠.cell v
 keep:∀ i h h',tn i h→(∀ b∈fp,∀ o,h.get? b=some o→h'.get? b=some o)→tn i h'
 item:∀ (X:Cx),X.prog=P→X.w=w→X.K=K→X.calm=true→∀ (i:Nat) (pins:List (Addr×Obj)) (s:Shared) (σ:St) (H:Hp) (E:Value→Shared→Prop),Inv X pins σ H s→(∀ b∈fp,cX X pins H b)→tn i s.heap→J.go i H →
  wpAny (model P w) X.A (pyNext (.ref it)) (fun r s1=>∃ u,r=some u ∧
   wpAny (model P w) X.A (letOwnedTupleGo tg (.ref it) u) (fun _ s2=>∃ x H',Inv X pins σ H' s2∧ar x u∧J.yld i H x H'∧tn (i+1) s2.heap∧∀ b∈fp,H' b=none) E s1) E s
 done:∀ (X:Cx),X.prog=P→X.w=w→X.K=K→X.calm=true→∀ (i:Nat) (pins:List (Addr×Obj)) (s:Shared) (σ:St) (H:Hp) (E:Value→Shared→Prop),Inv X pins σ H s→(∀ b∈fp,cX X pins H b)→tn i s.heap→J.stop i H →
  wpAny (model P w) X.A (pyNext (.ref it)) (fun r s1=>r=none∧Inv X pins σ H s1) E s
 self:∀ (A:Around) (i:Nat) (s:Shared) (Q:Value→Shared→Prop) (E:Value→Shared→Prop),tn i s.heap→Q (.ref it) s→wpAny (model P w) A (pyIter (.ref it)) Q E s
noncomputable abbrev TI:=St→Hp→(It→Hp→Prop)→Prop
noncomputable def PIE (X:Cx) (pins:List (Addr×Obj)) (σ:St) (tg:Expr) (R:It→Hp→Prop) (itv:Value) (s2:Shared):Prop:=
 ∃ (it:Addr) (fp:List Addr) (tn:Nat→Heap→Prop) (J:It) (H':Hp),itv = .ref it∧Inv X pins σ H' s2∧iG X.prog X.w X.K tg J fp it tn∧tn 0 s2.heap∧(∀ b∈fp,cX X pins H' b)∧R J H'
noncomputable def PI (X:Cx) (tg iter:Expr) (wi:TI):Prop:=
 ∀ (pins:List (Addr×Obj)) (s:Shared) (σ:St) (H:Hp) (R:It→Hp→Prop),Inv X pins σ H s→wi σ H R →
   wpAny (model X.prog X.w) X.A (eval iter X.env) (fun v s1=>wpAny (model X.prog X.w) X.A (pyIter v) (PIE X pins σ tg R) X.xe s1) X.xe s
theorem qN {M:Model} {A:Around} {E:Value→Shared→Prop} {s:Shared} {tg:Expr} {it:Addr} {u:Value} {o:Obj} {n:String} {vs:Array Value} {Q:Unit→Shared→Prop} (ho:s.heap.get? it=some o) (hc:o.cls = .type n) (hd:o.data = .fields vs)
 (hn:["enumerate","zip","dict_itemiterator","dict_reverseitemiterator","odict_iterator","itertools.zip_longest","itertools.pairwise"].contains n=false) (hQ:Q () s):wpAny M A (letOwnedTupleGo tg (.ref it) u) Q E s:=by
 unfold letOwnedTupleGo
 cases tg <;> first
  | exact wpAny_pure hQ
  | (cases u <;> first
   | exact wpAny_pure hQ
   | (refine wpAny_bind (wpAny_load ho ?_)
      rw [hc,hd]
      show wpAny M A (if (["enumerate","zip","dict_itemiterator","dict_reverseitemiterator","odict_iterator","itertools.zip_longest","itertools.pairwise"].contains n && vs[0]? == some (rawInt _))=true then _ else _) Q E s
      rw [if_neg (by intro h;rw [hn,Bool.false_and] at h;cases h)]
      exact wpAny_pure hQ))
noncomputable def Itl (K:Fg) (a:Addr):It:=
 ⟨fun i H=>∃ xs x,SqL K H a xs∧xs[i]? = some x,fun i H x H'=>H'=H∧∀ xs,SqL K H a xs→xs[i]? = some x,fun i H=>∃ xs,SqL K H a xs∧xs.length≤i⟩
noncomputable def Itt (K:Fg) (a:Addr):It:=
 ⟨fun i H=>∃ xs x,SqT K H a xs∧xs[i]? = some x,fun i H x H'=>H'=H∧∀ xs,SqT K H a xs→xs[i]? = some x,fun i H=>∃ xs,SqT K H a xs∧xs.length≤i⟩
noncomputable def Itr (lo:Int) (n:Nat):It:=⟨fun i _=>i<n,fun i H x H'=>H'=H∧x = .int (lo+i),fun i _=>n≤i⟩
theorem pS {P:Program} {w:World} {K:Fg} {tg:Expr} (a it:Addr):iG P w K tg (Itl K a) [it] it (fun i h=>h.IsListIter it a i) where
 mem:=by simp
 obj:=fun i h st b hb=>by
  have e:b=it:=by simpa using hb
  subst e
  obtain ⟨o,e,c,d⟩:=st
  exact ⟨o,e,fun v z=>by rw [d] at z;cases z⟩
 keep:=fun i h h' st k=>st.at fun o e=>k it (by simp) o e
 item:=by
  intro X hP hw hK hc i pins s σ H E I hf st hg
  subst hP hw hK
  obtain ⟨xs,x,hq,hx⟩:=hg
  obtain ⟨its,rv,p,hz⟩:=I.list hq
  obtain ⟨u,hu,ru⟩:=rv.get hx
  obtain ⟨f0,f1,f2,f3,f4,f5⟩:=hf it (by simp)
  refine wpAny_pyNext_list_item st p.isList (x:=u) (by simpa using hu) fun h' st' sb=>?_
  have I1:Inv X pins σ H { s with heap:=h' }:=I.turned (t':=s.toks) (fun b o hb e=>(sb.2 b hb).trans e) f0 f1 f3 f4 f5
  obtain ⟨o,e,c,d⟩:=id st'
  exact ⟨u,rfl,qN (s:={ s with heap:=h' }) e c d (by decide) ⟨x,H,I1,ru,⟨rfl,fun ys hy=>by rw [I.list_inj hy hq];exact hx⟩,st',fun b hb=>(hf b hb).1⟩⟩
 done:=by
  intro X hP hw hK hc i pins s σ H E I hf st hg
  subst hP hw hK
  obtain ⟨xs,hq,hx⟩:=hg
  obtain ⟨its,rv,p,hz⟩:=I.list hq
  obtain ⟨f0,f1,f2,f3,f4,f5⟩:=hf it (by simp)
  have hl:=rv.length
  exact wpAny_pyNext_list_end (I.ok.hd hc) st p.isList (by simp;omega) fun h' eb=>⟨rfl,I.turned (t':=s.toks) (fun b o hb e=>eb b o hb e) f0 f1 f3 f4 f5⟩
 self:=fun _ _ _ _ _ st h=>wpAny_pyIter_listiter st h
theorem mW {P:Program} {w:World} {K:Fg} {tg:Expr} (a it:Addr):iG P w K tg (Itt K a) [it] it (fun i h=>h.IsTupleIter it a i) where
 mem:=by simp
 obj:=fun i h st b hb=>by
  have e:b=it:=by simpa using hb
  subst e
  obtain ⟨o,e,c,d⟩:=st
  exact ⟨o,e,fun v z=>by rw [d] at z;cases z⟩
 keep:=fun i h h' st k=>st.at fun o e=>k it (by simp) o e
 item:=by
  intro X hP hw hK hc i pins s σ H E I hf st hg
  subst hP hw hK
  obtain ⟨xs,x,hq,hx⟩:=hg
  obtain ⟨its,rv,p,hz⟩:=I.tuple hq
  obtain ⟨u,hu,ru⟩:=rv.get hx
  obtain ⟨f0,f1,f2,f3,f4,f5⟩:=hf it (by simp)
  refine wpAny_pyNext_tuple_item st (show s.heap.IsTuple a its.toArray from p) (x:=u) (by simpa using hu) fun h' st' sb=>?_
  have I1:Inv X pins σ H { s with heap:=h' }:=I.turned (t':=s.toks) (fun b o hb e=>(sb.2 b hb).trans e) f0 f1 f3 f4 f5
  obtain ⟨o,e,c,d⟩:=id st'
  exact ⟨u,rfl,qN (s:={ s with heap:=h' }) e c d (by decide) ⟨x,H,I1,ru,⟨rfl,fun ys hy=>by rw [I.tuple_inj hy hq];exact hx⟩,st',fun b hb=>(hf b hb).1⟩⟩
 done:=by
  intro X hP hw hK hc i pins s σ H E I hf st hg
  subst hP hw hK
  obtain ⟨xs,hq,hx⟩:=hg
  obtain ⟨its,rv,p,hz⟩:=I.tuple hq
  obtain ⟨f0,f1,f2,f3,f4,f5⟩:=hf it (by simp)
  have hl:=rv.length
  exact wpAny_pyNext_tuple_end (I.ok.hd hc) st (show s.heap.IsTuple a its.toArray from p) (by simp;omega) fun h' eb=>⟨rfl,I.turned (t':=s.toks) (fun b o hb e=>eb b o hb e) f0 f1 f3 f4 f5⟩
 self:=fun _ _ _ _ _ st h=>wpAny_pyIter_tupleiter st h
theorem mV {P:Program} {w:World} {K:Fg} {tg:Expr} (it:Addr) (lo:Int) (n:Nat):iG P w K tg (Itr lo n) [it] it (fun i h=>IsRangeIter h it (lo+(i:Nat) * 1) ((n:Int) - (i:Nat)) 1) where
 mem:=by simp
 obj:=fun i h st b hb=>by
  have e:b=it:=by simpa using hb
  subst e
  exact ⟨_,st,fun v z=>by
   have z':Data.fields _=Data.cell v:=z
   cases z'⟩
 keep:=fun i h h' st k=>k it (by simp) _ st
 item:=by
  intro X hP hw hK hc i pins s σ H E I hf st hg
  subst hP hw hK
  obtain ⟨f0,f1,f2,f3,f4,f5⟩:=hf it (by simp)
  have W:=Walks.range (prog:=X.prog) (w:=X.w) (I.ok.hd hc) it lo 1 n
  refine W.item i s _ _ hg st fun v h' tk hv st' kk=>?_
  obtain ⟨t,rfl⟩:=hv
  have I1:Inv X pins σ H { s with heap:=h',toks:=tk }:=I.turned (fun b o hb e=>kk b o (by simpa using hb) e) f0 f1 f3 f4 f5
  refine ⟨_,rfl,qN (s:={ s with heap:=h',toks:=tk }) (n:="range_iterator") st' rfl rfl (by decide) ⟨.int (lo+i),H,I1,⟨t,?_⟩,⟨rfl,rfl⟩,st',fun b hb=>(hf b hb).1⟩⟩
  rw [Int.mul_one]
 done:=by
  intro X hP hw hK hc i pins s σ H E I hf st hg
  subst hP hw hK
  obtain ⟨f0,f1,f2,f3,f4,f5⟩:=hf it (by simp)
  exact wpAny_pyNext_range_end (I.ok.hd hc) st (by have:n≤i:=hg;omega) fun h' eb=>⟨rfl,I.turned (t':=s.toks) (fun b o hb e=>eb b o hb e) f0 f1 f3 f4 f5⟩
 self:=fun _ _ _ _ _ st h=>wpAny_pyIter_rangeiter st h
end L2
namespace L2
section
variable {X:Cx} {tg:Expr}
theorem sG {pins:List (Addr×Obj)} {σ:St} {H:Hp} {s:Shared} {R:It→Hp→Prop} {E:Value→Shared→Prop} {lo hi:Int} {t u v:Tok} {tk:Nat} (I:Inv X pins σ H s) (h1:-(2 ^ 62)≤lo) (h2:lo<2 ^ 62) (h3:-(2 ^ 62)≤hi) (h4:hi<2 ^ 62)
 (q:R (Itr lo (hi - lo).toNat) H):wpAny (model X.prog X.w) X.A (pyIter (.ref s.heap.objs.size)) (PIE X pins σ tg R) E { s with heap:=s.heap.push { cls:=.type "range",data:=.fields #[.int lo t,.int hi u,.int 1 v] },toks:=tk }:=by
 refine wpAny_pyIter_range (IsRange.new ..) (small_one h1 h2 h3 h4) ?_
 have I1:Inv X pins σ H { s with heap:=s.heap.push { cls:=.type "range",data:=.fields #[.int lo t,.int hi u,.int 1 v] },toks:=tk }:=I.kept fun b o e=>Heap.get?_push_of_some _ e
 refine ⟨(s.heap.push { cls:=.type "range",data:=.fields #[.int lo t,.int hi u,.int 1 v] }).objs.size,[(s.heap.push { cls:=.type "range",data:=.fields #[.int lo t,.int hi u,.int 1 v] }).objs.size],_,_,H,rfl,
  I1.kept (t':=tk) fun b o e=>Heap.get?_push_of_some _ e,mV _ lo (hi - lo).toNat,?_,fun b hb=>?_,q⟩
 ·have e1:lo+((0:Nat):Int) * 1=lo:=by simp
  have e2:(((hi - lo).toNat:Nat):Int) - ((0:Nat):Int)=Builtin.Range.rangeSize lo hi 1:=by rw [rangeSize_one];split <;> omega
  show IsRangeIter _ _ (lo+((0:Nat):Int) * 1) ((((hi - lo).toNat:Nat):Int) - ((0:Nat):Int)) 1
  rw [e1,e2]
  exact Heap.get?_push_size _ rfl
 ·have e:b=(s.heap.push { cls:=.type "range",data:=.fields #[.int lo t,.int hi u,.int 1 v] }).objs.size:=by simpa using hb
  subst e
  exact I1.fpOk (Nat.le_refl _) (I1.hok.fresh (Nat.le_refl _))
noncomputable def zR (ta:TA):TI:=fun σ H R=>ta σ H fun vs H1=>∃ j:Int,vs = [.int j]∧-(2 ^ 62)≤j∧j<2 ^ 62∧R (Itr 0 j.toNat) H1
theorem pD {a:Expr} {ta:TA} {p pos:Pos} (hg:Gl X "range") (hm:X.mg "range" = none) (ha:PA X [a] ta) (hs:starEach [a] X.env = [(false,eval a X.env)]:=by rfl):PI X tg (.Call (.Name "range" p) [a] [] pos) (zR ta):=by
 intro pins s σ H R I h
 refine Call_ (dX I hg hm boot_range (PyProof.Rows.callWith_type1 (thn (ha pos pins s σ H _ I h) fun us s1 ⟨vs,H1,I1,r1,q1⟩=>?_) hs rfl))
 obtain ⟨j,e,q1,q2,q⟩:=q1
 subst e
 cases r1 with
 | cons r rr=>
   cases rr
   obtain ⟨t,rfl⟩:=r
   exact call_range_1 (sG I1 (by omega) (by omega) q1 q2 (by simpa using q))
noncomputable def BT (wi:TI) (g:TG) (tb:TS):TS:=fun D σ H=>wi σ H fun J H1=>∃ W:Nat→Nat→St→Hp→Prop,(∃ m,W 0 m σ H1)∧∀ i m σ H,W i m σ H →
 (J.stop i H∧D.nx σ H)∨(J.go i H∧∃ N:St→Hp→Prop,(∀ σ' H',N σ' H'→∃ m',m'<m∧W (i+1) m' σ' H')∧∀ x H',J.yld i H x H'→g x σ H' fun σ2 H2=>tb { D with nx:=N,ct:=N,bk:=D.nx } σ2 H2)
noncomputable def hZ (fp:List Addr) (h:Heap):List (Addr×Obj):=fp.filterMap fun b=>(h.get? b).map fun o=>(b,o)
theorem cH {fp:List Addr} {h:Heap} {b:Addr} {o:Obj} (hb:b∈fp) (e:h.get? b=some o):(b,o)∈hZ fp h:=List.mem_filterMap.mpr ⟨b,hb,by rw [e];rfl⟩
theorem pA {fp:List Addr} {h:Heap} {p:Addr×Obj} (hp:p∈hZ fp h):p.1∈fp∧h.get? p.1=some p.2:=by
 obtain ⟨b,hb,e⟩:=List.mem_filterMap.mp hp
 cases q:h.get? b with
 | none=>rw [q] at e;cases e
 | some o=>
   rw [q] at e
   have e':(b,o)=p:=Option.some.inj e
   subst e'
   exact ⟨hb,q⟩
theorem Inv.pinned {pins:List (Addr×Obj)} {σ:St} {H:Hp} {s:Shared} {fp:List Addr} (I:Inv X pins σ H s) (hf:∀ b∈fp,cX X pins H b) (ho:∀ b∈fp,∃ o,s.heap.get? b=some o∧∀ v,o.data≠.cell v):Inv X (pins ++ hZ fp s.heap) σ H s:=
 I.pins_of fun p hp=>(List.mem_append.mp hp).elim (fun z=>I.pin p (List.mem_append_right _ z)) fun z=>by
   obtain ⟨hb,e⟩:=pA z
   obtain ⟨f0,f1,f2,_⟩:=hf p.1 hb
   obtain ⟨o,e',d⟩:=ho p.1 hb
   rw [e] at e';cases e'
   exact ⟨e,f0,f1,f2,d⟩
theorem Inv.unpinned {pins pl:List (Addr×Obj)} {σ:St} {H:Hp} {s:Shared} (I:Inv X (pins ++ pl) σ H s):Inv X pins σ H s:=I.pins_of fun p hp=>I.pin p (List.mem_append_right _ (List.mem_append_left _ hp))
theorem yM {iter:Expr} {body:List Stmt} {wi:TI} {g:TG} {tb:TS} {pos:Pos} (hp:PassesOwn (model X.prog X.w) X.A X.env X.xe) (hc:X.calm=true) (hi:PI X tg iter wi) (hg:PG X tg g) (hb:PSs X body tb)
 (hs:∀ x,foldedSetIterable iter X.env x=pure x:=by intro _;rfl):PS X (.For tg iter body [] pos) (BT wi g tb):=by
 intro pins s σ H D I h
 refine wpAny_For (thn (hi pins s σ H _ I h) fun v s1 h1=>thn h1 fun itv s2 h2=>?_) hs
 obtain ⟨it,fp,tn,J,H2,e,I2,T,st2,f2,W,⟨m0,w0⟩,turn⟩:=h2
 subst e
 have stat:∀ {H':Hp},(∀ b∈fp,H' b=none)→∀ b∈fp,cX X pins H' b:=fun hn b hb=>⟨hn b hb,(f2 b hb).2⟩
 refine codeAny_forLoop_any (fun n s'=>∃ i σ' H',Inv X pins σ' H' s'∧tn i s'.heap∧(∀ b∈fp,H' b=none)∧W i n σ' H') ?_ m0 ⟨0,σ,H2,I2,st2,fun b hb=>(f2 b hb).1,w0⟩
 rintro n s3 ⟨i,σ3,H3,I3,st3,fr3,w3⟩
 rcases turn i n σ3 H3 w3 with ⟨stop,qn⟩ | ⟨go,N,hN,step⟩
 ·refine wpAny_passesOwn hp (thn (T.done X rfl rfl rfl hc i pins s3 σ3 H3 X.xe I3 (stat fr3) st3 stop) fun r s4 ⟨hr,I4⟩=>?_)
  subst hr
  exact wpAny_execs_nil ⟨σ3,H3,I4,qn⟩
 ·refine wpAny_passesOwn hp (thn (T.item X rfl rfl rfl hc i pins s3 σ3 H3 X.xe I3 (stat fr3) st3 go) fun r s4 ⟨u,hr,h4⟩=>?_)
  subst hr
  refine wpAny_passesOwn hp (thn h4 fun _ s5 ⟨x,H5,I5,r5,y5,st5,fr5⟩=>?_)
  have I5':=I5.pinned (stat fr5) (T.obj _ _ st5)
  refine wpAny_passesOwn hp (thn (hg _ s5 σ3 H5 x u _ I5' r5 (step x H5 y5)) fun _ s6 ⟨σ6,H6,I6,q6⟩=>?_)
  refine wpAny_passesOwn hp (thn (hb _ s6 σ6 H6 _ I6 q6) fun f s7 q7=>?_)
  have again:∀ {σ7:St} {H7:Hp},Inv X (pins ++ hZ fp s5.heap) σ7 H7 s7→N σ7 H7→∃ m,m<n∧∃ i σ' H',Inv X pins σ' H' s7∧tn i s7.heap∧(∀ b∈fp,H' b=none)∧W i m σ' H':=fun {σ7 H7} I7 n7=>by
   obtain ⟨m',hm,w7⟩:=hN σ7 H7 n7
   refine ⟨m',hm,i+1,σ7,H7,I7.unpinned,T.keep _ _ _ st5 fun b hb o e=>(I7.pin (b,o) (List.mem_append_right _ (List.mem_append_right _ (cH hb e)))).1,fun b hb=>?_,w7⟩
   obtain ⟨o,e,d⟩:=T.obj _ _ st5 b hb
   exact (I7.pin (b,o) (List.mem_append_right _ (List.mem_append_right _ (cH hb e)))).2.1
  cases f with
  | next=>obtain ⟨σ7,H7,I7,n7⟩:=q7;exact again I7 n7
  | cont=>obtain ⟨σ7,H7,I7,n7⟩:=q7;exact again I7 n7
  | brk=>obtain ⟨σ7,H7,I7,q7⟩:=q7;exact ⟨σ7,H7,I7.unpinned,q7⟩
  | ret v=>obtain ⟨x7,σ7,H7,I7,r7,q7⟩:=q7;exact ⟨x7,σ7,H7,I7.unpinned,r7,q7⟩
end
end L2
namespace L2
noncomputable abbrev R2:=V→V→Hp→VK→Prop
noncomputable def OpR (X:Cx) (f:Value→Value→Sem Value) (r:R2):Prop:=
 ∀ (pins:List (Addr×Obj)) (s:Shared) (σ:St) (H:Hp) (x y:V) (v u:Value) (Q:VK),Inv X pins σ H s→ar x v→ar y u→r x y H Q →
   wpAny (model X.prog X.w) X.A (f v u) (EP X pins σ Q) X.xe s
noncomputable def aO (X:Cx) (f:Value) (r:List V→Hp→VK→Prop):Prop:=
 ∀ (pins:List (Addr×Obj)) (s:Shared) (σ:St) (H:Hp) (xs:List V) (us:List Value) (Q:VK),Inv X pins σ H s→av xs us→r xs H Q →
   wpAny (model X.prog X.w) X.A (call f us) (EP X pins σ Q) X.xe s
noncomputable def A8 (X:Cx) (r:V→Hp→(Bool→Hp→Prop)→Prop):Prop:=
 ∀ (pins:List (Addr×Obj)) (s:Shared) (σ:St) (H:Hp) (x:V) (v:Value) (Q:Bool→Hp→Prop),Inv X pins σ H s→ar x v→r x H Q →
   wpAny (model X.prog X.w) X.A (truthy v) (TP X pins σ Q) X.xe s
noncomputable def tOp (r:R2) (ta tb:TE):TE:=fun σ H Q=>ta σ H fun x H1=>tb σ H1 fun y H2=>r x y H2 Q
noncomputable def rI (C:Int→Int→Prop) (g:Int→Int→V):R2:=fun x y H Q=>∃ i j,x = .int i∧y = .int j∧C i j∧Q (g i j) H
noncomputable def rI0 (g:Int→Int→V):R2:=fun x y H Q=>∃ i j,x = .int i∧y = .int j∧Q (g i j) H
section
variable {X:Cx} {a b c:Expr} {ta tb tc:TE} {pos:Pos}
theorem tR (ha:PE X a ta) (hb:PE X b tb) {pins:List (Addr×Obj)} {s:Shared} {σ:St} {H:Hp} {R:V→V→Hp→Prop} (I:Inv X pins σ H s)
 (h:ta σ H fun x H1=>tb σ H1 fun y H2=>R x y H2) {Q:Value→Shared→Prop} {f:Value→Value→Sem Value}
 (hf:∀ v u s2 x y H2,Inv X pins σ H2 s2→ar x v→ar y u→R x y H2→wpAny (model X.prog X.w) X.A (f v u) Q X.xe s2) :
 wpAny (model X.prog X.w) X.A (eval a X.env) (fun v s₁=>wpAny (model X.prog X.w) X.A (eval b X.env) (fun u s₂=>wpAny (model X.prog X.w) X.A (f v u) Q X.xe s₂) X.xe s₁) X.xe s:=by
 refine thn (ha pins s σ H _ I h) fun v s1 ⟨x,H1,I1,r1,q1⟩=>?_
 refine thn (hb pins s1 σ H1 _ I1 q1) fun u s2 ⟨y,H2,I2,r2,q2⟩=>?_
 exact hf v u s2 x y H2 I2 r1 r2 q2
theorem Aw {op:Operator} {r:R2} (ho:OpR X (binaryOp op) r) (ha:PE X a ta) (hb:PE X b tb):PE X (.BinOp a op b pos) (tOp r ta tb):=by
 intro pins s σ H Q I h
 exact wpAny_BinOp (tR ha hb I h fun v u s2 x y H2 I2 rx ry q=>ho pins s2 σ H2 x y v u Q I2 rx ry q)
theorem opI {f:Value→Value→Sem Value} {C:Int→Int→Prop} {g:Int→Int→Int}
 (rule:∀ (i j:Int) (t u:Tok) (s:Shared) (Q:Value→Shared→Prop) (E:Value→Shared→Prop),C i j→Q (.int (g i j) s.toks) { s with toks:=s.toks+1 }→wpAny (model X.prog X.w) X.A (f (.int i t) (.int j u)) Q E s) :
 OpR X f (rI C fun i j=>.int (g i j)):=by
 intro pins s σ H x y v u Q I rx ry h
 obtain ⟨i,j,rfl,rfl,hc,q⟩:=h
 obtain ⟨t,rfl⟩:=rx
 obtain ⟨t',rfl⟩:=ry
 exact rule i j t t' s _ _ hc ⟨.int (g i j),H,I.tok _,⟨_,rfl⟩,q⟩
theorem yn {f:Value→Value→Sem Value} {g:Int→Int→Int}
 (rule:∀ (i j:Int) (t u:Tok) (s:Shared) (Q:Value→Shared→Prop) (E:Value→Shared→Prop),Q (.int (g i j) s.toks) { s with toks:=s.toks+1 }→wpAny (model X.prog X.w) X.A (f (.int i t) (.int j u)) Q E s) :
 OpR X f (rI0 fun i j=>.int (g i j)):=by
 intro pins s σ H x y v u Q I rx ry h
 obtain ⟨i,j,rfl,rfl,q⟩:=h
 obtain ⟨t,rfl⟩:=rx
 obtain ⟨t',rfl⟩:=ry
 exact rule i j t t' s _ _ ⟨.int (g i j),H,I.tok _,⟨_,rfl⟩,q⟩
theorem uK {f:Value→Value→Sem Value} {g:Int→Int→Bool}
 (rule:∀ (i j:Int) (t u:Tok) (s:Shared) (Q:Value→Shared→Prop) (E:Value→Shared→Prop),Q (.bool (g i j)) s→wpAny (model X.prog X.w) X.A (f (.int i t) (.int j u)) Q E s) :
 OpR X f (rI0 fun i j=>.bl (g i j)):=by
 intro pins s σ H x y v u Q I rx ry h
 obtain ⟨i,j,rfl,rfl,q⟩:=h
 obtain ⟨t,rfl⟩:=rx
 obtain ⟨t',rfl⟩:=ry
 exact rule i j t t' s _ _ ⟨.bl (g i j),H,I,rfl,q⟩
noncomputable def wL (i j:Int):Prop:=(-(2 ^ 64)<i∧i<2 ^ 64)∨(-(2 ^ 64)<j∧j<2 ^ 64)
theorem wL.ok {i j:Int} (h:wL i j):IntMulOk i j:=by
 rcases h with ⟨h1,h2⟩ | ⟨h1,h2⟩
 ·exact .of_left (intBits_le_64 h1 h2)
 ·exact .of_right (intBits_le_64 h1 h2)
theorem yo:OpR X (binaryOp .Add) (rI0 fun i j=>.int (i+j)):=yn fun _ _ _ _ _ _ _ q=>add_int q
theorem yB:OpR X (binaryOp .Sub) (rI0 fun i j=>.int (i - j)):=yn fun _ _ _ _ _ _ _ q=>sub_int q
theorem yA:OpR X (binaryOp .Mod) (rI (fun _ j=>0<j) fun i j=>.int (i % j)):=opI fun i j _ _ _ _ _ hc q=>by
 have h1:(0:Int)<j:=hc
 exact mod_int' (by omega) (by rw [Int.fmod_eq_emod_of_nonneg i (by omega)];exact q)
theorem yp:OpR X (binaryOp .BitAnd) (rI0 fun i j=>.int (Builtin.bitAnd i j)):=yn fun _ _ _ _ _ _ _ q=>and_int q
end
section
variable {X:Cx} {a b c:Expr} {ta tb tc:TE} {pos:Pos}
theorem As:OpR X (compareOp .Lt) (rI0 fun i j=>.bl (decide (i<j))):=uK fun _ _ _ _ _ _ _ q=>lt_int q
theorem Ar:OpR X (compareOp .LtE) (rI0 fun i j=>.bl (decide (i≤j))):=uK fun _ _ _ _ _ _ _ q=>le_int q
theorem Aq:OpR X (compareOp .Gt) (rI0 fun i j=>.bl (decide (j<i))):=uK fun _ _ _ _ _ _ _ q=>gt_int q
theorem Ap:OpR X (compareOp .GtE) (rI0 fun i j=>.bl (decide (j≤i))):=uK fun _ _ _ _ _ _ _ q=>ge_int q
theorem uW {op:CmpOp} {r:R2} (ho:OpR X (compareOp op) r) (ha:PE X a ta) (hb:PE X b tb) (hm:behindInMarks op b=false):PE X (.Compare a [op] [b] pos) (tOp r ta tb):=by
 intro pins s σ H Q I h
 exact wpAny_Compare1 (tR ha hb I h fun v u s2 x y H2 I2 rx ry q=>ho pins s2 σ H2 x y v u Q I2 rx ry q) hm
noncomputable def wC (t:TE):TT:=fun σ H Q=>t σ H fun x H'=>∃ k,x = .bl k∧Q k H'
theorem vi {op:CmpOp} {r:R2} (ho:OpR X (compareOp op) r) (ha:PE X a ta) (hb:PE X b tb) (hm:behindInMarks op b=false):PT X (.Compare a [op] [b] pos) (wC (tOp r ta tb)):=by
 intro pins s σ H Q I h
 refine wpAny_isTrue_Compare1 (thn (ha pins s σ H _ I h) fun v s1 ⟨x,H1,I1,r1,q1⟩=>thn (hb pins s1 σ H1 _ I1 q1) fun u s2 ⟨y,H2,I2,r2,q2⟩=>
  thn (ho pins s2 σ H2 x y v u _ I2 r1 r2 q2) fun c s3 ⟨z,H3,I3,r3,k,e,q3⟩=>?_) hm
 subst e
 cases r3
 exact wpAny_truthy_bool ⟨H3,I3,q3⟩
noncomputable def mR (r r':R2) (ta tb tc:TE):TE:=fun σ H Q=>ta σ H fun x H1=>tb σ H1 fun y H2=>r x y H2 fun z H3=>∃ k,z = .bl k ∧
 (if k=true then tc σ H3 fun w' H4=>r' y w' H4 Q else Q (.bl false) H3)
theorem rZ {op op':CmpOp} {r r':R2} (ho:OpR X (compareOp op) r) (ho':OpR X (compareOp op') r') (ha:PE X a ta) (hb:PE X b tb) (hc:PE X c tc)
 (hm:lastMarks [op,op'] [b,c]=false:=by with_unfolding_all rfl):PE X (.Compare a [op,op'] [b,c] pos) (mR r r' ta tb tc):=by
 intro pins s σ H Q I h
 refine Compare_chain (thn (ha pins s σ H _ I h) fun v s1 ⟨x,H1,I1,r1,q1⟩=>chain_link (thn (hb pins s1 σ H1 _ I1 q1) fun u s2 ⟨y,H2,I2,r2,q2⟩=>
  thn (ho pins s2 σ H2 x y v u _ I2 r1 r2 q2) fun d s3 ⟨z,H3,I3,r3,k,e,q3⟩=>?_)) hm
 subst e
 cases r3
 refine wpAny_truthy_bool ?_
 cases k with
 | false=>exact ite_ff ⟨.bl false,H3,I3,rfl,q3⟩
 | true=>exact ite_tt (chain_last (thn (hc pins s3 σ H3 _ I3 q3) fun w' s4 ⟨z',H4,I4,r4,q4⟩=>ho' pins s4 σ H4 y z' u w' Q I4 r2 r4 q4))
theorem sD {op op':CmpOp} {r r':R2} (ho:OpR X (compareOp op) r) (ho':OpR X (compareOp op') r') (ha:PE X a ta) (hb:PE X b tb) (hc:PE X c tc)
 (hm:lastMarks [op,op'] [b,c]=false:=by with_unfolding_all rfl):PT X (.Compare a [op,op'] [b,c] pos) (wC (mR r r' ta tb tc)):=by
 intro pins s σ H Q I h
 refine isTrue_chain (thn (ha pins s σ H _ I h) fun v s1 ⟨x,H1,I1,r1,q1⟩=>test_link (thn (hb pins s1 σ H1 _ I1 q1) fun u s2 ⟨y,H2,I2,r2,q2⟩=>
  thn (ho pins s2 σ H2 x y v u _ I2 r1 r2 q2) fun d s3 ⟨z,H3,I3,r3,k,e,q3⟩=>?_)) hm
 subst e
 cases r3
 refine wpAny_truthy_bool ?_
 cases k with
 | false=>
   obtain ⟨k',e',q'⟩:=q3
   cases e'
   exact ite_ff ⟨H3,I3,q'⟩
 | true=>
   refine ite_tt (test_last (thn (hc pins s3 σ H3 _ I3 q3) fun w' s4 ⟨z',H4,I4,r4,q4⟩=>thn (ho' pins s4 σ H4 y z' u w' _ I4 r2 r4 q4) fun d' s5 ⟨z2,H5,I5,r5,k2,e2,q5⟩=>?_))
   subst e2
   cases r5
   exact wpAny_truthy_bool ⟨H5,I5,q5⟩
noncomputable def wQ (K:Fg) (x:V) (H:Hp) (k:Bool):Prop:=
 match x with
 | .non=>k=false
 | .bl b=>k=b
 | .int i=>k=(i != 0)
 | .str y=>y.length≤sizeLine∧k=((y.length:Int) != 0)
 | .byt y=>y.size≤sizeLine∧k=((y.size:Int) != 0)
 | .ref p=>(∃ xs,SqL K H p xs∧k = !xs.isEmpty)∨(∃ xs,SqT K H p xs∧k = !xs.isEmpty)∨∃ kvs,H p=some (.dK kvs)∧k = !kvs.isEmpty
 | _=>False
theorem l9 {κ:Type} {kvs:List (κ×V)} {vs:List (κ×Value)} (r:KV kvs vs):(!vs.isEmpty) = !kvs.isEmpty:=by
 cases r <;> rfl
theorem gR {xs:List V} {its:List Value} (r:av xs its):(!its.toArray.isEmpty) = !xs.isEmpty:=by
 cases r <;> simp
theorem dY:(sizeLine:Nat)<2 ^ 63:=by rw [sizeLine_eq];decide
theorem za:A8 X (fun x H Q=>∃ k,wQ X.K x H k∧Q k H):=by
 intro pins s σ H x v Q I rx h
 obtain ⟨k,e,q⟩:=h
 have hl:=dY
 have hs:sizeLine=16777216:=sizeLine_eq
 cases x with
 | non=>
   cases rx
   have e':k=false:=e
   subst e'
   exact truthy_none ⟨H,I,q⟩
 | bl b=>
   cases rx
   have e':k=b:=e
   subst e'
   exact wpAny_truthy_bool ⟨H,I,q⟩
 | int i=>
   obtain ⟨t,rfl⟩:=rx
   have e':k=(i != 0):=e
   subst e'
   exact PySem.P.truthy_int ⟨H,I,q⟩
 | str y=>
   obtain ⟨t,rfl⟩:=rx
   obtain ⟨hy,e'⟩:y.length≤sizeLine∧k=((y.length:Int) != 0):=e
   subst e'
   exact PySem.P.truthy_str (by omega) ⟨H,I.tok _,q⟩
 | byt y=>
   obtain ⟨t,rfl⟩:=rx
   obtain ⟨hy,e'⟩:y.size≤sizeLine∧k=((y.size:Int) != 0):=e
   subst e'
   exact PySem.W.truthy_bytes (by omega) ⟨H,I.tok _,q⟩
 | ref p=>
   cases rx
   have e':(∃ xs,SqL X.K H p xs∧k = !xs.isEmpty)∨(∃ xs,SqT X.K H p xs∧k = !xs.isEmpty)∨∃ kvs,H p=some (.dK kvs)∧k = !kvs.isEmpty:=e
   rcases e' with ⟨xs,hx,e'⟩ | ⟨xs,hx,e'⟩ | ⟨kvs,hx,e'⟩
   ·subst e'
    obtain ⟨its,r,pl,hz⟩:=I.list hx
    have hlen:=r.length
    exact wpAny_truthy_list pl.isList (by simp only [List.size_toArray];omega) ⟨H,I.tok _,by rw [gR r];exact q⟩
   ·subst e'
    obtain ⟨its,r,pl,hz⟩:=I.tuple hx
    have hlen:=r.length
    exact truthy_tuple pl (by simp only [List.size_toArray];omega) ⟨H,I.tok _,by rw [gR r];exact q⟩
   ·subst e'
    obtain ⟨hz,hS,vs,r,m⟩:kvs.length≤sizeLine∧(p == sysModules)=false∧∃ vs,KV kvs vs∧s.heap.DictOf (aB X.prog X.w) p vs:=I.hok p _ hx
    have hlen:kvs.length=vs.length:=Paired.length r
    exact wpAny_truthy_dict hS m (by omega) ⟨H,I.tok _,by rw [l9 r];exact q⟩
 | _=>exact (show False from e).elim
theorem sE (ha:PE X a ta) (he:∀ whole,isTrue a X.env whole=(do let v ← whole;standAt a.pos;holding [v] (truthy v))) :
 PT X a (fun σ H Q=>ta σ H fun x H'=>∃ k,wQ X.K x H' k∧Q k H'):=by
 intro pins s σ H Q I h
 exact isTrue_plain (thn (ha pins s σ H _ I h) fun v s1 ⟨x,H1,I1,r1,q1⟩=>za pins s1 σ H1 x v Q I1 r1 q1) (he _)
theorem mD:OpR X (binaryOp .Add) (fun x y H Q=>∃ i j,x = .str i∧y = .str j∧i.length+j.length≤sizeLine∧Q (.str (i ++ j)) H):=by
 intro pins s σ H x y v u Q I rx ry h
 obtain ⟨i,j,rfl,rfl,hz,q⟩:=h
 obtain ⟨t,rfl⟩:=rx
 obtain ⟨t',rfl⟩:=ry
 exact add_str (fun t' tk=>⟨.str (i ++ j),H,I.tok _,⟨_,rfl⟩,q⟩) hz
theorem iB {x:V} {us:List Value} (r:av [x] us):∃ u,us = [u]∧ar x u:=by
 cases r with
 | cons r1 r2=>cases r2;exact ⟨_,rfl,r1⟩
theorem iU:aO X (.type "int") (fun xs H Q=>(∃ i,xs = [.int i]∧Q (.int i) H)∨∃ k,xs = [.bl k]∧Q (.int (if k then 1 else 0)) H):=by
 intro pins s σ H xs us Q I r h
 rcases h with ⟨i,rfl,q⟩ | ⟨k,rfl,q⟩
 ·obtain ⟨u,rfl,t,rfl⟩:=iB r
  exact call_int_int ⟨.int i,H,I,⟨_,rfl⟩,q⟩
 ·obtain ⟨u,rfl,r1⟩:=iB r
  cases r1
  exact call_int_bool ⟨.int (if k then 1 else 0),H,I.tok _,⟨_,rfl⟩,q⟩
theorem jD:aO X (.type "str") (fun xs H Q=>∃ i,xs = [.int i]∧i.natAbs.log2<1920∧Q (.str (toString i)) H):=by
 intro pins s σ H xs us Q I r h
 obtain ⟨i,rfl,hz,q⟩:=h
 obtain ⟨u,rfl,t,rfl⟩:=iB r
 exact PySem.P.str_of_int hz ⟨.str _,H,I.tok _,⟨_,rfl⟩,q⟩
end
end L2
namespace L2
structure lQ (h:Heap) (x dx C:Addr) (mA:Str→Option Value):Prop where
 obj:h.get? x=some (PySem.W.instObj C dx)
 ns:h.Ns1 dx mA
 ne:dx≠x
theorem je {h:Heap} {dx:Addr} {mA:Str→Option Value} (n:h.Ns1 dx mA):∃ od,h.get? dx=some od∧∀ name,PySem.W.lookIn name od=some (mA name):=by
 obtain ⟨o,es,ep,ho,hd,hk,_,hm⟩:=n
 refine ⟨o,ho,fun name=>?_⟩
 have e:=hm name
 unfold nsFind findBy at e
 rw [← Array.find?_toList] at e
 unfold PySem.W.lookIn
 rw [hd]
 dsimp only
 split
 ·rename_i y q
  rw [q] at e
  exact congrArg some e
 ·rename_i q
  rw [q] at e
  have a:es.toList.any (·.refKey)=false:=by
   rw [List.any_eq_false]
   intro y hy
   obtain ⟨z,t,hkey⟩:=hk y (Array.mem_toList_iff.mp hy)
   simp [DictEntry.refKey,hkey]
  have a':¬ es.toList.any (·.refKey)=true:=by rw [a];exact Bool.false_ne_true
  rw [if_neg a']
  exact congrArg some e
theorem lQ.look {h:Heap} {x dx C:Addr} {mA:Str→Option Value} (I:lQ h x dx C mA):∃ od,PySem.W.InstAt h x (PySem.W.instObj C dx) C (some od)∧∀ name,PySem.W.lookIn name od=some (mA name):=
 let ⟨od,ho,hl⟩:=je I.ns
 ⟨od,⟨I.obj,rfl,rfl,ho⟩,hl⟩
section
variable {prog:Program} {w:World} {A:Around} {E:Value→Shared→Prop} {s:Shared} {K:Fg} {x dx C f:Addr} {mA:Str→Option Value} {name:Str} {v:Value}
theorem t9 {expr:Bool} {Q:Value→Shared→Prop} (X:K.In s.heap) (I:lQ s.heap x dx C mA) (hg:PySem.W.plainGet K C name=true) (hh:PySem.W.hasDictIn K C=true)
 (ha:PySem.W.findIn K (.ref C) name=some none) (hv:mA name=some v) (hv':PySem.W.handedIn v=true) (h:Q v { s with toks:=s.toks+1 }) :
 wpAny (model prog w) A (getAttr (.ref x) name expr) Q E s:=by
 obtain ⟨od,J,hl⟩:=I.look
 exact PySem.W.get_value X J (PySem.W.plainGet_of hg).1 (PySem.W.findObj_own hh ha rfl (by rw [hl,hv])) hv' h
theorem qM {pl:Sem Bool} {Q:Value×List Value→Shared→Prop} (X:K.In s.heap) (I:lQ s.heap x dx C mA) (hg:PySem.W.plainGet K C name=true)
 (hf:PySem.W.findIn K (.ref C) name=some (some (.ref f))) (ht:PySem.W.isFn K (.ref f)=true) (hv:mA name=none) (h:Q (.ref f,[.ref x]) s) :
 wpAny (model prog w) A (getMethod (.ref x) name pl) Q E s:=by
 obtain ⟨od,J,hl⟩:=I.look
 exact PySem.W.method_fn X J (PySem.W.plainGet_of hg).1 (PySem.W.plainGet_of hg).2 hf (beq_iff_eq.mp ht) (by show (PySem.W.lookIn name od).map (·.isSome)=some false;rw [hl,hv];rfl) h
theorem vA {ns:List Str} {Q:Unit→Shared→Prop} (X:K.In s.heap) (I:lQ s.heap x dx C mA)
 (hs:PySem.W.findIn K (.ref C) "__setattr__" = some (some (.builtin "object.__setattr__"))) (hp:PySem.W.plainOver K C=true) (ht:PySem.W.takerIn K C name=some none) (hh:PySem.W.hasDictIn K C=true)
 (hw:PySem.Within mA ns) (hsz:ns.length≤sizeLine)
 (h:∀ h',lQ h' x dx C (fun y=>if y=name then some v else mA y)→Heap.SameBut dx s.heap h'→Q () { s with heap:=h',toks:=s.toks+2 }) :
 wpAny (model prog w) A (setAttr (.ref x) name v) Q E s:=by
 obtain ⟨od,J,hl⟩:=I.look
 refine PySem.W.set_plain X J hs (PySem.W.osa_open (s:={ s with toks:=s.toks+1 }) (r:=none) X J hp ht fun b=>?_)
 obtain ⟨cd,hc,hd'⟩:=PySem.W.any_some hh
 have hx:s.heap.get? x=some ⟨.ref C,some dx,.plain,#[]⟩:=I.obj
 refine wpAny_bind (wpAny_pure (wpAny_bind (wpAny_bind (wpAny_loadPart hx (wpAny_bind (PySem.W.Looks.here (s:={ s with toks:=s.toks+1 }) (PySem.W.looks_clsIn X hc) ?_))))))
 rw [hd']
 refine wpAny_pure (a:=some dx) (wpAny_bind (wpAny_pure (wpAny_bind ?_)))
 refine wpAny_nsSet1 (s:={ s with toks:=s.toks+1 }) I.ns fun h' hn2 hs2=>?_
 obtain ⟨oD,esD,epD,hoD,hdD,hcD⟩:=hn2.count (PySem.Within.cons name v hw)
 refine wpAny_bind (wpAny_lookBehind hoD (by rw [hdD];exact pastItsLine_dict (Nat.le_trans hcD (by rw [List.length_cons];omega))) ?_)
 exact wpAny_pure (h _ ⟨(hs2.2 _ (Ne.symm I.ne)).trans I.obj,hn2,I.ne⟩ hs2)
theorem rj {R:Result→Shared→Prop} {vs:List Value} {kw:List (Str×Value)} (X:K.In s.heap) (hm:PySem.W.makesIn K C=true)
 (hi:PySem.W.findIn K (.ref C) "__init__" = some (some (.ref f))) (hf:PySem.W.typeIn K (.ref f)=some (.type "function"))
 (h:codeAny (model prog w) (A.under (.builtin "type.__call__" ⟨.ref C :: vs,kw⟩)) (.call (.ref f) ⟨.ref (s.heap.objs.size+1) :: vs,kw⟩) (PySem.W.InitBack (s.heap.objs.size+1) R)
  { s with heap:=(s.heap.push PySem.W.emptyDict).push (PySem.W.instObj C s.heap.objs.size) }) :
 codeAny (model prog w) A (.call (.ref C) ⟨vs,kw⟩) R s:=by
 obtain ⟨hh,g,d,t,os⟩:=s
 exact PySem.W.make_core (PySem.W.makes_of X hm) (PySem.W.looks_findIn X hi) (fun self=>PySem.W.bind_fn X self hf) (.inl rfl) h
end
noncomputable def bq (f:Str) (v:V):List (Str×V)→List (Str×V)
 | []=>[(f,v)]
 | (g,x) :: r=>if g=f then (g,v) :: r else (g,x) :: bq f v r
theorem dm (f g:Str) (v:V):∀ fs:List (Str×V),(bq f v fs).lookup g=if g=f then some v else fs.lookup g
 | []=>by
   show List.lookup g [(f,v)]=_
   by_cases h:g=f
   ·have hb:(g == f)=true:=beq_iff_eq.mpr h
    simp only [List.lookup,hb,if_pos h]
   ·have hb:(g == f)=false:=beq_eq_false_iff_ne.mpr h
    simp only [List.lookup,hb,if_neg h]
 | (k,x) :: r=>by
   have ih:=dm f g v r
   rw [show bq f v ((k,x) :: r)=(if k=f then (k,v) :: r else (k,x) :: bq f v r) from rfl]
   by_cases hk:k=f
   ·rw [if_pos hk]
    by_cases h:g=k
    ·have hb:(g == k)=true:=beq_iff_eq.mpr h
     simp only [List.lookup,hb,if_pos (h.trans hk)]
    ·have hb:(g == k)=false:=beq_eq_false_iff_ne.mpr h
     simp only [List.lookup,hb,if_neg (fun e:g=f=>h (e.trans hk.symm))]
   ·rw [if_neg hk]
    by_cases h:g=k
    ·have hb:(g == k)=true:=beq_iff_eq.mpr h
     simp only [List.lookup,hb,if_neg (fun e:g=f=>hk (h.symm.trans e))]
    ·have hb:(g == k)=false:=beq_eq_false_iff_ne.mpr h
     simp only [List.lookup,hb]
     exact ih
theorem cx (f:Str) (v:V):∀ fs:List (Str×V),f∈(bq f v fs).map (·.1)∧∀ g,g∈fs.map (·.1)→g∈(bq f v fs).map (·.1)
 | []=>⟨by simp [bq],fun g h=>by simp at h⟩
 | (k,x) :: r=>by
   obtain ⟨i1,i2⟩:=cx f v r
   rw [show bq f v ((k,x) :: r)=(if k=f then (k,v) :: r else (k,x) :: bq f v r) from rfl]
   by_cases hk:k=f
   ·rw [if_pos hk]
    subst hk
    exact ⟨by simp,fun g h=>by simpa using h⟩
   ·rw [if_neg hk]
    refine ⟨?_,fun g h=>?_⟩
    ·rw [List.map_cons]
     exact List.mem_cons_of_mem _ i1
    ·rw [List.map_cons] at h ⊢
     rcases List.mem_cons.mp h with e | e
     ·exact List.mem_cons.mpr (.inl e)
     ·exact List.mem_cons_of_mem _ (i2 g e)
theorem fT (f:Str) (v:V):∀ fs:List (Str×V),(bq f v fs).length≤fs.length+1
 | []=>by simp [bq]
 | (k,x) :: r=>by
   have ih:=fT f v r
   rw [show bq f v ((k,x) :: r)=(if k=f then (k,v) :: r else (k,x) :: bq f v r) from rfl]
   by_cases hk:k=f
   ·rw [if_pos hk,List.length_cons,List.length_cons];omega
   ·rw [if_neg hk,List.length_cons,List.length_cons];omega
theorem bM.some_of {v:V} {o:Option Value} (r:bM (some v) o):∃ u,o=some u∧ar v u:=by
 cases o with
 | none=>exact (show False from r).elim
 | some u=>exact ⟨u,rfl,r⟩
theorem bM.none_of {o:Option Value} (r:bM none o):o=none:=by
 cases o with
 | none=>rfl
 | some u=>exact (show False from r).elim
theorem i7 {v:V} {u:Value} (r:ar v u):PySem.W.handedIn u=true:=by
 cases v with
 | non=>cases (show u=Value.none from r);rfl
 | bl b=>cases (show u=Value.bool b from r);rfl
 | int i=>obtain ⟨t,e⟩:=(show ∃ t,u=Value.int i t from r);cases e;rfl
 | str x=>obtain ⟨t,e⟩:=(show ∃ t,u=Value.str x t from r);cases e;rfl
 | byt b=>obtain ⟨t,e⟩:=(show ∃ t,u=Value.bytes b t from r);cases e;rfl
 | flt b=>obtain ⟨t,e⟩:=(show ∃ t,u=Value.float b t from r);cases e;rfl
 | ref a=>cases (show u=Value.ref a from r);rfl
 | ty n=>cases (show u=Value.type n from r);rfl
section
variable {P:Program} {w:World} {H H':Hp} {h h':Heap} {a C dx:Addr} {fs fs':List (Str×V)}
theorem gd (hok:HOk P w H h) (e:H a=some (.ins C dx fs)):∃ mA,lQ h a dx C mA∧(∀ f,bM (fs.lookup f) (mA f))∧PySem.Within mA (fs.map (·.1))∧fs.length≤1000∧H dx=some (.own a):=by
 obtain ⟨d,z,ne,ob,mA,n,r,q⟩:=(show aC P w H h a (.ins C dx fs) from hok a _ e)
 exact ⟨mA,⟨ob,n,ne⟩,r,q,z,d⟩
end
structure Cls (K:Fg) (C:Addr):Prop where
 pg:PySem.W.plainGet K C Str.empty=true
 hd:PySem.W.hasDictIn K C=true
 po:PySem.W.plainOver K C=true
 sa:PySem.W.findIn K (.ref C) "__setattr__" = some (some (.builtin "object.__setattr__"))
theorem Cls.get {K:Fg} {C:Addr} (c:Cls K C) (f:Str):PySem.W.plainGet K C f=true:=c.pg
noncomputable def aJ (K:Fg) (C:Addr) (f:Str):Prop:=PySem.W.findIn K (.ref C) f=some none
theorem aJ.taker {K:Fg} {C:Addr} {f:Str} (n:aJ K C f):PySem.W.takerIn K C f=some none:=by
 unfold PySem.W.takerIn
 rw [show PySem.W.findIn K (.ref C) f=some none from n]
 rfl
structure oK (K:Fg) (C:Addr) (m:Str) (f:Addr):Prop where
 at_:PySem.W.findIn K (.ref C) m=some (some (.ref f))
 fn:PySem.W.isFn K (.ref f)=true
 kp:PySem.W.keepIn K (.ref f)=true
section
variable {X:Cx} {pins:List (Addr×Obj)} {σ:St} {H:Hp} {s:Shared} {a C dx:Addr} {fs:List (Str×V)} {f:Str} {v:V} {A:Around} {E:Value→Shared→Prop}
theorem l6 {b:Bool} {Q:Value→Shared→Prop} (I:Inv X pins σ H s) (e:H a=some (.ins C dx fs)) (c:Cls X.K C) (n:aJ X.K C f) (l:fs.lookup f=some v)
 (h:∀ u s',Inv X pins σ H s'→ar v u→Q u s'):wpAny (model X.prog X.w) A (getAttr (.ref a) f b) Q E s:=by
 obtain ⟨mA,O,r,_,_,_⟩:=gd I.hok e
 obtain ⟨u,hu,ru⟩:=bM.some_of (v:=v) (o:=mA f) (by rw [← l];exact r f)
 exact t9 I.kIn O (c.get f) c.hd n hu (i7 ru) (h u _ (I.tok _) ru)
theorem gP {m:Str} {g:Addr} {pl:Sem Bool} {Q:Value×List Value→Shared→Prop} (I:Inv X pins σ H s) (e:H a=some (.ins C dx fs)) (c:Cls X.K C) (k:oK X.K C m g) (l:fs.lookup m=none)
 (h:Q (.ref g,[.ref a]) s):wpAny (model X.prog X.w) A (getMethod (.ref a) m pl) Q E s:=by
 obtain ⟨mA,O,r,_,_,_⟩:=gd I.hok e
 have hn:mA m=none:=bM.none_of (by rw [← l];exact r m)
 exact qM I.kIn O (c.get m) k.at_ k.fn hn h
theorem mM {y:V} {u:Value} {Q:Unit→Shared→Prop} (I:Inv X pins σ H s) (e:H a=some (.ins C dx fs)) (c:Cls X.K C) (n:aJ X.K C f) (hl:fs.length<1000) (ry:ar y u)
 (h:∀ s',Inv X pins σ (upd H a (.ins C dx (bq f y fs))) s'→Q () s'):wpAny (model X.prog X.w) A (setAttr (.ref a) f u) Q E s:=by
 obtain ⟨mA,O,r,wi,_,ho⟩:=gd I.hok e
 have hz:(fs.map (·.1)).length≤sizeLine:=by rw [List.length_map,sizeLine_eq];omega
 refine vA I.kIn O c.sa c.po n.taker c.hd wi hz fun h' O' sb=>h _ ?_
 have hd:∃ o,h'.get? dx=some o:=let ⟨o,_,_,e',_⟩:=O'.ns;⟨o,e'⟩
 refine I.write (x:=a) (e:=dx) (by rw [e];exact True.intro) (.inr ho) (fun b q hb z=>(sb.2 b hb).trans z) hd ?_
 refine ⟨by rw [aa O.ne];exact ho,?_,O.ne,O'.obj,_,O'.ns,fun g=>?_,fun g hg=>?_⟩
 ·have:=fT f y fs;omega
 ·show bM ((bq f y fs).lookup g) (if g=f then some u else mA g)
  rw [dm]
  by_cases q:g=f
  ·rw [if_pos q,if_pos q];exact ry
  ·rw [if_neg q,if_neg q];exact r g
 ·by_cases q:g=f
  ·rw [q];exact (cx f y fs).1
  ·refine (cx f y fs).2 g (wi g fun z=>hg ?_)
   show (if g=f then some u else mA g)=none
   rw [if_neg q];exact z
theorem Inv.made (I:Inv X pins σ H s):Inv X pins σ (upd (upd H s.heap.objs.size (.own (s.heap.objs.size+1))) (s.heap.objs.size+1) (.ins C s.heap.objs.size []))
 { s with heap:=(s.heap.push PySem.W.emptyDict).push (PySem.W.instObj C s.heap.objs.size) }:=by
 have e1:(s.heap.push PySem.W.emptyDict).get? s.heap.objs.size=some PySem.W.emptyDict:=Heap.get?_push_size s.heap rfl
 have e2:((s.heap.push PySem.W.emptyDict).push (PySem.W.instObj C s.heap.objs.size)).get? (s.heap.objs.size+1)=some (PySem.W.instObj C s.heap.objs.size):=by
  have:=Heap.get?_push_size (s.heap.push PySem.W.emptyDict) (o:=PySem.W.instObj C s.heap.objs.size) rfl
  rwa [Heap.size_push] at this
 have e3:(s.heap.push PySem.W.emptyDict).Ns s.heap.objs.size (fun _=>none):=⟨PySem.W.emptyDict,#[],_,e1,rfl,(fun e he=>absurd he (by simp)),fun _=>rfl⟩
 have I1:=I.laid (a:=s.heap.objs.size) (o:=.own (s.heap.objs.size+1)) (h':=s.heap.push PySem.W.emptyDict) (t':=s.toks) (fun b u q=>Heap.get?_push_of_some _ q) (Nat.le_refl _) ⟨_,e1⟩
 refine I1.laid (a:=s.heap.objs.size+1) (o:=.ins C s.heap.objs.size []) (t':=s.toks) (fun b u q=>Heap.get?_push_of_some _ q) (Nat.le_of_eq (Heap.size_push _ _)) ?_
 have ne:s.heap.objs.size≠s.heap.objs.size+1:=Nat.ne_of_lt (Nat.lt_succ_self _)
 refine ⟨by rw [aa ne,ae],Nat.zero_le _,ne,e2,fun _=>none,(Heap.Ns1.of_empty e3).at fun o q=>Heap.get?_push_of_some _ q,fun _=>True.intro,fun y hy=>absurd rfl hy⟩
theorem tQ {prog:Program} {w:World} {env:Env} {e:Expr} {f:Str} {pos:Pos} {s:Shared} {Q:Value→Shared→Prop} (hb:attributeBase e f env (eval e env)=eval e env)
 (h:wpAny (model prog w) A (eval e env) (fun o s₁=>wpAny (model prog w) A (getAttr o f true) Q E s₁) E s):wpAny (model prog w) A (eval (.Attribute e f pos) env) Q E s:=
 Attribute_any_ h (by rw [arm_eval_Attribute,hb])
end
noncomputable def BP (K:Fg) (ta tv:TE) (f:Str):TS:=fun D σ H=>tv σ H fun y H1=>ta σ H1 fun x H2=>∃ a C dx fs,x = .ref a∧H2 a=some (.ins C dx fs)∧Cls K C∧aJ K C f∧fs.length<1000 ∧
 D.nx σ (upd H2 a (.ins C dx (bq f y fs)))
section
variable {X:Cx} {o e value:Expr} {f:Str} {pos pos' tpos:Pos} {ta tv:TE}
theorem dZ (ha:PE X o ta) (hv:PE X value tv) (hs:swapsWith value (some (.Attribute o f pos')) pos.line X.env=pure false):PS X (.Assign [.Attribute o f pos'] value pos) (BP X.K ta tv f):=by
 intro pins s σ H D I h
 refine plainObj_wpAny_Assign_Attribute (thn (hv pins s σ H _ I h) fun u s1 ⟨y,H1,I1,ry,q⟩=>thn (ha pins s1 σ H1 _ I1 q) fun ov s2 ⟨x,H2,I2,rx,a,C,dx,fs,ex,ea,c,n,l,q2⟩=>?_) hs
 subst ex
 obtain rfl:ov=Value.ref a:=rx
 exact mM I2 ea c n l ry fun s3 I3=>⟨σ,_,I3,q2⟩
end
section
variable {X:Cx} {pins:List (Addr×Obj)} {σ:St} {H:Hp} {s:Shared} {A:Around} {E:Value→Shared→Prop} {Q:Value→Shared→Prop} {c:Value} {b:Bool}
inductive e9 (K:Fg) (H:Hp):V→Value→Prop where
 | non:e9 K H .non (.type "NoneType")
 | bl (x:Bool):e9 K H (.bl x) (.type "bool")
 | int (i:Int):e9 K H (.int i) (.type "int")
 | str (x:Str):e9 K H (.str x) (.type "str")
 | flt (x:UInt64):e9 K H (.flt x) (.type "float")
 | lst {a:Addr} {xs:List V} (e:H a=some (.lst xs)):e9 K H (.ref a) (.type "list")
 | frz {a:Addr} {o:Obj} {xs:List V} (e:H a=some (.frz o (.lst xs))):e9 K H (.ref a) (.type "list")
 | tup {a:Addr} {xs:List V} (e:H a=some (.tup xs)):e9 K H (.ref a) (.type "tuple")
 | dK {a:Addr} {kvs:List (Key×V)} (e:H a=some (.dK kvs)):e9 K H (.ref a) (.type "dict")
 | dT {a:Addr} {kvs:List (List Key×V)} (e:H a=some (.dT kvs)):e9 K H (.ref a) (.type "dict")
 | ins {a C dx:Addr} {fs:List (Str×V)} (e:H a=some (.ins C dx fs)) (cl:Cls K C) (ha:PySem.W.findIn K (.ref C) "__class__" = some (some (.builtin "object.__class__")))
  (hn:PySem.W.specialIn K (.builtin "object.__class__") "__get__" = some (some (.builtin "getset_descriptor.__get__"))) (htk:PySem.W.takesIn K (.builtin "object.__class__")=some true)
  (hm:PySem.W.mroIn K C (.type "object")=some true):e9 K H (.ref a) (.ref C)
theorem pk {x:V} {u t:Value} (I:Inv X pins σ H s) (rx:ar x u) (ty:e9 X.K H x t) (e:PySem.W.kitOne X.K t c=some b) (h:∀ tk,Q (.bool b) { s with toks:=tk }) :
 wpAny (model X.prog X.w) A (call (.builtin "isinstance") [u,c]) Q E s:=by
 cases ty with
 | non=>cases (show u=Value.none from rx);exact PySem.W.kia_one PySem.W.kitx_none I.kIn True.intro e (fun z=>nomatch z) h
 | bl y=>cases (show u=Value.bool y from rx);exact PySem.W.kia_one PySem.W.kitx_bool I.kIn True.intro e (fun z=>nomatch z) h
 | int i=>obtain ⟨t,q⟩:=(show ∃ t,u=Value.int i t from rx);cases q;exact PySem.W.kia_one PySem.W.kitx_int I.kIn True.intro e (fun z=>nomatch z) h
 | str y=>obtain ⟨t,q⟩:=(show ∃ t,u=Value.str y t from rx);cases q;exact PySem.W.kia_one PySem.W.kitx_str I.kIn True.intro e (fun z=>nomatch z) h
 | flt y=>obtain ⟨t,q⟩:=(show ∃ t,u=Value.float y t from rx);cases q;exact PySem.W.kia_one PySem.W.kitx_float I.kIn True.intro e (fun z=>nomatch z) h
 | @lst a xs ea=>
   cases (show u=Value.ref a from rx)
   obtain ⟨_,_,n,_,h1⟩:=(show aC X.prog X.w H s.heap a (.lst xs) from I.hok a _ ea)
   exact PySem.W.kia_one PySem.W.kitx_list I.kIn ⟨_,h1,rfl⟩ e (fun z=>nomatch z) h
 | @frz a ob xs ea=>
   cases (show u=Value.ref a from rx)
   obtain ⟨_,_,_,n,_,h1⟩:=(show aC X.prog X.w H s.heap a (.frz ob (.lst xs)) from I.hok a _ ea)
   exact PySem.W.kia_one PySem.W.kitx_list I.kIn ⟨_,h1,rfl⟩ e (fun z=>nomatch z) h
 | @tup a xs ea=>
   cases (show u=Value.ref a from rx)
   obtain ⟨_,_,_,p⟩:=(show aC X.prog X.w H s.heap a (.tup xs) from I.hok a _ ea)
   obtain ⟨o,h1,h2,_⟩:=p
   exact PySem.W.kia_one PySem.W.kitx_tuple I.kIn ⟨o,h1,h2⟩ e (fun z=>nomatch z) h
 | @dK a kvs ea=>
   cases (show u=Value.ref a from rx)
   obtain ⟨_,_,vs,_,p⟩:=(show aC X.prog X.w H s.heap a (.dK kvs) from I.hok a _ ea)
   obtain ⟨o,es,ep,h1,h2,_⟩:=p
   exact PySem.W.kia_one PySem.W.kitx_dict I.kIn ⟨o,h1,h2.1⟩ e (fun z=>nomatch z) h
 | @dT a kvs ea=>
   cases (show u=Value.ref a from rx)
   obtain ⟨_,_,xs,_,o,es,ep,h1,h2,_⟩:=(show aC X.prog X.w H s.heap a (.dT kvs) from I.hok a _ ea)
   exact PySem.W.kia_one PySem.W.kitx_dict I.kIn ⟨o,h1,h2.1⟩ e (fun z=>nomatch z) h
 | @ins a C dx fs ea cl ha hn htk hm=>
   cases (show u=Value.ref a from rx)
   obtain ⟨mA,O,_⟩:=gd I.hok ea
   obtain ⟨od,J,_⟩:=O.look
   exact PySem.W.kia_one (PySem.W.kitx_own (cl.get _) cl.hd ha hn htk hm) I.kIn J e (fun z=>nomatch z) h
end
end L2
namespace L2
structure Room (k:Nat) (A:Around):Prop where
 hd:A.handled=none
 dp:A.depth+3 * k+5<recursionLimit
 un:A.units+16 * k+200<cLine
theorem Room.mono {j k:Nat} {A:Around} (r:Room k A) (h:j≤k):Room j A:=⟨r.hd,by have:=r.dp;omega,by have:=r.un;omega⟩
theorem Room.deeper {k:Nat} {A:Around} (r:Room (k+1) A) (env:Env):Room k (A.deeper env):=
 ⟨r.hd,by have:=r.dp;show A.depth+1+3 * k+5<_;omega,by have:=r.un;show A.units+3+16 * k+200<_;omega⟩
theorem mn {A:Around} {C:Addr} {us:List Value} {kw:List (Str×Value)}:(A.under (.builtin "type.__call__" ⟨.ref C :: us,kw⟩)).depth=A.depth+1:=by
 first | rfl | simp [Around.under,Code.weight,Code.isCreation,Code.isGuard,Code.isCaller,Code.frames,Code.isFrame,guardIds]
theorem mo {A:Around} {C:Addr} {us:List Value} {kw:List (Str×Value)}:(A.under (.builtin "type.__call__" ⟨.ref C :: us,kw⟩)).units=A.units+1:=by
 first | rfl | simp [Around.under,Code.cUnits,Code.frames,Code.isFrame]
theorem Room.make {k:Nat} {A:Around} (r:Room (k+1) A) (C:Addr) (us:List Value) (kw:List (Str×Value)):Room k (A.under (.builtin "type.__call__" ⟨.ref C :: us,kw⟩)):=
 ⟨r.hd,by have:=r.dp;rw [mn];omega,by have:=r.un;rw [mo];omega⟩
theorem Room.depth {k:Nat} {A:Around} (r:Room k A):A.depth<recursionLimit:=by have:=r.dp;omega
noncomputable def sZ:TA:=fun _ H Q=>Q [] H
noncomputable def sV (ta:TE) (tr:TA):TA:=fun σ H Q=>ta σ H fun x H1=>tr σ H1 fun xs H2=>Q (x :: xs) H2
section
variable {X:Cx} {e:Expr} {es:List Expr} {te:TE} {t:TA} {pos:Pos}
theorem jT:PA X [] sZ:=fun _ _ _ _ H Q I h=>Calls.spliced_nil ⟨[],H,I,.nil,h⟩
theorem gr (ha:PE X e te) (hr:PA X es t) (hs:starEach (e :: es) X.env=(false,eval e X.env) :: starEach es X.env:=by rfl):PA X (e :: es) (sV te t):=by
 intro pos pins s σ H Q I h
 rw [hs]
 show wpAny _ _ (spliced ((false,eval e X.env) :: backTo pos (starEach es X.env))) _ _ s
 refine Calls.spliced_cons (thn (ha pins s σ H _ I h) fun u s1 ⟨x,H1,I1,r1,q1⟩=>?_)
 exact thn (hr pos pins s1 σ H1 _ I1 q1) fun us s2 ⟨xs,H2,I2,r2,q2⟩=>⟨x :: xs,H2,I2,.cons r1 r2,q2⟩
noncomputable def B0 (t:TA):TE:=fun σ H Q=>t σ H fun xs H1=>xs.length≤sizeLine∧∀ p,H1 p=none→Q (.ref p) (upd H1 p (.tup xs))
noncomputable def BV (t:TA):TE:=fun σ H Q=>t σ H fun xs H1=>xs.length≤sizeLine∧∀ p,H1 p=none→Q (.ref p) (upd H1 p (.lst xs))
theorem yG {x1} (h:PA X es t):PE X (.Tuple es x1 pos) (B0 t):=by
 intro pins s σ H Q I hq
 refine wpAny_Tuple_spliced (thn (h pos pins s σ H _ I hq) fun us s1 ⟨xs,H1,I1,r,z,q⟩=>⟨by rw [← r.length];exact z,?_⟩)
 have hf:H1 s1.heap.objs.size=none:=I1.hok.fresh (Nat.le_refl _)
 refine ⟨.ref s1.heap.objs.size,upd H1 s1.heap.objs.size (.tup xs),I1.laid (t':=s1.toks) (fun b u e=>Heap.get?_push_of_some _ e) (Nat.le_refl _) ?_,rfl,q _ hf⟩
 exact ⟨z,us,r,⟨_,Heap.get?_push_size _ rfl,rfl,_,rfl⟩⟩
theorem hX (h:PA X es t):PE X (.List es pos) (BV t):=by
 intro pins s σ H Q I hq
 refine wpAny_List_spliced (thn (h pos pins s σ H _ I hq) fun us s1 ⟨xs,H1,I1,r,z,q⟩=>⟨by rw [← r.length];exact z,?_⟩)
 have hf:H1 s1.heap.objs.size=none:=I1.hok.fresh (Nat.le_refl _)
 refine ⟨.ref s1.heap.objs.size,upd H1 s1.heap.objs.size (.lst xs),I1.laid (t':=s1.toks) (fun b u e=>Heap.get?_push_of_some _ e) (Nat.le_refl _) ?_,rfl,q _ hf⟩
 exact ⟨z,us,0,r,Heap.get?_push_size _ rfl⟩
end
noncomputable abbrev Sp:=List V→Hp→VK→XK→Prop
noncomputable abbrev CXT:=List Env→Hp→Shared→XK→Value→Shared→Prop
structure lN (P:Program) (w:World) (K:Fg) (mg:Str→Option Value) (base:Heap) (A:Around) (outer:List Env) (s:Shared) (H:Hp):Prop where
 frames:A.frames=some outer
 mod:Mod K mg base
 bs:∀ b o,base.get? b=some o→s.heap.get? b=some o∧H b=none
 bsz:base.objs.size≤s.heap.objs.size
 funs:s.heap.FunFrames base outer
 frf:∀ b∈frs outer,H b=none
 hok:HOk P w H s.heap
 bare:AllBare s.gens
noncomputable def CE (outer:List Env) (P:Program) (w:World) (H:Hp) (s:Shared) (Q:VK) (u:Value) (s':Shared):Prop:=
 ∃ v H',s'.os=s.os∧AllBare s'.gens∧Un (frs outer) [] H H' s.heap s'.heap∧HOk P w H' s'.heap∧ar v u∧Q v H'
noncomputable def CR (CX:CXT) (outer:List Env) (P:Program) (w:World) (H:Hp) (s:Shared) (Q:VK) (E:XK) (r:Result) (s':Shared):Prop:=
 match r with
 | .ok (.ret u)=>CE outer P w H s Q u s'
 | .ok _=>False
 | .error e=>CX outer H s E e s'
structure aR (P:Program) (w:World) (K:Fg) (mg:Str→Option Value) (base:Heap) (CX:CXT) (k:Nat) (f:Addr) (fd:FuncData) (ps:List Str) (sp:Sp):Prop where
 len:∀ vs H Q E,sp vs H Q E→vs.length=ps.length
 run:∀ (A:Around) (outer:List Env) (s:Shared) (H:Hp) (args:Args) (us:List Value) (vs:List V) (Q:VK) (E:XK),Room k A→lN P w K mg base A outer s H→BindsTo s fd args (ps.zip us)→av vs us→sp vs H Q E →
  codeAny (model P w) A (.call (.ref f) args) (CR CX outer P w H s Q E) s
theorem lN.make {P:Program} {w:World} {K:Fg} {mg:Str→Option Value} {base:Heap} {A:Around} {outer:List Env} {s:Shared} {H:Hp} (e:lN P w K mg base A outer s H) (C:Addr) (us:List Value) (kw:List (Str×Value)) :
 lN P w K mg base (A.under (.builtin "type.__call__" ⟨.ref C :: us,kw⟩)) outer s H:=⟨by first | exact e.frames | (simpa [Around.under,Code.envs,Code.isFrame,pushEnvs] using e.frames),e.mod,e.bs,e.bsz,e.funs,e.frf,e.hok,e.bare⟩
section
variable {X:Cx} {pins:List (Addr×Obj)} {σ:St} {H:Hp} {s s':Shared}
theorem Inv.env0 (I:Inv X pins σ H s):lN X.prog X.w X.K X.mg X.base X.A X.stack s H:=
 ⟨I.ok.frames,I.ok.mod,I.bs,Nat.le_trans I.ok.bsz I.sz,I.stack,I.stkFree,I.hok,I.bare⟩
theorem Inv.after {Q:VK} {u:Value} (I:Inv X pins σ H s) (h:CE X.stack X.prog X.w H s Q u s'):EP X pins σ Q u s':=by
 obtain ⟨v,H',os,bare,un,hok,r,q⟩:=h
 obtain ⟨hh,g,d,t,os'⟩:=s'
 obtain rfl:os'=s.os:=os
 exact ⟨v,H',I.call (h':=hh) (g':=g) (d':=d) (t':=t) (ch:=[]) un hok bare (fun b z=>absurd z (by simp)),r,q⟩
end
noncomputable def oE (C:Addr) (sp:Sp) (dvs:List V) (E:XK) (t:TA):TE:=fun σ H Q=>t σ H fun vs H1=>∀ x dx,H1 x=none→H1 dx=none→dx≠x →
 sp (.ref x :: (vs ++ dvs)) (upd (upd H1 dx (.own x)) x (.ins C dx [])) (fun v H2=>v = .non∧Q (.ref x) H2) E
noncomputable def a8 (K:Fg) (fd:FuncData) (ps:List Str) (ds:List Value):Prop:=
 ∀ (s:Shared) (us:List Value),K.In s.heap→(us ++ ds).length=ps.length→BindsTo s fd ⟨us,[]⟩ (ps.zip (us ++ ds))
theorem a8.all {K:Fg} {fd:FuncData} {ps:List Str} (h:∀ us:List Value,us.length=ps.length→bindArgs fd ⟨us,[]⟩=pure (ps.zip us)):a8 K fd ps []:=fun s us _ hl=>by
 rw [List.append_nil] at hl ⊢
 exact .of_eq (h us hl)
noncomputable def ju (CX:CXT) (X:Cx) (E:XK):Prop:=∀ (pins:List (Addr×Obj)) (σ:St) (H:Hp) (s:Shared) (e:Value) (s':Shared),Inv X pins σ H s→CX X.stack H s E e s'→X.xe e s'
section
variable {X:Cx} {CX:CXT} {k:Nat} {f C:Addr} {fd:FuncData} {ps:List Str} {sp:Sp} {dvs:List V} {ds:List Value} {E:XK} {x m:Str} {p pos apos:Pos} {e o:Expr} {es:List Expr} {ta:TE} {t:TA}
structure Mk (K:Fg) (C f:Addr):Prop where
 makes:PySem.W.makesIn K C=true
 init:PySem.W.findIn K (.ref C) "__init__" = some (some (.ref f))
 fn:PySem.W.isFn K (.ref f)=true
 kp:PySem.W.keepIn K (.ref C)=true
theorem ly {pins:List (Addr×Obj)} {σ:St} {H:Hp} {s:Shared} {Q:VK} {us:List Value} {vs:List V} (M:Mk X.K C f) (F:aR X.prog X.w X.K X.mg X.base CX k f fd ps sp) (hr:Room (k+1) X.A) (hb:a8 X.K fd ps ds) (hd:av dvs ds)
 (hx:ju CX X E) (I:Inv X pins σ H s) (r:av vs us)
 (h:∀ x dx,H x=none→H dx=none→dx≠x→sp (.ref x :: (vs ++ dvs)) (upd (upd H dx (.own x)) x (.ins C dx [])) (fun v H2=>v = .non∧Q (.ref x) H2) E) :
 wpAny (model X.prog X.w) X.A (call (.ref C) us) (EP X pins σ Q) X.xe s:=by
 have hq:=h (s.heap.objs.size+1) s.heap.objs.size (I.hok.fresh (Nat.le_succ _)) (I.hok.fresh (Nat.le_refl _)) (Nat.ne_of_lt (Nat.lt_succ_self _))
 have I2:=Inv.made (C:=C) I
 have r2:av (V.ref (s.heap.objs.size+1) :: (vs ++ dvs)) (Value.ref (s.heap.objs.size+1) :: (us ++ ds)):=.cons rfl (r.append hd)
 have hl:(Value.ref (s.heap.objs.size+1) :: us ++ ds).length=ps.length:=by
  have e:=r2.length
  rw [F.len _ _ _ _ hq] at e
  exact e.symm
 refine wpAny_call (rj (f:=f) I.kIn M.makes M.init (beq_iff_eq.mp M.fn) (codeAny_mono (F.run _ X.stack _ _ ⟨Value.ref (s.heap.objs.size+1) :: us,[]⟩ (Value.ref (s.heap.objs.size+1) :: (us ++ ds)) _ _ E (hr.make C us [])
  (I2.env0.make C us []) (hb _ (Value.ref (s.heap.objs.size+1) :: us) I2.kIn hl) r2 hq) fun r s' hq'=>?_))
 cases r with
 | error e=>exact hx pins σ _ _ e s' I2 hq'
 | ok fl=>
   cases fl with
   | ret u=>
     obtain ⟨v,H',I3,rv,ev,q3⟩:=I2.after hq'
     subst ev
     exact ⟨rv,⟨V.ref (s.heap.objs.size+1),H',I3,rfl,q3⟩⟩
   | next=>exact False.elim hq'
   | brk=>exact False.elim hq'
   | cont=>exact False.elim hq'
theorem oi (M:Mk X.K C f) (F:aR X.prog X.w X.K X.mg X.base CX k f fd ps sp) (hr:Room (k+1) X.A) (hg:Gl X x) (hm:X.mg x=some (.ref C)) (hb:a8 X.K fd ps ds) (hd:av dvs ds) (hx:ju CX X E)
 (ha:PA X (e :: es) t) (hdb:(x == ("__debug__":Str))=false:=by decide) (he:starEach (e :: es) X.env=(false,eval e X.env) :: starEach es X.env:=by rfl) (hpl:(backTo pos (starEach es X.env)).any (·.1)=false:=by rfl) :
 PE X (.Call (.Name x p) (e :: es) [] pos) (oE C sp dvs E t):=by
 intro pins s σ H Q I h
 refine wpAny_Call_Name_kw (cG I hg hm ?_ hdb)
 refine PySem.W.callWith_K (h₀:=X.base) I.ok.mod.kin M.kp (thn (ha pos pins s σ H _ I h) fun us s1 ⟨vs,H1,I1,r,q⟩=>⟨I1.kIn,?_⟩) he hpl
 exact ly M F hr hb hd hx I1 r q
theorem sf (M:Mk X.K C f) (F:aR X.prog X.w X.K X.mg X.base CX k f fd ps sp) (hr:Room (k+1) X.A) (hg:Gl X x) (hm:X.mg x=some (.ref C)) (hb:a8 X.K fd ps ds) (hd:av dvs ds) (hx:ju CX X E)
 (hdb:(x == ("__debug__":Str))=false:=by decide):PE X (.Call (.Name x p) [] [] pos) (oE C sp dvs E sZ):=by
 intro pins s σ H Q I h
 refine wpAny_Call_Name_kw (cG I hg hm ?_ hdb)
 exact PySem.W.callWith_K0 I.kIn M.kp (ly (us:=[]) M F hr hb hd hx I .nil h)
end
noncomputable def PK (X:Cx) (kws:List Keyword) (t:TA):Prop:=
 ∀ (pos:Pos) (pins:List (Addr×Obj)) (s:Shared) (σ:St) (H:Hp) (Q:List V→Hp→Prop),Inv X pins σ H s→t σ H Q→wpAny (model X.prog X.w) X.A (evalAll ((backToKw pos (keywordEach kws X.env)).map (·.2))) (AP X pins σ Q) X.xe s
section
variable {X:Cx} {CX:CXT} {k:Nat} {f C:Addr} {fd:FuncData} {ps ks:List Str} {sp:Sp} {E:XK} {x m:Str} {p pos apos kpos:Pos} {e o:Expr} {es:List Expr} {kws:List Keyword} {te ta:TE} {t tk:TA} {nm:Option Str}
theorem yK:PK X [] sZ:=fun _ _ _ _ H Q I h=>wpAny_evalAll_nil ⟨[],H,I,.nil,h⟩
theorem va (ha:PE X e te) (hr:PK X kws t):PK X (⟨nm,e,kpos⟩ :: kws) (sV te t):=by
 intro pos pins s σ H Q I h
 show wpAny _ _ (evalAll ((do let v ← eval e X.env;standAt pos;pure v) :: (backToKw pos (keywordEach kws X.env)).map (·.2))) _ _ s
 refine wpAny_evalAll_cons (wpAny_bind (thn (ha pins s σ H _ I h) fun u s1 ⟨x,H1,I1,r1,q1⟩=>wpAny_bind (wpAny_standAt (wpAny_pure ?_))))
 exact thn (hr pos pins s1 σ H1 _ I1 q1) fun us s2 ⟨xs,H2,I2,r2,q2⟩=>⟨x :: xs,H2,I2,.cons r1 r2,q2⟩
variable {g:List Value→List Value→List Value} {gV:List V→List V→List V}
end
structure bt (N P:List Str) (sc:Scope):Prop where
 kind:sc.kind = .function
 co:sc.isCoroutine=false
 gen:sc.isGenerator=false
 nd:N.Nodup
 pre:N.take P.length=P
 par:∀ x∈P,sc.names.lookup x=some .local∨sc.names.lookup x=some .cell
 nofree:∀ y∈sc.names,y.2≠.free
theorem iT {kindOf:Str→Option NameKind} {x:Str}:∀ {binds:List (Str×Value)} {m:Str→Option Value},(∀ v,(x,v) ∉ binds)→bindL kindOf binds m x=m x
 | [],_,_=>rfl
 | (n,v) :: r,m,h=>by
   unfold bindL
   rw [iT fun w hw=>h w (List.mem_cons_of_mem _ hw)]
   split
   ·have:x≠n:=by rintro rfl;exact h v List.mem_cons_self
    simp [this]
   ·rfl
theorem iR {kindOf:Str→Option NameKind} {x:Str}:∀ {binds:List (Str×Value)} {m:Str→Option Value},(∀ v,(x,v) ∉ binds)→bindC kindOf binds m x=m x
 | [],_,_=>rfl
 | (n,v) :: r,m,h=>by
   unfold bindC
   rw [iR fun w hw=>h w (List.mem_cons_of_mem _ hw)]
   split
   ·rfl
   ·have:x≠n:=by rintro rfl;exact h v List.mem_cons_self
    simp [this]
theorem iS {kindOf:Str→Option NameKind} {x:Str} {v:Value}:∀ {P:List Str} {vs:List Value} {i:Nat} {m:Str→Option Value},P.Nodup→P[i]? = some x→vs[i]? = some v→kindOf x=some .local →
 bindL kindOf (P.zip vs) m x=some v
 | [],_,_,_,_,h,_,_=>by simp at h
 | _ :: _,[],_,_,_,_,h,_=>by simp at h
 | p :: P,w :: vs,0,m,nd,h1,h2,hk=>by
   simp at h1 h2;subst h1;subst h2
   show bindL kindOf ((p,w) :: P.zip vs) m p=_
   unfold bindL
   rw [iT fun v hv=>(List.nodup_cons.mp nd).1 (List.of_mem_zip hv).1,if_pos hk]
   simp
 | p :: P,w :: vs,i+1,m,nd,h1,h2,hk=>by
   show bindL kindOf ((p,w) :: P.zip vs) m x=_
   unfold bindL
   exact iS (i:=i) (List.nodup_cons.mp nd).2 (by simpa using h1) (by simpa using h2) hk
theorem iQ {kindOf:Str→Option NameKind} {x:Str} {v:Value}:∀ {P:List Str} {vs:List Value} {i:Nat} {m:Str→Option Value},P.Nodup→P[i]? = some x→vs[i]? = some v→kindOf x≠some .local →
 bindC kindOf (P.zip vs) m x=some v
 | [],_,_,_,_,h,_,_=>by simp at h
 | _ :: _,[],_,_,_,_,h,_=>by simp at h
 | p :: P,w :: vs,0,m,nd,h1,h2,hk=>by
   simp at h1 h2;subst h1;subst h2
   show bindC kindOf ((p,w) :: P.zip vs) m p=_
   unfold bindC
   rw [iR fun v hv=>(List.nodup_cons.mp nd).1 (List.of_mem_zip hv).1,if_neg hk]
   simp
 | p :: P,w :: vs,i+1,m,nd,h1,h2,hk=>by
   show bindC kindOf ((p,w) :: P.zip vs) m x=_
   unfold bindC
   exact iQ (i:=i) (List.nodup_cons.mp nd).2 (by simpa using h1) (by simpa using h2) hk
noncomputable def cA (N:List Str) (vs:List V):St:=vs.map some ++ List.replicate (N.length - vs.length) none
noncomputable def iI (CX:CXT) (P:Program) (w:World) (K:Fg) (mg:Str→Option Value) (base:Heap) (N:List Str) (qual:Str) (scope:Scope) (f:Addr) (cd:Value) (A:Around) (outer:List Env) (s:Shared) (H:Hp) (E:XK):Cx where
 prog:=P
 w:=w
 K:=K
 mg:=mg
 base:=base
 A:=A.deeper (envOfC qual scope s.heap.objs.size f cd)
 N:=N
 s₀:=s
 H₀:=H
 env:=envOfC qual scope s.heap.objs.size f cd
 outer:=outer
 stack:=envOfC qual scope s.heap.objs.size f cd :: outer
 ex:=[]
 calm:=true
 fn:=fun _=>true
 pn:=[]
 xe:=fun e s'=>wpAny (model P w) (A.deeper (envOfC qual scope s.heap.objs.size f cd)) (leaving (envOfC qual scope s.heap.objs.size f cd) e) (fun _ s''=>CX outer H s E e s'') (fun e' s''=>CX outer H s E e' s'') s'
theorem ko {sc:Scope} {n:Nat} {x:Str} (h:sc.names.lookup x=some .cell):∃ c,(cellsFrom n sc.names []).lookup x=some c:=by
 have q:=PySem.W.cellsFrom_some sc.names n [] (.inl h)
 exact Option.isSome_iff_exists.mp q
theorem pj {CX:CXT} {P:Program} {w:World} {K:Fg} {mg:Str→Option Value} {base:Heap} {N ps:List Str} {qual:Str} {scope:Scope} {f:Addr} {cd:Value} {A:Around} {outer:List Env} {s s1:Shared} {H:Hp} {E:XK} {us:List Value} {vs:List V}
 (S:bt N ps scope) (hd:A.handled=none) (e0:lN P w K mg base A outer s H) (hl:vs.length=ps.length) (r:av vs us)
 (x:InCallC s s.heap.objs.size (bindL (envOfC qual scope s.heap.objs.size f cd).kindOf (ps.zip us) fun _=>none) (cellsFrom (s.heap.objs.size+1) scope.names []) (bindC (envOfC qual scope s.heap.objs.size f cd).kindOf (ps.zip us) fun _=>none) s1) :
 Inv (iI CX P w K mg base N qual scope f cd A outer s H E) [] (cA N vs) H s1:=by
 have hpl:ps.length≤N.length:=by have:=congrArg List.length S.pre;rw [List.length_take] at this;omega
 obtain ⟨h1,tk,rfl,hk⟩:=x.done
 have noA:∀ b:Addr,b ∉ (iI CX P w K mg base N qual scope f cd A outer s H E).ex:=fun b z=>absurd (show b∈([]:List Addr) from z) (by simp)
 refine ⟨⟨e0.mod,S.kind,rfl,rfl,Nat.le_refl _,fun y z c h1 h2=>?_,fun y hy=>?_,fun y c _ h=>?_,fun _=>hd,Around.frames_deeper e0.frames,.inr ⟨rfl,rfl⟩,fun b z=>absurd z (noA b),e0.bs,e0.bsz,fun b _ _=>noA b,fun b z=>absurd z (noA b),e0.funs,e0.frf⟩,
  rfl,e0.bare,Un.kept hk,⟨_,x.toInCall.ns,fun i y v h1 h2 h3=>?_⟩,fun y c h=>⟨_,x.cell y c h⟩,e0.hok.fresh (Nat.le_refl _),fun y c h=>?_,fun p hp=>absurd (show p∈([]:List (Addr×Obj)) from hp) (by simp),e0.hok.kept hk,?_⟩
 ·exact name_of_addr x.apart (PySem.mem_of_lookup h1) (PySem.mem_of_lookup h2)
 ·have hy:scope.names.lookup y=some .cell∨scope.names.lookup y=some .free:=hy
  rcases hy with hy | hy
  ·exact ko hy
  ·exact absurd rfl (S.nofree _ (PySem.mem_of_lookup hy))
 ·exact Nat.le_of_lt (x.above y c (PySem.mem_of_lookup h))
 ·have hi:i<vs.length:=by
   unfold cA at h2
   by_cases hi:i<vs.length
   ·exact hi
   ·rw [List.getElem?_append_right (by simpa using hi)] at h2
    rw [List.getElem?_replicate] at h2
    split at h2 <;> cases h2
  have ha:vs[i]? = some v:=by
   unfold cA at h2
   rw [List.getElem?_append_left (by simpa using hi),List.getElem?_map] at h2
   cases e:vs[i]? with
   | none=>rw [e] at h2;cases h2
   | some a=>rw [e] at h2;cases h2;rfl
  obtain ⟨u,hu,rv⟩:=r.get ha
  have hp:ps[i]? = some y:=by
   rw [← S.pre,List.getElem?_take_of_lt (by omega)];exact h1
  have ndP:ps.Nodup:=by rw [← S.pre];exact S.nd.sublist (List.take_sublist _ _)
  refine ⟨u,rv,?_⟩
  rcases S.par y (List.mem_of_getElem? hp) with k | k
  ·exact .inl ⟨k,iS ndP hp hu k⟩
  ·obtain ⟨c,e⟩:=ko (n:=s.heap.objs.size+1) k
   refine .inr ⟨.inl k,c,e,?_⟩
   have q:=x.cell y c e
   rw [iQ ndP hp hu (by show scope.names.lookup y≠_;rw [k];decide)] at q
   exact q
 ·exact e0.hok.fresh (Nat.le_of_lt (x.above y c (PySem.mem_of_lookup h)))
 ·unfold cA
  show _=N.length
  rw [List.length_append,List.length_map,List.length_replicate]
  omega
theorem wf {CX:CXT} {P:Program} {w:World} {K:Fg} {mg:Str→Option Value} {base:Heap} {k:Nat} {f:Addr} {name qual:Str} {params:Arguments} {body:List Stmt} {scope:Scope} {dV kV doc pm cdv ct oc:Value} {an od:Option Addr}
 {osl:Array (Option Value)} {N ps:List Str} {sp:Sp} (lk:K.lookup f=some ⟨oc,od,.func (PySem.W.fnOf name qual params body scope dV kV doc pm an cdv ct),osl⟩) (hcd:PySem.W.codeIn K cdv qual=true) (S:bt N ps scope)
 (len:∀ vs H Q E,sp vs H Q E→vs.length=ps.length)
 (hbody:∀ (A:Around) (outer:List Env) (s:Shared) (H:Hp) (vs:List V) (Q:VK) (E:XK),Room k (A.deeper (envOfC qual scope s.heap.objs.size f cdv))→sp vs H Q E →
  ∃ t,PSs (iI CX P w K mg base N qual scope f cdv A outer s H E) body t∧t { nx:=fun _ H'=>Q .non H',rt:=Q } (cA N vs) H) :
 aR P w K mg base CX (k+1) f (PySem.W.fnOf name qual params body scope dV kV doc pm an cdv ct) ps sp:=by
 refine ⟨len,fun A outer s H args us vs Q E hr e0 hb r hsp=>?_⟩
 have hl:=len _ _ _ _ hsp
 have KX:K.In s.heap:=e0.mod.kin.keeps fun b o e=>(e0.bs b o e).1
 have lim:s.heap.NoLimit:=e0.mod.nolimit.keeps fun b o e=>(e0.bs b o e).1
 have hkind:∀ y∈ps.zip us,scope.names.lookup y.1=some .local∨(scope.names.lookup y.1=some .cell∧((cellsFrom (s.heap.objs.size+1) scope.names []).lookup y.1).isSome=true):=fun ⟨n,v⟩ hy=>by
  rcases S.par n (List.of_mem_zip hy).1 with q | q
  ·exact .inl q
  ·exact .inr ⟨q,PySem.W.cellsFrom_some _ _ _ (.inl q)⟩
 refine codeAny_call_function hr.depth (KX _ _ lk) rfl S.co S.gen rfl (PySem.W.codeRec_of KX hcd) (hb _ _ _ _ ?_)
 refine wpAny_newFunctionEnv_cells S.kind hkind fun env he s1 x=>?_
 subst he
 refine ⟨lim.keeps x.toInCall.keep,codeAny_func ?_⟩
 obtain ⟨t,ht,hq⟩:=hbody A outer s H vs Q E (hr.deeper _) hsp
 have I:Inv (iI CX P w K mg base N qual scope f cdv A outer s H E) [] (cA N vs) H s1:=pj S hr.hd e0 hl r x
 refine wpAny_mono (ht [] s1 (cA N vs) H _ I hq) (fun fl s' hs=>?_) fun e s' hs=>hs
 have fin:∀ {σ':St} {H':Hp} {v:V} {u:Value},Inv (iI CX P w K mg base N qual scope f cdv A outer s H E) [] σ' H' s'→ar v u→Q v H'→CE outer P w H s Q u s':=
  fun {σ' H' v u} J rv q=>⟨v,H',J.os,J.bare,J.base,J.hok,rv,q⟩
 cases fl with
 | ret u=>
   obtain ⟨v,σ',H',J,rv,q⟩:=hs
   exact fin J rv q
 | next=>
   obtain ⟨σ',H',J,q⟩:=hs
   exact fin (v:=V.non) (u:=Value.none) J rfl q
 | brk=>
   obtain ⟨_,_,_,q⟩:=hs
   exact False.elim q
 | cont=>
   obtain ⟨_,_,_,q⟩:=hs
   exact False.elim q
end L2
namespace L2
section
variable {X:Cx} {x:Str} {p pos:Pos} {e:Expr} {es:List Expr} {t:TA} {id T:String} {r:List V→Hp→VK→Prop}
noncomputable def tCB (r:List V→Hp→VK→Prop) (t:TA):TE:=fun σ H Q=>t σ H fun vs H1=>r vs H1 Q
theorem lg (hc:aO X (.builtin id) r) (hg:Gl X x) (hm:X.mg x=none) (hv:bootBuiltins x=some (.builtin id)) (ha:PA X (e :: es) t) (hn:x≠"__name__":=by decide) (hdb:(x == ("__debug__":Str))=false:=by decide)
 (he:starEach (e :: es) X.env=(false,eval e X.env) :: starEach es X.env:=by rfl) (hpl:(backTo pos (starEach es X.env)).any (·.1)=false:=by rfl):PE X (.Call (.Name x p) (e :: es) [] pos) (tCB r t):=by
 intro pins s σ H Q I h
 refine wpAny_Call_Name_kw (dX I hg hm hv ?_ hn hdb)
 exact PyProof.Rows.callWith_builtin1 (thn (ha pos pins s σ H _ I h) fun us s1 ⟨vs,H1,I1,r1,q1⟩=>hc pins s1 σ H1 vs us Q I1 r1 q1) he hpl
theorem jm (hc:aO X (.type T) r) (hg:Gl X x) (hm:X.mg x=none) (hv:bootBuiltins x=some (.type T)) (ha:PA X (e :: es) t) (hn:x≠"__name__":=by decide) (hdb:(x == ("__debug__":Str))=false:=by decide)
 (he:starEach (e :: es) X.env=(false,eval e X.env) :: starEach es X.env:=by rfl) (hpl:(backTo pos (starEach es X.env)).any (·.1)=false:=by rfl):PE X (.Call (.Name x p) (e :: es) [] pos) (tCB r t):=by
 intro pins s σ H Q I h
 refine wpAny_Call_Name_kw (dX I hg hm hv ?_ hn hdb)
 exact PyProof.Rows.callWith_type1 (thn (ha pos pins s σ H _ I h) fun us s1 ⟨vs,H1,I1,r1,q1⟩=>hc pins s1 σ H1 vs us Q I1 r1 q1) he hpl
end
end L2
namespace HT
open PySem PyProof.Rows
section
variable {prog:Program} {w:World} {A:Around} {E:Value→Shared→Prop} {s:Shared}
theorem cat_tup {t b:Addr} {vs ws:List Value} {Q:Value→Shared→Prop} (ht:IsTup s.heap t vs.toArray) (hb:IsTup s.heap b ws.toArray) (hv:vs≠[])
 (h1:ws = []→Q (.ref t) s) (h2:ws≠[]→Q (.ref s.heap.objs.size) { s with heap:=s.heap.push { cls:=.type "tuple",data:=.seq (vs ++ ws).toArray } })
 (hsz:vs.length+ws.length≤sizeLine):wpAny (model prog w) A (binaryOp .Add (.ref t) (.ref b)) Q E s:=by
 obtain ⟨⟨cls,dd,data,sl⟩,ho,hc,n,hd⟩:=id ht
 obtain ⟨⟨cls2,dd2,data2,sl2⟩,ho2,hc2,n2,hd2⟩:=id hb
 simp only at hc hd hc2 hd2
 subst hc hd hc2 hd2
 have e:vs.toArray ++ ws.toArray=(vs ++ ws).toArray:=by simp
 by_cases hw:ws = []
 ·exact concat_meets ⟨_,ho,rfl⟩ ⟨_,ho2,rfl⟩ noFill_tuple_add seq_tuple_add PySem.F.slot_tuple_add PySem.F.entry_tuple_add (PySem.F.args_tuple_add_2 _ _)
   (tuple_addW1 t b vs.toArray ws.toArray n n2 dd dd2 sl sl2 (by simpa using hv) (by simp [hw])) ⟨ho,ho2,h1 hw⟩
 ·refine concat_meets ⟨_,ho,rfl⟩ ⟨_,ho2,rfl⟩ noFill_tuple_add seq_tuple_add PySem.F.slot_tuple_add PySem.F.entry_tuple_add (PySem.F.args_tuple_add_2 _ _)
   (tuple_addW2 t b vs.toArray ws.toArray n n2 dd dd2 sl sl2 (by simpa using hv) (by simpa using hw) (by rw [List.size_toArray,List.size_toArray];exact hsz)) ⟨ho,ho2,?_⟩
  rw [e]
  exact h2 hw
noncomputable def sIx (n d:Nat):Option Int→Nat
 | none=>d
 | some v=>if v<0 then (v+(n:Int)).toNat else min v.toNat n
theorem yY (n d:Nat) (hd:d≤n) (o:Option Int):sIx n d o≤n:=by
 cases o with
 | none=>exact hd
 | some v=>
   show (if v<0 then (v+(n:Int)).toNat else min v.toNat n)≤n
   by_cases hv:v<0
   ·rw [if_pos hv];omega
   ·rw [if_neg hv];exact Nat.min_le_right _ _
theorem ng (v:Int) (n d:Nat):(if v<0 then max (v+(n:Int)) 0 else min v (n:Int))=((sIx n d (some v):Nat):Int):=by
 show (if v<0 then max (v+(n:Int)) 0 else min v (n:Int))=(((if v<0 then (v+(n:Int)).toNat else min v.toNat n):Nat):Int)
 by_cases hv:v<0
 ·simp only [if_pos hv];omega
 ·simp only [if_neg hv];omega
theorem lR (lo hi:Option Int) (n:Nat):Builtin.Slice.sliceAdjust lo hi 1 (n:Int)=(((sIx n 0 lo:Nat):Int),((sIx n n hi:Nat):Int)):=by
 have h1:¬ ((1:Int)<0):=by omega
 unfold Builtin.Slice.sliceAdjust
 simp only [h1,if_false]
 refine Prod.ext ?_ ?_
 ·cases lo with
  | none=>rfl
  | some v=>exact ng v n 0
 ·cases hi with
  | none=>rfl
  | some v=>exact ng v n n
theorem mG (i j:Nat):Builtin.Slice.slicePlaces (i:Int) (j:Int) 1=j - i:=by
 unfold Builtin.Slice.slicePlaces
 have h1:(1:Int)>0:=by omega
 simp only [h1,if_true,Int.ediv_one]
 split <;> omega
theorem im {v:Value} {o:Option Int} {Q:Option Int→Shared→Prop} (p:IsPart v o) (h:Q o s):wpAny (model prog w) A (Builtin.Slice.slicePartIndex v) Q E s:=by
 cases p with
 | none=>exact slicePart_none h
 | int i t=>exact slicePart_int h
theorem cz {sl:Addr} {vl vu:Value} {lo hi:Option Int} {n:Nat} {Q:Int×Int×Nat→Shared→Prop} (hs:s.heap.IsSliceOf sl vl vu .none) (pl:IsPart vl lo) (pu:IsPart vu hi)
 (h:Q (((sIx n 0 lo:Nat):Int),1,sIx n n hi - sIx n 0 lo) s):wpAny (model prog w) A (Builtin.Slice.sliceApplied (.ref sl) (pure (n:Int))) Q E s:=by
 obtain ⟨os,hos,hcs,hds⟩:=id hs
 unfold Builtin.Slice.sliceApplied Builtin.Slice.sliceFields
 refine wpAny_bind (wpAny_bind (wpAny_field hos hds (x:=vl) rfl (wpAny_bind (wpAny_field hos hds (x:=vu) rfl (wpAny_bind (wpAny_field hos hds (x:=.none) rfl (wpAny_pure ?_)))))))
 refine wpAny_bind (slicePart_none ?_)
 show wpAny _ _ (if ((1:Int) == 0)=true then _ else _) _ _ s
 rw [if_neg (by decide)]
 refine wpAny_bind (im pl (wpAny_bind (im pu (wpAny_bind (wpAny_pure ?_)))))
 show wpAny _ _ (match Builtin.Slice.sliceAdjust lo hi 1 (n:Int) with | (lo,hi)=>pure (lo,(1:Int),Builtin.Slice.slicePlaces lo hi 1)) _ _ s
 rw [lR lo hi n]
 show wpAny _ _ (pure (((sIx n 0 lo:Nat):Int),(1:Int),Builtin.Slice.slicePlaces ((sIx n 0 lo:Nat):Int) ((sIx n n hi:Nat):Int) 1)) _ _ s
 rw [mG]
 exact wpAny_pure h
theorem sy (xs:Array Value) (i k:Nat):((List.range k).filterMap fun (m:Nat)=>xs[((i:Int)+(m:Int) * 1).toNat]?).toArray=((xs.toList.drop i).take k).toArray:=by
 have e:(fun (m:Nat)=>xs[((i:Int)+(m:Int) * 1).toNat]?)=fun m=>xs[i+m]?:=by
  funext m
  have:((i:Int)+(m:Int) * 1).toNat=i+m:=by omega
  rw [this]
 rw [e]
 have:=pick_run xs i k
 rw [List.filterMap_map] at this
 have e2:((fun x=>xs[x]?) ∘ fun x=>i+x)=fun m=>xs[i+m]?:=rfl
 rw [e2] at this
 rw [this]
theorem getItem_tuple_cut {t sl:Addr} {items:Array Value} {vl vu:Value} {lo hi:Option Int} {Q:Value→Shared→Prop} (ht:IsTup s.heap t items) (hs:s.heap.IsSliceOf sl vl vu .none) (pl:IsPart vl lo) (pu:IsPart vu hi)
 (hw:¬ (sIx items.size 0 lo=0∧sIx items.size items.size hi=items.size))
 (h:Q (.ref s.heap.objs.size) { s with heap:=s.heap.push { cls:=.type "tuple",data:=.seq ((items.toList.drop (sIx items.size 0 lo)).take (sIx items.size items.size hi - sIx items.size 0 lo)).toArray } })
 (hsz:items.size≤sizeLine):wpAny (model prog w) A (getItem (.ref t) (.ref sl)) Q E s:=by
 have htake:sizeOk (.seq ((items.toList.drop (sIx items.size 0 lo)).take (sIx items.size items.size hi - sIx items.size 0 lo)).toArray):=by
  show ((items.toList.drop (sIx items.size 0 lo)).take (sIx items.size items.size hi - sIx items.size 0 lo)).toArray.size≤sizeLine
  rw [List.size_toArray,List.length_take,List.length_drop,Array.length_toList]
  omega
 have hj:sIx items.size items.size hi≤items.size:=yY _ _ (Nat.le_refl _) hi
 obtain ⟨os,hos,hcs,hds⟩:=id hs
 have hTs:s.TypeIs (.ref sl) "slice":=⟨os,hos,hcs⟩
 unfold getItem
 try with_reducible refine wpAny_holding ?_
 first | refine wpAny_bind (wpAny_pure ?_) | skip
 refine wpAny_bind (wpAny_sequenceKey ht.typeIs (by decide) ?_)
 refine wpAny_bind (wpAny_callSpecial?_slot (name:=Str.ofString "__getitem__") ht.typeIs PyProof.Rows.slot_tuple_getitem
  (wpAny_call_entry PyProof.Rows.slot_tuple_getitem ht.typeIs entry_tuple_getitem ?_ (args_tuple_getitem _ _)))
 show wpAny _ _ (Builtin.Tuple.tupleItemsOf (.ref t) >>= _) _ _ s
 refine wpAny_bind (tupleItemsOf_ ht ?_)
 refine wpAny_bind (wpAny_typeOf hTs ?_)
 rw [if_pos (by decide)]
 refine wpAny_bind (cz hs pl pu ?_)
 have hno:¬ ((((sIx items.size 0 lo:Nat):Int) == 0 && (1:Int) == 1 && (sIx items.size items.size hi - sIx items.size 0 lo) == items.size)=true):=by
  intro q
  rw [Bool.and_eq_true,Bool.and_eq_true] at q
  have q1:((sIx items.size 0 lo:Nat):Int)=0:=eq_of_beq q.1.1
  have q2:sIx items.size items.size hi - sIx items.size 0 lo=items.size:=eq_of_beq q.2
  exact hw ⟨by omega,by omega⟩
 show wpAny _ _ (if (((sIx items.size 0 lo:Nat):Int) == 0 && (1:Int) == 1 && (sIx items.size items.size hi - sIx items.size 0 lo) == items.size)=true then _ else _) _ _ s
 rw [if_neg hno,sy]
 first
  | exact wpAny_bind (m:=Builtin.Tuple.tupleExact _) (wpAny_newObj_type (wpAny_pure ⟨_,rfl,wpAny_pure h⟩) htake)
  | exact wpAny_bind (m:=Builtin.Tuple.tupleExact _) (wpAny_newObj_type (wpAny_bind (wpAny_pure (wpAny_pure ⟨_,rfl,wpAny_pure h⟩))) htake)
  | exact wpAny_bind (wpAny_bind (m:=Builtin.Tuple.tupleExact _) (wpAny_newObj_type (wpAny_pure (wpAny_pure ⟨_,rfl,wpAny_pure h⟩)) htake))
  | exact wpAny_bind (wpAny_bind (m:=Builtin.Tuple.tupleExact _) (wpAny_newObj_type (wpAny_pure ⟨_,rfl,wpAny_pure h⟩) htake))
end
end HT
namespace L2
noncomputable abbrev TO:=St→Hp→(Option Int→Hp→Prop)→Prop
noncomputable def PO (X:Cx) (e:Option Expr) (t:TO):Prop:=
 ∀ (pins:List (Addr×Obj)) (s:Shared) (σ:St) (H:Hp) (Q:Option Int→Hp→Prop),Inv X pins σ H s→t σ H Q →
   wpAny (model X.prog X.w) X.A (evalPart e X.env) (fun u s'=>∃ o H',Inv X pins σ H' s'∧IsPart u o∧Q o H') X.xe s
noncomputable def vG:TO:=fun _ H Q=>Q none H
noncomputable def A2 (t:TE):TO:=fun σ H Q=>t σ H fun x H1=>∃ i,x = .int i∧Q (some i) H1
section
variable {X:Cx} {e:Expr} {te:TE} {lo hi:Option Expr} {tl th:TO} {pos p2:Pos}
theorem vb:PO X none vG:=by
 intro pins s σ H Q I h
 rw [evalPart_none]
 exact wpAny_pure ⟨none,H,I,.none,h⟩
theorem vc (h:PE X e te):PO X (some e) (A2 te):=by
 intro pins s σ H Q I hw
 rw [evalPart_some]
 refine thn (h pins s σ H _ I hw) fun u s1 ⟨x,H1,I1,r1,q1⟩=>?_
 obtain ⟨i,rfl,q⟩:=q1
 obtain ⟨t,rfl⟩:=r1
 exact ⟨some i,H1,I1,.int i t,q⟩
noncomputable def SlR (X:Cx) (r:V→Option Int→Option Int→Hp→VK→Prop):Prop:=
 ∀ (pins:List (Addr×Obj)) (s:Shared) (σ:St) (H:Hp) (x:V) (v vl vu:Value) (lo hi:Option Int) (sl:Addr) (Q:VK),Inv X pins σ H s→ar x v→s.heap.IsSliceOf sl vl vu .none→IsPart vl lo→IsPart vu hi→r x lo hi H Q →
   ∃ T id,typeLookup (.type T) "__getitem__" = pure (some (.builtin id))∧s.TypeIs v T∧wpAny (model X.prog X.w) X.A (getItem v (.ref sl)) (EP X pins σ Q) X.xe s
noncomputable def tSl (r:V→Option Int→Option Int→Hp→VK→Prop) (te:TE) (tl th:TO):TE:=fun σ H Q=>te σ H fun x H1=>tl σ H1 fun l H2=>th σ H2 fun u H3=>r x l u H3 Q
theorem so {r:V→Option Int→Option Int→Hp→VK→Prop} (hr:SlR X r) (he:PE X e te) (hl:PO X lo tl) (hu:PO X hi th):PE X (.Subscript e (.Slice lo hi none p2) pos) (tSl r te tl th):=by
 intro pins s σ H Q I h
 refine Subscript_ (thn (he pins s σ H _ I h) fun v s1 ⟨x,H1,I1,r1,q1⟩=>?_)
 refine wpAny_Slice (thn (hl pins s1 σ H1 _ I1 q1) fun vl s2 ⟨l,H2,I2,pl,q2⟩=>thn (hu pins s2 σ H2 _ I2 q2) fun vu s3 ⟨u,H3,I3,pu,q3⟩=>?_)
 rw [evalPart_none]
 refine wpAny_pure ?_
 have I4:Inv X pins σ H3 { s3 with heap:=s3.heap.push { cls:=.type "slice",data:=.fields #[vl,vu,.none] } }:=I3.kept (t':=s3.toks) fun b ob q=>Heap.get?_push_of_some _ q
 obtain ⟨T,id,hT,ht,hg⟩:=hr pins { s3 with heap:=s3.heap.push { cls:=.type "slice",data:=.fields #[vl,vu,.none] } } σ H3 x v vl vu l u s3.heap.objs.size Q I4 r1 (Heap.IsSliceOf.new ..) pl pu q3
 show wpAny (model X.prog X.w) X.A (subscriptTail e (.Slice lo hi none p2) v (.ref s3.heap.objs.size)) (EP X pins σ Q) X.xe { s3 with heap:=s3.heap.push { cls:=.type "slice",data:=.fields #[vl,vu,.none] } }
 exact tail_any (ops:=[.ref s3.heap.objs.size,v]) ht hT hg (by with_unfolding_all rfl)
noncomputable def ku (xs:List V) (lo hi:Option Int):List V:=(xs.drop (HT.sIx xs.length 0 lo)).take (HT.sIx xs.length xs.length hi - HT.sIx xs.length 0 lo)
theorem fA (xs:List V) (lo hi:Option Int):(ku xs lo hi).length≤xs.length:=by
 unfold ku
 rw [List.length_take,List.length_drop]
 omega
noncomputable def BM (K:Fg):V→Option Int→Option Int→Hp→VK→Prop:=fun x lo hi H Q=>∃ a xs,x = .ref a∧SqT K H a xs ∧
 ¬ (HT.sIx xs.length 0 lo=0∧HT.sIx xs.length xs.length hi=xs.length)∧∀ p,H p=none→Q (.ref p) (upd H p (.tup (ku xs lo hi)))
theorem y0:SlR X (BM X.K):=by
 intro pins s σ H x v vl vu lo hi sl Q I rx hs pl pu h
 obtain ⟨a,xs,rfl,hx,hw,q⟩:=h
 cases rx
 obtain ⟨its,r,ht,hz⟩:=I.tuple hx
 have hlen:its.toArray.size=xs.length:=by rw [List.size_toArray];exact r.length.symm
 refine ⟨"tuple",_,PyProof.Rows.slot_tuple_getitem.lookup,ht.typeIs,?_⟩
 refine HT.getItem_tuple_cut ht hs pl pu (by rw [hlen];exact hw) ?_ (by rw [hlen];exact hz)
 rw [hlen]
 refine ⟨.ref s.heap.objs.size,_,I.laid (t':=s.toks) (o:=.tup (ku xs lo hi)) (fun b ob q=>Heap.get?_push_of_some _ q) (Nat.le_refl _) ?_,rfl,q _ (I.hok.fresh (Nat.le_refl _))⟩
 exact ⟨Nat.le_trans (fA xs lo hi) hz,_,(r.drop (HT.sIx xs.length 0 lo)).take (HT.sIx xs.length xs.length hi - HT.sIx xs.length 0 lo),IsTup.new _ _⟩
noncomputable def AF (K:Fg):R2:=fun x y H Q=>∃ a b xs ys,x = .ref a∧y = .ref b∧SqT K H a xs∧SqT K H b ys∧xs≠[]∧xs.length+ys.length≤sizeLine ∧
 (ys = []→Q (.ref a) H)∧(ys≠[]→∀ p,H p=none→Q (.ref p) (upd H p (.tup (xs ++ ys))))
theorem av.nil_iff {xs:List V} {us:List Value} (r:av xs us):us = []↔xs = []:=by
 cases r with
 | nil=>simp
 | cons _ _=>simp
theorem uN:OpR X (binaryOp .Add) (AF X.K):=by
 intro pins s σ H x y v u Q I rx ry h
 obtain ⟨a,b,xs,ys,rfl,rfl,ha,hb,hx,hz,q1,q2⟩:=h
 cases rx
 cases ry
 obtain ⟨its,r1,p1,_⟩:=I.tuple ha
 obtain ⟨its2,r2,p2,_⟩:=I.tuple hb
 refine HT.cat_tup p1 p2 (fun z=>hx (r1.nil_iff.mp z)) (fun z=>⟨.ref a,H,I,rfl,q1 (r2.nil_iff.mp z)⟩) (fun z=>?_) (by rw [← r1.length,← r2.length];exact hz)
 refine ⟨.ref s.heap.objs.size,_,I.laid (t':=s.toks) (o:=.tup (xs ++ ys)) (fun b ob q=>Heap.get?_push_of_some _ q) (Nat.le_refl _) ?_,rfl,q2 (fun w=>z (r2.nil_iff.mpr w)) _ (I.hok.fresh (Nat.le_refl _))⟩
 exact ⟨by rw [List.length_append];exact hz,_,r1.append r2,IsTup.new _ _⟩
end
end L2
namespace L2
noncomputable def ixN (n:Nat) (i:Int):Option Nat:=if 0≤i then (if i<n then some i.toNat else none) else if -(n:Int)≤i then some (i+n).toNat else none
noncomputable def atI {α:Type} (xs:List α) (i:Int):Option α:=(ixN xs.length i).bind fun j=>xs[j]?
theorem nO {n:Nat} {i:Int} {j:Nat} (h:ixN n i=some j):seqIndex? i n=some j∧j<n∧-(n:Int)≤i∧i<n:=by
 unfold ixN at h
 by_cases h0:0≤i
 ·rw [if_pos h0] at h
  by_cases h1:i<n
  ·rw [if_pos h1] at h
   have e:i.toNat=j:=Option.some.inj h
   exact ⟨by rw [seqIndex_of h0 h1,e],by omega,by omega,h1⟩
  ·rw [if_neg h1] at h;cases h
 ·rw [if_neg h0] at h
  by_cases h1:-(n:Int)≤i
  ·rw [if_pos h1] at h
   have e:(i+n).toNat=j:=Option.some.inj h
   exact ⟨by rw [seqIndex_neg (by omega) h1,e],by omega,h1,by omega⟩
  ·rw [if_neg h1] at h;cases h
theorem jv {α:Type} {xs:List α} {i:Int} {v:α} (h:atI xs i=some v):∃ j,seqIndex? i xs.length=some j∧xs[j]? = some v∧j<xs.length∧-(xs.length:Int)≤i∧i<xs.length:=by
 unfold atI at h
 cases e:ixN xs.length i with
 | none=>rw [e] at h;cases h
 | some j=>
   rw [e] at h
   obtain ⟨h1,h2,h3,h4⟩:=nO e
   exact ⟨j,h1,h,h2,h3,h4⟩
theorem jw {α:Type} {xs:List α} {j:Nat} {v:α} (h:xs[j]? = some v):atI xs (j:Int)=some v:=by
 have hj:j<xs.length:=(List.getElem?_eq_some_iff.mp h).1
 have e:ixN xs.length (j:Int)=some j:=by
  unfold ixN
  rw [if_pos (by omega),if_pos (by omega)];simp
 unfold atI;rw [e];exact h
noncomputable def eg (b:Expr):Prop:=∀ o i,subscripted b false o i=operate [o,i] (getItem o i)
noncomputable def IxR (X:Cx) (r:R2):Prop:=
 ∀ (value slice:Expr) (pins:List (Addr×Obj)) (s:Shared) (σ:St) (H:Hp) (x y:V) (v u:Value) (Q:VK),Inv X pins σ H s→ar x v→ar y u→r x y H Q →
   subscripted slice false v u=operate [v,u] (getItem v u)→wpAny (model X.prog X.w) X.A (subscriptTail value slice v u) (EP X pins σ Q) X.xe s
noncomputable def MtR (X:Cx) (id:String) (r:V→List V→Hp→VK→Prop):Prop:=
 ∀ (pins:List (Addr×Obj)) (s:Shared) (σ:St) (H:Hp) (x:V) (xs:List V) (v:Value) (us:List Value) (Q:VK),Inv X pins σ H s→ar x v→av xs us→r x xs H Q →
   wpAny (model X.prog X.w) X.A (call (.builtin id) (v :: us)) (EP X pins σ Q) X.xe s
section
variable {X:Cx} {a b:Expr} {ta tb:TE} {pos:Pos}
theorem Av {r:R2} (hr:IxR X r) (ha:PE X a ta) (hb:PE X b tb) (hs:eg b):PE X (.Subscript a b pos) (tOp r ta tb):=by
 intro pins s σ H Q I h
 exact Subscript_ (tR ha hb I h fun v u s2 x y H2 I2 rx ry q=>hr a b pins s2 σ H2 x y v u Q I2 rx ry q (hs _ _))
noncomputable def BH (K:Fg):R2:=fun x y H Q=>∃ p xs i v,x = .ref p∧y = .int i∧SqL K H p xs∧atI xs i=some v∧Q v H
noncomputable def BJ (K:Fg):R2:=fun x y H Q=>∃ p xs i v,x = .ref p∧y = .int i∧SqT K H p xs∧atI xs i=some v∧Q v H
noncomputable def BI:R2:=fun x y H Q=>∃ z i c,x = .str z∧y = .int i∧z.length≤sizeLine∧atI z.cps.toList i=some c∧Q (.str ⟨#[c]⟩) H
theorem ug:IxR X (BH X.K):=by
 intro value slice pins s σ H x y v u Q I rx ry h hs
 obtain ⟨p,xs,i,z,rfl,rfl,hq,he,q⟩:=h
 cases rx
 obtain ⟨t,rfl⟩:=ry
 obtain ⟨its,r,pl,hz⟩:=I.list hq
 obtain ⟨j,h1,h2,h3,h4,h5⟩:=jv he
 obtain ⟨w,ew,rw'⟩:=r.get h2
 have hl:=r.length
 have hn:=dY
 have fin:EP X pins σ Q w s:=⟨z,H,I,rw',q⟩
 by_cases h0:0≤i
 ·have hj:i.toNat=j:=by
   rw [seqIndex_of h0 h5] at h1
   exact Option.some.inj h1
  exact item_listR pl.isList h0 (by omega) (by rw [hj];simpa using ew) fin hs
 ·have hj:(i+(its.toArray.size:Int)).toNat=j:=by
   rw [seqIndex_neg (by omega) h4] at h1
   rw [List.size_toArray,← hl]
   exact Option.some.inj h1
  exact subscriptTail_builtinR (x:=w) pl.isList.typeIs slot_list_getitem.lookup
   (wpAny_getItem_list_neg (Q:=fun r s'=>r=w∧EP X pins σ Q r s') pl.isList (by omega) (by rw [List.size_toArray] <;> omega) (by omega) (by rw [hj];simpa using ew) ⟨rfl,fin⟩) hs
theorem xw:IxR X (BJ X.K):=by
 intro value slice pins s σ H x y v u Q I rx ry h hs
 obtain ⟨p,xs,i,z,rfl,rfl,hq,he,q⟩:=h
 cases rx
 obtain ⟨t,rfl⟩:=ry
 obtain ⟨its,r,pl,hz⟩:=I.tuple hq
 obtain ⟨j,h1,h2,h3,h4,h5⟩:=jv he
 obtain ⟨w,ew,rw'⟩:=r.get h2
 have hl:=r.length
 have hn:=dY
 have fin:EP X pins σ Q w s:=⟨z,H,I,rw',q⟩
 exact subscriptTail_builtinR (x:=w) pl.typeIs slot_tuple_getitem.lookup
  (getItem_tuple (j:=j) (Q:=fun r s'=>r=w∧EP X pins σ Q r s') pl (by omega) (by omega) (by rw [List.size_toArray,← hl];exact h1) (by simpa using ew) ⟨rfl,fin⟩) hs
theorem xu:IxR X BI:=by
 intro value slice pins s σ H x y v u Q I rx ry h hs
 obtain ⟨z,i,c,rfl,rfl,hz,he,q⟩:=h
 obtain ⟨t,rfl⟩:=rx
 obtain ⟨t',rfl⟩:=ry
 obtain ⟨j,h1,h2,h3,h4,h5⟩:=jv he
 have hl:z.cps.toList.length=z.length:=by simp [Str.length]
 rw [hl] at h1 h4 h5
 have hn:=dY
 exact tail_any (typeIs_str s z t) slot_str_getitem.lookup (getItem_str (c:=c) (by
  have e1:decide (i < -(2 ^ 63:Int))=false:=decide_eq_false (by omega)
  have e2:decide (i≥2 ^ 63)=false:=decide_eq_false (by omega)
  rw [e1,e2,Bool.or_false]) (by rw [h1];simpa using h2) ⟨.str ⟨#[c]⟩,H,I.tok _,⟨_,rfl⟩,q⟩) hs
theorem mq (its:List Value) (n j:Nat) (u:Value):Obj.mapSeq (·.setIfInBounds j u) { cls:=.type "list",data:=.seq its.toArray n }={ cls:=.type "list",data:=.seq (its.set j u).toArray n }:=by
 simp [Obj.mapSeq]
theorem Inv.lst {pins:List (Addr×Obj)} {σ:St} {H:Hp} {s:Shared} {p:Addr} {xs:List V} (I:Inv X pins σ H s) (h:H p=some (.lst xs)) :
 ∃ (its:List Value) (n:Nat),av xs its∧s.heap.get? p=some { cls:=.type "list",data:=.seq its.toArray n }∧xs.length≤sizeLine:=by
 obtain ⟨z,its,n,r,e⟩:=I.hok p _ h
 exact ⟨its,n,r,e,z⟩
theorem Inv.lstUpd {pins:List (Addr×Obj)} {σ:St} {H:Hp} {s:Shared} {p:Addr} {xs ys:List V} {its its':List Value} {n n':Nat} {f:Obj→Obj} (I:Inv X pins σ H s) (h:H p=some (.lst xs))
 (ho:s.heap.get? p=some { cls:=.type "list",data:=.seq its.toArray n }) (hf:f { cls:=.type "list",data:=.seq its.toArray n }={ cls:=.type "list",data:=.seq its'.toArray n' }) (r:av ys its') (hz:ys.length≤sizeLine) (t:Nat) :
 Inv X pins σ (upd H p (.lst ys)) { s with heap:=s.heap.update p f,toks:=t }:=by
 have e:(s.heap.update p f).get? p=some { cls:=.type "list",data:=.seq its'.toArray n' }:=by
  rw [Heap.get?_update_self f ho (by rw [hf] <;> rfl),hf]
 refine I.write (x:=p) (e:=p) (by rw [h];trivial) (.inl rfl) (fun b u hb q=>(Heap.get?_update_other _ _ (Ne.symm hb)).trans q) ⟨_,e⟩ ?_
 exact ⟨hz,its',n',r,e⟩
noncomputable def wu:V→V→V→Hp→(Hp→Prop)→Prop:=fun o i v H Q=>∃ p xs k j,o = .ref p∧i = .int k∧H p=some (.lst xs)∧ixN xs.length k=some j∧Q (upd H p (.lst (xs.set j v)))
theorem sO:wN X wu:=by
 intro pins s σ H o i v ov iv u Q I ro ri rv h
 obtain ⟨p,xs,k,j,rfl,rfl,hp,hj,q⟩:=h
 cases ro
 obtain ⟨t,rfl⟩:=ri
 obtain ⟨its,n,r,ho,hz⟩:=I.lst hp
 obtain ⟨h1,h2,h3,h4⟩:=nO hj
 have hl:=r.length
 have hn:=dY
 have I':Inv X pins σ (upd H p (.lst (xs.set j v))) { s with heap:=s.heap.update p (Obj.mapSeq (·.setIfInBounds j u)) }:=
  I.lstUpd hp ho (mq its n j u) (r.set rv j) (by rw [List.length_set];exact hz) s.toks
 by_cases h0:0≤k
 ·have hk:k.toNat=j:=by
   rw [seqIndex_of h0 h4] at h1
   exact Option.some.inj h1
  exact PySem.W.ki_setAt ho h0 (by omega) (by rw [List.size_toArray,← hl];exact h4) (by rw [hk];exact ⟨_,I',q⟩)
 ·have hk:(k+(its.toArray.size:Int)).toNat=j:=by
   rw [seqIndex_neg (by omega) h3] at h1
   rw [List.size_toArray,← hl]
   exact Option.some.inj h1
  exact PySem.W.ki_setBack ho (by omega) (by rw [List.size_toArray,← hl];exact h3) (by omega) (by rw [hk];exact ⟨_,I',q⟩)
theorem j8 (lo hi:Option Int) (n:Nat):(sliceBounds lo hi none n).1=((HT.sIx n 0 lo:Nat):Int)∧(sliceBounds lo hi none n).2.1=((HT.sIx n n hi:Nat):Int)∧(sliceBounds lo hi none n).2.2=1:=by
 refine ⟨?_,?_,rfl⟩
 ·cases lo with
  | none=>simp [sliceBounds,HT.sIx]
  | some i=>
    simp only [sliceBounds,HT.sIx,Option.getD_none,show (1:Int)>0 by decide,if_true]
    by_cases h:i<0
    ·simp only [h,if_true] <;> omega
    ·simp only [h,if_false] <;> omega
 ·cases hi with
  | none=>simp [sliceBounds,HT.sIx]
  | some i=>
    simp only [sliceBounds,HT.sIx,Option.getD_none,show (1:Int)>0 by decide,if_true]
    by_cases h:i<0
    ·simp only [h,if_true] <;> omega
    ·simp only [h,if_false] <;> omega
theorem iM (its:List Value) (lo hi:Option Int):slicePick its.toArray lo hi none=((its.drop (HT.sIx its.length 0 lo)).take (HT.sIx its.length its.length hi - HT.sIx its.length 0 lo)).toArray:=by
 obtain ⟨h1,h2,h3⟩:=j8 lo hi its.toArray.size
 unfold slicePick
 rw [h1,h2,h3]
 simp only [sliceRange_one,pick_run,List.size_toArray] <;> rfl
noncomputable def BK (K:Fg):V→Option Int→Option Int→Hp→VK→Prop:=fun x lo hi H Q=>∃ a xs,x = .ref a∧SqL K H a xs∧∀ p,H p=none→Q (.ref p) (upd H p (.lst (ku xs lo hi)))
theorem vD:SlR X (BK X.K):=by
 intro pins s σ H x v vl vu lo hi sl Q I rx hs pl pu h
 obtain ⟨a,xs,rfl,hx,q⟩:=h
 cases rx
 obtain ⟨its,r,ht,hz⟩:=I.list hx
 have hlen:=r.length
 refine ⟨"list",_,slot_list_getitem.lookup,ht.isList.typeIs,?_⟩
 refine wpAny_getItem_list_slice ht.isList hs pl pu .none (by simp) ?_ (by rw [List.size_toArray] <;> omega)
 rw [iM,← hlen]
 refine ⟨.ref s.heap.objs.size,_,I.laid (t':=s.toks) (o:=.lst (ku xs lo hi)) (fun b ob q=>Heap.get?_push_of_some _ q) (Nat.le_refl _) ?_,rfl,q _ (I.hok.fresh (Nat.le_refl _))⟩
 exact ⟨Nat.le_trans (fA xs lo hi) hz,_,0,(r.drop (HT.sIx xs.length 0 lo)).take (HT.sIx xs.length xs.length hi - HT.sIx xs.length 0 lo),Heap.get?_push_size _ rfl⟩
noncomputable def fP:V→Bool
 | .non=>true
 | .bl _=>true
 | .int _=>true
 | .str _=>true
 | _=>false
noncomputable def eqV:V→V→Bool
 | .non,.non=>true
 | .bl a,.bl b=>a == b
 | .bl a,.int b=>(if a then 1 else 0) == b
 | .int a,.bl b=>a == (if b then 1 else 0)
 | .int a,.int b=>a == b
 | .str a,.str b=>a == b
 | _,_=>false
theorem xa {A:Around} {s:Shared} {y x:V} {u v:Value} (ry:ar y u) (rx:ar x v) (fy:fP y=true) (fx:fP x=true):SeqAt.EqAt A s u v (eqV y x):=by
 cases y with
 | non=>
   cases ry
   cases x with
   | non=>cases rx;exact SeqAt.EqAt.same _
   | bl b=>cases rx;exact SeqAt.EqAt.none_bool b
   | int b=>obtain ⟨t,rfl⟩:=rx;exact SeqAt.EqAt.none_int b t
   | str b=>obtain ⟨t,rfl⟩:=rx;exact SeqAt.EqAt.none_str b t
   | _=>exact absurd (show false=true from fx) Bool.false_ne_true
 | bl a=>
   cases ry
   cases x with
   | non=>cases rx;exact SeqAt.EqAt.bool_none a
   | bl b=>cases rx;exact SeqAt.EqAt.bool_bool a b
   | int b=>obtain ⟨t,rfl⟩:=rx;exact SeqAt.EqAt.bool_int a b t
   | str b=>obtain ⟨t,rfl⟩:=rx;exact SeqAt.EqAt.bool_str a b t
   | _=>exact absurd (show false=true from fx) Bool.false_ne_true
 | int a=>
   obtain ⟨t',rfl⟩:=ry
   cases x with
   | non=>cases rx;exact SeqAt.EqAt.int_none a t'
   | bl b=>cases rx;exact SeqAt.EqAt.int_bool a t' b
   | int b=>obtain ⟨t,rfl⟩:=rx;exact SeqAt.EqAt.int_int a t' b t
   | str b=>obtain ⟨t,rfl⟩:=rx;exact SeqAt.EqAt.int_str a t' b t
   | _=>exact absurd (show false=true from fx) Bool.false_ne_true
 | str a=>
   obtain ⟨t',rfl⟩:=ry
   cases x with
   | non=>cases rx;exact SeqAt.EqAt.str_none a t'
   | bl b=>cases rx;exact SeqAt.EqAt.str_bool a t' b
   | int b=>obtain ⟨t,rfl⟩:=rx;exact SeqAt.EqAt.str_int a t' b t
   | str b=>obtain ⟨t,rfl⟩:=rx;exact SeqAt.EqAt.str_str a t' b t
   | _=>exact absurd (show false=true from fx) Bool.false_ne_true
 | _=>exact absurd (show false=true from fy) Bool.false_ne_true
theorem jB:aO X (.builtin "len") (fun xs H Q=>∃ p ys,xs = [.ref p]∧(SqL X.K H p ys∨SqT X.K H p ys)∧Q (.int ys.length) H):=by
 intro pins s σ H xs us Q I r h
 obtain ⟨p,ys,rfl,hq,q⟩:=h
 obtain ⟨u,rfl,rx⟩:=iB r
 cases rx
 have hn:=dY
 rcases hq with hq | hq
 ·obtain ⟨its,r',pl,hz⟩:=I.list hq
  have hlen:=r'.length
  exact Calls.call_len_list pl.isList (by simp only [List.size_toArray] <;> omega) ⟨.int ys.length,H,I.tok _,⟨s.toks+1,by rw [List.size_toArray,hlen]⟩,q⟩
 ·obtain ⟨its,r',pl,hz⟩:=I.tuple hq
  have hlen:=r'.length
  exact len_tuple pl (by simp only [List.size_toArray] <;> omega) ⟨.int ys.length,H,I.tok _,⟨s.toks+1,by rw [List.size_toArray,hlen]⟩,q⟩
theorem jC:aO X (.builtin "len") (fun xs H Q=>∃ z,xs = [.str z]∧z.length≤sizeLine∧Q (.int z.length) H):=by
 intro pins s σ H xs us Q I r h
 obtain ⟨z,rfl,hz,q⟩:=h
 obtain ⟨u,rfl,t,rfl⟩:=iB r
 have hn:=dY
 exact len_str (by omega) ⟨.int z.length,H,I.tok _,⟨_,rfl⟩,q⟩
theorem bR:aO X (.type "list") (fun xs H Q=>∃ p ys,xs = [.ref p]∧(SqL X.K H p ys∨SqT X.K H p ys)∧∀ l,H l=none→Q (.ref l) (upd H l (.lst ys))):=by
 intro pins s σ H xs us Q I r h
 obtain ⟨p,ys,rfl,hq,q⟩:=h
 obtain ⟨u,rfl,rx⟩:=iB r
 cases rx
 have fin:∀ (its:List Value),av ys its→ys.length≤sizeLine→∀ (h':Heap) (c':Nat),(∀ b o',s.heap.get? b=some o'→h'.get? b=some o') →
  h'.get? s.heap.objs.size=some { cls:=.type "list",dict:=none,data:=.seq its.toArray c',slots:=#[] }→EP X pins σ Q (.ref s.heap.objs.size) { s with heap:=h' }:=fun its r' hz h' c' kp e=>
  ⟨.ref s.heap.objs.size,_,I.laid (t':=s.toks) kp (Nat.le_refl _) (show aC X.prog X.w _ h' _ (.lst ys) from ⟨hz,its,c',r',e⟩),rfl,q _ (I.hok.fresh (Nat.le_refl _))⟩
 rcases hq with hq | hq
 ·obtain ⟨its,r',pl,hz⟩:=I.list hq
  have hlen:=r'.length
  obtain ⟨o,ho,hc,n,hd⟩:=pl.isList
  exact call_list_seq p (.inl rfl) ho hc hd (fun h' c' kp e=>fin its r' hz h' c' kp e) (by simp only [List.size_toArray] <;> omega)
 ·obtain ⟨its,r',pl,hz⟩:=I.tuple hq
  have hlen:=r'.length
  obtain ⟨o,ho,hc,n,hd⟩:=pl
  exact call_list_seq p (.inr rfl) ho hc hd (fun h' c' kp e=>fin its r' hz h' c' kp e) (by simp only [List.size_toArray] <;> omega)
theorem dI:aO X (.type "tuple") (fun xs H Q=>∃ p ys,xs = [.ref p]∧((SqL X.K H p ys∧∀ l,H l=none→Q (.ref l) (upd H l (.tup ys)))∨(SqT X.K H p ys∧Q (.ref p) H))):=by
 intro pins s σ H xs us Q I r h
 obtain ⟨p,ys,rfl,h⟩:=h
 obtain ⟨u,rfl,rx⟩:=iB r
 cases rx
 rcases h with ⟨hq,q⟩ | ⟨hq,q⟩
 ·obtain ⟨its,r',pl,hz⟩:=I.list hq
  have hlen:=r'.length
  refine call_tuple_list pl.isList (fun h' kp=>?_) (by simp only [List.size_toArray] <;> omega)
  have I1:Inv X pins σ H { s with heap:=h' }:=I.kept (t':=s.toks) kp
  have I2:Inv X pins σ (upd H h'.objs.size (.tup ys)) { s with heap:=h'.push { cls:=.type "tuple",data:=.seq its.toArray } }:=
   I1.laid (t':=s.toks) (fun b o e=>Heap.get?_push_of_some _ e) (Nat.le_refl _) (show aC X.prog X.w _ _ _ (.tup ys) from ⟨hz,its,r',IsTup.new _ _⟩)
  exact ⟨.ref h'.objs.size,_,I2,rfl,q _ (I1.hok.fresh (Nat.le_refl _))⟩
 ·obtain ⟨its,r',pl,hz⟩:=I.tuple hq
  exact call_tuple_same pl ⟨.ref p,H,I,rfl,q⟩
noncomputable def tyV (K:Fg) (T:String) (x:V) (H:Hp):Prop:=match x with
 | .str _=>T = "str"
 | .int _=>T = "int"
 | .ref p=>(T = "list"∧∃ xs,SqL K H p xs)∨(T = "tuple"∧∃ o,K.lookup p=some o∧o.cls = .type "tuple"∧o.dict=none) ∨
  (T = "dict"∧((∃ kvs,H p=some (.dK kvs))∨∃ kvs,H p=some (.dT kvs)))∨(T = "set"∧∃ S n,H p=some (.set S n))
 | _=>False
theorem zb {pins:List (Addr×Obj)} {σ:St} {H:Hp} {s:Shared} {T:String} {x:V} {v:Value} (I:Inv X pins σ H s) (r:ar x v) (ty:tyV X.K T x H) :
 s.TypeIs v T∧∀ a,v = .ref a→∃ ob,s.heap.get? a=some ob∧ob.dict=none:=by
 cases x with
 | str z=>
   obtain ⟨t,rfl⟩:=r
   cases (show T = "str" from ty)
   exact ⟨typeIs_str s z t,fun _ e=>nomatch e⟩
 | int i=>
   obtain ⟨t,rfl⟩:=r
   cases (show T = "int" from ty)
   exact ⟨typeIs_int s i t,fun _ e=>nomatch e⟩
 | ref p=>
   cases r
   rcases ty with ⟨rfl,xs,hq⟩ | ⟨rfl,o,hk,hc,hd⟩ | ⟨rfl,hk⟩ | ⟨rfl,S,n,hk⟩
   ·obtain ⟨its,_,pl,_⟩:=I.list hq
    refine ⟨pl.isList.typeIs,fun a e=>?_⟩
    cases e
    obtain ⟨o,n,e,c,hd,_⟩:=pl
    exact ⟨o,e,hd⟩
   ·refine ⟨⟨o,I.kIn p o hk,hc⟩,fun a e=>?_⟩
    cases e
    exact ⟨o,I.kIn _ o hk,hd⟩
   ·have z:∃ o,s.heap.get? p=some o∧o.ExactDict:=by
     rcases hk with ⟨kvs,hk⟩ | ⟨kvs,hk⟩
     ·obtain ⟨_,_,_,_,o,_,_,e,ex,_⟩:=I.hok p _ hk
      exact ⟨o,e,ex⟩
     ·obtain ⟨_,_,_,_,o,_,_,e,ex,_⟩:=I.hok p _ hk
      exact ⟨o,e,ex⟩
    obtain ⟨o,e,ex⟩:=z
    refine ⟨⟨o,e,ex.1⟩,fun a e2=>?_⟩
    cases e2
    exact ⟨o,e,ex.2.1⟩
   ·obtain ⟨o,_,_,_,e,ex,_⟩:=I.hok p _ hk
    refine ⟨⟨o,e,ex.1⟩,fun a e2=>?_⟩
    cases e2
    exact ⟨o,e,ex.2.1⟩
 | _=>exact False.elim ty
noncomputable def tBM (K:Fg) (T:String) (r:V→List V→Hp→VK→Prop) (to:TE) (t:TA):TE:=fun σ H Q=>to σ H fun x H1=>tyV K T x H1∧t σ H1 fun xs H2=>r x xs H2 Q
variable {o e:Expr} {es:List Expr} {to:TE} {t:TA} {name:Str} {apos cpos:Pos} {T id:String} {r:V→List V→Hp→VK→Prop}
theorem Au (pa:PlainAttrs T) (slot:Slot T name id) (hty:typeOf (.builtin id)=pure (.type "method_descriptor")) (hm:MtR X id r) (ho:PE X o to) (ha:PA X (e :: es) t)
 (hbase:attributeBase o name X.env (eval o X.env)=eval o X.env:=by rfl)
 (hfew:((backTo cpos (starEach (e :: es) X.env)).all (fun x=>!x.1) && (backToKw cpos (keywordEach [] X.env)).all (fun x=>x.1.isSome)
  && decide ((e :: es).length+([]:List Keyword).length+(if ([]:List Keyword).isEmpty then 0 else 1)<30))=true:=by rfl)
 (hline:(apos.endLine == cpos.line)=true:=by rfl) (hs:starEach (e :: es) X.env=(false,eval e X.env) :: starEach es X.env:=by rfl) (hplain:(backTo cpos (starEach es X.env)).any (·.1)=false:=by rfl) :
 PE X (.Call (.Attribute o name apos) (e :: es) [] cpos) (tBM X.K T r to t):=by
 intro pins s σ H Q I h
 refine wpAny_Call_method_late hbase hfew hline rfl (thn (ho pins s σ H _ I h) fun v s1 ⟨x,H1,I1,r1,ty,q1⟩=>?_)
 obtain ⟨h1,h2⟩:=zb I1 r1 ty
 refine ⟨T,id,pa,slot,hty,h1,h2,?_⟩
 have hA:=ha cpos pins s1 σ H1 _ I1 q1
 rw [hs] at hA ⊢
 refine Calls.callWith_builtin (by show (false || (backTo cpos (starEach es X.env)).any (·.1))=false;rw [hplain] <;> rfl) (Calls.evalArgs_plain ?_)
 exact thn hA fun us s2 ⟨vs,H2,I2,r2,q2⟩=>hm pins s2 σ H2 x vs v us Q I2 r1 r2 q2
end
end L2
namespace L2
noncomputable def MtM (X:Cx) (id:String) (r:V→List V→Hp→VK→Prop):Prop:=
 ∀ (pins:List (Addr×Obj)) (s:Shared) (σ:St) (H:Hp) (x:V) (xs:List V) (v:Value) (us:List Value) (Q:VK),Inv X pins σ H s→ar x v→av xs us→r x xs H Q →
   wpAny (model X.prog X.w) X.A (call (.builtin id) (v :: us)) (EP X pins σ Q) X.xe s
theorem av.one:∀ {x:V} {us:List Value},av [x] us→∃ u,us = [u]∧ar x u
 | _,_,.cons r .nil=>⟨_,rfl,r⟩
theorem av.two:∀ {x y:V} {us:List Value},av [x,y] us→∃ u v,us = [u,v]∧ar x u∧ar y v
 | _,_,_,.cons r (.cons q .nil)=>⟨_,_,rfl,r,q⟩
section
variable {X:Cx} {pins:List (Addr×Obj)} {σ:St} {H:Hp} {s:Shared} {l b:Addr} {xs ys zs:List V}
theorem Inv.lset {its its':List Value} {n:Nat} {f:Array Value→Array Value} {t':Nat} (I:Inv X pins σ H s) (hH:H l=some (.lst xs))
 (e:s.heap.get? l=some { cls:=.type "list",data:=.seq its.toArray n }) (hf:f its.toArray=its'.toArray) (hv:av ys its') (hz:ys.length≤sizeLine) :
 Inv X pins σ (upd H l (.lst ys)) { s with heap:=s.heap.update l (Obj.mapSeq f),toks:=t' }:=by
 have q:=PySem.IsL.update e f
 rw [hf] at q
 refine I.write (x:=l) (e:=l) (by rw [hH];exact trivial) (.inl rfl) (fun b' u hb hu=>(Heap.get?_update_other s.heap (Obj.mapSeq f) (Ne.symm hb)).trans hu) ⟨_,q⟩ ?_
 exact ⟨hz,its',_,hv,q⟩
theorem Inv.lnew {its:List Value} {t':Nat} (I:Inv X pins σ H s) (hv:av ys its) (hz:ys.length≤sizeLine) :
 Inv X pins σ (upd H s.heap.objs.size (.lst ys)) { s with heap:=s.heap.push { cls:=.type "list",data:=.seq its.toArray },toks:=t' }:=
 I.laid (fun _ _ q=>Heap.get?_push_of_some _ q) (Nat.le_refl _) ⟨hz,its,0,hv,Heap.get?_push_size _ rfl⟩
theorem Inv.fresh (I:Inv X pins σ H s):H s.heap.objs.size=none:=I.hok.fresh (Nat.le_refl _)
theorem Inv.lstM (I:Inv X pins σ H s) (hH:H l=some (.lst xs)):xs.length≤sizeLine∧∃ (its:List Value) (n:Nat),av xs its∧xs.length=its.length∧s.heap.get? l=some { cls:=.type "list",data:=.seq its.toArray n }:=by
 obtain ⟨z,its,n,r,e⟩:=I.hok l _ hH
 exact ⟨z,its,n,r,r.length,e⟩
end
section
variable {X:Cx}
noncomputable def vn:V→List V→Hp→VK→Prop:=fun x vs H Q=>∃ l xs y,x = .ref l∧vs = [y]∧H l=some (.lst xs)∧xs.length<sizeLine∧Q .non (upd H l (.lst (xs ++ [y])))
theorem jh:MtM X "list.append" vn:=by
 intro pins s σ H x vs v us Q I rx rv h
 obtain ⟨l,xs,y,rfl,rfl,hH,hz,q⟩:=h
 cases rx
 obtain ⟨u,rfl,ru⟩:=rv.one
 obtain ⟨z,its,n,r,hl,e⟩:=I.lstM hH
 refine call_meets F.slot_list_append ⟨_,e,rfl⟩ F.entry_list_append (F.args_list_append_2 _ _) (PySem.list_append l its.toArray n u (by rw [List.size_toArray];omega)) ⟨e,?_⟩
 refine ⟨.non,_,I.lset (its':=its ++ [u]) hH e (by simp) (r.append (.cons ru .nil)) ?_,rfl,q⟩
 rw [List.length_append,List.length_singleton]
 omega
end
end L2
namespace Att
open PySem PySem.W PySem.Calls PyProof.Rows
theorem fX {P:Params} {h:Heap}:∀ (ns:List Int) (vs:List Value),WellAll P h vs (ns.map WData.int)→IntsAre vs ns:=by
 intro ns
 induction ns with
 | nil=>
   intro vs w
   rw [List.map_nil] at w
   cases w
   exact .nil
 | cons n ns ih=>
   intro vs w
   rw [List.map_cons] at w
   cases w with
   | cons a b=>
     cases a
     exact .cons _ _ (ih _ b)
theorem pL {l:OpenLaw} {n:Nat} (hn:l.most=some n) {P:Params} {h:Heap} {args:List WData} {vals:List Value}
 (hpre:l.row.toRowW.claim.pre args=true) (hwl:WellAll P h vals args) :
 ∃ a vs ns,vals = [Value.ref a]∧args = [WData.list (ns.map WData.int)]∧h.get? a=some { cls:=.type "list",data:=.seq vs.toArray }∧IntsAre vs ns∧ns.length≤n:=by
 have hsh:WShape.hasAll [] args [.list .int]=true:=(pre_splitW hpre).1
 have hc:l.pre.holds [] { args:=args }=true:=(pre_splitW hpre).2
 obtain ⟨d,r,rfl,h1,h2⟩:=hasAllW_cons hsh
 obtain rfl:=hasAllW_nil h2
 obtain ⟨xs,rfl,h3⟩:=hasW_list h1
 obtain ⟨ns,rfl⟩:=items_int h3
 have hlen:ns.length≤n:=by
  unfold OpenLaw.pre at hc
  have h4:(WTm.not (.lt (.lit (.int (n:Int))) (.len (.arg 0)))).holds [] { args:=[.list (ns.map .int)] }=true:=by
   have h4:=(holds_andW hc).1
   rw [hn] at h4
   exact h4
  have h5:=condW_of h4 (w_not (w_lt w_lit (w_len_list (w_arg rfl))))
  rw [List.length_map] at h5
  refine Nat.le_of_not_lt fun q=>?_
  have q':(n:Int)<((ns.length:Nat):Int):=by omega
  first
   | (rw [decide_eq_true q'] at h5;exact absurd h5 (by decide))
   | (simp at h5;omega)
 cases hwl with
 | cons w1 w2=>
   cases w2
   cases w1 with
   | list ho hall=>exact ⟨_,_,ns,rfl,rfl,ho,fX ns _ hall,hlen⟩
theorem pE (l:OpenLaw) (args:List WData):l.row.toRowW.claim.post args (.bool true) args=true:=
 postW_of (r:=l.row.toRowW) (X:=(true == true))
  (show WShape.has [] (.bool true) .bool=true by first | rfl | decide | simp [WShape.has,WShape.arms,WShape.armsAll])
  (show (WTm.eq .res (.lit (.bool true))).value [] { args:=args,res:=some (.bool true),after:=args }=some (.bool (true == true)) from w_eq_bool (w_res rfl) w_lit) rfl
theorem attach_call {l:OpenLaw} {n:Nat} {q:Program} {loose:List Str} {XP:(Str→Option Value)→Heap→Prop} {YP:World→Heap→Prop} {d:DefRec}
 (hn:l.most=some n) (hdf:d.params.defaults = [])
 (call:∀ (w:World) (s₀ s₁:Shared) (mg mb:Str→Option Value) (fa:Addr) (o:Obj) (pm cd doc:Value) (a:Addr) (vs:List Value) (ns:List Int),
  Ground q loose [] XP w s₀ mg mb s₁.heap→YP w s₁.heap →
  s₁.heap.get? fa=some o→o.data = .func (docDef d.name d.params d.body d.scope pm cd doc)→s₁.heap.CodeRec cd d.name→mg d.name=some (.ref fa) →
  s₁.heap.get? a=some { cls:=.type "list",data:=.seq vs.toArray }→IntsAre vs ns→ns.length≤n→s₁.gens = #[] →
  codeAny (model l.prog w) callerA (.call (.ref fa) ⟨[.ref a],[]⟩) (fun r s'=>r = .ok (.ret (.bool true))∧OldK s₁.heap s'.heap∧s'.os=s₁.os∧AllBare s'.gens) s₁) :
 WalkO q loose XP YP l.row.toRowW d [] (fun f vs=>PySem.call f vs):=by
 intro w s₀ s₁ mg mb G Y fa o pm cd doc dV kV ho hd hcd hD hmg hg args vals as hpre hlay hrd hwl hlo
 obtain rfl:dV = .none:=Dflts.none hD hdf
 obtain rfl:kV = .none:=Dflts.noKw hD
 obtain ⟨a,vs,ns,rfl,rfl,hobj,hints,hlen⟩:=pL hn hpre hwl
 refine enter_call (codeAny_mono (call w s₀ s₁ mg mb fa o pm cd doc a vs ns G Y ho (fd_plain hd) hcd hmg hobj hints hlen hg) fun r s' hq=>?_)
 obtain ⟨rfl,h2,h3,h4⟩:=hq
 exact ⟨.inl ⟨.bool true,.bool true,[],rfl,fun _=>rfl,.bool true,pE l _,fun _=>⟨List.Pairwise.nil,fun _ hm=>(nomatch hm)⟩⟩,h2,h3,h4⟩
end Att
namespace L2
theorem jr:∀ {vs:List Value} {ns:List Int},IntsAre vs ns→av (ns.map V.int) vs
 | _,_,.nil=>.nil
 | _,_,.cons n t h=>.cons ⟨t,rfl⟩ (jr h)
noncomputable def wM (H:Hp):Prop:=∀ b,H b=none∨∃ o xs,H b=some (.frz o (.lst xs))
theorem qY {P:Program} {w:World} {K:Fg} {mg mb:Str→Option Value} {CX:CXT} {k:Nat} {fa a:Addr} {fd:FuncData} {x:Str} {sp:Sp} {s₁:Shared} {vs:List Value} {ns:List Int}
 (KX:K.In s₁.heap) (hns:s₁.heap.Ns mainGlobals mg) (hb:s₁.heap.Ns builtinsNs mb) (hbb:∀ x:Str,x≠"__name__"→mb x=bootBuiltins x) (hlim:s₁.heap.NoLimit) (hg:s₁.gens = #[])
 (ha:s₁.heap.get? a=some { cls:=.type "list",data:=.seq vs.toArray }) (hi:IntsAre vs ns) (hl:ns.length≤sizeLine) (hr:Room k callerA)
 (F:∀ base:Heap,K.In base→base.Ns mainGlobals mg→aR P w K mg base CX k fa fd [x] sp) (hbind:∀ (s:Shared) (u:Value),BindsTo s fd ⟨[u],[]⟩ [(x,u)])
 (hsp:∀ H:Hp,wM H→SqL K H a (ns.map V.int)→sp [.ref a] H (fun v _=>v = .bl true) fun _ _ _=>False)
 (hCX:∀ H e s',CX [] H s₁ (fun _ _ _=>False) e s'→False) :
 codeAny (model P w) callerA (.call (.ref fa) ⟨[.ref a],[]⟩) (fun r s'=>r = .ok (.ret (.bool true))∧OldK s₁.heap s'.heap∧s'.os=s₁.os∧AllBare s'.gens) s₁:=by
 have rv:=jr hi
 have lenV:=hi.length
 have core:∀ H:Hp,wM H→SqL K H a (ns.map V.int)→HOk P w H s₁.heap→(∀ b,H b≠none→b=a)→(H a≠none→K.lookup a=none) →
  codeAny (model P w) callerA (.call (.ref fa) ⟨[.ref a],[]⟩) (fun r s'=>r = .ok (.ret (.bool true))∧OldK s₁.heap s'.heap∧s'.os=s₁.os∧AllBare s'.gens) s₁:=by
  intro H hO hS hok hA hK
  have base_of:∀ {b:Addr} {o:Obj},s₁.heap.get? b=some o→H b=none→(jF s₁.heap H).get? b=some o:=fun e n=>qP e n
  have noA:∀ {b:Addr} {o:Obj} {es:Array DictEntry} {ep:Nat},s₁.heap.get? b=some o→o.data = .dict es ep→H b=none:=fun {b o es ep} e d=>by
   cases q:H b with
   | none=>rfl
   | some u=>
     have e':b=a:=hA b (by rw [q];simp)
     subst e'
     rw [ha] at e;cases e
     have d':Data.seq vs.toArray _=Data.dict es ep:=d
     cases d'
  have nsK:∀ {b:Addr} {m:Str→Option Value},s₁.heap.Ns b m→(jF s₁.heap H).Ns b m:=fun {b m} ⟨o,es,ep,e,d,r⟩=>⟨o,es,ep,base_of e (noA e d),d,r⟩
  have hKb:K.In (jF s₁.heap H):=fun b o e=>base_of (KX b o e) (by
   cases q:H b with
   | none=>rfl
   | some u=>
     have e':b=a:=hA b (by rw [q];simp)
     subst e'
     rw [hK (by rw [q];simp)] at e;cases e)
  have hM:Mod K mg (jF s₁.heap H):=⟨hKb,nsK hns,⟨mb,nsK hb,hbb⟩,let ⟨mc,h1,h2⟩:=hlim;⟨mc,nsK h1,h2⟩⟩
  have e0:lN P w K mg (jF s₁.heap H) callerA [] s₁ H:=⟨rfl,hM,fun b o e=>uJ e,Nat.le_of_eq (pi _ _),trivial,fun b hb=>absurd (show b∈([]:List Addr) from hb) (by simp),hok,.of_eq hg⟩
  refine codeAny_mono ((F _ hKb (nsK hns)).run callerA [] s₁ H ⟨[.ref a],[]⟩ [.ref a] [.ref a] _ _ hr e0 (hbind s₁ (.ref a)) (.cons rfl .nil) (hsp H hO hS)) fun r s' h=>?_
  cases r with
  | error e=>exact (hCX H e s' h).elim
  | ok fl=>
    cases fl with
    | next=>exact False.elim h
    | brk=>exact False.elim h
    | cont=>exact False.elim h
    | ret u=>
      obtain ⟨v,H',os,bare,un,hok',r',q⟩:=h
      have q':v = .bl true:=q
      subst q'
      obtain rfl:u=Value.bool true:=r'
      refine ⟨rfl,OldK.of_keep fun b o e=>?_,os,bare⟩
      cases q:H b with
      | none=>exact un.keep b o e q (by intro z;exact absurd (show b∈([]:List Addr) from z) (by simp)) (by simp)
      | some u=>
        rcases hO b with z | ⟨ob,xs,z⟩
        ·rw [q] at z;cases z
        ·have z2:=un.frzs b ob _ z
         obtain ⟨e1,_⟩:=hok b _ z
         obtain ⟨e2,_⟩:=hok' b _ z2
         rw [e] at e1;cases e1
         exact e2
 cases hk:K.lookup a with
 | some o=>
   have e:=KX a o hk
   rw [ha] at e
   cases e
   refine core (fun _=>none) (fun _=>.inl rfl) (.inr ⟨_,vs.toArray,_,hk,rfl,rfl,rfl,by rw [List.size_toArray,lenV];exact hl,by simpa using rv⟩) (fun b u z=>by have z':(none:Option HO)=some u:=z;cases z') (fun b z=>absurd rfl z) fun z=>absurd rfl z
 | none=>
   refine core (fun b=>if b=a then some (.frz { cls:=.type "list",data:=.seq vs.toArray } (.lst (ns.map V.int))) else none) (fun b=>?_) (.inl (.inr ⟨{ cls:=.type "list",data:=.seq vs.toArray },if_pos rfl⟩)) (fun b u z=>?_) (fun b z=>?_) fun _=>hk
   ·by_cases hb:b=a
    ·exact .inr ⟨_,_,if_pos hb⟩
    ·exact .inl (if_neg hb)
   ·by_cases hb:b=a
    ·have z':=(if_pos hb).symm.trans z
     cases z'
     subst hb
     exact ⟨ha,by rw [List.length_map];exact hl,vs,_,rv,ha⟩
    ·have z':=(if_neg hb).symm.trans z
     cases z'
   ·by_cases hb:b=a
    ·exact hb
    ·exact absurd (if_neg hb) z
end L2
namespace L2
noncomputable abbrev KOf {K:Fg} {h:Heap} (_:K.In h):Fg:=K
theorem walk_of {l:PySem.W.OpenLaw} {n k:Nat} {q:Program} {loose:List Str} {XP:(Str→Option Value)→Heap→Prop} {YP:World→Heap→Prop} {d:DefRec} {K:Params→Fg} {CX:World→CXT} {sp:World→Sp} {x:Str}
 (hn:l.most=some n) (hn2:n≤sizeLine) (hdf:d.params.defaults = []) (hr:Room k callerA)
 (hY:∀ (w:World) (h:Heap),YP w h→(K w.params).In h)
 (F:∀ (w:World) (mg:Str→Option Value) (fa:Addr) (h:Heap),(K w.params).In h→h.Ns mainGlobals mg→mg d.name=some (.ref fa) →
  ∃ fd:FuncData,(∀ (s:Shared) (u:Value),BindsTo s fd ⟨[u],[]⟩ [(x,u)]) ∧
    ∀ base:Heap,(K w.params).In base→base.Ns mainGlobals mg→aR l.prog w (K w.params) mg base (CX w) k fa fd [x] (sp w))
 (hsp:∀ (w:World) (H:Hp) (a:Addr) (ns:List Int),ns.length≤n→wM H→SqL (K w.params) H a (ns.map V.int)→sp w [.ref a] H (fun v _=>v = .bl true) fun _ _ _=>False)
 (hCX:∀ (w:World) (H:Hp) (s:Shared) (e:Value) (s':Shared),CX w [] H s (fun _ _ _=>False) e s'→False) :
 PySem.W.WalkO q loose XP YP l.row.toRowW d [] (fun f vs=>PySem.call f vs):=by
 refine Att.attach_call hn hdf fun w s₀ s₁ mg mb fa o pm cd doc a vs ns G Y ho hd hcd hmg hobj hints hlen hg=>?_
 have KX:=hY w _ Y
 obtain ⟨fd,hb,hF⟩:=F w mg fa _ KX G.T.g hmg
 exact qY KX G.T.g G.T.b G.T.builtins G.T.nolimit hg hobj hints (Nat.le_trans hlen hn2) hr hF hb (fun H hO hS=>hsp w H a ns hlen hO hS) fun H e s'=>hCX w H s₁ e s'
end L2
namespace L2
noncomputable def bS (s:Stmt):Arguments:=match s with
 | .FunctionDef _ a _ _ _ _ _ _ _ _=>a
 | _=>{ posonlyargs:=[],args:=[],vararg:=none,kwonlyargs:=[],kw_defaults:=[],kwarg:=none,defaults:=[] }
noncomputable def bf (s:Stmt):List Stmt:=match s with
 | .FunctionDef _ _ b _ _ _ _ _ _ _=>b
 | _=>[]
noncomputable def am (s:Stmt):Scope:=match s with
 | .FunctionDef _ _ _ _ _ _ sc _ _ _=>sc
 | _=>{ kind:=.function,names:=[],isGenerator:=false,isCoroutine:=false }
noncomputable abbrev CX0:CXT:=fun _ _ _ _ _ _=>False
noncomputable abbrev E0:XK:=fun _ _ _=>False
structure Fun (K:Fg) (x qual:Str) (st:Stmt) (f:Addr) (fd:FuncData):Prop where
 ex:∃ (oc:Value) (od:Option Addr) (kV doc pm:Value) (an:Option Addr) (cdv ct:Value) (osl:Array (Option Value)),
  fd=PySem.W.fnOf x qual (bS st) (bf st) (am st) .none kV doc pm an cdv ct∧K.lookup f=some ⟨oc,od,.func fd,osl⟩∧PySem.W.codeIn K cdv qual=true
 kp:PySem.W.keepIn K (.ref f)=true
section
variable {P:Program} {w:World} {K:Fg} {mg:Str→Option Value} {base:Heap}
theorem Fun.ok {x qual:Str} {st:Stmt} {f:Addr} {fd:FuncData} {N ps:List Str} {k:Nat} {sp:Sp} (F:Fun K x qual st f fd) (S:bt N ps (am st)) (len:∀ vs H Q E,sp vs H Q E→vs.length=ps.length)
 (hbody:∀ (cdv:Value) (A:Around) (outer:List Env) (s:Shared) (H:Hp) (vs:List V) (Q:VK) (E:XK),Room k (A.deeper (envOfC qual (am st) s.heap.objs.size f cdv))→sp vs H Q E →
  ∃ t,PSs (iI CX0 P w K mg base N qual (am st) f cdv A outer s H E).nox (bf st) t∧t { nx:=fun _ H'=>Q .non H',rt:=Q } (cA N vs) H):aR P w K mg base CX0 (k+1) f fd ps sp:=by
 obtain ⟨oc,od,kV,doc,pm,an,cdv,ct,osl,rfl,lk,hcd⟩:=F.ex
 refine wf lk hcd S len fun A outer s H vs Q E hr hsp=>?_
 obtain ⟨t,h,q⟩:=hbody cdv A outer s H vs Q E hr hsp
 exact ⟨t,h.nox,q⟩
theorem Fun.binds {x qual:Str} {st:Stmt} {f:Addr} {fd:FuncData} {ps:List Str} (F:Fun K x qual st f fd)
 (h:∀ (kV doc pm:Value) (an:Option Addr) (cdv ct:Value) (us:List Value),us.length=ps.length→bindArgs (PySem.W.fnOf x qual (bS st) (bf st) (am st) .none kV doc pm an cdv ct) ⟨us,[]⟩=pure (ps.zip us)):a8 K fd ps []:=by
 obtain ⟨oc,od,kV,doc,pm,an,cdv,ct,osl,rfl,lk,hcd⟩:=F.ex
 exact .all (h kV doc pm an cdv ct)
theorem lZ {x qual:Str} {st:Stmt} {f:Addr} {oc:Value} {od an:Option Addr} {osl:Array (Option Value)} {kV doc pm cdv ct:Value} (l:K.lookup f=some ⟨oc,od,.func (PySem.W.fnOf x qual (bS st) (bf st) (am st) .none kV doc pm an cdv ct),osl⟩)
 (c:PySem.W.codeIn K cdv qual=true) (k:PySem.W.keepIn K (.ref f)=true):Fun K x qual st f (PySem.W.fnOf x qual (bS st) (bf st) (am st) .none kV doc pm an cdv ct):=⟨⟨oc,od,kV,doc,pm,an,cdv,ct,osl,rfl,l,c⟩,k⟩
end
theorem pN {n:Nat} (h:n≤1000):n<sizeLine:=Nat.lt_of_le_of_lt h (by decide)
section
variable {X:Cx}
theorem pv (i:Nat) {x:Str} {pos:Pos} (hN:X.N[i]? = some x:=by rfl) (hv:Vis X.env.scope x:=by first | exact Or.inl rfl | exact Or.inr (Or.inl rfl) | exact Or.inr (Or.inr rfl)) (hd:(x == ("__debug__":Str))=false:=by decide)
 (hcd:(x == ("__classdict__":Str))=false:=by decide):PE X (.Name x pos) (y7 i):=fw hN hv hd hcd
end
theorem kM {A B:Prop} (h:B):if false=true then A else B:=by
 rw [if_neg Bool.false_ne_true]
 exact h
theorem kN {A B:Prop} (h:A):if true=true then A else B:=by
 rw [if_pos rfl]
 exact h
end L2
section
namespace L2.Bw
noncomputable def gF (env:Env):NK→List (Str×Addr)→List (Str×Addr)
 | [],cs=>cs
 | y :: r,cs=>gF env r (if (y.2 == NameKind.free)=true then (match env.cells.lookup y.1 with | some a=>(y.1,a) :: cs | none=>cs) else cs)
theorem ck {β:Type}:∀ {l:List (Str×β)} {p:Str×β},p∈l→∃ c,l.lookup p.1=some c
 | [],_,h=>nomatch h
 | (a,b) :: r,p,h=>by
   cases e:p.1 == a with
   | true=>exact ⟨b,by simp only [List.lookup_cons,e]⟩
   | false=>
     rcases List.mem_cons.mp h with q | q
     ·subst q;simp at e
     ·obtain ⟨c,hc⟩:=ck q
      exact ⟨c,by simp only [List.lookup_cons,e];exact hc⟩
theorem kq {env:Env}:∀ {ns:NK} {cs:List (Str×Addr)} {p:Str×Addr},p∈gF env ns cs→p∈cs∨env.cells.lookup p.1=some p.2
 | [],_,_,h=>.inl h
 | y :: r,cs,p,h=>by
   rcases kq (ns:=r) h with q | q
   ·by_cases hk:(y.2 == NameKind.free)=true
    ·rw [if_pos hk] at q
     cases e:env.cells.lookup y.1 with
     | none=>rw [e] at q;exact .inl q
     | some a=>
       rw [e] at q
       rcases List.mem_cons.mp q with rfl | q
       ·exact .inr e
       ·exact .inl q
    ·rw [if_neg hk] at q;exact .inl q
   ·exact .inr q
theorem iV {env:Env}:∀ {ns:NK} {cs:List (Str×Addr)} {p:Str×Addr},p∈cs→p∈gF env ns cs
 | [],_,_,h=>h
 | y :: r,cs,p,h=>by
   refine iV (ns:=r) ?_
   by_cases hk:(y.2 == NameKind.free)=true
   ·rw [if_pos hk]
    cases e:env.cells.lookup y.1 with
    | none=>exact h
    | some a=>exact List.mem_cons_of_mem _ h
   ·rw [if_neg hk];exact h
theorem gG {env:Env}:∀ {ns:NK} {cs:List (Str×Addr)} {y:Str×NameKind} {c:Addr},y∈ns→y.2 = .free→env.cells.lookup y.1=some c→(y.1,c)∈gF env ns cs
 | z :: r,cs,y,c,h,hf,hc=>by
   rcases List.mem_cons.mp h with rfl | h
   ·refine iV (ns:=r) ?_
    rw [if_pos (by rw [hf];rfl),hc]
    exact List.mem_cons_self
   ·exact gG (ns:=r) h hf hc
theorem dR {env:Env} {f:(Str×NameKind)→List (Str×Addr)→Sem (ForInStep (List (Str×Addr)))}
 (hf:∀ y cs,f y cs=if (y.2 == NameKind.free)=true then (do let a ← cellOf env y.1;pure (ForInStep.yield ((y.1,a) :: cs))) else pure (ForInStep.yield cs)) :
 ∀ (ns:NK) (cs:List (Str×Addr)),(∀ y∈ns,y.2 = .free→∃ c,env.cells.lookup y.1=some c)→(forIn ns cs f:Sem _)=pure (gF env ns cs)
 | [],cs,_=>rfl
 | y :: r,cs,h=>by
   rw [List.forIn_cons,hf]
   by_cases hk:(y.2 == NameKind.free)=true
   ·obtain ⟨c,hc⟩:=h y List.mem_cons_self (by simpa using hk)
    have e1:cellOf env y.1=pure c:=by unfold cellOf;rw [hc]
    rw [if_pos hk,e1]
    have ih:=dR hf r ((y.1,c) :: cs) fun z hz=>h z (List.mem_cons_of_mem _ hz)
    show (forIn r ((y.1,c) :: cs) f:Sem _)=pure (gF env r _)
    rw [ih,if_pos hk,hc]
   ·have ih:=dR hf r cs fun z hz=>h z (List.mem_cons_of_mem _ hz)
    rw [if_neg hk]
    show (forIn r cs f:Sem _)=pure (gF env r _)
    rw [ih,if_neg hk]
theorem gI {env:Env} {sc:Scope} (h:∀ y∈sc.names,y.2 = .free→∃ c,env.cells.lookup y.1=some c):closureFor sc env=pure (gF env sc.names []):=by
 simp only [closureFor]
 rw [dR (env:=env) (fun y cs=>by obtain ⟨n,kd⟩:=y;by_cases hk:(kd == NameKind.free)=true <;> simp [hk]) sc.names [] h]
 rfl
noncomputable def cxC (X:Cx) (N:List Str) (sc:Scope) (C:Addr) (s:Shared) (H:Hp) (fp:List Addr):Cx where
 prog:=X.prog
 w:=X.w
 K:=X.K
 mg:=X.mg
 base:=X.base
 A:=X.A
 N:=N
 s₀:=s
 H₀:=H
 env:=compEnvC sc (gF X.env sc.names []) C X.env
 outer:=X.stack
 stack:=X.stack
 ex:=fp
 fn:=fun _=>false
 calm:=X.calm
 pn:=[]
 xe:=fun _ _=>False
noncomputable def jl (sc:Scope) (env:Env) (p:Str×Str):Bool:=match (relabel sc env).names.lookup p.1 with
 | some .local=>false
 | some .cell=>p.1 == p.2
 | some .free=>p.1 == p.2
 | _=>true
structure Lc (X:Cx) (sc:Scope) (k:Nat) (N:List Str):Prop where
 nocell:∀ y∈sc.names,y.2≠.cell
 kind:sc.kind = .function
 names:∀ y∈sc.names,y.2 = .local→sc.names.lookup y.1=some .local
 fr:∀ y∈sc.names,y.2 = .free→X.env.kindOf y.1=some .cell∨X.env.kindOf y.1=some .free
 len:N.length=k+X.N.length
 old:((N.drop k).zip X.N).all (jl sc X.env)=true
theorem z8 {X:Cx} {sc:Scope} {k:Nat} {N:List Str} (h1:(sc.names.all fun y=>y.2 != .cell)=true) (h2:sc.kind = .function) (h3:(sc.names.all fun y=>y.2 != .local || sc.names.lookup y.1 == some .local)=true)
 (h4:(sc.names.all fun y=>y.2 != .free || (X.env.kindOf y.1 == some .cell || X.env.kindOf y.1 == some .free))=true) (h5:N.length=k+X.N.length) (h6:((N.drop k).zip X.N).all (jl sc X.env)=true):Lc X sc k N where
 nocell:=fun y hy=>by have:=List.all_eq_true.mp h1 y hy;simpa using this
 kind:=h2
 names:=fun y hy hl=>by have:=List.all_eq_true.mp h3 y hy;simpa [hl] using this
 fr:=fun y hy hl=>by have:=List.all_eq_true.mp h4 y hy;simpa [hl] using this
 len:=h5
 old:=h6
section
variable {X:Cx} {sc:Scope} {k:Nat} {N:List Str} {pins:List (Addr×Obj)} {σ:St} {H:Hp} {s:Shared} {fp:List Addr}
theorem Lc.cells (L:Lc X sc k N) (ok:X.Ok):∀ y∈sc.names,y.2 = .free→∃ c,X.env.cells.lookup y.1=some c:=fun y hy hf=>ok.has y.1 (L.fr y hy hf)
theorem gH {x:Str} {c:Addr} (e:(gF X.env sc.names []).lookup x=some c):X.env.cells.lookup x=some c:=by
 rcases kq (PySem.mem_of_lookup e) with q | q
 ·exact nomatch q
 ·exact q
theorem b8 (L:Lc X sc k N) {x:Str} {kd:NameKind} (e:(relabel sc X.env).names.lookup x=some kd) (hk:kd = .cell∨kd = .free):(x,NameKind.free)∈sc.names:=by
 have hm:=PySem.mem_of_lookup e
 obtain ⟨⟨n,k'⟩,hy,q⟩:=List.mem_map.mp hm
 dsimp only at q
 by_cases hc:(k' == NameKind.free && X.env.scope.kind == .function && X.env.kindOf n == some .cell)=true
 ·rw [if_pos hc] at q
  have e1:n=x:=congrArg Prod.fst q
  have e2:k' = .free:=by simp at hc;exact hc.1.1
  subst e1 e2
  exact hy
 ·rw [if_neg hc] at q
  have e1:n=x:=congrArg Prod.fst q
  have e2:k'=kd:=congrArg Prod.snd q
  subst e1 e2
  rcases hk with rfl | rfl
  ·exact absurd rfl (L.nocell _ hy)
  ·exact hy
theorem oY (L:Lc X sc k N) {i:Nat} {x:Str} (hi:N[i]? = some x) (hk:k≤i) (v:Vis (relabel sc X.env) x):X.N[i - k]? = some x∧(x,NameKind.free)∈sc.names:=by
 have hlt:i<N.length:=(List.getElem?_eq_some_iff.mp hi).1
 have hl:=L.len
 have h2:i - k<X.N.length:=by omega
 have e1:(N.drop k)[i - k]? = some x:=by rw [List.getElem?_drop];rw [show k+(i - k)=i by omega];exact hi
 have e2:X.N[i - k]? = some X.N[i - k]:=List.getElem?_eq_getElem h2
 have hz:((N.drop k).zip X.N)[i - k]? = some (x,X.N[i - k]):=by rw [List.getElem?_zip_eq_some];exact ⟨e1,e2⟩
 have ho:=List.all_eq_true.mp L.old _ (List.mem_of_getElem? hz)
 have v':(relabel sc X.env).names.lookup x=some .local∨(relabel sc X.env).names.lookup x=some .cell∨(relabel sc X.env).names.lookup x=some .free:=v
 unfold jl at ho
 rcases v' with q | q | q
 ·simp only [q] at ho;cases ho
 ·simp only [q] at ho
  have e3:x=X.N[i - k]:=by simpa using ho
  exact ⟨by rw [e2,← e3],b8 L q (.inl rfl)⟩
 ·simp only [q] at ho
  have e3:x=X.N[i - k]:=by simpa using ho
  exact ⟨by rw [e2,← e3],b8 L q (.inr rfl)⟩
theorem Aa (L:Lc X sc k N) (I:Inv X pins σ H s) (fo:∀ b∈fp,cX X pins H b) (ob:∀ b∈fp,∃ o,s.heap.get? b=some o) {C:Addr} (hC:s.heap.objs.size≤C):(cxC X N sc C s H fp).Ok where
 mod:=I.ok.mod
 kind:=L.kind
 glob:=I.ok.glob
 blt:=I.ok.blt
 above:=hC
 inj:=fun x y c h1 h2=>I.ok.inj x y c (gH h1) (gH h2)
 has:=fun x hx=>by
  have hx':(relabel sc X.env).names.lookup x=some .cell∨(relabel sc X.env).names.lookup x=some .free:=hx
  have hm:(x,NameKind.free)∈sc.names:=by
   rcases hx' with q | q
   ·exact b8 L q (.inl rfl)
   ·exact b8 L q (.inr rfl)
  obtain ⟨c,hc⟩:=L.cells I.ok _ hm rfl
  exact ck (gG hm rfl hc)
 cab:=fun x c h _=>nomatch h
 hd:=I.ok.hd
 frames:=I.ok.frames
 stk:=.inl rfl
 exf:=fun b hb=>by
  obtain ⟨o,e⟩:=ob b hb
  refine ⟨Nat.ne_of_lt (Nat.lt_of_lt_of_le (Heap.lt_size e) hC),fun x c h=>(fo b hb).2.2.2.2.1 x c (gH h)⟩
 bs:=I.bs
 bsz:=Nat.le_trans I.ok.bsz I.sz
 noex:=fun b o e hb=>by
  rcases (fo b hb).2.2.2.1 with q | q
  ·exact I.ok.noex b o e q
  ·exact absurd (Nat.lt_of_lt_of_le (Heap.lt_size e) (Nat.le_trans I.ok.bsz q)) (Nat.lt_irrefl _)
 exfs:=fun b hb hf=>by
  rcases List.mem_cons.mp (I.stkSub b hf) with q | q
  ·exact (fo b hb).2.1 q
  ·exact (fo b hb).2.2.1 q
 funs:=I.stack
 frf:=I.stkFree
theorem qZ (L:Lc X sc k N) (I:Inv X pins σ H s) (fo:∀ b∈fp,cX X pins H b) (ob:∀ b∈fp,∃ o,s.heap.get? b=some o) {C:Addr} {h':Heap} {tk n:Nat} {m:Str→Option Value} (hC:s.heap.objs.size<C)
 (kp:∀ b o,s.heap.get? b=some o→h'.get? b=some o) (hd:h'.get? s.heap.objs.size=some { cls:=.type "list",data:=.seq ([]:List Value).toArray n }) (hn:h'.Ns C m) :
 Inv (cxC X N sc C s H fp) [] (List.replicate k none ++ σ) (upd H s.heap.objs.size (.lst [])) { s with heap:=h',toks:=tk }:=by
 have hD:H s.heap.objs.size=none:=I.hok.fresh (Nat.le_refl _)
 have nofr:∀ b,H b=none→b≠s.heap.objs.size→upd H s.heap.objs.size (.lst []) b=none:=fun b h1 h2=>by rw [aa h2];exact h1
 have clt:∀ x c,X.env.cells.lookup x=some c→c<s.heap.objs.size:=fun x c e=>by obtain ⟨v,q⟩:=I.cell x c e;exact q.lt
 have ckeep:∀ {c:Addr} {v:Option Value},s.heap.IsCell c v→h'.IsCell c v:=fun {c v} ⟨o,e,d⟩=>⟨o,kp c o e,d⟩
 refine ⟨Aa L I fo ob (Nat.le_of_lt hC),rfl,I.bare,Un.laid kp (Nat.le_refl _) hD,⟨m,hn,fun i x v h1 h2 h3=>?_⟩,fun x c e=>?_,?_,fun x c e=>?_,fun p hp=>absurd (show p∈([]:List (Addr×Obj)) from hp) (by simp),?_,?_⟩
 ·have hki:k≤i:=by
   by_cases q:i<k
   ·rw [List.getElem?_append_left (by simpa using q),List.getElem?_replicate,if_pos q] at h2
    cases h2
   ·omega
  rw [List.getElem?_append_right (by simpa using hki),List.length_replicate] at h2
  obtain ⟨hx,hm⟩:=oY L h1 hki h3
  have hkx:=L.fr _ hm rfl
  have hvis:Vis X.env.scope x:=by
   rcases hkx with q | q
   ·exact .inr (.inl q)
   ·exact .inr (.inr q)
  obtain ⟨m0,_,hl⟩:=I.loc
  obtain ⟨u,r,l⟩:=hl (i - k) x v hx h2 hvis
  refine ⟨u,r,?_⟩
  rcases l with ⟨q,_⟩ | ⟨_,c,hc,hcell⟩
  ·rcases hkx with z | z
   ·rw [show X.env.kindOf x=some .cell from z] at q;cases q
   ·rw [show X.env.kindOf x=some .free from z] at q;cases q
  ·obtain ⟨c',hc'⟩:=ck (gG hm rfl hc)
   have e:=gH hc'
   rw [hc] at e;cases e
   refine .inr ⟨?_,c,hc',ckeep hcell⟩
   have v':(relabel sc X.env).names.lookup x=some .local∨(relabel sc X.env).names.lookup x=some .cell∨(relabel sc X.env).names.lookup x=some .free:=h3
   rcases v' with z | z | z
   ·exfalso
    have hlt:i<N.length:=(List.getElem?_eq_some_iff.mp h1).1
    have hl':=L.len
    have h2':i - k<X.N.length:=by omega
    have hz:((N.drop k).zip X.N)[i - k]? = some (x,X.N[i - k]):=by
     rw [List.getElem?_zip_eq_some]
     exact ⟨by rw [List.getElem?_drop,show k+(i - k)=i by omega];exact h1,List.getElem?_eq_getElem h2'⟩
    have ho:=List.all_eq_true.mp L.old _ (List.mem_of_getElem? hz)
    unfold jl at ho
    simp only [z] at ho
    cases ho
   ·exact .inl z
   ·exact .inr z
 ·obtain ⟨v,q⟩:=I.cell x c (gH e)
  exact ⟨v,ckeep q⟩
 ·exact nofr C (I.hok.fresh (Nat.le_of_lt hC)) (Nat.ne_of_gt hC)
 ·exact nofr c (I.freeC x c (gH e)) (Nat.ne_of_lt (clt x c (gH e)))
 ·exact I.hok.laid kp (Nat.le_refl _) (show aC X.prog X.w _ h' _ (.lst []) from ⟨Nat.zero_le _,[],n,.nil,hd⟩)
 ·show (List.replicate k none ++ σ).length=N.length
  rw [List.length_append,List.length_replicate,L.len,I.len]
theorem jM (I:Inv X pins σ H s) (fo:∀ b∈fp,cX X pins H b) {C:Addr} {σ':St} {H':Hp} {s':Shared} (J:Inv (cxC X N sc C s H fp) [] σ' H' s'):Inv X pins σ H' s':=
 I.call' (ch:=fp) J.os J.base J.hok J.bare fun b hb=>let ⟨_,h1,_,h3,h4,h5⟩:=fo b hb;⟨h3,h1,h4,h5⟩
end
noncomputable def PTs (Y:Cx) (ifs:List Expr) (t:TT):Prop:=
 ∀ (pins:List (Addr×Obj)) (s:Shared) (σ:St) (H:Hp) (Q:Bool→Hp→Prop),Inv Y pins σ H s→t σ H Q →
   wpAny (model Y.prog Y.w) Y.A (forIn ifs true fun c r=>if r=true then do let ok ← isTrue c Y.env (eval c Y.env);pure (ForInStep.yield ok) else pure (ForInStep.yield r)) (TP Y pins σ Q) Y.xe s
noncomputable def B1:TT:=fun _ H Q=>Q true H
theorem vj {Y:Cx}:PTs Y [] B1:=fun _ _ _ H _ I h=>wpAny_tests_nil ⟨H,I,h⟩
theorem vk {Y:Cx} {c:Expr} {t:TT} (h:PT Y c t):PTs Y [c] t:=fun pins s σ H Q I q=>wpAny_tests_one (h pins s σ H Q I q)
noncomputable def pY (J:It) (g:TG) (tt:TT) (te:TE) (D:Addr) (W:Nat→Nat→St→Hp→Prop) (Qe:Hp→Prop):Prop:=∀ i m σ H,W i m σ H →
 (J.stop i H∧Qe H)∨(J.go i H∧∀ x H',J.yld i H x H'→g x σ H' fun σ2 H2=>tt σ2 H2 fun b H3=>
   if b=true then te σ2 H3 fun y H4=>∃ ys,H4 D=some (.lst ys)∧ys.length<sizeLine∧∃ m',m'<m∧W (i+1) m' σ2 (upd H4 D (.lst (ys ++ [y])))
   else ∃ m',m'<m∧W (i+1) m' σ2 H3)
theorem um {Y:Cx} {elt tg iter:Expr} {ifs:List Expr} {sc:Scope} {pos:Pos} {J:It} {fp:List Addr} {it D:Addr} {tn:Nat→Heap→Prop} {g:TG} {tt:TT} {te:TE} {W:Nat→Nat→St→Hp→Prop} {Qe:Hp→Prop}
 {R:Result→Shared→Prop} (hc:Y.calm=true) (hx:∀ e s,Y.xe e s→False) (T:iG Y.prog Y.w Y.K tg J fp it tn) (fo:∀ H':Hp,(∀ b∈fp,H' b=none)→∀ b∈fp,cX Y [] H' b)
 (hg:PG Y tg g) (ht:PTs Y ifs tt) (he:PE Y elt te) (turn:pY J g tt te D W Qe) (hR:∀ σ' H' s',Inv Y [] σ' H' s'→Qe H'→R (.ok .next) s')
 {σ:St} {H:Hp} {s:Shared} {m0:Nat} (I:Inv Y [] σ H s) (st:tn 0 s.heap) (fr:∀ b∈fp,H b=none) (w0:W 0 m0 σ H) :
 codeAny (model Y.prog Y.w) Y.A (.compLoop (.ListComp elt [⟨tg,iter,ifs,0⟩] sc pos) 0 (.ref it) (.ref D) Y.env) R s:=by
 refine codeAny_loop rfl (fun n s'=>∃ i σ' H',Inv Y [] σ' H' s'∧tn i s'.heap∧(∀ b∈fp,H' b=none)∧W i n σ' H') (fun n s3 hI=>?_) m0 ⟨0,σ,H,I,st,fr,w0⟩
 obtain ⟨i,σ3,H3,I3,st3,fr3,w3⟩:=hI
 show wpAny (model Y.prog Y.w) Y.A ((compTurn (.ListComp elt [⟨tg,iter,ifs,0⟩] sc pos) 0 (.ref it) (.ref D) Y.env).onRaise (fun x=>do noteFrame x Y.env;theTreesLotGoes x)) _ _ s3
 refine wpAny_noted ?_
 rw [compTurn_list]
 refine wpAny_bind (wpAny_standAt (wpAny_bind ?_))
 rcases turn i n σ3 H3 w3 with ⟨stop,qn⟩ | ⟨go,step⟩
 ·refine thn (T.done Y rfl rfl rfl hc i [] s3 σ3 H3 _ I3 (fo H3 fr3) st3 stop) fun r s4 q4=>?_
  obtain ⟨hr,I4⟩:=q4
  subst hr
  exact wpAny_pure (hR σ3 H3 s4 I4 qn)
 ·refine thn (T.item Y rfl rfl rfl hc i [] s3 σ3 H3 _ I3 (fo H3 fr3) st3 go) fun r s4 q4=>?_
  obtain ⟨u,hr,h4⟩:=q4
  subst hr
  refine wpAny_bind (thn h4 fun _ s5 q5=>?_)
  obtain ⟨x,H5,I5,r5,y5,st5,fr5⟩:=q5
  have I5':=I5.pinned (fo H5 fr5) (T.obj _ _ st5)
  have quit:∀ {e:Value} {s':Shared} {Z:Prop},Y.xe e s'→Z:=fun h=>(hx _ _ h).elim
  refine wpAny_bind (wpAny_mono (hg _ s5 σ3 H5 x u _ I5' r5 (step x H5 y5)) (fun _ s6 q6=>?_) fun _ _ e=>quit e)
  obtain ⟨σ6,H6,I6,q6⟩:=q6
  have fin:∀ {σ7:St} {H7:Hp} {s7:Shared},Inv Y ([] ++ hZ fp s5.heap) σ7 H7 s7→(∃ m',m'<n∧W (i+1) m' σ7 H7)→∃ m,m<n∧∃ i σ' H',Inv Y [] σ' H' s7∧tn i s7.heap∧(∀ b∈fp,H' b=none)∧W i m σ' H':=fun {σ7 H7 s7} I7 q7=>by
   obtain ⟨m',hm,w7⟩:=q7
   refine ⟨m',hm,i+1,σ7,H7,I7.unpinned,T.keep _ _ _ st5 fun b hb o e=>(I7.pin (b,o) (List.mem_append_right _ (List.mem_append_right _ (cH hb e)))).1,fun b hb=>?_,w7⟩
   obtain ⟨o,e,d⟩:=T.obj _ _ st5 b hb
   exact (I7.pin (b,o) (List.mem_append_right _ (List.mem_append_right _ (cH hb e)))).2.1
  refine wpAny_bind (wpAny_mono (ht _ s6 σ6 H6 _ I6 q6) (fun b s7 q7=>?_) fun _ _ e=>quit e)
  obtain ⟨H7,I7,q7⟩:=q7
  cases b with
  | false=>
    rw [if_neg Bool.false_ne_true] at q7
    exact wpAny_pure ⟨rfl,fin I7 q7⟩
  | true=>
    rw [if_pos rfl] at q7
    refine wpAny_bind (wpAny_bind (wpAny_mono (he _ s7 σ6 H7 _ I7 q7) (fun v s8 q8=>?_) fun _ _ e=>quit e))
    obtain ⟨y,H8,I8,r8,ys,hD,hz,q8⟩:=q8
    refine wpAny_bind (wpAny_mono (jh _ s8 σ6 H8 (.ref D) [y] (.ref D) [v] (fun _ H9=>∃ m',m'<n∧W (i+1) m' σ6 H9) I8 rfl (.cons r8 .nil) ⟨D,ys,y,rfl,rfl,hD,hz,q8⟩) (fun _ s9 q9=>?_) fun _ _ e=>quit e)
    obtain ⟨_,H9,I9,_,q9⟩:=q9
    exact wpAny_pure (wpAny_pure ⟨rfl,fin I9 q9⟩)
theorem kS {X:Cx} {sc:Scope} {k:Nat} {N:List Str} {elt tg iter:Expr} {ifs:List Expr} {pos:Pos} {g:TG} {tt:TT} {te:TE} (L:Lc X sc k N) (hc:X.calm=true)
 (hg:∀ C s H fp,PG (cxC X N sc C s H fp) tg g) (ht:∀ C s H fp,PTs (cxC X N sc C s H fp) ifs tt) (he:∀ C s H fp,PE (cxC X N sc C s H fp) elt te)
 {pins:List (Addr×Obj)} {σ:St} {H:Hp} {s:Shared} {it:Addr} {fp:List Addr} {tn:Nat→Heap→Prop} {J:It} {Q:V→Hp→Prop} {E:Value→Shared→Prop} {RR:Value→Addr→Result→Shared→Prop}
 (I:Inv X pins σ H s) (T:iG X.prog X.w X.K tg J fp it tn) (st:tn 0 s.heap) (fo:∀ b∈fp,cX X pins H b)
 (hq:∀ D,H D=none→∃ W,(∃ m,W 0 m (List.replicate k none ++ σ) (upd H D (.lst [])))∧pY J g tt te D W (Q (.ref D)))
 (hRR:∀ C σ' H' s',s.heap.objs.size<C→Inv (cxC X N sc C s H fp) [] σ' H' s'→Q (.ref s.heap.objs.size) H'→RR (.ref s.heap.objs.size) C (.ok .next) s') :
 wpAny (model X.prog X.w) X.A (newList []) (fun acc s3=>wpAny (model X.prog X.w) X.A (newFunctionEnv sc X.env.globals (gF X.env sc.names []) [] X.env.qual none .none (some X.env)) (fun cenv s4=>
  codeAny (model X.prog X.w) X.A (.compStart (.ListComp elt [⟨tg,iter,ifs,0⟩] sc pos) 0 (.ref it) acc { cenv with scope:=relabel sc X.env }) (RR acc cenv.locals) s4) E s3) E s:=by
 refine wpAny_newObj_type (wpAny_newFunctionEnv L.nocell (by intro y hy;simp at hy) (fun h1 hns hsb=>?_) L.kind)
 dsimp only at hns hsb ⊢
 generalize hG:s.heap.push { cls:=.type "list",dict:=none,data:=.seq ([]:List Value).toArray }=G at hns hsb ⊢
 have hC:G.objs.size=s.heap.objs.size+1:=by rw [← hG,Heap.size_push]
 have hlt:s.heap.objs.size<G.objs.size:=by omega
 have ob:∀ b∈fp,∃ o,s.heap.get? b=some o:=fun b hb=>let ⟨o,e,_⟩:=T.obj _ _ st b hb;⟨o,e⟩
 have up:∀ b o,G.get? b=some o→h1.get? b=some o:=fun b o e=>hsb.extBut b o (Nat.ne_of_lt (Heap.lt_size e)) (Heap.get?_push_of_some _ e)
 have kp:∀ b o,s.heap.get? b=some o→h1.get? b=some o:=fun b o e=>up b o (hG ▸ Heap.get?_push_of_some _ e)
 have I0:Inv (cxC X N sc G.objs.size s H fp) [] (List.replicate k none ++ σ) (upd H s.heap.objs.size (.lst [])) { s with heap:=h1,toks:=s.toks+([]:List (Str×Value)).length }:=
  qZ L I fo ob hlt kp (up _ _ (hG ▸ Heap.get?_push_size _ rfl)) hns
 have st1:tn 0 h1:=T.keep _ _ _ st fun b _ o e=>kp b o e
 have hD:H s.heap.objs.size=none:=I.hok.fresh (Nat.le_refl _)
 obtain ⟨W,⟨m0,w0⟩,turn⟩:=hq _ hD
 have foY:∀ H':Hp,(∀ b∈fp,H' b=none)→∀ b∈fp,cX (cxC X N sc G.objs.size s H fp) [] H' b:=fun H' hn b hb=>
  ⟨hn b hb,(I0.ok.exf b hb).1,I0.ok.exfs b hb,.inl hb,(I0.ok.exf b hb).2,fun p hp=>absurd (show p∈([]:List (Addr×Obj)) from hp) (by simp)⟩
 have fr0:∀ b∈fp,upd H s.heap.objs.size (.lst []) b=none:=fun b hb=>by
  obtain ⟨o,e⟩:=ob b hb
  rw [aa (Nat.ne_of_lt (Heap.lt_size e))]
  exact (fo b hb).1
 have loop:codeAny (model X.prog X.w) X.A (.compLoop (.ListComp elt [⟨tg,iter,ifs,0⟩] sc pos) 0 (.ref it) (.ref s.heap.objs.size) (cxC X N sc G.objs.size s H fp).env) (RR (.ref s.heap.objs.size) G.objs.size) { s with heap:=h1,toks:=s.toks+([]:List (Str×Value)).length }:=
  um (Y:=cxC X N sc G.objs.size s H fp) (iter:=iter) hc (fun _ _ h=>h) T foY (hg _ _ _ _) (ht _ _ _ _) (he _ _ _ _) turn (fun σ' H' s' J' q=>hRR _ σ' H' s' hlt J' q) I0 st1 fr0 w0
 exact codeAny_compStart_list loop (T.self _ 0 _ _ _ st1 loop)
noncomputable def tLC (k:Nat) (wi:TI) (g:TG) (tt:TT) (te:TE):TE:=fun σ H Q=>wi σ H fun J H1=>∀ D,H1 D=none →
 ∃ W,(∃ m,W 0 m (List.replicate k none ++ σ) (upd H1 D (.lst [])))∧pY J g tt te D W (Q (.ref D))
section
variable {X:Cx} {sc:Scope} {k:Nat} {N:List Str} {elt tg iter:Expr} {ifs:List Expr} {pos:Pos} {wi:TI} {g:TG} {tt:TT} {te:TE}
theorem wq (L:Lc X sc k N) (hc:X.calm=true) (hi:PI X tg iter wi) (hg:∀ C s H fp,PG (cxC X N sc C s H fp) tg g) (ht:∀ C s H fp,PTs (cxC X N sc C s H fp) ifs tt) (he:∀ C s H fp,PE (cxC X N sc C s H fp) elt te)
 (hs:∀ x,foldedSetIterable iter X.env x=pure x:=by intro _;rfl):PE X (.ListComp elt [⟨tg,iter,ifs,0⟩] sc pos) (tLC k wi g tt te):=by
 intro pins s σ H Q I h
 rw [eval_ListComp]
 refine wpAny_comprehension_free (use:=none) rfl hs (gI (L.cells I.ok)) L.kind L.names (thn (hi pins s σ H _ I h) fun v s1 h1=>thn h1 fun itv s2 h2=>?_)
 obtain ⟨it,fp,tn,J,H2,e,I2,T,st2,f2,q2⟩:=h2
 subst e
 refine kS (RR:=fun acc C=>compPost (model X.prog X.w) X.A X.xe none (EP X pins σ Q) acc C) L hc hg ht he I2 T st2 f2 q2 fun C σ' H' s' hC J' q=>?_
 have I3:=jM I2 f2 J'
 obtain ⟨m,hn,_⟩:=J'.loc
 refine ⟨m,hn,fun h' sb=>?_⟩
 obtain ⟨f0,f1,f2',f3,f4,f5⟩:=I2.fpOk (Nat.le_of_lt hC) (show H' C=none from J'.free)
 exact ⟨.ref s2.heap.objs.size,H',I3.turned (t':=s'.toks) (fun b o hb e=>(sb.2 b hb).trans e) f0 f1 f3 f4 f5,rfl,q⟩
theorem AC {i:Nat} {x:Str} {pos' spos:Pos} (L:Lc X sc k N) (hc:X.calm=true) (hN:X.N.Nodup) (hx:X.N[i]? = some x) (hl:Loc X.env.scope x) (hi:PI X tg iter wi)
 (hg:∀ C s H fp,PG (cxC X N sc C s H fp) tg g) (ht:∀ C s H fp,PTs (cxC X N sc C s H fp) ifs tt) (he:∀ C s H fp,PE (cxC X N sc C s H fp) elt te)
 (hsw:swapsWith (.ListComp elt [⟨tg,iter,ifs,0⟩] sc pos) (some (.Name x pos')) spos.line X.env=pure true:=by rfl) (hf:X.fn x=true∨X.env.scope.names.lookup x=some .local:=by first | exact .inl rfl | exact .inr rfl | assumption)
 (hs:∀ x,foldedSetIterable iter X.env x=pure x:=by intro _;rfl):PS X (.Assign [.Name x pos'] (.ListComp elt [⟨tg,iter,ifs,0⟩] sc pos) spos) (pP (tLC k wi g tt te) (dM i)):=by
 intro pins s σ H D I h
 rw [exec_Assign_Name_used _ _ _ _ hsw]
 refine wpAny_bind (wpAny_standAt (wpAny_bind ?_))
 show wpAny _ X.A (do let _ ← comprehension (.ListComp elt [⟨tg,iter,ifs,0⟩] sc pos) sc X.env _ (newList []) false (eval iter X.env) (some (assign (.Name x pos') X.env))) _ _ s
 refine wpAny_bind (thn (wpAny_comprehension_free (use:=some (assign (.Name x pos') X.env)) (Q:=fun _ s'=>SP X pins D .next s') rfl hs (gI (L.cells I.ok)) L.kind L.names
  (thn (hi pins s σ H _ I h) fun v s1 h1=>thn h1 fun itv s2 h2=>?_)) fun _ s' hq=>wpAny_pure (wpAny_pure hq))
 obtain ⟨it,fp,tn,J,H2,e,I2,T,st2,f2,q2⟩:=h2
 subst e
 refine kS (Q:=fun v H1=>dM i v σ H1 D.nx) (RR:=fun acc C=>compPost (model X.prog X.w) X.A X.xe (some (assign (.Name x pos') X.env)) (fun _ s'=>SP X pins D .next s') acc C) L hc hg ht he I2 T st2 f2 q2 fun C σ' H' s' hC J' q=>?_
 have I3:=jM I2 f2 J'
 obtain ⟨m,hn,_⟩:=J'.loc
 obtain ⟨f0,f1,f2',f3,f4,f5⟩:=I2.fpOk (Nat.le_of_lt hC) (show H' C=none from J'.free)
 show wpAny _ X.A (assign (.Name x pos') X.env (.ref s2.heap.objs.size)) _ _ _
 refine wpAny_assign_Name (jq I3 hN hx hl (v:=.ref s2.heap.objs.size) rfl (fun s4 I4 hs4=>?_) hf)
 obtain ⟨a,sb,ha⟩:=hs4
 have hne:C≠a:=by
  rcases ha with rfl | ha
  ·exact f1
  ·exact fun e=>f4 x a ha e.symm
 refine ⟨m,hn.sameBut sb hne,fun h' sb'=>?_⟩
 exact ⟨_,H',I4.turned (t':=s4.toks) (fun b o hb e=>(sb'.2 b hb).trans e) f0 f1 f3 f4 f5,q⟩
end
section
variable {X:Cx}
noncomputable def AH (K:Fg):List V→Hp→VK→Prop:=fun xs H Q=>(∃ p ys,xs = [.ref p]∧(SqL K H p ys∨SqT K H p ys)∧Q (.int ys.length) H)∨∃ z,xs = [.str z]∧z.length≤sizeLine∧Q (.int z.length) H
theorem fb:aO X (.builtin "len") (AH X.K):=fun pins s σ H xs us Q I r h=>by
 rcases h with h | h
 ·exact jB pins s σ H xs us Q I r h
 ·exact jC pins s σ H xs us Q I r h
theorem Ay {x:Str} {T:String} {pos:Pos} (hg:Gl X x) (hm:X.mg x=none) (hv:bootBuiltins x=some (.type T)) (hn:x≠"__name__":=by decide) (hd:(x == ("__debug__":Str))=false:=by decide):PE X (.Name x pos) (tC (.ty T)):=
 uV hg hm hv (v:=.ty T) rfl hn hd
noncomputable def Bz (K:Fg) (tl:TE):TI:=fun σ H R=>tl σ H fun x H1=>∃ a,x = .ref a∧(((∃ xs,SqL K H1 a xs)∧R (Itl K a) H1)∨((∃ xs,SqT K H1 a xs)∧R (Itt K a) H1))
theorem yI {tg l:Expr} {tl:TE} (hl:PE X l tl):PI X tg l (Bz X.K tl):=by
 intro pins s σ H R I h
 refine thn (hl pins s σ H _ I h) fun v s1 q=>?_
 obtain ⟨x,H1,I1,r1,a,e,q1⟩:=q
 subst e
 cases r1
 have one:∀ b∈[s1.heap.objs.size],cX X pins H1 b:=fun b hb=>by
  cases (show b=s1.heap.objs.size by simpa using hb)
  exact I1.fpOk (Nat.le_refl _) (I1.hok.fresh (Nat.le_refl _))
 rcases q1 with ⟨⟨xs,hq⟩,q⟩ | ⟨⟨xs,hq⟩,q⟩
 ·obtain ⟨its,rv,p,hz⟩:=I1.list hq
  exact wpAny_pyIter_list p.isList ⟨s1.heap.objs.size,[s1.heap.objs.size],_,_,H1,rfl,I1.kept (t':=s1.toks) fun b o e=>Heap.get?_push_of_some _ e,pS a _,⟨_,Heap.get?_push_size _ rfl,rfl,rfl⟩,one,q⟩
 ·obtain ⟨its,rv,p,hz⟩:=I1.tuple hq
  exact wpAny_pyIter_tuple (show s1.heap.IsTuple a its.toArray from p) ⟨s1.heap.objs.size,[s1.heap.objs.size],_,_,H1,rfl,I1.kept (t':=s1.toks) fun b o e=>Heap.get?_push_of_some _ e,mW a _,⟨_,Heap.get?_push_size _ rfl,rfl,rfl⟩,one,q⟩
noncomputable def IsI (K:Fg) (H:Hp) (x:V) (n:String) (b:Bool):Prop:=∃ t,e9 K H x t∧PySem.W.kitOne K t (.type n)=some b
theorem qm:aO X (.builtin "isinstance") (fun xs H Q=>∃ x n b,xs = [x,.ty n]∧IsI X.K H x n b∧Q (.bl b) H):=by
 intro pins s σ H xs us Q I r h
 obtain ⟨x,n,b,e,⟨t,ty,k⟩,q⟩:=h
 subst e
 obtain ⟨u,w,e,ru,rw'⟩:=av.two r
 subst e
 cases rw'
 exact pk I ru ty k fun tk=>⟨.bl b,H,I.tok tk,rfl,q⟩
end
section
variable {X:Cx} {pins:List (Addr×Obj)} {σ:St} {H:Hp} {s:Shared} {h':Heap} {ch:List Addr}
theorem gz {t':Nat} {T:Addr} {xs:List V} (I:Inv X pins σ H s) (k:∀ b o,b ∉ ch→s.heap.get? b=some o→h'.get? b=some o) (fo:∀ b∈ch,cX X pins H b) (hT:s.heap.objs.size≤T)
 (new:∃ its:List Value,av xs its∧IsTup h' T its.toArray) (hz:xs.length≤sizeLine):Inv X pins σ (upd H T (.tup xs)) { s with heap:=h',toks:=t' }:=by
 have hTn:H T=none:=I.hok.fresh hT
 have nit:∀ b u,H b=some u→b ∉ ch:=fun b u e z=>by rw [(fo b z).1] at e;cases e
 have old:∀ b u,H b=some u→upd H T (.tup xs) b=some u:=fun b u e=>by rw [aa (ak e hTn)];exact e
 refine I.step (g':=s.gens) (d':=s.drawn) (ch:=ch) (fun b hb=>?_) (fun b o _ _ hc e _=>k b o hc e) (fun b o _ _ hc e _=>⟨o.slots,k b o hc e⟩) (fun b o _ e n=>?_) (fun b o hc e=>⟨o,k b o hc e⟩)
  (fun b ys e=>old b _ e) (fun b o u e=>old b _ e) (fun b ps e=>⟨#[],by rw [old b _ e];simp⟩) (fun m hm=>?_) (fun b u e=>?_) I.bare
 ·obtain ⟨_,h1,_,h3,h4,h5⟩:=fo b hb
  exact ⟨h3,h1,h4,h5⟩
 ·rw [aa (Nat.ne_of_lt (Nat.lt_of_lt_of_le (Heap.lt_size e) hT))];exact n
 ·obtain ⟨o,es,ep,ho,r⟩:=hm
  exact ⟨o,es,ep,k _ o (fun z=>(fo _ z).2.1 rfl) ho,r⟩
 ·by_cases hb:b=T
  ·subst hb
   rw [ae] at e;cases e
   obtain ⟨its,r,p⟩:=new
   exact ⟨hz,its,r,p⟩
  ·rw [aa hb] at e
   refine (I.hok b u e).stay (fun c v hc q=>k c v ?_ q) (fun c q=>old c _ q) fun c ys q=>old c _ q
   rcases hc with z | z
   ·rw [z];exact nit b u e
   ·exact nit c _ z
theorem gy {t':Nat} (I:Inv X pins σ H s) (k:∀ b o,b ∉ ch→s.heap.get? b=some o→h'.get? b=some o) (fo:∀ b∈ch,cX X pins H b):Inv X pins σ H { s with heap:=h',toks:=t' }:=by
 have nit:∀ b u,H b=some u→b ∉ ch:=fun b u e z=>by rw [(fo b z).1] at e;cases e
 refine I.step (g':=s.gens) (d':=s.drawn) (ch:=ch) (fun b hb=>?_) (fun b o _ _ hc e _=>k b o hc e) (fun b o _ _ hc e _=>⟨o.slots,k b o hc e⟩) (fun b o _ e n=>n) (fun b o hc e=>⟨o,k b o hc e⟩)
  (fun b ys e=>e) (fun b o u e=>e) (fun b ps e=>⟨#[],by rw [e];simp⟩) (fun m hm=>?_) (fun b u e=>?_) I.bare
 ·obtain ⟨_,h1,_,h3,h4,h5⟩:=fo b hb
  exact ⟨h3,h1,h4,h5⟩
 ·obtain ⟨o,es,ep,ho,r⟩:=hm
  exact ⟨o,es,ep,k _ o (fun z=>(fo _ z).2.1 rfl) ho,r⟩
 ·refine (I.hok b u e).stay (fun c v hc q=>k c v ?_ q) (fun c q=>q) fun c ys q=>q
  rcases hc with z | z
  ·rw [z];exact nit b u e
  ·exact nit c _ z
end
theorem du {X:Cx} {pins:List (Addr×Obj)} {σ:St} {H:Hp} {s:Shared} (I:Inv X pins σ H s) {c l:Addr} {us:List V} (f:cX X pins H c) (hq:SqL X.K H l us):l≠c:=fun e=>by
 subst e
 rcases hq with q | q
 ·rcases q with q | ⟨o,q⟩
  ·rw [f.1] at q;cases q
  ·rw [f.1] at q;cases q
 ·obtain ⟨o,its,n,q,_⟩:=q
  have bk:=I.ok.mod.kin _ _ q
  rcases f.2.2.2.1 with f | f
  ·exact I.ok.noex _ _ bk f
  ·exact absurd (Nat.lt_of_lt_of_le (Heap.lt_size bk) (Nat.le_trans I.ok.bsz f)) (Nat.lt_irrefl _)
theorem dF {z TI TO i1 i2 a b:Addr} (h:z≠TI∧z≠TO∧z≠i1∧z≠i2∧TI≠TO∧TI≠i1∧TI≠i2∧TO≠i1∧TO≠i2∧i1≠i2) (ha:∀ c∈[z,TI,TO,i1,i2],a≠c) (hb:∀ c∈[z,TI,TO,i1,i2],b≠c):ZipApart z TI TO i1 i2 a b:=by
 obtain ⟨h1,h2,h3,h4,h5,h6,h7,h8,h9,h0⟩:=h
 simp only [List.mem_cons,List.not_mem_nil,or_false,forall_eq_or_imp,forall_eq] at ha hb
 obtain ⟨a1,a2,a3,a4,a5⟩:=ha
 obtain ⟨b1,b2,b3,b4,b5⟩:=hb
 constructor <;> first | assumption | exact Ne.symm (by assumption)
noncomputable def Itz (K:Fg) (a b:Addr):It where
 go:=fun i H=>∃ xs ys,SqL K H a xs∧SqL K H b ys∧i<xs.length∧i<ys.length
 yld:=fun i H v H'=>∃ T x y,v = .ref T∧H T=none∧H'=upd H T (.tup [x,y])∧(∀ xs,SqL K H a xs→xs[i]? = some x)∧∀ ys,SqL K H b ys→ys[i]? = some y
 stop:=fun i H=>∃ xs ys,SqL K H a xs∧SqL K H b ys∧i=min xs.length ys.length
theorem tu {P:Program} {w:World} {K:Fg} {es:List Expr} {k:Nat} {tp:Pos} (a b z TI TO i1 i2:Addr) (hap:z≠TI∧z≠TO∧z≠i1∧z≠i2∧TI≠TO∧TI≠i1∧TI≠i2∧TO≠i1∧TO≠i2∧i1≠i2) :
 iG P w K (.Tuple es k tp) (Itz K a b) [z,TI,TO,i1,i2] z (fun i h=>IsZip h z TI TO .none∧IsPair h TI (.ref i1) (.ref i2)∧(∃ u v,IsPair h TO u v)∧h.IsListIter i1 a i∧h.IsListIter i2 b i) where
 mem:=by simp
 obj:=fun i h st c hc=>by
  obtain ⟨h1,h2,⟨u,v,h3⟩,⟨o4,e4,c4,d4⟩,⟨o5,e5,c5,d5⟩⟩:=st
  have hc':c=z∨c=TI∨c=TO∨c=i1∨c=i2:=by simpa using hc
  rcases hc' with rfl | rfl | rfl | rfl | rfl
  ·exact ⟨_,h1,fun v q=>by cases (show Data.fields _=Data.cell v from q)⟩
  ·exact ⟨_,h2,fun v q=>by cases (show Data.seq _ _=Data.cell v from q)⟩
  ·exact ⟨_,h3,fun v q=>by cases (show Data.seq _ _=Data.cell v from q)⟩
  ·exact ⟨o4,e4,fun v q=>by rw [d4] at q;cases q⟩
  ·exact ⟨o5,e5,fun v q=>by rw [d5] at q;cases q⟩
 keep:=fun i h h' st kp=>by
  obtain ⟨h1,h2,⟨u,v,h3⟩,h4,h5⟩:=st
  exact ⟨kp z (by simp) _ h1,kp TI (by simp) _ h2,⟨u,v,kp TO (by simp) _ h3⟩,h4.at fun o e=>kp i1 (by simp) o e,h5.at fun o e=>kp i2 (by simp) o e⟩
 item:=by
  intro X hP hw hK hc i pins s σ H E I hf st hg
  subst hP hw hK
  obtain ⟨xs,ys,hx,hy,l1,l2⟩:=hg
  obtain ⟨its1,r1,p1,z1⟩:=I.list hx
  obtain ⟨its2,r2,p2,z2⟩:=I.list hy
  obtain ⟨h1,h2,h3,h4,h5⟩:=st
  have len1:=r1.length
  have len2:=r2.length
  have D:ZipApart z TI TO i1 i2 a b:=dF hap (fun c hc=>du I (hf c hc) hx) (fun c hc=>du I (hf c hc) hy)
  have W:=WalksT.zip2 (prog:=X.prog) (w:=X.w) (A:=X.A) (I.ok.hd hc) z TI TO i1 i2 a b D its1.toArray its2.toArray
  refine W.item i s _ _ (by simp;omega) ⟨h1,h2,h3,h4,h5,p1.isList,p2.isList⟩ fun T vals h' tk hv hT ht hm kp=>?_
  obtain ⟨x,y,ex,ey,rfl⟩:=hv
  refine ⟨_,rfl,W.go es k tp i T _ _ _ hm fun h2' st2 kp2=>?_⟩
  obtain ⟨g1,g2,g3,g4,g5,_,_⟩:=st2
  obtain ⟨xv,ev,rx⟩:∃ xv,xs[i]? = some xv∧ar xv x:=by
   have hi:xs[i]? = some xs[i]:=List.getElem?_eq_getElem l1
   obtain ⟨u,hu,ru⟩:=r1.get hi
   have e2:its1[i]? = some x:=by simpa using ex
   rw [e2] at hu;cases hu
   exact ⟨_,hi,ru⟩
  obtain ⟨yv,eyv,ry⟩:∃ yv,ys[i]? = some yv∧ar yv y:=by
   have hi:ys[i]? = some ys[i]:=List.getElem?_eq_getElem l2
   obtain ⟨u,hu,ru⟩:=r2.get hi
   have e2:its2[i]? = some y:=by simpa using ey
   rw [e2] at hu;cases hu
   exact ⟨_,hi,ru⟩
  have Tw:T ∉ [z,TO,i1,i2]:=W.apart _ _ _ hm
  have ht2:IsTup h2' T #[x,y]:=by
   obtain ⟨o,e,r⟩:=ht
   exact ⟨o,kp2 T o Tw e,r⟩
  have I2:Inv X pins σ (upd H T (.tup [xv,yv])) { s with heap:=h2',toks:=tk }:=
   gz (ch:=[z,TO,i1,i2]) I (fun b o hb e=>kp2 b o hb (kp b o hb e)) (fun b hb=>hf b (by simp at hb ⊢;rcases hb with rfl | rfl | rfl | rfl <;> simp)) hT ⟨[x,y],.cons rx (.cons ry .nil),ht2⟩ (by show 2≤sizeLine;decide)
  refine ⟨.ref T,_,I2,rfl,⟨T,xv,yv,rfl,I.hok.fresh hT,rfl,fun us hu=>?_,fun us hu=>?_⟩,⟨g1,g2,g3,g4,g5⟩,fun b hb=>?_⟩
  ·rw [I.list_inj hu hx];exact ev
  ·rw [I.list_inj hu hy];exact eyv
  ·have hbT:b≠T:=by
    obtain ⟨o,e,_⟩:∃ o,s.heap.get? b=some o∧True:=by
     have hc':b=z∨b=TI∨b=TO∨b=i1∨b=i2:=by simpa using hb
     obtain ⟨u3,v3,h3⟩:=h3
     obtain ⟨o4,e4,_⟩:=h4
     obtain ⟨o5,e5,_⟩:=h5
     rcases hc' with rfl | rfl | rfl | rfl | rfl
     ·exact ⟨_,h1,trivial⟩
     ·exact ⟨_,h2,trivial⟩
     ·exact ⟨_,h3,trivial⟩
     ·exact ⟨_,e4,trivial⟩
     ·exact ⟨_,e5,trivial⟩
    exact Nat.ne_of_lt (Nat.lt_of_lt_of_le (Heap.lt_size e) hT)
   rw [aa hbT]
   exact (hf b hb).1
 done:=by
  intro X hP hw hK hc i pins s σ H E I hf st hg
  subst hP hw hK
  obtain ⟨xs,ys,hx,hy,hi⟩:=hg
  obtain ⟨its1,r1,p1,z1⟩:=I.list hx
  obtain ⟨its2,r2,p2,z2⟩:=I.list hy
  obtain ⟨h1,h2,h3,h4,h5⟩:=st
  have len1:=r1.length
  have len2:=r2.length
  have D:ZipApart z TI TO i1 i2 a b:=dF hap (fun c hc=>du I (hf c hc) hx) (fun c hc=>du I (hf c hc) hy)
  have W:=WalksT.zip2 (prog:=X.prog) (w:=X.w) (A:=X.A) (I.ok.hd hc) z TI TO i1 i2 a b D its1.toArray its2.toArray
  have hn:i=min its1.toArray.size its2.toArray.size:=by simp;omega
  refine W.done s _ _ (by rw [← hn];exact ⟨h1,h2,h3,h4,h5,p1.isList,p2.isList⟩) fun h' tk kp=>⟨rfl,?_⟩
  exact gy (ch:=[z,TO,i1,i2]) I kp (fun b hb=>hf b (by simp at hb ⊢;rcases hb with rfl | rfl | rfl | rfl <;> simp))
 self:=fun _ _ _ _ _ st h=>wpAny_pyIter_zip st.1 h
theorem p7 (n:Nat):n+4≠n+2∧n+4≠n+3∧n+4≠n∧n+4≠n+1∧n+2≠n+3∧n+2≠n∧n+2≠n+1∧n+3≠n∧n+3≠n+1∧n≠n+1:=by omega
theorem le5 (n c:Nat) (h:c=n+4∨c=n+2∨c=n+3∨c=n∨c=n+1):n≤c:=by omega
theorem l5 {prog:Program} {w:World} {A:Around} {E:Value→Shared→Prop} {s:Shared} {δ:Type} {R:δ→Value→Prop} {a:Addr} {D:List (Str×δ)} {z:Str} {tz:Tok} {d:δ} {Q:Option Value→Shared→Prop}
 (T:KTD.TabOf R s.heap a D) (hat:KTD.datumAt z D=some d) (h:∀ v,R d v→Q (some v) { s with toks:=s.toks+1 }):wpAny (model prog w) A (dictGet a (.str z tz)) Q E s:=by
 obtain ⟨_,o,es,ep,ho,_,hd,hr⟩:=T
 obtain ⟨v,hv,hfl⟩:=hr.find_some hat
 have all:(es.all fun e=>isExactStrKey e.key)=true:=by
  obtain ⟨l⟩:=es
  simpa using hr.exact
 have hq:Q (findBy (fun k v=>v.isStr k) es z) { s with toks:=s.toks+1 }:=by
  rw [show findBy (fun k v=>v.isStr k) es z=some v by obtain ⟨l⟩:=es;simpa [findBy] using hv]
  exact h v hfl
 rw [findBy_of_findIdx?] at hq
 unfold dictGet
 refine wpAny_holding ?_
 refine wpAny_bind (wpAny_pyHash_str (wpAny_bind (KTD.kt_dictFind_strs (s:={ s with toks:=s.toks+1 }) ho hd all ?_)))
 cases hi:es.findIdx? fun e=>e.key.isStr z with
 | none=>
   rw [hi] at hq
   exact wpAny_pure hq
 | some i=>
   rw [hi] at hq
   exact wpAny_bind (wpAny_dictEntries (s:={ s with toks:=s.toks+1 }) ho hd (wpAny_pure hq))
theorem uc {T newId:String} {me:Value} {more:List Value} {kws:List (Str×Value)} (a1:typeLookup (.type T) "__init__" = pure (some (.builtin "object.__init__"))) (a2:Bind.madeBy (.type T)=pure (some newId))
 (a3:(some newId != some "object.__new__")=true) (a4:more≠[]):Meets (Builtin.«object.__init__» ⟨me :: more,kws⟩) (fun _ R s=>s.TypeIs me T∧R (.ok (.ret .none)) s):=by
 refine Meets.of_wp fun prog w A R s q=>?_
 obtain ⟨ty,q⟩:=q
 cases more with
 | nil=>exact absurd rfl a4
 | cons b more=>
   repeat (any_goals (first | assumption | wp_step))
   exact ⟨_,rfl,q⟩
section
variable {prog:Program} {w:World} {A:Around} {E:Value→Shared→Prop} {s:Shared}
theorem ki {T newId:String} {Bn:Builtin} {args:List Value} {kws:List (Str×Value)} {S:PySem.Spec} {Q Q1:Value→Shared→Prop} (ft:TypeCalled T newId "object.__init__") (ne:(some newId != some "object.__new__")=true) (na:args≠[])
 (c1:checkTypeCall T ⟨args,kws⟩=pure ()) (c2:checkBuiltinCall newId ⟨.type T :: args,kws⟩=pure ()) (e1:entryFor table newId=some Bn) (g:Meets (Bn ⟨.type T :: args,kws⟩) S) (h:S A.in1 (wants Q1 E) s)
 (hn:∀ obj s1,Q1 obj s1→s1.TypeIs obj T∧argsOk "object.__init__" ⟨obj :: args,kws⟩∧Q obj s1):wpAny (model prog w) A (call (.type T) args kws) Q E s:=by
 obtain ⟨c,tl,m1⟩:=ft.mro
 have m2:=ft.made
 have m3:=ft.sub
 refine wpAny_call (codeAny_of_tree ?_)
 show wpAny _ _ (callAny (.type T) _) _ _ _
 refine wpAny_pure ⟨Code.quiet_builtin _ (by decide +kernel),codeAny_builtin F.entry_type_call ?_⟩
 rw [Around.under_plain (weight_type_call_type T args kws) (units_type_call_type T args kws)]
 have m4:=ft.notType
 have m5:=ft.canCreate
 repeat (any_goals (first | assumption | wp_step))
 refine codeAny_mono (codeAny_call_builtin ft.plain e1 (wpAny_of_eq c2 (g prog w A.in1 _ s h))) fun r s1 q1=>?_
 cases r with
 | error e=>exact q1
 | ok fl=>
   cases fl with
   | ret obj=>
     obtain ⟨ty,ok,qq⟩:=hn _ _ q1
     have m6:=ft.init.lookup
     have m7:=ft.init.bind obj
     repeat (any_goals (first | assumption | wp_step))
     refine codeAny_mono (codeAny_call_builtin ft.init.plain F.entry_object_init (ft.init.check _ _ _ _ _ _ _ _ ty ok (uc m6 m2 ne na prog w A.in1 (wants (fun r s2=>r = .none∧Q obj s2) E) s1 ⟨ty,rfl,qq⟩))) fun r2 s2 q2=>?_
     cases r2 with
     | error e=>exact q2
     | ok f2=>
       cases f2 with
       | ret r=>
         obtain ⟨e,q3⟩:=q2
         subst e
         repeat (any_goals (first | assumption | wp_step))
       | _=>exact q2.elim
   | _=>exact q1.elim
theorem qA (t:Addr) (n:Int) (tk:Tok) (hn:Builtin.SmallTypes.fitsIndex n=true) (items:Array Value) :
 Meets (Builtin.«enumerate.__new__» ⟨[.type "enumerate",.ref t],[("start",.int n tk)]⟩) (fun _ R s=>s.heap.IsTuple t items ∧
  R (.ok (.ret (.ref (s.heap.push { cls:=.type "tuple_iterator",data:=.fields #[.ref t,.int 0 0] }).objs.size)))
    { s with heap:=(s.heap.push { cls:=.type "tuple_iterator",data:=.fields #[.ref t,.int 0 0] }).push { cls:=.type "enumerate",data:=.fields #[.none,.bool false,.ref s.heap.objs.size,rawInt n,.none,.none] } }):=
 .of_wp fun prog w A R s h=>by
  obtain ⟨hp,g,d,tk',os⟩:=s
  obtain ⟨ht,h⟩:=h
  have sub:=sub_enumerate
  wp_walk
  refine wpAny_stack_any fun st=>wpAny_pure ?_
  split
  ·rename_i c _ _ _ _ _
   cases (c == Value.type "enumerate")
   ·wp_walk using wpAny_pyIter_tuple ht
    exact ⟨_,rfl,h⟩
   ·wp_walk using wpAny_pyIter_tuple ht
    exact ⟨_,rfl,h⟩
  ·wp_walk using wpAny_pyIter_tuple ht
   exact ⟨_,rfl,h⟩
theorem rJ {it t:Addr} {i:Nat} {xs:Array Value} {x:Value} {Q:Value→Shared→Prop} (g:s.heap.IsTupleIter it t i) (gt:s.heap.IsTuple t xs) (gx:xs[i]? = some x)
 (q:∀ h1,h1.IsTupleIter it t (i+1)→Heap.SameBut it s.heap h1→Q x { s with heap:=h1 }):wpAny (model prog w) A (Builtin.SmallTypes.nextOf (.ref it)) Q E s:=by
 obtain ⟨o,eo,co,dd⟩:=id g
 obtain ⟨ot,et,_,nt,dt⟩:=gt
 unfold Builtin.SmallTypes.nextOf
 refine wpAny_bind (wpAny_callSpecial?_slot (name:=Str.ofString "__next__") g.typeIs F.slot_tuple_iterator_next (wpAny_call_entry F.slot_tuple_iterator_next g.typeIs F.entry_tuple_iterator_next ?_ (F.args_tuple_iterator_next_1 _)))
 show wpAny _ _ (field (.ref it) 0 >>= fun _=>_) _ _ s
 refine wpAny_bind (wpAny_field eo dd (x:=.ref t) rfl ?_)
 show wpAny _ _ (if (Value.ref t == Value.none)=true then _ else _) _ _ s
 have nn:¬ ((Value.ref t == Value.none)=true):=Bool.false_ne_true
 rw [if_neg nn]
 show wpAny _ _ (field (.ref it) 1 >>= fun _=>_) _ _ s
 refine wpAny_bind (wpAny_field eo dd (x:=.int i 0) rfl ?_)
 show wpAny _ _ (seqItems? (.ref t) >>= fun _=>_) _ _ s
 refine wpAny_bind (wpAny_seqItems et dt ?_)
 simp only [Int.toNat_natCast,gx]
 refine wpAny_bind (wpAny_setField eo dd (by simp) (wpAny_pure ⟨x,rfl,wpAny_pure (q _ ⟨_,Heap.get?_update_self _ eo (Obj.isFreed_of_fields (Obj.data_mapFields dd _)),(Obj.cls_mapFields ..).trans co,?_⟩ (Heap.SameBut.update ..))⟩))
 rw [Obj.data_mapFields dd]
 simp [rawInt]
theorem pb {e it t:Addr} {i:Nat} {j:Int} {xs:Array Value} {x old:Value} {Q:Option Value→Shared→Prop} (ge:IsEnum s.heap e it j old) (g:s.heap.IsTupleIter it t i) (gt:s.heap.IsTuple t xs) (gx:xs[i]? = some x) (ne:e≠it)
 (q:∀ h1 tk,IsEnumOut h1 e it (j+1) x s.heap.objs.size→h1.IsTupleIter it t (i+1)→h1.get? s.heap.objs.size=some { cls:=.type "tuple",data:=.seq #[.int j tk,x] } →
  (∀ b o,b≠e→b≠it→s.heap.get? b=some o→h1.get? b=some o)→Q (some (.ref s.heap.objs.size)) { s with heap:=h1,toks:=tk+1 }):wpAny (model prog w) A (pyNext (.ref e)) Q E s:=by
 have ty:s.TypeIs (.ref e) "enumerate":=⟨_,ge,rfl⟩
 unfold pyNext
 refine wpAny_bind (wpAny_attempt (wpAny_callSpecial?_slot (name:=Str.ofString "__next__") ty F.slot_enumerate_next (wpAny_call_entry F.slot_enumerate_next ty F.entry_enumerate_next ?_ (F.args_enumerate_next_1 _))))
 obtain ⟨hp,gs,d,tk0,os⟩:=s
 show wpAny _ _ (field (.ref e) 2 >>= fun _=>_) _ _ _
 refine wpAny_bind (wpAny_field ge rfl (x:=.ref it) rfl ?_)
 refine wpAny_bind (rJ g gt gx fun h1 g1 s1=>?_)
 replace s1:Heap.SameBut it hp h1:=s1
 have e1:IsEnum h1 e it j old:=(s1.2 e ne).trans ge
 show wpAny _ _ (field (.ref e) 3 >>= fun _=>_) _ _ ⟨h1,gs,d,tk0,os⟩
 refine wpAny_bind (wpAny_field e1 rfl (x:=rawInt j) rfl ?_)
 show wpAny _ _ (field (.ref e) 4 >>= fun _=>_) _ _ ⟨h1,gs,d,tk0,os⟩
 refine wpAny_bind (wpAny_field e1 rfl (x:=.none) rfl ?_)
 show wpAny _ _ (mkInt j >>= fun _=>_) _ _ ⟨h1,gs,d,tk0,os⟩
 refine wpAny_bind (wpAny_mkInt ?_)
 show wpAny _ _ (setField (.ref e) 3 (rawInt (j+1)) >>= fun _=>_) _ _ ⟨h1,gs,d,tk0+1,os⟩
 refine wpAny_bind (wpAny_setField_rec e1 (by simp) fun h2 e2 s2=>?_)
 replace s2:Heap.SameBut e h1 h2:=s2
 replace e2:IsEnum h2 e it (j+1) old:=e2
 show wpAny _ _ (setField (.ref e) 4 .none >>= fun _=>_) _ _ ⟨h2,gs,d,tk0+1,os⟩
 refine wpAny_bind (wpAny_setField_rec e2 (by simp) fun h3 e3 s3=>?_)
 replace s3:Heap.SameBut e h2 h3:=s3
 replace e3:IsEnum h3 e it (j+1) old:=e3
 show wpAny _ _ (newTuple [.int j tk0,x] >>= fun _=>_) _ _ ⟨h3,gs,d,tk0+1,os⟩
 refine wpAny_bind (wpAny_newTuple ?_)
 have e4:IsEnum (h3.push { cls:=.type "tuple",data:=.seq #[.int j tk0,x] }) e it (j+1) old:=Heap.get?_push_of_some _ e3
 generalize hh4:h3.push { cls:=.type "tuple",data:=.seq #[.int j tk0,x] }=h4 at e4
 have sz:h3.objs.size=hp.objs.size:=by rw [s3.1,s2.1,s1.1]
 have lt:e<hp.objs.size:=Heap.lt_size ge
 have t4:h4.get? hp.objs.size=some { cls:=.type "tuple",data:=.seq #[.int j tk0,x] }:=by rw [← hh4,← sz];exact Heap.get?_push_size _ rfl
 have k4:∀ b o,b≠e→b≠it→hp.get? b=some o→h4.get? b=some o:=fun b o n1 n2 hb=>by
  rw [← hh4];exact Heap.get?_push_of_some _ (s3.extBut b o n1 (s2.extBut b o n1 (s1.extBut b o n2 hb)))
 have g4:h4.IsTupleIter it t (i+1):=g1.at fun o y=>by
  rw [← hh4];exact Heap.get?_push_of_some _ (s3.extBut it o (Ne.symm ne) (s2.extBut it o (Ne.symm ne) y))
 show wpAny _ _ (Builtin.SmallTypes.ownedTupleIsFree (.ref e) >>= fun _=>_) _ _ ⟨h4,gs,d,tk0+1,os⟩
 rw [sz]
 clear hh4 e3 s3 e2 s2 e1 s1 g1 sz h3 h2 h1
 refine wpAny_bind ?_
 unfold Builtin.SmallTypes.ownedTupleIsFree
 refine wpAny_bind (wpAny_field e4 rfl (x:=.none) rfl (wpAny_pure ?_))
 simp only [if_true]
 refine wpAny_bind (wpAny_rule (wpAny_bind (wpAny_field e4 rfl (x:=old) rfl ?_)))
 refine wpAny_bind (wpAny_setField_rec e4 (by simp) fun h5 e5 s5=>?_)
 replace s5:Heap.SameBut e h4 h5:=s5
 replace e5:IsEnum h5 e it (j+1) x:=e5
 show wpAny _ _ (Builtin.SmallTypes.ownedTupleHandOut (.ref e) (.ref hp.objs.size) >>= fun _=>_) _ _ ⟨h5,gs,d,tk0+1,os⟩
 refine wpAny_bind ?_
 unfold Builtin.SmallTypes.ownedTupleHandOut
 refine wpAny_bind (wpAny_setField_rec e5 (by simp) fun h6 e6 s6=>?_)
 replace s6:Heap.SameBut e h5 h6:=s6
 replace e6:IsEnumOut h6 e it (j+1) x hp.objs.size:=e6
 refine wpAny_setField_rec e6 (by simp) fun h7 e7 s7=>?_
 replace s7:Heap.SameBut e h6 h7:=s7
 replace e7:IsEnumOut h7 e it (j+1) x hp.objs.size:=e7
 have up:∀ b o,b≠e→h4.get? b=some o→h7.get? b=some o:=fun b o n1 y=>s7.extBut b o n1 (s6.extBut b o n1 (s5.extBut b o n1 y))
 refine wpAny_bind (wpAny_letGo (wpAny_pure ⟨_,rfl,wpAny_pure ?_⟩))
 exact q h7 tk0 e7 (g4.at fun o y=>up it o (Ne.symm ne) y) (up _ _ (Nat.ne_of_gt lt) t4) fun b o n1 n2 y=>up b o n1 (k4 b o n1 n2 y)
theorem jS {it t:Addr} {i:Nat} {xs:Array Value} {Q:Value→Shared→Prop} (hh:A.handled=none) (g:s.heap.IsTupleIter it t i) (gt:s.heap.IsTuple t xs) (gx:xs[i]? = none)
 (q:∀ h1 x,Heap.ExtBut it s.heap h1→(∃ o,h1.get? x=some o∧o.cls = .type "StopIteration")→E (.ref x) { s with heap:=h1 }):wpAny (model prog w) A (Builtin.SmallTypes.nextOf (.ref it)) Q E s:=by
 obtain ⟨o,eo,co,dd⟩:=id g
 obtain ⟨ot,et,_,nt,dt⟩:=gt
 unfold Builtin.SmallTypes.nextOf
 refine wpAny_bind (wpAny_callSpecial?_slot (name:=Str.ofString "__next__") g.typeIs F.slot_tuple_iterator_next (wpAny_call_entry F.slot_tuple_iterator_next g.typeIs F.entry_tuple_iterator_next ?_ (F.args_tuple_iterator_next_1 _)))
 show wpAny _ _ (field (.ref it) 0 >>= fun _=>_) _ _ s
 refine wpAny_bind (wpAny_field eo dd (x:=.ref t) rfl ?_)
 show wpAny _ _ (if (Value.ref t == Value.none)=true then _ else _) _ _ s
 have nn:¬ ((Value.ref t == Value.none)=true):=Bool.false_ne_true
 rw [if_neg nn]
 show wpAny _ _ (field (.ref it) 1 >>= fun _=>_) _ _ s
 refine wpAny_bind (wpAny_field eo dd (x:=.int i 0) rfl ?_)
 show wpAny _ _ (seqItems? (.ref t) >>= fun _=>_) _ _ s
 refine wpAny_bind (wpAny_seqItems et dt ?_)
 simp only [Int.toNat_natCast,gx]
 refine wpAny_bind (wpAny_rule (wpAny_bind (wpAny_setField eo dd (by simp) ?_)))
 show wpAny _ _ (newExc (.type "StopIteration") [] >>= fun _=>_) _ _ _
 refine wpAny_bind ?_
 simp only [newExc,newTuple]
 refine wpAny_bind (wpAny_newObj_type ?_ (by size_fits))
 refine wpAny_bind (m:=firstArgMember _ _) (wpAny_of_eq (a:=Value.none) (by first | rfl | (simp only [firstArgMember];rfl)) (wpAny_newObj_type ?_ (by size_fits)))
 simp only [raiseNew]
 refine wpAny_bind (wpAny_handled ?_)
 first | rw [show A.in1.handled=none from hh] | rw [hh]
 exact wpAny_bind (wpAny_pure (wpAny_throw (q _ _ (((Heap.SameBut.update ..).extBut.push _).push _) ⟨_,Heap.get?_push_size _ rfl,rfl⟩)))
theorem qz {e it t:Addr} {i:Nat} {j:Int} {xs:Array Value} {old:Value} {Q:Option Value→Shared→Prop} (hh:A.handled=none) (ge:IsEnum s.heap e it j old) (g:s.heap.IsTupleIter it t i) (gt:s.heap.IsTuple t xs) (gx:xs[i]? = none)
 (q:∀ h1,Heap.ExtBut it s.heap h1→Q none { s with heap:=h1 }):wpAny (model prog w) A (pyNext (.ref e)) Q E s:=by
 have ty:s.TypeIs (.ref e) "enumerate":=⟨_,ge,rfl⟩
 unfold pyNext
 refine wpAny_bind (wpAny_attempt (wpAny_callSpecial?_slot (name:=Str.ofString "__next__") ty F.slot_enumerate_next (wpAny_call_entry F.slot_enumerate_next ty F.entry_enumerate_next ?_ (F.args_enumerate_next_1 _))))
 show wpAny _ _ (field (.ref e) 2 >>= fun _=>_) _ _ _
 refine wpAny_bind (wpAny_field ge rfl (x:=.ref it) rfl ?_)
 refine wpAny_bind (jS hh g gt gx fun h1 x k1 k2=>?_)
 obtain ⟨o,ho,hc⟩:=k2
 exact wpAny_bind (wpAny_isInstance (T:="StopIteration") (b:=true) ⟨o,ho,hc⟩ isSubtype_stop (wpAny_pure (q _ k1)))
end
noncomputable def Ite (K:Fg) (a:Addr) (lo:Int):It where
 go:=fun i H=>∃ xs x,SqT K H a xs∧xs[i]? = some x
 yld:=fun i H v H'=>∃ T x,v = .ref T∧H T=none∧H'=upd H T (.tup [.int (lo+i),x])∧∀ xs,SqT K H a xs→xs[i]? = some x
 stop:=fun i H=>∃ xs,SqT K H a xs∧xs.length≤i
theorem pR {P:Program} {w:World} {K:Fg} {es:List Expr} {k:Nat} {tp:Pos} (a e it:Addr) (lo:Int) (ne:e≠it) :
 iG P w K (.Tuple es k tp) (Ite K a lo) [e,it] e (fun i h=>(∃ old,IsEnum h e it (lo+i) old)∧h.IsTupleIter it a i) where
 mem:=by simp
 obj:=fun i h st c hc=>by
  obtain ⟨⟨old,h1⟩,⟨o2,e2,c2,d2⟩⟩:=st
  have hc':c=e∨c=it:=by simpa using hc
  rcases hc' with rfl | rfl
  ·exact ⟨_,h1,fun v q=>by cases (show Data.fields _=Data.cell v from q)⟩
  ·exact ⟨o2,e2,fun v q=>by rw [d2] at q;cases q⟩
 keep:=fun i h h' st kp=>by
  obtain ⟨⟨old,h1⟩,h2⟩:=st
  exact ⟨⟨old,kp e (by simp) _ h1⟩,h2.at fun o q=>kp it (by simp) o q⟩
 item:=by
  intro X hP hw hK hc i pins s σ H E I hf st hg
  subst hP hw hK
  obtain ⟨xs,x,hq,hx⟩:=hg
  obtain ⟨its,rv,p,hz⟩:=I.tuple hq
  obtain ⟨u,hu,ru⟩:=rv.get hx
  obtain ⟨⟨old,h1⟩,h2⟩:=st
  refine pb h1 h2 (show s.heap.IsTuple a its.toArray from p) (x:=u) (by simpa using hu) ne fun h' tk ho hi ht kp=>⟨_,rfl,?_⟩
  refine wpAny_letOwnedTupleGo_enum ho fun h'' he' hs'=>?_
  replace hs':Heap.SameBut e h' h'':=hs'
  replace he':IsEnum h'' e it (lo+i+1) u:=he'
  have zT:=(hs'.2 s.heap.objs.size (Nat.ne_of_gt (Heap.lt_size h1))).trans ht
  have kp':∀ b o,b ∉ [e,it]→s.heap.get? b=some o→h''.get? b=some o:=fun b o hb q=>(hs'.2 b (fun z=>hb (z ▸ List.mem_cons_self))).trans (kp b o (fun z=>hb (z ▸ List.mem_cons_self)) (fun z=>hb (z ▸ List.mem_cons_of_mem _ List.mem_cons_self)) q)
  have hsz:e<s.heap.objs.size:=Heap.lt_size h1
  have hiz:it<s.heap.objs.size:=by obtain ⟨o,q,_⟩:=h2;exact Heap.lt_size q
  have htT:IsTup h'' s.heap.objs.size #[.int (lo+i) tk,u]:=⟨_,zT,rfl,0,rfl⟩
  have hTn:H s.heap.objs.size=none:=I.hok.fresh (Nat.le_refl _)
  have I2:Inv X pins σ (upd H s.heap.objs.size (.tup [.int (lo+i),x])) { s with heap:=h'',toks:=tk+1 }:=
   gz (ch:=[e,it]) I kp' hf (Nat.le_refl _) ⟨[.int (lo+i) tk,u],.cons ⟨tk,rfl⟩ (.cons ru .nil),htT⟩ (by show 2≤sizeLine;decide)
  refine ⟨.ref s.heap.objs.size,_,I2,rfl,⟨_,x,rfl,hTn,rfl,fun ys hy=>by rw [I.tuple_inj hy hq];exact hx⟩,⟨⟨u,?_⟩,hi.at fun o q=>(hs'.2 it (Ne.symm ne)).trans q⟩,fun b hb=>?_⟩
  ·have z:lo+((i+1:Nat):Int)=lo+(i:Int)+1:=by omega
   rw [z];exact he'
  ·have hb':b=e∨b=it:=by simpa using hb
   have hne:b≠s.heap.objs.size:=by
    rcases hb' with z | z
    ·rw [z];exact Nat.ne_of_lt hsz
    ·rw [z];exact Nat.ne_of_lt hiz
   rw [aa hne]
   exact (hf b hb).1
 done:=by
  intro X hP hw hK hc i pins s σ H E I hf st hg
  subst hP hw hK
  obtain ⟨xs,hq,hx⟩:=hg
  obtain ⟨its,rv,p,hz⟩:=I.tuple hq
  obtain ⟨⟨old,h1⟩,h2⟩:=st
  have hl:=rv.length
  refine qz (I.ok.hd hc) h1 h2 (show s.heap.IsTuple a its.toArray from p) (by simp;omega) fun h' kp=>⟨rfl,?_⟩
  exact gy (ch:=[e,it]) (t':=s.toks) I (fun b o hb q=>kp b o (fun z=>hb (z ▸ List.mem_cons_of_mem _ List.mem_cons_self)) q) hf
 self:=fun _ _ _ _ _ st h=>by
  obtain ⟨⟨old,h1⟩,_⟩:=st
  exact wpAny_pyIter_enum h1 h
section
variable {X:Cx}
noncomputable def zQ (K:Fg) (ta tk:TA):TI:=fun σ H R=>ta σ H fun vs H1=>tk σ H1 fun zs H2=>∃ a xs n,vs = [.ref a]∧zs = [.int n]∧Builtin.SmallTypes.fitsIndex n=true∧SqT K H2 a xs∧R (Ite K a n) H2
theorem oS {M:Model} {A:Around} {E:Value→Shared→Prop} {s:Shared} {env:Env} {pos:Pos} {T:String} {e:Expr} {rest:List Expr} {kws:List Keyword} {Q:Value→Shared→Prop}
 (h:wpAny M A (spliced (backTo pos (starEach (e :: rest) env))) (fun vs s1=>wpAny M A (evalAll ((backToKw pos (keywordEach kws env)).map (·.2))) (fun ks s2=>wpAny M A (call (.type T) vs (((backToKw pos (keywordEach kws env)).filterMap (·.1)).zip ks)) Q E s2) E s1) E s)
 (he:starEach (e :: rest) env=(false,eval e env) :: starEach rest env) (h1:(backTo pos (starEach (e :: rest) env)).any (·.1)=false) (h2:(backToKw pos (keywordEach kws env)).all (·.1.isSome)=true) (h3:(backToKw pos (keywordEach kws env)).any (·.1.isNone)=false) :
 wpAny M A (callWith pos (.type T) [] (backTo pos (starEach (e :: rest) env)) (backToKw pos (keywordEach kws env))) Q E s:=by
 have k:wpAny M A (evalArgs (.type T) true (backTo pos (starEach (e :: rest) env)) (backToKw pos (keywordEach kws env))) (fun a s1=>wpAny M A (call (.type T) ([] ++ a.pos) a.kw) Q E s1) E s:=by
  rw [he] at h ⊢
  exact evalArgs_kwB h2 h
 unfold callWith
 refine wpAny_bind (wpAny_holding (thn k fun a s1 q=>wpAny_bind (wpAny_standAt ?_)))
 simp only [h1,h3,Bool.or_false]
 exact wpAny_bind (wpAny_pure (wpAny_bind (thn q fun r s2 q2=>wpAny_bind (wpAny_holding (wpAny_point (wpAny_pure q2))))))
theorem o9 {prog:Program} {w:World} {A:Around} {E:Value→Shared→Prop} {s:Shared} {t:Addr} {xs:Array Value} {n:Int} {tk:Tok} {Q:Value→Shared→Prop} (hn:Builtin.SmallTypes.fitsIndex n=true) (ht:s.heap.IsTuple t xs)
 (h:Q (.ref (s.heap.push { cls:=.type "tuple_iterator",data:=.fields #[.ref t,.int 0 0] }).objs.size)
  { s with heap:=(s.heap.push { cls:=.type "tuple_iterator",data:=.fields #[.ref t,.int 0 0] }).push { cls:=.type "enumerate",data:=.fields #[.none,.bool false,.ref s.heap.objs.size,rawInt n,.none,.none] } }) :
 wpAny (model prog w) A (call (.type "enumerate") [.ref t] [("start",.int n tk)]) Q E s:=by
 refine ki (Q1:=fun obj s1=>obj = .ref (s.heap.push { cls:=.type "tuple_iterator",data:=.fields #[.ref t,.int 0 0] }).objs.size∧s1={ s with heap:=(s.heap.push { cls:=.type "tuple_iterator",data:=.fields #[.ref t,.int 0 0] }).push { cls:=.type "enumerate",data:=.fields #[.none,.bool false,.ref s.heap.objs.size,rawInt n,.none,.none] } })
  F.called_enumerate (by decide) (by simp) nofun nofun F.entry_enumerate_new (qA t n tk hn xs) ⟨ht,rfl,rfl⟩ fun obj s1 q=>?_
 obtain ⟨e,e'⟩:=q
 subst e e'
 exact ⟨⟨_,Heap.get?_push_size _ rfl,rfl⟩,by first | (simp [argsOk];done) | (unfold argsOk;kernel_rfl) | (unfold argsOk;decide +kernel) | kernel_rfl,h⟩
theorem u8 {es:List Expr} {k:Nat} {tp p pos kp:Pos} {a b:Expr} {ta tk:TA} (hg:Gl X "enumerate") (hm:X.mg "enumerate" = none) (ha:PA X [a] ta) (hk:PK X [⟨some "start",b,kp⟩] tk) (hs:starEach [a] X.env = [(false,eval a X.env)]:=by rfl) :
 PI X (.Tuple es k tp) (.Call (.Name "enumerate" p) [a] [⟨some "start",b,kp⟩] pos) (zQ X.K ta tk):=by
 intro pins s σ H R I h
 refine wpAny_Call_Name_kw (dX I hg hm boot_enumerate ?_)
 refine oS (thn (ha pos pins s σ H _ I h) fun us s1 q1=>?_) (by rw [hs];rfl) (by rw [hs];rfl) rfl rfl
 obtain ⟨vs,H1,I1,r1,q1⟩:=q1
 refine thn (hk pos pins s1 σ H1 _ I1 q1) fun ws s2 q2=>?_
 obtain ⟨zs,H2,I2,r2,l,xs,n,e,e',hn,hx,q⟩:=q2
 subst e e'
 obtain ⟨u,e,ru⟩:=av.one r1
 obtain ⟨u2,e',ru2⟩:=av.one r2
 subst e e'
 cases ru
 obtain ⟨tz,e⟩:=ru2
 subst e
 obtain ⟨its,rv,p1,z1⟩:=I2.tuple hx
 refine o9 hn (show s2.heap.IsTuple l its.toArray from p1) (wpAny_pyIter_enum (Heap.get?_push_size _ rfl) ?_)
 have hsz:(s2.heap.push { cls:=.type "tuple_iterator",data:=.fields #[.ref l,.int 0 0] }).objs.size=s2.heap.objs.size+1:=Heap.size_push ..
 rw [hsz]
 refine ⟨s2.heap.objs.size+1,[s2.heap.objs.size+1,s2.heap.objs.size],_,Ite X.K l n,H2,rfl,I2.kept (t':=s2.toks) fun b o e=>Heap.get?_push_of_some _ (Heap.get?_push_of_some _ e),pR l _ _ n (Nat.succ_ne_self _),⟨⟨.none,?_⟩,⟨_,Heap.get?_push_of_some _ (Heap.get?_push_size _ rfl),rfl,rfl⟩⟩,fun c hc=>?_,q⟩
 ·have z:n+((0:Nat):Int)=n:=by omega
  rw [z,← hsz]
  exact Heap.get?_push_size _ rfl
 ·have hc':s2.heap.objs.size≤c:=by
   rcases List.mem_cons.mp hc with z | z
   ·rw [z];exact Nat.le_succ _
   ·rw [List.mem_singleton.mp z];exact Nat.le_refl _
  exact I2.fpOk hc' (I2.hok.fresh hc')
end
noncomputable def maxD (d:Int):List Int→Int
 | []=>d
 | x :: r=>r.foldl (fun a b=>if b>a then b else a) x
end L2.Bw
end
section
namespace L2.Bk
open L2.Bw PyProof.Rows.LSm
noncomputable def Kt (K:Fg) (a:Addr) (xs:List V):Prop:=∃ (o:Obj) (its:Array Value) (n:Nat),K.lookup a=some o∧o.cls = .type "tuple"∧o.data = .seq its n∧its.size≤sizeLine∧av xs its.toList
noncomputable def Tp (K:Fg) (H:Hp) (a:Addr) (xs:List V):Prop:=H a=some (.tup xs)∨Kt K a xs
theorem Tp.sq {K:Fg} {H:Hp} {a:Addr} {xs:List V} (h:Tp K H a xs):SqT K H a xs:=by
 rcases h with h | h
 ·exact SqT.of h
 ·exact .inr h
inductive Dk where
 | non
 | int (i:Int)
 | bl (b:Bool)
 | str (x:Str)
 | tup (xs:List Dk)
mutual
noncomputable def RK (K:Fg) (H:Hp):Dk→V→Prop
 | .non,v=>v = .non
 | .int i,v=>v = .int i
 | .bl b,v=>v = .bl b
 | .str x,v=>v = .str x
 | .tup ds,v=>∃ a vs,v = .ref a∧Tp K H a vs∧RKs K H ds vs
noncomputable def RKs (K:Fg) (H:Hp):List Dk→List V→Prop
 | [],vs=>vs = []
 | d :: ds,vs=>∃ v r,vs=v :: r∧RK K H d v∧RKs K H ds r
end
theorem RK.s {K:Fg} {H:Hp} (x:Str):RK K H (.str x) (.str x):=by rw [RK]
theorem RK.i {K:Fg} {H:Hp} (x:Int):RK K H (.int x) (.int x):=by rw [RK]
theorem RKs.nil {K:Fg} {H:Hp}:RKs K H [] []:=rfl
theorem RKs.cons {K:Fg} {H:Hp} {d:Dk} {ds:List Dk} {v:V} {vs:List V} (h:RK K H d v) (t:RKs K H ds vs):RKs K H (d :: ds) (v :: vs):=⟨v,vs,rfl,h,t⟩
theorem RK.tup {K:Fg} {H:Hp} {a:Addr} {ds:List Dk} {vs:List V} (h:Tp K H a vs) (t:RKs K H ds vs):RK K H (.tup ds) (.ref a):=⟨a,vs,rfl,h,t⟩
theorem _root_.L2.Room.u1 {k:Nat} {A:Around} (r:Room k A):A.units+1<cLine:=by have:=r.un;omega
section
variable {X:Cx}
noncomputable def IsJ (K:Fg) (H:Hp) (x:V) (n:String) (b:Bool):Prop:=IsI K H x n b∨∃ a xs,x = .ref a∧Kt K a xs∧PySem.W.kitOne K (.type "tuple") (.type n)=some b
theorem qo:aO X (.builtin "isinstance") (fun xs H Q=>∃ x n b,xs = [x,.ty n]∧IsJ X.K H x n b∧Q (.bl b) H):=by
 intro pins s σ H xs us Q I r h
 obtain ⟨x,n,b,e,ty,q⟩:=h
 rcases ty with ty | ⟨a,ys,e',⟨o,its,m,hk,hc,hd,hz,rv⟩,k⟩
 ·exact qm pins s σ H xs us Q I r ⟨x,n,b,e,ty,q⟩
 ·subst e e'
  obtain ⟨u,w,e,ru,rw'⟩:=av.two r
  subst e
  cases rw'
  cases (show u=Value.ref a from ru)
  exact PySem.W.kia_one PySem.W.kitx_tuple I.kIn ⟨o,I.kIn a o hk,hc⟩ k (fun z=>nomatch z) fun tk=>⟨.bl b,H,I.tok tk,rfl,q⟩
theorem dW {vs:List V} {us:List Value} {j:Nat} {x:V} (r:av vs us) (hx:vs[j]? = some x) (h:j<us.toArray.size):ar x us.toArray[j]:=by
 obtain ⟨u,f,w⟩:=r.get hx
 have h':j<us.length:=by simpa using h
 rw [List.getElem?_eq_getElem h'] at f
 cases f
 simpa using w
end
end L2.Bk
end
section
namespace HT
section
variable {prog:Program} {w:World} {A:Around} {E:Value→Shared→Prop} {s:Shared}
theorem getItem_tuple_all {t sl:Addr} {items:Array Value} {vl vu:Value} {lo hi:Option Int} {Q:Value→Shared→Prop} (ht:IsTup s.heap t items) (hs:s.heap.IsSliceOf sl vl vu .none) (pl:IsPart vl lo) (pu:IsPart vu hi)
 (hw:sIx items.size 0 lo=0∧sIx items.size items.size hi=items.size) (h:Q (.ref t) s):wpAny (model prog w) A (getItem (.ref t) (.ref sl)) Q E s:=by
 obtain ⟨os,hos,hcs,hds⟩:=id hs
 have hTs:s.TypeIs (.ref sl) "slice":=⟨os,hos,hcs⟩
 unfold getItem
 try with_reducible refine wpAny_holding ?_
 first | refine wpAny_bind (wpAny_pure ?_) | skip
 refine wpAny_bind (wpAny_sequenceKey ht.typeIs (by decide) ?_)
 refine wpAny_bind (wpAny_callSpecial?_slot (name:=Str.ofString "__getitem__") ht.typeIs PyProof.Rows.slot_tuple_getitem
  (wpAny_call_entry PyProof.Rows.slot_tuple_getitem ht.typeIs entry_tuple_getitem ?_ (args_tuple_getitem _ _)))
 show wpAny _ _ (Builtin.Tuple.tupleItemsOf (.ref t) >>= _) _ _ s
 refine wpAny_bind (tupleItemsOf_ ht ?_)
 refine wpAny_bind (wpAny_typeOf hTs ?_)
 rw [if_pos (by decide)]
 refine wpAny_bind (cz hs pl pu ?_)
 have hyes:(((sIx items.size 0 lo:Nat):Int) == 0 && (1:Int) == 1 && (sIx items.size items.size hi - sIx items.size 0 lo) == items.size)=true:=by
  rw [hw.1,hw.2]
  simp
 show wpAny _ _ (if (((sIx items.size 0 lo:Nat):Int) == 0 && (1:Int) == 1 && (sIx items.size items.size hi - sIx items.size 0 lo) == items.size)=true then _ else _) _ _ s
 rw [if_pos hyes]
 show wpAny _ _ (Builtin.Tuple.tupleIsExact (.ref t) >>= _) _ _ s
 refine wpAny_bind ?_
 unfold Builtin.Tuple.tupleIsExact
 refine wpAny_bind (wpAny_typeOf ht.typeIs (wpAny_pure ?_))
 rw [if_pos (by decide)]
 refine wpAny_bind (wpAny_rule ?_)
 first
  | exact wpAny_pure ⟨_,rfl,wpAny_pure h⟩
  | exact wpAny_bind (wpAny_pure (wpAny_pure ⟨_,rfl,wpAny_pure h⟩))
  | exact wpAny_bind (wpAny_bind (wpAny_pure (wpAny_pure ⟨_,rfl,wpAny_pure h⟩)))
end
end HT
namespace L2.Bk
open L2.Bw
section
variable {X:Cx}
noncomputable def BN (K:Fg):V→Option Int→Option Int→Hp→VK→Prop:=fun x lo hi H Q=>∃ a xs,x = .ref a∧SqT K H a xs∧(HT.sIx xs.length 0 lo=0∧HT.sIx xs.length xs.length hi=xs.length)∧Q (.ref a) H
theorem vE:SlR X (BN X.K):=by
 intro pins s σ H x v vl vu lo hi sl Q I rx hs pl pu h
 obtain ⟨a,xs,e,hx,hw,q⟩:=h
 subst e
 cases rx
 obtain ⟨its,r,ht,hz⟩:=I.tuple hx
 have hlen:its.toArray.size=xs.length:=by rw [List.size_toArray];exact r.length.symm
 refine ⟨"tuple",_,PyProof.Rows.slot_tuple_getitem.lookup,ht.typeIs,?_⟩
 exact HT.getItem_tuple_all ht hs pl pu (by rw [hlen];exact hw) ⟨.ref a,H,I,rfl,q⟩
end
end L2.Bk
end
section
namespace L2
section
variable {κ:Type} [DecidableEq κ]
noncomputable def bO (kvs:List (κ×V)) (k:κ):Option V:=(kvs.find? fun kv=>decide (kv.1=k)).map (·.2)
noncomputable def cL (kvs:List (κ×V)) (k:κ) (v:V):List (κ×V):=
 if (kvs.any fun kv=>decide (kv.1=k))=true then kvs.map (fun kv=>if kv.1=k then (kv.1,v) else kv) else kvs ++ [(k,v)]
theorem eV {p:κ×V} {r:List (κ×V)} {k:κ} (e:p.1=k):bO (p :: r) k=some p.2:=by simp [bO,List.find?_cons,e]
theorem iA {p:κ×V} {r:List (κ×V)} {k:κ} (e:¬ p.1=k):bO (p :: r) k=bO r k:=by simp [bO,List.find?_cons,e]
theorem iz (k:κ):∀ kvs:List (κ×V),(kvs.any fun kv=>decide (kv.1=k))=(bO kvs k).isSome
 | []=>rfl
 | p :: r=>by
   rw [List.any_cons]
   by_cases e:p.1=k
   ·simp only [eV e,decide_eq_true e,Bool.true_or,Option.isSome_some]
   ·rw [iA e,decide_eq_false e,Bool.false_or];exact iz k r
theorem dl (kvs:List (κ×V)) (k:κ) (v:V):(cL kvs k v).length≤kvs.length+1:=by
 unfold cL
 split
 ·rw [List.length_map];omega
 ·rw [List.length_append,List.length_cons,List.length_nil];omega
theorem sF {kvs:List (κ×V)} {k:κ} (v:V) (h:bO kvs k=none):cL kvs k v=kvs ++ [(k,v)]:=by
 unfold cL
 rw [iz,h]
 exact if_neg (by decide)
theorem bM.isSome_eq {o:Option V} {u:Option Value} (r:bM o u):o.isSome=u.isSome:=by
 cases o with
 | none=>cases u with
   | none=>rfl
   | some _=>exact (show False from r).elim
 | some _=>cases u with
   | none=>exact (show False from r).elim
   | some _=>rfl
theorem bM.getD {o:Option V} {u:Option Value} {d:V} {d':Value} (r:bM o u) (rd:ar d d'):ar (o.getD d) (u.getD d'):=by
 cases o with
 | none=>cases u with
   | none=>exact rd
   | some _=>exact (show False from r).elim
 | some _=>cases u with
   | none=>exact (show False from r).elim
   | some _=>exact r
theorem KV.val {kvs:List (κ×V)} {vs:List (κ×Value)} (r:KV kvs vs) (k:κ):bM (bO kvs k) (valueAt vs k):=by
 unfold KV at r
 induction r with
 | nil=>exact True.intro
 | @cons p q ps qs h t ih=>
   obtain ⟨h1,h2⟩:=h
   by_cases e:p.1=k
   ·have e':q.1=k:=h1.symm.trans e
    have b:valueAt (q :: qs) k=some q.2:=by simp [valueAt,List.find?_cons,e']
    rw [eV e,b];exact h2
   ·have e':¬ q.1=k:=fun z=>e (h1.trans z)
    have b:valueAt (q :: qs) k=valueAt qs k:=by simp [valueAt,List.find?_cons,e']
    rw [iA e,b];exact ih
theorem KV.any {kvs:List (κ×V)} {vs:List (κ×Value)} (r:KV kvs vs) (k:κ):(kvs.any fun kv=>decide (kv.1=k))=vs.any fun kv=>decide (kv.1=k):=by
 unfold KV at r
 induction r with
 | nil=>rfl
 | cons h t ih=>rw [List.any_cons,List.any_cons,ih,h.1]
theorem KV.repl {kvs:List (κ×V)} {vs:List (κ×Value)} (r:KV kvs vs) (k:κ) {y:V} {u:Value} (ry:ar y u) :
 KV (kvs.map fun kv=>if kv.1=k then (kv.1,y) else kv) (vs.map fun kv=>if kv.1=k then (kv.1,u) else kv):=by
 unfold KV at r ⊢
 induction r with
 | nil=>exact .nil
 | @cons p q ps qs h t ih=>
   rw [List.map_cons,List.map_cons]
   refine .cons ?_ ih
   obtain ⟨h1,h2⟩:=h
   by_cases e:p.1=k
   ·rw [if_pos e,if_pos (h1.symm.trans e)];exact ⟨h1,ry⟩
   ·rw [if_neg e,if_neg (fun z=>e (h1.trans z))];exact ⟨h1,h2⟩
theorem KV.put {kvs:List (κ×V)} {vs:List (κ×Value)} (r:KV kvs vs) (k:κ) {y:V} {u:Value} (ry:ar y u):KV (cL kvs k y) (stored vs k u):=by
 unfold cL stored
 rw [r.any k]
 by_cases e:(vs.any fun kv=>decide (kv.1=k))=true
 ·rw [if_pos e,if_pos e];exact r.repl k ry
 ·rw [if_neg e,if_neg e];exact Paired.snoc r ⟨rfl,ry⟩
theorem KV.length {kvs:List (κ×V)} {vs:List (κ×Value)} (r:KV kvs vs):kvs.length=vs.length:=Paired.length r
end
theorem fS {P:Program} {w:World} {k:Key} {u:Value} (r:ar (kV k) u):(aB P w).is k u=true:=by
 cases k with
 | inl i=>obtain ⟨t,e⟩:=(show ∃ t,u=Value.int i t from r);subst e;exact kZ P w i t
 | inr x=>obtain ⟨t,e⟩:=(show ∃ t,u=Value.str x t from r);subst e;exact k6 P w x t
theorem jb {P:Program} {w:World}:∀ {ks:List Key} {us:List Value},av (ks.map kV) us→ItemsAre (aB P w) ks us
 | [],_,r=>by rw [List.map_nil] at r;cases r;exact .nil
 | k :: ks,_,r=>by
   rw [List.map_cons] at r
   cases r with
   | cons h t=>exact .cons (fS h) (jb t)
noncomputable abbrev KT (H:Hp):List (List Key×V)→List (List Key×Addr×Value)→Prop:=Paired fun p q=>p.1=q.1∧H q.2.1=some (.tup (p.1.map kV))∧ar p.2 q.2.2
theorem KT.val {H:Hp} {kvs:List (List Key×V)} {xs:List (List Key×Addr×Value)} (r:KT H kvs xs) (k:List Key):bM (bO kvs k) ((atKey xs k).map (·.2)):=by
 induction r with
 | nil=>exact True.intro
 | @cons p q ps qs h t ih=>
   obtain ⟨h1,_,h2⟩:=h
   by_cases e:p.1=k
   ·have e':q.1=k:=h1.symm.trans e
    have b:atKey (q :: qs) k=some q.2:=by simp [atKey,List.find?_cons,e']
    rw [eV e,b];exact h2
   ·have e':¬ q.1=k:=fun z=>e (h1.trans z)
    have b:atKey (q :: qs) k=atKey qs k:=by simp [atKey,List.find?_cons,e']
    rw [iA e,b];exact ih
theorem KT.repl {H:Hp} {kvs:List (List Key×V)} {xs:List (List Key×Addr×Value)} (r:KT H kvs xs) (k:List Key) {y:V} {u:Value} (ry:ar y u) :
 KT H (kvs.map fun kv=>if kv.1=k then (kv.1,y) else kv) (xs.map (putAt k u)):=by
 induction r with
 | nil=>exact .nil
 | @cons p q ps qs h t ih=>
   rw [List.map_cons,List.map_cons]
   refine .cons ?_ ih
   obtain ⟨h1,h2,h3⟩:=h
   unfold putAt
   by_cases e:p.1=k
   ·rw [if_pos e,if_pos (h1.symm.trans e)];exact ⟨h1,h2,ry⟩
   ·rw [if_neg e,if_neg (fun z=>e (h1.trans z))];exact ⟨h1,h2,h3⟩
theorem KT.put {H:Hp} {kvs:List (List Key×V)} {xs:List (List Key×Addr×Value)} (r:KT H kvs xs) (k:List Key) {b:Addr} {y:V} {u:Value} (hb:H b=some (.tup (k.map kV))) (ry:ar y u) :
 KT H (cL kvs k y) (storedH xs k b u):=by
 have e:(kvs.any fun kv=>decide (kv.1=k))=(atKey xs k).isSome:=by
  rw [iz,(r.val k).isSome_eq,Option.isSome_map]
 unfold cL storedH
 rw [e]
 by_cases q:(atKey xs k).isSome=true
 ·rw [if_pos q,if_pos q];exact r.repl k ry
 ·rw [if_neg q,if_neg q];exact Paired.snoc r ⟨rfl,hb,ry⟩
theorem KT.keeps {H H':Hp} {kvs:List (List Key×V)} {xs:List (List Key×Addr×Value)} (r:KT H kvs xs) (ht:∀ b ys,H b=some (.tup ys)→H' b=some (.tup ys)):KT H' kvs xs:=
 Paired.mapP r fun _ _ z=>⟨z.1,ht _ _ z.2.1,z.2.2⟩
section
variable {P:Program} {w:World} {H:Hp} {h:Heap} {a:Addr}
theorem ww {u:HO} (ok:HOk P w H h) (e:Rd H a u):aC P w H h a u:=e.ok ok
theorem fB {kvs:List (Key×V)} (ok:HOk P w H h) (e:Rd H a (.dK kvs)):kvs.length≤sizeLine∧(a == sysModules)=false∧∃ vs,KV kvs vs∧h.DictOf (aB P w) a vs:=
 show aC P w H h a (.dK kvs) from ww ok e
theorem wb {kvs:List (Key×V)} (ok:HOk P w H h) (e:H a=some (.dK kvs)):kvs.length≤sizeLine∧(a == sysModules)=false∧∃ vs,KV kvs vs∧h.DictOf (aB P w) a vs:=fB ok (.inl e)
theorem cj {ks:List Key} (ok:HOk P w H h) (e:H a=some (.tup (ks.map kV))):(tupleKind (aB P w)).is h ks a:=by
 obtain ⟨_,its,r,o,h1,h2,n,h3⟩:=(show aC P w H h a (.tup (ks.map kV)) from ok a _ e)
 exact ⟨o,its.toArray,n,h1,h2,h3,by simpa using jb r⟩
theorem fC {kvs:List (List Key×V)} (ok:HOk P w H h) (e:Rd H a (.dT kvs)):kvs.length≤sizeLine∧(a == sysModules)=false ∧
 ∃ xs,KT H kvs xs∧h.DictOfH (tupleKind (aB P w)) a xs:=by
 obtain ⟨z,y,xs,r,o,es,ep,h1,h2,h3,h4,h5⟩:=(show aC P w H h a (.dT kvs) from ww ok e)
 refine ⟨z,y,xs,r,o,es,ep,h1,h2,h3,h4,fun x hx=>?_,h5⟩
 have all:∀ {l:List (List Key×V)} {m:List (List Key×Addr×Value)},KT H l m→∀ x∈m,(tupleKind (aB P w)).is h x.1 x.2.1:=by
  intro l m q
  induction q with
  | nil=>intro x hx;exact nomatch hx
  | @cons p q ps qs hq t ih=>
    intro x hx
    rcases List.mem_cons.mp hx with e | hx
    ·subst e
     exact cj ok (by rw [← hq.1];exact hq.2.1)
    ·exact ih x hx
 exact all r x hx
theorem zK {kvs:List (List Key×V)} (ok:HOk P w H h) (e:H a=some (.dT kvs)):kvs.length≤sizeLine∧(a == sysModules)=false ∧
 ∃ xs,KT H kvs xs∧h.DictOfH (tupleKind (aB P w)) a xs:=fC ok (.inl e)
end
noncomputable def eX (H:Hp) (a:Addr) (y:V) (r:Option V):Prop:=
 (∃ kvs k,Rd H a (.dK kvs)∧y=kV k∧r=bO kvs k)∨∃ kvs k b,Rd H a (.dT kvs)∧y = .ref b∧H b=some (.tup (k.map kV))∧r=bO kvs k
noncomputable def zl (H:Hp) (a:Addr) (y v:V) (H':Hp):Prop:=
 (∃ kvs k,H a=some (.dK kvs)∧y=kV k∧kvs.length<sizeLine∧H'=upd H a (.dK (cL kvs k v))) ∨
 ∃ kvs k b,H a=some (.dT kvs)∧y = .ref b∧H b=some (.tup (k.map kV))∧kvs.length<sizeLine∧H'=upd H a (.dT (cL kvs k v))
theorem eX.k {H:Hp} {a:Addr} {kvs:List (Key×V)} {k:Key} (e:H a=some (.dK kvs)):eX H a (kV k) (bO kvs k):=.inl ⟨kvs,k,.inl e,rfl,rfl⟩
section
variable {X:Cx} {pins:List (Addr×Obj)} {σ:St} {H:Hp} {s:Shared} {a:Addr} {y v:V} {u r:Value} {o:Option V} {A:Around} {E:Value→Shared→Prop}
theorem Inv.big (I:Inv X pins σ H s):sysModules<s.heap.objs.size:=by
 have h:mainGlobals<s.heap.objs.size:=(I.mod.glob.keeps I.bk).lt
 exact Nat.lt_trans (by decide) h
theorem o6 {Q:Value→Shared→Prop} (hu:A.units+1<cLine) (I:Inv X pins σ H s) (g:eX H a y (some v)) (ry:ar y u) (h:∀ w' s',Inv X pins σ H s'→ar v w'→Q w' s') :
 wpAny (model X.prog X.w) A (getItem (.ref a) u) Q E s:=by
 rcases g with ⟨kvs,k,e,ey,l⟩ | ⟨kvs,k,b,e,ey,eb,l⟩
 ·subst ey
  obtain ⟨z,hd,vs,rel,dd⟩:=fB I.hok e
  obtain ⟨w',hw,rw'⟩:=bM.some_of (v:=v) (o:=valueAt vs k) (by rw [l];exact rel.val k)
  exact wpAny_getItem_of (fS ry) dd.mapOf hw (h w' _ (I.tok _) rw')
 ·subst ey
  cases (show u=Value.ref b from ry)
  obtain ⟨z,hd,xs,rel,dd⟩:=fC I.hok e
  obtain ⟨w',hw,rw'⟩:=bM.some_of (v:=v) (o:=(atKey xs k).map (·.2)) (by rw [l];exact rel.val k)
  obtain ⟨p,hp,hp2⟩:=Option.map_eq_some_iff.mp hw
  refine wpAny_getItem_heap (tupleKind_room_in1 hu) (cj I.hok eb) dd hp ?_
  rw [hp2]
  exact h w' _ (I.tok _) rw'
theorem Bt {Q:Value→Shared→Prop} (hu:A.units+1<cLine) (I:Inv X pins σ H s) (g:eX H a y o) (ry:ar y u) (h:∀ s',Inv X pins σ H s'→Q (.bool o.isSome) s') :
 wpAny (model X.prog X.w) A (compareOp .In u (.ref a)) Q E s:=by
 rcases g with ⟨kvs,k,e,ey,l⟩ | ⟨kvs,k,b,e,ey,eb,l⟩
 ·subst ey
  obtain ⟨z,hd,vs,rel,dd⟩:=fB I.hok e
  refine wpAny_in_of (fS ry) hd dd.mapOf ?_
  rw [← (rel.val k).isSome_eq,← l]
  exact h _ (I.tok _)
 ·subst ey
  cases (show u=Value.ref b from ry)
  obtain ⟨z,hd,xs,rel,dd⟩:=fC I.hok e
  refine wpAny_in_heap (tupleKind_room_in1 hu) (cj I.hok eb) hd dd ?_
  have q:=(rel.val k).isSome_eq
  rw [Option.isSome_map] at q
  rw [← q,← l]
  exact h _ (I.tok _)
theorem tY {Q:Value→Shared→Prop} (hu:A.units+1<cLine) (I:Inv X pins σ H s) (g:eX H a y o) (ry:ar y u) (h:∀ s',Inv X pins σ H s'→Q (.bool (!o.isSome)) s') :
 wpAny (model X.prog X.w) A (compareOp .NotIn u (.ref a)) Q E s:=by
 rcases g with ⟨kvs,k,e,ey,l⟩ | ⟨kvs,k,b,e,ey,eb,l⟩
 ·subst ey
  obtain ⟨z,hd,vs,rel,dd⟩:=fB I.hok e
  refine wpAny_notIn_of (fS ry) hd dd.mapOf ?_
  rw [← (rel.val k).isSome_eq,← l]
  exact h _ (I.tok _)
 ·subst ey
  cases (show u=Value.ref b from ry)
  obtain ⟨z,hd,xs,rel,dd⟩:=fC I.hok e
  refine wpAny_notIn_heap (tupleKind_room_in1 hu) (cj I.hok eb) hd dd ?_
  have q:=(rel.val k).isSome_eq
  rw [Option.isSome_map] at q
  rw [← q,← l]
  exact h _ (I.tok _)
theorem jE {h':Heap} {t':Nat} {ob:HO} (I:Inv X pins σ H s) (mu:Mut (H a)) (hs:Heap.SameBut a s.heap h') (he:∃ q,h'.get? a=some q) (new:aC X.prog X.w (upd H a ob) h' a ob) :
 Inv X pins σ (upd H a ob) { s with heap:=h',toks:=t' }:=
 I.write (x:=a) (e:=a) mu (.inl rfl) (fun b q hb z=>(hs.2 b hb).trans z) he new
theorem qv {P:Program} {w:World} {H':Hp} {h':Heap} {kvs:List (Key×V)} {vs:List (Key×Value)} (z:kvs.length≤sizeLine) (hd:(a == sysModules)=false) (rel:KV kvs vs) (dd:h'.DictOf (aB P w) a vs) :
 aC P w H' h' a (.dK kvs):=⟨z,hd,vs,rel,dd⟩
theorem o7 {H':Hp} {Q:Unit→Shared→Prop} (hu:A.units+1<cLine) (I:Inv X pins σ H s) (g:zl H a y v H') (ry:ar y u) (rv:ar v r) (h:∀ s',Inv X pins σ H' s'→Q () s') :
 wpAny (model X.prog X.w) A (setItem (.ref a) u r) Q E s:=by
 rcases g with ⟨kvs,k,e,ey,l,eH⟩ | ⟨kvs,k,b,e,ey,eb,l,eH⟩
 ·subst ey eH
  obtain ⟨z,hd,vs,rel,dd⟩:=wb I.hok e
  have hz:vs.length≤sizeLine:=by rw [← rel.length];exact z
  have hl:(cL kvs k v).length≤sizeLine:=by have:=dl kvs k v;omega
  refine wpAny_setItem_pairs (hsz:=hz) (fS ry) dd fun h' dd' hs=>h _ ?_
  have he:∃ q,h'.get? a=some q:=let ⟨q,_,_,hq,_⟩:=dd';⟨q,hq⟩
  exact jE I (by rw [e];exact True.intro) hs he (qv hl hd (rel.put k rv) dd')
 ·subst ey eH
  cases (show u=Value.ref b from ry)
  obtain ⟨z,hd,xs,rel,dd⟩:=zK I.hok e
  have hz:xs.length≤sizeLine:=by rw [← Paired.length rel];exact z
  have hl:(cL kvs k v).length≤sizeLine:=by have:=dl kvs k v;omega
  refine wpAny_setItem_heap (hsz:=hz) (tupleKind_room_in1 hu) (cj I.hok eb) dd fun h' dd' hs=>h _ ?_
  obtain ⟨q,es,ep,hq,h2,h3,h4,_,h5⟩:=dd'
  refine jE I (by rw [e];exact True.intro) hs ⟨q,hq⟩ ⟨hl,hd,_,(rel.put k eb rv).keeps fun c ys ec=>?_,q,es,ep,hq,h2,h3,h4,h5⟩
  rw [aa (Ao ec e (fun z=>nomatch z))]
  exact ec
end
theorem kB {X:Cx} {pins:List (Addr×Obj)} {σ:St} {H:Hp} {s:Shared} {a:Addr} {y:V} {o:Option V} (I:Inv X pins σ H s) (g:eX H a y o):s.TypeIs (.ref a) "dict":=by
 rcases g with ⟨kvs,k,e,_,_⟩ | ⟨kvs,k,b,e,_,_,_⟩
 ·obtain ⟨_,_,vs,_,dd⟩:=fB I.hok e
  exact dd.typeIs
 ·obtain ⟨_,_,xs,_,dd⟩:=fC I.hok e
  exact dd.typeIs
theorem kC {P:Program} {w:World} {H:Hp} (h:Heap) (hb:sysModules<h.objs.size):aC P w H (h.push { cls:=.type "dict",data:=.dict #[] }) h.objs.size (.dK []):=
 ⟨Nat.zero_le _,beq_eq_false_iff_ne.mpr (Ne.symm (Nat.ne_of_lt hb)),[],.nil,Heap.DictOf.new h⟩
noncomputable def y6:TE:=fun _ H Q=>∀ p,H p=none→Q (.ref p) (upd H p (.dK []))
section
variable {X:Cx} {pos:Pos}
theorem hW:PE X (.Dict [] [] pos) y6:=fun pins s σ H Q I h=>
 wpAny_Dict_empty ⟨.ref s.heap.objs.size,_,I.laid (a:=s.heap.objs.size) (o:=.dK []) (t':=s.toks) (fun _ _ q=>Heap.get?_push_of_some _ q) (Nat.le_refl _) (kC s.heap I.big),rfl,h _ (I.hok.fresh (Nat.le_refl _))⟩
end
noncomputable def kb:List (TE×TE)→St→Hp→(List (V×V)→Hp→Prop)→Prop
 | [],_,H,Q=>Q [] H
 | (tk,tv) :: r,σ,H,Q=>tk σ H fun x H1=>tv σ H1 fun y H2=>kb r σ H2 fun ps H3=>Q ((x,y) :: ps) H3
noncomputable abbrev VV:List (V×V)→List (Value×Value)→Prop:=Paired fun p q=>ar p.1 q.1∧ar p.2 q.2
noncomputable def PPs (X:Cx) (pos:Pos) (keys:List (Option Expr)) (values:List Expr) (trs:List (TE×TE)):Prop:=
 ∀ (pins:List (Addr×Obj)) (s:Shared) (σ:St) (H:Hp) (Q:List (V×V)→Hp→Prop),Inv X pins σ H s→kb trs σ H Q →
   wpAny (model X.prog X.w) X.A (evalPairs (pairTrees keys values X.env pos)) (fun vs s'=>∃ ps H',Inv X pins σ H' s'∧VV ps vs∧Q ps H') X.xe s
theorem vd {X:Cx} {pos:Pos}:PPs X pos [] [] []:=fun pins s σ H Q I h=>pairTrees_nil_walk ⟨[],H,I,.nil,h⟩
theorem sA {X:Cx} {pos:Pos} {k v:Expr} {ks:List (Option Expr)} {vs:List Expr} {tk tv:TE} {trs:List (TE×TE)} (hk:PE X k tk) (hv:PE X v tv) (hr:PPs X pos ks vs trs) :
 PPs X pos (some k :: ks) (v :: vs) ((tk,tv) :: trs):=fun pins s σ H Q I h=>
 pairTrees_cons_walk (thn (hk pins s σ H _ I h) fun u s1 ⟨x,H1,I1,rx,q1⟩=>thn (hv pins s1 σ H1 _ I1 q1) fun w2 s2 ⟨y,H2,I2,ry,q2⟩=>
  thn (hr pins s2 σ H2 _ I2 q2) fun ws s3 ⟨ps,H3,I3,rel,q3⟩=>⟨(x,y) :: ps,H3,I3,.cons ⟨rx,ry⟩ rel,q3⟩)
noncomputable def cI (kvs more:List (Key×V)):List (Key×V):=more.foldl (fun acc kv=>cL acc kv.1 kv.2) kvs
theorem KV.merge:∀ {more:List (Key×V)} {rs:List (Key×Value)} {kvs:List (Key×V)} {vs:List (Key×Value)},KV more rs→KV kvs vs→KV (cI kvs more) (merged vs rs):=by
 intro more rs kvs vs r
 unfold KV at r
 induction r generalizing kvs vs with
 | nil=>intro q;exact q
 | @cons p q ps qs h t ih=>
   intro r0
   have e:KV (cL kvs p.1 p.2) (stored vs q.1 q.2):=by
    have:=r0.put p.1 h.2
    rw [← h.1];exact this
   exact ih e
theorem dO:∀ (more kvs:List (Key×V)),(cI kvs more).length≤kvs.length+more.length
 | [],kvs=>by show kvs.length≤kvs.length+0;omega
 | p :: r,kvs=>by
   have h1:=dO r (cL kvs p.1 p.2)
   have h2:=dl kvs p.1 p.2
   show (cI (cL kvs p.1 p.2) r).length≤_
   rw [List.length_cons];omega
theorem gD {P:Program} {w:World}:∀ {kvs:List (Key×V)} {ws:List (Value×Value)},VV (kvs.map fun kv=>(kV kv.1,kv.2)) ws→∃ rs,Carries (aB P w) ws rs∧KV kvs rs
 | [],_,r=>by rw [List.map_nil] at r;cases r;exact ⟨[],True.intro,.nil⟩
 | p :: kvs,_,r=>by
   rw [List.map_cons] at r
   cases r with
   | @cons a b as bs h t=>
     obtain ⟨rs,c,q⟩:=gD (P:=P) (w:=w) t
     obtain ⟨b1,b2⟩:=b
     exact ⟨(p.1,b2) :: rs,⟨fS h.1,rfl,c⟩,.cons ⟨rfl,h.2⟩ q⟩
noncomputable def wy (trs:List (TE×TE)):TE:=fun σ H Q=>∀ p,H p=none→kb trs σ (upd H p (.dK [])) fun ps H2=>H2 p=some (.dK [])∧∃ kvs:List (Key×V),ps=kvs.map (fun kv=>(kV kv.1,kv.2))∧kvs.length≤15∧Q (.ref p) (upd H2 p (.dK (cI [] kvs)))
theorem uX {X:Cx} {pos:Pos} {keys:List (Option Expr)} {values:List Expr} {trs:List (TE×TE)} (h:PPs X pos keys values trs) (hall:keys.all (·.isSome)=true) (hl:keys.length=values.length) (h0:keys≠[])
 (h15:keys.length≤15):PE X (.Dict keys values pos) (wy trs):=by
 intro pins s σ H Q I q
 have hn:=I.hok.fresh (Nat.le_refl s.heap.objs.size)
 have I1:=I.laid (a:=s.heap.objs.size) (o:=.dK []) (h':=s.heap.push { cls:=.type "dict",data:=.dict #[] }) (t':=s.toks) (fun _ _ q=>Heap.get?_push_of_some _ q) (Nat.le_refl _) (kC s.heap I.big)
 refine wpAny_Dict_walk (knd:=aB X.prog X.w) hall hl h0 h15 (thn (h pins _ σ _ _ I1 (q _ hn)) fun ws s2 ⟨ps,H2,I2,rel,e,kvs,ep,lk,q2⟩=>?_)
 subst ep
 obtain ⟨rs,c,rk⟩:=gD (P:=X.prog) (w:=X.w) rel
 obtain ⟨z,hd,vs0,r0,dd⟩:=wb I2.hok e
 cases r0
 refine ⟨rs,c,dd,fun h' dd' hs=>⟨.ref s.heap.objs.size,_,?_,rfl,q2⟩⟩
 have hz:(cI [] kvs).length≤sizeLine:=by
  have h1:=dO kvs []
  rw [List.length_nil] at h1
  rw [sizeLine_eq];omega
 have he:∃ q,h'.get? s.heap.objs.size=some q:=let ⟨q,_,_,hq,_⟩:=dd';⟨q,hq⟩
 exact jE I2 (by rw [e];exact True.intro) hs he (qv hz hd (rk.merge .nil) dd')
structure DM1 (X:Cx) (o:Expr) (m:Str) (apos:Pos) (e:Expr) (cpos:Pos):Prop where
 base:attributeBase o m X.env (eval o X.env)=eval o X.env
 few:((backTo cpos (starEach [e] X.env)).all (fun x=>!x.1) && (backToKw cpos (keywordEach [] X.env)).all (fun x=>x.1.isSome)
  && decide (([e]:List Expr).length+([]:List Keyword).length+(if ([]:List Keyword).isEmpty then 0 else 1)<30))=true
 line:(apos.endLine == cpos.line)=true
 trees:backTo cpos (starEach [e] X.env) = [(false,eval e X.env)]
structure DM2 (X:Cx) (o:Expr) (m:Str) (apos:Pos) (e f:Expr) (cpos:Pos):Prop where
 base:attributeBase o m X.env (eval o X.env)=eval o X.env
 few:((backTo cpos (starEach [e,f] X.env)).all (fun x=>!x.1) && (backToKw cpos (keywordEach [] X.env)).all (fun x=>x.1.isSome)
  && decide (([e,f]:List Expr).length+([]:List Keyword).length+(if ([]:List Keyword).isEmpty then 0 else 1)<30))=true
 line:(apos.endLine == cpos.line)=true
 trees:backTo cpos (starEach [e,f] X.env) = [(false,eval e X.env),(false,eval f X.env)]
noncomputable def IsD (H:Hp) (a:Addr):Prop:=(∃ kvs,Rd H a (.dK kvs))∨∃ kvs,Rd H a (.dT kvs)
theorem qV {X:Cx} {pins:List (Addr×Obj)} {σ:St} {H:Hp} {s:Shared} {a:Addr} (I:Inv X pins σ H s) (d:IsD H a) :
 s.TypeIs (.ref a) "dict"∧(∀ b,Value.ref a = .ref b→∃ ob,s.heap.get? b=some ob∧ob.dict=none)∧(a == sysModules)=false:=by
 rcases d with ⟨kvs,e⟩ | ⟨kvs,e⟩
 ·obtain ⟨_,hd,vs,_,dd⟩:=fB I.hok e
  refine ⟨dd.typeIs,fun b q=>?_,hd⟩
  cases q
  obtain ⟨ob,_,_,h1,h2,_⟩:=dd
  exact ⟨ob,h1,h2.2.1⟩
 ·obtain ⟨_,hd,xs,_,dd⟩:=fC I.hok e
  refine ⟨dd.typeIs,fun b q=>?_,hd⟩
  cases q
  obtain ⟨ob,_,_,h1,h2,_⟩:=dd
  exact ⟨ob,h1,h2.2.1⟩
section
variable {X:Cx} {pins:List (Addr×Obj)} {σ:St} {H:Hp} {s:Shared} {a:Addr} {y d:V} {u r:Value} {o:Option V} {A:Around} {E:Value→Shared→Prop}
theorem w8 {Q:Value→Shared→Prop} (hu:A.units+1<cLine) (I:Inv X pins σ H s) (g:eX H a y o) (ry:ar y u) (h:∀ w' s',Inv X pins σ H s'→ar (o.getD .non) w'→Q w' s') :
 wpAny (model X.prog X.w) A (call (.builtin "dict.get") [.ref a,u]) Q E s:=by
 rcases g with ⟨kvs,k,e,ey,l⟩ | ⟨kvs,k,b,e,ey,eb,l⟩
 ·subst ey
  obtain ⟨z,hd,vs,rel,dd⟩:=fB I.hok e
  refine call_meetsIn PySem.F.slot_dict_get dd.typeIs PySem.F.entry_dict_get (PySem.F.args_dict_get_2 _ _) (meets_dict_get (aB X.prog X.w) a (fS ry) hd) ⟨_,dd.mapOf,h _ _ (I.tok _) ?_⟩
  rw [l]
  exact (rel.val k).getD rfl
 ·subst ey
  cases (show u=Value.ref b from ry)
  obtain ⟨z,hd,xs,rel,dd⟩:=fC I.hok e
  refine call_meetsIn PySem.F.slot_dict_get dd.typeIs PySem.F.entry_dict_get (PySem.F.args_dict_get_2 _ _) (meetsH_dict_get (tupleKind (aB X.prog X.w)) a b hd) ⟨tupleKind_room_in1 hu,k,xs,cj I.hok eb,dd,h _ _ (I.tok _) ?_⟩
  rw [l]
  exact (rel.val k).getD rfl
theorem w9 {Q:Value→Shared→Prop} (hu:A.units+1<cLine) (I:Inv X pins σ H s) (g:eX H a y o) (ry:ar y u) (rd:ar d r) (h:∀ w' s',Inv X pins σ H s'→ar (o.getD d) w'→Q w' s') :
 wpAny (model X.prog X.w) A (call (.builtin "dict.get") [.ref a,u,r]) Q E s:=by
 rcases g with ⟨kvs,k,e,ey,l⟩ | ⟨kvs,k,b,e,ey,eb,l⟩
 ·subst ey
  obtain ⟨z,hd,vs,rel,dd⟩:=fB I.hok e
  refine call_meetsIn PySem.F.slot_dict_get dd.typeIs PySem.F.entry_dict_get (PySem.F.args_dict_get_3 _ _ _) (meets_dict_get_default (aB X.prog X.w) a (fS ry) hd r) ⟨_,dd.mapOf,h _ _ (I.tok _) ?_⟩
  rw [l]
  exact (rel.val k).getD rd
 ·subst ey
  cases (show u=Value.ref b from ry)
  obtain ⟨z,hd,xs,rel,dd⟩:=fC I.hok e
  refine call_meetsIn PySem.F.slot_dict_get dd.typeIs PySem.F.entry_dict_get (PySem.F.args_dict_get_3 _ _ _) (meetsH_dict_get_default (tupleKind (aB X.prog X.w)) a b hd r) ⟨tupleKind_room_in1 hu,k,xs,cj I.hok eb,dd,h _ _ (I.tok _) ?_⟩
  rw [l]
  exact (rel.val k).getD rd
end
noncomputable def sW (td ty:TE):TE:=fun σ H Q=>td σ H fun x H1=>∃ a,x = .ref a∧IsD H1 a∧ty σ H1 fun y H2=>∃ o,eX H2 a y o∧Q (o.getD .non) H2
noncomputable def sX (td ty tx:TE):TE:=fun σ H Q=>td σ H fun x H1=>∃ a,x = .ref a∧IsD H1 a∧ty σ H1 fun y H2=>tx σ H2 fun z H3=>∃ o,eX H3 a y o∧Q (o.getD z) H3
section
variable {X:Cx} {o e f:Expr} {apos cpos:Pos} {td ty tx:TE}
theorem r6 (hu:X.A.units+1<cLine) (ho:PE X o td) (he:PE X e ty) (m:DM1 X o "get" apos e cpos):PE X (.Call (.Attribute o "get" apos) [e] [] cpos) (sW td ty):=by
 intro pins s σ H Q I h
 refine wpAny_Call_method m.base m.few m.line PySem.F.plainAttrs_dict PySem.F.slot_dict_get PySem.F.type_dict_get (thn (ho pins s σ H _ I h) fun u s1 ⟨x,H1,I1,rx,a,ex,d,q1⟩=>?_)
 subst ex
 obtain rfl:u=Value.ref a:=rx
 obtain ⟨t1,t2,_⟩:=qV I1 d
 refine ⟨t1,t2,?_⟩
 rw [m.trees]
 refine Calls.callWith_builtin rfl (Calls.evalArgs_plain (Calls.spliced_cons (thn (he pins s1 σ H1 _ I1 q1) fun iv s2 ⟨y,H2,I2,ry,ov,g,q2⟩=>Calls.spliced_nil ?_)))
 exact w8 hu I2 g ry fun w' s3 I3 rw'=>⟨_,H2,I3,rw',q2⟩
theorem r9 (hu:X.A.units+1<cLine) (ho:PE X o td) (he:PE X e ty) (hf:PE X f tx) (m:DM2 X o "get" apos e f cpos):PE X (.Call (.Attribute o "get" apos) [e,f] [] cpos) (sX td ty tx):=by
 intro pins s σ H Q I h
 refine wpAny_Call_method m.base m.few m.line PySem.F.plainAttrs_dict PySem.F.slot_dict_get PySem.F.type_dict_get (thn (ho pins s σ H _ I h) fun u s1 ⟨x,H1,I1,rx,a,ex,d,q1⟩=>?_)
 subst ex
 obtain rfl:u=Value.ref a:=rx
 obtain ⟨t1,t2,_⟩:=qV I1 d
 refine ⟨t1,t2,?_⟩
 rw [m.trees]
 refine Calls.callWith_builtin rfl (Calls.evalArgs_plain (Calls.spliced_cons (thn (he pins s1 σ H1 _ I1 q1) fun iv s2 ⟨y,H2,I2,ry,q2⟩=>
  Calls.spliced_cons (thn (hf pins s2 σ H2 _ I2 q2) fun fv s3 ⟨z,H3,I3,rz,ov,g,q3⟩=>Calls.spliced_nil ?_))))
 exact w9 hu I3 g ry rz fun w' s4 I4 rw'=>⟨_,H3,I4,rw',q3⟩
end
end L2
end
section
namespace PySem
section
variable {prog:Program} {w:World} {A:Around} {E:Value→Shared→Prop} {s:Shared}
theorem cU {it t:Addr} {i:Nat} {items} {x:Value} {Q:Value→Shared→Prop} (hit:s.heap.IsTupleIter it t i) (ht:s.heap.IsTuple t items) (hx:items[i]? = some x)
 (hQ:∀ h',h'.IsTupleIter it t (i+1)→Heap.SameBut it s.heap h'→Q x { s with heap:=h' }):wpAny (model prog w) A (Builtin.SmallTypes.nextOf (.ref it)) Q E s:=by
 obtain ⟨o,ho,hc,hd⟩:=id hit
 obtain ⟨ol,hol,_,nl,hdl⟩:=ht
 unfold Builtin.SmallTypes.nextOf
 refine wpAny_bind (wpAny_callSpecial?_slot (name:=Str.ofString "__next__") hit.typeIs F.slot_tuple_iterator_next (wpAny_call_entry F.slot_tuple_iterator_next hit.typeIs F.entry_tuple_iterator_next ?_ (F.args_tuple_iterator_next_1 _)))
 show wpAny _ _ (field (.ref it) 0 >>= _) _ _ s;refine wpAny_bind (wpAny_field ho hd (x:=.ref t) rfl ?_)
 show wpAny _ _ (if (Value.ref t == Value.none)=true then _ else _) _ _ s;rw [if_neg (show ¬ ((Value.ref t == Value.none)=true) from Bool.false_ne_true)]
 show wpAny _ _ (field (.ref it) 1 >>= _) _ _ s;refine wpAny_bind (wpAny_field ho hd (x:=.int i 0) rfl ?_)
 show wpAny _ _ (seqItems? (.ref t) >>= _) _ _ s;refine wpAny_bind (wpAny_seqItems hol hdl ?_);simp only [Int.toNat_natCast,hx]
 refine wpAny_bind (wpAny_setField ho hd (by simp) (wpAny_pure ⟨x,rfl,wpAny_pure (hQ _ ?_ (Heap.SameBut.update ..))⟩))
 exact ⟨_,Heap.get?_update_self _ ho (Obj.isFreed_of_fields (Obj.data_mapFields hd _)),(Obj.cls_mapFields ..).trans hc,by rw [Obj.data_mapFields hd];simp [rawInt]⟩
theorem iy {it t:Addr} {i:Nat} {items} {Q:Value→Shared→Prop} (hh:A.handled=none) (hit:s.heap.IsTupleIter it t i) (ht:s.heap.IsTuple t items) (hx:items[i]? = none)
 (hE:∀ h' e,Heap.ExtBut it s.heap h'→(∃ o,h'.get? e=some o∧o.cls = .type "StopIteration")→E (.ref e) { s with heap:=h' }):wpAny (model prog w) A (Builtin.SmallTypes.nextOf (.ref it)) Q E s:=by
 obtain ⟨o,ho,hc,hd⟩:=id hit
 obtain ⟨ol,hol,_,nl,hdl⟩:=ht
 unfold Builtin.SmallTypes.nextOf
 refine wpAny_bind (wpAny_callSpecial?_slot (name:=Str.ofString "__next__") hit.typeIs F.slot_tuple_iterator_next (wpAny_call_entry F.slot_tuple_iterator_next hit.typeIs F.entry_tuple_iterator_next ?_ (F.args_tuple_iterator_next_1 _)))
 show wpAny _ _ (field (.ref it) 0 >>= _) _ _ s;refine wpAny_bind (wpAny_field ho hd (x:=.ref t) rfl ?_)
 show wpAny _ _ (if (Value.ref t == Value.none)=true then _ else _) _ _ s;rw [if_neg (show ¬ ((Value.ref t == Value.none)=true) from Bool.false_ne_true)]
 show wpAny _ _ (field (.ref it) 1 >>= _) _ _ s;refine wpAny_bind (wpAny_field ho hd (x:=.int i 0) rfl ?_)
 show wpAny _ _ (seqItems? (.ref t) >>= _) _ _ s;refine wpAny_bind (wpAny_seqItems hol hdl ?_);simp only [Int.toNat_natCast,hx]
 refine wpAny_bind (wpAny_rule (wpAny_bind (wpAny_setField ho hd (by simp) ?_)));show wpAny _ _ (newExc (.type "StopIteration") [] >>= _) _ _ _
 refine wpAny_bind ?_;simp only [newExc,newTuple];refine wpAny_bind (wpAny_newObj_type ?_ (by size_fits))
 refine wpAny_bind (m:=firstArgMember _ _) (wpAny_of_eq (a:=Value.none) (by first | rfl | (simp only [firstArgMember];rfl)) ?_);refine wpAny_newObj_type ?_ (by size_fits)
 simp only [raiseNew];refine wpAny_bind (wpAny_handled ?_);first | rw [show A.in1.handled=none from hh] | rw [hh]
 refine wpAny_bind (wpAny_pure (wpAny_throw ?_));exact hE _ _ (((Heap.SameBut.update ..).extBut.push _).push _) ⟨_,Heap.get?_push_size _ rfl,rfl⟩
end
end PySem
end
section
namespace L2.Bk
open L2.Bw
theorem gk {X:Cx} {pins:List (Addr×Obj)} {σ:St} {H:Hp} {s:Shared} (I:Inv X pins σ H s) {c l:Addr} {us:List V} (f:cX X pins H c) (hq:SqT X.K H l us):l≠c:=fun e=>by
 subst e
 rcases hq with q | q
 ·rcases q with q | ⟨o,q⟩
  ·rw [f.1] at q;cases q
  ·rw [f.1] at q;cases q
 ·obtain ⟨o,its,n,q,_⟩:=q
  have bk:=I.ok.mod.kin _ _ q
  rcases f.2.2.2.1 with f | f
  ·exact I.ok.noex _ _ bk f
  ·exact absurd (Nat.lt_of_lt_of_le (Heap.lt_size bk) (Nat.le_trans I.ok.bsz f)) (Nat.lt_irrefl _)
end L2.Bk
end
section
namespace L2.Bk
open L2.Bw PyProof.Rows.LSm
noncomputable def unV:Value→V
 | .none=>.non | .bool b=>.bl b | .int i _=>.int i | .str x _=>.str x | .bytes b _=>.byt b | .float b _=>.flt b | .ref a=>.ref a | .type n=>.ty n | _=>.non
theorem ox {x:V} {u:Value} (h:ar x u):unV u=x:=by
 cases x with
 | non=>cases (show u=Value.none from h);rfl
 | bl b=>cases (show u=Value.bool b from h);rfl
 | int i=>obtain ⟨t,e⟩:=(show ∃ t,u=Value.int i t from h);subst e;rfl
 | str i=>obtain ⟨t,e⟩:=(show ∃ t,u=Value.str i t from h);subst e;rfl
 | byt i=>obtain ⟨t,e⟩:=(show ∃ t,u=Value.bytes i t from h);subst e;rfl
 | flt i=>obtain ⟨t,e⟩:=(show ∃ t,u=Value.float i t from h);subst e;rfl
 | ref a=>cases (show u=Value.ref a from h);rfl
 | ty n=>cases (show u=Value.type n from h);rfl
theorem sJ {x y:V} {u:Value} (hx:ar x u) (hy:ar y u):x=y:=(ox hx).symm.trans (ox hy)
theorem lI:∀ {xs ys:List V} {us:List Value},av xs us→av ys us→xs=ys
 | _,_,_,.nil,h=>by cases h;rfl
 | _,_,_,.cons r t,h=>by
   cases h with
   | cons r' t'=>rw [sJ r r',lI t t']
section
variable {X:Cx}
theorem y9 {s:Shared} {pins:List (Addr×Obj)} {σ:St} {H:Hp} (I:Inv X pins σ H s) {a:Addr} {xs ys:List V} (h1:Tp X.K H a xs) (h2:Tp X.K H a ys):xs=ys:=by
 obtain ⟨i1,r1,⟨o1,e1,c1,n1,d1⟩,z1⟩:=I.tuple h1.sq
 obtain ⟨i2,r2,⟨o2,e2,c2,n2,d2⟩,z2⟩:=I.tuple h2.sq
 rw [e1] at e2
 cases e2
 rw [d1] at d2
 injection d2 with d2
 have e:i1=i2:=by simpa using d2
 subst e
 exact lI r1 r2
theorem qK {s:Shared} {A:Around} {x:V} {u:Value} {b:Addr} {its:Array Value} (fx:fP x=true) (ru:ar x u) (p:s.heap.IsTuple b its) (hu:A.units<cLine):SeqAt.EqAt A s u (.ref b) false∧SeqAt.EqAt A s (.ref b) u false:=by
 cases x with
 | non=>cases (show u=Value.none from ru);exact ⟨SeqAt.EqAt.none_tuple p hu,SeqAt.EqAt.tuple_none p hu⟩
 | bl k=>cases (show u=Value.bool k from ru);exact ⟨SeqAt.EqAt.bool_tuple k p hu,SeqAt.EqAt.tuple_bool k p hu⟩
 | int k=>obtain ⟨t,e⟩:=(show ∃ t,u=Value.int k t from ru);subst e;exact ⟨SeqAt.EqAt.int_tuple k t p hu,SeqAt.EqAt.tuple_int k t p hu⟩
 | str k=>obtain ⟨t,e⟩:=(show ∃ t,u=Value.str k t from ru);subst e;exact ⟨SeqAt.EqAt.str_tuple k t p hu,SeqAt.EqAt.tuple_str k t p hu⟩
 | byt k=>cases fx
 | flt k=>cases fx
 | ref k=>cases fx
 | ty k=>cases fx
noncomputable def AE (K:Fg):R2:=fun x y H Q=>∃ a b ys,x = .ref a∧y = .ref b∧SqT K H a []∧SqT K H b ys∧Q (.ref b) H
theorem uL:OpR X (binaryOp .Add) (AE X.K):=by
 intro pins s σ H x y v u Q I rx ry h
 obtain ⟨a,b,ys,rfl,rfl,ha,hb,q⟩:=h
 cases rx
 cases ry
 obtain ⟨its,r1,p1,_⟩:=I.tuple ha
 obtain ⟨its2,r2,p2,_⟩:=I.tuple hb
 cases r1
 obtain ⟨⟨cls,dd,data,sl⟩,ho,hc,n,hd⟩:=id p1
 obtain ⟨⟨cls2,dd2,data2,sl2⟩,ho2,hc2,n2,hd2⟩:=id p2
 simp only at hc hd hc2 hd2
 subst hc hd hc2 hd2
 exact concat_meets ⟨_,ho,rfl⟩ ⟨_,ho2,rfl⟩ noFill_tuple_add seq_tuple_add PySem.F.slot_tuple_add PySem.F.entry_tuple_add (PySem.F.args_tuple_add_2 _ _)
  (tuple_addW0 a b #[] its2.toArray n n2 dd dd2 sl sl2 rfl) ⟨ho,ho2,⟨.ref b,H,I,rfl,q⟩⟩
end
end L2.Bk
end
section
namespace PySem
section
variable {prog:Program} {w:World} {A:Around} {E:Value→Shared→Prop} {s:Shared}
theorem vS {z TI TO i1 i2 t b:Addr} {k:Nat} {xs ys:Array Value} {x y a0 b0:Value} {Q:Value→Shared→Prop} (D:ZipApart z TI TO i1 i2 t b) (hz:IsZip s.heap z TI TO .none) (hTI:IsPair s.heap TI (.ref i1) (.ref i2)) (hTO:IsPair s.heap TO a0 b0)
 (h1:s.heap.IsTupleIter i1 t k) (h2:s.heap.IsTupleIter i2 b k) (hl1:s.heap.IsTuple t xs) (hl2:s.heap.IsTuple b ys) (hx:xs[k]? = some x) (hy:ys[k]? = some y)
 (hQ:∀ h',IsZip h' z TI TO (rawInt s.heap.objs.size)→IsPair h' TO x y→h'.IsTupleIter i1 t (k+1)→h'.IsTupleIter i2 b (k+1)→IsPair h' s.heap.objs.size x y→h'.objs.size=s.heap.objs.size+1 →
  (∀ d o,d≠z→d≠TO→d≠i1→d≠i2→s.heap.get? d=some o→h'.get? d=some o)→Q (.ref s.heap.objs.size) { s with heap:=h' }) :
 wpAny (model prog w) A (Builtin.«zip.__next__» ⟨[.ref z],[]⟩) (fun fin s'=>∃ v,fin = .done (.ret v)∧Q v s') E s:=by
 show wpAny _ _ (field (.ref z) 2 >>= _) _ _ _;refine wpAny_bind (wpAny_field hz rfl (x:=.bool false) rfl ?_)
 show wpAny _ _ (field (.ref z) 3 >>= _) _ _ _;refine wpAny_bind (wpAny_field hz rfl (x:=.ref TI) rfl ?_)
 refine wpAny_bind (wpAny_seqItems hTI rfl ?_);show wpAny _ _ (Builtin.SmallTypes.ownedTupleIsFree (.ref z) >>= _) _ _ _
 refine wpAny_bind ?_;unfold Builtin.SmallTypes.ownedTupleIsFree;refine wpAny_bind (wpAny_field hz rfl (x:=.none) rfl (wpAny_pure ?_));simp only [if_true]
 refine wpAny_bind (wpAny_rule ?_);refine wpAny_bind (wpAny_field hz rfl (x:=.ref TO) rfl ?_);refine wpAny_bind (wpAny_setField_rec hz (by simp) fun h₁ hz₁ hs₁=>?_)
 replace hz₁:IsZip h₁ z TI TO .ellipsis:=hz₁
 refine wpAny_bind ?_;simp only [List.zipIdx_cons,List.zipIdx_nil,List.forIn_cons,List.forIn_nil]
 refine wpAny_bind (wpAny_bind (wpAny_onRaise ?_));show wpAny _ _ (Builtin.SmallTypes.nextOf (.ref i1) >>= _) _ _ _
 refine wpAny_bind (cU (h1.extBut hs₁.extBut D.i1z) (hl1.extBut hs₁.extBut D.l1z) hx fun h₂ h1₂ hs₂=>wpAny_pure ?_)
 have hTO₂:IsPair h₂ TO a0 b0:=hs₂.extBut _ _ D.TOi1 (hs₁.extBut _ _ D.TOz hTO)
 refine wpAny_bind (wpAny_seqItems hTO₂ rfl ?_);refine wpAny_bind (wpAny_updateSeq_pair hTO₂ fun h₃ hTO₃ hs₃=>?_)
 replace hTO₃:IsPair h₃ TO x b0:=hTO₃
 refine wpAny_bind (wpAny_letGo (wpAny_pure ?_));refine wpAny_bind (wpAny_bind (wpAny_onRaise ?_));show wpAny _ _ (Builtin.SmallTypes.nextOf (.ref i2) >>= _) _ _ _
 refine wpAny_bind (cU (((h2.extBut hs₁.extBut D.i2z).extBut hs₂.extBut D.i12.symm).extBut hs₃.extBut D.TOi2.symm) (((hl2.extBut hs₁.extBut D.l2z).extBut hs₂.extBut D.l2i1).extBut hs₃.extBut D.l2TO) hy fun h₄ h2₄ hs₄=>wpAny_pure ?_)
 have hTO₄:IsPair h₄ TO x b0:=hs₄.extBut _ _ D.TOi2 hTO₃
 refine wpAny_bind (wpAny_seqItems hTO₄ rfl ?_);refine wpAny_bind (wpAny_updateSeq_pair hTO₄ fun h₇ hTO₇ hs₇=>?_)
 replace hTO₇:IsPair h₇ TO x y:=hTO₇
 refine wpAny_bind (wpAny_letGo (wpAny_pure (wpAny_pure ?_)));refine wpAny_bind (wpAny_seqItems hTO₇ rfl ?_);refine wpAny_bind (wpAny_newTuple ?_)
 have hsz:h₇.objs.size=s.heap.objs.size:=by rw [hs₇.1,hs₄.1,hs₃.1,hs₂.1,hs₁.1]
 have hz₇:IsZip h₇ z TI TO .ellipsis:=hs₇.extBut _ _ D.TOz.symm (hs₄.extBut _ _ D.i2z.symm (hs₃.extBut _ _ D.TOz.symm (hs₂.extBut _ _ D.i1z.symm hz₁)))
 have hk₇:∀ d o,d≠z→d≠TO→d≠i1→d≠i2→s.heap.get? d=some o→h₇.get? d=some o:=fun d o c1 c2 c3 c4 e=>hs₇.extBut _ _ c2 (hs₄.extBut _ _ c4 (hs₃.extBut _ _ c2 (hs₂.extBut _ _ c3 (hs₁.extBut _ _ c1 e))))
 have h1₇:h₇.IsTupleIter i1 t (k+1):=((h1₂.extBut hs₃.extBut D.TOi1.symm).extBut hs₄.extBut D.i12).extBut hs₇.extBut D.TOi1.symm
 have h2₇:h₇.IsTupleIter i2 b (k+1):=h2₄.extBut hs₇.extBut D.TOi2.symm
 have hzlt:z<h₇.objs.size:=Heap.lt_size hz₇
 show wpAny _ _ (Builtin.SmallTypes.ownedTupleHandOut (.ref z) (.ref h₇.objs.size) >>= _) _ _ _
 refine wpAny_bind ?_;unfold Builtin.SmallTypes.ownedTupleHandOut
 have hz₈:IsZip (h₇.push { cls:=.type "tuple",data:=.seq #[x,y] }) z TI TO .ellipsis:=Heap.get?_push_of_some _ hz₇
 refine wpAny_bind (wpAny_setField_rec hz₈ (by simp) fun h₉ hz₉ hs₉=>?_)
 replace hz₉:IsZip h₉ z TI TO (rawInt h₇.objs.size):=hz₉
 refine wpAny_setField_rec hz₉ (by simp) fun hA hzA hsA=>?_
 replace hzA:IsZip hA z TI TO (rawInt h₇.objs.size):=hzA
 have up:∀ d o,d≠z→h₇.get? d=some o→hA.get? d=some o:=fun d o c1 e=>hsA.extBut _ _ c1 (hs₉.extBut _ _ c1 (Heap.get?_push_of_some _ e))
 have hTA:IsPair hA h₇.objs.size x y:=hsA.extBut _ _ (Nat.ne_of_gt hzlt) (hs₉.extBut _ _ (Nat.ne_of_gt hzlt) (Heap.get?_push_size _ rfl))
 have hzA8:hA.objs.size=h₇.objs.size+1:=by rw [hsA.1,hs₉.1,Heap.size_push]
 rw [hsz] at hzA hTA hzA8
 refine wpAny_pure ⟨_,rfl,?_⟩
 show Q (.ref h₇.objs.size) _
 rw [hsz]
 exact hQ hA hzA (up _ _ D.TOz hTO₇) (h1₇.at fun o e=>up _ o D.i1z e) (h2₇.at fun o e=>up _ o D.i2z e) hTA hzA8 fun d o c1 c2 c3 c4 e=>up d o c1 (hk₇ d o c1 c2 c3 c4 e)
theorem zg {z TI TO i1 i2 t b:Addr} {k:Nat} {xs:Array Value} {Q:Fin→Shared→Prop} (hh:A.handled=none) (D:ZipApart z TI TO i1 i2 t b) (hz:IsZip s.heap z TI TO .none) (hTI:IsPair s.heap TI (.ref i1) (.ref i2))
 (h1:s.heap.IsTupleIter i1 t k) (hl1:s.heap.IsTuple t xs) (hx:xs[k]? = none)
 (hE:∀ h' e,(∀ d o,d≠z→d≠i1→s.heap.get? d=some o→h'.get? d=some o)→(∃ o,h'.get? e=some o∧o.cls = .type "StopIteration")→E (.ref e) { s with heap:=h' }) :
 wpAny (model prog w) A (Builtin.«zip.__next__» ⟨[.ref z],[]⟩) Q E s:=by
 show wpAny _ _ (field (.ref z) 2 >>= _) _ _ _;refine wpAny_bind (wpAny_field hz rfl (x:=.bool false) rfl ?_)
 show wpAny _ _ (field (.ref z) 3 >>= _) _ _ _;refine wpAny_bind (wpAny_field hz rfl (x:=.ref TI) rfl ?_)
 refine wpAny_bind (wpAny_seqItems hTI rfl ?_);show wpAny _ _ (Builtin.SmallTypes.ownedTupleIsFree (.ref z) >>= _) _ _ _
 refine wpAny_bind ?_;unfold Builtin.SmallTypes.ownedTupleIsFree;refine wpAny_bind (wpAny_field hz rfl (x:=.none) rfl (wpAny_pure ?_));simp only [if_true]
 refine wpAny_bind (wpAny_rule ?_);refine wpAny_bind (wpAny_field hz rfl (x:=.ref TO) rfl ?_);refine wpAny_bind (wpAny_setField_rec hz (by simp) fun h₁ hz₁ hs₁=>?_)
 replace hz₁:IsZip h₁ z TI TO .ellipsis:=hz₁
 refine wpAny_bind ?_;simp only [List.zipIdx_cons,List.zipIdx_nil,List.forIn_cons,List.forIn_nil]
 refine wpAny_bind (wpAny_bind (wpAny_onRaise ?_));show wpAny _ _ (Builtin.SmallTypes.nextOf (.ref i1) >>= _) _ _ _
 refine wpAny_bind (iy hh (h1.extBut hs₁.extBut D.i1z) (hl1.extBut hs₁.extBut D.l1z) hx fun h₂ e hs₂ he=>?_)
 obtain ⟨oe,hoe,hce⟩:=he
 have hz₂:IsZip h₂ z TI TO .ellipsis:=hs₂ _ _ D.i1z.symm hz₁
 have hez:e≠z:=fun x=>by subst x;rw [hz₂] at hoe;cases hoe;simp at hce
 exact wpAny_setField_rec hz₂ (by simp) fun h₃ _ hs₃=>hE h₃ e (fun d o c1 c3 x=>hs₃.extBut _ _ c1 (hs₂ _ _ c3 (hs₁.extBut _ _ c1 x))) ⟨oe,hs₃.extBut _ _ hez hoe,hce⟩
theorem iE {z TI TO i1 i2 t b:Addr} {k:Nat} {xs ys:Array Value} {x y a0 b0:Value} {Q:Option Value→Shared→Prop} (D:ZipApart z TI TO i1 i2 t b) (hz:IsZip s.heap z TI TO .none) (hTI:IsPair s.heap TI (.ref i1) (.ref i2)) (hTO:IsPair s.heap TO a0 b0)
 (h1:s.heap.IsTupleIter i1 t k) (h2:s.heap.IsTupleIter i2 b k) (hl1:s.heap.IsTuple t xs) (hl2:s.heap.IsTuple b ys) (hx:xs[k]? = some x) (hy:ys[k]? = some y)
 (hQ:∀ h',IsZip h' z TI TO (rawInt s.heap.objs.size)→IsPair h' TO x y→h'.IsTupleIter i1 t (k+1)→h'.IsTupleIter i2 b (k+1)→IsPair h' s.heap.objs.size x y→h'.objs.size=s.heap.objs.size+1 →
  (∀ d o,d≠z→d≠TO→d≠i1→d≠i2→s.heap.get? d=some o→h'.get? d=some o)→Q (some (.ref s.heap.objs.size)) { s with heap:=h' }):wpAny (model prog w) A (pyNext (.ref z)) Q E s:=by
 have hT:s.TypeIs (.ref z) "zip":=⟨_,hz,rfl⟩
 unfold pyNext
 exact wpAny_bind (wpAny_attempt (wpAny_callSpecial?_slot (name:=Str.ofString "__next__") hT F.slot_zip_next (wpAny_call_entry F.slot_zip_next hT F.entry_zip_next
  (vS D hz hTI hTO h1 h2 hl1 hl2 hx hy fun h' a1 a2 a3 a4 a5 a6 a7=>wpAny_pure (hQ h' a1 a2 a3 a4 a5 a6 a7)) (F.args_zip_next_1 _))))
theorem iN {z TI TO i1 i2 t b:Addr} {k:Nat} {xs:Array Value} {Q:Option Value→Shared→Prop} (hh:A.handled=none) (D:ZipApart z TI TO i1 i2 t b) (hz:IsZip s.heap z TI TO .none) (hTI:IsPair s.heap TI (.ref i1) (.ref i2))
 (h1:s.heap.IsTupleIter i1 t k) (hl1:s.heap.IsTuple t xs) (hx:xs[k]? = none) (hQ:∀ h',(∀ d o,d≠z→d≠i1→s.heap.get? d=some o→h'.get? d=some o)→Q none { s with heap:=h' }):wpAny (model prog w) A (pyNext (.ref z)) Q E s:=by
 have hT:s.TypeIs (.ref z) "zip":=⟨_,hz,rfl⟩
 unfold pyNext
 refine wpAny_bind (wpAny_attempt (wpAny_callSpecial?_slot (name:=Str.ofString "__next__") hT F.slot_zip_next (wpAny_call_entry F.slot_zip_next hT F.entry_zip_next (zg hh D hz hTI h1 hl1 hx fun h' e hk he=>?_) (F.args_zip_next_1 _))))
 obtain ⟨o,ho,hc⟩:=he
 refine wpAny_bind (wpAny_isInstance (T:="StopIteration") (b:=true) ⟨o,ho,hc⟩ isSubtype_stop ?_)
 exact wpAny_pure (hQ _ hk)
end
noncomputable abbrev vO (h:Heap) (t:Addr):Heap:=h.push { cls:=.type "tuple_iterator",data:=.fields #[.ref t,.int 0 0] }
noncomputable abbrev vP (h:Heap) (t b:Addr):Heap:=(vO h t).push { cls:=.type "tuple_iterator",data:=.fields #[.ref b,.int 0 0] }
noncomputable abbrev vQ (h:Heap) (t b:Addr):Heap:=(vP h t b).push { cls:=.type "tuple",data:=.seq #[.ref h.objs.size,.ref (vO h t).objs.size] }
noncomputable abbrev vR (h:Heap) (t b:Addr):Heap:=(vQ h t b).push { cls:=.type "tuple",data:=.seq #[.none,.none] }
noncomputable abbrev pU (h:Heap) (t b:Addr):Heap:=(vR h t b).push { cls:=.type "zip",data:=.fields #[.none,.bool false,.bool false,.ref (vP h t b).objs.size,.ref (vQ h t b).objs.size] }
theorem zh (t b:Addr) (xs ys:Array Value) :
 Meets (Builtin.«zip.__new__» ⟨[.type "zip",.ref t,.ref b],[]⟩) (fun _ R s=>s.heap.IsTuple t xs∧s.heap.IsTuple b ys∧R (.ok (.ret (.ref (vR s.heap t b).objs.size))) { s with heap:=pU s.heap t b }):=
 .of_wp fun prog w A R s h=>by
  obtain ⟨hp,g,d,tk,os⟩:=s;obtain ⟨hl1,hl2,h⟩:=h
  have hsub:=sub_zip
  have hL1:Heap.IsTuple (Shared.heap ⟨hp,g,d,tk,os⟩) t xs:=hl1
  have hL2:Heap.IsTuple (Shared.heap ⟨hp.push { cls:=.type "tuple_iterator",data:=.fields #[.ref t,.int 0 0] },g,d,tk,os⟩) b ys:=Heap.IsTuple.push hl2 _
  wp_walk using wpAny_pyIter_tuple hL1,wpAny_pyIter_tuple hL2
  exact ⟨_,rfl,h⟩
section
variable {prog:Program} {w:World} {A:Around} {E:Value→Shared→Prop} {s:Shared}
theorem lX {t b:Addr} {xs ys:Array Value} {Q:Value→Shared→Prop} (hl1:s.heap.IsTuple t xs) (hl2:s.heap.IsTuple b ys)
 (h:∀ h',IsZip h' (s.heap.objs.size+4) (s.heap.objs.size+2) (s.heap.objs.size+3) .none→IsPair h' (s.heap.objs.size+2) (.ref s.heap.objs.size) (.ref (s.heap.objs.size+1)) →
  IsPair h' (s.heap.objs.size+3) .none .none→h'.IsTupleIter s.heap.objs.size t 0→h'.IsTupleIter (s.heap.objs.size+1) b 0→(∀ d o,s.heap.get? d=some o→h'.get? d=some o)→Q (.ref (s.heap.objs.size+4)) { s with heap:=h' }) :
 wpAny (model prog w) A (call (.type "zip") [.ref t,.ref b]) Q E s:=by
 refine callType_new F.called_zip (by decide) (F.typeCall_zip_2 _ _) (F.newCall_zip_2 _ _) (fun obj=>F.args_object_init_3 obj _ _) F.entry_zip_new (zh t b xs ys) ⟨hl1,hl2,?_⟩
 have z1:(vO s.heap t).objs.size=s.heap.objs.size+1:=Heap.size_push ..
 have z2:(vP s.heap t b).objs.size=s.heap.objs.size+2:=by rw [Heap.size_push,z1]
 have z3:(vQ s.heap t b).objs.size=s.heap.objs.size+3:=by rw [Heap.size_push,z2]
 have z4:(vR s.heap t b).objs.size=s.heap.objs.size+4:=by rw [Heap.size_push,z3]
 have g5:(pU s.heap t b).get? (vR s.heap t b).objs.size=some _:=Heap.get?_push_size _ rfl
 have g4:(pU s.heap t b).get? (vQ s.heap t b).objs.size=some _:=Heap.get?_push_of_some _ (Heap.get?_push_size _ rfl)
 have g3:(pU s.heap t b).get? (vP s.heap t b).objs.size=some _:=Heap.get?_push_of_some _ (Heap.get?_push_of_some _ (Heap.get?_push_size _ rfl))
 have g2:(pU s.heap t b).get? (vO s.heap t).objs.size=some _:=Heap.get?_push_of_some _ (Heap.get?_push_of_some _ (Heap.get?_push_of_some _ (Heap.get?_push_size _ rfl)))
 have g1:(pU s.heap t b).get? s.heap.objs.size=some _:=Heap.get?_push_of_some _ (Heap.get?_push_of_some _ (Heap.get?_push_of_some _ (Heap.get?_push_of_some _ (Heap.get?_push_size _ rfl))))
 show _∧_
 rw [z2,z3,z4] at g5
 rw [z1,z2] at g3
 rw [z3] at g4
 rw [z1] at g2
 rw [z4]
 exact ⟨⟨_,g5,rfl⟩,h _ g5 g3 g4 ⟨_,g1,rfl,rfl⟩ ⟨_,g2,rfl,rfl⟩ fun d o x=>Heap.get?_push_of_some _ (Heap.get?_push_of_some _ (Heap.get?_push_of_some _ (Heap.get?_push_of_some _ (Heap.get?_push_of_some _ x))))⟩
end
end PySem
namespace L2.Bk
open L2.Bw
noncomputable def tL (K:Fg) (a b:Addr):It where
 go:=fun i H=>∃ xs ys,SqT K H a xs∧SqT K H b ys∧i<xs.length∧i<ys.length
 yld:=fun i H v H'=>∃ T x y,v = .ref T∧H T=none∧H'=upd H T (.tup [x,y])∧(∀ xs,SqT K H a xs→xs[i]? = some x)∧∀ ys,SqT K H b ys→ys[i]? = some y
 stop:=fun i H=>∃ xs ys,SqT K H a xs∧SqT K H b ys∧i=xs.length
theorem pT {P:Program} {w:World} {K:Fg} {es:List Expr} {k:Nat} {tp:Pos} (t b z TI TO i1 i2:Addr) (hap:z≠TI∧z≠TO∧z≠i1∧z≠i2∧TI≠TO∧TI≠i1∧TI≠i2∧TO≠i1∧TO≠i2∧i1≠i2) :
 iG P w K (.Tuple es k tp) (tL K t b) [z,TI,TO,i1,i2] z (fun i h=>IsZip h z TI TO .none∧IsPair h TI (.ref i1) (.ref i2)∧(∃ u v,IsPair h TO u v)∧h.IsTupleIter i1 t i∧h.IsTupleIter i2 b i) where
 mem:=by simp
 obj:=fun i h st d hd=>by
  obtain ⟨h1,h2,⟨u,v,h3⟩,⟨o4,e4,c4,d4⟩,⟨o5,e5,c5,d5⟩⟩:=st
  have hd':d=z∨d=TI∨d=TO∨d=i1∨d=i2:=by simpa using hd
  rcases hd' with rfl | rfl | rfl | rfl | rfl
  ·exact ⟨_,h1,fun v q=>by cases (show Data.fields _=Data.cell v from q)⟩
  ·exact ⟨_,h2,fun v q=>by cases (show Data.seq _ _=Data.cell v from q)⟩
  ·exact ⟨_,h3,fun v q=>by cases (show Data.seq _ _=Data.cell v from q)⟩
  ·exact ⟨o4,e4,fun v q=>by rw [d4] at q;cases q⟩
  ·exact ⟨o5,e5,fun v q=>by rw [d5] at q;cases q⟩
 keep:=fun i h h' st kp=>by
  obtain ⟨h1,h2,⟨u,v,h3⟩,h4,h5⟩:=st
  exact ⟨kp z (by simp) _ h1,kp TI (by simp) _ h2,⟨u,v,kp TO (by simp) _ h3⟩,h4.at fun o e=>kp i1 (by simp) o e,h5.at fun o e=>kp i2 (by simp) o e⟩
 item:=by
  intro X hP hw hK hc i pins s σ H E I hf st hg
  subst hP hw hK
  obtain ⟨us,xs,hu,hx,l0,l1⟩:=hg
  obtain ⟨its0,r0,p0,z0⟩:=I.tuple hu
  obtain ⟨its1,r1,p1,z1⟩:=I.tuple hx
  obtain ⟨h1,h2,h3,h4,h5⟩:=st
  have D:ZipApart z TI TO i1 i2 t b:=dF hap (fun d hd=>gk I (hf d hd) hu) (fun d hd=>gk I (hf d hd) hx)
  obtain ⟨uv,euv,ru⟩:=r0.get (List.getElem?_eq_getElem l0)
  obtain ⟨xv,exv,rx⟩:=r1.get (List.getElem?_eq_getElem l1)
  obtain ⟨a0,b0,h3'⟩:=h3
  refine iE D h1 h2 h3' h4 h5 (show s.heap.IsTuple t its0.toArray from p0) (show s.heap.IsTuple b its1.toArray from p1) (x:=uv) (y:=xv) (by simpa using euv) (by simpa using exv) fun h' a1 a2 a3 a4 a6 a7 kp=>?_
  have lt:∀ {d o},s.heap.get? d=some o→s.heap.objs.size≠d:=fun e=>Nat.ne_of_gt (Heap.lt_size e)
  refine ⟨_,rfl,wpAny_letOwnedTupleGo_zip a1 fun h2' hz' hs'=>?_⟩
  have n1:s.heap.objs.size≠z:=lt h1
  have n2:s.heap.objs.size≠TO:=lt h3'
  have n3:s.heap.objs.size≠i1:=by obtain ⟨_,e,_⟩:=h4;exact lt e
  have n4:s.heap.objs.size≠i2:=by obtain ⟨_,e,_⟩:=h5;exact lt e
  have n6:s.heap.objs.size≠TI:=lt h2
  have ht2:IsTup h2' s.heap.objs.size #[uv,xv]:=⟨_,hs'.extBut _ _ n1 a6,rfl,_,rfl⟩
  have hT:s.heap.objs.size≤s.heap.objs.size:=Nat.le_refl _
  have I2:Inv X pins σ (upd H s.heap.objs.size (.tup [us[i],xs[i]])) { s with heap:=h2',toks:=s.toks }:=
   gz (ch:=[z,TO,i1,i2]) I (fun d o hd e=>hs'.extBut _ _ (fun x=>hd (by simp [x])) (kp d o (fun x=>hd (by simp [x])) (fun x=>hd (by simp [x])) (fun x=>hd (by simp [x])) (fun x=>hd (by simp [x])) e))
    (fun d hd=>hf d (by simp at hd ⊢;rcases hd with rfl | rfl | rfl | rfl <;> simp)) hT ⟨[uv,xv],.cons ru (.cons rx .nil),ht2⟩ (by show 2≤sizeLine;decide)
  refine ⟨.ref s.heap.objs.size,_,I2,rfl,⟨s.heap.objs.size,us[i],xs[i],rfl,I.hok.fresh hT,rfl,fun vs hv=>?_,fun vs hv=>?_⟩,
   ⟨hz',hs'.extBut _ _ D.TIz (kp _ _ D.TIz D.TITO D.TIi1 D.TIi2 h2),⟨_,_,hs'.extBut _ _ D.TOz a2⟩,a3.extBut hs'.extBut D.i1z,a4.extBut hs'.extBut D.i2z⟩,fun d hd=>?_⟩
  ·rw [I.tuple_inj hv hu];exact List.getElem?_eq_getElem l0
  ·rw [I.tuple_inj hv hx];exact List.getElem?_eq_getElem l1
  ·have hd':d=z∨d=TI∨d=TO∨d=i1∨d=i2:=by simpa using hd
   have hne:d≠s.heap.objs.size:=by
    rcases hd' with rfl | rfl | rfl | rfl | rfl
    ·exact n1.symm
    ·exact n6.symm
    ·exact n2.symm
    ·exact n3.symm
    ·exact n4.symm
   rw [aa hne]
   exact (hf d hd).1
 done:=by
  intro X hP hw hK hc i pins s σ H E I hf st hg
  subst hP hw hK
  obtain ⟨us,xs,hu,hx,hi⟩:=hg
  obtain ⟨its0,r0,p0,z0⟩:=I.tuple hu
  obtain ⟨h1,h2,h3,h4,h5⟩:=st
  have len0:=r0.length
  have D:ZipApart z TI TO i1 i2 t b:=dF hap (fun d hd=>gk I (hf d hd) hu) (fun d hd=>gk I (hf d hd) hx)
  refine iN (I.ok.hd hc) D h1 h2 h4 (show s.heap.IsTuple t its0.toArray from p0) (by simp;omega) fun h' kp=>⟨rfl,?_⟩
  exact gy (ch:=[z,i1]) (t':=s.toks) I (fun d o hd e=>kp d o (fun x=>hd (by simp [x])) (fun x=>hd (by simp [x])) e) (fun d hd=>hf d (by simp at hd ⊢;rcases hd with rfl | rfl <;> simp))
 self:=fun _ _ _ _ _ st h=>wpAny_pyIter_zip st.1 h
noncomputable def sumI:List Int→Int
 | []=>0
 | x :: r=>x+sumI r
section
variable {X:Cx}
noncomputable def zi (i j:Int):Prop:=(0<j∧j<1073741824)∨j=10 ^ 20
theorem rU:OpR X (binaryOp .FloorDiv) (rI zi fun i j=>.int (i / j)):=opI fun i j _ _ _ _ _ hc q=>by
 rcases hc with ⟨h1,h2⟩ | h
 ·exact floordiv_int (by omega) (by rw [Int.fdiv_eq_ediv_of_nonneg i (by omega)];exact q) (.inl (PyProof.noPylong_small (by omega)))
 ·subst h
  exact floordiv_int (by decide) (by rw [Int.fdiv_eq_ediv_of_nonneg i (by decide)];exact q) (.inl (PyProof.noPylong_of_log2 (by decide +kernel)))
end
end L2.Bk
end
section
namespace L2.Ex
structure Wr (S ch:List Addr) (h h':Heap):Prop where
 keep:∀ b o,h.get? b=some o→b ∉ S→b ∉ ch→h'.get? b=some o
 slot:∀ b o,h.get? b=some o→b ∉ ch→∃ sl,h'.get? b=some { o with slots:=sl }
 there:∀ b o,h.get? b=some o→∃ o',h'.get? b=some o'
section
variable {S ch ch':List Addr} {h h1 h2 h':Heap}
theorem Wr.trans (x:Wr S ch h h1) (y:Wr S ch h1 h2):Wr S ch h h2:=
 ⟨fun b o e n m=>y.keep b o (x.keep b o e n m) n m,fun b o e m=>let ⟨_,e1⟩:=x.slot b o e m;let ⟨sl,e2⟩:=y.slot b _ e1 m;⟨sl,e2⟩,fun b o e=>let ⟨_,e1⟩:=x.there b o e;y.there b _ e1⟩
theorem Wr.mono (x:Wr S ch h h') (k:∀ b∈ch,b∈ch'):Wr S ch' h h':=⟨fun b o e n m=>x.keep b o e n fun z=>m (k b z),fun b o e m=>x.slot b o e fun z=>m (k b z),x.there⟩
theorem Wr.kept (k:∀ b o,h.get? b=some o→h'.get? b=some o):Wr S ch h h':=⟨fun b o e _ _=>k b o e,fun b o e _=>⟨o.slots,k b o e⟩,fun b o e=>⟨o,k b o e⟩⟩
theorem Wr.set {a:Addr} {o:Obj} {vs:Array Value} (ho:h.get? a=some o) (hd:o.data = .fields vs) (g:Array Value→Array Value):Wr S [a] h (h.update a (Obj.mapFields g)):=by
 have ot:∀ b,b≠a→(h.update a (Obj.mapFields g)).get? b=h.get? b:=fun b n=>Heap.get?_update_other h _ fun z=>n z.symm
 have nm:∀ b,b ∉ [a]→b≠a:=fun b m z=>m (by rw [z];exact List.mem_cons_self)
 refine ⟨fun b u e _ m=>by rw [ot b (nm b m)];exact e,fun b u e m=>⟨u.slots,by rw [ot b (nm b m)];exact e⟩,fun b u e=>?_⟩
 by_cases z:b=a
 ·subst z
  exact ⟨_,Heap.get?_update_self _ ho (Obj.isFreed_of_fields (Obj.data_mapFields hd g))⟩
 ·exact ⟨u,by rw [ot b z];exact e⟩
theorem Wr.slots (x:Heap.SlotsOnly S h h'):Wr S ch h h':=⟨fun b o e n _=>(x.2.1 b n).trans e,fun b o e _=>x.2.2 b o e,fun b o e=>let ⟨_,q⟩:=x.2.2 b o e;⟨_,q⟩⟩
end
theorem qu (g:Array Value→Array Value) (o:Obj):(Obj.mapFields g o).dict=o.dict:=by
 obtain ⟨c,d,dt,sl⟩:=o
 cases dt <;> rfl
noncomputable def Tr (h:Heap) (a:Addr) (cls:Value) (dx:Option Addr) (T:Addr) (fl:Value):Prop:=
 ∃ oe vs oT ts,h.get? a=some oe∧(oe.cls=cls∧oe.dict=dx)∧oe.data = .fields vs∧vs[1]? = some (.ref T)∧T≠a∧h.get? T=some oT∧oT.data = .fields ts∧ts[3]? = some fl
noncomputable def Rw (h:Heap) (a:Addr) (cls:Value) (dx:Option Addr):Prop:=∃ oe vs,h.get? a=some oe∧(oe.cls=cls∧oe.dict=dx)∧oe.data = .fields vs∧vs[1]? = some .none
section
variable {M:Model} {A:Around} {E:Value→Shared→Prop} {s:Shared} {a T L:Addr} {cls fl:Value} {dx:Option Addr} {Q:Unit→Shared→Prop} {base:Heap} {env:Env} {outer:List Env} {S:List Addr}
theorem d6 {fr:Option Addr} (t:Tr s.heap a cls dx T fl) (hQ:∀ h',Tr h' a cls dx T (fr.elim .none fun f=>rawInt f)→Wr S [T] s.heap h'→Q () { s with heap:=h' }):wpAny M A (setFlight (.ref a) fr) Q E s:=by
 obtain ⟨oe,vs,oT,ts,he,hc,hd,h1,ne,hT,hdT,h3⟩:=t
 have z3:=(Array.getElem?_eq_some_iff.mp h3).1
 unfold setFlight
 refine wpAny_bind (wpAny_field he hd h1 ?_)
 rw [if_pos (show (Value.ref T != Value.none)=true by simp)]
 refine wpAny_setField hT hdT z3 (hQ _ ?_ (Wr.set hT hdT _))
 have dT:=Obj.data_mapFields hdT (·.setIfInBounds 3 (fr.elim Value.none fun f=>rawInt f))
 exact ⟨oe,vs,_,_,(Heap.get?_update_other _ _ ne).trans he,hc,hd,h1,ne,Heap.get?_update_self _ hT (Obj.isFreed_of_fields dT),dT,by simp [z3]⟩
theorem entry {oe:Obj} {vs:Array Value} {head:Value} {hn:Bool} (hfr:A.frames=some (env :: outer)) (hl:s.heap.FunFrames base (env :: outer)) (hf:env.frame=some L) (he:s.heap.get? a=some oe) (hd:oe.data = .fields vs) (hz:1<vs.size)
 (hQ:∀ h' T,s.heap.get? T=none→Tr h' a oe.cls oe.dict T (rawInt L)→Wr (frs (env :: outer)) [a] s.heap h'→Q () { s with heap:=h' }) :
 wpAny M A (do let x ← frameOf env;let pl ← entryPlaceOf L hn;let b ← EntryCells.newEntry head x .none (rawInt L) .none pl;setField (.ref a) 1 b) Q E s:=by
 have na:a ∉ (env :: outer).filterMap (·.frame):=fun m=>by
  obtain ⟨_,o,ho,nf⟩:=hl.mem m
  rw [he] at ho
  cases ho
  exact nf vs hd
 refine wpAny_bind (wpAny_frameOf_fun hfr hl hf fun g hg=>wpAny_bind (wpAny_entryPlaceOf fun pl hp=>?_))
 unfold EntryCells.newEntry newFields;refine wpAny_bind (wpAny_newObj_type ?_ (IsPlace.sizeOk5 hp _ _ _ _ _))
 have ea:g.get? a=some oe:=(hg.2.1 a na).trans he
 generalize hu:([head,Value.ref L,Value.none,rawInt L,Value.none] ++ (if pl.isEmpty then List.replicate 6 Value.none else pl)).toArray=us
 have u3:us[3]? = some (rawInt L):=by rw [← hu];rfl
 have ea2:=Heap.get?_push_of_some (h:=g) { cls:=.type "traceback",dict:=none,data:=.fields us } ea
 have nT:g.objs.size≠a:=Nat.ne_of_gt (Heap.lt_size ea)
 refine wpAny_setField ea2 hd hz (hQ _ g.objs.size ?_ ?_ ?_)
 ·rw [hg.1];exact Heap.get?_none_of_le (Nat.le_refl _)
 ·have da:=Obj.data_mapFields hd (·.setIfInBounds 1 (Value.ref g.objs.size))
  exact ⟨_,_,_,us,Heap.get?_update_self _ ea2 (Obj.isFreed_of_fields da),⟨Obj.cls_mapFields _ _,qu _ _⟩,da,by simp [hz],nT,(Heap.get?_update_other _ _ (Ne.symm nT)).trans (Heap.get?_push_size g rfl),rfl,u3⟩
 ·exact (Wr.slots (ch:=[a]) hg).trans ((Wr.kept fun b o e=>Heap.get?_push_of_some _ e).trans (Wr.set ea2 hd _))
theorem rQ (hfr:A.frames=some (env :: outer)) (hl:s.heap.FunFrames base (env :: outer)) (hf:env.frame=some L) (x:Rw s.heap a cls dx)
 (hQ:∀ h' T,s.heap.get? T=none→Tr h' a cls dx T (rawInt L)→Wr (frs (env :: outer)) [a] s.heap h'→Q () { s with heap:=h' }):wpAny M A (noteFrame (.ref a) env) Q E s:=by
 obtain ⟨oe,vs,he,⟨rfl,rfl⟩,hd,h1⟩:=x
 unfold noteFrame
 simp only [hf]
 refine wpAny_bind (wpAny_field he hd h1 ?_)
 rw [if_neg (by decide)]
 exact entry hfr hl hf he hd (Array.getElem?_eq_some_iff.mp h1).1 hQ
theorem jk (hfr:A.frames=some (env :: outer)) (hl:s.heap.FunFrames base (env :: outer)) (hf:env.frame=some L) (x:Tr s.heap a cls dx T .none)
 (hQ:∀ h' T',s.heap.get? T'=none→Tr h' a cls dx T' (rawInt L)→Wr (frs (env :: outer)) [a,T] s.heap h'→Q () { s with heap:=h' }):wpAny M A (noteFrame (.ref a) env) Q E s:=by
 obtain ⟨oe,vs,oT,ts,he,⟨rfl,rfl⟩,hd,h1,ne,hT,hdT,h3⟩:=x
 unfold noteFrame
 simp only [hf]
 refine wpAny_bind (wpAny_field he hd h1 ?_)
 rw [if_pos (show (Value.ref T != Value.none)=true by simp)]
 refine wpAny_bind (wpAny_field hT hdT h3 ?_)
 rw [if_neg (show ¬ ((Value.none == rawInt L)=true) by simp [rawInt])]
 refine wpAny_bind (wpAny_setField hT hdT (Array.getElem?_eq_some_iff.mp h3).1 ?_)
 have w1:Wr (frs (env :: outer)) [T] s.heap _:=Wr.set hT hdT (·.setIfInBounds 3 Value.none)
 refine entry hfr (hl.of_keeps fun b o e nf=>⟨o,?_,rfl⟩) hf ((Heap.get?_update_other _ _ ne).trans he) hd (Array.getElem?_eq_some_iff.mp h1).1 fun h' T' n t w=>hQ h' T' ?_ t ((w1.mono (by simp)).trans (w.mono (by simp)))
 ·refine (Heap.get?_update_other _ _ fun z=>?_).trans e
  subst z
  rw [hT] at e
  cases e
  exact nf ts hdT
 ·cases q:s.heap.get? T' with
  | none=>rfl
  | some o=>
    obtain ⟨o',e'⟩:=w1.there T' o q
    rw [n] at e'
    cases e'
theorem pz (hf:env.frame=some L) (x:Tr s.heap a cls dx T (rawInt L)) (hQ:Q () s):wpAny M A (noteFrame (.ref a) env) Q E s:=by
 obtain ⟨oe,vs,oT,ts,he,⟨rfl,rfl⟩,hd,h1,ne,hT,hdT,h3⟩:=x
 unfold noteFrame
 simp only [hf]
 refine wpAny_bind (wpAny_field he hd h1 ?_)
 rw [if_pos (show (Value.ref T != Value.none)=true by simp)]
 refine wpAny_bind (wpAny_field hT hdT h3 ?_)
 rw [if_pos (show (rawInt L == rawInt L)=true by simp)]
 exact wpAny_pure hQ
end
noncomputable def CXF (P:Program) (w:World):CXT:=fun outer H s E e s'=>∃ (a T:Addr) (cls:Value) (dx:Option Addr) (H':Hp),e = .ref a∧Tr s'.heap a cls dx T .none∧s.heap.get? a=none∧s.heap.get? T=none∧H' a=none∧H' T=none ∧
 s'.os=s.os∧AllBare s'.gens∧Un (frs outer) [] H H' s.heap s'.heap∧HOk P w H' s'.heap∧E cls dx H'
structure XB (X:Cx) (E:XK) (a:Addr) (cls:Value) (dx:Option Addr) (H':Hp) (s':Shared):Prop where
 na:X.s₀.heap.get? a=none
 ua:H' a=none
 os:s'.os=X.s₀.os
 bare:AllBare s'.gens
 un:Un (frs X.outer) [] X.H₀ H' X.s₀.heap s'.heap
 hok:HOk X.prog X.w H' s'.heap
 funs:s'.heap.FunFrames X.base (X.env :: X.outer)
 frf:∀ b∈frs (X.env :: X.outer),H' b=none
 nl:X.s₀.heap.get? X.env.locals=none
 fr:X.env.frame=some X.env.locals
 af:X.A.frames=some (X.env :: X.outer)
 e:E cls dx H'
noncomputable def XS (X:Cx) (E:XK) (e:Value) (s':Shared):Prop:=∃ a cls dx H',e = .ref a∧XB X E a cls dx H' s' ∧
 (Rw s'.heap a cls dx∨∃ T fl,Tr s'.heap a cls dx T fl∧(fl = .none∨fl=rawInt X.env.locals)∧X.s₀.heap.get? T=none∧H' T=none)
theorem qQ {P:Program} {w:World} {H:Hp} {h:Heap} {a:Addr} {o:HO} (x:aC P w H h a o):∃ u,h.get? a=some u:=by
 cases o with
 | lst xs=>obtain ⟨_,_,_,_,e⟩:=x;exact ⟨_,e⟩
 | tup xs=>obtain ⟨_,_,_,u,e,_⟩:=x;exact ⟨u,e⟩
 | dK kvs=>obtain ⟨_,_,_,_,u,_,_,e,_⟩:=x;exact ⟨u,e⟩
 | dT kvs=>obtain ⟨_,_,_,_,u,_,_,e,_⟩:=x;exact ⟨u,e⟩
 | set S n=>obtain ⟨u,_,_,_,e,_⟩:=x;exact ⟨u,e⟩
 | ins C dx fs=>obtain ⟨_,_,_,e,_⟩:=x;exact ⟨_,e⟩
 | own y=>exact x
 | xd fs=>obtain ⟨_,⟨u,_,_,e,_⟩,_⟩:=x;exact ⟨u,e⟩
 | rng lo hi=>obtain ⟨_,_,_,e⟩:=x;exact ⟨_,e⟩
 | frz ob u=>obtain ⟨e,_⟩:=x;exact ⟨_,e⟩
 | tbl ps=>exact ⟨_,(show h.get? a=some _ from x)⟩
 | met f y=>exact ⟨_,(show h.get? a=some _ from x)⟩
 | ext φ=>obtain ⟨_,e,_⟩:=x;exact e
theorem eK {P:Program} {w:World} {H:Hp} {h:Heap} {a:Addr} (x:HOk P w H h) (e:h.get? a=none):H a=none:=by
 cases q:H a with
 | none=>rfl
 | some o=>
   obtain ⟨u,hu⟩:=qQ (x a o q)
   rw [e] at hu
   cases hu
section
variable {P:Program} {w:World} {H H0:Hp} {h h0 h':Heap} {S ch fs:List Addr} {L:Addr}
theorem qR (x:HOk P w H h) (y:Wr S ch h h') (hc:∀ b∈ch,H b=none) (hs:∀ b∈S,H b=none):HOk P w H h':=fun a o e=>by
 have nt:∀ b u,H b=some u→b ∉ S∧b ∉ ch:=fun b u q=>⟨(fun z=>by rw [hs b z] at q;cases q),(fun z=>by rw [hc b z] at q;cases q)⟩
 refine (x a o e).stay (fun b u hb q=>?_) (fun _ q=>q) fun _ _ q=>q
 rcases hb with rfl | hb
 ·exact y.keep _ u q (nt _ _ e).1 (nt _ _ e).2
 ·exact y.keep _ u q (nt _ _ hb).1 (nt _ _ hb).2
theorem wF (x:Un fs [] H0 H h0 h) (y:Wr S ch h h') (hs:∀ b∈S,b∈fs∨h0.get? b=none) (hc:∀ b∈ch,h0.get? b=none):Un fs [] H0 H h0 h':=by
 have nc:∀ b o,h0.get? b=some o→b ∉ ch:=fun b o e z=>by rw [hc b z] at e;cases e
 have nS:∀ b o,h0.get? b=some o→b ∉ fs→b ∉ S:=fun b o e n z=>(hs b z).elim n fun q=>by rw [q] at e;cases e
 refine ⟨fun b o e n hb hx=>y.keep b o (x.keep b o e n hb hx) (nS b o e hb) (nc b o e),fun b o e n hb hx=>?_,x.free,fun b o e hx=>?_,x.tups,x.frzs,x.tbls⟩
 ·obtain ⟨sl,e1⟩:=x.slot b o e n hb hx
  obtain ⟨sl2,e2⟩:=y.slot b _ e1 (nc b o e)
  exact ⟨sl2,e2⟩
 ·obtain ⟨o1,e1⟩:=x.there b o e hx
  exact y.there b o1 e1
theorem xi {base:Heap} {l:List Env} (x:h.FunFrames base l) (y:Wr S ch h h') (hc:∀ b∈ch,∃ o vs,h.get? b=some o∧o.data = .fields vs):h'.FunFrames base l:=x.of_keeps fun b o e nf=>by
 obtain ⟨sl,e1⟩:=y.slot b o e fun z=>by
  obtain ⟨o2,vs,q,d⟩:=hc b z
  rw [e] at q
  cases q
  exact nf vs d
 exact ⟨_,e1,rfl⟩
end
theorem Tr.fa {h:Heap} {a T:Addr} {cls fl:Value} {dx:Option Addr} (t:Tr h a cls dx T fl):∃ o vs,h.get? a=some o∧o.data = .fields vs:=let ⟨oe,vs,_,_,h1,_,h2,_⟩:=t;⟨oe,vs,h1,h2⟩
theorem Tr.ft {h:Heap} {a T:Addr} {cls fl:Value} {dx:Option Addr} (t:Tr h a cls dx T fl):∃ o vs,h.get? T=some o∧o.data = .fields vs:=let ⟨_,_,oT,ts,_,_,_,_,_,h1,h2,_⟩:=t;⟨oT,ts,h1,h2⟩
theorem Rw.fa {h:Heap} {a:Addr} {cls:Value} {dx:Option Addr} (t:Rw h a cls dx):∃ o vs,h.get? a=some o∧o.data = .fields vs:=let ⟨oe,vs,h1,_,h2,_⟩:=t;⟨oe,vs,h1,h2⟩
section
variable {X:Cx} {E:XK} {a:Addr} {cls:Value} {dx:Option Addr} {H':Hp} {s':Shared} {M:Model} {Z:Value→Shared→Prop} {Q:Unit→Shared→Prop}
theorem kH (hf:X.env.frame=some X.env.locals):frs (X.env :: X.outer)=X.env.locals :: frs X.outer:=by unfold frs;rw [List.filterMap_cons,hf]
theorem XB.wr (x:XB X E a cls dx H' s') {ch:List Addr} {h':Heap} (y:Wr (frs (X.env :: X.outer)) ch s'.heap h') (hc:∀ b∈ch,X.s₀.heap.get? b=none∧H' b=none∧∃ o vs,s'.heap.get? b=some o∧o.data = .fields vs):XB X E a cls dx H' { s' with heap:=h' }:=by
 refine ⟨x.na,x.ua,x.os,x.bare,wF x.un y (fun b hb=>?_) (fun b hb=>(hc b hb).1),qR x.hok y (fun b hb=>(hc b hb).2.1) x.frf,xi x.funs y (fun b hb=>(hc b hb).2.2),x.frf,x.nl,x.fr,x.af,x.e⟩
 rw [kH x.fr] at hb
 rcases List.mem_cons.mp hb with z | z
 ·rw [z];exact .inr x.nl
 ·exact .inl z
theorem oI {e:Value} (x:XS X E e s')
 (hQ:∀ h' a T cls dx H',e = .ref a→XB X E a cls dx H' { s' with heap:=h' }→Tr h' a cls dx T (rawInt X.env.locals)→X.s₀.heap.get? T=none→H' T=none→Q () { s' with heap:=h' }):wpAny M X.A (noteFrame e X.env) Q Z s':=by
 obtain ⟨a,cls,dx,H',rfl,b,t⟩:=x
 have hfr:=b.af
 have new:∀ T,s'.heap.get? T=none→X.s₀.heap.get? T=none:=fun T n=>by
  cases q:X.s₀.heap.get? T with
  | none=>rfl
  | some o=>
    obtain ⟨o',e'⟩:=b.un.there T o q (by simp)
    rw [n] at e'
    cases e'
 rcases t with t | ⟨T,fl,t,hfl,nT,uT⟩
 ·refine rQ hfr b.funs b.fr t fun h' T n t' y=>hQ h' a T cls dx H' rfl (b.wr y fun c hc=>?_) t' (new T n) (eK b.hok n)
  rw [List.mem_singleton.mp hc]
  exact ⟨b.na,b.ua,t.fa⟩
 ·rcases hfl with rfl | rfl
  ·refine jk hfr b.funs b.fr t fun h' T' n t' y=>hQ h' a T' cls dx H' rfl (b.wr y fun c hc=>?_) t' (new T' n) (eK b.hok n)
   rcases List.mem_cons.mp hc with z | z
   ·rw [z];exact ⟨b.na,b.ua,t.fa⟩
   ·rw [List.mem_singleton.mp z];exact ⟨nT,uT,t.ft⟩
  ·obtain ⟨hp,g,d,k,o⟩:=s'
   exact pz b.fr t (hQ hp a T cls dx H' rfl b t nT uT)
theorem jt {T:Addr} {fl:Value} {fr:Option Addr} (b:XB X E a cls dx H' s') (t:Tr s'.heap a cls dx T fl) (nT:X.s₀.heap.get? T=none) (uT:H' T=none)
 (hQ:∀ h',XB X E a cls dx H' { s' with heap:=h' }→Tr h' a cls dx T (fr.elim .none fun f=>rawInt f)→Q () { s' with heap:=h' }):wpAny M X.A (setFlight (.ref a) fr) Q Z s':=by
 refine d6 (S:=frs (X.env :: X.outer)) t fun h' t' y=>hQ h' (b.wr y fun c hc=>?_) t'
 rw [List.mem_singleton.mp hc]
 exact ⟨nT,uT,t.ft⟩
theorem tF {e:Value} (x:XS X E e s'):wpAny M X.A (leaving X.env e) (fun _ s''=>CXF X.prog X.w X.outer X.H₀ X.s₀ E e s'') Z s':=by
 unfold leaving
 refine wpAny_bind (oI x fun h' a T cls dx H' e1 b t nT uT=>?_)
 subst e1
 refine jt (fr:=none) b t nT uT fun h2 b2 t2=>?_
 exact ⟨a,T,cls,dx,H',rfl,t2,b2.na,nT,b2.ua,uT,b2.os,b2.bare,b2.un,b2.hok,b2.e⟩
theorem zf:PassesOwn M X.A X.env (XS X E):=fun e s' x=>by
 unfold notedBy
 refine oI x fun h' a T cls dx H' e1 b t nT uT=>?_
 subst e1
 unfold cameBackBy
 obtain ⟨oe,vs,oT,ts,he,hc,hd,h1,r⟩:=id t
 refine wpAny_bind (wpAny_field he hd h1 ?_)
 rw [if_neg (show ¬ ((Value.ref T == Value.none)=true) by simp)]
 rw [b.fr]
 refine jt (fr:=some X.env.locals) b t nT uT fun h2 b2 t2=>?_
 exact ⟨a,cls,dx,H',rfl,b2,.inr ⟨T,_,t2,.inr rfl,nT,uT⟩⟩
end
theorem vN {X:Cx} {E:XK} {pins:List (Addr×Obj)} {σ:St} {H:Hp} {s s':Shared} {e:Value} (I:Inv X pins σ H s) (hst:X.stack=X.env :: X.outer) (hf:X.env.frame=some X.env.locals) (hex:X.ex = []) (x:CXF X.prog X.w X.stack H s E e s'):XS X E e s':=by
 obtain ⟨a,T,cls,dx,H',rfl,t,na,nT,ua,uT,os,bare,un,hok,q⟩:=x
 rw [hst] at un
 have fc:=kH hf
 have b0:=I.base
 rw [hex] at b0
 have nl:X.s₀.heap.get? X.env.locals=none:=Heap.get?_none_of_le I.ok.above
 have back:∀ b,s.heap.get? b=none→X.s₀.heap.get? b=none:=fun b n=>by
  cases z:X.s₀.heap.get? b with
  | none=>rfl
  | some o=>
    obtain ⟨o',e'⟩:=b0.there b o z (by simp)
    rw [n] at e'
    cases e'
 have neL:∀ b o,X.s₀.heap.get? b=some o→b≠X.env.locals:=fun b o z w=>by rw [w,nl] at z;cases z
 refine ⟨a,cls,dx,H',rfl,⟨back a na,ua,os.trans I.os,bare,⟨fun b o z n hb hx=>?_,fun b o z n hb hx=>?_,fun b o z n hx=>?_,fun b o z hx=>?_,fun b xs z=>un.tups b xs (b0.tups b xs z),fun b o u z=>un.frzs b o u (b0.frzs b o u z),fun b ps z=>?_⟩,hok,?_,?_,nl,hf,(by rw [← hst];exact I.ok.frames),q⟩,.inr ⟨T,.none,t,.inl rfl,back T nT,uT⟩⟩
 ·refine un.keep b o (b0.keep b o z n hb hx) (b0.free b o z n hx) (fun w=>?_) (by simp)
  rw [fc] at w
  rcases List.mem_cons.mp w with w | w
  ·exact neL b o z w
  ·exact hb w
 ·obtain ⟨sl,e1⟩:=b0.slot b o z n hb hx
  obtain ⟨sl2,e2⟩:=un.any e1 (b0.free b o z n hx) (by simp)
  exact ⟨sl2,e2⟩
 ·obtain ⟨o',e'⟩:=b0.there b o z hx
  exact un.free b o' e' (b0.free b o z n hx) (by simp)
 ·obtain ⟨o',e'⟩:=b0.there b o z hx
  exact un.there b o' e' (by simp)
 ·obtain ⟨m1,e1⟩:=b0.tbls b ps z
  obtain ⟨m2,e2⟩:=un.tbls b _ e1
  exact ⟨m1 ++ m2,by rw [e2,Array.append_assoc]⟩
 ·have st:=I.stack
  rw [hst] at st
  have all:∀ (l:List Env),(∀ b∈frs l,b∈frs (X.env :: X.outer))→s.heap.FunFrames X.base l→s'.heap.FunFrames X.base l:=by
   intro l
   induction l with
   | nil=>intro _ _;trivial
   | cons v r ih=>
     intro hs hl
     obtain ⟨hk,⟨L,o,h1,hn,ho,hd⟩,hr⟩:=hl
     have hm:L∈frs (v :: r):=by unfold frs;rw [List.filterMap_cons,h1];exact List.mem_cons_self
     have hL:H L=none:=I.stkFree L (by rw [hst];exact hs L hm)
     obtain ⟨sl,e2⟩:=un.any ho hL (by simp)
     exact ⟨hk,⟨L,_,h1,hn,e2,hd⟩,ih (fun b hb=>hs b (by unfold frs;rw [List.filterMap_cons,h1];exact List.mem_cons_of_mem _ hb)) hr⟩
  exact all _ (fun _ hb=>hb) st
 ·intro b hb
  have hb':b∈frs X.stack:=by rw [hst];exact hb
  obtain ⟨_,o,ho,_⟩:=I.stack.mem hb'
  exact un.free b o ho (I.stkFree b hb') (by simp)
theorem yO {X:Cx} {E:XK} {st:List Stmt} {t:TS} (h:PSs (X.wish (XS X E)) st t) (hst:X.stack=X.env :: X.outer) (hx:∀ e s',wpAny (model X.prog X.w) X.A (leaving X.env e) (fun _ s''=>CXF X.prog X.w X.outer X.H₀ X.s₀ E e s'') (fun e' s''=>CXF X.prog X.w X.outer X.H₀ X.s₀ E e' s'') s'→X.xe e s'):PSs X st t:=fun pins s σ H D I hw=>
 wpAny_mono (h pins s σ H D (I.wish _) hw) (fun _ _ q=>q.unwish) fun e s' z=>hx e s' (tF z)
theorem nF {P:Program} {w:World} {K:Fg} {mg:Str→Option Value} {base:Heap} {x qual:Str} {st:Stmt} {f:Addr} {fd:FuncData} {N ps:List Str} {k:Nat} {sp:Sp} (F:Fun K x qual st f fd) (S:bt N ps (am st)) (len:∀ vs H Q E,sp vs H Q E→vs.length=ps.length)
 (hbody:∀ (cdv:Value) (A:Around) (outer:List Env) (s:Shared) (H:Hp) (vs:List V) (Q:VK) (E:XK),Room k (A.deeper (envOfC qual (am st) s.heap.objs.size f cdv))→sp vs H Q E →
  ∃ t,PSs ((iI (CXF P w) P w K mg base N qual (am st) f cdv A outer s H E).wish (XS (iI (CXF P w) P w K mg base N qual (am st) f cdv A outer s H E) E)) (bf st) t∧t { nx:=fun _ H'=>Q .non H',rt:=Q } (cA N vs) H):aR P w K mg base (CXF P w) (k+1) f fd ps sp:=by
 obtain ⟨oc,od,kV,doc,pm,an,cdv,ct,osl,rfl,lk,hcd⟩:=F.ex
 refine wf lk hcd S len fun A outer s H vs Q E hr hsp=>?_
 obtain ⟨t,h,q⟩:=hbody cdv A outer s H vs Q E hr hsp
 exact ⟨t,yO h rfl (fun e s' z=>z),q⟩
end L2.Ex
end
section
namespace L2.Ex
open PySem.W
structure eZ (K:Frag) (C:Addr):Prop where
 ga:findIn K (.ref C) "__getattribute__" = some (some (.builtin "BaseException.__getattribute__"))
 gn:findIn K (.ref C) "__getattr__" = some none
 cl:findIn K (.ref C) "__class__" = some (some (.builtin "object.__class__"))
 sg:specialIn K (.builtin "object.__class__") "__get__" = some (some (.builtin "getset_descriptor.__get__"))
 tk:takesIn K (.builtin "object.__class__")=some true
 ob:mroIn K C (.type "object")=some true
 be:mroIn K C (.type "BaseException")=some true
 is:(clsIn K C).isSome=true
section
variable {prog:Program} {w:World} {A:Around} {E:Value→Shared→Prop} {K:Frag} {C a:Addr} {o:Obj} {od:Option Obj} {h:Heap} {g:Array GenState} {d:Drawn} {t:Nat} {os:OsState}
theorem qp {M:Model} {nameV:Value} {Q:Unit→Shared→Prop} (Y:eZ K C) (X:K.In h) (I:InstAt h a o C od) (hq:Q () ⟨h,g,d,t,os⟩):wpAny M A (checkBuiltinCall "BaseException.__getattribute__" ⟨[.ref a,nameV],[]⟩) Q E ⟨h,g,d,t,os⟩:=by
 have k1:builtinKind "BaseException.__getattribute__" = some .slot:=by decide +kernel
 have k2:splitId "BaseException.__getattribute__" = some ("BaseException","__getattribute__"):=by decide +kernel
 have L:Looks M h (isInstance (.ref a) (.type "BaseException")) true:=(I.type (M:=M)).andThen (looks_mroIn X Y.be)
 have ha:=F.args_bexc_ga (.ref a) nameV
 simp only [checkBuiltinCall,k1,k2]
 refine wpAny_bind (L.at ?_)
 repeat (any_goals (first | assumption | wp_step))
end
theorem wZ {K:Frag} {C:Addr} (e:(clsIn K C).isSome=true):∃ c' d' cd' sl',K.lookup C=some ⟨c',d',.cls cd',sl'⟩:=by
 unfold clsIn at e
 split at e
 ·rename_i q;exact ⟨_,_,_,_,q⟩
 ·cases e
section
variable {X:Cx}
theorem zd {fs:List Addr} {H:Hp} {h h':Heap} {a:Addr} {o:HO} (k:∀ b u,h.get? b=some u→h'.get? b=some u) (ha:h.get? a=none) (hn:H a=none):Un fs [] H (upd H a o) h h' where
 keep:=fun b u q _ _ _=>k b u q
 slot:=fun b u q _ _ _=>⟨u.slots,k b u q⟩
 free:=fun b u q n _=>by rw [aa (fun z=>by rw [z,ha] at q;cases q)];exact n
 there:=fun b u q _=>⟨u,k b u q⟩
 tups:=fun b xs q=>by rw [aa (ak q hn)];exact q
 frzs:=fun b u xs q=>by rw [aa (ak q hn)];exact q
 tbls:=fun b ps q=>⟨#[],by rw [aa (ak q hn),q];simp⟩
theorem nJ {P:Program} {w:World} {H:Hp} {h h':Heap} {a:Addr} {o:HO} (x:HOk P w H h) (k:∀ b u,h.get? b=some u→h'.get? b=some u) (hn:H a=none) (new:aC P w (upd H a o) h' a o):HOk P w (upd H a o) h':=fun b u e=>by
 by_cases hb:b=a
 ·subst hb;rw [ae] at e;cases e;exact new
 ·rw [aa hb] at e
  exact (x b u e).stay (fun c v _ q=>k c v q) (fun c q=>by rw [aa (ak q hn)];exact q) fun c xs q=>by rw [aa (ak q hn)];exact q
end
section
variable {X:Cx} {pins:List (Addr×Obj)} {σ:St} {H:Hp} {s:Shared}
structure eA (X:Cx) (pins:List (Addr×Obj)) (H:Hp) (b:Addr):Prop where
 s0:X.s₀.heap.get? b=none
 un:H b=none
 nl:b≠X.env.locals
 nc:∀ x c,X.env.cells.lookup x=some c→c≠b
 np:∀ p∈X.pn ++ pins,p.1≠b
theorem Inv.strange (I:Inv X pins σ H s) (hex:X.ex = []) {b:Addr} (n:s.heap.get? b=none):eA X pins H b:=by
 have b0:=I.base
 rw [hex] at b0
 refine ⟨?_,eK I.hok n,fun z=>?_,fun x c e z=>?_,fun p hp z=>?_⟩
 ·cases z:X.s₀.heap.get? b with
  | none=>rfl
  | some o=>
    obtain ⟨o',e'⟩:=b0.there b o z (by simp)
    rw [n] at e'
    cases e'
 ·obtain ⟨m,⟨o,_,_,ho,_⟩,_⟩:=I.loc
  rw [← z,n] at ho
  cases ho
 ·obtain ⟨v,o,ho,_⟩:=I.cell x c e
  rw [z,n] at ho
  cases ho
 ·have:=(I.pin p hp).1
  rw [z,n] at this
  cases this
theorem Inv.wr {ch:List Addr} {h':Heap} {t':Nat} (I:Inv X pins σ H s) (hex:X.ex = []) (y:Wr (frs X.stack) ch s.heap h') (hc:∀ b∈ch,eA X pins H b):Inv X pins σ H { s with heap:=h',toks:=t' }:=by
 have b0:=I.base
 rw [hex] at b0
 have nS:∀ b,b≠X.env.locals→b ∉ X.fs→b ∉ frs X.stack:=fun b n1 n2 z=>(List.mem_cons.mp (I.stkSub b z)).elim n1 n2
 have nl0:X.s₀.heap.get? X.env.locals=none:=Heap.get?_none_of_le I.ok.above
 refine ⟨I.ok,I.os,I.bare,?_,?_,fun x c e=>?_,I.free,I.freeC,fun p hp=>?_,qR I.hok y (fun b hb=>(hc b hb).un) I.stkFree,I.len⟩
 ·rw [hex]
  refine wF b0 y (fun b hb=>?_) (fun b hb=>(hc b hb).s0)
  rcases List.mem_cons.mp (I.stkSub b hb) with z | z
  ·rw [z];exact .inr nl0
  ·exact .inl z
 ·obtain ⟨m,⟨o,es,ep,ho,r⟩,hl⟩:=I.loc
  obtain ⟨sl,e1⟩:=y.slot _ o ho fun z=>(hc _ z).nl rfl
  refine ⟨m,⟨_,es,ep,e1,r⟩,fun i x v e2 e3 e4=>?_⟩
  obtain ⟨u,ru,l⟩:=hl i x v e2 e3 e4
  refine ⟨u,ru,?_⟩
  rcases l with l | ⟨k,c,e,oc,hoc,hd⟩
  ·exact .inl l
  ·obtain ⟨sl2,e5⟩:=y.slot c oc hoc fun z=>(hc c z).nc x c e rfl
   exact .inr ⟨k,c,e,_,e5,hd⟩
 ·obtain ⟨v,oc,hoc,hd⟩:=I.cell x c e
  obtain ⟨sl2,e5⟩:=y.slot c oc hoc fun z=>(hc c z).nc x c e rfl
  exact ⟨v,_,e5,hd⟩
 ·obtain ⟨e,n,ne,nf,d⟩:=I.pin p hp
  exact ⟨y.keep _ _ e (nS _ ne nf) fun z=>(hc _ z).np p hp rfl,n,ne,nf,d⟩
theorem Inv.track {b:Addr} {o:HO} (I:Inv X pins σ H s) (q:eA X pins H b) (new:aC X.prog X.w (upd H b o) s.heap b o):Inv X pins σ (upd H b o) s:=by
 have nb:∀ c u,X.s₀.heap.get? c=some u→c≠b:=fun c u e z=>by rw [z,q.s0] at e;cases e
 refine ⟨I.ok,I.os,I.bare,⟨I.base.keep,I.base.slot,fun c u e n hx=>by rw [aa (nb c u e)];exact I.base.free c u e n hx,I.base.there,fun c xs e=>?_,fun c u v e=>?_,fun c ps e=>?_⟩,I.loc,I.cell,by rw [aa (Ne.symm q.nl)];exact I.free,fun x c e=>by rw [aa (q.nc x c e)];exact I.freeC x c e,fun p hp=>?_,nJ I.hok (fun _ _ e=>e) q.un new,I.len⟩
 ·have z:=I.base.tups c xs e
  rw [aa (ak z q.un)];exact z
 ·have z:=I.base.frzs c u v e
  rw [aa (ak z q.un)];exact z
 ·obtain ⟨m,z⟩:=I.base.tbls c ps e
  exact ⟨m,by rw [aa (ak z q.un)];exact z⟩
 ·obtain ⟨e,n,ne,nf,d⟩:=I.pin p hp
  exact ⟨e,by rw [aa (q.np p hp)];exact n,ne,nf,d⟩
theorem Inv.gone {i:Nat} {x:Str} {m:Str→Option Value} {v:Option Value} {h':Heap} {t':Nat} (I:Inv X pins σ H s) (hi:X.N[i]? = some x) (hl:X.env.kindOf x=some .local) (hn:s.heap.Ns X.env.locals m) (hn':h'.Ns X.env.locals (fun y=>if y=x then v else m y)) (hs:Heap.SameBut X.env.locals s.heap h') (nd:X.N.Nodup):Inv X pins (σ.set i none) H { s with heap:=h',toks:=t' }:=by
 obtain ⟨oL,es,ep,hoL,r⟩:=id hn
 have neL:∀ b o,X.s₀.heap.get? b=some o→b≠X.env.locals:=fun b o e=>Nat.ne_of_lt (Nat.lt_of_lt_of_le (Heap.lt_size e) I.ok.above)
 refine ⟨I.ok,I.os,I.bare,⟨fun b o e n hb hx=>(hs.2 b (neL b o e)).trans (I.base.keep b o e n hb hx),fun b o e n hb hx=>?_,I.base.free,fun b o e hx=>?_,I.base.tups,I.base.frzs,I.base.tbls⟩,⟨_,hn',fun j y w e1 e2 e3=>?_⟩,fun y c e=>?_,I.free,I.freeC,fun p hp=>?_,fun b ob e=>?_,by rw [List.length_set];exact I.len⟩
 ·obtain ⟨sl,e1⟩:=I.base.slot b o e n hb hx
  exact ⟨sl,(hs.2 b (neL b o e)).trans e1⟩
 ·obtain ⟨o',e1⟩:=I.base.there b o e hx
  exact ⟨o',(hs.2 b (neL b o e)).trans e1⟩
 ·have ji:j≠i:=fun z=>by
   subst z
   by_cases lt:j<σ.length
   ·rw [List.getElem?_set_self lt] at e2;cases e2
   ·rw [List.getElem?_eq_none (by rw [List.length_set];omega)] at e2;cases e2
  rw [List.getElem?_set_ne (Ne.symm ji)] at e2
  obtain ⟨m2,hn2,hl2⟩:=I.loc
  obtain ⟨u,ru,l⟩:=hl2 j y w e1 e2 e3
  refine ⟨u,ru,?_⟩
  have em:m2=m:=by
   obtain ⟨o2,es2,ep2,ho2,hd2,_,hm2⟩:=hn2
   obtain ⟨o3,es3,ep3,ho3,hd3,_,hm3⟩:=hn
   rw [ho2] at ho3
   cases ho3
   rw [hd2] at hd3
   cases hd3
   funext z
   rw [← hm2 z,← hm3 z]
  rcases l with ⟨k,e⟩ | ⟨k,c,e,z⟩
  ·refine .inl ⟨k,?_⟩
   have yx:y≠x:=fun z=>ji (g9 nd e1 (z ▸ hi))
   rw [em] at e
   simp [yx,e]
  ·exact .inr ⟨k,c,e,z.sameBut hs (I.cne y c e)⟩
 ·obtain ⟨w,z⟩:=I.cell y c e
  exact ⟨w,z.sameBut hs (I.cne y c e)⟩
 ·obtain ⟨e,n,ne,nf,d⟩:=I.pin p hp
  exact ⟨(hs.2 p.1 ne).trans e,n,ne,nf,d⟩
 ·refine (I.hok b ob e).stay (fun c w hc q=>(hs.2 c fun z=>?_).trans q) (fun _ q=>q) fun _ _ q=>q
  rcases hc with hc | hc
  ·rw [← hc,z,I.free] at e;cases e
  ·rw [z,I.free] at hc;cases hc
end
theorem jj {M:Model} {A:Around} {E:Value→Shared→Prop} {s:Shared} {env:Env} {n:Str} {pos:Pos} {m:Str→Option Value} {Q:Unit→Shared→Prop} (hl:env.kindOf n=some .local) (hn:s.heap.Ns env.locals m) (hp:(env.scope.kind == .class || (env.scope.kind == .module && env.locals != env.globals))=false)
 (h:∀ h' v,h'.Ns env.locals (fun y=>if y=n then v else m y)→Heap.SameBut env.locals s.heap h'→Q () { s with heap:=h',toks:=s.toks+1 }):wpAny M A (do bindName env n .none;unbindBehindTheSuite env n pos) Q E s:=by
 refine wpAny_bind (wpAny_bindName (wpAny_storeName_local hl hn (fun h1 n1 s1=>?_) hp))
 unfold unbindBehindTheSuite unbindName;refine wpAny_onRaise (wpAny_bind (wpAny_point (wpAny_bind ?_)))
 unfold deleteName;simp only [hl,hp];rw [if_neg (by decide)]
 refine wpAny_bind (wpAny_nsDel_keeps n1 fun h2 v n2 s2=>?_)
 simp only [if_true,Option.isSome_some,Bool.not_true,Bool.false_eq_true,if_false]
 refine wpAny_pure (wpAny_point (h h2 v ?_ (s1.trans s2)))
 have e:(fun y=>if y=n then v else if y=n then some Value.none else m y)=fun y=>if y=n then v else m y:=by
  funext y
  by_cases z:y=n <;> simp [z]
 rw [e] at n2
 exact n2
noncomputable abbrev dA (X:Cx) (e:Value):Cx:={ X with A:=X.A.mark (some e),calm:=false,xe:=fun _ _=>False }
theorem i9 {X:Cx} {pins:List (Addr×Obj)} {σ:St} {H:Hp} {s:Shared} (e:Value) (I:Inv X pins σ H s):Inv (dA X e) pins σ H s:=
 ⟨⟨I.ok.mod,I.ok.kind,I.ok.glob,I.ok.blt,I.ok.above,I.ok.inj,I.ok.has,I.ok.cab,(fun z=>nomatch z),I.ok.frames,I.ok.stk,I.ok.exf,I.ok.bs,I.ok.bsz,I.ok.noex,I.ok.exfs,I.ok.funs,I.ok.frf⟩,I.os,I.bare,I.base,I.loc,I.cell,I.free,I.freeC,I.pin,I.hok,I.len⟩
theorem nM {X:Cx} {pins:List (Addr×Obj)} {σ:St} {H:Hp} {s:Shared} {e:Value} (hd:X.A.handled=none) (I:Inv (dA X e) pins σ H s):Inv X pins σ H s:=
 ⟨⟨I.ok.mod,I.ok.kind,I.ok.glob,I.ok.blt,I.ok.above,I.ok.inj,I.ok.has,I.ok.cab,(fun _=>hd),I.ok.frames,I.ok.stk,I.ok.exf,I.ok.bs,I.ok.bsz,I.ok.noex,I.ok.exfs,I.ok.funs,I.ok.frf⟩,I.os,I.bare,I.base,I.loc,I.cell,I.free,I.freeC,I.pin,I.hok,I.len⟩
structure iO (K:Frag) (B:Addr):Prop where
 ty:typeIn K (.ref B)=some (.type "type")
 is:(clsIn K B).isSome=true
 be:mroIn K B (.type "BaseException")=some true
theorem ue {K:Frag} {M:Model} {h:Heap} {C:Addr} (X:K.In h) (e:(clsIn K C).isSome=true):Looks M h (isType (.ref C)) true:=by
 obtain ⟨c',d',cd',sl',hk⟩:=wZ e
 intro A' Q' E' s' k q
 unfold isType;unfold loadHead
 exact wpAny_bind (wpAny_loadPart (k _ _ (X _ _ hk)) (wpAny_pure q))
theorem mr {K:Frag} {M:Model} {A:Around} {E:Value→Shared→Prop} {s:Shared} {a B C:Addr} {o:Obj} {Q:Bool→Shared→Prop} (X:K.In s.heap) (Y:iO K B) (he:s.heap.get? a=some o) (hc:o.cls = .ref C) (hm:mroIn K C (.ref B)=some true) (hq:Q true s):wpAny M A (excMatches (.ref a) (.ref B)) Q E s:=by
 have L1:Looks M s.heap (isInstance (.ref B) (.type "tuple")) false:=(looks_typeIn X Y.ty).andThen (Looks.of_pure tc_notTuple)
 have L2:=ue (M:=M) X Y.is
 have L3:=looks_mroIn (M:=M) X Y.be
 have L4:=looks_mroIn (M:=M) X hm
 obtain ⟨h,g,d,t,os⟩:=s
 unfold excMatches isExcClass
 refine wpAny_bind (L1.at ?_)
 dsimp only
 rw [if_neg Bool.false_ne_true]
 refine wpAny_bind (wpAny_pure ?_)
 rw [List.forIn_cons]
 refine wpAny_bind (wpAny_bind (wpAny_bind (wpAny_bind (L2.at ?_))))
 rw [if_pos rfl]
 refine L3.at ?_
 rw [if_neg (show ¬ ((!true)=true) by decide)]
 refine wpAny_pure ?_
 dsimp only
 rw [List.forIn_nil]
 refine wpAny_pure ?_
 have T0:∀ {Q':Value→Shared→Prop},Q' (.ref C) ⟨h,g,d,t,os⟩→wpAny M A (typeOf (.ref a)) Q' E ⟨h,g,d,t,os⟩:=fun {Q'} q'=>by
  repeat (first | (with_reducible refine wpAny_loadPart_at he ?_;rw [hc]) | wp_step)
  exact q'
 refine wpAny_bind (T0 ?_)
 rw [List.forIn_cons]
 refine wpAny_bind (wpAny_bind (wpAny_bind (L4.at ?_)))
 rw [if_pos rfl]
 exact wpAny_pure (wpAny_pure (wpAny_pure hq))
section
variable {X:Cx}
noncomputable abbrev TJ:=Str→St→Hp→VK→Prop
noncomputable def PJ (X:Cx) (es:List Expr) (t:TJ):Prop:=∀ (pins:List (Addr×Obj)) (s:Shared) (σ:St) (H:Hp) (acc:Str) (Q:VK),Inv X pins σ H s→t acc σ H Q →
 Joins (model X.prog X.w) X.A X.xe (evalEach es X.env) acc (fun out s1=>out.length≤sizeLine∧EP X pins σ Q (.str out s1.toks) { s1 with toks:=s1.toks+1 }) s
noncomputable def tJn:TJ:=fun acc σ H Q=>acc.length≤sizeLine∧Q (.str acc) H
noncomputable def tJc (te:TE) (t:TJ):TJ:=fun acc σ H Q=>te σ H fun v H1=>∃ y,v = .str y∧(acc ++ y).length≤sizeLine∧t (acc ++ y) σ H1 Q
theorem yJ:PJ X [] tJn:=fun pins s σ H acc Q I h=>⟨h.1,.str acc,H,I.tok _,⟨_,rfl⟩,h.2⟩
theorem jW {e:Expr} {es:List Expr} {te:TE} {t:TJ} (he:PE X e te) (ht:PJ X es t):PJ X (e :: es) (tJc te t):=by
 intro pins s σ H acc Q I h
 show wpAny _ _ (eval e X.env) _ _ _
 refine thn (he pins s σ H _ I h) fun v s1 z=>?_
 obtain ⟨w,H1,I1,r,y,rfl,hz,q⟩:=z
 obtain ⟨tk,rfl⟩:=r
 exact ⟨y,tk,rfl,hz,ht pins s1 σ H1 _ Q I1 q⟩
noncomputable def A0 (t:TJ):TE:=fun σ H Q=>t Str.empty σ H Q
theorem uZ {e1 e2:Expr} {es:List Expr} {t:TJ} {pos:Pos} (ht:PJ X (e1 :: e2 :: es) t):PE X (.JoinedStr (e1 :: e2 :: es) pos) (A0 t):=by
 intro pins s σ H Q I h
 exact wpAny_JoinedStr (ht pins s σ H _ Q I h)
end
end L2.Ex
end
section
namespace L2.Ex
open PySem.W
noncomputable def hU (bmB:List Value):List Value→Bool
 | []=>false
 | v :: r=>(v :: r) == bmB || match v with | .ref _=>hU bmB r | _=>false
theorem dv {self:Value} {bmB:List Value} (hp:refuseLoop self "__setattr__" bmB=pure ()):∀ {l:List Value},hU bmB l=true→refuseLoop self "__setattr__" l=pure ()
 | [],e=>by cases e
 | v :: r,e=>by
   unfold hU at e
   rcases Bool.or_eq_true_iff.mp e with z | z
   ·rw [beq_iff_eq.mp z];exact hp
   ·split at z
    ·rw [refuseLoop_ref];exact dv hp z
    ·cases z
noncomputable abbrev veB:List Value:=[.type "ValueError",.type "Exception",.type "BaseException",.type "object"]
noncomputable abbrev exB:List Value:=[.type "Exception",.type "BaseException",.type "object"]
structure mZ (K:Frag) (C:Addr):Prop where
 sa:findIn K (.ref C) "__setattr__" = some (some (.builtin "object.__setattr__"))
 over:((clsIn K C).any fun cd=>hU veB cd.mro || hU exB cd.mro)=true
 hd:((clsIn K C).any fun cd=>cd.hasDict)=true
 ob:mroIn K C (.type "object")=some true
section
variable {prog:Program} {w:World} {A:Around} {E:Value→Shared→Prop} {s:Shared} {K:Frag} {x C:Addr} {o:Obj} {vs:Array Value} {mA:Str→Option Value} {name:Str} {v:Value} {ns:List Str}
theorem i8 {M:Model} {d:Addr} {tk:Tok} {Q:Fin→Shared→Prop} (hn:s.heap.Ns1 d mA) (hw:Within mA ns) (hz:ns.length<1000)
 (hq:∀ h',h'.Ns1 d (fun y=>if y=name then some v else mA y)→Heap.SameBut d s.heap h'→Q (.done (.ret .none)) { s with heap:=h',toks:=s.toks+1 }):wpAny M A (Builtin.ObjectAttr.storeInDict d (.str name tk) name v) Q E s:=by
 unfold Builtin.ObjectAttr.storeInDict Builtin.ObjectAttr.newKeyGuard
 refine wpAny_bind (wpAny_pure (wpAny_bind (wpAny_nsSet1 hn fun h' n' sb=>?_)))
 obtain ⟨od,es,ep,e1,e2,e3⟩:=n'.count (Within.cons name v hw)
 have few:es.size≤sizeLine:=Nat.le_trans e3 (by rw [List.length_cons,sizeLine_eq];omega)
 refine wpAny_bind (wpAny_lookBehind e1 (by rw [e2];exact pastItsLine_dict (Nat.le_succ_of_le few)) ?_)
 exact wpAny_pure (hq h' n' sb)
theorem iW {Q:Unit→Shared→Prop} (X:K.In s.heap) (Z:mZ K C) (hf:findIn K (.ref C) name=some none) (hx:s.heap.get? x=some o) (hc:o.cls = .ref C) (hd:o.data = .fields vs)
 (hm:(o.dict=none∧∀ n,mA n=none)∨∃ d,o.dict=some d∧d≠x∧s.heap.Ns1 d mA) (hw:Within mA ns) (hz:ns.length<1000)
 (hq:∀ h' d t',h'.get? x=some { o with dict:=some d }→d≠x→h'.Ns1 d (fun y=>if y=name then some v else mA y)→(∀ b u,b≠x→b≠d→s.heap.get? b=some u→h'.get? b=some u) →
  (o.dict=some d∨(o.dict=none∧s.heap.get? d=none))→Q () { s with heap:=h',toks:=t' }):wpAny (model prog w) A (setAttr (.ref x) name v) Q E s:=by
 obtain ⟨od,I⟩:∃ od,InstAt s.heap x o C od:=by
  rcases hm with ⟨z,_⟩ | ⟨d,z,_,od,_,_,e,_⟩
  ·exact ⟨none,hx,hc,by unfold notCls;rw [hd],by rw [z];trivial⟩
  ·exact ⟨some od,hx,hc,by unfold notCls;rw [hd],by rw [z];exact e⟩
 have SF:=PySem.F.store_ValueError
 obtain ⟨cd,hcd,hov⟩:=any_some Z.over
 obtain ⟨cd',hcd',hhd⟩:=any_some Z.hd
 rw [hcd] at hcd'
 cases hcd'
 refine set_plain X I Z.sa ?_
 obtain ⟨h,g,d,t,os⟩:=s
 have sub:Looks (model prog w) h (isInstance (.ref x) (.type "object")) true:=I.type.andThen (looks_mroIn X Z.ob)
 refine codeAny_call_builtin SF.slot.plain SF.entry (@check_slot (model prog w) _ _ ⟨h,g,d,t+1,os⟩ "object.__setattr__" "object" "__setattr__" (.ref x) [.str name t,v] [] _ SF.kind SF.split sub (SF.args (.ref x) (.str name t) v) ?_)
 have lm:Looks (model prog w) h (mroOf (.ref C)) cd.mro:=(looks_clsIn X hcd).andThen .now
 rw [osa_eq,refuse_eq]
 have l0:=I.type (M:=model prog w)
 have lf:=looks_findIn (M:=model prog w) X hf
 refine wpAny_bind (wpAny_bind (l0.at (wpAny_bind (lm.at ?_))))
 rw [show refuseLoop (.ref x) "__setattr__" cd.mro=pure () from (Bool.or_eq_true_iff.mp hov).elim (dv (SF.passes _)) (dv (PySem.F.store_Exception.passes _))]
 refine wpAny_pure (wpAny_bind (l0.at (wpAny_bind (lf.at ?_))))
 refine wpAny_bind (wpAny_pure ?_)
 refine wpAny_bind (wpAny_pure ?_)
 have lc:=looks_clsIn (M:=model prog w) X hcd
 obtain ⟨oc,odi,oda,osl⟩:=o
 dsimp only at hc hd hm hx
 subst hc hd
 refine wpAny_bind (wpAny_bind (wpAny_loadPart hx (wpAny_bind (lc.at ?_))))
 rw [hhd]
 rcases hm with ⟨rfl,hmA⟩ | ⟨dx,rfl,hne,hns⟩
 ·obtain rfl:mA=fun _=>none:=funext hmA
  have hxs:x≠h.objs.size:=Nat.ne_of_lt (Heap.lt_size hx)
  have hx1:=Heap.get?_push_of_some { cls:=.type "dict",data:=.dict #[] } hx
  refine wpAny_bind (wpAny_alloc' (wpAny_bind (wpAny_update' hx1 ?_)))
  have hg:((h.push { cls:=.type "dict",data:=.dict #[] }).update x fun o=>{ cls:=o.cls,dict:=some h.objs.size,data:=o.data,slots:=o.slots }).get? h.objs.size=some { cls:=.type "dict",data:=.dict #[] }:=
   (Heap.get?_update_ne _ _ _ _ (Ne.symm hxs)).trans (Heap.get?_push_at rfl rfl)
  have hn0:((h.push { cls:=.type "dict",data:=.dict #[] }).update x fun o=>{ cls:=o.cls,dict:=some h.objs.size,data:=o.data,slots:=o.slots }).Ns h.objs.size (fun _=>none):=
   ⟨_,#[],_,hg,rfl,fun e he=>absurd he (by simp),fun _=>rfl⟩
  refine wpAny_pure (a:=some h.objs.size) ?_
  refine i8 (Heap.Ns1.of_empty hn0) Within.nil (by decide) fun h' n' sb=>?_
  refine hq h' h.objs.size _ ?_ (Ne.symm hxs) n' (fun b u h1 h2 e=>?_) (.inr ⟨rfl,Heap.get?_none_of_le (Nat.le_refl _)⟩)
  ·refine (sb.2 x hxs).trans (Heap.get?_update_self _ hx1 rfl)
  ·exact (sb.2 b h2).trans ((Heap.get?_update_ne _ _ _ _ h1).trans (Heap.get?_push_of_some _ e))
 ·refine wpAny_pure (a:=some dx) ?_
  refine i8 hns hw hz fun h' n' sb=>?_
  exact hq h' dx _ ((sb.2 x (Ne.symm hne)).trans hx) hne n' (fun b u _ h2 e=>(sb.2 b h2).trans e) (.inl rfl)
theorem qG {d:Addr} {expr:Bool} {Q:Value→Shared→Prop} (Y:eZ K C) (hh:hasDictIn K C=true) (X:K.In s.heap) (hf:findIn K (.ref C) name=some none) (hx:s.heap.get? x=some o) (hc:o.cls = .ref C) (hd:o.data = .fields vs) (hdi:o.dict=some d) (hn:s.heap.Ns1 d mA) (hv:mA name=some v) (hv':handedIn v=true)
 (hq:Q v { s with toks:=s.toks+1 }):wpAny (model prog w) A (getAttr (.ref x) name expr) Q E s:=by
 obtain ⟨od,ho,hl⟩:=je hn
 have I:InstAt s.heap x o C (some od):=⟨hx,hc,by unfold notCls;rw [hd],by rw [hdi];exact ho⟩
 have fo:findObj K C (some od) name=some (.value v):=findObj_own hh hf rfl (by rw [hl,hv])
 obtain ⟨h,g,dr,t,os⟩:=s
 have l0:=I.type (M:=model prog w)
 have l1:=looks_findIn (M:=model prog w) X Y.ga
 have l2:=looks_findIn (M:=model prog w) X Y.gn
 have l3:=looks_find (M:=model prog w) X I fo
 have G:=PySem.F.attrBase_ValueError.ga
 have b1:=G.bind (.ref x)
 unfold getAttr getAttrBy
 refine wpAny_bind (wpAny_mkText (wpAny_holding (wpAny_bind (l0.at (wpAny_bind (l1.at ?_))))))
 show wpAny _ _ (getAttrByItsOwn _ _ _ _ _ _) _ _ _
 unfold getAttrByItsOwn
 refine wpAny_bind (l2.at (wpAny_bind (wpAny_attempt (wpAny_holding ?_))))
 unfold callGetattribute
 rw [show (expr && onTheHeap (Value.builtin "BaseException.__getattribute__"))=false from Bool.and_false _,if_neg Bool.false_ne_true]
 unfold boundAndCalled
 rw [b1]
 refine wpAny_bind (wpAny_pure ?_)
 refine wpAny_call (codeAny_call_builtin G.plain F.entry_bexc_ga (qp Y X I ?_))
 refine wpAny_bind (wpAny_pure (wpAny_bind (wpAny_pure (wpAny_bind (l0.at (wpAny_bind (l3.at ?_)))))))
 exact wpAny_pure (handed_on hv' hq)
end
structure oO (K:Frag) (C fI:Addr) (bmB:List Value) (newId:String):Prop where
 at_:∃ (nm q:Str) (N:Addr) (bs bm:List Value) (hdct:Bool) (sn:List Str) (sub:List Value) (ab:Bool) (col:Option Bool) (dd:Option Addr) (k0 k1 k2 k3 k5:Option Value),
  K.lookup C=some (excClassObj nm q C N bs bm hdct sn sub ab col dd k0 k1 k2 k3 k5 newId)∧tailIn K bmB bm=true
 init:findIn K (.ref C) "__init__" = some (some (.ref fI))
 fn:isFn K (.ref fI)=true
section
variable {prog:Program} {w:World} {A:Around} {E:Value→Shared→Prop} {K:Frag} {C fI:Addr} {rest bmB:List Value} {B newId initId:String} {h:Heap} {g:Array GenState} {d:Drawn} {t:Nat} {os:OsState}
noncomputable abbrev jx (h:Heap) (C:Addr) (rest:List Value):Heap:=(h.push { cls:=.type "tuple",data:=.seq rest.toArray }).push { cls:=.ref C,data:=.fields #[.ref h.objs.size,.none,.none,.none,.bool false,.none] }
theorem gC (b:Addr) (u:Obj) (z:h.get? b=some u):(jx h C rest).get? b=some u:=Heap.get?_push_of_some _ (Heap.get?_push_of_some _ z)
theorem oR:Heap.MadeExcOf h (jx h C rest) (h.objs.size+1) (.ref C) rest where
 keeps:=gC
 new:=Heap.get?_none_of_le (Nat.le_succ _)
 there:=⟨h.objs.size,by heap_get,Heap.get?_none_of_le (Nat.le_refl _),Heap.get?_push_of_some _ (Heap.get?_push_at rfl rfl)⟩
theorem iJ {Q:Fin→Shared→Prop} (F:ExcBaseFacts B newId initId bmB) (X:K.In h) (O:oO K C fI bmB newId) (hz:rest.length≤sizeLine)
 (hq:∀ h' e,Heap.MadeExcOf h h' e (.ref C) rest→wpAny (model prog w) A (call (.ref fI) (.ref e :: rest)) (fun r s'=>r = .none∧Q (.done (.ret (.ref e))) s') E ⟨h',g,d,t,os⟩) :
 wpAny (model prog w) A (Builtin.«type.__call__» ⟨.ref C :: rest,[]⟩) Q E ⟨h,g,d,t,os⟩:=by
 obtain ⟨nm,q,N,bs,bm,hdct,sn,sub,ab,col,dd,k0,k1,k2,k3,k5,l,tl⟩:=O.at_
 have c0:=X _ _ l
 have T:=tail_of_in X tl
 have X1:K.In (jx h C rest):=fun b u z=>gC b u (X b u z)
 have c1:=X1 _ _ l
 have m1:=(oR (h:=h) (C:=C) (rest:=rest))
 obtain ⟨tt,e1,_,_⟩:=id m1.there
 have self:(Value.ref C :: bm).contains (.ref C)=true:=by simp
 have l1:=looks_findIn (M:=model prog w) X1 O.init
 have l2:=fun self=>bind_fn (M:=model prog w) X1 self (beq_iff_eq.mp O.fn)
 repeat (first | with_reducible refine wpAny_loadPart_at c0 ?_ | with_reducible refine wpAny_madeBy_exc c0 ?_ | wp_step)
 refine codeAny_call_builtin_code (Code.quiet_builtin _ F.quiet) (wpAny_check_new_subT F T c0 (codeAny_exc_new_subT F T c0 ?_ hz))
 show wpAny _ _ _ _ _ _
 unfold isInstance
 repeat (first | with_reducible refine wpAny_loadPart_at e1 ?_ | (with_reducible refine wpAny_isSubtype_exc c1 ?_;rw [self]) | wp_step)
 refine l1.at (wpAny_holding (wpAny_bind ((l2 _).at ?_)))
 refine wpAny_bind (wpAny_mono (hq _ _ m1) (fun r s' z=>?_) fun _ _ z=>z)
 obtain ⟨rfl,z⟩:=z
 wp_walk
 exact z
theorem qF {Q:Value→Shared→Prop} (F:ExcBaseFacts B newId initId bmB) (X:K.In h) (O:oO K C fI bmB newId) (hz:rest.length≤sizeLine)
 (hq:∀ h' e,Heap.MadeExcOf h h' e (.ref C) rest→wpAny (model prog w) (A.under (.builtin "type.__call__" ⟨.ref C :: rest,[]⟩)) (call (.ref fI) (.ref e :: rest)) (fun r s'=>r = .none∧Q (.ref e) s') E ⟨h',g,d,t,os⟩) :
 wpAny (model prog w) A (call (.ref C) rest) Q E ⟨h,g,d,t,os⟩:=by
 obtain ⟨nm,q,N,bs,bm,hdct,sn,sub,ab,col,dd,k0,k1,k2,k3,k5,l,tl⟩:=O.at_
 have c0:=X _ _ l
 have y1:=tc_lookup
 have y2:=tc_bind (.ref C)
 have y3:Shared.TypeIs ⟨h,g,d,t,os⟩ (.ref C) "type":=⟨_,c0,rfl⟩
 refine wpAny_call (codeAny_of_tree ?_)
 show wpAny _ _ (callAny (.ref C) _) _ _ _
 repeat (any_goals (first | assumption | with_reducible refine wpAny_loadPart_at c0 ?_ | wp_step))
 refine ⟨rfl,codeAny_call_builtin_at (Code.quiet_builtin _ (by decide +kernel)) entry_typeCall (wpAny_check_type_call_sub c0 ?_)⟩
 exact iJ F X O hz fun h' e m=>hq h' e m
end
noncomputable def XP (fr:Bool) (p C:Addr) (dx:Option Addr) (h:Heap):Prop:=∃ o vs,h.get? p=some o∧o.cls = .ref C∧o.data = .fields vs∧(0<vs.size∧(fr=true→vs[1]? = some .none))∧o.dict=dx∧∀ d,dx=some d→d≠p
noncomputable def XQ (fr:Bool) (p C:Addr) (dx:Option Addr):HO:=.ext (XP fr p C dx)
noncomputable def DO (d:Addr) (fs:List (Str×V)):HO:=.ext fun h=>∃ mA,h.Ns1 d mA∧(∀ f,bM (fs.lookup f) (mA f))∧PySem.Within mA (fs.map (·.1))
section
variable {P:Program} {w:World} {H:Hp} {h h':Heap} {p C d:Addr} {dx:Option Addr} {fs:List (Str×V)} {fr:Bool}
theorem tE (x:XP fr p C dx h):aC P w H h p (XQ fr p C dx):=by
 obtain ⟨o,vs,e,r⟩:=id x
 exact ⟨x,⟨o,e⟩,fun h1 h2 ⟨o1,vs1,e1,r1⟩ y=>⟨o1,vs1,y o1 e1,r1⟩⟩
theorem wc {mA:Str→Option Value} (n:h.Ns1 d mA) (r:∀ f,bM (fs.lookup f) (mA f)) (wi:PySem.Within mA (fs.map (·.1))):aC P w H h d (DO d fs):=by
 obtain ⟨o,es,ep,e,_⟩:=id n
 exact ⟨⟨mA,n,r,wi⟩,⟨o,e⟩,fun h1 h2 ⟨m1,n1,r1,w1⟩ y=>⟨m1,n1.at y,r1,w1⟩⟩
theorem oy {f:Str} {y:V} {u:Value} {mA:Str→Option Value} (r:∀ g,bM (fs.lookup g) (mA g)) (ry:ar y u):∀ g,bM ((bq f y fs).lookup g) (if g=f then some u else mA g):=fun g=>by
 rw [dm]
 by_cases q:g=f
 ·rw [if_pos q,if_pos q];exact ry
 ·rw [if_neg q,if_neg q];exact r g
theorem iC {f:Str} {y:V} {u:Value} {mA:Str→Option Value} (wi:PySem.Within mA (fs.map (·.1))):PySem.Within (fun g=>if g=f then some u else mA g) ((bq f y fs).map (·.1)):=fun g hg=>by
 by_cases q:g=f
 ·rw [q];exact (cx f y fs).1
 ·refine (cx f y fs).2 g (wi g fun z=>hg ?_)
  show (if g=f then some u else mA g)=none
  rw [if_neg q];exact z
end
section
variable {X:Cx}
theorem iD {pins:List (Addr×Obj)} {σ:St} {H:Hp} {s:Shared} {p C:Addr} {dx:Option Addr} {fr:Bool} (I:Inv X pins σ H s) (e:H p=some (XQ fr p C dx)):XP fr p C dx s.heap:=(I.hok p _ e).1
theorem qw {pins:List (Addr×Obj)} {σ:St} {H:Hp} {s:Shared} {d:Addr} {fs:List (Str×V)} (I:Inv X pins σ H s) (e:H d=some (DO d fs)):∃ mA,s.heap.Ns1 d mA∧(∀ f,bM (fs.lookup f) (mA f))∧PySem.Within mA (fs.map (·.1)):=(I.hok d _ e).1
noncomputable def sXF (K:Frag) (ta tv:TE) (f:Str):TS:=fun D σ H=>tv σ H fun y H1=>ta σ H1 fun x H2=>∃ fr p C,x = .ref p∧mZ K C∧findIn K (.ref C) f=some none ∧
 ((H2 p=some (XQ fr p C none)∧∀ d,H2 d=none→d≠p→D.nx σ (upd (upd H2 p (XQ fr p C (some d))) d (DO d [(f,y)]))) ∨
  ∃ d fs,H2 p=some (XQ fr p C (some d))∧H2 d=some (DO d fs)∧fs.length<900∧D.nx σ (upd H2 d (DO d (bq f y fs))))
theorem vg {o value:Expr} {ta tv:TE} {f:Str} {pos pos':Pos} (hex:X.ex = []) (ha:PE X o ta) (hv:PE X value tv) (hs:swapsWith value (some (.Attribute o f pos')) pos.line X.env=pure false):PS X (.Assign [.Attribute o f pos'] value pos) (sXF X.K ta tv f):=by
 intro pins s σ H D I h
 refine plainObj_wpAny_Assign_Attribute (thn (hv pins s σ H _ I h) fun u s1 ⟨y,H1,I1,ry,q⟩=>thn (ha pins s1 σ H1 _ I1 q) fun ov s2 ⟨x,H2,I2,rx,fr,p,C,ex,Z,hf,q2⟩=>?_) hs
 subst ex
 obtain rfl:ov=Value.ref p:=rx
 rcases q2 with ⟨ep,q2⟩ | ⟨d,fs,ep,ed,lz,q2⟩
 ·obtain ⟨ob,vs,e1,e2,e3,e4,e5,e6⟩:=iD I2 ep
  refine iW (mA:=fun _=>none) (ns:=[]) I2.kIn Z hf e1 e2 e3 (.inl ⟨e5,fun _=>rfl⟩) Within.nil (by decide) fun h' d t' g1 ne n k ds=>?_
  have nd:s2.heap.get? d=none:=by
   rcases ds with z | ⟨_,z⟩
   ·rw [e5] at z;cases z
   ·exact z
  have st:=Inv.strange I2 hex nd
  have I3:Inv X pins σ (upd H2 p (XQ fr p C (some d))) { s2 with heap:=h',toks:=t' }:=I2.write (x:=p) (e:=p) (by rw [ep];exact True.intro) (.inl rfl) (fun b u2 hb z=>k b u2 hb (fun w=>by rw [w,nd] at z;cases z) z) ⟨_,g1⟩
   (tE ⟨_,vs,g1,e2,e3,e4,rfl,fun d' z=>by cases z;exact ne⟩)
  have I4:=Inv.track (b:=d) (o:=DO d [(f,y)]) I3 ⟨st.s0,by rw [aa ne];exact st.un,st.nl,st.nc,st.np⟩ (wc n (fun g=>?_) ?_)
  ·exact ⟨σ,_,I4,q2 d st.un ne⟩
  ·exact oy (fs:=[]) (fun _=>(show bM none none from trivial)) ry g
  ·exact iC (fs:=[]) (f:=f) (y:=y) Within.nil
 ·obtain ⟨ob,vs,e1,e2,e3,e4,e5,e6⟩:=iD I2 ep
  obtain ⟨mA,n0,r0,w0⟩:=qw I2 ed
  have ne0:=e6 d rfl
  refine iW (mA:=mA) (ns:=fs.map (·.1)) I2.kIn Z hf e1 e2 e3 (.inr ⟨d,e5,ne0,n0⟩) w0 (by rw [List.length_map];omega) fun h' d' t' g1 ne n k ds=>?_
  obtain rfl:d=d':=by
   rcases ds with z | ⟨z,_⟩
   ·rw [e5] at z;exact Option.some.inj z
   ·rw [e5] at z;cases z
  obtain ⟨od,es,epx,g2,_⟩:=id n
  have eo:({ ob with dict:=some d }:Obj)=ob:=by rw [← e5]
  rw [eo] at g1
  refine ⟨σ,_,I2.write (x:=d) (e:=d) (t':=t') (by rw [ed];exact True.intro) (.inl rfl) (fun b u2 hb z=>?_) ⟨_,g2⟩ (wc n (oy r0 ry) (iC w0)),q2⟩
  by_cases hbp:b=p
  ·rw [hbp] at z ⊢
   rw [e1] at z
   cases z
   exact g1
  ·exact k b u2 hbp hb z
theorem vM {pins:List (Addr×Obj)} {σ:St} {H:Hp} {s:Shared} {A:Around} {E:Value→Shared→Prop} {p C d:Addr} {fs:List (Str×V)} {f:Str} {v:V} {b fr:Bool} {Q:Value→Shared→Prop} (I:Inv X pins σ H s) (ep:H p=some (XQ fr p C (some d))) (ed:H d=some (DO d fs)) (Y:eZ X.K C) (hh:hasDictIn X.K C=true) (hf:findIn X.K (.ref C) f=some none) (l:fs.lookup f=some v)
 (h:∀ u s',Inv X pins σ H s'→ar v u→Q u s'):wpAny (model X.prog X.w) A (getAttr (.ref p) f b) Q E s:=by
 obtain ⟨ob,vs,e1,e2,e3,e4,e5,e6⟩:=iD I ep
 obtain ⟨mA,n0,r0,w0⟩:=qw I ed
 obtain ⟨u,hu,ru⟩:=bM.some_of (v:=v) (o:=mA f) (by rw [← l];exact r0 f)
 exact qG Y hh I.kIn hf e1 e2 e3 e5 n0 hu (i7 ru) (h u _ (I.tok _) ru)
end
noncomputable def del (H:Hp) (a:Addr):Hp:=fun b=>if b=a then none else H b
theorem cZ {H:Hp} {a:Addr}:del H a a=none:=by unfold del;rw [if_pos rfl]
theorem cD {H:Hp} {a b:Addr} (n:b≠a):del H a b=H b:=by unfold del;rw [if_neg n]
theorem kz {H:Hp} {a b:Addr} (n:H b=none):del H a b=none:=by unfold del;split <;> first | rfl | exact n
theorem ub {P:Program} {w:World} {H:Hp} {h:Heap} {a:Addr} {φ:Heap→Prop} (x:HOk P w H h) (e:H a=some (.ext φ)):HOk P w (del H a) h:=fun b o q=>by
 by_cases z:b=a
 ·rw [z,cZ] at q;cases q
 rw [cD z] at q
 exact (x b o q).stay (fun _ _ _ q=>q) (fun c q=>by rw [cD (fun z=>by rw [z,e] at q;cases q)];exact q) fun c xs q=>by rw [cD (fun z=>by rw [z,e] at q;cases q)];exact q
theorem zc {fs ch:List Addr} {H0 H:Hp} {h0 h:Heap} {a:Addr} {φ:Heap→Prop} (u:Un fs ch H0 H h0 h) (e:H a=some (.ext φ)):Un fs ch H0 (del H a) h0 h where
 keep:=u.keep
 slot:=u.slot
 free:=fun b o q n hx=>kz (u.free b o q n hx)
 there:=u.there
 tups:=fun b xs q=>by
  have z:=u.tups b xs q
  rw [cD (fun y=>by rw [y,e] at z;cases z)];exact z
 frzs:=fun b o xs q=>by
  have z:=u.frzs b o xs q
  rw [cD (fun y=>by rw [y,e] at z;cases z)];exact z
 tbls:=fun b ps q=>by
  obtain ⟨m,z⟩:=u.tbls b ps q
  exact ⟨m,by rw [cD (fun y=>by rw [y,e] at z;cases z)];exact z⟩
section
variable {X:Cx}
theorem sM {pins:List (Addr×Obj)} {σ:St} {H:Hp} {s:Shared} {Q:Addr→Hp→Prop} {us:List Value} {vs:List V} {k:Nat} {C fI:Addr} {fd:FuncData} {ps:List Str} {sp:Sp} {E:Value→Shared→Prop} {bmB:List Value} {nwI iniI Bx:String} (Fb:ExcBaseFacts Bx nwI iniI bmB) (O:oO X.K C fI bmB nwI) (F:aR X.prog X.w X.K X.mg X.base CX0 k fI fd ps sp) (hr:Room (k+1) X.A) (hb:a8 X.K fd ps [])
 (I:Inv X pins σ H s) (r:av vs us) (lz:vs.length≤sizeLine) (h:∀ p,H p=none→sp (.ref p :: vs) (upd H p (XQ true p C none)) (fun v H2=>v = .non∧Q p H2) E0) :
 wpAny (model X.prog X.w) X.A (call (.ref C) us) (fun v s'=>∃ p,v = .ref p∧s.heap.get? p=none∧∃ H',Inv X pins σ H' s'∧Q p H') E s:=by
 have lz':us.length≤sizeLine:=by rw [← r.length];exact lz
 obtain ⟨h1,g1,d1,t1,o1⟩:=s
 refine qF Fb I.kIn O lz' fun h' p m=>?_
 have np:H p=none:=eK I.hok m.new
 obtain ⟨tt,ht,_,_⟩:=m.there
 have I2:Inv X pins σ (upd H p (XQ true p C none)) ⟨h',g1,d1,t1,o1⟩:=I.un (h':=h') (t':=t1) (zd m.keeps m.new np) (nJ I.hok m.keeps np (tE ⟨_,_,ht,rfl,rfl,⟨by simp,fun _=>rfl⟩,rfl,fun d z=>by cases z⟩))
 have hq:=h p np
 have r2:av (V.ref p :: vs) (Value.ref p :: us):=.cons rfl r
 have hl:(Value.ref p :: us ++ []).length=ps.length:=by
  rw [List.append_nil,← r2.length]
  exact F.len _ _ _ _ hq
 have hbb:=hb ⟨h',g1,d1,t1,o1⟩ (Value.ref p :: us) I2.kIn hl
 rw [List.append_nil] at hbb
 refine wpAny_call (codeAny_mono (F.run _ X.stack _ _ ⟨Value.ref p :: us,[]⟩ (Value.ref p :: us) _ _ E0 (hr.make C us []) (I2.env0.make C us []) hbb r2 hq) fun rr s' hq'=>?_)
 cases rr with
 | error e=>exact hq'.elim
 | ok fl=>
   cases fl with
   | ret u=>
     obtain ⟨v,H',I3,rv,ev,q3⟩:=I2.after hq'
     subst ev
     exact ⟨rv,p,rfl,m.new,H',I3,q3⟩
   | next=>exact False.elim hq'
   | brk=>exact False.elim hq'
   | cont=>exact False.elim hq'
theorem tG {E:XK} {pins:List (Addr×Obj)} {σ:St} {H H':Hp} {s s':Shared} {p C:Addr} {dx:Option Addr} (I0:Inv X pins σ H s) (n0:s.heap.get? p=none) (I:Inv X pins σ H' s') (hst:X.stack=X.env :: X.outer) (hf:X.env.frame=some X.env.locals) (hex:X.ex = []) (ep:H' p=some (XQ true p C dx)) (q:E (.ref C) dx (del H' p)):XS X E (.ref p) s':=by
 have st0:=Inv.strange I0 hex n0
 have b0:=I.base
 rw [hex] at b0
 have st:=I.stack
 rw [hst] at st
 obtain ⟨ob,vs,e1,e2,e3,e4,e5,e6⟩:=iD I ep
 refine ⟨p,.ref C,dx,del H' p,rfl,⟨st0.s0,cZ,I.os,I.bare,zc b0 ep,ub I.hok ep,st,(fun b hb=>kz (I.stkFree b (by rw [hst];exact hb))),Heap.get?_none_of_le I.ok.above,hf,(by rw [← hst];exact I.ok.frames),q⟩,.inl ⟨ob,vs,e1,⟨e2,e5⟩,e3,e4.2 rfl⟩⟩
theorem pI {M:Model} {A:Around} {E:Value→Shared→Prop} {s:Shared} {K:Frag} {env:Env} {C:Addr} {x:Sem Value} {Q:Flow→Shared→Prop} (be:mroIn K C (.type "BaseException")=some true) (ty:typeIn K (.ref C)=some (.type "type")) (hh:A.handled=none)
 (h:wpAny M A x (fun v s1=>∃ p ob vs,v = .ref p∧K.In s1.heap∧s1.heap.get? p=some ob∧ob.cls = .ref C∧ob.data = .fields vs∧vs[1]? = some .none∧E (.ref p) s1) E s):wpAny M A (raiseStmt env (some x) none) Q E s:=by
 unfold raiseStmt
 refine wpAny_bind (wpAny_mono h (fun v s1 z=>?_) fun _ _ z=>z)
 obtain ⟨p,⟨oc,od,oda,osl⟩,vs,rfl,Xk,e1,e2,e3,e4,q⟩:=z
 simp only at e2 e3
 subst e2 e3
 obtain ⟨h1,g1,d1,t1,o1⟩:=s1
 have l0:Looks M h1 (typeOf (.ref p)) (.ref C):=(Looks.ld e1).andThen .now
 have l1:Looks M h1 (isInstance (.ref p) (.type "BaseException")) true:=l0.andThen (looks_mroIn Xk be)
 have l2:=looks_typeIn (M:=M) Xk ty
 have l3:Looks M h1 (isType (.ref p)) false:=(Looks.ld e1).andThen .now
 have l4:Looks M h1 (isExcClass (.ref p)) false:=l3.andThen .now
 refine wpAny_bind (wpAny_pure (wpAny_bind (wpAny_holding ?_)))
 unfold excFromValue raisedInstance setFlight
 refine wpAny_bind (l4.at ?_)
 rw [if_neg Bool.false_ne_true]
 refine wpAny_bind (l1.at ?_)
 rw [if_pos rfl]
 refine wpAny_pure (wpAny_bind (l3.at ?_))
 rw [if_neg Bool.false_ne_true]
 refine wpAny_bind (wpAny_bind (l0.at (wpAny_bind (l2.at ?_))))
 rw [if_pos (show (Value.type "type" == Value.type "type")=true by decide)]
 refine wpAny_pure (wpAny_bind (wpAny_bind (wpAny_field e1 rfl e4 ?_)))
 rw [if_neg (show ¬ ((Value.none != Value.none)=true) by decide)]
 exact wpAny_pure (wpAny_raiseNew_none hh q)
noncomputable def vH (C:Addr) (sp:Sp) (E:XK) (t:TA):TS:=fun _ σ H=>t σ H fun vs H1=>vs.length≤sizeLine∧∀ p,H1 p=none→sp (.ref p :: vs) (upd H1 p (XQ true p C none)) (fun v H2=>v = .non∧∃ dx,H2 p=some (XQ true p C dx)∧E (.ref C) dx (del H2 p)) E0
theorem pF {Y:Cx} {E:XK} {x:Str} {C fI:Addr} {k n:Nat} {fd:FuncData} {ps:List Str} {sp:Sp} {np cpos pos:Pos} {e:Expr} {es:List Expr} {t:TA} {bmB:List Value} {nwI iniI Bx:String} (O:oO Y.K C fI bmB nwI) (F:aR Y.prog Y.w Y.K Y.mg Y.base CX0 k fI fd ps sp) (hr:Room n Y.A) (hb:a8 Y.K fd ps []) (hm:Y.mg x=some (.ref C)) (kp:keepIn Y.K (.ref C)=true) (be:mroIn Y.K C (.type "BaseException")=some true) (ty:typeIn Y.K (.ref C)=some (.type "type"))
 (ha:PA (Y.wish (XS Y E)) (e :: es) t) (hn:k+1≤n:=by omega) (hst:Y.stack=Y.env :: Y.outer:=by rfl) (hf:Y.env.frame=some Y.env.locals:=by rfl) (hex:Y.ex = []:=by rfl) (hc:Y.calm=true:=by rfl) (hg:Gl Y x:=by rfl) (hdb:(x == ("__debug__":Str))=false:=by decide)
 (he:starEach (e :: es) Y.env=(false,eval e Y.env) :: starEach es Y.env:=by rfl) (hpl:(backTo cpos (starEach es Y.env)).any (·.1)=false:=by rfl) (Fb:ExcBaseFacts Bx nwI iniI bmB:=by exact PySem.F.excBase_ValueError) :
 PS (Y.wish (XS Y E)) (.Raise (some (.Call (.Name x np) (e :: es) [] cpos)) none pos) (vH C sp E t):=by
 intro pins s σ H D I h
 have hh:=I.ok.hd hc
 rw [arm_exec_Raise]
 refine wpAny_bind (wpAny_standAt (pI (K:=Y.K) (C:=C) be ty hh (wpAny_bind ?_)))
 refine wpAny_Call_Name_kw (cG I hg hm ?_ hdb)
 refine callWith_K (h₀:=Y.base) I.ok.mod.kin kp (thn (ha cpos pins s σ H _ I h) fun us s1 z=>?_) he hpl
 obtain ⟨vs,H1,I1,r,lz,qE⟩:=z
 refine ⟨I1.kIn,?_⟩
 refine wpAny_mono (sM (X:=Y) (Q:=fun p H2=>∃ dx,H2 p=some (XQ true p C dx)∧E (.ref C) dx (del H2 p)) (E:=XS Y E) Fb O F (hr.mono hn) hb I1.unwish r lz fun p np=>?_) (fun v s' z=>?_) fun _ _ z=>z
 ·exact qE p np
 ·obtain ⟨p,rfl,n0,H',I3,dx,ep,q⟩:=z
  obtain ⟨ob,vs',e1,e2,e3,e4,e5,e6⟩:=iD I3 ep
  refine wpAny_bind (wpAny_standAt (wpAny_pure ⟨p,ob,vs',rfl,I3.kIn,e1,e2,e3,e4.2 rfl,tG I1.unwish n0 I3 hst hf hex ep q⟩))
end
end L2.Ex
end
section
namespace L2.Bw
noncomputable def ItL (K:Fg) (a:Addr):It where
 go:=fun i H=>∃ xs,SqL K H a xs∧i<xs.length
 yld:=fun i H v H'=>∃ T x,v = .ref T∧H T=none∧H'=upd H T (.tup [.int (i:Nat),x])∧∀ xs,SqL K H a xs→xs[i]? = some x
 stop:=fun i H=>∃ xs,SqL K H a xs∧xs.length=i
theorem mU {P:Program} {w:World} {K:Fg} {es:List Expr} {k:Nat} {tp:Pos} (a e it:Addr) (ne:e≠it) :
 iG P w K (.Tuple es k tp) (ItL K a) [e,it] e (fun i h=>(∃ old,IsEnum h e it (i:Nat) old)∧h.IsListIter it a i) where
 mem:=by simp
 obj:=fun i h st c hc=>by
  obtain ⟨⟨old,h1⟩,⟨o2,e2,c2,d2⟩⟩:=st
  have hc':c=e∨c=it:=by simpa using hc
  rcases hc' with rfl | rfl
  ·exact ⟨_,h1,fun v q=>by cases (show Data.fields _=Data.cell v from q)⟩
  ·exact ⟨o2,e2,fun v q=>by rw [d2] at q;cases q⟩
 keep:=fun i h h' st kp=>by
  obtain ⟨⟨old,h1⟩,h2⟩:=st
  exact ⟨⟨old,kp e (by simp) _ h1⟩,h2.at fun o q=>kp it (by simp) o q⟩
 item:=by
  intro X hP hw hK hc i pins s σ H E I hf st hg
  subst hP hw hK
  obtain ⟨xs,hx,l1⟩:=hg
  obtain ⟨its,r1,p1,z1⟩:=I.list hx
  have len:=r1.length
  have W:=WalksT.enumerate (prog:=X.prog) (w:=X.w) (A:=X.A) (I.ok.hd hc) e it a ne (du I (hf e (by simp)) hx) (du I (hf it (by simp)) hx) its.toArray
  refine W.item i s _ _ (by simp;omega) ⟨st.1,st.2,p1.isList⟩ fun T vals h' tk hv hT ht hm kp=>?_
  obtain ⟨t,x,ex,rfl⟩:=hv
  have Tw:T ∉ [e,it]:=W.apart _ _ _ hm
  refine ⟨_,rfl,W.go es k tp i T _ _ _ hm fun h2' st2 kp2=>?_⟩
  obtain ⟨g1,g2,_⟩:=st2
  obtain ⟨xv,ev,rx⟩:∃ xv,xs[i]? = some xv∧ar xv x:=by
   have hi:xs[i]? = some xs[i]:=List.getElem?_eq_getElem l1
   obtain ⟨u,hu,ru⟩:=r1.get hi
   have e2:its[i]? = some x:=by simpa using ex
   rw [e2] at hu;cases hu
   exact ⟨_,hi,ru⟩
  have ht2:IsTup h2' T #[.int i t,x]:=by
   obtain ⟨o,eo,r⟩:=ht
   exact ⟨o,kp2 T o Tw eo,r⟩
  have I2:Inv X pins σ (upd H T (.tup [.int (i:Nat),xv])) { s with heap:=h2',toks:=tk }:=
   gz (ch:=[e,it]) I (fun b o hb q=>kp2 b o hb (kp b o hb q)) hf hT ⟨[.int i t,x],.cons ⟨t,rfl⟩ (.cons rx .nil),ht2⟩ (by show 2≤sizeLine;decide)
  refine ⟨.ref T,_,I2,rfl,⟨T,xv,rfl,I.hok.fresh hT,rfl,fun us hu=>by rw [I.list_inj hu hx];exact ev⟩,⟨g1,g2⟩,fun b hb=>?_⟩
  have hbT:b≠T:=fun z=>Tw (z ▸ hb)
  rw [aa hbT]
  exact (hf b hb).1
 done:=by
  intro X hP hw hK hc i pins s σ H E I hf st hg
  subst hP hw hK
  obtain ⟨xs,hx,hi⟩:=hg
  obtain ⟨its,r1,p1,z1⟩:=I.list hx
  have len:=r1.length
  have W:=WalksT.enumerate (prog:=X.prog) (w:=X.w) (A:=X.A) (I.ok.hd hc) e it a ne (du I (hf e (by simp)) hx) (du I (hf it (by simp)) hx) its.toArray
  have hn:i=its.toArray.size:=by simp;omega
  refine W.done s _ _ (by rw [← hn];exact ⟨st.1,st.2,p1.isList⟩) fun h' tk kp=>⟨rfl,?_⟩
  exact gy (ch:=[e,it]) I kp hf
 self:=fun _ _ _ _ _ st h=>let ⟨⟨_,z⟩,_⟩:=st;wpAny_pyIter_enum z h
end L2.Bw
end
section
namespace L2.Bk
open L2.Bw L2.Ex
section
variable {X:Cx}
noncomputable def BL:V→Option Int→Option Int→Hp→VK→Prop:=fun x lo hi H Q=>∃ z:Str,x = .str z∧z.length≤sizeLine∧Q (.str (Txt.slice z lo hi)) H
theorem yZ:SlR X BL:=by
 intro pins s σ H x v vl vu lo hi sl Q I rx hs pl pu h
 obtain ⟨z,rfl,hz,q⟩:=h
 obtain ⟨tk,rfl⟩:=rx
 have fin:Nat.le (Txt.slice z lo hi).length sizeLine∧∀ t' k,EP X pins σ Q (.str (Txt.slice z lo hi) t') { s with toks:=k }:=⟨Nat.le_trans (Txt.slice_le z _ _) hz,fun t' k=>⟨.str _,H,I.tok k,⟨t',rfl⟩,q⟩⟩
 refine ⟨"str",_,PySem.F.slot_str_getitem.lookup,typeIs_str _ _ _,?_⟩
 cases pl <;> cases pu
 ·exact wpAny_getItem_str_slice (l:=none) (u:=none) (st:=none) hs rfl (post_val_or_str fin)
 ·exact wpAny_getItem_str_slice (l:=none) (u:=some (_,_)) (st:=none) hs rfl (post_val_or_str fin)
 ·exact wpAny_getItem_str_slice (l:=some (_,_)) (u:=none) (st:=none) hs rfl (post_val_or_str fin)
 ·exact wpAny_getItem_str_slice (l:=some (_,_)) (u:=some (_,_)) (st:=none) hs rfl (post_val_or_str fin)
end
end L2.Bk
end
section
namespace L2.Bk
open L2.Bw L2.Ex
section
variable {X:Cx}
noncomputable def AG:List V→Hp→VK→Prop:=fun xs H Q=>∃ a kvs,xs = [.ref a]∧H a=some (.dK kvs)∧∀ p,H p=none→Q (.ref p) (upd H p (.dK kvs))
theorem oU:aO X (.type "dict") AG:=by
 intro pins s σ H xs us Q I r h
 obtain ⟨a,kvs,rfl,ha,q⟩:=h
 obtain ⟨u,e,ru⟩:=av.one r
 subst e
 cases ru
 obtain ⟨z,y,vs,rel,dd⟩:=(show aC X.prog X.w H s.heap a (.dK kvs) from I.hok a _ ha)
 have lv:=rel.length
 refine kt_call_dict (knd:=aB X.prog X.w) y dd (by rw [← lv];exact z) fun h' hd' sb=>?_
 have kp:∀ b o,s.heap.get? b=some o→h'.get? b=some o:=fun b o e=>(sb.2 b (Nat.ne_of_lt (Heap.lt_size e))).trans (Heap.get?_push_of_some _ e)
 have np:=I.fresh
 refine ⟨.ref s.heap.objs.size,_,I.laid (t':=s.toks) (o:=.dK kvs) kp (Nat.le_refl _) ⟨z,?_,vs,rel,hd'⟩,rfl,q _ np⟩
 have hb:=Inv.big I
 exact beq_eq_false_iff_ne.mpr (Nat.ne_of_gt hb)
end
mutual
noncomputable def aW (K:Fg):Dk→Value→Bool
 | .str x,v=>(match v with | .str y _=>y == x | _=>false)
 | .tup ds,v=>(match v with
   | .ref b=>(match K.lookup b with
     | some o=>o.cls == .type "tuple" && (match o.data with | .seq its _=>decide (its.size≤1000) && fm K ds its.toList | _=>false)
     | none=>false)
   | _=>false)
 | _,_=>false
noncomputable def fm (K:Fg):List Dk→List Value→Bool
 | [],vs=>vs.isEmpty
 | d :: ds,vs=>(match vs with | v :: r=>aW K d v && fm K ds r | []=>false)
end
noncomputable def IsD (K:Fg) (d:Dk) (v:Value):Prop:=∃ x:V,ar x v∧∀ H:Hp,RK K H d x
mutual
theorem gQ {K:Fg}:∀ (d:Dk) (v:Value),aW K d v=true→IsD K d v
 | .str x,v,h=>by
   cases v with
   | str y t=>
     simp only [aW] at h
     exact ⟨.str x,⟨t,by rw [show y=x by simpa using h]⟩,fun H=>.s _⟩
   | _=>simp [aW] at h
 | .tup ds,v,h=>by
   cases v with
   | ref b=>
     simp only [aW] at h
     cases e:K.lookup b with
     | none=>simp only [e] at h;cases h
     | some o=>
       simp only [e] at h
       rw [Bool.and_eq_true_iff] at h
       cases d:o.data with
       | seq its n=>
         simp only [d] at h
         rw [Bool.and_eq_true_iff] at h
         obtain ⟨xs,rv,rk⟩:=nN ds its.toList h.2.2
         have lx:=rv.length
         have kt:Kt K b xs:=⟨o,its,n,e,by simpa using h.1,d,Nat.le_trans (of_decide_eq_true h.2.1) (Nat.le_of_lt (pN (Nat.le_refl _))),rv⟩
         exact ⟨.ref b,rfl,fun H=>RK.tup (.inr kt) (rk H)⟩
       | _=>simp [d] at h
   | _=>simp [aW] at h
 | .int _,v,h=>by simp [aW] at h
 | .bl _,v,h=>by simp [aW] at h
 | .non,v,h=>by simp [aW] at h
theorem nN {K:Fg}:∀ (ds:List Dk) (vs:List Value),fm K ds vs=true→∃ xs:List V,av xs vs∧∀ H:Hp,RKs K H ds xs
 | [],vs,h=>by
   cases vs with
   | nil=>exact ⟨[],.nil,fun _=>.nil⟩
   | cons _ _=>simp [fm] at h
 | d :: ds,vs,h=>by
   cases vs with
   | nil=>simp [fm] at h
   | cons v r=>
     simp only [fm] at h
     have h':=Bool.and_eq_true_iff.mp h
     obtain ⟨x,rx,kx⟩:=gQ d v h'.1
     obtain ⟨xs,rxs,kxs⟩:=nN ds r h'.2
     exact ⟨x :: xs,.cons rx rxs,fun H=>.cons (kx H) (kxs H)⟩
end
theorem nH {prog:Program} {w:World} {A:Around} {E:Value→Shared→Prop} {s:Shared} {δ:Type} {R:δ→Value→Prop} {a:Addr} {D:List (Str×δ)} {z:Str} {tz:Tok} {Q:Option Value→Shared→Prop}
 (T:KTD.TabOf R s.heap a D) (hat:KTD.datumAt z D=none) (h:Q none { s with toks:=s.toks+1 }):wpAny (model prog w) A (dictGet a (.str z tz)) Q E s:=by
 obtain ⟨_,o,es,ep,ho,_,hd,hr⟩:=T
 have hv:=hr.find_none hat
 have all:(es.all fun e=>isExactStrKey e.key)=true:=by
  obtain ⟨l⟩:=es
  simpa using hr.exact
 have hq:Q (findBy (fun k v=>v.isStr k) es z) { s with toks:=s.toks+1 }:=by
  rw [show findBy (fun k v=>v.isStr k) es z=none by obtain ⟨l⟩:=es;simpa [findBy] using hv]
  exact h
 rw [findBy_of_findIdx?] at hq
 unfold dictGet
 refine wpAny_holding (wpAny_bind (wpAny_pyHash_str (wpAny_bind (KTD.kt_dictFind_strs (s:={ s with toks:=s.toks+1 }) ho hd all ?_))))
 cases hi:es.findIdx? fun e=>e.key.isStr z with
 | none=>
   rw [hi] at hq
   exact wpAny_pure hq
 | some i=>
   rw [hi] at hq
   exact wpAny_bind (wpAny_dictEntries (s:={ s with toks:=s.toks+1 }) ho hd (wpAny_pure hq))
section
variable {X:Cx}
noncomputable def AI (K:Fg) (a:Addr) (D:List (Str×Dk)):R2:=fun x y H Q=>x = .ref a∧∃ z d,y = .str z∧KTD.datumAt z D=some d∧∀ v,(∀ H':Hp,RK K H' d v)→Q v H
theorem u4 {x:Str} {p pos:Pos} {b:Expr} {tb:TE} {a:Addr} {D:List (Str×Dk)} (hg:Gl X x) (hm:X.mg x=some (.ref a)) (hK:KTD.tabLook (aW X.K) (fun b=>X.K.lookup b) a D=true) (hb:PE X b tb) (hs:eg b)
 (hd:(x == ("__debug__":Str))=false:=by decide) (hl:∀ r,letTemporaryGo (.Name x p) (.ref a) r=pure ():=by intro _;rfl):PE X (.Subscript (.Name x p) b pos) (tOp (AI X.K a D) (tC (.ref a)) tb):=by
 intro pins s σ H Q I h
 refine Subscript_ (tR (jV hg hm (v:=.ref a) rfl hd) hb I h fun v u s2 x' y H2 I2 rx ry q=>?_)
 obtain ⟨e,z,d,e',hat,q⟩:=q
 subst e e'
 cases rx
 obtain ⟨tz,e⟩:=ry
 subst e
 have T:KTD.TabOf (IsD X.K) s2.heap a D:=KTD.tab_of_look gQ (fun b o e=>I2.kIn b o e) hK
 have ty:s2.TypeIs (.ref a) "dict":=by obtain ⟨_,o,_,_,ho,hc,_⟩:=T;exact ⟨o,ho,hc.1⟩
 refine subscriptTail_builtin ty slot_dict_getitem.lookup ?_ (hs _ _) hl
 unfold getItem
 refine wpAny_holding (wpAny_bind (wpAny_sequenceKey ty (by decide) (wpAny_bind (wpAny_callSpecial?_slot (name:=Str.ofString "__getitem__") ty slot_dict_getitem (wpAny_call_entry slot_dict_getitem ty entry_dict_getitem ?_ (args_dict_getitem _ _))))))
 show wpAny _ _ (dictGet a (.str z tz) >>= _) _ _ s2
 refine wpAny_bind (l5 T hat fun v hv=>wpAny_pure ⟨v,rfl,wpAny_pure ?_⟩)
 obtain ⟨y,ry,rk⟩:=hv
 exact ⟨y,H2,I2.tok _,ry,q y rk⟩
noncomputable def AY (D:List Str) (te:TE):TE:=fun σ H Q=>te σ H fun y H1=>∃ z,y = .str z∧Q (.bl (decide (z∈D))) H1
theorem ff {δ:Type} {z:Str}:∀ {D:List (Str×δ)},(KTD.datumAt z D).isSome=decide (z∈D.map (·.1))
 | []=>rfl
 | (x,d) :: r=>by
   have ih:=ff (z:=z) (D:=r)
   rw [KTD.datumAt]
   by_cases c:z=x
   ·simp [c]
   ·simp [c,ih]
theorem rW {x:Str} {p:Pos} {b:Expr} {tb:TE} {a:Addr} {D:List (Str×Dk)} (hg:Gl X x) (hm:X.mg x=some (.ref a)) (hK:KTD.tabLook (aW X.K) (fun b=>X.K.lookup b) a D=true) (hb:PE X b tb) (hd:(x == ("__debug__":Str))=false:=by decide):PC X .In b (.Name x p) (AY (D.map (·.1)) tb):=by
 intro pins s σ H Q I h
 refine thn (hb pins s σ H _ I h) fun iv s1 ⟨y,H1,I1,ry,z,ez,q⟩=>?_
 subst ez
 obtain ⟨tz,rfl⟩:=ry
 refine cG I1 hg hm ?_ hd
 have T:KTD.TabOf (IsD X.K) s1.heap a D:=KTD.tab_of_look gQ (fun b o e=>I1.kIn b o e) hK
 have ty:s1.TypeIs (.ref a) "dict":=by obtain ⟨_,o,_,_,ho,hc,_⟩:=T;exact ⟨o,ho,hc.1⟩
 have nsm:=T.1
 show wpAny _ _ (do return Value.bool (← contains (.ref a) (.str z tz))) _ _ s1
 refine wpAny_bind ?_
 unfold contains
 refine wpAny_holding ?_
 refine wpAny_bind (wpAny_specialOf ty slot_dict_contains.lookup ?_)
 show wpAny _ _ (if (some (Value.builtin "dict.__contains__") == some Value.none)=true then _ else _) _ _ s1
 rw [if_neg (by rw [beq_builtin_none];exact Bool.false_ne_true)]
 refine wpAny_bind (wpAny_callSpecialUnlessNone?_slot (name:=Str.ofString "__contains__") ty slot_dict_contains (wpAny_call_entry slot_dict_contains ty entry_dict_contains ?_ (args_dict_contains _ _)))
 show wpAny _ _ (dictGet a (.str z tz) >>= _) _ _ s1
 have em:=ff (z:=z) (D:=D)
 cases hat:KTD.datumAt z D with
 | some d=>
   rw [hat] at em
   rw [← em] at q
   refine wpAny_bind (l5 T hat fun v _=>?_)
   show wpAny _ _ (ret (.bool true)) _ _ _
   exact wpAny_pure ⟨_,rfl,wpAny_truthy_bool (wpAny_pure ⟨.bl true,H1,I1.tok _,rfl,q⟩)⟩
 | none=>
   rw [hat] at em
   rw [← em] at q
   refine wpAny_bind (nH T hat ?_)
   show wpAny _ _ (Builtin.Dict.pendingKey? a (.str z tz) >>= _) _ _ _
   exact wpAny_bind (wpAny_pendingKey_other nsm (wpAny_pure ⟨_,rfl,wpAny_truthy_bool (wpAny_pure ⟨.bl false,H1,I1.tok _,rfl,q⟩)⟩))
end
end L2.Bk
end
section
namespace L2.Ex
open L2.Bw L2.Bk PySem.W
theorem tT {P:Program} {w:World} {K:Fg} {mg:Str→Option Value} {base:Heap} {k:Nat} {f:Addr} {fd:FuncData} {ps:List Str} {sp:Sp} (F:aR P w K mg base (CXF P w) k f fd ps sp) :
 aR P w K mg base CX0 k f fd ps (fun vs H Q _=>sp vs H Q fun _ _ _=>False):=by
 refine ⟨fun vs H Q E h=>F.len vs H Q _ h,fun A outer s H args us vs Q E hr he hb hv hs=>codeAny_mono (F.run A outer s H args us vs Q _ hr he hb hv hs) fun r s' z=>?_⟩
 cases r with
 | ok fl=>cases fl <;> exact z
 | error e=>
   obtain ⟨_,_,_,_,_,_,_,_,_,_,_,_,_,_,_,z⟩:=z
   exact z.elim
end L2.Ex
end
section
namespace L2.Ev
inductive D where
 | non | bl (b:Bool) | int (i:Int) | str (x:Str) | tup (l:List D) | lst (l:List D) | dic (k:List Key) (l:List D) | ins (c:Nat) (l:List D) | ref (n:Nat)
inductive O where
 | lst (l:List D) | dic (k:List Key) (l:List D) | ins (c:Nat) (l:List D)
inductive Op where
 | add | sub | mul | fdiv | mod | pow | shl | shr | band | bxor | eq | ne | lt | le | gt | ge | isin | notin
 deriving DecidableEq
inductive Bi where
 | len | tuple | list | all | max0 | sum | abs | str | int | range1 | range2 | zip2 | zip3 | enum | enum2 | rev | dict | max2 | min2 | isTup | isStr | isInt | isBool | isLst | isDic
 deriving DecidableEq
inductive E where
 | v (i:Nat) | c (d:D) | g (j:Nat) | op (o:Op) (a b:E) | isN (a:E) | isNN (a:E) | neg (a:E) | not (a:E) | and (a b:E) | or (a b:E) | ite (c a b:E)
 | chain (o p:Op) (a b c:E)
 | ix (a b:E) | sl (a lo hi:E) | fld (a:E) (f:Nat) | tup (es:E) | lst (es:E) | dic (es:E) | nil | cons (a es:E)
 | call (j:Nat) (es:E) | mth (c j:Nat) (a es:E) | new (j:Nat) (es:E) | bi (b:Bi) (es:E) | join (x:Str) (a:E) | get (a b c:E) | index (a b:E) | isX (a:E) (js:List Nat)
 | lc (t:List Nat) (one:Bool) (it elt cond:E)
 | tab (j:Nat) (e:E) | tabin (j:Nat) (e:E)
 | newl (es:E)
 | sl3 (a lo st:E) | tget (j:Nat) (e d:E) | newd (j:Nat) (es:E) | fmt (x:Str) (a:E) (y:Str) | dicc (ks:List Str) (es:E)
 | tand (a b:E) | tor (a b:E) | tnot (a:E) | tv (a:E) | it (b:Bi) (es:E) | itv (a:E)
inductive S where
 | skip | seq (a b:S) | set (i:Nat) (e:E) | setT (l:List Nat) (e:E) | setR (i:Nat) (es:E) | ret (e:E) | ifs (c:E) (a b:S) | drop (e:E)
 | app (i:Nat) (e:E) | ext (i:Nat) (e:E) | put (a b e:E) | fld (a:E) (f:Nat) (e:E) | aug (a:E) (f:Nat) (o:Op) (e:E) | fapp (a:E) (f:Nat) (e:E)
 | for_ (t:List Nat) (one:Bool) (it:E) (b:S) | whl (c:E) (b:S) | rais (j:Nat) (es:E) | try_ (a:S) (hs:S) | hand (j:Nat) (i:Option Nat) (b rest:S)
noncomputable def fl:D→Bool
 | .non=>true | .bl _=>true | .int _=>true | .str _=>true | _=>false
noncomputable def eqf:D→D→Bool
 | .non,.non=>true
 | .bl a,.bl b=>a == b
 | .bl a,.int b=>(if a then 1 else 0) == b
 | .int a,.int b=>a == b
 | .int a,.bl b=>a == (if b then 1 else 0)
 | .str a,.str b=>a == b
 | _,_=>false
noncomputable def sh:D→Nat
 | .non=>0 | .bl _=>0 | .int _=>0 | .str _=>0 | .tup _=>1 | .lst _=>2 | _=>3
noncomputable def eq0 (d e:D):Option Bool:=
 if sh d=3∨sh e=3 then none else if sh d=0∧sh e=0 then some (eqf d e) else if sh d=sh e then none else some false
noncomputable def c7 (f:D→D→Option Bool):List D→List D→Option Bool
 | d :: a,e :: b=>(match f d e with | none=>none | some x=>(c7 f a b).map (x && ·))
 | _,_=>some true
noncomputable def eqv:Nat→D→D→Option Bool
 | 0,d,e=>eq0 d e
 | n+1,.tup a,.tup b=>(c7 (eqv n) a b).map (· && a.length == b.length)
 | n+1,.lst a,.lst b=>if a.length=b.length then c7 (eqv n) a b else some false
 | _+1,d,e=>eq0 d e
structure Fn where
 np:Nat
 ns:Nat
 body:S
structure Cl where
 what:Nat
 at_:List Nat
 init:Nat
 me:List (Nat×Nat)
 sup:List Nat
 chk:List Nat:=[]
noncomputable def toD:L2.Bk.Dk→D
 | .non=>.non
 | .int i=>.int i
 | .bl b=>.bl b
 | .str x=>.str x
 | .tup l=>.tup (toDs l)
where toDs:List L2.Bk.Dk→List D
 | []=>[]
 | d :: r=>toD d :: toDs r
structure Gm where
 gl:List L2.Bk.Dk
 tb:List (List (Str×L2.Bk.Dk))
 fn:List Fn
 cl:List Cl
structure Sta where
 env:List (Option D)
 ow:List Nat
 st:List O
inductive Out (α:Type) where
 | ok (a:α) (s:Sta) | exc (c:Nat) (l:List D) (s:Sta) | bad
inductive Res where
 | ok (d:D) (st:List O) | exc (c:Nat) (l:List D) (st:List O) | bad
inductive aw where
 | nx (s:Sta) | rt (d:D) (s:Sta) | exc (c:Nat) (l:List D) (s:Sta) | bad
noncomputable def Out.bind {α β:Type} (x:Out α) (f:α→Sta→Out β):Out β:=match x with
 | .ok a s=>f a s
 | .exc c l s=>.exc c l s
 | .bad=>.bad
noncomputable def Out.of {α:Type} (s:Sta):Option α→Out α
 | some a=>.ok a s
 | none=>.bad
noncomputable def Out.go {α:Type} (x:Out α) (f:α→Sta→aw):aw:=match x with
 | .ok a s=>f a s
 | .exc c l s=>.exc c l s
 | .bad=>.bad
noncomputable def aw.go (x:aw) (f:Sta→aw):aw:=match x with
 | .nx s=>f s
 | y=>y
noncomputable def dN:D→Bool
 | .non=>true | _=>false
noncomputable def un (s:Sta) (i:Nat):Sta:=⟨s.env,s.ow.filter (· != i),s.st⟩
noncomputable def look (st:List O):D→D
 | .ref n=>(match st[n]? with | some (.lst l)=>.lst l | some (.dic k l)=>.dic k l | _=>.ref n)
 | d=>d
noncomputable def aM:D→Option Key
 | .int i=>some (.inl i)
 | .str x=>some (.inr x)
 | _=>none
noncomputable def cP:List Key→List D→Key→Option D
 | k :: ks,d :: ds,x=>if k=x then some d else cP ks ds x
 | _,_,_=>none
noncomputable def lw:List Key→List D→Key→D→List D
 | k :: ks,d :: ds,x,e=>(if k=x then e else d) :: lw ks ds x e
 | _,ds,_,_=>ds
noncomputable def bz (ks:List Key) (ds:List D) (x:Key) (e:D):List Key×List D:=if ks.any (fun k=>decide (k=x))=true then (ks,lw ks ds x e) else (ks ++ [x],ds ++ [e])
noncomputable def inD (d:D):List D→Option Bool
 | []=>some false
 | e :: r=>match eqv 55 e d with | none=>none | some b=>(inD d r).map (b || ·)
noncomputable def iH (n:Nat) (d:D):Option D:=if n≤100000 then some d else none
noncomputable def opI (o:Op) (i j:Int):Option D:=match o with
 | .add=>some (.int (i+j))
 | .sub=>some (.int (i - j))
 | .mul=>if ((-(2 ^ 64)<i∧i<2 ^ 64)∨(-(2 ^ 64)<j∧j<2 ^ 64))∨(i.natAbs<2 ^ 400∧j.natAbs<2 ^ 400) then some (.int (i * j)) else none
 | .fdiv=>if (0<j∧j<1073741824)∨j=10 ^ 20 then some (.int (i / j)) else none
 | .mod=>if 0<j then some (.int (i % j)) else none
 | .pow=>if 0≤j∧j≤1000000∧i.natAbs<2 ^ 64 then some (.int (i ^ j.toNat)) else none
 | .shl=>if 0≤j∧j≤1000000∧i.natAbs<2 ^ 64 then some (.int (i * 2 ^ j.toNat)) else none
 | .shr=>if 0≤j then some (.int (i / 2 ^ j.toNat)) else none
 | .band=>some (.int (Builtin.bitAnd i j))
 | .bxor=>some (.int (Builtin.bitXor i j))
 | .lt=>some (.bl (decide (i<j)))
 | .le=>some (.bl (decide (i≤j)))
 | .gt=>some (.bl (decide (j<i)))
 | .ge=>some (.bl (decide (j≤i)))
 | _=>none
noncomputable def opD (o:Op) (a b:D):Option D:=match o with
 | .eq=>(eqv 55 a b).map .bl
 | .ne=>(eqv 55 a b).map fun x=>.bl (!x)
 | .isin=>(match b with | .lst l=>(inD a l).map .bl | .tup l=>(inD a l).map .bl | .dic ks ds=>(aM a).map fun k=>.bl (cP ks ds k).isSome | _=>none)
 | .notin=>(match b with | .lst l=>(inD a l).map fun x=>.bl (!x) | .tup l=>(inD a l).map fun x=>.bl (!x) | .dic ks ds=>(aM a).map fun k=>.bl (!(cP ks ds k).isSome) | _=>none)
 | _=>match a,b with
   | .int i,.int j=>opI o i j
   | .str x,.str y=>if o = .add then iH (x.length+y.length) (.str (x ++ y)) else none
   | .tup x,.tup y=>if o = .add then iH (x.length+y.length) (.tup (x ++ y)) else none
   | .lst x,.lst y=>if o = .add then iH (x.length+y.length) (.lst (x ++ y)) else none
   | _,_=>none
noncomputable def tm:D→Option Bool
 | .bl b=>some b
 | .tup l=>some (!l.isEmpty)
 | .lst l=>some (!l.isEmpty)
 | .int i=>some (i != 0)
 | .non=>some false
 | _=>none
noncomputable def ixD (a b:D):Option D:=match a,b with
 | .tup l,.int i=>atI l i
 | .lst l,.int i=>atI l i
 | .str x,.int i=>if x.length≤100000 then (atI x.cps.toList i).map fun c=>.str ⟨#[c]⟩ else none
 | .dic ks ds,k=>(aM k).bind fun k=>cP ks ds k
 | _,_=>none
noncomputable def oZ (xs:List D) (lo hi:Option Int):List D:=(xs.drop (HT.sIx xs.length 0 lo)).take (HT.sIx xs.length xs.length hi - HT.sIx xs.length 0 lo)
noncomputable def slO (a:D) (l h:Option Int):Option D:=match a with
 | .tup x=>some (.tup (oZ x l h))
 | .lst x=>some (.lst (oZ x l h))
 | .str x=>if x.length≤100000 then some (.str (Txt.slice x l h)) else none
 | _=>none
noncomputable def Az {α:Type} (xs:List α) (lo:Option Int) (st:Int):List α:=(sliceRange (sliceBounds lo none (some st) xs.length).1 (sliceBounds lo none (some st) xs.length).2.1 (sliceBounds lo none (some st) xs.length).2.2).filterMap (xs[·]?)
noncomputable def pM (a:D) (l st:Option Int):Option D:=match a,st with
 | .lst x,some k=>if k=0 then none else some (.lst (Az x l k))
 | _,_=>none
noncomputable def isDic:D→Bool
 | .dic _ _=>true
 | _=>false
noncomputable def bp:E→Bool
 | .nil=>true
 | _=>false
noncomputable def toI (d:D) (s:Sta):Out (Option Int):=match d with | .int i=>.ok (some i) s | _=>.bad
noncomputable def l8:List D→Option (List Int)
 | []=>some []
 | .int i :: r=>(l8 r).map (i :: ·)
 | _=>none
noncomputable def vY:List D→Option (List Bool)
 | []=>some []
 | .bl i :: r=>(vY r).map (i :: ·)
 | _=>none
noncomputable def cO:List D→Option (List Str)
 | []=>some []
 | .str i :: r=>(cO r).map (i :: ·)
 | _=>none
noncomputable def biD (b:Bi) (ds:List D):Option D:=match b,ds with
 | .len,[.tup l]=>some (.int l.length)
 | .len,[.lst l]=>some (.int l.length)
 | .len,[.str x]=>if x.length≤100000 then some (.int x.length) else none
 | .tuple,[.lst l]=>some (.tup l)
 | .tuple,[.tup l]=>some (.tup l)
 | .list,[.tup l]=>some (.lst l)
 | .list,[.lst l]=>some (.lst l)
 | .rev,[.lst l]=>some (.lst l.reverse)
 | .all,[.lst l]=>(vY l).map fun bs=>.bl (bs.all id)
 | .max0,[.lst l,.int d]=>(l8 l).map fun ns=>.int (L2.Bw.maxD d ns)
 | .sum,[.lst l]=>(l8 l).map fun ns=>.int (L2.Bk.sumI ns)
 | .abs,[.int i]=>some (.int (if i<0 then -i else i))
 | .str,[.int i]=>if i.natAbs.log2<1920 then some (.str (Str.ofString (toString i))) else none
 | .int,[.int i]=>some (.int i)
 | .int,[.bl k]=>some (.int (if k then 1 else 0))
 | .dict,[.dic k l]=>some (.dic k l)
 | .max2,[.int i,.int j]=>some (.int (if j>i then j else i))
 | .min2,[.int i,.int j]=>some (.int (if j<i then j else i))
 | .isTup,[d]=>(match d with | .tup _=>some (.bl true) | .ref _=>none | .ins _ _=>none | _=>some (.bl false))
 | .isStr,[d]=>(match d with | .str _=>some (.bl true) | .ref _=>none | .ins _ _=>none | _=>some (.bl false))
 | .isBool,[d]=>(match d with | .bl _=>some (.bl true) | .ref _=>none | .ins _ _=>none | _=>some (.bl false))
 | .isInt,[d]=>(match d with | .bl _=>some (.bl true) | .int _=>some (.bl true) | .ref _=>none | .ins _ _=>none | _=>some (.bl false))
 | .isLst,[d]=>(match d with | .lst _=>some (.bl true) | .ref _=>none | .ins _ _=>none | _=>some (.bl false))
 | .isDic,[d]=>(match d with | .dic _ _=>some (.bl true) | .ref _=>none | .ins _ _=>none | _=>some (.bl false))
 | _,_=>none
noncomputable def mJ (lo:Int) (n:Nat):List D:=(List.range n).map fun (i:Nat)=>.int (lo+i)
noncomputable def d8:List D→List D→List D
 | a :: r,b :: q=>.tup [a,b] :: d8 r q
 | _,_=>[]
noncomputable def wH:List D→List D→List D→List D
 | a :: r,b :: q,c :: p=>.tup [a,b,c] :: wH r q p
 | _,_,_=>[]
noncomputable def bJ:Int→List D→List D
 | i,a :: r=>.tup [.int i,a] :: bJ (i+1) r
 | _,[]=>[]
noncomputable def itD (b:Bi) (ds:List D):Option (List D):=match b,ds with
 | .range1,[.int j]=>if -(2 ^ 62)≤j∧j<2 ^ 62 then some (mJ 0 j.toNat) else none
 | .range2,[.int i,.int j]=>if (-(2 ^ 62)≤i∧i<2 ^ 62∧-(2 ^ 62)≤j∧j<2 ^ 62) then some (mJ i (j - i).toNat) else none
 | .zip2,[.lst x,.lst y]=>some (d8 x y)
 | .zip2,[.tup x,.tup y]=>if x.length≤y.length then some (d8 x y) else none
 | .zip3,[.tup x,.lst y,.lst z]=>if x.length≤y.length∧x.length≤z.length then some (wH x y z) else none
 | .enum,[.lst x]=>some (bJ 0 x)
 | .enum2,[.tup x,.int n]=>if Builtin.SmallTypes.fitsIndex n=true then some (bJ n x) else none
 | _,_=>none
noncomputable def kF (Γ:Gm) (st:List O) (d:D) (f:Nat):Option D:=match d with
 | .ins c l=>(Γ.cl[c]?).bind fun k=>l[k.at_.idxOf f]?
 | .ref n=>(match st[n]? with | some (.ins c l)=>(Γ.cl[c]?).bind fun k=>l[k.at_.idxOf f]? | _=>none)
 | _=>none
noncomputable def aD (t:List Nat) (one:Bool) (d:D) (env:List (Option D)):Option (List (Option D)):=
 if one then (match t with | [i]=>some (env.set i (some d)) | _=>none)
 else (match d with
  | .tup l=>if l.length=t.length then some ((t.zip l).foldl (fun e p=>e.set p.1 (some p.2)) env) else none
  | _=>none)
noncomputable def noX {α:Type}:Out α→Out α
 | .exc _ _ _=>.bad
 | o=>o
noncomputable def bX (f:D→Sta→Out (Option D)):List D→List D→Sta→Out D
 | [],acc,s=>.ok (.lst acc) s
 | d :: r,acc,s=>(f d s).bind fun o s'=>match o with
   | some e=>if acc.length<100000 then bX f r (acc ++ [e]) s' else .bad
   | none=>bX f r acc s'
mutual
noncomputable def noL:D→Bool
 | .lst _=>false
 | .tup l=>lb l
 | .dic _ l=>lb l
 | .ins _ l=>lb l
 | _=>true
noncomputable def lb:List D→Bool
 | []=>true
 | d :: r=>noL d && lb r
end
noncomputable def uH:O→Bool
 | .lst _=>false
 | .dic _ l=>lb l
 | .ins _ l=>lb l
noncomputable def cV:E→List Nat
 | .cons (.v i) r=>i :: cV r
 | .cons _ r=>cV r
 | _=>[]
noncomputable def isLst:Option (Option D)→Bool
 | some (some (.lst _))=>true
 | _=>false
noncomputable def aft (es:E) (s:Sta) (d:D) (st:List O):Sta:=⟨s.env,s.ow.filter fun i=>!(cV es).contains i || (isLst s.env[i]? && (noL d && st.all uH)),st⟩
noncomputable def drp (es:E) (s:Sta) (st:List O):Sta:=⟨s.env,s.ow.filter fun i=>!(cV es).contains i,st⟩
noncomputable def qt:List D→Option (List Key×List D)
 | []=>some ([],[])
 | [_]=>none
 | k :: d :: r=>(aM k).bind fun k=>(qt r).bind fun p=>if p.1.contains k then none else some (k :: p.1,d :: p.2)
noncomputable def qU (x:Str):List D→Nat→Option Nat
 | .str y :: r,j=>if y=x then some j else qU x r (j+1)
 | _,_=>none
noncomputable def nQ (x:Str) (y:D):Option D:=match y with
 | .lst l=>(cO l).bind fun ss=>if x.length≤64∧(ss.map (·.length)).sum≤100000∧ss.length≤1000 then some (.str (Txt.join x ss)) else none
 | _=>none
noncomputable def pf (x:Str) (v:D) (y:Str):Option D:=match v with
 | .str z=>if x.length≤1000∧z.length≤100000∧y.length≤1000 then some (.str (((Str.empty ++ x) ++ z) ++ y)) else none
 | _=>none
noncomputable def kA (ks:List Str) (l:List D):Option D:=if ks.length=l.length∧ks.Nodup∧ks.length≤15∧ks≠[] then some (.dic (ks.map .inr) l) else none
section
variable (Γ:Gm) (cal cal1:Nat→List D→List O→Res)
noncomputable def fW (es:E) (j:Nat) (ds:List D) (s:Sta):Out D:=match cal j ds s.st with
 | .ok d st=>.ok d (aft es s d st)
 | .exc c l st=>.exc c l (drp es s st)
 | .bad=>.bad
mutual
noncomputable def ev (br:Bool):E→Sta→Out D
 | .v i,s=>(match s.env[i]? with | some (some d)=>.ok d (if br then s else un s i) | _=>.bad)
 | .c d,s=>.ok d s
 | .g j,s=>.of s (Γ.gl[j]?.map toD)
 | .op o a b,s=>(ev true a s).bind fun x s=>(ev true b s).bind fun y s=>.of s (opD o (look s.st x) (look s.st y))
 | .isN a,s=>(ev true a s).bind fun x s=>.ok (.bl (dN x)) s
 | .isNN a,s=>(ev true a s).bind fun x s=>.ok (.bl (!dN x)) s
 | .neg a,s=>(ev true a s).bind fun x s=>(match x with | .int i=>.ok (.int (-i)) s | _=>.bad)
 | .not a,s=>(ev true a s).bind fun x s=>(match x with | .bl b=>.ok (.bl (!b)) s | _=>.bad)
 | .and a b,s=>(ev false a s).bind fun x s=>(match x with | .bl true=>ev false b s | .bl false=>.ok (.bl false) s | _=>.bad)
 | .or a b,s=>(ev false a s).bind fun x s=>(match x with | .bl false=>ev false b s | .bl true=>.ok (.bl true) s | _=>.bad)
 | .ite c a b,s=>(ev true c s).bind fun x s=>(match x with | .bl true=>ev false a s | .bl false=>ev false b s | _=>.bad)
 | .chain o p a b c,s=>(ev true a s).bind fun x s=>(ev true b s).bind fun y s=>(match opD o (look s.st x) (look s.st y) with
   | some (.bl true)=>(ev true c s).bind fun z s=>.of s (opD p (look s.st y) (look s.st z))
   | some (.bl false)=>.ok (.bl false) s
   | _=>.bad)
 | .ix a b,s=>(ev true a s).bind fun x s=>(ev true b s).bind fun y s=>.of s (ixD (look s.st x) y)
 | .sl a lo hi,s=>(ev true a s).bind fun x s=>(if bp lo then .ok none s else (ev true lo s).bind toI).bind fun l s=>(if bp hi then .ok none s else (ev true hi s).bind toI).bind fun h s=>.of s (slO (look s.st x) l h)
 | .sl3 a lo st,s=>(ev true a s).bind fun x s=>(if bp lo then .ok none s else (ev true lo s).bind toI).bind fun l s=>(if bp st then .ok none s else (ev true st s).bind toI).bind fun z s=>.of s (pM (look s.st x) l z)
 | .tget j e d,s=>(ev true e s).bind fun x s=>(ev false d s).bind fun z s=>(match Γ.tb[j]?,x with | some t,.str k=>.ok (((KTD.datumAt k t).map toD).getD z) s | _,_=>.bad)
 | .newd j es,s=>(evs false es s).bind fun l s=>.of s ((Γ.cl[j]?).bind fun k=>if k.what=1∧l.length=k.at_.length then some (D.ins j l) else none)
 | .fld a f,s=>(ev true a s).bind fun x s=>.of s (kF Γ s.st x f)
 | .tup es,s=>(evs false es s).bind fun l s=>if l.length≤100000 then .ok (.tup l) s else .bad
 | .lst es,s=>(evs false es s).bind fun l s=>if l.length≤100000 then .ok (.lst l) s else .bad
 | .newl es,s=>(evs false es s).bind fun l s=>if l.length≤100000 then .ok (.ref s.st.length) ⟨s.env,s.ow,s.st ++ [.lst l]⟩ else .bad
 | .call j es,s=>(evs true es s).bind fun l s=>fW cal es j l s
 | .mth c j a es,s=>(ev true a s).bind fun x s=>(match x with
   | .ref p=>(match s.st[p]? with
     | some (.ins c' _)=>if c'=c then (evs true es s).bind fun l s=>fW cal es j (x :: l) s else .bad
     | _=>.bad)
   | _=>.bad)
 | .bi b es,s=>(evs true es s).bind fun l s=>.of s (biD b (l.map (look s.st)))
 | .tab j e,s=>(ev true e s).bind fun x s=>(match Γ.tb[j]?,x with | some t,.str k=>.of s ((KTD.datumAt k t).map toD) | _,_=>.bad)
 | .tabin j e,s=>(ev true e s).bind fun x s=>(match Γ.tb[j]?,x with | some t,.str k=>.ok (.bl (KTD.datumAt k t).isSome) s | _,_=>.bad)
 | .lc t one it elt cond,s=>(ev false it s).bind fun x s=>(match x with
   | .lst ds=>(bX (fun d s'=>(match aD t one d s'.env with
     | some env=>(noX (ev true cond ⟨env,[],s'.st⟩)).bind fun b s2=>(match b with
       | .bl true=>(noX (ev false elt s2)).bind fun e s3=>.ok (some e) ⟨s3.env,[],s3.st⟩
       | .bl false=>.ok none ⟨s2.env,[],s2.st⟩
       | _=>.bad)
     | none=>.bad)) ds [] ⟨List.replicate t.length none ++ s.env,[],s.st⟩).bind fun d s'=>.ok d ⟨s.env,[],s'.st⟩
   | _=>.bad)
 | .tand a b,s=>(ev true a s).bind fun x s=>(match x with | .bl true=>ev true b s | .bl false=>.ok (.bl false) s | _=>.bad)
 | .tor a b,s=>(ev true a s).bind fun x s=>(match x with | .bl true=>.ok (.bl true) s | .bl false=>ev true b s | _=>.bad)
 | .tnot a,s=>(ev true a s).bind fun x s=>(match x with | .bl b=>.ok (.bl (!b)) s | _=>.bad)
 | .tv a,s=>(ev true a s).bind fun x s=>.of s ((tm (look s.st x)).map .bl)
 | .it b es,s=>(evs false es s).bind fun l s=>.of s ((itD b l).map .lst)
 | .itv a,s=>(ev false a s).bind fun x s=>(match x with | .lst l=>.ok (.lst l) s | .tup l=>.ok (.lst l) s | _=>.bad)
 | .dic es,s=>(evs false es s).bind fun l s=>.of s ((qt l).map fun p=>.dic p.1 p.2)
 | .get a b c,s=>(ev true a s).bind fun x s=>if isDic (look s.st x)=true then (ev true b s).bind fun y s=>(ev false c s).bind fun z s=>(match look s.st x,aM y with
   | .dic ks ds,some k=>.ok ((cP ks ds k).getD z) s
   | _,_=>.bad) else .bad
 | .index a b,s=>(ev true a s).bind fun x s=>(ev true b s).bind fun y s=>(match look s.st x,y with
   | .tup l,.str k=>if l.length≤1000 then .of s ((qU k l 0).map fun j=>.int j) else .bad
   | .lst l,.str k=>if l.length≤1000 then .of s ((qU k l 0).map fun j=>.int j) else .bad
   | _,_=>.bad)
 | .join x a,s=>(ev true a s).bind fun y s=>.of s (nQ x (look s.st y))
 | .fmt x a y,s=>(ev true a s).bind fun v s=>.of s (pf x v y)
 | .dicc ks es,s=>(evs false es s).bind fun l s=>.of s (kA ks l)
 | .isX a js,s=>(ev true a s).bind fun x s=>(match x with
   | .ins c _=>.of s ((Γ.cl[c]?).map fun k=>.bl (js.any fun j=>c == j || k.sup.contains j))
   | _=>.bad)
 | .new j es,s=>(evs true es s).bind fun l s=>(match Γ.cl[j]? with
   | some k=>if k.what=1 then (if l.length=k.at_.length then .ok (.ins j l) (drp es s s.st) else .bad)
     else if k.what=0 then (match cal1 k.init (.ref s.st.length :: l) (s.st ++ [.ins j []]) with
      | .ok .non st=>.ok (.ref s.st.length) (aft es s .non st)
      | _=>.bad)
     else .bad
   | none=>.bad)
 | _,_=>.bad
noncomputable def evs (br:Bool):E→Sta→Out (List D)
 | .nil,s=>.ok [] s
 | .cons a r,s=>(ev br a s).bind fun x s=>(evs br r s).bind fun l s=>.ok (x :: l) s
 | _,_=>.bad
end
end
noncomputable def fresh:E→Bool
 | .lst _=>true | .lc ..=>true | .bi .list _=>true | .bi .rev _=>true | .bi .dict _=>true | .dic _=>true | _=>false
noncomputable def zW:D→Bool
 | .lst _=>true | .dic _ _=>true | _=>false
noncomputable def mL (s:Sta) (i:Nat) (d:D) (f:Bool):Sta:=⟨s.env.set i (some d),if f && zW d then i :: s.ow.filter (· != i) else s.ow.filter (· != i),s.st⟩
noncomputable def lC (l:List D) (i:Int) (d:D):Option (List D):=(ixN l.length i).map fun j=>l.set j d
noncomputable def fZ (o:O) (k d:D):Option O:=match o with
 | .lst l=>(match k with | .int i=>(lC l i d).map .lst | _=>none)
 | .dic ks ds=>(aM k).bind fun k=>if ks.length<100000 then some (.dic (bz ks ds k d).1 (bz ks ds k d).2) else none
 | _=>none
noncomputable def lq (o:D) (k d:D):Option D:=match o with
 | .lst l=>(match k with | .int i=>(lC l i d).map .lst | _=>none)
 | .dic ks ds=>(aM k).bind fun k=>if ks.length<100000 then some (.dic (bz ks ds k d).1 (bz ks ds k d).2) else none
 | _=>none
noncomputable def cn (Γ:Gm) (o:O) (f:Nat) (d:D):Option O:=match o with
 | .ins c l=>(Γ.cl[c]?).bind fun k=>if k.at_.length<1000 then (if k.at_.idxOf f<l.length then some (.ins c (l.set (k.at_.idxOf f) d)) else if k.at_.idxOf f=l.length∧k.at_.idxOf f<k.at_.length then some (.ins c (l ++ [d])) else none) else none
 | _=>none
noncomputable def sS:Option D→Bool
 | some (.int n)=>decide (0≤n) && decide (n<100000)
 | _=>false
noncomputable def jo (Γ:Gm) (j:Nat) (l:List D):Bool:=match Γ.cl[j]? with
 | some k=>l.length == k.at_.length && k.chk.all (fun i=>sS l[i]?) && decide (l.length≤1000) && !l.isEmpty
 | none=>false
noncomputable def bC (f:D→Sta→aw):List D→Sta→aw
 | [],s=>.nx s
 | d :: r,s=>(f d s).go fun s=>bC f r s
noncomputable def wG (c:Sta→Out D) (f:Sta→aw):Nat→Sta→aw
 | 0,_=>.bad
 | m+1,s=>(c s).go fun x s=>match x with | .bl true=>(f s).go fun s=>wG c f m s | .bl false=>.nx s | _=>.bad
section
variable (Γ:Gm) (cal cal1:Nat→List D→List O→Res)
noncomputable def exS:S→Sta→aw
 | .skip,s=>.nx s
 | .seq a b,s=>(exS a s).go fun s=>exS b s
 | .set i e,s=>(ev Γ cal cal1 false e s).go fun d s=>.nx (mL s i d (fresh e))
 | .setT l e,s=>(ev Γ cal cal1 false e s).go fun d s=>(match aD l false d s.env with | some env=>.nx ⟨env,s.ow.filter fun i=>!l.contains i,s.st⟩ | none=>.bad)
 | .setR i es,s=>(evs Γ cal cal1 false es s).go fun l s=>if l.length≤100000 then .nx ⟨s.env.set i (some (.ref s.st.length)),s.ow.filter (· != i),s.st ++ [.lst l]⟩ else .bad
 | .ret e,s=>(ev Γ cal cal1 false e s).go fun d s=>.rt d s
 | .ifs c a b,s=>(ev Γ cal cal1 true c s).go fun x s=>(match x with | .bl true=>exS a s | .bl false=>exS b s | _=>.bad)
 | .drop e,s=>(ev Γ cal cal1 false e s).go fun _ s=>.nx s
 | .app i e,s=>if s.ow.contains i && isLst s.env[i]? then (ev Γ cal cal1 false e s).go fun d s=>if s.ow.contains i then (match s.env[i]? with
  | some (some (.lst l))=>if l.length<100000 then .nx ⟨s.env.set i (some (.lst (l ++ [d]))),s.ow,s.st⟩ else .bad
  | _=>.bad) else .bad else .bad
 | .ext i e,s=>if s.ow.contains i && isLst s.env[i]? then (ev Γ cal cal1 false e s).go fun d s=>if s.ow.contains i then (match s.env[i]?,d with
  | some (some (.lst l)),.lst x=>if l.length+x.length≤100000 then .nx ⟨s.env.set i (some (.lst (l ++ x))),s.ow,s.st⟩ else .bad
  | _,_=>.bad) else .bad else .bad
 | .put (.v i) b e,s=>(ev Γ cal cal1 false e s).go fun d s=>(match s.env[i]? with
  | some (some x)=>(ev Γ cal cal1 true b s).go fun k s=>(match x with
    | .ref n=>(match (s.st[n]?).bind fun o=>fZ o k d with | some o=>.nx ⟨s.env,s.ow,s.st.set n o⟩ | none=>.bad)
    | x=>if s.ow.contains i then (match lq x k d with | some y=>.nx ⟨s.env.set i (some y),s.ow,s.st⟩ | none=>.bad) else .bad)
  | _=>.bad)
 | .put a b e,s=>(ev Γ cal cal1 false e s).go fun d s=>(ev Γ cal cal1 true a s).go fun x s=>(ev Γ cal cal1 true b s).go fun k s=>(match x with
  | .ref n=>(match (s.st[n]?).bind fun o=>fZ o k d with | some o=>.nx ⟨s.env,s.ow,s.st.set n o⟩ | none=>.bad)
  | _=>.bad)
 | .fld a f e,s=>(match e with
  | .lst .nil=>(ev Γ cal cal1 true a s).go fun x s=>(match x with
    | .ref n=>(match (s.st[n]?).bind fun o=>cn Γ o f (.ref s.st.length) with | some o=>.nx ⟨s.env,s.ow,(s.st ++ [O.lst []]).set n o⟩ | none=>.bad)
    | _=>.bad)
  | .dic .nil=>(ev Γ cal cal1 true a s).go fun x s=>(match x with
    | .ref n=>(match (s.st[n]?).bind fun o=>cn Γ o f (.ref s.st.length) with | some o=>.nx ⟨s.env,s.ow,(s.st ++ [O.dic [] []]).set n o⟩ | none=>.bad)
    | _=>.bad)
  | e=>(ev Γ cal cal1 false e s).go fun d s=>(ev Γ cal cal1 true a s).go fun x s=>(match x with
    | .ref n=>(match (s.st[n]?).bind fun o=>cn Γ o f d with | some o=>.nx ⟨s.env,s.ow,s.st.set n o⟩ | none=>.bad)
    | _=>.bad))
 | .aug a f o e,s=>(ev Γ cal cal1 true a s).go fun x s=>(match x with
  | .ref n=>(match kF Γ s.st x f with
    | some (.int i)=>(ev Γ cal cal1 false e s).go fun d s=>(match d with
      | .int j=>(match opI o i j,s.st[n]? with
        | some y,some ob=>(match cn Γ ob f y with | some ob=>.nx ⟨s.env,s.ow,s.st.set n ob⟩ | none=>.bad)
        | _,_=>.bad)
      | _=>.bad)
    | _=>.bad)
  | _=>.bad)
 | .fapp a f e,s=>(ev Γ cal cal1 true (.fld a f) s).go fun x s=>(ev Γ cal cal1 false e s).go fun d s=>(match x with
  | .ref n=>(match s.st[n]? with | some (.lst l)=>if l.length<100000 then .nx ⟨s.env,s.ow,s.st.set n (.lst (l ++ [d]))⟩ else .bad | _=>.bad)
  | _=>.bad)
 | .for_ t one it b,s=>(ev Γ cal cal1 false it s).go fun x s=>(match x with
  | .lst ds=>bC (fun d s=>match aD t one d s.env with | some env=>exS b ⟨env,s.ow.filter fun i=>!t.contains i,s.st⟩ | none=>.bad) ds s
  | _=>.bad)
 | .whl c b,s=>wG (ev Γ cal cal1 true c) (exS b) 100000 s
 | .rais j es,s=>(evs Γ cal cal1 false es s).go fun l s=>if jo Γ j l then .exc j l s else .bad
 | .try_ a hs,s=>(match exS a s with
  | .exc c l s'=>hnd hs c l s'
  | r=>r)
 | _,_=>.bad
where hnd:S→Nat→List D→Sta→aw
 | .hand j (some i) b _,c,l,s=>if ((Γ.cl[c]?).any fun k=>c == j || k.sup.contains j) then
  (match exS b ⟨s.env.set i (some (.ins c l)),s.ow.filter (· != i),s.st⟩ with
   | .nx s=>.nx ⟨s.env.set i none,s.ow.filter (· != i),s.st⟩
   | .rt d s=>.rt d s
   | _=>.bad) else .bad
 | _,_,_,_=>.bad
end
noncomputable def mK (Γ:Gm) (cal cal1:Nat→List D→List O→Res) (j:Nat) (ds:List D) (st:List O):Res:=match Γ.fn[j]? with
 | some f=>if ds.length=f.np then (match exS Γ cal cal1 f.body ⟨ds.map some ++ List.replicate (f.ns - f.np) none,[],st⟩ with
   | .nx s=>.ok .non s.st
   | .rt d s=>.ok d s.st
   | .exc c l s=>.exc c l s.st
   | .bad=>.bad) else .bad
 | none=>.bad
noncomputable def qj (Γ:Gm):Nat→(Nat→List D→List O→Res)×(Nat→List D→List O→Res)
 | 0=>(fun _ _ _=>.bad,fun _ _ _=>.bad)
 | n+1=>(mK Γ (qj Γ n).1 (qj Γ n).2,(qj Γ n).1)
noncomputable def ao (Γ:Gm) (n:Nat):Nat→List D→List O→Res:=(qj Γ n).1
noncomputable def aY (Γ:Gm) (n:Nat):Nat→List D→List O→Res:=(qj Γ n).2
end L2.Ev
end
section
namespace L2.Ev
open L2.Bw L2.Bk L2.Ex
structure CI where
 ad:Addr
 nm:List Str
structure Wd where
 K:Fg
 ci:List CI
 what:List Nat
noncomputable def aE (ks:List Key) (vs:List V):List (Key×V):=ks.zip vs
mutual
noncomputable def RD (W:Wd) (ρ:List Addr) (G:Hp):D→V→Prop
 | .non,v=>v = .non
 | .bl b,v=>v = .bl b
 | .int i,v=>v = .int i
 | .str x,v=>v = .str x
 | .tup ds,v=>∃ a vs,v = .ref a∧Tp W.K G a vs∧RDs W ρ G ds vs
 | .lst ds,v=>∃ a vs,v = .ref a∧Rd G a (.lst vs)∧RDs W ρ G ds vs
 | .dic ks ds,v=>∃ a vs,v = .ref a∧G a=some (.dK (aE ks vs))∧ks.length=ds.length∧RDs W ρ G ds vs
 | .ins c ds,v=>∃ a i vs,v = .ref a∧W.ci[c]? = some i∧ds.length≤i.nm.length ∧
  ((W.what[c]? = some 1∧∃ dx,G a=some (.ins i.ad dx (i.nm.zip vs)))∨(W.what[c]? = some 2∧∃ fr,((ds = []∧G a=some (XQ fr a i.ad none))∨∃ d,G a=some (XQ fr a i.ad (some d))∧G d=some (DO d (i.nm.zip vs)))))∧RDs W ρ G ds vs
 | .ref n,v=>∃ a,ρ[n]? = some a∧v = .ref a
noncomputable def RDs (W:Wd) (ρ:List Addr) (G:Hp):List D→List V→Prop
 | [],vs=>vs = []
 | d :: ds,vs=>∃ v r,vs=v :: r∧RD W ρ G d v∧RDs W ρ G ds r
end
noncomputable def Sub (G H:Hp):Prop:=∀ a o,G a=some o→H a=some o
theorem Sub.refl (G:Hp):Sub G G:=fun _ _ e=>e
theorem Sub.trans {G H I:Hp} (h:Sub G H) (i:Sub H I):Sub G I:=fun a o e=>i a o (h a o e)
section
variable {W:Wd} {ρ ρ':List Addr} {G G' H H':Hp}
theorem aA {K:Fg} (h:Sub G G') {a:Addr} {vs:List V} (t:Tp K G a vs):Tp K G' a vs:=t.elim (fun e=>.inl (h _ _ e)) .inr
theorem cM (h:Sub G G') {a:Addr} {u:HO} (t:Rd G a u):Rd G' a u:=t.elim (fun e=>.inl (h _ _ e)) fun ⟨o,e⟩=>.inr ⟨o,h _ _ e⟩
theorem gu (h:ρ <+: ρ') {n:Nat} {a:Addr} (e:ρ[n]? = some a):ρ'[n]? = some a:=by
 obtain ⟨t,rfl⟩:=h
 rw [List.getElem?_append_left (List.getElem?_eq_some_iff.mp e).1];exact e
mutual
theorem RD.mono (hp:ρ <+: ρ') (h:Sub G G'):∀ {d:D} {v:V},RD W ρ G d v→RD W ρ' G' d v
 | .non,_,e=>e
 | .bl _,_,e=>e
 | .int _,_,e=>e
 | .str _,_,e=>e
 | .tup _,_,⟨a,vs,e,t,r⟩=>⟨a,vs,e,aA h t,RDs.mono hp h r⟩
 | .lst _,_,⟨a,vs,e,t,r⟩=>⟨a,vs,e,cM h t,RDs.mono hp h r⟩
 | .dic _ _,_,⟨a,vs,e,t,l,r⟩=>⟨a,vs,e,h _ _ t,l,RDs.mono hp h r⟩
 | .ins _ _,_,⟨a,i,vs,e,hc,l,t,r⟩=>⟨a,i,vs,e,hc,l,t.elim (fun ⟨w,dx,q⟩=>.inl ⟨w,dx,h _ _ q⟩) (fun ⟨w,fr,q⟩=>.inr ⟨w,fr,q.elim (fun ⟨z,q⟩=>.inl ⟨z,h _ _ q⟩) fun ⟨d,q1,q2⟩=>.inr ⟨d,h _ _ q1,h _ _ q2⟩⟩),RDs.mono hp h r⟩
 | .ref _,_,⟨a,e,q⟩=>⟨a,gu hp e,q⟩
theorem RDs.mono (hp:ρ <+: ρ') (h:Sub G G'):∀ {ds:List D} {vs:List V},RDs W ρ G ds vs→RDs W ρ' G' ds vs
 | [],_,e=>e
 | _ :: _,_,⟨v,r,e,t,q⟩=>⟨v,r,e,RD.mono hp h t,RDs.mono hp h q⟩
end
theorem RDs.nil:RDs W ρ G [] []:=rfl
theorem RDs.cons {d:D} {ds:List D} {v:V} {vs:List V} (h:RD W ρ G d v) (t:RDs W ρ G ds vs):RDs W ρ G (d :: ds) (v :: vs):=⟨v,vs,rfl,h,t⟩
theorem RDs.len:∀ {ds:List D} {vs:List V},RDs W ρ G ds vs→ds.length=vs.length
 | [],_,h=>by cases (show _ = [] from h);rfl
 | d :: ds,vs,⟨v,r,e,_,t⟩=>by subst e;simp [RDs.len t]
theorem RDs.get:∀ {ds:List D} {vs:List V} {i:Nat} {d:D},RDs W ρ G ds vs→ds[i]? = some d→∃ v,vs[i]? = some v∧RD W ρ G d v
 | [],_,_,_,_,e=>by simp at e
 | d :: ds,vs,0,d',⟨v,r,e,h,_⟩,e'=>by subst e;simp at e';subst e';exact ⟨v,rfl,h⟩
 | d :: ds,vs,i+1,d',⟨v,r,e,_,t⟩,e'=>by
   subst e
   obtain ⟨u,h1,h2⟩:=RDs.get (i:=i) t (by simpa using e')
   exact ⟨u,by simpa using h1,h2⟩
theorem RDs.app:∀ {ds es:List D} {vs us:List V},RDs W ρ G ds vs→RDs W ρ G es us→RDs W ρ G (ds ++ es) (vs ++ us)
 | [],_,vs,_,h,t=>by cases (show vs = [] from h);exact t
 | d :: ds,es,vs,us,⟨v,r,e,h,t'⟩,t=>by subst e;exact .cons h (RDs.app t' t)
theorem RDs.drop:∀ {ds:List D} {vs:List V} (n:Nat),RDs W ρ G ds vs→RDs W ρ G (ds.drop n) (vs.drop n)
 | _,_,0,h=>h
 | [],vs,n+1,h=>by cases (show vs = [] from h);exact rfl
 | d :: ds,vs,n+1,⟨v,r,e,h,t⟩=>by subst e;exact RDs.drop n t
theorem RDs.take:∀ {ds:List D} {vs:List V} (n:Nat),RDs W ρ G ds vs→RDs W ρ G (ds.take n) (vs.take n)
 | _,_,0,_=>rfl
 | [],vs,n+1,h=>by cases (show vs = [] from h);exact rfl
 | d :: ds,vs,n+1,⟨v,r,e,h,t⟩=>by subst e;exact .cons h (RDs.take n t)
theorem RDs.set:∀ {ds:List D} {vs:List V} (n:Nat) {d:D} {v:V},RDs W ρ G ds vs→RD W ρ G d v→RDs W ρ G (ds.set n d) (vs.set n v)
 | [],vs,_,_,_,h,_=>by cases (show vs = [] from h);exact rfl
 | d :: ds,vs,0,_,_,⟨v,r,e,h,t⟩,q=>by subst e;exact .cons q t
 | d :: ds,vs,n+1,_,_,⟨v,r,e,h,t⟩,q=>by subst e;exact .cons h (RDs.set n t q)
end
noncomputable def ObR (W:Wd) (ρ:List Addr) (G H:Hp) (a:Addr):O→Prop
 | .lst ds=>∃ vs,H a=some (.lst vs)∧RDs W ρ G ds vs
 | .dic ks ds=>∃ vs,H a=some (.dK (aE ks vs))∧ks.length=ds.length∧RDs W ρ G ds vs
 | .ins c ds=>∃ i vs dx,W.ci[c]? = some i∧W.what[c]? = some 0∧ds.length≤i.nm.length∧H a=some (.ins i.ad dx (i.nm.zip vs))∧RDs W ρ G ds vs
noncomputable def OwR (W:Wd) (ρ:List Addr) (G H:Hp) (a:Addr):D→Prop
 | .lst ds=>∃ vs,H a=some (.lst vs)∧RDs W ρ G ds vs
 | .dic ks ds=>∃ vs,H a=some (.dK (aE ks vs))∧ks.length=ds.length∧RDs W ρ G ds vs
 | _=>False
noncomputable def adr (σ:St) (i:Nat):Option Addr:=match σ[i]? with
 | some (some (.ref a))=>some a
 | _=>none
noncomputable def Own (s:Sta) (σ:St) (a:Addr):Prop:=∃ i,i∈s.ow∧adr σ i=some a
structure Rep (W:Wd) (ρ:List Addr) (G:Hp) (s:Sta) (σ:St) (H:Hp):Prop where
 gh:Sub G H
 rl:ρ.length=s.st.length
 rn:ρ.Nodup
 rg:∀ a∈ρ,G a=none∧H a≠none
 ob:∀ (n:Nat) (o:O) (a:Addr),s.st[n]? = some o→ρ[n]? = some a→ObR W ρ G H a o
 el:s.env.length=σ.length
 en:∀ (i:Nat) (d:D),i ∉ s.ow→s.env[i]? = some (some d)→∃ v,σ[i]? = some (some v)∧RD W ρ G d v
 eo:∀ (i:Nat),i∈s.ow→∃ d a,s.env[i]? = some (some d)∧adr σ i=some a∧a ∉ ρ∧G a=none∧OwR W ρ G H a d
 od:∀ (i j:Nat) (a:Addr),i∈s.ow→j∈s.ow→adr σ i=some a→adr σ j=some a→i=j
structure Stp (ρ:List Addr) (G H:Hp) (ρ':List Addr) (G' H':Hp) (Ow:Addr→Prop):Prop where
 pr:ρ <+: ρ'
 gg:Sub G G'
 gn:∀ a o,G' a=some o→G a=some o∨H a=none∨Ow a
 rn:∀ a∈ρ',a∈ρ∨H a=none
 th:∀ a,H a≠none→H' a≠none
 fr:∀ a o,H a=some o→a ∉ ρ→H' a=some o
theorem Stp.refl {ρ:List Addr} {G H:Hp} {Ow:Addr→Prop}:Stp ρ G H ρ G H Ow:=⟨List.prefix_refl _,.refl _,fun _ _ e=>.inl e,fun _ h=>.inl h,fun _ h=>h,fun _ _ e _=>e⟩
theorem Stp.trans {ρ ρ1 ρ2:List Addr} {G H G1 H1 G2 H2:Hp} {Ow Ow1:Addr→Prop} (x:Stp ρ G H ρ1 G1 H1 Ow) (y:Stp ρ1 G1 H1 ρ2 G2 H2 Ow1) (h:∀ a,Ow1 a→Ow a∨H a=none):Stp ρ G H ρ2 G2 H2 Ow:=by
 have back:∀ a,H1 a=none→H a=none:=fun a e=>Classical.byContradiction fun z=>x.th a z e
 refine ⟨x.pr.trans y.pr,x.gg.trans y.gg,fun a o e=>?_,fun a h=>?_,fun a h=>y.th a (x.th a h),fun a o e n=>?_⟩
 ·rcases y.gn a o e with q | q | q
  ·exact x.gn a o q
  ·exact .inr (.inl (back a q))
  ·rcases h a q with q | q
   ·exact .inr (.inr q)
   ·exact .inr (.inl q)
 ·rcases y.rn a h with q | q
  ·exact x.rn a q
  ·exact .inr (back a q)
 ·refine y.fr a o (x.fr a o e n) fun z=>?_
  rcases x.rn a z with q | q
  ·exact n q
  ·rw [q] at e;cases e
noncomputable def RB (W:Wd) (ρ:List Addr) (G H:Hp) (d:D) (v:V):Prop:=RD W ρ G d v∨∃ a,v = .ref a∧a ∉ ρ∧OwR W ρ G H a d
theorem OwR.mono {W:Wd} {ρ ρ':List Addr} {G G' H H':Hp} {a:Addr} (hp:ρ <+: ρ') (h:Sub G G') (hh:∀ o,H a=some o→H' a=some o):∀ {d:D},OwR W ρ G H a d→OwR W ρ' G' H' a d
 | .lst _,⟨vs,e,r⟩=>⟨vs,hh _ e,r.mono hp h⟩
 | .dic _ _,⟨vs,e,l,r⟩=>⟨vs,hh _ e,l,r.mono hp h⟩
theorem OwR.th {W:Wd} {ρ:List Addr} {G H:Hp} {a:Addr}:∀ {d:D},OwR W ρ G H a d→H a≠none
 | .lst _,⟨vs,e,r⟩=>by rw [e];exact fun z=>nomatch z
 | .dic _ _,⟨vs,e,l,r⟩=>by rw [e];exact fun z=>nomatch z
theorem RB.stp {W:Wd} {ρ ρ':List Addr} {G G' H H':Hp} {Ow:Addr→Prop} {d:D} {v:V} (h:RB W ρ G H d v) (x:Stp ρ G H ρ' G' H' Ow):RB W ρ' G' H' d v:=by
 rcases h with h | ⟨a,e,n,h⟩
 ·exact .inl (h.mono x.pr x.gg)
 ·refine .inr ⟨a,e,fun z=>?_,h.mono x.pr x.gg fun o q=>x.fr a o q n⟩
  rcases x.rn a z with q | q
  ·exact n q
  ·exact h.th q
noncomputable def RBs (W:Wd) (ρ:List Addr) (G H:Hp):List D→List V→Prop
 | [],vs=>vs = []
 | d :: ds,vs=>∃ v r,vs=v :: r∧RB W ρ G H d v∧RBs W ρ G H ds r
noncomputable def XR (W:Wd) (ρ:List Addr) (G:Hp) (c:Nat) (l:List D) (cls:Value) (dx:Option Addr):Prop:=∃ i,W.ci[c]? = some i∧W.what[c]? = some 2∧cls = .ref i.ad∧l.length≤i.nm.length ∧
 ((l = []∧dx=none)∨∃ d vs,dx=some d∧G d=some (DO d (i.nm.zip vs))∧RDs W ρ G l vs)
noncomputable abbrev EX:=St→XK
noncomputable def aj (W:Wd) (E:EX) {α β:Type} (R:List Addr→Hp→Hp→α→β→Prop) (σ:St) (H:Hp) (ρ:List Addr) (G:Hp) (Ow:Addr→Prop) (out:Out α) (Q:β→Hp→Prop):Prop:=match out with
 | .ok x s'=>∀ y H' ρ' G',Stp ρ G H ρ' G' H' Ow→Rep W ρ' G' s' σ H'→R ρ' G' H' x y→Q y H'
 | .exc c l s'=>∀ cls dx H' ρ' G',Stp ρ G H ρ' G' H' Ow→Rep W ρ' G' s' σ H'→XR W ρ' G' c l cls dx→E σ cls dx H'
 | .bad=>False
noncomputable def Lf (W:Wd) (E:EX) {α β:Type} (R:List (Option D)→List Addr→Hp→Hp→α→β→Prop) (m:Sta→Out α):St→Hp→(β→Hp→Prop)→Prop:=fun σ H Q=>∃ ρ G s,Rep W ρ G s σ H∧aj W E (R s.env) σ H ρ G (Own s σ) (m s) Q
theorem eB {α β:Type} {x:Out α} {f:α→Sta→Out β} {b:β} {s':Sta}:x.bind f = .ok b s'→∃ a s,x = .ok a s∧f a s = .ok b s':=by
 cases x with
 | ok a s=>exact fun h=>⟨a,s,rfl,h⟩
 | exc c l s=>exact fun h=>nomatch h
 | bad=>exact fun h=>nomatch h
noncomputable def Le (s s':Sta):Prop:=s'.env=s.env∧∀ i∈s'.ow,i∈s.ow
theorem Le.refl {s:Sta}:Le s s:=⟨rfl,fun _ h=>h⟩
theorem Le.trans {s s1 s2:Sta} (a:Le s s1) (b:Le s1 s2):Le s s2:=⟨b.1.trans a.1,fun i h=>a.2 i (b.2 i h)⟩
theorem kT {s:Sta} {p:Nat→Bool} {st:List O}:Le s ⟨s.env,s.ow.filter p,st⟩:=⟨rfl,fun i h=>(List.mem_filter.mp h).1⟩
noncomputable def Gd {α:Type} (s:Sta):Out α→Prop
 | .ok _ s'=>Le s s'
 | .exc _ _ s'=>∀ i∈s'.ow,i∈s.ow
 | .bad=>True
theorem Gd.le {α:Type} {s s1:Sta} {o:Out α} (h:Le s s1) (g:Gd s1 o):Gd s o:=by
 cases o with
 | ok x s'=>exact h.trans g
 | exc k l s'=>exact fun i hi=>h.2 i (g i hi)
 | bad=>trivial
theorem Gd.bind {α β:Type} {s:Sta} {m:Out α} {f:α→Sta→Out β} (h:Gd s m) (g:∀ x s',Gd s' (f x s')):Gd s (m.bind f):=by
 cases m with
 | ok x s'=>exact .le h (g x s')
 | exc k l s'=>exact h
 | bad=>trivial
theorem Gd.of {α:Type} {s:Sta} {o:Option α}:Gd s (.of s o):=by
 cases o
 ·trivial
 ·exact Le.refl
theorem Gd.no {α β:Type} {s:Sta} {o:Out α} {f:α→Sta→Out β} (n:∀ k l s,o≠.exc k l s) (g:∀ x s',Gd s (f x s')):Gd s (o.bind f):=by
 cases o with
 | ok x s'=>exact g x s'
 | exc k l s'=>exact absurd rfl (n k l s')
 | bad=>trivial
theorem qL {cal:Nat→List D→List O→Res} {es:E} {j:Nat} {ds:List D} {s:Sta}:Gd s (fW cal es j ds s):=by
 unfold fW
 split
 ·exact kT
 ·exact (kT (st:=[])).2
 ·trivial
theorem xj {d:D} {s:Sta}:Gd s (toI d s):=by cases d <;> first | trivial | exact Le.refl
theorem rL {α:Type} {o:Out α} {k:Nat} {l:List D} {s:Sta}:noX o≠.exc k l s:=by cases o <;> exact fun z=>nomatch z
theorem jz {α β:Type} {o:Out α} {f:α→Sta→Out β} (h1:∀ k l s,o≠.exc k l s) (h2:∀ a s k l s',f a s≠.exc k l s'):∀ k l s,o.bind f≠.exc k l s:=fun k l s=>by
 cases o with
 | ok a s'=>exact h2 a s' k l s
 | exc c l2 s2=>exact absurd rfl (h1 c l2 s2)
 | bad=>exact fun z=>nomatch z
theorem jL {f:D→Sta→Out (Option D)} (h:∀ d s k l s',f d s≠.exc k l s'):∀ (ds acc:List D) (s:Sta) (k:Nat) (l:List D) (s':Sta),bX f ds acc s≠.exc k l s'
 | [],_,_,_,_,_=>fun z=>nomatch z
 | d :: r,acc,s,k,l,s'=>jz (h d s) (fun o s2 k l s'=>by
     split
     ·split
      ·exact jL h r _ s2 k l s'
      ·exact fun z=>nomatch z
     ·exact jL h r acc s2 k l s') k l s'
section
variable {Γ:Gm} {cal cal1:Nat→List D→List O→Res}
theorem pd {br:Bool} {i:Nat} {s:Sta}:ev Γ cal cal1 br (.v i) s=(match s.env[i]? with | some (some d)=>.ok d (if br then s else un s i) | _=>.bad):=rfl
theorem gc {e:E} {s:Sta} (h:Gd s (ev Γ cal cal1 true e s)):Gd s (if bp e then Out.ok none s else (ev Γ cal cal1 true e s).bind toI):=by
 split
 ·exact Le.refl
 ·exact h.bind fun _ _=>xj
mutual
theorem ax:∀ (e:E) (br:Bool) (s:Sta),Gd s (ev Γ cal cal1 br e s)
 | .v i,br,s=>by
   rw [pd]
   split
   ·cases br
    ·exact kT
    ·exact Le.refl
   ·trivial
 | .c d,_,_=>Le.refl
 | .g j,_,_=>.of
 | .op o a b,_,s=>(ax a true s).bind fun _ s=>(ax b true s).bind fun _ _=>.of
 | .isN a,_,s=>(ax a true s).bind fun _ _=>Le.refl
 | .isNN a,_,s=>(ax a true s).bind fun _ _=>Le.refl
 | .neg a,_,s=>(ax a true s).bind fun _ _=>by split <;> first | trivial | exact Le.refl
 | .not a,_,s=>(ax a true s).bind fun _ _=>by split <;> first | trivial | exact Le.refl
 | .and a b,_,s=>(ax a false s).bind fun _ s=>by split <;> first | trivial | exact Le.refl | exact ax b false s
 | .or a b,_,s=>(ax a false s).bind fun _ s=>by split <;> first | trivial | exact Le.refl | exact ax b false s
 | .ite c a b,_,s=>(ax c true s).bind fun _ s=>by
   split
   ·exact ax a false s
   ·exact ax b false s
   ·trivial
 | .chain o p a b c,_,s=>(ax a true s).bind fun _ s=>(ax b true s).bind fun _ s=>by
   split
   ·exact (ax c true s).bind fun _ _=>.of
   ·exact Le.refl
   ·trivial
 | .ix a b,_,s=>(ax a true s).bind fun _ s=>(ax b true s).bind fun _ _=>.of
 | .sl a b c,_,s=>(ax a true s).bind fun _ s=>(gc (ax b true s)).bind fun _ s=>(gc (ax c true s)).bind fun _ _=>.of
 | .sl3 a b c,_,s=>(ax a true s).bind fun _ s=>(gc (ax b true s)).bind fun _ s=>(gc (ax c true s)).bind fun _ _=>.of
 | .newd j es,_,s=>(bu es false s).bind fun _ _=>.of
 | .tget j a b,_,s=>(ax a true s).bind fun _ s=>(ax b false s).bind fun _ _=>by split <;> first | trivial | exact Le.refl
 | .fld a f,_,s=>(ax a true s).bind fun _ _=>.of
 | .tup es,_,s=>(bu es false s).bind fun _ _=>by split <;> first | trivial | exact Le.refl
 | .lst es,_,s=>(bu es false s).bind fun _ _=>by split <;> first | trivial | exact Le.refl
 | .newl es,_,s=>(bu es false s).bind fun _ _=>by split <;> first | trivial | exact ⟨rfl,fun _ h=>h⟩
 | .dic es,_,s=>(bu es false s).bind fun _ _=>.of
 | .call j es,_,s=>(bu es true s).bind fun _ _=>qL
 | .mth c j a es,_,s=>(ax a true s).bind fun _ s=>by
   split
   ·split
    ·split
     ·exact (bu es true s).bind fun _ _=>qL
     ·trivial
    ·trivial
   ·trivial
 | .new j es,_,s=>(bu es true s).bind fun _ s=>by
   split
   ·split
    ·split <;> first | trivial | exact kT
    ·split
     ·split <;> first | trivial | exact kT
     ·trivial
   ·trivial
 | .bi b es,_,s=>(bu es true s).bind fun _ _=>.of
 | .join x a,_,s=>(ax a true s).bind fun _ _=>.of
 | .fmt x a y,_,s=>(ax a true s).bind fun _ _=>.of
 | .dicc ks es,_,s=>(bu es false s).bind fun _ _=>.of
 | .isX a js,_,s=>(ax a true s).bind fun _ _=>by split <;> first | trivial | exact .of
 | .get a b c,_,s=>(ax a true s).bind fun _ s=>by
   split
   ·exact (ax b true s).bind fun _ s=>(ax c false s).bind fun _ _=>by split <;> first | trivial | exact Le.refl
   ·trivial
 | .index a b,_,s=>(ax a true s).bind fun _ s=>(ax b true s).bind fun _ _=>by
   split
   ·split <;> first | exact .of | trivial
   ·split <;> first | exact .of | trivial
   ·trivial
 | .lc t one it elt cond,_,s=>(ax it false s).bind fun _ s=>by
   split
   ·refine Gd.no (jL (fun d s'=>?_) _ _ _) fun _ _=>⟨rfl,fun _ h=>nomatch h⟩
    split
    ·refine jz (fun _ _ _=>rL) fun b s2=>?_
     split
     ·exact jz (fun _ _ _=>rL) fun _ _ _ _ _ z=>nomatch z
     ·exact fun _ _ _ z=>nomatch z
     ·exact fun _ _ _ z=>nomatch z
    ·exact fun _ _ _ z=>nomatch z
   ·trivial
 | .tab j e,_,s=>(ax e true s).bind fun _ _=>by split <;> first | trivial | exact .of
 | .tabin j e,_,s=>(ax e true s).bind fun _ _=>by split <;> first | trivial | exact Le.refl
 | .tand a b,_,s=>(ax a true s).bind fun _ s=>by split <;> first | trivial | exact Le.refl | exact ax b true s
 | .tor a b,_,s=>(ax a true s).bind fun _ s=>by split <;> first | trivial | exact Le.refl | exact ax b true s
 | .tnot a,_,s=>(ax a true s).bind fun _ _=>by split <;> first | trivial | exact Le.refl
 | .tv a,_,s=>(ax a true s).bind fun _ _=>.of
 | .it b es,_,s=>(bu es false s).bind fun _ _=>.of
 | .itv a,_,s=>(ax a false s).bind fun _ _=>by split <;> first | trivial | exact Le.refl
 | .nil,_,_=>trivial
 | .cons _ _,_,_=>trivial
theorem bu:∀ (e:E) (br:Bool) (s:Sta),Gd s (evs Γ cal cal1 br e s)
 | e,br,s=>by
   cases e with
   | nil=>exact Le.refl
   | cons a r=>exact (ax a br s).bind fun _ s=>(bu r br s).bind fun _ _=>Le.refl
   | _=>trivial
end
end
section
variable {W:Wd} {E:EX} {σ:St} {H H1:Hp} {ρ ρ1:List Addr} {G G1:Hp} {Ow Ow1:Addr→Prop} {s:Sta}
theorem aj.imp {α β:Type} {R:List Addr→Hp→Hp→α→β→Prop} {out:Out α} {Q Q':β→Hp→Prop} (h:aj W E R σ H ρ G Ow out Q) (i:∀ y H',Q y H'→Q' y H'):aj W E R σ H ρ G Ow out Q':=by
 cases out with
 | ok x s'=>exact fun y H' ρ' G' a b c=>i _ _ (h y H' ρ' G' a b c)
 | exc c l s'=>exact h
 | bad=>exact h
theorem aj.stp {α β:Type} {R:List Addr→Hp→Hp→α→β→Prop} {out:Out α} {Q:β→Hp→Prop} (h:aj W E R σ H ρ G Ow out Q) (x:Stp ρ G H ρ1 G1 H1 Ow) (o:∀ a,Ow1 a→Ow a∨H a=none):aj W E R σ H1 ρ1 G1 Ow1 out Q:=by
 cases out with
 | ok d s'=>exact fun y H' ρ' G' a b c=>h y H' ρ' G' (x.trans a o) b c
 | exc c l s'=>exact fun y dx H' ρ' G' a b c=>h y dx H' ρ' G' (x.trans a o) b c
 | bad=>exact h
theorem hV {s s':Sta} (h:Le s s') (a:Addr):Own s' σ a→Own s σ a:=fun ⟨i,m,e⟩=>⟨i,h.2 i m,e⟩
theorem aj.bind {α β γ δ:Type} {R:List Addr→Hp→Hp→α→β→Prop} {R':List Addr→Hp→Hp→γ→δ→Prop} {m:Out α} {f:α→Sta→Out γ} {Q:δ→Hp→Prop} (le:∀ x s',m = .ok x s'→Le s s') (h:aj W E R' σ H ρ G (Own s σ) (m.bind f) Q) :
 aj W E R σ H ρ G (Own s σ) m fun y H1=>∃ ρ1 G1 s1 x,Stp ρ G H ρ1 G1 H1 (Own s σ)∧Rep W ρ1 G1 s1 σ H1∧Le s s1∧R ρ1 G1 H1 x y∧aj W E R' σ H1 ρ1 G1 (Own s1 σ) (f x s1) Q:=by
 cases m with
 | ok x s'=>exact fun y H' ρ' G' a b c=>⟨ρ',G',s',x,a,b,le x s' rfl,c,aj.stp h a fun a z=>.inl (hV (le x s' rfl) a z)⟩
 | exc c l s'=>exact h
 | bad=>exact h
theorem aj.cps {α β γ:Type} {R:List Addr→Hp→Hp→α→β→Prop} {o:Out α} {Q:β→Hp→Prop} {A B C D P:β→Hp→List Addr→Hp→Sta→γ→Prop} (h:aj W E R σ H ρ G Ow o fun y H1=>∃ ρ1 G1 s1 x,A y H1 ρ1 G1 s1 x∧B y H1 ρ1 G1 s1 x∧C y H1 ρ1 G1 s1 x∧D y H1 ρ1 G1 s1 x∧P y H1 ρ1 G1 s1 x) (i:∀ y H1 ρ1 G1 s1 x,A y H1 ρ1 G1 s1 x→B y H1 ρ1 G1 s1 x→C y H1 ρ1 G1 s1 x→D y H1 ρ1 G1 s1 x→P y H1 ρ1 G1 s1 x→Q y H1):aj W E R σ H ρ G Ow o Q:=h.imp fun y H1 ⟨ρ1,G1,s1,x,a,b,c,d,p⟩=>i y H1 ρ1 G1 s1 x a b c d p
theorem aj.fin {β:Type} {α:Type} {R:List Addr→Hp→Hp→α→β→Prop} {d:α} {v:β} {Q:β→Hp→Prop} (post:aj W E R σ H ρ G Ow (.ok d s) Q) (rep:Rep W ρ G s σ H) (r:R ρ G H d v):Q v H:=post v H ρ G .refl rep r
theorem ObR.mono {ρ':List Addr} {G' H':Hp} {a:Addr} (hp:ρ <+: ρ') (h:Sub G G') (hh:∀ o,H a=some o→H' a=some o):∀ {o:O},ObR W ρ G H a o→ObR W ρ' G' H' a o
 | .lst _,⟨vs,e,r⟩=>⟨vs,hh _ e,r.mono hp h⟩
 | .dic _ _,⟨vs,e,l,r⟩=>⟨vs,hh _ e,l,r.mono hp h⟩
 | .ins _ _,⟨i,vs,dx,a,b,l,e,r⟩=>⟨i,vs,dx,a,b,l,hh _ e,r.mono hp h⟩
theorem aV {p:Addr} {o:HO} (hp:G p=none):Sub G (upd G p o):=fun a u e=>by rw [aa (ak e hp)];exact e
theorem Rep.new (rep:Rep W ρ G s σ H) {p:Addr} {o:HO} (hp:H p=none):Rep W ρ (upd G p o) s σ (upd H p o)∧Stp ρ G H ρ (upd G p o) (upd H p o) Ow:=by
 have gp:G p=none:=by
  cases e:G p with
  | none=>rfl
  | some u=>rw [rep.gh p u e] at hp;cases hp
 have nr:∀ a,H a≠none→a≠p:=fun a n z=>n (by rw [z];exact hp)
 have sg:=aV (o:=o) gp
 have hh:∀ a u,H a=some u→upd H p o a=some u:=fun a u e=>by rw [aa (ak e hp)];exact e
 refine ⟨⟨fun a u e=>?_,rep.rl,rep.rn,fun a m=>?_,fun n ob a h1 h2=>(rep.ob n ob a h1 h2).mono (List.prefix_refl _) sg (hh a),rep.el,fun i d no e=>?_,fun i m=>?_,rep.od⟩,⟨List.prefix_refl _,sg,fun a u e=>?_,fun a h=>.inl h,fun a n=>?_,fun a u e _=>hh a u e⟩⟩
 ·by_cases z:a=p
  ·subst z;rw [ae] at e;rw [ae];exact e
  ·rw [aa z] at e;rw [aa z];exact rep.gh a u e
 ·obtain ⟨g,h⟩:=rep.rg a m
  have z:=nr a h
  rw [aa z,aa z];exact ⟨g,h⟩
 ·obtain ⟨v,e1,r⟩:=rep.en i d no e
  exact ⟨v,e1,r.mono (List.prefix_refl _) sg⟩
 ·obtain ⟨d,a,e1,e2,n,g,r⟩:=rep.eo i m
  have z:=nr a r.th
  exact ⟨d,a,e1,e2,n,by rw [aa z];exact g,r.mono (List.prefix_refl _) sg (hh a)⟩
 ·by_cases z:a=p
  ·subst z;exact .inr (.inl hp)
  ·rw [aa z] at e;exact .inl e
 ·have z:=nr a n
  rw [aa z];exact n
theorem aj.new {α:Type} {R:List Addr→Hp→Hp→α→V→Prop} {d:α} {Q:VK} {p:Addr} {o:HO} (post:aj W E R σ H ρ G Ow (.ok d s) Q) (rep:Rep W ρ G s σ H) (hp:H p=none) (r:R ρ (upd G p o) (upd H p o) d (.ref p)):Q (.ref p) (upd H p o):=
 let ⟨a,b⟩:=rep.new (o:=o) (Ow:=Ow) hp
 post _ _ _ _ b a r
noncomputable def RL (W:Wd) (ρ:List Addr) (G H:Hp):D→V→Prop
 | .lst ds,v=>∃ a vs,v = .ref a∧Rd H a (.lst vs)∧RDs W ρ G ds vs
 | .dic ks ds,v=>∃ a vs,v = .ref a∧H a=some (.dK (aE ks vs))∧ks.length=ds.length∧RDs W ρ G ds vs
 | d,v=>RD W ρ G d v
theorem dP (gh:Sub G H):∀ {d:D} {v:V},RD W ρ G d v→RL W ρ G H d v
 | .non,_,e=>e
 | .bl _,_,e=>e
 | .int _,_,e=>e
 | .str _,_,e=>e
 | .tup _,_,h=>h
 | .lst _,_,⟨a,vs,e,t,r⟩=>⟨a,vs,e,cM gh t,r⟩
 | .dic _ _,_,⟨a,vs,e,t,l,r⟩=>⟨a,vs,e,gh _ _ t,l,r⟩
 | .ins _ _,_,h=>h
 | .ref _,_,h=>h
theorem wx {a:Addr}:∀ {d:D},OwR W ρ G H a d→RL W ρ G H d (.ref a)
 | .lst _,⟨vs,e,r⟩=>⟨a,vs,rfl,.inl e,r⟩
 | .dic _ _,⟨vs,e,l,r⟩=>⟨a,vs,rfl,e,l,r⟩
theorem bL (rep:Rep W ρ G s σ H) {d:D} {v:V} (h:RB W ρ G H d v):RL W ρ G H (look s.st d) v:=by
 rcases h with h | ⟨a,e,n,h⟩
 ·cases d with
  | ref n=>
    obtain ⟨a,e,rfl⟩:=h
    unfold look
    dsimp only
    have hl:n<s.st.length:=by rw [← rep.rl];exact (List.getElem?_eq_some_iff.mp e).1
    have ho:=rep.ob n _ a (List.getElem?_eq_getElem hl) e
    rw [List.getElem?_eq_getElem hl]
    cases q:s.st[n] with
    | lst l=>rw [q] at ho;obtain ⟨vs,e1,r⟩:=ho;exact ⟨a,vs,rfl,.inl e1,r⟩
    | dic k l=>rw [q] at ho;obtain ⟨vs,e1,l,r⟩:=ho;exact ⟨a,vs,rfl,e1,l,r⟩
    | ins c l=>exact ⟨a,e,rfl⟩
  | _=>exact dP rep.gh h
 ·subst e
  cases d with
  | lst l=>exact wx h
  | dic k l=>exact wx h
  | _=>exact h.elim
end
section
variable {W:Wd} {X:Cx} {ρ:List Addr} {G H:Hp} {s:Shared} {pins:List (Addr×Obj)} {σ:St}
theorem eC {f:D→D→Option Bool}:∀ {ds es:List D} {b:Bool},c7 f ds es=some b→(∀ j (h1:j<ds.length) (h2:j<es.length),∃ c,f ds[j] es[j]=some c)∧b=(List.range (min ds.length es.length)).all fun j=>(f (ds[j]?.getD .non) (es[j]?.getD .non)).getD false
 | [],es,b,h=>by cases h;exact ⟨fun j h=>absurd h (Nat.not_lt_zero _),by simp⟩
 | d :: ds,[],b,h=>by cases h;exact ⟨fun j _ h=>absurd h (Nat.not_lt_zero _),by simp⟩
 | d :: ds,e :: es,b,h=>by
   unfold c7 at h
   cases q:f d e with
   | none=>rw [q] at h;cases h
   | some x=>
     rw [q] at h
     cases q2:c7 f ds es with
     | none=>rw [q2] at h;cases h
     | some y=>
       rw [q2] at h
       cases h
       obtain ⟨i1,i2⟩:=eC q2
       refine ⟨fun j h1 h2=>?_,?_⟩
       ·cases j with
        | zero=>exact ⟨x,q⟩
        | succ j=>exact i1 j (Nat.lt_of_succ_lt_succ h1) (Nat.lt_of_succ_lt_succ h2)
       ·have m:min (d :: ds).length (e :: es).length=min ds.length es.length+1:=by simp only [List.length_cons];omega
        rw [m,List.range_succ_eq_map,List.all_cons,List.all_map,i2]
        simp only [List.getElem?_cons_zero,Option.getD_some,q]
        rfl
theorem yT {a:Addr} {u v:HO} (hu:∀ o w,u≠.frz o w) (hv:∀ o w,v≠.frz o w) (h1:Rd H a u) (h2:Rd H a v):u=v:=by
 rcases h1 with h1 | ⟨o,h1⟩ <;> rcases h2 with h2 | ⟨o2,h2⟩
 ·rw [h1] at h2;cases h2;rfl
 ·rw [h1] at h2;cases h2;exact absurd rfl (hu _ _)
 ·rw [h1] at h2;cases h2;exact absurd rfl (hv _ _)
 ·rw [h1] at h2;cases h2;rfl
theorem tj (I:Inv X pins σ H s) {a:Addr} {vs ws:List V} (h1:Tp X.K H a vs) (h2:Rd H a (.lst ws)):False:=by
 obtain ⟨i1,r1,⟨o1,e1,c1,n1,d1⟩,z1⟩:=I.tuple h1.sq
 obtain ⟨i2,r2,p2,z2⟩:=I.list (show SqL X.K H a ws from Or.inl h2)
 obtain ⟨o2,e2,c2,_⟩:=p2.isList
 rw [e1] at e2
 cases e2
 rw [c1] at c2
 exact absurd c2 (by decide)
theorem flV {d:D} {v:V} (h:RD W ρ G d v) (f:sh d=0):fP v=true:=by
 cases d with
 | non=>cases (show v=_ from h);rfl
 | bl b=>cases (show v=_ from h);rfl
 | int b=>cases (show v=_ from h);rfl
 | str b=>cases (show v=_ from h);rfl
 | _=>cases f
theorem qB {d:D} (f:sh d=0):eqf d d=true:=by
 cases d with
 | non=>rfl
 | bl b=>simp [eqf]
 | int b=>simp [eqf]
 | str b=>simp [eqf]
 | _=>cases f
theorem xb {d e:D} {x:V} (fd:sh d=0) (fe:sh e=0) (h1:RD W ρ G d x) (h2:RD W ρ G e x):d=e:=by
 cases d with
 | non=>cases (show x=_ from h1);cases e <;> first | rfl | cases (show _=_ from h2) | cases fe
 | bl b=>cases (show x=_ from h1);cases e <;> first | (cases (show _=_ from h2);rfl) | cases (show _=_ from h2) | cases fe
 | int b=>cases (show x=_ from h1);cases e <;> first | (cases (show _=_ from h2);rfl) | cases (show _=_ from h2) | cases fe
 | str b=>cases (show x=_ from h1);cases e <;> first | (cases (show _=_ from h2);rfl) | cases (show _=_ from h2) | cases fe
 | _=>cases fd
theorem bE {d:D} {x:V} (f:sh d=0) (h:RL W ρ G H d x):RD W ρ G d x:=by
 cases d with
 | lst l=>cases f
 | dic k l=>cases f
 | _=>exact h
theorem sK {d:D} {x:V} (f:sh d=1∨sh d=2) (h:RL W ρ G H d x):∃ a,x = .ref a:=by
 cases d with
 | tup l=>obtain ⟨a,vs,e,_⟩:=h;exact ⟨a,e⟩
 | lst l=>obtain ⟨a,vs,e,_⟩:=h;exact ⟨a,e⟩
 | _=>rcases f with f | f <;> cases f
theorem j7 {d:D} (f:sh d=1):∃ l,d = .tup l:=by cases d <;> first | exact ⟨_,rfl⟩ | cases f
theorem j6 {d:D} (f:sh d=2):∃ l,d = .lst l:=by cases d <;> first | exact ⟨_,rfl⟩ | cases f
theorem sh4 (d:D):sh d=0∨sh d=1∨sh d=2∨sh d=3:=by cases d <;> simp [sh]
theorem gL {d e:D} {b:Bool} (h:eq0 d e=some b):(sh d=0∧sh e=0∧b=eqf d e)∨(b=false∧((sh d=0∧(sh e=1∨sh e=2))∨((sh d=1∨sh d=2)∧sh e=0)∨(sh d=1∧sh e=2)∨(sh d=2∧sh e=1))):=by
 unfold eq0 at h
 split at h
 ·cases h
 ·rename_i h3
  split at h
  ·rename_i h0;cases h;exact .inl ⟨h0.1,h0.2,rfl⟩
  ·split at h
   ·cases h
   ·cases h
    refine .inr ⟨rfl,?_⟩
    rename_i h0 h1
    have a:=sh4 d
    have b:=sh4 e
    generalize sh d=x at *
    generalize sh e=y at *
    rcases a with rfl | rfl | rfl | rfl <;> rcases b with rfl | rfl | rfl | rfl <;> first | decide | exact absurd (by decide) h3 | exact absurd (by decide) h0 | exact absurd (by decide) h1
theorem fg {n:Nat} {d e:D} {b:Bool} (h:eqv (n+1) d e=some b):(∃ da db y,d = .tup da∧e = .tup db∧c7 (eqv n) da db=some y∧b=(y && da.length == db.length)) ∨
 (∃ da db,d = .lst da∧e = .lst db∧((da.length=db.length∧c7 (eqv n) da db=some b)∨(da.length≠db.length∧b=false)))∨eq0 d e=some b:=by
 have tt:∀ {da db:List D},eqv (n+1) (.tup da) (.tup db)=some b→∃ y,c7 (eqv n) da db=some y∧b=(y && da.length == db.length):=fun {da db} h=>by
  have h':(c7 (eqv n) da db).map (· && da.length == db.length)=some b:=h
  cases q:c7 (eqv n) da db with
  | none=>rw [q] at h';cases h'
  | some y=>rw [q] at h';cases h';exact ⟨y,rfl,rfl⟩
 have ll:∀ {da db:List D},eqv (n+1) (.lst da) (.lst db)=some b→(da.length=db.length∧c7 (eqv n) da db=some b)∨(da.length≠db.length∧b=false):=fun {da db} h=>by
  have h':(if da.length=db.length then c7 (eqv n) da db else some false)=some b:=h
  split at h'
  ·rename_i z;exact .inl ⟨z,h'⟩
  ·rename_i z;cases h';exact .inr ⟨z,rfl⟩
 cases d with
 | tup da=>cases e with
   | tup db=>obtain ⟨y,a,c⟩:=tt h;exact .inl ⟨da,db,y,rfl,rfl,a,c⟩
   | _=>exact .inr (.inr h)
 | lst da=>cases e with
   | lst db=>exact .inr (.inl ⟨da,db,rfl,rfl,ll h⟩)
   | _=>exact .inr (.inr h)
 | _=>exact .inr (.inr h)
variable (hK:W.K=X.K)
include hK
theorem vy (I:Inv X pins σ H s) (gh:Sub G H):∀ (n:Nat) {d e:D} {x:V} {b:Bool},eqv n d e=some b→RL W ρ G H d x→RL W ρ G H e x→b=true:=by
 have low:∀ {d e:D} {x:V} {b:Bool},eq0 d e=some b→RL W ρ G H d x→RL W ρ G H e x→b=true:=fun {d e x b} h h1 h2=>by
  rcases gL h with ⟨f1,f2,rfl⟩ | ⟨rfl,c⟩
  ·rw [xb f1 f2 (bE f1 h1) (bE f2 h2)]
   exact qB f2
  ·exfalso
   rcases c with ⟨c1,c2⟩ | ⟨c1,c2⟩ | ⟨c1,c2⟩ | ⟨c1,c2⟩
   ·obtain ⟨a,rfl⟩:=sK c2 h2;cases flV (bE c1 h1) c1
   ·obtain ⟨a,rfl⟩:=sK c1 h1;cases flV (bE c2 h2) c2
   ·obtain ⟨l,rfl⟩:=j7 c1;obtain ⟨m,rfl⟩:=j6 c2
    obtain ⟨a,vs,rfl,t,_⟩:=h1;obtain ⟨a',ws,e,t',_⟩:=h2;cases e
    have t:=aA gh t
    rw [hK] at t;exact tj I t t'
   ·obtain ⟨l,rfl⟩:=j6 c1;obtain ⟨m,rfl⟩:=j7 c2
    obtain ⟨a,vs,rfl,t,_⟩:=h1;obtain ⟨a',ws,e,t',_⟩:=h2;cases e
    have t':=aA gh t'
    rw [hK] at t';exact tj I t' t
 intro n
 induction n with
 | zero=>intro d e x b h;exact low h
 | succ n ih=>
   have many:∀ {ds es:List D} {vs:List V} {b:Bool},c7 (eqv n) ds es=some b→RDs W ρ G ds vs→RDs W ρ G es vs→b=true:=fun {ds}=>by
    induction ds with
    | nil=>intro es vs b h _ _;cases h;rfl
    | cons d ds ihd=>
      intro es vs b h r1 r2
      obtain ⟨v,r,rfl,r1,t1⟩:=r1
      cases es with
      | nil=>cases (show v :: r = [] from r2)
      | cons e es=>
        obtain ⟨v',r',q,r2,t2⟩:=r2
        cases q
        unfold c7 at h
        cases q:eqv n d e with
        | none=>rw [q] at h;cases h
        | some x=>
          rw [q] at h
          cases q2:c7 (eqv n) ds es with
          | none=>rw [q2] at h;cases h
          | some y=>
            rw [q2] at h;cases h
            rw [ih q (dP gh r1) (dP gh r2),ihd q2 t1 t2];rfl
   intro d e x b h h1 h2
   rcases fg h with ⟨da,db,y,rfl,rfl,q,rfl⟩ | ⟨da,db,rfl,rfl,q⟩ | h
   ·obtain ⟨a,vs,rfl,t,r1⟩:=h1
    obtain ⟨a',ws,e,t',r2⟩:=h2
    cases e
    have t:=aA gh t
    have t':=aA gh t'
    rw [hK] at t t'
    cases y9 I t t'
    rw [many q r1 r2,r1.len,r2.len]
    simp
   ·obtain ⟨a,vs,rfl,t,r1⟩:=h1
    obtain ⟨a',ws,e,t',r2⟩:=h2
    cases e
    cases yT (u:=.lst vs) (v:=.lst ws) (fun _ _ z=>nomatch z) (fun _ _ z=>nomatch z) t t'
    rcases q with ⟨_,q⟩ | ⟨q,_⟩
    ·exact many q r1 r2
    ·exact absurd (by rw [r1.len,r2.len]) q
   ·exact low h h1 h2
theorem wd (I:Inv X pins σ H s) (gh:Sub G H):∀ (n:Nat) {A:Around} {d e:D} {x y:V} {u v:Value} {b:Bool},eqv n d e=some b→RL W ρ G H d x→RL W ρ G H e y→ar x u→ar y v→A.units+n+1<cLine→SeqAt.EqAt A s u v b:=by
 have low:∀ {A:Around} {d e:D} {x y:V} {u v:Value} {b:Bool},eq0 d e=some b→RL W ρ G H d x→RL W ρ G H e y→ar x u→ar y v→A.units<cLine→SeqAt.EqAt A s u v b:=fun {A d e x y u v b} h h1 h2 ru rv hu=>by
  rcases gL h with ⟨f1,f2,rfl⟩ | ⟨rfl,c⟩
  ·have g1:=bE f1 h1
   have g2:=bE f2 h2
   have e:eqf d e=eqV x y:=by
    cases d with
    | non=>cases (show x=_ from g1);cases e <;> first | (cases (show y=_ from g2);rfl) | cases f2
    | bl b=>cases (show x=_ from g1);cases e <;> first | (cases (show y=_ from g2);rfl) | cases f2
    | int b=>cases (show x=_ from g1);cases e <;> first | (cases (show y=_ from g2);rfl) | cases f2
    | str b=>cases (show x=_ from g1);cases e <;> first | (cases (show y=_ from g2);rfl) | cases f2
    | _=>cases f1
   rw [e]
   exact xa ru rv (flV g1 f1) (flV g2 f2)
  ·have ft:∀ {x:V} {u:Value} {b:Addr} {its:Array Value},fP x=true→ar x u→s.heap.IsTuple b its→SeqAt.EqAt A s u (.ref b) false∧SeqAt.EqAt A s (.ref b) u false:=fun f r p=>qK f r p hu
   have fl:∀ {x:V} {u:Value} {b:Addr} {its:Array Value},fP x=true→ar x u→s.heap.IsList b its→SeqAt.EqAt A s u (.ref b) false∧SeqAt.EqAt A s (.ref b) u false:=fun {x u b its} fx ru p=>by
    cases x with
    | non=>cases (show u=Value.none from ru);exact ⟨SeqAt.EqAt.none_list p hu,SeqAt.EqAt.list_none p hu⟩
    | bl k=>cases (show u=Value.bool k from ru);exact ⟨SeqAt.EqAt.bool_list k p hu,SeqAt.EqAt.list_bool k p hu⟩
    | int k=>obtain ⟨t,e⟩:=(show ∃ t,u=Value.int k t from ru);subst e;exact ⟨SeqAt.EqAt.int_list k t p hu,SeqAt.EqAt.list_int k t p hu⟩
    | str k=>obtain ⟨t,e⟩:=(show ∃ t,u=Value.str k t from ru);subst e;exact ⟨SeqAt.EqAt.str_list k t p hu,SeqAt.EqAt.list_str k t p hu⟩
    | _=>cases fx
   have it:∀ {d:D} {x:V} {u:Value},(sh d=1∨sh d=2)→RL W ρ G H d x→ar x u→∃ a,u = .ref a∧((sh d=1∧∃ its,s.heap.IsTuple a its)∨(sh d=2∧∃ its,s.heap.IsList a its)):=fun {d x u} f h r=>by
    rcases f with f | f
    ·obtain ⟨l,rfl⟩:=j7 f
     obtain ⟨a,vs,rfl,t,_⟩:=h
     cases r
     have t:=aA gh t
     rw [hK] at t
     obtain ⟨i1,r1,p1,z1⟩:=I.tuple t.sq
     exact ⟨a,rfl,.inl ⟨rfl,_,p1⟩⟩
    ·obtain ⟨l,rfl⟩:=j6 f
     obtain ⟨a,vs,rfl,t,_⟩:=h
     cases r
     obtain ⟨i1,r1,p1,z1⟩:=I.list (show SqL X.K H a vs from .inl t)
     exact ⟨a,rfl,.inr ⟨rfl,_,p1.isList⟩⟩
   rcases c with ⟨c1,c2⟩ | ⟨c1,c2⟩ | ⟨c1,c2⟩ | ⟨c1,c2⟩
   ·obtain ⟨a,rfl,⟨_,its,p⟩ | ⟨_,its,p⟩⟩:=it c2 h2 rv
    ·exact (ft (flV (bE c1 h1) c1) ru p).1
    ·exact (fl (flV (bE c1 h1) c1) ru p).1
   ·obtain ⟨a,rfl,⟨_,its,p⟩ | ⟨_,its,p⟩⟩:=it c1 h1 ru
    ·exact (ft (flV (bE c2 h2) c2) rv p).2
    ·exact (fl (flV (bE c2 h2) c2) rv p).2
   ·obtain ⟨a,rfl,q⟩:=it (.inl c1) h1 ru
    obtain ⟨b,rfl,q'⟩:=it (.inr c2) h2 rv
    rcases q with ⟨_,i1,p1⟩ | ⟨z,_⟩
    ·rcases q' with ⟨z,_⟩ | ⟨_,i2,p2⟩
     ·omega
     ·exact SeqAt.EqAt.tuple_list p1 p2 hu
    ·omega
   ·obtain ⟨a,rfl,q⟩:=it (.inr c1) h1 ru
    obtain ⟨b,rfl,q'⟩:=it (.inl c2) h2 rv
    rcases q with ⟨z,_⟩ | ⟨_,i1,p1⟩
    ·omega
    ·rcases q' with ⟨_,i2,p2⟩ | ⟨z,_⟩
     ·exact SeqAt.EqAt.list_tuple p1 p2 hu
     ·omega
 intro n
 induction n with
 | zero=>intro A d e x y u v b h h1 h2 ru rv hu;exact low h h1 h2 ru rv (by omega)
 | succ n ih=>
   intro A d e x y u v b h h1 h2 ru rv hu
   have hb0:∀ {z:V},RL W ρ G H d z→RL W ρ G H e z→b=true:=fun a c=>vy hK I gh (n+1) h a c
   rcases fg h with ⟨da,db,y,rfl,rfl,q,hbe⟩ | ⟨da,db,rfl,rfl,q⟩ | h
   ·obtain ⟨a,vs,rfl,t,r1⟩:=id h1
    obtain ⟨a',ws,rfl,t',r2⟩:=id h2
    cases ru;cases rv
    by_cases hab:a=a'
    ·subst hab
     rw [hb0 h1 h2]
     exact SeqAt.EqAt.same _
    subst hbe
    have t:=aA gh t
    have t':=aA gh t'
    rw [hK] at t t'
    obtain ⟨i1,v1,p1,z1⟩:=I.tuple t.sq
    obtain ⟨i2,v2,p2,z2⟩:=I.tuple t'.sq
    obtain ⟨q1,q2⟩:=eC q
    have l1:=v1.length
    have l2:=v2.length
    have l3:=r1.len
    have l4:=r2.len
    have key:=SeqAt.RcAt.tuples (A:=A) (s:=s) (e:=fun j=>(eqv n (da[j]?.getD .non) (db[j]?.getD .non)).getD false) p1 p2 (by omega) fun j h1 h2=>by
     have hjd:j<da.length:=by simp at h1;omega
     have hje:j<db.length:=by simp at h2;omega
     obtain ⟨x1,e1,w1⟩:=r1.get (List.getElem?_eq_getElem hjd)
     obtain ⟨y1,e2,w2⟩:=r2.get (List.getElem?_eq_getElem hje)
     obtain ⟨c,hc⟩:=q1 j hjd hje
     simp only [List.getElem?_eq_getElem hjd,List.getElem?_eq_getElem hje,Option.getD_some,hc]
     exact ih (A:=A.in1) hc (dP gh w1) (dP gh w2) (dW v1 e1 h1) (dW v2 e2 h2) (by show A.units+1+n+1<cLine;omega)
    have val:((List.range (min i1.toArray.size i2.toArray.size)).all (fun j=>(eqv n (da[j]?.getD .non) (db[j]?.getD .non)).getD false) && i1.toArray.size == i2.toArray.size)=(y && da.length == db.length):=by
     rw [q2,List.size_toArray,List.size_toArray,← l1,← l2,← l3,← l4]
    rw [val] at key
    exact SeqAt.EqAt.of_refs hab key
   ·obtain ⟨a,vs,rfl,t,r1⟩:=id h1
    obtain ⟨a',ws,rfl,t',r2⟩:=id h2
    cases ru;cases rv
    by_cases hab:a=a'
    ·subst hab
     rw [hb0 h1 h2]
     exact SeqAt.EqAt.same _
    obtain ⟨i1,v1,p1,z1⟩:=I.list (show SqL X.K H a vs from .inl t)
    obtain ⟨i2,v2,p2,z2⟩:=I.list (show SqL X.K H a' ws from .inl t')
    have l1:=v1.length
    have l2:=v2.length
    have l3:=r1.len
    have l4:=r2.len
    rcases q with ⟨hl,q⟩ | ⟨hl,rfl⟩
    ·obtain ⟨q1,q2⟩:=eC q
     have it:∀ j (h1:j<i1.toArray.size) (h2:j<i2.toArray.size),SeqAt.EqAt A.in1 s i1.toArray[j] i2.toArray[j] ((fun j=>(eqv n (da[j]?.getD .non) (db[j]?.getD .non)).getD false) j):=fun j h1 h2=>by
      have hjd:j<da.length:=by simp at h1;omega
      have hje:j<db.length:=by simp at h2;omega
      obtain ⟨x1,e1,w1⟩:=r1.get (List.getElem?_eq_getElem hjd)
      obtain ⟨y1,e2,w2⟩:=r2.get (List.getElem?_eq_getElem hje)
      obtain ⟨c,hc⟩:=q1 j hjd hje
      simp only [List.getElem?_eq_getElem hjd,List.getElem?_eq_getElem hje,Option.getD_some,hc]
      exact ih (A:=A.in1) hc (dP gh w1) (dP gh w2) (dW v1 e1 h1) (dW v2 e2 h2) (by show A.units+1+n+1<cLine;omega)
     have key:=SeqAt.RcAt.lists (A:=A) (s:=s) p1.isList p2.isList (by simp;omega) (by omega) it
     have val:(List.range i1.toArray.size).all (fun j=>(eqv n (da[j]?.getD .non) (db[j]?.getD .non)).getD false)=b:=by
      rw [q2,List.size_toArray,← l1,← l3,hl,Nat.min_self]
     rw [val] at key
     exact SeqAt.EqAt.of_refs hab key
    ·exact SeqAt.EqAt.of_refs hab (SeqAt.RcAt.lists_lengths p1.isList p2.isList (by simp;omega) (by omega))
   ·exact low h h1 h2 ru rv (by omega)
end
noncomputable def pV (i j:Int):Prop:=wL i j∨(i.natAbs<2 ^ 400∧j.natAbs<2 ^ 400)
theorem pV.ok {i j:Int} (h:pV i j):IntMulOk i j:=by
 rcases h with h | ⟨h1,h2⟩
 ·exact h.ok
 ·exact PyProof.Rows.mulOk_of_bits (m:=400) (n:=400) (intBits_le_iff.mpr h1) (intBits_le_iff.mpr h2) (by decide)
theorem uU {X:Cx}:OpR X (binaryOp .Mult) (rI pV fun i j=>.int (i * j)):=_root_.L2.opI fun _ _ _ _ _ _ _ hc q=>mul_int q hc.ok
noncomputable def cY (W:Wd) (ρ:List Addr) (G H:Hp) (d:D) (Q:VK):Prop:=(∀ v,RD W ρ G d v→Q v H)∧∀ p o,H p=none→RD W ρ (upd G p o) d (.ref p)→Q (.ref p) (upd H p o)
noncomputable def rD (W:Wd) (f:D→D→Option D):R2:=fun x y H Q=>∃ ρ G d1 d2 d,Sub G H∧RL W ρ G H d1 x∧RL W ρ G H d2 y∧f d1 d2=some d∧cY W ρ G H d Q
section
variable {W:Wd} {X:Cx} {ρ:List Addr} {G H:Hp} {Q:VK}
theorem cY.i {i:Int} (h:cY W ρ G H (.int i) Q):Q (.int i) H:=h.1 _ rfl
theorem cY.b {i:Bool} (h:cY W ρ G H (.bl i) Q):Q (.bl i) H:=h.1 _ rfl
theorem cY.s {i:Str} (h:cY W ρ G H (.str i) Q):Q (.str i) H:=h.1 _ rfl
theorem aI (gh:Sub G H) {p:Addr} (hp:H p=none):G p=none:=by
 cases e:G p with
 | none=>rfl
 | some u=>rw [gh p u e] at hp;cases hp
theorem cY.t {l:List D} {vs:List V} {p:Addr} (h:cY W ρ G H (.tup l) Q) (gh:Sub G H) (r:RDs W ρ G l vs) (hp:H p=none):Q (.ref p) (upd H p (.tup vs)):=
 h.2 p _ hp ⟨p,vs,rfl,.inl ae,r.mono (List.prefix_refl _) (aV (aI gh hp))⟩
theorem cY.l {l:List D} {vs:List V} {p:Addr} (h:cY W ρ G H (.lst l) Q) (gh:Sub G H) (r:RDs W ρ G l vs) (hp:H p=none):Q (.ref p) (upd H p (.lst vs)):=
 h.2 p _ hp ⟨p,vs,rfl,.inl ae,r.mono (List.prefix_refl _) (aV (aI gh hp))⟩
theorem cN {i:Int} {x:V} (h:RL W ρ G H (.int i) x):x = .int i:=h
theorem ik {i:Str} {x:V} (h:RL W ρ G H (.str i) x):x = .str i:=h
theorem big {n:Nat} (h:n≤100000):n≤sizeLine:=Nat.le_trans h (by rw [sizeLine_eq];decide)
theorem uM:OpR X (binaryOp .Add) (fun x y H Q=>∃ l b xs zs,x = .ref l∧y = .ref b∧Rd H l (.lst xs)∧Rd H b (.lst zs)∧xs.length+zs.length≤sizeLine∧∀ p,H p=none→Q (.ref p) (upd H p (.lst (xs ++ zs)))):=by
 intro pins s σ H x y v u Q I rx ry h
 obtain ⟨l,b,xs,zs,rfl,rfl,hH,hB,hz,q⟩:=h
 cases rx
 cases ry
 have g:∀ {l:Addr} {xs:List V},Rd H l (.lst xs)→∃ (its:List Value) (n:Nat),av xs its∧s.heap.get? l=some { cls:=.type "list",data:=.seq its.toArray n }:=fun {l xs} h=>by
  rcases h with h | ⟨o,h⟩
  ·obtain ⟨_,its,n,r,e⟩:=I.hok l _ h;exact ⟨its,n,r,e⟩
  ·obtain ⟨_,_,its,n,r,e⟩:=I.hok l _ h;exact ⟨its,n,r,e⟩
 obtain ⟨its,n1,r,e⟩:=g hH
 obtain ⟨its2,n2,r2,e2⟩:=g hB
 refine PySem.P.add_list e e2 ?_ (by rw [List.size_toArray,List.size_toArray,← r.length,← r2.length];exact hz)
 have ea:its.toArray ++ its2.toArray=(its ++ its2).toArray:=by simp
 rw [ea]
 exact ⟨.ref _,_,I.lnew (t':=s.toks) (r.append r2) (by rw [List.length_append];omega),rfl,q _ I.fresh⟩
variable (hK:W.K=X.K)
include hK
theorem uO:OpR X (binaryOp .Add) (rD W (opD .add)):=by
 intro pins s σ H x y v u Q I rx ry h
 obtain ⟨ρ,G,d1,d2,d,gh,h1,h2,e,k⟩:=h
 cases d1 with
 | int i=>cases d2 with
   | int j=>cases e;cases cN h1;cases cN h2;exact yo pins s σ H _ _ v u Q I rx ry ⟨i,j,rfl,rfl,k.i⟩
   | _=>cases e
 | str i=>cases d2 with
   | str j=>
     unfold opD at e
     dsimp only at e
     rw [if_pos rfl] at e
     unfold iH at e
     split at e
     ·rename_i hz;cases e;cases ik h1;cases ik h2;exact mD pins s σ H _ _ v u Q I rx ry ⟨i,j,rfl,rfl,big hz,k.s⟩
     ·cases e
   | _=>cases e
 | tup a=>cases d2 with
   | tup b=>
     unfold opD at e
     dsimp only at e
     rw [if_pos rfl] at e
     unfold iH at e
     split at e
     ·rename_i hz;cases e
      obtain ⟨p,vs,rfl,t1,r1⟩:=id h1
      obtain ⟨q,ws,rfl,t2,r2⟩:=id h2
      have u1:=aA gh t1
      have u2:=aA gh t2
      rw [hK] at u1 u2
      have l1:=r1.len
      have l2:=r2.len
      cases vs with
      | nil=>
        cases (show a = [] from List.length_eq_zero_iff.mp l1)
        exact uL pins s σ H _ _ v u Q I rx ry ⟨p,q,ws,rfl,rfl,u1.sq,u2.sq,k.1 _ h2⟩
      | cons v0 vs=>
        refine uN pins s σ H _ _ v u Q I rx ry ⟨p,q,_,ws,rfl,rfl,u1.sq,u2.sq,(by simp),(by rw [← l1,← l2];exact big hz),fun z=>?_,fun z p hp=>k.t gh (r1.app r2) hp⟩
        subst z
        cases (show b = [] from List.length_eq_zero_iff.mp l2)
        rw [List.append_nil] at k
        exact k.1 _ h1
     ·cases e
   | _=>cases e
 | lst a=>cases d2 with
   | lst b=>
     unfold opD at e
     dsimp only at e
     rw [if_pos rfl] at e
     unfold iH at e
     split at e
     ·rename_i hz;cases e
      obtain ⟨p,vs,rfl,t1,r1⟩:=h1
      obtain ⟨q,ws,rfl,t2,r2⟩:=h2
      have l1:=r1.len
      have l2:=r2.len
      exact uM pins s σ H _ _ v u Q I rx ry ⟨p,q,vs,ws,rfl,rfl,t1,t2,(by rw [← l1,← l2];exact big hz),fun p hp=>k.l gh (r1.app r2) hp⟩
     ·cases e
   | _=>cases e
 | _=>cases d2 <;> cases e
omit hK in
theorem zV {o:Op} (ho:o≠.add∧o≠.eq∧o≠.ne∧o≠.isin∧o≠.notin) {d1 d2 d:D} (e:opD o d1 d2=some d):∃ i j,d1 = .int i∧d2 = .int j∧opI o i j=some d:=by
 obtain ⟨n1,n2,n3,n4,n5⟩:=ho
 unfold opD at e
 split at e
 ·exact absurd rfl n2
 ·exact absurd rfl n3
 ·exact absurd rfl n4
 ·exact absurd rfl n5
 ·split at e
  ·exact ⟨_,_,rfl,rfl,e⟩
  all_goals first | (cases e;done) | (rw [if_neg n1] at e;cases e)
omit hK in
theorem bU {f:Value→Value→Sem Value} {o:Op} (ho:o≠.add∧o≠.eq∧o≠.ne∧o≠.isin∧o≠.notin) {r:R2} (h:OpR X f r) (g:∀ {i j:Int} {d:D} {ρ:List Addr} {G H:Hp} {Q:VK},opI o i j=some d→cY W ρ G H d Q→r (.int i) (.int j) H Q):OpR X f (rD W (opD o)):=by
 intro pins s σ H x y v u Q I rx ry h'
 obtain ⟨ρ,G,d1,d2,d,gh,h1,h2,e,k⟩:=h'
 obtain ⟨i,j,rfl,rfl,e2⟩:=zV ho e
 cases cN h1;cases cN h2
 exact h pins s σ H _ _ v u Q I rx ry (g e2 k)
omit hK in
theorem uS:OpR X (binaryOp .Sub) (rD W (opD .sub)):=bU (by decide) yB fun e k=>by cases e;exact ⟨_,_,rfl,rfl,k.i⟩
omit hK in
theorem uR:OpR X (binaryOp .Mult) (rD W (opD .mul)):=bU (by decide) uU fun e k=>by
 unfold opI at e;dsimp only at e;split at e
 ·rename_i c;cases e;exact ⟨_,_,rfl,rfl,c,k.i⟩
 ·cases e
omit hK in
theorem rT:OpR X (binaryOp .FloorDiv) (rD W (opD .fdiv)):=bU (by decide) rU fun e k=>by
 unfold opI at e;dsimp only at e;split at e
 ·rename_i c;cases e;exact ⟨_,_,rfl,rfl,c,k.i⟩
 ·cases e
omit hK in
theorem uQ:OpR X (binaryOp .Mod) (rD W (opD .mod)):=bU (by decide) yA fun e k=>by
 unfold opI at e;dsimp only at e;split at e
 ·rename_i c;cases e;exact ⟨_,_,rfl,rfl,c,k.i⟩
 ·cases e
omit hK in
theorem uP:OpR X (binaryOp .BitAnd) (rD W (opD .band)):=bU (by decide) yp fun e k=>by cases e;exact ⟨_,_,rfl,rfl,k.i⟩
omit hK in
theorem yy:OpR X (compareOp .Lt) (rD W (opD .lt)):=bU (by decide) As fun e k=>by cases e;exact ⟨_,_,rfl,rfl,k.b⟩
omit hK in
theorem yw:OpR X (compareOp .LtE) (rD W (opD .le)):=bU (by decide) Ar fun e k=>by cases e;exact ⟨_,_,rfl,rfl,k.b⟩
omit hK in
theorem yt:OpR X (compareOp .Gt) (rD W (opD .gt)):=bU (by decide) Aq fun e k=>by cases e;exact ⟨_,_,rfl,rfl,k.b⟩
omit hK in
theorem yr:OpR X (compareOp .GtE) (rD W (opD .ge)):=bU (by decide) Ap fun e k=>by cases e;exact ⟨_,_,rfl,rfl,k.b⟩
end
section
variable {W:Wd} {X:Cx} {ρ:List Addr} {G H:Hp} {Q:VK}
theorem vt {A:Around} {s:Shared} {d e:D} {u v:Value} {x y:V} (f1:sh d=0) (f2:sh e=0) (h1:RD W ρ G d x) (h2:RD W ρ G e y) (ru:ar x u) (rv:ar y v):SeqAt.RcAt A s u v (eqf d e):=by
 cases d with
 | non=>
   cases (show x=_ from h1);cases (show u=Value.none from ru)
   cases e with
   | non=>cases (show y=_ from h2);cases (show v=Value.none from rv);exact SeqAt.RcAt.none_none
   | bl b=>cases (show y=_ from h2);cases (show v=Value.bool b from rv);exact SeqAt.RcAt.none_bool _
   | int b=>cases (show y=_ from h2);obtain ⟨t,q⟩:=(show ∃ t,v=Value.int b t from rv);subst q;exact SeqAt.RcAt.none_int _ _
   | str b=>cases (show y=_ from h2);obtain ⟨t,q⟩:=(show ∃ t,v=Value.str b t from rv);subst q;exact SeqAt.RcAt.none_str _ _
   | _=>cases f2
 | bl a=>
   cases (show x=_ from h1);cases (show u=Value.bool a from ru)
   cases e with
   | non=>cases (show y=_ from h2);cases (show v=Value.none from rv);exact SeqAt.RcAt.bool_none _
   | bl b=>cases (show y=_ from h2);cases (show v=Value.bool b from rv);exact SeqAt.RcAt.bool_bool _ _
   | int b=>cases (show y=_ from h2);obtain ⟨t,q⟩:=(show ∃ t,v=Value.int b t from rv);subst q;exact SeqAt.RcAt.bool_int _ _ _
   | str b=>cases (show y=_ from h2);obtain ⟨t,q⟩:=(show ∃ t,v=Value.str b t from rv);subst q;exact SeqAt.RcAt.bool_str _ _ _
   | _=>cases f2
 | int a=>
   cases (show x=_ from h1);obtain ⟨t,q⟩:=(show ∃ t,u=Value.int a t from ru);subst q
   cases e with
   | non=>cases (show y=_ from h2);cases (show v=Value.none from rv);exact SeqAt.RcAt.int_none _ _
   | bl b=>cases (show y=_ from h2);cases (show v=Value.bool b from rv);exact SeqAt.RcAt.int_bool _ _ _
   | int b=>cases (show y=_ from h2);obtain ⟨t,q⟩:=(show ∃ t,v=Value.int b t from rv);subst q;exact SeqAt.RcAt.int_int _ _ _ _
   | str b=>cases (show y=_ from h2);obtain ⟨t,q⟩:=(show ∃ t,v=Value.str b t from rv);subst q;exact SeqAt.RcAt.int_str _ _ _ _
   | _=>cases f2
 | str a=>
   cases (show x=_ from h1);obtain ⟨t,q⟩:=(show ∃ t,u=Value.str a t from ru);subst q
   cases e with
   | non=>cases (show y=_ from h2);cases (show v=Value.none from rv);exact SeqAt.RcAt.str_none _ _
   | bl b=>cases (show y=_ from h2);cases (show v=Value.bool b from rv);exact SeqAt.RcAt.str_bool _ _ _
   | int b=>cases (show y=_ from h2);obtain ⟨t,q⟩:=(show ∃ t,v=Value.int b t from rv);subst q;exact SeqAt.RcAt.str_int _ _ _ _
   | str b=>cases (show y=_ from h2);obtain ⟨t,q⟩:=(show ∃ t,v=Value.str b t from rv);subst q;exact SeqAt.RcAt.str_str _ _ _ _
   | _=>cases f2
 | _=>cases f1
theorem pJ {A:Around} {s:Shared} {d e:D} {u v:Value} {x y:V} (f1:sh d=0) (f2:sh e=0) (h1:RD W ρ G d x) (h2:RD W ρ G e y) (ru:ar x u) (rv:ar y v):SeqAt.RcNeAt A s u v (!eqf d e):=by
 cases d with
 | non=>
   cases (show x=_ from h1);cases (show u=Value.none from ru)
   cases e with
   | non=>cases (show y=_ from h2);cases (show v=Value.none from rv);exact SeqAt.RcNeAt.none_none
   | bl b=>cases (show y=_ from h2);cases (show v=Value.bool b from rv);exact SeqAt.RcNeAt.none_bool _
   | int b=>cases (show y=_ from h2);obtain ⟨t,q⟩:=(show ∃ t,v=Value.int b t from rv);subst q;exact SeqAt.RcNeAt.none_int _ _
   | str b=>cases (show y=_ from h2);obtain ⟨t,q⟩:=(show ∃ t,v=Value.str b t from rv);subst q;exact SeqAt.RcNeAt.none_str _ _
   | _=>cases f2
 | bl a=>
   cases (show x=_ from h1);cases (show u=Value.bool a from ru)
   cases e with
   | non=>cases (show y=_ from h2);cases (show v=Value.none from rv);exact SeqAt.RcNeAt.bool_none _
   | bl b=>cases (show y=_ from h2);cases (show v=Value.bool b from rv);exact SeqAt.RcNeAt.bool_bool _ _
   | int b=>cases (show y=_ from h2);obtain ⟨t,q⟩:=(show ∃ t,v=Value.int b t from rv);subst q;exact SeqAt.RcNeAt.bool_int _ _ _
   | str b=>cases (show y=_ from h2);obtain ⟨t,q⟩:=(show ∃ t,v=Value.str b t from rv);subst q;exact SeqAt.RcNeAt.bool_str _ _ _
   | _=>cases f2
 | int a=>
   cases (show x=_ from h1);obtain ⟨t,q⟩:=(show ∃ t,u=Value.int a t from ru);subst q
   cases e with
   | non=>cases (show y=_ from h2);cases (show v=Value.none from rv);exact SeqAt.RcNeAt.int_none _ _
   | bl b=>cases (show y=_ from h2);cases (show v=Value.bool b from rv);exact SeqAt.RcNeAt.int_bool _ _ _
   | int b=>cases (show y=_ from h2);obtain ⟨t,q⟩:=(show ∃ t,v=Value.int b t from rv);subst q;exact SeqAt.RcNeAt.int_int _ _ _ _
   | str b=>cases (show y=_ from h2);obtain ⟨t,q⟩:=(show ∃ t,v=Value.str b t from rv);subst q;exact SeqAt.RcNeAt.int_str _ _ _ _
   | _=>cases f2
 | str a=>
   cases (show x=_ from h1);obtain ⟨t,q⟩:=(show ∃ t,u=Value.str a t from ru);subst q
   cases e with
   | non=>cases (show y=_ from h2);cases (show v=Value.none from rv);exact SeqAt.RcNeAt.str_none _ _
   | bl b=>cases (show y=_ from h2);cases (show v=Value.bool b from rv);exact SeqAt.RcNeAt.str_bool _ _ _
   | int b=>cases (show y=_ from h2);obtain ⟨t,q⟩:=(show ∃ t,v=Value.int b t from rv);subst q;exact SeqAt.RcNeAt.str_int _ _ _ _
   | str b=>cases (show y=_ from h2);obtain ⟨t,q⟩:=(show ∃ t,v=Value.str b t from rv);subst q;exact SeqAt.RcNeAt.str_str _ _ _ _
   | _=>cases f2
 | _=>cases f1
theorem sH {A:Around} {s:Shared} {x:V} {u:Value} (fx:fP x=true) (ru:ar x u) (hu:A.units<cLine):(∀ {b:Addr} {its:Array Value},s.heap.IsTuple b its→SeqAt.RcAt A s u (.ref b) false∧SeqAt.RcAt A s (.ref b) u false)∧(∀ {b:Addr} {its:Array Value},s.heap.IsList b its→SeqAt.RcAt A s u (.ref b) false∧SeqAt.RcAt A s (.ref b) u false):=by
 cases x with
 | non=>cases (show u=Value.none from ru);exact ⟨fun p=>⟨SeqAt.RcAt.none_tuple p hu,SeqAt.RcAt.tuple_none p hu⟩,fun p=>⟨SeqAt.RcAt.none_list p hu,SeqAt.RcAt.list_none p hu⟩⟩
 | bl k=>cases (show u=Value.bool k from ru);exact ⟨fun p=>⟨SeqAt.RcAt.bool_tuple k p hu,SeqAt.RcAt.tuple_bool k p hu⟩,fun p=>⟨SeqAt.RcAt.bool_list k p hu,SeqAt.RcAt.list_bool k p hu⟩⟩
 | int k=>obtain ⟨t,e⟩:=(show ∃ t,u=Value.int k t from ru);subst e;exact ⟨fun p=>⟨SeqAt.RcAt.int_tuple k t p hu,SeqAt.RcAt.tuple_int k t p hu⟩,fun p=>⟨SeqAt.RcAt.int_list k t p hu,SeqAt.RcAt.list_int k t p hu⟩⟩
 | str k=>obtain ⟨t,e⟩:=(show ∃ t,u=Value.str k t from ru);subst e;exact ⟨fun p=>⟨SeqAt.RcAt.str_tuple k t p hu,SeqAt.RcAt.tuple_str k t p hu⟩,fun p=>⟨SeqAt.RcAt.str_list k t p hu,SeqAt.RcAt.list_str k t p hu⟩⟩
 | _=>cases fx
theorem ls {A:Around} {s:Shared} {x:V} {u:Value} (fx:fP x=true) (ru:ar x u) (hu:A.units<cLine):(∀ {b:Addr} {its:Array Value},s.heap.IsTuple b its→SeqAt.RcNeAt A s u (.ref b) true∧SeqAt.RcNeAt A s (.ref b) u true)∧(∀ {b:Addr} {its:Array Value},s.heap.IsList b its→SeqAt.RcNeAt A s u (.ref b) true∧SeqAt.RcNeAt A s (.ref b) u true):=by
 cases x with
 | non=>cases (show u=Value.none from ru);exact ⟨fun p=>⟨SeqAt.RcNeAt.none_tuple p hu,SeqAt.RcNeAt.tuple_none p hu⟩,fun p=>⟨SeqAt.RcNeAt.none_list p hu,SeqAt.RcNeAt.list_none p hu⟩⟩
 | bl k=>cases (show u=Value.bool k from ru);exact ⟨fun p=>⟨SeqAt.RcNeAt.bool_tuple k p hu,SeqAt.RcNeAt.tuple_bool k p hu⟩,fun p=>⟨SeqAt.RcNeAt.bool_list k p hu,SeqAt.RcNeAt.list_bool k p hu⟩⟩
 | int k=>obtain ⟨t,e⟩:=(show ∃ t,u=Value.int k t from ru);subst e;exact ⟨fun p=>⟨SeqAt.RcNeAt.int_tuple k t p hu,SeqAt.RcNeAt.tuple_int k t p hu⟩,fun p=>⟨SeqAt.RcNeAt.int_list k t p hu,SeqAt.RcNeAt.list_int k t p hu⟩⟩
 | str k=>obtain ⟨t,e⟩:=(show ∃ t,u=Value.str k t from ru);subst e;exact ⟨fun p=>⟨SeqAt.RcNeAt.str_tuple k t p hu,SeqAt.RcNeAt.tuple_str k t p hu⟩,fun p=>⟨SeqAt.RcNeAt.str_list k t p hu,SeqAt.RcNeAt.list_str k t p hu⟩⟩
 | _=>cases fx
variable (hK:W.K=X.K)
include hK
theorem lr {n:Nat} {pins:List (Addr×Obj)} {s:Shared} {σ:St} {H:Hp} {G:Hp} {ρ:List Addr} {A:Around} {da db:List D} {vs ws:List V} {i1 i2:List Value} {y:Bool} (I:Inv X pins σ H s) (gh:Sub G H) (q:c7 (eqv n) da db=some y) (r1:RDs W ρ G da vs) (r2:RDs W ρ G db ws) (v1:av vs i1) (v2:av ws i2) (hu:A.units+n+1<cLine) :
 (∀ j (h1:j<i1.toArray.size) (h2:j<i2.toArray.size),SeqAt.EqAt A s i1.toArray[j] i2.toArray[j] ((fun j=>(eqv n (da[j]?.getD .non) (db[j]?.getD .non)).getD false) j))∧(List.range (min i1.toArray.size i2.toArray.size)).all (fun j=>(eqv n (da[j]?.getD .non) (db[j]?.getD .non)).getD false)=y:=by
 obtain ⟨q1,q2⟩:=eC q
 have l1:=v1.length
 have l2:=v2.length
 have l3:=r1.len
 have l4:=r2.len
 refine ⟨fun j h1 h2=>?_,?_⟩
 ·have hjd:j<da.length:=by simp at h1;omega
  have hje:j<db.length:=by simp at h2;omega
  obtain ⟨x1,e1,w1⟩:=r1.get (List.getElem?_eq_getElem hjd)
  obtain ⟨y1,e2,w2⟩:=r2.get (List.getElem?_eq_getElem hje)
  obtain ⟨c,hc⟩:=q1 j hjd hje
  simp only [List.getElem?_eq_getElem hjd,List.getElem?_eq_getElem hje,Option.getD_some,hc]
  exact wd hK I gh n hc (dP gh w1) (dP gh w2) (dW v1 e1 h1) (dW v2 e2 h2) hu
 ·rw [q2,List.size_toArray,List.size_toArray,← l1,← l2,← l3,← l4]
theorem wv {k:Nat} (hr:Room k X.A) {pins:List (Addr×Obj)} {s:Shared} {σ:St} {H:Hp} {x y:V} {u v:Value} {ρ:List Addr} {G:Hp} {d e:D} {b:Bool} (I:Inv X pins σ H s) (gh:Sub G H) (h:eqv 55 d e=some b) (h1:RL W ρ G H d x) (h2:RL W ρ G H e y) (ru:ar x u) (rv:ar y v) :
 SeqAt.RcAt X.A s u v b∧SeqAt.RcNeAt X.A s u v (!b):=by
 have hun:=hr.un
 rcases fg h with ⟨da,db,y,rfl,rfl,q,rfl⟩ | ⟨da,db,rfl,rfl,q⟩ | h
 ·obtain ⟨a,vs,rfl,t,r1⟩:=h1
  obtain ⟨a',ws,rfl,t',r2⟩:=h2
  cases ru;cases rv
  have t:=aA gh t
  have t':=aA gh t'
  rw [hK] at t t'
  obtain ⟨i1,v1,p1,z1⟩:=I.tuple t.sq
  obtain ⟨i2,v2,p2,z2⟩:=I.tuple t'.sq
  obtain ⟨it,val⟩:=lr (A:=X.A.in1) hK I gh q r1 r2 v1 v2 (by show X.A.units+1+54+1<cLine;omega)
  have k1:=SeqAt.RcAt.tuples (A:=X.A) (s:=s) p1 p2 (by omega) it
  have k2:=SeqAt.RcNeAt.tuples (A:=X.A) (s:=s) p1 p2 (by omega) it
  have l1:=v1.length
  have l2:=v2.length
  have l3:=r1.len
  have l4:=r2.len
  rw [val,List.size_toArray,List.size_toArray,← l1,← l2,← l3,← l4] at k1 k2
  exact ⟨k1,k2⟩
 ·obtain ⟨a,vs,rfl,t,r1⟩:=h1
  obtain ⟨a',ws,rfl,t',r2⟩:=h2
  cases ru;cases rv
  obtain ⟨i1,v1,p1,z1⟩:=I.list (show SqL X.K H a vs from .inl t)
  obtain ⟨i2,v2,p2,z2⟩:=I.list (show SqL X.K H a' ws from .inl t')
  have l1:=v1.length
  have l2:=v2.length
  have l3:=r1.len
  have l4:=r2.len
  rcases q with ⟨hl,q⟩ | ⟨hl,rfl⟩
  ·obtain ⟨it,val⟩:=lr (A:=X.A.in1) hK I gh q r1 r2 v1 v2 (by show X.A.units+1+54+1<cLine;omega)
   have k1:=SeqAt.RcAt.lists (A:=X.A) (s:=s) p1.isList p2.isList (by simp;omega) (by omega) it
   have k2:=SeqAt.RcNeAt.lists (A:=X.A) (s:=s) p1.isList p2.isList (by simp;omega) (by omega) it
   have m:min i1.toArray.size i2.toArray.size=i1.toArray.size:=by simp;omega
   rw [m] at val
   rw [val] at k1 k2
   exact ⟨k1,k2⟩
  ·exact ⟨SeqAt.RcAt.lists_lengths p1.isList p2.isList (by simp;omega) (by omega),SeqAt.RcNeAt.lists_lengths p1.isList p2.isList (by simp;omega) (by omega)⟩
 ·have hu:X.A.units<cLine:=by omega
  have it:∀ {d:D} {x:V} {u:Value},(sh d=1∨sh d=2)→RL W ρ G H d x→ar x u→∃ a,u = .ref a∧((sh d=1∧∃ its,s.heap.IsTuple a its)∨(sh d=2∧∃ its,s.heap.IsList a its)):=fun {d x u} f h r=>by
   rcases f with f | f
   ·obtain ⟨l,rfl⟩:=j7 f
    obtain ⟨a,vs,rfl,t,_⟩:=h
    cases r
    have t:=aA gh t
    rw [hK] at t
    obtain ⟨i1,r1,p1,z1⟩:=I.tuple t.sq
    exact ⟨a,rfl,.inl ⟨rfl,_,p1⟩⟩
   ·obtain ⟨l,rfl⟩:=j6 f
    obtain ⟨a,vs,rfl,t,_⟩:=h
    cases r
    obtain ⟨i1,r1,p1,z1⟩:=I.list (show SqL X.K H a vs from .inl t)
    exact ⟨a,rfl,.inr ⟨rfl,_,p1.isList⟩⟩
  rcases gL h with ⟨f1,f2,rfl⟩ | ⟨rfl,c⟩
  ·exact ⟨vt f1 f2 (bE f1 h1) (bE f2 h2) ru rv,pJ f1 f2 (bE f1 h1) (bE f2 h2) ru rv⟩
  ·rcases c with ⟨c1,c2⟩ | ⟨c1,c2⟩ | ⟨c1,c2⟩ | ⟨c1,c2⟩
   ·obtain ⟨p,q⟩:=sH (s:=s) (flV (bE c1 h1) c1) ru hu
    obtain ⟨p',q'⟩:=ls (s:=s) (flV (bE c1 h1) c1) ru hu
    obtain ⟨a,rfl,⟨_,its,w⟩ | ⟨_,its,w⟩⟩:=it c2 h2 rv
    ·exact ⟨(p w).1,(p' w).1⟩
    ·exact ⟨(q w).1,(q' w).1⟩
   ·obtain ⟨p,q⟩:=sH (s:=s) (flV (bE c2 h2) c2) rv hu
    obtain ⟨p',q'⟩:=ls (s:=s) (flV (bE c2 h2) c2) rv hu
    obtain ⟨a,rfl,⟨_,its,w⟩ | ⟨_,its,w⟩⟩:=it c1 h1 ru
    ·exact ⟨(p w).2,(p' w).2⟩
    ·exact ⟨(q w).2,(q' w).2⟩
   ·obtain ⟨a,rfl,q⟩:=it (.inl c1) h1 ru
    obtain ⟨b,rfl,q'⟩:=it (.inr c2) h2 rv
    rcases q with ⟨_,i1,p1⟩ | ⟨z,_⟩
    ·rcases q' with ⟨z,_⟩ | ⟨_,i2,p2⟩
     ·omega
     ·exact ⟨SeqAt.RcAt.tuple_list p1 p2 hu,SeqAt.RcNeAt.tuple_list p1 p2 hu⟩
    ·omega
   ·obtain ⟨a,rfl,q⟩:=it (.inr c1) h1 ru
    obtain ⟨b,rfl,q'⟩:=it (.inl c2) h2 rv
    rcases q with ⟨z,_⟩ | ⟨_,i1,p1⟩
    ·omega
    ·rcases q' with ⟨_,i2,p2⟩ | ⟨z,_⟩
     ·exact ⟨SeqAt.RcAt.list_tuple p1 p2 hu,SeqAt.RcNeAt.list_tuple p1 p2 hu⟩
     ·omega
theorem yq {k:Nat} (hr:Room k X.A):OpR X (compareOp .Eq) (rD W (opD .eq)):=by
 intro pins s σ H x y v u Q I rx ry h
 obtain ⟨ρ,G,d1,d2,d,gh,h1,h2,e,kk⟩:=h
 have e':(eqv 55 d1 d2).map D.bl=some d:=e
 cases q:eqv 55 d1 d2 with
 | none=>rw [q] at e';cases e'
 | some b=>rw [q] at e';cases e';exact (wv hK hr I gh q h1 h2 rx ry).1 _ _ _ _ ⟨.bl b,H,I,rfl,kk.b⟩
theorem yz {k:Nat} (hr:Room k X.A):OpR X (compareOp .NotEq) (rD W (opD .ne)):=by
 intro pins s σ H x y v u Q I rx ry h
 obtain ⟨ρ,G,d1,d2,d,gh,h1,h2,e,kk⟩:=h
 have e':(eqv 55 d1 d2).map (fun x=>D.bl (!x))=some d:=e
 cases q:eqv 55 d1 d2 with
 | none=>rw [q] at e';cases e'
 | some b=>rw [q] at e';cases e';exact (wv hK hr I gh q h1 h2 rx ry).2 _ _ _ _ ⟨.bl (!b),H,I,rfl,kk.b⟩
omit hK in
theorem nL {d:D}:∀ {l:List D} {b:Bool},inD d l=some b→(∀ j (h:j<l.length),∃ c,eqv 55 l[j] d=some c)∧b=l.any fun e=>(eqv 55 e d).getD false
 | [],b,h=>by cases h;exact ⟨fun j h=>absurd h (Nat.not_lt_zero _),rfl⟩
 | e :: r,b,h=>by
   unfold inD at h
   cases q:eqv 55 e d with
   | none=>rw [q] at h;cases h
   | some x=>
     rw [q] at h
     cases q2:inD d r with
     | none=>rw [q2] at h;cases h
     | some y=>
       rw [q2] at h;cases h
       obtain ⟨i1,i2⟩:=nL q2
       refine ⟨fun j h=>?_,by rw [List.any_cons,q,i2];rfl⟩
       cases j with
       | zero=>exact ⟨x,q⟩
       | succ j=>exact i1 j (Nat.lt_of_succ_lt_succ h)
theorem eL {k:Nat} (hr:Room k X.A) {pins:List (Addr×Obj)} {s:Shared} {σ:St} {H:Hp} {G:Hp} {ρ:List Addr} {d:D} {l:List D} {vs:List V} {its:List Value} {x:V} {v:Value} {b:Bool} (I:Inv X pins σ H s) (gh:Sub G H) (q:inD d l=some b) (r:RDs W ρ G l vs) (vv:av vs its) (hd:RL W ρ G H d x) (rx:ar x v) :
 ∃ e:Value→Bool,(∀ z,z∈its.toArray→SeqAt.EqAt X.A.in1 s z v (e z))∧its.toArray.any e=b:=by
 obtain ⟨q1,q2⟩:=nL q
 have l1:=vv.length
 have l3:=r.len
 have hun:=hr.un
 have eqs:∀ j (h1:j<its.toArray.size) (h2:j<l.length),SeqAt.EqAt X.A.in1 s its.toArray[j] v ((eqv 55 l[j] d).getD false):=fun j h1 h2=>by
  obtain ⟨x1,e1,w1⟩:=r.get (List.getElem?_eq_getElem h2)
  obtain ⟨c,hc⟩:=q1 j h2
  rw [hc]
  exact wd hK I gh 55 hc (dP gh w1) hd (dW vv e1 h1) rx (by show X.A.units+1+55+1<cLine;omega)
 have cl:∀ z,Decidable (∃ j,∃ (h1:j<its.toArray.size) (h2:j<l.length),its.toArray[j]=z∧(eqv 55 l[j] d).getD false=true):=fun z=>Classical.propDecidable _
 refine ⟨fun z=>@decide _ (cl z),fun z hz=>?_,?_⟩
 ·rcases Classical.em (∃ j,∃ (h1:j<its.toArray.size) (h2:j<l.length),its.toArray[j]=z∧(eqv 55 l[j] d).getD false=true) with c | c
  ·obtain ⟨j,h1,h2,e,t⟩:=id c
   have w:=eqs j h1 h2
   rw [e,t] at w
   dsimp only
   rw [show @decide _ (cl z)=true from @decide_eq_true _ (cl z) c]
   exact w
  ·obtain ⟨j,h1,e⟩:=Array.getElem_of_mem hz
   have h2:j<l.length:=by simp at h1;omega
   have w:=eqs j h1 h2
   have t:(eqv 55 l[j] d).getD false=false:=by
    cases t:(eqv 55 l[j] d).getD false with
    | false=>rfl
    | true=>exact absurd ⟨j,h1,h2,e,t⟩ c
   rw [e,t] at w
   dsimp only
   rw [show @decide _ (cl z)=false from @decide_eq_false _ (cl z) c]
   exact w
 ·rw [q2,Bool.eq_iff_iff,Array.any_eq_true,List.any_eq_true]
  constructor
  ·rintro ⟨i,hi,t⟩
   obtain ⟨j,h1,h2,e,t⟩:=@of_decide_eq_true _ (cl _) t
   exact ⟨l[j],List.getElem_mem h2,t⟩
  ·rintro ⟨e,he,t⟩
   obtain ⟨j,h2,rfl⟩:=List.getElem_of_mem he
   have h1:j<its.toArray.size:=by simp;omega
   exact ⟨j,h1,@decide_eq_true _ (cl _) ⟨j,h1,h2,rfl,t⟩⟩
end
section
variable {W:Wd} {X:Cx} {ρ:List Addr} {G H:Hp} {Q:VK}
theorem RDs.at {ds:List D} {vs:List V} {i:Int} {d:D} (r:RDs W ρ G ds vs) (e:atI ds i=some d):∃ v,atI vs i=some v∧RD W ρ G d v:=by
 unfold atI at e ⊢
 rw [← r.len]
 cases q:ixN ds.length i with
 | none=>rw [q] at e;cases e
 | some j=>
   rw [q] at e
   exact r.get e
theorem cB:∀ {ks:List Key} {ds:List D} {vs:List V} {k:Key},ks.length=ds.length→RDs W ρ G ds vs→(∀ d,cP ks ds k=some d→∃ v,bO (aE ks vs) k=some v∧RD W ρ G d v)∧(cP ks ds k=none→bO (aE ks vs) k=none)
 | [],[],vs,k,_,_=>⟨fun d h=>(by cases h),fun _=>rfl⟩
 | [],_ :: _,_,_,h,_=>by cases h
 | _ :: _,[],_,_,h,_=>by cases h
 | q :: ks,e :: ds,vs,k,h,r=>by
   obtain ⟨v,ws,rfl,r1,r2⟩:=r
   obtain ⟨i1,i2⟩:=cB (k:=k) (Nat.succ.inj h) r2
   show (∀ d,(if q=k then some e else cP ks ds k)=some d→∃ v',bO ((q,v) :: aE ks ws) k=some v'∧_)∧((if q=k then some e else cP ks ds k)=none→bO ((q,v) :: aE ks ws) k=none)
   by_cases c:q=k
   ·rw [if_pos c]
    refine ⟨fun d h=>?_,fun h=>by cases h⟩
    cases h
    exact ⟨v,eV c,r1⟩
   ·rw [if_neg c]
    have n:bO ((q,v) :: aE ks ws) k=bO (aE ks ws) k:=by simp [bO,List.find?_cons,c]
    rw [n]
    exact ⟨i1,i2⟩
theorem jK {d:D} {k:Key} {y:V} (e:aM d=some k) (h:RL W ρ G H d y):y=kV k:=by
 cases d with
 | int i=>cases e;exact h
 | str i=>cases e;exact h
 | _=>cases e
theorem uf (hu:X.A.units+1<cLine):IxR X (fun x y H Q=>∃ a v,x = .ref a∧eX H a y (some v)∧Q v H):=by
 intro value slice pins s σ H x y v u Q I rx ry h hs
 obtain ⟨a,z,rfl,g,q⟩:=h
 cases rx
 exact tail_any (kB I g) PySem.F.slot_dict_getitem.lookup (o6 hu I g ry fun w' s3 I3 rw'=>⟨z,H,I3,rw',q⟩) hs
variable (hK:W.K=X.K)
include hK
theorem BB {k:Nat} (hr:Room k X.A):IxR X (rD W ixD):=by
 intro value slice pins s σ H x y v u Q I rx ry h hs
 obtain ⟨ρ,G,d1,d2,d,gh,h1,h2,e,kk⟩:=h
 cases d1 with
 | tup l=>cases d2 with
   | int i=>
     obtain ⟨a,vs,rfl,t,r⟩:=h1
     obtain ⟨w,ew,rw'⟩:=r.at (show atI l i=some d from e)
     have t:=aA gh t
     rw [hK] at t
     exact xw value slice pins s σ H _ _ v u Q I rx ry ⟨a,vs,i,w,rfl,cN h2,t.sq,ew,kk.1 _ rw'⟩ hs
   | _=>cases e
 | lst l=>cases d2 with
   | int i=>
     obtain ⟨a,vs,rfl,t,r⟩:=h1
     obtain ⟨w,ew,rw'⟩:=r.at (show atI l i=some d from e)
     exact ug value slice pins s σ H _ _ v u Q I rx ry ⟨a,vs,i,w,rfl,cN h2,.inl t,ew,kk.1 _ rw'⟩ hs
   | _=>cases e
 | str z=>cases d2 with
   | int i=>
     unfold ixD at e
     dsimp only at e
     split at e
     ·rename_i hz
      cases q:atI z.cps.toList i with
      | none=>rw [q] at e;cases e
      | some c=>rw [q] at e;cases e;exact xu value slice pins s σ H _ _ v u Q I rx ry ⟨z,i,c,ik h1,cN h2,big hz,q,kk.s⟩ hs
     ·cases e
   | _=>cases e
 | dic ks l=>
   obtain ⟨a,vs,rfl,t,hl,r⟩:=h1
   have e':((aM d2).bind fun k=>cP ks l k)=some d:=by cases d2 <;> exact e
   cases q:aM d2 with
   | none=>rw [q] at e';cases e'
   | some k=>
     rw [q] at e'
     obtain ⟨w,ew,rw'⟩:=(cB (k:=k) hl r).1 d e'
     have ky:=jK q h2
     subst ky
     exact uf hr.u1 value slice pins s σ H _ _ v u Q I rx ry ⟨a,w,rfl,.inl ⟨_,k,.inl t,rfl,ew.symm⟩,kk.1 _ rw'⟩ hs
 | _=>cases d2 <;> cases e
theorem yu {k:Nat} (hr:Room k X.A):OpR X (compareOp .In) (rD W (opD .isin)):=by
 intro pins s σ H x y v u Q I rx ry h
 obtain ⟨ρ,G,d1,d2,d,gh,h1,h2,e,kk⟩:=h
 cases d2 with
 | lst l=>
   have e':(inD d1 l).map D.bl=some d:=e
   cases q:inD d1 l with
   | none=>rw [q] at e';cases e'
   | some b=>
     rw [q] at e';cases e'
     obtain ⟨a,vs,rfl,t,r⟩:=h2
     cases ry
     obtain ⟨its,vv,pl,_⟩:=I.list (show SqL X.K H a vs from .inl t)
     obtain ⟨f,hf,ef⟩:=eL hK hr I gh q r vv h1 rx
     exact SeqAt.in_listAt f pl.isList hf ⟨.bl _,H,I,rfl,by rw [ef];exact kk.b⟩
 | tup l=>
   have e':(inD d1 l).map D.bl=some d:=e
   cases q:inD d1 l with
   | none=>rw [q] at e';cases e'
   | some b=>
     rw [q] at e';cases e'
     obtain ⟨a,vs,rfl,t,r⟩:=h2
     cases ry
     have t:=aA gh t
     rw [hK] at t
     obtain ⟨its,vv,pl,_⟩:=I.tuple t.sq
     obtain ⟨f,hf,ef⟩:=eL hK hr I gh q r vv h1 rx
     exact SeqAt.in_tupleAt f pl hf ⟨.bl _,H,I,rfl,by rw [ef];exact kk.b⟩
 | dic ks l=>
   have e':((aM d1).map fun k=>D.bl (cP ks l k).isSome)=some d:=e
   cases q:aM d1 with
   | none=>rw [q] at e';cases e'
   | some k=>
     rw [q] at e';cases e'
     obtain ⟨a,vs,rfl,t,hl,r⟩:=h2
     cases ry
     have ky:=jK q h1
     subst ky
     have ev:(bO (aE ks vs) k).isSome=(cP ks l k).isSome:=by
      obtain ⟨i1,i2⟩:=cB (k:=k) hl r
      cases z:cP ks l k with
      | none=>rw [i2 z];rfl
      | some d=>obtain ⟨w,ew,_⟩:=i1 d z;rw [ew];rfl
     exact Bt hr.u1 I (eX.k (k:=k) t) rx fun s3 I3=>⟨.bl _,H,I3,rfl,by rw [ev];exact kk.b⟩
 | _=>cases e
theorem pB {k:Nat} (hr:Room k X.A):OpR X (compareOp .NotIn) (rD W (opD .notin)):=by
 intro pins s σ H x y v u Q I rx ry h
 obtain ⟨ρ,G,d1,d2,d,gh,h1,h2,e,kk⟩:=h
 cases d2 with
 | lst l=>
   have e':(inD d1 l).map (fun x=>D.bl (!x))=some d:=e
   cases q:inD d1 l with
   | none=>rw [q] at e';cases e'
   | some b=>
     rw [q] at e';cases e'
     obtain ⟨a,vs,rfl,t,r⟩:=h2
     cases ry
     obtain ⟨its,vv,pl,_⟩:=I.list (show SqL X.K H a vs from .inl t)
     obtain ⟨f,hf,ef⟩:=eL hK hr I gh q r vv h1 rx
     exact SeqAt.notIn_listAt f pl.isList hf ⟨.bl _,H,I,rfl,by rw [ef];exact kk.b⟩
 | tup l=>
   have e':(inD d1 l).map (fun x=>D.bl (!x))=some d:=e
   cases q:inD d1 l with
   | none=>rw [q] at e';cases e'
   | some b=>
     rw [q] at e';cases e'
     obtain ⟨a,vs,rfl,t,r⟩:=h2
     cases ry
     have t:=aA gh t
     rw [hK] at t
     obtain ⟨its,vv,pl,_⟩:=I.tuple t.sq
     obtain ⟨f,hf,ef⟩:=eL hK hr I gh q r vv h1 rx
     exact SeqAt.notIn_tupleAt f pl hf ⟨.bl _,H,I,rfl,by rw [ef];exact kk.b⟩
 | dic ks l=>
   have e':((aM d1).map fun k=>D.bl (!(cP ks l k).isSome))=some d:=e
   cases q:aM d1 with
   | none=>rw [q] at e';cases e'
   | some k=>
     rw [q] at e';cases e'
     obtain ⟨a,vs,rfl,t,hl,r⟩:=h2
     cases ry
     have ky:=jK q h1
     subst ky
     have ev:(bO (aE ks vs) k).isSome=(cP ks l k).isSome:=by
      obtain ⟨i1,i2⟩:=cB (k:=k) hl r
      cases z:cP ks l k with
      | none=>rw [i2 z];rfl
      | some d=>obtain ⟨w,ew,_⟩:=i1 d z;rw [ew];rfl
     exact tY hr.u1 I (eX.k (k:=k) t) rx fun s3 I3=>⟨.bl _,H,I3,rfl,by rw [ev];exact kk.b⟩
 | _=>cases e
omit hK in
theorem RDs.cut {ds:List D} {vs:List V} (r:RDs W ρ G ds vs) (lo hi:Option Int):RDs W ρ G (oZ ds lo hi) (ku vs lo hi):=by
 unfold oZ ku
 rw [r.len]
 exact (r.drop _).take _
theorem BQ:SlR X (fun x lo hi H Q=>∃ ρ G d1 d,Sub G H∧RL W ρ G H d1 x∧slO d1 lo hi=some d∧cY W ρ G H d Q):=by
 intro pins s σ H x v vl vu lo hi sl Q I rx hs pl pu h
 obtain ⟨ρ,G,d1,d,gh,h1,e,kk⟩:=h
 cases d1 with
 | tup l=>
   cases e
   obtain ⟨a,vs,rfl,t,r⟩:=id h1
   have u:=aA gh t
   rw [hK] at u
   by_cases w:HT.sIx vs.length 0 lo=0∧HT.sIx vs.length vs.length hi=vs.length
   ·refine vE pins s σ H _ v vl vu lo hi sl Q I rx hs pl pu ⟨a,vs,rfl,u.sq,w,?_⟩
    have e:oZ l lo hi=l:=by
     unfold oZ
     rw [r.len,w.1,w.2,Nat.sub_zero,List.drop_zero,← r.len,List.take_length]
    rw [e] at kk
    exact kk.1 _ h1
   ·exact y0 pins s σ H _ v vl vu lo hi sl Q I rx hs pl pu ⟨a,vs,rfl,u.sq,w,fun p hp=>kk.t gh (r.cut lo hi) hp⟩
 | lst l=>
   cases e
   obtain ⟨a,vs,rfl,t,r⟩:=h1
   exact vD pins s σ H _ v vl vu lo hi sl Q I rx hs pl pu ⟨a,vs,rfl,.inl t,fun p hp=>kk.l gh (r.cut lo hi) hp⟩
 | str z=>
   unfold slO at e
   dsimp only at e
   split at e
   ·rename_i hz;cases e;exact yZ pins s σ H _ v vl vu lo hi sl Q I rx hs pl pu ⟨z,ik h1,big hz,kk.s⟩
   ·cases e
 | _=>cases e
end
noncomputable def RLs (W:Wd) (ρ:List Addr) (G H:Hp):List D→List V→Prop
 | [],vs=>vs = []
 | d :: ds,vs=>∃ v r,vs=v :: r∧RL W ρ G H d v∧RLs W ρ G H ds r
noncomputable def rBi (W:Wd) (b:Bi):List V→Hp→VK→Prop:=fun xs H Q=>∃ ρ G ds d,Sub G H∧RLs W ρ G H ds xs∧biD b ds=some d∧cY W ρ G H d Q
section
variable {W:Wd} {X:Cx} {ρ:List Addr} {G H:Hp} {Q:VK}
theorem mI {s:Sta} {σ:St} (rep:Rep W ρ G s σ H):∀ {ds:List D} {vs:List V},RBs W ρ G H ds vs→RLs W ρ G H (ds.map (look s.st)) vs
 | [],_,e=>e
 | _ :: _,_,⟨v,r,e,h,t⟩=>⟨v,r,e,bL rep h,mI rep t⟩
theorem RLs.one {d:D} {xs:List V} (h:RLs W ρ G H [d] xs):∃ x,xs = [x]∧RL W ρ G H d x:=by
 obtain ⟨v,r,rfl,h,t⟩:=h
 cases (show r = [] from t)
 exact ⟨v,rfl,h⟩
theorem oC:∀ {l:List D} {bs:List Str} {vs:List V},cO l=some bs→RDs W ρ G l vs→vs=bs.map V.str
 | [],bs,vs,e,r=>by cases e;exact r
 | d :: l,bs,vs,e,r=>by
   cases d with
   | str b=>
     have e':(cO l).map (b :: ·)=some bs:=e
     cases q:cO l with
     | none=>rw [q] at e';cases e'
     | some cs=>
       rw [q] at e';cases e'
       obtain ⟨v,r',rfl,h,t⟩:=r
       cases (show v = .str b from h)
       rw [oC q t];rfl
   | _=>cases e
theorem bi1 {b:Bi} {ds:List D} {d:D} (hb:b = .len∨b = .tuple∨b = .list∨b = .rev∨b = .all∨b = .sum∨b = .abs∨b = .str∨b = .int∨b = .dict) (e:biD b ds=some d):∃ x,ds = [x]:=by
 rcases ds with _ | ⟨x,_ | ⟨y,r⟩⟩
 ·rcases hb with h | h | h | h | h | h | h | h | h | h <;> subst h <;> cases e
 ·exact ⟨x,rfl⟩
 ·rcases hb with h | h | h | h | h | h | h | h | h | h <;> subst h <;> cases x <;> cases e
variable (hK:W.K=X.K)
include hK
theorem oW:aO X (.builtin "len") (rBi W .len):=by
 intro pins s σ H xs us Q I r h
 obtain ⟨ρ,G,ds,d,gh,rs,e,k⟩:=h
 obtain ⟨x,rfl⟩:=bi1 (by simp) e
 obtain ⟨y,rfl,rx⟩:=rs.one
 cases x with
 | tup l=>
   cases e
   obtain ⟨a,vs,rfl,t,q⟩:=rx
   have t:=aA gh t
   rw [hK] at t
   exact fb pins s σ H _ us Q I r (.inl ⟨a,vs,rfl,.inr t.sq,by rw [← q.len];exact k.i⟩)
 | lst l=>
   cases e
   obtain ⟨a,vs,rfl,t,q⟩:=rx
   exact fb pins s σ H _ us Q I r (.inl ⟨a,vs,rfl,.inl (.inl t),by rw [← q.len];exact k.i⟩)
 | str z=>
   unfold biD at e
   dsimp only at e
   split at e
   ·rename_i hz;cases e;cases ik rx;exact fb pins s σ H _ us Q I r (.inr ⟨z,rfl,big hz,k.i⟩)
   ·cases e
 | _=>cases e
theorem kj:aO X (.type "tuple") (rBi W .tuple):=by
 intro pins s σ H xs us Q I r h
 obtain ⟨ρ,G,ds,d,gh,rs,e,k⟩:=h
 obtain ⟨x,rfl⟩:=bi1 (by simp) e
 obtain ⟨y,rfl,rx⟩:=rs.one
 cases x with
 | tup l=>
   cases e
   obtain ⟨a,vs,rfl,t,q⟩:=id rx
   have t:=aA gh t
   rw [hK] at t
   exact dI pins s σ H _ us Q I r ⟨a,vs,rfl,.inr ⟨t.sq,k.1 _ rx⟩⟩
 | lst l=>
   cases e
   obtain ⟨a,vs,rfl,t,q⟩:=rx
   exact dI pins s σ H _ us Q I r ⟨a,vs,rfl,.inl ⟨.inl t,fun p hp=>k.t gh q hp⟩⟩
 | _=>cases e
theorem lU:aO X (.type "list") (rBi W .list):=by
 intro pins s σ H xs us Q I r h
 obtain ⟨ρ,G,ds,d,gh,rs,e,k⟩:=h
 obtain ⟨x,rfl⟩:=bi1 (by simp) e
 obtain ⟨y,rfl,rx⟩:=rs.one
 cases x with
 | tup l=>
   cases e
   obtain ⟨a,vs,rfl,t,q⟩:=rx
   have t:=aA gh t
   rw [hK] at t
   exact bR pins s σ H _ us Q I r ⟨a,vs,rfl,.inr t.sq,fun p hp=>k.l gh q hp⟩
 | lst l=>
   cases e
   obtain ⟨a,vs,rfl,t,q⟩:=rx
   exact bR pins s σ H _ us Q I r ⟨a,vs,rfl,.inl (.inl t),fun p hp=>k.l gh q hp⟩
 | _=>cases e
omit hK in
theorem oX:aO X (.type "str") (rBi W .str):=by
 intro pins s σ H xs us Q I r h
 obtain ⟨ρ,G,ds,d,gh,rs,e,k⟩:=h
 obtain ⟨x,rfl⟩:=bi1 (by simp) e
 obtain ⟨y,rfl,rx⟩:=rs.one
 cases x with
 | int i=>
   unfold biD at e
   dsimp only at e
   split at e
   ·rename_i hz;cases e;cases cN rx;exact jD pins s σ H _ us Q I r ⟨i,rfl,hz,k.s⟩
   ·cases e
 | _=>cases e
omit hK in
theorem oV:aO X (.type "int") (rBi W .int):=by
 intro pins s σ H xs us Q I r h
 obtain ⟨ρ,G,ds,d,gh,rs,e,k⟩:=h
 obtain ⟨x,rfl⟩:=bi1 (by simp) e
 obtain ⟨y,rfl,rx⟩:=rs.one
 cases x with
 | int i=>cases e;cases cN rx;exact iU pins s σ H _ us Q I r (.inl ⟨i,rfl,k.i⟩)
 | bl i=>cases e;cases (show y = .bl i from rx);exact iU pins s σ H _ us Q I r (.inr ⟨i,rfl,k.i⟩)
 | _=>cases e
omit hK in
noncomputable def tyN:Bi→String
 | .isTup=>"tuple" | .isStr=>"str" | .isBool=>"bool" | .isInt=>"int" | .isDic=>"dict" | _=>"list"
theorem BA {b:Bi} (hb:b = .isTup∨b = .isStr∨b = .isBool∨b = .isInt∨b = .isLst∨b = .isDic) {d d':D} {x:V} (gh:Sub G H) (h:RL W ρ G H d x) (e:biD b [d]=some d'):∃ t,d' = .bl t∧IsJ X.K H x (tyN b) t:=by
 have kk:∀ (t n:String) (v:Bool),PySem.W.kitOne [] (.type t) (.type n)=some v→PySem.W.kitOne X.K (.type t) (.type n)=some v:=fun t n v h=>h
 cases d with
 | tup l=>
   obtain ⟨a,vs,rfl,t,_⟩:=h
   have t:=aA gh t
   rw [hK] at t
   have key:∀ (n:String) (v:Bool),PySem.W.kitOne [] (.type "tuple") (.type n)=some v→IsJ X.K H (.ref a) n v:=fun n v q=>t.elim (fun t=>.inl ⟨_,.tup t,q⟩) fun t=>.inr ⟨a,vs,rfl,t,q⟩
   rcases hb with rfl | rfl | rfl | rfl | rfl | rfl <;> cases e <;> exact ⟨_,rfl,key _ _ (by decide +kernel)⟩
 | lst l=>
   obtain ⟨a,vs,rfl,t,_⟩:=h
   have key:∀ (n:String) (v:Bool),PySem.W.kitOne [] (.type "list") (.type n)=some v→IsJ X.K H (.ref a) n v:=fun n v q=>t.elim (fun t=>.inl ⟨_,.lst t,q⟩) fun ⟨o,t⟩=>.inl ⟨_,.frz t,q⟩
   rcases hb with rfl | rfl | rfl | rfl | rfl | rfl <;> cases e <;> exact ⟨_,rfl,key _ _ (by decide +kernel)⟩
 | dic ks l=>
   obtain ⟨a,vs,rfl,t,_⟩:=h
   have key:∀ (n:String) (v:Bool),PySem.W.kitOne [] (.type "dict") (.type n)=some v→IsJ X.K H (.ref a) n v:=fun n v q=>.inl ⟨_,.dK t,q⟩
   rcases hb with rfl | rfl | rfl | rfl | rfl | rfl <;> cases e <;> exact ⟨_,rfl,key _ _ (by decide +kernel)⟩
 | non=>
   cases (show x=_ from h)
   have key:∀ (n:String) (v:Bool),PySem.W.kitOne [] (.type "NoneType") (.type n)=some v→IsJ X.K H .non n v:=fun n v q=>.inl ⟨_,.non,q⟩
   rcases hb with rfl | rfl | rfl | rfl | rfl | rfl <;> cases e <;> exact ⟨_,rfl,key _ _ (by decide +kernel)⟩
 | bl i=>
   cases (show x=_ from h)
   have key:∀ (n:String) (v:Bool),PySem.W.kitOne [] (.type "bool") (.type n)=some v→IsJ X.K H (.bl i) n v:=fun n v q=>.inl ⟨_,.bl i,q⟩
   rcases hb with rfl | rfl | rfl | rfl | rfl | rfl <;> cases e <;> exact ⟨_,rfl,key _ _ (by decide +kernel)⟩
 | int i=>
   cases (show x=_ from h)
   have key:∀ (n:String) (v:Bool),PySem.W.kitOne [] (.type "int") (.type n)=some v→IsJ X.K H (.int i) n v:=fun n v q=>.inl ⟨_,.int i,q⟩
   rcases hb with rfl | rfl | rfl | rfl | rfl | rfl <;> cases e <;> exact ⟨_,rfl,key _ _ (by decide +kernel)⟩
 | str i=>
   cases (show x=_ from h)
   have key:∀ (n:String) (v:Bool),PySem.W.kitOne [] (.type "str") (.type n)=some v→IsJ X.K H (.str i) n v:=fun n v q=>.inl ⟨_,.str i,q⟩
   rcases hb with rfl | rfl | rfl | rfl | rfl | rfl <;> cases e <;> exact ⟨_,rfl,key _ _ (by decide +kernel)⟩
 | _=>rcases hb with rfl | rfl | rfl | rfl | rfl | rfl <;> cases e
theorem ql {b:Bi} (hb:b = .isTup∨b = .isStr∨b = .isBool∨b = .isInt∨b = .isLst∨b = .isDic):aO X (.builtin "isinstance") (fun xs H Q=>∃ ρ G ds d xs',Sub G H∧xs=xs' ++ [.ty (tyN b)]∧RLs W ρ G H ds xs'∧biD b ds=some d∧cY W ρ G H d Q):=by
 intro pins s σ H xs us Q I r h
 obtain ⟨ρ,G,ds,d,xs',gh,rfl,rs,e,k⟩:=h
 have one:∃ x,ds = [x]:=by
  rcases ds with _ | ⟨x,_ | ⟨y,r⟩⟩
  ·rcases hb with rfl | rfl | rfl | rfl | rfl | rfl <;> cases e
  ·exact ⟨x,rfl⟩
  ·rcases hb with rfl | rfl | rfl | rfl | rfl | rfl <;> cases e
 obtain ⟨x,rfl⟩:=one
 obtain ⟨y,rfl,rx⟩:=rs.one
 obtain ⟨t,rfl,ij⟩:=BA hK hb gh rx e
 exact qo pins s σ H _ us Q I r ⟨y,_,t,rfl,ij,k.b⟩
end
theorem aq {X:Cx} {e:Expr} {t t':TE} (h:PE X e t) (i:∀ σ H Q,t' σ H Q→t σ H Q):PE X e t':=fun pins s σ H Q I q=>h pins s σ H Q I (i σ H Q q)
theorem cK {X:Cx} {e:Expr} {t t':TT} (h:PT X e t) (i:∀ σ H Q,t' σ H Q→t σ H Q):PT X e t':=fun pins s σ H Q I q=>h pins s σ H Q I (i σ H Q q)
theorem om {X:Cx} {e:Expr} {t t':TT} (h:PW X e t) (i:∀ σ H Q,t' σ H Q→t σ H Q):PW X e t':=fun whole pins s σ H Q I q=>h whole pins s σ H Q I (i σ H Q q)
theorem og {X:Cx} {e:List Expr} {t t':TA} (h:PA X e t) (i:∀ σ H Q,t' σ H Q→t σ H Q):PA X e t':=fun pos pins s σ H Q I q=>h pos pins s σ H Q I (i σ H Q q)
noncomputable def RV (W:Wd) (br:Bool) (ρ:List Addr) (G H:Hp) (d:D) (v:V):Prop:=match br with
 | true=>RB W ρ G H d v
 | false=>RD W ρ G d v
noncomputable def RVL (W:Wd) (br:Bool) (Ln:D→Addr→Prop) (ρ:List Addr) (G H:Hp) (d:D) (v:V):Prop:=match br with
 | true=>RD W ρ G d v∨∃ a,v = .ref a∧Ln d a∧a ∉ ρ∧OwR W ρ G H a d
 | false=>RD W ρ G d v
theorem RVL.of {W:Wd} {br:Bool} {Ln:D→Addr→Prop} {ρ:List Addr} {G H:Hp} {d:D} {v:V} (h:RD W ρ G d v):RVL W br Ln ρ G H d v:=by
 cases br with
 | true=>exact .inl h
 | false=>exact h
theorem RVL.rv {W:Wd} {br:Bool} {Ln:D→Addr→Prop} {ρ:List Addr} {G H:Hp} {d:D} {v:V} (h:RVL W br Ln ρ G H d v):RV W br ρ G H d v:=by
 cases br with
 | true=>exact h.elim .inl fun ⟨a,e,_,n,r⟩=>.inr ⟨a,e,n,r⟩
 | false=>exact h
noncomputable def bo (σ:St) (c:E) (env:List (Option D)) (d:D) (a:Addr):Prop:=∃ i,c = .v i∧env[i]? = some (some d)∧adr σ i=some a
noncomputable def bQ (σ:St) (c:E) (env:List (Option D)) (d:D) (a:Addr):Prop:=∃ i,i∈cV c∧env[i]? = some (some d)∧adr σ i=some a
noncomputable def RLn (W:Wd) (Ln:D→Addr→Prop) (ρ:List Addr) (G H:Hp):List D→List V→Prop
 | [],vs=>vs = []
 | d :: ds,vs=>∃ v r,vs=v :: r∧RVL W true Ln ρ G H d v∧RLn W Ln ρ G H ds r
noncomputable def RVs (W:Wd) (br:Bool) (Ln:D→Addr→Prop) (ρ:List Addr) (G H:Hp) (ds:List D) (vs:List V):Prop:=match br with
 | true=>RLn W Ln ρ G H ds vs
 | false=>RDs W ρ G ds vs
noncomputable def RT:List Addr→Hp→Hp→Bool→Bool→Prop:=fun _ _ _ a b=>a=b
noncomputable def toB (d:D) (s:Sta):Out Bool:=match d with | .bl b=>.ok b s | _=>.bad
structure Fx where
 W:Wd
 ex:EX
 Γ:Gm
 cal:Nat→List D→List O→Res
 cal1:Nat→List D→List O→Res
noncomputable def Fx.ev (F:Fx) (br:Bool) (c:E) (s:Sta):Out D:=L2.Ev.ev F.Γ F.cal F.cal1 br c s
noncomputable def Fx.evs (F:Fx) (br:Bool) (c:E) (s:Sta):Out (List D):=L2.Ev.evs F.Γ F.cal F.cal1 br c s
noncomputable def LE (F:Fx) (br:Bool) (c:E):TE:=fun σ=>Lf F.W F.ex (fun env=>RVL F.W br (bo σ c env)) (F.ev br c) σ
noncomputable def Fx.tst (F:Fx) (c:E) (s:Sta):Out Bool:=(F.ev true c s).bind toB
noncomputable def LT (F:Fx) (c:E):TT:=Lf F.W F.ex (fun _=>RT) (F.tst c)
noncomputable def LA (F:Fx) (br:Bool) (c:E):TA:=fun σ=>Lf F.W F.ex (fun env=>RVs F.W br (bQ σ c env)) (F.evs br c) σ
section
variable {W:Wd} {E:EX} {σ:St} {H:Hp} {ρ:List Addr} {G:Hp} {Ow:Addr→Prop} {s:Sta}
theorem Rep.un (rep:Rep W ρ G s σ H) {i:Nat} {d:D} (e:s.env[i]? = some (some d)):∃ v G',σ[i]? = some (some v)∧Rep W ρ G' (un s i) σ H∧Stp ρ G H ρ G' H (Own s σ)∧RD W ρ G' d v:=by
 by_cases m:i∈s.ow
 ·obtain ⟨d',a,e',ea,na,ga,r⟩:=rep.eo i m
  rw [e] at e'
  cases e'
  have ev:σ[i]? = some (some (.ref a)):=by
   unfold adr at ea
   split at ea
   ·rename_i q;cases ea;exact q
   ·cases ea
  obtain ⟨o,ho⟩:∃ o,H a=some o:=by
   cases q:H a with
   | none=>exact absurd q r.th
   | some o=>exact ⟨o,rfl⟩
  have sg:=aV (o:=o) ga
  have nr:∀ b∈ρ,b≠a:=fun b hb z=>na (z ▸ hb)
  refine ⟨_,upd G a o,ev,⟨fun b u q=>?_,rep.rl,rep.rn,fun b hb=>?_,fun n ob b h1 h2=>(rep.ob n ob b h1 h2).mono (List.prefix_refl _) sg fun _ q=>q,rep.el,fun j d1 nj ej=>?_,fun j mj=>?_,fun j l b mj ml=>rep.od j l b (List.mem_filter.mp mj).1 (List.mem_filter.mp ml).1⟩,⟨List.prefix_refl _,sg,fun b u q=>?_,fun b h=>.inl h,fun _ h=>h,fun _ _ q _=>q⟩,?_⟩
  ·by_cases z:b=a
   ·subst z;rw [ae] at q;cases q;exact ho
   ·rw [aa z] at q;exact rep.gh b u q
  ·rw [aa (nr b hb)];exact rep.rg b hb
  ·by_cases z:j=i
   ·subst z
    have ej:s.env[j]? = some (some d1):=ej
    rw [e] at ej
    cases ej
    refine ⟨_,ev,?_⟩
    cases d with
    | lst l=>obtain ⟨vs,q,r⟩:=r;rw [ho] at q;cases q;exact ⟨a,vs,rfl,.inl ae,r.mono (List.prefix_refl _) sg⟩
    | dic k l=>obtain ⟨vs,q,hl,r⟩:=r;rw [ho] at q;cases q;exact ⟨a,vs,rfl,ae,hl,r.mono (List.prefix_refl _) sg⟩
    | _=>exact r.elim
   ·have nj':j ∉ s.ow:=fun w=>nj (List.mem_filter.mpr ⟨w,by simpa using z⟩)
    obtain ⟨v,q,r⟩:=rep.en j d1 nj' ej
    exact ⟨v,q,r.mono (List.prefix_refl _) sg⟩
  ·obtain ⟨mj,zj⟩:=List.mem_filter.mp mj
   obtain ⟨d1,b,q1,q2,q3,q4,q5⟩:=rep.eo j mj
   have z:b≠a:=fun z=>by
    subst z
    exact absurd (rep.od j i b mj m q2 ea) (by simpa using zj)
   exact ⟨d1,b,q1,q2,q3,by rw [aa z];exact q4,q5.mono (List.prefix_refl _) sg fun _ q=>q⟩
  ·by_cases z:b=a
   ·subst z;exact .inr (.inr ⟨i,m,ea⟩)
   ·rw [aa z] at q;exact .inl q
  ·cases d with
   | lst l=>obtain ⟨vs,q,r⟩:=r;rw [ho] at q;cases q;exact ⟨a,vs,rfl,.inl ae,r.mono (List.prefix_refl _) sg⟩
   | dic k l=>obtain ⟨vs,q,hl,r⟩:=r;rw [ho] at q;cases q;exact ⟨a,vs,rfl,ae,hl,r.mono (List.prefix_refl _) sg⟩
   | _=>exact r.elim
 ·obtain ⟨v,q,r⟩:=rep.en i d m e
  refine ⟨v,G,q,⟨rep.gh,rep.rl,rep.rn,rep.rg,rep.ob,rep.el,fun j d1 nj ej=>?_,fun j mj=>rep.eo j (List.mem_filter.mp mj).1,fun j l b mj ml=>rep.od j l b (List.mem_filter.mp mj).1 (List.mem_filter.mp ml).1⟩,.refl,r⟩
  by_cases z:j=i
  ·subst z;exact rep.en j d1 m ej
  ·exact rep.en j d1 (fun w=>nj (List.mem_filter.mpr ⟨w,by simpa using z⟩)) ej
end
section
variable {F:Fx} {X:Cx} {br:Bool}
theorem az {c:E} {br:Bool} {s:Sta}:∀ d s',F.ev br c s = .ok d s'→Le s s':=fun d s' h=>by have:=ax (Γ:=F.Γ) (cal:=F.cal) (cal1:=F.cal1) c br s;rw [show L2.Ev.ev F.Γ F.cal F.cal1 br c s=_ from h] at this;exact this
theorem bg {c:E} {br:Bool} {s:Sta}:∀ d s',F.evs br c s = .ok d s'→Le s s':=fun d s' h=>by have:=bu (Γ:=F.Γ) (cal:=F.cal) (cal1:=F.cal1) c br s;rw [show L2.Ev.evs F.Γ F.cal F.cal1 br c s=_ from h] at this;exact this
theorem cm {W:Wd} {E:EX} {σ:St} {H:Hp} {ρ:List Addr} {G:Hp} {s:Sta} {Q:VK} {o:Option D} {Ln:D→Addr→Prop} (rep:Rep W ρ G s σ H) (post:aj W E (RVL W br Ln) σ H ρ G (Own s σ) (.of s o) Q):∃ d,o=some d∧cY W ρ G H d Q:=by
 cases o with
 | none=>exact post.elim
 | some d=>exact ⟨d,rfl,fun v r=>aj.fin post rep (.of r),fun p o hp r=>aj.new post rep hp (.of r)⟩
theorem two {γ δ:Type} {R':List (Option D)→List Addr→Hp→Hp→γ→δ→Prop} {a b:E} {f:D→D→Sta→Out γ} {σ:St} {H:Hp} {Q:δ→Hp→Prop} (h:Lf F.W F.ex R' (fun s=>(F.ev true a s).bind fun x s=>(F.ev true b s).bind fun y s=>f x y s) σ H Q) :
 LE F true a σ H fun x H1=>LE F true b σ H1 fun y H2=>∃ ρ G s d1 d2,Rep F.W ρ G s σ H2∧RB F.W ρ G H2 d1 x∧RB F.W ρ G H2 d2 y∧aj F.W F.ex (R' s.env) σ H2 ρ G (Own s σ) (f d1 d2 s) Q:=by
 obtain ⟨ρ,G,s,rep,post⟩:=h
 refine ⟨ρ,G,s,rep,(aj.bind (R:=RVL F.W true (bo σ a s.env)) az post).cps fun x H1 ρ1 G1 s1 d1 st1 rep1 le1 r1 post1=>?_⟩
 refine ⟨ρ1,G1,s1,rep1,(aj.bind (R:=RVL F.W true (bo σ b s1.env)) az post1).cps fun y H2 ρ2 G2 s2 d2 st2 rep2 le2 r2 post2=>?_⟩
 exact ⟨ρ2,G2,s2,d1,d2,rep2,RB.stp r1.rv st2,r2.rv,by rw [le2.1,le1.1];exact post2⟩
theorem one {γ δ:Type} {R':List (Option D)→List Addr→Hp→Hp→γ→δ→Prop} {a:E} {f:D→Sta→Out γ} {σ:St} {H:Hp} {Q:δ→Hp→Prop} {br:Bool} (h:Lf F.W F.ex R' (fun s=>(F.ev br a s).bind fun x s=>f x s) σ H Q) :
 LE F br a σ H fun x H1=>∃ ρ G s d1,Rep F.W ρ G s σ H1∧RV F.W br ρ G H1 d1 x∧aj F.W F.ex (R' s.env) σ H1 ρ G (Own s σ) (f d1 s) Q:=by
 obtain ⟨ρ,G,s,rep,post⟩:=h
 refine ⟨ρ,G,s,rep,(aj.bind (R:=RVL F.W br (bo σ a s.env)) az post).cps fun x H1 ρ1 G1 s1 d1 st1 rep1 le1 r1 post1=>⟨ρ1,G1,s1,d1,rep1,r1.rv,by rw [le1.1];exact post1⟩⟩
theorem xX {i:Nat} {x:Str} {pos:Pos} (hN:X.N[i]? = some x) (hv:Vis X.env.scope x) (hd:(x == ("__debug__":Str))=false) (hcd:(x == ("__classdict__":Str))=false):PE X (.Name x pos) (LE F br (.v i)):=by
 refine aq (fw hN hv hd hcd) fun σ H Q h=>?_
 obtain ⟨ρ,G,s,rep,post⟩:=h
 rw [show F.ev br (.v i) s=_ from pd] at post
 cases q:s.env[i]? with
 | none=>rw [q] at post;exact post.elim
 | some o=>
   cases o with
   | none=>rw [q] at post;exact post.elim
   | some d=>
     rw [q] at post
     cases br with
     | false=>
       obtain ⟨v,G',e,rep',st,r⟩:=rep.un q
       exact ⟨v,e,post v H ρ G' st rep' r⟩
     | true=>
       by_cases m:i∈s.ow
       ·obtain ⟨d',a,e',ea,na,ga,r⟩:=rep.eo i m
        rw [q] at e'
        cases e'
        have ev:σ[i]? = some (some (.ref a)):=by
         unfold adr at ea
         split at ea
         ·rename_i q;cases ea;exact q
         ·cases ea
        exact ⟨_,ev,post _ H ρ G .refl rep (.inr ⟨a,rfl,⟨i,rfl,q,ea⟩,na,r⟩)⟩
       ·obtain ⟨v,e,r⟩:=rep.en i d m q
        exact ⟨v,e,post v H ρ G .refl rep (.inl r)⟩
theorem kX {e:Expr} {d:D} {v:V} (h:PE X e (tC v)) (r:∀ ρ G,RD F.W ρ G d v):PE X e (LE F br (.c d)):=aq h fun σ H Q ⟨ρ,G,s,rep,post⟩=>post v H ρ G .refl rep (.of (r ρ G))
theorem BD {e:Expr} {j:Nat} {d:Dk} {v:V} (h:PE X e (tC v)) (hj:F.Γ.gl[j]? = some d) (r:∀ ρ G,RD F.W ρ G (toD d) v):PE X e (LE F br (.g j)):=aq h fun σ H Q ⟨ρ,G,s,rep,post⟩=>by
 rw [show F.ev br (.g j) s = .of s (F.Γ.gl[j]?.map toD) from rfl,hj] at post
 exact post v H ρ G .refl rep (.of (r ρ G))
theorem oa {o:Op} {a b:E} {σ:St} {H:Hp} {Q:VK} (h:LE F br (.op o a b) σ H Q):tOp (rD F.W (opD o)) (LE F true a) (LE F true b) σ H Q:=by
 obtain ⟨ρ,G,s,rep,post⟩:=two (f:=fun x y s=>Out.of s (opD o (look s.st x) (look s.st y))) h
 refine ⟨ρ,G,s,rep,post.imp fun x H1 h=>?_⟩
 obtain ⟨ρ,G,s,rep,post⟩:=h
 refine ⟨ρ,G,s,rep,post.imp fun y H2 h=>?_⟩
 obtain ⟨ρ,G,s,d1,d2,rep,r1,r2,post⟩:=h
 obtain ⟨d,e,k⟩:=cm (br:=br) rep post
 exact ⟨ρ,G,_,_,d,rep.gh,bL rep r1,bL rep r2,e,k⟩
theorem Ag {o:Op} {op:Operator} {a b:E} {ea eb:Expr} {pos:Pos} (ho:OpR X (binaryOp op) (rD F.W (opD o))) (ha:PE X ea (LE F true a)) (hb:PE X eb (LE F true b)):PE X (.BinOp ea op eb pos) (LE F br (.op o a b)):=
 aq (Aw ho ha hb) fun σ H Q h=>oa h
theorem xP {o:Op} {op:CmpOp} {a b:E} {ea eb:Expr} {pos:Pos} (ho:OpR X (compareOp op) (rD F.W (opD o))) (ha:PE X ea (LE F true a)) (hb:PE X eb (LE F true b)) (hm:behindInMarks op eb=false):PE X (.Compare ea [op] [eb] pos) (LE F br (.op o a b)):=
 aq (uW ho ha hb hm) fun σ H Q h=>oa h
end
section
variable {F:Fx} {X:Cx} {br:Bool}
theorem ay {α β γ:Type} (x:Out α) (f:α→Sta→Out β) (g:β→Sta→Out γ):(x.bind f).bind g=x.bind fun a s=>(f a s).bind g:=by cases x <;> rfl
theorem Lf.congr {W:Wd} {E:EX} {α β:Type} {R:List (Option D)→List Addr→Hp→Hp→α→β→Prop} {m m':Sta→Out α} {σ:St} {H:Hp} {Q:β→Hp→Prop} (h:Lf W E R m σ H Q) (e:∀ s,m s=m' s):Lf W E R m' σ H Q:=by
 obtain ⟨ρ,G,s,rep,post⟩:=h
 exact ⟨ρ,G,s,rep,by rw [← e];exact post⟩
theorem BO {W:Wd} {E:EX} {σ:St} {H:Hp} {ρ:List Addr} {G:Hp} {s:Sta} {Q:Bool→Hp→Prop} {o:Option D} (rep:Rep W ρ G s σ H) (post:aj W E RT σ H ρ G (Own s σ) ((Out.of s o).bind toB) Q):∃ d,o=some d∧cY W ρ G H d fun v H'=>∃ b,v = .bl b∧Q b H':=by
 cases o with
 | none=>exact post.elim
 | some d=>
   cases d with
   | bl b=>exact ⟨_,rfl,(fun v r=>by cases (show v = .bl b from r);exact ⟨b,rfl,aj.fin post rep rfl⟩),fun p o hp r=>by cases (show V.ref p = .bl b from r)⟩
   | _=>exact post.elim
theorem ye {o:Op} {op:CmpOp} {a b:E} {ea eb:Expr} {pos:Pos} (ho:OpR X (compareOp op) (rD F.W (opD o))) (ha:PE X ea (LE F true a)) (hb:PE X eb (LE F true b)) (hm:behindInMarks op eb=false):PT X (.Compare ea [op] [eb] pos) (LT F (.op o a b)):=by
 refine cK (vi ho ha hb hm) fun σ H Q h=>?_
 obtain ⟨ρ,G,s,rep,post⟩:=two (a:=a) (b:=b) (f:=fun x y s=>(Out.of s (opD o (look s.st x) (look s.st y))).bind toB) (h.congr fun s=>by
  show ((F.ev true a s).bind fun x s=>(F.ev true b s).bind fun y s=>Out.of s (opD o (look s.st x) (look s.st y))).bind toB=_
  rw [ay];congr 1;funext x s;rw [ay])
 refine ⟨ρ,G,s,rep,post.imp fun x H1 h=>?_⟩
 obtain ⟨ρ,G,s,rep,post⟩:=h
 refine ⟨ρ,G,s,rep,post.imp fun y H2 h=>?_⟩
 obtain ⟨ρ,G,s,d1,d2,rep,r1,r2,post⟩:=h
 obtain ⟨d,e,k⟩:=BO rep post
 exact ⟨ρ,G,_,_,d,rep.gh,bL rep r1,bL rep r2,e,k⟩
theorem rP {W:Wd} {ρ:List Addr} {G H:Hp} {d:D} {v:V} (h:RB W ρ G H d v):decide (v = .non)=dN d:=by
 have no:∀ a,decide (V.ref a=V.non)=false:=fun a=>by simp
 rcases h with h | ⟨a,rfl,_,h⟩
 ·cases d with
  | non=>cases (show v=_ from h);rfl
  | bl b=>cases (show v=_ from h);simp [dN]
  | int b=>cases (show v=_ from h);simp [dN]
  | str b=>cases (show v=_ from h);simp [dN]
  | tup l=>obtain ⟨a,_,rfl,_⟩:=h;exact no a
  | lst l=>obtain ⟨a,_,rfl,_⟩:=h;exact no a
  | dic k l=>obtain ⟨a,_,rfl,_⟩:=h;exact no a
  | ins c l=>obtain ⟨a,_,_,rfl,_⟩:=h;exact no a
  | ref n=>obtain ⟨a,_,rfl⟩:=h;exact no a
 ·cases d with
  | lst l=>exact no a
  | dic k l=>exact no a
  | _=>exact h.elim
theorem kL {a:E} {σ:St} {H:Hp} {Q:VK} (h:LE F br (.isN a) σ H Q):AZ (LE F true a) σ H Q:=by
 obtain ⟨ρ,G,s,rep,post⟩:=one (br:=true) (a:=a) (f:=fun x s=>Out.ok (D.bl (dN x)) s) h
 refine ⟨ρ,G,s,rep,post.imp fun x H1 h=>?_⟩
 obtain ⟨ρ,G,s,d,rep,r,post⟩:=h
 show Q (.bl (decide (x = .non))) H1
 rw [rP (show RB F.W ρ G H1 d x from r)]
 exact aj.fin post rep (RVL.of rfl)
theorem ja {a:E} {σ:St} {H:Hp} {Q:VK} (h:LE F br (.isNN a) σ H Q):wA (LE F true a) σ H Q:=by
 obtain ⟨ρ,G,s,rep,post⟩:=one (br:=true) (a:=a) (f:=fun x s=>Out.ok (D.bl (!dN x)) s) h
 refine ⟨ρ,G,s,rep,post.imp fun x H1 h=>?_⟩
 obtain ⟨ρ,G,s,d,rep,r,post⟩:=h
 show Q (.bl (!decide (x = .non))) H1
 rw [rP (show RB F.W ρ G H1 d x from r)]
 exact aj.fin post rep (RVL.of rfl)
theorem ra {c:E} (hb:∀ s d s',F.ev true c s = .ok d s'→∃ b,d = .bl b) {σ:St} {H:Hp} {Q:Bool→Hp→Prop} (h:LT F c σ H Q):LE F true c σ H fun x H'=>∃ k,x = .bl k∧Q k H':=by
 obtain ⟨ρ,G,s,rep,post⟩:=h
 refine ⟨ρ,G,s,rep,?_⟩
 unfold Fx.tst at post
 cases q:F.ev true c s with
 | ok d s'=>
   rw [q] at post
   obtain ⟨b,rfl⟩:=hb s d s' q
   intro y H' ρ' G' st rep' r
   have e:y = .bl b:=by
    rcases r with r | ⟨a,_,_,_,r⟩
    ·exact r
    ·exact r.elim
   exact ⟨b,e,post b H' ρ' G' st rep' rfl⟩
 | exc c l s'=>rw [q] at post;exact post
 | bad=>rw [q] at post;exact post.elim
theorem xR {a:E} {ea:Expr} {j:Nat} {pos pos':Pos} (ha:PE X ea (LE F true a)):PE X (.Compare ea [.Is] [.Constant .none j pos'] pos) (LE F br (.isN a)):=aq (mF (rX ha) rfl) fun σ H Q h=>kL h
theorem ut {a:E} {ea:Expr} {j:Nat} {pos pos':Pos} (ha:PE X ea (LE F true a)):PE X (.Compare ea [.IsNot] [.Constant .none j pos'] pos) (LE F br (.isNN a)):=aq (mF (oh ha) rfl) fun σ H Q h=>ja h
theorem yf {a:E} {ea:Expr} {j:Nat} {pos pos':Pos} (ha:PE X ea (LE F true a)):PT X (.Compare ea [.Is] [.Constant .none j pos'] pos) (LT F (.isN a)):=cK (mH (rX ha) rfl) fun σ H Q h=>kL (br:=true) (ra (fun s d s' h=>by obtain ⟨x,s1,_,h⟩:=eB h;cases h;exact ⟨_,rfl⟩) h)
theorem uG {a:E} {ea:Expr} {j:Nat} {pos pos':Pos} (ha:PE X ea (LE F true a)):PT X (.Compare ea [.IsNot] [.Constant .none j pos'] pos) (LT F (.isNN a)):=cK (mH (oh ha) rfl) fun σ H Q h=>ja (br:=true) (ra (fun s d s' h=>by obtain ⟨x,s1,_,h⟩:=eB h;cases h;exact ⟨_,rfl⟩) h)
theorem qd {W:Wd} {ρ:List Addr} {G H:Hp} {b:Bool} {v:V} {br:Bool} (h:RV W br ρ G H (.bl b) v):v = .bl b:=by
 cases br with
 | false=>exact h
 | true=>
   rcases h with r | ⟨_,_,_,r⟩
   ·exact r
   ·exact r.elim
theorem xU {a:E} {ea:Expr} {pos:Pos} (ha:PE X ea (LE F true a)):PE X (.UnaryOp .Not ea pos) (LE F br (.not a)):=aq (yF ha) fun σ H Q h=>by
 obtain ⟨ρ,G,s,rep,post⟩:=one (br:=true) (a:=a) (f:=fun x s=>(match x with | .bl b=>Out.ok (D.bl (!b)) s | _=>.bad)) h
 refine ⟨ρ,G,s,rep,post.imp fun x H1 h=>?_⟩
 obtain ⟨ρ,G,s,d,rep,r,post⟩:=h
 cases d with
 | bl i=>exact ⟨i,qd r,aj.fin post rep (RVL.of rfl)⟩
 | _=>exact post.elim
theorem aj.up {W:Wd} {E:EX} {σ:St} {H:Hp} {ρ:List Addr} {G:Hp} {Ow:Addr→Prop} {out:Out D} {Q:VK} {Ln Ln':D→Addr→Prop} (h:aj W E (RVL W br Ln) σ H ρ G Ow out Q):aj W E (RVL W false Ln') σ H ρ G Ow out Q:=by
 cases out with
 | ok x s'=>exact fun y H' ρ' G' a b c=>h y H' ρ' G' a b (.of c)
 | exc c l s'=>exact h
 | bad=>exact h
theorem xL {a b:E} {ea eb:Expr} {rest:List Expr} {pos:Pos} (ha:PE X ea (LE F false a)) (hb:PE X (.BoolOp .And (eb :: rest) pos) (LE F false b)):PE X (.BoolOp .And (ea :: eb :: rest) pos) (LE F br (.and a b)):=aq (yD ha hb) fun σ H Q h=>by
 obtain ⟨ρ,G,s,rep,post⟩:=one (br:=false) (a:=a) (f:=fun x s=>(match x with | .bl true=>F.ev false b s | .bl false=>.ok (.bl false) s | _=>.bad)) h
 refine ⟨ρ,G,s,rep,post.imp fun x H1 h=>?_⟩
 obtain ⟨ρ,G,s,d,rep,r,post⟩:=h
 cases d with
 | bl i=>
   refine ⟨i,qd r,?_⟩
   cases i with
   | true=>exact kN ⟨ρ,G,s,rep,aj.up post⟩
   | false=>exact kM (aj.fin post rep (RVL.of rfl))
 | _=>exact post.elim
theorem Ah {a b:E} {ea eb:Expr} {rest:List Expr} {pos:Pos} (ha:PE X ea (LE F false a)) (hb:PE X (.BoolOp .Or (eb :: rest) pos) (LE F false b)):PE X (.BoolOp .Or (ea :: eb :: rest) pos) (LE F br (.or a b)):=aq (Ax ha hb) fun σ H Q h=>by
 obtain ⟨ρ,G,s,rep,post⟩:=one (br:=false) (a:=a) (f:=fun x s=>(match x with | .bl false=>F.ev false b s | .bl true=>.ok (.bl true) s | _=>.bad)) h
 refine ⟨ρ,G,s,rep,post.imp fun x H1 h=>?_⟩
 obtain ⟨ρ,G,s,d,rep,r,post⟩:=h
 cases d with
 | bl i=>
   refine ⟨i,qd r,?_⟩
   cases i with
   | true=>exact kN (aj.fin post rep (RVL.of rfl))
   | false=>exact kM ⟨ρ,G,s,rep,aj.up post⟩
 | _=>exact post.elim
theorem tq {c:E} {s:Sta}:∀ d s',F.tst c s = .ok d s'→Le s s':=fun d s' h=>by
 obtain ⟨x,s1,h1,h⟩:=eB h
 cases x with
 | bl b=>cases h;exact az _ _ h1
 | _=>cases h
theorem vK {γ δ:Type} {R':List (Option D)→List Addr→Hp→Hp→γ→δ→Prop} {a:E} {f:Bool→Sta→Out γ} {σ:St} {H:Hp} {Q:δ→Hp→Prop} (h:Lf F.W F.ex R' (fun s=>(F.tst a s).bind fun x s=>f x s) σ H Q) :
 LT F a σ H fun x H1=>∃ ρ G s,Rep F.W ρ G s σ H1∧aj F.W F.ex (R' s.env) σ H1 ρ G (Own s σ) (f x s) Q:=by
 obtain ⟨ρ,G,s,rep,post⟩:=h
 refine ⟨ρ,G,s,rep,(aj.bind (R:=RT) tq post).cps fun x H1 ρ1 G1 s1 d1 st1 rep1 le1 r1 post1=>?_⟩
 cases (show d1=x from r1)
 exact ⟨ρ1,G1,s1,rep1,by rw [le1.1];exact post1⟩
theorem xS {c a b:E} {ec ea eb:Expr} {pos:Pos} (hc:PT X ec (LT F c)) (ha:PE X ea (LE F false a)) (hb:PE X eb (LE F false b)):PE X (.IfExp ec ea eb pos) (LE F br (.ite c a b)):=aq (sd hc ha hb) fun σ H Q h=>by
 obtain ⟨ρ,G,s,rep,post⟩:=vK (a:=c) (f:=fun x s=>if x then F.ev false a s else F.ev false b s) (h.congr fun s=>by
  unfold Fx.tst Fx.ev;rw [ay]
  show (L2.Ev.ev F.Γ F.cal F.cal1 true c s).bind _=_
  congr 1;funext d s;cases d with
  | bl b=>cases b <;> rfl
  | _=>rfl)
 refine ⟨ρ,G,s,rep,post.imp fun x H1 h=>?_⟩
 obtain ⟨ρ,G,s,rep,post⟩:=h
 cases x with
 | true=>exact kN ⟨ρ,G,s,rep,aj.up (br:=br) post⟩
 | false=>exact kM ⟨ρ,G,s,rep,aj.up (br:=br) post⟩
theorem yc {a b:E} {ea eb:Expr} {rest:List Expr} {pos:Pos} (ha:PT X ea (LT F a)) (hb:PW X (.BoolOp .And (eb :: rest) pos) (LT F b)):PW X (.BoolOp .And (ea :: eb :: rest) pos) (LT F (.tand a b)):=om (yQ ha hb) fun σ H Q h=>by
 obtain ⟨ρ,G,s,rep,post⟩:=vK (a:=a) (f:=fun x s=>if x then F.tst b s else .ok false s) (h.congr fun s=>by
  unfold Fx.tst Fx.ev;rw [ay]
  show ((L2.Ev.ev F.Γ F.cal F.cal1 true a s).bind _).bind toB=_
  rw [ay]
  congr 1;funext d s;cases d with
  | bl b=>cases b <;> rfl
  | _=>rfl)
 refine ⟨ρ,G,s,rep,post.imp fun x H1 h=>?_⟩
 obtain ⟨ρ,G,s,rep,post⟩:=h
 cases x with
 | true=>exact kN ⟨ρ,G,s,rep,post⟩
 | false=>exact kM (aj.fin post rep rfl)
theorem Am {a b:E} {ea eb:Expr} {rest:List Expr} {pos:Pos} (ha:PT X ea (LT F a)) (hb:PW X (.BoolOp .Or (eb :: rest) pos) (LT F b)):PW X (.BoolOp .Or (ea :: eb :: rest) pos) (LT F (.tor a b)):=om (AD ha hb) fun σ H Q h=>by
 obtain ⟨ρ,G,s,rep,post⟩:=vK (a:=a) (f:=fun x s=>if x then .ok true s else F.tst b s) (h.congr fun s=>by
  unfold Fx.tst Fx.ev;rw [ay]
  show ((L2.Ev.ev F.Γ F.cal F.cal1 true a s).bind _).bind toB=_
  rw [ay]
  congr 1;funext d s;cases d with
  | bl b=>cases b <;> rfl
  | _=>rfl)
 refine ⟨ρ,G,s,rep,post.imp fun x H1 h=>?_⟩
 obtain ⟨ρ,G,s,rep,post⟩:=h
 cases x with
 | true=>exact kN (aj.fin post rep rfl)
 | false=>exact kM ⟨ρ,G,s,rep,post⟩
theorem yg {a:E} {ea:Expr} {pos:Pos} (ha:PT X ea (LT F a)):PT X (.UnaryOp .Not ea pos) (LT F (.tnot a)):=cK (yP ha) fun σ H Q h=>by
 obtain ⟨ρ,G,s,rep,post⟩:=vK (a:=a) (f:=fun x s=>.ok (!x) s) (h.congr fun s=>by
  unfold Fx.tst Fx.ev;rw [ay]
  show ((L2.Ev.ev F.Γ F.cal F.cal1 true a s).bind _).bind toB=_
  rw [ay]
  congr 1;funext d s;cases d with
  | bl b=>cases b <;> rfl
  | _=>rfl)
 refine ⟨ρ,G,s,rep,post.imp fun x H1 h=>?_⟩
 obtain ⟨ρ,G,s,rep,post⟩:=h
 exact aj.fin post rep rfl
theorem nu {α β:Type} {l:List α} {m:List β} (h:l.length=m.length):(!l.isEmpty) = !m.isEmpty:=by
 cases l <;> cases m <;> first | rfl | cases h
theorem A4 {W:Wd} {ρ:List Addr} {G H:Hp} {d:D} {v:V} {b:Bool} {K:Fg} (hK:W.K=K) (gh:Sub G H) (h:RL W ρ G H d v) (e:tm d=some b):wQ K v H b:=by
 cases d with
 | bl x=>cases (show v=_ from h);cases e;rfl
 | int x=>cases (show v=_ from h);cases e;rfl
 | non=>cases (show v=_ from h);cases e;rfl
 | tup l=>
   cases e
   obtain ⟨a,vs,rfl,t,r⟩:=h
   have t:=aA gh t
   rw [hK] at t
   exact .inr (.inl ⟨vs,t.sq,by rw [nu r.len]⟩)
 | lst l=>
   cases e
   obtain ⟨a,vs,rfl,t,r⟩:=h
   exact .inl ⟨vs,.inl t,by rw [nu r.len]⟩
 | _=>cases e
theorem BG (hK:F.W.K=X.K) {a:E} {ea:Expr} (ha:PE X ea (LE F true a)) (he:∀ whole,isTrue ea X.env whole=(do let v ← whole;standAt ea.pos;holding [v] (truthy v))):PT X ea (LT F (.tv a)):=cK (sE ha he) fun σ H Q h=>by
 obtain ⟨ρ,G,s,rep,post⟩:=one (br:=true) (a:=a) (f:=fun x s=>(Out.of s ((tm (look s.st x)).map .bl)).bind toB) (h.congr fun s=>by
  unfold Fx.tst Fx.ev
  show ((L2.Ev.ev F.Γ F.cal F.cal1 true a s).bind _).bind toB=_
  rw [ay])
 refine ⟨ρ,G,s,rep,post.imp fun x H1 h=>?_⟩
 obtain ⟨ρ,G,s,d,rep,r,post⟩:=h
 have r':RB F.W ρ G H1 d x:=r
 cases q:tm (look s.st d) with
 | none=>rw [q] at post;exact post.elim
 | some b=>rw [q] at post;exact ⟨b,A4 hK rep.gh (bL rep r') q,aj.fin post rep rfl⟩
end
section
variable {F:Fx} {X:Cx} {br:Bool}
theorem Ae (hK:F.W.K=X.K) {k:Nat} (hr:Room k X.A) {a b:E} {ea eb:Expr} {pos:Pos} (ha:PE X ea (LE F true a)) (hb:PE X eb (LE F true b)) (hs:eg eb):PE X (.Subscript ea eb pos) (LE F br (.ix a b)):=aq (Av (BB hK hr) ha hb hs) fun σ H Q h=>by
 obtain ⟨ρ,G,s,rep,post⟩:=two (a:=a) (b:=b) (f:=fun x y s=>Out.of s (ixD (look s.st x) y)) h
 refine ⟨ρ,G,s,rep,post.imp fun x H1 h=>?_⟩
 obtain ⟨ρ,G,s,rep,post⟩:=h
 refine ⟨ρ,G,s,rep,post.imp fun y H2 h=>?_⟩
 obtain ⟨ρ,G,s,d1,d2,rep,r1,r2,post⟩:=h
 obtain ⟨d,e,k⟩:=cm (br:=br) rep post
 have e2:ixD (look s.st d1) (look s.st d2)=some d:=by
  cases d2 with
  | ref n=>
    exfalso
    cases q:look s.st d1 with
    | tup l=>rw [q] at e;cases e
    | lst l=>rw [q] at e;cases e
    | str l=>rw [q] at e;cases e
    | dic k l=>rw [q] at e;cases e
    | _=>rw [q] at e;cases e
  | _=>exact e
 exact ⟨ρ,G,_,_,d,rep.gh,bL rep r1,bL rep r2,e2,k⟩
noncomputable def Fx.prt (F:Fx) (c:E) (s:Sta):Out (Option Int):=if bp c then .ok none s else (F.ev true c s).bind toI
noncomputable def LO (F:Fx) (c:E):TO:=Lf F.W F.ex (fun _ _ _ _ a b=>a=b) (F.prt c)
theorem sB {c:E} {s:Sta}:∀ d s',F.prt c s = .ok d s'→Le s s':=fun d s' h=>by
 unfold Fx.prt at h
 split at h
 ·cases h;exact .refl
 ·obtain ⟨x,s1,h1,h⟩:=eB h
  cases x with
  | int i=>cases h;exact az _ _ h1
  | _=>cases h
theorem uy:PO X none (LO F .nil):=fun pins s σ H Q I h=>vb pins s σ H Q I (by
 obtain ⟨ρ,G,s,rep,post⟩:=h
 exact aj.fin post rep rfl)
theorem uz {a:E} {ea:Expr} (n:bp a=false) (ha:PE X ea (LE F true a)):PO X (some ea) (LO F a):=fun pins s σ H Q I h=>vc ha pins s σ H Q I (by
 obtain ⟨ρ,G,s,rep,post⟩:=one (br:=true) (a:=a) (f:=toI) (h.congr fun s=>by unfold Fx.prt;rw [n];rfl)
 refine ⟨ρ,G,s,rep,post.imp fun x H1 h=>?_⟩
 obtain ⟨ρ,G,s,d,rep,r,post⟩:=h
 cases d with
 | int i=>
   rcases r with r | ⟨_,_,_,r⟩
   ·exact ⟨i,r,aj.fin post rep rfl⟩
   ·exact r.elim
 | _=>exact post.elim)
theorem Ai (hK:F.W.K=X.K) {a l h:E} {ea:Expr} {lo hi:Option Expr} {pos p2:Pos} (ha:PE X ea (LE F true a)) (hl:PO X lo (LO F l)) (hh:PO X hi (LO F h)):PE X (.Subscript ea (.Slice lo hi none p2) pos) (LE F br (.sl a l h)):=aq (so (BQ (W:=F.W) hK) ha hl hh) fun σ H Q g=>by
 obtain ⟨ρ,G,s,rep,post⟩:=g
 refine ⟨ρ,G,s,rep,(aj.bind (m:=F.ev true a s) (R:=RVL F.W true (bo σ a s.env)) (f:=fun x s=>(F.prt l s).bind fun y s=>(F.prt h s).bind fun z s=>.of s (slO (look s.st x) y z)) az post).cps fun x H1 ρ1 G1 s1 d1 st1 rep1 le1 r1 post1=>?_⟩
 refine ⟨ρ1,G1,s1,rep1,(aj.bind (m:=F.prt l s1) (R:=fun _ _ _ a b=>a=b) (f:=fun y s=>(F.prt h s).bind fun z s=>.of s (slO (look s.st d1) y z)) sB post1).cps fun y H2 ρ2 G2 s2 d2 st2 rep2 le2 r2 post2=>?_⟩
 have r2:d2=y:=r2
 subst r2
 refine ⟨ρ2,G2,s2,rep2,(aj.bind (m:=F.prt h s2) (R:=fun _ _ _ a b=>a=b) (f:=fun z s=>.of s (slO (look s.st d1) d2 z)) sB post2).cps fun z H3 ρ3 G3 s3 d3 st3 rep3 le3 r3 post3=>?_⟩
 have r3:d3=z:=r3
 subst r3
 obtain ⟨d,e,k⟩:=cm (br:=br) rep3 post3
 have r1:RB F.W ρ1 G1 H1 d1 x:=r1.rv
 exact ⟨ρ3,G3,_,d,rep3.gh,bL rep3 ((r1.stp st2).stp st3),e,k⟩
theorem RVL.stp {W:Wd} {br:Bool} {Ln Ln':D→Addr→Prop} {ρ ρ':List Addr} {G G' H H':Hp} {Ow:Addr→Prop} {d:D} {v:V} (x:Stp ρ G H ρ' G' H' Ow) (l:∀ d a,Ln d a→Ln' d a) (h:RVL W br Ln ρ G H d v):RVL W br Ln' ρ' G' H' d v:=by
 cases br with
 | false=>exact RD.mono x.pr x.gg h
 | true=>
   rcases h with h | ⟨a,e,ln,n,r⟩
   ·exact .inl (h.mono x.pr x.gg)
   ·refine .inr ⟨a,e,l _ a ln,fun z=>?_,r.mono x.pr x.gg fun o q=>x.fr a o q n⟩
    rcases x.rn a z with q | q
    ·exact n q
    ·exact r.th q
theorem RLn.imp {W:Wd} {Ln Ln':D→Addr→Prop} {ρ:List Addr} {G H:Hp} (l:∀ d a,Ln d a→Ln' d a):∀ {ds:List D} {vs:List V},RLn W Ln ρ G H ds vs→RLn W Ln' ρ G H ds vs
 | [],_,h=>h
 | _ :: _,_,⟨v,r,e,h,t⟩=>⟨v,r,e,h.elim .inl (fun ⟨a,e,ln,q⟩=>.inr ⟨a,e,l _ a ln,q⟩),RLn.imp l t⟩
theorem RLn.rb {W:Wd} {Ln:D→Addr→Prop} {ρ:List Addr} {G H:Hp}:∀ {ds:List D} {vs:List V},RLn W Ln ρ G H ds vs→RBs W ρ G H ds vs
 | [],_,h=>h
 | _ :: _,_,⟨v,r,e,h,t⟩=>⟨v,r,e,h.rv,RLn.rb t⟩
theorem lA {W:Wd} {br:Bool} {Ln Ln':D→Addr→Prop} {ρ ρ':List Addr} {G G' H H':Hp} {Ow:Addr→Prop} {d:D} {ds:List D} {v:V} {vs:List V} (x:Stp ρ G H ρ' G' H' Ow) (h:RVL W br Ln ρ G H d v) (t:RVs W br Ln' ρ' G' H' ds vs) {Lm:D→Addr→Prop} (l1:∀ d a,Ln d a→Lm d a) (l2:∀ d a,Ln' d a→Lm d a):RVs W br Lm ρ' G' H' (d :: ds) (v :: vs):=by
 cases br with
 | true=>exact ⟨v,vs,rfl,h.stp x l1,RLn.imp l2 t⟩
 | false=>exact ⟨v,vs,rfl,RD.mono x.pr x.gg h,t⟩
theorem rh:PA X [] (LA F br .nil):=og jT fun σ H Q ⟨ρ,G,s,rep,post⟩=>aj.fin post rep (by cases br <;> exact rfl)
theorem dz {a r:E} {i:Nat}:(i∈cV (.cons a r))↔(a = .v i∨i∈cV r):=by
 cases a with
 | v j=>simp [cV,eq_comm]
 | _=>simp [cV]
theorem nV {a r:E} {ea:Expr} {er:List Expr} (ha:PE X ea (LE F br a)) (hr:PA X er (LA F br r)) (hs:starEach (ea :: er) X.env=(false,eval ea X.env) :: starEach er X.env):PA X (ea :: er) (LA F br (.cons a r)):=og (gr ha hr hs) fun σ H Q g=>by
 obtain ⟨ρ,G,s,rep,post⟩:=g
 refine ⟨ρ,G,s,rep,(aj.bind (m:=F.ev br a s) (R:=RVL F.W br (bo σ a s.env)) (f:=fun x s=>(F.evs br r s).bind fun l s=>Out.ok (x :: l) s) az post).cps fun x H1 ρ1 G1 s1 d1 st1 rep1 le1 r1 post1=>?_⟩
 refine ⟨ρ1,G1,s1,rep1,(aj.bind (m:=F.evs br r s1) (R:=RVs F.W br (bQ σ r s1.env)) (f:=fun l s=>Out.ok (d1 :: l) s) bg post1).cps fun y H2 ρ2 G2 s2 d2 st2 rep2 le2 r2 post2=>?_⟩
 rw [le1.1] at r2
 exact aj.fin post2 rep2 (lA st2 r1 r2 (fun _ b ⟨i,e,q⟩=>⟨i,dz.mpr (.inl e),q⟩) fun _ b ⟨i,e,q⟩=>⟨i,dz.mpr (.inr e),q⟩)
theorem p6 {γ δ:Type} {R':List (Option D)→List Addr→Hp→Hp→γ→δ→Prop} {a:E} {f:List D→Sta→Out γ} {σ:St} {H:Hp} {Q:δ→Hp→Prop} {br:Bool} (h:Lf F.W F.ex R' (fun s=>(F.evs br a s).bind fun x s=>f x s) σ H Q) :
 LA F br a σ H fun x H1=>∃ ρ G s d1,Rep F.W ρ G s σ H1∧RVs F.W br (bQ σ a s.env) ρ G H1 d1 x∧aj F.W F.ex (R' s.env) σ H1 ρ G (Own s σ) (f d1 s) Q:=by
 obtain ⟨ρ,G,s,rep,post⟩:=h
 refine ⟨ρ,G,s,rep,(aj.bind (R:=RVs F.W br (bQ σ a s.env)) bg post).cps fun x H1 ρ1 G1 s1 d1 st1 rep1 le1 r1 post1=>⟨ρ1,G1,s1,d1,rep1,by rw [le1.1];exact r1,by rw [le1.1];exact post1⟩⟩
theorem xW {es:E} {er:List Expr} {k:Nat} {pos:Pos} (h:PA X er (LA F false es)):PE X (.Tuple er k pos) (LE F br (.tup es)):=aq (yG h) fun σ H Q g=>by
 obtain ⟨ρ,G,s,rep,post⟩:=p6 (br:=false) (a:=es) (f:=fun l s=>if l.length≤100000 then Out.ok (D.tup l) s else .bad) g
 refine ⟨ρ,G,s,rep,post.imp fun xs H1 h=>?_⟩
 obtain ⟨ρ,G,s,l,rep,r,post⟩:=h
 have r:RDs F.W ρ G l xs:=r
 by_cases c:l.length≤100000
 ·rw [if_pos c] at post
  refine ⟨by rw [← r.len];exact big c,fun p hp=>aj.new post rep hp (RVL.of ⟨p,xs,rfl,.inl ae,r.mono (List.prefix_refl _) (aV (aI rep.gh hp))⟩)⟩
 ·rw [if_neg c] at post;exact post.elim
theorem xT {es:E} {er:List Expr} {pos:Pos} (h:PA X er (LA F false es)):PE X (.List er pos) (LE F br (.lst es)):=aq (hX h) fun σ H Q g=>by
 obtain ⟨ρ,G,s,rep,post⟩:=p6 (br:=false) (a:=es) (f:=fun l s=>if l.length≤100000 then Out.ok (D.lst l) s else .bad) g
 refine ⟨ρ,G,s,rep,post.imp fun xs H1 h=>?_⟩
 obtain ⟨ρ,G,s,l,rep,r,post⟩:=h
 have r:RDs F.W ρ G l xs:=r
 by_cases c:l.length≤100000
 ·rw [if_pos c] at post
  refine ⟨by rw [← r.len];exact big c,fun p hp=>aj.new post rep hp (RVL.of ⟨p,xs,rfl,.inl ae,r.mono (List.prefix_refl _) (aV (aI rep.gh hp))⟩)⟩
 ·rw [if_neg c] at post;exact post.elim
end
structure StR (W:Wd) (ρ:List Addr) (G:Hp) (st:List O) (H:Hp):Prop where
 gh:Sub G H
 rl:ρ.length=st.length
 rn:ρ.Nodup
 rg:∀ a∈ρ,G a=none∧H a≠none
 ob:∀ (n:Nat) (o:O) (a:Addr),st[n]? = some o→ρ[n]? = some a→ObR W ρ G H a o
noncomputable abbrev NoA:Addr→Prop:=fun _=>False
noncomputable def zm (W:Wd) (H:Hp) (ρ:List Addr) (G:Hp) (r:Res) (Q:VK) (E:XK):Prop:=match r with
 | .ok d st'=>∀ v H' ρ' G',Stp ρ G H ρ' G' H' NoA→StR W ρ' G' st' H'→RD W ρ' G' d v→Q v H'
 | .exc c l st'=>∀ cls dx H' ρ' G',Stp ρ G H ρ' G' H' NoA→StR W ρ' G' st' H'→XR W ρ' G' c l cls dx→E cls dx H'
 | .bad=>False
noncomputable def SpF (W:Wd) (cal:Nat→List D→List O→Res) (j:Nat):Sp:=fun vs H Q E=>∃ ρ G ds st,StR W ρ G st H∧RDs W ρ G ds vs∧zm W H ρ G (cal j ds st) Q E
theorem Rep.st {W:Wd} {ρ:List Addr} {G H:Hp} {s:Sta} {σ:St} (r:Rep W ρ G s σ H):StR W ρ G s.st H:=⟨r.gh,r.rl,r.rn,r.rg,r.ob⟩
section
variable {W:Wd} {ρ ρ':List Addr} {G G' H H':Hp}
mutual
theorem sI (h:∀ b o,G b=some o→G' b=some o∨∃ vs,o = .lst vs):∀ {d:D} {v:V},noL d=true→RD W ρ G d v→RD W ρ G' d v
 | .non,_,_,e=>e
 | .bl _,_,_,e=>e
 | .int _,_,_,e=>e
 | .str _,_,_,e=>e
 | .tup l,_,n,⟨a,vs,e,t,r⟩=>⟨a,vs,e,t.elim (fun t=>(h _ _ t).elim .inl fun ⟨_,z⟩=>nomatch z) .inr,dD h (by unfold noL at n;exact n) r⟩
 | .lst _,_,n,_=>by cases n
 | .dic _ l,_,n,⟨a,vs,e,t,q,r⟩=>⟨a,vs,e,((h _ _ t).elim id fun ⟨_,z⟩=>nomatch z),q,dD h (by unfold noL at n;exact n) r⟩
 | .ins _ l,_,n,⟨a,i,vs,e,hc,q,t,r⟩=>⟨a,i,vs,e,hc,q,t.elim (fun ⟨w,dx,z⟩=>.inl ⟨w,dx,(h _ _ z).elim id fun ⟨_,z⟩=>nomatch z⟩)
  (fun ⟨w,fr,z⟩=>.inr ⟨w,fr,z.elim (fun ⟨y,z⟩=>.inl ⟨y,(h _ _ z).elim id fun ⟨_,z⟩=>nomatch z⟩) fun ⟨d,z1,z2⟩=>.inr ⟨d,((h _ _ z1).elim id fun ⟨_,z⟩=>nomatch z),((h _ _ z2).elim id fun ⟨_,z⟩=>nomatch z)⟩⟩),dD h (by unfold noL at n;exact n) r⟩
 | .ref _,_,_,e=>e
theorem dD (h:∀ b o,G b=some o→G' b=some o∨∃ vs,o = .lst vs):∀ {ds:List D} {vs:List V},lb ds=true→RDs W ρ G ds vs→RDs W ρ G' ds vs
 | [],_,_,e=>e
 | d :: ds,_,n,⟨v,r,e,t,q⟩=>by
   unfold lb at n
   rw [Bool.and_eq_true_iff] at n
   exact ⟨v,r,e,sI h n.1 t,dD h n.2 q⟩
end
theorem yl (h:∀ b o,G b=some o→G' b=some o∨∃ vs,o = .lst vs) {a:Addr} {o:O} (n:uH o=true) (x:ObR W ρ G H a o):ObR W ρ G' H a o:=by
 cases o with
 | lst l=>cases n
 | dic k l=>obtain ⟨vs,e,q,r⟩:=x;exact ⟨vs,e,q,dD h n r⟩
 | ins c l=>obtain ⟨i,vs,dx,e1,e2,q,e3,r⟩:=x;exact ⟨i,vs,dx,e1,e2,q,e3,dD h n r⟩
end
open Classical in
noncomputable def bY (s:Sta) (σ:St) (es:E) (G H:Hp):Hp:=fun b=>if ∃ i,i∈s.ow∧i∈cV es∧adr σ i=some b then H b else G b
section
variable {W:Wd} {ρ:List Addr} {G H:Hp} {s:Sta} {σ:St} {es:E}
theorem cy (rep:Rep W ρ G s σ H):Sub G (bY s σ es G H)∧Sub (bY s σ es G H) H:=by
 refine ⟨fun a o e=>?_,fun a o e=>?_⟩
 ·unfold bY;split
  ·exact rep.gh a o e
  ·exact e
 ·unfold bY at e;split at e
  ·exact e
  ·exact rep.gh a o e
theorem jO {i:Nat} {b:Addr} (h1:i∈s.ow) (h2:i∈cV es) (h3:adr σ i=some b):bY s σ es G H b=H b:=by
 unfold bY;rw [if_pos ⟨i,h1,h2,h3⟩]
theorem rV {a:Addr} {G':Hp} (h:Sub G G') (e:G' a=H a):∀ {d:D},OwR W ρ G H a d→RD W ρ G' d (.ref a)
 | .lst _,⟨vs,q,r⟩=>⟨a,vs,rfl,.inl (by rw [e];exact q),r.mono (List.prefix_refl _) h⟩
 | .dic _ _,⟨vs,q,l,r⟩=>⟨a,vs,rfl,by rw [e];exact q,l,r.mono (List.prefix_refl _) h⟩
theorem dy {i:Nat} {a:Addr} (h:adr σ i=some a):σ[i]? = some (some (.ref a)):=by
 unfold adr at h
 split at h
 ·rename_i q;cases h;exact q
 ·cases h
theorem gf (rep:Rep W ρ G s σ H):∀ {ds:List D} {vs:List V},RLn W (bQ σ es s.env) ρ G H ds vs→RDs W ρ (bY s σ es G H) ds vs
 | [],_,h=>h
 | d :: ds,_,⟨v,r,e,h,t⟩=>by
   refine ⟨v,r,e,?_,gf rep t⟩
   rcases h with h | ⟨a,rfl,⟨i,hi,he,ha⟩,n,o⟩
   ·exact h.mono (List.prefix_refl _) (cy rep).1
   ·by_cases m:i∈s.ow
    ·exact rV (cy rep).1 (jO m hi ha) o
    ·obtain ⟨v',e',r'⟩:=rep.en i d m he
     rw [dy ha] at e'
     cases e'
     exact r'.mono (List.prefix_refl _) (cy rep).1
theorem uo (rep:Rep W ρ G s σ H):StR W ρ (bY s σ es G H) s.st H:=by
 refine ⟨(cy rep).2,rep.rl,rep.rn,fun a m=>⟨?_,(rep.rg a m).2⟩,fun n o a h1 h2=>(rep.ob n o a h1 h2).mono (List.prefix_refl _) (cy rep).1 fun _ q=>q⟩
 unfold bY
 split
 ·rename_i c
  obtain ⟨i,m1,_,e⟩:=c
  obtain ⟨d,b,_,e2,nb,_⟩:=rep.eo i m1
  rw [e] at e2;cases e2
  exact absurd m nb
 ·exact (rep.rg a m).1
open Classical in
theorem jd (rep:Rep W ρ G s σ H) {st':List O} {H':Hp} {ρ':List Addr} {G':Hp} (stp:Stp ρ (bY s σ es G H) H ρ' G' H' NoA) (str:StR W ρ' G' st' H') (kp:List Nat) (k1:∀ i∈kp,i∈s.ow) (k2:∀ i∈s.ow,i ∉ cV es→i∈kp)
 (D1:D) (v1:V) (r1:RD W ρ' G' D1 v1) (k3:∀ i∈kp,i∈cV es→isLst s.env[i]? = true∧noL D1=true∧st'.all uH=true) :
 ∃ G'',Stp ρ G H ρ' G'' H' (Own s σ)∧Rep W ρ' G'' ⟨s.env,kp,st'⟩ σ H'∧RD W ρ' G'' D1 v1∧((∀ i∈kp,i ∉ cV es)→Sub G' G''):=by
 obtain ⟨ls1,ls2⟩:=cy (es:=es) rep
 have kn:∀ {b:Addr},(∃ i,i∈kp∧adr σ i=some b)→G b=none∧b ∉ ρ∧H b≠none:=fun {b} ⟨i,m,e⟩=>by
  obtain ⟨d,a,_,e2,n,g,o⟩:=rep.eo i (k1 i m)
  rw [e] at e2;cases e2
  exact ⟨g,n,o.th⟩
 let G2:Hp:=fun b=>if ∃ i,i∈kp∧adr σ i=some b then none else G' b
 have g2:∀ b,(∃ i,i∈kp∧adr σ i=some b)→G2 b=none:=fun b c=>if_pos c
 have g3:∀ b,¬ (∃ i,i∈kp∧adr σ i=some b)→G2 b=G' b:=fun b c=>if_neg c
 have sub2:Sub G G2:=fun b o e=>by
  rw [g3 b fun c=>by rw [(kn c).1] at e;cases e]
  exact stp.gg b o (ls1 b o e)
 have out:∀ b o,(∃ i,i∈kp∧adr σ i=some b)→G' b=some o→(∃ i,i∈kp∧i∈cV es)∧(∃ vs,o = .lst vs)∧noL D1=true∧st'.all uH=true:=fun b o c e=>by
  have hb:=(kn c).2.2
  have e2:bY s σ es G H b=some o:=by
   rcases stp.gn b o e with q | q | q
   ·exact q
   ·exact absurd q hb
   ·exact q.elim
  have fz:∃ i,i∈s.ow∧i∈cV es∧adr σ i=some b:=by
   apply Classical.byContradiction
   intro z
   have:bY s σ es G H b=G b:=if_neg z
   rw [this,(kn c).1] at e2
   cases e2
  obtain ⟨i,m,e1⟩:=c
  obtain ⟨i',m1,m2,e3⟩:=fz
  cases rep.od i i' b (k1 i m) m1 e1 e3
  obtain ⟨l1,l2,l3⟩:=k3 i m m2
  obtain ⟨d,a,e4,e5,_,_,ow⟩:=rep.eo i m1
  rw [e1] at e5;cases e5
  rw [e4] at l1
  cases d with
  | lst l=>
    obtain ⟨vs,q,_⟩:=ow
    rw [jO m1 m2 e1,q] at e2
    cases e2
    exact ⟨⟨i,m,m2⟩,⟨vs,rfl⟩,l2,l3⟩
  | _=>cases l1
 have del:∀ b o,G' b=some o→G2 b=some o∨∃ vs,o = .lst vs:=fun b o e=>by
  by_cases c:∃ i,i∈kp∧adr σ i=some b
  ·exact .inr (out b o c e).2.1
  ·exact .inl (by rw [g3 b c];exact e)
 have jA:∀ {d:D} {v:V},(noL d=true∨¬ ∃ b o,(∃ i,i∈kp∧adr σ i=some b)∧G' b=some o)→RD W ρ' G' d v→RD W ρ' G2 d v:=fun {d v} c r=>by
  rcases c with c | c
  ·exact sI del c r
  ·exact r.mono (List.prefix_refl _) fun b o e=>by rw [g3 b fun z=>c ⟨b,o,z,e⟩];exact e
 have ow2:∀ i∈kp,∃ d a,s.env[i]? = some (some d)∧adr σ i=some a∧a ∉ ρ'∧G2 a=none∧OwR W ρ' G2 H' a d:=fun i m=>by
  obtain ⟨d,a,e1,e2,n,g,o⟩:=rep.eo i (k1 i m)
  refine ⟨d,a,e1,e2,fun z=>?_,g2 a ⟨i,m,e2⟩,o.mono stp.pr sub2 fun u q=>stp.fr a u q n⟩
  rcases stp.rn a z with q | q
  ·exact n q
  ·exact o.th q
 refine ⟨G2,⟨stp.pr,sub2,fun b o e=>?_,stp.rn,stp.th,stp.fr⟩,⟨fun b o e=>?_,str.rl,str.rn,fun a m=>⟨?_,(str.rg a m).2⟩,fun n o a h1 h2=>?_,rep.el,fun i d ni e=>?_,ow2,fun i j a m1 m2=>rep.od i j a (k1 i m1) (k1 j m2)⟩,?_,fun nd b o e=>?_⟩
 ·by_cases c:∃ i,i∈kp∧adr σ i=some b
  ·rw [g2 b c] at e;cases e
  ·rw [g3 b c] at e
   rcases stp.gn b o e with q | q | q
   ·by_cases z:∃ i,i∈s.ow∧i∈cV es∧adr σ i=some b
    ·obtain ⟨i,m,_,w⟩:=z;exact .inr (.inr ⟨i,m,w⟩)
    ·have:bY s σ es G H b=G b:=if_neg z
     rw [this] at q;exact .inl q
   ·exact .inr (.inl q)
   ·exact q.elim
 ·by_cases c:∃ i,i∈kp∧adr σ i=some b
  ·rw [g2 b c] at e;cases e
  ·rw [g3 b c] at e;exact str.gh b o e
 ·by_cases c:∃ i,i∈kp∧adr σ i=some a
  ·exact g2 a c
  ·rw [g3 a c];exact (str.rg a m).1
 ·by_cases c:∃ b o,(∃ i,i∈kp∧adr σ i=some b)∧G' b=some o
  ·obtain ⟨b,u,c1,c2⟩:=c
   exact yl del (List.all_eq_true.mp (out b u c1 c2).2.2.2 o (List.mem_of_getElem? h1)) (str.ob n o a h1 h2)
  ·exact (str.ob n o a h1 h2).mono (List.prefix_refl _) (fun b u e=>by rw [g3 b fun z=>c ⟨b,u,z,e⟩];exact e) fun _ q=>q
 ·by_cases m:i∈s.ow
  ·have hd:i∈cV es:=Classical.byContradiction fun z=>ni (k2 i m z)
   obtain ⟨d',a,e1,e2,n,g,o⟩:=rep.eo i m
   have e':s.env[i]? = some (some d):=e
   rw [e'] at e1;cases e1
   refine ⟨.ref a,dy e2,?_⟩
   have nk:¬ ∃ j,j∈kp∧adr σ j=some a:=fun ⟨j,mj,ej⟩=>by
    cases rep.od i j a m (k1 j mj) e2 ej
    exact ni mj
   obtain ⟨u,hu⟩:∃ u,H a=some u:=by
    cases q:H a with
    | none=>exact absurd q o.th
    | some u=>exact ⟨u,rfl⟩
   have ga:G2 a=H a:=by
    rw [g3 a nk,hu]
    exact stp.gg a u (by rw [jO m hd e2];exact hu)
   exact (rV sub2 ga o).mono stp.pr (.refl _)
  ·obtain ⟨v,e1,r⟩:=rep.en i d m e
   exact ⟨v,e1,r.mono stp.pr sub2⟩
 ·by_cases c:∃ b o,(∃ i,i∈kp∧adr σ i=some b)∧G' b=some o
  ·obtain ⟨b,o,c1,c2⟩:=c
   exact jA (.inl (out b o c1 c2).2.2.1) r1
  ·exact jA (.inr c) r1
 ·by_cases c:∃ i,i∈kp∧adr σ i=some b
  ·obtain ⟨⟨i,m1,m2⟩,_⟩:=out b o c e
   exact absurd m2 (nd i m1)
  ·rw [g3 b c];exact e
theorem fj {E:EX} {cal:Nat→List D→List O→Res} {j:Nat} {ds:List D} {vs:List V} {br:Bool} {Ln:D→Addr→Prop} {Q:VK} (rep:Rep W ρ G s σ H) (r:RDs W ρ (bY s σ es G H) ds vs) (post:aj W E (RVL W br Ln) σ H ρ G (Own s σ) (fW cal es j ds s) Q):SpF W cal j vs H Q (E σ):=by
 refine ⟨ρ,bY s σ es G H,ds,s.st,uo rep,r,?_⟩
 unfold fW at post
 cases q:cal j ds s.st with
 | ok d st=>
   rw [q] at post
   intro v H' ρ' G' stp str rd
   obtain ⟨G2,a,b,c,_⟩:=jd rep stp str (aft es s d st).ow (fun i m=>(List.mem_filter.mp m).1) (fun i m n=>List.mem_filter.mpr ⟨m,by simp [n]⟩) d v rd fun i m n=>by
    have:=(List.mem_filter.mp m).2
    rw [Bool.or_eq_true] at this
    rcases this with z | z
    ·simp [n] at z
    ·rw [Bool.and_eq_true_iff,Bool.and_eq_true_iff] at z;exact z
   exact post v H' ρ' G2 a b (.of c)
 | exc c l st=>
   rw [q] at post
   intro cls dx H' ρ' G' stp str xr
   obtain ⟨G2,a,b,_,sb⟩:=jd rep stp str (drp es s st).ow (fun i m=>(List.mem_filter.mp m).1) (fun i m n=>List.mem_filter.mpr ⟨m,by simp [n]⟩) .non .non rfl fun i m n=>by
    have:=(List.mem_filter.mp m).2
    simp [n] at this
   have sb:=sb fun i m n=>by
    have:=(List.mem_filter.mp m).2
    simp [n] at this
   refine post cls dx H' ρ' G2 a b ?_
   obtain ⟨i,x1,x2,x3,x4,x5⟩:=xr
   exact ⟨i,x1,x2,x3,x4,x5.elim .inl fun ⟨d,vs,y1,y2,y3⟩=>.inr ⟨d,vs,y1,sb _ _ y2,y3.mono (List.prefix_refl _) sb⟩⟩
 | bad=>rw [q] at post;exact post.elim
end
section
variable {X:Cx} {k:Nat} {f C:Addr} {fd:FuncData} {ps:List Str} {sp:Sp} {E:EX} {x m:Str} {p pos apos:Pos} {e o:Expr} {es:List Expr} {ta:TE} {t:TA}
noncomputable def oP (X:Cx) (E:EX):Prop:=∀ (pins:List (Addr×Obj)) (σ:St) (H:Hp) (s:Shared) (e:Value) (s':Shared),Inv X pins σ H s→CXF X.prog X.w X.stack H s (E σ) e s'→X.xe e s'
theorem j4 {pins:List (Addr×Obj)} {σ:St} {H:Hp} {s:Shared} {Q:VK} {us:List Value} {vs:List V} (F:aR X.prog X.w X.K X.mg X.base (CXF X.prog X.w) k f fd ps sp) (hr:Room k X.A) (hb:a8 X.K fd ps []) (hx:oP X E)
 (I:Inv X pins σ H s) (r:av vs us) (h:sp vs H Q (E σ)):wpAny (model X.prog X.w) X.A (call (.ref f) us) (EP X pins σ Q) X.xe s:=by
 have hl:us.length=ps.length:=by rw [← r.length];exact F.len _ _ _ _ h
 have hb':=hb s us I.kIn (by rw [List.append_nil];exact hl)
 rw [List.append_nil] at hb'
 refine wpAny_call (codeAny_mono (F.run X.A X.stack s H ⟨us,[]⟩ us vs Q (E σ) hr I.env0 hb' r h) fun r s' hq=>?_)
 cases r with
 | error e=>exact hx pins σ H s e s' I hq
 | ok fl=>
   cases fl with
   | ret u=>exact I.after hq
   | next=>exact False.elim hq
   | brk=>exact False.elim hq
   | cont=>exact False.elim hq
noncomputable def AU (sp:Sp) (E:EX) (t:TA):TE:=fun σ H Q=>t σ H fun vs H1=>sp vs H1 Q (E σ)
theorem rY (F:aR X.prog X.w X.K X.mg X.base (CXF X.prog X.w) k f fd ps sp) (hr:Room k X.A) (hg:Gl X x) (hm:X.mg x=some (.ref f)) (hk:PySem.W.keepIn X.K (.ref f)=true) (hb:a8 X.K fd ps []) (hx:oP X E)
 (ha:PA X (e :: es) t) (hdb:(x == ("__debug__":Str))=false) (he:starEach (e :: es) X.env=(false,eval e X.env) :: starEach es X.env) (hpl:(backTo pos (starEach es X.env)).any (·.1)=false) :
 PE X (.Call (.Name x p) (e :: es) [] pos) (AU sp E t):=by
 intro pins s σ H Q I h
 refine wpAny_Call_Name_kw (cG I hg hm ?_ hdb)
 refine PySem.W.callWith_K (h₀:=X.base) I.ok.mod.kin hk (thn (ha pos pins s σ H _ I h) fun us s1 ⟨vs,H1,I1,r,q⟩=>⟨I1.kIn,?_⟩) he hpl
 exact j4 F hr hb hx I1 r q
noncomputable def sY (C:Addr) (m:Str) (sp:Sp) (E:EX) (ta:TE) (t:TA):TE:=fun σ H Q=>ta σ H fun x H1=>∃ a dx fs,x = .ref a∧H1 a=some (.ins C dx fs)∧fs.lookup m=none ∧
 t σ H1 fun vs H2=>sp (x :: vs) H2 Q (E σ)
theorem u0 {pl:Sem Bool} (he:PE X o ta) (c:Cls X.K C) (hm:oK X.K C m f) (F:aR X.prog X.w X.K X.mg X.base (CXF X.prog X.w) k f fd ps sp) (hr:Room k X.A) (hb:a8 X.K fd ps []) (hx:oP X E) (ha:PA X (e :: es) t)
 (hst:starEach (e :: es) X.env=(false,eval e X.env) :: starEach es X.env) (hpl:(backTo pos (starEach es X.env)).any (·.1)=false)
 (ht:eval (.Call (.Attribute o m apos) (e :: es) [] pos) X.env=(do
  let ov ← eval o X.env
  standAt apos.atName
  let (f,first) ← holding [ov] (getMethod ov m pl)
  callWith pos f first (backTo pos (starEach (e :: es) X.env)) (backToKw pos (keywordEach [] X.env)))) :
 PE X (.Call (.Attribute o m apos) (e :: es) [] pos) (sY C m sp E ta t):=by
 intro pins s σ H Q I h
 refine PySem.W.methodCall_KW (pl:=pl) (thn (he pins s σ H _ I h) fun u s1 ⟨x,H1,I1,rx,a,dx,fs,ex,ea,l,q⟩=>?_) ht
 subst ex
 obtain rfl:u=Value.ref a:=rx
 refine gP I1 ea c hm l ?_
 refine PySem.W.callWith_K (first:=[.ref a]) (h₀:=X.base) I.ok.mod.kin hm.kp (thn (ha pos pins s1 σ H1 _ I1 q) fun us s2 ⟨vs,H2,I2,r,q2⟩=>⟨I2.kIn,?_⟩) hst hpl
 exact j4 (us:=.ref a :: us) (vs:=.ref a :: vs) F hr hb hx I2 (.cons rfl r) q2
theorem si {pl:Sem Bool} (he:PE X o ta) (c:Cls X.K C) (hm:oK X.K C m f) (F:aR X.prog X.w X.K X.mg X.base (CXF X.prog X.w) k f fd ps sp) (hr:Room k X.A) (hb:a8 X.K fd ps []) (hx:oP X E)
 (ht:eval (.Call (.Attribute o m apos) [] [] pos) X.env=(do
  let ov ← eval o X.env
  standAt apos.atName
  let (f,first) ← holding [ov] (getMethod ov m pl)
  callWith pos f first (backTo pos (starEach [] X.env)) (backToKw pos (keywordEach [] X.env)))) :
 PE X (.Call (.Attribute o m apos) [] [] pos) (sY C m sp E ta sZ):=by
 intro pins s σ H Q I h
 refine PySem.W.methodCall_KW (pl:=pl) (thn (he pins s σ H _ I h) fun u s1 ⟨x,H1,I1,rx,a,dx,fs,ex,ea,l,q⟩=>?_) ht
 subst ex
 obtain rfl:u=Value.ref a:=rx
 refine gP I1 ea c hm l ?_
 exact PySem.W.callWith_K0 (first:=[.ref a]) I1.kIn hm.kp (j4 (us:=[.ref a]) (vs:=[.ref a]) F hr hb hx I1 (.cons rfl .nil) q)
end
section
variable {F:Fx} {X:Cx} {br:Bool}
structure tK (F:Fx) (X:Cx) (cal:Nat→List D→List O→Res) (k:Nat) (j:Nat) (f:Addr):Prop where
 ex:∃ fd ps,aR X.prog X.w X.K X.mg X.base (CXF X.prog X.w) k f fd ps (SpF F.W cal j)∧a8 X.K fd ps []∧PySem.W.keepIn X.K (.ref f)=true
theorem uq {k j:Nat} {f:Addr} {es:E} {e:Expr} {er:List Expr} {x:Str} {p pos:Pos} (A:tK F X F.cal k j f) (hr:Room k X.A) (hg:Gl X x) (hm:X.mg x=some (.ref f)) (hx:oP X F.ex) (ha:PA X (e :: er) (LA F true es)) (hdb:(x == ("__debug__":Str))=false)
 (he:starEach (e :: er) X.env=(false,eval e X.env) :: starEach er X.env) (hpl:(backTo pos (starEach er X.env)).any (·.1)=false):PE X (.Call (.Name x p) (e :: er) [] pos) (LE F br (.call j es)):=by
 obtain ⟨fd,ps,Fo,hb,hk⟩:=A.ex
 refine aq (rY Fo hr hg hm hk hb hx ha hdb he hpl) fun σ H Q h=>?_
 obtain ⟨ρ,G,s,rep,post⟩:=p6 (br:=true) (a:=es) (f:=fun l s=>fW F.cal es j l s) h
 refine ⟨ρ,G,s,rep,post.imp fun vs H1 h=>?_⟩
 obtain ⟨ρ,G,s,ds,rep,r,post⟩:=h
 exact fj rep (gf rep r) post
structure zk (F:Fx) (X:Cx) (c:Nat) (i:CI):Prop where
 ci:F.W.ci[c]? = some i
 cls:Cls X.K i.ad
 na:∀ f∈i.nm,aJ X.K i.ad f
theorem tI {names:List Str} {vs:List V} {m:Str} (h:m ∉ names):(names.zip vs).lookup m=none:=by
 induction names generalizing vs with
 | nil=>rfl
 | cons n r ih=>
   cases vs with
   | nil=>rfl
   | cons v vs=>
     have h1:m≠n:=fun z=>h (z ▸ List.mem_cons_self)
     have h2:(m == n)=false:=by simpa using h1
     show (match m == n with | true=>some v | false=>(r.zip vs).lookup m)=none
     rw [h2]
     exact ih fun z=>h (List.mem_cons_of_mem _ z)
theorem k7 {k c j:Nat} {i:CI} {a es:E} {m:Str} {σ:St} {H:Hp} {Q:VK} (C:zk F X c i) (hn:m ∉ i.nm) (h:LE F br (.mth c j a es) σ H Q):sY i.ad m (SpF F.W F.cal j) F.ex (LE F true a) (LA F true es) σ H Q:=by
 obtain ⟨ρ,G,s,rep,post⟩:=h
 refine ⟨ρ,G,s,rep,(aj.bind (m:=F.ev true a s) (R:=RVL F.W true (bo σ a s.env)) (f:=fun x s=>(match x with
  | .ref p=>(match s.st[p]? with
    | some (.ins c' _)=>if c'=c then (F.evs true es s).bind fun l s=>fW F.cal es j (x :: l) s else .bad
    | _=>.bad)
  | _=>.bad)) az post).cps fun x H1 ρ1 G1 s1 d1 st1 rep1 le1 r1 post1=>?_⟩
 cases d1 with
 | ref n=>
   dsimp only at post1
   obtain ⟨a1,ea,rfl⟩:∃ a,ρ1[n]? = some a∧x = .ref a:=by
    rcases r1 with r1 | ⟨a,_,_,_,r1⟩
    ·exact r1
    ·exact r1.elim
   cases q:s1.st[n]? with
   | none=>rw [q] at post1;exact post1.elim
   | some o=>
     rw [q] at post1
     cases o with
     | ins c' l=>
       dsimp only at post1
       by_cases z:c'=c
       ·rw [if_pos z] at post1
        subst z
        obtain ⟨i',vs,dx,w1,w2,w3,w4,w5⟩:=rep1.ob n _ a1 q ea
        rw [C.ci] at w1
        cases w1
        refine ⟨a1,dx,_,rfl,w4,tI hn,?_⟩
        refine ⟨ρ1,G1,s1,rep1,(aj.bind (m:=F.evs true es s1) (R:=RVs F.W true (bQ σ es s1.env)) (f:=fun l s=>fW F.cal es j (.ref n :: l) s) bg post1).cps fun vs2 H2 ρ2 G2 s2 ds st2 rep2 le2 r2 post2=>?_⟩
        rw [← le2.1] at r2
        exact fj (es:=es) (ds:=.ref n :: ds) rep2 (RDs.cons ⟨a1,gu st2.pr ea,rfl⟩ (gf rep2 r2)) post2
       ·rw [if_neg z] at post1;exact post1.elim
     | _=>exact post1.elim
 | _=>exact post1.elim
theorem tH {names:List Str} {vs:List V} {f:Str} {v:V} (hn:names.Nodup) {j:Nat} (h1:names[j]? = some f) (h2:vs[j]? = some v):(names.zip vs).lookup f=some v:=by
 induction names generalizing vs j with
 | nil=>simp at h1
 | cons n r ih=>
   cases vs with
   | nil=>simp at h2
   | cons w vs=>
     show (match f == n with | true=>some w | false=>(r.zip vs).lookup f)=some v
     cases j with
     | zero=>simp at h1 h2;subst h1 h2;simp
     | succ j=>
       have h3:r[j]? = some f:=by simpa using h1
       have ne:f≠n:=fun z=>by subst z;exact (List.nodup_cons.mp hn).1 (List.mem_of_getElem? h3)
       rw [show (f == n)=false by simpa using ne]
       exact ih (List.nodup_cons.mp hn).2 h3 (by simpa using h2)
end
mutual
theorem j3 {W:Wd} {ρ:List Addr} {G:Hp}:∀ {d:Dk} {v:V},RK W.K G d v→RD W ρ G (toD d) v
 | .non,_,h=>h
 | .int _,_,h=>h
 | .bl _,_,h=>h
 | .str _,_,h=>h
 | .tup l,_,⟨a,vs,e,t,r⟩=>⟨a,vs,e,t,ou r⟩
theorem ou {W:Wd} {ρ:List Addr} {G:Hp}:∀ {ds:List Dk} {vs:List V},RKs W.K G ds vs→RDs W ρ G (toD.toDs ds) vs
 | [],_,h=>h
 | _ :: _,_,⟨v,r,e,h,t⟩=>⟨v,r,e,j3 h,ou t⟩
end
section
variable {F:Fx} {X:Cx} {br:Bool}
structure gA (F:Fx) (X:Cx) (an:Nat→Str) (c:Nat) (k:Cl) (i:CI):Prop where
 ci:F.W.ci[c]? = some i
 cls:k.what≠2→Cls X.K i.ad
 na:∀ f∈i.nm,aJ X.K i.ad f
 cl:F.Γ.cl[c]? = some k
 wh:F.W.what[c]? = some k.what
 nm:i.nm=k.at_.map an
 nd:i.nm.Nodup
 xc:k.what=2→eZ X.K i.ad∧PySem.W.hasDictIn X.K i.ad=true
noncomputable def BS (K:Fg) (ta:TE) (f:Str):TE:=fun σ H Q=>ta σ H fun x H1=>(∃ a C dx fs v,x = .ref a∧H1 a=some (.ins C dx fs)∧Cls K C∧aJ K C f∧fs.lookup f=some v∧Q v H1)∨(∃ fr p C d fs v,x = .ref p∧H1 p=some (XQ fr p C (some d))∧H1 d=some (DO d fs)∧eZ K C∧PySem.W.hasDictIn K C=true∧PySem.W.findIn K (.ref C) f=some none∧fs.lookup f=some v∧Q v H1)
theorem yE {e:Expr} {f:Str} {pos:Pos} {ta:TE} (he:PE X e ta) (hb:attributeBase e f X.env (eval e X.env)=eval e X.env):PE X (.Attribute e f pos) (BS X.K ta f):=by
 intro pins s σ H Q I h
 refine tQ hb (thn (he pins s σ H _ I h) fun u s1=>?_)
 rintro ⟨x,H1,I1,rx,q⟩
 rcases q with ⟨a,C,dx,fs,v,ex,ea,c,n,l,q⟩ | ⟨fr,p,C,d,fs,v,ex,ep,ed,Y,hh,hf,l,q⟩
 ·subst ex
  obtain rfl:u=Value.ref a:=rx
  exact l6 I1 ea c n l fun u' s2 I2 ru=>⟨v,H1,I2,ru,q⟩
 ·subst ex
  obtain rfl:u=Value.ref p:=rx
  exact vM I1 ep ed Y hh hf l fun u' s2 I2 ru=>⟨v,H1,I2,ru,q⟩
theorem nK {l:List Nat} {f j:Nat} (h:l.idxOf f=j) (hj:j<l.length):l[j]? = some f:=by
 subst h
 rw [List.getElem?_eq_getElem hj]
 simp
theorem rm {an:Nat→Str} (T:∀ c k,F.Γ.cl[c]? = some k→∃ i,gA F X an c k i) {a:E} {f:Nat} {ea:Expr} {pos:Pos} (ha:PE X ea (LE F true a)) (hb:attributeBase ea (an f) X.env (eval ea X.env)=eval ea X.env):PE X (.Attribute ea (an f) pos) (LE F br (.fld a f)):=aq (yE ha hb) fun σ H Q h=>by
 obtain ⟨ρ,G,s,rep,post⟩:=one (br:=true) (a:=a) (f:=fun x s=>Out.of s (kF F.Γ s.st x f)) h
 refine ⟨ρ,G,s,rep,post.imp fun x H1 h=>?_⟩
 obtain ⟨ρ,G,s,d,rep,r,post⟩:=h
 obtain ⟨d2,e,kk⟩:=cm (br:=br) rep post
 have look:∀ {c:Nat} {l:List D},((F.Γ.cl[c]?).bind fun k=>l[k.at_.idxOf f]?)=some d2→∃ k i j,F.Γ.cl[c]? = some k∧gA F X an c k i∧l[j]? = some d2∧(l.length≤i.nm.length→i.nm[j]? = some (an f)):=fun {c l} e=>by
  cases q:F.Γ.cl[c]? with
  | none=>rw [q] at e;cases e
  | some k=>
    rw [q] at e
    obtain ⟨i,ok⟩:=T c k q
    refine ⟨k,i,k.at_.idxOf f,rfl,ok,e,fun hl=>?_⟩
    have h1:k.at_.idxOf f<l.length:=(List.getElem?_eq_some_iff.mp e).1
    have h2:k.at_.idxOf f<k.at_.length:=by rw [ok.nm,List.length_map] at hl;omega
    rw [ok.nm,List.getElem?_map,nK rfl h2]
    rfl
 have r:RB F.W ρ G H1 d x:=r
 cases d with
 | ins c l=>
   rcases r with r | ⟨_,_,_,r⟩
   ·obtain ⟨a,i,vs,rfl,hc,hl,w,rs⟩:=r
    obtain ⟨k,i',j,e1,ok,e2,e3⟩:=look e
    have e4:=ok.ci
    rw [hc] at e4;cases e4
    obtain ⟨v,ev,rv⟩:=rs.get e2
    have lk:=tH ok.nd (e3 hl) ev
    have mem:an f∈i.nm:=List.mem_of_getElem? (e3 hl)
    rcases w with ⟨w1,dx,ga⟩ | ⟨w2,fr,w⟩
    ·have w3:k.what≠2:=by have:=ok.wh;rw [w1] at this;have e:=Option.some.inj this;omega
     exact .inl ⟨a,i.ad,dx,_,v,rfl,rep.gh _ _ ga,ok.cls w3,ok.na _ mem,lk,kk.1 _ rv⟩
    ·rcases w with ⟨z,_⟩ | ⟨dd,g1,g2⟩
     ·subst z;simp at e2
     ·have w3:k.what=2:=by have:=ok.wh;rw [w2] at this;exact (Option.some.inj this).symm
      exact .inr ⟨fr,a,i.ad,dd,_,v,rfl,rep.gh _ _ g1,rep.gh _ _ g2,(ok.xc w3).1,(ok.xc w3).2,ok.na _ mem,lk,kk.1 _ rv⟩
   ·exact r.elim
 | ref n=>
   rcases r with r | ⟨_,_,_,r⟩
   ·obtain ⟨a,ea,rfl⟩:=r
    unfold kF at e
    dsimp only at e
    cases q:s.st[n]? with
    | none=>rw [q] at e;cases e
    | some o=>
      rw [q] at e
      cases o with
      | ins c l=>
        dsimp only at e
        obtain ⟨k,i',j,e1,ok,e2,e3⟩:=look e
        obtain ⟨i,vs,dx,w1,w2,w3,w4,w5⟩:=rep.ob n _ a q ea
        have e4:=ok.ci
        rw [w1] at e4;cases e4
        obtain ⟨v,ev,rv⟩:=w5.get e2
        have wz:k.what≠2:=by have:=ok.wh;rw [w2] at this;have e:=Option.some.inj this;omega
        exact .inl ⟨a,i'.ad,dx,_,v,rfl,w4,ok.cls wz,ok.na _ (List.mem_of_getElem? (e3 w3)),tH ok.nd (e3 w3) ev,kk.1 _ rv⟩
      | _=>cases e
   ·exact r.elim
 | _=>cases e
theorem m8 {b:Bi} {es:E} {σ:St} {H:Hp} {Q:VK} (h:LE F br (.bi b es) σ H Q):tCB (rBi F.W b) (LA F true es) σ H Q:=by
 obtain ⟨ρ,G,s,rep,post⟩:=p6 (br:=true) (a:=es) (f:=fun l s=>Out.of s (biD b (l.map (look s.st)))) h
 refine ⟨ρ,G,s,rep,post.imp fun vs H1 h=>?_⟩
 obtain ⟨ρ,G,s,ds,rep,r,post⟩:=h
 obtain ⟨d,e,k⟩:=cm (br:=br) rep post
 exact ⟨ρ,G,_,d,rep.gh,mI rep (RLn.rb r),e,k⟩
theorem xN {b:Bi} {id:String} {es:E} {e:Expr} {er:List Expr} {x:Str} {p pos:Pos} (hc:aO X (.builtin id) (rBi F.W b)) (hg:Gl X x) (hm:X.mg x=none) (hv:bootBuiltins x=some (.builtin id)) (ha:PA X (e :: er) (LA F true es)) (hn:x≠"__name__") (hdb:(x == ("__debug__":Str))=false)
 (he:starEach (e :: er) X.env=(false,eval e X.env) :: starEach er X.env) (hpl:(backTo pos (starEach er X.env)).any (·.1)=false):PE X (.Call (.Name x p) (e :: er) [] pos) (LE F br (.bi b es)):=
 aq (lg hc hg hm hv ha hn hdb he hpl) fun σ H Q h=>m8 h
theorem xO {b:Bi} {T:String} {es:E} {e:Expr} {er:List Expr} {x:Str} {p pos:Pos} (hc:aO X (.type T) (rBi F.W b)) (hg:Gl X x) (hm:X.mg x=none) (hv:bootBuiltins x=some (.type T)) (ha:PA X (e :: er) (LA F true es)) (hn:x≠"__name__") (hdb:(x == ("__debug__":Str))=false)
 (he:starEach (e :: er) X.env=(false,eval e X.env) :: starEach er X.env) (hpl:(backTo pos (starEach er X.env)).any (·.1)=false):PE X (.Call (.Name x p) (e :: er) [] pos) (LE F br (.bi b es)):=
 aq (jm hc hg hm hv ha hn hdb he hpl) fun σ H Q h=>m8 h
theorem Ad (hK:F.W.K=X.K) {b:Bi} (hb:b = .isTup∨b = .isStr∨b = .isBool∨b = .isInt∨b = .isLst∨b = .isDic) {a:E} {ea:Expr} {x:Str} {p q pos:Pos} (ha:PE X ea (LE F true a)) (hg:Gl X "isinstance") (hm:X.mg "isinstance" = none) (hg2:Gl X x) (hm2:X.mg x=none) (hv:bootBuiltins x=some (.type (tyN b))) (hn:x≠"__name__") (hd:(x == ("__debug__":Str))=false)
 (hs:starEach [ea,.Name x q] X.env=(false,eval ea X.env) :: starEach [.Name x q] X.env):PE X (.Call (.Name "isinstance" p) [ea,.Name x q] [] pos) (LE F br (.bi b (.cons a .nil))):=by
 have h2:starEach [.Name x q] X.env=(false,eval (.Name x q) X.env) :: starEach [] X.env:=rfl
 refine aq (lg (ql (W:=F.W) hK hb) hg hm boot_isinstance (gr ha (gr (Ay hg2 hm2 hv hn hd) jT h2) hs) (by decide) (by decide) hs rfl) fun σ H Q h=>?_
 obtain ⟨ρ,G,s,rep,post⟩:=h
 refine ⟨ρ,G,s,rep,(aj.bind (m:=F.ev true a s) (Q:=Q) (R':=RVL F.W br (bo σ (.bi b (.cons a .nil)) s.env)) (R:=RVL F.W true (bo σ a s.env)) (f:=fun x s=>Out.of s (biD b [look s.st x])) az (by
  have e:∀ s,F.ev br (.bi b (.cons a .nil)) s=(F.ev true a s).bind fun x s=>Out.of s (biD b [look s.st x]):=fun s=>by
   show ((F.ev true a s).bind fun x s=>Out.ok [x] s).bind (fun l s=>Out.of s (biD b (l.map (look s.st))))=_
   rw [ay]
   rfl
  rw [e] at post
  exact post)).cps fun x1 H1 ρ1 G1 s1 d1 st1 rep1 le1 r1 post1=>?_⟩
 obtain ⟨d,e,k⟩:=cm (br:=br) rep1 post1
 exact ⟨ρ1,G1,[look s1.st d1],d,[x1],rep1.gh,rfl,⟨x1,[],rfl,bL rep1 r1.rv,rfl⟩,e,k⟩
theorem mO {W:Wd} {ρ:List Addr} {G H:Hp} {z:Str} {v:V} (h:RB W ρ G H (.str z) v):v = .str z:=by
 rcases h with r | ⟨_,_,_,r⟩
 ·exact r
 ·exact r.elim
theorem xV (hK:F.W.K=X.K) {j:Nat} {t:List (Str×Dk)} {b:E} {eb:Expr} {x:Str} {p pos:Pos} {a:Addr} (ht:F.Γ.tb[j]? = some t) (hg:Gl X x) (hm:X.mg x=some (.ref a)) (hl:KTD.tabLook (aW X.K) (fun b=>X.K.lookup b) a t=true) (hb:PE X eb (LE F true b)) (hs:eg eb) (hd:(x == ("__debug__":Str))=false):PE X (.Subscript (.Name x p) eb pos) (LE F br (.tab j b)):=by
 refine aq (u4 hg hm hl hb hs hd (fun _=>rfl)) fun σ H Q h=>?_
 obtain ⟨ρ,G,s,rep,post⟩:=one (br:=true) (a:=b) (f:=fun x s=>(match F.Γ.tb[j]?,x with | some t,.str k=>Out.of s ((KTD.datumAt k t).map toD) | _,_=>.bad)) h
 refine ⟨ρ,G,s,rep,post.imp fun y H1 h=>?_⟩
 obtain ⟨ρ,G,s,d,rep,r,post⟩:=h
 rw [ht] at post
 cases d with
 | str z=>
   obtain ⟨d2,e,kk⟩:=cm (br:=br) rep post
   cases q:KTD.datumAt z t with
   | none=>rw [q] at e;cases e
   | some dk=>
     rw [q] at e;cases e
     exact ⟨rfl,z,dk,mO r,q,fun v hv=>kk.1 _ (j3 (by rw [hK];exact hv G))⟩
 | _=>exact post.elim
theorem iq {j:Nat} {t:List (Str×Dk)} {b:E} (ht:F.Γ.tb[j]? = some t) {σ:St} {H:Hp} {Q:VK} (h:LE F br (.tabin j b) σ H Q):AY (t.map (·.1)) (LE F true b) σ H Q:=by
 obtain ⟨ρ,G,s,rep,post⟩:=one (br:=true) (a:=b) (f:=fun x s=>(match F.Γ.tb[j]?,x with | some t,.str k=>Out.ok (D.bl (KTD.datumAt k t).isSome) s | _,_=>.bad)) h
 refine ⟨ρ,G,s,rep,post.imp fun y H1 h=>?_⟩
 obtain ⟨ρ,G,s,d,rep,r,post⟩:=h
 rw [ht] at post
 cases d with
 | str z=>exact ⟨z,mO r,by rw [← ff];exact aj.fin post rep (RVL.of rfl)⟩
 | _=>exact post.elim
theorem rq {j:Nat} {t:List (Str×Dk)} {b:E} {eb:Expr} {x:Str} {p pos:Pos} {a:Addr} (ht:F.Γ.tb[j]? = some t) (hg:Gl X x) (hm:X.mg x=some (.ref a)) (hl:KTD.tabLook (aW X.K) (fun b=>X.K.lookup b) a t=true) (hb:PE X eb (LE F true b)) (hd:(x == ("__debug__":Str))=false):PE X (.Compare eb [.In] [.Name x p] pos) (LE F br (.tabin j b)):=
 aq (mF (rW hg hm hl hb hd) rfl) fun σ H Q h=>iq ht h
theorem rG {j:Nat} {t:List (Str×Dk)} {b:E} {eb:Expr} {x:Str} {p pos:Pos} {a:Addr} (ht:F.Γ.tb[j]? = some t) (hg:Gl X x) (hm:X.mg x=some (.ref a)) (hl:KTD.tabLook (aW X.K) (fun b=>X.K.lookup b) a t=true) (hb:PE X eb (LE F true b)) (hd:(x == ("__debug__":Str))=false):PT X (.Compare eb [.In] [.Name x p] pos) (LT F (.tabin j b)):=
 cK (mH (rW hg hm hl hb hd) rfl) fun σ H Q h=>iq (br:=true) ht (ra (fun s d s' h=>by
  obtain ⟨x,s1,_,h⟩:=eB h
  split at h
  ·cases h;exact ⟨_,rfl⟩
  ·cases h) h)
end
noncomputable def ItR (W:Wd) (G0:Hp) (ρ0:List Addr) (J:It) (ds:List D):Prop:=∀ ρ G H,ρ0 <+: ρ→Sub G0 G→Sub G H→(∀ i,i<ds.length→J.go i H)∧J.stop ds.length H ∧
 ∀ i x H',J.yld i H x H'→∀ d,ds[i]? = some d→(H'=H∧RD W ρ G d x)∨∃ vs T,x = .ref T∧H T=none∧H'=upd H T (.tup vs)∧RD W ρ (upd G T (.tup vs)) d x
noncomputable def LI (F:Fx) (c:E):TI:=Lf F.W F.ex (fun _ ρ G _ d J=>∃ ds,d = .lst ds∧ItR F.W G ρ J ds) (F.ev false c)
theorem eO {X:Cx} {tg e:Expr} {t t':TI} (h:PI X tg e t) (i:∀ σ H Q,t' σ H Q→t σ H Q):PI X tg e t':=fun pins s σ H Q I q=>h pins s σ H Q I (i σ H Q q)
section
variable {W:Wd} {X:Cx} {ρ:List Addr} {G:Hp}
theorem j9 {K:Fg} {H H':Hp} {a:Addr} {vs:List V} (h:Rd G a (.lst vs)) (s:Sub G H):SqL K H a vs:=.inl (cM s h)
theorem zY {K:Fg} {a:Addr} {vs:List V} {ds:List D} (h:Rd G a (.lst vs)) (r:RDs W ρ G ds vs):ItR W G ρ (Itl K a) ds:=fun ρ' G' H' p s g=>by
 have sq:SqL K H' a vs:=j9 (H':=H') h (s.trans g)
 refine ⟨fun i hi=>⟨vs,vs[i]'(by rw [← r.len];exact hi),sq,List.getElem?_eq_getElem _⟩,⟨vs,sq,Nat.le_of_eq r.len.symm⟩,fun i x H2 y d e=>.inl ⟨y.1,?_⟩⟩
 obtain ⟨v,e1,r1⟩:=r.get e
 have:=y.2 vs sq
 rw [e1] at this;cases this
 exact r1.mono p s
theorem z5 (K:Fg) (hK:W.K=K) {a:Addr} {vs:List V} {ds:List D} (h:Tp W.K G a vs) (r:RDs W ρ G ds vs):ItR W G ρ (Itt K a) ds:=fun ρ' G' H' p s g=>by
 have sq:SqT K H' a vs:=by have:=(aA (s.trans g) h).sq;rw [hK] at this;exact this
 refine ⟨fun i hi=>⟨vs,vs[i]'(by rw [← r.len];exact hi),sq,List.getElem?_eq_getElem _⟩,⟨vs,sq,Nat.le_of_eq r.len.symm⟩,fun i x H2 y d e=>.inl ⟨y.1,?_⟩⟩
 obtain ⟨v,e1,r1⟩:=r.get e
 have:=y.2 vs sq
 rw [e1] at this;cases this
 exact r1.mono p s
theorem vx {lo:Int} {n i:Nat} {d:D} (e:(mJ lo n)[i]? = some d):d = .int (lo+i):=by
 unfold mJ at e
 rw [List.getElem?_map] at e
 cases q:(List.range n)[i]? with
 | none=>rw [q] at e;cases e
 | some j=>
   rw [q] at e
   rw [List.getElem?_range (by have:=(List.getElem?_eq_some_iff.mp q).1;simpa using this)] at q
   cases q;cases e;rfl
theorem zZ {lo:Int} {n:Nat}:ItR W G ρ (Itr lo n) (mJ lo n):=fun ρ' G' H' p s g=>by
 have l:(mJ lo n).length=n:=by unfold mJ;simp
 refine ⟨fun i hi=>by rw [l] at hi;exact hi,by rw [l];exact Nat.le_refl _,fun i x H2 y d e=>.inl ⟨y.1,?_⟩⟩
 rw [vx e]
 exact y.2
theorem kg:∀ {x y:List D} {i:Nat} {d:D},(d8 x y)[i]? = some d→∃ a b,d = .tup [a,b]∧x[i]? = some a∧y[i]? = some b
 | [],_,_,_,e=>by simp [d8] at e
 | _ :: _,[],_,_,e=>by simp [d8] at e
 | a :: r,b :: q,0,d,e=>by simp [d8] at e;exact ⟨a,b,e.symm,rfl,rfl⟩
 | a :: r,b :: q,i+1,d,e=>by
   have e':(d8 r q)[i]? = some d:=by simpa [d8] using e
   obtain ⟨u,v,h1,h2,h3⟩:=kg e'
   exact ⟨u,v,h1,by simpa using h2,by simpa using h3⟩
theorem eW:∀ (x y:List D),(d8 x y).length=min x.length y.length
 | [],_=>by simp [d8]
 | _ :: _,[]=>by simp [d8]
 | a :: r,b :: q=>by simp [d8,eW r q]
theorem gK:∀ {x:List D} {lo:Int} {i:Nat} {d:D},(bJ lo x)[i]? = some d→∃ a,d = .tup [.int (lo+i),a]∧x[i]? = some a
 | [],_,_,_,e=>by simp [bJ] at e
 | a :: r,lo,0,d,e=>by simp [bJ] at e;exact ⟨a,by rw [← e];simp,rfl⟩
 | a :: r,lo,i+1,d,e=>by
   have e':(bJ (lo+1) r)[i]? = some d:=by simpa [bJ] using e
   obtain ⟨u,h1,h2⟩:=gK e'
   refine ⟨u,?_,by simpa using h2⟩
   rw [h1]
   congr 2
   simp only [D.int.injEq]
   push_cast
   omega
theorem c6:∀ (x:List D) (lo:Int),(bJ lo x).length=x.length
 | [],_=>by simp [bJ]
 | a :: r,lo=>by simp [bJ,c6 r]
theorem gw {T:Addr} {H:Hp} {ds:List D} {vs:List V} (gh:Sub G H) (hT:H T=none) (r:RDs W ρ G ds vs):RD W ρ (upd G T (.tup vs)) (.tup ds) (.ref T):=⟨T,vs,rfl,.inl ae,r.mono (List.prefix_refl _) (aV (aI gh hT))⟩
theorem z6 {K:Fg} {a b:Addr} {vs ws:List V} {ds es:List D} (h:Rd G a (.lst vs)) (r:RDs W ρ G ds vs) (h':Rd G b (.lst ws)) (r':RDs W ρ G es ws):ItR W G ρ (Itz K a b) (d8 ds es):=fun ρ' G' H' p s g=>by
 have q1:SqL K H' a vs:=j9 (H':=H') h (s.trans g)
 have q2:SqL K H' b ws:=j9 (H':=H') h' (s.trans g)
 have l1:=r.len
 have l2:=r'.len
 refine ⟨fun i hi=>?_,⟨vs,ws,q1,q2,by rw [eW,l1,l2]⟩,fun i x H2 y d e=>.inr ?_⟩
 ·rw [eW] at hi;exact ⟨vs,ws,q1,q2,by omega,by omega⟩
 ·obtain ⟨T,u,v,rfl,hT,rfl,e1,e2⟩:=y
  obtain ⟨da,db,rfl,g1,g2⟩:=kg e
  obtain ⟨v1,f1,k1⟩:=r.get g1
  obtain ⟨v2,f2,k2⟩:=r'.get g2
  rw [e1 vs q1] at f1;cases f1
  rw [e2 ws q2] at f2;cases f2
  exact ⟨_,T,rfl,hT,rfl,gw g hT (.cons (k1.mono p s) (.cons (k2.mono p s) .nil))⟩
theorem xt (K:Fg) (hK:W.K=K) {a b:Addr} {vs ws:List V} {ds es:List D} (h:Tp W.K G a vs) (r:RDs W ρ G ds vs) (h':Tp W.K G b ws) (r':RDs W ρ G es ws) (hl:ds.length≤es.length):ItR W G ρ (tL K a b) (d8 ds es):=fun ρ' G' H' p s g=>by
 have q1:SqT K H' a vs:=by have:=(aA (s.trans g) h).sq;rw [hK] at this;exact this
 have q2:SqT K H' b ws:=by have:=(aA (s.trans g) h').sq;rw [hK] at this;exact this
 have l1:=r.len
 have l2:=r'.len
 refine ⟨fun i hi=>?_,⟨vs,ws,q1,q2,by rw [eW];omega⟩,fun i x H2 y d e=>.inr ?_⟩
 ·rw [eW] at hi;exact ⟨vs,ws,q1,q2,by omega,by omega⟩
 ·obtain ⟨T,u,v,rfl,hT,rfl,e1,e2⟩:=y
  obtain ⟨da,db,rfl,g1,g2⟩:=kg e
  obtain ⟨v1,f1,k1⟩:=r.get g1
  obtain ⟨v2,f2,k2⟩:=r'.get g2
  rw [e1 vs q1] at f1;cases f1
  rw [e2 ws q2] at f2;cases f2
  exact ⟨_,T,rfl,hT,rfl,gw g hT (.cons (k1.mono p s) (.cons (k2.mono p s) .nil))⟩
theorem zX {K:Fg} {a:Addr} {vs:List V} {ds:List D} (h:Rd G a (.lst vs)) (r:RDs W ρ G ds vs):ItR W G ρ (ItL K a) (bJ 0 ds):=fun ρ' G' H' p s g=>by
 have q1:SqL K H' a vs:=j9 (H':=H') h (s.trans g)
 have l1:=r.len
 refine ⟨fun i hi=>?_,⟨vs,q1,by rw [c6,l1]⟩,fun i x H2 y d e=>.inr ?_⟩
 ·rw [c6] at hi;exact ⟨vs,q1,by omega⟩
 ·obtain ⟨T,u,rfl,hT,rfl,e1⟩:=y
  obtain ⟨da,rfl,g1⟩:=gK e
  obtain ⟨v1,f1,k1⟩:=r.get g1
  rw [e1 vs q1] at f1;cases f1
  refine ⟨_,T,rfl,hT,rfl,gw g hT (.cons ?_ (.cons (k1.mono p s) .nil))⟩
  show V.int (i:Nat)=V.int (0+(i:Nat))
  rw [Int.zero_add]
theorem xq (K:Fg) (hK:W.K=K) {lo:Int} {a:Addr} {vs:List V} {ds:List D} (h:Tp W.K G a vs) (r:RDs W ρ G ds vs):ItR W G ρ (Ite K a lo) (bJ lo ds):=fun ρ' G' H' p s g=>by
 have q1:SqT K H' a vs:=by have:=(aA (s.trans g) h).sq;rw [hK] at this;exact this
 have l1:=r.len
 refine ⟨fun i hi=>?_,⟨vs,q1,by rw [c6];omega⟩,fun i x H2 y d e=>.inr ?_⟩
 ·rw [c6] at hi;exact ⟨vs,vs[i]'(by omega),q1,List.getElem?_eq_getElem _⟩
 ·obtain ⟨T,u,rfl,hT,rfl,e1⟩:=y
  obtain ⟨da,rfl,g1⟩:=gK e
  obtain ⟨v1,f1,k1⟩:=r.get g1
  rw [e1 vs q1] at f1;cases f1
  exact ⟨_,T,rfl,hT,rfl,gw g hT (.cons rfl (.cons (k1.mono p s) .nil))⟩
end
section
variable {F:Fx} {X:Cx} {br:Bool}
theorem BF (hK:F.W.K=X.K) {a:E} {tg e:Expr} (ha:PE X e (LE F false a)):PI X tg e (LI F (.itv a)):=eO (yI ha) fun σ H R h=>by
 obtain ⟨ρ,G,s,rep,post⟩:=one (br:=false) (a:=a) (f:=fun x s=>(match x with | .lst l=>Out.ok (D.lst l) s | .tup l=>.ok (.lst l) s | _=>.bad)) h
 refine ⟨ρ,G,s,rep,post.imp fun x H1 h=>?_⟩
 obtain ⟨ρ,G,s,d,rep,r,post⟩:=h
 have r:RD F.W ρ G d x:=r
 cases d with
 | lst l=>
   obtain ⟨p,vs,rfl,t,rs⟩:=r
   exact ⟨p,rfl,.inl ⟨⟨vs,.inl (cM rep.gh t)⟩,aj.fin post rep ⟨l,rfl,zY t rs⟩⟩⟩
 | tup l=>
   obtain ⟨p,vs,rfl,t,rs⟩:=r
   have t':=aA rep.gh t
   rw [hK] at t'
   exact ⟨p,rfl,.inr ⟨⟨vs,t'.sq⟩,aj.fin post rep ⟨l,rfl,z5 X.K hK t rs⟩⟩⟩
 | _=>exact post.elim
theorem jG {b:Bi} {es:E} {σ:St} {H:Hp} {R:It→Hp→Prop} (h:LI F (.it b es) σ H R):LA F false es σ H fun vs H1=>∃ ρ G l ds,Sub G H1∧RDs F.W ρ G l vs∧itD b l=some ds∧∀ J,ItR F.W G ρ J ds→R J H1:=by
 obtain ⟨ρ,G,s,rep,post⟩:=p6 (br:=false) (a:=es) (f:=fun l s=>Out.of s ((itD b l).map D.lst)) h
 refine ⟨ρ,G,s,rep,post.imp fun vs H1 h=>?_⟩
 obtain ⟨ρ,G,s,l,rep,r,post⟩:=h
 cases q:itD b l with
 | none=>rw [q] at post;exact post.elim
 | some ds=>rw [q] at post;exact ⟨ρ,G,l,ds,rep.gh,r,q,fun J hJ=>aj.fin post rep ⟨ds,rfl,hJ⟩⟩
theorem vw {W:Wd} {ρ:List Addr} {G:Hp} {x:D} {vs:List V} (h:RDs W ρ G [x] vs):∃ v,vs = [v]∧RD W ρ G x v:=by
 obtain ⟨v,r,rfl,h,t⟩:=h
 cases (show r = [] from t)
 exact ⟨v,rfl,h⟩
theorem AJ {W:Wd} {ρ:List Addr} {G:Hp} {x y:D} {vs:List V} (h:RDs W ρ G [x,y] vs):∃ v w,vs = [v,w]∧RD W ρ G x v∧RD W ρ G y w:=by
 obtain ⟨v,r,rfl,h,t⟩:=h
 obtain ⟨w,rfl,h2⟩:=vw t
 exact ⟨v,w,rfl,h,h2⟩
theorem Ak {es:E} {tg a:Expr} {p pos:Pos} (hg:Gl X "range") (hm:X.mg "range" = none) (ha:PA X [a] (LA F false es)) (hs:starEach [a] X.env = [(false,eval a X.env)]):PI X tg (.Call (.Name "range" p) [a] [] pos) (LI F (.it .range1 es)):=eO (pD hg hm ha hs) fun σ H R h=>by
 obtain ⟨ρ,G,s,rep,post⟩:=jG h
 refine ⟨ρ,G,s,rep,post.imp fun vs H1 h=>?_⟩
 obtain ⟨ρ,G,l,ds,gh,r,e,q⟩:=h
 rcases l with _ | ⟨x,_ | ⟨y,l⟩⟩
 ·cases e
 ·cases x with
  | int j=>
    unfold itD at e;dsimp only at e
    split at e
    ·rename_i c;cases e
     obtain ⟨v,rfl,rv⟩:=vw r
     cases (show v = .int j from rv)
     exact ⟨j,rfl,c.1,c.2,q _ zZ⟩
    ·cases e
  | _=>cases e
 ·cases x <;> cases e
theorem u9 {es:List Expr} {k:Nat} {tp p pos:Pos} {a b:Expr} {ta:TA} (hg:Gl X "zip") (hm:X.mg "zip" = none) (ha:PA X [a,b] ta) (hs:starEach [a,b] X.env = [(false,eval a X.env),(false,eval b X.env)]) (hs2:starEach [b] X.env = [(false,eval b X.env)]) :
 PI X (.Tuple es k tp) (.Call (.Name "zip" p) [a,b] [] pos) (fun σ H R=>ta σ H fun vs H1=>(∃ a b xs ys,vs = [.ref a,.ref b]∧SqL X.K H1 a xs∧SqL X.K H1 b ys∧R (Itz X.K a b) H1)∨(∃ a b xs ys,vs = [.ref a,.ref b]∧SqT X.K H1 a xs∧SqT X.K H1 b ys∧R (tL X.K a b) H1)):=by
 intro pins s σ H R I h
 refine Call_ (dX I hg hm boot_zip (PyProof.Rows.callWith_type1 (thn (ha pos pins s σ H _ I h) fun us s1 q1=>?_) (by rw [hs,hs2]) (by rw [hs2];rfl)))
 obtain ⟨vs,H1,I1,r1,q⟩:=q1
 rcases q with ⟨l1,l2,xs,ys,e,hx,hy,q⟩ | ⟨l1,l2,xs,ys,e,hx,hy,q⟩
 ·subst e
  obtain ⟨u,w',e,ru,rw'⟩:=av.two r1
  subst e
  cases ru;cases rw'
  obtain ⟨i1,v1,p1,z1⟩:=I1.list hx
  obtain ⟨i2,v2,p2,z2⟩:=I1.list hy
  refine call_zip_2 p1.isList p2.isList fun h' hz hTI hTO g1 g2 hsz kp=>wpAny_pyIter_zip hz ?_
  have I2:Inv X pins σ H1 { s1 with heap:=h' }:=I1.kept (t':=s1.toks) kp
  refine ⟨s1.heap.objs.size+4,[s1.heap.objs.size+4,s1.heap.objs.size+2,s1.heap.objs.size+3,s1.heap.objs.size,s1.heap.objs.size+1],_,Itz X.K l1 l2,H1,rfl,I2,tu l1 l2 _ _ _ _ _ (p7 _),⟨hz,hTI,⟨_,_,hTO⟩,g1,g2⟩,fun c hc=>?_,q⟩
  have hc':s1.heap.objs.size≤c:=le5 _ _ (by simpa using hc)
  exact I1.fpOk hc' (I1.hok.fresh hc')
 ·subst e
  obtain ⟨u,w',e,ru,rw'⟩:=av.two r1
  subst e
  cases ru;cases rw'
  obtain ⟨i1,v1,p1,z1⟩:=I1.tuple hx
  obtain ⟨i2,v2,p2,z2⟩:=I1.tuple hy
  refine lX (show s1.heap.IsTuple l1 i1.toArray from p1) (show s1.heap.IsTuple l2 i2.toArray from p2) fun h' hz hTI hTO g1 g2 kp=>wpAny_pyIter_zip hz ?_
  have I2:Inv X pins σ H1 { s1 with heap:=h' }:=I1.kept (t':=s1.toks) kp
  refine ⟨s1.heap.objs.size+4,[s1.heap.objs.size+4,s1.heap.objs.size+2,s1.heap.objs.size+3,s1.heap.objs.size,s1.heap.objs.size+1],_,tL X.K l1 l2,H1,rfl,I2,pT l1 l2 _ _ _ _ _ (p7 _),⟨hz,hTI,⟨_,_,hTO⟩,g1,g2⟩,fun c hc=>?_,q⟩
  have hc':s1.heap.objs.size≤c:=le5 _ _ (by simpa using hc)
  exact I1.fpOk hc' (I1.hok.fresh hc')
theorem Al (hK:F.W.K=X.K) {ee:E} {es:List Expr} {k:Nat} {a b:Expr} {tp p pos:Pos} (hg:Gl X "zip") (hm:X.mg "zip" = none) (ha:PA X [a,b] (LA F false ee)) (hs:starEach [a,b] X.env = [(false,eval a X.env),(false,eval b X.env)]) (hs2:starEach [b] X.env = [(false,eval b X.env)]):PI X (.Tuple es k tp) (.Call (.Name "zip" p) [a,b] [] pos) (LI F (.it .zip2 ee)):=eO (u9 hg hm ha hs hs2) fun σ H R h=>by
 obtain ⟨ρ,G,s,rep,post⟩:=jG h
 refine ⟨ρ,G,s,rep,post.imp fun vs H1 h=>?_⟩
 obtain ⟨ρ,G,l,ds,gh,r,e,q⟩:=h
 rcases l with _ | ⟨x,_ | ⟨y,_ | ⟨z,l⟩⟩⟩
 ·cases e
 ·cases x <;> cases e
 ·cases x with
  | lst u=>cases y with
    | lst w=>
      cases e
      obtain ⟨v1,v2,rfl,⟨p1,vs1,rfl,t1,r1⟩,⟨p2,vs2,rfl,t2,r2⟩⟩:=AJ r
      exact .inl ⟨p1,p2,vs1,vs2,rfl,.inl (cM gh t1),.inl (cM gh t2),q _ (z6 t1 r1 t2 r2)⟩
    | _=>cases e
  | tup u=>cases y with
    | tup w=>
      unfold itD at e;dsimp only at e
      split at e
      ·rename_i c;cases e
       obtain ⟨v1,v2,rfl,⟨p1,vs1,rfl,t1,r1⟩,⟨p2,vs2,rfl,t2,r2⟩⟩:=AJ r
       have u1:=aA gh t1
       have u2:=aA gh t2
       rw [hK] at u1 u2
       exact .inr ⟨p1,p2,vs1,vs2,rfl,u1.sq,u2.sq,q _ (xt X.K hK t1 r1 t2 r2 c)⟩
      ·cases e
    | _=>cases e
  | _=>cases e
 ·cases x <;> first | (cases y <;> cases e) | cases e
theorem yU {pins:List (Addr×Obj)} {s:Shared} {σ:St} {H:Hp} (I:Inv X pins σ H s) {l:Addr} {xs:List V} (h:Rd H l (.lst xs)):∃ (its:List Value) (n:Nat),av xs its∧s.heap.get? l=some { cls:=.type "list",data:=.seq its.toArray n }:=by
 rcases h with h | ⟨o,h⟩
 ·obtain ⟨_,its,n,r,e⟩:=I.hok l _ h;exact ⟨its,n,r,e⟩
 ·obtain ⟨_,_,its,n,r,e⟩:=I.hok l _ h;exact ⟨its,n,r,e⟩
theorem sx {es:List Expr} {k:Nat} {tp p pos:Pos} {a:Expr} {ta:TA} (hg:Gl X "enumerate") (hm:X.mg "enumerate" = none) (ha:PA X [a] ta) (hs:starEach [a] X.env = [(false,eval a X.env)]) :
 PI X (.Tuple es k tp) (.Call (.Name "enumerate" p) [a] [] pos) (fun σ H R=>ta σ H fun vs H1=>∃ a xs,vs = [.ref a]∧Rd H1 a (.lst xs)∧R (ItL X.K a) H1):=by
 intro pins s σ H R I h
 refine Call_ (dX I hg hm boot_enumerate (PyProof.Rows.callWith_type1 (thn (ha pos pins s σ H _ I h) fun us s1 q1=>?_) (by rw [hs];rfl) rfl))
 obtain ⟨vs,H1,I1,r1,l,xs,e,hx,q⟩:=q1
 subst e
 obtain ⟨u,e,ru⟩:=av.one r1
 subst e
 cases ru
 obtain ⟨its,n,v1,ho⟩:=yU I1 hx
 refine call_enumerate_1 ho fun h' g1 g2 hsz kp=>wpAny_pyIter_enum g1 ?_
 have I2:Inv X pins σ H1 { s1 with heap:=h' }:=I1.kept (t':=s1.toks) kp
 refine ⟨s1.heap.objs.size+1,[s1.heap.objs.size+1,s1.heap.objs.size],_,ItL X.K l,H1,rfl,I2,mU l _ _ (Nat.succ_ne_self _),⟨⟨_,g1⟩,g2⟩,fun c hc=>?_,q⟩
 have hc':s1.heap.objs.size≤c:=by
  rcases List.mem_cons.mp hc with z | z
  ·rw [z];exact Nat.le_succ _
  ·rw [List.mem_singleton.mp z];exact Nat.le_refl _
 exact I1.fpOk hc' (I1.hok.fresh hc')
theorem BE {ee:E} {es:List Expr} {k:Nat} {a:Expr} {tp p pos:Pos} (hg:Gl X "enumerate") (hm:X.mg "enumerate" = none) (ha:PA X [a] (LA F false ee)) (hs:starEach [a] X.env = [(false,eval a X.env)]):PI X (.Tuple es k tp) (.Call (.Name "enumerate" p) [a] [] pos) (LI F (.it .enum ee)):=eO (sx hg hm ha hs) fun σ H R h=>by
 obtain ⟨ρ,G,s,rep,post⟩:=jG h
 refine ⟨ρ,G,s,rep,post.imp fun vs H1 h=>?_⟩
 obtain ⟨ρ,G,l,ds,gh,r,e,q⟩:=h
 rcases l with _ | ⟨x,_ | ⟨y,l⟩⟩
 ·cases e
 ·cases x with
  | lst u=>
    cases e
    obtain ⟨v1,rfl,⟨p1,vs1,rfl,t1,r1⟩⟩:=vw r
    exact ⟨p1,vs1,rfl,cM gh t1,q _ (zX t1 r1)⟩
  | _=>cases e
 ·cases x <;> cases e
theorem xZ {a:E} {ea:Expr} {nm:Option Str} {kp:Pos} (ha:PE X ea (LE F false a)):PK X [⟨nm,ea,kp⟩] (sV (LE F false a) sZ):=va ha yK
theorem tD {γ δ:Type} {R':List (Option D)→List Addr→Hp→Hp→γ→δ→Prop} {a b:E} {f:List D→Sta→Out γ} {σ:St} {H:Hp} {Q:δ→Hp→Prop} {br:Bool} (h:Lf F.W F.ex R' (fun s=>(F.evs br (.cons a (.cons b .nil)) s).bind fun x s=>f x s) σ H Q) :
 LA F br (.cons a .nil) σ H fun xs H1=>LE F br b σ H1 fun y H2=>∃ ρ G s d1 d2,Rep F.W ρ G s σ H2∧(∃ x,xs = [x]∧RV F.W br ρ G H2 d1 x)∧RV F.W br ρ G H2 d2 y∧aj F.W F.ex (R' s.env) σ H2 ρ G (Own s σ) (f [d1,d2] s) Q:=by
 obtain ⟨ρ,G,s,rep,post⟩:=h
 have e1:∀ s,(F.evs br (.cons a (.cons b .nil)) s).bind f=(F.ev br a s).bind fun x s=>(F.ev br b s).bind fun y s=>f [x,y] s:=fun s=>by
  show ((F.ev br a s).bind fun x s=>((F.ev br b s).bind fun y s=>Out.ok [y] s).bind fun l s=>Out.ok (x :: l) s).bind f=_
  rw [ay];congr 1;funext x s;rw [ay,ay];rfl
 have e2:∀ s,F.evs br (.cons a .nil) s=(F.ev br a s).bind fun x s=>Out.ok [x] s:=fun s=>rfl
 have post:aj F.W F.ex (R' s.env) σ H ρ G (Own s σ) ((F.evs br (.cons a (.cons b .nil)) s).bind f) Q:=post
 rw [e1] at post
 refine ⟨ρ,G,s,rep,?_⟩
 rw [e2]
 have p1:=aj.bind (m:=F.ev br a s) (R:=RVL F.W br (bo σ a s.env)) az post
 cases q:F.ev br a s with
 | ok x s1=>
   rw [q] at p1
   intro xs H1 ρ1 G1 st1 rep1 r1
   have r1':∃ v,xs = [v]∧RVL F.W br (bQ σ (.cons a .nil) s.env) ρ1 G1 H1 x v:=by
    cases br with
    | true=>obtain ⟨v,r,rfl,h,t⟩:=r1;cases (show r = [] from t);exact ⟨v,rfl,h⟩
    | false=>obtain ⟨v,rfl,h⟩:=vw r1;exact ⟨v,rfl,h⟩
   obtain ⟨v,rfl,rv⟩:=r1'
   have le1:=az (F:=F) _ _ q
   have post1:aj F.W F.ex (R' s.env) σ H1 ρ1 G1 (Own s1 σ) ((F.ev br b s1).bind fun y s=>f [x,y] s) Q:=by
    rw [q] at post
    exact aj.stp post st1 fun a z=>.inl (hV le1 a z)
   refine ⟨ρ1,G1,s1,rep1,(aj.bind (m:=F.ev br b s1) (R:=RVL F.W br (bo σ b s1.env)) az post1).cps fun y H2 ρ2 G2 s2 d2 st2 rep2 le2 r2 post2=>?_⟩
   refine ⟨ρ2,G2,s2,x,d2,rep2,⟨v,rfl,(RVL.stp (Ln':=fun _ _=>True) st2 (fun _ _ _=>trivial) rv).rv⟩,r2.rv,by rw [le2.1,le1.1];exact post2⟩
 | exc c l s'=>rw [q] at post;exact post
 | bad=>rw [q] at post;exact post.elim
theorem Aj (hK:F.W.K=X.K) {a b:E} {es:List Expr} {k:Nat} {ea eb:Expr} {tp p pos kp:Pos} (hg:Gl X "enumerate") (hm:X.mg "enumerate" = none) (ha:PA X [ea] (LA F false (.cons a .nil))) (hb:PE X eb (LE F false b)) (hs:starEach [ea] X.env = [(false,eval ea X.env)]):PI X (.Tuple es k tp) (.Call (.Name "enumerate" p) [ea] [⟨some "start",eb,kp⟩] pos) (LI F (.it .enum2 (.cons a (.cons b .nil)))):=eO (u8 hg hm ha (xZ hb) hs) fun σ H R h=>by
 obtain ⟨ρ,G,s,rep,post⟩:=tD (br:=false) (a:=a) (b:=b) (f:=fun l s=>Out.of s ((itD .enum2 l).map D.lst)) h
 refine ⟨ρ,G,s,rep,post.imp fun vs H1 h=>?_⟩
 obtain ⟨ρ,G,s,rep,post⟩:=h
 refine ⟨ρ,G,s,rep,post.imp fun y H2 h=>?_⟩
 obtain ⟨ρ,G,s,d1,d2,rep,⟨x,rfl,r1⟩,r2,pst⟩:=h
 have r1:RD F.W ρ G d1 x:=r1
 have r2:RD F.W ρ G d2 y:=r2
 cases q:itD .enum2 [d1,d2] with
 | none=>rw [q] at pst;exact pst.elim
 | some ds=>
   rw [q] at pst
   cases d1 with
   | tup u=>cases d2 with
     | int n=>
       unfold itD at q;dsimp only at q
       split at q
       ·rename_i c;cases q
        obtain ⟨p1,vs1,rfl,t1,r1⟩:=r1
        cases (show y = .int n from r2)
        have u1:=aA rep.gh t1
        rw [hK] at u1
        exact ⟨p1,vs1,n,rfl,rfl,c,u1.sq,aj.fin pst rep ⟨_,rfl,xq X.K hK t1 r1⟩⟩
       ·cases q
     | _=>cases q
   | _=>cases q
end
section
variable {W:Wd} {ρ:List Addr} {G H:Hp} {s:Sta} {σ:St}
theorem bF {σ:St} {i j:Nat} {o:Option V} (h:j≠i):adr (σ.set i o) j=adr σ j:=by
 unfold adr;rw [List.getElem?_set_ne (Ne.symm h)]
theorem Rep.bind1 (rep:Rep W ρ G s σ H) {d:D} {v:V} (r:RD W ρ G d v) (i:Nat):Rep W ρ G ⟨s.env.set i (some d),s.ow.filter (· != i),s.st⟩ (σ.set i (some v)) H:=by
 have ne:∀ j,j∈s.ow.filter (· != i)→j∈s.ow∧j≠i:=fun j m=>⟨(List.mem_filter.mp m).1,by simpa using (List.mem_filter.mp m).2⟩
 refine ⟨rep.gh,rep.rl,rep.rn,rep.rg,rep.ob,by simp [rep.el],fun j e nj h=>?_,fun j m=>?_,fun j l a m1 m2 e1 e2=>?_⟩
 ·by_cases z:j=i
  ·subst z
   have hl:j<s.env.length:=by have:=(List.getElem?_eq_some_iff.mp h).1;simpa using this
   have h':(s.env.set j (some d))[j]? = some (some e):=h
   rw [List.getElem?_set_self hl] at h'
   cases h'
   exact ⟨v,by rw [List.getElem?_set_self (by rw [← rep.el];exact hl)],r⟩
  ·have h':(s.env.set i (some d))[j]? = some (some e):=h
   rw [List.getElem?_set_ne (Ne.symm z)] at h'
   obtain ⟨w,e1,r1⟩:=rep.en j e (fun m=>nj (List.mem_filter.mpr ⟨m,by simpa using z⟩)) h'
   exact ⟨w,by rw [List.getElem?_set_ne (Ne.symm z)];exact e1,r1⟩
 ·obtain ⟨m1,z⟩:=ne j m
  obtain ⟨e,a,e1,e2,r1⟩:=rep.eo j m1
  exact ⟨e,a,by show (s.env.set i (some d))[j]? = _;rw [List.getElem?_set_ne (Ne.symm z)];exact e1,by rw [bF z];exact e2,r1⟩
 ·obtain ⟨a1,z1⟩:=ne j m1
  obtain ⟨a2,z2⟩:=ne l m2
  rw [bF z1] at e1
  rw [bF z2] at e2
  exact rep.od j l a a1 a2 e1 e2
open Classical in
theorem Rep.unall (rep:Rep W ρ G s σ H):∃ G',Rep W ρ G' ⟨s.env,[],s.st⟩ σ H∧Stp ρ G H ρ G' H (Own s σ):=by
 let G2:Hp:=fun b=>if Own s σ b then H b else G b
 have g1:∀ b,Own s σ b→G2 b=H b:=fun b c=>if_pos c
 have g2:∀ b,¬ Own s σ b→G2 b=G b:=fun b c=>if_neg c
 have sub:Sub G G2:=fun b o e=>by
  by_cases c:Own s σ b
  ·rw [g1 b c];exact rep.gh b o e
  ·rw [g2 b c];exact e
 refine ⟨G2,⟨fun b o e=>?_,rep.rl,rep.rn,fun a m=>⟨?_,(rep.rg a m).2⟩,fun n o a h1 h2=>(rep.ob n o a h1 h2).mono (List.prefix_refl _) sub fun _ q=>q,rep.el,fun i d _ e=>?_,(fun i m=>nomatch m),(fun i j a m=>nomatch m)⟩,⟨List.prefix_refl _,sub,fun b o e=>?_,fun b h=>.inl h,fun _ h=>h,fun _ _ q _=>q⟩⟩
 ·by_cases c:Own s σ b
  ·rw [g1 b c] at e;exact e
  ·rw [g2 b c] at e;exact rep.gh b o e
 ·by_cases c:Own s σ a
  ·obtain ⟨i,mi,ei⟩:=c
   obtain ⟨d,b,_,e2,n,_⟩:=rep.eo i mi
   rw [ei] at e2;cases e2
   exact absurd m n
  ·rw [g2 a c];exact (rep.rg a m).1
 ·by_cases m:i∈s.ow
  ·obtain ⟨d',a,e1,e2,n,g,o⟩:=rep.eo i m
   have e':s.env[i]? = some (some d):=e
   rw [e'] at e1;cases e1
   exact ⟨.ref a,dy e2,rV sub (g1 a ⟨i,m,e2⟩) o⟩
  ·obtain ⟨v,e1,r⟩:=rep.en i d m e
   exact ⟨v,e1,r.mono (List.prefix_refl _) sub⟩
 ·by_cases c:Own s σ b
  ·exact .inr (.inr c)
  ·rw [g2 b c] at e;exact .inl e
theorem Rep.other (rep:Rep W ρ G s σ H) (no:s.ow = []) {p:Addr} {o:HO} (n:p ∉ ρ) (g:G p=none):Rep W ρ G s σ (upd H p o):=by
 have nr:∀ a∈ρ,a≠p:=fun a m z=>n (z ▸ m)
 refine ⟨fun a u e=>?_,rep.rl,rep.rn,fun a m=>?_,fun i ob a h1 h2=>(rep.ob i ob a h1 h2).mono (List.prefix_refl _) (.refl _) fun u q=>?_,rep.el,rep.en,fun i m=>?_,rep.od⟩
 ·rw [aa (ak e g)];exact rep.gh a u e
 ·rw [aa (nr a m)];exact rep.rg a m
 ·rw [aa (nr a (List.mem_of_getElem? h2))];exact q
 ·rw [no] at m;cases m
theorem Rep.shift {env:List (Option D)} {st:List O} (rep:Rep W ρ G ⟨env,[],st⟩ σ H) (k:Nat):Rep W ρ G ⟨List.replicate k none ++ env,[],st⟩ (List.replicate k none ++ σ) H:=by
 have el:env.length=σ.length:=rep.el
 refine ⟨rep.gh,rep.rl,rep.rn,rep.rg,rep.ob,by simp [el],fun i d _ e=>?_,(fun i m=>nomatch m),(fun i j a m=>nomatch m)⟩
 have e':(List.replicate k (none:Option D) ++ env)[i]? = some (some d):=e
 by_cases c:i<k
 ·rw [List.getElem?_append_left (by simpa using c),List.getElem?_replicate,if_pos c] at e'
  cases e'
 ·rw [List.getElem?_append_right (by simpa using c),List.length_replicate] at e'
  obtain ⟨v,e1,r⟩:=rep.en (i - k) d (fun m=>nomatch m) e'
  exact ⟨v,by rw [List.getElem?_append_right (by simpa using c),List.length_replicate];exact e1,r⟩
theorem Rep.unshift {env env':List (Option D)} {st:List O} {σ':St} (rep:Rep W ρ G ⟨env',[],st⟩ σ' H) (k:Nat) (h1:env'.drop k=env) (h2:σ'.drop k=σ):Rep W ρ G ⟨env,[],st⟩ σ H:=by
 have el:env'.length=σ'.length:=rep.el
 refine ⟨rep.gh,rep.rl,rep.rn,rep.rg,rep.ob,by rw [← h1,← h2,List.length_drop,List.length_drop,el],fun i d _ e=>?_,(fun i m=>nomatch m),(fun i j a m=>nomatch m)⟩
 have e':env[i]? = some (some d):=e
 rw [← h1,List.getElem?_drop] at e'
 obtain ⟨v,e1,r⟩:=rep.en (k+i) d (fun m=>nomatch m) e'
 exact ⟨v,by rw [← h2,List.getElem?_drop];exact e1,r⟩
end
noncomputable def gS:List Nat→TGs
 | []=>zO
 | i :: r=>wg (dM i) (gS r)
noncomputable def gT (K:Fg) (t:List Nat) (one:Bool):TG:=if one then dM (t.headD 0) else zP K t.length (gS t)
theorem eQ {α:Type} {l:List α} {i m:Nat} {a:α} (h:i<m):(l.set i a).drop m=l.drop m:=by
 rw [List.drop_set]
 rw [if_pos h]
noncomputable def cf:List Nat→List D→List (Option D)→List (Option D)
 | i :: t,d :: l,e=>cf t l (e.set i (some d))
 | _,_,e=>e
theorem fh:∀ (t:List Nat) (l:List D) (e:List (Option D)),(t.zip l).foldl (fun e p=>e.set p.1 (some p.2)) e=cf t l e
 | [],_,_=>by simp [cf]
 | _ :: _,[],_=>by simp [cf]
 | i :: t,d :: l,e=>by simp [cf,fh t l]
theorem jf {m:Nat}:∀ (t:List Nat) (l:List D) (e:List (Option D)),(∀ i∈t,i<m)→(cf t l e).drop m=e.drop m
 | [],_,_,_=>rfl
 | _ :: _,[],_,_=>rfl
 | i :: t,d :: l,e,h=>by
   show (cf t l (e.set i (some d))).drop m=_
   rw [jf t l _ fun j hj=>h j (List.mem_cons_of_mem _ hj),eQ (h i List.mem_cons_self)]
theorem nI {W:Wd} {ρ:List Addr} {G H:Hp}:∀ {t:List Nat} {l:List D} {vs:List V} {s:Sta} {σ:St},t.length=l.length→RDs W ρ G l vs→Rep W ρ G s σ H →
 gS t vs σ H fun σ' H'=>H'=H∧((∀ m,(∀ i∈t,i<m)→σ'.drop m=σ.drop m)∧∀ j,j ∉ t→σ'[j]? = σ[j]?)∧Rep W ρ G ⟨cf t l s.env,s.ow.filter fun i=>!t.contains i,s.st⟩ σ' H
 | [],[],vs,s,σ,_,r,rep=>⟨r,rfl,⟨fun _ _=>rfl,fun _ _=>rfl⟩,by
     have e:(s.ow.filter fun i=>!([]:List Nat).contains i)=s.ow:=by simp
     rw [e];exact rep⟩
 | [],_ :: _,_,_,_,h,_,_=>by cases h
 | _ :: _,[],_,_,_,h,_,_=>by cases h
 | i :: t,d :: l,vs,s,σ,h,r,rep=>by
   obtain ⟨v,ws,rfl,r1,r2⟩:=r
   refine ⟨v,ws,rfl,?_⟩
   have rep1:=rep.bind1 r1 i
   have ih:=nI (s:=⟨s.env.set i (some d),s.ow.filter (· != i),s.st⟩) (Nat.succ.inj h) r2 rep1
   have e:((s.ow.filter (· != i)).filter fun j=>!t.contains j)=s.ow.filter fun j=>!(i :: t).contains j:=by
    rw [List.filter_filter]
    congr 1
    funext j
    by_cases z:j=i <;> simp [z,List.contains_cons,bne]
   have mono:∀ {t:List Nat} {vs:List V} {σ:St} {H:Hp} {Q Q':St→Hp→Prop},(∀ σ H,Q σ H→Q' σ H)→gS t vs σ H Q→gS t vs σ H Q':=fun {t}=>by
    induction t with
    | nil=>intro vs σ H Q Q' i h;exact ⟨h.1,i _ _ h.2⟩
    | cons j t ih=>intro vs σ H Q Q' i h;obtain ⟨v,r,e,q⟩:=h;exact ⟨v,r,e,ih i q⟩
   refine mono (fun σ' H' ⟨e1,e2,e3⟩=>⟨e1,⟨fun m hm=>?_,fun j hj=>?_⟩,by rw [← e];exact e3⟩) ih
   ·rw [e2.1 m fun j hj=>hm j (List.mem_cons_of_mem _ hj),eQ (hm i List.mem_cons_self)]
   ·rw [e2.2 j fun z=>hj (List.mem_cons_of_mem _ z),List.getElem?_set_ne fun z=>hj (by rw [z];exact List.mem_cons_self)]
theorem qO {W:Wd} {K:Fg} (hK:W.K=K) {ρ:List Addr} {G H:Hp} {s:Sta} {σ:St} {t:List Nat} {one:Bool} {d:D} {v:V} {env:List (Option D)} {Q:St→Hp→Prop} (rep:Rep W ρ G s σ H) (r:RD W ρ G d v) (e:aD t one d s.env=some env)
 (q:∀ σ',((∀ m,(∀ i∈t,i<m)→σ'.drop m=σ.drop m∧env.drop m=s.env.drop m)∧∀ j,j ∉ t→σ'[j]? = σ[j]?)→Rep W ρ G ⟨env,s.ow.filter fun i=>!t.contains i,s.st⟩ σ' H→Q σ' H):gT K t one v σ H Q:=by
 unfold aD at e
 unfold gT
 cases one with
 | true=>
   rw [if_pos rfl] at e ⊢
   split at e
   ·rename_i i
    cases e
    have f:(s.ow.filter fun j=>!([i]:List Nat).contains j)=s.ow.filter (· != i):=by congr 1;funext j;by_cases z:j=i <;> simp [z,bne]
    refine q _ ⟨fun m hm=>⟨eQ (hm i (by simp)),eQ (hm i (by simp))⟩,fun j hj=>List.getElem?_set_ne (i:=i) (j:=j) fun z=>hj (by simp [z])⟩ ?_
    rw [f]
    exact rep.bind1 r i
   ·cases e
 | false=>
   rw [if_neg Bool.false_ne_true] at e ⊢
   cases d with
   | tup l=>
     dsimp only at e
     split at e
     ·rename_i hl
      cases e
      obtain ⟨a,vs,rfl,tp,rs⟩:=r
      have t':=aA rep.gh tp
      rw [hK] at t'
      refine ⟨a,vs,rfl,t'.sq,by rw [← rs.len,hl],?_⟩
      have mono:∀ {t:List Nat} {vs:List V} {σ:St} {H:Hp} {Q Q':St→Hp→Prop},(∀ σ H,Q σ H→Q' σ H)→gS t vs σ H Q→gS t vs σ H Q':=fun {t}=>by
       induction t with
       | nil=>intro vs σ H Q Q' i h;exact ⟨h.1,i _ _ h.2⟩
       | cons j t ih=>intro vs σ H Q Q' i h;obtain ⟨v,r,e,q⟩:=h;exact ⟨v,r,e,ih i q⟩
      refine mono (fun σ' H' ⟨e1,e2,e3⟩=>?_) (nI hl.symm rs rep)
      subst e1
      refine q σ' ⟨fun m hm=>⟨e2.1 m hm,?_⟩,e2.2⟩ (by rw [fh];exact e3)
      rw [fh]
      exact jf t l s.env hm
     ·cases e
   | _=>cases e
noncomputable abbrev EX0:EX:=fun _ _ _ _=>False
noncomputable abbrev Fx.calm (F:Fx):Fx:=⟨F.W,EX0,F.Γ,F.cal,F.cal1⟩
noncomputable def lcF (F:Fx) (t:List Nat) (one:Bool) (elt cond:E) (d:D) (s':Sta):Out (Option D):=match aD t one d s'.env with
 | some env=>(noX (F.ev true cond ⟨env,[],s'.st⟩)).bind fun b s2=>(match b with
   | .bl true=>(noX (F.ev false elt s2)).bind fun e s3=>.ok (some e) ⟨s3.env,[],s3.st⟩
   | .bl false=>.ok none ⟨s2.env,[],s2.st⟩
   | _=>.bad)
 | none=>.bad
theorem gm {s:Sta} {σ:St} {a:Addr} (h:s.ow = []) (o:Own s σ a):False:=by
 obtain ⟨i,m,_⟩:=o
 rw [h] at m
 cases m
theorem rc {s s':Sta} (l:Le s s') (h:s.ow = []):s'.ow = []:=by
 cases q:s'.ow with
 | nil=>rfl
 | cons i r=>have:=l.2 i (by rw [q];exact List.mem_cons_self);rw [h] at this;cases this
section
variable {F:Fx} {X:Cx} {br:Bool}
noncomputable def pW (F:Fx) (R':List (Option D)→List Addr→Hp→Hp→D→V→Prop) (σ:St) (H0:Hp) (Q:VK):Prop:=∀ {env:List (Option D)} {H H':Hp} {ρ ρ':List Addr} {G G':Hp} {Ow:Addr→Prop} {s':Sta} {acc:List D} {vs:List V} {p:Addr},aj F.W F.ex (R' env) σ H ρ G Ow (.ok (.lst acc) s') Q→Stp ρ G H ρ' G' H' Ow→Rep F.W ρ' G' s' σ H'→s'.ow = []→H' p=some (.lst vs)→H p=none→(∀ a,H0 a≠none→H a≠none)→p ∉ ρ'→G' p=none→RDs F.W ρ' G' acc vs→Q (.ref p) H'
theorem nR (hK:F.W.K=X.K) {R':List (Option D)→List Addr→Hp→Hp→D→V→Prop} {t:List Nat} {one:Bool} {it elt cond:E} (ht0:∀ i∈t,i<t.length) {σ:St} {H:Hp} {Q:VK} (fin:pW F R' σ H Q) (h:Lf F.W F.ex R' (F.ev br (.lc t one it elt cond)) σ H Q):tLC t.length (LI F it) (gT X.K t one) (LT F.calm cond) (LE F.calm false elt) σ H Q:=by
 obtain ⟨ρ,G,s,rep,post⟩:=h
 have post:aj F.W F.ex (R' s.env) σ H ρ G (Own s σ) ((F.ev false it s).bind fun x s=>(match x with
  | .lst ds=>(bX (lcF F t one elt cond) ds [] ⟨List.replicate t.length none ++ s.env,[],s.st⟩).bind fun d s'=>.ok d ⟨s.env,[],s'.st⟩
  | _=>.bad)) Q:=post
 refine ⟨ρ,G,s,rep,(aj.bind (R:=fun ρ G _ d J=>∃ ds,d = .lst ds∧ItR F.W G ρ J ds) az post).cps fun J H1 ρ1 G1 s1 d st1 rep1 le1 ⟨ds,hd,itr⟩ post1 Dd hD=>?_⟩
 subst hd
 dsimp only at post1
 obtain ⟨G2,rep2,stp2⟩:=rep1.unall
 have nD:∀ {ρ':List Addr},(∀ a∈ρ',a∈ρ1∨H1 a=none)→True:=fun _=>trivial
 have dr:Dd ∉ ρ1:=fun z=>(rep1.rg Dd z).2 hD
 have g2D:G2 Dd=none:=aI rep2.gh hD
 refine ⟨fun i m σ' H'=>∃ ρ' G' s' acc vs,m=ds.length - i∧i≤ds.length∧Rep F.W ρ' G' s' σ' H'∧s'.ow = []∧s'.env.drop t.length=s1.env∧σ'.drop t.length=σ∧Stp ρ1 G1 H1 ρ' G' H' (Own s1 σ)∧H' Dd=some (.lst vs)∧Dd ∉ ρ'∧G' Dd=none∧RDs F.W ρ' G' acc vs ∧
  aj F.W F.ex (R' s.env) σ H1 ρ1 G1 (Own s1 σ) ((bX (lcF F t one elt cond) (ds.drop i) acc s').bind fun d s''=>.ok d ⟨s1.env,[],s''.st⟩) Q,⟨ds.length,ρ1,G2,⟨List.replicate t.length none ++ s1.env,[],s1.st⟩,[],[],by simp,Nat.zero_le _,(rep2.shift t.length).other rfl dr g2D,rfl,?_,?_,?_,ae,dr,g2D,rfl,post1⟩,?_⟩
 ·rw [List.drop_append_of_le_length (by simp)];simp
 ·rw [List.drop_append_of_le_length (by simp)];simp
 ·refine ⟨List.prefix_refl _,stp2.gg,stp2.gn,fun a h=>.inl h,fun a n=>?_,fun a o e n=>?_⟩
  ·by_cases z:a=Dd
   ·subst z;rw [ae];exact fun z=>nomatch z
   ·rw [aa z];exact n
  ·rw [aa (ak e hD)];exact e
 intro i m σ' H' hw
 obtain ⟨ρ',G',s',acc,vs,hm,hil,rep',ow',en',sg',stp',hDd,nDd,gDd,racc,pst⟩:=hw
 obtain ⟨jgo,jstop,jy⟩:=itr ρ' G' H' stp'.pr stp'.gg rep'.gh
 by_cases ci:i=ds.length
 ·left
  subst ci
  refine ⟨jstop,?_⟩
  rw [List.drop_length] at pst
  have rp:Rep F.W ρ' G' ⟨s'.env,[],s'.st⟩ σ' H':=by rw [← ow'];exact rep'
  exact fin pst stp' (rp.unshift t.length en' sg') rfl hDd hD st1.th nDd gDd racc
 ·right
  have hi':i<ds.length:=by omega
  refine ⟨jgo i hi',fun x H2 y=>?_⟩
  have ed:ds[i]? = some ds[i]:=List.getElem?_eq_getElem hi'
  have dd:ds.drop i=ds[i] :: ds.drop (i+1):=List.drop_eq_getElem_cons hi'
  rw [dd] at pst
  obtain ⟨G3,rep3,rx,stp3,hD3,gD3⟩:∃ G3,Rep F.W ρ' G3 s' σ' H2∧RD F.W ρ' G3 ds[i] x∧Stp ρ' G' H' ρ' G3 H2 (Own s' σ')∧H2 Dd=some (.lst vs)∧G3 Dd=none:=by
   rcases jy i x H2 y ds[i] ed with ⟨rfl,r⟩ | ⟨ws,T,rfl,hT,rfl,r⟩
   ·exact ⟨G',rep',r,.refl,hDd,gDd⟩
   ·obtain ⟨a,b⟩:=rep'.new (o:=.tup ws) (Ow:=Own s' σ') hT
    have z:Dd≠T:=fun z=>by rw [← z,hDd] at hT;cases hT
    exact ⟨_,a,r,b,by rw [aa z];exact hDd,by rw [aa z];exact gDd⟩
  have racc3:=racc.mono (List.prefix_refl _) stp3.gg
  have stp13:Stp ρ1 G1 H1 ρ' G3 H2 (Own s1 σ):=stp'.trans stp3 fun a o=>(gm ow' o).elim
  unfold bX at pst
  rw [ay] at pst
  unfold lcF at pst
  cases qb:aD t one ds[i] s'.env with
  | none=>simp only [qb] at pst;exact pst.elim
  | some env=>
    simp only [qb] at pst
    refine qO hK rep3 rx qb fun σ2 dr2 rep4=>?_
    have ow4:(s'.ow.filter fun i=>!t.contains i) = []:=by rw [ow'];rfl
    rw [ow4] at rep4
    obtain ⟨dσ,de⟩:=dr2.1 t.length ht0
    have keepD:∀ {ρa ρb:List Addr} {Ga Ha Gb Hb:Hp} {sa:Sta} {σa:St},Stp ρa Ga Ha ρb Gb Hb (Own sa σa)→sa.ow = []→Ha Dd=some (.lst vs)→Dd ∉ ρa→Ga Dd=none→Hb Dd=some (.lst vs)∧Dd ∉ ρb∧Gb Dd=none:=fun {ρa ρb Ga Ha Gb Hb sa σa} st no h1 h2 h3=>by
     refine ⟨st.fr _ _ h1 h2,fun z=>?_,?_⟩
     ·rcases st.rn _ z with q | q
      ·exact h2 q
      ·rw [q] at h1;cases h1
     ·cases e:Gb Dd with
      | none=>rfl
      | some o=>
        rcases st.gn _ _ e with q | q | q
        ·rw [h3] at q;cases q
        ·rw [q] at h1;cases h1
        ·exact (gm no q).elim
    refine ⟨ρ',G3,⟨env,[],s'.st⟩,rep4,?_⟩
    show aj F.W EX0 RT σ2 H2 ρ' G3 (Own ⟨env,[],s'.st⟩ σ2) ((F.ev true cond ⟨env,[],s'.st⟩).bind toB) _
    cases qc:F.ev true cond ⟨env,[],s'.st⟩ with
    | exc c l s2=>rw [qc] at pst;exact pst.elim
    | bad=>rw [qc] at pst;exact pst.elim
    | ok b s2=>
      rw [qc] at pst
      have le2:Le ⟨env,[],s'.st⟩ s2:=az _ _ qc
      have ow2:=rc le2 rfl
      cases b with
      | bl b=>
        intro y2 H3 ρ3 G4 st4 rep5 ey
        cases (show b=y2 from ey)
        obtain ⟨hD4,nD4,gD4⟩:=keepD st4 rfl hD3 nDd gD3
        have stp14:Stp ρ1 G1 H1 ρ3 G4 H3 (Own s1 σ):=stp13.trans st4 fun a o=>(gm rfl o).elim
        have racc4:=racc3.mono st4.pr st4.gg
        have en2:s2.env.drop t.length=s1.env:=by rw [le2.1];show env.drop t.length=_;rw [de];exact en'
        cases b with
        | false=>
          refine kM ⟨ds.length - (i+1),by omega,ρ3,G4,⟨s2.env,[],s2.st⟩,acc,vs,rfl,by omega,by rw [← ow2];exact rep5,rfl,en2,by rw [dσ];exact sg',stp14,hD4,nD4,gD4,racc4,pst⟩
        | true=>
          refine kN ?_
          have pst:aj F.W F.ex (R' s.env) σ H1 ρ1 G1 (Own s1 σ) ((((noX (F.ev false elt s2)).bind fun e s3=>Out.ok (some e) ⟨s3.env,[],s3.st⟩).bind fun o s'=>(match o with
           | some e=>if acc.length<100000 then bX (lcF F t one elt cond) (ds.drop (i+1)) (acc ++ [e]) s' else .bad
           | none=>bX (lcF F t one elt cond) (ds.drop (i+1)) acc s').bind fun d s''=>.ok d ⟨s1.env,[],s''.st⟩)) Q:=pst
          rw [ay] at pst
          refine ⟨ρ3,G4,s2,rep5,?_⟩
          show aj F.W EX0 (RVL F.W false (bo σ2 elt s2.env)) σ2 H3 ρ3 G4 (Own s2 σ2) (F.ev false elt s2) _
          cases qe:F.ev false elt s2 with
          | exc c l s3=>rw [qe] at pst;exact pst.elim
          | bad=>rw [qe] at pst;exact pst.elim
          | ok e s3=>
            rw [qe] at pst
            have le3:Le s2 s3:=az _ _ qe
            have ow3:=rc le3 ow2
            intro y3 H4 ρ4 G5 st5 rep6 ry
            have ry:RD F.W ρ4 G5 e y3:=ry
            obtain ⟨hD5,nD5,gD5⟩:=keepD st5 ow2 hD4 nD4 gD4
            have pst:aj F.W F.ex (R' s.env) σ H1 ρ1 G1 (Own s1 σ) ((if acc.length<100000 then bX (lcF F t one elt cond) (ds.drop (i+1)) (acc ++ [e]) ⟨s3.env,[],s3.st⟩ else .bad).bind fun d s''=>.ok d ⟨s1.env,[],s''.st⟩) Q:=pst
            by_cases ca:acc.length<100000
            ·rw [if_pos ca] at pst
             have rp:Rep F.W ρ4 G5 ⟨s3.env,[],s3.st⟩ σ2 H4:=by rw [← ow3];exact rep6
             refine ⟨vs,hD5,?_,ds.length - (i+1),by omega,ρ4,G5,⟨s3.env,[],s3.st⟩,acc ++ [e],vs ++ [y3],rfl,by omega,rp.other rfl nD5 gD5,rfl,by show s3.env.drop t.length=_;rw [le3.1];exact en2,by rw [dσ];exact sg',?_,ae,nD5,gD5,(racc4.mono st5.pr st5.gg).app (.cons ry .nil),pst⟩
             ·rw [← racc4.len];exact Nat.lt_of_lt_of_le ca (big (Nat.le_refl _))
             ·have stp15:Stp ρ1 G1 H1 ρ4 G5 H4 (Own s1 σ):=stp14.trans st5 fun a o=>(gm ow2 o).elim
              refine ⟨stp15.pr,stp15.gg,stp15.gn,stp15.rn,fun a n=>?_,fun a o ea na=>?_⟩
              ·by_cases z:a=Dd
               ·subst z;rw [ae];exact fun z=>nomatch z
               ·rw [aa z];exact stp15.th a n
              ·rw [aa (ak ea hD)];exact stp15.fr a o ea na
            ·rw [if_neg ca] at pst;exact pst.elim
      | _=>exact pst.elim
theorem jM {br:Bool} {c:E} {σ:St} {H:Hp} {Q:VK}:pW F (fun env=>RVL F.W br (bo σ c env)) σ H Q:=by
 intro env H H' ρ' ρ G' G Ow s' acc vs Dd pst stp' rep3 no hDd hD _ nDd gDd racc
 have nr:∀ a∈ρ,a≠Dd:=fun a ma z=>nDd (z ▸ ma)
 have sg:=aV (o:=.lst vs) gDd
 have rep4:Rep F.W ρ (upd G Dd (.lst vs)) s' σ H':=by
  refine ⟨fun a o e=>?_,rep3.rl,rep3.rn,fun a ma=>?_,fun n o a h1 h2=>(rep3.ob n o a h1 h2).mono (List.prefix_refl _) sg fun _ q=>q,rep3.el,fun i d no e=>?_,(fun i m=>by rw [no] at m;cases m),(fun i j a m=>by rw [no] at m;cases m)⟩
  ·by_cases z:a=Dd
   ·subst z;rw [ae] at e;cases e;exact hDd
   ·rw [aa z] at e;exact rep3.gh a o e
  ·rw [aa (nr a ma)];exact rep3.rg a ma
  ·obtain ⟨v,e1,r⟩:=rep3.en i d no e
   exact ⟨v,e1,r.mono (List.prefix_refl _) sg⟩
 refine pst (.ref Dd) H' ρ (upd G Dd (.lst vs)) ⟨stp'.pr,stp'.gg.trans sg,fun a o e=>?_,stp'.rn,stp'.th,stp'.fr⟩ rep4 (RVL.of ⟨Dd,vs,rfl,.inl ae,racc.mono (List.prefix_refl _) sg⟩)
 by_cases z:a=Dd
 ·subst z;exact .inr (.inl hD)
 ·rw [aa z] at e;exact stp'.gn a o e
theorem Af (hK:F.W.K=X.K) {t:List Nat} {one:Bool} {it elt cond:E} {sc:Scope} {N:List Str} {ee tg iter:Expr} {ifs:List Expr} {pos:Pos} (ht0:∀ i∈t,i<t.length) (L:Lc X sc t.length N) (hc:X.calm=true) (hi:PI X tg iter (LI F it))
 (hg:∀ C s H fp,PG (cxC X N sc C s H fp) tg (gT X.K t one)) (ht:∀ C s H fp,PTs (cxC X N sc C s H fp) ifs (LT F.calm cond)) (he:∀ C s H fp,PE (cxC X N sc C s H fp) ee (LE F.calm false elt))
 (hs:∀ x,foldedSetIterable iter X.env x=pure x):PE X (.ListComp ee [⟨tg,iter,ifs,0⟩] sc pos) (LE F br (.lc t one it elt cond)):=aq (wq L hc hi hg ht he hs) fun σ H Q h=>nR hK ht0 jM h
end
structure b7 (ρ:List Addr) (G H:Hp) (Ow:Addr→Prop) (ρ':List Addr) (G' H':Hp) (Ow':Addr→Prop):Prop where
 pr:ρ <+: ρ'
 gg:Sub G G'
 gn:∀ a o,G' a=some o→G a=some o∨H a=none∨Ow a
 rn:∀ a∈ρ',a∈ρ∨H a=none
 th:∀ a,H a≠none→H' a≠none
 fr:∀ a o,H a=some o→a ∉ ρ→¬ Ow a→H' a=some o
 ow:∀ a,Ow' a→Ow a∨H a=none
theorem b7.of {ρ ρ':List Addr} {G H G' H':Hp} {Ow Ow':Addr→Prop} (x:Stp ρ G H ρ' G' H' Ow) (o:∀ a,Ow' a→Ow a∨H a=none):b7 ρ G H Ow ρ' G' H' Ow':=⟨x.pr,x.gg,x.gn,x.rn,x.th,fun a u e n _=>x.fr a u e n,o⟩
theorem b7.trans {ρ ρ1 ρ2:List Addr} {G H G1 H1 G2 H2:Hp} {Ow Ow1 Ow2:Addr→Prop} (x:b7 ρ G H Ow ρ1 G1 H1 Ow1) (y:b7 ρ1 G1 H1 Ow1 ρ2 G2 H2 Ow2):b7 ρ G H Ow ρ2 G2 H2 Ow2:=by
 have back:∀ a,H1 a=none→H a=none:=fun a e=>Classical.byContradiction fun z=>x.th a z e
 refine ⟨x.pr.trans y.pr,x.gg.trans y.gg,fun a o e=>?_,fun a h=>?_,fun a h=>y.th a (x.th a h),fun a o e n w=>?_,fun a h=>?_⟩
 ·rcases y.gn a o e with q | q | q
  ·exact x.gn a o q
  ·exact .inr (.inl (back a q))
  ·rcases x.ow a q with q | q
   ·exact .inr (.inr q)
   ·exact .inr (.inl q)
 ·rcases y.rn a h with q | q
  ·exact x.rn a q
  ·exact .inr (back a q)
 ·refine y.fr a o (x.fr a o e n w) (fun z=>?_) fun z=>?_
  ·rcases x.rn a z with q | q
   ·exact n q
   ·rw [q] at e;cases e
  ·rcases x.ow a z with q | q
   ·exact w q
   ·rw [q] at e;cases e
 ·rcases y.ow a h with q | q
  ·exact x.ow a q
  ·exact .inr (back a q)
noncomputable def aL (W:Wd) (E:EX) (D:eY) (H:Hp) (ρ:List Addr) (G:Hp) (Ow:Addr→Prop) (out:aw):Prop:=match out with
 | .nx s'=>∀ σ' H' ρ' G',b7 ρ G H Ow ρ' G' H' (Own s' σ')→Rep W ρ' G' s' σ' H'→D.nx σ' H'
 | .rt d s'=>∀ v σ' H' ρ' G',b7 ρ G H Ow ρ' G' H' (Own s' σ')→Rep W ρ' G' s' σ' H'→RD W ρ' G' d v→D.rt v H'
 | .exc c l s'=>∀ σ' cls dx H' ρ' G',b7 ρ G H Ow ρ' G' H' (Own s' σ')→Rep W ρ' G' s' σ' H'→XR W ρ' G' c l cls dx→E σ' cls dx H'
 | .bad=>False
noncomputable def Fx.exS (F:Fx) (c:S) (s:Sta):aw:=L2.Ev.exS F.Γ F.cal F.cal1 c s
noncomputable def LS (F:Fx) (c:S):TS:=fun D σ H=>∃ ρ G s,Rep F.W ρ G s σ H∧aL F.W F.ex D H ρ G (Own s σ) (F.exS c s)
theorem aL.stp {W:Wd} {E:EX} {D:eY} {H H1:Hp} {ρ ρ1:List Addr} {G G1:Hp} {Ow Ow1:Addr→Prop} {out:aw} (h:aL W E D H ρ G Ow out) (x:b7 ρ G H Ow ρ1 G1 H1 Ow1):aL W E D H1 ρ1 G1 Ow1 out:=by
 cases out with
 | nx s'=>exact fun σ' H' ρ' G' a b=>h σ' H' ρ' G' (x.trans a) b
 | rt d s'=>exact fun v σ' H' ρ' G' a b c=>h v σ' H' ρ' G' (x.trans a) b c
 | exc c l s'=>exact fun σ' cls dx H' ρ' G' a b c=>h σ' cls dx H' ρ' G' (x.trans a) b c
 | bad=>exact h
theorem aN {X:Cx} {e:Stmt} {t t':TS} (h:PS X e t) (i:∀ D σ H,t' D σ H→t D σ H):PS X e t':=fun pins s σ H D I q=>h pins s σ H D I (i D σ H q)
theorem lh {X:Cx} {e:List Stmt} {t t':TS} (h:PSs X e t) (i:∀ D σ H,t' D σ H→t D σ H):PSs X e t':=fun pins s σ H D I q=>h pins s σ H D I (i D σ H q)
section
variable {F:Fx} {X:Cx}
theorem aj.gos {W:Wd} {E:EX} {α β:Type} {R:List Addr→Hp→Hp→α→β→Prop} {D:eY} {σ:St} {H:Hp} {ρ:List Addr} {G:Hp} {s:Sta} {m:Out α} {f:α→Sta→aw} (le:∀ x s',m = .ok x s'→Le s s') (h:aL W E D H ρ G (Own s σ) (m.go f)) (lx:∀ c l s',m = .exc c l s'→∀ i∈s'.ow,i∈s.ow) :
 aj W E R σ H ρ G (Own s σ) m fun y H1=>∃ ρ1 G1 s1 x,Stp ρ G H ρ1 G1 H1 (Own s σ)∧Rep W ρ1 G1 s1 σ H1∧Le s s1∧R ρ1 G1 H1 x y∧aL W E D H1 ρ1 G1 (Own s1 σ) (f x s1):=by
 cases m with
 | ok x s'=>exact fun y H' ρ' G' a b c=>⟨ρ',G',s',x,a,b,le x s' rfl,c,aL.stp h (.of a fun a z=>.inl (hV (le x s' rfl) a z))⟩
 | exc c l s'=>exact fun cls dx H' ρ' G' a b x=>h σ cls dx H' ρ' G' (.of a fun a ⟨i,m,e⟩=>.inl ⟨i,lx c l s' rfl i m,e⟩) b x
 | bad=>exact h
theorem ms:PSs X [] (LS F .skip):=lh vh fun D σ H ⟨ρ,G,s,rep,post⟩=>post σ H ρ G (.of .refl fun a z=>.inl z) rep
theorem jR {a b:S} {st:Stmt} {rest:List Stmt} (ha:PS X st (LS F a)) (hb:PSs X rest (LS F b)):PSs X (st :: rest) (LS F (.seq a b)):=lh (eP ha hb) fun D σ H ⟨ρ,G,s,rep,post⟩=>by
 refine ⟨ρ,G,s,rep,?_⟩
 have post:aL F.W F.ex D H ρ G (Own s σ) ((F.exS a s).go fun s=>F.exS b s):=post
 cases q:F.exS a s with
 | nx s1=>
   rw [q] at post
   exact fun σ1 H1 ρ1 G1 st1 rep1=>⟨ρ1,G1,s1,rep1,aL.stp post st1⟩
 | rt d s1=>rw [q] at post;exact post
 | exc c l s1=>rw [q] at post;exact post
 | bad=>rw [q] at post;exact post
theorem mv {a:S} {st:Stmt} (ha:PS X st (LS F a)):PSs X [st] (LS F a):=j0 ha
noncomputable def lO (F:Fx):Prop:=∀ (c:E) (br:Bool) (s:Sta),(∀ k l s',F.ev br c s = .exc k l s'→∀ i∈s'.ow,i∈s.ow)∧∀ k l s',F.evs br c s = .exc k l s'→∀ i∈s'.ow,i∈s.ow
theorem mw (xl:lO F) {a:E} {e:Expr} {pos:Pos} (ha:PE X e (LE F false a)):PS X (.Return (some e) pos) (LS F (.ret a)):=aN (yN ha) fun D σ H ⟨ρ,G,s,rep,post⟩=>by
 refine ⟨ρ,G,s,rep,(aj.gos (m:=F.ev false a s) (R:=RVL F.W false (bo σ a s.env)) (f:=fun d s=>.rt d s) az post ((xl a false s).1)).cps fun y H1 ρ1 G1 s1 d st1 rep1 le1 r1 post1=>?_⟩
 exact post1 y σ H1 ρ1 G1 (.of .refl fun a z=>.inl z) rep1 r1
theorem nW (xl:lO F) {a:E} {e:Expr} {pos:Pos} (ha:PE X e (LE F false a)) (hs:swapsWith e none pos.line X.env=pure false):PS X (.Expr e pos) (LS F (.drop a)):=aN (oj ha hs) fun D σ H ⟨ρ,G,s,rep,post⟩=>by
 refine ⟨ρ,G,s,rep,(aj.gos (m:=F.ev false a s) (R:=RVL F.W false (bo σ a s.env)) (f:=fun _ s=>.nx s) az post ((xl a false s).1)).cps fun y H1 ρ1 G1 s1 d st1 rep1 le1 r1 post1=>?_⟩
 exact post1 σ H1 ρ1 G1 (.of .refl fun a z=>.inl z) rep1
theorem wm (xl:lO F) {c:E} {a b:S} {e:Expr} {sa sb:List Stmt} {pos:Pos} (hc:PT X e (LT F c)) (ha:PSs X sa (LS F a)) (hb:PSs X sb (LS F b)):PS X (.If e sa sb pos) (LS F (.ifs c a b)):=aN (AB hc ha hb) fun D σ H ⟨ρ,G,s,rep,post⟩=>by
 have e1:∀ s,F.exS (.ifs c a b) s=(F.tst c s).go fun x s=>if x then F.exS a s else F.exS b s:=fun s=>by
  show (F.ev true c s).go _=_
  unfold Fx.tst
  cases F.ev true c s with
  | ok d s'=>cases d with
    | bl b=>cases b <;> rfl
    | _=>rfl
  | _=>rfl
 rw [e1] at post
 refine ⟨ρ,G,s,rep,(aj.gos (m:=F.tst c s) (R:=RT) tq post (fun k l s' h=>?_)).cps fun y H1 ρ1 G1 s1 d st1 rep1 le1 r1 post1=>?_⟩
 ·unfold Fx.tst at h
  cases q:F.ev true c s with
  | ok d s2=>rw [q] at h;cases d <;> cases h
  | exc c2 l2 s2=>rw [q] at h;cases h;exact (xl c true s).1 _ _ _ q
  | bad=>rw [q] at h;cases h
 ·have r1:d=y:=r1
  subst r1
  cases d with
  | true=>exact kN ⟨ρ1,G1,s1,rep1,post1⟩
  | false=>exact kM ⟨ρ1,G1,s1,rep1,post1⟩
theorem gq {s:Sta} {σ:St} {i:Nat} {o:Option V} {e:List (Option D)} {st:List O} {a:Addr} (h:Own ⟨e,s.ow.filter (· != i),st⟩ (σ.set i o) a):Own s σ a:=by
 obtain ⟨j,m,q⟩:=h
 obtain ⟨m1,m2⟩:=List.mem_filter.mp m
 have z:j≠i:=by simpa using m2
 rw [bF z] at q
 exact ⟨j,m1,q⟩
theorem mx (xl:lO F) {i:Nat} {x:Str} {a:E} {e:Expr} {pos pos':Pos} (nf:fresh a=false) (hN:X.N.Nodup) (hi:X.N[i]? = some x) (hx:Loc X.env.scope x) (ha:PE X e (LE F false a)) (hs:swapsWith e (some (.Name x pos')) pos.line X.env=pure false) (hf:X.fn x=true∨X.env.scope.names.lookup x=some .local):PS X (.Assign [.Name x pos'] e pos) (LS F (.set i a)):=aN (jZ hN hi hx ha hs hf) fun D σ H ⟨ρ,G,s,rep,post⟩=>by
 refine ⟨ρ,G,s,rep,(aj.gos (m:=F.ev false a s) (R:=RVL F.W false (bo σ a s.env)) (f:=fun d s=>.nx (mL s i d (fresh a))) az post ((xl a false s).1)).cps fun y H1 ρ1 G1 s1 d st1 rep1 le1 r1 post1=>?_⟩
 unfold mL at post1
 rw [nf] at post1
 exact post1 (σ.set i (some y)) H1 ρ1 G1 (.of .refl fun a z=>.inl (gq z)) (rep1.bind1 r1 i)
noncomputable def RO (W:Wd) (H0:Hp) (ρ:List Addr) (G H:Hp) (d:D) (v:V):Prop:=∃ a,v = .ref a∧H0 a=none∧a ∉ ρ∧G a=none∧OwR W ρ G H a d
noncomputable def LEO (F:Fx) (c:E):TE:=fun σ H=>Lf F.W F.ex (fun _=>RO F.W H) (F.ev false c) σ H
theorem Rep.beside {W:Wd} {ρ:List Addr} {G H:Hp} {s:Sta} {σ:St} (rep:Rep W ρ G s σ H) {p:Addr} {o:HO} (hp:H p=none):Rep W ρ G s σ (upd H p o):=by
 have nr:∀ a,H a≠none→a≠p:=fun a n z=>n (by rw [z];exact hp)
 have g:=aI rep.gh hp
 refine ⟨fun a u e=>?_,rep.rl,rep.rn,fun a m=>?_,fun i ob a h1 h2=>(rep.ob i ob a h1 h2).mono (List.prefix_refl _) (.refl _) fun u q=>?_,rep.el,rep.en,fun i m=>?_,rep.od⟩
 ·rw [aa (ak e g)];exact rep.gh a u e
 ·have:=rep.rg a m;rw [aa (nr a this.2)];exact this
 ·rw [aa (ak q hp)];exact q
 ·obtain ⟨d,a,e1,e2,n,g,o⟩:=rep.eo i m
  exact ⟨d,a,e1,e2,n,g,o.mono (List.prefix_refl _) (.refl _) fun u q=>by rw [aa (nr a o.th)];exact q⟩
theorem d7 {ρ:List Addr} {G H:Hp} {Ow:Addr→Prop} {p:Addr} {o:HO} (hp:H p=none):Stp ρ G H ρ G (upd H p o) Ow:=⟨List.prefix_refl _,.refl _,fun _ _ e=>.inl e,fun _ h=>.inl h,fun a n=>by rw [aa fun z=>n (by rw [z];exact hp)];exact n,fun a u e _=>by rw [aa (ak e hp)];exact e⟩
theorem aj.neu {W:Wd} {E:EX} {σ:St} {H H0:Hp} {ρ:List Addr} {G:Hp} {Ow:Addr→Prop} {s:Sta} {d:D} {Q:VK} {p:Addr} {o:HO} (post:aj W E (RO W H0) σ H ρ G Ow (.ok d s) Q) (rep:Rep W ρ G s σ H) (hp:H p=none) (h0:∀ a,H0 a≠none→H a≠none) (r:OwR W ρ G (upd H p o) p d):Q (.ref p) (upd H p o):=
 post _ _ ρ G (d7 hp) (rep.beside hp) ⟨p,rfl,Classical.byContradiction fun z=>h0 p z hp,fun z=>(rep.rg p z).2 hp,aI rep.gh hp,r⟩
theorem x6 {es:E} {er:List Expr} {pos:Pos} (h:PA X er (LA F false es)):PE X (.List er pos) (LEO F (.lst es)):=aq (hX h) fun σ H Q g=>by
 obtain ⟨ρ,G,s,rep,post⟩:=g
 refine ⟨ρ,G,s,rep,(aj.bind (m:=F.evs false es s) (R:=RVs F.W false (bQ σ es s.env)) (f:=fun l s=>if l.length≤100000 then Out.ok (D.lst l) s else .bad) bg post).cps fun xs H1 ρ1 G1 s1 l st1 rep1 le1 r1 post1=>?_⟩
 have r:RDs F.W ρ1 G1 l xs:=r1
 by_cases c:l.length≤100000
 ·rw [if_pos c] at post1
  exact ⟨by rw [← r.len];exact big c,fun p hp=>aj.neu post1 rep1 hp st1.th ⟨xs,ae,r⟩⟩
 ·rw [if_neg c] at post1;exact post1.elim
theorem ul {σ:St} {H:Hp} {Q:VK}:pW F (fun _=>RO F.W H) σ H Q:=by
 intro env H1 H' ρ' ρ G' G Ow s' acc vs Dd pst stp' rep3 no hDd hD h0 nDd gDd racc
 exact pst _ _ ρ G stp' rep3 ⟨Dd,rfl,Classical.byContradiction fun z=>h0 Dd z hD,nDd,gDd,vs,hDd,racc⟩
theorem Rep.own {W:Wd} {ρ:List Addr} {G H:Hp} {s:Sta} {σ:St} (rep:Rep W ρ G s σ H) {d:D} {a:Addr} (i:Nat) (hi:i<s.env.length) (na:a ∉ ρ) (ga:G a=none) (no:¬ Own s σ a) (r:OwR W ρ G H a d):Rep W ρ G ⟨s.env.set i (some d),i :: s.ow.filter (· != i),s.st⟩ (σ.set i (some (.ref a))) H:=by
 have hi2:i<σ.length:=by rw [← rep.el];exact hi
 have ai:adr (σ.set i (some (.ref a))) i=some a:=by unfold adr;rw [List.getElem?_set_self hi2]
 have ne:∀ j,j∈s.ow.filter (· != i)→j∈s.ow∧j≠i:=fun j m=>⟨(List.mem_filter.mp m).1,by simpa using (List.mem_filter.mp m).2⟩
 refine ⟨rep.gh,rep.rl,rep.rn,rep.rg,rep.ob,by simp [rep.el],fun j e nj h=>?_,fun j m=>?_,fun j l b m1 m2 e1 e2=>?_⟩
 ·have z:j≠i:=fun z=>nj (by rw [z];exact List.mem_cons_self)
  have h':(s.env.set i (some d))[j]? = some (some e):=h
  rw [List.getElem?_set_ne (Ne.symm z)] at h'
  obtain ⟨w,e1,r1⟩:=rep.en j e (fun m=>nj (List.mem_cons_of_mem _ (List.mem_filter.mpr ⟨m,by simpa using z⟩))) h'
  exact ⟨w,by rw [List.getElem?_set_ne (Ne.symm z)];exact e1,r1⟩
 ·rcases List.mem_cons.mp m with z | m
  ·subst z
   exact ⟨d,a,by show (s.env.set j (some d))[j]? = _;rw [List.getElem?_set_self hi],ai,na,ga,r⟩
  ·obtain ⟨m1,z⟩:=ne j m
   obtain ⟨e,b,e1,e2,r1⟩:=rep.eo j m1
   exact ⟨e,b,by show (s.env.set i (some d))[j]? = _;rw [List.getElem?_set_ne (Ne.symm z)];exact e1,by rw [bF z];exact e2,r1⟩
 ·rcases List.mem_cons.mp m1 with z1 | m1 <;> rcases List.mem_cons.mp m2 with z2 | m2
  ·rw [z1,z2]
  ·exfalso
   obtain ⟨a2,z⟩:=ne l m2
   rw [z1,ai] at e1;cases e1
   rw [bF z] at e2
   exact no ⟨l,a2,e2⟩
  ·exfalso
   obtain ⟨a2,z⟩:=ne j m1
   rw [z2,ai] at e2;cases e2
   rw [bF z] at e1
   exact no ⟨j,a2,e1⟩
  ·obtain ⟨a1,z1⟩:=ne j m1
   obtain ⟨a2,z2⟩:=ne l m2
   rw [bF z1] at e1
   rw [bF z2] at e2
   exact rep.od j l b a1 a2 e1 e2
theorem ud {W:Wd} {ρ:List Addr} {G H:Hp} {a:Addr}:∀ {d:D},OwR W ρ G H a d→zW d=true
 | .lst _,_=>rfl
 | .dic _ _,_=>rfl
theorem jp (xl:lO F) {i:Nat} {a:E} (nf:fresh a=true) {D:eY} {σ:St} {H:Hp} (hl:i<σ.length) (h:LS F (.set i a) D σ H):pP (LEO F a) (dM i) D σ H:=by
 obtain ⟨ρ,G,s,rep,post⟩:=h
 refine ⟨ρ,G,s,rep,?_⟩
 have post:aL F.W F.ex D H ρ G (Own s σ) ((F.ev false a s).go fun d s=>.nx (mL s i d (fresh a))):=post
 cases q:F.ev false a s with
 | bad=>rw [q] at post;exact post.elim
 | exc c l s'=>
   rw [q] at post
   exact fun cls dx H' ρ' G' a1 b x=>post σ cls dx H' ρ' G' (.of a1 fun _ ⟨j,m,e⟩=>.inl ⟨j,(xl a false s).1 c l s' q j m,e⟩) b x
 | ok d s1=>
   rw [q] at post
   have le1:Le s s1:=az _ _ q
   intro y H1 ρ1 G1 st1 rep1 r1
   obtain ⟨b,rfl,h0,nb,gb,ob⟩:=r1
   have no:¬ Own s1 σ b:=fun z=>by
    obtain ⟨j,m,e⟩:=hV le1 b z
    obtain ⟨d',b',_,e2,_,_,o⟩:=rep.eo j m
    rw [e] at e2;cases e2
    exact o.th h0
   have post:aL F.W F.ex D H ρ G (Own s σ) (.nx (mL s1 i d (fresh a))):=post
   unfold mL at post
   rw [nf,ud ob] at post
   have hl1:i<s1.env.length:=by rw [rep1.el];exact hl
   refine post (σ.set i (some (.ref b))) H1 ρ1 G1 ⟨st1.pr,st1.gg,st1.gn,st1.rn,st1.th,fun a o e n _=>st1.fr a o e n,fun c z=>?_⟩ (rep1.own i hl1 nb gb no ob)
   obtain ⟨j,m,e⟩:=z
   rcases List.mem_cons.mp m with z | m
   ·subst z
    unfold adr at e
    rw [List.getElem?_set_self hl] at e
    cases e
    exact .inr h0
   ·obtain ⟨m1,m2⟩:=List.mem_filter.mp m
    have z:j≠i:=by simpa using m2
    rw [bF z] at e
    exact .inl (hV le1 c ⟨j,m1,e⟩)
theorem gj (xl:lO F) {i:Nat} {x:Str} {a:E} {e:Expr} {pos pos':Pos} (nf:fresh a=true) (hN:X.N.Nodup) (hi:X.N[i]? = some x) (hx:Loc X.env.scope x) (ha:PE X e (LEO F a)) (hs:swapsWith e (some (.Name x pos')) pos.line X.env=pure false) (hf:X.fn x=true∨X.env.scope.names.lookup x=some .local):PS X (.Assign [.Name x pos'] e pos) (LS F (.set i a)):=by
 intro pins s σ H D I h
 exact jZ hN hi hx ha hs hf pins s σ H D I (jp xl nf (by rw [I.len];exact (List.getElem?_eq_some_iff.mp hi).1) h)
end
theorem bW (F:Fx):lO F:=fun c br s=>⟨fun k l s' h=>by have:=ax (Γ:=F.Γ) (cal:=F.cal) (cal1:=F.cal1) c br s;rw [show ev F.Γ F.cal F.cal1 br c s=_ from h] at this;exact this,fun k l s' h=>by have:=bu (Γ:=F.Γ) (cal:=F.cal) (cal1:=F.cal1) c br s;rw [show evs F.Γ F.cal F.cal1 br c s=_ from h] at this;exact this⟩
section
variable {F:Fx} {X:Cx}
theorem Rep.grow {W:Wd} {ρ:List Addr} {G H:Hp} {s:Sta} {σ:St} (rep:Rep W ρ G s σ H) {i:Nat} (m:i∈s.ow) {a:Addr} (ea:adr σ i=some a) {d:D} {o:HO} (r:OwR W ρ G (upd H a o) a d):Rep W ρ G ⟨s.env.set i (some d),s.ow,s.st⟩ σ (upd H a o):=by
 obtain ⟨d0,a',e0,ea',na,ga,ow0⟩:=rep.eo i m
 rw [ea] at ea';cases ea'
 have hi:i<s.env.length:=(List.getElem?_eq_some_iff.mp e0).1
 have nr:∀ b∈ρ,b≠a:=fun b hb z=>na (z ▸ hb)
 refine ⟨fun b u e=>?_,rep.rl,rep.rn,fun b hb=>?_,fun n ob b h1 h2=>(rep.ob n ob b h1 h2).mono (List.prefix_refl _) (.refl _) fun u q=>?_,by simp [rep.el],fun j e nj h=>?_,fun j mj=>?_,rep.od⟩
 ·rw [aa (ak e ga)];exact rep.gh b u e
 ·rw [aa (nr b hb)];exact rep.rg b hb
 ·rw [aa (nr b (List.mem_of_getElem? h2))];exact q
 ·have z:j≠i:=fun z=>nj (z ▸ m)
  have h':(s.env.set i (some d))[j]? = some (some e):=h
  rw [List.getElem?_set_ne (Ne.symm z)] at h'
  exact rep.en j e nj h'
 ·by_cases z:j=i
  ·subst z
   exact ⟨d,a,by show (s.env.set j (some d))[j]? = _;rw [List.getElem?_set_self hi],ea,na,ga,r⟩
  ·obtain ⟨e,b,e1,e2,n,g,o1⟩:=rep.eo j mj
   have nb:b≠a:=fun z2=>z (rep.od j i b mj m e2 (by rw [z2];exact ea))
   exact ⟨e,b,by show (s.env.set i (some d))[j]? = _;rw [List.getElem?_set_ne (Ne.symm z)];exact e1,e2,n,g,o1.mono (List.prefix_refl _) (.refl _) fun u q=>by rw [aa nb];exact q⟩
theorem lD {W:Wd} {ρ:List Addr} {G H:Hp} {s:Sta} {σ:St} {a:Addr} {o:HO} {s':Sta} (h:Own s σ a) (e:s'.ow=s.ow):b7 ρ G H (Own s σ) ρ G (upd H a o) (Own s' σ):=
 ⟨List.prefix_refl _,.refl _,fun _ _ e=>.inl e,fun _ h=>.inl h,fun b n=>by
  by_cases z:b=a
  ·subst z;rw [ae];exact fun z=>nomatch z
  ·rw [aa z];exact n,fun b u q _ no=>by rw [aa fun z=>no (by rw [z];exact h)];exact q,fun b ⟨i,m,q⟩=>.inl ⟨i,by rw [← e];exact m,q⟩⟩
theorem tw {W:Wd} {ρ:List Addr} {G H:Hp} {s:Sta} {σ:St} (rep:Rep W ρ G s σ H) {i:Nat} (h:(s.ow.contains i && isLst s.env[i]?)=true):∃ a l vs,i∈s.ow∧s.env[i]? = some (some (.lst l))∧σ[i]? = some (some (.ref a))∧adr σ i=some a∧H a=some (.lst vs)∧RDs W ρ G l vs:=by
 rw [Bool.and_eq_true_iff] at h
 have m:i∈s.ow:=by simpa using h.1
 obtain ⟨d,a,e1,e2,n,g,o⟩:=rep.eo i m
 have h2:=h.2
 rw [e1] at h2
 cases d with
 | lst l=>obtain ⟨vs,q,r⟩:=o;exact ⟨a,l,vs,m,e1,dy e2,e2,q,r⟩
 | _=>cases h2
theorem x8 {i:Nat} {x:Str} {a:E} {e:Expr} {pos pos' apos cpos:Pos} (hN:X.N[i]? = some x) (hv:Vis X.env.scope x) (hd:(x == ("__debug__":Str))=false) (hcd:(x == ("__classdict__":Str))=false) (ha:PE X e (LE F false a))
 (hst:starEach [e] X.env=(false,eval e X.env) :: starEach [] X.env) (hl:(apos.endLine == cpos.line)=true)
 (hfew:((backTo cpos (starEach [e] X.env)).all (fun x=>!x.1) && (backToKw cpos (keywordEach [] X.env)).all (fun x=>x.1.isSome) && decide ([e].length+([]:List Keyword).length+(if ([]:List Keyword).isEmpty then 0 else 1)<30))=true) :
 PS X (.Expr (.Call (.Attribute (.Name x pos') "append" apos) [e] [] cpos) pos) (LS F (.app i a)):=aN (oj (Au PySem.F.plainAttrs_list PySem.F.slot_list_append PySem.F.type_list_append jh (fw hN hv hd hcd) (gr ha jT hst) rfl hfew hl hst rfl) rfl) fun Z σ H ⟨ρ,G,s,rep,post⟩=>by
 have post:aL F.W F.ex Z H ρ G (Own s σ) (if s.ow.contains i && isLst s.env[i]? then (F.ev false a s).go fun d s=>if s.ow.contains i then (match s.env[i]? with
  | some (some (.lst l))=>if l.length<100000 then .nx ⟨s.env.set i (some (.lst (l ++ [d]))),s.ow,s.st⟩ else .bad
  | _=>.bad) else .bad else .bad):=post
 by_cases c:(s.ow.contains i && isLst s.env[i]?)=true
 ·rw [if_pos c] at post
  obtain ⟨b,l,vs,m,e1,e2,e3,e4,r⟩:=tw rep c
  refine ⟨_,e2,.inl ⟨rfl,vs,SqL.of e4⟩,ρ,G,s,rep,(aj.gos (m:=F.ev false a s) (R:=RVL F.W false (bo σ a s.env)) (f:=fun d s=>if s.ow.contains i then (match s.env[i]? with
   | some (some (.lst l))=>if l.length<100000 then .nx ⟨s.env.set i (some (.lst (l ++ [d]))),s.ow,s.st⟩ else .bad
   | _=>.bad) else .bad) az post ((bW F a false s).1)).cps fun y H1 ρ1 G1 s1 d st1 rep1 le1 r1 post1=>?_⟩
  by_cases c1:s1.ow.contains i=true
  ·rw [if_pos c1] at post1
   have e1':s1.env[i]? = some (some (.lst l)):=by rw [le1.1];exact e1
   rw [e1'] at post1
   dsimp only at post1
   have m1:i∈s1.ow:=by simpa using c1
   obtain ⟨d0,a0,q0,q1,q2,q3,q4⟩:=rep1.eo i m1
   rw [e1'] at q0;cases q0
   rw [e3] at q1;cases q1
   obtain ⟨ws,q5,q6⟩:=q4
   by_cases c2:l.length<100000
   ·rw [if_pos c2] at post1
    refine ⟨b,ws,y,rfl,rfl,q5,by rw [← q6.len];exact Nat.lt_of_lt_of_le c2 (big (Nat.le_refl _)),?_⟩
    exact post1 σ _ ρ1 G1 (lD (W:=F.W) ⟨i,m1,e3⟩ rfl) (rep1.grow m1 e3 ⟨ws ++ [y],ae,q6.app (.cons r1 .nil)⟩)
   ·rw [if_neg c2] at post1;exact post1.elim
  ·rw [if_neg c1] at post1;exact post1.elim
 ·rw [if_neg c] at post;exact post.elim
theorem ya (hK:F.W.K=X.K) {t:List Nat} {one:Bool} {it:E} {b:S} {tg iter:Expr} {body:List Stmt} {pos:Pos} (hp:PassesOwn (model X.prog X.w) X.A X.env X.xe) (hc:X.calm=true) (hi:PI X tg iter (LI F it)) (hg:PG X tg (gT X.K t one)) (hb:PSs X body (LS F b)) (hs:∀ x,foldedSetIterable iter X.env x=pure x):PS X (.For tg iter body [] pos) (LS F (.for_ t one it b)):=aN (yM hp hc hi hg hb hs) fun Z σ H ⟨ρ,G,s,rep,post⟩=>by
 let f:D→Sta→aw:=fun d s=>match aD t one d s.env with | some env=>F.exS b ⟨env,s.ow.filter fun i=>!t.contains i,s.st⟩ | none=>.bad
 have post:aL F.W F.ex Z H ρ G (Own s σ) ((F.ev false it s).go fun x s=>(match x with | .lst ds=>bC f ds s | _=>.bad)):=post
 refine ⟨ρ,G,s,rep,(aj.gos (R:=fun ρ G _ d J=>∃ ds,d = .lst ds∧ItR F.W G ρ J ds) az post ((bW F it false s).1)).cps fun J H1 ρ1 G1 s1 d st1 rep1 le1 ⟨ds,hd,itr⟩ post1=>?_⟩
 subst hd
 dsimp only at post1
 refine ⟨fun i m σ' H'=>∃ ρ' G' s',m=ds.length - i∧i≤ds.length∧Rep F.W ρ' G' s' σ' H'∧b7 ρ1 G1 H1 (Own s1 σ) ρ' G' H' (Own s' σ')∧aL F.W F.ex Z H1 ρ1 G1 (Own s1 σ) (bC f (ds.drop i) s'),⟨ds.length,ρ1,G1,s1,by simp,Nat.zero_le _,rep1,.of .refl fun a z=>.inl z,post1⟩,?_⟩
 intro i m σ' H' hw
 obtain ⟨ρ',G',s',hm,hil,rep',stp',pst⟩:=hw
 obtain ⟨jgo,jstop,jy⟩:=itr ρ' G' H' stp'.pr stp'.gg rep'.gh
 by_cases ci:i=ds.length
 ·left
  subst ci
  rw [List.drop_length] at pst
  exact ⟨jstop,pst σ' H' ρ' G' stp' rep'⟩
 ·right
  have hi':i<ds.length:=by omega
  have ed:ds[i]? = some ds[i]:=List.getElem?_eq_getElem hi'
  have dd:ds.drop i=ds[i] :: ds.drop (i+1):=List.drop_eq_getElem_cons hi'
  rw [dd] at pst
  refine ⟨jgo i hi',fun σ2 H2=>∃ ρ2 G2 s2,Rep F.W ρ2 G2 s2 σ2 H2∧b7 ρ1 G1 H1 (Own s1 σ) ρ2 G2 H2 (Own s2 σ2)∧aL F.W F.ex Z H1 ρ1 G1 (Own s1 σ) (bC f (ds.drop (i+1)) s2),fun σ2 H2 ⟨ρ2,G2,s2,a,b,c⟩=>⟨ds.length - (i+1),by omega,ρ2,G2,s2,rfl,by omega,a,b,c⟩,fun x H2 y=>?_⟩
  obtain ⟨G3,rep3,rx,stp3⟩:∃ G3,Rep F.W ρ' G3 s' σ' H2∧RD F.W ρ' G3 ds[i] x∧Stp ρ' G' H' ρ' G3 H2 (Own s' σ'):=by
   rcases jy i x H2 y ds[i] ed with ⟨rfl,r⟩ | ⟨ws,T,rfl,hT,rfl,r⟩
   ·exact ⟨G',rep',r,.refl⟩
   ·obtain ⟨a,b⟩:=rep'.new (o:=.tup ws) (Ow:=Own s' σ') hT
    exact ⟨_,a,r,b⟩
  have pst:aL F.W F.ex Z H1 ρ1 G1 (Own s1 σ) ((f ds[i] s').go fun s=>bC f (ds.drop (i+1)) s):=pst
  cases qb:aD t one ds[i] s'.env with
  | none=>
    have:f ds[i] s' = .bad:=by show (match aD t one ds[i] s'.env with | some env=>_ | none=>_)=_;rw [qb]
    rw [this] at pst;exact pst.elim
  | some env=>
    have ef:f ds[i] s'=F.exS b ⟨env,s'.ow.filter fun i=>!t.contains i,s'.st⟩:=by show (match aD t one ds[i] s'.env with | some env=>_ | none=>_)=_;rw [qb]
    rw [ef] at pst
    refine qO hK rep3 rx qb fun σ2 dr2 rep4=>⟨ρ',G3,_,rep4,?_⟩
    have own4:∀ a,Own ⟨env,s'.ow.filter fun i=>!t.contains i,s'.st⟩ σ2 a→Own s' σ' a:=fun a ⟨j,m,e⟩=>by
     obtain ⟨m1,m2⟩:=List.mem_filter.mp m
     refine ⟨j,m1,?_⟩
     have nt:j ∉ t:=by simpa using m2
     unfold adr at e ⊢
     rw [dr2.2 j nt] at e
     exact e
    have stp4:b7 ρ1 G1 H1 (Own s1 σ) ρ' G3 H2 (Own ⟨env,s'.ow.filter fun i=>!t.contains i,s'.st⟩ σ2):=stp'.trans (.of stp3 fun a z=>.inl (own4 a z))
    cases q:F.exS b ⟨env,s'.ow.filter fun i=>!t.contains i,s'.st⟩ with
    | nx s2=>rw [q] at pst;exact fun σ3 H3 ρ3 G4 st5 rep5=>⟨ρ3,G4,s2,rep5,stp4.trans st5,pst⟩
    | rt d s2=>rw [q] at pst;exact aL.stp (D:=Z) pst stp4
    | exc c l s2=>rw [q] at pst;exact aL.stp (D:=Z) pst stp4
    | bad=>rw [q] at pst;exact pst.elim
end
theorem yC {env:List (Option D)} {st:List O} {σ:St} {a:Addr}:¬ Own ⟨env,[],st⟩ σ a:=fun ⟨_,m,_⟩=>nomatch m
theorem b7.fin {ρ ρ':List Addr} {G H G' H':Hp} {Ow Ow':Addr→Prop} (x:b7 ρ G H Ow ρ' G' H' Ow') (no:∀ a,¬ Ow a):Stp ρ G H ρ' G' H' NoA:=
 ⟨x.pr,x.gg,fun a o e=>(x.gn a o e).elim .inl fun z=>z.elim (fun z=>.inr (.inl z)) fun z=>(no a z).elim,x.rn,x.th,fun a o e n=>x.fr a o e n (no a)⟩
theorem pO {N:List Str} {vs:List V} {i:Nat}:i<vs.length→(cA N vs)[i]? = some (vs[i]?):=fun h=>by
 unfold cA
 rw [List.getElem?_append_left (by simpa using h),List.getElem?_map,List.getElem?_eq_getElem h]
 rfl
section
variable {P:Program} {w:World} {K:Fg} {mg:Str→Option Value} {base:Heap}
theorem pK {W:Wd} {ρ:List Addr} {G H:Hp} {st:List O} {ds:List D} {vs:List V} {N:List Str} {np ns:Nat} (str:StR W ρ G st H) (r:RDs W ρ G ds vs) (h1:ds.length=np) (h2:ns=N.length) (h3:np≤ns):Rep W ρ G ⟨ds.map some ++ List.replicate (ns - np) none,[],st⟩ (cA N vs) H:=by
 have l:=r.len
 refine ⟨str.gh,str.rl,str.rn,str.rg,str.ob,?_,fun i d _ e=>?_,(fun i m=>nomatch m),(fun i j a m=>nomatch m)⟩
 ·unfold cA
  simp only [List.length_append,List.length_map,List.length_replicate]
  omega
 ·have e':(ds.map some ++ List.replicate (ns - np) (none:Option D))[i]? = some (some d):=e
  by_cases c:i<ds.length
  ·rw [List.getElem?_append_left (by simpa using c),List.getElem?_map,List.getElem?_eq_getElem c] at e'
   cases e'
   obtain ⟨v,ev,rv⟩:=r.get (List.getElem?_eq_getElem c)
   exact ⟨v,by rw [pO (by omega),ev],rv⟩
  ·rw [List.getElem?_append_right (by simpa using c),List.getElem?_replicate] at e'
   split at e' <;> cases e'
theorem zN (W:Wd) (Γ:Gm) {j k m:Nat} {fn:Fn} (hj:Γ.fn[j]? = some fn) {x qual:Str} {st:Stmt} {f:Addr} {fd:FuncData} {N ps:List Str} (Fu:Fun K x qual st f fd) (S:bt N ps (am st)) (hnp:fn.np=ps.length) (hns:fn.ns=N.length)
 (hb:∀ (cdv:Value) (A:Around) (outer:List Env) (s:Shared) (H:Hp) (E:XK),Room m (A.deeper (envOfC qual (am st) s.heap.objs.size f cdv)) →
  PSs ((iI (CXF P w) P w K mg base N qual (am st) f cdv A outer s H E).wish (XS (iI (CXF P w) P w K mg base N qual (am st) f cdv A outer s H E) E)) (bf st) (LS ⟨W,fun _=>E,Γ,ao Γ k,aY Γ k⟩ fn.body)) :
 aR P w K mg base (CXF P w) (m+1) f fd ps (SpF W (ao Γ (k+1)) j):=by
 have lens:∀ {ds:List D} {st:List O},ao Γ (k+1) j ds st≠.bad→ds.length=fn.np:=fun {ds st} h=>by
  apply Classical.byContradiction
  intro z
  apply h
  show mK Γ (ao Γ k) (aY Γ k) j ds st = .bad
  unfold mK
  rw [hj]
  dsimp only
  rw [if_neg z]
 have pl:ps.length≤N.length:=by have:=congrArg List.length S.pre;rw [List.length_take] at this;omega
 refine nF Fu S (fun vs H Q E h=>?_) fun cdv A outer s H vs Q E hr h=>⟨_,hb cdv A outer s H E hr,?_⟩
 ·obtain ⟨ρ,G,ds,st,_,r,p⟩:=h
  rw [← r.len,← hnp]
  exact lens fun z=>by rw [z] at p;exact p
 ·obtain ⟨ρ,G,ds,stt,str,r,p⟩:=h
  have hl:ds.length=fn.np:=lens fun z=>by rw [z] at p;exact p
  refine ⟨ρ,G,_,pK (N:=N) str r hl hns (by rw [hnp,hns];exact pl),?_⟩
  have e:ao Γ (k+1) j ds stt=(match exS Γ (ao Γ k) (aY Γ k) fn.body ⟨ds.map some ++ List.replicate (fn.ns - fn.np) none,[],stt⟩ with
   | .nx s=>.ok .non s.st
   | .rt d s=>.ok d s.st
   | .exc c l s=>.exc c l s.st
   | .bad=>.bad):=by
   show mK Γ (ao Γ k) (aY Γ k) j ds stt=_
   unfold mK
   rw [hj]
   dsimp only
   rw [if_pos hl]
   all_goals rfl
  rw [e] at p
  show aL W (fun _=>E) _ H ρ G _ (exS Γ (ao Γ k) (aY Γ k) fn.body _)
  cases q:exS Γ (ao Γ k) (aY Γ k) fn.body ⟨ds.map some ++ List.replicate (fn.ns - fn.np) none,[],stt⟩ with
  | nx s'=>rw [q] at p;exact fun σ' H' ρ' G' a b=>p .non H' ρ' G' (a.fin fun _=>yC) b.st rfl
  | rt d s'=>rw [q] at p;exact fun v σ' H' ρ' G' a b c=>p v H' ρ' G' (a.fin fun _=>yC) b.st c
  | exc c l s'=>rw [q] at p;exact fun σ' cls dx H' ρ' G' a b c=>p cls dx H' ρ' G' (a.fin fun _=>yC) b.st c
  | bad=>rw [q] at p;exact p
end
noncomputable def aP:Expr→Bool
 | .Starred ..=>false
 | .Set ..=>false
 | .Slice ..=>false
 | _=>true
noncomputable def fQ (nm:NK) (x:Str):Bool:=match nm.lookup x with
 | some .local=>true
 | some .cell=>true
 | some .free=>true
 | _=>false
noncomputable def bD (nm:NK) (x:Str):Bool:=nm.lookup x == some .globalImplicit
noncomputable def bd:Expr→Bool
 | .Call (.Name id _) [] [] _=>id != "super"
 | _=>true
theorem al {e:Expr} {es:List Expr} {env:Env} (h:aP e=true):starEach (e :: es) env=(false,eval e env) :: starEach es env:=by
 cases e <;> first | rfl | cases h
theorem ia {e:Expr} (h:aP e=true):eg e:=by
 cases e <;> first | (intro o i;rfl) | cases h
theorem g0 {op:CmpOp} {e:Expr} (h:aP e=true):behindInMarks op e=false:=by
 cases e <;> first | rfl | cases h
theorem i6 {e:Expr} {env:Env} (h:aP e=true):∀ x,foldedSetIterable e env x=pure x:=by
 cases e <;> first | (intro x;rfl) | cases h
theorem aS {es:List Expr} {env:Env} {pos:Pos} (h:∀ e∈es,aP e=true):(backTo pos (starEach es env)).any (·.1)=false:=by
 induction es with
 | nil=>rfl
 | cons e r ih=>
   rw [al (h e List.mem_cons_self)]
   have:=ih fun x hx=>h x (List.mem_cons_of_mem _ hx)
   show (false || (backTo pos (starEach r env)).any (·.1))=false
   rw [this];rfl
theorem cQ {X:Cx} {nm:NK} (hs:X.env.scope.names=nm) {x:Str} (h:fQ nm x=true):Vis X.env.scope x:=by
 unfold fQ at h
 unfold Vis
 rw [hs]
 split at h <;> first | (rename_i q;exact .inl q) | (rename_i q;exact .inr (.inl q)) | (rename_i q;exact .inr (.inr q)) | cases h
theorem bG {X:Cx} {nm:NK} (hs:X.env.scope.names=nm) {x:Str} (h:bD nm x=true):Gl X x:=by
 unfold bD at h
 show X.env.scope.names.lookup x=_
 rw [hs]
 simpa using h
noncomputable def vF (C:Addr) (nm:List Str):Sp:=fun vs H Q _=>∃ (p dx:Addr) (args:List V),vs = .ref p :: args∧args.length=nm.length∧H p=some (.ins C dx [])∧Q .non (upd H p (.ins C dx (nm.zip args)))
structure Ns where
 gl:List Str
 tb:List Str
 fn:List Str
 at_:List Str
 bl:List Str
 rf:List Str:=[]
 me:List (Str×Nat×Nat):=[]
 ex:List Str:=[]
 nw:List Str:=[]
 mu:List Str:=[]
 nd:List Str:=[]
 hx:List Str:=[]
noncomputable def Ns.an (T:Ns) (f:Nat):Str:=T.at_.getD f ""
structure CxOk (T:Ns) (F:Fx) (X:Cx) (nm:NK) (N:List Str):Prop where
 hK:F.W.K=X.K
 hN:X.N=N
 nd:N.Nodup
 sc:X.env.scope.names=nm
 kd:X.env.scope.kind = .function
 calm:X.calm=true
 room:Room 0 X.A
 pas:oP X F.ex
 fns:∀ (j:Nat) (x:Str),T.fn[j]? = some x→∃ k f,tK F X F.cal k j f∧Room k X.A∧X.mg x=some (.ref f)
 gls:∀ (j:Nat) (x:Str),T.gl[j]? = some x→∃ d u v,F.Γ.gl[j]? = some d∧X.mg x=some u∧ar v u∧∀ G,RK F.W.K G d v
 tbs:∀ (j:Nat) (x:Str),T.tb[j]? = some x→∃ t a,F.Γ.tb[j]? = some t∧X.mg x=some (.ref a)∧KTD.tabLook (aW X.K) (fun b=>X.K.lookup b) a t=true
 blt:∀ x∈T.bl,X.mg x=none
 cls:∀ c k,F.Γ.cl[c]? = some k→∃ i,gA F X T.an c k i
 mts:∀ q∈T.me,∃ k f i,tK F X F.cal k q.2.2 f∧Room k X.A∧oK X.K i.ad q.1 f∧zk F X q.2.1 i∧q.1 ∉ i.nm
 nws:∀ (j:Nat) (x:Str),T.nw[j]? = some x→x≠""→∃ n f i cl,tK F X F.cal1 n cl.init f∧Room (n+1) X.A∧Mk X.K i.ad f∧F.Γ.cl[j]? = some cl∧cl.what=0∧F.W.ci[j]? = some i∧F.W.what[j]? = some 0∧X.mg x=some (.ref i.ad)
 nds:∀ (j:Nat) (x:Str),T.nd[j]? = some x→x≠""→∃ n f fd ps i cl,aR X.prog X.w X.K X.mg X.base (CXF X.prog X.w) n f fd ps (vF i.ad i.nm)∧a8 X.K fd ps []∧Room (n+1) X.A∧Mk X.K i.ad f∧F.Γ.cl[j]? = some cl∧cl.what=1∧F.W.ci[j]? = some i∧F.W.what[j]? = some 1∧X.mg x=some (.ref i.ad)∧i.nm.length=cl.at_.length
 hxs:∀ (j:Nat) (x:Str),T.hx[j]? = some x→x≠""→∃ i,F.W.ci[j]? = some i∧X.mg x=some (.ref i.ad)∧iO X.K i.ad∧∀ c k ic,F.Γ.cl[c]? = some k→F.W.ci[c]? = some ic→(c == j || k.sup.contains j)=true→PySem.W.mroIn X.K ic.ad (.ref i.ad)=some true
noncomputable abbrev GE (T:Ns) (nm:NK) (N:List Str) (e:Expr):={c:E // ∀ F X,CxOk T F X nm N→∀ br,PE X e (LE F br c)}
noncomputable abbrev GT (T:Ns) (nm:NK) (N:List Str) (e:Expr):={c:E // ∀ F X,CxOk T F X nm N→PT X e (LT F c)}
noncomputable abbrev GW (T:Ns) (nm:NK) (N:List Str) (e:Expr):={c:E // ∀ F X,CxOk T F X nm N→PW X e (LT F c)}
noncomputable abbrev GA (T:Ns) (nm:NK) (N:List Str) (es:List Expr):={c:E // ∀ F X,CxOk T F X nm N→∀ br,PA X es (LA F br c)}
noncomputable abbrev GO (T:Ns) (nm:NK) (N:List Str) (e:Option Expr):={c:E // ∀ F X,CxOk T F X nm N→PO X e (LO F c)}
noncomputable abbrev GI (T:Ns) (nm:NK) (N:List Str) (tg e:Expr):={c:E // ∀ F X,CxOk T F X nm N→PI X tg e (LI F c)}
noncomputable abbrev aK (T:Ns):=∀ nm N e,Option (GE T nm N e)
noncomputable abbrev eu (T:Ns):=∀ nm N e,Option (GT T nm N e)
noncomputable def yes (b:Bool):Option (PLift (b=true)):=match b with | true=>some ⟨rfl⟩ | false=>none
noncomputable def no (b:Bool):Option (PLift (b=false)):=match b with | false=>some ⟨rfl⟩ | true=>none
noncomputable def ba (x:Str):(l:List Str)→Option {i:Nat // l[i]? = some x}
 | []=>none
 | y :: r=>match h:y == x with
   | true=>some ⟨0,by rw [List.getElem?_cons_zero];congr;simpa using h⟩
   | false=>(ba x r).map fun i=>⟨i.1+1,by rw [List.getElem?_cons_succ];exact i.2⟩
noncomputable def rA (x:Str):(l:List Str)→Option (PLift (x∈l))
 | []=>none
 | y :: r=>match h:y == x with
   | true=>some ⟨by have:y=x:=by simpa using h
                    rw [this];exact List.mem_cons_self⟩
   | false=>(rA x r).map fun i=>⟨List.mem_cons_of_mem _ i.down⟩
section
variable {T:Ns} {nm:NK} {N:List Str}
theorem xF {F:Fx} {c:E} {σ:St} {H:Hp} {Q:Bool→Hp→Prop} (h:LT F c σ H Q):LE F true c σ H fun x H'=>∃ k,x = .bl k∧Q k H':=by
 obtain ⟨ρ,G,s,rep,post⟩:=h
 refine ⟨ρ,G,s,rep,?_⟩
 unfold Fx.tst at post
 cases q:F.ev true c s with
 | ok d s'=>
   rw [q] at post
   cases d with
   | bl b=>
     intro y H' ρ' G' st rep' r
     have e:y = .bl b:=by
      rcases r with r | ⟨a,_,_,_,r⟩
      ·exact r
      ·exact r.elim
     exact ⟨b,e,post b H' ρ' G' st rep' rfl⟩
   | _=>exact post.elim
 | exc c l s'=>rw [q] at post;exact post
 | bad=>rw [q] at post;exact post.elim
theorem gE {F:Fx} {br:Bool} {o p:Op} {a b c:E} {σ:St} {H:Hp} {Q:VK} (h:LE F br (.chain o p a b c) σ H Q):mR (rD F.W (opD o)) (rD F.W (opD p)) (LE F true a) (LE F true b) (LE F true c) σ H Q:=by
 obtain ⟨ρ,G,s,rep,post⟩:=two (f:=fun x y s=>(match opD o (look s.st x) (look s.st y) with
  | some (.bl true)=>(F.ev true c s).bind fun z s=>Out.of s (opD p (look s.st y) (look s.st z))
  | some (.bl false)=>.ok (.bl false) s
  | _=>.bad)) h
 refine ⟨ρ,G,s,rep,post.imp fun x H1 h=>?_⟩
 obtain ⟨ρ,G,s,rep,post⟩:=h
 refine ⟨ρ,G,s,rep,post.imp fun y H2 h=>?_⟩
 obtain ⟨ρ,G,s,d1,d2,rep,r1,r2,post⟩:=h
 cases q:opD o (look s.st d1) (look s.st d2) with
 | none=>rw [q] at post;exact post.elim
 | some d=>
   rw [q] at post
   cases d with
   | bl k=>
     refine ⟨ρ,G,_,_,_,rep.gh,bL rep r1,bL rep r2,q,fun v hv=>⟨k,hv,?_⟩,fun _ _ _ z=>nomatch z⟩
     cases k with
     | false=>exact kM (aj.fin post rep (RVL.of rfl))
     | true=>
       refine kN ⟨ρ,G,s,rep,(aj.bind (R:=RVL F.W true (bo σ c s.env)) az post).cps fun z H3 ρ3 G3 s3 d3 st3 rep3 le3 r3 post3=>?_⟩
       obtain ⟨d,e,kk⟩:=cm (br:=br) rep3 post3
       exact ⟨ρ3,G3,_,_,d,rep3.gh,bL rep3 (RB.stp r2 st3),bL rep3 r3.rv,e,kk⟩
   | _=>exact post.elim
noncomputable def zx (T:Ns) (nm:NK) (N:List Str) (x:Str) (pos:Pos):Option (GE T nm N (.Name x pos)):=do
 let hd ← no (x == ("__debug__":Str))
 let hc ← no (x == ("__classdict__":Str))
 match hl:fQ nm x with
 | true=>
   let i ← ba x N
   some ⟨.v i.1,fun F X k br=>xX (by rw [k.hN];exact i.2) (cQ k.sc hl) hd.down hc.down⟩
 | false=>
   let hg ← yes (bD nm x)
   let j ← ba x T.gl
   some ⟨.g j.1,fun F X k br=>by
    obtain ⟨d,u,v,h1,h2,h3,h4⟩:=k.gls j.1 x j.2
    exact BD (jV (bG k.sc hg.down) h2 h3 hd.down) h1 fun ρ G=>j3 (h4 G)⟩
noncomputable def wU (T:Ns) (nm:NK) (N:List Str) (c:Const) (j:Nat) (pos:Pos):Option (GE T nm N (.Constant c j pos)):=match c with
 | .none=>some ⟨.c .non,fun F X k br=>kX sj fun _ _=>rfl⟩
 | .bool b=>some ⟨.c (.bl b),fun F X k br=>kX wp fun _ _=>rfl⟩
 | .int i=>some ⟨.c (.int i),fun F X k br=>kX se fun _ _=>rfl⟩
 | .str x=>some ⟨.c (.str x),fun F X k br=>kX fu fun _ _=>rfl⟩
 | _=>none
noncomputable def opP (op:Operator):Option {o:Op // ∀ (W:Wd) (X:Cx),W.K=X.K→OpR X (binaryOp op) (rD W (opD o))}:=match op with
 | .Add=>some ⟨.add,fun W X h=>uO h⟩
 | .Sub=>some ⟨.sub,fun W X _=>uS⟩
 | .Mult=>some ⟨.mul,fun W X _=>uR⟩
 | .FloorDiv=>some ⟨.fdiv,fun W X _=>rT⟩
 | .Mod=>some ⟨.mod,fun W X _=>uQ⟩
 | .BitAnd=>some ⟨.band,fun W X _=>uP⟩
 | _=>none
noncomputable def w6 (op:CmpOp):Option {o:Op // ∀ (W:Wd) (X:Cx),W.K=X.K→Room 0 X.A→OpR X (compareOp op) (rD W (opD o))}:=match op with
 | .Eq=>some ⟨.eq,fun W X h hr=>yq h hr⟩
 | .NotEq=>some ⟨.ne,fun W X h hr=>yz h hr⟩
 | .Lt=>some ⟨.lt,fun W X _ _=>yy⟩
 | .LtE=>some ⟨.le,fun W X _ _=>yw⟩
 | .Gt=>some ⟨.gt,fun W X _ _=>yt⟩
 | .GtE=>some ⟨.ge,fun W X _ _=>yr⟩
 | .In=>some ⟨.isin,fun W X h hr=>yu h hr⟩
 | .NotIn=>some ⟨.notin,fun W X h hr=>pB h hr⟩
 | _=>none
theorem ur {F:Fx} {X:Cx} {br:Bool} {pos:Pos}:PE X (.Dict [] [] pos) (LE F br (.dic .nil)):=aq hW fun σ H Q ⟨ρ,G,s,rep,post⟩ p hp=>
 aj.new (d:=D.dic [] []) post rep hp (.of ⟨p,[],rfl,ae,rfl,rfl⟩)
noncomputable def bV (f:∀ e,Option (GE T nm N e)):(es:List Expr)→Option (GA T nm N es)
 | []=>some ⟨.nil,fun _ _ _ _=>rh⟩
 | e :: r=>do
   let h ← yes (aP e)
   let a ← f e
   let b ← bV f r
   some ⟨.cons a.1 b.1,fun F X k br=>nV (a.2 F X k br) (b.2 F X k br) (al h.down)⟩
noncomputable def v4 (f:∀ e,Option (GE T nm N e)) (pos:Pos):(es:List Expr)→Option (GE T nm N (.BoolOp .And es pos))
 | []=>none
 | [a]=>(f a).map fun x=>⟨x.1,fun F X k br=>x.2 F X k br⟩
 | a :: b :: r=>do
   let x ← f a
   let y ← v4 f pos (b :: r)
   some ⟨.and x.1 y.1,fun F X k br=>xL (x.2 F X k false) (y.2 F X k false)⟩
noncomputable def zC (f:∀ e,Option (GE T nm N e)) (pos:Pos):(es:List Expr)→Option (GE T nm N (.BoolOp .Or es pos))
 | []=>none
 | [a]=>(f a).map fun x=>⟨x.1,fun F X k br=>x.2 F X k br⟩
 | a :: b :: r=>do
   let x ← f a
   let y ← zC f pos (b :: r)
   some ⟨.or x.1 y.1,fun F X k br=>Ah (x.2 F X k false) (y.2 F X k false)⟩
noncomputable def vZ (g:∀ e,Option (GT T nm N e)) (pos:Pos):(es:List Expr)→Option (GW T nm N (.BoolOp .And es pos))
 | []=>none
 | [a]=>(g a).map fun x=>⟨x.1,fun F X k=>vm (x.2 F X k)⟩
 | a :: b :: r=>do
   let x ← g a
   let y ← vZ g pos (b :: r)
   some ⟨.tand x.1 y.1,fun F X k=>yc (x.2 F X k) (y.2 F X k)⟩
noncomputable def zB (g:∀ e,Option (GT T nm N e)) (pos:Pos):(es:List Expr)→Option (GW T nm N (.BoolOp .Or es pos))
 | []=>none
 | [a]=>(g a).map fun x=>⟨x.1,fun F X k=>yR (x.2 F X k)⟩
 | a :: b :: r=>do
   let x ← g a
   let y ← zB g pos (b :: r)
   some ⟨.tor x.1 y.1,fun F X k=>Am (x.2 F X k) (y.2 F X k)⟩
theorem wt {X:Cx} {e:Expr} {t:TT} (h:PW X e t):PT X e t:=fun pins s σ H Q I q=>h _ pins s σ H Q I q
noncomputable def zA (f:∀ e,Option (GE T nm N e)):(o:Option Expr)→Option (GO T nm N o)
 | none=>some ⟨.nil,fun F X k=>uy⟩
 | some e=>do
   let a ← f e
   let h ← no (bp a.1)
   some ⟨a.1,fun F X k=>uz h.down (a.2 F X k true)⟩
end
noncomputable def isP (x y:Str):Option (PLift (x=y)):=match h:x == y with
 | true=>some ⟨by simpa using h⟩
 | false=>none
noncomputable abbrev wK (x:Str) (b:Bi):Prop:=∀ (W:Wd) (X:Cx),W.K=X.K→X.calm=true→(∃ id,aO X (.builtin id) (rBi W b)∧bootBuiltins x=some (.builtin id))∨∃ t,aO X (.type t) (rBi W b)∧bootBuiltins x=some (.type t)
noncomputable def bis:List {q:Str×Bi // wK q.1 q.2}:=[
 ⟨("len",.len),fun W X h c=>.inl ⟨_,oW h,boot_len⟩⟩,
 ⟨("tuple",.tuple),fun W X h c=>.inr ⟨_,kj h,PyProof.Rows.boot_tuple⟩⟩,
 ⟨("list",.list),fun W X h c=>.inr ⟨_,lU h,PyProof.Rows.boot_list⟩⟩,
 ⟨("str",.str),fun W X h c=>.inr ⟨_,oX,PyProof.Rows.boot_str⟩⟩,
 ⟨("int",.int),fun W X h c=>.inr ⟨_,oV,PyProof.Rows.boot_int⟩⟩]
noncomputable def zq (x:Str):List {q:Str×Bi // wK q.1 q.2}→Option {b:Bi // wK x b}
 | []=>none
 | q :: r=>match isP q.1.1 x with
   | some h=>some ⟨q.1.2,by rw [← h.down];exact q.2⟩
   | none=>zq x r
noncomputable abbrev wR (x:Str) (b:Bi):Prop:=(b = .isTup∨b = .isStr∨b = .isBool∨b = .isInt∨b = .isLst∨b = .isDic)∧bootBuiltins x=some (.type (tyN b))
noncomputable def tys:List {q:Str×Bi // wR q.1 q.2}:=[⟨("tuple",.isTup),.inl rfl,PyProof.Rows.boot_tuple⟩,⟨("str",.isStr),.inr (.inl rfl),PyProof.Rows.boot_str⟩,⟨("bool",.isBool),.inr (.inr (.inl rfl)),PyProof.Rows.boot_bool⟩,⟨("int",.isInt),.inr (.inr (.inr (.inl rfl))),PyProof.Rows.boot_int⟩,⟨("list",.isLst),.inr (.inr (.inr (.inr (.inl rfl)))),PyProof.Rows.boot_list⟩,⟨("dict",.isDic),.inr (.inr (.inr (.inr (.inr rfl)))),PyProof.Rows.boot_dict⟩]
noncomputable def A5 (x:Str):List {q:Str×Bi // wR q.1 q.2}→Option {b:Bi // wR x b}
 | []=>none
 | q :: r=>match isP q.1.1 x with
   | some h=>some ⟨q.1.2,by rw [← h.down];exact q.2⟩
   | none=>A5 x r
section
variable {T:Ns} {nm:NK} {N:List Str}
noncomputable def lS (T:Ns) (nm:NK) (x:Str):Option (PLift (x∈T.bl∧bD nm x=true)):=do
 let m ← rA x T.bl
 let g ← yes (bD nm x)
 some ⟨m.down,g.down⟩
theorem aX {F:Fx} {X:Cx} {x:Str} (k:CxOk T F X nm N) (h:x∈T.bl∧bD nm x=true):Gl X x∧X.mg x=none:=⟨bG k.sc h.2,k.blt x h.1⟩
noncomputable def v5 (f:∀ e,Option (GE T nm N e)) (x:Str) (p:Pos) (e:Expr) (er:List Expr) (pos:Pos):Option (GE T nm N (.Call (.Name x p) (e :: er) [] pos)):=do
 let hd ← no (x == ("__debug__":Str))
 let hnm ← no (x == ("__name__":Str))
 let hg ← yes (bD nm x)
 let hn ← yes (er.all aP)
 let he ← yes (aP e)
 let a ← bV f (e :: er)
 match ba x T.fn with
 | some j=>some ⟨.call j.1 a.1,fun F X k br=>by
  obtain ⟨n,fa,h1,h2,h3⟩:=k.fns j.1 x j.2
  exact uq h1 h2 (bG k.sc hg.down) h3 k.pas (a.2 F X k true) hd.down (al he.down) (aS (List.all_eq_true.mp hn.down))⟩
 | none=>
   let m ← rA x T.bl
   let b ← zq x bis
   some ⟨.bi b.1 a.1,fun F X k br=>by
    have hx:x≠"__name__":=by simpa using hnm.down
    rcases b.2 F.W X k.hK k.calm with ⟨id,h1,h2⟩ | ⟨t,h1,h2⟩
    ·exact xN h1 (bG k.sc hg.down) (k.blt x m.down) h2 (a.2 F X k true) hx hd.down (al he.down) (aS (List.all_eq_true.mp hn.down))
    ·exact xO h1 (bG k.sc hg.down) (k.blt x m.down) h2 (a.2 F X k true) hx hd.down (al he.down) (aS (List.all_eq_true.mp hn.down))⟩
noncomputable def cIs (f:∀ e,Option (GE T nm N e)) (y:Str) (p:Pos) (ea:Expr) (x:Str) (q pos:Pos):Option (GE T nm N (.Call (.Name y p) [ea,.Name x q] [] pos)):=do
 let hy ← isP "isinstance" y
 let g1 ← lS T nm "isinstance"
 let g2 ← lS T nm x
 let b ← A5 x tys
 let hd ← no (x == ("__debug__":Str))
 let hnm ← no (x == ("__name__":Str))
 let he ← yes (aP ea)
 let a ← f ea
 some ⟨.bi b.1 (.cons a.1 .nil),fun F X k br=>by
  obtain rfl:=hy.down
  have hx:x≠"__name__":=by simpa using hnm.down
  exact Ad k.hK b.2.1 (a.2 F X k true) (aX k g1.down).1 (aX k g1.down).2 (aX k g2.down).1 (aX k g2.down).2 b.2.2 hx hd.down (al he.down)⟩
noncomputable def m9 (f:∀ e,Option (GE T nm N e)) (tg e:Expr):Option (GI T nm N tg e):=(f e).map fun a=>⟨.itv a.1,fun F X k=>BF k.hK (a.2 F X k false)⟩
noncomputable def cR1 (f:∀ e,Option (GE T nm N e)) (tg:Expr) (x:Str) (p:Pos) (a:Expr) (pos:Pos):Option (GI T nm N tg (.Call (.Name x p) [a] [] pos)):=do
 let hx ← isP "range" x
 let g ← lS T nm "range"
 let he ← yes (aP a)
 let es ← bV f [a]
 some ⟨.it .range1 es.1,fun F X k=>by
  obtain rfl:=hx.down
  exact Ak (aX k g.down).1 (aX k g.down).2 (es.2 F X k false) (al he.down)⟩
noncomputable def cZ2 (f:∀ e,Option (GE T nm N e)) (ts:List Expr) (n:Nat) (tp:Pos) (x:Str) (p:Pos) (a b:Expr) (pos:Pos):Option (GI T nm N (.Tuple ts n tp) (.Call (.Name x p) [a,b] [] pos)):=do
 let hx ← isP "zip" x
 let g ← lS T nm "zip"
 let he ← yes (aP a)
 let hb ← yes (aP b)
 let es ← bV f [a,b]
 some ⟨.it .zip2 es.1,fun F X k=>by
  obtain rfl:=hx.down
  exact Al k.hK (aX k g.down).1 (aX k g.down).2 (es.2 F X k false) (by rw [al he.down,al hb.down];rfl) (al hb.down)⟩
noncomputable def cE1 (f:∀ e,Option (GE T nm N e)) (ts:List Expr) (n:Nat) (tp:Pos) (x:Str) (p:Pos) (a:Expr) (pos:Pos):Option (GI T nm N (.Tuple ts n tp) (.Call (.Name x p) [a] [] pos)):=do
 let hx ← isP "enumerate" x
 let g ← lS T nm "enumerate"
 let he ← yes (aP a)
 let es ← bV f [a]
 some ⟨.it .enum es.1,fun F X k=>by
  obtain rfl:=hx.down
  exact BE (aX k g.down).1 (aX k g.down).2 (es.2 F X k false) (al he.down)⟩
noncomputable def cE2 (f:∀ e,Option (GE T nm N e)) (ts:List Expr) (n:Nat) (tp:Pos) (x y:Str) (p:Pos) (a b:Expr) (kp pos:Pos):Option (GI T nm N (.Tuple ts n tp) (.Call (.Name x p) [a] [⟨some y,b,kp⟩] pos)):=do
 let hx ← isP "enumerate" x
 let hy ← isP "start" y
 let g ← lS T nm "enumerate"
 let he ← yes (aP a)
 let u ← f a
 let w ← f b
 some ⟨.it .enum2 (.cons u.1 (.cons w.1 .nil)),fun F X k=>by
  obtain rfl:=hx.down
  obtain rfl:=hy.down
  exact Aj k.hK (aX k g.down).1 (aX k g.down).2 (nV (u.2 F X k false) rh (al he.down)) (w.2 F X k false) (al he.down)⟩
noncomputable def wa (f:∀ e,Option (GE T nm N e)):(tg e:Expr)→Option (GI T nm N tg e)
 | .Tuple ts n tp,.Call (.Name x p) [a] [] pos=>(cE1 f ts n tp x p a pos).orElse fun _=>m9 f _ _
 | .Tuple ts n tp,.Call (.Name x p) [a] [⟨some y,b,kp⟩] pos=>cE2 f ts n tp x y p a b kp pos
 | .Tuple ts n tp,.Call (.Name x p) [a,b] [] pos=>(cZ2 f ts n tp x p a b pos).orElse fun _=>m9 f _ _
 | tg,.Call (.Name x p) [a] [] pos=>(cR1 f tg x p a pos).orElse fun _=>m9 f _ _
 | tg,e=>m9 f tg e
theorem bn {e:Expr} {x:Str} {env:Env} {m:Sem Value} (h:bd e=true):attributeBase e x env m=m:=by
 unfold attributeBase
 split
 ·have h':(_ != ("super":Str))=true:=h
  rw [if_pos (by rw [h'];rfl)]
 ·rfl
theorem sU {es:List Expr} {env:Env} {pos:Pos} (h:∀ e∈es,aP e=true):((backTo pos (starEach es env)).all fun x=>!x.1)=true:=by
 have:=aS (env:=env) (pos:=pos) h
 rw [List.all_eq_not_any_not]
 simpa using this
theorem rH {o:Expr} {es:List Expr} {m:Str} {apos pos:Pos} {env:Env} (h1:bd o=true) (h2:∀ x∈es,aP x=true) (h3:es.length<30) (h4:(apos.endLine == pos.line)=true):eval (.Call (.Attribute o m apos) es [] pos) env=(do
 let ov ← eval o env
 standAt apos.atName
 let (f,first) ← holding [ov] (getMethod ov m (do return (← importBound o env).getD true))
 callWith pos f first (backTo pos (starEach es env)) (backToKw pos (keywordEach [] env))):=by
 have e0:eval (.Call (.Attribute o m apos) es [] pos) env=(do
  let ov ← attributeBase o m env (eval o env)
  standAt apos.atName
  methodCall o m apos pos env ov (es.length+([]:List Keyword).length) (backTo pos (starEach es env)) (backToKw pos (keywordEach [] env))):=rfl
 rw [e0,bn h1]
 have few:methodCallForm (es.length+([]:List Keyword).length) (backTo pos (starEach es env)) (backToKw pos (keywordEach [] env))=true:=by
  unfold methodCallForm
  rw [sU h2]
  simp only [Bool.true_and]
  show (true && decide (_<30))=true
  simp only [Bool.true_and]
  apply decide_eq_true
  exact h3
 congr 1
 funext ov
 congr 1
 funext _
 unfold methodCall
 simp only [few]
 have e1:methodCallPos true o env apos pos=pure pos:=by unfold methodCallPos;rw [h4];rfl
 simp only [e1]
 rfl
noncomputable def xY (m:Str):(l:List (Str×Nat×Nat))→Option {q:Nat×Nat // (m,q.1,q.2)∈l}
 | []=>none
 | (y,c,j) :: r=>match isP y m with
   | some h=>some ⟨(c,j),by obtain rfl:=h.down;exact List.mem_cons_self⟩
   | none=>(xY m r).map fun i=>⟨i.1,List.mem_cons_of_mem _ i.2⟩
noncomputable def Bj (f:∀ e,Option (GE T nm N e)) (o:Expr) (m:Str) (ap:Pos):(args:List Expr)→(pos:Pos)→Option (GE T nm N (.Call (.Attribute o m ap) args [] pos))
 | [],pos=>do
   let q ← xY m T.me
   let hs ← yes (bd o)
   let hp ← yes (ap.endLine == pos.line)
   let a ← f o
   some ⟨.mth q.1.1 q.1.2 a.1 .nil,fun F X k br=>by
    obtain ⟨n,fa,i,⟨fd,ps,h1,h2,h3⟩,h4,h5,h6,h7⟩:=k.mts _ q.2
    exact aq (si (a.2 F X k true) h6.cls h5 h1 h4 h2 k.pas (rH hs.down (fun x hx=>nomatch hx) (by decide) hp.down)) fun σ H Q h=>by
     obtain ⟨ρ,G,s,rep,post⟩:=k7 (k:=0) h6 h7 h
     refine ⟨ρ,G,s,rep,post.imp fun x H1 ⟨a1,dx,fs,e1,e2,e3,e4⟩=>⟨a1,dx,fs,e1,e2,e3,?_⟩⟩
     obtain ⟨ρ,G,s,rep,post⟩:=e4
     exact aj.fin post rep rfl⟩
 | e :: er,pos=>do
   let q ← xY m T.me
   let hs ← yes (bd o)
   let hp ← yes (ap.endLine == pos.line)
   let hn ← yes ((e :: er).all aP)
   let hl ← yes (decide ((e :: er).length<30))
   let a ← f o
   let b ← bV f (e :: er)
   some ⟨.mth q.1.1 q.1.2 a.1 b.1,fun F X k br=>by
    obtain ⟨n,fa,i,⟨fd,ps,h1,h2,h3⟩,h4,h5,h6,h7⟩:=k.mts _ q.2
    have hn':=List.all_eq_true.mp hn.down
    exact aq (u0 (a.2 F X k true) h6.cls h5 h1 h4 h2 k.pas (b.2 F X k true) (al (hn' e List.mem_cons_self)) (aS fun x hx=>hn' x (List.mem_cons_of_mem _ hx)) (rH hs.down hn' (by simpa using hl.down) hp.down)) fun σ H Q h=>k7 (k:=0) h6 h7 h⟩
end
theorem Rep.ext {W:Wd} {ρ:List Addr} {G H:Hp} {s:Sta} {σ:St} (rep:Rep W ρ G s σ H) {p:Addr} {o:O} (hp:H p≠none) (np:p ∉ ρ) (gp:G p=none) (no:∀ i∈s.ow,adr σ i≠some p) (ob:ObR W (ρ ++ [p]) G H p o):Rep W (ρ ++ [p]) G ⟨s.env,s.ow,s.st ++ [o]⟩ σ H:=by
 have pre:ρ <+: ρ ++ [p]:=List.prefix_append _ _
 refine ⟨rep.gh,by simp [rep.rl],?_,fun a m=>?_,fun n ob' a h1 h2=>?_,rep.el,fun i d ni e=>?_,fun i m=>?_,rep.od⟩
 ·rw [List.nodup_append]
  refine ⟨rep.rn,by simp,fun a ha b hb z=>?_⟩
  rw [List.mem_singleton] at hb
  subst hb
  exact np (z ▸ ha)
 ·rcases List.mem_append.mp m with m | m
  ·exact rep.rg a m
  ·rw [List.mem_singleton] at m;subst m;exact ⟨gp,hp⟩
 ·have h1':(s.st ++ [o])[n]? = some ob':=h1
  by_cases c:n<s.st.length
  ·rw [List.getElem?_append_left c] at h1'
   rw [List.getElem?_append_left (by rw [rep.rl];exact c)] at h2
   exact (rep.ob n ob' a h1' h2).mono pre (.refl _) fun _ q=>q
  ·rw [List.getElem?_append_right (by omega)] at h1'
   rw [List.getElem?_append_right (by rw [rep.rl];omega)] at h2
   have e1:n - s.st.length=0:=by
    have:=(List.getElem?_eq_some_iff.mp h1').1
    simp at this
    omega
   rw [e1] at h1'
   rw [rep.rl,e1] at h2
   cases h1';cases h2
   exact ob
 ·obtain ⟨v,e1,r⟩:=rep.en i d ni e
  exact ⟨v,e1,r.mono pre (.refl _)⟩
 ·obtain ⟨d,a,e1,e2,na,ga,ow⟩:=rep.eo i m
  refine ⟨d,a,e1,e2,fun z=>?_,ga,ow.mono pre (.refl _) fun _ q=>q⟩
  rcases List.mem_append.mp z with z | z
  ·exact na z
  ·rw [List.mem_singleton] at z;subst z;exact no i m e2
theorem oA {W:Wd} {Ln:D→Addr→Prop} {ρ ρ':List Addr} {G H H':Hp} (pr:ρ <+: ρ') (nr:∀ a∈ρ',a∈ρ∨H a=none) (hh:∀ a o,H a=some o→H' a=some o):∀ {ds:List D} {vs:List V},RLn W Ln ρ G H ds vs→RLn W Ln ρ' G H' ds vs
 | [],_,h=>h
 | d :: ds,_,⟨v,r,e,h,t⟩=>⟨v,r,e,h.elim (fun h=>.inl (h.mono pr (.refl _))) (fun ⟨a,e,l,n,o⟩=>.inr ⟨a,e,l,(fun z=>(nr a z).elim n o.th),o.mono pr (.refl _) (hh a)⟩),oA pr nr hh t⟩
section
variable {F:Fx} {X:Cx} {br:Bool}
theorem la {j:Nat} {es:E} {cl:Cl} {i:CI} (hcl:F.Γ.cl[j]? = some cl) (hw:cl.what=0) (hci:F.W.ci[j]? = some i) (hwh:F.W.what[j]? = some 0) {σ:St} {H:Hp} {Q:VK} (h:LE F br (.new j es) σ H Q):oE i.ad (SpF F.W F.cal1 cl.init) [] E0 (LA F true es) σ H Q:=by
 obtain ⟨ρ,G,s,rep,post⟩:=h
 refine ⟨ρ,G,s,rep,(aj.bind (m:=F.evs true es s) (R:=RVs F.W true (bQ σ es s.env)) (f:=fun l s=>(match F.Γ.cl[j]? with
  | some k=>if k.what=1 then (if l.length=k.at_.length then Out.ok (D.ins j l) (drp es s s.st) else .bad)
    else if k.what=0 then (match F.cal1 k.init (.ref s.st.length :: l) (s.st ++ [.ins j []]) with
     | .ok .non st=>.ok (.ref s.st.length) (aft es s .non st)
     | _=>.bad)
    else .bad
  | none=>.bad)) bg post).cps fun vs H1 ρ1 G1 s1 ds st1 rep1 le1 r1 post1 x dx hx hdx ne=>?_⟩
 rw [hcl] at post1
 dsimp only at post1
 rw [if_neg (by rw [hw];decide),if_pos hw] at post1
 have hx':(upd H1 dx (.own x)) x=none:=by rw [aa (Ne.symm ne)];exact hx
 have repB:=(rep1.beside (o:=.own x) hdx).beside (o:=.ins i.ad dx []) hx'
 have np:x ∉ ρ1:=fun z=>(rep1.rg x z).2 hx
 have gp:=aI rep1.gh hx
 have no:∀ i∈s1.ow,adr σ i≠some x:=fun j m z=>by
  obtain ⟨d,a,e1,e2,na,ga,ow⟩:=rep1.eo j m
  rw [z] at e2;cases e2
  exact ow.th hx
 have pre:ρ1 <+: ρ1 ++ [x]:=List.prefix_append _ _
 have nr:∀ a∈ρ1 ++ [x],a∈ρ1∨H1 a=none:=fun a m=>by
  rcases List.mem_append.mp m with m | m
  ·exact .inl m
  ·rw [List.mem_singleton] at m;subst m;exact .inr hx
 have hh:∀ a o,H1 a=some o→(upd (upd H1 dx (.own x)) x (.ins i.ad dx [])) a=some o:=fun a o e=>by
  rw [aa (ak e hx),aa (ak e hdx)];exact e
 have repC:=repB.ext (p:=x) (o:=.ins j []) (by rw [ae];exact fun z=>nomatch z) np gp no ⟨i,[],dx,hci,hwh,Nat.zero_le _,by rw [ae,List.zip_nil_right],rfl⟩
 have rx:(ρ1 ++ [x])[s1.st.length]? = some x:=by rw [List.getElem?_append_right (by rw [rep1.rl];exact Nat.le_refl _),rep1.rl];simp
 have r1':RLn F.W (bQ σ es s1.env) (ρ1 ++ [x]) G1 (upd (upd H1 dx (.own x)) x (.ins i.ad dx [])) ds vs:=by
  rw [le1.1]
  exact oA pre nr hh r1
 have e0:V.ref x :: (vs ++ [])=V.ref x :: vs:=by rw [List.append_nil]
 rw [e0]
 refine fj (E:=fun _=>E0) (es:=es) (ds:=.ref s1.st.length :: ds) (br:=false) (Ln:=fun _ _=>False) repC (RDs.cons ⟨x,rx,rfl⟩ (gf repC r1')) ?_
 unfold fW
 cases q:F.cal1 cl.init (.ref s1.st.length :: ds) (s1.st ++ [.ins j []]) with
 | ok d st=>
   rw [q] at post1
   cases d with
   | non=>
     intro y H' ρ' G' stp rep' r
     refine ⟨r,post1 (.ref x) H' ρ' G' ⟨pre.trans stp.pr,stp.gg,fun a o e=>?_,fun a m=>?_,fun a n=>stp.th a ?_,fun a o e n=>?_⟩ rep' (RVL.of ⟨x,gu stp.pr rx,rfl⟩)⟩
     ·rcases stp.gn a o e with z | z | z
      ·exact .inl z
      ·refine .inr (.inl ?_)
       cases w:H1 a with
       | none=>rfl
       | some u=>rw [hh a u w] at z;cases z
      ·exact .inr (.inr z)
     ·rcases stp.rn a m with z | z
      ·exact nr a z
      ·refine .inr ?_
       cases w:H1 a with
       | none=>rfl
       | some u=>rw [hh a u w] at z;cases z
     ·cases w:H1 a with
      | none=>exact absurd w n
      | some u=>rw [hh a u w];exact fun z=>nomatch z
     ·refine stp.fr a o (hh a o e) fun z=>?_
      rcases nr a z with z | z
      ·exact n z
      ·rw [e] at z;cases z
   | _=>exact post1.elim
 | exc c l st=>rw [q] at post1;exact post1.elim
 | bad=>rw [q] at post1;exact post1.elim
theorem jU:ju (CXF X.prog X.w) X E0:=fun _ _ _ _ _ _ _ ⟨_,_,_,_,_,_,_,_,_,_,_,_,_,_,_,z⟩=>z.elim
end
section
variable {T:Ns} {nm:NK} {N:List Str}
noncomputable def zy (f:∀ e,Option (GE T nm N e)) (x:Str) (p:Pos):(args:List Expr)→(pos:Pos)→Option (GE T nm N (.Call (.Name x p) args [] pos))
 | [],pos=>do
   let j ← ba x T.nw
   let hz ← no (x == ("":Str))
   let hd ← no (x == ("__debug__":Str))
   let hg ← yes (bD nm x)
   some ⟨.new j.1 .nil,fun F X k br=>by
    obtain ⟨n,fa,i,cl,⟨fd,ps,h1,h2,h3⟩,h4,h5,h6,h7,h8,h9,h10⟩:=k.nws j.1 x j.2 (by simpa using hz.down)
    exact aq (sf h5 h1 h4 (bG k.sc hg.down) h10 h2 .nil jU hd.down) fun σ H Q h=>by
     obtain ⟨ρ,G,s,rep,post⟩:=la h6 h7 h8 h9 h
     exact aj.fin post rep rfl⟩
 | e :: er,pos=>do
   let j ← ba x T.nw
   let hz ← no (x == ("":Str))
   let hd ← no (x == ("__debug__":Str))
   let hg ← yes (bD nm x)
   let hn ← yes ((e :: er).all aP)
   let a ← bV f (e :: er)
   some ⟨.new j.1 a.1,fun F X k br=>by
    obtain ⟨n,fa,i,cl,⟨fd,ps,h1,h2,h3⟩,h4,h5,h6,h7,h8,h9,h10⟩:=k.nws j.1 x j.2 (by simpa using hz.down)
    have hn':=List.all_eq_true.mp hn.down
    exact aq (oi h5 h1 h4 (bG k.sc hg.down) h10 h2 .nil jU (a.2 F X k true) hd.down (al (hn' e List.mem_cons_self)) (aS fun y hy=>hn' y (List.mem_cons_of_mem _ hy))) fun σ H Q h=>la h6 h7 h8 h9 h⟩
end
theorem yS {W:Wd} {ρ:List Addr} {G H:Hp} {d:D} {k:Key} {v:V} (h:RB W ρ G H d v) (e:aM d=some k):v=kV k:=by
 cases d with
 | int i=>
   cases e
   rcases h with h | ⟨_,_,_,h⟩
   ·exact h
   ·exact h.elim
 | str i=>
   cases e
   rcases h with h | ⟨_,_,_,h⟩
   ·exact h
   ·exact h.elim
 | _=>cases e
section
variable {F:Fx} {X:Cx} {br:Bool}
theorem kI {a b c:E} {σ:St} {H:Hp} {Q:VK} (h:LE F br (.get a b c) σ H Q):sX (LE F true a) (LE F true b) (LE F false c) σ H Q:=by
 obtain ⟨ρ,G,s,rep,post⟩:=h
 refine ⟨ρ,G,s,rep,(aj.bind (m:=F.ev true a s) (R:=RVL F.W true (bo σ a s.env)) (f:=fun x s=>if isDic (look s.st x)=true then (F.ev true b s).bind fun y s=>(F.ev false c s).bind fun z s=>(match look s.st x,aM y with
  | .dic ks ds,some k=>Out.ok ((cP ks ds k).getD z) s
  | _,_=>.bad) else .bad) az post).cps fun x H1 ρ1 G1 s1 d1 st1 rep1 le1 r1 post1=>?_⟩
 by_cases hd:isDic (look s1.st d1)=true
 ·rw [if_pos hd] at post1
  have l1:=bL rep1 r1.rv
  obtain ⟨ks,ds,ed⟩:∃ ks ds,look s1.st d1 = .dic ks ds:=by
   cases q:look s1.st d1 with
   | dic ks ds=>exact ⟨ks,ds,rfl⟩
   | _=>rw [q] at hd;cases hd
  rw [ed] at l1
  obtain ⟨ad,vs,rfl,hA,hl,hr⟩:=l1
  refine ⟨ad,rfl,.inl ⟨_,.inl hA⟩,ρ1,G1,s1,rep1,(aj.bind (m:=F.ev true b s1) (R:=RVL F.W true (bo σ b s1.env)) az post1).cps fun y H2 ρ2 G2 s2 d2 st2 rep2 le2 r2 post2=>?_⟩
  refine ⟨ρ2,G2,s2,rep2,(aj.bind (m:=F.ev false c s2) (R:=RVL F.W false (bo σ c s2.env)) az post2).cps fun z H3 ρ3 G3 s3 d3 st3 rep3 le3 r3 post3=>?_⟩
  have l3:=bL rep3 (RB.stp (RB.stp r1.rv st2) st3)
  have r2':=RB.stp r2.rv st3
  dsimp only at post3
  revert l3 post3
  generalize look s3.st d1=cc
  intro post3 l3
  cases cc with
  | dic ks ds=>
    cases q2:aM d2 with
    | none=>rw [q2] at post3;exact post3.elim
    | some k=>
      rw [q2] at post3
      obtain ⟨ad',vs',e',hA',hl',hr'⟩:=l3
      cases e'
      refine ⟨bO (aE ks vs') k,.inl ⟨_,k,.inl hA',yS r2' q2,rfl⟩,?_⟩
      dsimp only at post3
      cases q3:cP ks ds k with
      | none=>rw [(cB hl' hr').2 q3];rw [q3] at post3;exact aj.fin post3 rep3 (RVL.of r3)
      | some d=>
        obtain ⟨v,e1,e2⟩:=(cB hl' hr').1 d q3
        rw [e1];rw [q3] at post3
        exact aj.fin post3 rep3 (RVL.of e2)
  | _=>exact post3.elim
 ·rw [if_neg hd] at post1;exact post1.elim
theorem LE.imp {c:E} {σ:St} {H:Hp} {Q Q':VK} (h:LE F br c σ H Q) (i:∀ v H',Q v H'→Q' v H'):LE F br c σ H Q':=by
 obtain ⟨ρ,G,s,rep,post⟩:=h
 exact ⟨ρ,G,s,rep,post.imp i⟩
theorem ph {a b:E} {σ:St} {H:Hp} {Q:VK} (h:LE F br (.get a b (.c .non)) σ H Q):sW (LE F true a) (LE F true b) σ H Q:=
 LE.imp (kI h) fun x H1 ⟨ad,e,i,q⟩=>⟨ad,e,i,LE.imp q fun y H2 ⟨ρ,G,s,rep,post⟩=>post .non H2 ρ G .refl rep rfl⟩
end
section
variable {T:Ns} {nm:NK} {N:List Str}
noncomputable def Bf (f:∀ e,Option (GE T nm N e)) (o:Expr) (m:Str) (ap:Pos):(args:List Expr)→(pos:Pos)→Option (GE T nm N (.Call (.Attribute o m ap) args [] pos))
 | [e],pos=>do
   let hm ← isP "get" m
   let hs ← yes (bd o)
   let hp ← yes (ap.endLine == pos.line)
   let hn ← yes (aP e)
   let a ← f o
   let b ← f e
   some ⟨.get a.1 b.1 (.c .non),fun F X k br=>by
    obtain rfl:=hm.down
    exact aq (r6 (by have:=k.room.un;omega) (a.2 F X k true) (b.2 F X k true) ⟨bn hs.down,by rw [al hn.down];rfl,hp.down,by rw [al hn.down];rfl⟩) fun σ H Q h=>ph h⟩
 | [e,g],pos=>do
   let hm ← isP "get" m
   let hs ← yes (bd o)
   let hp ← yes (ap.endLine == pos.line)
   let hn ← yes (aP e)
   let hg ← yes (aP g)
   let a ← f o
   let b ← f e
   let c ← f g
   some ⟨.get a.1 b.1 c.1,fun F X k br=>by
    obtain rfl:=hm.down
    exact aq (r9 (by have:=k.room.un;omega) (a.2 F X k true) (b.2 F X k true) (c.2 F X k false) ⟨bn hs.down,by rw [al hn.down,al hg.down];rfl,hp.down,by rw [al hn.down,al hg.down];rfl⟩) fun σ H Q h=>kI h⟩
 | _,_=>none
end
section
variable {F:Fx} {X:Cx} {br:Bool}
theorem uw {es:E} {er:List Expr} {pos:Pos} (h:PA X er (LA F false es)):PE X (.List er pos) (LE F br (.newl es)):=aq (hX h) fun σ H Q g=>by
 obtain ⟨ρ,G,s,rep,post⟩:=g
 refine ⟨ρ,G,s,rep,(aj.bind (m:=F.evs false es s) (R:=RVs F.W false (bQ σ es s.env)) (f:=fun l s=>if l.length≤100000 then Out.ok (D.ref s.st.length) ⟨s.env,s.ow,s.st ++ [.lst l]⟩ else .bad) bg post).cps fun xs H1 ρ1 G1 s1 l st1 rep1 le1 r1 post1=>?_⟩
 have r:RDs F.W ρ1 G1 l xs:=r1
 by_cases c:l.length≤100000
 ·rw [if_pos c] at post1
  refine ⟨by rw [← r.len];exact big c,fun p hp=>?_⟩
  have np:p ∉ ρ1:=fun z=>(rep1.rg p z).2 hp
  have gp:=aI rep1.gh hp
  have no:∀ i∈s1.ow,adr σ i≠some p:=fun j m z=>by
   obtain ⟨d,a,e1,e2,na,ga,ow⟩:=rep1.eo j m
   rw [z] at e2;cases e2
   exact ow.th hp
  have pre:ρ1 <+: ρ1 ++ [p]:=List.prefix_append _ _
  have rep2:=(rep1.beside (o:=.lst xs) hp).ext (o:=.lst l) (by rw [ae];exact fun z=>nomatch z) np gp no ⟨xs,ae,r.mono pre (.refl _)⟩
  have rd:RD F.W (ρ1 ++ [p]) G1 (.ref s1.st.length) (.ref p):=⟨p,by rw [List.getElem?_append_right (by rw [rep1.rl];exact Nat.le_refl _),rep1.rl];simp,rfl⟩
  refine post1 (.ref p) (upd H1 p (.lst xs)) (ρ1 ++ [p]) G1 ⟨pre,.refl _,fun _ _ e=>.inl e,fun a m=>?_,fun a n=>?_,fun a u e _=>by rw [aa (ak e hp)];exact e⟩ rep2 (RVL.of rd)
  ·rcases List.mem_append.mp m with m | m
   ·exact .inl m
   ·rw [List.mem_singleton] at m;subst m;exact .inr hp
  ·rw [aa fun z=>n (by rw [z];exact hp)];exact n
 ·rw [if_neg c] at post1;exact post1.elim
end
section
variable {T:Ns} {nm:NK} {N:List Str}
noncomputable def zr (f:∀ e,Option (GE T nm N e)):(e:Expr)→Option (GE T nm N e)
 | .List er pos=>(bV f er).map fun a=>⟨.newl a.1,fun F X k br=>uw (a.2 F X k false)⟩
 | e=>f e
noncomputable def wT (f:∀ e,Option (GE T nm N e)) (x:Str) (p:Pos) (e:Expr) (er:List Expr) (pos:Pos):Option (GE T nm N (.Call (.Name x p) (e :: er) [] pos)):=
 match rA x T.mu with
 | some _=>v5 (zr f) x p e er pos
 | none=>v5 f x p e er pos
end
section
variable {F:Fx} {X:Cx} {br:Bool}
noncomputable def wB (K:Fg) (D:List (Str×Dk)) (ty tx:TE):TE:=fun σ H Q=>ty σ H fun y H2=>tx σ H2 fun z H3=>∃ k,y = .str k∧(∀ d,KTD.datumAt k D=some d→∀ v,(∀ G,RK K G d v)→Q v H3)∧(KTD.datumAt k D=none→Q z H3)
theorem u5 {x:Str} {p apos cpos:Pos} {e f:Expr} {ty tx:TE} {a:Addr} {D:List (Str×Dk)} (hg:Gl X x) (hm:X.mg x=some (.ref a)) (hK:KTD.tabLook (aW X.K) (fun b=>X.K.lookup b) a D=true) (hd:(x == ("__debug__":Str))=false) (he:PE X e ty) (hf:PE X f tx) (m:DM2 X (.Name x p) "get" apos e f cpos):PE X (.Call (.Attribute (.Name x p) "get" apos) [e,f] [] cpos) (wB X.K D ty tx):=by
 intro pins s σ H Q I h
 refine wpAny_Call_method m.base m.few m.line PySem.F.plainAttrs_dict PySem.F.slot_dict_get PySem.F.type_dict_get (thn (jV hg hm (v:=.ref a) rfl hd pins s σ H (fun v H1=>v = .ref a∧H1=H) I ⟨rfl,rfl⟩) fun u s1=>?_)
 rintro ⟨x',H1,I1,rx,ex,eh⟩
 subst ex eh
 obtain rfl:u=Value.ref a:=rx
 have T1:KTD.TabOf (L2.Bk.IsD X.K) s1.heap a D:=KTD.tab_of_look gQ (fun b o e=>I1.kIn b o e) hK
 obtain ⟨nsm,o1,es1,ep1,ho1,hc1,hd1,hr1⟩:=id T1
 refine ⟨⟨o1,ho1,hc1.1⟩,fun b q=>(by cases q;exact ⟨o1,ho1,hc1.2.1⟩),?_⟩
 rw [m.trees]
 refine Calls.callWith_builtin rfl (Calls.evalArgs_plain (Calls.spliced_cons (thn (he pins s1 σ H1 _ I1 h) fun iv s2 ⟨y,H2,I2,ry,q2⟩=>
  Calls.spliced_cons (thn (hf pins s2 σ H2 _ I2 q2) fun fv s3 ⟨z,H3,I3,rz,k,ek,q3,q4⟩=>Calls.spliced_nil ?_))))
 subst ek
 obtain ⟨tz,rfl⟩:=ry
 have T:KTD.TabOf (L2.Bk.IsD X.K) s3.heap a D:=KTD.tab_of_look gQ (fun b o e=>I3.kIn b o e) hK
 have ty':s3.TypeIs (.ref a) "dict":=by obtain ⟨_,o,_,_,ho,hc,_⟩:=T;exact ⟨o,ho,hc.1⟩
 refine wpAny_call_entry PySem.F.slot_dict_get ty' PySem.F.entry_dict_get ?_ (PySem.F.args_dict_get_3 _ _ _)
 show wpAny _ _ (dictGet a (.str k tz) >>= _) _ _ s3
 cases hat:KTD.datumAt k D with
 | some d=>
   refine wpAny_bind (l5 T hat fun v hv=>?_)
   obtain ⟨y,ry,rk⟩:=hv
   exact wpAny_pure ⟨v,rfl,⟨y,H3,I3.tok _,ry,q3 d hat y rk⟩⟩
 | none=>
   refine wpAny_bind (nH T hat ?_)
   show wpAny _ _ (Builtin.Dict.missed a (.str k tz) >>= _) _ _ _
   exact wpAny_bind (wpAny_missed_other nsm (wpAny_pure ⟨fv,rfl,⟨z,H3,I3.tok _,rz,q4 hat⟩⟩))
theorem pQ (hK:F.W.K=X.K) {j:Nat} {t:List (Str×Dk)} {a b:E} (ht:F.Γ.tb[j]? = some t) {σ:St} {H:Hp} {Q:VK} (h:LE F br (.tget j a b) σ H Q):wB X.K t (LE F true a) (LE F false b) σ H Q:=by
 obtain ⟨ρ,G,s,rep,post⟩:=h
 refine ⟨ρ,G,s,rep,(aj.bind (m:=F.ev true a s) (R:=RVL F.W true (bo σ a s.env)) (f:=fun x s=>(F.ev false b s).bind fun z s=>(match F.Γ.tb[j]?,x with | some t,.str k=>Out.ok (((KTD.datumAt k t).map toD).getD z) s | _,_=>.bad)) az post).cps fun x H1 ρ1 G1 s1 d1 st1 rep1 le1 r1 post1=>?_⟩
 refine ⟨ρ1,G1,s1,rep1,(aj.bind (m:=F.ev false b s1) (R:=RVL F.W false (bo σ b s1.env)) az post1).cps fun y H2 ρ2 G2 s2 d2 st2 rep2 le2 r2 post2=>?_⟩
 rw [ht] at post2
 cases d1 with
 | str k=>
   have e1:x = .str k:=by
    rcases r1.rv with r | ⟨_,_,_,r⟩
    ·exact r
    ·exact r.elim
   refine ⟨k,e1,fun d hd v hv=>?_,fun hd=>?_⟩
   ·dsimp only at post2
    rw [hd] at post2
    exact aj.fin post2 rep2 (RVL.of (j3 (by rw [hK];exact hv G2)))
   ·dsimp only at post2
    rw [hd] at post2
    exact aj.fin post2 rep2 (RVL.of r2)
 | _=>exact post2.elim
theorem px {j:Nat} {es:E} {cl:Cl} {i:CI} (hcl:F.Γ.cl[j]? = some cl) (hw:cl.what=1) (hci:F.W.ci[j]? = some i) (hwh:F.W.what[j]? = some 1) (hl:i.nm.length=cl.at_.length) {σ:St} {H:Hp} {Q:VK} (h:LE F br (.newd j es) σ H Q):oE i.ad (vF i.ad i.nm) [] E0 (LA F false es) σ H Q:=by
 obtain ⟨ρ,G,s,rep,post⟩:=h
 refine ⟨ρ,G,s,rep,(aj.bind (m:=F.evs false es s) (R:=RVs F.W false (bQ σ es s.env)) (f:=fun l s=>Out.of s ((F.Γ.cl[j]?).bind fun k=>if k.what=1∧l.length=k.at_.length then some (D.ins j l) else none)) bg post).cps fun vs H1 ρ1 G1 s1 ds st1 rep1 le1 r1 post1 x dx hx hdx ne=>?_⟩
 rw [hcl] at post1
 have r1:RDs F.W ρ1 G1 ds vs:=r1
 by_cases c:cl.what=1∧ds.length=cl.at_.length
 ·have e0:((some cl).bind fun k=>if k.what=1∧ds.length=k.at_.length then some (D.ins j ds) else none)=some (D.ins j ds):=by
   show (if cl.what=1∧ds.length=cl.at_.length then some (D.ins j ds) else none)=_
   rw [if_pos c]
  rw [e0] at post1
  have repB:=rep1.beside (o:=.own x) hdx
  have hx':(upd H1 dx (.own x)) x=none:=by rw [aa (Ne.symm ne)];exact hx
  refine ⟨x,dx,vs,by rw [List.append_nil],by rw [← r1.len,c.2,hl],ae,rfl,?_⟩
  have uu:∀ {o o':HO},upd (upd (upd H1 dx (.own x)) x o) x o'=upd (upd H1 dx (.own x)) x o':=fun {o o'}=>by
   funext b
   by_cases z:b=x
   ·subst z;rw [ae,ae]
   ·rw [aa z,aa z,aa z]
  rw [uu]
  obtain ⟨rep2,stp2⟩:=repB.new (o:=.ins i.ad dx (i.nm.zip vs)) (Ow:=Own s1 σ) hx'
  have stpB:Stp ρ1 G1 H1 ρ1 G1 (upd H1 dx (.own x)) (Own s1 σ):=d7 hdx
  have sg:Sub G1 (upd G1 x (.ins i.ad dx (i.nm.zip vs))):=aV (aI rep1.gh hx)
  exact post1 (.ref x) _ ρ1 _ (stpB.trans stp2 fun a z=>.inl z) rep2 (RVL.of ⟨x,i,vs,rfl,hci,by rw [c.2,hl];exact Nat.le_refl _,.inl ⟨hwh,dx,ae⟩,r1.mono (List.prefix_refl _) sg⟩)
 ·have e0:((some cl).bind fun k=>if k.what=1∧ds.length=k.at_.length then some (D.ins j ds) else none)=none:=by
   show (if cl.what=1∧ds.length=cl.at_.length then some (D.ins j ds) else none)=_
   rw [if_neg c]
  rw [e0] at post1
  exact post1.elim
theorem xM {e:Expr}:PE X e (LE F br .nil):=fun pins s σ H Q I h=>by
 obtain ⟨ρ,G,s,rep,post⟩:=h
 exact post.elim
theorem yd {e:Expr}:PT X e (LT F .nil):=fun pins s σ H Q I h=>by
 obtain ⟨ρ,G,s,rep,post⟩:=h
 exact post.elim
end
section
variable {T:Ns} {nm:NK} {N:List Str}
noncomputable def zH (f:∀ e,Option (GE T nm N e)) (m:Str) (ap:Pos):(o:Expr)→(args:List Expr)→(pos:Pos)→Option (GE T nm N (.Call (.Attribute o m ap) args [] pos))
 | .Name x p,[e,g],pos=>do
   let hm ← isP "get" m
   let hd ← no (x == ("__debug__":Str))
   let hg ← yes (bD nm x)
   let j ← ba x T.tb
   let hs ← yes (bd (.Name x p))
   let hp ← yes (ap.endLine == pos.line)
   let hn ← yes (aP e)
   let hg2 ← yes (aP g)
   let b ← f e
   let c ← f g
   some ⟨.tget j.1 b.1 c.1,fun F X k br=>by
    obtain rfl:=hm.down
    obtain ⟨t,ad,h1,h2,h3⟩:=k.tbs j.1 x j.2
    exact aq (u5 (bG k.sc hg.down) h2 h3 hd.down (b.2 F X k true) (c.2 F X k false) ⟨bn hs.down,by rw [al hn.down,al hg2.down];rfl,hp.down,by rw [al hn.down,al hg2.down];rfl⟩) fun σ H Q h=>pQ k.hK h1 h⟩
 | _,_,_=>none
noncomputable def zz (f:∀ e,Option (GE T nm N e)) (x:Str) (p:Pos):(args:List Expr)→(pos:Pos)→Option (GE T nm N (.Call (.Name x p) args [] pos))
 | [],pos=>none
 | e :: er,pos=>do
   let j ← ba x T.nd
   let hz ← no (x == ("":Str))
   let hd ← no (x == ("__debug__":Str))
   let hg ← yes (bD nm x)
   let hn ← yes ((e :: er).all aP)
   let a ← bV f (e :: er)
   some ⟨.newd j.1 a.1,fun F X k br=>by
    obtain ⟨n,fa,fd,ps,i,cl,h1,h2,h4,h5,h6,h7,h8,h9,h10,h11⟩:=k.nds j.1 x j.2 (by simpa using hz.down)
    have hn':=List.all_eq_true.mp hn.down
    exact aq (oi h5 h1 h4 (bG k.sc hg.down) h10 h2 .nil jU (a.2 F X k false) hd.down (al (hn' e List.mem_cons_self)) (aS fun y hy=>hn' y (List.mem_cons_of_mem _ hy))) fun σ H Q h=>px h6 h7 h8 h9 h11 h⟩
end
theorem mQ {ss:List Str}:∀ {us:List Value},av (ss.map V.str) us→StrsAre us ss:=by
 induction ss with
 | nil=>intro us r;rw [List.map_nil] at r;cases r;exact .nil
 | cons n ns ih=>
   intro us r
   rw [List.map_cons] at r
   cases r with
   | cons r1 r2=>
     obtain ⟨t,e⟩:=r1
     subst e
     exact .cons n t (ih r2)
section
variable {F:Fx} {X:Cx} {br:Bool}
noncomputable def tSJ (K:Fg) (x:Str) (ty:TE):TE:=fun σ H Q=>ty σ H fun y H2=>∃ a ss,y = .ref a∧SqL K H2 a (ss.map V.str)∧(ss.map (·.length)).sum+ss.length * x.length≤16777216∧Q (.str (Txt.join x ss)) H2
theorem sk {x:Str} {j:Nat} {p apos cpos:Pos} {e:Expr} {ty:TE} (he:PE X e ty) (m:DM1 X (.Constant (.str x) j p) "join" apos e cpos):PE X (.Call (.Attribute (.Constant (.str x) j p) "join" apos) [e] [] cpos) (tSJ X.K x ty):=by
 intro pins s σ H Q I h
 refine wpAny_Call_method m.base m.few m.line PySem.F.plainAttrs_str PySem.F.slot_str_join PySem.F.type_str_join (thn (fu pins s σ H (fun v H1=>v = .str x∧H1=H) I ⟨rfl,rfl⟩) fun u s1=>?_)
 rintro ⟨x',H1,I1,rx,ex,eh⟩
 subst ex eh
 obtain ⟨tk,rfl⟩:=rx
 refine ⟨typeIs_str _ _ _,(fun b q=>by cases q),?_⟩
 rw [m.trees]
 refine Calls.callWith_builtin rfl (Calls.evalArgs_plain (Calls.spliced_cons (thn (he pins s1 σ H1 _ I1 h) fun iv s2 ⟨y,H2,I2,ry,a,ss,ey,hS,hb,q⟩=>Calls.spliced_nil ?_)))
 subst ey
 obtain rfl:iv=Value.ref a:=ry
 obtain ⟨its,rv,p,hz⟩:=I2.list hS
 exact join_list (ys:=ss) p.isList (by simpa using mQ rv) hb fun t' k=>⟨.str _,H2,I2.kept (t':=k) fun _ _ e=>e,⟨_,rfl⟩,q⟩
theorem pq (hK:F.W.K=X.K) {x:Str} {a:E} {σ:St} {H:Hp} {Q:VK} (h:LE F br (.join x a) σ H Q):tSJ X.K x (LE F true a) σ H Q:=by
 obtain ⟨ρ,G,s,rep,post⟩:=one (br:=true) (a:=a) (f:=fun y s=>Out.of s (nQ x (look s.st y))) h
 refine ⟨ρ,G,s,rep,post.imp fun y H1 h=>?_⟩
 obtain ⟨ρ,G,s,d,rep,r,post⟩:=h
 obtain ⟨d2,e,kk⟩:=cm (br:=br) rep post
 have rl:=bL rep r
 revert e rl
 generalize look s.st d=cc
 intro e rl
 cases cc with
 | lst l=>
   have e':((cO l).bind fun ss=>if x.length≤64∧(ss.map (·.length)).sum≤100000∧ss.length≤1000 then some (D.str (Txt.join x ss)) else none)=some d2:=e
   obtain ⟨ss,h1,h2⟩:=Option.bind_eq_some_iff.mp e'
   split at h2
   ·rename_i c
    cases h2
    obtain ⟨ad,vs,rfl,t,w⟩:=rl
    rw [oC h1 w] at t
    refine ⟨ad,ss,rfl,.inl t,?_,kk.1 _ rfl⟩
    have:=Nat.mul_le_mul c.2.2 c.1
    omega
   ·cases h2
 | _=>cases e
noncomputable def AX (te:TE):TE:=fun σ H Q=>te σ H fun v H1=>∃ x,v = .str x∧x.length≤sizeLine∧Q (.str x) H1
theorem uY {e:Expr} {te:TE} {pos:Pos} (he:PE X e te):PE X (.FormattedValue e (-1) none pos) (AX te):=by
 intro pins s σ H Q I h
 refine FormattedValue_plain (thn (he pins s σ H _ I h) fun v s1 z=>?_)
 obtain ⟨y,H1,I1,r,x,rfl,hx,q⟩:=z
 obtain ⟨tk,rfl⟩:=r
 exact wpAny_formatField_str ⟨.str _,H1,I1,⟨_,rfl⟩,q⟩ ⟨.str _,H1,I1.tok _,⟨_,rfl⟩,q⟩ hx
theorem xQ {x y:Str} {j1 j2:Nat} {p1 p2 p3 pos:Pos} {e:Expr} {a:E} (hx:x.length≤1000) (hy:y.length≤1000) (he:PE X e (LE F true a)):PE X (.JoinedStr [.Constant (.str x) j1 p1,.FormattedValue e (-1) none p2,.Constant (.str y) j2 p3] pos) (LE F br (.fmt x a y)):=aq (uZ (jW fu (jW (uY he) (jW fu yJ)))) fun σ H Q h=>by
 obtain ⟨ρ,G,s,rep,post⟩:=one (br:=true) (a:=a) (f:=fun v s=>Out.of s (pf x v y)) h
 have l0:Str.empty.length=0:=rfl
 have sz:∀ n,n≤200000→n≤sizeLine:=fun n h=>Nat.le_trans h (by decide)
 refine ⟨x,rfl,sz _ (by rw [strLen_append,l0];omega),ρ,G,s,rep,post.imp fun v H1 h=>?_⟩
 obtain ⟨ρ,G,s,d,rep,r,post⟩:=h
 obtain ⟨d2,e,kk⟩:=cm (br:=br) rep post
 cases d with
 | str z=>
   unfold pf at e
   dsimp only at e
   split at e
   ·rename_i c
    cases e
    exact ⟨z,mO r,sz _ (by omega),z,rfl,sz _ (by rw [strLen_append,strLen_append,l0];omega),y,rfl,sz _ (by rw [strLen_append,strLen_append,strLen_append,l0];omega),sz _ (by rw [strLen_append,strLen_append,strLen_append,l0];omega),kk.1 _ rfl⟩
   ·cases e
 | _=>cases e
noncomputable def vL (F:Fx):List Str→E→List (TE×TE)
 | k :: ks,.cons a r=>(tC (.str k),LE F false a) :: vL F ks r
 | _,_=>[]
theorem uk {a r:E} {σ:St} {H:Hp} {Q:List V→Hp→Prop} (g:LA F false (.cons a r) σ H Q):LE F false a σ H fun x H1=>LA F false r σ H1 fun ys H2=>Q (x :: ys) H2:=by
 obtain ⟨ρ,G,s,rep,post⟩:=g
 refine ⟨ρ,G,s,rep,(aj.bind (m:=F.ev false a s) (R:=RVL F.W false (bo σ a s.env)) (f:=fun x s=>(F.evs false r s).bind fun l s=>Out.ok (x :: l) s) az post).cps fun x H1 ρ1 G1 s1 d1 st1 rep1 le1 r1 post1=>?_⟩
 refine ⟨ρ1,G1,s1,rep1,(aj.bind (m:=F.evs false r s1) (R:=RVs F.W false (bQ σ r s1.env)) (f:=fun l s=>Out.ok (d1 :: l) s) bg post1).cps fun y H2 ρ2 G2 s2 d2 st2 rep2 le2 r2 post2=>?_⟩
 rw [le1.1] at r2
 exact aj.fin post2 rep2 (lA st2 r1 r2 (fun _ b ⟨i,e,q⟩=>⟨i,dz.mpr (.inl e),q⟩) fun _ b ⟨i,e,q⟩=>⟨i,dz.mpr (.inr e),q⟩)
noncomputable def kU:E→Nat
 | .cons _ r=>kU r+1
 | _=>0
noncomputable def isL:E→Bool
 | .cons _ r=>isL r
 | .nil=>true
 | _=>false
theorem xo {es:E} (h:isL es=true):es = .nil∨∃ a r,es = .cons a r:=by
 cases es
 case nil=>exact .inl rfl
 case cons a r=>exact .inr ⟨a,r,rfl⟩
 all_goals cases h
theorem wE:∀ (ks:List Str) (es:E),ks.length=kU es→isL es=true→∀ {σ:St} {H:Hp} {Q:List (V×V)→Hp→Prop},LA F false es σ H (fun vs H2=>vs.length=ks.length∧Q ((ks.zip vs).map (fun kv=>(V.str kv.1,kv.2))) H2)→kb (vL F ks es) σ H Q
 | ks,es,hl,hi,σ,H,Q,h=>by
   rcases xo hi with rfl | ⟨a,r,rfl⟩
   ·cases ks with
    | nil=>
      obtain ⟨ρ,G,s,rep,post⟩:=h
      exact (post [] H ρ G .refl rep rfl).2
    | cons k ks=>simp [kU] at hl
   ·cases ks with
    | nil=>simp [kU] at hl
    | cons k ks=>
      refine LE.imp (uk h) fun x H1 h1=>wE ks r (by simpa [kU] using hl) hi ?_
      obtain ⟨ρ,G,s,rep,post⟩:=h1
      exact ⟨ρ,G,s,rep,post.imp fun vs H2 ⟨h2,h3⟩=>⟨by simpa using h2,h3⟩⟩
 termination_by ks=>ks.length
theorem lH:∀ {kvs:List (Key×V)} {k:Key},k ∉ kvs.map (·.1)→bO kvs k=none
 | [],_,_=>rfl
 | q :: r,k,h=>by
   simp only [List.map_cons,List.mem_cons,not_or] at h
   have ih:=lH h.2
   unfold bO at ih ⊢
   rw [List.find?_cons]
   have:decide (q.1=k)=false:=decide_eq_false (Ne.symm h.1)
   simp only [this]
   exact ih
theorem jg:∀ (more kvs:List (Key×V)),(kvs.map (·.1) ++ more.map (·.1)).Nodup→cI kvs more=kvs ++ more
 | [],kvs,_=>by simp [cI]
 | p :: r,kvs,h=>by
   have nv:bO kvs p.1=none:=by
    have hn:p.1 ∉ kvs.map (·.1):=fun z=>by
     rw [List.nodup_append] at h
     exact h.2.2 _ z _ (by simp) rfl
    exact lH hn
   show cI (cL kvs p.1 p.2) r=_
   rw [sF p.2 nv]
   have:=jg r (kvs ++ [(p.1,p.2)]) (by simpa using h)
   rw [this];simp
theorem Rep.fill {W:Wd} {ρ:List Addr} {G H:Hp} {s:Sta} {σ:St} (rep:Rep W ρ G s σ H) {p:Addr} {o o':HO} (hp:H p=some o') (np:p ∉ ρ) (gp:G p=none) (no:∀ i∈s.ow,adr σ i≠some p):Rep W ρ (upd G p o) s σ (upd H p o):=by
 have sg:=aV (o:=o) gp
 have nr:∀ a∈ρ,a≠p:=fun a m z=>np (z ▸ m)
 refine ⟨fun a u e=>?_,rep.rl,rep.rn,fun a m=>?_,fun n ob a h1 h2=>(rep.ob n ob a h1 h2).mono (List.prefix_refl _) sg fun u q=>?_,rep.el,fun i d ni e=>?_,fun i m=>?_,rep.od⟩
 ·by_cases z:a=p
  ·subst z;rw [ae] at e ⊢;exact e
  ·rw [aa z] at e ⊢;exact rep.gh a u e
 ·rw [aa (nr a m),aa (nr a m)];exact rep.rg a m
 ·rw [aa (nr a (List.mem_of_getElem? h2))];exact q
 ·obtain ⟨v,e1,r⟩:=rep.en i d ni e
  exact ⟨v,e1,r.mono (List.prefix_refl _) sg⟩
 ·obtain ⟨d,a,e1,e2,na,ga,ow⟩:=rep.eo i m
  have z:a≠p:=fun z=>no i m (by rw [e2,z])
  exact ⟨d,a,e1,e2,na,by rw [aa z];exact ga,ow.mono (List.prefix_refl _) sg fun u q=>by rw [aa z];exact q⟩
theorem lM:∀ (ks:List Str) (vs:List V),(ks.zip vs).map (fun kv=>(V.str kv.1,kv.2))=((ks.map Sum.inr:List Key).zip vs).map (fun kv=>(kV kv.1,kv.2))
 | [],_=>rfl
 | _ :: _,[]=>rfl
 | k :: ks,v :: vs=>by
   have:=lM ks vs
   show (V.str k,v) :: (ks.zip vs).map _=(kV (Sum.inr k),v) :: ((ks.map Sum.inr:List Key).zip vs).map _
   rw [this];rfl
theorem o8 {ks:List Str} {es:E} (hl:ks.length=kU es) (hi:isL es=true) (h15:ks.length≤15) (nd:ks.Nodup) {σ:St} {H:Hp} {Q:VK} (h:LE F br (.dicc ks es) σ H Q):wy (vL F ks es) σ H Q:=by
 intro p hp
 obtain ⟨ρ,G,s,rep,post⟩:=h
 refine wE ks es hl hi ⟨ρ,G,s,rep.beside hp,?_⟩
 have np:p ∉ ρ:=fun z=>(rep.rg p z).2 hp
 have gp:=aI rep.gh hp
 have nop:∀ i∈s.ow,adr σ i≠some p:=fun i m z=>by
  obtain ⟨d,a,e1,e2,na,ga,ow⟩:=rep.eo i m
  rw [z] at e2;cases e2
  exact ow.th hp
 have post:aj F.W F.ex (RVL F.W br (bo σ (.dicc ks es) s.env)) σ H ρ G (Own s σ) ((F.evs false es s).bind fun l s=>.of s (kA ks l)) Q:=post
 cases q:F.evs false es s with
 | bad=>rw [q] at post;exact post.elim
 | exc c l s'=>
   rw [q] at post
   exact fun cls dx H' ρ' G' st rep' x=>post cls dx H' ρ' G' ((d7 hp).trans st fun a z=>.inl z) rep' x
 | ok l s'=>
   rw [q] at post
   have le:Le s s':=bg _ _ q
   intro vs H' ρ' G' st rep' r
   have r:RDs F.W ρ' G' l vs:=r
   have post:aj F.W F.ex (RVL F.W br (bo σ (.dicc ks es) s.env)) σ H ρ G (Own s σ) (.of s' (kA ks l)) Q:=post
   unfold kA at post
   by_cases c:ks.length=l.length∧ks.Nodup∧ks.length≤15∧ks≠[]
   ·rw [if_pos c] at post
    have lv:vs.length=ks.length:=by rw [← r.len,c.1]
    refine ⟨lv,?_,(ks.map Sum.inr).zip vs,lM ks vs,by rw [List.length_zip,List.length_map];omega,?_⟩
    ·exact st.fr p _ ae np
    ·have hp':H' p=some (.dK []):=st.fr p _ ae np
     have np':p ∉ ρ':=fun z=>(st.rn p z).elim np fun w=>by rw [ae] at w;cases w
     have gp':G' p=none:=by
      cases w:G' p with
      | none=>rfl
      | some o=>
        rcases st.gn p o w with z | z | ⟨i,m,z⟩
        ·rw [gp] at z;cases z
        ·rw [ae] at z;cases z
        ·exact absurd z (nop i m)
     have nop':∀ i∈s'.ow,adr σ i≠some p:=fun i m=>nop i (le.2 i m)
     have km:((ks.map Sum.inr).zip vs).map (·.1)=(ks.map Sum.inr:List Key):=by
      rw [List.map_fst_zip];rw [List.length_map,lv];exact Nat.le_refl _
     have mg:cI [] ((ks.map Sum.inr:List Key).zip vs)=(ks.map Sum.inr:List Key).zip vs:=by
      rw [jg _ [] (by rw [List.map_nil,List.nil_append,km];exact List.Pairwise.map _ (fun a b h z=>h (Sum.inr.inj z)) nd)];rfl
     rw [mg]
     have sg:=aV (o:=HO.dK ((ks.map Sum.inr:List Key).zip vs)) gp'
     refine post (.ref p) _ ρ' (upd G' p (.dK ((ks.map Sum.inr:List Key).zip vs))) ⟨st.pr,st.gg.trans sg,fun a o e=>?_,fun a m=>?_,fun a n=>?_,fun a o e n=>?_⟩ (rep'.fill hp' np' gp' nop') (RVL.of ⟨p,vs,rfl,ae,by rw [List.length_map];exact c.1,r.mono (List.prefix_refl _) sg⟩)
     ·by_cases z:a=p
      ·subst z;exact .inr (.inl hp)
      ·rw [aa z] at e
       rcases st.gn a o e with w | w | w
       ·exact .inl w
       ·rw [aa z] at w;exact .inr (.inl w)
       ·exact .inr (.inr w)
     ·rcases st.rn a m with w | w
      ·exact .inl w
      ·by_cases z:a=p
       ·subst z;exact .inr hp
       ·rw [aa z] at w;exact .inr w
     ·by_cases z:a=p
      ·subst z;rw [ae];exact fun w=>nomatch w
      ·rw [aa z];exact st.th a (by rw [aa z];exact n)
     ·have z:a≠p:=fun z=>by rw [z,hp] at e;cases e
      rw [aa z];exact st.fr a o (by rw [aa z];exact e) n
   ·rw [if_neg c] at post;exact post.elim
end
section
variable {T:Ns} {nm:NK} {N:List Str}
noncomputable def wW (f:∀ e,Option (GE T nm N e)) (x:Str) (j:Nat) (p:Pos) (m:Str) (ap:Pos):(args:List Expr)→(pos:Pos)→Option (GE T nm N (.Call (.Attribute (.Constant (.str x) j p) m ap) args [] pos))
 | [e],pos=>do
   let hm ← isP "join" m
   let hp ← yes (ap.endLine == pos.line)
   let hn ← yes (aP e)
   let a ← f e
   some ⟨.join x a.1,fun F X k br=>by
    obtain rfl:=hm.down
    exact aq (sk (a.2 F X k true) ⟨bn rfl,by rw [al hn.down];rfl,hp.down,by rw [al hn.down];rfl⟩) fun σ H Q h=>pq k.hK h⟩
 | _,_=>none
noncomputable def Be (f:∀ e,Option (GE T nm N e)) (x:Str) (j1:Nat) (p1:Pos) (e:Expr) (p2:Pos) (y:Str) (j2:Nat) (p3 pos:Pos):Option (GE T nm N (.JoinedStr [.Constant (.str x) j1 p1,.FormattedValue e (-1) none p2,.Constant (.str y) j2 p3] pos)):=do
 let hx ← yes (decide (x.length≤1000))
 let hy ← yes (decide (y.length≤1000))
 let a ← f e
 some ⟨.fmt x a.1 y,fun F X k br=>xQ (by simpa using hx.down) (by simpa using hy.down) (a.2 F X k true)⟩
noncomputable def qh (f:∀ e,Option (GE T nm N e)) (pos:Pos):(keys:List (Option Expr))→(vals:List Expr)→Option {q:List Str×E // q.1.length=kU q.2∧isL q.2=true∧keys.all (·.isSome)=true∧keys.length=vals.length∧keys.length=q.1.length∧∀ F X,CxOk T F X nm N→PPs X pos keys vals (vL F q.1 q.2)}
 | [],[]=>some ⟨([],.nil),rfl,rfl,rfl,rfl,rfl,fun F X k=>vd⟩
 | some (.Constant (.str x) j p) :: ks,e :: vs=>do
   let a ← f e
   let q ← qh f pos ks vs
   some ⟨(x :: q.1.1,.cons a.1 q.1.2),by simp [kU,q.2.1],q.2.2.1,by simpa using q.2.2.2.1,by simp [q.2.2.2.2.1],by simp [q.2.2.2.2.2.1],fun F X k=>sA fu (a.2 F X k false) (q.2.2.2.2.2.2 F X k)⟩
 | _,_=>none
noncomputable def zu (f:∀ e,Option (GE T nm N e)) (keys:List (Option Expr)) (vals:List Expr) (pos:Pos):Option (GE T nm N (.Dict keys vals pos)):=do
 let q ← qh f pos keys vals
 let h15 ← yes (decide (q.1.1.length≤15))
 let nd ← yes (decide q.1.1.Nodup)
 let h0 ← no keys.isEmpty
 some ⟨.dicc q.1.1 q.1.2,fun F X k br=>aq (uX (q.2.2.2.2.2.2 F X k) q.2.2.2.1 q.2.2.2.2.1 (by simpa using h0.down) (by rw [q.2.2.2.2.2.1];simpa using h15.down)) fun σ H Q h=>o8 q.2.1 q.2.2.1 (by simpa using h15.down) (by simpa using nd.down) h⟩
end
noncomputable def dG (fn:Bool) (nm:NK) (x:Str):Bool:=nm.lookup x == some .local || (fn && nm.lookup x == some .cell)
structure TgH (fn:Bool) (nm:NK) (N:List Str) (X:Cx):Prop where
 calm:X.calm=true
 hN:X.N=N
 nd:N.Nodup
 sc:X.env.scope.names=nm
 fnx:fn=true→∀ x,X.fn x=true
theorem oG {fn:Bool} {nm:NK} {N:List Str} {X:Cx} (h:TgH fn nm N X) {x:Str} {i:Nat} {pos:Pos} (hi:N[i]? = some x) (hl:dG fn nm x=true):PG X (.Name x pos) (dM i):=by
 have l1:nm.lookup x=some .local∨(fn=true∧nm.lookup x=some .cell):=by
  unfold dG at hl
  simpa using hl
 refine u6 (by rw [h.hN];exact h.nd) (by rw [h.hN];exact hi) ?_ ?_
 ·show X.env.scope.names.lookup x=_∨X.env.scope.names.lookup x=_
  rw [h.sc]
  exact l1.imp id And.right
 ·rw [h.sc]
  exact l1.elim .inr fun q=>.inl (h.fnx q.1 x)
structure zn (fn:Bool) (nm:NK) (N:List Str) (es:List Expr) (t:List Nat):Prop where
 len:∀ env,(assignEach es env).length=t.length
 fst:∀ env,(assignEach es env).findIdx? (·.1)=none
 pg:∀ X,TgH fn nm N X→PGs X es (gS t)
noncomputable def y8 (fn:Bool) (nm:NK) (N:List Str):(es:List Expr)→Option {t:List Nat // zn fn nm N es t}
 | []=>some ⟨[],fun _=>rfl,fun _=>rfl,fun X h=>u7⟩
 | .Name x p :: r=>do
   let i ← ba x N
   let hl ← yes (dG fn nm x)
   let t ← y8 fn nm N r
   some ⟨i.1 :: t.1,fun env=>congrArg (· + 1) (t.2.len env),fun env=>by
    show List.findIdx? _ ((false,assign (.Name x p) env) :: assignEach r env)=none
    rw [List.findIdx?_cons,t.2.fst env];rfl,fun X h=>sv (oG h i.2 hl.down) (t.2.pg X h) rfl⟩
 | _=>none
noncomputable def tgP (fn:Bool) (nm:NK) (N:List Str):(tg:Expr)→Option {q:List Nat×Bool // ∀ X,TgH fn nm N X→PG X tg (gT X.K q.1 q.2)}
 | .Name x p=>do
   let i ← ba x N
   let hl ← yes (dG fn nm x)
   some ⟨([i.1],true),fun X h=>oG h i.2 hl.down⟩
 | .Tuple es k p=>do
   let t ← y8 fn nm N es
   some ⟨(t.1,false),fun X h=>sr h.calm (t.2.pg X h) (t.2.len _) (t.2.fst _)⟩
 | _=>none
noncomputable def eS:Expr→List Str
 | .Name x _=>[x]
 | .Tuple es _ _=>es.filterMap fun e=>match e with | .Name x _=>some x | _=>none
 | _=>[]
noncomputable def fV (nm:NK) (sc:Scope):NK:=sc.names.map fun y=>if (y.2 == .free && nm.lookup y.1 == some .cell)=true then (y.1,.cell) else (y.1,y.2)
noncomputable def ym (nm:NK) (p:Str×Str):Bool:=match nm.lookup p.1 with
 | some .local=>false
 | some .cell=>p.1 == p.2
 | some .free=>p.1 == p.2
 | _=>true
noncomputable def ndB:List Str→Bool
 | []=>true
 | x :: r=>!r.contains x && ndB r
theorem wn:∀ {l:List Str},ndB l=true→l.Nodup
 | [],_=>List.nodup_nil
 | x :: r,h=>by
   have h':r.contains x=false∧ndB r=true:=by simpa [ndB] using h
   refine List.nodup_cons.mpr ⟨fun m=>?_,wn h'.2⟩
   have:r.contains x=true:=by simpa using m
   rw [h'.1] at this
   cases this
noncomputable def kK (own:List Str) (N:List Str):List Str:=own ++ N.map fun y=>if own.contains y then ⟨y.cps.push (1200000+N.length)⟩ else y
noncomputable def lcB (nm:NK) (N N':List Str) (sc:Scope) (k:Nat):Bool:=
 (sc.names.all fun y=>y.2 != .cell) && sc.kind == .function && (sc.names.all fun y=>y.2 != .local || sc.names.lookup y.1 == some .local) &&
 (sc.names.all fun y=>y.2 != .free || (nm.lookup y.1 == some .cell || nm.lookup y.1 == some .free)) && N'.length == k+N.length && ((N'.drop k).zip N).all (ym (fV nm sc)) && ndB N'
section
variable {T:Ns} {nm:NK} {N N':List Str} {F:Fx} {X:Cx} {sc:Scope}
theorem ig (k:CxOk T F X nm N):(relabel sc X.env).names=fV nm sc:=by
 unfold relabel fV
 dsimp only
 congr 1
 funext y
 rw [k.kd,show X.env.kindOf y.1=nm.lookup y.1 by rw [← k.sc];rfl]
 simp
theorem z9 (k:CxOk T F X nm N) {n:Nat} (h:lcB nm N N' sc n=true):Lc X sc n N'∧N'.Nodup:=by
 unfold lcB at h
 simp only [Bool.and_eq_true] at h
 obtain ⟨⟨⟨⟨⟨⟨h1,h2⟩,h3⟩,h4⟩,h5⟩,h6⟩,h7⟩:=h
 have kk:∀ x,X.env.kindOf x=nm.lookup x:=fun x=>by rw [← k.sc];rfl
 refine ⟨z8 h1 (by simpa using h2) h3 (by simp only [kk];exact h4) (by rw [k.hN];simpa using h5) ?_,wn h7⟩
 rw [k.hN]
 have e:jl sc X.env=ym (fV nm sc):=by
  funext p
  unfold jl ym
  rw [ig k]
  all_goals rfl
 rw [e]
 exact h6
theorem CxOk.inner (k:CxOk T F X nm N) {n:Nat} (L:Lc X sc n N') (nd:N'.Nodup) {C:Addr} {s:Shared} {H:Hp} {fp:List Addr}:CxOk T F.calm (cxC X N' sc C s H fp) (fV nm sc) N' where
 hK:=k.hK
 hN:=rfl
 nd:=nd
 sc:=ig k
 kd:=L.kind
 calm:=k.calm
 room:=k.room
 pas:=fun _ _ _ _ _ _ _ ⟨_,_,_,_,_,_,_,_,_,_,_,_,_,_,_,z⟩=>z
 fns:=fun j x h=>by
  obtain ⟨n,f,h1,h2,h3⟩:=k.fns j x h
  exact ⟨n,f,⟨h1.ex⟩,h2,h3⟩
 gls:=k.gls
 tbs:=k.tbs
 blt:=k.blt
 cls:=fun c cl h=>by
  obtain ⟨i,h1⟩:=k.cls c cl h
  exact ⟨i,h1.ci,h1.cls,h1.na,h1.cl,h1.wh,h1.nm,h1.nd,h1.xc⟩
 mts:=fun q h=>by
  obtain ⟨n,f,i,h1,h2,h3,h4,h5⟩:=k.mts q h
  exact ⟨n,f,i,⟨h1.ex⟩,h2,h3,⟨h4.ci,h4.cls,h4.na⟩,h5⟩
 nws:=fun j x h hz=>by
  obtain ⟨n,f,i,cl,h1,h2⟩:=k.nws j x h hz
  exact ⟨n,f,i,cl,⟨h1.ex⟩,h2⟩
 nds:=fun j x h hz=>k.nds j x h hz
 hxs:=fun j x h hz=>k.hxs j x h hz
noncomputable def Bg (g:∀ e,Option (GT T nm N e)):(ifs:List Expr)→Option {c:E // ∀ F X,CxOk T F X nm N→PTs X ifs (LT F c)}
 | []=>some ⟨.c (.bl true),fun F X k pins s σ H Q I h=>vj pins s σ H Q I (by
  obtain ⟨ρ,G,s,rep,post⟩:=h
  exact aj.fin post rep rfl)⟩
 | [c]=>(g c).map fun x=>⟨x.1,fun F X k=>vk (x.2 F X k)⟩
 | _=>none
structure LcP (F:Fx) (X:Cx) (N':List Str) (ee tg iter:Expr) (ifs:List Expr) (sc:Scope) (t:List Nat) (one:Bool) (it elt cond:E):Prop where
 t0:∀ i∈t,i<t.length
 L:Lc X sc t.length N'
 hi:PI X tg iter (LI F it)
 hg:∀ C s H fp,PG (cxC X N' sc C s H fp) tg (gT X.K t one)
 ht:∀ C s H fp,PTs (cxC X N' sc C s H fp) ifs (LT F.calm cond)
 he:∀ C s H fp,PE (cxC X N' sc C s H fp) ee (LE F.calm false elt)
 hs:∀ x,foldedSetIterable iter X.env x=pure x
noncomputable def zw (f:aK T) (g:eu T) (nm:NK) (N:List Str) (ee tg iter:Expr) (ifs:List Expr) (sc:Scope):Option {q:(List Nat×Bool)×E×E×E // ∀ F X,CxOk T F X nm N→LcP F X (kK (eS tg) N) ee tg iter ifs sc q.1.1 q.1.2 q.2.1 q.2.2.1 q.2.2.2}:=do
 let it ← wa (f nm N) tg iter
 let q ← tgP false (fV nm sc) (kK (eS tg) N) tg
 let h0 ← yes (q.1.1.all fun i=>decide (i<q.1.1.length))
 let hl ← yes (lcB nm N (kK (eS tg) N) sc q.1.1.length)
 let c ← Bg (g (fV nm sc) (kK (eS tg) N)) ifs
 let e ← f (fV nm sc) (kK (eS tg) N) ee
 let hn ← yes (aP iter)
 some ⟨(q.1,it.1,e.1,c.1),fun F X k=>by
  obtain ⟨L,nd⟩:=z9 k hl.down
  have h0':∀ i∈q.1.1,i<q.1.1.length:=fun i hi=>by simpa using List.all_eq_true.mp h0.down i hi
  exact ⟨h0',L,it.2 F X k,fun C s H fp=>q.2 (cxC X _ sc C s H fp) ⟨k.calm,rfl,nd,ig k,fun z=>nomatch z⟩,fun C s H fp=>c.2 _ _ (k.inner L nd),fun C s H fp=>e.2 _ _ (k.inner L nd) false,i6 hn.down⟩⟩
noncomputable def cLC (f:aK T) (g:eu T) (nm:NK) (N:List Str) (ee tg iter:Expr) (ifs:List Expr) (sc:Scope) (pos:Pos):Option (GE T nm N (.ListComp ee [⟨tg,iter,ifs,0⟩] sc pos)):=
 (zw f g nm N ee tg iter ifs sc).map fun q=>⟨.lc q.1.1.1 q.1.1.2 q.1.2.1 q.1.2.2.1 q.1.2.2.2,fun F X k br=>have p:=q.2 F X k;Af k.hK p.t0 p.L k.calm p.hi p.hg p.ht p.he p.hs⟩
end
theorem mT {e:Expr} {env:Env} {whole:Sem Value} (h:(match e with | .Compare ..=>false | .BoolOp ..=>false | .UnaryOp ..=>false | .IfExp ..=>false | .NamedExpr ..=>false | _=>true)=true):isTrue e env whole=(do let v ← whole;standAt e.pos;holding [v] (truthy v)):=by
 cases e <;> first | rfl | cases h
section
variable {T:Ns}
noncomputable def zt (f:aK T) (nm:NK) (N:List Str) (a:Expr) (op:CmpOp) (b:Expr) (pos:Pos):Option {c:E // ∀ F X,CxOk T F X nm N→(∀ br,PE X (.Compare a [op] [b] pos) (LE F br c))∧PT X (.Compare a [op] [b] pos) (LT F c)}:=do
 let o ← w6 op
 let hb ← yes (aP b)
 let x ← f nm N a
 let y ← f nm N b
 some ⟨.op o.1 x.1 y.1,fun F X k=>⟨fun br=>xP (o.2 F.W X k.hK k.room) (x.2 F X k true) (y.2 F X k true) (g0 hb.down),ye (o.2 F.W X k.hK k.room) (x.2 F X k true) (y.2 F X k true) (g0 hb.down)⟩⟩
noncomputable def wY (f:aK T) (nm:NK) (N:List Str) (a:Expr) (x:Str) (p pos:Pos):Option {c:E // ∀ F X,CxOk T F X nm N→(∀ br,PE X (.Compare a [.In] [.Name x p] pos) (LE F br c))∧PT X (.Compare a [.In] [.Name x p] pos) (LT F c)}:=do
 let hd ← no (x == ("__debug__":Str))
 let hg ← yes (bD nm x)
 let j ← ba x T.tb
 let y ← f nm N a
 some ⟨.tabin j.1 y.1,fun F X k=>by
  obtain ⟨t,ad,h1,h2,h3⟩:=k.tbs j.1 x j.2
  exact ⟨fun br=>rq h1 (bG k.sc hg.down) h2 h3 (y.2 F X k true) hd.down,rG h1 (bG k.sc hg.down) h2 h3 (y.2 F X k true) hd.down⟩⟩
noncomputable def v6 (f:aK T) (nm:NK) (N:List Str):(a:Expr)→(ops:List CmpOp)→(bs:List Expr)→(pos:Pos)→Option {c:E // ∀ F X,CxOk T F X nm N→(∀ br,PE X (.Compare a ops bs pos) (LE F br c))∧PT X (.Compare a ops bs pos) (LT F c)}
 | a,[.Is],[.Constant .none j p],pos=>(f nm N a).map fun x=>⟨.isN x.1,fun F X k=>⟨fun br=>xR (x.2 F X k true),yf (x.2 F X k true)⟩⟩
 | a,[.IsNot],[.Constant .none j p],pos=>(f nm N a).map fun x=>⟨.isNN x.1,fun F X k=>⟨fun br=>ut (x.2 F X k true),uG (x.2 F X k true)⟩⟩
 | a,[.In],[.Name x p],pos=>(wY f nm N a x p pos).orElse fun _=>zt f nm N a .In (.Name x p) pos
 | a,[op],[b],pos=>zt f nm N a op b pos
 | a,[op,op'],[b,c],pos=>do
   let o ← w6 op
   let o' ← w6 op'
   let h ← no (lastMarks [op,op'] [b,c])
   let x ← f nm N a
   let y ← f nm N b
   let z ← f nm N c
   some ⟨.chain o.1 o'.1 x.1 y.1 z.1,fun F X k=>⟨fun br=>aq (rZ (o.2 F.W X k.hK k.room) (o'.2 F.W X k.hK k.room) (x.2 F X k true) (y.2 F X k true) (z.2 F X k true) h.down) fun σ H Q q=>gE q,
    cK (sD (o.2 F.W X k.hK k.room) (o'.2 F.W X k.hK k.room) (x.2 F X k true) (y.2 F X k true) (z.2 F X k true) h.down) fun σ H Q q=>gE (br:=true) (xF q)⟩⟩
 | _,_,_,_=>none
noncomputable def Bq (f:aK T) (nm:NK) (N:List Str) (x:Str) (p:Pos) (b:Expr) (pos:Pos):Option (GE T nm N (.Subscript (.Name x p) b pos)):=do
 let hd ← no (x == ("__debug__":Str))
 let hg ← yes (bD nm x)
 let j ← ba x T.tb
 let hb ← yes (aP b)
 let y ← f nm N b
 some ⟨.tab j.1 y.1,fun F X k br=>by
  obtain ⟨t,ad,h1,h2,h3⟩:=k.tbs j.1 x j.2
  exact xV k.hK h1 (bG k.sc hg.down) h2 h3 (y.2 F X k true) (ia hb.down) hd.down⟩
noncomputable def cIx (f:aK T) (nm:NK) (N:List Str) (a b:Expr) (pos:Pos):Option (GE T nm N (.Subscript a b pos)):=do
 let hb ← yes (aP b)
 let x ← f nm N a
 let y ← f nm N b
 some ⟨.ix x.1 y.1,fun F X k br=>Ae k.hK k.room (x.2 F X k true) (y.2 F X k true) (ia hb.down)⟩
theorem xf {F:Fx} {X:Cx} {nm:NK} {N:List Str} {a:Expr} {x:Str} {pos:Pos} {y:E} {i:Nat} {br:Bool} (e:T.an i=x) (k:CxOk T F X nm N) (hy:PE X a (LE F true y)) (hs:bd a=true):PE X (.Attribute a x pos) (LE F br (.fld y i)):=by
 subst e
 exact rm k.cls hy (bn hs)
noncomputable def lT {nm:NK} {N:List Str} (f:∀ e,Option (GE T nm N e)) (x:Str) (p:Pos) (e:Expr) (er:List Expr) (pos:Pos):Option (GE T nm N (.Call (.Name x p) (e :: er) [] pos)):=((wT f x p e er pos).orElse fun _=>zy f x p (e :: er) pos).orElse fun _=>zz f x p (e :: er) pos
noncomputable def cUn (f:aK T) (nm:NK) (N:List Str) (a:Expr) (pos:Pos):(op:UnaryOp)→Option (GE T nm N (.UnaryOp op a pos))
 | .Not=>(f nm N a).map fun x=>⟨.not x.1,fun F X k br=>xU (x.2 F X k true)⟩
 | _=>none
noncomputable def Bm (f:aK T) (nm:NK) (N:List Str) (a:Expr) (lo:Option Expr) (p2 pos:Pos):(hi st:Option Expr)→Option (GE T nm N (.Subscript a (.Slice lo hi st p2) pos))
 | hi,none=>do
   let x ← f nm N a
   let l ← zA (f nm N) lo
   let h ← zA (f nm N) hi
   some ⟨.sl x.1 l.1 h.1,fun F X k br=>Ai k.hK (x.2 F X k true) (l.2 F X k) (h.2 F X k)⟩
 | _,_=>none
noncomputable def cTa (f:aK T) (nm:NK) (N:List Str) (b:Expr) (pos:Pos):(a:Expr)→Option (GE T nm N (.Subscript a b pos))
 | .Name x p=>Bq f nm N x p b pos
 | _=>none
noncomputable def Bp (f:aK T) (nm:NK) (N:List Str) (a:Expr) (pos:Pos):(b:Expr)→Option (GE T nm N (.Subscript a b pos))
 | .Slice lo hi st p2=>Bm f nm N a lo p2 pos hi st
 | b=>(cTa f nm N b pos a).orElse fun _=>cIx f nm N a b pos
noncomputable def cRv (f:aK T) (nm:NK) (N:List Str) (x:Str) (p:Pos) (pos:Pos):(a:Expr)→Option (GE T nm N (.Call (.Name x p) [a] [] pos))
 | _=>none
noncomputable def cIz (f:aK T) (nm:NK) (N:List Str) (x:Str) (p:Pos) (a:Expr) (pos:Pos):(b:Expr)→Option (GE T nm N (.Call (.Name x p) [a,b] [] pos))
 | .Name y q=>cIs (f nm N) x p a y q pos
 | _=>none
noncomputable def Bc (f:aK T) (nm:NK) (N:List Str) (x:Str) (p:Pos) (pos:Pos):(args:List Expr)→Option (GE T nm N (.Call (.Name x p) args [] pos))
 | []=>zy (f nm N) x p [] pos
 | [a]=>(cRv f nm N x p pos a).orElse fun _=>lT (f nm N) x p a [] pos
 | [a,b]=>(cIz f nm N x p a pos b).orElse fun _=>lT (f nm N) x p a [b] pos
 | e :: er=>lT (f nm N) x p e er pos
noncomputable def cKw (f:aK T) (nm:NK) (N:List Str) (x:Str) (p:Pos) (pos:Pos):(args:List Expr)→(k:Keyword)→Option (GE T nm N (.Call (.Name x p) args [k] pos))
 | _,_=>none
noncomputable def cSJ (f:aK T) (nm:NK) (N:List Str) (m:Str) (ap:Pos) (args:List Expr) (pos:Pos):(o:Expr)→Option (GE T nm N (.Call (.Attribute o m ap) args [] pos))
 | .Constant (.str x) j p=>wW (f nm N) x j p m ap args pos
 | _=>none
noncomputable def Bb (f:aK T) (nm:NK) (N:List Str) (o:Expr) (m:Str) (ap:Pos) (args:List Expr) (pos:Pos):Option (GE T nm N (.Call (.Attribute o m ap) args [] pos)):=
 (((cSJ f nm N m ap args pos o).orElse fun _=>zH (f nm N) m ap o args pos).orElse fun _=>Bf (f nm N) o m ap args pos).orElse fun _=>Bj (f nm N) o m ap args pos
noncomputable def cCl (f:aK T) (nm:NK) (N:List Str) (pos:Pos) (args:List Expr):(fn:Expr)→(kw:List Keyword)→Option (GE T nm N (.Call fn args kw pos))
 | .Name x p,[]=>Bc f nm N x p pos args
 | .Name x p,[k]=>cKw f nm N x p pos args k
 | .Attribute o m ap,[]=>Bb f nm N o m ap args pos
 | _,_=>none
noncomputable def cF2 (f:aK T) (nm:NK) (N:List Str) (x:Str) (j1:Nat) (p1 pos:Pos):(b c:Expr)→Option (GE T nm N (.JoinedStr [.Constant (.str x) j1 p1,b,c] pos))
 | .FormattedValue e (.negSucc 0) none p2,.Constant (.str y) j2 p3=>Be (f nm N) x j1 p1 e p2 y j2 p3 pos
 | _,_=>none
noncomputable def cJs (f:aK T) (nm:NK) (N:List Str) (pos:Pos):(es:List Expr)→Option (GE T nm N (.JoinedStr es pos))
 | [.Constant (.str x) j1 p1,b,c]=>cF2 f nm N x j1 p1 pos b c
 | _=>none
noncomputable def cDi (f:aK T) (nm:NK) (N:List Str) (pos:Pos):(ks:List (Option Expr))→(vs:List Expr)→Option (GE T nm N (.Dict ks vs pos))
 | [],[]=>some ⟨.dic .nil,fun F X k br=>ur⟩
 | keys,vals=>zu (f nm N) keys vals pos
noncomputable def Bh (f:aK T) (g:eu T) (nm:NK) (N:List Str) (ee:Expr) (sc:Scope) (pos:Pos):(gs:List Comprehension)→Option (GE T nm N (.ListComp ee gs sc pos))
 | [⟨tg,iter,ifs,0⟩]=>cLC f g nm N ee tg iter ifs sc pos
 | _=>none
noncomputable def AR (f:aK T) (g:eu T) (nm:NK) (N:List Str):(e:Expr)→Option (GE T nm N e)
 | .Name x pos=>zx T nm N x pos
 | .Constant c j pos=>wU T nm N c j pos
 | .BinOp a op b pos=>do
   let o ← opP op
   let x ← f nm N a
   let y ← f nm N b
   some ⟨.op o.1 x.1 y.1,fun F X k br=>Ag (o.2 F.W X k.hK) (x.2 F X k true) (y.2 F X k true)⟩
 | .UnaryOp op a pos=>cUn f nm N a pos op
 | .BoolOp .And es pos=>v4 (f nm N) pos es
 | .BoolOp .Or es pos=>zC (f nm N) pos es
 | .IfExp c a b pos=>do
   let t ← g nm N c
   let x ← f nm N a
   let y ← f nm N b
   some ⟨.ite t.1 x.1 y.1,fun F X k br=>xS (t.2 F X k) (x.2 F X k false) (y.2 F X k false)⟩
 | .Compare a ops bs pos=>(v6 f nm N a ops bs pos).map fun x=>⟨x.1,fun F X k=>(x.2 F X k).1⟩
 | .Tuple es n pos=>(bV (f nm N) es).map fun x=>⟨.tup x.1,fun F X k br=>xW (x.2 F X k false)⟩
 | .List es pos=>(bV (f nm N) es).map fun x=>⟨.lst x.1,fun F X k br=>xT (x.2 F X k false)⟩
 | .Subscript a b pos=>Bp f nm N a pos b
 | .Attribute a x pos=>do
   let i ← ba x T.at_
   let hs ← yes (bd a)
   let y ← f nm N a
   some ⟨.fld y.1 i.1,fun F X k br=>xf (by unfold Ns.an;rw [List.getD_eq_getElem?_getD,i.2];rfl) k (y.2 F X k true) hs.down⟩
 | .Call fn args kw pos=>cCl f nm N pos args fn kw
 | .JoinedStr es pos=>cJs f nm N pos es
 | .Dict keys vals pos=>cDi f nm N pos keys vals
 | .ListComp ee gs sc pos=>Bh f g nm N ee sc pos gs
 | _=>none
noncomputable def AS (f:aK T) (g:eu T) (nm:NK) (N:List Str):(e:Expr)→Option (GT T nm N e)
 | .UnaryOp .Not a pos=>(g nm N a).map fun x=>⟨.tnot x.1,fun F X k=>yg (x.2 F X k)⟩
 | .BoolOp .And es pos=>(vZ (g nm N) pos es).map fun x=>⟨x.1,fun F X k=>wt (x.2 F X k)⟩
 | .BoolOp .Or es pos=>(zB (g nm N) pos es).map fun x=>⟨x.1,fun F X k=>wt (x.2 F X k)⟩
 | .Compare a ops bs pos=>(v6 f nm N a ops bs pos).map fun x=>⟨x.1,fun F X k=>(x.2 F X k).2⟩
 | e=>do
   let h ← yes (match e with | .Compare ..=>false | .BoolOp ..=>false | .UnaryOp ..=>false | .IfExp ..=>false | .NamedExpr ..=>false | _=>true)
   let x ← f nm N e
   some ⟨.tv x.1,fun F X k=>BG k.hK (x.2 F X k true) fun w=>mT h.down⟩
noncomputable def jA (T:Ns):Nat→aK T×eu T
 | 0=>(fun _ _ _=>none,fun _ _ _=>none)
 | k+1=>(fun nm N e=>some ((AR (jA T k).1 (jA T k).2 nm N e).getD ⟨.nil,fun F X _ br=>xM⟩),fun nm N e=>some ((AS (jA T k).1 (jA T k).2 nm N e).getD ⟨.nil,fun F X _=>yd⟩))
end
structure CxS (T:Ns) (F:Fx) (X:Cx) (nm:NK) (N:List Str):Prop extends CxOk T F X nm N where
 own:PassesOwn (model X.prog X.w) X.A X.env X.xe
 fnx:∀ x,X.fn x=true
 stk:X.stack=X.env :: X.outer
 frm:X.env.frame=some X.env.locals
 exn:X.ex = []
 rs:∀ (j:Nat) (x:Str),T.ex[j]? = some x→x≠""→∀ (e:Expr) (er:List Expr) (es:E) (np cp pos:Pos),(∀ y∈e :: er,aP y=true)→bD nm x=true→(x == ("__debug__":Str))=false→PA X (e :: er) (LA F false es)→PS X (.Raise (some (.Call (.Name x np) (e :: er) [] cp)) none pos) (LS F (.rais j es))
noncomputable abbrev GS (T:Ns) (nm:NK) (N:List Str) (st:Stmt):={c:S // ∀ F X,CxS T F X nm N→PS X st (LS F c)}
noncomputable abbrev GSs (T:Ns) (nm:NK) (N:List Str) (st:List Stmt):={c:S // ∀ F X,CxS T F X nm N→PSs X st (LS F c)}
noncomputable def fq:Expr→Bool
 | .ListComp ..=>false
 | .SetComp ..=>false
 | .DictComp ..=>false
 | _=>true
theorem bI {e:Expr} {t:Option Expr} {l:Nat} {env:Env} (h:fq e=true):swapsWith e t l env=pure false:=by
 cases e <;> first | rfl | cases h
theorem rN {e:Expr} {es:List Expr} {k:Nat} {p:Pos} {l:Nat} {env:Env}:swapsWithSole [.Tuple es k p] e l env=pure false:=by
 cases e <;> rfl
noncomputable def wo:Expr→Bool
 | .Tuple ..=>false
 | _=>true
theorem py {e:Expr} {es:List Expr} {k:Nat} {p:Pos} {env:Env} (h:wo e=true):swappedStores [.Tuple es k p] e env=pure none:=by
 cases e <;> first | rfl | cases h
section
variable {F:Fx} {X:Cx}
theorem nX {st:Stmt} (h:PS X st oF):PS X st (LS F .skip):=aN h fun D σ H ⟨ρ,G,s,rep,post⟩=>post σ H ρ G (.of .refl fun a z=>.inl z) rep
theorem uD {pos:Pos}:PS X (.Return none pos) (LS F (.ret (.c .non))):=aN vf fun D σ H ⟨ρ,G,s,rep,post⟩=>post .non σ H ρ G (.of .refl fun a z=>.inl z) rep rfl
theorem rF {i:Nat} {x:Str} {pos' spos:Pos} (hK:F.W.K=X.K) (hc:X.calm=true) (hN:X.N.Nodup) (hi:X.N[i]? = some x) (hx:Loc X.env.scope x) (hf:X.fn x=true∨X.env.scope.names.lookup x=some .local) {N':List Str} {ee tg iter:Expr} {ifs:List Expr} {sc:Scope} {t:List Nat} {one:Bool} {it elt cond:E} {pos:Pos} (p:LcP F X N' ee tg iter ifs sc t one it elt cond) :
 PS X (.Assign [.Name x pos'] (.ListComp ee [⟨tg,iter,ifs,0⟩] sc pos) spos) (LS F (.set i (.lc t one it elt cond))):=by
 intro pins s σ H D I h
 have g:pP (LEO F (.lc t one it elt cond)) (dM i) D σ H:=jp (bW F) rfl (by rw [I.len];exact (List.getElem?_eq_some_iff.mp hi).1) h
 have g':pP (tLC t.length (LI F it) (gT X.K t one) (LT F.calm cond) (LE F.calm false elt)) (dM i) D σ H:=nR (R':=fun _=>RO F.W H) hK p.t0 (@ul F σ H _) g
 obtain ⟨b,sw⟩:∃ b,swapsWith (.ListComp ee [⟨tg,iter,ifs,0⟩] sc pos) (some (.Name x pos')) spos.line X.env=pure b:=⟨_,rfl⟩
 cases b with
 | true=>exact AC p.L hc hN hi hx p.hi p.hg p.ht p.he sw hf p.hs pins s σ H D I g'
 | false=>exact jZ hN hi hx (wq p.L hc p.hi p.hg p.ht p.he p.hs) sw hf pins s σ H D I g'
theorem uF (hK:F.W.K=X.K) {tg e:Expr} {t:List Nat} {a:E} {pos:Pos} (ha:PE X e (LE F false a)) (hg:PG X tg (gT X.K t false)) (h1:swapsWithSole [tg] e pos.line X.env=pure false) (h2:swappedStores [tg] e X.env=pure none) (h3:(assignEach [tg] X.env).map (·.2) = [assign tg X.env]):PS X (.Assign [tg] e pos) (LS F (.setT t a)):=aN (sC ha hg h1 h2 h3) fun D σ H ⟨ρ,G,s,rep,post⟩=>by
 refine ⟨ρ,G,s,rep,(aj.gos (m:=F.ev false a s) (R:=RVL F.W false (bo σ a s.env)) (f:=fun d s=>(match aD t false d s.env with | some env=>.nx ⟨env,s.ow.filter fun i=>!t.contains i,s.st⟩ | none=>.bad)) az post ((bW F a false s).1)).cps fun y H1 ρ1 G1 s1 d st1 rep1 le1 r1 post1=>?_⟩
 cases q:aD t false d s1.env with
 | none=>rw [q] at post1;exact post1.elim
 | some env=>
   rw [q] at post1
   refine qO hK rep1 r1 q fun σ' ht rep'=>post1 σ' H1 ρ1 G1 (.of .refl fun a z=>?_) rep'
   obtain ⟨j,m,e⟩:=z
   obtain ⟨m1,m2⟩:=List.mem_filter.mp m
   have nt:j ∉ t:=by simpa using m2
   refine .inl ⟨j,m1,?_⟩
   unfold adr at e ⊢
   rw [← ht.2 j nt];exact e
end
section
variable {T:Ns} {nm:NK} {N:List Str}
theorem CxS.tg {F:Fx} {X:Cx} (k:CxS T F X nm N):TgH true nm N X:=⟨k.calm,k.hN,k.nd,k.sc,fun _=>k.fnx⟩
theorem CxS.loc {F:Fx} {X:Cx} (k:CxS T F X nm N) {x:Str} (h:dG true nm x=true):Loc X.env.scope x∧(X.fn x=true∨X.env.scope.names.lookup x=some .local):=by
 have l1:nm.lookup x=some .local∨nm.lookup x=some .cell:=by
  unfold dG at h
  simpa using h
 refine ⟨?_,.inl (k.fnx x)⟩
 show X.env.scope.names.lookup x=_∨X.env.scope.names.lookup x=_
 rw [k.sc]
 exact l1
noncomputable def wX (f:aK T) (g:eu T) (nm:NK) (N:List Str) (x:Str) (p:Pos) (pos:Pos):(e:Expr)→Option (GS T nm N (.Assign [.Name x p] e pos))
 | .ListComp ee [⟨tg,iter,ifs,0⟩] sc pos2=>do
   let i ← ba x N
   let hl ← yes (dG true nm x)
   let q ← zw f g nm N ee tg iter ifs sc
   some ⟨.set i.1 (.lc q.1.1.1 q.1.1.2 q.1.2.1 q.1.2.2.1 q.1.2.2.2),fun F X k=>rF k.hK k.calm (by rw [k.hN];exact k.nd) (by rw [k.hN];exact i.2) (k.loc hl.down).1 (k.loc hl.down).2 (q.2 F X k.toCxOk)⟩
 | .List es pos2=>do
   let i ← ba x N
   let hl ← yes (dG true nm x)
   let a ← bV (f nm N) es
   some ⟨.set i.1 (.lst a.1),fun F X k=>gj (bW F) rfl (by rw [k.hN];exact k.nd) (by rw [k.hN];exact i.2) (k.loc hl.down).1 (x6 (a.2 F X k.toCxOk false)) (bI rfl) (k.loc hl.down).2⟩
 | e=>do
   let i ← ba x N
   let hl ← yes (dG true nm x)
   let hn ← yes (fq e)
   let a ← f nm N e
   let hf ← no (fresh a.1)
   some ⟨.set i.1 a.1,fun F X k=>mx (bW F) hf.down (by rw [k.hN];exact k.nd) (by rw [k.hN];exact i.2) (k.loc hl.down).1 (a.2 F X k.toCxOk false) (bI hn.down) (k.loc hl.down).2⟩
noncomputable def Ba (f:aK T) (nm:NK) (N:List Str) (x:Str) (p:Pos) (m:Str) (ap:Pos) (e:Expr) (cp pos:Pos):Option (GS T nm N (.Expr (.Call (.Attribute (.Name x p) m ap) [e] [] cp) pos)):=do
 let hm ← isP "append" m
 let i ← ba x N
 let hl ← yes (fQ nm x)
 let hd ← no (x == ("__debug__":Str))
 let hc ← no (x == ("__classdict__":Str))
 let he ← yes (aP e)
 let hp ← yes (ap.endLine == cp.line)
 let a ← f nm N e
 some ⟨.app i.1 a.1,fun F X k=>by
  obtain rfl:=hm.down
  exact x8 (by rw [k.hN];exact i.2) (cQ k.sc hl.down) hd.down hc.down (a.2 F X k.toCxOk false) (al he.down) hp.down (by rw [al he.down];rfl)⟩
noncomputable def v7 (f:aK T) (nm:NK) (N:List Str) (e:Expr) (pos:Pos):Option (GS T nm N (.Expr e pos)):=do
 let hn ← yes (fq e)
 let a ← f nm N e
 some ⟨.drop a.1,fun F X k=>nW (bW F) (a.2 F X k.toCxOk false) (bI hn.down)⟩
end
noncomputable def vq:tM:=fun o i v H Q=>wu o i v H Q∨∃ a H4,o = .ref a∧zl H a i v H4∧Q H4
theorem vC {X:Cx} (hr:Room 0 X.A):wN X vq:=fun pins s σ H o i v ov iv u Q I r1 r2 r3 h=>by
 rcases h with h | ⟨a,H4,rfl,h,q⟩
 ·exact sO pins s σ H o i v ov iv u Q I r1 r2 r3 h
 ·obtain rfl:ov = .ref a:=r1
  exact o7 (by have:=hr.un;omega) I h r2 r3 fun s' I'=>⟨H4,I',q⟩
section
variable {W:Wd} {ρ:List Addr} {G H:Hp}
theorem oq:∀ {ks:List Key} {ds:List D} {vs:List V} {k:Key} {d:D} {v:V},ks.length=ds.length→RDs W ρ G ds vs→RD W ρ G d v→∃ us,RDs W ρ G (lw ks ds k d) us∧(aE ks vs).map (fun kv=>if kv.1=k then (kv.1,v) else kv)=aE ks us
 | [],[],vs,k,d,v,_,h,_=>⟨vs,h,rfl⟩
 | [],_ :: _,_,_,_,_,l,_,_=>by cases l
 | _ :: _,[],_,_,_,_,l,_,_=>by cases l
 | q :: ks,e :: ds,vs,k,d,v,l,⟨u,r,ev,h1,h2⟩,rd=>by
   subst ev
   obtain ⟨us,h3,h4⟩:=oq (k:=k) (Nat.succ.inj l) h2 rd
   by_cases c:q=k
   ·refine ⟨v :: us,⟨v,us,rfl,?_,h3⟩,?_⟩
    ·rw [if_pos c];exact rd
    ·show (if q=k then (q,v) else (q,u)) :: (aE ks r).map _=(q,v) :: aE ks us
     rw [if_pos c,h4]
   ·refine ⟨u :: us,⟨u,us,rfl,?_,h3⟩,?_⟩
    ·rw [if_neg c];exact h1
    ·show (if q=k then (q,v) else (q,u)) :: (aE ks r).map _=(q,u) :: aE ks us
     rw [if_neg c,h4]
theorem oz:∀ {ks:List Key} {ds:List D} {k:Key} {d:D},(lw ks ds k d).length=ds.length
 | [],_,_,_=>by unfold lw;rfl
 | _ :: _,[],_,_=>by unfold lw;rfl
 | _ :: ks,_ :: ds,k,d=>by show (lw ks ds k d).length+1=ds.length+1;rw [oz]
theorem iP:∀ {ks:List Key} {vs:List V} {k:Key},ks.length=vs.length→((aE ks vs).any fun kv=>decide (kv.1=k))=ks.any fun q=>decide (q=k)
 | [],_,_,_=>rfl
 | _ :: _,[],_,l=>by cases l
 | q :: ks,v :: vs,k,l=>by
   show (decide (q=k) || (aE ks vs).any _)=(decide (q=k) || ks.any _)
   rw [iP (Nat.succ.inj l)]
theorem oJ:∀ {ks:List Key} {vs:List V} {k:Key} {v:V},ks.length=vs.length→aE ks vs ++ [(k,v)]=aE (ks ++ [k]) (vs ++ [v])
 | [],[],_,_,_=>rfl
 | [],_ :: _,_,_,l=>by cases l
 | _ :: _,[],_,_,l=>by cases l
 | q :: ks,u :: vs,k,v,l=>by
   show (q,u) :: (aE ks vs ++ [(k,v)])=(q,u) :: aE (ks ++ [k]) (vs ++ [v])
   rw [oJ (Nat.succ.inj l)]
theorem pG {ks:List Key} {ds:List D} {vs:List V} {k:Key} {d:D} {v:V} (l:ks.length=ds.length) (r:RDs W ρ G ds vs) (rd:RD W ρ G d v):∃ us,cL (aE ks vs) k v=aE (bz ks ds k d).1 us∧(bz ks ds k d).1.length=(bz ks ds k d).2.length∧RDs W ρ G (bz ks ds k d).2 us:=by
 have lv:ks.length=vs.length:=l.trans r.len
 unfold cL bz
 rw [iP lv]
 split
 ·obtain ⟨us,h1,h2⟩:=oq (k:=k) l r rd
  exact ⟨us,h2,by show ks.length=(lw ks ds k d).length;rw [oz,l],h1⟩
 ·exact ⟨vs ++ [v],oJ lv,by simp [l],r.app (.cons rd .nil)⟩
theorem cj {d:D} {k:Key} {v:V} (h:RB W ρ G H d v) (e:aM d=some k):v=kV k:=by
 cases d with
 | int i=>
   cases e
   rcases h with h | ⟨_,_,_,h⟩
   ·exact h
   ·exact h.elim
 | str i=>
   cases e
   rcases h with h | ⟨_,_,_,h⟩
   ·exact h
   ·exact h.elim
 | _=>cases e
theorem pC {ks:List Key} {vs:List V}:(aE ks vs).length≤ks.length:=by unfold aE;rw [List.length_zip];omega
theorem ie {a:Addr} {x k d y:D} {kv v:V} {Q:Hp→Prop} (o:OwR W ρ G H a x) (rk:RB W ρ G H k kv) (rd:RD W ρ G d v) (e:lq x k d=some y) (q:∀ ho,OwR W ρ G (upd H a ho) a y→Q (upd H a ho)):vq (.ref a) kv v H Q:=by
 cases x with
 | lst l=>
   obtain ⟨vs,h1,h2⟩:=o
   cases k with
   | int i=>
     have ek:kv = .int i:=cj rk rfl
     subst ek
     have e:(lC l i d).map D.lst=some y:=e
     obtain ⟨l',e1,rfl⟩:=Option.map_eq_some_iff.mp e
     unfold lC at e1
     obtain ⟨j,e2,rfl⟩:=Option.map_eq_some_iff.mp e1
     exact .inl ⟨a,vs,i,j,rfl,rfl,h1,by rw [← h2.len];exact e2,q _ ⟨_,ae,h2.set j rd⟩⟩
   | _=>cases e
 | dic ks ds=>
   obtain ⟨vs,h1,hl,h2⟩:=o
   have e:((aM k).bind fun k=>if ks.length<100000 then some (D.dic (bz ks ds k d).1 (bz ks ds k d).2) else none)=some y:=e
   obtain ⟨kk,e1,e2⟩:=Option.bind_eq_some_iff.mp e
   split at e2
   ·rename_i c
    cases e2
    obtain ⟨us,h3,h4,h5⟩:=pG (k:=kk) hl h2 rd
    exact .inr ⟨a,_,rfl,.inl ⟨_,kk,h1,cj rk e1,Nat.lt_of_le_of_lt pC (Nat.lt_of_lt_of_le c (big (Nat.le_refl _))),rfl⟩,q _ ⟨us,by rw [ae,h3],h4,h5⟩⟩
   ·cases e2
 | _=>exact o.elim
end
theorem yi {l:List Addr} (h:l.Nodup) {i j:Nat} {a:Addr} (e1:l[i]? = some a) (e2:l[j]? = some a):i=j:=
 (List.getElem?_inj (List.getElem?_eq_some_iff.mp e1).1 h).mp (e1.trans e2.symm)
theorem Rep.put {W:Wd} {ρ:List Addr} {G H:Hp} {s:Sta} {σ:St} (rep:Rep W ρ G s σ H) {n:Nat} {a:Addr} {o:O} {ho:HO} (ea:ρ[n]? = some a) (r:ObR W ρ G (upd H a ho) a o):Rep W ρ G ⟨s.env,s.ow,s.st.set n o⟩ σ (upd H a ho):=by
 have ga:=(rep.rg a (List.mem_of_getElem? ea)).1
 refine ⟨fun b u e=>?_,by simp [rep.rl],rep.rn,fun b hb=>⟨(rep.rg b hb).1,?_⟩,fun m ob b h1 h2=>?_,rep.el,rep.en,fun j mj=>?_,rep.od⟩
 ·rw [aa (ak e ga)];exact rep.gh b u e
 ·by_cases z:b=a
  ·subst z;rw [ae];exact fun z=>nomatch z
  ·rw [aa z];exact (rep.rg b hb).2
 ·by_cases z:m=n
  ·subst z
   rw [ea] at h2;cases h2
   have h1':(s.st.set m o)[m]? = some ob:=h1
   have hl:m<s.st.length:=by have:=(List.getElem?_eq_some_iff.mp h1').1;simpa using this
   rw [List.getElem?_set_self hl] at h1'
   cases h1'
   exact r
  ·have h1':(s.st.set n o)[m]? = some ob:=h1
   rw [List.getElem?_set_ne (Ne.symm z)] at h1'
   have nb:b≠a:=fun q=>z (yi rep.rn (q ▸ h2) ea)
   exact (rep.ob m ob b h1' h2).mono (List.prefix_refl _) (.refl _) fun u q=>by rw [aa nb];exact q
 ·obtain ⟨e,b,e1,e2,nr,g,o1⟩:=rep.eo j mj
  have nb:b≠a:=fun q=>nr (q ▸ List.mem_of_getElem? ea)
  exact ⟨e,b,e1,e2,nr,g,o1.mono (List.prefix_refl _) (.refl _) fun u q=>by rw [aa nb];exact q⟩
theorem ip {ρ:List Addr} {G H:Hp} {Ow Ow':Addr→Prop} {a:Addr} {ho:HO} (m:a∈ρ) (e:∀ b,Ow' b→Ow b):b7 ρ G H Ow ρ G (upd H a ho) Ow':=
 ⟨List.prefix_refl _,.refl _,fun _ _ e=>.inl e,fun _ h=>.inl h,fun b n=>by
  by_cases z:b=a
  ·subst z;rw [ae];exact fun z=>nomatch z
  ·rw [aa z];exact n,fun b u q no _=>by rw [aa fun z=>no (by rw [z];exact m)];exact q,fun b h=>.inl (e b h)⟩
theorem oQ {o i:Expr} {pos:Pos} {env:Env} (h:aP i=true):∀ v,assign (o.Subscript i pos) env v=(do
 let ov ← holding [v] (eval o env)
 let iv ← holding [v,ov] (eval i env)
 standAt pos
 holding [v,ov,iv] (setItem ov iv v)
 release [v,ov,iv] []):=by
 cases i <;> first | (intro v;rfl) | cases h
theorem rO {e o i:Expr} {p:Pos} {l:Nat} {env:Env}:swapsWithSole [.Subscript o i p] e l env=pure false:=by
 cases e <;> rfl
theorem mz {e o i:Expr} {p:Pos} {env:Env}:swappedStores [.Subscript o i p] e env=pure none:=by
 cases e <;> rfl
section
variable {F:Fx} {X:Cx}
theorem pH {ρ:List Addr} {G H:Hp} {s:Sta} {σ:St} (rep:Rep F.W ρ G s σ H) {n:Nat} {a:Addr} (ea:ρ[n]? = some a) {k d:D} {kv v:V} (rk:RB F.W ρ G H k kv) (rd:RD F.W ρ G d v) {Z:eY}
 (post:aL F.W F.ex Z H ρ G (Own s σ) (match (s.st[n]?).bind fun o=>fZ o k d with | some o=>.nx ⟨s.env,s.ow,s.st.set n o⟩ | none=>.bad)):vq (.ref a) kv v H fun H4=>Z.nx σ H4:=by
 cases q:s.st[n]? with
 | none=>rw [q] at post;exact post.elim
 | some o=>
   rw [q] at post
   have ob:=rep.ob n o a q ea
   have mem:=List.mem_of_getElem? ea
   cases o with
   | lst l=>
     cases q2:lq (.lst l) k d with
     | none=>
       have:fZ (.lst l) k d=none:=by
        cases k with
        | int i=>have e:(lC l i d).map D.lst=none:=q2;show (lC l i d).map O.lst=none;rw [Option.map_eq_none_iff] at e ⊢;exact e
        | _=>rfl
       rw [show ((some (O.lst l)).bind fun o=>fZ o k d)=none from this] at post
       exact post.elim
     | some y=>
       cases k with
       | int i=>
         have e:(lC l i d).map D.lst=some y:=q2
         obtain ⟨l',e1,rfl⟩:=Option.map_eq_some_iff.mp e
         rw [show ((some (O.lst l)).bind fun o=>fZ o (.int i) d)=some (.lst l') by show (lC l i d).map O.lst=_;rw [e1];rfl] at post
         exact ie (x:=.lst l) ob rk rd q2 fun ho r=>post σ _ ρ G (ip mem fun _ z=>z) (rep.put (o:=.lst l') ea r)
       | _=>cases q2
   | dic ks ds=>
     cases q2:lq (.dic ks ds) k d with
     | none=>
       have:fZ (.dic ks ds) k d=none:=by
        have e:((aM k).bind fun k=>if ks.length<100000 then some (D.dic (bz ks ds k d).1 (bz ks ds k d).2) else none)=none:=q2
        show ((aM k).bind fun k=>if ks.length<100000 then some (O.dic (bz ks ds k d).1 (bz ks ds k d).2) else none)=none
        cases z:aM k with
        | none=>rfl
        | some kk=>
          rw [z] at e
          have e:(if ks.length<100000 then some (D.dic (bz ks ds kk d).1 (bz ks ds kk d).2) else none)=none:=e
          show (if ks.length<100000 then some (O.dic (bz ks ds kk d).1 (bz ks ds kk d).2) else none)=none
          by_cases c:ks.length<100000
          ·rw [if_pos c] at e;cases e
          ·rw [if_neg c]
       rw [show ((some (O.dic ks ds)).bind fun o=>fZ o k d)=none from this] at post
       exact post.elim
     | some y=>
       have e:((aM k).bind fun k=>if ks.length<100000 then some (D.dic (bz ks ds k d).1 (bz ks ds k d).2) else none)=some y:=q2
       obtain ⟨kk,e1,e2⟩:=Option.bind_eq_some_iff.mp e
       by_cases c:ks.length<100000
       ·rw [if_pos c] at e2
        cases e2
        rw [show ((some (O.dic ks ds)).bind fun o=>fZ o k d)=some (.dic (bz ks ds kk d).1 (bz ks ds kk d).2) by
         show ((aM k).bind fun k=>if ks.length<100000 then some (O.dic (bz ks ds k d).1 (bz ks ds k d).2) else none)=_
         rw [e1]
         show (if ks.length<100000 then some (O.dic (bz ks ds kk d).1 (bz ks ds kk d).2) else none)=_
         rw [if_pos c]] at post
        exact ie (x:=.dic ks ds) ob rk rd q2 fun ho r=>post σ _ ρ G (ip mem fun _ z=>z) (rep.put (o:=.dic (bz ks ds kk d).1 (bz ks ds kk d).2) ea r)
       ·rw [if_neg c] at e2;cases e2
   | ins c l=>exact post.elim
theorem uC (hr:Room 0 X.A) {i:Nat} {x:Str} {b e:E} {eb ee:Expr} {p p2 pos:Pos} (hN:X.N[i]? = some x) (hv:Vis X.env.scope x) (hd:(x == ("__debug__":Str))=false) (hcd:(x == ("__classdict__":Str))=false) (hn:aP eb=true) (hb:PE X eb (LE F true b)) (he:PE X ee (LE F false e)):PS X (.Assign [.Subscript (.Name x p) eb p2] ee pos) (LS F (.put (.v i) b e)):=aN (sC he (yH (fw hN hv hd hcd) hb (vC hr) (oQ hn)) rO mz rfl) fun Z σ H ⟨ρ,G,s,rep,post⟩=>by
 refine ⟨ρ,G,s,rep,(aj.gos (m:=F.ev false e s) (R:=RVL F.W false (bo σ e s.env)) (f:=fun d s=>(match s.env[i]? with
  | some (some x)=>(F.ev true b s).go fun k s=>(match x with
    | .ref n=>(match (s.st[n]?).bind fun o=>fZ o k d with | some o=>.nx ⟨s.env,s.ow,s.st.set n o⟩ | none=>.bad)
    | x=>if s.ow.contains i then (match lq x k d with | some y=>.nx ⟨s.env.set i (some y),s.ow,s.st⟩ | none=>.bad) else .bad)
  | _=>.bad)) az post ((bW F e false s).1)).cps fun y H1 ρ1 G1 s1 d st1 rep1 le1 r1 post1=>?_⟩
 cases q:s1.env[i]? with
 | none=>rw [q] at post1;exact post1.elim
 | some o0=>
   cases o0 with
   | none=>rw [q] at post1;exact post1.elim
   | some x0=>
     rw [q] at post1
     obtain ⟨v,hσ⟩:∃ v,σ[i]? = some (some v):=by
      by_cases m:i∈s1.ow
      ·obtain ⟨_,a,_,ea,_⟩:=rep1.eo i m
       exact ⟨_,dy ea⟩
      ·obtain ⟨v,hv,_⟩:=rep1.en i x0 m q
       exact ⟨v,hv⟩
     refine ⟨v,hσ,ρ1,G1,s1,rep1,(aj.gos (m:=F.ev true b s1) (R:=RVL F.W true (bo σ b s1.env)) az post1 ((bW F b true s1).1)).cps fun k H2 ρ2 G2 s2 kd st2 rep2 le2 r2 post2=>?_⟩
     have q2:s2.env[i]? = some (some x0):=by rw [le2.1];exact q
     have ry:RD F.W ρ2 G2 d y:=RD.mono st2.pr st2.gg r1
     have own:∀ x1:D,x0=x1→aL F.W F.ex Z H2 ρ2 G2 (Own s2 σ) (if s2.ow.contains i then (match lq x1 kd d with | some y=>.nx ⟨s2.env.set i (some y),s2.ow,s2.st⟩ | none=>.bad) else .bad)→vq v k y H2 fun H4=>Z.nx σ H4:=fun x1 ex pst=>by
      subst ex
      by_cases c:s2.ow.contains i=true
      ·rw [if_pos c] at pst
       have m2:i∈s2.ow:=by simpa using c
       obtain ⟨d0,a,e0,ea,na,ga,ow⟩:=rep2.eo i m2
       rw [q2] at e0;cases e0
       have:=dy ea
       rw [hσ] at this;cases this
       cases q3:lq x0 kd d with
       | none=>rw [q3] at pst;exact pst.elim
       | some z=>
         rw [q3] at pst
         exact ie ow r2.rv ry q3 fun ho r=>pst σ _ ρ2 G2 (lD (W:=F.W) ⟨i,m2,ea⟩ rfl) (rep2.grow m2 ea r)
      ·rw [if_neg c] at pst;exact pst.elim
     cases x0 with
     | ref n=>
       have nm:i ∉ s2.ow:=fun m=>by
        obtain ⟨d0,a,e0,ea,na,ga,ow⟩:=rep2.eo i m
        rw [q2] at e0;cases e0
        exact ow
       obtain ⟨v',hv',a,ea,rfl⟩:=rep2.en i _ nm q2
       rw [hσ] at hv';cases hv'
       exact pH rep2 ea r2.rv ry post2
     | _=>exact own _ rfl post2
end
section
variable {T:Ns} {nm:NK} {N:List Str}
noncomputable def Bl (f:aK T) (nm:NK) (N:List Str) (x:Str) (p:Pos) (eb:Expr) (p2:Pos) (ee:Expr) (pos:Pos):Option (GS T nm N (.Assign [.Subscript (.Name x p) eb p2] ee pos)):=do
 let i ← ba x N
 let hl ← yes (fQ nm x)
 let hd ← no (x == ("__debug__":Str))
 let hc ← no (x == ("__classdict__":Str))
 let hn ← yes (aP eb)
 let b ← f nm N eb
 let e ← f nm N ee
 some ⟨.put (.v i.1) b.1 e.1,fun F X k=>uC k.room (by rw [k.hN];exact i.2) (cQ k.sc hl.down) hd.down hc.down hn.down (b.2 F X k.toCxOk true) (e.2 F X k.toCxOk false)⟩
end
section
variable {W:Wd} {X:Cx}
noncomputable def vp (W:Wd) (b:Bi):List V→Hp→VK→Prop:=fun xs H Q=>∃ ρ G ds d,Sub G H∧RLs W ρ G H ds xs∧biD b ds=some d∧∀ p ho,H p=none→OwR W ρ G (upd H p ho) p d→Q (.ref p) (upd H p ho)
theorem lW (hK:W.K=X.K):aO X (.type "list") (vp W .list):=by
 intro pins s σ H xs us Q I r h
 obtain ⟨ρ,G,ds,d,gh,rs,e,k⟩:=h
 obtain ⟨x,rfl⟩:=bi1 (by simp) e
 obtain ⟨y,rfl,rx⟩:=rs.one
 cases x with
 | tup l=>
   cases e
   obtain ⟨a,vs,rfl,t,q⟩:=rx
   have t:=aA gh t
   rw [hK] at t
   exact bR pins s σ H _ us Q I r ⟨a,vs,rfl,.inr t.sq,fun p hp=>k p (.lst vs) hp ⟨vs,ae,q⟩⟩
 | lst l=>
   cases e
   obtain ⟨a,vs,rfl,t,q⟩:=rx
   exact bR pins s σ H _ us Q I r ⟨a,vs,rfl,.inl (.inl t),fun p hp=>k p (.lst vs) hp ⟨vs,ae,q⟩⟩
 | _=>cases e
theorem lV:aO X (.type "dict") (vp W .dict):=by
 intro pins s σ H xs us Q I r h
 obtain ⟨ρ,G,ds,d,gh,rs,e,k⟩:=h
 obtain ⟨x,rfl⟩:=bi1 (by simp) e
 obtain ⟨y,rfl,rx⟩:=rs.one
 cases x with
 | dic ks l=>
   cases e
   obtain ⟨a,vs,rfl,t,hl,q⟩:=rx
   exact oU pins s σ H _ us Q I r ⟨a,_,rfl,t,fun p hp=>k p (.dK (aE ks vs)) hp ⟨vs,ae,hl,q⟩⟩
 | _=>cases e
end
section
variable {F:Fx} {X:Cx} {br:Bool}
theorem p9 {b:Bi} {es:E} {σ:St} {H:Hp} {Q:VK} (h:LEO F (.bi b es) σ H Q):tCB (vp F.W b) (LA F true es) σ H Q:=by
 obtain ⟨ρ,G,s,rep,post⟩:=h
 refine ⟨ρ,G,s,rep,(aj.bind (m:=F.evs true es s) (R:=RVs F.W true (bQ σ es s.env)) (f:=fun l s=>Out.of s (biD b (l.map (look s.st)))) bg post).cps fun vs H1 ρ1 G1 s1 ds st1 rep1 le1 r1 post1=>?_⟩
 cases q:biD b (ds.map (look s1.st)) with
 | none=>rw [q] at post1;exact post1.elim
 | some d=>
   rw [q] at post1
   exact ⟨ρ1,G1,_,d,rep1.gh,mI rep1 (RLn.rb r1),q,fun p ho hp r=>aj.neu post1 rep1 hp st1.th r⟩
theorem rB {b:Bi} {t:String} {es:E} {e:Expr} {er:List Expr} {x:Str} {p pos:Pos} (hc:aO X (.type t) (vp F.W b)) (hg:Gl X x) (hm:X.mg x=none) (hv:bootBuiltins x=some (.type t)) (ha:PA X (e :: er) (LA F true es)) (hn:x≠"__name__") (hdb:(x == ("__debug__":Str))=false)
 (he:starEach (e :: er) X.env=(false,eval e X.env) :: starEach er X.env) (hpl:(backTo pos (starEach er X.env)).any (·.1)=false):PE X (.Call (.Name x p) (e :: er) [] pos) (LEO F (.bi b es)):=
 aq (jm hc hg hm hv ha hn hdb he hpl) fun σ H Q h=>p9 h
theorem ux {pos:Pos}:PE X (.Dict [] [] pos) (LEO F (.dic .nil)):=aq hW fun σ H Q ⟨ρ,G,s,rep,post⟩ p hp=>
 aj.neu (d:=.dic [] []) (s:=s) post rep hp (fun _ z=>z) ⟨[],ae,rfl,rfl⟩
end
section
variable {F:Fx} {X:Cx}
theorem we {F:Fx} {es:E} {br:Bool} {s:Sta}:∀ c l s',F.evs br es s = .exc c l s'→∀ i∈s'.ow,i∈s.ow:=(bW F es br s).2
theorem uE {i:Nat} {x:Str} {es:E} {er:List Expr} {pos pos' lp:Pos} (hN:X.N.Nodup) (hi:X.N[i]? = some x) (hx:Loc X.env.scope x) (ha:PA X er (LA F false es)) (hf:X.fn x=true∨X.env.scope.names.lookup x=some .local):PS X (.Assign [.Name x pos'] (.List er lp) pos) (LS F (.setR i es)):=aN (jZ hN hi hx (hX ha) (bI rfl) hf) fun Z σ H ⟨ρ,G,s,rep,post⟩=>by
 refine ⟨ρ,G,s,rep,(aj.gos (m:=F.evs false es s) (R:=RVs F.W false (bQ σ es s.env)) (f:=fun l s=>if l.length≤100000 then .nx ⟨s.env.set i (some (.ref s.st.length)),s.ow.filter (· != i),s.st ++ [.lst l]⟩ else .bad) bg post we).cps fun xs H1 ρ1 G1 s1 l st1 rep1 le1 r1 post1=>?_⟩
 have r:RDs F.W ρ1 G1 l xs:=r1
 by_cases c:l.length≤100000
 ·rw [if_pos c] at post1
  refine ⟨by rw [← r.len];exact big c,fun p hp=>?_⟩
  have np:p ∉ ρ1:=fun z=>(rep1.rg p z).2 hp
  have gp:=aI rep1.gh hp
  have no:∀ i∈s1.ow,adr σ i≠some p:=fun j m z=>by
   obtain ⟨d,a,e1,e2,na,ga,ow⟩:=rep1.eo j m
   rw [z] at e2;cases e2
   have:=ow.th
   exact this hp
  have pre:ρ1 <+: ρ1 ++ [p]:=List.prefix_append _ _
  have rep2:=(rep1.beside (o:=.lst xs) hp).ext (o:=.lst l) (by rw [ae];exact fun z=>nomatch z) np gp no ⟨xs,ae,r.mono pre (.refl _)⟩
  have rd:RD F.W (ρ1 ++ [p]) G1 (.ref s1.st.length) (.ref p):=⟨p,by rw [List.getElem?_append_right (by rw [rep1.rl];exact Nat.le_refl _),rep1.rl];simp,rfl⟩
  refine post1 (σ.set i (some (.ref p))) (upd H1 p (.lst xs)) (ρ1 ++ [p]) G1 ⟨pre,.refl _,fun _ _ e=>.inl e,fun a m=>?_,fun a n=>?_,fun a u e _ _=>by rw [aa (ak e hp)];exact e,fun a z=>.inl (gq z)⟩ (rep2.bind1 rd i)
  ·rcases List.mem_append.mp m with m | m
   ·exact .inl m
   ·rw [List.mem_singleton] at m;subst m;exact .inr hp
  ·rw [aa fun z=>n (by rw [z];exact hp)];exact n
 ·rw [if_neg c] at post1;exact post1.elim
end
section
variable {T:Ns}
noncomputable def zE (f:aK T) (nm:NK) (N:List Str) (x:Str) (p pos:Pos) (y:Str) (q:Pos) (e:Expr) (cp:Pos):Option (GS T nm N (.Assign [.Name x p] (.Call (.Name y q) [e] [] cp) pos)):=do
 let i ← ba x N
 let hl ← yes (dG true nm x)
 let he ← yes (aP e)
 let g ← lS T nm y
 let a ← bV (f nm N) [e]
 match isP "list" y with
 | some hy=>some ⟨.set i.1 (.bi .list a.1),fun F X k=>by
  obtain rfl:=hy.down
  exact gj (bW F) rfl (by rw [k.hN];exact k.nd) (by rw [k.hN];exact i.2) (k.loc hl.down).1 (rB (lW k.hK) (aX k.toCxOk g.down).1 (aX k.toCxOk g.down).2 PyProof.Rows.boot_list (a.2 F X k.toCxOk true) (by decide) (by decide) (al he.down) rfl) (bI rfl) (k.loc hl.down).2⟩
 | none=>
   let hy ← isP "dict" y
   some ⟨.set i.1 (.bi .dict a.1),fun F X k=>by
    obtain rfl:=hy.down
    exact gj (bW F) rfl (by rw [k.hN];exact k.nd) (by rw [k.hN];exact i.2) (k.loc hl.down).1 (rB lV (aX k.toCxOk g.down).1 (aX k.toCxOk g.down).2 PyProof.Rows.boot_dict (a.2 F X k.toCxOk true) (by decide) (by decide) (al he.down) rfl) (bI rfl) (k.loc hl.down).2⟩
noncomputable def zD (f:aK T) (g:eu T) (nm:NK) (N:List Str) (x:Str) (p pos:Pos):(e:Expr)→Option (GS T nm N (.Assign [.Name x p] e pos))
 | .List es lp=>(match rA x T.rf with
   | some _=>do
     let i ← ba x N
     let hl ← yes (dG true nm x)
     let a ← bV (f nm N) es
     some ⟨.setR i.1 a.1,fun F X k=>uE (by rw [k.hN];exact k.nd) (by rw [k.hN];exact i.2) (k.loc hl.down).1 (a.2 F X k.toCxOk false) (k.loc hl.down).2⟩
   | none=>wX f g nm N x p pos (.List es lp))
 | .Dict [] [] lp=>do
   let i ← ba x N
   let hl ← yes (dG true nm x)
   some ⟨.set i.1 (.dic .nil),fun F X k=>gj (bW F) rfl (by rw [k.hN];exact k.nd) (by rw [k.hN];exact i.2) (k.loc hl.down).1 ux (bI rfl) (k.loc hl.down).2⟩
 | .Call (.Name y q) [e] [] cp=>(zE f nm N x p pos y q e cp).orElse fun _=>wX f g nm N x p pos _
 | e=>wX f g nm N x p pos e
end
section
variable {F:Fx} {X:Cx}
theorem yV {W:Wd} {ρ:List Addr} {G H:Hp} {n:Nat} {v:V} (h:RB W ρ G H (.ref n) v):∃ a,ρ[n]? = some a∧v = .ref a:=by
 rcases h with r | ⟨_,_,_,r⟩
 ·exact r
 ·exact r.elim
end
noncomputable def Bs (chk:List Nat) (vs:List V):Prop:=∀ i∈chk,∃ n:Int,vs[i]? = some (.int n)∧0≤n∧n<100000
noncomputable def AO (C:Addr) (nm:List Str) (chk:List Nat):Sp:=fun vs H Q _=>∃ (p:Addr) (args:List V),vs = .ref p :: args∧args.length=nm.length∧Bs chk args∧H p=some (XQ true p C none)∧∀ d,H d=none→d≠p→Q .non (upd (upd H p (XQ true p C (some d))) d (DO d (nm.zip args)))
structure RaP (P:Program) (w:World) (K:Fg) (mg:Str→Option Value) (base:Heap) (W:Wd) (Γ:Gm) (j:Nat) (x:Str) (lv:Nat):Prop where
 ex:∃ k i fI fd ps Bx nwI iniI bmB,ExcBaseFacts Bx nwI iniI bmB∧Γ.cl[j]? = some k∧W.ci[j]? = some i∧W.what[j]? = some 2∧i.nm.length=k.at_.length∧oO K i.ad fI bmB nwI∧aR P w K mg base CX0 lv fI fd ps (AO i.ad i.nm k.chk)∧a8 K fd ps []∧mg x=some (.ref i.ad)∧PySem.W.keepIn K (.ref i.ad)=true ∧
  PySem.W.mroIn K i.ad (.type "BaseException")=some true∧PySem.W.typeIn K (.ref i.ad)=some (.type "type")
theorem tZ {H:Hp} {a d:Addr} {o:HO} (n:d≠a):del (upd H d o) a=upd (del H a) d o:=by
 funext b
 by_cases z:b=a
 ·subst z
  rw [cZ,aa (Ne.symm n),cZ]
 ·rw [cD z]
  by_cases y:b=d
  ·subst y;rw [ae,ae]
  ·rw [aa y,aa y,cD z]
theorem qr {H:Hp} {a:Addr} {o:HO} (h:H a=none):del (upd H a o) a=H:=by
 funext b
 by_cases z:b=a
 ·subst z;rw [cZ,h]
 ·rw [cD z,aa z]
theorem eU {H:Hp} {a:Addr} {o o':HO}:upd (upd H a o) a o'=upd H a o':=by
 funext b
 by_cases z:b=a
 ·subst z;rw [ae,ae]
 ·rw [aa z,aa z,aa z]
theorem sT {W:Wd} {ρ:List Addr} {G:Hp} {l:List D} {vs:List V} {i:Nat} (r:RDs W ρ G l vs) (h:sS l[i]? = true):∃ n:Int,vs[i]? = some (.int n)∧0≤n∧n<100000:=by
 cases q:l[i]? with
 | none=>rw [q] at h;cases h
 | some d=>
   rw [q] at h
   cases d with
   | int n=>
     obtain ⟨v,h1,h2⟩:=r.get q
     obtain rfl:v = .int n:=h2
     have h':(decide (0≤n) && decide (n<100000))=true:=h
     simp only [Bool.and_eq_true,decide_eq_true_eq] at h'
     exact ⟨n,h1,h'.1,h'.2⟩
   | _=>cases h
theorem rE {Y:Cx} {E:XK} {W:Wd} {Γ:Gm} {cal cal1:Nat→List D→List O→Res} {j:Nat} {x:Str} {lv n:Nat} (R:RaP Y.prog Y.w Y.K Y.mg Y.base W Γ j x lv) (hr:Room n Y.A) (hn:lv+1≤n) (hst:Y.stack=Y.env :: Y.outer) (hf:Y.env.frame=some Y.env.locals) (hex:Y.ex = []) (hc:Y.calm=true) {e:Expr} {er:List Expr} {es:Ev.E} {np cp pos:Pos}
 (hni:∀ y∈e :: er,aP y=true) (hg:Gl Y x) (hd:(x == ("__debug__":Str))=false) (ha:PA (Y.wish (XS Y E)) (e :: er) (LA ⟨W,fun _=>E,Γ,cal,cal1⟩ false es)):PS (Y.wish (XS Y E)) (.Raise (some (.Call (.Name x np) (e :: er) [] cp)) none pos) (LS ⟨W,fun _=>E,Γ,cal,cal1⟩ (.rais j es)):=by
 obtain ⟨k,i,fI,fd,ps,Bx,nwI,iniI,bmB,h0,h1,h2,h3,h4,h5,h6,h7,h8,h9,h10,h11⟩:=R.ex
 refine aN (pF h5 h6 hr h7 h8 h9 h10 h11 ha hn hst hf hex hc hg hd (al (hni e List.mem_cons_self)) (aS fun y hy=>hni y (List.mem_cons_of_mem _ hy)) h0) fun Z σ H=>?_
 rintro ⟨ρ,G,s,rep,post⟩
 let F:Fx:=⟨W,fun _=>E,Γ,cal,cal1⟩
 refine ⟨ρ,G,s,rep,(aj.gos (m:=F.evs false es s) (R:=RVs W false (bQ σ es s.env)) (f:=fun l s=>if jo Γ j l then .exc j l s else .bad) bg post we).cps fun xs H1 ρ1 G1 s1 l st1 rep1 le1 r1 post1=>?_⟩
 have r:RDs W ρ1 G1 l xs:=r1
 by_cases c:jo Γ j l=true
 ·rw [if_pos c] at post1
  unfold jo at c
  rw [h1] at c
  simp only [Bool.and_eq_true,decide_eq_true_eq] at c
  obtain ⟨⟨⟨c1,c2⟩,c3⟩,c4⟩:=c
  have c1:l.length=k.at_.length:=by simpa using c1
  refine ⟨by rw [← r.len];exact Nat.le_trans c3 (by decide),fun p hp=>⟨p,xs,rfl,by rw [← r.len,c1,h4],fun q hq=>sT r (List.all_eq_true.mp c2 q hq),ae,fun d hd ne=>⟨rfl,some d,by rw [aa (Ne.symm ne),ae],?_⟩⟩⟩
  have hd1:H1 d=none:=by rw [aa ne] at hd;exact hd
  rw [tZ ne,eU,qr hp]
  have sg:=aV (o:=DO d (i.nm.zip xs)) (aI rep1.gh hd1)
  have nr:∀ b∈ρ1,b≠d:=fun b hb z=>(rep1.rg b hb).2 (z ▸ hd1)
  have ⟨rep2,stp2⟩:=rep1.new (o:=DO d (i.nm.zip xs)) (Ow:=Own s1 σ) hd1
  exact post1 σ (.ref i.ad) (some d) _ ρ1 (upd G1 d (DO d (i.nm.zip xs))) (.of stp2 fun a z=>.inl z) rep2 ⟨i,h2,h3,rfl,by rw [c1,h4];exact Nat.le_refl _,.inr ⟨d,xs,rfl,ae,r.mono (List.prefix_refl _) sg⟩⟩
 ·rw [if_neg c] at post1;exact post1.elim
section
variable {T:Ns}
noncomputable def wV (f:aK T) (nm:NK) (N:List Str) (x:Str) (np:Pos):(args:List Expr)→(cp pos:Pos)→Option (GS T nm N (.Raise (some (.Call (.Name x np) args [] cp)) none pos))
 | [],_,_=>none
 | e :: er,cp,pos=>do
   let j ← ba x T.ex
   let hz ← no (x == ("":Str))
   let hn ← yes ((e :: er).all aP)
   let hg ← yes (bD nm x)
   let hd ← no (x == ("__debug__":Str))
   let a ← bV (f nm N) (e :: er)
   some ⟨.rais j.1 a.1,fun F X k=>k.rs j.1 x j.2 (by simpa using hz.down) e er a.1 np cp pos (List.all_eq_true.mp hn.down) hg.down hd.down (a.2 F X k.toCxOk false)⟩
end
theorem vz {Γ:Gm} {c f:Nat} {l:List D} {d:D} {o:O} (h:cn Γ (.ins c l) f d=some o):∃ k,Γ.cl[c]? = some k∧k.at_.length<1000∧((k.at_.idxOf f<l.length∧o = .ins c (l.set (k.at_.idxOf f) d))∨(k.at_.idxOf f=l.length∧k.at_.idxOf f<k.at_.length∧o = .ins c (l ++ [d]))):=by
 have h:((Γ.cl[c]?).bind fun k=>if k.at_.length<1000 then (if k.at_.idxOf f<l.length then some (O.ins c (l.set (k.at_.idxOf f) d)) else if k.at_.idxOf f=l.length∧k.at_.idxOf f<k.at_.length then some (.ins c (l ++ [d])) else none) else none)=some o:=h
 obtain ⟨k,hk,h⟩:=Option.bind_eq_some_iff.mp h
 refine ⟨k,hk,?_⟩
 by_cases z0:k.at_.length<1000
 ·rw [if_pos z0] at h
  refine ⟨z0,?_⟩
  by_cases z:k.at_.idxOf f<l.length
  ·rw [if_pos z] at h;cases h;exact .inl ⟨z,rfl⟩
  ·rw [if_neg z] at h
   by_cases z2:k.at_.idxOf f=l.length∧k.at_.idxOf f<k.at_.length
   ·rw [if_pos z2] at h;cases h;exact .inr ⟨z2.1,z2.2,rfl⟩
   ·rw [if_neg z2] at h;cases h
 ·rw [if_neg z0] at h;cases h
theorem lj {f:Str} {y:V}:∀ {nm:List Str} {vs:List V} {j:Nat},nm.Nodup→nm[j]? = some f→j<vs.length→vs.length≤nm.length→bq f y (nm.zip vs)=nm.zip (vs.set j y)
 | [],_,_,_,h,_,_=>by simp at h
 | _ :: _,[],_,_,_,h,_=>by simp at h
 | n :: nm,v :: vs,0,nd,h,_,_=>by
   have e:n=f:=by simpa using h
   subst e
   show bq n y ((n,v) :: nm.zip vs)=(n,y) :: nm.zip vs
   simp [bq]
 | n :: nm,v :: vs,j+1,nd,h,hl,hn=>by
   have h':nm[j]? = some f:=by simpa using h
   have ne:n≠f:=fun z=>by subst z;exact (List.nodup_cons.mp nd).1 (List.mem_of_getElem? h')
   show bq f y ((n,v) :: nm.zip vs)=(n,v) :: nm.zip (vs.set j y)
   rw [← lj (List.nodup_cons.mp nd).2 h' (by simpa using hl) (by simpa using hn)]
   simp [bq,ne]
theorem li {f:Str} {y:V}:∀ {nm:List Str} {vs:List V},nm.Nodup→nm[vs.length]? = some f→bq f y (nm.zip vs)=nm.zip (vs ++ [y])
 | [],_,_,h=>by simp at h
 | n :: nm,[],nd,h=>by
   have e:n=f:=by simpa using h
   subst e
   simp [bq]
 | n :: nm,v :: vs,nd,h=>by
   have h':nm[vs.length]? = some f:=by simpa using h
   have ne:n≠f:=fun z=>by subst z;exact (List.nodup_cons.mp nd).1 (List.mem_of_getElem? h')
   show bq f y ((n,v) :: nm.zip vs)=(n,v) :: nm.zip (vs ++ [y])
   rw [← li (List.nodup_cons.mp nd).2 h']
   simp [bq,ne]
section
variable {F:Fx} {X:Cx} {an:Nat→Str}
theorem i4 (T:∀ c k,F.Γ.cl[c]? = some k→∃ i,gA F X an c k i) {ρ:List Addr} {G H:Hp} {s:Sta} {σ:St} (rep:Rep F.W ρ G s σ H) {n:Nat} {a:Addr} (ea:ρ[n]? = some a) {f:Nat} {d:D} {v:V} (rd:RD F.W ρ G d v) {o o':O} (q:s.st[n]? = some o) (e:cn F.Γ o f d=some o'):∃ C dx fs,H a=some (.ins C dx fs)∧Cls X.K C∧aJ X.K C (an f)∧fs.length<1000∧Rep F.W ρ G ⟨s.env,s.ow,s.st.set n o'⟩ σ (upd H a (.ins C dx (bq (an f) v fs))):=by
 have ob:=rep.ob n o a q ea
 cases o with
 | ins c l=>
   obtain ⟨k,hk,h1000,alt⟩:=vz e
   obtain ⟨i',vs,dx,w1,w2,w3,w4,w5⟩:=ob
   obtain ⟨i,C⟩:=T c k hk
   rw [C.ci] at w1
   have ii:i=i':=Option.some.inj w1
   subst ii
   have lnm:i.nm.length=k.at_.length:=by rw [C.nm,List.length_map]
   have wz:k.what≠2:=by have:=C.wh;rw [w2] at this;have e:=Option.some.inj this;omega
   have lv:=w5.len
   have hj:k.at_.idxOf f<k.at_.length:=by
    rcases alt with ⟨z,_⟩ | ⟨_,z,_⟩
    ·omega
    ·exact z
   have hn:i.nm[k.at_.idxOf f]? = some (an f):=by rw [C.nm,List.getElem?_map,nK rfl hj];rfl
   refine ⟨i.ad,dx,i.nm.zip vs,w4,C.cls wz,C.na _ (List.mem_of_getElem? hn),by rw [List.length_zip];omega,?_⟩
   rcases alt with ⟨z,rfl⟩ | ⟨z,_,rfl⟩
   ·rw [lj C.nd hn (by omega) (by omega)]
    exact rep.put ea ⟨i,_,dx,C.ci,w2,by rw [List.length_set];exact w3,ae,w5.set _ rd⟩
   ·rw [li C.nd (by rw [← lv,← z];exact hn)]
    exact rep.put ea ⟨i,_,dx,C.ci,w2,by rw [List.length_append];simp;omega,ae,w5.app (.cons rd .nil)⟩
 | _=>cases e
noncomputable def jY:E→Bool
 | .lst .nil=>false
 | .dic .nil=>false
 | _=>true
theorem iX {a e:E} {f:Nat} {s:Sta} (h:jY e=true):F.exS (.fld a f e) s=(F.ev false e s).go fun d s=>(F.ev true a s).go fun x s=>(match x with
        | .ref n=>(match (s.st[n]?).bind fun o=>cn F.Γ o f d with | some o=>.nx ⟨s.env,s.ow,s.st.set n o⟩ | none=>.bad)
        | _=>.bad):=by
 cases e with
 | lst es=>cases es <;> first | rfl | cases h
 | dic es=>cases es <;> first | rfl | cases h
 | _=>rfl
theorem g8 {e o:Expr} {x:Str} {p:Pos} {l:Nat} {env:Env}:swapsWith e (some (.Attribute o x p)) l env=pure false:=by
 cases e <;> rfl
theorem x9 (T:∀ c k,F.Γ.cl[c]? = some k→∃ i,gA F X an c k i) {a e:E} {f:Nat} {eo ee:Expr} {p pos:Pos} (hp:jY e=true) (ho:PE X eo (LE F true a)) (he:PE X ee (LE F false e)):PS X (.Assign [.Attribute eo (an f) p] ee pos) (LS F (.fld a f e)):=aN (dZ ho he g8) fun Z σ H ⟨ρ,G,s,rep,post⟩=>by
 rw [iX hp] at post
 refine ⟨ρ,G,s,rep,(aj.gos (m:=F.ev false e s) (R:=RVL F.W false (bo σ e s.env)) az post ((bW F e false s).1)).cps fun y H1 ρ1 G1 s1 d st1 rep1 le1 r1 post1=>?_⟩
 refine ⟨ρ1,G1,s1,rep1,(aj.gos (m:=F.ev true a s1) (R:=RVL F.W true (bo σ a s1.env)) az post1 ((bW F a true s1).1)).cps fun v H2 ρ2 G2 s2 x st2 rep2 le2 r2 post2=>?_⟩
 have ry:RD F.W ρ2 G2 d y:=RD.mono st2.pr st2.gg r1
 cases x with
 | ref n=>
   obtain ⟨a1,ea,rfl⟩:=yV r2.rv
   dsimp only at post2
   cases q:s2.st[n]? with
   | none=>rw [q] at post2;exact post2.elim
   | some o=>
     rw [q] at post2
     cases q2:cn F.Γ o f d with
     | none=>rw [show ((some o).bind fun o=>cn F.Γ o f d)=none from q2] at post2;exact post2.elim
     | some o'=>
       rw [show ((some o).bind fun o=>cn F.Γ o f d)=some o' from q2] at post2
       obtain ⟨C,dx,fs,e1,e2,e3,e4,e5⟩:=i4 T rep2 ea ry q q2
       exact ⟨a1,C,dx,fs,rfl,e1,e2,e3,e4,post2 σ _ ρ2 G2 (ip (List.mem_of_getElem? ea) fun _ z=>z) e5⟩
 | _=>exact post2.elim
theorem i5 (T:∀ c k,F.Γ.cl[c]? = some k→∃ i,gA F X an c k i) {i f:Nat} {Z:eY} {σ:St} {H:Hp} {ρ:List Addr} {G:Hp} {s:Sta} {o0:O} {h0:HO} (ob:∀ (W:Wd) (ρ:List Addr) (G H:Hp) (p:Addr),H p=some h0→ObR W ρ G H p o0) (rep:Rep F.W ρ G s σ H)
 (post:aL F.W F.ex Z H ρ G (Own s σ) ((F.ev true (.v i) s).go fun x s=>(match x with
  | .ref n=>(match (s.st[n]?).bind fun o=>cn F.Γ o f (.ref s.st.length) with | some o=>.nx ⟨s.env,s.ow,(s.st ++ [o0]).set n o⟩ | none=>.bad)
  | _=>.bad))) {p:Addr} (hp:H p=none):y7 i σ (upd H p h0) fun x H2=>∃ a C dx fs,x = .ref a∧H2 a=some (.ins C dx fs)∧Cls X.K C∧aJ X.K C (an f)∧fs.length<1000∧Z.nx σ (upd H2 a (.ins C dx (bq (an f) (.ref p) fs))):=by
 rw [show F.ev true (.v i) s=_ from pd] at post
 cases q:s.env[i]? with
 | none=>rw [q] at post;exact post.elim
 | some oo=>
   cases oo with
   | none=>rw [q] at post;exact post.elim
   | some d=>
     rw [q] at post
     cases d with
     | ref n=>
       have post:aL F.W F.ex Z H ρ G (Own s σ) (match (s.st[n]?).bind fun o=>cn F.Γ o f (.ref s.st.length) with | some o=>.nx ⟨s.env,s.ow,(s.st ++ [o0]).set n o⟩ | none=>.bad):=post
       have nm:i ∉ s.ow:=fun m=>by
        obtain ⟨d0,a,e0,ea,na,ga,ow⟩:=rep.eo i m
        rw [q] at e0;cases e0
        exact ow
       obtain ⟨v,hv,a1,ea,rfl⟩:=rep.en i _ nm q
       have np:p ∉ ρ:=fun z=>(rep.rg p z).2 hp
       have gp:=aI rep.gh hp
       have no:∀ i∈s.ow,adr σ i≠some p:=fun j m z=>by
        obtain ⟨d,a,e1,e2,na,ga,ow⟩:=rep.eo j m
        rw [z] at e2;cases e2
        exact ow.th hp
       have pre:ρ <+: ρ ++ [p]:=List.prefix_append _ _
       have repC:=(rep.beside (o:=h0) hp).ext (p:=p) (o:=o0) (by rw [ae];exact fun z=>nomatch z) np gp no (ob _ _ _ _ _ ae)
       have rd:RD F.W (ρ ++ [p]) G (.ref s.st.length) (.ref p):=⟨p,by rw [List.getElem?_append_right (by rw [rep.rl];exact Nat.le_refl _),rep.rl];simp,rfl⟩
       cases q1:s.st[n]? with
       | none=>rw [q1] at post;exact post.elim
       | some o=>
         rw [q1] at post
         cases q2:cn F.Γ o f (.ref s.st.length) with
         | none=>rw [show ((some o).bind fun o=>cn F.Γ o f (.ref s.st.length))=none from q2] at post;exact post.elim
         | some o'=>
           rw [show ((some o).bind fun o=>cn F.Γ o f (.ref s.st.length))=some o' from q2] at post
           have hn:n<s.st.length:=(List.getElem?_eq_some_iff.mp q1).1
           obtain ⟨C,dx,fs,e1,e2,e3,e4,e5⟩:=i4 (n:=n) T repC (gu pre ea) rd (by show (s.st ++ [o0])[n]? = some o;rw [List.getElem?_append_left hn];exact q1) q2
           refine ⟨.ref a1,hv,a1,C,dx,fs,rfl,e1,e2,e3,e4,post σ _ (ρ ++ [p]) G ⟨pre,.refl _,fun _ _ e=>.inl e,fun a m=>?_,fun a z=>?_,fun a u e n1 _=>?_,fun a z=>.inl z⟩ e5⟩
           ·rcases List.mem_append.mp m with m | m
            ·exact .inl m
            ·rw [List.mem_singleton] at m;subst m;exact .inr hp
           ·by_cases w:a=a1
            ·subst w;rw [ae];exact fun z=>nomatch z
            ·rw [aa w,aa fun w=>z (by rw [w];exact hp)];exact z
           ·rw [aa fun w=>n1 (by rw [w];exact List.mem_of_getElem? ea),aa (ak e hp)];exact e
     | _=>exact post.elim
theorem uA (T:∀ c k,F.Γ.cl[c]? = some k→∃ i,gA F X an c k i) {i f:Nat} {x:Str} {p pos p1 p2:Pos} (hN:X.N[i]? = some x) (hv:Vis X.env.scope x) (hd:(x == ("__debug__":Str))=false) (hcd:(x == ("__classdict__":Str))=false):PS X (.Assign [.Attribute (.Name x p1) (an f) p] (.Dict [] [] p2) pos) (LS F (.fld (.v i) f (.dic .nil))):=aN (dZ (fw hN hv hd hcd) hW g8) fun Z σ H ⟨ρ,G,s,rep,post⟩ p hp=>
 i5 (o0:=.dic [] []) (h0:=.dK []) T (fun W ρ G H p h=>⟨[],h,rfl,rfl⟩) rep post hp
theorem uB (T:∀ c k,F.Γ.cl[c]? = some k→∃ i,gA F X an c k i) {i f:Nat} {x:Str} {p pos p1 p2:Pos} (hN:X.N[i]? = some x) (hv:Vis X.env.scope x) (hd:(x == ("__debug__":Str))=false) (hcd:(x == ("__classdict__":Str))=false):PS X (.Assign [.Attribute (.Name x p1) (an f) p] (.List [] p2) pos) (LS F (.fld (.v i) f (.lst .nil))):=aN (dZ (fw hN hv hd hcd) (hX jT) g8) fun Z σ H ⟨ρ,G,s,rep,post⟩=>
 ⟨Nat.zero_le _,fun p hp=>i5 (o0:=.lst []) (h0:=.lst []) T (fun W ρ G H p h=>⟨[],h,rfl⟩) rep post hp⟩
end
section
variable {T:Ns}
theorem p5 {T:Ns} {i:Nat} {x:Str} (h:T.at_[i]? = some x):T.an i=x:=by unfold Ns.an;rw [List.getD_eq_getElem?_getD,h];rfl
noncomputable def v9 (nm:NK) (N:List Str) (y:Str) (p1:Pos) (x:Str) (p pos p2:Pos):Option (GS T nm N (.Assign [.Attribute (.Name y p1) x p] (.Dict [] [] p2) pos)×GS T nm N (.Assign [.Attribute (.Name y p1) x p] (.List [] p2) pos)):=do
 let j ← ba x T.at_
 let i ← ba y N
 let hl ← yes (fQ nm y)
 let hd ← no (y == ("__debug__":Str))
 let hc ← no (y == ("__classdict__":Str))
 some (⟨.fld (.v i.1) j.1 (.dic .nil),fun F X k=>by
  have h:=uA (F:=F) (X:=X) (p:=p) (pos:=pos) (p1:=p1) (p2:=p2) (f:=j.1) k.cls (by rw [k.hN];exact i.2) (cQ k.sc hl.down) hd.down hc.down
  rw [p5 j.2] at h
  exact h⟩,⟨.fld (.v i.1) j.1 (.lst .nil),fun F X k=>by
  have h:=uB (F:=F) (X:=X) (p:=p) (pos:=pos) (p1:=p1) (p2:=p2) (f:=j.1) k.cls (by rw [k.hN];exact i.2) (cQ k.sc hl.down) hd.down hc.down
  rw [p5 j.2] at h
  exact h⟩)
noncomputable def Bd (f:aK T) (nm:NK) (N:List Str) (eo:Expr) (x:Str) (p:Pos) (ee:Expr) (pos:Pos):Option (GS T nm N (.Assign [.Attribute eo x p] ee pos)):=do
 let j ← ba x T.at_
 let o ← f nm N eo
 let e ← f nm N ee
 let hp ← yes (jY e.1)
 some ⟨.fld o.1 j.1 e.1,fun F X k=>by
  have h:=x9 (F:=F) (X:=X) (p:=p) (pos:=pos) (f:=j.1) k.cls hp.down (o.2 F X k.toCxOk true) (e.2 F X k.toCxOk false)
  rw [p5 j.2] at h
  exact h⟩
noncomputable def zv (f:aK T) (nm:NK) (N:List Str):(eo:Expr)→(x:Str)→(p:Pos)→(ee:Expr)→(pos:Pos)→Option (GS T nm N (.Assign [.Attribute eo x p] ee pos))
 | .Name y p1,x,p,.Dict [] [] p2,pos=>(v9 nm N y p1 x p pos p2).map (·.1)
 | .Name y p1,x,p,.List [] p2,pos=>(v9 nm N y p1 x p pos p2).map (·.2)
 | eo,x,p,ee,pos=>Bd f nm N eo x p ee pos
end
end L2.Ev
end
section
namespace L2.Ex
open PySem.W
noncomputable def wP (K:Frag) (B:Addr) (k:Nat) (ts:TS) (D:eY) (σ:St):XK:=fun cls dx H2=>∃ C,cls = .ref C∧mroIn K C (.ref B)=some true∧(∀ d,dx=some d→∃ o,H2 d=some o) ∧
 ∀ a,H2 a=none→ts { nx:=fun σ' H'=>D.nx (σ'.set k none) H',rt:=D.rt } (σ.set k (some (.ref a))) (upd H2 a (XQ false a C dx))
theorem tU {X:Cx} {pins:List (Addr×Obj)} {σ:St} {H1:Hp} {s1 s':Shared} {e:Value} {B:Addr} {Bn n:Str} {np hpos:Pos} {k:Nat} {b₀:Stmt} {suite:List Stmt} {rest:List ExceptHandler} {ts:TS} {D:eY}
 (I:Inv X pins σ H1 s1) (x:CXF X.prog X.w X.stack H1 s1 (wP X.K B k ts D σ) e s') (Y:iO X.K B) (hm:X.mg Bn=some (.ref B)) (hN:X.N.Nodup) (hk:X.N[k]? = some n) (hl:X.env.scope.names.lookup n=some .local) (hS:∀ a,PSs (dA X (.ref a)) (b₀ :: suite) ts)
 (hst:X.stack=X.env :: X.outer) (hf:X.env.frame=some X.env.locals) (hex:X.ex = []) (hc:X.calm=true) (hg:Gl X Bn) (hdb:(Bn == ("__debug__":Str))=false) :
 wpAny (model X.prog X.w) X.A (noteFrame e X.env) (fun _ s₂=>wpAny (model X.prog X.w) X.A (setFlight e none) (fun _ s₃=>wpAny (model X.prog X.w) X.A (handleBy e X.env (.ExceptHandler (some (.Name Bn np)) (some n) (b₀ :: suite) hpos :: rest)) (SP X pins D) X.xe s₃) X.xe s₂) X.xe s':=by
 obtain ⟨a,T,cls,dx,H',rfl,t,na,nT,ua,uT,os,bare,un,hok,C,rfl,hsub,there,q⟩:=x
 have I':Inv X pins σ H' s':=I.call' os un hok bare (fun _ z=>nomatch z)
 have qa0:=Inv.strange I hex na
 have qT0:=Inv.strange I hex nT
 have qa:eA X pins H' a:=⟨qa0.s0,ua,qa0.nl,qa0.nc,qa0.np⟩
 have qT:eA X pins H' T:=⟨qT0.s0,uT,qT0.nl,qT0.nc,qT0.np⟩
 have hfr:X.A.frames=some (X.env :: X.outer):=by rw [← hst];exact I.ok.frames
 have hd:=I.ok.hd hc
 have st':=I'.stack
 rw [hst] at st'
 refine jk hfr st' hf t fun h2 T2 n2 t2 y2=>?_
 have qT2:=Inv.strange I' hex n2
 rw [← hst] at y2
 have I2:=Inv.wr (t':=s'.toks) I' hex y2 (fun b hb=>by
  rcases List.mem_cons.mp hb with z | z
  ·rw [z];exact qa
  ·rw [List.mem_singleton.mp z];exact qT)
 refine d6 (S:=frs X.stack) (fr:=none) t2 fun h3 t3 y3=>?_
 have I3:=Inv.wr (t':=s'.toks) I2 hex y3 (fun b hb=>by rw [List.mem_singleton.mp hb];exact qT2)
 refine wpAny_handleBy_cons ?_ (fun z=>nomatch z)
 refine codeAny_handlers_test ?_
 have J3:=i9 (.ref a) I3
 refine cG (X:=dA X (.ref a)) J3 hg hm ?_ hdb
 obtain ⟨oe,vs,oT,tt,he,⟨hcl,hdi⟩,hda,h1,ne,hT,hdT,h3'⟩:=id t3
 refine mr I3.kIn Y he hcl hsub ?_
 show codeAny _ _ _ _ _
 refine codeAny_handlers_suite_as ?_
 refine d6 (S:=frs X.stack) (fr:=none) t3 fun h4 t4 y4=>?_
 have I4:=Inv.wr (t':=s'.toks) I3 hex y4 (fun b hb=>by rw [List.mem_singleton.mp hb];exact qT2)
 obtain ⟨oe4,vs4,oT4,tt4,he4,⟨hcl4,hdi4⟩,hda4,h14,_⟩:=id t4
 have neD:∀ d,dx=some d→d≠a:=fun d z w=>by
  obtain ⟨o,e⟩:=there d z
  rw [w,ua] at e
  cases e
 have I5:=Inv.track I4 qa (tE ⟨oe4,vs4,he4,hcl4,hda4,⟨Nat.lt_of_lt_of_le Nat.zero_lt_one (Nat.le_of_lt (Array.getElem?_eq_some_iff.mp h14).1),fun z=>nomatch z⟩,hdi4,fun d z=>neD d z⟩:aC X.prog X.w (upd H' a (XQ false a C dx)) h4 a (XQ false a C dx))
 have J5:=i9 (.ref a) I5
 refine io (X:=dA X (.ref a)) (i:=k) (v:=.ref a) J5 hN hk (Or.inl hl) rfl (fun s6 J6=>?_) (.inr hl)
 refine wpAny_mono (hS a pins s6 _ _ _ J6 (q a ua)) (fun f s7 z=>?_) (fun _ _ z=>False.elim z)
 cases f with
 | next=>
   obtain ⟨σ',H'',J7,dn⟩:=z
   have I7:=nM hd J7
   obtain ⟨m,hn,_⟩:=I7.loc
   refine jj hl hn (by rw [I.ok.kind];rfl) fun h8 v n8 s8=>?_
   exact ⟨σ'.set k none,H'',Inv.gone I7 hk hl hn n8 s8 hN,dn⟩
 | ret u=>
   obtain ⟨v,σ',H'',J7,rv,dn⟩:=z
   have I7:=nM hd J7
   obtain ⟨m,hn,_⟩:=I7.loc
   refine jj hl hn (by rw [I.ok.kind];rfl) fun h8 v8 n8 s8=>?_
   exact ⟨v,σ'.set k none,H'',Inv.gone I7 hk hl hn n8 s8 hN,rv,dn⟩
 | brk=>obtain ⟨_,_,_,z⟩:=z;exact z.elim
 | cont=>obtain ⟨_,_,_,z⟩:=z;exact z.elim
theorem CXF.imp {P:Program} {w:World} {outer:List Env} {H:Hp} {s s':Shared} {E E':XK} {e:Value} (h:CXF P w outer H s E e s') (i:∀ cls dx H',E cls dx H'→E' cls dx H'):CXF P w outer H s E' e s':=by
 obtain ⟨a,T,cls,dx,H',h1,h2,h3,h4,h5,h6,h7,h8,h9,h10,h11⟩:=h
 exact ⟨a,T,cls,dx,H',h1,h2,h3,h4,h5,h6,h7,h8,h9,h10,i _ _ _ h11⟩
end L2.Ex
namespace L2.Ev
open L2.Bw L2.Bk L2.Ex
theorem b7.less {ρ ρ':List Addr} {G H G' H':Hp} {Ow Ow1 Ow2:Addr→Prop} (x:b7 ρ G H Ow ρ' G' H' Ow1) (l:∀ a,Ow2 a→Ow1 a):b7 ρ G H Ow ρ' G' H' Ow2:=⟨x.pr,x.gg,x.gn,x.rn,x.th,x.fr,fun a z=>x.ow a (l a z)⟩
theorem Rep.unset {W:Wd} {ρ:List Addr} {G H:Hp} {s:Sta} {σ:St} (rep:Rep W ρ G s σ H) (i:Nat):Rep W ρ G ⟨s.env.set i none,s.ow.filter (· != i),s.st⟩ (σ.set i none) H:=by
 have ne:∀ j,j∈s.ow.filter (· != i)→j∈s.ow∧j≠i:=fun j m=>⟨(List.mem_filter.mp m).1,by simpa using (List.mem_filter.mp m).2⟩
 refine ⟨rep.gh,rep.rl,rep.rn,rep.rg,rep.ob,by simp [rep.el],fun j e nj h=>?_,fun j m=>?_,fun j l a m1 m2 e1 e2=>?_⟩
 ·by_cases z:j=i
  ·subst z
   have hl:j<s.env.length:=by have:=(List.getElem?_eq_some_iff.mp h).1;simpa using this
   have h':(s.env.set j none)[j]? = some (some e):=h
   rw [List.getElem?_set_self hl] at h'
   cases h'
  ·have h':(s.env.set i none)[j]? = some (some e):=h
   rw [List.getElem?_set_ne (Ne.symm z)] at h'
   obtain ⟨w,e1,r1⟩:=rep.en j e (fun m=>nj (List.mem_filter.mpr ⟨m,by simpa using z⟩)) h'
   exact ⟨w,by rw [List.getElem?_set_ne (Ne.symm z)];exact e1,r1⟩
 ·obtain ⟨m1,z⟩:=ne j m
  obtain ⟨e,a,e1,e2,r1⟩:=rep.eo j m1
  exact ⟨e,a,by show (s.env.set i none)[j]? = _;rw [List.getElem?_set_ne (Ne.symm z)];exact e1,by rw [bF z];exact e2,r1⟩
 ·obtain ⟨a1,z1⟩:=ne j m1
  obtain ⟨a2,z2⟩:=ne l m2
  rw [bF z1] at e1
  rw [bF z2] at e2
  exact rep.od j l a a1 a2 e1 e2
structure CxB (T:Ns) (F:Fx) (X:Cx) (nm:NK) (N:List Str):Prop extends CxOk T F X nm N where
 fnx:∀ x,X.fn x=true
structure pX (T:Ns) (F:Fx) (X:Cx) (nm:NK) (N:List Str):Prop where
 hK:F.W.K=X.K
 hN:X.N=N
 nd:N.Nodup
 sc:X.env.scope.names=nm
 fnx:∀ x,X.fn x=true
 cls:∀ c k,F.Γ.cl[c]? = some k→∃ i,gA F X T.an c k i
noncomputable abbrev GB (T:Ns) (nm:NK) (N:List Str) (st:List Stmt):={c:S // ∀ F X,CxB T F X nm N→PSs X st (LS F c)}
noncomputable abbrev GU (T:Ns) (nm:NK) (N:List Str) (st:List Stmt):={c:S // ∀ F X,pX T F X nm N→PSs X st (LS F c)}
theorem yb {T:Ns} {nm:NK} {N:List Str} {F:Fx} {X:Cx} (k:CxS T F X nm N) {body suite:List Stmt} {b₀:Stmt} {a b:S} {j i:Nat} {Bn n:Str} {np hpos pos:Pos}
 (hB:∀ F X,CxB T F X nm N→PSs X body (LS F a)) (hS:∀ F X,pX T F X nm N→PSs X (b₀ :: suite) (LS F b)) (hj:T.hx[j]? = some Bn) (hz:Bn≠"") (hg:bD nm Bn=true) (hdb:(Bn == ("__debug__":Str))=false) (hi:N[i]? = some n) (hl:nm.lookup n=some .local) :
 PS X (.Try body [.ExceptHandler (some (.Name Bn np)) (some n) (b₀ :: suite) hpos] [] [] pos) (LS F (.try_ a (.hand j (some i) b .skip))):=by
 intro pins s σ H D I h
 obtain ⟨ρ,G,st,rep,post⟩:=h
 let Ec:EX:=fun σ1 cls dx H1=>∃ c l s1 ρ1 G1,b7 ρ G H (Own st σ) ρ1 G1 H1 (Own s1 σ1)∧Rep F.W ρ1 G1 s1 σ1 H1∧XR F.W ρ1 G1 c l cls dx∧F.exS a st = .exc c l s1
 let F':Fx:={ F with ex:=Ec }
 let Y0:Cx:={ X with pn:=X.pn ++ pins }
 let Zx:Value→Shared→Prop:=fun e s'=>∃ pins' σ1 H1 s1,Inv Y0 pins' σ1 H1 s1∧CXF X.prog X.w X.stack H1 s1 (Ec σ1) e s'
 have toX:∀ {pins':List (Addr×Obj)} {σ1:St} {H1:Hp} {s1:Shared},Inv Y0 pins' σ1 H1 s1→Inv X pins σ1 H1 s1:=fun {pins' σ1 H1 s1} J=>
  ⟨⟨J.ok.mod,J.ok.kind,J.ok.glob,J.ok.blt,J.ok.above,J.ok.inj,J.ok.has,J.ok.cab,J.ok.hd,J.ok.frames,J.ok.stk,J.ok.exf,J.ok.bs,J.ok.bsz,J.ok.noex,J.ok.exfs,J.ok.funs,J.ok.frf⟩,J.os,J.bare,J.base,J.loc,J.cell,J.free,J.freeC,fun p hp=>J.pin p (List.mem_append_left _ hp),J.hok,J.len⟩
 have iY:Inv (Y0.wish Zx) [] σ H s:=
  ⟨⟨I.ok.mod,I.ok.kind,I.ok.glob,I.ok.blt,I.ok.above,I.ok.inj,I.ok.has,I.ok.cab,I.ok.hd,I.ok.frames,I.ok.stk,I.ok.exf,I.ok.bs,I.ok.bsz,I.ok.noex,I.ok.exfs,I.ok.funs,I.ok.frf⟩,I.os,I.bare,I.base,I.loc,I.cell,I.free,I.freeC,fun p hp=>I.pin p (by have hp':p∈(X.pn ++ pins) ++ []:=hp;rw [List.append_nil] at hp';exact hp'),I.hok,I.len⟩
 have cl':∀ c q,F.Γ.cl[c]? = some q→∃ i,gA F' (Y0.wish Zx) T.an c q i:=fun c q hq=>by
  obtain ⟨i,w⟩:=k.cls c q hq
  exact ⟨i,w.ci,w.cls,w.na,w.cl,w.wh,w.nm,w.nd,w.xc⟩
 have kY:CxB T F' (Y0.wish Zx) nm N:=⟨⟨k.hK,k.hN,k.nd,k.sc,k.kd,k.calm,k.room,fun pins' σ1 H1 s1 e s' J c=>⟨pins',σ1,H1,s1,J.unwish,c⟩,fun j x h=>(by
  obtain ⟨m,f,h1,h2⟩:=k.fns j x h
  exact ⟨m,f,⟨h1.ex⟩,h2⟩),k.gls,k.tbs,k.blt,cl',fun q h=>(by
  obtain ⟨n,f,i,h1,h2,h3,h4,h5⟩:=k.mts q h
  exact ⟨n,f,i,⟨h1.ex⟩,h2,h3,⟨h4.ci,h4.cls,h4.na⟩,h5⟩),fun j x h hz=>(by
  obtain ⟨n,f,i,cl,h1,h2⟩:=k.nws j x h hz
  exact ⟨n,f,i,cl,⟨h1.ex⟩,h2⟩),fun j x h hz=>k.nds j x h hz,fun j x h hz=>k.hxs j x h hz⟩,k.fnx⟩
 have post:aL F.W F.ex D H ρ G (Own st σ) (match F.exS a st with
  | .exc c l s'=>(if ((F.Γ.cl[c]?).any fun k=>c == j || k.sup.contains j) then
    (match F.exS b ⟨s'.env.set i (some (.ins c l)),s'.ow.filter (· != i),s'.st⟩ with
     | .nx s=>.nx ⟨s.env.set i none,s.ow.filter (· != i),s.st⟩
     | .rt d s=>.rt d s
     | _=>.bad) else .bad)
  | r=>r):=post
 have hLS:LS F' a D σ H:=by
  refine ⟨ρ,G,st,rep,?_⟩
  show aL F.W Ec D H ρ G (Own st σ) (F.exS a st)
  cases q:F.exS a st with
  | nx s1=>rw [q] at post;exact post
  | rt d s1=>rw [q] at post;exact post
  | exc c l s1=>exact fun σ' cls dx H' ρ' G' x1 x2 x3=>⟨c,l,s1,ρ',G',x1,x2,x3,q⟩
  | bad=>rw [q] at post;exact post
 refine wpAny_Try_except (wpAny_mono (hB F' _ kY [] s σ H D iY hLS) (fun f s1 z=>?_) fun e s1 z=>?_)
 ·cases f with
  | next=>obtain ⟨σ',H',J,q⟩:=z;exact wpAny_execs_nil ⟨σ',H',toX J.unwish,q⟩
  | ret u=>obtain ⟨v,σ',H',J,r,q⟩:=z;exact ⟨v,σ',H',toX J.unwish,r,q⟩
  | brk=>obtain ⟨σ',H',J,q⟩:=z;exact ⟨σ',H',toX J.unwish,q⟩
  | cont=>obtain ⟨σ',H',J,q⟩:=z;exact ⟨σ',H',toX J.unwish,q⟩
 ·obtain ⟨pins',σ1,H1,s2,J,xx⟩:=z
  obtain ⟨ib,hib,hmg,hexc,hsup⟩:=k.hxs j Bn hj hz
  let F2:Fx:={ F with ex:=fun _=>E0 }
  have su:∀ a',pX T F2 (dA X (.ref a')) nm N:=fun a'=>⟨k.hK,k.hN,k.nd,k.sc,k.fnx,fun c q hq=>by
   obtain ⟨i,w⟩:=k.cls c q hq
   exact ⟨i,w.ci,w.cls,w.na,w.cl,w.wh,w.nm,w.nd,w.xc⟩⟩
  have hlk:X.env.scope.names.lookup n=some .local:=by rw [k.sc];exact hl
  refine tU (k:=i) (ts:=LS F2 b) (D:=D) (toX J) (xx.imp fun cls dx H' ec=>?_) hexc hmg (by rw [k.hN];exact k.nd) (by rw [k.hN];exact hi) hlk (fun a'=>hS F2 _ (su a')) k.stk k.frm k.exn k.calm (bG k.sc hg) hdb
  obtain ⟨c,l,s3,ρ1,G1,stp,rep1,xr,ea⟩:=ec
  rw [ea] at post
  dsimp only at post
  obtain ⟨ic,hci,hw2,rfl,hlen,alt⟩:=xr
  by_cases cond:((F.Γ.cl[c]?).any fun k=>c == j || k.sup.contains j)=true
  ·rw [if_pos cond] at post
   obtain ⟨kc,hk,hc2⟩:∃ kc,F.Γ.cl[c]? = some kc∧(c == j || kc.sup.contains j)=true:=by
    cases q:F.Γ.cl[c]? with
    | none=>rw [q] at cond;cases cond
    | some kc=>rw [q] at cond;exact ⟨kc,rfl,cond⟩
   refine ⟨ic.ad,rfl,hsup c kc ic hk hci hc2,fun d hd=>?_,fun a' ha=>?_⟩
   ·rcases alt with ⟨_,e0⟩ | ⟨d',vs,e0,e1,_⟩
    ·rw [e0] at hd;cases hd
    ·rw [e0] at hd;cases hd;exact ⟨_,rep1.gh _ _ e1⟩
   ·obtain ⟨rep2,stp2⟩:=rep1.new (o:=XQ false a' ic.ad dx) (Ow:=Own s3 σ1) ha
    have sg:=aV (o:=XQ false a' ic.ad dx) (aI rep1.gh ha)
    have rd:RD F.W ρ1 (upd G1 a' (XQ false a' ic.ad dx)) (.ins c l) (.ref a'):=by
     rcases alt with ⟨e0,e1⟩ | ⟨d',vs,e0,e1,e2⟩
     ·subst e0 e1
      exact ⟨a',ic,[],rfl,hci,Nat.zero_le _,.inr ⟨hw2,false,.inl ⟨rfl,ae⟩⟩,rfl⟩
     ·subst e0
      exact ⟨a',ic,vs,rfl,hci,hlen,.inr ⟨hw2,false,.inr ⟨d',ae,sg _ _ e1⟩⟩,e2.mono (List.prefix_refl _) sg⟩
    have rep3:=rep2.bind1 rd i
    refine ⟨ρ1,_,_,rep3,?_⟩
    have s12:b7 ρ1 G1 H' (Own s3 σ1) ρ1 (upd G1 a' (XQ false a' ic.ad dx)) (upd H' a' (XQ false a' ic.ad dx)) (Own ⟨s3.env.set i (some (.ins c l)),s3.ow.filter (· != i),s3.st⟩ (σ1.set i (some (.ref a')))):=.of stp2 fun x z=>.inl (gq z)
    show aL F.W (fun _=>E0) _ _ ρ1 _ _ (F.exS b _)
    cases q:F.exS b ⟨s3.env.set i (some (.ins c l)),s3.ow.filter (· != i),s3.st⟩ with
    | nx s4=>
      rw [q] at post
      exact fun σ5 H5 ρ5 G5 stp5 rep5=>post (σ5.set i none) H5 ρ5 G5 (((stp.trans s12).trans stp5).less fun x z=>gq z) (rep5.unset i)
    | rt d s4=>
      rw [q] at post
      exact fun v σ5 H5 ρ5 G5 stp5 rep5 r5=>post v σ5 H5 ρ5 G5 ((stp.trans s12).trans stp5) rep5 r5
    | exc c' l' s4=>rw [q] at post;exact post.elim
    | bad=>rw [q] at post;exact post.elim
  ·rw [if_neg cond] at post;exact post.elim
section
variable {T:Ns}
theorem jP {X:Cx} {nm:NK} (sc:X.env.scope.names=nm) (fnx:∀ x,X.fn x=true) {x:Str} (h:dG true nm x=true):Loc X.env.scope x∧(X.fn x=true∨X.env.scope.names.lookup x=some .local):=by
 have l1:nm.lookup x=some .local∨nm.lookup x=some .cell:=by
  unfold dG at h
  simpa using h
 refine ⟨?_,.inl (fnx x)⟩
 show X.env.scope.names.lookup x=_∨X.env.scope.names.lookup x=_
 rw [sc]
 exact l1
mutual
noncomputable def cBo (f:aK T) (g:eu T) (nm:NK) (N:List Str):(n:Nat)→(st:Stmt)→Option {c:S // ∀ F X,CxB T F X nm N→PS X st (LS F c)}
 | _+1,.Return (some e) pos=>(f nm N e).map fun a=>⟨.ret a.1,fun F X k=>mw (bW F) (a.2 F X k.toCxOk false)⟩
 | _+1,.Expr e pos=>do
   let hn ← yes (fq e)
   let a ← f nm N e
   some ⟨.drop a.1,fun F X k=>nW (bW F) (a.2 F X k.toCxOk false) (bI hn.down)⟩
 | _+1,.Assign [.Name x p] e pos=>do
   let i ← ba x N
   let hl ← yes (dG true nm x)
   let hn ← yes (fq e)
   let a ← f nm N e
   let hf ← no (fresh a.1)
   some ⟨.set i.1 a.1,fun F X k=>mx (bW F) hf.down (by rw [k.hN];exact k.nd) (by rw [k.hN];exact i.2) (jP k.sc k.fnx hl.down).1 (a.2 F X k.toCxOk false) (bI hn.down) (jP k.sc k.fnx hl.down).2⟩
 | n+1,.If e sa sb pos=>do
   let c ← g nm N e
   let a ← tS f g nm N n sa
   let b ← tS f g nm N n sb
   some ⟨.ifs c.1 a.1 b.1,fun F X k=>wm (bW F) (c.2 F X k.toCxOk) (a.2 F X k) (b.2 F X k)⟩
 | _,_=>none
noncomputable def tS (f:aK T) (g:eu T) (nm:NK) (N:List Str):(n:Nat)→(st:List Stmt)→Option (GB T nm N st)
 | 0,_=>none
 | _+1,[]=>some ⟨.skip,fun F X k=>ms⟩
 | n+1,[a]=>(cBo f g nm N n a).map fun x=>⟨x.1,fun F X k=>mv (x.2 F X k)⟩
 | n+1,a :: b :: r=>do
   let x ← cBo f g nm N n a
   let y ← tS f g nm N n (b :: r)
   some ⟨.seq x.1 y.1,fun F X k=>jR (x.2 F X k) (y.2 F X k)⟩
end
theorem xg {X:Cx} {a:Expr} {x y:Str} {pos:Pos} {t:TE} (e:x=y) (h:PE X (.Attribute a x pos) t):PE X (.Attribute a y pos) t:=e ▸ h
noncomputable def zF (nm:NK) (N:List Str):(e:Expr)→Option {c:E // ∀ F X,pX T F X nm N→∀ br,PE X e (LE F br c)}
 | .Name x pos=>do
   let hd ← no (x == ("__debug__":Str))
   let hc ← no (x == ("__classdict__":Str))
   let hl ← yes (fQ nm x)
   let i ← ba x N
   some ⟨.v i.1,fun F X k br=>xX (by rw [k.hN];exact i.2) (cQ k.sc hl.down) hd.down hc.down⟩
 | .Constant c j pos=>match c with
   | .none=>some ⟨.c .non,fun F X k br=>kX sj fun _ _=>rfl⟩
   | .bool b=>some ⟨.c (.bl b),fun F X k br=>kX wp fun _ _=>rfl⟩
   | .int i=>some ⟨.c (.int i),fun F X k br=>kX se fun _ _=>rfl⟩
   | .str x=>some ⟨.c (.str x),fun F X k br=>kX fu fun _ _=>rfl⟩
   | _=>none
 | .Attribute (.Name y p) x pos=>do
   let hd ← no (y == ("__debug__":Str))
   let hc ← no (y == ("__classdict__":Str))
   let hl ← yes (fQ nm y)
   let i ← ba y N
   let j ← ba x T.at_
   let hs ← yes (bd (.Name y p))
   some ⟨.fld (.v i.1) j.1,fun F X k br=>by
    have e:T.an j.1=x:=by unfold Ns.an;rw [List.getD_eq_getElem?_getD,j.2];rfl
    refine xg e ?_
    exact rm k.cls (xX (by rw [k.hN];exact i.2) (cQ k.sc hl.down) hd.down hc.down) (bn hs.down)⟩
 | _=>none
noncomputable def cSu (nm:NK) (N:List Str):(st:Stmt)→Option {c:S // ∀ F X,pX T F X nm N→PS X st (LS F c)}
 | .Return (some e) pos=>(zF nm N e).map fun a=>⟨.ret a.1,fun F X k=>mw (bW F) (a.2 F X k false)⟩
 | .Assign [.Name x p] e pos=>do
   let i ← ba x N
   let hl ← yes (dG true nm x)
   let hn ← yes (fq e)
   let a ← zF nm N e
   let hf ← no (fresh a.1)
   some ⟨.set i.1 a.1,fun F X k=>mx (bW F) hf.down (by rw [k.hN];exact k.nd) (by rw [k.hN];exact i.2) (jP k.sc k.fnx hl.down).1 (a.2 F X k false) (bI hn.down) (jP k.sc k.fnx hl.down).2⟩
 | _=>none
noncomputable def zG (nm:NK) (N:List Str):(st:List Stmt)→Option (GU T nm N st)
 | []=>some ⟨.skip,fun F X k=>ms⟩
 | [a]=>(cSu nm N a).map fun x=>⟨x.1,fun F X k=>mv (x.2 F X k)⟩
 | a :: b :: r=>do
   let x ← cSu nm N a
   let y ← zG nm N (b :: r)
   some ⟨.seq x.1 y.1,fun F X k=>jR (x.2 F X k) (y.2 F X k)⟩
noncomputable def Br (f:aK T) (g:eu T) (nm:NK) (N:List Str) (n:Nat) (body:List Stmt):(hs:List ExceptHandler)→(pos:Pos)→Option (GS T nm N (.Try body hs [] [] pos))
 | [.ExceptHandler (some (.Name Bn np)) (some x) (b₀ :: suite) hpos],pos=>do
   let j ← ba Bn T.hx
   let hz ← no (Bn == ("":Str))
   let hg ← yes (bD nm Bn)
   let hd ← no (Bn == ("__debug__":Str))
   let i ← ba x N
   let hl ← yes (nm.lookup x == some .local)
   let a ← tS f g nm N n body
   let b ← zG nm N (b₀ :: suite)
   some ⟨.try_ a.1 (.hand j.1 (some i.1) b.1 .skip),fun F X k=>yb k a.2 b.2 j.2 (by simpa using hz.down) hg.down hd.down i.2 (by simpa using hl.down)⟩
 | _,_=>none
theorem rC {F:Fx} {X:Cx} {st:Stmt}:PS X st (LS F (.hand 0 none .skip .skip)):=fun pins s σ H D I h=>by
 obtain ⟨ρ,G,s,rep,post⟩:=h
 exact post.elim
end
section
variable {T:Ns} {nm:NK} {N:List Str}
mutual
noncomputable def Bo (f:aK T) (g:eu T) (nm:NK) (N:List Str):(n:Nat)→(st:Stmt)→Option (GS T nm N st)
 | 0,_=>none
 | _+1,.Pass pos=>some ⟨.skip,fun F X k=>nX ve⟩
 | _+1,.Return none pos=>some ⟨.ret (.c .non),fun F X k=>uD⟩
 | _+1,.Return (some e) pos=>(f nm N e).map fun a=>⟨.ret a.1,fun F X k=>mw (bW F) (a.2 F X k.toCxOk false)⟩
 | _+1,.Expr (.Constant (.str x) j p) pos=>some ⟨.skip,fun F X k=>nX yL⟩
 | _+1,.Expr (.Call (.Attribute (.Name x p) m ap) [e] [] cp) pos=>(Ba f nm N x p m ap e cp pos).orElse fun _=>v7 f nm N _ pos
 | _+1,.Expr e pos=>v7 f nm N e pos
 | _+1,.Assign [.Name x p] e pos=>zD f g nm N x p pos e
 | _+1,.Assign [.Subscript (.Name x p) eb p2] ee pos=>Bl f nm N x p eb p2 ee pos
 | _+1,.Raise (some (.Call (.Name x np) args [] cp)) none pos=>wV f nm N x np args cp pos
 | _+1,.Assign [.Attribute eo x p] ee pos=>zv f nm N eo x p ee pos
 | _+1,.Assign [.Tuple es j p] e pos=>do
   let t ← y8 true nm N es
   let h ← yes (wo e)
   let a ← f nm N e
   some ⟨.setT t.1 a.1,fun F X k=>uF k.hK (a.2 F X k.toCxOk false) (sr k.calm (t.2.pg X k.tg) (t.2.len _) (t.2.fst _)) rN (py h.down) rfl⟩
 | n+1,.If e sa sb pos=>do
   let c ← g nm N e
   let a ← qi f g nm N n sa
   let b ← qi f g nm N n sb
   some ⟨.ifs c.1 a.1 b.1,fun F X k=>wm (bW F) (c.2 F X k.toCxOk) (a.2 F X k) (b.2 F X k)⟩
 | n+1,.For tg iter body [] pos=>do
   let it ← wa (f nm N) tg iter
   let q ← tgP true nm N tg
   let hn ← yes (aP iter)
   let b ← qi f g nm N n body
   some ⟨.for_ q.1.1 q.1.2 it.1 b.1,fun F X k=>ya k.hK k.own k.calm (it.2 F X k.toCxOk) (q.2 X k.tg) (b.2 F X k) (i6 hn.down)⟩
 | n+1,.Try body hs [] [] pos=>Br f g nm N n body hs pos
 | _,_=>none
noncomputable def cSt (f:aK T) (g:eu T) (nm:NK) (N:List Str):(n:Nat)→(st:Stmt)→Option (GS T nm N st)
 | 0,st=>some ⟨.hand 0 none .skip .skip,fun F X k=>rC⟩
 | n+1,st=>some ((Bo f g nm N n st).getD ⟨.hand 0 none .skip .skip,fun F X k=>rC⟩)
noncomputable def qi (f:aK T) (g:eu T) (nm:NK) (N:List Str):(n:Nat)→(st:List Stmt)→Option (GSs T nm N st)
 | 0,_=>none
 | _+1,[]=>some ⟨.skip,fun F X k=>ms⟩
 | n+1,[a]=>(cSt f g nm N n a).map fun x=>⟨x.1,fun F X k=>mv (x.2 F X k)⟩
 | n+1,a :: b :: r=>do
   let x ← cSt f g nm N n a
   let y ← qi f g nm N n (b :: r)
   some ⟨.seq x.1 y.1,fun F X k=>jR (x.2 F X k) (y.2 F X k)⟩
end
end
noncomputable def bP (st:Stmt):List Str:=(bS st).args.map (·.arg)
noncomputable def kW (st:Stmt):List Str:=bP st ++ ((am st).names.filter fun y=>(y.2 == .local || y.2 == .cell) && !(bP st).contains y.1).map (·.1)
noncomputable def gJ (T:Ns) (st:Stmt):Option Fn:=(qi (jA T 200).1 (jA T 200).2 (am st).names (kW st) 200 (bf st)).map fun c=>⟨(bP st).length,(kW st).length,c.1⟩
structure wO (T:Ns) (W:Wd) (Γ:Gm) (ad:List Addr) (K:Fg) (mg:Str→Option Value):Prop where
 wk:W.K=K
 fns:∀ (j:Nat) (f:Addr),ad[j]? = some f→∃ x qual st fd fn,Fun K x qual st f fd∧a8 K fd (bP st) []∧bt (kW st) (bP st) (am st)∧Γ.fn[j]? = some fn∧gJ T st=some fn
 glb:∀ (j:Nat) (x:Str),T.fn[j]? = some x→∃ f,ad[j]? = some f∧mg x=some (.ref f)
 gls:∀ (j:Nat) (x:Str),T.gl[j]? = some x→∃ d u v,Γ.gl[j]? = some d∧mg x=some u∧ar v u∧∀ G,RK K G d v
 tbs:∀ (j:Nat) (x:Str),T.tb[j]? = some x→∃ t a,Γ.tb[j]? = some t∧mg x=some (.ref a)∧KTD.tabLook (aW K) (fun b=>K.lookup b) a t=true
 blt:∀ x∈T.bl,mg x=none
 mts:∀ q∈T.me,∃ f i,ad[q.2.2]? = some f∧oK K i.ad q.1 f∧W.ci[q.2.1]? = some i∧Cls K i.ad∧(∀ f∈i.nm,aJ K i.ad f)∧q.1 ∉ i.nm
 nws:∀ (j:Nat) (x:Str),T.nw[j]? = some x→x≠""→∃ f i cl,ad[cl.init]? = some f∧Mk K i.ad f∧Γ.cl[j]? = some cl∧cl.what=0∧W.ci[j]? = some i∧W.what[j]? = some 0∧mg x=some (.ref i.ad)
 nds:∀ (j:Nat) (x:Str),T.nd[j]? = some x→x≠""→∃ i cl f,Mk K i.ad f∧Γ.cl[j]? = some cl∧cl.what=1∧W.ci[j]? = some i∧W.what[j]? = some 1∧mg x=some (.ref i.ad)∧i.nm.length=cl.at_.length
 hxs:∀ (j:Nat) (x:Str),T.hx[j]? = some x→x≠""→∃ i,W.ci[j]? = some i∧mg x=some (.ref i.ad)∧iO K i.ad∧∀ c k ic,Γ.cl[c]? = some k→W.ci[c]? = some ic→(c == j || k.sup.contains j)=true→PySem.W.mroIn K ic.ad (.ref i.ad)=some true
 cls:∀ (F:Fx) (X:Cx),F.W=W→F.Γ=Γ→X.K=K→∀ c k,Γ.cl[c]? = some k→∃ i,gA F X T.an c k i
section
variable {P:Program} {w:World} {K:Fg} {mg:Str→Option Value} {base:Heap} {T:Ns} {W:Wd} {Γ:Gm} {ad:List Addr}
noncomputable def DaP (P:Program) (w:World) (K:Fg) (mg:Str→Option Value) (base:Heap) (i:CI) (f:Addr) (lv:Nat):Prop:=∃ fd ps,aR P w K mg base (CXF P w) lv f fd ps (vF i.ad i.nm)∧a8 K fd ps []
theorem jn (Pg:wO T W Γ ad K mg) {lv:Nat} (Rs:∀ (j:Nat) (x:Str),T.ex[j]? = some x→x≠""→RaP P w K mg base W Γ j x lv) (Ds:∀ (j:Nat) (x:Str),T.nd[j]? = some x→x≠""→∀ (i:CI) (f:Addr),W.ci[j]? = some i→Mk K i.ad f→DaP P w K mg base i f lv) (k:Nat)
 (ih:∀ (j:Nat) (f:Addr),ad[j]? = some f→∃ fd ps,aR P w K mg base (CXF P w) (lv+1+k) f fd ps (SpF W (ao Γ k) j)∧a8 K fd ps []∧PySem.W.keepIn K (.ref f)=true)
 (ih1:∀ (j:Nat) (f:Addr),ad[j]? = some f→∃ m fd ps,m+1≤lv+1+k∧aR P w K mg base (CXF P w) m f fd ps (SpF W (aY Γ k) j)∧a8 K fd ps []∧PySem.W.keepIn K (.ref f)=true)
 {j:Nat} {f:Addr} {x qual:Str} {st:Stmt} {fd:FuncData} {fn:Fn} (Fu:Fun K x qual st f fd) (S:bt (kW st) (bP st) (am st)) (hj:Γ.fn[j]? = some fn) (hc:gJ T st=some fn):aR P w K mg base (CXF P w) (lv+1+(k+1)) f fd (bP st) (SpF W (ao Γ (k+1)) j):=by
 unfold gJ at hc
 obtain ⟨c,_,rfl⟩:=Option.map_eq_some_iff.mp hc
 refine zN W Γ hj Fu S rfl rfl fun cdv A outer s H E hr=>c.2 _ _ ⟨⟨Pg.wk,rfl,S.nd,rfl,S.kind,rfl,hr.mono (Nat.zero_le _),?_,?_,?_,Pg.tbs,Pg.blt,?_,?_,?_,?_,Pg.hxs⟩,zf,fun _=>rfl,rfl,rfl,rfl,?_⟩
 ·exact fun pins σ H s e s' I q=>vN I.unwish rfl rfl rfl q
 ·intro i y hy
  obtain ⟨g,h1,h2⟩:=Pg.glb i y hy
  obtain ⟨fd',ps',h3⟩:=ih i g h1
  exact ⟨_,g,⟨fd',ps',h3⟩,hr,h2⟩
 ·intro i y hy
  obtain ⟨d,u,v,h1,h2,h3,h4⟩:=Pg.gls i y hy
  exact ⟨d,u,v,h1,h2,h3,fun G=>by show RK W.K G d v;rw [Pg.wk];exact h4 G⟩
 ·exact Pg.cls _ _ rfl rfl rfl
 ·intro q hq
  obtain ⟨g,i,h1,h2,h3,h4,h5,h6⟩:=Pg.mts q hq
  obtain ⟨fd',ps',h7⟩:=ih q.2.2 g h1
  exact ⟨_,g,i,⟨fd',ps',h7⟩,hr,h2,⟨h3,h4,h5⟩,h6⟩
 ·intro i y hy hz
  obtain ⟨g,ci,cl,h1,h2,h3⟩:=Pg.nws i y hy hz
  obtain ⟨m,fd',ps',hm,h4⟩:=ih1 cl.init g h1
  exact ⟨m,g,ci,cl,⟨fd',ps',h4⟩,hr.mono hm,h2,h3⟩
 ·intro j x hx hz
  obtain ⟨i,cl,g,h1,h2,h3,h4,h5,h6,h7⟩:=Pg.nds j x hx hz
  obtain ⟨fd',ps',h8,h9⟩:=Ds j x hx hz i g h4 h1
  exact ⟨lv,g,fd',ps',i,cl,h8,h9,hr.mono (show lv+1≤lv+1+k by omega),h1,h2,h3,h4,h5,h6,h7⟩
 ·intro j x hx hz e er es np cp pos hn hg hd ha
  refine rE (Rs j x hx hz) hr (Nat.le_add_right _ _) rfl rfl rfl rfl hn ?_ hd ha
  show (am st).names.lookup x=_
  unfold bD at hg
  simpa using hg
theorem gv (Pg:wO T W Γ ad K mg) {lv:Nat} (Rs:∀ (j:Nat) (x:Str),T.ex[j]? = some x→x≠""→RaP P w K mg base W Γ j x lv) (Ds:∀ (j:Nat) (x:Str),T.nd[j]? = some x→x≠""→∀ (i:CI) (f:Addr),W.ci[j]? = some i→Mk K i.ad f→DaP P w K mg base i f lv):∀ (k j:Nat) (f:Addr),ad[j]? = some f→∃ fd ps,aR P w K mg base (CXF P w) (lv+1+k) f fd ps (SpF W (ao Γ k) j)∧a8 K fd ps []∧PySem.W.keepIn K (.ref f)=true
 | 0,j,f,h=>by
   obtain ⟨x,qual,st,fd,fn,Fu,b,_⟩:=Pg.fns j f h
   have no:∀ vs H Q E,¬ SpF W (ao Γ 0) j vs H Q E:=fun vs H Q E ⟨_,_,_,_,_,_,z⟩=>z
   exact ⟨fd,_,⟨fun vs H Q E h=>absurd h (no vs H Q E),fun A outer s H args us vs Q E _ _ _ _ h=>absurd h (no vs H Q E)⟩,b,Fu.kp⟩
 | k+1,j,f,h=>by
   obtain ⟨x,qual,st,fd,fn,Fu,b,S,hj,hc⟩:=Pg.fns j f h
   refine ⟨fd,_,jn Pg Rs Ds k (gv Pg Rs Ds k) (fun i g hg=>?_) Fu S hj hc,b,Fu.kp⟩
   match k with
   | 0=>
     obtain ⟨x',qual',st',fd',fn',Fu',b',_⟩:=Pg.fns i g hg
     have no:∀ vs H Q E,¬ SpF W (aY Γ 0) i vs H Q E:=fun vs H Q E ⟨_,_,_,_,_,_,z⟩=>z
     exact ⟨0,fd',_,by omega,⟨fun vs H Q E h=>absurd h (no vs H Q E),fun A outer s H args us vs Q E _ _ _ _ h=>absurd h (no vs H Q E)⟩,b',Fu'.kp⟩
   | k'+1=>
     obtain ⟨fd',ps',h4⟩:=gv Pg Rs Ds k' i g hg
     exact ⟨lv+1+k',fd',ps',by omega,h4⟩
end
end L2.Ev
end
section
namespace L2.Ev
inductive IT where
 | fin (o:aw)
 | call (j:Nat) (ds:List D) (st:List O) (k:Res→IT)
 | call1 (j:Nat) (ds:List D) (st:List O) (k:Res→IT)
 | test (b:Bool) (k:Bool→IT)
 | opt (o:Option D) (k:D→IT)
 | sub (o:Out D) (k:D→Sta→IT)
 | subS (o:aw) (k:aw→IT)
noncomputable def IT.bad:IT:=.fin .bad
noncomputable def lcT (g:D→Sta→(Option D→Sta→IT)→IT):List D→List D→Sta→(D→Sta→IT)→IT
 | [],acc,s,k=>k (.lst acc) s
 | d :: r,acc,s,k=>g d s fun o s'=>match o with
   | some e=>.test (decide (acc.length<100000)) fun t=>if t then lcT g r (acc ++ [e]) s' k else .bad
   | none=>lcT g r acc s' k
noncomputable def xh (g:D→Sta→(Sta→IT)→IT):List D→Sta→(Sta→IT)→IT
 | [],s,k=>k s
 | d :: r,s,k=>g d s fun s=>xh g r s k
noncomputable def cR (st:List O) (p c:Nat):Bool:=match st[p]? with | some (.ins c' _)=>c' == c | _=>false
noncomputable def xk (x y:D) (z:D):Option D:=match x,aM y with | .dic ks ds,some k=>some ((cP ks ds k).getD z) | _,_=>none
noncomputable def xn (x y:D):Option D:=match x,y with
    | .tup l,.str k=>if l.length≤1000 then (qU k l 0).map fun j=>.int j else none
    | .lst l,.str k=>if l.length≤1000 then (qU k l 0).map fun j=>.int j else none
    | _,_=>none
noncomputable def xp (Γ:Gm) (x:D) (js:List Nat):Option D:=match x with
    | .ins c _=>(Γ.cl[c]?).map fun k=>.bl (js.any fun j=>c == j || k.sup.contains j)
    | _=>none
section
variable (Γ:Gm) (cal cal1:Nat→List D→List O→Res) (lp:Bool)
mutual
noncomputable def evT (br:Bool):E→Sta→(D→Sta→IT)→(Nat→List D→Sta→IT)→IT
 | .v i,s,k,kx=>(match s.env[i]? with | some (some d)=>k d (if br then s else un s i) | _=>.bad)
 | .c d,s,k,kx=>k d s
 | .g j,s,k,kx=>(match Γ.gl[j]?.map toD with | some d=>k d s | none=>.bad)
 | .op o a b,s,k,kx=>evT true a s (fun x s=>evT true b s (fun y s=>.opt (opD o (look s.st x) (look s.st y)) fun d=>k d s) kx) kx
 | .isN a,s,k,kx=>evT true a s (fun x s=>k (.bl (dN x)) s) kx
 | .isNN a,s,k,kx=>evT true a s (fun x s=>k (.bl (!dN x)) s) kx
 | .neg a,s,k,kx=>evT true a s (fun x s=>match x with | .int i=>k (.int (-i)) s | _=>.bad) kx
 | .not a,s,k,kx=>evT true a s (fun x s=>match x with | .bl b=>k (.bl (!b)) s | _=>.bad) kx
 | .and a b,s,k,kx=>evT false a s (fun x s=>match x with | .bl t=>.test t fun t=>if t then evT false b s k kx else k (.bl false) s | _=>.bad) kx
 | .or a b,s,k,kx=>evT false a s (fun x s=>match x with | .bl t=>.test t fun t=>if t then k (.bl true) s else evT false b s k kx | _=>.bad) kx
 | .ite c a b,s,k,kx=>evT true c s (fun x s=>match x with | .bl t=>.test t fun t=>if t then evT false a s k kx else evT false b s k kx | _=>.bad) kx
 | .chain o p a b c,s,k,kx=>evT true a s (fun x s=>evT true b s (fun y s=>.opt (opD o (look s.st x) (look s.st y)) fun d=>match d with
   | .bl t=>.test t fun t=>if t then evT true c s (fun z s=>.opt (opD p (look s.st y) (look s.st z)) fun d=>k d s) kx else k (.bl false) s
   | _=>.bad) kx) kx
 | .ix a b,s,k,kx=>evT true a s (fun x s=>evT true b s (fun y s=>.opt (ixD (look s.st x) y) fun d=>k d s) kx) kx
 | .sl a lo hi,s,k,kx=>evT true a s (fun x s=>
  let k3:=fun l s=>(if bp hi then .opt (slO (look s.st x) l none) fun d=>k d s else evT true hi s (fun z s=>match z with | .int h=>.opt (slO (look s.st x) l (some h)) fun d=>k d s | _=>.bad) kx)
  if bp lo then k3 none s else evT true lo s (fun z s=>match z with | .int l=>k3 (some l) s | _=>.bad) kx) kx
 | .sl3 a lo hi,s,k,kx=>evT true a s (fun x s=>
  let k3:=fun l s=>(if bp hi then .opt (pM (look s.st x) l none) fun d=>k d s else evT true hi s (fun z s=>match z with | .int h=>.opt (pM (look s.st x) l (some h)) fun d=>k d s | _=>.bad) kx)
  if bp lo then k3 none s else evT true lo s (fun z s=>match z with | .int l=>k3 (some l) s | _=>.bad) kx) kx
 | .tget j e d,s,k,kx=>evT true e s (fun x s=>evT false d s (fun z s=>match Γ.tb[j]?,x with | some t,.str y=>k (((KTD.datumAt y t).map toD).getD z) s | _,_=>.bad) kx) kx
 | .newd j es,s,k,kx=>dS false es s (fun l s=>.opt ((Γ.cl[j]?).bind fun k=>if k.what=1∧l.length=k.at_.length then some (D.ins j l) else none) fun d=>k d s) kx
 | .fld a f,s,k,kx=>evT true a s (fun x s=>.opt (kF Γ s.st x f) fun d=>k d s) kx
 | .tup es,s,k,kx=>dS false es s (fun l s=>if l.length≤100000 then k (.tup l) s else .bad) kx
 | .lst es,s,k,kx=>dS false es s (fun l s=>if l.length≤100000 then k (.lst l) s else .bad) kx
 | .newl es,s,k,kx=>dS false es s (fun l s=>if l.length≤100000 then k (.ref s.st.length) ⟨s.env,s.ow,s.st ++ [.lst l]⟩ else .bad) kx
 | .call j es,s,k,kx=>dS true es s (fun l s=>.call j l s.st fun r=>match r with | .ok d st=>k d (aft es s d st) | .exc c l st=>kx c l (drp es s st) | .bad=>.bad) kx
 | .mth c j a es,s,k,kx=>evT true a s (fun x s=>match x with
   | .ref p=>.test (cR s.st p c) fun t=>if t then dS true es s (fun l s=>.call j (.ref p :: l) s.st fun r=>match r with | .ok d st=>k d (aft es s d st) | .exc c l st=>kx c l (drp es s st) | .bad=>.bad) kx else .bad
   | _=>.bad) kx
 | .bi b es,s,k,kx=>dS true es s (fun l s=>.opt (biD b (l.map (look s.st))) fun d=>k d s) kx
 | .tab j e,s,k,kx=>evT true e s (fun x s=>match Γ.tb[j]?,x with | some t,.str y=>.opt ((KTD.datumAt y t).map toD) fun d=>k d s | _,_=>.bad) kx
 | .tabin j e,s,k,kx=>evT true e s (fun x s=>match Γ.tb[j]?,x with | some t,.str y=>k (.bl (KTD.datumAt y t).isSome) s | _,_=>.bad) kx
 | .lc t one it elt cond,s,k,kx=>evT false it s (fun x s=>match x with
   | .lst ds=>if lp then .sub ((bX (fun d s'=>(match aD t one d s'.env with
    | some env=>(noX (ev Γ cal cal1 true cond ⟨env,[],s'.st⟩)).bind fun b s2=>(match b with
      | .bl true=>(noX (ev Γ cal cal1 false elt s2)).bind fun e s3=>.ok (some e) ⟨s3.env,[],s3.st⟩
      | .bl false=>.ok none ⟨s2.env,[],s2.st⟩
      | _=>.bad)
    | none=>.bad)) ds [] ⟨List.replicate t.length none ++ s.env,[],s.st⟩)) (fun d s'=>k d ⟨s.env,[],s'.st⟩)
     else lcT (fun d s' k'=>match aD t one d s'.env with
      | some env=>evT true cond ⟨env,[],s'.st⟩ (fun b s2=>match b with
        | .bl t=>.test t fun t=>if t then evT false elt s2 (fun e s3=>k' (some e) ⟨s3.env,[],s3.st⟩) (fun _ _ _=>.bad) else k' none ⟨s2.env,[],s2.st⟩
        | _=>.bad) (fun _ _ _=>.bad)
      | none=>.bad) ds [] ⟨List.replicate t.length none ++ s.env,[],s.st⟩ (fun d s'=>k d ⟨s.env,[],s'.st⟩)
   | _=>.bad) kx
 | .tand a b,s,k,kx=>evT true a s (fun x s=>match x with | .bl t=>.test t fun t=>if t then evT true b s k kx else k (.bl false) s | _=>.bad) kx
 | .tor a b,s,k,kx=>evT true a s (fun x s=>match x with | .bl t=>.test t fun t=>if t then k (.bl true) s else evT true b s k kx | _=>.bad) kx
 | .tnot a,s,k,kx=>evT true a s (fun x s=>match x with | .bl b=>k (.bl (!b)) s | _=>.bad) kx
 | .tv a,s,k,kx=>evT true a s (fun x s=>.opt ((tm (look s.st x)).map .bl) fun d=>k d s) kx
 | .it b es,s,k,kx=>dS false es s (fun l s=>.opt ((itD b l).map .lst) fun d=>k d s) kx
 | .itv a,s,k,kx=>evT false a s (fun x s=>match x with | .lst l=>k (.lst l) s | .tup l=>k (.lst l) s | _=>.bad) kx
 | .dic es,s,k,kx=>dS false es s (fun l s=>.opt ((qt l).map fun p=>.dic p.1 p.2) fun d=>k d s) kx
 | .get a b c,s,k,kx=>evT true a s (fun x s=>.test (isDic (look s.st x)) fun t=>if t then evT true b s (fun y s=>evT false c s (fun z s=>.opt (xk (look s.st x) y z) fun d=>k d s) kx) kx else .bad) kx
 | .index a b,s,k,kx=>evT true a s (fun x s=>evT true b s (fun y s=>.opt (xn (look s.st x) y) fun d=>k d s) kx) kx
 | .join x a,s,k,kx=>evT true a s (fun y s=>.opt (nQ x (look s.st y)) fun d=>k d s) kx
 | .fmt x a y,s,k,kx=>evT true a s (fun v s=>.opt (pf x v y) fun d=>k d s) kx
 | .dicc ks es,s,k,kx=>dS false es s (fun l s=>.opt (kA ks l) fun d=>k d s) kx
 | .isX a js,s,k,kx=>evT true a s (fun x s=>.opt (xp Γ x js) fun d=>k d s) kx
 | .new j es,s,k,kx=>dS true es s (fun l s=>(match Γ.cl[j]? with
   | some q=>if q.what=1 then (if l.length=q.at_.length then k (.ins j l) (drp es s s.st) else .bad) else if q.what=0 then .call1 q.init (.ref s.st.length :: l) (s.st ++ [.ins j []]) fun r=>(match r with
    | .ok .non st=>k (.ref s.st.length) (aft es s .non st)
    | _=>.bad)
     else .bad
   | none=>.bad)) kx
 | _,_,_,_=>.bad
noncomputable def dS (br:Bool):E→Sta→(List D→Sta→IT)→(Nat→List D→Sta→IT)→IT
 | .nil,s,k,kx=>k [] s
 | .cons a r,s,k,kx=>evT br a s (fun x s=>dS br r s (fun l s=>k (x :: l) s) kx) kx
 | _,_,_,_=>.bad
end
noncomputable def exT:S→Sta→(Sta→IT)→(D→Sta→IT)→(Nat→List D→Sta→IT)→IT
 | .skip,s,kn,kr,kx=>kn s
 | .seq a b,s,kn,kr,kx=>exT a s (fun s=>exT b s kn kr kx) kr kx
 | .set i e,s,kn,kr,kx=>evT Γ cal cal1 lp false e s (fun d s=>kn (mL s i d (fresh e))) kx
 | .setT l e,s,kn,kr,kx=>evT Γ cal cal1 lp false e s (fun d s=>match aD l false d s.env with | some env=>kn ⟨env,s.ow.filter fun i=>!l.contains i,s.st⟩ | none=>.bad) kx
 | .setR i es,s,kn,kr,kx=>dS Γ cal cal1 lp false es s (fun l s=>if l.length≤100000 then kn ⟨s.env.set i (some (.ref s.st.length)),s.ow.filter (· != i),s.st ++ [.lst l]⟩ else .bad) kx
 | .ret e,s,kn,kr,kx=>evT Γ cal cal1 lp false e s kr kx
 | .ifs c a b,s,kn,kr,kx=>evT Γ cal cal1 lp true c s (fun x s=>match x with | .bl t=>.test t fun t=>if t then exT a s kn kr kx else exT b s kn kr kx | _=>.bad) kx
 | .drop e,s,kn,kr,kx=>evT Γ cal cal1 lp false e s (fun _ s=>kn s) kx
 | .app i e,s,kn,kr,kx=>if s.ow.contains i && isLst s.env[i]? then evT Γ cal cal1 lp false e s (fun d s=>if s.ow.contains i then (match s.env[i]? with
  | some (some (.lst l))=>.test (decide (l.length<100000)) fun t=>if t then kn ⟨s.env.set i (some (.lst (l ++ [d]))),s.ow,s.st⟩ else .bad
  | _=>.bad) else .bad) kx else .bad
 | .put (.v i) b e,s,kn,kr,kx=>evT Γ cal cal1 lp false e s (fun d s=>(match s.env[i]? with
  | some (some x)=>evT Γ cal cal1 lp true b s (fun y s=>(match x with
    | .ref n=>(match (s.st[n]?).bind fun o=>fZ o y d with | some o=>kn ⟨s.env,s.ow,s.st.set n o⟩ | none=>.bad)
    | x=>if s.ow.contains i then .opt (lq x y d) fun y=>kn ⟨s.env.set i (some y),s.ow,s.st⟩ else .bad)) kx
  | _=>.bad)) kx
 | .rais j es,s,kn,kr,kx=>dS Γ cal cal1 lp false es s (fun l s=>.test (jo Γ j l) fun t=>if t then kx j l s else .bad) kx
 | .try_ a hs,s,kn,kr,kx=>exT a s kn kr (fun c l s'=>hndT hs c l s' kn kr)
 | .for_ t one it b,s,kn,kr,kx=>evT Γ cal cal1 lp false it s (fun x s=>(match x with
  | .lst ds=>if lp then .subS (bC (fun d s=>match aD t one d s.env with | some env=>exS Γ cal cal1 b ⟨env,s.ow.filter fun i=>!t.contains i,s.st⟩ | none=>.bad) ds s) (fun o=>match o with | .nx s=>kn s | .rt d s=>kr d s | .exc c l s=>kx c l s | .bad=>.bad)
    else xh (fun d s k=>match aD t one d s.env with | some env=>exT b ⟨env,s.ow.filter fun i=>!t.contains i,s.st⟩ k kr kx | none=>.bad) ds s kn
  | _=>.bad)) kx
 | c,s,kn,kr,kx=>.subS (exS Γ cal cal1 c s) (fun o=>match o with | .nx s=>kn s | .rt d s=>kr d s | .exc c l s=>kx c l s | .bad=>.bad)
where hndT:S→Nat→List D→Sta→(Sta→IT)→(D→Sta→IT)→IT
 | .hand j (some i) b _,c,l,s,kn,kr=>if ((Γ.cl[c]?).any fun k=>c == j || k.sup.contains j) then
  exT b ⟨s.env.set i (some (.ins c l)),s.ow.filter (· != i),s.st⟩ (fun s=>kn ⟨s.env.set i none,s.ow.filter (· != i),s.st⟩) kr (fun _ _ _=>.bad) else .bad
 | _,_,_,_,_,_=>.bad
noncomputable def ag:IT→aw
 | .fin o=>o
 | .call j ds st k=>ag (k (cal j ds st))
 | .call1 j ds st k=>ag (k (cal1 j ds st))
 | .test b k=>ag (k b)
 | .opt o k=>(match o with | some d=>ag (k d) | none=>.bad)
 | .sub o k=>(match o with | .ok d s=>ag (k d s) | _=>.bad)
 | .subS o k=>ag (k o)
end
noncomputable def oc {α:Type} (x:Out α) (k:α→Sta→aw) (kx:Nat→List D→Sta→aw):aw:=match x with
 | .ok a s=>k a s
 | .exc c l s=>kx c l s
 | .bad=>.bad
theorem bh {α β:Type} {x:Out α} {f:α→Sta→Out β} {k:β→Sta→aw} {kx:Nat→List D→Sta→aw}:oc (x.bind f) k kx=oc x (fun a s=>oc (f a s) k kx) kx:=by cases x <;> rfl
theorem bZ {α:Type} {x:Out α} {k k':α→Sta→aw} {kx:Nat→List D→Sta→aw} (h:∀ a s,k a s=k' a s):oc x k kx=oc x k' kx:=by cases x <;> first | exact h _ _ | rfl
theorem ah {α β:Type} {x:Out α} {f:α→Sta→Out β} {k:β→Sta→aw} {kx:Nat→List D→Sta→aw} {g:α→Sta→aw} (h:∀ a s,g a s=oc (f a s) k kx):oc x g kx=oc (x.bind f) k kx:=by
 rw [bh];exact bZ h
section
variable {Γ:Gm} {cal cal1:Nat→List D→List O→Res} {lp:Bool}
theorem bw {o:Option D} {k:D→Sta→IT} {s:Sta} {kx:Nat→List D→Sta→aw}:ag cal cal1 (.opt o fun d=>k d s)=oc (.of s o) (fun d s=>ag cal cal1 (k d s)) kx:=by cases o <;> rfl
theorem qS {p:Prop} [Decidable p] {d:D} {s:Sta} {k:D→Sta→IT} {kx:Nat→List D→Sta→aw}:ag cal cal1 (if p then k d s else .bad)=oc (if p then .ok d s else .bad) (fun d s=>ag cal cal1 (k d s)) kx:=by split <;> rfl
theorem wj {es:E} {j:Nat} {l:List D} {s:Sta} {k:D→Sta→IT} {kx:Nat→List D→Sta→IT}:ag cal cal1 (.call j l s.st fun r=>match r with | .ok d st=>k d (aft es s d st) | .exc c l st=>kx c l (drp es s st) | .bad=>.bad)=oc (fW cal es j l s) (fun d s=>ag cal cal1 (k d s)) (fun c l s=>ag cal cal1 (kx c l s)):=by
 show ag cal cal1 (match cal j l s.st with | .ok d st=>k d (aft es s d st) | .exc c l st=>kx c l (drp es s st) | .bad=>.bad)=_
 unfold fW
 cases cal j l s.st <;> rfl
theorem mm {g:D→Sta→(Option D→Sta→IT)→IT} {f:D→Sta→Out (Option D)} (h:∀ d s k,ag cal cal1 (g d s k)=oc (f d s) (fun o s=>ag cal cal1 (k o s)) (fun _ _ _=>.bad)):∀ (ds acc:List D) (s:Sta) (k:D→Sta→IT),ag cal cal1 (lcT g ds acc s k)=oc (bX f ds acc s) (fun d s=>ag cal cal1 (k d s)) (fun _ _ _=>.bad)
 | [],acc,s,k=>rfl
 | d :: r,acc,s,k=>by
   show ag cal cal1 (g d s _)=oc ((f d s).bind _) _ _
   rw [h,bh]
   refine bZ fun o s'=>?_
   cases o with
   | none=>exact mm h r acc s' k
   | some e=>
     dsimp only
     show ag cal cal1 (if decide (acc.length<100000)=true then lcT g r (acc ++ [e]) s' k else .bad)=_
     by_cases c:acc.length<100000
     ·rw [if_pos (decide_eq_true c),if_pos c];exact mm h r (acc ++ [e]) s' k
     ·rw [if_neg (by simpa using c),if_neg c];rfl
noncomputable def nox:Out α→Prop
 | .exc _ _ _=>False
 | _=>True
theorem eN {f:D→Sta→Out (Option D)} (h:∀ d s,nox (f d s)):∀ (ds acc:List D) (s:Sta),nox (bX f ds acc s)
 | [],_,_=>trivial
 | d :: r,acc,s=>by
   have:=h d s
   show nox ((f d s).bind _)
   cases q:f d s with
   | bad=>trivial
   | exc c l s'=>rw [q] at this;exact this.elim
   | ok o s'=>
     cases o with
     | none=>exact eN h r acc s'
     | some e=>
       show nox (if acc.length<100000 then bX f r (acc ++ [e]) s' else .bad)
       split
       ·exact eN h r _ s'
       ·trivial
theorem yk {α:Type} {x:Out α} {k:α→Sta→aw} {kx kx':Nat→List D→Sta→aw} (h:nox x):oc x k kx=oc x k kx':=by
 cases x with
 | exc c l s=>exact h.elim
 | _=>rfl
theorem rM {α:Type} {x:Out α} {k:α→Sta→aw}:oc x k (fun _ _ _=>.bad)=oc (noX x) k (fun _ _ _=>.bad):=by cases x <;> rfl
theorem zU {x:Out D} {k:D→Sta→IT} {kx:Nat→List D→Sta→aw} (n:nox x):ag cal cal1 (.sub x k)=oc x (fun d s=>ag cal cal1 (k d s)) kx:=by
 cases x with
 | exc c l s=>exact n.elim
 | _=>rfl
theorem zM {br:Bool} {i:Nat} {s:Sta} {k:D→Sta→IT} {kx:Nat→List D→Sta→IT}:evT Γ cal cal1 lp br (.v i) s k kx=(match s.env[i]? with | some (some d)=>k d (if br then s else un s i) | _=>.bad):=rfl
theorem zL {br:Bool} {j:Nat} {s:Sta} {k:D→Sta→IT} {kx:Nat→List D→Sta→IT}:evT Γ cal cal1 lp br (.g j) s k kx=(match Γ.gl[j]?.map toD with | some d=>k d s | none=>.bad):=rfl
theorem Bv {br:Bool} {j:Nat} {s:Sta}:ev Γ cal cal1 br (.g j) s = .of s (Γ.gl[j]?.map toD):=rfl
theorem bN:∀ e:E,(∀ br s k kx,ag cal cal1 (evT Γ cal cal1 lp br e s k kx)=oc (ev Γ cal cal1 br e s) (fun d s=>ag cal cal1 (k d s)) (fun c l s=>ag cal cal1 (kx c l s))) ∧
 (∀ br s k kx,ag cal cal1 (dS Γ cal cal1 lp br e s k kx)=oc (evs Γ cal cal1 br e s) (fun d s=>ag cal cal1 (k d s)) (fun c l s=>ag cal cal1 (kx c l s))):=by
 intro e
 induction e with
 | v i=>
   refine ⟨fun br s k kx=>?_,fun br s k kx=>rfl⟩
   rw [zM,pd]
   cases s.env[i]? with
   | none=>rfl
   | some o=>cases o <;> rfl
 | c d=>exact ⟨fun br s k kx=>rfl,fun br s k kx=>rfl⟩
 | g j=>
   refine ⟨fun br s k kx=>?_,fun br s k kx=>rfl⟩
   rw [zL,Bv]
   cases Γ.gl[j]?.map toD <;> rfl
 | op o a b iha ihb=>exact ⟨fun br s k kx=>(iha.1 _ _ _ _).trans (ah fun x s=>(ihb.1 _ _ _ _).trans (ah fun y s=>bw)),fun br s k kx=>rfl⟩
 | isN a ih=>exact ⟨fun br s k kx=>(ih.1 _ _ _ _).trans (ah fun x s=>rfl),fun br s k kx=>rfl⟩
 | isNN a ih=>exact ⟨fun br s k kx=>(ih.1 _ _ _ _).trans (ah fun x s=>rfl),fun br s k kx=>rfl⟩
 | neg a ih=>exact ⟨fun br s k kx=>(ih.1 _ _ _ _).trans (ah fun x s=>by cases x <;> rfl),fun br s k kx=>rfl⟩
 | not a ih=>exact ⟨fun br s k kx=>(ih.1 _ _ _ _).trans (ah fun x s=>by cases x <;> rfl),fun br s k kx=>rfl⟩
 | and a b iha ihb=>exact ⟨fun br s k kx=>(iha.1 _ _ _ _).trans (ah fun x s=>by
  cases x with
  | bl t=>cases t with
    | true=>exact ihb.1 _ _ _ _
    | false=>rfl
  | _=>rfl),fun br s k kx=>rfl⟩
 | or a b iha ihb=>exact ⟨fun br s k kx=>(iha.1 _ _ _ _).trans (ah fun x s=>by
  cases x with
  | bl t=>cases t with
    | false=>exact ihb.1 _ _ _ _
    | true=>rfl
  | _=>rfl),fun br s k kx=>rfl⟩
 | ite c a b ihc iha ihb=>exact ⟨fun br s k kx=>(ihc.1 _ _ _ _).trans (ah fun x s=>by
  cases x with
  | bl t=>cases t with
    | true=>exact iha.1 _ _ _ _
    | false=>exact ihb.1 _ _ _ _
  | _=>rfl),fun br s k kx=>rfl⟩
 | chain o p a b c iha ihb ihc=>exact ⟨fun br s k kx=>(iha.1 _ _ _ _).trans (ah fun x s=>(ihb.1 _ _ _ _).trans (ah fun y s=>by
  show ag cal cal1 (.opt (opD o (look s.st x) (look s.st y)) _)=_
  cases opD o (look s.st x) (look s.st y) with
  | none=>rfl
  | some d=>cases d with
    | bl t=>cases t with
      | true=>exact (ihc.1 _ _ _ _).trans (ah fun z s=>bw)
      | false=>rfl
    | _=>rfl)),fun br s k kx=>rfl⟩
 | ix a b iha ihb=>exact ⟨fun br s k kx=>(iha.1 _ _ _ _).trans (ah fun x s=>(ihb.1 _ _ _ _).trans (ah fun y s=>bw)),fun br s k kx=>rfl⟩
 | sl a lo hi iha ihl ihh=>
   refine ⟨fun br s k kx=>(iha.1 _ _ _ _).trans (ah fun x s=>?_),fun br s k kx=>rfl⟩
   have k3:∀ l s,ag cal cal1 (if bp hi then .opt (slO (look s.st x) l none) fun d=>k d s else evT Γ cal cal1 lp true hi s (fun z s=>match z with | .int h=>.opt (slO (look s.st x) l (some h)) fun d=>k d s | _=>.bad) kx)=oc ((if bp hi then .ok none s else (ev Γ cal cal1 true hi s).bind toI).bind fun h s=>.of s (slO (look s.st x) l h)) (fun d s=>ag cal cal1 (k d s)) (fun c l s=>ag cal cal1 (kx c l s)):=fun l s=>by
    by_cases c:bp hi=true
    ·rw [if_pos c,if_pos c];exact bw
    ·rw [if_neg c,if_neg c,ihh.1,bh,bh]
     exact bZ fun z s=>by cases z <;> first | exact bw | rfl
   by_cases c:bp lo=true
   ·dsimp only
    rw [if_pos c,if_pos c];exact k3 none s
   ·dsimp only
    rw [if_neg c,if_neg c,ihl.1,bh,bh]
    exact bZ fun z s=>by cases z <;> first | exact k3 _ s | rfl
 | sl3 a lo hi iha ihl ihh=>
   refine ⟨fun br s k kx=>(iha.1 _ _ _ _).trans (ah fun x s=>?_),fun br s k kx=>rfl⟩
   have k3:∀ l s,ag cal cal1 (if bp hi then .opt (pM (look s.st x) l none) fun d=>k d s else evT Γ cal cal1 lp true hi s (fun z s=>match z with | .int h=>.opt (pM (look s.st x) l (some h)) fun d=>k d s | _=>.bad) kx)=oc ((if bp hi then .ok none s else (ev Γ cal cal1 true hi s).bind toI).bind fun h s=>.of s (pM (look s.st x) l h)) (fun d s=>ag cal cal1 (k d s)) (fun c l s=>ag cal cal1 (kx c l s)):=fun l s=>by
    by_cases c:bp hi=true
    ·rw [if_pos c,if_pos c];exact bw
    ·rw [if_neg c,if_neg c,ihh.1,bh,bh]
     exact bZ fun z s=>by cases z <;> first | exact bw | rfl
   by_cases c:bp lo=true
   ·dsimp only
    rw [if_pos c,if_pos c];exact k3 none s
   ·dsimp only
    rw [if_neg c,if_neg c,ihl.1,bh,bh]
    exact bZ fun z s=>by cases z <;> first | exact k3 _ s | rfl
 | tget j a b iha ihb=>exact ⟨fun br s k kx=>(iha.1 _ _ _ _).trans (ah fun x s=>(ihb.1 _ _ _ _).trans (ah fun y s=>by cases Γ.tb[j]? <;> cases x <;> rfl)),fun br s k kx=>rfl⟩
 | newd j es ih=>exact ⟨fun br s k kx=>(ih.2 _ _ _ _).trans (ah fun l s=>bw),fun br s k kx=>rfl⟩
 | fld a f ih=>exact ⟨fun br s k kx=>(ih.1 _ _ _ _).trans (ah fun x s=>bw),fun br s k kx=>rfl⟩
 | tup es ih=>exact ⟨fun br s k kx=>(ih.2 _ _ _ _).trans (ah fun l s=>qS),fun br s k kx=>rfl⟩
 | lst es ih=>exact ⟨fun br s k kx=>(ih.2 _ _ _ _).trans (ah fun l s=>qS),fun br s k kx=>rfl⟩
 | newl es ih=>exact ⟨fun br s k kx=>(ih.2 _ _ _ _).trans (ah fun l s=>by by_cases c:l.length≤100000 <;> simp only [c,if_true,if_false] <;> rfl),fun br s k kx=>rfl⟩
 | nil=>exact ⟨fun br s k kx=>rfl,fun br s k kx=>rfl⟩
 | cons a r iha ihr=>exact ⟨fun br s k kx=>rfl,fun br s k kx=>(iha.1 _ _ _ _).trans (ah fun x s=>(ihr.2 _ _ _ _).trans (ah fun l s=>rfl))⟩
 | call j es ih=>exact ⟨fun br s k kx=>(ih.2 _ _ _ _).trans (ah fun l s=>wj),fun br s k kx=>rfl⟩
 | mth c j a es iha ih=>exact ⟨fun br s k kx=>(iha.1 _ _ _ _).trans (ah fun x s=>by
  cases x with
  | ref p=>
    show ag cal cal1 (if cR s.st p c=true then _ else .bad)=_
    unfold cR
    dsimp only
    cases s.st[p]? with
    | none=>rfl
    | some o=>cases o with
      | ins c' l'=>
        dsimp only
        by_cases e:c'=c
        ·rw [if_pos (by simpa using e),if_pos e]
         exact (ih.2 _ _ _ _).trans (ah fun l s=>wj)
        ·rw [if_neg (by simpa using e),if_neg e];rfl
      | _=>rfl
  | _=>rfl),fun br s k kx=>rfl⟩
 | bi b es ih=>exact ⟨fun br s k kx=>(ih.2 _ _ _ _).trans (ah fun l s=>bw),fun br s k kx=>rfl⟩
 | tab j a ih=>exact ⟨fun br s k kx=>(ih.1 _ _ _ _).trans (ah fun x s=>by cases Γ.tb[j]? <;> cases x <;> first | exact bw | rfl),fun br s k kx=>rfl⟩
 | tabin j a ih=>exact ⟨fun br s k kx=>(ih.1 _ _ _ _).trans (ah fun x s=>by cases Γ.tb[j]? <;> cases x <;> rfl),fun br s k kx=>rfl⟩
 | tand a b iha ihb=>exact ⟨fun br s k kx=>(iha.1 _ _ _ _).trans (ah fun x s=>by
  cases x with
  | bl t=>cases t with
    | true=>exact ihb.1 _ _ _ _
    | false=>rfl
  | _=>rfl),fun br s k kx=>rfl⟩
 | tor a b iha ihb=>exact ⟨fun br s k kx=>(iha.1 _ _ _ _).trans (ah fun x s=>by
  cases x with
  | bl t=>cases t with
    | false=>exact ihb.1 _ _ _ _
    | true=>rfl
  | _=>rfl),fun br s k kx=>rfl⟩
 | tnot a ih=>exact ⟨fun br s k kx=>(ih.1 _ _ _ _).trans (ah fun x s=>by cases x <;> rfl),fun br s k kx=>rfl⟩
 | tv a ih=>exact ⟨fun br s k kx=>(ih.1 _ _ _ _).trans (ah fun x s=>bw),fun br s k kx=>rfl⟩
 | it b es ih=>exact ⟨fun br s k kx=>(ih.2 _ _ _ _).trans (ah fun l s=>bw),fun br s k kx=>rfl⟩
 | itv a ih=>exact ⟨fun br s k kx=>(ih.1 _ _ _ _).trans (ah fun x s=>by cases x <;> rfl),fun br s k kx=>rfl⟩
 | dic es ih=>exact ⟨fun br s k kx=>(ih.2 _ _ _ _).trans (ah fun l s=>bw),fun br s k kx=>rfl⟩
 | get a b c iha ihb ihc=>exact ⟨fun br s k kx=>(iha.1 _ _ _ _).trans (ah fun x s=>by
  show ag cal cal1 (if isDic (look s.st x)=true then _ else .bad)=_
  split
  ·refine (ihb.1 _ _ _ _).trans (ah fun y s=>(ihc.1 _ _ _ _).trans (ah fun z s=>?_))
   show ag cal cal1 (.opt (xk (look s.st x) y z) _)=_
   unfold xk
   cases look s.st x <;> cases aM y <;> rfl
  ·rfl),fun br s k kx=>rfl⟩
 | index a b iha ihb=>exact ⟨fun br s k kx=>(iha.1 _ _ _ _).trans (ah fun x s=>(ihb.1 _ _ _ _).trans (ah fun y s=>by
  show ag cal cal1 (.opt (xn (look s.st x) y) _)=_
  unfold xn
  cases look s.st x <;> cases y <;> first | rfl | (dsimp only;split <;> first | exact bw | rfl))),fun br s k kx=>rfl⟩
 | join x a ih=>exact ⟨fun br s k kx=>(ih.1 _ _ _ _).trans (ah fun y s=>bw),fun br s k kx=>rfl⟩
 | fmt x a y ih=>exact ⟨fun br s k kx=>(ih.1 _ _ _ _).trans (ah fun v s=>bw),fun br s k kx=>rfl⟩
 | dicc ks es ih=>exact ⟨fun br s k kx=>(ih.2 _ _ _ _).trans (ah fun l s=>bw),fun br s k kx=>rfl⟩
 | isX a js ih=>exact ⟨fun br s k kx=>(ih.1 _ _ _ _).trans (ah fun x s=>by
  show ag cal cal1 (.opt (xp Γ x js) _)=_
  unfold xp
  cases x <;> first | exact bw | rfl),fun br s k kx=>rfl⟩
 | lc t one it elt cond ihi ihe ihc=>
   refine ⟨fun br s k kx=>(ihi.1 _ _ _ _).trans (ah fun x s=>?_),fun br s k kx=>rfl⟩
   cases x with
   | lst ds=>
     dsimp only
     have nx:∀ (d:D) (s':Sta),nox (match aD t one d s'.env with
      | some env=>(noX (ev Γ cal cal1 true cond ⟨env,[],s'.st⟩)).bind fun b s2=>(match b with
        | .bl true=>(noX (ev Γ cal cal1 false elt s2)).bind fun e s3=>.ok (some e) ⟨s3.env,[],s3.st⟩
        | .bl false=>.ok none ⟨s2.env,[],s2.st⟩
        | _=>.bad)
      | none=>Out.bad):=fun d s'=>by
      cases aD t one d s'.env with
      | none=>trivial
      | some env=>
        dsimp only
        cases ev Γ cal cal1 true cond ⟨env,[],s'.st⟩ with
        | ok b s2=>cases b with
          | bl b=>cases b with
            | true=>
              show nox ((noX (ev Γ cal cal1 false elt s2)).bind _)
              cases ev Γ cal cal1 false elt s2 <;> trivial
            | false=>trivial
          | _=>trivial
        | _=>trivial
     cases lp with
     | true=>
       rw [if_pos rfl,bh]
       have n2:=eN nx ds [] ⟨List.replicate t.length none ++ s.env,[],s.st⟩
       exact zU n2
     | false=>
       rw [if_neg Bool.false_ne_true,bh]
       refine (mm (f:=fun d s'=>(match aD t one d s'.env with
        | some env=>(noX (ev Γ cal cal1 true cond ⟨env,[],s'.st⟩)).bind fun b s2=>(match b with
          | .bl true=>(noX (ev Γ cal cal1 false elt s2)).bind fun e s3=>.ok (some e) ⟨s3.env,[],s3.st⟩
          | .bl false=>.ok none ⟨s2.env,[],s2.st⟩
          | _=>.bad)
        | none=>.bad)) (fun d s' k'=>?_) ds [] _ _).trans ?_
       ·cases aD t one d s'.env with
        | none=>rfl
        | some env=>
          dsimp only
          refine (ihc.1 _ _ _ _).trans ?_
          show oc (ev Γ cal cal1 true cond ⟨env,[],s'.st⟩) _ (fun _ _ _=>.bad)=_
          rw [rM]
          refine ah fun b s2=>?_
          cases b with
          | bl b=>cases b with
            | true=>
              refine (ihe.1 _ _ _ _).trans ?_
              show oc (ev Γ cal cal1 false elt s2) _ (fun _ _ _=>.bad)=_
              rw [rM]
              exact ah fun e s3=>rfl
            | false=>rfl
          | _=>rfl
       ·exact yk (eN nx ds [] _)
   | _=>rfl
 | new j es ih=>exact ⟨fun br s k kx=>(ih.2 _ _ _ _).trans (ah fun l s=>by
  cases Γ.cl[j]? with
  | none=>rfl
  | some q=>
    dsimp only
    by_cases c1:q.what=1
    ·rw [if_pos c1,if_pos c1];exact qS
    ·rw [if_neg c1,if_neg c1]
     by_cases c0:q.what=0
     ·rw [if_pos c0,if_pos c0]
      show ag cal cal1 (match cal1 q.init (.ref s.st.length :: l) (s.st ++ [.ins j []]) with | .ok .non st=>k (.ref s.st.length) (aft es s .non st) | _=>.bad)=_
      cases cal1 q.init (.ref s.st.length :: l) (s.st ++ [.ins j []]) with
      | ok d st=>cases d <;> rfl
      | _=>rfl
     ·rw [if_neg c0,if_neg c0];rfl),fun br s k kx=>rfl⟩
end
noncomputable def sc (x:aw) (kn:Sta→aw) (kr:D→Sta→aw) (kx:Nat→List D→Sta→aw):aw:=match x with
 | .nx s=>kn s
 | .rt d s=>kr d s
 | .exc c l s=>kx c l s
 | .bad=>.bad
theorem AN {α:Type} {x:Out α} {f:α→Sta→aw} {kn:Sta→aw} {kr:D→Sta→aw} {kx:Nat→List D→Sta→aw}:sc (x.go f) kn kr kx=oc x (fun a s=>sc (f a s) kn kr kx) kx:=by cases x <;> rfl
theorem bA {α:Type} {x:Out α} {f:α→Sta→aw} {kn:Sta→aw} {kr:D→Sta→aw} {kx:Nat→List D→Sta→aw} {g:α→Sta→aw} (h:∀ a s,g a s=sc (f a s) kn kr kx):oc x g kx=sc (x.go f) kn kr kx:=by
 rw [AN];exact bZ h
theorem sN {x:aw} {f:Sta→aw} {kn:Sta→aw} {kr:D→Sta→aw} {kx:Nat→List D→Sta→aw}:sc (x.go f) kn kr kx=sc x (fun s=>sc (f s) kn kr kx) kr kx:=by cases x <;> rfl
theorem lB {x:aw} {kn kn':Sta→aw} {kr:D→Sta→aw} {kx kx':Nat→List D→Sta→aw} (h:∀ s,kn s=kn' s) (h2:∀ c l s,kx c l s=kx' c l s):sc x kn kr kx=sc x kn' kr kx':=by cases x <;> first | exact h _ | exact h2 _ _ _ | rfl
section
variable {Γ:Gm} {cal cal1:Nat→List D→List O→Res} {lp:Bool}
theorem nE {g:D→Sta→(Sta→IT)→IT} {f:D→Sta→aw} {kr:D→Sta→aw} {kx:Nat→List D→Sta→aw} (h:∀ d s k,ag cal cal1 (g d s k)=sc (f d s) (fun s=>ag cal cal1 (k s)) kr kx):∀ (ds:List D) (s:Sta) (k:Sta→IT),ag cal cal1 (xh g ds s k)=sc (bC f ds s) (fun s=>ag cal cal1 (k s)) kr kx
 | [],s,k=>rfl
 | d :: r,s,k=>by
   show ag cal cal1 (g d s _)=sc ((f d s).go _) _ _ _
   rw [h,sN]
   exact lB (fun s=>nE h r s k) fun _ _ _=>rfl
theorem dg {x:aw} {kn:Sta→IT} {kr:D→Sta→IT} {kx:Nat→List D→Sta→IT}:ag cal cal1 (.subS x (fun o=>match o with | .nx s=>kn s | .rt d s=>kr d s | .exc c l s=>kx c l s | .bad=>.bad))=sc x (fun s=>ag cal cal1 (kn s)) (fun d s=>ag cal cal1 (kr d s)) (fun c l s=>ag cal cal1 (kx c l s)):=by cases x <;> rfl
theorem zS {o:Option D} {g:D→Sta} {kn:Sta→IT} {kr:D→Sta→aw} {kx:Nat→List D→Sta→aw}:ag cal cal1 (.opt o fun y=>kn (g y))=sc (match o with | some y=>.nx (g y) | none=>.bad) (fun s=>ag cal cal1 (kn s)) kr kx:=by cases o <;> rfl
theorem t7 {i:Nat} {e:E} {s:Sta} {kn:Sta→IT} {kr:D→Sta→IT} {kx:Nat→List D→Sta→IT}:exT Γ cal cal1 lp (.app i e) s kn kr kx=(if s.ow.contains i && isLst s.env[i]? then evT Γ cal cal1 lp false e s (fun d s=>if s.ow.contains i then (match s.env[i]? with
 | some (some (.lst l))=>.test (decide (l.length<100000)) fun t=>if t then kn ⟨s.env.set i (some (.lst (l ++ [d]))),s.ow,s.st⟩ else .bad
 | _=>.bad) else .bad) kx else .bad):=rfl
theorem t6 {i:Nat} {e:E} {s:Sta}:exS Γ cal cal1 (.app i e) s=(if s.ow.contains i && isLst s.env[i]? then (ev Γ cal cal1 false e s).go fun d s=>if s.ow.contains i then (match s.env[i]? with
 | some (some (.lst l))=>if l.length<100000 then .nx ⟨s.env.set i (some (.lst (l ++ [d]))),s.ow,s.st⟩ else .bad
 | _=>.bad) else .bad else .bad):=rfl
theorem qD:∀ c:S,(∀ s kn kr kx,ag cal cal1 (exT Γ cal cal1 lp c s kn kr kx)=sc (exS Γ cal cal1 c s) (fun s=>ag cal cal1 (kn s)) (fun d s=>ag cal cal1 (kr d s)) (fun c l s=>ag cal cal1 (kx c l s))) ∧
 (∀ c' l s kn kr kx,ag cal cal1 (exT.hndT Γ cal cal1 lp c c' l s kn kr)=sc (exS.hnd Γ cal cal1 c c' l s) (fun s=>ag cal cal1 (kn s)) (fun d s=>ag cal cal1 (kr d s)) kx):=by
 intro c
 have hb:∀ {c:S},(∀ c' l s kn kr,exT.hndT Γ cal cal1 lp c c' l s kn kr = .bad)→(∀ c' l s,exS.hnd Γ cal cal1 c c' l s = .bad)→(∀ c' l s kn kr (kx:Nat→List D→Sta→aw),ag cal cal1 (exT.hndT Γ cal cal1 lp c c' l s kn kr)=sc (exS.hnd Γ cal cal1 c c' l s) (fun s=>ag cal cal1 (kn s)) (fun d s=>ag cal cal1 (kr d s)) kx):=fun h1 h2 c' l s kn kr kx=>by rw [h1,h2];rfl
 induction c with
 | skip=>exact ⟨fun s kn kr kx=>rfl,hb (fun _ _ _ _ _=>rfl) fun _ _ _=>rfl⟩
 | seq a b iha ihb=>
   refine ⟨fun s kn kr kx=>(iha.1 _ _ _ _).trans ?_,hb (fun _ _ _ _ _=>rfl) fun _ _ _=>rfl⟩
   show _=sc ((exS Γ cal cal1 a s).go fun s=>exS Γ cal cal1 b s) _ _ _
   rw [sN]
   exact lB (fun s=>ihb.1 _ _ _ _) fun _ _ _=>rfl
 | set i e=>exact ⟨fun s kn kr kx=>((bN e).1 _ _ _ _).trans (bA fun d s=>rfl),hb (fun _ _ _ _ _=>rfl) fun _ _ _=>rfl⟩
 | setT l e=>exact ⟨fun s kn kr kx=>((bN e).1 _ _ _ _).trans (bA fun d s=>by cases aD l false d s.env <;> rfl),hb (fun _ _ _ _ _=>rfl) fun _ _ _=>rfl⟩
 | setR i es=>exact ⟨fun s kn kr kx=>((bN es).2 _ _ _ _).trans (bA fun l s=>by by_cases c:l.length≤100000 <;> simp only [c,if_true,if_false] <;> rfl),hb (fun _ _ _ _ _=>rfl) fun _ _ _=>rfl⟩
 | ret e=>exact ⟨fun s kn kr kx=>((bN e).1 _ _ _ _).trans (bA fun d s=>rfl),hb (fun _ _ _ _ _=>rfl) fun _ _ _=>rfl⟩
 | ifs c a b iha ihb=>exact ⟨fun s kn kr kx=>((bN c).1 _ _ _ _).trans (bA fun x s=>by
  cases x with
  | bl t=>cases t with
    | true=>exact iha.1 _ _ _ _
    | false=>exact ihb.1 _ _ _ _
  | _=>rfl),hb (fun _ _ _ _ _=>rfl) fun _ _ _=>rfl⟩
 | drop e=>exact ⟨fun s kn kr kx=>((bN e).1 _ _ _ _).trans (bA fun d s=>rfl),hb (fun _ _ _ _ _=>rfl) fun _ _ _=>rfl⟩
 | app i e=>
   refine ⟨fun s kn kr kx=>?_,hb (fun _ _ _ _ _=>rfl) fun _ _ _=>rfl⟩
   rw [t7,t6]
   split
   ·refine ((bN e).1 _ _ _ _).trans (bA fun d s=>?_)
    split
    ·cases q:s.env[i]? with
     | none=>rfl
     | some o=>cases o with
       | none=>rfl
       | some d=>cases d with
         | lst l=>
           dsimp only
           show ag cal cal1 (if decide (l.length<100000)=true then _ else .bad)=_
           by_cases c:l.length<100000
           ·rw [if_pos (decide_eq_true c),if_pos c];rfl
           ·rw [if_neg (by simpa using c),if_neg c];rfl
         | _=>rfl
    ·rfl
   ·rfl
 | ext i e=>exact ⟨fun s kn kr kx=>dg,hb (fun _ _ _ _ _=>rfl) fun _ _ _=>rfl⟩
 | put a b e=>
   refine ⟨fun s kn kr kx=>?_,hb (fun _ _ _ _ _=>rfl) fun _ _ _=>rfl⟩
   cases a with
   | v i=>
     refine ((bN e).1 _ _ _ _).trans (bA fun d s=>?_)
     cases s.env[i]? with
     | none=>rfl
     | some o=>cases o with
       | none=>rfl
       | some x=>
         refine ((bN b).1 _ _ _ _).trans (bA fun y s=>?_)
         cases x with
         | ref n=>
           dsimp only
           cases (s.st[n]?).bind fun o=>fZ o y d <;> rfl
         | _=>
           dsimp only
           split
           ·exact zS
           ·rfl
   | _=>exact dg
 | fld a f e=>exact ⟨fun s kn kr kx=>dg,hb (fun _ _ _ _ _=>rfl) fun _ _ _=>rfl⟩
 | aug a f o e=>exact ⟨fun s kn kr kx=>dg,hb (fun _ _ _ _ _=>rfl) fun _ _ _=>rfl⟩
 | fapp a f e=>exact ⟨fun s kn kr kx=>dg,hb (fun _ _ _ _ _=>rfl) fun _ _ _=>rfl⟩
 | for_ t one it b ih=>
   refine ⟨fun s kn kr kx=>((bN it).1 _ _ _ _).trans (bA fun x s=>?_),hb (fun _ _ _ _ _=>rfl) fun _ _ _=>rfl⟩
   cases x with
   | lst ds=>
     dsimp only
     cases lp with
     | true=>rw [if_pos rfl];exact dg
     | false=>
       rw [if_neg Bool.false_ne_true]
       refine nE (fun d s k=>?_) ds s kn
       cases aD t one d s.env with
       | none=>rfl
       | some env=>exact ih.1 _ _ _ _
   | _=>rfl
 | whl c b ih=>exact ⟨fun s kn kr kx=>dg,hb (fun _ _ _ _ _=>rfl) fun _ _ _=>rfl⟩
 | rais j es=>
   refine ⟨fun s kn kr kx=>((bN es).2 _ _ _ _).trans (bA fun l s=>?_),hb (fun _ _ _ _ _=>rfl) fun _ _ _=>rfl⟩
   show ag cal cal1 (if jo Γ j l=true then kx j l s else .bad)=_
   split <;> rfl
 | try_ a h iha ihh=>
   refine ⟨fun s kn kr kx=>(iha.1 _ _ _ _).trans ?_,hb (fun _ _ _ _ _=>rfl) fun _ _ _=>rfl⟩
   show _=sc (match exS Γ cal cal1 a s with | .exc c l s'=>exS.hnd Γ cal cal1 h c l s' | r=>r) _ _ _
   cases exS Γ cal cal1 a s with
   | exc c l s'=>exact ihh.2 _ _ _ _ _ _
   | _=>rfl
 | hand j i b r ihb ihr=>
   refine ⟨fun s kn kr kx=>dg,fun c' l s kn kr kx=>?_⟩
   cases i with
   | none=>rfl
   | some i=>
     show ag cal cal1 (if _ then _ else _)=sc (if _ then _ else _) _ _ _
     split
     ·refine (ihb.1 _ _ _ _).trans ?_
      cases exS Γ cal cal1 b ⟨s.env.set i (some (.ins c' l)),s.ow.filter (· != i),s.st⟩ <;> rfl
     ·rfl
inductive An where
 | r (r:Res) | t (n:Nat) (b:Bool) | o (n:Nat) (d:D) | e (d:D) (s:Sta) | x (o:aw)
end
section
variable (cal cal1:Nat→List D→List O→Res)
noncomputable def trc:IT→List An→Prop×aw
 | .fin o,[]=>(True,o)
 | .fin o,_=>(False,o)
 | .call j ds st k,.r a :: l=>((cal j ds st=a)∧(trc (k a) l).1,(trc (k a) l).2)
 | .call1 j ds st k,.r a :: l=>((cal1 j ds st=a)∧(trc (k a) l).1,(trc (k a) l).2)
 | .test b k,.t 0 a :: l=>((b=a)∧(trc (k a) l).1,(trc (k a) l).2)
 | .test b k,.t (n+1) a :: l=>trc (k b) (.t n a :: l)
 | .test b k,.o (n+1) a :: l=>trc (k b) (.o n a :: l)
 | .test b k,l=>trc (k b) l
 | .opt o k,.o 0 a :: l=>((o=some a)∧(trc (k a) l).1,(trc (k a) l).2)
 | .opt (some d) k,.o (n+1) a :: l=>trc (k d) (.o n a :: l)
 | .opt (some d) k,.t (n+1) a :: l=>trc (k d) (.t n a :: l)
 | .opt (some d) k,l=>trc (k d) l
 | .sub o k,.e d s :: l=>((o = .ok d s)∧(trc (k d s) l).1,(trc (k d s) l).2)
 | .subS o k,.x a :: l=>((o=a)∧(trc (k a) l).1,(trc (k a) l).2)
 | _,_=>(False,.bad)
theorem mS:∀ (t:IT) (l:List An),(trc cal cal1 t l).1→ag cal cal1 t=(trc cal cal1 t l).2:=by
 intro t
 induction t with
 | fin o=>intro l h;cases l <;> first | rfl | exact h.elim
 | call j ds st k ih=>
   intro l h
   cases l with
   | nil=>exact h.elim
   | cons a l=>cases a with
     | r a=>obtain ⟨h1,h2⟩:=h;have:=ih a l h2;rw [← h1] at this ⊢;show ag cal cal1 (k (cal j ds st))=_;rw [h1] at this ⊢;exact this
     | _=>exact h.elim
 | call1 j ds st k ih=>
   intro l h
   cases l with
   | nil=>exact h.elim
   | cons a l=>cases a with
     | r a=>obtain ⟨h1,h2⟩:=h;show ag cal cal1 (k (cal1 j ds st))=_;rw [h1];exact ih a l h2
     | _=>exact h.elim
 | test b k ih=>
   intro l h
   show ag cal cal1 (k b)=_
   cases l with
   | nil=>exact ih b _ h
   | cons a l=>cases a with
     | t n a=>cases n with
       | zero=>obtain ⟨h1,h2⟩:=h;rw [h1];exact ih a l h2
       | succ n=>exact ih b _ h
     | o n a=>cases n with
       | zero=>exact ih b _ h
       | succ n=>exact ih b _ h
     | _=>exact ih b _ h
 | opt o k ih=>
   intro l h
   cases l with
   | nil=>cases o with
     | none=>exact h.elim
     | some d=>exact ih d _ h
   | cons a l=>cases a with
     | o n a=>cases n with
       | zero=>obtain ⟨rfl,h2⟩:=h;exact ih a l h2
       | succ n=>cases o with
         | none=>exact h.elim
         | some d=>exact ih d _ h
     | t n a=>cases n with
       | zero=>cases o with
         | none=>exact h.elim
         | some d=>exact ih d _ h
       | succ n=>cases o with
         | none=>exact h.elim
         | some d=>exact ih d _ h
     | _=>cases o with
        | none=>exact h.elim
        | some d=>exact ih d _ h
 | sub o k ih=>
   intro l h
   cases l with
   | nil=>exact h.elim
   | cons a l=>cases a with
     | e d s=>obtain ⟨rfl,h2⟩:=h;exact ih d s l h2
     | _=>exact h.elim
 | subS o k ih=>
   intro l h
   cases l with
   | nil=>exact h.elim
   | cons a l=>cases a with
     | x a=>obtain ⟨h1,h2⟩:=h;show ag cal cal1 (k o)=_;rw [h1];exact ih a l h2
     | _=>exact h.elim
end
noncomputable def AK:aw→Res
 | .nx s=>.ok .non s.st
 | .rt d s=>.ok d s.st
 | .exc c l s=>.exc c l s.st
 | .bad=>.bad
noncomputable def yW (Γ:Gm) (cal cal1:Nat→List D→List O→Res) (lp:Bool) (j:Nat) (ds:List D) (st:List O) (l:List An):Prop×Res:=match Γ.fn[j]? with
 | some f=>if ds.length=f.np then
  (fun p=>(p.1,AK p.2)) (trc cal cal1 (exT Γ cal cal1 lp f.body ⟨ds.map some ++ List.replicate (f.ns - f.np) none,[],st⟩ (fun s=>.fin (.nx s)) (fun d s=>.fin (.rt d s)) (fun c l s=>.fin (.exc c l s))) l)
   else (False,.bad)
 | none=>(False,.bad)
theorem yX {Γ:Gm} {cal cal1:Nat→List D→List O→Res} {lp:Bool} {j:Nat} {ds:List D} {st:List O} (l:List An) {P:Prop} {r:Res} (hp:P) (h:yW Γ cal cal1 lp j ds st l=(P,r)):mK Γ cal cal1 j ds st=r:=by
 unfold yW at h
 unfold mK
 cases q:Γ.fn[j]? with
 | none=>rw [q] at h;have t:False=P:=congrArg Prod.fst h;exact (Eq.mpr t hp:False).elim
 | some f=>
   rw [q] at h
   dsimp only at h ⊢
   by_cases c:ds.length=f.np
   ·rw [if_pos c] at h ⊢
    have h1:=congrArg Prod.fst h
    have h2:=congrArg Prod.snd h
    dsimp only at h1 h2
    have t:=mS cal cal1 _ l (h1 ▸ hp)
    rw [(qD f.body).1] at t
    rw [← h2,← t]
    cases exS Γ cal cal1 f.body ⟨ds.map some ++ List.replicate (f.ns - f.np) none,[],st⟩ <;> rfl
   ·rw [if_neg c] at h;have t:False=P:=congrArg Prod.fst h;exact (Eq.mpr t hp:False).elim
theorem ac {Γ:Gm} {n:Nat} (lp:Bool) {j:Nat} {ds:List D} {st:List O} (l:List An) {P:Prop} {r:Res} (hp:P) (h:yW Γ (ao Γ n) (aY Γ n) lp j ds st l=(P,r)):ao Γ (n+1) j ds st=r:=yX l hp h
theorem fD {Γ:Gm} {cal cal1:Nat→List D→List O→Res} (lp:Bool) {c:S} {s:Sta} (l:List An) {P:Prop} {o:aw} (hp:P) (h:trc cal cal1 (exT Γ cal cal1 lp c s (fun s=>.fin (.nx s)) (fun d s=>.fin (.rt d s)) (fun c l s=>.fin (.exc c l s))) l=(P,o)):exS Γ cal cal1 c s=o:=by
 have h1:=congrArg Prod.fst h
 have h2:=congrArg Prod.snd h
 dsimp only at h1 h2
 have t:=mS cal cal1 _ l (h1 ▸ hp)
 rw [(qD c).1,h2] at t
 rw [← t]
 cases exS Γ cal cal1 c s <;> rfl
noncomputable def At:aw→Out D
 | .rt d s=>.ok d s
 | .exc c l s=>.exc c l s
 | _=>.bad
theorem qC {Γ:Gm} {cal cal1:Nat→List D→List O→Res} (lp:Bool) {br:Bool} {e:E} {s:Sta} (l:List An) {P:Prop} {o:Out D} (hp:P) (h:(fun p:Prop×aw=>(p.1,At p.2)) (trc cal cal1 (evT Γ cal cal1 lp br e s (fun d s=>.fin (.rt d s)) (fun c l s=>.fin (.exc c l s))) l)=(P,o)):ev Γ cal cal1 br e s=o:=by
 have h1:=congrArg Prod.fst h
 have h2:=congrArg Prod.snd h
 dsimp only at h1 h2
 have t:=mS cal cal1 _ l (h1 ▸ hp)
 rw [(bN e).1] at t
 rw [← h2,← t]
 cases ev Γ cal cal1 br e s <;> rfl
theorem df {f:D→Sta→aw} {d:D} {r:List D} {s s1:Sta} {o:aw} (h:f d s = .nx s1) (h2:bC f r s1=o):bC f (d :: r) s=o:=by
 show (f d s).go _=o
 rw [h];exact h2
theorem eJ {f:D→Sta→aw} {d:D} {r:List D} {s:Sta} {o:aw} (h:f d s=o) (n:∀ s,o≠.nx s):bC f (d :: r) s=o:=by
 show (f d s).go _=o
 rw [h]
 cases o with
 | nx s=>exact absurd rfl (n s)
 | _=>rfl
theorem jN {f:D→Sta→Out (Option D)} {d:D} {r acc:List D} {s s1:Sta} {e:D} {o:Out D} (h:f d s = .ok (some e) s1) (ha:acc.length<100000) (h2:bX f r (acc ++ [e]) s1=o):bX f (d :: r) acc s=o:=by
 show (f d s).bind _=o
 rw [h]
 show (if acc.length<100000 then bX f r (acc ++ [e]) s1 else .bad)=o
 rw [if_pos ha];exact h2
noncomputable def gZ:S→S
 | .seq a b=>(match gZ a with | .skip=>gZ b | x=>x)
 | .ifs _ a b=>(match gZ a with | .skip=>gZ b | x=>x)
 | .for_ _ _ _ b=>b
 | _=>.skip
end L2.Ev
end
section
namespace L2.Ev
open L2.Bw L2.Bk L2.Ex
noncomputable def FnF (T:Ns) (K:Fg) (Γ:Gm) (j:Nat) (f:Addr):Prop:=∃ x qual st fd fn,Fun K x qual st f fd∧a8 K fd (bP st) []∧bt (kW st) (bP st) (am st)∧Γ.fn[j]? = some fn∧gJ T st=some fn
theorem zb1 {α:Type} {P:List α→Prop} (h:∀ a,P [a]):∀ us:List α,us.length=1→P us
 | [a],_=>h a
theorem zb2 {α:Type} {P:List α→Prop} (h:∀ a b,P [a,b]):∀ us:List α,us.length=2→P us
 | [a,b],_=>h a b
theorem zb3 {α:Type} {P:List α→Prop} (h:∀ a b c,P [a,b,c]):∀ us:List α,us.length=3→P us
 | [a,b,c],_=>h a b c
theorem zb4 {α:Type} {P:List α→Prop} (h:∀ a b c d,P [a,b,c,d]):∀ us:List α,us.length=4→P us
 | [a,b,c,d],_=>h a b c d
theorem zb5 {α:Type} {P:List α→Prop} (h:∀ a b c d e,P [a,b,c,d,e]):∀ us:List α,us.length=5→P us
 | [a,b,c,d,e],_=>h a b c d e
theorem fF {T:Ns} {K:Fg} {Γ:Gm} {st:Stmt} (g:Fn) {j:Nat} {x q:Str} {f:Addr} {fd:FuncData} (n:Nat)
 (h:(gJ T st,(bP st).length,(am st).kind,(am st).isCoroutine,(am st).isGenerator,(kW st).take (bP st).length)=(some g,n,.function,false,false,bP st))
 (h2:(kW st).Nodup∧(∀ x∈bP st,(am st).names.lookup x=some .local∨(am st).names.lookup x=some .cell)∧∀ y∈(am st).names,y.2≠.free)
 (hj:Γ.fn[j]? = some g)
 (hb:∀ (kV doc pm:Value) (an:Option Addr) (cdv ct:Value) (us:List Value),us.length=n→bindArgs (PySem.W.fnOf x q (bS st) (bf st) (am st) .none kV doc pm an cdv ct) ⟨us,[]⟩=pure ((bP st).zip us))
 (F:Fun K x q st f fd):FnF T K Γ j f:=by
 obtain ⟨e1,h⟩:=Prod.mk.inj h
 obtain ⟨e2,h⟩:=Prod.mk.inj h
 obtain ⟨e3,h⟩:=Prod.mk.inj h
 obtain ⟨e4,h⟩:=Prod.mk.inj h
 obtain ⟨e5,e6⟩:=Prod.mk.inj h
 exact ⟨_,_,_,fd,g,F,F.binds fun a b c d e i us hl=>hb a b c d e i us (e2 ▸ hl),⟨e3,e4,e5,h2.1,e6,h2.2.1,h2.2.2⟩,hj,e1⟩
noncomputable def wI (T:Ns) (K:Fg) (Γ:Gm):Nat→List Addr→Prop
 | _,[]=>True
 | j,f :: r=>FnF T K Γ j f∧wI T K Γ (j+1) r
theorem vV {T:Ns} {K:Fg} {Γ:Gm}:∀ {ad:List Addr} {j i:Nat} {f:Addr},wI T K Γ j ad→ad[i]? = some f→FnF T K Γ (j+i) f
 | [],_,i,_,_,e=>by simp at e
 | g :: r,j,0,f,h,e=>by simp at e;subst e;exact h.1
 | g :: r,j,i+1,f,h,e=>by
   have:=vV (i:=i) h.2 (by simpa using e)
   rw [show j+(i+1)=j+1+i by omega];exact this
noncomputable def wJ (mg:Str→Option Value):List Str→List Addr→Prop
 | [],_=>True
 | x :: xs,f :: fs=>mg x=some (.ref f)∧wJ mg xs fs
 | _ :: _,[]=>False
theorem vW {mg:Str→Option Value}:∀ {xs:List Str} {fs:List Addr} {j:Nat} {x:Str},wJ mg xs fs→xs[j]? = some x→∃ f,fs[j]? = some f∧mg x=some (.ref f)
 | [],_,_,_,_,e=>by simp at e
 | y :: xs,f :: fs,0,x,h,e=>by simp at e;subst e;exact ⟨f,rfl,h.1⟩
 | y :: xs,f :: fs,j+1,x,h,e=>by
   obtain ⟨g,h1,h2⟩:=vW (j:=j) h.2 (by simpa using e)
   exact ⟨g,by simpa using h1,h2⟩
 | _ :: _,[],_,_,h,_=>h.elim
noncomputable def iF {α:Type} (P:Nat→α→Prop):Nat→List α→Prop
 | _,[]=>True
 | j,x :: r=>P j x∧iF P (j+1) r
theorem vX {α:Type} {P:Nat→α→Prop}:∀ {l:List α} {j i:Nat} {x:α},iF P j l→l[i]? = some x→P (j+i) x
 | [],_,i,_,_,e=>by simp at e
 | g :: r,j,0,f,h,e=>by simp at e;subst e;exact h.1
 | g :: r,j,i+1,f,h,e=>by
   have:=vX (i:=i) h.2 (by simpa using e)
   rw [show j+(i+1)=j+1+i by omega];exact this
theorem gB {α:Type} {P:Nat→α→Prop} {l:List α} {i:Nat} {x:α} (h:iF P 0 l) (e:l[i]? = some x):P i x:=by
 have:=vX h e
 rwa [Nat.zero_add] at this
theorem aR.less {P:Program} {w:World} {K:Fg} {mg:Str→Option Value} {base:Heap} {CX:CXT} {k:Nat} {f:Addr} {fd:FuncData} {ps:List Str} {sp sp':Sp} (F:aR P w K mg base CX k f fd ps sp) (h:∀ vs H Q E,sp' vs H Q E→sp vs H Q E):aR P w K mg base CX k f fd ps sp':=
 ⟨fun vs H Q E x=>F.len vs H Q E (h vs H Q E x),fun A outer s H args us vs Q E hr he hb hv x=>F.run A outer s H args us vs Q E hr he hb hv (h vs H Q E x)⟩
noncomputable def n9 (K:Fg):Bool:=K.all fun p=>match p.2.cls with | .type s=>s != "list" | _=>true
theorem yj {K:Fg} (h:n9 K=true) {a:Addr} {o:Obj} (e:K.lookup a=some o):o.cls≠.type "list":=fun z=>by
 have m:∃ b,(b,o)∈K:=by
  revert e
  induction K with
  | nil=>intro e;cases e
  | cons p r ih=>
    intro e
    obtain ⟨b,x⟩:=p
    unfold n9 at h
    rw [List.all_cons,Bool.and_eq_true] at h
    rw [List.lookup_cons] at e
    split at e
    ·cases e;exact ⟨b,List.mem_cons_self⟩
    ·obtain ⟨c,hc⟩:=ih h.2 e
     exact ⟨c,List.mem_cons_of_mem _ hc⟩
 obtain ⟨b,hb⟩:=m
 have:=List.all_eq_true.mp h _ hb
 dsimp only at this
 rw [z] at this
 simp at this
noncomputable def oB (K:Fg):Sp:=fun vs H Q _=>∃ (a:Addr) (ns:List Int),vs = [.ref a]∧SqL K H a (ns.map V.int)∧ns.length≤63∧∀ H',Q (.bl true) H'
theorem lu {W:Wd} {ρ:List Addr} {G:Hp}:∀ ns:List Int,RDs W ρ G (ns.map D.int) (ns.map V.int)
 | []=>rfl
 | n :: r=>.cons rfl (lu r)
theorem xD {P:Program} {w:World} {K:Fg} {mg:Str→Option Value} {base:Heap} {W:Wd} {Γ:Gm} {k j lv:Nat} {f:Addr} {fd:FuncData} {ps:List Str} (nl:n9 K=true) (hlaw:∀ ns:List Int,ns.length≤63→∃ st',ao Γ k j [.lst (ns.map .int)] [] = .ok (.bl true) st')
 (F:aR P w K mg base (CXF P w) lv f fd ps (SpF W (ao Γ k) j)):aR P w K mg base CX0 lv f fd ps (oB K):=by
 refine aR.less (tT F) fun vs H Q E h=>?_
 obtain ⟨a,ns,rfl,hS,hl,q⟩:=h
 rcases hS with hS | ⟨o,its,n,h1,h2,_⟩
 ·obtain ⟨st',e⟩:=hlaw ns hl
  refine ⟨[],H,[.lst (ns.map .int)],[],⟨.refl _,rfl,List.nodup_nil,(fun _ m=>nomatch m),fun n o a z=>by simp at z⟩,.cons ⟨a,_,rfl,hS,lu ns⟩ rfl,?_⟩
  rw [e]
  intro v H' ρ' G' _ _ r
  obtain rfl:v = .bl true:=r
  exact q H'
 ·exact absurd h2 (yj nl h1)
noncomputable def a9 (K:Fg) (x:Str) (st:Stmt):Prop:=∃ f fd,Fun K x x st f fd∧PySem.W.nsIn K mainGlobals x=some (some (.ref f))
theorem here_mk {K:Fg} {x:Str} {st:Stmt} {f:Addr} {od an:Option Addr} {sl:Array (Option Value)} {oc kV dc pm cd ct:Value} (a:PySem.W.nsIn K mainGlobals x=some (some (.ref f)))
 (l:K.lookup f=some ⟨oc,od,.func (PySem.W.fnOf x x (bS st) (bf st) (am st) .none kV dc pm an cd ct),sl⟩) (c:PySem.W.codeIn K cd x=true) (k:PySem.W.keepIn K (.ref f)=true):a9 K x st:=⟨f,_,lZ l c k,a⟩
noncomputable def lP (K:Fg) (C:Addr) (m qn:Str) (st:Stmt) (f:Addr):Prop:=(∃ fd,Fun K m qn st f fd)∧oK K C m f
theorem me_mk {K:Fg} {C f:Addr} {m qn:Str} {st:Stmt} {od an:Option Addr} {sl:Array (Option Value)} {oc kV dc pm cd ct:Value} (at_:PySem.W.findIn K (.ref C) m=some (some (.ref f))) (l:K.lookup f=some ⟨oc,od,.func (PySem.W.fnOf m qn (bS st) (bf st) (am st) .none kV dc pm an cd ct),sl⟩) (fn:PySem.W.isFn K (.ref f)=true) (c:PySem.W.codeIn K cd qn=true) (k:PySem.W.keepIn K (.ref f)=true):lP K C m qn st f:=⟨⟨_,lZ l c k⟩,at_,fn,k⟩
structure tJ (K:Fg) (x:Str) (C:Addr):Prop where
 a:PySem.W.nsIn K mainGlobals x=some (some (.ref C))
 cls:Cls K C
 mks:PySem.W.makesIn K C=true
 kp:PySem.W.keepIn K (.ref C)=true
theorem cc_mk {K:Fg} {x:Str} {C:Addr} (a:PySem.W.nsIn K mainGlobals x=some (some (.ref C))) (pg:PySem.W.plainGet K C Str.empty=true) (hd:PySem.W.hasDictIn K C=true) (po:PySem.W.plainOver K C=true) (sa:PySem.W.findIn K (.ref C) "__setattr__" = some (some (.builtin "object.__setattr__"))) (mk:PySem.W.makesIn K C=true) (kp:PySem.W.keepIn K (.ref C)=true):tJ K x C:=⟨a,⟨pg,hd,po,sa⟩,mk,kp⟩
structure zo (K:Fg) (x qn:Str) (st:Stmt) (bmB:List Value) (nw:String) (C fI:Addr):Prop where
 a:PySem.W.nsIn K mainGlobals x=some (some (.ref C))
 own:oO K C fI bmB nw
 ini:∃ fd,Fun K "__init__" qn st fI fd
 st:mZ K C
 fd:eZ K C
 hh:PySem.W.hasDictIn K C=true
 ec:iO K C
 kp:PySem.W.keepIn K (.ref C)=true
 me:PySem.W.mroIn K C (.ref C)=some true
theorem xc_mk {K:Fg} {x qn:Str} {st:Stmt} {bmB:List Value} {nw:String} {C fI:Addr} {nm q:Str} {N:Addr} {bs bm:List Value} {hdct:Bool} {sn:List Str} {sub:List Value} {ab:Bool} {col:Option Bool} {dd:Option Addr} {k0 k1 k2 k3 k5:Option Value} {od an:Option Addr} {sl:Array (Option Value)} {oc kV dc pm cd ct:Value}
 (a:PySem.W.nsIn K mainGlobals x=some (some (.ref C))) (l:K.lookup C=some (excClassObj nm q C N bs bm hdct sn sub ab col dd k0 k1 k2 k3 k5 nw)) (t:PySem.W.tailIn K bmB bm=true) (ini:PySem.W.findIn K (.ref C) "__init__" = some (some (.ref fI))) (fl:K.lookup fI=some ⟨oc,od,.func (PySem.W.fnOf "__init__" qn (bS st) (bf st) (am st) .none kV dc pm an cd ct),sl⟩) (fn:PySem.W.isFn K (.ref fI)=true) (fc:PySem.W.codeIn K cd qn=true) (fk:PySem.W.keepIn K (.ref fI)=true)
 (ga:PySem.W.findIn K (.ref C) "__getattribute__" = some (some (.builtin "BaseException.__getattribute__"))) (gn:PySem.W.findIn K (.ref C) "__getattr__" = some none) (cl:PySem.W.findIn K (.ref C) "__class__" = some (some (.builtin "object.__class__"))) (sg:PySem.W.specialIn K (.builtin "object.__class__") "__get__" = some (some (.builtin "getset_descriptor.__get__"))) (tk:PySem.W.takesIn K (.builtin "object.__class__")=some true) (ob:PySem.W.mroIn K C (.type "object")=some true) (be:PySem.W.mroIn K C (.type "BaseException")=some true)
 (is:(PySem.W.clsIn K C).isSome=true) (kp:PySem.W.keepIn K (.ref C)=true) (tyC:PySem.W.typeIn K (.ref C)=some (.type "type")) (sa:PySem.W.findIn K (.ref C) "__setattr__" = some (some (.builtin "object.__setattr__"))) (ov:((PySem.W.clsIn K C).any fun cd=>hU veB cd.mro || hU exB cd.mro)=true) (hdc:((PySem.W.clsIn K C).any fun cd=>cd.hasDict)=true) (hh:PySem.W.hasDictIn K C=true) (me:PySem.W.mroIn K C (.ref C)=some true):zo K x qn st bmB nw C fI:=
 ⟨a,⟨⟨nm,q,N,bs,bm,hdct,sn,sub,ab,col,dd,k0,k1,k2,k3,k5,l,t⟩,ini,fn⟩,⟨_,lZ fl fc fk⟩,⟨sa,ov,hdc,ob⟩,⟨ga,gn,cl,sg,tk,ob,be,is⟩,hh,⟨tyC,is,be⟩,kp,me⟩
end L2.Ev
end
section
namespace L2.K61
open L2.Bw L2.Bk L2.Ex L2.Ev
noncomputable def top (i:Nat):Stmt:=PySem.Challenge.pw_blamewise_k61_plain_rows_and_pairs.main.body.getD i (.Pass ⟨0,0,0,0⟩)
noncomputable def bb (s:Stmt) (j:Nat):Stmt:=match s with
 | .ClassDef _ _ _ body _ _ _ _ _ _ _=>body.getD j (.Pass ⟨0,0,0,0⟩)
 | _=>.Pass ⟨0,0,0,0⟩
noncomputable def T:Ns where
 gl:=["LEAVES","MOST_LEVEL"]
 tb:=["FORMS","NEEDED_HEADS"]
 fn:=["form","indexes","parts","need_names","need_bound","names_bound","plain","walked","leaf_value","need_head","deed","thing_at","thing_of","alone","looks_beside","text_of","shown","thing_shown","_law_next","_law_place","_law_cell_at","_law_kind","_law_leaf","_law_spot","_law_made","_law_head","_law_due","_law_text","_law_alike","_law_good","law"]
 at_:=["outcome","head","held","guards","tag","left","together","notes","looks","numbers","giver"]
 bl:=["len","isinstance","list","tuple","int","bool","str","range","zip","enumerate"]
 rf:=["_law_deal"]
 mu:=[]
 me:=[("give_all",2,32),("come_to",3,34),("value_of",3,35)]
 ex:=["Ended","","",""]
 nd:=["","Value","",""]
 nw:=["","","Giver","Walker"]
 hx:=["Ended","","",""]
noncomputable def cT (st:Stmt):Fn:=(gJ T st).getD ⟨0,0,.skip⟩
noncomputable def qI:Fn:=cT (top 5)
noncomputable def iZ:Fn:=cT (top 6)
noncomputable def nz:Fn:=cT (top 7)
noncomputable def eI:Fn:=cT (top 8)
noncomputable def cE:Fn:=cT (top 9)
noncomputable def dJ:Fn:=cT (top 10)
noncomputable def nA:Fn:=cT (top 55)
noncomputable def kE:Fn:=cT (top 52)
noncomputable def eG:Fn:=cT (top 42)
noncomputable def fO:Fn:=cT (top 43)
noncomputable def qH:Fn:=cT (top 44)
noncomputable def gN:Fn:=cT (top 47)
noncomputable def gO:Fn:=cT (top 34)
noncomputable def ny:Fn:=cT (top 28)
noncomputable def c9:Fn:=cT (top 31)
noncomputable def i0:Fn:=cT (top 35)
noncomputable def nB:Fn:=cT (top 36)
noncomputable def dL:Fn:=cT (top 37)
noncomputable def fL:Fn:=cT (top 57)
noncomputable def eF:Fn:=cT (top 58)
noncomputable def c8:Fn:=cT (top 59)
noncomputable def fH:Fn:=cT (top 60)
noncomputable def fJ:Fn:=cT (top 61)
noncomputable def fM:Fn:=cT (top 62)
noncomputable def fK:Fn:=cT (top 63)
noncomputable def fG:Fn:=cT (top 64)
noncomputable def dU:Fn:=cT (top 65)
noncomputable def fN:Fn:=cT (top 66)
noncomputable def eE:Fn:=cT (top 67)
noncomputable def fE:Fn:=cT (top 68)
noncomputable def qJ:Fn:=cT (top 69)
noncomputable def cr:Fn:=cT (bb (top 27) 0)
noncomputable def cu:Fn:=cT (bb (top 27) 2)
noncomputable def b9:Fn:=cT (bb (top 53) 0)
noncomputable def cv:Fn:=cT (bb (top 53) 1)
noncomputable def bv:Fn:=cT (bb (top 53) 2)
noncomputable def gl:List Dk:=[(.tup [(.str "whole"),(.str "truth"),(.str "given"),(.str "name"),(.str "fn"),(.str "self")]),(.int 3)]
noncomputable def ke:List (Str×Dk):=[("whole",(.tup [(.str "number")])),("truth",(.tup [(.str "truth")])),("given",(.tup [(.str "given")])),("name",(.tup [(.str "name")])),("fn",(.tup [(.str "name"),(.str "kind"),(.str "node")])),("self",(.tup [(.str "name"),(.str "name"),(.str "kind"),(.str "kind"),(.str "node")])),("call",(.tup [(.str "node"),(.str "node")])),("let",(.tup [(.str "name"),(.str "node"),(.str "node")])),("if",(.tup [(.str "node"),(.str "node"),(.str "node")])),("do",(.tup [(.str "sign"),(.str "node"),(.str "node")])),("row",(.tup [(.str "kind"),(.str "nodes")])),("at",(.tup [(.str "node"),(.str "node")])),("size",(.tup [(.str "node")])),("pair",(.tup [(.str "node"),(.str "node")])),("one",(.tup [(.str "node")])),("two",(.tup [(.str "node")])),("as",(.tup [(.str "kind"),(.str "node")])),("look",(.tup [(.str "put in"),(.str "put in"),(.str "node")]))]
noncomputable def b6:List (Str×Dk):=[("call",(.tup [(.str "to")])),("if",(.tup [(.str "truth")])),("do",(.tup [(.str "whole"),(.str "whole")])),("at",(.tup [(.str "row"),(.str "whole")])),("size",(.tup [(.str "row")])),("one",(.tup [(.str "pair")])),("two",(.tup [(.str "pair")]))]
noncomputable def Γ:Gm:=⟨gl,[ke,b6],[qI,iZ,nz,eI,cE,dJ,nA,kE,eG,fO,qH,gN,gO,ny,c9,i0,nB,dL,fL,eF,c8,fH,fJ,fM,fK,fG,dU,fN,eE,fE,qJ,cr,cu,b9,cv,bv],[⟨2,[0],0,[],[],[]⟩,⟨1,[1,2,3,4],0,[],[],[]⟩,⟨0,[5,6,7],31,[],[],[]⟩,⟨0,[8,9,10],33,[],[],[]⟩]⟩
noncomputable abbrev ui:Nat:=2
noncomputable abbrev jJ:Nat:=3
noncomputable abbrev bT:Nat:=4
noncomputable abbrev iK:Nat:=5
noncomputable abbrev uj:Nat:=6
noncomputable abbrev qX:Nat:=7
noncomputable abbrev eM:Nat:=8
noncomputable abbrev fR:Nat:=9
noncomputable abbrev xy:Nat:=10
noncomputable abbrev md:Nat:=11
noncomputable abbrev mf:Nat:=12
noncomputable abbrev uh:Nat:=13
noncomputable abbrev gW:Nat:=14
noncomputable abbrev pp:Nat:=15
noncomputable abbrev nP:Nat:=16
noncomputable abbrev bc:Nat:=17
noncomputable abbrev di:Nat:=18
noncomputable abbrev jI:Nat:=19
noncomputable abbrev gU:Nat:=20
noncomputable abbrev kP:Nat:=21
noncomputable abbrev kQ:Nat:=22
noncomputable abbrev kR:Nat:=23
noncomputable abbrev dh:Nat:=24
noncomputable abbrev kO:Nat:=25
noncomputable abbrev cF:Nat:=26
noncomputable abbrev dj:Nat:=27
noncomputable abbrev jH:Nat:=28
noncomputable abbrev ce:Nat:=29
noncomputable abbrev z7:Nat:=30
noncomputable abbrev cw:Nat:=31
noncomputable abbrev fi:Nat:=32
noncomputable abbrev cb:Nat:=33
noncomputable abbrev aT:Nat:=34
noncomputable abbrev bx:Nat:=35
theorem A {a b:Prop} (x:a) (y:b):a∧b:=⟨x,y⟩
theorem Z:True:=True.intro
inductive T61 where
 | whole (p v:Int) | truth (p:Int) (b:Bool) | row (p:Int) (k:D) (ts:List T61) | pair (p:Int) (a b:T61) | att (p:Int) (a b:T61) | size (p:Int) (a:T61) | one (p:Int) (a:T61) | two (p:Int) (a:T61)
mutual
noncomputable def T61.toD:T61→D
 | .whole p v=>.tup [.str "whole",.int p,.int v]
 | .truth p b=>.tup [.str "truth",.int p,.bl b]
 | .row p k ts=>.tup [.str "row",.int p,k,.tup (toDs ts)]
 | .pair p a b=>.tup [.str "pair",.int p,a.toD,b.toD]
 | .att p a b=>.tup [.str "at",.int p,a.toD,b.toD]
 | .size p a=>.tup [.str "size",.int p,a.toD]
 | .one p a=>.tup [.str "one",.int p,a.toD]
 | .two p a=>.tup [.str "two",.int p,a.toD]
noncomputable def toDs:List T61→List D
 | []=>[]
 | t :: r=>t.toD :: toDs r
end
noncomputable def T61.pl:T61→Int
 | .whole p _=>p | .truth p _=>p | .row p _ _=>p | .pair p _ _=>p | .att p _ _=>p | .size p _=>p | .one p _=>p | .two p _=>p
mutual
noncomputable def T61.nest:T61→Nat
 | .whole _ _=>1 | .truth _ _=>1
 | .row _ _ ts=>1+cS ts
 | .pair _ a b=>1+max a.nest b.nest
 | .att _ a b=>1+max a.nest b.nest
 | .size _ a=>1+a.nest
 | .one _ a=>1+a.nest
 | .two _ a=>1+a.nest
noncomputable def cS:List T61→Nat
 | []=>0
 | t :: r=>max t.nest (cS r)
end
theorem AA (t:T61):ixD t.toD (.int 1)=some (.int t.pl):=by cases t <;> rfl
theorem xI (t:T61) (st:List O):look st t.toD=t.toD:=by cases t <;> rfl
theorem jX (t:T61) (st:List O):ixD (look st t.toD) (.int 1)=some (.int t.pl):=by rw [xI];exact AA t
noncomputable def aU:T61→List T61
 | .row _ _ ts=>ts
 | .pair _ a b=>[a,b]
 | .att _ a b=>[a,b]
 | .size _ a=>[a]
 | .one _ a=>[a]
 | .two _ a=>[a]
 | _=>[]
theorem k9:∀ {ts:List T61} {t:T61},t∈ts→t.nest≤cS ts
 | a :: r,t,h=>by
   unfold cS
   rcases List.mem_cons.mp h with rfl | h
   ·exact Nat.le_max_left _ _
   ·exact Nat.le_trans (k9 h) (Nat.le_max_right _ _)
theorem mh:∀ {t k:T61},k∈aU t→k.nest<t.nest
 | .whole _ _,_,h=>nomatch h
 | .truth _ _,_,h=>nomatch h
 | .row _ _ ts,k,h=>by have:=k9 (ts:=ts) h;show _<1+cS ts;omega
 | .pair _ a b,k,h=>by
   show _<1+max a.nest b.nest
   rcases List.mem_cons.mp h with rfl | h
   ·omega
   ·rw [List.mem_singleton.mp h];omega
 | .att _ a b,k,h=>by
   show _<1+max a.nest b.nest
   rcases List.mem_cons.mp h with rfl | h
   ·omega
   ·rw [List.mem_singleton.mp h];omega
 | .size _ a,k,h=>by rw [List.mem_singleton.mp h];show _<1+a.nest;omega
 | .one _ a,k,h=>by rw [List.mem_singleton.mp h];show _<1+a.nest;omega
 | .two _ a,k,h=>by rw [List.mem_singleton.mp h];show _<1+a.nest;omega
theorem mE (t:T61) (n:Nat) (st:List O):ao Γ (n+3) ui [t.toD] st = .ok (.lst (toDs (aU t))) st:=by
 cases t <;> kernel_rfl
theorem yh (t:T61) (k:Int) (n:Nat) (st:List O):ao Γ (n+1) iK [t.toD,.int k] st = .ok (.tup []) st:=by
 cases t <;> kernel_rfl
noncomputable abbrev bB:S:=gZ cE.body
theorem nY (t:T61) (m:Nat) (st:List O):∀ (ts:List T61) (i:Int) (e2 e3:Option D),(∀ k∈ts,ao Γ (m+1) bT [k.toD,.tup []] st = .ok .non st)→∃ (e2' e3':Option D),
 bC (fun d s=>match aD [2,3] false d s.env with | some env=>exS Γ (ao Γ (m+1)) (aY Γ (m+1)) bB ⟨env,s.ow.filter fun i=>!([2,3]:List Nat).contains i,s.st⟩ | none=>.bad) (bJ i (toDs ts)) ⟨[some t.toD,some (.tup []),e2,e3],[],st⟩ = .nx ⟨[some t.toD,some (.tup []),e2',e3'],[],st⟩
 | [],i,e2,e3,_=>⟨e2,e3,rfl⟩
 | k :: r,i,e2,e3,h=>by
   obtain ⟨a,b,hf⟩:=nY t m st r (i+1) (some (.int i)) (some k.toD) fun x hx=>h x (List.mem_cons_of_mem _ hx)
   exact ⟨a,b,df (fD false [.r (.ok (.tup []) st),.r (.ok .non st)] (A (yh t i m st) (A (h k (List.mem_cons_self ..)) Z)) nofun) hf⟩
theorem g6:∀ (n:Nat) (t:T61) (st:List O),t.nest+3≤n→ao Γ n bT [t.toD,.tup []] st = .ok .non st
 | 0,t,st,h=>by omega
 | n+1,t,st,h=>by
   have ih:∀ k∈aU t,ao Γ n bT [k.toD,.tup []] st = .ok .non st:=fun k hk=>g6 n k st (by have:=mh hk;omega)
   have n1:1≤t.nest:=by cases t <;> (unfold T61.nest;omega)
   obtain ⟨m,rfl⟩:∃ m,n=m+3:=⟨n - 3,by omega⟩
   obtain ⟨a,b,hf⟩:=nY t (m+2) st (aU t) 0 none none ih
   have hp:=mE t m st
   have go:∀ t':T61,t'=t→ao Γ (m+3+1) bT [t.toD,.tup []] st = .ok .non st:=fun t' e=>by
    cases t <;> exact ac true [.r (.ok (.lst (toDs (aU t'))) st),.x (.nx ⟨[some t'.toD,some (.tup []),a,b],[],st⟩)] (A ((e ▸ hp)) (A ((e ▸ hf)) Z)) (by subst e;kernel_rfl)
   exact go t rfl
theorem my (t:T61) (n:Nat) (st:List O) (h:t.nest+4≤n):ao Γ n jJ [t.toD] st = .ok .non st:=by
 obtain ⟨m,rfl⟩:∃ m,n=m+1:=⟨n - 1,by omega⟩
 exact ac false [.r (.ok .non st)] (A (g6 m t st (by omega)) Z) nofun
theorem p4 (n:Nat) (st:List O) (h x:D):ao Γ (n+1) uh [h,x] st = .ok (.ins 1 [h,x,.tup [],.non]) st:=by kernel_rfl
inductive V61 where
 | num (i:Int) | tru (b:Bool) | row (xs:List V61) | pair (a b:V61)
mutual
noncomputable def V61.toP:V61→D
 | .num i=>.ins 1 [.str "whole",.int i,.tup [],.non]
 | .tru b=>.ins 1 [.str "truth",.bl b,.tup [],.non]
 | .row xs=>.ins 1 [.str "row",.tup (cq xs),.tup [],.non]
 | .pair a b=>.ins 1 [.str "pair",.tup [a.toP,b.toP],.tup [],.non]
noncomputable def cq:List V61→List D
 | []=>[]
 | t :: r=>t.toP :: cq r
end
theorem iw:∀ ts:List V61,cq ts=ts.map V61.toP
 | []=>rfl
 | t :: r=>by unfold cq;rw [iw r];rfl
inductive Er where
 | wrong (p:Int) | nun (p:Int)
noncomputable def eD:Er→D
 | .wrong p=>.tup [.str "wrong",.int p]
 | .nun p=>.tup [.str "fault",.int p,.str "none"]
noncomputable def chk:T61→Nat→V61→Bool
 | .att _ _ _,0,.row _=>true
 | .att _ _ _,0,_=>false
 | .att _ _ _,1,.num _=>true
 | .att _ _ _,1,_=>false
 | .size _ _,0,.row _=>true
 | .size _ _,0,_=>false
 | .one _ _,0,.pair _ _=>true
 | .one _ _,0,_=>false
 | .two _ _,0,.pair _ _=>true
 | .two _ _,0,_=>false
 | _,_,_=>true
noncomputable def aZ (f:T61→Except Er V61) (t:T61):Nat→List T61→Except Er (List V61)
 | _,[]=>.ok []
 | i,k :: r=>(match f k with
   | .error e=>.error e
   | .ok x=>(match chk t i x with
     | false=>.error (.wrong k.pl)
     | true=>(match aZ f t (i+1) r with
       | .ok xs=>.ok (x :: xs)
       | .error e=>.error e)))
noncomputable def nth (xs:List V61) (i p:Int):Except Er V61:=if 0≤i then (match xs[i.toNat]? with | some x=>.ok x | none=>.error (.nun p)) else .error (.nun p)
noncomputable def fin:T61→List V61→Except Er V61
 | .row _ _ _,xs=>.ok (.row xs)
 | .pair _ _ _,[a,b]=>.ok (.pair a b)
 | .att p _ _,[.row xs,.num i]=>nth xs i p
 | .size _ _,[.row xs]=>.ok (.num xs.length)
 | .one _ _,[.pair a _]=>.ok a
 | .two _ _,[.pair _ b]=>.ok b
 | _,_=>.error (.nun 0)
noncomputable def leaf?:T61→Option V61
 | .whole _ v=>some (.num v)
 | .truth _ b=>some (.tru b)
 | _=>none
noncomputable def val:Nat→T61→Except Er V61
 | 0,_=>.error (.nun 0)
 | n+1,t=>(match leaf? t with
   | some x=>.ok x
   | none=>(match aZ (val n) t 0 (aU t) with
     | .ok xs=>fin t xs
     | .error e=>.error e))
noncomputable def iL (r:Except Er V61) (S:List O):Res:=match r with
 | .ok x=>.ok x.toP S
 | .error e=>.exc 0 [eD e] S
theorem nZ (t:T61) (h:(∃ p k ts,t = .row p k ts)∨(∃ p a b,t = .pair p a b)) (i:Nat) (d:D) (n:Nat) (st:List O):ao Γ (n+1) fR [t.toD,.int i,d] st = .ok .non st:=by
 have e:decide ((i:Int)<0)=false:=decide_eq_false (by omega)
 rcases h with ⟨p,k,ts,rfl⟩ | ⟨p,a,b,rfl⟩
 ·exact ac false [.t 3 false] (A (e) Z) nofun
 ·exact ac false [.t 3 false] (A (e) Z) nofun
noncomputable def rK (t:T61) (i:Nat) (k:T61) (x:V61) (st:List O):Res:=if chk t i x then .ok .non st else .exc 0 [eD (.wrong k.pl)] st
theorem nh (t:T61) (i:Nat) (k:T61) (h:(aU t)[i]? = some k) (x:V61) (n:Nat) (st:List O):ao Γ (n+4) fR [t.toD,.int i,x.toP] st=rK t i k x st:=by
 have hp:=mE t n st
 have hl:=jX k st
 cases t with
 | whole p v=>cases h
 | truth p v=>cases h
 | row p kd ts=>exact nZ _ (.inl ⟨_,_,_,rfl⟩) i _ _ _
 | pair p a b=>exact nZ _ (.inr ⟨_,_,_,rfl⟩) i _ _ _
 | att p a b=>
   match i,h with
   | 0,h=>
     cases h
     cases x with
     | row xs=>kernel_rfl
     | num j=>exact ac false [.r (.ok (.lst [k.toD,b.toD]) st),.o 1 (.int k.pl)] (A (hp) (A (hl) Z)) nofun
     | tru j=>exact ac false [.r (.ok (.lst [k.toD,b.toD]) st),.o 1 (.int k.pl)] (A (hp) (A (hl) Z)) nofun
     | pair u v=>exact ac false [.r (.ok (.lst [k.toD,b.toD]) st),.o 1 (.int k.pl)] (A (hp) (A (hl) Z)) nofun
   | 1,h=>
     cases h
     cases x with
     | num xs=>kernel_rfl
     | row j=>exact ac false [.r (.ok (.lst [a.toD,k.toD]) st),.o 1 (.int k.pl)] (A (hp) (A (hl) Z)) nofun
     | tru j=>exact ac false [.r (.ok (.lst [a.toD,k.toD]) st),.o 1 (.int k.pl)] (A (hp) (A (hl) Z)) nofun
     | pair u v=>exact ac false [.r (.ok (.lst [a.toD,k.toD]) st),.o 1 (.int k.pl)] (A (hp) (A (hl) Z)) nofun
   | i+2,h=>cases h
 | size p a=>
   match i,h with
   | 0,h=>
     cases h
     cases x with
     | row xs=>kernel_rfl
     | num j=>exact ac false [.r (.ok (.lst [k.toD]) st),.o 1 (.int k.pl)] (A (hp) (A (hl) Z)) nofun
     | tru j=>exact ac false [.r (.ok (.lst [k.toD]) st),.o 1 (.int k.pl)] (A (hp) (A (hl) Z)) nofun
     | pair u v=>exact ac false [.r (.ok (.lst [k.toD]) st),.o 1 (.int k.pl)] (A (hp) (A (hl) Z)) nofun
   | i+1,h=>cases h
 | one p a=>
   match i,h with
   | 0,h=>
     cases h
     cases x with
     | pair u v=>kernel_rfl
     | num j=>exact ac false [.r (.ok (.lst [k.toD]) st),.o 1 (.int k.pl)] (A (hp) (A (hl) Z)) nofun
     | tru j=>exact ac false [.r (.ok (.lst [k.toD]) st),.o 1 (.int k.pl)] (A (hp) (A (hl) Z)) nofun
     | row u=>exact ac false [.r (.ok (.lst [k.toD]) st),.o 1 (.int k.pl)] (A (hp) (A (hl) Z)) nofun
   | i+1,h=>cases h
 | two p a=>
   match i,h with
   | 0,h=>
     cases h
     cases x with
     | pair u v=>kernel_rfl
     | num j=>exact ac false [.r (.ok (.lst [k.toD]) st),.o 1 (.int k.pl)] (A (hp) (A (hl) Z)) nofun
     | tru j=>exact ac false [.r (.ok (.lst [k.toD]) st),.o 1 (.int k.pl)] (A (hp) (A (hl) Z)) nofun
     | row u=>exact ac false [.r (.ok (.lst [k.toD]) st),.o 1 (.int k.pl)] (A (hp) (A (hl) Z)) nofun
   | i+1,h=>cases h
section
variable {S:List O} {g:Nat}
theorem beside (hd:Str) (xs:List D) (k:Int) (n:Nat) (S:List O):ao Γ (n+1) gW [.ins 1 [.str hd,.tup xs,.tup [],.non],.int k] S = .ok (.lst []) S:=by kernel_rfl
theorem kJ (d:D) (n:Nat) (S:List O):ao Γ (n+1) fi [.ref g,d,.lst []] S = .ok d S:=by kernel_rfl
theorem lF (hd:Str) (hh:hd = "row"∨hd = "pair") (xs:List D) (i:Nat) (d:D) (h:xs[i]? = some d) (G:cR S g 2=true) (n:Nat):ao Γ (n+2) mf [.ins 1 [.str hd,.tup xs,.tup [],.non],.int i,.ref g] S = .ok d S:=by
 have hi:ixD (.tup xs) (.int (i:Int))=some d:=jw h
 rcases hh with rfl | rfl
 ·exact ac false [.t 3 true,.o 1 d,.r (.ok (.lst []) S),.r (.ok d S)] (A (G) (A (hi) (A (beside "row" xs 1 n S) (A (kJ (g:=g) d n S) Z)))) nofun
 ·exact ac false [.t 4 true,.o 1 d,.r (.ok (.lst []) S),.r (.ok d S)] (A (G) (A (hi) (A (beside "pair" xs ((i:Int)+1) n S) (A (kJ (g:=g) d n S) Z)))) nofun
theorem kf {xs:List V61} {i:Nat}:(cq xs)[i]? = (xs[i]?).map V61.toP:=by rw [iw,List.getElem?_map]
theorem dw {xs:List V61}:(cq xs).length=xs.length:=by rw [iw,List.length_map]
theorem tf (p:Int) (a b:T61) (xs:List V61) (i:Int) (G:cR S g 2=true) (n:Nat):ao Γ (n+3) md [(T61.att p a b).toD,(V61.row xs).toP,.int i,.ref g] S=iL (nth xs i p) S:=by
 unfold nth
 by_cases c:0≤i
 ·rw [if_pos c]
  have e1:decide ((0:Int)≤i)=true:=decide_eq_true c
  obtain ⟨k,rfl⟩:∃ k:Nat,i=k:=⟨i.toNat,by omega⟩
  rw [Int.toNat_natCast]
  cases q:xs[k]? with
  | some x=>
    have lt:k<xs.length:=(List.getElem?_eq_some_iff.mp q).1
    have e2:(!decide ((k:Int)<((cq xs).length:Nat)))=false:=by rw [dw];simp;omega
    have h:=lF (S:=S) "row" (.inl rfl) (cq xs) k x.toP (by rw [kf,q];rfl) G n
    exact ac false [.t 1 true,.t 3 false,.r (.ok x.toP S)] (A (e1) (A (e2) (A (h) Z))) nofun
  | none=>
    have ge:xs.length≤k:=List.getElem?_eq_none_iff.mp q
    have e2:(!decide ((k:Int)<((cq xs).length:Nat)))=true:=by rw [dw];simp;omega
    exact ac false [.t 1 true,.t 3 true] (A (e1) (A (e2) Z)) nofun
 ·rw [if_neg c]
  have e1:decide ((0:Int)≤i)=false:=decide_eq_false c
  exact ac false [.t 1 false] (A (e1) Z) nofun
noncomputable def Shp:T61→List V61→Prop
 | .row _ _ _,_=>True
 | .pair _ _ _,xs=>∃ a b,xs = [a,b]
 | .att _ _ _,xs=>∃ ys i,xs = [.row ys,.num i]
 | .size _ _,xs=>∃ ys,xs = [.row ys]
 | .one _ _,xs=>∃ a b,xs = [.pair a b]
 | .two _ _,xs=>∃ a b,xs = [.pair a b]
 | _,_=>False
theorem Bu (t:T61) (xs:List V61) (h:Shp t xs) (G:cR S g 2=true) (n:Nat):ao Γ (n+4) xy [t.toD,.lst (cq xs),.ref g] S=iL (fin t xs) S:=by
 cases t with
 | whole p v=>exact h.elim
 | truth p v=>exact h.elim
 | row p kd ts=>exact ac false [.r (.ok (.ins 1 [.str "row",.tup (cq xs),.tup [],.non]) S)] (A (p4 (n+2) S (.str "row") (.tup (cq xs))) Z) nofun
 | pair p a b=>
   obtain ⟨u,v,rfl⟩:=h
   exact ac false [.r (.ok (.ins 1 [.str "pair",.tup [u.toP,v.toP],.tup [],.non]) S)] (A (p4 (n+2) S (.str "pair") (.tup [u.toP,v.toP])) Z) nofun
 | att p a b=>
   obtain ⟨ys,i,rfl⟩:=h
   have h1:=tf p a b ys i G n
   show _=iL (nth ys i p) S
   revert h1
   cases nth ys i p with
   | ok x=>exact fun h1=>ac false [.r (iL (.ok x) S)] (A (h1) Z) nofun
   | error e=>exact fun h1=>ac false [.r (iL (.error e) S)] (A (h1) Z) nofun
 | size p a=>
   obtain ⟨ys,rfl⟩:=h
   have e:biD .len [.tup (cq ys)]=some (.int (ys.length:Nat)):=by show some (D.int ((cq ys).length:Nat))=_;rw [dw]
   exact ac false [.o 11 (.int (ys.length:Nat)),.r (.ok (V61.num ys.length).toP S)] (A (e) (A (p4 (n+2) S (.str "whole") (.int (ys.length:Nat))) Z)) nofun
 | one p a=>
   obtain ⟨u,v,rfl⟩:=h
   exact ac false [.r (.ok u.toP S)] (A (lF (S:=S) "pair" (.inr rfl) [u.toP,v.toP] 0 u.toP rfl G (n+1)) Z) nofun
 | two p a=>
   obtain ⟨u,v,rfl⟩:=h
   exact ac false [.r (.ok v.toP S)] (A (lF (S:=S) "pair" (.inr rfl) [u.toP,v.toP] 1 v.toP rfl G (n+1)) Z) nofun
end
structure Ws (S:List O) (r g:Nat):Prop where
 i:cR S r 3=true
 l:kF Γ S (.ref r) 8=some (.dic [] [])
 n:kF Γ S (.ref r) 9=some (.lst [])
 gi:cR S g 2=true
 g:kF Γ S (.ref r) 10=some (.ref g)
mutual
noncomputable def T61.ok:T61→Prop
 | .whole _ v=>v.natAbs<10 ^ 13
 | .truth _ _=>True
 | .row _ _ ts=>ts.length≤4∧oks ts
 | .pair _ a b=>a.ok∧b.ok
 | .att _ a b=>a.ok∧b.ok
 | .size _ a=>a.ok
 | .one _ a=>a.ok
 | .two _ a=>a.ok
noncomputable def oks:List T61→Prop
 | []=>True
 | t :: r=>t.ok∧oks r
end
theorem cJ:∀ {ts:List T61},oks ts→∀ {t},t∈ts→t.ok
 | a :: r,h,t,m=>by
   rcases List.mem_cons.mp m with rfl | m
   ·exact h.1
   ·exact cJ h.2 m
theorem mB {t k:T61} (h:t.ok) (m:k∈aU t):k.ok:=by
 cases t with
 | whole p v=>cases m
 | truth p v=>cases m
 | row p kd ts=>exact cJ h.2 m
 | pair p a b=>exact cJ (ts:=[a,b]) ⟨h.1,h.2,trivial⟩ m
 | att p a b=>exact cJ (ts:=[a,b]) ⟨h.1,h.2,trivial⟩ m
 | size p a=>exact cJ (ts:=[a]) ⟨h,trivial⟩ m
 | one p a=>exact cJ (ts:=[a]) ⟨h,trivial⟩ m
 | two p a=>exact cJ (ts:=[a]) ⟨h,trivial⟩ m
theorem mC {t:T61} (h:t.ok):(aU t).length≤4:=by
 cases t with
 | row p kd ts=>exact h.1
 | _=>simp [aU]
theorem aQ {f:T61→Except Er V61} {t k:T61} {i:Nat} {r:List T61} {xs:List V61} (h:aZ f t i (k :: r) = .ok xs):∃ x ys,f k = .ok x∧chk t i x=true∧aZ f t (i+1) r = .ok ys∧xs=x :: ys:=by
 unfold aZ at h
 split at h
 ·cases h
 ·rename_i x e
  split at h
  ·cases h
  ·rename_i e2
   split at h
   ·rename_i ys e3
    cases h
    exact ⟨x,ys,e,e2,e3,rfl⟩
   ·cases h
theorem bK {f:T61→Except Er V61} {t:T61} {i:Nat} {xs:List V61} (h:aZ f t i [] = .ok xs):xs = []:=by
 unfold aZ at h;cases h;rfl
theorem mN {f:T61→Except Er V61} {t:T61} {xs:List V61} (hl:leaf? t=none) (h:aZ f t 0 (aU t) = .ok xs):Shp t xs:=by
 cases t with
 | whole p v=>cases hl
 | truth p v=>cases hl
 | row p kd ts=>trivial
 | pair p a b=>
   obtain ⟨x,ys,_,_,h2,rfl⟩:=aQ h
   obtain ⟨y,zs,_,_,h3,rfl⟩:=aQ h2
   rw [bK h3];exact ⟨x,y,rfl⟩
 | att p a b=>
   obtain ⟨x,ys,_,c1,h2,rfl⟩:=aQ h
   obtain ⟨y,zs,_,c2,h3,rfl⟩:=aQ h2
   rw [bK h3]
   cases x <;> first | cases c1;done | skip
   cases y <;> first | cases c2;done | skip
   exact ⟨_,_,rfl⟩
 | size p a=>
   obtain ⟨x,ys,_,c1,h2,rfl⟩:=aQ h
   rw [bK h2]
   cases x <;> first | cases c1;done | skip
   exact ⟨_,rfl⟩
 | one p a=>
   obtain ⟨x,ys,_,c1,h2,rfl⟩:=aQ h
   rw [bK h2]
   cases x <;> first | cases c1;done | skip
   exact ⟨_,_,rfl⟩
 | two p a=>
   obtain ⟨x,ys,_,c1,h2,rfl⟩:=aQ h
   rw [bK h2]
   cases x <;> first | cases c1;done | skip
   exact ⟨_,_,rfl⟩
noncomputable def T61.word:T61→Str
 | .whole _ _=>"whole" | .truth _ _=>"truth" | .row _ _ _=>"row" | .pair _ _ _=>"pair" | .att _ _ _=>"at" | .size _ _=>"size" | .one _ _=>"one" | .two _ _=>"two"
noncomputable abbrev vB:S:=gZ bv.body
section
variable {S:List O} {r g:Nat}
noncomputable abbrev lG (r:Nat) (t:T61) (acc:List D) (e6 e7 e8:Option D):List (Option D):=[some (.ref r),some t.toD,some (.dic [] []),some (.str t.word),none,some (.lst acc),e6,e7,e8]
theorem nq (W:Ws S r g) (t:T61) (m:Nat) (f:T61→Except Er V61) (hf:∀ k∈aU t,ao Γ (m+4) aT [.ref r,k.toD,.dic [] []] S=iL (f k) S) :
 ∀ (ts pre:List T61) (acc:List D) (e6 e7 e8:Option D),pre ++ ts=aU t→acc.length+ts.length<1000 →
 (∀ xs,aZ f t pre.length ts = .ok xs→∃ e6' e7' e8',bC (fun d s=>match aD [6,7] false d s.env with | some env=>exS Γ (ao Γ (m+4)) (aY Γ (m+4)) vB ⟨env,s.ow.filter fun i=>!([6,7]:List Nat).contains i,s.st⟩ | none=>.bad) (bJ (pre.length:Nat) (toDs ts)) ⟨lG r t acc e6 e7 e8,[5],S⟩ = .nx ⟨lG r t (acc ++ cq xs) e6' e7' e8',[5],S⟩) ∧
 (∀ e,aZ f t pre.length ts = .error e→∃ env ow,bC (fun d s=>match aD [6,7] false d s.env with | some env=>exS Γ (ao Γ (m+4)) (aY Γ (m+4)) vB ⟨env,s.ow.filter fun i=>!([6,7]:List Nat).contains i,s.st⟩ | none=>.bad) (bJ (pre.length:Nat) (toDs ts)) ⟨lG r t acc e6 e7 e8,[5],S⟩ = .exc 0 [eD e] ⟨env,ow,S⟩)
 | [],pre,acc,e6,e7,e8,_,_=>⟨fun xs h=>by rw [bK h];exact ⟨e6,e7,e8,by simp [cq,toDs,bJ,bC]⟩,fun e h=>by unfold aZ at h;cases h⟩
 | k :: r',pre,acc,e6,e7,e8,hp,hl=>by
   simp only [List.length_cons] at hl
   have hk:(aU t)[pre.length]? = some k:=by rw [← hp,List.getElem?_append_right (Nat.le_refl _),Nat.sub_self];rfl
   have hm:k∈aU t:=List.mem_of_getElem? hk
   have hc:=hf k hm
   have len:decide (acc.length<100000)=true:=decide_eq_true (by omega)
   have pl:((pre ++ [k]).length:Nat)=pre.length+1:=by simp
   have pc:((pre.length:Nat):Int)+1=((pre ++ [k]).length:Nat):=by rw [pl];omega
   cases q:f k with
   | error e=>
     rw [q] at hc
     refine ⟨fun xs h=>?_,fun e' h=>?_⟩
     ·unfold aZ at h;rw [q] at h;cases h
     ·unfold aZ at h;rw [q] at h;cases h
      exact ⟨lG r t acc (some (.int (pre.length:Nat))) (some k.toD) e8,[5],eJ (fD false [.t 0 true,.r (.exc 0 [eD e] S)] (A (W.i) (A (hc) Z)) nofun) (fun s z=>by cases z)⟩
   | ok x=>
     rw [q] at hc
     have hn:=nh t pre.length k hk x m S
     cases qc:chk t pre.length x with
     | false=>
       unfold rK at hn
       rw [qc] at hn
       refine ⟨fun xs h=>?_,fun e' h=>?_⟩
       ·unfold aZ at h;rw [q] at h;dsimp only at h;rw [qc] at h;cases h
       ·unfold aZ at h;rw [q] at h;dsimp only at h;rw [qc] at h;cases h
        exact ⟨lG r t acc (some (.int (pre.length:Nat))) (some k.toD) (some x.toP),[5],eJ (fD false [.t 0 true,.r (.ok x.toP S),.r (.exc 0 [eD (.wrong k.pl)] S)] (A (W.i) (A (hc) (A (hn) Z))) nofun) (fun s z=>by cases z)⟩
     | true=>
       unfold rK at hn
       rw [qc] at hn
       have hs:=fD (Γ:=Γ) (cal:=ao Γ (m+4)) (cal1:=aY Γ (m+4)) (c:=vB) (s:=⟨[some (.ref r),some t.toD,some (.dic [] []),some (.str t.word),none,some (.lst acc),some (.int (pre.length:Nat)),some k.toD,e8],[5],S⟩) (o:=.nx ⟨lG r t (acc ++ [x.toP]) (some (.int (pre.length:Nat))) (some k.toD) (some x.toP),[5],S⟩) false [.t 0 true,.r (.ok x.toP S),.r (.ok .non S),.t 0 true] (A (W.i) (A (hc) (A (hn) (A (len) Z)))) nofun
       have ih:=nq W t m f hf r' (pre ++ [k]) (acc ++ [x.toP]) (some (.int (pre.length:Nat))) (some k.toD) (some x.toP) (by rw [← hp];simp) (by rw [List.length_append,List.length_singleton];omega)
       rw [pl] at ih
       refine ⟨fun xs h=>?_,fun e' h=>?_⟩
       ·obtain ⟨x',ys,q1,_,h2,rfl⟩:=aQ h
        rw [q] at q1;cases q1
        obtain ⟨a,b,c,h3⟩:=ih.1 ys h2
        refine ⟨a,b,c,df hs ?_⟩
        rw [List.append_assoc] at h3
        exact h3
       ·unfold aZ at h;rw [q] at h;dsimp only at h;rw [qc] at h;dsimp only at h
        cases q3:aZ f t (pre.length+1) r' with
        | ok ys=>rw [q3] at h;cases h
        | error e2=>
          rw [q3] at h;cases h
          obtain ⟨env,ow,h3⟩:=ih.2 _ q3
          exact ⟨env,ow,df hs h3⟩
theorem tW (W:Ws S r g) (t:T61) (v:Except Er V61) (n:Nat) (h:ao Γ n bx [.ref r,t.toD,.dic [] []] S=iL v S):ao Γ (n+1) aT [.ref r,t.toD,.dic [] []] S=iL v S:=by
 cases v with
 | ok x=>exact ac false [.t 0 true,.r (.ok x.toP S),.o 0 (.int t.pl),.o 0 (.dic [] [])] (A (W.i) (A (h) (A (jX t S) (A (W.l) Z)))) nofun
 | error e=>exact ac false [.t 0 true,.r (.exc 0 [eD e] S)] (A (W.i) (A (h) Z)) nofun
theorem xH (p v:Int) (names:D) (ns:D) (n:Nat) (st:List O):ao Γ (n+2) eM [(T61.whole p v).toD,names,ns] st = .ok (V61.num v).toP st:=by kernel_rfl
theorem xG (p:Int) (b:Bool) (names:D) (ns:D) (n:Nat) (st:List O):ao Γ (n+2) eM [(T61.truth p b).toD,names,ns] st = .ok (V61.tru b).toP st:=by kernel_rfl
theorem zI (W:Ws S r g):∀ (n:Nat) (t:T61),t.ok→∀ N,t.nest≤n→2 * n+5≤N→ao Γ N aT [.ref r,t.toD,.dic [] []] S=iL (val n t) S
 | 0,t,ok,N,h,h2=>by exfalso;have:1≤t.nest:=by cases t <;> first | exact Nat.le_refl _ | exact Nat.le_add_right _ _
                     omega
 | n+1,t,ok,N,h,h2=>by
   obtain ⟨m,rfl⟩:∃ m,N=m+6:=⟨N - 6,by omega⟩
   refine tW W t _ (m+5) ?_
   have ih:∀ k∈aU t,ao Γ (m+4) aT [.ref r,k.toD,.dic [] []] S=iL (val n k) S:=fun k hk=>zI W n k (mB ok hk) (m+4) (by have:=mh hk;omega) (by omega)
   have lp:=nq W t m (val n) ih (aU t) [] [] none none none rfl (by have:=mC ok;simp only [List.length_nil];omega)
   have hp:=mE t (m+1) S
   cases q:leaf? t with
   | some x=>
     cases t with
     | whole p v=>cases q;exact ac false [.o 3 (.lst []),.r (.ok (V61.num v).toP S)] (A (W.n) (A (xH p v (.dic [] []) (.lst []) (m+2) S) Z)) nofun
     | truth p v=>cases q;exact ac false [.o 3 (.lst []),.r (.ok (V61.tru v).toP S)] (A (W.n) (A (xG p v (.dic [] []) (.lst []) (m+2) S) Z)) nofun
     | _=>cases q
   | none=>
     have ev:val (n+1) t=(match aZ (val n) t 0 (aU t) with | .ok xs=>fin t xs | .error e=>.error e):=by
      show (match leaf? t with | some x=>_ | none=>_)=_
      rw [q]
      all_goals rfl
     rw [ev]
     have nl:∀ l,(∀ t':T61,t'=t→ao Γ (m+5) bx [.ref r,t.toD,.dic [] []] S=l)→ao Γ (m+5) bx [.ref r,t.toD,.dic [] []] S=l:=fun l h=>h t rfl
     cases qg:aZ (val n) t 0 (aU t) with
     | error e=>
       obtain ⟨env,ow,hf⟩:=lp.2 e qg
       refine nl _ fun t' et=>?_
       cases t <;> first | (cases q;done) | exact ac true [.r (.ok (.lst (toDs (aU t'))) S),.x (.exc 0 [eD e] ⟨env,ow,S⟩)] (A ((et ▸ hp)) (A ((et ▸ hf)) Z)) (by subst et;kernel_rfl)
     | ok xs=>
       obtain ⟨a,b,c,hf⟩:=lp.1 xs qg
       have hd:=Bu t xs (mN q qg) W.gi m
       dsimp only
       revert hd
       cases qf:fin t xs with
       | ok x=>
         intro hd
         refine nl _ fun t' et=>?_
         cases t <;> first | (cases q;done) | exact ac true [.r (.ok (.lst (toDs (aU t'))) S),.x (.nx ⟨lG r t' ([] ++ cq xs) a b c,[5],S⟩),.o 2 (.ref g),.r (.ok x.toP S)] (A ((et ▸ hp)) (A ((et ▸ hf)) (A (W.g) (A ((et ▸ hd)) Z)))) (by subst et;kernel_rfl)
       | error e=>
         intro hd
         refine nl _ fun t' et=>?_
         cases t <;> first | (cases q;done) | exact ac true [.r (.ok (.lst (toDs (aU t'))) S),.x (.nx ⟨lG r t' ([] ++ cq xs) a b c,[5],S⟩),.o 2 (.ref g),.r (.exc 0 [eD e] S)] (A ((et ▸ hp)) (A ((et ▸ hf)) (A (W.g) (A ((et ▸ hd)) Z)))) (by subst et;kernel_rfl)
end
theorem dQ {α:Type} (st r:List α) (x:α):(st ++ x :: r)[st.length]? = some x:=by
 rw [List.getElem?_append_right (Nat.le_refl _),Nat.sub_self];rfl
theorem dE {α:Type} (st r:List α) (x y:α):(st ++ x :: r).set st.length y=st ++ y :: r:=by
 rw [List.set_append_right _ _ (Nat.le_refl _),Nat.sub_self];rfl
section
variable {cal cal1:Nat→List D→List O→Res}
theorem gM {env:List (Option D)} {st st':List O} {e:E} {i f n:Nat} {d:D} {o o':O} (he:ev Γ cal cal1 false e ⟨env,[],st⟩ = .ok d ⟨env,[],st'⟩) (h0:env[i]? = some (some (.ref n))) (hs:st'[n]? = some o) (ho:cn Γ o f d=some o') (pe:jY e=true):exS Γ cal cal1 (.fld (.v i) f e) ⟨env,[],st⟩ = .nx ⟨env,[],st'.set n o'⟩:=by
 have h:=iX (F:=⟨⟨default,[],[]⟩,fun _ _ _ _=>True,Γ,cal,cal1⟩) (a:=.v i) (f:=f) (s:=⟨env,[],st⟩) pe
 refine Eq.trans h ?_
 show (ev Γ cal cal1 false e ⟨env,[],st⟩).go _=_
 rw [he]
 show (ev Γ cal cal1 true (.v i) ⟨env,[],st'⟩).go _=_
 rw [pd]
 dsimp only
 rw [h0]
 show (match (st'[n]?).bind fun o=>cn Γ o f d with | some o=>aw.nx ⟨env,[],st'.set n o⟩ | none=>.bad)=_
 rw [hs]
 show (match cn Γ o f d with | some o=>aw.nx ⟨env,[],st'.set n o⟩ | none=>.bad)=_
 rw [ho]
end
theorem t8 {cal cal1:Nat→List D→List O→Res} {env:List (Option D)} {st:List O} {i f n:Nat} {o o':O} (h0:env[i]? = some (some (.ref n))) (hs:st[n]? = some o) (ho:cn Γ o f (.ref st.length)=some o'):exS Γ cal cal1 (.fld (.v i) f (.lst .nil)) ⟨env,[],st⟩ = .nx ⟨env,[],(st ++ [O.lst []]).set n o'⟩:=by
 show (ev Γ cal cal1 true (.v i) ⟨env,[],st⟩).go _=_
 rw [pd]
 dsimp only
 rw [h0]
 show (match (st[n]?).bind fun o=>cn Γ o f (.ref st.length) with | some o=>aw.nx ⟨env,[],(st ++ [O.lst []]).set n o⟩ | none=>.bad)=_
 rw [hs]
 show (match cn Γ o f (.ref st.length) with | some o=>aw.nx ⟨env,[],(st ++ [O.lst []]).set n o⟩ | none=>.bad)=_
 rw [ho]
theorem l7 (st:List O) (c t:D) (n:Nat):ao Γ (n+1) cw [.ref st.length,c,t] (st ++ [.ins 2 []]) = .ok .non (st ++ [.ins 2 [c,t,.ref (st.length+1)],.lst []]):=by
 have e1:=gM (cal:=ao Γ n) (cal1:=aY Γ n) (env:=[some (.ref st.length),some c,some t]) (st:=st ++ [.ins 2 []]) (st':=st ++ [.ins 2 []]) (e:=.v 1) (i:=0) (f:=5) (d:=c) (o':=.ins 2 [c]) rfl rfl (dQ st _ _) rfl rfl
 rw [dE] at e1
 have e2:=gM (cal:=ao Γ n) (cal1:=aY Γ n) (env:=[some (.ref st.length),some c,some t]) (st:=st ++ [.ins 2 [c]]) (st':=st ++ [.ins 2 [c]]) (e:=.v 2) (i:=0) (f:=6) (d:=t) (o':=.ins 2 [c,t]) rfl rfl (dQ st _ _) rfl rfl
 rw [dE] at e2
 have e3:=t8 (cal:=ao Γ n) (cal1:=aY Γ n) (env:=[some (.ref st.length),some c,some t]) (st:=st ++ [.ins 2 [c,t]]) (i:=0) (f:=7) (o':=.ins 2 [c,t,.ref (st.length+1)]) rfl (dQ st _ _) (by rw [List.length_append];rfl)
 rw [List.append_assoc,List.singleton_append,dE] at e3
 exact ac false [.x (.nx ⟨[some (.ref st.length),some c,some t],[],st ++ [.ins 2 [c]]⟩),.x (.nx ⟨[some (.ref st.length),some c,some t],[],st ++ [.ins 2 [c,t]]⟩),.x (.nx ⟨[some (.ref st.length),some c,some t],[],st ++ [.ins 2 [c,t,.ref (st.length+1)],.lst []]⟩)] (A (e1) (A (e2) (A (e3) Z))) nofun
theorem lJ (st:List O) (l ns c t:D) (n:Nat):ao Γ (n+3) cb [.ref st.length,l,ns,c,t] (st ++ [.ins 3 []]) = .ok .non (st ++ [.ins 3 [l,ns,.ref (st.length+1)],.ins 2 [c,t,.ref (st.length+2)],.lst []]):=by
 have e1:=gM (cal:=ao Γ (n+2)) (cal1:=aY Γ (n+2)) (env:=[some (.ref st.length),some l,some ns,some c,some t]) (st:=st ++ [.ins 3 []]) (st':=st ++ [.ins 3 []]) (e:=.v 1) (i:=0) (f:=8) (d:=l) (o':=.ins 3 [l]) rfl rfl (dQ st _ _) rfl rfl
 rw [dE] at e1
 have e2:=gM (cal:=ao Γ (n+2)) (cal1:=aY Γ (n+2)) (env:=[some (.ref st.length),some l,some ns,some c,some t]) (st:=st ++ [.ins 3 [l]]) (st':=st ++ [.ins 3 [l]]) (e:=.v 2) (i:=0) (f:=9) (d:=ns) (o':=.ins 3 [l,ns]) rfl rfl (dQ st _ _) rfl rfl
 rw [dE] at e2
 have g:=l7 (st ++ [.ins 3 [l,ns]]) c t n
 have len:(st ++ [O.ins 3 [l,ns]]).length=st.length+1:=by simp
 rw [len,List.append_assoc,List.append_assoc,List.singleton_append,List.singleton_append] at g
 have he:ev Γ (ao Γ (n+2)) (aY Γ (n+2)) false (.new 2 (.cons (.v 3) (.cons (.v 4) .nil))) ⟨[some (.ref st.length),some l,some ns,some c,some t],[],st ++ [.ins 3 [l,ns]]⟩ = .ok (.ref (st.length+1)) ⟨[some (.ref st.length),some l,some ns,some c,some t],[],st ++ [.ins 3 [l,ns],.ins 2 [c,t,.ref (st.length+2)],.lst []]⟩:=by
  show (match ao Γ (n+1) cw [.ref (st ++ [O.ins 3 [l,ns]]).length,c,t] ((st ++ [O.ins 3 [l,ns]]) ++ [O.ins 2 []]) with
   | .ok .non st'=>Out.ok (D.ref (st ++ [O.ins 3 [l,ns]]).length) (aft (.cons (.v 3) (.cons (.v 4) .nil)) ⟨[some (.ref st.length),some l,some ns,some c,some t],[],st ++ [O.ins 3 [l,ns]]⟩ .non st')
   | _=>.bad)=_
  rw [len,List.append_assoc,List.singleton_append,g]
  rfl
 have e3:=gM (cal:=ao Γ (n+2)) (cal1:=aY Γ (n+2)) (env:=[some (.ref st.length),some l,some ns,some c,some t]) (f:=10) (i:=0) (o':=.ins 3 [l,ns,.ref (st.length+1)]) he rfl (dQ st _ _) rfl rfl
 rw [dE] at e3
 exact ac false [.x (.nx ⟨[some (.ref st.length),some l,some ns,some c,some t],[],st ++ [.ins 3 [l]]⟩),.x (.nx ⟨[some (.ref st.length),some l,some ns,some c,some t],[],st ++ [.ins 3 [l,ns]]⟩),.x (.nx ⟨[some (.ref st.length),some l,some ns,some c,some t],[],st ++ [.ins 3 [l,ns,.ref (st.length+1)],.ins 2 [c,t,.ref (st.length+2)],.lst []]⟩)] (A (e1) (A (e2) (A (e3) Z))) nofun
noncomputable def ws (st:List O) (c:D):List O:=st ++ [.ins 3 [.dic [] [],.lst [],.ref (st.length+1)],.ins 2 [c,.bl false,.ref (st.length+2)],.lst []]
theorem A6 (st:List O) (c:D):Ws (ws st c) st.length (st.length+1):=by
 have e:(ws st c)[st.length]? = some (.ins 3 [.dic [] [],.lst [],.ref (st.length+1)]):=dQ st _ _
 have e2:(ws st c)[st.length+1]? = some (.ins 2 [c,.bl false,.ref (st.length+2)]):=by
  show (st ++ _)[st.length+1]? = _
  rw [List.getElem?_append_right (Nat.le_add_right _ _),Nat.add_sub_cancel_left];rfl
 refine ⟨?_,?_,?_,?_,?_⟩
 ·unfold cR;rw [e];rfl
 ·show (match (ws st c)[st.length]? with | some (.ins c l)=>(Γ.cl[c]?).bind fun k=>l[k.at_.idxOf 8]? | _=>none)=_
  rw [e];rfl
 ·show (match (ws st c)[st.length]? with | some (.ins c l)=>(Γ.cl[c]?).bind fun k=>l[k.at_.idxOf 9]? | _=>none)=_
  rw [e];rfl
 ·unfold cR;rw [e2];rfl
 ·show (match (ws st c)[st.length]? with | some (.ins c l)=>(Γ.cl[c]?).bind fun k=>l[k.at_.idxOf 10]? | _=>none)=_
  rw [e];rfl
mutual
noncomputable def V61.toL:V61→D
 | .num i=>.int i
 | .tru b=>.bl b
 | .row xs=>.tup [.str "row",.tup (dH xs)]
 | .pair a b=>.tup [.str "pair",.tup [a.toL,b.toL]]
noncomputable def dH:List V61→List D
 | []=>[]
 | t :: r=>t.toL :: dH r
end
theorem iu:∀ ts:List V61,dH ts=ts.map V61.toL
 | []=>rfl
 | t :: r=>by unfold dH;rw [iu r];rfl
theorem ir {xs:List V61}:(dH xs).length=xs.length:=by rw [iu,List.length_map]
mutual
noncomputable def V61.ok:V61→Prop
 | .num i=>i.natAbs<10 ^ 13
 | .tru _=>True
 | .row xs=>xs.length≤4∧okv xs
 | .pair a b=>a.ok∧b.ok
noncomputable def okv:List V61→Prop
 | []=>True
 | t :: r=>t.ok∧okv r
end
theorem bj:∀ {ts:List V61},okv ts→∀ {t},t∈ts→t.ok
 | a :: r,h,t,m=>by
   rcases List.mem_cons.mp m with rfl | m
   ·exact h.1
   ·exact bj h.2 m
noncomputable def lK (row:Bool) (z:Str):Str:=if row then ("[" ++ z) ++ "]" else ("<" ++ z) ++ ">"
noncomputable def txt:Nat→V61→Str
 | 0,_=>".."
 | _+1,.num i=>Str.ofString (toString i)
 | _+1,.tru true=>"yes"
 | _+1,.tru false=>"no"
 | k+1,.row xs=>lK true (Txt.join " " (xs.map (txt k)))
 | k+1,.pair a b=>lK false (Txt.join " " [txt k a,txt k b])
theorem gX (sep:Str):∀ ts:List Str,(Txt.join sep ts).length≤(ts.map (·.length)).sum+ts.length * sep.length
 | []=>Nat.zero_le _
 | a :: r=>by
   show (Builtin.Str.glued sep (a :: r)).length≤_
   rw [StrLaws.glued_eq_join,len_join_cons]
   simp only [List.map_cons,List.sum_cons,List.length_cons,Nat.add_mul,Nat.one_mul]
   omega
theorem mP {x:Int} (h:x.natAbs<10 ^ 13):biD .str [.int x]=some (.str (Str.ofString (toString x))):=by
 have c:x.natAbs.log2<1920:=by
  by_cases z:x.natAbs=0
  ·rw [z];decide
  ·exact Nat.lt_of_lt_of_le ((Nat.log2_lt z).mpr (Nat.lt_of_lt_of_le h (show 10 ^ 13≤2 ^ 270 by decide +kernel))) (by decide)
 show (if x.natAbs.log2<1920 then _ else _)=_
 rw [if_pos c]
theorem uI {i:Int} (h:i.natAbs<10 ^ 13):(Str.ofString (toString i)).length≤100:=by
 rw [PySem.ofString_length]
 cases i with
 | ofNat n=>
   have e:toString (Int.ofNat n)=Nat.repr n:=rfl
   rw [e]
   exact Nat.le_trans ((Nat.length_repr_le_iff (n:=n) (k:=13) (by decide)).mpr h) (by decide)
 | negSucc n=>
   have e:toString (Int.negSucc n) = "-" ++ Nat.repr (n+1):=rfl
   rw [e,String.length_append]
   have:=(Nat.length_repr_le_iff (n:=n+1) (k:=13) (by decide)).mpr h
   have e2:"-".length=1:=rfl
   omega
noncomputable def tb:Nat→Nat
 | 0=>100
 | k+1=>4 * tb k+100
theorem ka {B:Nat}:∀ {l:List Str},(∀ x∈l,x.length≤B)→(l.map (·.length)).sum≤l.length * B
 | [],_=>by simp
 | a :: r,h=>by
   have h1:=h a (List.mem_cons_self ..)
   have h2:=ka (l:=r) fun x m=>h x (List.mem_cons_of_mem _ m)
   simp only [List.map_cons,List.sum_cons,List.length_cons,Nat.add_mul,Nat.one_mul]
   omega
theorem lL (b:Bool) (z:Str):(lK b z).length=z.length+2:=by
 have e1:("[":Str).length=1:=by decide +kernel
 have e2:("]":Str).length=1:=by decide +kernel
 have e3:("<":Str).length=1:=by decide +kernel
 have e4:(">":Str).length=1:=by decide +kernel
 unfold lK
 cases b <;> simp only [if_true,if_false,Bool.false_eq_true] <;> rw [strLen_append,strLen_append] <;> omega
theorem sp1:(" ":Str).length=1:=by decide +kernel
theorem eT:∀ (k:Nat) (v:V61),v.ok→(txt k v).length≤tb k
 | 0,v,h=>by
   have e:("..":Str).length=2:=by decide +kernel
   show ("..":Str).length≤100
   omega
 | k+1,.num i,h=>by
   have:=uI (i:=i) h
   show (Str.ofString (toString i)).length≤4 * tb k+100
   omega
 | k+1,.tru true,h=>by
   have e:("yes":Str).length=3:=by decide +kernel
   show ("yes":Str).length≤4 * tb k+100
   omega
 | k+1,.tru false,h=>by
   have e:("no":Str).length=2:=by decide +kernel
   show ("no":Str).length≤4 * tb k+100
   omega
 | k+1,.row xs,h=>by
   show (lK true _).length≤4 * tb k+100
   rw [lL]
   have j:=gX " " (xs.map (txt k))
   have s:=ka (B:=tb k) (l:=xs.map (txt k)) fun y m=>by
    obtain ⟨x,hx,rfl⟩:=List.mem_map.mp m
    exact eT k x (bj h.2 hx)
   rw [List.length_map] at j s
   rw [sp1] at j
   have l4:xs.length≤4:=h.1
   have:=Nat.mul_le_mul_right (tb k) l4
   omega
 | k+1,.pair a b,h=>by
   show (lK false _).length≤4 * tb k+100
   rw [lL]
   have j:=gX " " [txt k a,txt k b]
   have h1:=eT k a h.1
   have h2:=eT k b h.2
   rw [sp1] at j
   simp only [List.map_cons,List.map_nil,List.sum_cons,List.sum_nil,List.length_cons,List.length_nil] at j
   omega
theorem wD {k:Nat} (h:k≤3):tb k≤8500:=by
 match k,h with
 | 0,_=>decide
 | 1,_=>decide
 | 2,_=>decide
 | 3,_=>decide
theorem lE:∀ ss:List Str,cO (ss.map D.str)=some ss
 | []=>rfl
 | s :: r=>by show (cO (r.map D.str)).map (s :: ·)=_;rw [lE r];rfl
theorem dC {k:Nat} (hk:k≤3) {xs:List V61} (hl:xs.length≤4) (ho:∀ x∈xs,x.ok):nQ " " (.lst (xs.map fun x=>D.str (txt k x)))=some (.str (Txt.join " " (xs.map (txt k)))):=by
 have e:(xs.map fun x=>D.str (txt k x))=(xs.map (txt k)).map D.str:=by rw [List.map_map];rfl
 rw [e]
 show ((cO _).bind _)=_
 rw [lE]
 have s:=ka (B:=tb k) (l:=xs.map (txt k)) fun y m=>by
  obtain ⟨x,hx,rfl⟩:=List.mem_map.mp m
  exact eT k x (ho x hx)
 rw [List.length_map] at s
 have t:=wD hk
 have:=Nat.mul_le_mul hl t
 exact if_pos ⟨by rw [sp1];decide,by omega,by rw [List.length_map];omega⟩
theorem bH {k:Nat} (hk:k≤3) {xs:List V61} (hl:xs.length≤4) (ho:∀ x∈xs,x.ok):(Txt.join " " (xs.map (txt k))).length≤50000:=by
 have j:=gX " " (xs.map (txt k))
 have s:=ka (B:=tb k) (l:=xs.map (txt k)) fun y m=>by
  obtain ⟨x,hx,rfl⟩:=List.mem_map.mp m
  exact eT k x (ho x hx)
 rw [List.length_map] at s j
 rw [sp1] at j
 have t:=wD hk
 have:=Nat.mul_le_mul hl t
 omega
theorem nC {z:Str} (h:z.length≤50000):pf "[" (.str z) "]" = some (.str (lK true z)):=by
 have e1:("[":Str).length≤1000:=by decide +kernel
 have e2:("]":Str).length≤1000:=by decide +kernel
 show (if _ then _ else _)=_
 rw [if_pos ⟨e1,by omega,e2⟩]
 rfl
theorem kG {z:Str} (h:z.length≤50000):pf "<" (.str z) ">" = some (.str (lK false z)):=by
 have e1:("<":Str).length≤1000:=by decide +kernel
 have e2:(">":Str).length≤1000:=by decide +kernel
 show (if _ then _ else _)=_
 rw [if_pos ⟨e1,by omega,e2⟩]
 rfl
noncomputable def lcF (cal cal1:Nat→List D→List O→Res) (elt:E):D→Sta→Out (Option D):=fun d s'=>(match aD [0] true d s'.env with
 | some env=>(noX (ev Γ cal cal1 true (.c (.bl true)) ⟨env,[],s'.st⟩)).bind fun b s2=>(match b with
   | .bl true=>(noX (ev Γ cal cal1 false elt s2)).bind fun e s3=>.ok (some e) ⟨s3.env,[],s3.st⟩
   | .bl false=>.ok none ⟨s2.env,[],s2.st⟩
   | _=>.bad)
 | none=>.bad)
theorem gY {cal cal1:Nat→List D→List O→Res} {elt:E} {d e:D} {env env2:List (Option D)} {ow ow2:List Nat} {st st2:List O} (h:ev Γ cal cal1 false elt ⟨env.set 0 (some d),[],st⟩ = .ok e ⟨env2,ow2,st2⟩):lcF cal cal1 elt d ⟨env,ow,st⟩ = .ok (some e) ⟨env2,[],st2⟩:=by
 show (noX (ev Γ cal cal1 false elt ⟨env.set 0 (some d),[],st⟩)).bind _=_
 rw [h];rfl
section
variable {S:List O} {g:Nat}
theorem sL:∀ n:Nat,n≤4→(itD .range1 [.int (n:Nat)]).map D.lst=some (.lst ((List.range' 0 n).map fun (i:Nat)=>D.int i))
 | 0,_=>by kernel_rfl
 | 1,_=>by kernel_rfl
 | 2,_=>by kernel_rfl
 | 3,_=>by kernel_rfl
 | 4,_=>by kernel_rfl
 | n+5,h=>by omega
noncomputable abbrev AM:E:=.call 17 (.cons (.v 1) (.cons (.v 0) (.cons (.op .add (.v 2) (.c (.int 1))) (.cons (.v 3) .nil))))
theorem j5 (k m:Nat) (L:Int) (xs:List V61) (ht:∀ (j:Nat) (y:V61),xs[j]? = some y→ao Γ m bc [(V61.row xs).toP,.int j,.int (L+1),.ref g] S = .ok (.str (txt k y)) S) :
 ∀ (ys pre:List V61) (acc:List D) (e:Option D),pre ++ ys=xs→acc.length+ys.length<1000→∃ e',bX (lcF (ao Γ m) (aY Γ m) AM) ((List.range' pre.length ys.length).map fun (i:Nat)=>D.int i) acc ⟨[e,some (V61.row xs).toP,some (.int L),some (.ref g),none,none],[],S⟩ = .ok (.lst (acc ++ ys.map fun x=>D.str (txt k x))) ⟨[e',some (V61.row xs).toP,some (.int L),some (.ref g),none,none],[],S⟩
 | [],pre,acc,e,_,_=>⟨e,by simp [bX]⟩
 | y :: r,pre,acc,e,hp,hl=>by
   simp only [List.length_cons] at hl
   have hk:xs[pre.length]? = some y:=by rw [← hp,List.getElem?_append_right (Nat.le_refl _),Nat.sub_self];rfl
   have hs:=qC (Γ:=Γ) (cal:=ao Γ m) (cal1:=aY Γ m) (br:=false) (e:=AM) (s:=⟨[some (.int (pre.length:Nat)),some (V61.row xs).toP,some (.int L),some (.ref g),none,none],[],S⟩) (o:=.ok (.str (txt k y)) ⟨[some (.int (pre.length:Nat)),some (V61.row xs).toP,some (.int L),some (.ref g),none,none],[],S⟩) false [.r (.ok (.str (txt k y)) S)] (A (ht pre.length y hk) Z) nofun
   obtain ⟨e',h⟩:=j5 k m L xs ht r (pre ++ [y]) (acc ++ [.str (txt k y)]) (some (.int (pre.length:Nat))) (by rw [← hp];simp) (by rw [List.length_append,List.length_singleton];omega)
   refine ⟨e',?_⟩
   rw [List.length_cons,List.range'_succ,List.map_cons]
   refine jN (gY hs) (by omega) ?_
   rw [List.length_append,List.length_singleton] at h
   rw [h,List.append_assoc]
   rfl
theorem sP (G:cR S g 2=true):∀ (k:Nat),k≤2→∀ (v:V61),v.ok→∀ (L:Int),L=3 - k→∀ n,2 * k+4≤n→ao Γ n nP [v.toP,.int L,.ref g] S = .ok (.str (txt (k+1) v)) S:=by
 intro k
 induction k with
 | zero=>
   intro _ v ok L hL n hn
   obtain ⟨m,rfl⟩:∃ m,n=m+4:=⟨n - 4,by omega⟩
   have e3:decide ((3:Int)<L+1)=true:=decide_eq_true (by omega)
   cases v with
   | num i=>exact ac false [.o 4 (.str (Str.ofString (toString i)))] (A (mP ok) Z) nofun
   | tru b=>cases b <;> kernel_rfl
   | row xs=>
     have ht:∀ (j:Nat) (y:V61),xs[j]? = some y→ao Γ (m+3) bc [(V61.row xs).toP,.int j,.int (L+1),.ref g] S = .ok (.str (txt 0 y)) S:=fun j y q=>ac false [.t 1 true] (A (e3) Z) nofun
     obtain ⟨e',hlp⟩:=j5 0 (m+3) L xs ht xs [] [] none rfl (by have:=ok.1;simp only [List.length_nil];omega)
     have hr:(itD .range1 [.int ((cq xs).length:Nat)]).map D.lst=some (.lst ((List.range' 0 xs.length).map fun (i:Nat)=>D.int i)):=by
      rw [dw];exact sL _ ok.1
     exact ac true [.o 11 (.lst ((List.range' 0 xs.length).map fun (i:Nat)=>D.int i)),.e (.lst ([] ++ xs.map fun x=>D.str (txt 0 x))) ⟨[e',some (V61.row xs).toP,some (.int L),some (.ref g),none,none],[],S⟩,.o 0 (.str (Txt.join " " (xs.map (txt 0)))),.o 3 (.str (txt 1 (.row xs)))]
      (A (hr) (A (hlp) (A ((dC (k:=0) (xs:=xs) (by omega) ok.1 fun x hx=>bj ok.2 hx)) (A ((nC (bH (k:=0) (by omega) ok.1 fun x hx=>bj ok.2 hx))) Z)))) nofun
   | pair a b=>
     have o2:∀ x∈[a,b],V61.ok x:=fun x hx=>bj (ts:=[a,b]) ⟨ok.1,ok.2,trivial⟩ hx
     have ht:∀ (j:Int),ao Γ (m+3) bc [(V61.pair a b).toP,.int j,.int (L+1),.ref g] S = .ok (.str "..") S:=fun j=>ac false [.t 1 true] (A (e3) Z) nofun
     exact ac false [.r (.ok (.str (txt 0 a)) S),.r (.ok (.str (txt 0 b)) S),.o 1 (.str (Txt.join " " [txt 0 a,txt 0 b])),.o 3 (.str (txt 1 (.pair a b)))]
      (A (ht 0) (A (ht 1) (A ((dC (k:=0) (xs:=[a,b]) (by omega) (by simp) o2)) (A ((kG (bH (k:=0) (xs:=[a,b]) (by omega) (by simp) o2))) Z)))) nofun
 | succ k ih=>
   intro hk v ok L hL n hn
   obtain ⟨m,rfl⟩:∃ m,n=m+4:=⟨n - 4,by omega⟩
   have e3:decide ((3:Int)<L+1)=false:=decide_eq_false (by omega)
   have sub:∀ y:V61,y.ok→ao Γ (m+2) nP [y.toP,.int (L+1),.ref g] S = .ok (.str (txt (k+1) y)) S:=fun y hy=>ih (by omega) y hy (L+1) (by omega) (m+2) (by omega)
   cases v with
   | num i=>exact ac false [.o 4 (.str (Str.ofString (toString i)))] (A (mP ok) Z) nofun
   | tru b=>cases b <;> kernel_rfl
   | row xs=>
     have ht:∀ (j:Nat) (y:V61),xs[j]? = some y→ao Γ (m+3) bc [(V61.row xs).toP,.int j,.int (L+1),.ref g] S = .ok (.str (txt (k+1) y)) S:=fun j y q=>
      ac false [.t 1 false,.r (.ok y.toP S),.r (.ok (.str (txt (k+1) y)) S)] (A (e3) (A ((lF (S:=S) "row" (.inl rfl) (cq xs) j y.toP (by rw [kf,q];rfl) G m)) (A ((sub y (bj ok.2 (List.mem_of_getElem? q)))) Z))) nofun
     obtain ⟨e',hlp⟩:=j5 (k+1) (m+3) L xs ht xs [] [] none rfl (by have:=ok.1;simp only [List.length_nil];omega)
     have hr:(itD .range1 [.int ((cq xs).length:Nat)]).map D.lst=some (.lst ((List.range' 0 xs.length).map fun (i:Nat)=>D.int i)):=by
      rw [dw];exact sL _ ok.1
     exact ac true [.o 11 (.lst ((List.range' 0 xs.length).map fun (i:Nat)=>D.int i)),.e (.lst ([] ++ xs.map fun x=>D.str (txt (k+1) x))) ⟨[e',some (V61.row xs).toP,some (.int L),some (.ref g),none,none],[],S⟩,.o 0 (.str (Txt.join " " (xs.map (txt (k+1))))),.o 3 (.str (txt (k+2) (.row xs)))]
      (A (hr) (A (hlp) (A ((dC (k:=k+1) (xs:=xs) (by omega) ok.1 fun x hx=>bj ok.2 hx)) (A ((nC (bH (k:=k+1) (by omega) ok.1 fun x hx=>bj ok.2 hx))) Z)))) nofun
   | pair a b=>
     have o2:∀ x∈[a,b],V61.ok x:=fun x hx=>bj (ts:=[a,b]) ⟨ok.1,ok.2,trivial⟩ hx
     have ht:∀ (j:Nat) (y:V61),[a,b][j]? = some y→ao Γ (m+3) bc [(V61.pair a b).toP,.int j,.int (L+1),.ref g] S = .ok (.str (txt (k+1) y)) S:=fun j y q=>
      ac false [.t 1 false,.r (.ok y.toP S),.r (.ok (.str (txt (k+1) y)) S)] (A (e3) (A ((lF (S:=S) "pair" (.inr rfl) [a.toP,b.toP] j y.toP (by have:=kf (xs:=[a,b]) (i:=j);rw [q] at this;exact this) G m)) (A ((sub y (o2 y (List.mem_of_getElem? q)))) Z))) nofun
     exact ac false [.r (.ok (.str (txt (k+1) a)) S),.r (.ok (.str (txt (k+1) b)) S),.o 1 (.str (Txt.join " " [txt (k+1) a,txt (k+1) b])),.o 3 (.str (txt (k+2) (.pair a b)))]
      (A (ht 0 a rfl) (A (ht 1 b rfl) (A ((dC (k:=k+1) (xs:=[a,b]) (by omega) (by simp) o2)) (A ((kG (bH (k:=k+1) (xs:=[a,b]) (by omega) (by simp) o2))) Z)))) nofun
theorem vI (G:cR S g 2=true) (v:V61) (ok:v.ok) (n:Nat) (h:9≤n):ao Γ n pp [v.toP,.ref g] S = .ok (.str (txt 3 v)) S:=by
 obtain ⟨m,rfl⟩:∃ m,n=m+1:=⟨n - 1,by omega⟩
 exact ac false [.r (.ok (.str (txt 3 v)) S)] (A (sP G 2 (by omega) v ok 1 (by decide) m (by omega)) Z) nofun
end
theorem nG {f:T61→Except Er V61} {t:T61}:∀ {ts:List T61} {i:Nat} {xs:List V61},(∀ k∈ts,∀ x,f k = .ok x→x.ok)→aZ f t i ts = .ok xs→okv xs∧xs.length=ts.length
 | [],i,xs,_,h=>by rw [bK h];exact ⟨trivial,rfl⟩
 | k :: r,i,xs,hf,h=>by
   obtain ⟨x,ys,h1,_,h2,rfl⟩:=aQ h
   obtain ⟨a,b⟩:=nG (fun k' m=>hf k' (List.mem_cons_of_mem _ m)) h2
   exact ⟨⟨hf k (List.mem_cons_self ..) x h1,a⟩,by simp [b]⟩
theorem mX:∀ (n:Nat) (t:T61),t.ok→∀ x,val n t = .ok x→x.ok
 | 0,t,ok,x,h=>by cases h
 | n+1,t,ok,x,h=>by
   cases q:leaf? t with
   | some y=>
     have e:val (n+1) t = .ok y:=by
      show (match leaf? t with | some x=>_ | none=>_)=_
      rw [q]
     rw [e] at h;cases h
     cases t with
     | whole p v=>cases q;exact ok
     | truth p v=>cases q;trivial
     | _=>cases q
   | none=>
     have e:val (n+1) t=(match aZ (val n) t 0 (aU t) with | .ok xs=>fin t xs | .error e=>.error e):=by
      show (match leaf? t with | some x=>_ | none=>_)=_
      rw [q]
      all_goals rfl
     rw [e] at h
     cases qg:aZ (val n) t 0 (aU t) with
     | error e=>rw [qg] at h;cases h
     | ok xs=>
       rw [qg] at h
       dsimp only at h
       obtain ⟨o,l⟩:=nG (fun k m=>mX n k (mB ok m)) qg
       have l4:xs.length≤4:=by rw [l];exact mC ok
       have sh:=mN q qg
       cases t with
       | whole p v=>exact sh.elim
       | truth p v=>exact sh.elim
       | row p kd ts=>cases h;exact ⟨l4,o⟩
       | pair p a b=>obtain ⟨u,v,rfl⟩:=sh;cases h;exact ⟨o.1,o.2.1⟩
       | att p a b=>
         obtain ⟨ys,i,rfl⟩:=sh
         have h:nth ys i p = .ok x:=h
         unfold nth at h
         split at h
         ·split at h
          ·rename_i y qy
           cases h
           exact bj o.1.2 (List.mem_of_getElem? qy)
          ·cases h
         ·cases h
       | size p a=>
         obtain ⟨ys,rfl⟩:=sh
         cases h
         have y4:ys.length≤4:=o.1.1
         show ((ys.length:Nat):Int).natAbs<10 ^ 13
         rw [Int.natAbs_natCast]
         exact Nat.lt_of_le_of_lt y4 (by decide)
       | one p a=>obtain ⟨u,v,rfl⟩:=sh;cases h;exact o.1.1
       | two p a=>obtain ⟨u,v,rfl⟩:=sh;cases h;exact o.1.2
noncomputable def lY:Except Er V61→D
 | .ok x=>.tup [.str "done",.str (txt 3 x)]
 | .error e=>eD e
theorem ze (n:Nat) (t:T61) (ok:t.ok) (hn:t.nest≤n) (c:D) (st:List O) (N:Nat) (h:2 * n+6≤N) (h10:10≤N):ao Γ N qX [t.toD,.dic [] [],.lst [],c,.bl false] st = .ok (lY (val n t)) (ws st c):=by
 obtain ⟨m,rfl⟩:∃ m,N=m+5:=⟨N - 5,by omega⟩
 have W:=A6 st c
 have hc:=zI W n t ok (m+4) hn (by omega)
 have sm:=mX n t ok
 have hi:aY Γ (m+4) cb [.ref st.length,.dic [] [],.lst [],c,.bl false] (st ++ [.ins 3 []]) = .ok .non (ws st c):=lJ st (.dic [] []) (.lst []) c (.bl false) m
 revert hc sm
 cases val n t with
 | ok x=>exact fun hc sm=>ac false [.r (.ok .non (ws st c)),.t 0 true,.r (.ok x.toP (ws st c)),.o 0 (.ref (st.length+1)),.r (.ok (.str (txt 3 x)) (ws st c))] (A (hi) (A (W.i) (A (hc) (A (W.g) (A (vI W.gi x (sm x rfl) (m+4) (by omega)) Z))))) nofun
 | error e=>exact fun hc sm=>ac false [.r (.ok .non (ws st c)),.t 0 true,.r (.exc 0 [eD e] (ws st c))] (A (hi) (A (W.i) (A (hc) Z))) nofun
theorem plain (n:Nat) (t:T61) (ok:t.ok) (hn:t.nest≤n) (c:D) (st:List O) (N:Nat) (h:2 * n+7≤N) (h10:11≤N):ao Γ N uj [t.toD,.lst [],c] st = .ok (lY (val n t)) (ws st c):=by
 obtain ⟨m,rfl⟩:∃ m,N=m+1:=⟨N - 1,by omega⟩
 have h1:=my t m st (by omega)
 have h2:=ze n t ok hn c st m (by omega) (by omega)
 exact ac false [.r (.ok .non st),.r (.ok (lY (val n t)) (ws st c))] (A (h1) (A (h2) Z)) nofun
noncomputable abbrev AW:E:=.call 27 (.cons (.v 0) (.cons (.op .add (.v 2) (.c (.int 1))) .nil))
theorem nU (k m:Nat) (L:Int) (v:D) (S:List O):∀ (ys:List V61) (acc:List D) (e:Option D),(∀ y∈ys,ao Γ m dj [y.toL,.int (L+1)] S = .ok (.str (txt k y)) S)→acc.length+ys.length<1000→∃ e',bX (lcF (ao Γ m) (aY Γ m) AW) (dH ys) acc ⟨[e,some v,some (.int L),none],[],S⟩ = .ok (.lst (acc ++ ys.map fun x=>D.str (txt k x))) ⟨[e',some v,some (.int L),none],[],S⟩
 | [],acc,e,_,_=>⟨e,by simp [bX,dH]⟩
 | y :: r,acc,e,ht,hl=>by
   simp only [List.length_cons] at hl
   have hs:=qC (Γ:=Γ) (cal:=ao Γ m) (cal1:=aY Γ m) (br:=false) (e:=AW) (s:=⟨[some y.toL,some v,some (.int L),none],[],S⟩) (o:=.ok (.str (txt k y)) ⟨[some y.toL,some v,some (.int L),none],[],S⟩) false [.r (.ok (.str (txt k y)) S)] (A (ht y (List.mem_cons_self ..)) Z) nofun
   obtain ⟨e',h⟩:=nU k m L v S r (acc ++ [.str (txt k y)]) (some y.toL) (fun z hz=>ht z (List.mem_cons_of_mem _ hz)) (by rw [List.length_append,List.length_singleton];omega)
   refine ⟨e',jN (gY hs) (by omega) ?_⟩
   rw [h,List.append_assoc]
   rfl
theorem vT (o z:Str) (ho:o.length=1) (h:z.length≤50000):opD .add (.str o) (.str z)=some (.str (o ++ z)):=by
 show iH (o.length+z.length) _=_
 unfold iH
 rw [if_pos (by omega)]
theorem vU (o z c:Str) (ho:o.length=1) (hc:c.length=1) (h:z.length≤50000):opD .add (.str (o ++ z)) (.str c)=some (.str ((o ++ z) ++ c)):=by
 show iH ((o ++ z).length+c.length) _=_
 unfold iH
 rw [strLen_append,if_pos (by omega)]
theorem wl (S:List O):∀ (k:Nat),k≤3→∀ (v:V61),v.ok→∀ (L:Int),L=4 - k→∀ n,k+1≤n→ao Γ n dj [v.toL,.int L] S = .ok (.str (txt k v)) S
 | 0,_,v,ok,L,hL,n,hn=>by
   obtain ⟨m,rfl⟩:∃ m,n=m+1:=⟨n - 1,by omega⟩
   obtain rfl:L=4:=by omega
   kernel_rfl
 | k+1,hk,v,ok,L,hL,n,hn=>by
   obtain ⟨m,rfl⟩:∃ m,n=m+1:=⟨n - 1,by omega⟩
   have e4:(L == 4)=false:=by simp;omega
   have sub:∀ y:V61,y.ok→ao Γ m dj [y.toL,.int (L+1)] S = .ok (.str (txt k y)) S:=fun y hy=>wl S k (by omega) y hy (L+1) (by omega) m (by omega)
   have l1:("[":Str).length=1:=by decide +kernel
   have l2:("]":Str).length=1:=by decide +kernel
   have l3:("<":Str).length=1:=by decide +kernel
   have l4:(">":Str).length=1:=by decide +kernel
   cases v with
   | num i=>exact ac false [.t 1 false,.o 6 (.str (Str.ofString (toString i)))] (A (e4) (A (mP ok) Z)) nofun
   | tru b=>cases b <;> exact ac false [.t 1 false] (A (e4) Z) nofun
   | row xs=>
     have o2:∀ x∈xs,V61.ok x:=fun x hx=>bj ok.2 hx
     obtain ⟨e',hlp⟩:=nU k m L (V61.row xs).toL S xs [] none (fun y hy=>sub y (o2 y hy)) (by have:=ok.1;simp only [List.length_nil];omega)
     have js:=bH (k:=k) (xs:=xs) (by omega) ok.1 o2
     exact ac true [.t 1 false,.e (.lst ([] ++ xs.map fun x=>D.str (txt k x))) ⟨[e',some (V61.row xs).toL,some (.int L),none],[],S⟩,.o 0 (.str (Txt.join " " (xs.map (txt k)))),.o 3 (.str ("[" ++ Txt.join " " (xs.map (txt k)))),.o 0 (.str (txt (k+1) (.row xs)))]
      (A (e4) (A (hlp) (A ((dC (k:=k) (xs:=xs) (by omega) ok.1 o2)) (A (vT _ _ l1 js) (A (vU _ _ _ l1 l2 js) Z))))) nofun
   | pair a b=>
     have o2:∀ x∈[a,b],V61.ok x:=fun x hx=>bj (ts:=[a,b]) ⟨ok.1,ok.2,trivial⟩ hx
     have js:=bH (k:=k) (xs:=[a,b]) (by omega) (by simp) o2
     exact ac false [.t 1 false,.r (.ok (.str (txt k a)) S),.r (.ok (.str (txt k b)) S),.o 1 (.str (Txt.join " " [txt k a,txt k b])),.o 3 (.str ("<" ++ Txt.join " " [txt k a,txt k b])),.o 0 (.str (txt (k+1) (.pair a b)))]
      (A (e4) (A (sub a ok.1) (A (sub b ok.2) (A ((dC (k:=k) (xs:=[a,b]) (by omega) (by simp) o2)) (A (vT _ _ l3 js) (A (vU _ _ _ l3 l4 js) Z)))))) nofun
noncomputable def tX:Except Er V61→D
 | .ok x=>x.toL
 | .error e=>.lst [eD e]
noncomputable def hd:V61→Str
 | .num _=>"whole" | .tru _=>"truth" | .row _=>"row" | .pair _ _=>"pair"
theorem Ab (x:V61) (n:Nat) (st:List O):ao Γ (n+1) kO [x.toL] st = .ok (.str (hd x)) st:=by
 cases x <;> kernel_rfl
noncomputable def dq:T61→List D
 | .att _ _ _=>[.str "row",.str "whole"]
 | .size _ _=>[.str "row"]
 | .one _ _=>[.str "pair"]
 | .two _ _=>[.str "pair"]
 | _=>[]
noncomputable abbrev dB:S:=gZ dU.body
noncomputable abbrev cg (t:T61) (nodes acc:List D) (e5 e6:Option D):List (Option D):=[some t.toD,some (.str t.word),some (.lst nodes),some (.lst (dq t)),some (.lst acc),e5,e6]
theorem qW (x:V61):biD .isLst [x.toL]=some (.bl false):=by cases x <;> rfl
theorem re (x:V61) (st:List O):look st x.toL=x.toL:=by cases x <;> rfl
theorem qx (t:T61) (nodes acc:List D) (k:T61) (i:Nat) (hi:acc.length=i) (hk:(aU t)[i]? = some k) (x:V61) (m:Nat) (st:List O) (hx:ao Γ (m+1) cF [k.toD] st = .ok x.toL st) (e6:Option D) (hl:i<1000) :
 exS Γ (ao Γ (m+1)) (aY Γ (m+1)) dB ⟨cg t nodes acc (some k.toD) e6,[4],st⟩=(if chk t i x then .nx ⟨cg t nodes (acc ++ [x.toL]) (some k.toD) (some x.toL),[4],st⟩ else .rt (.lst [eD (.wrong k.pl)]) ⟨cg t nodes acc (some k.toD) (some x.toL),[4],st⟩):=by
 have hh:=Ab x m st
 have len:decide (acc.length<100000)=true:=decide_eq_true (by omega)
 have il:biD .isLst [look st x.toL]=some (.bl false):=by rw [re];exact qW x
 have pl:=jX k st
 have free:dq t = []→chk t i x=true→exS Γ (ao Γ (m+1)) (aY Γ (m+1)) dB ⟨cg t nodes acc (some k.toD) e6,[4],st⟩ = .nx ⟨cg t nodes (acc ++ [x.toL]) (some k.toD) (some x.toL),[4],st⟩:=fun e _=>by
  have e1:decide ((acc.length:Int)<((dq t).length:Nat))=false:=by rw [e];exact decide_eq_false (by simp)
  exact fD false [.r (.ok x.toL st),.o 0 (.bl false),.t 5 false,.t 1 true] (A (hx) (A (il) (A (e1) (A (len) Z)))) nofun
 have want:∀ (w:Str) (hw:ixD (.lst (dq t)) (.int (acc.length:Nat))=some (.str w)) (hlt:acc.length<(dq t).length),
  (opD .ne (.str (hd x)) (.str w)=some (.bl false)→exS Γ (ao Γ (m+1)) (aY Γ (m+1)) dB ⟨cg t nodes acc (some k.toD) e6,[4],st⟩ = .nx ⟨cg t nodes (acc ++ [x.toL]) (some k.toD) (some x.toL),[4],st⟩) ∧
  (opD .ne (.str (hd x)) (.str w)=some (.bl true)→exS Γ (ao Γ (m+1)) (aY Γ (m+1)) dB ⟨cg t nodes acc (some k.toD) e6,[4],st⟩ = .rt (.lst [eD (.wrong k.pl)]) ⟨cg t nodes acc (some k.toD) (some x.toL),[4],st⟩):=fun w hw hlt=>by
  have e1:decide ((acc.length:Int)<((dq t).length:Nat))=true:=decide_eq_true (by omega)
  refine ⟨fun hne=>?_,fun hne=>?_⟩
  ·exact fD false [.r (.ok x.toL st),.o 0 (.bl false),.t 5 true,.r (.ok (.str (hd x)) st),.o 1 (.str w),.o 0 (.bl false),.t 1 true] (A (hx) (A (il) (A (e1) (A (hh) (A (hw) (A (hne) (A (len) Z))))))) nofun
  ·exact fD false [.r (.ok x.toL st),.o 0 (.bl false),.t 5 true,.r (.ok (.str (hd x)) st),.o 1 (.str w),.o 0 (.bl true),.o 1 (.int k.pl)] (A (hx) (A (il) (A (e1) (A (hh) (A (hw) (A (hne) (A (pl) Z))))))) nofun
 cases t with
 | whole p v=>cases hk
 | truth p v=>cases hk
 | row p kd ts=>exact free rfl rfl
 | pair p a b=>exact free rfl rfl
 | att p a b=>
   match i,hi,hk with
   | 0,hi,hk=>
     have w:=want "row" (by rw [hi];rfl) (by rw [hi];simp [dq])
     cases x with
     | row xs=>exact w.1 nofun
     | _=>exact w.2 nofun
   | 1,hi,hk=>
     have w:=want "whole" (by rw [hi];rfl) (by rw [hi];simp [dq])
     cases x with
     | num xs=>exact w.1 nofun
     | _=>exact w.2 nofun
   | i+2,_,hk=>cases hk
 | size p a=>
   match i,hi,hk with
   | 0,hi,hk=>
     have w:=want "row" (by rw [hi];rfl) (by rw [hi];simp [dq])
     cases x with
     | row xs=>exact w.1 nofun
     | _=>exact w.2 nofun
   | i+1,_,hk=>cases hk
 | one p a=>
   match i,hi,hk with
   | 0,hi,hk=>
     have w:=want "pair" (by rw [hi];rfl) (by rw [hi];simp [dq])
     cases x with
     | pair u v=>exact w.1 nofun
     | _=>exact w.2 nofun
   | i+1,_,hk=>cases hk
 | two p a=>
   match i,hi,hk with
   | 0,hi,hk=>
     have w:=want "pair" (by rw [hi];rfl) (by rw [hi];simp [dq])
     cases x with
     | pair u v=>exact w.1 nofun
     | _=>exact w.2 nofun
   | i+1,_,hk=>cases hk
theorem kD (t:T61) (nodes:List D) (m:Nat) (st:List O) (f:T61→Except Er V61) (hf:∀ k∈aU t,ao Γ (m+1) cF [k.toD] st = .ok (tX (f k)) st) :
 ∀ (ts pre:List T61) (acc:List D) (e5 e6:Option D),pre ++ ts=aU t→acc.length=pre.length→acc.length+ts.length<1000 →
 (∀ xs,aZ f t pre.length ts = .ok xs→∃ e5' e6',bC (fun d s=>match aD [5] true d s.env with | some env=>exS Γ (ao Γ (m+1)) (aY Γ (m+1)) dB ⟨env,s.ow.filter fun i=>!([5]:List Nat).contains i,s.st⟩ | none=>.bad) (toDs ts) ⟨cg t nodes acc e5 e6,[4],st⟩ = .nx ⟨cg t nodes (acc ++ dH xs) e5' e6',[4],st⟩) ∧
 (∀ e,aZ f t pre.length ts = .error e→∃ env ow,bC (fun d s=>match aD [5] true d s.env with | some env=>exS Γ (ao Γ (m+1)) (aY Γ (m+1)) dB ⟨env,s.ow.filter fun i=>!([5]:List Nat).contains i,s.st⟩ | none=>.bad) (toDs ts) ⟨cg t nodes acc e5 e6,[4],st⟩ = .rt (.lst [eD e]) ⟨env,ow,st⟩)
 | [],pre,acc,e5,e6,_,_,_=>⟨fun xs h=>by rw [bK h];exact ⟨e5,e6,by simp [dH,toDs,bC]⟩,fun e h=>by unfold aZ at h;cases h⟩
 | k :: r',pre,acc,e5,e6,hp,ha,hl=>by
   simp only [List.length_cons] at hl
   have hk:(aU t)[pre.length]? = some k:=by rw [← hp,List.getElem?_append_right (Nat.le_refl _),Nat.sub_self];rfl
   have hm:k∈aU t:=List.mem_of_getElem? hk
   have hc:=hf k hm
   have pl:((pre ++ [k]).length:Nat)=pre.length+1:=by simp
   cases q:f k with
   | error e=>
     rw [q] at hc
     refine ⟨fun xs h=>?_,fun e' h=>?_⟩
     ·unfold aZ at h;rw [q] at h;cases h
     ·unfold aZ at h;rw [q] at h;cases h
      exact ⟨cg t nodes acc (some k.toD) (some (.lst [eD e])),[4],eJ (fD false [.r (.ok (.lst [eD e]) st)] (A (hc) Z) nofun) (fun s z=>by cases z)⟩
   | ok x=>
     rw [q] at hc
     have hn:=qx t nodes acc k pre.length ha hk x m st hc e6 (by omega)
     cases qc:chk t pre.length x with
     | false=>
       rw [qc] at hn
       refine ⟨fun xs h=>?_,fun e' h=>?_⟩
       ·unfold aZ at h;rw [q] at h;dsimp only at h;rw [qc] at h;cases h
       ·unfold aZ at h;rw [q] at h;dsimp only at h;rw [qc] at h;cases h
        exact ⟨_,_,eJ hn (fun s z=>by cases z)⟩
     | true=>
       rw [qc] at hn
       have ih:=kD t nodes m st f hf r' (pre ++ [k]) (acc ++ [x.toL]) (some k.toD) (some x.toL) (by rw [← hp];simp) (by simp [ha]) (by rw [List.length_append,List.length_singleton];omega)
       rw [pl] at ih
       refine ⟨fun xs h=>?_,fun e' h=>?_⟩
       ·obtain ⟨x',ys,q1,_,h2,rfl⟩:=aQ h
        rw [q] at q1;cases q1
        obtain ⟨a,b,h3⟩:=ih.1 ys h2
        refine ⟨a,b,df hn ?_⟩
        rw [List.append_assoc] at h3
        exact h3
       ·unfold aZ at h;rw [q] at h;dsimp only at h;rw [qc] at h;dsimp only at h
        cases q3:aZ f t (pre.length+1) r' with
        | ok ys=>rw [q3] at h;cases h
        | error e2=>
          rw [q3] at h;cases h
          obtain ⟨env,ow,h3⟩:=ih.2 _ q3
          exact ⟨env,ow,df hn h3⟩
theorem vJ {xs:List V61} {i:Nat}:(dH xs)[i]? = (xs[i]?).map V61.toL:=by rw [iu,List.getElem?_map]
theorem due:∀ (n:Nat) (t:T61),t.ok→t.nest≤n→∀ N,n+1≤N→∀ st:List O,ao Γ N cF [t.toD] st = .ok (tX (val n t)) st
 | 0,t,ok,h,N,h2,st=>by
   exfalso
   have:1≤t.nest:=by cases t <;> first | exact Nat.le_refl _ | exact Nat.le_add_right _ _
   omega
 | n+1,t,ok,h,N,h2,st=>by
   obtain ⟨m,rfl⟩:∃ m,N=m+2:=⟨N - 2,by omega⟩
   have ih:∀ k∈aU t,ao Γ (m+1) cF [k.toD] st = .ok (tX (val n k)) st:=fun k hk=>due n k (mB ok hk) (by have:=mh hk;omega) (m+1) (by omega) st
   have lp:=kD t (toDs (aU t)) m st (val n) ih (aU t) [] [] none none rfl rfl (by have:=mC ok;simp only [List.length_nil];omega)
   cases q:leaf? t with
   | some x=>
     cases t with
     | whole p v=>cases q;kernel_rfl
     | truth p v=>cases q;kernel_rfl
     | _=>cases q
   | none=>
     have ev:val (n+1) t=(match aZ (val n) t 0 (aU t) with | .ok xs=>fin t xs | .error e=>.error e):=by
      show (match leaf? t with | some x=>_ | none=>_)=_
      rw [q]
      all_goals rfl
     rw [ev]
     cases qg:aZ (val n) t 0 (aU t) with
     | error e=>
       obtain ⟨env,ow,hf⟩:=lp.2 e qg
       cases t <;> first | (cases q;done) | exact ac true [.x (.rt (.lst [eD e]) ⟨env,ow,st⟩)] (A (hf) Z) nofun
     | ok xs=>
       obtain ⟨a,b,hf⟩:=lp.1 xs qg
       have sh:=mN q qg
       dsimp only
       cases t with
       | whole p v=>cases q
       | truth p v=>cases q
       | row p kd ts=>exact ac true [.x (.nx ⟨cg (.row p kd ts) (toDs ts) ([] ++ dH xs) a b,[4],st⟩)] (A (hf) Z) nofun
       | pair p c d=>
         obtain ⟨u,v,rfl⟩:=sh
         exact ac true [.x (.nx ⟨cg (.pair p c d) [c.toD,d.toD] [u.toL,v.toL] a b,[4],st⟩)] (A (hf) Z) nofun
       | size p c=>
         obtain ⟨ys,rfl⟩:=sh
         have e:biD .len [.tup (dH ys)]=some (.int (ys.length:Nat)):=by show some (D.int ((dH ys).length:Nat))=_;rw [ir]
         exact ac true [.x (.nx ⟨cg (.size p c) [c.toD] [(V61.row ys).toL] a b,[4],st⟩),.o 8 (.int (ys.length:Nat))] (A (hf) (A (e) Z)) nofun
       | one p c=>
         obtain ⟨u,v,rfl⟩:=sh
         exact ac true [.x (.nx ⟨cg (.one p c) [c.toD] [(V61.pair u v).toL] a b,[4],st⟩)] (A (hf) Z) nofun
       | two p c=>
         obtain ⟨u,v,rfl⟩:=sh
         exact ac true [.x (.nx ⟨cg (.two p c) [c.toD] [(V61.pair u v).toL] a b,[4],st⟩)] (A (hf) Z) nofun
       | att p c d=>
         obtain ⟨ys,i,rfl⟩:=sh
         show _=Res.ok (tX (nth ys i p)) st
         unfold nth
         by_cases c0:0≤i
         ·rw [if_pos c0]
          have e1:decide (i<(0:Int))=false:=decide_eq_false (by omega)
          obtain ⟨k,rfl⟩:∃ k:Nat,i=k:=⟨i.toNat,by omega⟩
          rw [Int.toNat_natCast]
          cases qk:ys[k]? with
          | some x=>
            have lt:k<ys.length:=(List.getElem?_eq_some_iff.mp qk).1
            have e2:decide ((((dH ys).length:Nat):Int)≤(k:Int))=false:=by rw [ir];exact decide_eq_false (by omega)
            have e3:ixD (.tup (dH ys)) (.int (k:Int))=some x.toL:=jw (by rw [vJ,qk];rfl)
            exact ac true [.x (.nx ⟨cg (.att p c d) [c.toD,d.toD] [(V61.row ys).toL,(V61.num k).toL] a b,[4],st⟩),.t 10 false,.t 5 false,.o 3 x.toL] (A (hf) (A (e1) (A (e2) (A (e3) Z)))) nofun
          | none=>
            have ge:ys.length≤k:=List.getElem?_eq_none_iff.mp qk
            have e2:decide ((((dH ys).length:Nat):Int)≤(k:Int))=true:=by rw [ir];exact decide_eq_true (by omega)
            exact ac true [.x (.nx ⟨cg (.att p c d) [c.toD,d.toD] [(V61.row ys).toL,(V61.num k).toL] a b,[4],st⟩),.t 10 false,.t 5 true] (A (hf) (A (e1) (A (e2) Z))) nofun
         ·rw [if_neg c0]
          have e1:decide (i<(0:Int))=true:=decide_eq_true (by omega)
          exact ac true [.x (.nx ⟨cg (.att p c d) [c.toD,d.toD] [(V61.row ys).toL,(V61.num i).toL] a b,[4],st⟩),.t 10 true] (A (hf) (A (e1) Z)) nofun
theorem zp (r:Except Er V61) (n:Nat) (st:List O):ao Γ (n+1) jH [lY r,lY r] st = .ok (.bl true) st:=by
 cases r with
 | ok x=>
   have e:eqv 55 (.tup [.str "done",.str (txt 3 x)]) (.tup [.str "done",.str (txt 3 x)])=some true:=by
    show some (true && ((txt 3 x == txt 3 x) && true) && true)=some true
    rw [beq_self_eq_true];rfl
   exact ac false [.o 22 (.bl true)] (A ((congrArg (Option.map D.bl) e)) Z) nofun
 | error e=>cases e with
   | wrong p=>
     have e:eqv 55 (.tup [.str "wrong",.int p]) (.tup [.str "wrong",.int p])=some true:=by
      show some (true && ((p == p) && true) && true)=some true
      rw [beq_self_eq_true];rfl
     exact ac false [.o 22 (.bl true)] (A ((congrArg (Option.map D.bl) e)) Z) nofun
   | nun p=>
     have e:eqv 55 (.tup [.str "fault",.int p,.str "none"]) (.tup [.str "fault",.int p,.str "none"])=some true:=by
      show some (true && ((p == p) && (true && true)) && true)=some true
      rw [beq_self_eq_true];rfl
     exact ac false [.o 29 (.bl true)] (A ((congrArg (Option.map D.bl) e)) Z) nofun
theorem xm (n:Nat) (t:T61) (ok:t.ok) (hn:t.nest≤n) (c:Int) (st:List O) (N:Nat) (h:2 * n+8≤N) (h12:12≤N):ao Γ N ce [t.toD,.int c] st = .ok (.bl true) (ws st (.int c)):=by
 obtain ⟨m,rfl⟩:∃ m,N=m+2:=⟨N - 2,by omega⟩
 have hd:=due n t ok hn (m+1) (by omega) st
 have hp:=plain n t ok hn (.int c) st (m+1) (by omega) (by omega)
 have vo:=mX n t ok
 have ha:=zp (val n t) m (ws st (.int c))
 revert hd hp vo ha
 cases val n t with
 | ok x=>
   intro hd hp vo ha
   have il:biD .isLst [look st x.toL]=some (.bl false):=by rw [re];exact qW x
   exact ac false [.r (.ok x.toL st),.o 0 (.bl false),.r (.ok (lY (.ok x)) (ws st (.int c))),.r (.ok (.str (txt 3 x)) (ws st (.int c))),.r (.ok (.bl true) (ws st (.int c)))] (A (hd) (A (il) (A (hp) (A ((wl (ws st (.int c)) 3 (by omega) x (vo x rfl) 1 (by decide) (m+1) (by omega))) (A (ha) Z))))) nofun
 | error e=>
   intro hd hp vo ha
   exact ac false [.r (.ok (.lst [eD e]) st),.r (.ok (lY (.error e)) (ws st (.int c))),.r (.ok (.bl true) (ws st (.int c)))] (A (hd) (A (hp) (A (ha) Z))) nofun
theorem k8 {i j:Int} (h:-(2 ^ 64)<j∧j<2 ^ 64):opD .mul (.int i) (.int j)=some (.int (i * j)):=by
 show (if _ then _ else _)=_
 rw [if_pos (.inl (.inr h))]
theorem wS (x:Int):0≤x % 999999999989∧x % 999999999989<999999999989:=⟨Int.emod_nonneg _ (by decide),Int.emod_lt_of_pos _ (by decide)⟩
theorem p8 {α:Type} {l:List α} {k:Nat} {x:α} (h:l[k]? = some x):atI l (k:Int)=some x:=jw h
theorem tV (ns:List Int) (k:Nat) (n:Nat) (st:List O):∃ c:Int,(0≤c∧c<999999999989)∧ao Γ (n+1) gU [.lst (ns.map .int),.int k] st = .ok (.int c) st:=by
 by_cases c:k<ns.length
 ·have e1:decide ((k:Int)<((ns.map D.int).length:Nat))=true:=by rw [List.length_map];exact decide_eq_true (by omega)
  have e2:ixD (.lst (ns.map D.int)) (.int (k:Int))=some (.int ns[k]):=by
   refine p8 ?_
   rw [List.getElem?_map,List.getElem?_eq_getElem c]
   rfl
  refine ⟨_,wS (ns[k] * 982451653+((k:Int)+1) * 104395303),?_⟩
  exact ac false [.t 2 true,.o 0 (.int ns[k]),.o 0 (.int (ns[k] * 982451653)),.o 1 (.int (((k:Int)+1) * 104395303))] (A (e1) (A (e2) (A (k8 (i:=ns[k]) (j:=982451653) (by decide)) (A (k8 (i:=(k:Int)+1) (j:=104395303) (by decide)) Z)))) nofun
 ·have e1:decide ((k:Int)<((ns.map D.int).length:Nat))=false:=by rw [List.length_map];exact decide_eq_false (by omega)
  refine ⟨_,wS (0 * 982451653+((k:Int)+1) * 104395303),?_⟩
  exact ac false [.t 2 false,.o 2 (.int (((k:Int)+1) * 104395303))] (A (e1) (A (k8 (i:=(k:Int)+1) (j:=104395303) (by decide)) Z)) nofun
noncomputable abbrev au (ns:List Int) (i b c:Int):O:=.lst [.lst (ns.map .int),.int i,.int b,.int c]
noncomputable abbrev Pl (b c:Int):Int:=(b+7919 * (c+1)) % 9973
theorem fU (ns:List Int) (i b c:Int) (n:Nat) (st:List O):ao Γ (n+1) jI [.ref 0] (au ns i b c :: st) = .ok (.int (Pl b c)) (au ns i b (c+1) :: st):=by kernel_rfl
theorem next (ns:List Int) (i b c:Int) (hi:0≤i) (n:Nat) (st:List O):∃ x:Int,(0≤x∧x<999999999989)∧ao Γ (n+1) di [.ref 0] (au ns i b c :: st) = .ok (.int x) (au ns (i+1) b c :: st):=by
 by_cases c1:24<c
 ·have e1:decide ((24:Int)<c)=true:=decide_eq_true c1
  exact ⟨0,⟨by decide,by decide⟩,ac false [.t 4 true] (A (e1) Z) nofun⟩
 ·have e1:decide ((24:Int)<c)=false:=decide_eq_false c1
  by_cases c2:(ns.length:Int)≤i+1
  ·have e2:decide (((ns.map D.int).length:Int)≤i+1)=true:=by rw [List.length_map];exact decide_eq_true c2
   exact ⟨0,⟨by decide,by decide⟩,ac false [.t 4 false,.t 4 true] (A (e1) (A (e2) Z)) nofun⟩
  ·have e2:decide (((ns.map D.int).length:Int)≤i+1)=false:=by rw [List.length_map];exact decide_eq_false c2
   obtain ⟨k,hk⟩:∃ k:Nat,i+1=k:=⟨(i+1).toNat,by omega⟩
   have kl:k<ns.length:=by omega
   have e3:ixD (.lst (ns.map D.int)) (.int (i+1))=some (.int ns[k]):=by
    rw [hk]
    refine p8 ?_
    rw [List.getElem?_map,List.getElem?_eq_getElem kl]
    rfl
   refine ⟨_,wS (ns[k] * 982451653+(i+1) * 104395303),?_⟩
   exact ac false [.t 4 false,.t 4 false,.o 2 (.int ns[k]),.o 0 (.int (ns[k] * 982451653)),.o 1 (.int ((i+1) * 104395303))] (A (e1) (A (e2) (A (e3) (A (k8 (i:=ns[k]) (j:=982451653) (by decide)) (A (k8 (i:=i+1) (j:=104395303) (by decide)) Z))))) nofun
theorem ix3 (a b c:D) (y:Int):∃ d,ixD (.lst [a,b,c]) (.int (y % 3))=some d:=by
 have m:y % 3=0∨y % 3=1∨y % 3=2:=by omega
 rcases m with m | m | m
 ·exact ⟨a,by rw [m];rfl⟩
 ·exact ⟨b,by rw [m];rfl⟩
 ·exact ⟨c,by rw [m];rfl⟩
noncomputable def kk (d:D):List D:=[.tup [.str "row",d],.tup [.str "pair",d,.tup [.str "?"]],.tup [.str "to",.tup [.str "whole"],d]]
theorem kind (x:Int) (n:Nat):∃ d,∀ st:List O,ao Γ (n+1) kP [.int x] st = .ok d st:=by
 obtain ⟨d0,h0⟩:=ix3 (.tup [.str "?"]) (.tup [.str "whole"]) (.tup [.str "truth"]) x
 obtain ⟨d1,h1⟩:∃ d,ixD (.lst (kk d0)) (.int ((x / 12+0) % 3))=some d:=ix3 _ _ _ _
 obtain ⟨d2,h2⟩:∃ d,ixD (.lst (kk d1)) (.int ((x / 12+1) % 3))=some d:=ix3 _ _ _ _
 obtain ⟨d3,h3⟩:∃ d,ixD (.lst (kk d2)) (.int ((x / 12+2) % 3))=some d:=ix3 _ _ _ _
 have m:x / 3 % 4=0∨x / 3 % 4=1∨x / 3 % 4=2∨x / 3 % 4=3:=by omega
 rcases m with m | m | m | m
 ·have hr:(itD .range1 [.int (x / 3 % 4)]).map D.lst=some (.lst []):=by rw [m];kernel_rfl
  exact ⟨d0,fun st=>ac false [.o 1 d0,.o 2 (.lst [])] (A (h0) (A (hr) Z)) nofun⟩
 ·have hr:(itD .range1 [.int (x / 3 % 4)]).map D.lst=some (.lst [.int 0]):=by rw [m];kernel_rfl
  exact ⟨d1,fun st=>ac false [.o 1 d0,.o 2 (.lst [.int 0]),.o 3 d1] (A (h0) (A (hr) (A (h1) Z))) nofun⟩
 ·have hr:(itD .range1 [.int (x / 3 % 4)]).map D.lst=some (.lst [.int 0,.int 1]):=by rw [m];kernel_rfl
  exact ⟨d2,fun st=>ac false [.o 1 d0,.o 2 (.lst [.int 0,.int 1]),.o 3 d1,.o 3 d2] (A (h0) (A (hr) (A (h1) (A (h2) Z)))) nofun⟩
 ·have hr:(itD .range1 [.int (x / 3 % 4)]).map D.lst=some (.lst [.int 0,.int 1,.int 2]):=by rw [m];kernel_rfl
  exact ⟨d3,fun st=>ac false [.o 1 d0,.o 2 (.lst [.int 0,.int 1,.int 2]),.o 3 d1,.o 3 d2,.o 3 d3] (A (h0) (A (hr) (A (h1) (A (h2) (A (h3) Z))))) nofun⟩
theorem fY (ns:List Int) (i b c:Int) (h:Int) (hh:0≤h∧h<4) (x:Int) (n:Nat) (st:List O):∃ (t:T61) (c':Int),t.ok∧t.nest≤2∧ao Γ (n+2) kQ [.ref 0,.int h,.int x] (au ns i b c :: st) = .ok t.toD (au ns i b c' :: st):=by
 have p1:=fU ns i b c n st
 have p2:=fU ns i b (c+1) n st
 have p3:=fU ns i b (c+1+1) n st
 have m:h=0∨h=1∨h=2∨h=3:=by omega
 rcases m with rfl | rfl | rfl | rfl
 ·exact ⟨.whole (Pl b c) (x % 2001 - 1000),c+1,(show (x % 2001 - 1000).natAbs<10 ^ 13 by omega),by simp [T61.nest,cS],ac false [.r (.ok (.int (Pl b c)) (au ns i b (c+1) :: st))] (A (p1) Z) nofun⟩
 ·exact ⟨.truth (Pl b c) (x % 2 == 0),c+1,trivial,by simp [T61.nest,cS],ac false [.r (.ok (.int (Pl b c)) (au ns i b (c+1) :: st))] (A (p1) Z) nofun⟩
 ·obtain ⟨d,hd⟩:=kind x n
  exact ⟨.row (Pl b c) d [],c+1,⟨Nat.zero_le _,trivial⟩,by simp [T61.nest,cS],ac false [.r (.ok (.int (Pl b c)) (au ns i b (c+1) :: st)),.r (.ok d (au ns i b (c+1) :: st))] (A (p1) (A (hd (au ns i b (c+1) :: st)) Z)) nofun⟩
 ·exact ⟨.pair (Pl b c) (.whole (Pl b (c+1)) (x % 1000003)) (.truth (Pl b (c+1+1)) (x % 2 == 0)),c+1+1+1,⟨(show (x % 1000003).natAbs<10 ^ 13 by omega),trivial⟩,by simp [T61.nest,cS],ac false [.r (.ok (.int (Pl b c)) (au ns i b (c+1) :: st)),.r (.ok (.int (Pl b (c+1))) (au ns i b (c+1+1) :: st)),.r (.ok (.int (Pl b (c+1+1))) (au ns i b (c+1+1+1) :: st))] (A (p1) (A (p2) (A (p3) Z))) nofun⟩
theorem cC (a b:Int):(a == b)=true∨(a == b)=false:=by cases (a == b) <;> simp
theorem zJ (p:Prop) [Decidable p]:decide p=true∨decide p=false:=by cases decide p <;> simp
noncomputable def oM (r:Nat) (t:T61):Prop:=t.ok∧t.nest≤r+1
noncomputable def oN (ns:List Int) (b:Int) (r:Nat) (R:Int):Prop:=∀ (w i c:Int),0≤i→∀ n,2 * r+2≤n→∀ st:List O,∃ (t:T61) (i' c':Int),0≤i'∧oM r t∧ao Γ n dh [.ref 0,.int w,.int R] (au ns i b c :: st) = .ok t.toD (au ns i' b c' :: st)
theorem AQ (ns:List Int) (b:Int) (r:Nat) (R:Int) (sub:oN ns b r R) (r1:1≤r) (x:Int) (x0:0≤x) (x1:x<10 ^ 12) (i c:Int) (hi:0≤i) (n:Nat) (hn:2 * r+3≤n) (st:List O):∃ (t:T61) (i' c':Int),0≤i'∧oM r t∧ao Γ n kR [.ref 0,.int x,.int R] (au ns i b c :: st) = .ok t.toD (au ns i' b c' :: st):=by
 obtain ⟨m,rfl⟩:∃ m,n=m+2:=⟨n - 2,by omega⟩
 have p1:=fU ns i b c m st
 have one:∀ t:T61,t.nest=1→t.nest≤r+1:=fun t h=>by omega
 rcases cC (x % 9) 0 with e0 | e0
 ·obtain ⟨t,i',c',h1,h2,h3⟩:=sub 0 i c hi (m+1) (by omega) st
  exact ⟨t,i',c',h1,h2,ac false [.t 2 true,.r (.ok t.toD (au ns i' b c' :: st))] (A (e0) (A (h3) Z)) nofun⟩
 rcases cC (x % 9) 1 with e1 | e1
 ·exact ⟨.truth (Pl b c) (x / 9 % 2 == 0),i,c+1,hi,⟨trivial,one _ rfl⟩,ac false [.t 2 false,.t 2 true,.r (.ok (.int (Pl b c)) (au ns i b (c+1) :: st))] (A (e0) (A (e1) (A (p1) Z))) nofun⟩
 rcases cC (x % 9) 2 with e2 | e2
 ·exact ⟨.whole (Pl b c) (x / 9),i,c+1,hi,⟨(show (x / 9).natAbs<10 ^ 13 by omega),one _ rfl⟩,ac false [.t 2 false,.t 2 false,.t 2 true,.r (.ok (.int (Pl b c)) (au ns i b (c+1) :: st))] (A (e0) (A (e1) (A (e2) (A (p1) Z)))) nofun⟩
 ·exact ⟨.whole (Pl b c) (x / 9 % 7 - 1),i,c+1,hi,⟨(show (x / 9 % 7 - 1).natAbs<10 ^ 13 by omega),one _ rfl⟩,ac false [.t 2 false,.t 2 false,.t 2 false,.r (.ok (.int (Pl b c)) (au ns i b (c+1) :: st))] (A (e0) (A (e1) (A (e2) (A (p1) Z)))) nofun⟩
noncomputable abbrev Ac:E:=.call 24 (.cons (.v 1) (.cons (.op .fdiv (.v 2) (.c (.int 4))) (.cons (.op .sub (.v 3) (.c (.int 1))) .nil)))
theorem jQ (ns:List Int) (b:Int) (r:Nat) (R:Int) (sub:oN ns b r (R - 1)) (w:Int) (m:Nat) (hm:2 * r+2≤m) (st:List O) (e4 e5 e6 e7 e8:Option D):∀ (ds:List D) (acc:List D) (i c:Int) (e:Option D),0≤i→acc.length+ds.length<1000→∃ (ts:List T61) (i' c':Int) (e':Option D),0≤i'∧ts.length=ds.length∧(∀ t∈ts,oM r t) ∧
 bX (lcF (ao Γ m) (aY Γ m) Ac) ds acc ⟨[e,some (.ref 0),some (.int w),some (.int R),e4,e5,e6,e7,e8],[],au ns i b c :: st⟩ = .ok (.lst (acc ++ toDs ts)) ⟨[e',some (.ref 0),some (.int w),some (.int R),e4,e5,e6,e7,e8],[],au ns i' b c' :: st⟩
 | [],acc,i,c,e,hi,_=>⟨[],i,c,e,hi,rfl,(fun _ h=>nomatch h),by simp [bX,toDs]⟩
 | d :: ds,acc,i,c,e,hi,hl=>by
   simp only [List.length_cons] at hl
   obtain ⟨t,i1,c1,h1,h2,h3⟩:=sub (w / 4) i c hi m hm st
   have hs:=qC (Γ:=Γ) (cal:=ao Γ m) (cal1:=aY Γ m) (br:=false) (e:=Ac) (s:=⟨[some d,some (.ref 0),some (.int w),some (.int R),e4,e5,e6,e7,e8],[],au ns i b c :: st⟩) (o:=.ok t.toD ⟨[some d,some (.ref 0),some (.int w),some (.int R),e4,e5,e6,e7,e8],[],au ns i1 b c1 :: st⟩) false [.r (.ok t.toD (au ns i1 b c1 :: st))] (A (h3) Z) nofun
   obtain ⟨ts,i',c',e',g1,g2,g3,g4⟩:=jQ ns b r R sub w m hm st e4 e5 e6 e7 e8 ds (acc ++ [t.toD]) i1 c1 (some d) h1 (by rw [List.length_append,List.length_singleton];omega)
   refine ⟨t :: ts,i',c',e',g1,by simp [g2],fun z hz=>?_,jN (gY hs) (by omega) ?_⟩
   ·rcases List.mem_cons.mp hz with rfl | hz
    ·exact h2
    ·exact g3 z hz
   ·rw [g4,List.append_assoc];rfl
theorem g7 {r:Nat}:∀ {ts:List T61},(∀ t∈ts,oM r t)→oks ts∧cS ts≤r+1
 | [],_=>⟨trivial,Nat.zero_le _⟩
 | t :: r',h=>by
   have h1:=h t (List.mem_cons_self ..)
   have h2:=g7 (ts:=r') fun z hz=>h z (List.mem_cons_of_mem _ hz)
   exact ⟨⟨h1.1,h2.1⟩,Nat.max_le.mpr ⟨h1.2,h2.2⟩⟩
theorem AL (y:Int):∃ ds:List D,ds.length≤4∧(itD .range1 [.int (y % 5)]).map D.lst=some (.lst ds):=by
 have m:y % 5=0∨y % 5=1∨y % 5=2∨y % 5=3∨y % 5=4:=by omega
 rcases m with m | m | m | m | m
 ·exact ⟨[],by simp,by rw [m];kernel_rfl⟩
 ·exact ⟨[.int 0],by simp,by rw [m];kernel_rfl⟩
 ·exact ⟨[.int 0,.int 1],by simp,by rw [m];kernel_rfl⟩
 ·exact ⟨[.int 0,.int 1,.int 2],by simp,by rw [m];kernel_rfl⟩
 ·exact ⟨[.int 0,.int 1,.int 2,.int 3],by simp,by rw [m];kernel_rfl⟩
theorem xJ (ns:List Int) (b:Int) (r:Nat) (R:Int) (r1:1≤r) (sub:¬ R<2→1≤r - 1∧oN ns b (r - 1) (R - 1)) (w i c:Int) (hi:0≤i) (k:Nat) (hk:2 * r≤k+1) (st:List O) (x:Int) (x0:0≤x) (x1:x<999999999989) (hx:ao Γ (k+2) di [.ref 0] (au ns i b c :: st) = .ok (.int x) (au ns (i+1) b c :: st)) (e19:(x % 19 == 7)=false) :
 ∃ (t:T61) (i' c':Int),0≤i'∧oM r t∧ao Γ (k+3) dh [.ref 0,.int w,.int R] (au ns i b c :: st) = .ok t.toD (au ns i' b c' :: st):=by
 have i1:0≤i+1:=by omega
 have hp:=fU ns (i+1) b c (k+1) st
 obtain ⟨tl,cl,ol,nl,hl⟩:=fY ns (i+1) b c (w % 4) (by omega) (x / 456) k st
 let L0:List An→List An:=fun z=>.r (.ok (.int x) (au ns (i+1) b c :: st)) :: .t 2 false :: z
 have H0 {y:Prop} (z:y):=A hx (A e19 z)
 rcases zJ (R<2) with eR | eR
 ·exact ⟨tl,i+1,cl,i1,⟨ol,by omega⟩,ac false (L0 [.t 4 true,.r (.ok tl.toD (au ns (i+1) b cl :: st))]) (H0 (A eR (A hl Z))) nofun⟩
 rcases cC (x / 76 % 6) 0 with e0 | e0
 ·exact ⟨tl,i+1,cl,i1,⟨ol,by omega⟩,ac false (L0 [.t 4 false,.t 1 true,.r (.ok tl.toD (au ns (i+1) b cl :: st))]) (H0 (A eR (A e0 (A hl Z)))) nofun⟩
 have r2:¬ R<2:=by simpa using eR
 obtain ⟨q1,sb⟩:=sub r2
 let L1:List An→List An:=fun z=>L0 (.t 4 false :: .t 1 false :: .r (.ok (.int (Pl b c)) (au ns (i+1) b (c+1) :: st)) :: z)
 have H1 {y:Prop} (z:y):=H0 (A eR (A e0 (A hp z)))
 rcases cC (x / 76 % 6) 1 with e1 | e1
 ·obtain ⟨t1,i2,c2,g2,m1,h1⟩:=sb (2+4 * w) (i+1) (c+1) i1 (k+2) (by omega) st
  obtain ⟨t2,i3,c3,g3,m2,h2⟩:=AQ ns b (r - 1) (R - 1) sb q1 (x / 456) (by omega) (by omega) i2 c2 g2 (k+2) (by omega) st
  exact ⟨.att (Pl b c) t1 t2,i3,c3,g3,⟨⟨m1.1,m2.1⟩,by have a1:=m1.2;have a2:=m2.2;show 1+max t1.nest t2.nest≤_;omega⟩,ac false (L1 [.t 1 true,.r (.ok t1.toD (au ns i2 b c2 :: st)),.r (.ok t2.toD (au ns i3 b c3 :: st))]) (H1 (A e1 (A h1 (A h2 Z)))) nofun⟩
 rcases cC (x / 76 % 6) 2 with e2 | e2
 ·obtain ⟨t1,i2,c2,g2,m1,h1⟩:=sb (3+4 * w) (i+1) (c+1) i1 (k+2) (by omega) st
  have n1:1+t1.nest≤r+1:=by have a1:=m1.2;omega
  have m:x / 456 % 2=0∨x / 456 % 2=1:=by omega
  rcases m with m | m
  ·have hw:ixD (.lst [.str "one",.str "two"]) (.int (x / 456 % 2))=some (.str "one"):=by rw [m];rfl
   exact ⟨.one (Pl b c) t1,i2,c2,g2,⟨m1.1,n1⟩,ac false (L1 [.t 1 false,.t 1 true,.o 1 (.str "one"),.r (.ok t1.toD (au ns i2 b c2 :: st))]) (H1 (A e1 (A e2 (A hw (A h1 Z))))) nofun⟩
  ·have hw:ixD (.lst [.str "one",.str "two"]) (.int (x / 456 % 2))=some (.str "two"):=by rw [m];rfl
   exact ⟨.two (Pl b c) t1,i2,c2,g2,⟨m1.1,n1⟩,ac false (L1 [.t 1 false,.t 1 true,.o 1 (.str "two"),.r (.ok t1.toD (au ns i2 b c2 :: st))]) (H1 (A e1 (A e2 (A hw (A h1 Z))))) nofun⟩
 let L2:List An→List An:=fun z=>L1 (.t 1 false :: .t 1 false :: z)
 have H2 {y:Prop} (z:y):=H1 (A e1 (A e2 z))
 rcases cC (w % 4) 0 with s0 | s0
 ·obtain ⟨t1,i2,c2,g2,m1,h1⟩:=sb (2+4 * (x / 456 % 64)) (i+1) (c+1) i1 (k+2) (by omega) st
  exact ⟨.size (Pl b c) t1,i2,c2,g2,⟨m1.1,by have a1:=m1.2;show 1+t1.nest≤_;omega⟩,ac false (L2 [.t 2 true,.r (.ok t1.toD (au ns i2 b c2 :: st))]) (H2 (A s0 (A h1 Z))) nofun⟩
 rcases cC (w % 4) 1 with s1 | s1
 ·exact ⟨.truth (Pl b c) (x / 456 % 2 == 0),i+1,c+1,i1,⟨trivial,by show 1≤_;omega⟩,ac false (L2 [.t 2 false,.t 2 true]) (H2 (A s0 (A s1 Z))) nofun⟩
 let L3:List An→List An:=fun z=>L2 (.t 2 false :: .t 2 false :: z)
 have H3 {y:Prop} (z:y):=H2 (A s0 (A s1 z))
 rcases cC (w % 4) 3 with s3 | s3
 ·obtain ⟨t1,i2,c2,g2,m1,h1⟩:=sb (w / 4) (i+1) (c+1) i1 (k+2) (by omega) st
  obtain ⟨t2,i3,c3,g3,m2,h2⟩:=sb (w / 4) i2 c2 g2 (k+2) (by omega) st
  exact ⟨.pair (Pl b c) t1 t2,i3,c3,g3,⟨⟨m1.1,m2.1⟩,by have a1:=m1.2;have a2:=m2.2;show 1+max t1.nest t2.nest≤_;omega⟩,ac false (L3 [.t 2 true,.r (.ok t1.toD (au ns i2 b c2 :: st)),.r (.ok t2.toD (au ns i3 b c3 :: st))]) (H3 (A s3 (A h1 (A h2 Z)))) nofun⟩
 obtain ⟨ds,l4,hr⟩:=AL (x / 456)
 obtain ⟨kd,hkd⟩:=kind (x / 456 / 5) (k+1)
 obtain ⟨ts,i2,c2,e',g2,lt,mt,hlp⟩:=jQ ns b (r - 1) R sb w (k+2) (by omega) st (some (.int (x / 456))) (some (.int (x / 76 % 6))) (some (.int (Pl b c))) none none ds [] (i+1) (c+1) none i1 (by simp only [List.length_nil];omega)
 obtain ⟨ot,nt⟩:=g7 mt
 exact ⟨.row (Pl b c) kd ts,i2,c2,g2,⟨⟨by rw [lt];exact l4,ot⟩,by show 1+cS ts≤_;omega⟩,ac true (L3 [.t 2 false,.o 1 (.lst ds),.e (.lst ([] ++ toDs ts)) ⟨[e',some (.ref 0),some (.int w),some (.int R),some (.int (x / 456)),some (.int (x / 76 % 6)),some (.int (Pl b c)),none,none],[],au ns i2 b c2 :: st⟩,.r (.ok kd (au ns i2 b c2 :: st))]) (H3 (A s3 (A hr (A hlp (A (hkd (au ns i2 b c2 :: st)) Z))))) nofun⟩
theorem xK (ns:List Int) (b:Int) (r:Nat) (R:Int) (r1:1≤r) (sub:¬ R<2→1≤r - 1∧oN ns b (r - 1) (R - 1)) (w i c:Int) (hi:0≤i) (k:Nat) (hk:2 * r≤k+1) (st:List O) (x:Int) (x0:0≤x) (x1:x<999999999989) (hx:ao Γ (k+2) di [.ref 0] (au ns i b c :: st) = .ok (.int x) (au ns (i+1) b c :: st)) (e19:(x % 19 == 7)=true) :
 ∃ (t:T61) (i' c':Int),0≤i'∧oM r t∧ao Γ (k+3) dh [.ref 0,.int w,.int R] (au ns i b c :: st) = .ok t.toD (au ns i' b c' :: st):=by
 have i1:0≤i+1:=by omega
 have hp:=fU ns (i+1) b c (k+1) st
 obtain ⟨tl,cl,ol,nl,hl⟩:=fY ns (i+1) b c ((x / 19 % 4) % 4) (by omega) (x / 456) k st
 let L0:List An→List An:=fun z=>.r (.ok (.int x) (au ns (i+1) b c :: st)) :: .t 2 true :: z
 have H0 {y:Prop} (z:y):=A hx (A e19 z)
 rcases zJ (R<2) with eR | eR
 ·exact ⟨tl,i+1,cl,i1,⟨ol,by omega⟩,ac false (L0 [.t 6 true,.r (.ok tl.toD (au ns (i+1) b cl :: st))]) (H0 (A eR (A hl Z))) nofun⟩
 rcases cC (x / 76 % 6) 0 with e0 | e0
 ·exact ⟨tl,i+1,cl,i1,⟨ol,by omega⟩,ac false (L0 [.t 6 false,.t 1 true,.r (.ok tl.toD (au ns (i+1) b cl :: st))]) (H0 (A eR (A e0 (A hl Z)))) nofun⟩
 have r2:¬ R<2:=by simpa using eR
 obtain ⟨q1,sb⟩:=sub r2
 let L1:List An→List An:=fun z=>L0 (.t 6 false :: .t 1 false :: .r (.ok (.int (Pl b c)) (au ns (i+1) b (c+1) :: st)) :: z)
 have H1 {y:Prop} (z:y):=H0 (A eR (A e0 (A hp z)))
 rcases cC (x / 76 % 6) 1 with e1 | e1
 ·obtain ⟨t1,i2,c2,g2,m1,h1⟩:=sb (2+4 * (x / 19 % 4)) (i+1) (c+1) i1 (k+2) (by omega) st
  obtain ⟨t2,i3,c3,g3,m2,h2⟩:=AQ ns b (r - 1) (R - 1) sb q1 (x / 456) (by omega) (by omega) i2 c2 g2 (k+2) (by omega) st
  exact ⟨.att (Pl b c) t1 t2,i3,c3,g3,⟨⟨m1.1,m2.1⟩,by have a1:=m1.2;have a2:=m2.2;show 1+max t1.nest t2.nest≤_;omega⟩,ac false (L1 [.t 1 true,.r (.ok t1.toD (au ns i2 b c2 :: st)),.r (.ok t2.toD (au ns i3 b c3 :: st))]) (H1 (A e1 (A h1 (A h2 Z)))) nofun⟩
 rcases cC (x / 76 % 6) 2 with e2 | e2
 ·obtain ⟨t1,i2,c2,g2,m1,h1⟩:=sb (3+4 * (x / 19 % 4)) (i+1) (c+1) i1 (k+2) (by omega) st
  have n1:1+t1.nest≤r+1:=by have a1:=m1.2;omega
  have m:x / 456 % 2=0∨x / 456 % 2=1:=by omega
  rcases m with m | m
  ·have hw:ixD (.lst [.str "one",.str "two"]) (.int (x / 456 % 2))=some (.str "one"):=by rw [m];rfl
   exact ⟨.one (Pl b c) t1,i2,c2,g2,⟨m1.1,n1⟩,ac false (L1 [.t 1 false,.t 1 true,.o 1 (.str "one"),.r (.ok t1.toD (au ns i2 b c2 :: st))]) (H1 (A e1 (A e2 (A hw (A h1 Z))))) nofun⟩
  ·have hw:ixD (.lst [.str "one",.str "two"]) (.int (x / 456 % 2))=some (.str "two"):=by rw [m];rfl
   exact ⟨.two (Pl b c) t1,i2,c2,g2,⟨m1.1,n1⟩,ac false (L1 [.t 1 false,.t 1 true,.o 1 (.str "two"),.r (.ok t1.toD (au ns i2 b c2 :: st))]) (H1 (A e1 (A e2 (A hw (A h1 Z))))) nofun⟩
 let L2:List An→List An:=fun z=>L1 (.t 1 false :: .t 1 false :: z)
 have H2 {y:Prop} (z:y):=H1 (A e1 (A e2 z))
 rcases cC ((x / 19 % 4) % 4) 0 with s0 | s0
 ·obtain ⟨t1,i2,c2,g2,m1,h1⟩:=sb (2+4 * (x / 456 % 64)) (i+1) (c+1) i1 (k+2) (by omega) st
  exact ⟨.size (Pl b c) t1,i2,c2,g2,⟨m1.1,by have a1:=m1.2;show 1+t1.nest≤_;omega⟩,ac false (L2 [.t 2 true,.r (.ok t1.toD (au ns i2 b c2 :: st))]) (H2 (A s0 (A h1 Z))) nofun⟩
 rcases cC ((x / 19 % 4) % 4) 1 with s1 | s1
 ·exact ⟨.truth (Pl b c) (x / 456 % 2 == 0),i+1,c+1,i1,⟨trivial,by show 1≤_;omega⟩,ac false (L2 [.t 2 false,.t 2 true]) (H2 (A s0 (A s1 Z))) nofun⟩
 let L3:List An→List An:=fun z=>L2 (.t 2 false :: .t 2 false :: z)
 have H3 {y:Prop} (z:y):=H2 (A s0 (A s1 z))
 rcases cC ((x / 19 % 4) % 4) 3 with s3 | s3
 ·obtain ⟨t1,i2,c2,g2,m1,h1⟩:=sb ((x / 19 % 4) / 4) (i+1) (c+1) i1 (k+2) (by omega) st
  obtain ⟨t2,i3,c3,g3,m2,h2⟩:=sb ((x / 19 % 4) / 4) i2 c2 g2 (k+2) (by omega) st
  exact ⟨.pair (Pl b c) t1 t2,i3,c3,g3,⟨⟨m1.1,m2.1⟩,by have a1:=m1.2;have a2:=m2.2;show 1+max t1.nest t2.nest≤_;omega⟩,ac false (L3 [.t 2 true,.r (.ok t1.toD (au ns i2 b c2 :: st)),.r (.ok t2.toD (au ns i3 b c3 :: st))]) (H3 (A s3 (A h1 (A h2 Z)))) nofun⟩
 obtain ⟨ds,l4,hr⟩:=AL (x / 456)
 obtain ⟨kd,hkd⟩:=kind (x / 456 / 5) (k+1)
 obtain ⟨ts,i2,c2,e',g2,lt,mt,hlp⟩:=jQ ns b (r - 1) R sb (x / 19 % 4) (k+2) (by omega) st (some (.int (x / 456))) (some (.int (x / 76 % 6))) (some (.int (Pl b c))) none none ds [] (i+1) (c+1) none i1 (by simp only [List.length_nil];omega)
 obtain ⟨ot,nt⟩:=g7 mt
 exact ⟨.row (Pl b c) kd ts,i2,c2,g2,⟨⟨by rw [lt];exact l4,ot⟩,by show 1+cS ts≤_;omega⟩,ac true (L3 [.t 2 false,.o 1 (.lst ds),.e (.lst ([] ++ toDs ts)) ⟨[e',some (.ref 0),some (.int (x / 19 % 4)),some (.int R),some (.int (x / 456)),some (.int (x / 76 % 6)),some (.int (Pl b c)),none,none],[],au ns i2 b c2 :: st⟩,.r (.ok kd (au ns i2 b c2 :: st))]) (H3 (A s3 (A hr (A hlp (A (hkd (au ns i2 b c2 :: st)) Z))))) nofun⟩
theorem made (ns:List Int) (b:Int):∀ (r:Nat) (R:Int),R=r→1≤r→oN ns b r R
 | 0,R,hR,h1=>by omega
 | r+1,R,hR,h1=>by
   intro w i c hi n hn st
   obtain ⟨k,rfl⟩:∃ k,n=k+3:=⟨n - 3,by omega⟩
   obtain ⟨x,⟨x0,x1⟩,hx⟩:=next ns i b c hi (k+1) st
   have sub:¬ R<2→1≤r+1 - 1∧oN ns b (r+1 - 1) (R - 1):=fun h=>⟨by omega,made ns b r (R - 1) (by omega) (by omega)⟩
   rcases cC (x % 19) 7 with e | e
   ·exact xK ns b (r+1) R h1 sub w i c hi k (by omega) st x x0 x1 hx e
   ·exact xJ ns b (r+1) R h1 sub w i c hi k (by omega) st x x0 x1 hx e
theorem oH (t o:T61) (ht:t.ok) (nt:t.nest≤8) (ho:o.ok) (no:o.nest≤8) (c d:Int) (S0:List O):ao Γ 24 ce [t.toD,.int c] S0 = .ok (.bl true) (ws S0 (.int c))∧ao Γ 24 ce [o.toD,.int d] (ws S0 (.int c)) = .ok (.bl true) (ws (ws S0 (.int c)) (.int d))∧ao Γ 24 ce [t.toD,.int c] (ws (ws S0 (.int c)) (.int d)) = .ok (.bl true) (ws (ws (ws S0 (.int c)) (.int d)) (.int c)):=
 ⟨xm 8 t ht nt c S0 24 (by decide) (by decide),xm 8 o ho no d _ 24 (by decide) (by decide),xm 8 t ht nt c _ 24 (by decide) (by decide)⟩
theorem xE (ns:List Int):∃ st':List O,ao Γ 25 z7 [.lst (ns.map .int)] [] = .ok (.bl true) st':=by
 obtain ⟨c,⟨c0,c1⟩,hc⟩:=tV ns 0 23 []
 let o:T61:=.pair 7 (.whole 9999 c) (.truth 0 (c % 2 == 0))
 have oo:o.ok:=⟨(show c.natAbs<10 ^ 13 by omega),trivial⟩
 have no:o.nest≤8:=by show 1+max 1 1≤8;decide
 have m7:=made ns (c % 9973) 7 7 rfl (by decide)
 have m6:=made ns (c % 9973) 6 6 rfl (by decide)
 have p1:=fU ns 0 (c % 9973) 0 23 []
 have p2:=fU ns 0 (c % 9973) (0+1) 23 []
 rcases cC (c / 3 % 2) 1 with e1 | e1
 ·rcases cC (c / 1536 % 3) 0 with e2 | e2
  ·obtain ⟨t1,i2,c2,_,mt,hm⟩:=m6 (2+4 * ((170+Builtin.bitAnd (c / 6 % 256) 85) % 64)) 0 (0+1+1) (by decide) 24 (by decide) []
   let t:T61:=.att (Pl (c % 9973) (0+1)) t1 (.whole (Pl (c % 9973) 0) (c / 4608 % 6 - 1))
   have tk:t.ok:=⟨mt.1,(show (c / 4608 % 6 - 1).natAbs<10 ^ 13 by omega)⟩
   have tn:t.nest≤8:=by have:=mt.2;show 1+max t1.nest 1≤8;omega
   obtain ⟨g1,g2,g3⟩:=oH t o tk tn oo no (c % 13) (12 - c % 13) [au ns i2 (c % 9973) c2]
   exact ⟨(ws (ws (ws [au ns i2 (c % 9973) c2] (.int (c % 13))) (.int (12 - c % 13))) (.int (c % 13))),ac false [.r (.ok (.int c) []),.t 6 true,.t 5 true,.r (.ok (.int (Pl (c % 9973) 0)) [au ns 0 (c % 9973) (0+1)]),.r (.ok (.int (Pl (c % 9973) (0+1))) [au ns 0 (c % 9973) (0+1+1)]),.r (.ok t1.toD [au ns i2 (c % 9973) c2]),.r (.ok (.bl true) (ws [au ns i2 (c % 9973) c2] (.int (c % 13)))),.r (.ok (.bl true) (ws (ws [au ns i2 (c % 9973) c2] (.int (c % 13))) (.int (12 - c % 13)))),.r (.ok (.bl true) (ws (ws (ws [au ns i2 (c % 9973) c2] (.int (c % 13))) (.int (12 - c % 13))) (.int (c % 13))))] (A (hc) (A (e1) (A (e2) (A (p1) (A (p2) (A (hm) (A (g1) (A (g2) (A (g3) Z))))))))) nofun⟩
  ·obtain ⟨t,i2,c2,_,mt,hm⟩:=m7 (170+Builtin.bitAnd (c / 6 % 256) 85) 0 0 (by decide) 24 (by decide) []
   have tk:t.ok:=mt.1
   have tn:t.nest≤8:=mt.2
   obtain ⟨g1,g2,g3⟩:=oH t o tk tn oo no (c % 13) (12 - c % 13) [au ns i2 (c % 9973) c2]
   exact ⟨(ws (ws (ws [au ns i2 (c % 9973) c2] (.int (c % 13))) (.int (12 - c % 13))) (.int (c % 13))),ac false [.r (.ok (.int c) []),.t 6 true,.t 5 false,.r (.ok t.toD [au ns i2 (c % 9973) c2]),.r (.ok (.bl true) (ws [au ns i2 (c % 9973) c2] (.int (c % 13)))),.r (.ok (.bl true) (ws (ws [au ns i2 (c % 9973) c2] (.int (c % 13))) (.int (12 - c % 13)))),.r (.ok (.bl true) (ws (ws (ws [au ns i2 (c % 9973) c2] (.int (c % 13))) (.int (12 - c % 13))) (.int (c % 13))))] (A (hc) (A (e1) (A (e2) (A (hm) (A (g1) (A (g2) (A (g3) Z))))))) nofun⟩
 ·rcases cC (c / 1536 % 3) 0 with e2 | e2
  ·obtain ⟨t1,i2,c2,_,mt,hm⟩:=m6 (2+4 * ((c / 6 % 256) % 64)) 0 (0+1+1) (by decide) 24 (by decide) []
   let t:T61:=.att (Pl (c % 9973) (0+1)) t1 (.whole (Pl (c % 9973) 0) (c / 4608 % 6 - 1))
   have tk:t.ok:=⟨mt.1,(show (c / 4608 % 6 - 1).natAbs<10 ^ 13 by omega)⟩
   have tn:t.nest≤8:=by have:=mt.2;show 1+max t1.nest 1≤8;omega
   obtain ⟨g1,g2,g3⟩:=oH t o tk tn oo no (c % 13) (12 - c % 13) [au ns i2 (c % 9973) c2]
   exact ⟨(ws (ws (ws [au ns i2 (c % 9973) c2] (.int (c % 13))) (.int (12 - c % 13))) (.int (c % 13))),ac false [.r (.ok (.int c) []),.t 6 false,.t 3 true,.r (.ok (.int (Pl (c % 9973) 0)) [au ns 0 (c % 9973) (0+1)]),.r (.ok (.int (Pl (c % 9973) (0+1))) [au ns 0 (c % 9973) (0+1+1)]),.r (.ok t1.toD [au ns i2 (c % 9973) c2]),.r (.ok (.bl true) (ws [au ns i2 (c % 9973) c2] (.int (c % 13)))),.r (.ok (.bl true) (ws (ws [au ns i2 (c % 9973) c2] (.int (c % 13))) (.int (12 - c % 13)))),.r (.ok (.bl true) (ws (ws (ws [au ns i2 (c % 9973) c2] (.int (c % 13))) (.int (12 - c % 13))) (.int (c % 13))))] (A (hc) (A (e1) (A (e2) (A (p1) (A (p2) (A (hm) (A (g1) (A (g2) (A (g3) Z))))))))) nofun⟩
  ·obtain ⟨t,i2,c2,_,mt,hm⟩:=m7 (c / 6 % 256) 0 0 (by decide) 24 (by decide) []
   have tk:t.ok:=mt.1
   have tn:t.nest≤8:=mt.2
   obtain ⟨g1,g2,g3⟩:=oH t o tk tn oo no (c % 13) (12 - c % 13) [au ns i2 (c % 9973) c2]
   exact ⟨(ws (ws (ws [au ns i2 (c % 9973) c2] (.int (c % 13))) (.int (12 - c % 13))) (.int (c % 13))),ac false [.r (.ok (.int c) []),.t 6 false,.t 3 false,.r (.ok t.toD [au ns i2 (c % 9973) c2]),.r (.ok (.bl true) (ws [au ns i2 (c % 9973) c2] (.int (c % 13)))),.r (.ok (.bl true) (ws (ws [au ns i2 (c % 9973) c2] (.int (c % 13))) (.int (12 - c % 13)))),.r (.ok (.bl true) (ws (ws (ws [au ns i2 (c % 9973) c2] (.int (c % 13))) (.int (12 - c % 13))) (.int (c % 13))))] (A (hc) (A (e1) (A (e2) (A (hm) (A (g1) (A (g2) (A (g3) Z))))))) nofun⟩
section
variable {K:Fg} {f:Addr} {fd:FuncData}
theorem f0:Fun K "form" "form" (top 5) f fd→FnF T K Γ 0 f:=fF qI 1 nofun (by decide +kernel) rfl fun _ _ _ _ _ _=>zb1 fun _=>by kernel_rfl
theorem f1:Fun K "indexes" "indexes" (top 6) f fd→FnF T K Γ 1 f:=fF iZ 2 nofun (by decide +kernel) rfl fun _ _ _ _ _ _=>zb2 fun _ _=>by kernel_rfl
theorem f2:Fun K "parts" "parts" (top 7) f fd→FnF T K Γ 2 f:=fF nz 1 nofun (by decide +kernel) rfl fun _ _ _ _ _ _=>zb1 fun _=>by kernel_rfl
theorem f3:Fun K "need_names" "need_names" (top 8) f fd→FnF T K Γ 3 f:=fF eI 1 nofun (by decide +kernel) rfl fun _ _ _ _ _ _=>zb1 fun _=>by kernel_rfl
theorem f4:Fun K "need_bound" "need_bound" (top 9) f fd→FnF T K Γ 4 f:=fF cE 2 nofun (by decide +kernel) rfl fun _ _ _ _ _ _=>zb2 fun _ _=>by kernel_rfl
theorem f5:Fun K "names_bound" "names_bound" (top 10) f fd→FnF T K Γ 5 f:=fF dJ 2 nofun (by decide +kernel) rfl fun _ _ _ _ _ _=>zb2 fun _ _=>by kernel_rfl
theorem f6:Fun K "plain" "plain" (top 55) f fd→FnF T K Γ 6 f:=fF nA 3 nofun (by decide +kernel) rfl fun _ _ _ _ _ _=>zb3 fun _ _ _=>by kernel_rfl
theorem f7:Fun K "walked" "walked" (top 52) f fd→FnF T K Γ 7 f:=fF kE 5 nofun (by decide +kernel) rfl fun _ _ _ _ _ _=>zb5 fun _ _ _ _ _=>by kernel_rfl
theorem f8:Fun K "leaf_value" "leaf_value" (top 42) f fd→FnF T K Γ 8 f:=fF eG 3 nofun (by decide +kernel) rfl fun _ _ _ _ _ _=>zb3 fun _ _ _=>by kernel_rfl
theorem f9:Fun K "need_head" "need_head" (top 43) f fd→FnF T K Γ 9 f:=fF fO 3 nofun (by decide +kernel) rfl fun _ _ _ _ _ _=>zb3 fun _ _ _=>by kernel_rfl
theorem f10:Fun K "deed" "deed" (top 44) f fd→FnF T K Γ 10 f:=fF qH 3 nofun (by decide +kernel) rfl fun _ _ _ _ _ _=>zb3 fun _ _ _=>by kernel_rfl
theorem f11:Fun K "thing_at" "thing_at" (top 47) f fd→FnF T K Γ 11 f:=fF gN 4 nofun (by decide +kernel) rfl fun _ _ _ _ _ _=>zb4 fun _ _ _ _=>by kernel_rfl
theorem f12:Fun K "thing_of" "thing_of" (top 34) f fd→FnF T K Γ 12 f:=fF gO 3 nofun (by decide +kernel) rfl fun _ _ _ _ _ _=>zb3 fun _ _ _=>by kernel_rfl
theorem f13:Fun K "alone" "alone" (top 28) f fd→FnF T K Γ 13 f:=fF ny 2 nofun (by decide +kernel) rfl fun _ _ _ _ _ _=>zb2 fun _ _=>by kernel_rfl
theorem f14:Fun K "looks_beside" "looks_beside" (top 31) f fd→FnF T K Γ 14 f:=fF c9 2 nofun (by decide +kernel) rfl fun _ _ _ _ _ _=>zb2 fun _ _=>by kernel_rfl
theorem f15:Fun K "text_of" "text_of" (top 35) f fd→FnF T K Γ 15 f:=fF i0 2 nofun (by decide +kernel) rfl fun _ _ _ _ _ _=>zb2 fun _ _=>by kernel_rfl
theorem f16:Fun K "shown" "shown" (top 36) f fd→FnF T K Γ 16 f:=fF nB 3 nofun (by decide +kernel) rfl fun _ _ _ _ _ _=>zb3 fun _ _ _=>by kernel_rfl
theorem f17:Fun K "thing_shown" "thing_shown" (top 37) f fd→FnF T K Γ 17 f:=fF dL 4 nofun (by decide +kernel) rfl fun _ _ _ _ _ _=>zb4 fun _ _ _ _=>by kernel_rfl
theorem f18:Fun K "_law_next" "_law_next" (top 57) f fd→FnF T K Γ 18 f:=fF fL 1 nofun (by decide +kernel) rfl fun _ _ _ _ _ _=>zb1 fun _=>by kernel_rfl
theorem f19:Fun K "_law_place" "_law_place" (top 58) f fd→FnF T K Γ 19 f:=fF eF 1 nofun (by decide +kernel) rfl fun _ _ _ _ _ _=>zb1 fun _=>by kernel_rfl
theorem f20:Fun K "_law_cell_at" "_law_cell_at" (top 59) f fd→FnF T K Γ 20 f:=fF c8 2 nofun (by decide +kernel) rfl fun _ _ _ _ _ _=>zb2 fun _ _=>by kernel_rfl
theorem f21:Fun K "_law_kind" "_law_kind" (top 60) f fd→FnF T K Γ 21 f:=fF fH 1 nofun (by decide +kernel) rfl fun _ _ _ _ _ _=>zb1 fun _=>by kernel_rfl
theorem f22:Fun K "_law_leaf" "_law_leaf" (top 61) f fd→FnF T K Γ 22 f:=fF fJ 3 nofun (by decide +kernel) rfl fun _ _ _ _ _ _=>zb3 fun _ _ _=>by kernel_rfl
theorem f23:Fun K "_law_spot" "_law_spot" (top 62) f fd→FnF T K Γ 23 f:=fF fM 3 nofun (by decide +kernel) rfl fun _ _ _ _ _ _=>zb3 fun _ _ _=>by kernel_rfl
theorem f24:Fun K "_law_made" "_law_made" (top 63) f fd→FnF T K Γ 24 f:=fF fK 3 nofun (by decide +kernel) rfl fun _ _ _ _ _ _=>zb3 fun _ _ _=>by kernel_rfl
theorem f25:Fun K "_law_head" "_law_head" (top 64) f fd→FnF T K Γ 25 f:=fF fG 1 nofun (by decide +kernel) rfl fun _ _ _ _ _ _=>zb1 fun _=>by kernel_rfl
theorem f26:Fun K "_law_due" "_law_due" (top 65) f fd→FnF T K Γ 26 f:=fF dU 1 nofun (by decide +kernel) rfl fun _ _ _ _ _ _=>zb1 fun _=>by kernel_rfl
theorem f27:Fun K "_law_text" "_law_text" (top 66) f fd→FnF T K Γ 27 f:=fF fN 2 nofun (by decide +kernel) rfl fun _ _ _ _ _ _=>zb2 fun _ _=>by kernel_rfl
theorem f28:Fun K "_law_alike" "_law_alike" (top 67) f fd→FnF T K Γ 28 f:=fF eE 2 nofun (by decide +kernel) rfl fun _ _ _ _ _ _=>zb2 fun _ _=>by kernel_rfl
theorem f29:Fun K "_law_good" "_law_good" (top 68) f fd→FnF T K Γ 29 f:=fF fE 2 nofun (by decide +kernel) rfl fun _ _ _ _ _ _=>zb2 fun _ _=>by kernel_rfl
theorem f30:Fun K "law" "law" (top 69) f fd→FnF T K Γ 30 f:=fF qJ 1 nofun (by decide +kernel) rfl fun _ _ _ _ _ _=>zb1 fun _=>by kernel_rfl
theorem f31:Fun K "__init__" "Giver.__init__" (bb (top 27) 0) f fd→FnF T K Γ 31 f:=fF cr 3 nofun (by decide +kernel) rfl fun _ _ _ _ _ _=>zb3 fun _ _ _=>by kernel_rfl
theorem f32:Fun K "give_all" "Giver.give_all" (bb (top 27) 2) f fd→FnF T K Γ 32 f:=fF cu 3 nofun (by decide +kernel) rfl fun _ _ _ _ _ _=>zb3 fun _ _ _=>by kernel_rfl
theorem f33:Fun K "__init__" "Walker.__init__" (bb (top 53) 0) f fd→FnF T K Γ 33 f:=fF b9 5 nofun (by decide +kernel) rfl fun _ _ _ _ _ _=>zb5 fun _ _ _ _ _=>by kernel_rfl
theorem f34:Fun K "come_to" "Walker.come_to" (bb (top 53) 1) f fd→FnF T K Γ 34 f:=fF cv 3 nofun (by decide +kernel) rfl fun _ _ _ _ _ _=>zb3 fun _ _ _=>by kernel_rfl
theorem f35:Fun K "value_of" "Walker.value_of" (bb (top 53) 2) f fd→FnF T K Γ 35 f:=fF bv 3 nofun (by decide +kernel) rfl fun _ _ _ _ _ _=>zb3 fun _ _ _=>by kernel_rfl
end
theorem c30:gJ T (top 69)=some qJ:=by kernel_rfl
theorem s30:bt (kW (top 69)) (bP (top 69)) (am (top 69)):=⟨by kernel_rfl,by kernel_rfl,by kernel_rfl,by decide +kernel,by kernel_rfl,by decide +kernel,by decide +kernel⟩
theorem sQ:bt ["self","outcome"] ["self","outcome"] (am (bb (top 25) 0)):=⟨rfl,rfl,rfl,by decide +kernel,rfl,by decide +kernel,by decide +kernel⟩
theorem rR {P:Program} {w:World} {K:Fg} {mg:Str→Option Value} {base:Heap} {f C:Addr} {fd:FuncData} {n:Nat} (F:Fun K "__init__" "Ended.__init__" (bb (top 25) 0) f fd) (S:mZ K C) (n0:aJ K C "outcome"):aR P w K mg base CX0 (n+1) f fd ["self","outcome"] (AO C ["outcome"] []):=by
 refine F.ok sQ (fun vs H Q E h=>?_) (fun cdv A outer s H vs Q E hr h=>?_)
 ·obtain ⟨p,args,rfl,hl,_⟩:=h
  rw [List.length_cons,hl];rfl
 obtain ⟨p,args,rfl,hl,_,hp,k⟩:=h
 obtain ⟨v0,rfl⟩:∃ v0,args = [v0]:=by
  match args,hl with
  | [v0],_=>exact ⟨v0,rfl⟩
 refine ⟨_,(j0 (vg rfl (pv 0) (pv 1) rfl)),?_⟩
 exact ⟨_,rfl,_,rfl,true,p,C,rfl,S,n0,.inl ⟨hp,fun d hd ne=>k d hd ne⟩⟩
theorem sR:bt ["self","head","held","guards","tag"] ["self","head","held","guards","tag"] (am (bb (top 26) 0)):=⟨rfl,rfl,rfl,by decide +kernel,rfl,by decide +kernel,by decide +kernel⟩
theorem rS {P:Program} {w:World} {K:Fg} {mg:Str→Option Value} {base:Heap} {f C:Addr} {fd:FuncData} {n:Nat} (F:Fun K "__init__" "Value.__init__" (bb (top 26) 0) f fd) (c:Cls K C) (n0:aJ K C "head") (n1:aJ K C "held") (n2:aJ K C "guards") (n3:aJ K C "tag"):aR P w K mg base (CXF P w) (n+1) f fd ["self","head","held","guards","tag"] (vF C ["head","held","guards","tag"]):=by
 refine nF F sR (fun vs H Q E h=>?_) (fun cdv A outer s H vs Q E hr h=>?_)
 ·obtain ⟨p,dx,args,rfl,hl,_⟩:=h
  rw [List.length_cons,hl];rfl
 obtain ⟨p,dx,args,rfl,hl,hp,k⟩:=h
 obtain ⟨v0,v1,v2,v3,rfl⟩:∃ v0 v1 v2 v3,args = [v0,v1,v2,v3]:=by
  match args,hl with
  | [v0,v1,v2,v3],_=>exact ⟨v0,v1,v2,v3,rfl⟩
 refine ⟨_,(eP (dZ (pv 0) (pv 1) rfl) (eP (dZ (pv 0) (pv 2) rfl) (eP (dZ (pv 0) (pv 3) rfl) (j0 (dZ (pv 0) (pv 4) rfl))))),?_⟩
 refine ⟨_,rfl,_,rfl,p,C,dx,_,rfl,hp,c,n0,by show 0<1000;decide,?_⟩
 refine ⟨_,rfl,_,rfl,p,C,dx,_,rfl,ae,c,n1,by show 1<1000;decide,?_⟩
 rw [eU]
 refine ⟨_,rfl,_,rfl,p,C,dx,_,rfl,ae,c,n2,by show 2<1000;decide,?_⟩
 rw [eU]
 refine ⟨_,rfl,_,rfl,p,C,dx,_,rfl,ae,c,n3,by show 3<1000;decide,?_⟩
 rw [eU]
 exact k
noncomputable def kh (K:Fg):Prop:=∃ ua,PySem.W.nsIn K mainGlobals "LEAVES" = some (some (.ref ua))∧Kt K ua [.str "whole",.str "truth",.str "given",.str "name",.str "fn",.str "self"]
theorem g_LEAVES {K:Fg} {ua:Addr} {od:Option Addr} {n:Nat} {t0 t1 t2 t3 t4 t5:Tok} {sl:Array (Option Value)} (a:PySem.W.nsIn K mainGlobals "LEAVES" = some (some (.ref ua))) (l:K.lookup ua=some ⟨.type "tuple",od,.seq #[.str "whole" t0,.str "truth" t1,.str "given" t2,.str "name" t3,.str "fn" t4,.str "self" t5] n,sl⟩):kh K:=
 ⟨ua,a,_,_,n,l,rfl,rfl,by show 6≤sizeLine;decide,.cons ⟨t0,rfl⟩ (.cons ⟨t1,rfl⟩ (.cons ⟨t2,rfl⟩ (.cons ⟨t3,rfl⟩ (.cons ⟨t4,rfl⟩ (.cons ⟨t5,rfl⟩ (.nil))))))⟩
noncomputable def d9 (K:Fg):Prop:=∃ tk,PySem.W.nsIn K mainGlobals "MOST_LEVEL" = some (some (.int 3 tk))
theorem g_MOST_LEVEL {K:Fg} {tk:Tok} (a:PySem.W.nsIn K mainGlobals "MOST_LEVEL" = some (some (.int 3 tk))):d9 K:=⟨tk,a⟩
noncomputable def mY (K:Fg):Prop:=∃ fa,PySem.W.nsIn K mainGlobals "FORMS" = some (some (.ref fa))∧KTD.tabLook (aW K) (fun b=>K.lookup b) fa ke=true
theorem b_FORMS {K:Fg} {fa:Addr} (a:PySem.W.nsIn K mainGlobals "FORMS" = some (some (.ref fa))) (h:KTD.tabLook (aW K) (fun b=>K.lookup b) fa ke=true):mY K:=⟨fa,a,h⟩
noncomputable def cW (K:Fg):Prop:=∃ fa,PySem.W.nsIn K mainGlobals "NEEDED_HEADS" = some (some (.ref fa))∧KTD.tabLook (aW K) (fun b=>K.lookup b) fa b6=true
theorem b_NEEDED_HEADS {K:Fg} {fa:Addr} (a:PySem.W.nsIn K mainGlobals "NEEDED_HEADS" = some (some (.ref fa))) (h:KTD.tabLook (aW K) (fun b=>K.lookup b) fa b6=true):cW K:=⟨fa,a,h⟩
noncomputable def tN (K:Fg):Prop:=∃ C fI:Addr,zo K "Ended" "Ended.__init__" (bb (top 25) 0) exB "Exception.__new__" C fI∧PySem.W.findIn K (.ref C) "outcome" = some none
noncomputable def tP (K:Fg):Prop:=∃ C f0:Addr,tJ K "Value" C∧(PySem.W.findIn K (.ref C) "head" = some none∧PySem.W.findIn K (.ref C) "held" = some none∧PySem.W.findIn K (.ref C) "guards" = some none∧PySem.W.findIn K (.ref C) "tag" = some none)∧lP K C "__init__" "Value.__init__" (bb (top 26) 0) f0
noncomputable def tO (K:Fg):Prop:=∃ C f0 f1:Addr,tJ K "Giver" C∧(PySem.W.findIn K (.ref C) "left" = some none∧PySem.W.findIn K (.ref C) "together" = some none∧PySem.W.findIn K (.ref C) "notes" = some none)∧lP K C "__init__" "Giver.__init__" (bb (top 27) 0) f0∧lP K C "give_all" "Giver.give_all" (bb (top 27) 2) f1
noncomputable def pZ (K:Fg):Prop:=∃ C f0 f1 f2:Addr,tJ K "Walker" C∧(PySem.W.findIn K (.ref C) "looks" = some none∧PySem.W.findIn K (.ref C) "numbers" = some none∧PySem.W.findIn K (.ref C) "giver" = some none)∧lP K C "__init__" "Walker.__init__" (bb (top 53) 0) f0∧lP K C "come_to" "Walker.come_to" (bb (top 53) 1) f1∧lP K C "value_of" "Walker.value_of" (bb (top 53) 2) f2
structure Txt (K:Fg):Prop where
 d_form:a9 K "form" (top 5)
 d_indexes:a9 K "indexes" (top 6)
 d_parts:a9 K "parts" (top 7)
 d_need_names:a9 K "need_names" (top 8)
 d_need_bound:a9 K "need_bound" (top 9)
 d_names_bound:a9 K "names_bound" (top 10)
 d_plain:a9 K "plain" (top 55)
 d_walked:a9 K "walked" (top 52)
 d_leaf_value:a9 K "leaf_value" (top 42)
 d_need_head:a9 K "need_head" (top 43)
 d_deed:a9 K "deed" (top 44)
 d_thing_at:a9 K "thing_at" (top 47)
 d_thing_of:a9 K "thing_of" (top 34)
 d_alone:a9 K "alone" (top 28)
 d_looks_beside:a9 K "looks_beside" (top 31)
 d_text_of:a9 K "text_of" (top 35)
 d_shown:a9 K "shown" (top 36)
 d_thing_shown:a9 K "thing_shown" (top 37)
 d__law_next:a9 K "_law_next" (top 57)
 d__law_place:a9 K "_law_place" (top 58)
 d__law_cell_at:a9 K "_law_cell_at" (top 59)
 d__law_kind:a9 K "_law_kind" (top 60)
 d__law_leaf:a9 K "_law_leaf" (top 61)
 d__law_spot:a9 K "_law_spot" (top 62)
 d__law_made:a9 K "_law_made" (top 63)
 d__law_head:a9 K "_law_head" (top 64)
 d__law_due:a9 K "_law_due" (top 65)
 d__law_text:a9 K "_law_text" (top 66)
 d__law_alike:a9 K "_law_alike" (top 67)
 d__law_good:a9 K "_law_good" (top 68)
 d_law:a9 K "law" (top 69)
 g_LEAVES:kh K
 g_MOST_LEVEL:d9 K
 b_FORMS:mY K
 b_NEEDED_HEADS:cW K
 x_Ended:tN K
 x_Value:tP K
 x_Giver:tO K
 x_Walker:pZ K
 nl:n9 K=true
 z_len:PySem.W.nsIn K mainGlobals "len" = some none
 z_isinstance:PySem.W.nsIn K mainGlobals "isinstance" = some none
 z_list:PySem.W.nsIn K mainGlobals "list" = some none
 z_tuple:PySem.W.nsIn K mainGlobals "tuple" = some none
 z_int:PySem.W.nsIn K mainGlobals "int" = some none
 z_bool:PySem.W.nsIn K mainGlobals "bool" = some none
 z_str:PySem.W.nsIn K mainGlobals "str" = some none
 z_range:PySem.W.nsIn K mainGlobals "range" = some none
 z_zip:PySem.W.nsIn K mainGlobals "zip" = some none
 z_enumerate:PySem.W.nsIn K mainGlobals "enumerate" = some none
theorem all_mk {l:PySem.W.OpenLaw} {w:World} {K:Fg} {h:Heap} {mg:Str→Option Value} {fa:Addr} (Y:K.In h) (G:h.Ns mainGlobals mg) (hfa:mg "law" = some (.ref fa)) (T':Txt K) :
 ∃ fd:FuncData,(∀ (s:Shared) (v:Value),BindsTo s fd ⟨[v],[]⟩ [("_law_script",v)])∧∀ base:Heap,K.In base→base.Ns mainGlobals mg→aR l.prog w K mg base CX0 27 fa fd ["_law_script"] (oB K):=by
 obtain ⟨a_form,fd_form,F_form,n_form⟩:=T'.d_form
 obtain ⟨Di,fd_indexes,Dg,Dl⟩:=T'.d_indexes
 obtain ⟨a_parts,fd_parts,F_parts,n_parts⟩:=T'.d_parts
 obtain ⟨Ct,DE,Co,Cz⟩:=T'.d_need_names
 obtain ⟨Cs,DD,Cn,Cy⟩:=T'.d_need_bound
 obtain ⟨Cf,Dt,Cd,Ch⟩:=T'.d_names_bound
 obtain ⟨a_plain,Du,F_plain,n_plain⟩:=T'.d_plain
 obtain ⟨Dq,fd_walked,Dp,Dx⟩:=T'.d_walked
 obtain ⟨Cr,DC,Cm,Cw⟩:=T'.d_leaf_value
 obtain ⟨CV,DN,CL,C5⟩:=T'.d_need_head
 obtain ⟨a_deed,fd_deed,F_deed,n_deed⟩:=T'.d_deed
 obtain ⟨Da,fd_thing_at,C7,De⟩:=T'.d_thing_at
 obtain ⟨Db,fd_thing_of,C8,Df⟩:=T'.d_thing_of
 obtain ⟨a_alone,fd_alone,F_alone,n_alone⟩:=T'.d_alone
 obtain ⟨B9,Do,B7,Cc⟩:=T'.d_looks_beside
 obtain ⟨Dj,fd_text_of,Dh,Dm⟩:=T'.d_text_of
 obtain ⟨a_shown,fd_shown,F_shown,n_shown⟩:=T'.d_shown
 obtain ⟨Cg,Dv,Ce,Ci⟩:=T'.d_thing_shown
 obtain ⟨CS,DK,CH,C2⟩:=T'.d__law_next
 obtain ⟨Cq,DB,Ck,Cv⟩:=T'.d__law_place
 obtain ⟨B8,Dn,B6,Cb⟩:=T'.d__law_cell_at
 obtain ⟨CO,DH,CD,CZ⟩:=T'.d__law_kind
 obtain ⟨CP,DI,CF,C0⟩:=T'.d__law_leaf
 obtain ⟨CT,DL,CJ,C3⟩:=T'.d__law_spot
 obtain ⟨CQ,DJ,CG,C1⟩:=T'.d__law_made
 obtain ⟨CN,DG,CC,CY⟩:=T'.d__law_head
 obtain ⟨C9,fd__law_due,C6,Dc⟩:=T'.d__law_due
 obtain ⟨CU,DM,CK,C4⟩:=T'.d__law_text
 obtain ⟨Cp,DA,Cj,Cu⟩:=T'.d__law_alike
 obtain ⟨CM,DF,CB,CW⟩:=T'.d__law_good
 obtain ⟨a_law,fd_law,F_law,n_law⟩:=T'.d_law
 have e:=hfa.symm.trans (PySem.W.mg_of Y G n_law)
 cases e
 obtain ⟨Dy,nu_LEAVES,Dw⟩:=T'.g_LEAVES
 obtain ⟨CA,nu_MOST_LEVEL⟩:=T'.g_MOST_LEVEL
 obtain ⟨u_FORMS,nu_FORMS,k_FORMS⟩:=T'.b_FORMS
 obtain ⟨Dz,nu_NEEDED_HEADS,Ca⟩:=T'.b_NEEDED_HEADS
 obtain ⟨C_Ended,fi_Ended,B2,na_Ended⟩:=T'.x_Ended
 obtain ⟨Dr,Fi_Ended⟩:=B2.ini
 obtain ⟨C_Value,a_Value___init__,B5,na_Value,⟨⟨fd_Value___init__,F_Value___init__⟩,M_Value___init__⟩⟩:=T'.x_Value
 obtain ⟨C_Giver,a_Giver___init__,a_Giver_give_all,B4,na_Giver,⟨⟨fd_Giver___init__,F_Giver___init__⟩,M_Giver___init__⟩,⟨⟨fd_Giver_give_all,F_Giver_give_all⟩,M_Giver_give_all⟩⟩:=T'.x_Giver
 obtain ⟨C_Walker,a_Walker___init__,a_Walker_come_to,a_Walker_value_of,B3,na_Walker,⟨⟨fd_Walker___init__,F_Walker___init__⟩,M_Walker___init__⟩,⟨⟨fd_Walker_come_to,F_Walker_come_to⟩,M_Walker_come_to⟩,⟨⟨fd_Walker_value_of,F_Walker_value_of⟩,M_Walker_value_of⟩⟩:=T'.x_Walker
 let W:Wd:=⟨K,[⟨C_Ended,["outcome"]⟩,⟨C_Value,["head","held","guards","tag"]⟩,⟨C_Giver,["left","together","notes"]⟩,⟨C_Walker,["looks","numbers","giver"]⟩],[2,1,0,0]⟩
 let ad:List Addr:=[a_form,Di,a_parts,Ct,Cs,Cf,a_plain,Dq,Cr,CV,a_deed,Da,Db,a_alone,B9,Dj,a_shown,Cg,CS,Cq,B8,CO,CP,CT,CQ,CN,C9,CU,Cp,CM,fa,a_Giver___init__,a_Giver_give_all,a_Walker___init__,a_Walker_come_to,a_Walker_value_of]
 have aF:wI T K Γ 0 ad:=⟨f0 F_form,f1 Dg,f2 F_parts,f3 Co,f4 Cn,f5 Cd,f6 F_plain,f7 Dp,f8 Cm,f9 CL,f10 F_deed,f11 C7,f12 C8,f13 F_alone,f14 B7,f15 Dh,f16 F_shown,f17 Ce,f18 CH,f19 Ck,f20 B6,f21 CD,f22 CF,f23 CJ,f24 CG,f25 CC,f26 C6,f27 CK,f28 Cj,f29 CB,f30 F_law,f31 F_Giver___init__,f32 F_Giver_give_all,f33 F_Walker___init__,f34 F_Walker_come_to,f35 F_Walker_value_of,trivial⟩
 have aG:wJ mg T.fn ad:=⟨PySem.W.mg_of Y G n_form,PySem.W.mg_of Y G Dl,PySem.W.mg_of Y G n_parts,PySem.W.mg_of Y G Cz,PySem.W.mg_of Y G Cy,PySem.W.mg_of Y G Ch,PySem.W.mg_of Y G n_plain,PySem.W.mg_of Y G Dx,PySem.W.mg_of Y G Cw,PySem.W.mg_of Y G C5,PySem.W.mg_of Y G n_deed,PySem.W.mg_of Y G De,PySem.W.mg_of Y G Df,PySem.W.mg_of Y G n_alone,PySem.W.mg_of Y G Cc,PySem.W.mg_of Y G Dm,PySem.W.mg_of Y G n_shown,PySem.W.mg_of Y G Ci,PySem.W.mg_of Y G C2,PySem.W.mg_of Y G Cv,PySem.W.mg_of Y G Cb,PySem.W.mg_of Y G CZ,PySem.W.mg_of Y G C0,PySem.W.mg_of Y G C3,PySem.W.mg_of Y G C1,PySem.W.mg_of Y G CY,PySem.W.mg_of Y G Dc,PySem.W.mg_of Y G C4,PySem.W.mg_of Y G Cu,PySem.W.mg_of Y G CW,PySem.W.mg_of Y G n_law,trivial⟩
 have nm_Ended:∀ f∈(["outcome"]:List Str),aJ K C_Ended f:=fun f hf=>by
  simp only [List.mem_cons,List.mem_nil_iff,or_false,List.not_mem_nil] at hf
  subst hf;exact na_Ended
 have nm_Value:∀ f∈(["head","held","guards","tag"]:List Str),aJ K C_Value f:=fun f hf=>by
  simp only [List.mem_cons,List.mem_nil_iff,or_false,List.not_mem_nil] at hf
  rcases hf with rfl | rfl | rfl | rfl
  ·exact na_Value.1
  ·exact na_Value.2.1
  ·exact na_Value.2.2.1
  ·exact na_Value.2.2.2
 have nm_Giver:∀ f∈(["left","together","notes"]:List Str),aJ K C_Giver f:=fun f hf=>by
  simp only [List.mem_cons,List.mem_nil_iff,or_false,List.not_mem_nil] at hf
  rcases hf with rfl | rfl | rfl
  ·exact na_Giver.1
  ·exact na_Giver.2.1
  ·exact na_Giver.2.2
 have nm_Walker:∀ f∈(["looks","numbers","giver"]:List Str),aJ K C_Walker f:=fun f hf=>by
  simp only [List.mem_cons,List.mem_nil_iff,or_false,List.not_mem_nil] at hf
  rcases hf with rfl | rfl | rfl
  ·exact na_Walker.1
  ·exact na_Walker.2.1
  ·exact na_Walker.2.2
 have Pg:wO T W Γ ad K mg:=by
  refine ⟨rfl,fun j f h=>?_,fun j x h=>vW aG h,fun j x h=>?_,fun j x h=>?_,fun x h=>?_,fun q h=>?_,fun j x h hz=>?_,fun j x h hz=>?_,fun j x h hz=>?_,fun F X e1 e2 e3 c k h=>?_⟩
  ·have:=vV aF h
   rwa [Nat.zero_add] at this
  ·exact gB (P:=fun (j:Nat) (x:Str)=>∃ d u v,Γ.gl[j]? = some d∧mg x=some u∧ar v u∧∀ G,RK K G d v) (show iF _ 0 T.gl from ⟨⟨_,_,.ref Dy,rfl,PySem.W.mg_of Y G nu_LEAVES,rfl,fun H=>RK.tup (.inr Dw) (.cons (.s _) (.cons (.s _) (.cons (.s _) (.cons (.s _) (.cons (.s _) (.cons (.s _) (.nil)))))))⟩,⟨_,_,.int 3,rfl,PySem.W.mg_of Y G nu_MOST_LEVEL,⟨CA,rfl⟩,fun H=>.i _⟩,trivial⟩) h
  ·exact gB (P:=fun (j:Nat) (x:Str)=>∃ t a,Γ.tb[j]? = some t∧mg x=some (.ref a)∧KTD.tabLook (aW K) (fun b=>K.lookup b) a t=true) (show iF _ 0 T.tb from ⟨⟨_,_,rfl,PySem.W.mg_of Y G nu_FORMS,k_FORMS⟩,⟨_,_,rfl,PySem.W.mg_of Y G nu_NEEDED_HEADS,Ca⟩,trivial⟩) h
  ·have hb:∀ x∈T.bl,mg x=none:=by
    intro x h
    have h:x∈(["len","isinstance","list","tuple","int","bool","str","range","zip","enumerate"]:List Str):=h
    simp only [List.mem_cons,List.mem_nil_iff,or_false,List.not_mem_nil] at h
    rcases h with rfl | rfl | rfl | rfl | rfl | rfl | rfl | rfl | rfl | rfl
    ·exact PySem.W.mg_none_of Y G T'.z_len
    ·exact PySem.W.mg_none_of Y G T'.z_isinstance
    ·exact PySem.W.mg_none_of Y G T'.z_list
    ·exact PySem.W.mg_none_of Y G T'.z_tuple
    ·exact PySem.W.mg_none_of Y G T'.z_int
    ·exact PySem.W.mg_none_of Y G T'.z_bool
    ·exact PySem.W.mg_none_of Y G T'.z_str
    ·exact PySem.W.mg_none_of Y G T'.z_range
    ·exact PySem.W.mg_none_of Y G T'.z_zip
    ·exact PySem.W.mg_none_of Y G T'.z_enumerate
   exact hb x h
  ·have h:q∈([("give_all",2,32),("come_to",3,34),("value_of",3,35)]:List (Str×Nat×Nat)):=h
   simp only [List.mem_cons,List.mem_nil_iff,or_false,List.not_mem_nil] at h
   rcases h with rfl | rfl | rfl
   ·exact ⟨a_Giver_give_all,⟨C_Giver,["left","together","notes"]⟩,rfl,M_Giver_give_all,rfl,B4.cls,nm_Giver,(show ("give_all":Str) ∉ (["left","together","notes"]:List Str) by decide +kernel)⟩
   ·exact ⟨a_Walker_come_to,⟨C_Walker,["looks","numbers","giver"]⟩,rfl,M_Walker_come_to,rfl,B3.cls,nm_Walker,(show ("come_to":Str) ∉ (["looks","numbers","giver"]:List Str) by decide +kernel)⟩
   ·exact ⟨a_Walker_value_of,⟨C_Walker,["looks","numbers","giver"]⟩,rfl,M_Walker_value_of,rfl,B3.cls,nm_Walker,(show ("value_of":Str) ∉ (["looks","numbers","giver"]:List Str) by decide +kernel)⟩
  ·exact gB (P:=fun (j:Nat) (x:Str)=>x≠("":Str)→∃ f i cl,ad[cl.init]? = some f∧Mk K i.ad f∧Γ.cl[j]? = some cl∧cl.what=0∧W.ci[j]? = some i∧W.what[j]? = some 0∧mg x=some (.ref i.ad)) (show iF _ 0 T.nw from ⟨(fun z=>absurd rfl z),(fun z=>absurd rfl z),(fun _=>⟨a_Giver___init__,⟨C_Giver,["left","together","notes"]⟩,_,rfl,⟨B4.mks,M_Giver___init__.at_,M_Giver___init__.fn,B4.kp⟩,rfl,rfl,rfl,rfl,PySem.W.mg_of Y G B4.a⟩),(fun _=>⟨a_Walker___init__,⟨C_Walker,["looks","numbers","giver"]⟩,_,rfl,⟨B3.mks,M_Walker___init__.at_,M_Walker___init__.fn,B3.kp⟩,rfl,rfl,rfl,rfl,PySem.W.mg_of Y G B3.a⟩),trivial⟩) h hz
  ·exact gB (P:=fun (j:Nat) (x:Str)=>x≠("":Str)→∃ i cl f,Mk K i.ad f∧Γ.cl[j]? = some cl∧cl.what=1∧W.ci[j]? = some i∧W.what[j]? = some 1∧mg x=some (.ref i.ad)∧i.nm.length=cl.at_.length) (show iF _ 0 T.nd from ⟨(fun z=>absurd rfl z),(fun _=>⟨⟨C_Value,["head","held","guards","tag"]⟩,_,a_Value___init__,⟨B5.mks,M_Value___init__.at_,M_Value___init__.fn,B5.kp⟩,rfl,rfl,rfl,rfl,PySem.W.mg_of Y G B5.a,rfl⟩),(fun z=>absurd rfl z),(fun z=>absurd rfl z),trivial⟩) h hz
  ·exact gB (P:=fun (j:Nat) (x:Str)=>x≠("":Str)→∃ i,W.ci[j]? = some i∧mg x=some (.ref i.ad)∧iO K i.ad∧∀ c k ic,Γ.cl[c]? = some k→W.ci[c]? = some ic→(c == j || k.sup.contains j)=true→PySem.W.mroIn K ic.ad (.ref i.ad)=some true) (show iF _ 0 T.hx from ⟨(fun _=>⟨⟨C_Ended,["outcome"]⟩,rfl,PySem.W.mg_of Y G B2.a,B2.ec,fun c k ic h1 h2 h3=>by
    have h1:([⟨2,[0],0,[],[],[]⟩,⟨1,[1,2,3,4],0,[],[],[]⟩,⟨0,[5,6,7],31,[],[],[]⟩,⟨0,[8,9,10],33,[],[],[]⟩]:List Cl)[c]? = some k:=h1
    have h2:([⟨C_Ended,["outcome"]⟩,⟨C_Value,["head","held","guards","tag"]⟩,⟨C_Giver,["left","together","notes"]⟩,⟨C_Walker,["looks","numbers","giver"]⟩]:List CI)[c]? = some ic:=h2
    match c,h1,h2,h3 with
    | 0,h1,h2,h3=>cases h2;exact B2.me
    | 1,h1,h2,h3=>cases h1;exact absurd h3 (by decide +kernel)
    | 2,h1,h2,h3=>cases h1;exact absurd h3 (by decide +kernel)
    | 3,h1,h2,h3=>cases h1;exact absurd h3 (by decide +kernel)
    | n+4,h1,h2,h3=>simp at h1⟩),(fun z=>absurd rfl z),(fun z=>absurd rfl z),(fun z=>absurd rfl z),trivial⟩) h hz
  ·have h:([⟨2,[0],0,[],[],[]⟩,⟨1,[1,2,3,4],0,[],[],[]⟩,⟨0,[5,6,7],31,[],[],[]⟩,⟨0,[8,9,10],33,[],[],[]⟩]:List Cl)[c]? = some k:=h
   match c,h with
   | 0,h=>cases h;exact ⟨⟨C_Ended,["outcome"]⟩,(by rw [e1];rfl),(fun z=>absurd rfl z),(by rw [e3];exact nm_Ended),(by rw [e2];rfl),(by rw [e1];rfl),(show (["outcome"]:List Str)=List.map T.an [0] by decide +kernel),(show (["outcome"]:List Str).Nodup by decide +kernel),fun _=>by rw [e3];exact ⟨B2.fd,B2.hh⟩⟩
   | 1,h=>cases h;exact ⟨⟨C_Value,["head","held","guards","tag"]⟩,(by rw [e1];rfl),(fun _=>by rw [e3];exact B5.cls),(by rw [e3];exact nm_Value),(by rw [e2];rfl),(by rw [e1];rfl),(show (["head","held","guards","tag"]:List Str)=List.map T.an [1,2,3,4] by decide +kernel),(show (["head","held","guards","tag"]:List Str).Nodup by decide +kernel),fun z=>absurd z (by decide)⟩
   | 2,h=>cases h;exact ⟨⟨C_Giver,["left","together","notes"]⟩,(by rw [e1];rfl),(fun _=>by rw [e3];exact B4.cls),(by rw [e3];exact nm_Giver),(by rw [e2];rfl),(by rw [e1];rfl),(show (["left","together","notes"]:List Str)=List.map T.an [5,6,7] by decide +kernel),(show (["left","together","notes"]:List Str).Nodup by decide +kernel),fun z=>absurd z (by decide)⟩
   | 3,h=>cases h;exact ⟨⟨C_Walker,["looks","numbers","giver"]⟩,(by rw [e1];rfl),(fun _=>by rw [e3];exact B3.cls),(by rw [e3];exact nm_Walker),(by rw [e2];rfl),(by rw [e1];rfl),(show (["looks","numbers","giver"]:List Str)=List.map T.an [8,9,10] by decide +kernel),(show (["looks","numbers","giver"]:List Str).Nodup by decide +kernel),fun z=>absurd z (by decide)⟩
   | n+4,h=>simp at h
 refine ⟨fd_law,?_,fun base YB GB=>?_⟩
 ·obtain ⟨oc,od,kV,doc,pm,an,cdv,ct,osl,rfl,lk,hc⟩:=F_law.ex
  exact fun s v=>.of_eq rfl
 have Rs:∀ (j:Nat) (x:Str),T.ex[j]? = some x→x≠""→RaP l.prog w K mg base W Γ j x 1:=fun j x h hz=>by
  ·exact gB (P:=fun (j:Nat) (x:Str)=>x≠("":Str)→RaP l.prog w K mg base W Γ j x 1) (show iF _ 0 T.ex from ⟨(fun _=>⟨⟨_,⟨C_Ended,["outcome"]⟩,fi_Ended,Dr,["self","outcome"],_,_,_,_,PySem.F.excBase_Exception,rfl,rfl,rfl,rfl,B2.own,rR (n:=0) Fi_Ended B2.st na_Ended,Fi_Ended.binds fun _ _ _ _ _ _ us hl=>(match us,hl with | [_,_],_=>rfl),PySem.W.mg_of Y G B2.a,B2.kp,B2.fd.be,B2.ec.ty⟩⟩),(fun z=>absurd rfl z),(fun z=>absurd rfl z),(fun z=>absurd rfl z),trivial⟩) h hz
 have Ds:∀ (j:Nat) (x:Str),T.nd[j]? = some x→x≠""→∀ (i:CI) (f:Addr),W.ci[j]? = some i→Mk K i.ad f→DaP l.prog w K mg base i f 1:=fun j x h hz=>by
  ·exact gB (P:=fun (j:Nat) (x:Str)=>x≠("":Str)→∀ (i:CI) (f:Addr),W.ci[j]? = some i→Mk K i.ad f→DaP l.prog w K mg base i f 1) (show iF _ 0 T.nd from ⟨(fun z=>absurd rfl z),(fun _=>fun i f h1 h2=>by
   cases h1
   have e:=h2.init.symm.trans M_Value___init__.at_
   cases e
   exact ⟨fd_Value___init__,_,rS (n:=0) F_Value___init__ B5.cls na_Value.1 na_Value.2.1 na_Value.2.2.1 na_Value.2.2.2,F_Value___init__.binds fun _ _ _ _ _ _ us hl=>(match us,hl with | [_,_,_,_,_],_=>rfl)⟩),(fun z=>absurd rfl z),(fun z=>absurd rfl z),trivial⟩) h hz
 have F:=jn Pg Rs Ds 24 (gv Pg Rs Ds 24) (fun i g hg=>by
  obtain ⟨fd',ps',h4⟩:=gv Pg Rs Ds 23 i g hg
  exact ⟨_,fd',ps',by decide,h4⟩) F_law s30 (j:=30) rfl c30
 have e:bP (top 69)=(["_law_script"]:List Str):=by kernel_rfl
 rw [e] at F
 exact xD T'.nl (fun ns _=>xE ns) F
theorem walk {l:PySem.W.OpenLaw} {q:Program} {loose:List Str} {XP:(Str→Option Value)→Heap→Prop} {YP:World→Heap→Prop} {d:DefRec} {K:Params→Fg} (hn:l.most=some 63) (hdf:d.params.defaults = [])
 (hY:∀ (w:World) (h:Heap),YP w h→(K w.params).In h)
 (F:∀ (w:World) (mg:Str→Option Value) (fa:Addr) (h:Heap),(K w.params).In h→h.Ns mainGlobals mg→mg d.name=some (.ref fa) →
  ∃ fd:FuncData,(∀ (s:Shared) (u:Value),BindsTo s fd ⟨[u],[]⟩ [("_law_script",u)])∧∀ base:Heap,(K w.params).In base→base.Ns mainGlobals mg→aR l.prog w (K w.params) mg base CX0 27 fa fd ["_law_script"] (oB (K w.params))) :
 PySem.W.WalkO q loose XP YP l.row.toRowW d [] (fun f vs=>PySem.call f vs):=
 L2.walk_of (n:=63) (k:=27) (x:="_law_script") (CX:=fun _=>CX0) (sp:=fun w=>oB (K w.params)) hn (by decide) hdf ⟨rfl,by decide,by decide⟩ hY F (fun _ _ a ns hl _ hS=>⟨a,ns,rfl,hS,hl,fun _=>rfl⟩) fun _ _ _ _ _ z=>z
end L2.K61
end
section
open PySem PySem.W PyProof.Rows
namespace PySem.W.Fast
noncomputable def tw10370333758108498193:Nat:=0
noncomputable def tw342445384051474467:Nat:=0
noncomputable def tw14025826171436973828:Nat:=0
noncomputable def tw6236712816326185414:Nat:=0
noncomputable def tw9259698277632277214:Nat:=0
noncomputable def tw17906148876676482769:Nat:=0
noncomputable def tw12684307162586777062:Nat:=0
noncomputable def tw5223305004073661564:Nat:=0
noncomputable def tw13690968461957080572:Nat:=0
noncomputable def tw16963522352749486132:Nat:=0
noncomputable def tw4253447718579317101:Nat:=0
noncomputable def tw17180646606488094227:Nat:=0
noncomputable def tw8562145034886514925:Nat:=0
noncomputable def tw6410016934689658919:Nat:=0
noncomputable def tw5217369728176870221:Nat:=0
noncomputable def tw14346454789285378094:Nat:=0
noncomputable def tw17872541053601642101:Nat:=0
noncomputable def tw4111220438067016038:Nat:=0
noncomputable def tw1258563887071495236:Nat:=0
noncomputable def tw4642546466021514849:Nat:=0
noncomputable def tw14118595115103565187:Nat:=0
noncomputable def tw6415023720349758435:Nat:=0
noncomputable def tw11365667135408176127:Nat:=0
noncomputable def tw7780526830130195178:Nat:=0
noncomputable def tw10543866345932514938:Nat:=0
noncomputable def tw16689140376962803172:Nat:=0
noncomputable def tw13392664156100654486:Nat:=0
noncomputable def tw17943400608002146018:Nat:=0
noncomputable def tw10321695737320162665:Nat:=0
noncomputable def tw4510968524582746494:Nat:=0
noncomputable def tw17709375507617453992:Nat:=0
noncomputable def tw6288485014604917447:Nat:=0
noncomputable def tw13989308157596164515:Nat:=0
noncomputable def tw398009016219622634:Nat:=0
noncomputable def tw4211024693845905520:Nat:=0
noncomputable def tw10321446793673090277:Nat:=0
noncomputable def tw7643557025966789421:Nat:=0
noncomputable def tw1539085269138284722:Nat:=0
noncomputable def tw10218888239338810753:Nat:=0
noncomputable def tw4882930960776025801:Nat:=0
noncomputable def tw7017790235138658778:Nat:=0
noncomputable def tw6033727656132767226:Nat:=0
noncomputable def tw9262989926559775410:Nat:=0
noncomputable def tw9652303773178937057:Nat:=0
noncomputable def tw3657565291888597803:Nat:=0
noncomputable def tw2188791121440316907:Nat:=0
noncomputable def tw1288425172616630581:Nat:=0
noncomputable def tw4705866105797795294:Nat:=0
noncomputable def tw567934854584018576:Nat:=0
noncomputable def tw13758294613669371999:Nat:=0
noncomputable def tw10617511120572012950:Nat:=0
noncomputable def tw1347258710009581344:Nat:=0
noncomputable def tw3658406938183640417:Nat:=0
noncomputable def tw12668711740419981390:Nat:=0
noncomputable def tw7361104157508579259:Nat:=0
noncomputable def tw10503855405045825301:Nat:=0
noncomputable def tw773350407588969323:Nat:=0
noncomputable def tw1566279287453964560:Nat:=0
noncomputable def tw13591893148474460642:Nat:=0
noncomputable def tw13940902994753078483:Nat:=0
noncomputable def tw454296713775287467:Nat:=0
noncomputable def tw1705810788498984746:Nat:=0
noncomputable def tw12407656124609793281:Nat:=0
noncomputable def tw16088687077396010404:Nat:=0
noncomputable def tw9338469703053645382:Nat:=0
noncomputable def tw1577558744101089026:Nat:=0
noncomputable def tw3636720941062252295:Nat:=0
noncomputable def tw16723594177178348488:Nat:=0
noncomputable def tw16194441574657575255:Nat:=0
noncomputable def tw17653651756371358933:Nat:=0
noncomputable def tw11815933205418215087:Nat:=0
noncomputable def tw15269303750969805771:Nat:=0
noncomputable def tw12479017522095154577:Nat:=0
noncomputable def tw12312854879029109308:Nat:=0
noncomputable def tw10165243670286539620:Nat:=0
noncomputable def tw2650827341431697475:Nat:=0
noncomputable def tw16467199622540234002:Nat:=0
noncomputable def tw10074244083944290326:Nat:=0
noncomputable def tw12253319251276353850:Nat:=0
noncomputable def tw67289555080992095:Nat:=0
noncomputable def tw1751419396652758807:Nat:=0
noncomputable def tw496808128862400312:Nat:=0
noncomputable def tw18339588041412447600:Nat:=0
noncomputable def tw1012813433511142595:Nat:=0
noncomputable def tw9849824736259083040:Nat:=0
noncomputable def tw12856581086651831944:Nat:=0
noncomputable def tw640406764276473961:Nat:=0
noncomputable def tw4868859639406562429:Nat:=0
noncomputable def tw7631353165059896709:Nat:=0
noncomputable def tw9749914209376794794:Nat:=0
noncomputable def tw1671558349658523383:Nat:=0
noncomputable def tw18413370239588561710:Nat:=0
noncomputable def tw7143635742804208420:Nat:=0
noncomputable def tw6627469859799157233:Nat:=0
noncomputable def tw2042388104423211900:Nat:=0
noncomputable def tw11032928752904906767:Nat:=0
noncomputable def tw5806213534133201189:Nat:=0
noncomputable def tw5755025039198346064:Nat:=0
noncomputable def tw11262534823439730116:Nat:=0
noncomputable def tw7058698621971071746:Nat:=0
noncomputable def tw9409954200745168703:Nat:=0
noncomputable def tw2020298548472031233:Nat:=0
noncomputable def tw3537480498807296639:Nat:=0
noncomputable def tw5618515265064442266:Nat:=0
noncomputable def tw513617276938863232:Nat:=0
noncomputable def tw4181220220398154183:Nat:=0
noncomputable def tw10758965580953116928:Nat:=0
noncomputable def tw15941434609575029517:Nat:=0
noncomputable def tw1545609723252607389:Nat:=0
noncomputable def tw12967964780890351803:Nat:=0
end PySem.W.Fast
set_option maxRecDepth 100000 in
set_option maxHeartbeats 0 in
theorem PySem.Challenge.cw_blamewise_k61_plain_rows_and_pairs_holds : PySem.Challenge.rw_blamewise_k61_plain_rows_and_pairs.Holds := by
 w_on;o_law;k_head;(case hw=>w_witness2)
 k_fill
 refine L2.K61.walk (l:=PySem.Challenge.rw_blamewise_k61_plain_rows_and_pairs) rfl rfl (fun w h Y=>PySem.W.kIn_of Y) ?F
 case F=>
  intro w mg fa h KX G hmg
  have T:L2.K61.Txt (L2.KOf KX):=by
   dsimp only [L2.KOf]
   refine' L2.K61.Txt.mk ?_ ?_ ?_ ?_ ?_ ?_ ?_ ?_ ?_ ?_ ?_ ?_ ?_ ?_ ?_ ?_ ?_ ?_ ?_ ?_ ?_ ?_ ?_ ?_ ?_ ?_ ?_ ?_ ?_ ?_ ?_ ?g_LEAVES ?g_MOST_LEVEL ?b_FORMS ?b_NEEDED_HEADS ?x_Ended ?x_Value ?x_Giver ?x_Walker ?nl ?_ ?_ ?_ ?_ ?_ ?_ ?_ ?_ ?_ ?_
   (case g_LEAVES=>(refine' L2.K61.g_LEAVES ?a ?l;(case a=>k_is);(case l=>k_is)))
   (case g_MOST_LEVEL=>(refine' L2.K61.g_MOST_LEVEL ?a;(case a=>k_is)))
   (case b_FORMS=>(refine' L2.K61.b_FORMS ?a ?t;(case a=>k_is);(case t=>kernel_rfl)))
   (case b_NEEDED_HEADS=>(refine' L2.K61.b_NEEDED_HEADS ?a ?t;(case a=>k_is);(case t=>kernel_rfl)))
   (case x_Ended=>(refine' ⟨_,_,L2.Ev.xc_mk ?a ?l ?t ?ini ?fl ?fn ?fc ?fk ?ga ?gn ?cl ?sg ?tk ?ob ?be ?is ?kp ?tyC ?sa ?ov ?hdc ?hh ?me,?n0⟩;(case a=>k_is);(case l=>k_is);(case t=>kernel_rfl);(case ini=>k_is);(case fl=>k_is);(case fn=>k_is);(case fc=>k_is);(case fk=>k_is);(case ga=>k_is);(case gn=>k_is);(case cl=>k_is);(case sg=>k_is);(case tk=>k_is);(case ob=>k_is);(case be=>k_is);(case is=>kernel_rfl);(case kp=>k_is);(case tyC=>k_is);(case sa=>k_is);(case ov=>kernel_rfl);(case hdc=>kernel_rfl);(case hh=>k_is);(case me=>k_is);(case n0=>k_is)))
   (case x_Value=>(refine' ⟨_,_,L2.Ev.cc_mk ?a ?pg ?hd ?po ?sa ?mk ?kp,⟨?n0,?n1,?n2,?n3⟩,L2.Ev.me_mk ?at0 ?fl0 ?fn0 ?fc0 ?fk0⟩;(case a=>k_is);(case pg=>k_is);(case hd=>k_is);(case po=>k_is);(case sa=>k_is);(case mk=>k_is);(case kp=>k_is);(case n0=>k_is);(case n1=>k_is);(case n2=>k_is);(case n3=>k_is);(case at0=>k_is);(case fl0=>k_is);(case fn0=>k_is);(case fc0=>k_is);(case fk0=>k_is)))
   (case x_Giver=>(refine' ⟨_,_,_,L2.Ev.cc_mk ?a ?pg ?hd ?po ?sa ?mk ?kp,⟨?n0,?n1,?n2⟩,L2.Ev.me_mk ?at0 ?fl0 ?fn0 ?fc0 ?fk0,L2.Ev.me_mk ?at1 ?fl1 ?fn1 ?fc1 ?fk1⟩;(case a=>k_is);(case pg=>k_is);(case hd=>k_is);(case po=>k_is);(case sa=>k_is);(case mk=>k_is);(case kp=>k_is);(case n0=>k_is);(case n1=>k_is);(case n2=>k_is);(case at0=>k_is);(case fl0=>k_is);(case fn0=>k_is);(case fc0=>k_is);(case fk0=>k_is);(case at1=>k_is);(case fl1=>k_is);(case fn1=>k_is);(case fc1=>k_is);(case fk1=>k_is)))
   (case x_Walker=>(refine' ⟨_,_,_,_,L2.Ev.cc_mk ?a ?pg ?hd ?po ?sa ?mk ?kp,⟨?n0,?n1,?n2⟩,L2.Ev.me_mk ?at0 ?fl0 ?fn0 ?fc0 ?fk0,L2.Ev.me_mk ?at1 ?fl1 ?fn1 ?fc1 ?fk1,L2.Ev.me_mk ?at2 ?fl2 ?fn2 ?fc2 ?fk2⟩;(case a=>k_is);(case pg=>k_is);(case hd=>k_is);(case po=>k_is);(case sa=>k_is);(case mk=>k_is);(case kp=>k_is);(case n0=>k_is);(case n1=>k_is);(case n2=>k_is);(case at0=>k_is);(case fl0=>k_is);(case fn0=>k_is);(case fc0=>k_is);(case fk0=>k_is);(case at1=>k_is);(case fl1=>k_is);(case fn1=>k_is);(case fc1=>k_is);(case fk1=>k_is);(case at2=>k_is);(case fl2=>k_is);(case fn2=>k_is);(case fc2=>k_is);(case fk2=>k_is)))
   (case nl=>kernel_rfl)
   all_goals first | (refine' L2.Ev.here_mk ?a ?l ?c ?k;(case a=>k_is);(case l=>k_is);(case c=>k_is);(case k=>k_is)) | k_is
  exact L2.K61.all_mk KX G hmg T
end
