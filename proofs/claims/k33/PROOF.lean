import PyProof.Rows.All
import Wide.All
import OpenK.AllK
import Wide.FinOn
import Lean
import PyProof.EqAt
import PyProof.EqKinds
import PyProof.TupleCall
import KE.KTabLook
import KE.LcSums
import PyProof.ListMulRoad
import KE.KEqDict
import PySem.Challenge.RW_blamewise_k33_refusals
set_option Elab.async false
set_option linter.all false
set_option maxRecDepth 100000
set_option maxHeartbeats 8000000
set_option Elab.async false
set_option linter.all false
set_option maxRecDepth 100000
namespace L2
open PySem PySem.Spec PyProof.Rows
abbrev Key:=Sum Int Str
def jo:Key→Value→Bool
 | .inl k,v=>Value.isInt k v
 | .inr x,v=>Value.isStrOf x v
def keyH (w:World):Key→Int
 | .inl k=>hashInt k
 | .inr x=>hashStr w x
theorem bB:∀ {k:Key} {v:Value},jo k v=true→(∃ i t,k=Sum.inl i∧v=Value.int i t)∨(∃ x t,k=Sum.inr x∧v=Value.str x t)
 | .inl i,v,h=>by
   obtain ⟨t,e⟩:=Value.isInt_shape (k:=i) (v:=v) h
   exact .inl ⟨i,t,rfl,e⟩
 | .inr x,v,h=>by
   obtain ⟨t,e⟩:=Value.isStrOf_shape (x:=x) (v:=v) h
   exact .inr ⟨x,t,rfl,e⟩
theorem keyIs_int (i:Int) (t:Tok):jo (.inl i) (.int i t)=true:=by simp [jo,Value.isInt]
theorem keyIs_str (x:Str) (t:Tok):jo (.inr x) (.str x t)=true:=by simp [jo,Value.isStrOf]
theorem key_ll (a b:Int):decide ((Sum.inl a:Key)=Sum.inl b)=(a == b):=by
 by_cases e:a=b
 ·subst e;simp
 ·have h:¬ (Sum.inl a:Key)=Sum.inl b:=fun q=>e (Sum.inl.inj q)
  rw [decide_eq_false h]
  exact (beq_eq_false_iff_ne.mpr e).symm
theorem key_rr (a b:Str):decide ((Sum.inr a:Key)=Sum.inr b)=decide (a=b):=by
 by_cases e:a=b
 ·subst e;simp
 ·have h:¬ (Sum.inr a:Key)=Sum.inr b:=fun q=>e (Sum.inr.inj q)
  rw [decide_eq_false h,decide_eq_false e]
theorem key_lr (a:Int) (b:Str):decide ((Sum.inl a:Key)=Sum.inr b)=false:=decide_eq_false (fun q=>nomatch q)
theorem key_rl (a:Str) (b:Int):decide ((Sum.inr a:Key)=Sum.inl b)=false:=decide_eq_false (fun q=>nomatch q)
def bK (prog:Program) (w:World):PySem.KeyKind prog w Key where
 is:=jo
 hash:=keyH w
 inj:=fun v a b ha hb=>by
  rcases bB ha with ⟨i,t,rfl,rfl⟩ | ⟨x,t,rfl,rfl⟩
  ·rcases bB hb with ⟨j,u,rfl,e⟩ | ⟨y,u,rfl,e⟩
   ·injection e with e1 _;rw [e1]
   ·exact nomatch e
  ·rcases bB hb with ⟨j,u,rfl,e⟩ | ⟨y,u,rfl,e⟩
   ·exact nomatch e
   ·injection e with e1 _;rw [e1]
 byValue:=fun k v h=>by
  rcases bB h with ⟨i,t,rfl,rfl⟩ | ⟨x,t,rfl,rfl⟩ <;> rfl
 pyHash:=fun hv h=>by
  rcases bB hv with ⟨i,t,rfl,rfl⟩ | ⟨x,t,rfl,rfl⟩
  ·exact wpAny_pyHash_int h
  ·exact wpAny_pyHash_str h
 eqBool:=fun hu hv h=>by
  rcases bB hu with ⟨i,t,rfl,rfl⟩ | ⟨x,t,rfl,rfl⟩
  ·rcases bB hv with ⟨j,u,rfl,rfl⟩ | ⟨y,u,rfl,rfl⟩
   ·rw [key_ll] at h;exact wpAny_eqBool_int h
   ·rw [key_lr] at h;exact SeqAt.EqAt.int_str i t y u _ _ _ _ h
  ·rcases bB hv with ⟨j,u,rfl,rfl⟩ | ⟨y,u,rfl,rfl⟩
   ·rw [key_rl] at h;exact SeqAt.EqAt.str_int x t j u _ _ _ _ h
   ·rw [key_rr] at h;exact wpAny_eqBool_str h
 «strs»:=fun k x t v h=>by
  rcases bB h with ⟨i,u,rfl,e⟩ | ⟨y,u,rfl,e⟩
  ·exact nomatch e
  ·injection e with e1 _
   subst e1
   cases v <;> rfl
theorem lb (prog:Program) (w:World) (i:Int) (t:Tok):(bK prog w).is (.inl i) (.int i t)=true:=keyIs_int i t
theorem lh (prog:Program) (w:World) (x:Str) (t:Tok):(bK prog w).is (.inr x) (.str x t)=true:=keyIs_str x t
end L2
namespace L2
open PySem PySem.Spec PyProof.Rows
inductive V where
 | non | bl (b:Bool) | int (i:Int) | str (x:Str) | byt (b:Array UInt8) | flt (b:UInt64) | ref (a:Addr) | ty (n:String)
 deriving DecidableEq
def aX:V→Value→Prop
 | .non,u=>u=Value.none
 | .bl b,u=>u=Value.bool b
 | .int i,u=>∃ t,u=Value.int i t
 | .str x,u=>∃ t,u=Value.str x t
 | .byt b,u=>∃ t,u=Value.bytes b t
 | .flt b,u=>∃ t,u=Value.float b t
 | .ref a,u=>u=Value.ref a
 | .ty n,u=>u=Value.type n
abbrev aV:List V→List Value→Prop:=Paired aX
theorem aV.length {xs:List V} {us:List Value} (r:aV xs us):xs.length=us.length:=Paired.length r
theorem aV.get:∀ {xs:List V} {us:List Value} {i:Nat} {x:V},aV xs us→xs[i]? = some x→∃ u,us[i]? = some u∧aX x u
 | _,_,_,_,.nil,e=>by simp at e
 | _,_,0,_,.cons r _,e=>by simp at e;subst e;exact ⟨_,rfl,r⟩
 | _,_,i+1,x,.cons _ t,e=>by
   obtain ⟨u,h1,h2⟩:=aV.get (i:=i) (x:=x) t (by simpa using e)
   exact ⟨u,by simpa using h1,h2⟩
theorem aV.set {x:V} {u:Value} (r:aX x u):∀ {xs:List V} {us:List Value} (i:Nat),aV xs us→aV (xs.set i x) (us.set i u)
 | _,_,_,.nil=>.nil
 | _,_,0,.cons _ t=>.cons r t
 | _,_,i+1,.cons q t=>.cons q (aV.set r i t)
theorem aV.append:∀ {xs ys:List V} {us ws:List Value},aV xs us→aV ys ws→aV (xs ++ ys) (us ++ ws)
 | _,_,_,_,.nil,s=>s
 | _,_,_,_,.cons r t,s=>.cons r (aV.append t s)
theorem aV.take:∀ {xs:List V} {us:List Value} (n:Nat),aV xs us→aV (xs.take n) (us.take n)
 | _,_,0,_=>.nil
 | _,_,_+1,.nil=>.nil
 | _,_,n+1,.cons r t=>.cons r (aV.take n t)
theorem aV.drop:∀ {xs:List V} {us:List Value} (n:Nat),aV xs us→aV (xs.drop n) (us.drop n)
 | _,_,0,r=>r
 | _,_,_+1,.nil=>.nil
 | _,_,n+1,.cons _ t=>aV.drop n t
def cC:Option V→Option Value→Prop
 | some v,some u=>aX v u
 | none,none=>True
 | _,_=>False
def KV {κ:Type}:List (κ×V)→List (κ×Value)→Prop:=Paired fun (p:κ×V) (q:κ×Value)=>p.1=q.1∧aX p.2 q.2
def kV:Key→V
 | .inl i=>.int i
 | .inr x=>.str x
inductive HO where
 | lst (xs:List V)
 | tup (xs:List V)
 | dK (kvs:List (Key×V)) | dT (kvs:List (List Key×V))
 | set (S:Int→Bool) (n:Nat)
 | ins (C dx:Addr) (fs:List (Str×V))
 | own (x:Addr)
 | xd (fs:List (Str×V))
 | met (f x:Addr)
 | rng (lo hi:Int)
 | frz (o:Obj) (u:HO)
 | tbl (ps:Array Value)
 | ext (φ:Heap→Prop)
abbrev Hp:=Addr→Option HO
def upd (H:Hp) (a:Addr) (o:HO):Hp:=fun b=>if b=a then some o else H b
theorem ag {H:Hp} {a:Addr} {o:HO}:upd H a o a=some o:=by unfold upd;rw [if_pos rfl]
theorem au {H:Hp} {a b:Addr} {o:HO} (h:b≠a):upd H a o b=H b:=by unfold upd;rw [if_neg h]
theorem hU {H:Hp} {a:Addr} {o u:HO}:upd (upd H a o) a u=upd H a u:=by
 funext b;unfold upd;split <;> rfl
theorem ne_of {H:Hp} {a b:Addr} {o u:HO} (h:H a=some o) (h':H b=some u) (d:o≠u):a≠b:=by
 intro e;subst e;rw [h] at h';exact d (Option.some.inj h')
theorem ap {H:Hp} {a b:Addr} {o:HO} (h:H a=some o) (h':H b=none):a≠b:=by
 intro e;subst e;rw [h] at h';cases h'
section
variable (P:Program) (w:World)
def bp (H:Hp) (h:Heap) (a:Addr):HO→Prop
 | .lst xs=>xs.length≤sizeLine∧∃ (its:List Value) (n:Nat),aV xs its∧h.get? a=some { cls:=.type "list",data:=.seq its.toArray n }
 | .tup xs=>xs.length≤sizeLine∧∃ its:List Value,aV xs its∧IsTup h a its.toArray
 | .dK kvs=>kvs.length≤sizeLine∧(a == sysModules)=false∧∃ vs,KV kvs vs∧h.DictOf (bK P w) a vs
 | .dT kvs=>kvs.length≤sizeLine∧(a == sysModules)=false∧∃ xs:List (List Key×Addr×Value),
  Paired (fun (p:List Key×V) (q:List Key×Addr×Value)=>p.1=q.1∧H q.2.1=some (.tup (p.1.map kV))∧aX p.2 q.2.2) kvs xs ∧
  ∃ o es ep,h.get? a=some o∧o.ExactDict∧o.data = .dict es ep∧es.toList=xs.map (entryOfKey (tupleKind (bK P w)))∧(xs.map (·.1)).Nodup
 | .set S n=>h.SetOf (intKind P w) a S n
 | .ins C dx fs=>H dx=some (.own a)∧fs.length≤1000∧dx≠a∧h.get? a=some (W.instObj C dx) ∧
  ∃ mA,h.Ns1 dx mA∧(∀ f,cC (fs.lookup f) (mA f))∧PySem.Within mA (fs.map (·.1))
 | .own _=>∃ o,h.get? a=some o
 | .xd fs=>∃ mA,h.Ns1 a mA∧∀ f,cC (fs.lookup f) (mA f)
 | .rng lo hi=>∃ t u v,h.get? a=some { cls:=.type "range",data:=.fields #[.int lo t,.int hi u,.int 1 v] }
 | .frz o u=>h.get? a=some o∧bp H h a u
 | .tbl ps=>h.get? a=some { cls:=.none,data:=.fields ps }
 | .met f x=>h.get? a=some (W.methodObj (.ref f) (.ref x))
 | .ext φ=>φ h∧(∃ o,h.get? a=some o)∧∀ h1 h2:Heap,φ h1→(∀ o,h1.get? a=some o→h2.get? a=some o)→φ h2
def HOk (H:Hp) (h:Heap):Prop:=∀ a o,H a=some o→bp P w H h a o
end
section
variable {P:Program} {w:World} {H H':Hp} {h h':Heap} {a:Addr} {o:HO}
theorem bp.lt (x:bp P w H h a o):a<h.objs.size:=by
 cases o with
 | lst xs=>obtain ⟨_,_,_,_,e⟩:=x;exact Heap.lt_size e
 | tup xs=>obtain ⟨_,_,_,p⟩:=x;exact p.lt
 | dK kvs=>obtain ⟨_,_,_,_,o,_,_,e,_⟩:=x;exact Heap.lt_size e
 | dT kvs=>obtain ⟨_,_,_,_,o,_,_,e,_⟩:=x;exact Heap.lt_size e
 | set S n=>obtain ⟨o,_,_,_,e,_⟩:=x;exact Heap.lt_size e
 | ins C dx fs=>obtain ⟨_,_,_,e,_⟩:=x;exact Heap.lt_size e
 | own y=>obtain ⟨_,e⟩:=x;exact Heap.lt_size e
 | xd fs=>obtain ⟨_,⟨_,_,_,e,_⟩,_⟩:=x;exact Heap.lt_size e
 | rng lo hi=>obtain ⟨_,_,_,e⟩:=x;exact Heap.lt_size e
 | frz ob u=>obtain ⟨e,_⟩:=x;exact Heap.lt_size e
 | tbl ps=>exact Heap.lt_size (show h.get? a=some _ from x)
 | met f y=>exact Heap.lt_size (show h.get? a=some _ from x)
 | ext φ=>obtain ⟨_,⟨_,e⟩,_⟩:=x;exact Heap.lt_size e
theorem Paired.mapP {α β:Type} {F G:α→β→Prop}:∀ {l₁:List α} {l₂:List β},Paired F l₁ l₂→(∀ a b,F a b→G a b)→Paired G l₁ l₂
 | _,_,.nil,_=>.nil
 | _,_,.cons r t,f=>.cons (f _ _ r) (Paired.mapP t f)
theorem bp.stay (x:bp P w H h a o) (k:∀ b u,(b=a∨H b=some (.own a))→h.get? b=some u→h'.get? b=some u)
 (ho:∀ b,H b=some (.own a)→H' b=some (.own a)) (ht:∀ b xs,H b=some (.tup xs)→H' b=some (.tup xs)):bp P w H' h' a o:=by
 induction o with
 | lst xs=>obtain ⟨z,its,n,r,e⟩:=x;exact ⟨z,its,n,r,k _ _ (.inl rfl) e⟩
 | tup xs=>obtain ⟨z,its,r,ob,e,c⟩:=x;exact ⟨z,its,r,ob,k _ _ (.inl rfl) e,c⟩
 | dK kvs=>obtain ⟨z,y,vs,r,ob,es,ep,e,c⟩:=x;exact ⟨z,y,vs,r,ob,es,ep,k _ _ (.inl rfl) e,c⟩
 | dT kvs=>
   obtain ⟨z,y,xs,r,ob,es,ep,e,c⟩:=x
   exact ⟨z,y,xs,Paired.mapP r fun p q z=>⟨z.1,ht _ _ z.2.1,z.2.2⟩,ob,es,ep,k _ _ (.inl rfl) e,c⟩
 | set S n=>obtain ⟨ob,es,ep,t,e,c⟩:=x;exact ⟨ob,es,ep,t,k _ _ (.inl rfl) e,c⟩
 | ins C dx fs=>
   obtain ⟨d,z,ne,e,mA,⟨od,es,ep,e2,c⟩,r⟩:=x
   exact ⟨ho _ d,z,ne,k _ _ (.inl rfl) e,mA,⟨od,es,ep,k _ _ (.inr d) e2,c⟩,r⟩
 | own y=>obtain ⟨ob,e⟩:=x;exact ⟨ob,k _ _ (.inl rfl) e⟩
 | xd fs=>obtain ⟨mA,⟨od,es,ep,e,c⟩,r⟩:=x;exact ⟨mA,⟨od,es,ep,k _ _ (.inl rfl) e,c⟩,r⟩
 | rng lo hi=>obtain ⟨t,u,v,e⟩:=x;exact ⟨t,u,v,k _ _ (.inl rfl) e⟩
 | frz ob u ih=>obtain ⟨e,q⟩:=x;exact ⟨k _ _ (.inl rfl) e,ih q⟩
 | tbl ps=>
   have e:h.get? a=some { cls:=.none,data:=.fields ps }:=x
   show h'.get? a=some { cls:=.none,data:=.fields ps }
   exact k a _ (.inl rfl) e
 | met f y=>
   have e:h.get? a=some (W.methodObj (.ref f) (.ref y)):=x
   show h'.get? a=some (W.methodObj (.ref f) (.ref y))
   exact k a _ (.inl rfl) e
 | ext φ=>obtain ⟨p,⟨o,e⟩,st⟩:=x;exact ⟨st _ _ p fun o q=>k _ _ (.inl rfl) q,⟨o,k _ _ (.inl rfl) e⟩,st⟩
theorem HOk.lt (x:HOk P w H h) (e:H a=some o):a<h.objs.size:=(x a o e).lt
theorem HOk.fresh (x:HOk P w H h) (e:h.objs.size≤a):H a=none:=by
 cases q:H a with
 | none=>rfl
 | some u=>exact absurd (Nat.lt_of_lt_of_le (x.lt q) e) (Nat.lt_irrefl _)
theorem HOk.kept (x:HOk P w H h) (k:∀ b u,h.get? b=some u→h'.get? b=some u):HOk P w H h':=fun a o e=>
 (x a o e).stay (fun b u _ q=>k b u q) (fun _ q=>q) fun _ _ q=>q
theorem HOk.laid (x:HOk P w H h) (k:∀ b u,h.get? b=some u→h'.get? b=some u) (hp:h.objs.size≤a) (new:bp P w (upd H a o) h' a o):HOk P w (upd H a o) h':=fun b u e=>by
 have hn:=x.fresh hp
 by_cases hb:b=a
 ·subst hb;rw [ag] at e;cases e;exact new
 ·rw [au hb] at e
  exact (x b u e).stay (fun c v _ q=>k c v q) (fun c q=>by rw [au (ap q hn)];exact q) fun c xs q=>by rw [au (ap q hn)];exact q
end
def Rd (H:Hp) (a:Addr) (u:HO):Prop:=H a=some u∨∃ o,H a=some (.frz o u)
theorem Rd.ok {P:Program} {w:World} {H:Hp} {h:Heap} {a:Addr} {u:HO} (r:Rd H a u) (x:HOk P w H h):bp P w H h a u:=by
 rcases r with r | ⟨o,r⟩
 ·exact x a u r
 ·obtain ⟨_,q⟩:=x a _ r
  exact q
def Mut:Option HO→Prop
 | some (.lst _)=>True
 | some (.dK _)=>True
 | some (.dT _)=>True
 | some (.set _ _)=>True
 | some (.ins _ _ _)=>True
 | some (.ext _)=>True
 | _=>False
section
variable {P:Program} {w:World} {H:Hp} {h h':Heap} {x e:Addr} {o':HO}
theorem HOk.write (ok:HOk P w H h) (mu:Mut (H x)) (he:e=x∨H e=some (.own x)) (k:∀ b u,b≠e→h.get? b=some u→h'.get? b=some u) (heo:∃ u,h'.get? e=some u)
 (new:bp P w (upd H x o') h' x o'):HOk P w (upd H x o') h':=fun b u q=>by
 have nown:∀ c y,H c=some (.own y)→c≠x:=fun c y r z=>by subst z;rw [r] at mu;exact mu
 have ntup:∀ c xs,H c=some (.tup xs)→c≠x:=fun c xs r z=>by subst z;rw [r] at mu;exact mu
 by_cases hb:b=x
 ·subst hb;rw [ag] at q;cases q;exact new
 ·rw [au hb] at q
  by_cases hbe:b=e
  ·have q':H b=some (.own x):=by
    rcases he with z | z
    ·exact absurd (hbe.trans z) hb
    ·rw [hbe];exact z
   rw [q] at q';cases q'
   obtain ⟨v,hv⟩:=heo
   exact ⟨v,by rw [hbe];exact hv⟩
  ·refine (ok b u q).stay (fun c v hc r=>k c v ?_ r) (fun c r=>by rw [au (nown c b r)];exact r) fun c xs r=>by rw [au (ntup c xs r)];exact r
   rcases hc with rfl | hc
   ·exact hbe
   ·rintro rfl
    rcases he with z | z
    ·exact nown c b hc z
    ·rw [hc] at z;cases z;exact hb rfl
end
structure Un (fs ex:List Addr) (H H':Hp) (h h':Heap):Prop where
 keep:∀ b o,h.get? b=some o→H b=none→b ∉ fs→b ∉ ex→h'.get? b=some o
 slot:∀ b o,h.get? b=some o→H b=none→b∈fs→b ∉ ex→∃ sl,h'.get? b=some { o with slots:=sl }
 free:∀ b o,h.get? b=some o→H b=none→b ∉ ex→H' b=none
 there:∀ b o,h.get? b=some o→b ∉ ex→∃ o',h'.get? b=some o'
 tups:∀ b xs,H b=some (.tup xs)→H' b=some (.tup xs)
 frzs:∀ b o u,H b=some (.frz o u)→H' b=some (.frz o u)
 tbls:∀ b ps,H b=some (.tbl ps)→∃ more,H' b=some (.tbl (ps ++ more))
section
variable {fs fs' ex ex':List Addr} {H H1 H2:Hp} {h h1 h2 h':Heap} {a x e:Addr} {o:HO}
theorem Un.any (u:Un fs ex H H1 h h1) {b:Addr} {ob:Obj} (q:h.get? b=some ob) (n:H b=none) (hx:b ∉ ex):∃ sl,h1.get? b=some { ob with slots:=sl }:=by
 by_cases hb:b∈fs
 ·exact u.slot b ob q n hb hx
 ·exact ⟨ob.slots,u.keep b ob q n hb hx⟩
theorem Un.kept (k:∀ b u,h.get? b=some u→h'.get? b=some u):Un fs ex H H h h':=
 ⟨fun b ob q _ _ _=>k b ob q,fun b ob q _ _ _=>⟨ob.slots,k b ob q⟩,fun _ _ _ n _=>n,fun b ob q _=>⟨ob,k b ob q⟩,fun _ _ q=>q,fun _ _ _ q=>q,fun _ ps q=>⟨#[],by rw [q];simp⟩⟩
theorem Un.refl:Un fs ex H H h h:=Un.kept fun _ _ q=>q
theorem Un.laid (k:∀ b u,h.get? b=some u→h'.get? b=some u) (hp:h.objs.size≤a) (hn:H a=none):Un fs ex H (upd H a o) h h' where
 keep:=fun b u q _ _ _=>k b u q
 slot:=fun b u q _ _ _=>⟨u.slots,k b u q⟩
 free:=fun b u q n _=>by rw [au (Nat.ne_of_lt (Nat.lt_of_lt_of_le (Heap.lt_size q) hp))];exact n
 there:=fun b u q _=>⟨u,k b u q⟩
 tups:=fun b xs q=>by rw [au (ap q hn)];exact q
 frzs:=fun b u xs q=>by rw [au (ap q hn)];exact q
 tbls:=fun b ps q=>⟨#[],by rw [au (ap q hn),q];simp⟩
theorem Un.write (mu:Mut (H x)) (he:e=x∨H e=some (.own x)) (k:∀ b u,b≠e→h.get? b=some u→h'.get? b=some u) (heo:∃ u,h'.get? e=some u):Un fs ex H (upd H x o) h h':=by
 have hx:∀ b,H b=none→b≠x:=fun b n z=>by subst z;rw [n] at mu;exact mu
 have hb:∀ b,H b=none→b≠e:=fun b n z=>by
  subst z
  rcases he with r | r
  ·exact hx b n r
  ·rw [n] at r;cases r
 have hm:∀ b u,H b=some u→¬ Mut (some u)→b≠x:=fun b u q nm z=>by subst z;rw [q] at mu;exact nm mu
 refine ⟨fun b u q n _ _=>k b u (hb b n) q,fun b u q n _ _=>⟨u.slots,k b u (hb b n) q⟩,fun b u q n _=>by rw [au (hx b n)];exact n,fun b u q _=>?_,
  fun b xs q=>by rw [au (hm b _ q fun z=>z)];exact q,fun b u xs q=>by rw [au (hm b _ q fun z=>z)];exact q,fun b ps q=>⟨#[],by rw [au (hm b _ q fun z=>z),q];simp⟩⟩
 by_cases hbe:b=e
 ·subst hbe;exact heo
 ·exact ⟨u,k b u hbe q⟩
end
def trk (h:Heap) (H:Hp):List Addr:=(List.range h.objs.size).filter fun a=>(H a).isSome
def jW (h:Heap) (H:Hp):Heap:=W.hideAll h (trk h H)
theorem hidT_size (h:Heap) (H:Hp):(jW h H).objs.size=h.objs.size:=W.hideAll_size _ _
theorem hidT_get {h:Heap} {H:Hp} {b:Addr} {o:Obj} (e:h.get? b=some o) (n:H b=none):(jW h H).get? b=some o:=
 W.hideAll_get _ e fun hm=>by
  have q:(H b).isSome=true:=(List.mem_filter.mp hm).2
  rw [n] at q;simp at q
theorem of_hidT {h:Heap} {H:Hp} {b:Addr} {o:Obj} (e:(jW h H).get? b=some o):h.get? b=some o∧H b=none:=by
 have e':h.get? b=some o:=W.of_hideAll (trk h H) e
 refine ⟨e',?_⟩
 cases q:H b with
 | none=>rfl
 | some x=>
   have hm:b∈trk h H:=List.mem_filter.mpr ⟨List.mem_range.mpr (Heap.lt_size e'),by simp [q]⟩
   have z:(jW h H).get? b=none:=W.hideAll_none (trk h H) hm
   rw [z] at e;cases e
end L2
namespace L2
open PySem PySem.Spec PyProof.Rows
structure Mod (K:W.Frag) (mg:Str→Option Value) (base:Heap):Prop where
 kin:K.In base
 glob:base.Ns mainGlobals mg
 blt:∃ mb,base.Ns builtinsNs mb∧∀ x:Str,x≠"__name__"→mb x=bootBuiltins x
 nolimit:base.NoLimit
structure Cx where
 prog:Program
 w:World
 K:W.Frag
 mg:Str→Option Value
 base:Heap
 A:Around
 N:List Str
 s₀:Shared
 H₀:Hp
 env:Env
 outer:List Env
 stack:List Env
 ex:List Addr
 fn:Str→Bool
 calm:Bool
 pn:List (Addr×Obj)
 xe:Value→Shared→Prop
def frs (l:List Env):List Addr:=l.filterMap (·.frame)
abbrev Cx.fs (X:Cx):List Addr:=frs X.outer
def Vis (sc:Scope) (x:Str):Prop:=sc.names.lookup x=some .local∨sc.names.lookup x=some .cell∨sc.names.lookup x=some .free
def Loc (sc:Scope) (x:Str):Prop:=sc.names.lookup x=some .local∨sc.names.lookup x=some .cell
def Look (env:Env) (h:Heap) (m:Str→Option Value) (x:Str) (u:Value):Prop:=
 (env.kindOf x=some .local∧m x=some u)∨((env.kindOf x=some .cell∨env.kindOf x=some .free)∧∃ c,env.cells.lookup x=some c∧h.IsCell c (some u))
structure Cx.Ok (X:Cx):Prop where
 mod:Mod X.K X.mg X.base
 kind:X.env.scope.kind = .function
 glob:X.env.globals=mainGlobals
 blt:X.env.builtins=builtinsNs
 above:X.s₀.heap.objs.size≤X.env.locals
 inj:∀ x y c,X.env.cells.lookup x=some c→X.env.cells.lookup y=some c→x=y
 has:∀ x,(X.env.kindOf x=some .cell∨X.env.kindOf x=some .free)→∃ c,X.env.cells.lookup x=some c
 cab:∀ x c,X.fn x=true→X.env.cells.lookup x=some c→X.s₀.heap.objs.size≤c
 hd:X.calm=true→X.A.handled=none
 frames:X.A.frames=some X.stack
 stk:X.stack=X.outer∨(X.stack=X.env :: X.outer∧X.env.frame=some X.env.locals)
 exf:∀ b∈X.ex,b≠X.env.locals∧∀ x c,X.env.cells.lookup x=some c→c≠b
 bs:∀ b o,X.base.get? b=some o→X.s₀.heap.get? b=some o∧X.H₀ b=none
 bsz:X.base.objs.size≤X.s₀.heap.objs.size
 noex:∀ b o,X.base.get? b=some o→b ∉ X.ex
 exfs:∀ b∈X.ex,b ∉ X.fs
 funs:X.s₀.heap.FunFrames X.base X.outer
 frf:∀ b∈X.fs,X.H₀ b=none
structure Inv (X:Cx) (pins:List (Addr×Obj)) (σ:List (Option V)) (H:Hp) (s:Shared):Prop where
 ok:X.Ok
 os:s.os=X.s₀.os
 bare:AllBare s.gens
 base:Un X.fs X.ex X.H₀ H X.s₀.heap s.heap
 loc:∃ m,s.heap.Ns X.env.locals m∧∀ (i:Nat) (x:Str) (v:V),X.N[i]? = some x→σ[i]? = some (some v)→Vis X.env.scope x→∃ u,aX v u∧Look X.env s.heap m x u
 cell:∀ x c,X.env.cells.lookup x=some c→∃ v,s.heap.IsCell c v
 free:H X.env.locals=none
 freeC:∀ x c,X.env.cells.lookup x=some c→H c=none
 pin:∀ p∈X.pn ++ pins,s.heap.get? p.1=some p.2∧H p.1=none∧p.1≠X.env.locals∧p.1 ∉ X.fs∧∀ v,p.2.data≠.cell v
 hok:HOk X.prog X.w H s.heap
 len:σ.length=X.N.length
section
variable {X:Cx} {pins:List (Addr×Obj)} {σ:List (Option V)} {H H':Hp} {s:Shared} {h':Heap}
theorem Cx.Ok.nofr (ok:X.Ok) {b:Addr} {o:Obj} (e:X.base.get? b=some o):b ∉ X.fs:=fun hb=>by
 have:=(ok.funs.mem hb).1
 rw [e] at this;cases this
theorem Inv.bs (I:Inv X pins σ H s):∀ b o,X.base.get? b=some o→s.heap.get? b=some o∧H b=none:=fun b o e=>
 ⟨I.base.keep b o (I.ok.bs b o e).1 (I.ok.bs b o e).2 (I.ok.nofr e) (I.ok.noex b o e),I.base.free b o (I.ok.bs b o e).1 (I.ok.bs b o e).2 (I.ok.noex b o e)⟩
theorem Inv.bk (I:Inv X pins σ H s):∀ b o,X.base.get? b=some o→s.heap.get? b=some o:=fun b o e=>(I.bs b o e).1
theorem Inv.mod (I:Inv X pins σ H s):Mod X.K X.mg X.base:=I.ok.mod
theorem Inv.kIn (I:Inv X pins σ H s):X.K.In s.heap:=I.ok.mod.kin.keeps I.bk
theorem Inv.lt (I:Inv X pins σ H s):X.env.locals<s.heap.objs.size:=let ⟨_,hn,_⟩:=I.loc;hn.lt
theorem Inv.sz (I:Inv X pins σ H s):X.s₀.heap.objs.size≤s.heap.objs.size:=Nat.le_trans I.ok.above (Nat.le_of_lt I.lt)
theorem Inv.nofs (I:Inv X pins σ H s) {a:Addr} (h:s.heap.objs.size≤a):a ∉ X.fs:=fun hb=>by
 obtain ⟨_,o,ho,_⟩:=I.ok.funs.mem hb
 exact absurd (Nat.lt_of_lt_of_le (Heap.lt_size ho) (Nat.le_trans I.sz h)) (Nat.lt_irrefl _)
theorem Inv.cne (I:Inv X pins σ H s):∀ x c,X.env.cells.lookup x=some c→c≠X.env.locals:=fun x c e z=>by
 obtain ⟨v,o,ho,hd⟩:=I.cell x c e
 obtain ⟨m,⟨o',es,ep,ho',hd',_⟩,_⟩:=I.loc
 rw [z,ho'] at ho;cases ho;rw [hd'] at hd;cases hd
theorem Inv.funs (I:Inv X pins σ H s):s.heap.FunFrames X.base X.outer:=by
 have all:∀ (l:List Env),(∀ b∈frs l,b∈X.fs)→X.s₀.heap.FunFrames X.base l→s.heap.FunFrames X.base l:=by
  intro l
  induction l with
  | nil=>intro _ _;trivial
  | cons env r ih=>
    intro hs hl
    obtain ⟨hk,⟨L,o,hf,hn,ho,hd⟩,hr⟩:=hl
    have hL:L∈X.fs:=hs L (by unfold frs;rw [List.filterMap_cons,hf];exact List.mem_cons_self)
    obtain ⟨sl,e⟩:=I.base.slot L o ho (I.ok.frf L hL) hL fun z=>I.ok.exfs L z hL
    exact ⟨hk,⟨L,_,hf,hn,e,hd⟩,ih (fun b hb=>hs b (by unfold frs;rw [List.filterMap_cons,hf];exact List.mem_cons_of_mem _ hb)) hr⟩
 exact all X.outer (fun _ hb=>hb) I.ok.funs
theorem Inv.stack (I:Inv X pins σ H s):s.heap.FunFrames X.base X.stack:=by
 rcases I.ok.stk with e | ⟨e,hf⟩
 ·rw [e];exact I.funs
 ·rw [e]
  obtain ⟨m,hn,_⟩:=I.loc
  refine .cons (by rw [I.ok.kind];decide) hf hn ?_ I.funs
  exact Heap.get?_none_of_le (Nat.le_trans I.ok.bsz I.ok.above)
theorem Inv.stkSub (I:Inv X pins σ H s):∀ b∈frs X.stack,b∈X.env.locals :: X.fs:=fun b hb=>by
 rcases I.ok.stk with e | ⟨e,hf⟩
 ·rw [e] at hb;exact List.mem_cons_of_mem _ hb
 ·rw [e] at hb
  unfold frs at hb
  rw [List.filterMap_cons,hf] at hb
  exact hb
theorem Inv.stkFree (I:Inv X pins σ H s):∀ b∈frs X.stack,H b=none:=fun b hb=>by
 rcases List.mem_cons.mp (I.stkSub b hb) with e | hb
 ·rw [e];exact I.free
 ·obtain ⟨_,o,ho,_⟩:=I.ok.funs.mem hb
  exact I.base.free b o ho (I.ok.frf b hb) fun z=>I.ok.exfs b z hb
theorem Inv.step {g':Array GenState} {t':Nat} {d':Drawn} {ch:List Addr} (I:Inv X pins σ H s)
 (hch:∀ b∈ch,(b∈X.ex∨X.s₀.heap.objs.size≤b)∧b≠X.env.locals∧(∀ x c,X.env.cells.lookup x=some c→c≠b)∧∀ p∈X.pn ++ pins,p.1≠b)
 (keep:∀ b o,b≠X.env.locals→b ∉ X.fs→b ∉ ch→s.heap.get? b=some o→H b=none→h'.get? b=some o)
 (slot:∀ b o,b≠X.env.locals→b∈X.fs→b ∉ ch→s.heap.get? b=some o→H b=none→∃ sl,h'.get? b=some { o with slots:=sl }) (free:∀ b o,b ∉ ch→s.heap.get? b=some o→H b=none→H' b=none)
 (there:∀ b o,b ∉ ch→s.heap.get? b=some o→∃ o',h'.get? b=some o')
 (tups:∀ b xs,H b=some (.tup xs)→H' b=some (.tup xs)) (frzs:∀ b o u,H b=some (.frz o u)→H' b=some (.frz o u)) (tbls:∀ b ps,H b=some (.tbl ps)→∃ more,H' b=some (.tbl (ps ++ more)))
 (ns:∀ m,s.heap.Ns X.env.locals m→h'.Ns X.env.locals m) (hok:HOk X.prog X.w H' h') (hg:AllBare g') :
 Inv X pins σ H' { s with heap:=h',gens:=g',drawn:=d',toks:=t' }:=by
 have neL:∀ b o,X.s₀.heap.get? b=some o→b≠X.env.locals:=fun b o e=>Nat.ne_of_lt (Nat.lt_of_lt_of_le (Heap.lt_size e) I.ok.above)
 have neC:∀ b o,X.s₀.heap.get? b=some o→b ∉ X.ex→b ∉ ch:=fun b o e hx hb=>by
  rcases (hch b hb).1 with z | z
  ·exact hx z
  ·exact absurd (Nat.lt_of_lt_of_le (Heap.lt_size e) z) (Nat.lt_irrefl _)
 have cellK:∀ x c,X.env.cells.lookup x=some c→∀ v,s.heap.IsCell c v→h'.IsCell c v:=fun x c e v ⟨o,ho,hd⟩=>by
  have nch:c ∉ ch:=fun z=>(hch c z).2.2.1 x c e rfl
  by_cases hc:c∈X.fs
  ·obtain ⟨sl,q⟩:=slot c o (I.cne x c e) hc nch ho (I.freeC x c e)
   exact ⟨_,q,hd⟩
  ·exact ⟨o,keep c o (I.cne x c e) hc nch ho (I.freeC x c e),hd⟩
 refine ⟨I.ok,I.os,hg,⟨fun b o e n hb hx=>?_,fun b o e n hb hx=>?_,fun b o e n hx=>?_,fun b o e hx=>?_,fun b xs e=>tups b xs (I.base.tups b xs e),fun b o xs e=>frzs b o xs (I.base.frzs b o xs e),fun b ps e=>?_⟩,?_,fun x c e=>?_,?_,fun x c e=>?_,fun p hp=>?_,hok,I.len⟩
 ·exact keep b o (neL b o e) hb (neC b o e hx) (I.base.keep b o e n hb hx) (I.base.free b o e n hx)
 ·obtain ⟨sl,e1⟩:=I.base.slot b o e n hb hx
  obtain ⟨sl',e2⟩:=slot b _ (neL b o e) hb (neC b o e hx) e1 (I.base.free b o e n hx)
  exact ⟨sl',e2⟩
 ·obtain ⟨o',e1⟩:=I.base.there b o e hx
  exact free b o' (neC b o e hx) e1 (I.base.free b o e n hx)
 ·obtain ⟨o',e1⟩:=I.base.there b o e hx
  exact there b o' (neC b o e hx) e1
 ·obtain ⟨m1,e1⟩:=I.base.tbls b ps e
  obtain ⟨m2,e2⟩:=tbls b _ e1
  exact ⟨m1 ++ m2,by rw [e2,Array.append_assoc]⟩
 ·obtain ⟨m,hn,hl⟩:=I.loc
  refine ⟨m,ns m hn,fun i x v e1 e2 e3=>?_⟩
  obtain ⟨u,r,l⟩:=hl i x v e1 e2 e3
  refine ⟨u,r,?_⟩
  rcases l with l | ⟨k,c,e,z⟩
  ·exact .inl l
  ·exact .inr ⟨k,c,e,cellK x c e _ z⟩
 ·obtain ⟨v,z⟩:=I.cell x c e
  exact ⟨v,cellK x c e v z⟩
 ·obtain ⟨m,⟨o,_,_,ho,_⟩,_⟩:=I.loc
  exact free _ o (fun z=>(hch _ z).2.1 rfl) ho I.free
 ·obtain ⟨v,o,ho,hd⟩:=I.cell x c e
  exact free c o (fun z=>(hch c z).2.2.1 x c e rfl) ho (I.freeC x c e)
 ·obtain ⟨e,n,ne,nf,d⟩:=I.pin p hp
  have nch:p.1 ∉ ch:=fun z=>(hch p.1 z).2.2.2 p hp rfl
  exact ⟨keep p.1 p.2 ne nf nch e n,free p.1 p.2 nch e n,ne,nf,d⟩
theorem Inv.un {t':Nat} (I:Inv X pins σ H s) (u:Un X.fs [] H H' s.heap h') (hok:HOk X.prog X.w H' h'):Inv X pins σ H' { s with heap:=h',toks:=t' }:=by
 obtain ⟨m,⟨o,es,ep,ho,r⟩,_⟩:=id I.loc
 obtain ⟨sl,hL⟩:=u.any ho I.free (by simp)
 exact I.step (g':=s.gens) (d':=s.drawn) (ch:=[]) (fun _ z=>nomatch z) (fun b o _ hb _ e n=>u.keep b o e n hb (by simp)) (fun b o _ hb _ e n=>u.slot b o e n hb (by simp)) (fun b o _ e n=>u.free b o e n (by simp)) (fun b o _ e=>u.there b o e (by simp)) u.tups u.frzs u.tbls (fun m' hm=>by
  obtain ⟨o',es',ep',ho',r'⟩:=hm
  rw [ho] at ho';cases ho'
  exact ⟨_,es',ep',hL,r'⟩) hok I.bare
theorem Inv.call {g':Array GenState} {t':Nat} {d':Drawn} {ch:List Addr} (I:Inv X pins σ H s) (u:Un (frs X.stack) ch H H' s.heap h') (hok:HOk X.prog X.w H' h') (hg:AllBare g')
 (hch:∀ b∈ch,(b∈X.ex∨X.s₀.heap.objs.size≤b)∧b≠X.env.locals∧(∀ x c,X.env.cells.lookup x=some c→c≠b)∧∀ p∈X.pn ++ pins,p.1≠b) :
 Inv X pins σ H' { s with heap:=h',gens:=g',drawn:=d',toks:=t' }:=by
 obtain ⟨m,⟨o,es,ep,ho,r⟩,_⟩:=id I.loc
 obtain ⟨sl,hL⟩:=u.any ho I.free fun z=>(hch _ z).2.1 rfl
 exact I.step (ch:=ch) hch (fun b o hL hb hc e n=>u.keep b o e n (fun z=>(List.mem_cons.mp (I.stkSub b z)).elim hL hb) hc) (fun b o _ _ hc e n=>u.any e n hc) (fun b o hc e n=>u.free b o e n hc) (fun b o hc e=>u.there b o e hc) u.tups u.frzs u.tbls (fun m' hm=>by
  obtain ⟨o',es',ep',ho',r'⟩:=hm
  rw [ho] at ho';cases ho'
  exact ⟨_,es',ep',hL,r'⟩) hok hg
theorem Inv.turned {t':Nat} {it:Addr} (I:Inv X pins σ H s) (k:∀ b o,b≠it→s.heap.get? b=some o→h'.get? b=some o) (hn:H it=none) (hL:it≠X.env.locals)
 (h1:it∈X.ex∨X.s₀.heap.objs.size≤it) (h2:∀ x c,X.env.cells.lookup x=some c→c≠it) (h3:∀ p∈X.pn ++ pins,p.1≠it):Inv X pins σ H { s with heap:=h',toks:=t' }:=by
 have nit:∀ b u,H b=some u→b≠it:=fun b u e z=>by rw [z,hn] at e;cases e
 refine I.step (g':=s.gens) (d':=s.drawn) (ch:=[it]) (fun b hb=>?_) (fun b o _ _ hc e _=>k b o (fun z=>hc (by simp [z])) e) (fun b o _ _ hc e _=>⟨o.slots,k b o (fun z=>hc (by simp [z])) e⟩) (fun _ _ _ _ n=>n)
  (fun b o hc e=>⟨o,k b o (fun z=>hc (by simp [z])) e⟩) (fun _ _ e=>e) (fun _ _ _ e=>e) (fun b ps e=>⟨#[],by rw [e];simp⟩) (fun m hm=>?_) (fun b u e=>?_) I.bare
 ·have e:b=it:=by simpa using hb
  subst e
  exact ⟨h1,hL,h2,h3⟩
 ·obtain ⟨o,es,ep,ho,r⟩:=hm
  exact ⟨o,es,ep,k _ o (Ne.symm hL) ho,r⟩
 ·refine (I.hok b u e).stay (fun c v hc q=>k c v ?_ q) (fun _ q=>q) fun _ _ q=>q
  rcases hc with z | z
  ·rw [z];exact nit b u e
  ·exact nit c _ z
theorem Inv.tok (I:Inv X pins σ H s) (t:Nat):Inv X pins σ H { s with toks:=t }:=I.un (h':=s.heap) (t':=t) Un.refl I.hok
theorem Inv.kept {t':Nat} (I:Inv X pins σ H s) (k:∀ b u,s.heap.get? b=some u→h'.get? b=some u):Inv X pins σ H { s with heap:=h',toks:=t' }:=I.un (Un.kept k) (I.hok.kept k)
theorem Inv.laid {a:Addr} {o:HO} {t':Nat} (I:Inv X pins σ H s) (k:∀ b u,s.heap.get? b=some u→h'.get? b=some u) (hp:s.heap.objs.size≤a) (new:bp X.prog X.w (upd H a o) h' a o) :
 Inv X pins σ (upd H a o) { s with heap:=h',toks:=t' }:=I.un (Un.laid k hp (I.hok.fresh hp)) (I.hok.laid k hp new)
theorem Inv.write {x e:Addr} {o:HO} {t':Nat} (I:Inv X pins σ H s) (mu:Mut (H x)) (he:e=x∨H e=some (.own x)) (k:∀ b u,b≠e→s.heap.get? b=some u→h'.get? b=some u) (heo:∃ u,h'.get? e=some u)
 (new:bp X.prog X.w (upd H x o) h' x o):Inv X pins σ (upd H x o) { s with heap:=h',toks:=t' }:=I.un (Un.write mu he k heo) (I.hok.write mu he k heo new)
theorem Inv.pins_of {pins':List (Addr×Obj)} (I:Inv X pins σ H s) (h:∀ p∈pins',s.heap.get? p.1=some p.2∧H p.1=none∧p.1≠X.env.locals∧p.1 ∉ X.fs∧∀ v,p.2.data≠.cell v):Inv X pins' σ H s:=
 ⟨I.ok,I.os,I.bare,I.base,I.loc,I.cell,I.free,I.freeC,fun p hp=>(List.mem_append.mp hp).elim (fun z=>I.pin p (List.mem_append_left _ z)) (h p),I.hok,I.len⟩
theorem ix {N:List Str} (hN:N.Nodup) {i j:Nat} {x:Str} (a:N[i]? = some x) (b:N[j]? = some x):i=j:=by
 obtain ⟨h1,e1⟩:=List.getElem?_eq_some_iff.mp a
 obtain ⟨h2,e2⟩:=List.getElem?_eq_some_iff.mp b
 exact (List.getElem_inj hN).mp (e1.trans e2.symm)
theorem jH {M:Model} {A:Around} {E:Value→Shared→Prop} {i:Nat} {x:Str} {v:V} {u:Value} {Q:Unit→Shared→Prop} (I:Inv X pins σ H s) (hN:X.N.Nodup) (hi:X.N[i]? = some x) (hx:Loc X.env.scope x) (r:aX v u)
 (h:∀ s',Inv X pins (σ.set i (some v)) H s'→(∃ a,Heap.SameBut a s.heap s'.heap∧(a=X.env.locals∨X.env.cells.lookup x=some a))→Q () s') (hf:X.fn x=true∨X.env.scope.names.lookup x=some .local:=by first | exact .inl rfl | exact .inr rfl | assumption):wpAny M A (storeName X.env x u) Q E s:=by
 obtain ⟨m,hn,hl⟩:=id I.loc
 have hcls:(X.env.scope.kind == .class || (X.env.scope.kind == .module && X.env.locals != X.env.globals))=false:=by rw [I.ok.kind];rfl
 have hiσ:i<σ.length:=by rw [I.len];exact (List.getElem?_eq_some_iff.mp hi).1
 have cne:=I.cne
 have tracked:∀ {a:Addr} {h':Heap},(∃ o,s.heap.get? a=some o∧H a=none)→Heap.SameBut a s.heap h'→HOk X.prog X.w H h':=fun {a h'} ha hs b ob e=>by
  obtain ⟨_,_,hfree⟩:=ha
  refine (I.hok b ob e).stay (fun c w' hc q=>(hs.2 c ?_).trans q) (fun _ q=>q) fun _ _ q=>q
  rintro rfl
  rcases hc with rfl | hc
  ·rw [hfree] at e;cases e
  ·rw [hfree] at hc;cases hc
 rcases hx with hk | hk
 ·refine wpAny_storeName_local hk hn (fun h' hn' hs=>?_) hcls
  obtain ⟨oL,_,_,hoL,_⟩:=id hn
  refine h _ ⟨I.ok,I.os,I.bare,⟨fun b o e n hb hx=>?_,fun b o e n hb hx=>?_,I.base.free,fun b o e hx=>?_,I.base.tups,I.base.frzs,I.base.tbls⟩,⟨_,hn',fun j y v' e1 e2 e3=>?_⟩,fun y c e=>?_,I.free,I.freeC,fun p hp=>?_,tracked ⟨oL,hoL,I.free⟩ hs,by simpa using I.len⟩ ⟨_,hs,.inl rfl⟩
  ·exact (hs.2 b (Nat.ne_of_lt (Nat.lt_of_lt_of_le (Heap.lt_size e) I.ok.above))).trans (I.base.keep b o e n hb hx)
  ·obtain ⟨sl,e1⟩:=I.base.slot b o e n hb hx
   exact ⟨sl,(hs.2 b (Nat.ne_of_lt (Nat.lt_of_lt_of_le (Heap.lt_size e) I.ok.above))).trans e1⟩
  ·obtain ⟨o',e1⟩:=I.base.there b o e hx
   exact ⟨o',(hs.2 b (Nat.ne_of_lt (Nat.lt_of_lt_of_le (Heap.lt_size e) I.ok.above))).trans e1⟩
  ·by_cases hj:j=i
   ·subst hj
    rw [hi] at e1;cases e1
    rw [List.getElem?_set_self hiσ] at e2
    cases e2
    exact ⟨u,r,.inl ⟨hk,by simp⟩⟩
   ·rw [List.getElem?_set_ne (Ne.symm hj)] at e2
    obtain ⟨u',r',q⟩:=hl j y v' e1 e2 e3
    refine ⟨u',r',?_⟩
    rcases q with ⟨k,e⟩ | ⟨k,c,e,z⟩
    ·refine .inl ⟨k,?_⟩
     have:y≠x:=fun e=>hj (ix hN e1 (e ▸ hi))
     simp [this,e]
    ·exact .inr ⟨k,c,e,z.sameBut hs (cne y c e)⟩
  ·obtain ⟨w',z⟩:=I.cell y c e
   exact ⟨w',z.sameBut hs (cne y c e)⟩
  ·obtain ⟨e,n,ne,nf,d⟩:=I.pin p hp
   exact ⟨(hs.2 p.1 ne).trans e,n,ne,nf,d⟩
 ·have hfn:X.fn x=true:=by
   rcases hf with z | z
   ·exact z
   ·rw [z] at hk;cases hk
  obtain ⟨c,hc⟩:=I.ok.has x (.inl hk)
  obtain ⟨w',z⟩:=I.cell x c hc
  refine wpAny_storeName_cell I.ok.kind hk hc z (fun h' hc' hs=>?_)
  obtain ⟨oc,hoc,hocd⟩:=id z
  refine h { s with heap:=h' } ⟨I.ok,I.os,I.bare,⟨fun b o e n hb hx=>?_,fun b o e n hb hx=>?_,I.base.free,fun b o e hx=>?_,I.base.tups,I.base.frzs,I.base.tbls⟩,⟨m,hn.sameBut hs (Ne.symm (cne x c hc)),fun j y v' e1 e2 e3=>?_⟩,fun y c' e=>?_,I.free,I.freeC,fun p hp=>?_,tracked ⟨oc,hoc,I.freeC x c hc⟩ hs,by simpa using I.len⟩ ⟨c,hs,.inr hc⟩
  ·exact (hs.2 b (Nat.ne_of_lt (Nat.lt_of_lt_of_le (Heap.lt_size e) (I.ok.cab x c hfn hc)))).trans (I.base.keep b o e n hb hx)
  ·obtain ⟨sl,e1⟩:=I.base.slot b o e n hb hx
   exact ⟨sl,(hs.2 b (Nat.ne_of_lt (Nat.lt_of_lt_of_le (Heap.lt_size e) (I.ok.cab x c hfn hc)))).trans e1⟩
  ·obtain ⟨o',e1⟩:=I.base.there b o e hx
   exact ⟨o',(hs.2 b (Nat.ne_of_lt (Nat.lt_of_lt_of_le (Heap.lt_size e) (I.ok.cab x c hfn hc)))).trans e1⟩
  ·by_cases hj:j=i
   ·subst hj
    rw [hi] at e1;cases e1
    rw [List.getElem?_set_self hiσ] at e2
    cases e2
    exact ⟨u,r,.inr ⟨.inl hk,c,hc,hc'⟩⟩
   ·rw [List.getElem?_set_ne (Ne.symm hj)] at e2
    obtain ⟨u',r',q⟩:=hl j y v' e1 e2 e3
    refine ⟨u',r',?_⟩
    rcases q with q | ⟨k,c',e,z'⟩
    ·exact .inl q
    ·refine .inr ⟨k,c',e,z'.sameBut hs ?_⟩
     rintro rfl
     exact hj (ix hN e1 (I.ok.inj _ _ _ e hc ▸ hi))
  ·by_cases hcc:c'=c
   ·subst hcc;exact ⟨_,hc'⟩
   ·obtain ⟨w2,z2⟩:=I.cell y c' e
    exact ⟨w2,z2.sameBut hs hcc⟩
  ·obtain ⟨e,n,ne,nf,d⟩:=I.pin p hp
   refine ⟨(hs.2 p.1 ?_).trans e,n,ne,nf,d⟩
   intro q
   rw [q,hoc] at e
   have q':oc=p.2:=Option.some.inj e
   exact d w' (by rw [← q'];exact hocd)
theorem fB {M:Model} {A:Around} {E:Value→Shared→Prop} {i:Nat} {x:Str} {v:V} {u:Value} {Q:Unit→Shared→Prop} (I:Inv X pins σ H s) (hN:X.N.Nodup) (hi:X.N[i]? = some x) (hx:Loc X.env.scope x) (r:aX v u)
 (h:∀ s',Inv X pins (σ.set i (some v)) H s'→Q () s') (hf:X.fn x=true∨X.env.scope.names.lookup x=some .local:=by first | exact .inl rfl | exact .inr rfl | assumption):wpAny M A (storeName X.env x u) Q E s:=
 jH I hN hi hx r (fun s' I' _=>h s' I') hf
theorem Inv.call' {s':Shared} {ch:List Addr} (I:Inv X pins σ H s) (ho:s'.os=s.os) (u:Un (frs X.stack) ch H H' s.heap s'.heap) (hok:HOk X.prog X.w H' s'.heap) (hg:AllBare s'.gens)
 (hch:∀ b∈ch,(b∈X.ex∨X.s₀.heap.objs.size≤b)∧b≠X.env.locals∧(∀ x c,X.env.cells.lookup x=some c→c≠b)∧∀ p∈X.pn ++ pins,p.1≠b):Inv X pins σ H' s':=by
 obtain ⟨h',g',d',t',o'⟩:=s'
 have e:o'=s.os:=ho
 subst e
 exact I.call (g':=g') (t':=t') (d':=d') u hok hg hch
end
abbrev XK:=Value→Option Addr→Hp→Prop
abbrev St:=List (Option V)
abbrev VK:=V→Hp→Prop
abbrev TE:=St→Hp→VK→Prop
abbrev TT:=St→Hp→(Bool→Hp→Prop)→Prop
abbrev TA:=St→Hp→(List V→Hp→Prop)→Prop
structure eO where
 nx:St→Hp→Prop
 rt:VK
 bk:St→Hp→Prop:=fun _ _=>False
 ct:St→Hp→Prop:=fun _ _=>False
abbrev TS:=eO→St→Hp→Prop
def EP (X:Cx) (pins:List (Addr×Obj)) (σ:St) (Q:VK) (u:Value) (s':Shared):Prop:=∃ v H',Inv X pins σ H' s'∧aX v u∧Q v H'
def TP (X:Cx) (pins:List (Addr×Obj)) (σ:St) (Q:Bool→Hp→Prop) (b:Bool) (s':Shared):Prop:=∃ H',Inv X pins σ H' s'∧Q b H'
def AP (X:Cx) (pins:List (Addr×Obj)) (σ:St) (Q:List V→Hp→Prop) (us:List Value) (s':Shared):Prop:=∃ vs H',Inv X pins σ H' s'∧aV vs us∧Q vs H'
def SP (X:Cx) (pins:List (Addr×Obj)) (D:eO) (f:Flow) (s':Shared):Prop:=
 match f with
 | .next=>∃ σ' H',Inv X pins σ' H' s'∧D.nx σ' H'
 | .brk=>∃ σ' H',Inv X pins σ' H' s'∧D.bk σ' H'
 | .cont=>∃ σ' H',Inv X pins σ' H' s'∧D.ct σ' H'
 | .ret u=>∃ v σ' H',Inv X pins σ' H' s'∧aX v u∧D.rt v H'
def PE (X:Cx) (e:Expr) (t:TE):Prop:=
 ∀ (pins:List (Addr×Obj)) (s:Shared) (σ:St) (H:Hp) (Q:VK),Inv X pins σ H s→t σ H Q→wpAny (model X.prog X.w) X.A (eval e X.env) (EP X pins σ Q) X.xe s
def PT (X:Cx) (e:Expr) (t:TT):Prop:=
 ∀ (pins:List (Addr×Obj)) (s:Shared) (σ:St) (H:Hp) (Q:Bool→Hp→Prop),Inv X pins σ H s→t σ H Q→wpAny (model X.prog X.w) X.A (isTrue e X.env (eval e X.env)) (TP X pins σ Q) X.xe s
def PW (X:Cx) (e:Expr) (t:TT):Prop:=
 ∀ (whole:Sem Value) (pins:List (Addr×Obj)) (s:Shared) (σ:St) (H:Hp) (Q:Bool→Hp→Prop),Inv X pins σ H s→t σ H Q→wpAny (model X.prog X.w) X.A (isTrue e X.env whole) (TP X pins σ Q) X.xe s
theorem PW.pt {X:Cx} {e:Expr} {t:TT} (h:PW X e t):PT X e t:=h _
def PA (X:Cx) (es:List Expr) (t:TA):Prop:=
 ∀ (pos:Pos) (pins:List (Addr×Obj)) (s:Shared) (σ:St) (H:Hp) (Q:List V→Hp→Prop),Inv X pins σ H s→t σ H Q→wpAny (model X.prog X.w) X.A (spliced (backTo pos (starEach es X.env))) (AP X pins σ Q) X.xe s
def PS (X:Cx) (st:Stmt) (t:TS):Prop:=
 ∀ (pins:List (Addr×Obj)) (s:Shared) (σ:St) (H:Hp) (D:eO),Inv X pins σ H s→t D σ H→wpAny (model X.prog X.w) X.A (exec st X.env) (SP X pins D) X.xe s
def PSs (X:Cx) (st:List Stmt) (t:TS):Prop:=
 ∀ (pins:List (Addr×Obj)) (s:Shared) (σ:St) (H:Hp) (D:eO),Inv X pins σ H s→t D σ H→wpAny (model X.prog X.w) X.A (execs st X.env) (SP X pins D) X.xe s
theorem thn {α:Type} {t:Sem α} {Q Q':α→Shared→Prop} {M:Model} {A:Around} {E:Value→Shared→Prop} {s:Shared} (h:wpAny M A t Q E s) (hQ:∀ a s,Q a s→Q' a s):wpAny M A t Q' E s:=wpAny_mono h hQ fun _ _ x=>x
end L2
namespace L2
open PySem PySem.Spec PyProof.Rows
section
variable {X:Cx}
def cV (i:Nat):TE:=fun σ H Q=>∃ v,σ[i]? = some (some v)∧Q v H
def tC (v:V):TE:=fun _ H Q=>Q v H
theorem pe_var {i:Nat} {x:Str} {pos:Pos} (hN:X.N[i]? = some x) (hv:Vis X.env.scope x) (hd:(x == ("__debug__":Str))=false:=by decide) (hcd:(x == ("__classdict__":Str))=false:=by decide):PE X (.Name x pos) (cV i):=by
 intro pins s σ H Q I h
 obtain ⟨v,e,h⟩:=h
 obtain ⟨m,hn,hl⟩:=I.loc
 obtain ⟨u,r,l⟩:=hl i x v hN e hv
 have fin:EP X pins σ Q u s:=⟨v,H,I,r,h⟩
 rcases l with ⟨hk,hm⟩ | ⟨hk,c,hc,hcell⟩
 ·exact wpAny_Name (wpAny_loadName_local I.ok.kind hk hn hm fin) hd
 ·rcases hk with hk | hk
  ·exact wpAny_Name (wpAny_loadName_cell I.ok.kind hk hc hcell fin) hd
  ·exact wpAny_Name (wpAny_loadName_free I.ok.kind hk hc hcell fin hcd) hd
theorem ac {i j pos}:PE X (.Constant (.int i) j pos) (tC (.int i)):=fun _ _ _ H _ I h=>wpAny_Constant_int ⟨.int i,H,I.tok _,⟨_,rfl⟩,h⟩
theorem pe_bl {b j pos}:PE X (.Constant (.bool b) j pos) (tC (.bl b)):=fun _ _ _ H _ I h=>Constant_bool ⟨.bl b,H,I,rfl,h⟩
theorem bQ {j pos}:PE X (.Constant .none j pos) (tC .non):=fun _ _ _ H _ I h=>Constant_none ⟨.non,H,I,rfl,h⟩
theorem aj {x j pos}:PE X (.Constant (.str x) j pos) (tC (.str x)):=fun _ _ _ H _ I h=>Calls.Constant_str ⟨.str x,H,I.tok _,⟨_,rfl⟩,h⟩
def Gl (X:Cx) (x:Str):Prop:=X.env.kindOf x=some .globalImplicit
theorem cI {E:Value→Shared→Prop} {pins:List (Addr×Obj)} {s:Shared} {σ:St} {H:Hp} {x:Str} {u:Value} {pos:Pos} {Q:Value→Shared→Prop} (I:Inv X pins σ H s) (hg:Gl X x) (hm:X.mg x=some u) (h:Q u s)
 (hd:(x == ("__debug__":Str))=false:=by decide):wpAny (model X.prog X.w) X.A (eval (.Name x pos) X.env) Q E s:=
 Calls.Name_function_global I.ok.kind hg (Calls.loadGlobal_global (by rw [I.ok.glob];exact I.mod.glob.keeps I.bk) hm h) hd
theorem cQ {E:Value→Shared→Prop} {pins:List (Addr×Obj)} {s:Shared} {σ:St} {H:Hp} {x:Str} {u:Value} {pos:Pos} {Q:Value→Shared→Prop} (I:Inv X pins σ H s) (hg:Gl X x) (hm:X.mg x=none) (hv:bootBuiltins x=some u) (h:Q u s)
 (hn:x≠"__name__":=by decide) (hd:(x == ("__debug__":Str))=false:=by decide):wpAny (model X.prog X.w) X.A (eval (.Name x pos) X.env) Q E s:=by
 obtain ⟨mb,h1,h2⟩:=I.mod.blt
 exact Calls.Name_function_global I.ok.kind hg (Calls.loadGlobal_builtin (by rw [I.ok.glob];exact I.mod.glob.keeps I.bk) hm (by rw [I.ok.blt];exact h1.keeps I.bk) ((h2 x hn).trans hv) h) hd
theorem fm {x:Str} {v:V} {u:Value} {pos:Pos} (hg:Gl X x) (hm:X.mg x=some u) (r:aX v u) (hd:(x == ("__debug__":Str))=false:=by decide):PE X (.Name x pos) (tC v):=
 fun _ _ _ H _ I h=>cI I hg hm ⟨v,H,I,r,h⟩ hd
theorem pe_bltn {x:Str} {v:V} {u:Value} {pos:Pos} (hg:Gl X x) (hm:X.mg x=none) (hv:bootBuiltins x=some u) (r:aX v u) (hn:x≠"__name__":=by decide) (hd:(x == ("__debug__":Str))=false:=by decide):PE X (.Name x pos) (tC v):=
 fun _ _ _ H _ I h=>cQ I hg hm hv ⟨v,H,I,r,h⟩ hn hd
variable {a b:Expr} {ta tb:TE} {pos:Pos}
def PC (X:Cx) (op:CmpOp) (a b:Expr) (t:TE):Prop:=
 ∀ (pins:List (Addr×Obj)) (s:Shared) (σ:St) (H:Hp) (Q:VK),Inv X pins σ H s→t σ H Q →
   wpAny (model X.prog X.w) X.A (eval a X.env) (fun v s₁=>wpAny (model X.prog X.w) X.A (eval b X.env) (fun u s₂=>wpAny (model X.prog X.w) X.A (compareOp op v u) (EP X pins σ Q) X.xe s₂) X.xe s₁) X.xe s
def tB (t:TE):TT:=fun σ H Q=>t σ H fun x H1=>∃ c,x = .bl c∧Q c H1
theorem pt_cmp {op:CmpOp} {t:TE} (h:PC X op a b t) (h1:behindInMarks op b=false:=by first | exact nobehind _ (by decide) (by decide) | rfl):PT X (.Compare a [op] [b] pos) (tB t):=by
 intro pins s σ H Q I hw
 refine wpAny_isTrue_Compare1 (thn (h pins s σ H _ I hw) fun v s1 h1=>thn h1 fun u s2 h2=>thn h2 fun c s3 ⟨x,H1,I1,r1,q1⟩=>?_) h1
 obtain ⟨d,rfl,q⟩:=q1
 cases r1
 exact wpAny_truthy_bool ⟨H1,I1,q⟩
theorem cA {e:Expr} {t:TE} (h:PE X e t) (he:∀ whole,isTrue e X.env whole=(do let v ← whole;standAt e.pos;holding [v] (truthy v)):=by intro _;rfl):PT X e (tB t):=by
 intro pins s σ H Q I hw
 refine isTrue_plain (thn (h pins s σ H _ I hw) fun v s1 ⟨x,H1,I1,r1,q1⟩=>?_) (he _)
 obtain ⟨d,rfl,q⟩:=q1
 cases r1
 exact wpAny_truthy_bool ⟨H1,I1,q⟩
variable {tA tB':TT} {rest:List Expr}
def tAnd (t u:TT):TT:=fun σ H Q=>t σ H fun c H1=>if c=true then u σ H1 Q else Q false H1
def tOr (t u:TT):TT:=fun σ H Q=>t σ H fun c H1=>if c=true then Q true H1 else u σ H1 Q
def tNot (t:TT):TT:=fun σ H Q=>t σ H fun c H1=>Q (!c) H1
theorem bu (ha:PT X a tA):PW X (.BoolOp .And [a] pos) tA:=by
 intro wh pins s σ H Q I h
 refine isTrue_and (thn (ha pins s σ H Q I h) fun c s1 e=>?_)
 cases c with
 | true=>exact isTrue_and_nil e
 | false=>exact e
theorem bR (ha:PT X a tA):PW X (.BoolOp .Or [a] pos) tA:=by
 intro wh pins s σ H Q I h
 refine isTrue_or (thn (ha pins s σ H Q I h) fun c s1 e=>?_)
 cases c with
 | false=>exact isTrue_or_nil e
 | true=>exact e
theorem bG (ha:PT X a tA) (hb:PW X (.BoolOp .And (b :: rest) pos) tB'):PW X (.BoolOp .And (a :: b :: rest) pos) (tAnd tA tB'):=by
 intro wh pins s σ H Q I h
 refine isTrue_and (thn (ha pins s σ H _ I h) fun c s1 ⟨H1,I1,q1⟩=>?_)
 cases c with
 | true=>exact hb wh pins s1 σ H1 Q I1 q1
 | false=>exact ⟨H1,I1,q1⟩
theorem bV (ha:PT X a tA) (hb:PW X (.BoolOp .Or (b :: rest) pos) tB'):PW X (.BoolOp .Or (a :: b :: rest) pos) (tOr tA tB'):=by
 intro wh pins s σ H Q I h
 refine isTrue_or (thn (ha pins s σ H _ I h) fun c s1 ⟨H1,I1,q1⟩=>?_)
 cases c with
 | true=>exact ⟨H1,I1,q1⟩
 | false=>exact hb wh pins s1 σ H1 Q I1 q1
theorem pt_not (ha:PT X a tA):PT X (.UnaryOp .Not a pos) (tNot tA):=by
 intro pins s σ H Q I h
 exact isTrue_not (ha pins s σ H (fun c H1=>Q (!c) H1) I h)
def tAndV (ta tb:TE):TE:=fun σ H Q=>ta σ H fun x H1=>∃ c,x = .bl c∧if c=true then tb σ H1 Q else Q (.bl false) H1
theorem pe_one {op} {t:TE} (h:PE X a t):PE X (.BoolOp op [a] pos) t:=fun pins s σ H Q I hw=>BoolOp_one (h pins s σ H Q I hw)
theorem pe_and (ha:PE X a ta) (hb:PE X (.BoolOp .And (b :: rest) pos) tb):PE X (.BoolOp .And (a :: b :: rest) pos) (tAndV ta tb):=by
 intro pins s σ H Q I h
 refine BoolOp_and (thn (ha pins s σ H _ I h) fun v s1 ⟨x,H1,I1,r1,q1⟩=>?_)
 obtain ⟨c,rfl,q1⟩:=q1
 cases r1
 refine wpAny_truthy_bool ?_
 cases c with
 | true=>exact hb pins s1 σ H1 Q I1 q1
 | false=>exact ⟨.bl false,H1,I1,rfl,q1⟩
def tIf (t:TT) (ta tb:TE):TE:=fun σ H Q=>t σ H fun c H1=>if c=true then ta σ H1 Q else tb σ H1 Q
theorem pe_ifExp {c:Expr} (hc:PT X c tA) (ha:PE X a ta) (hb:PE X b tb):PE X (.IfExp c a b pos) (tIf tA ta tb):=by
 intro pins s σ H Q I h
 refine wpAny_IfExp (thn (hc pins s σ H _ I h) fun d s1 ⟨H1,I1,q1⟩=>?_)
 cases d with
 | true=>exact ha pins s1 σ H1 Q I1 q1
 | false=>exact hb pins s1 σ H1 Q I1 q1
end
end L2
namespace L2
open PySem PySem.Spec PyProof.Rows
def SqL (K:W.Frag) (H:Hp) (a:Addr) (xs:List V):Prop:=
 Rd H a (.lst xs) ∨
  ∃ (o:Obj) (its:Array Value) (n:Nat),K.lookup a=some o∧o.cls = .type "list"∧o.dict=none∧o.data = .seq its n∧its.size≤sizeLine∧aV xs its.toList
def SqT (K:W.Frag) (H:Hp) (a:Addr) (xs:List V):Prop:=
 Rd H a (.tup xs) ∨
  ∃ (o:Obj) (its:Array Value) (n:Nat),K.lookup a=some o∧o.cls = .type "tuple"∧o.data = .seq its n∧its.size≤sizeLine∧aV xs its.toList
def absV:Value→Option V
 | .none=>some .non
 | .bool b=>some (.bl b)
 | .int i _=>some (.int i)
 | .str x _=>some (.str x)
 | .bytes b _=>some (.byt b)
 | .float b _=>some (.flt b)
 | .ref a=>some (.ref a)
 | .type n=>some (.ty n)
 | _=>none
theorem aX.abs {x:V} {u:Value} (r:aX x u):absV u=some x:=by
 cases x with
 | non=>cases r;rfl
 | bl _=>cases r;rfl
 | int _=>obtain ⟨t,rfl⟩:=r;rfl
 | str _=>obtain ⟨t,rfl⟩:=r;rfl
 | byt _=>obtain ⟨t,rfl⟩:=r;rfl
 | flt _=>obtain ⟨t,rfl⟩:=r;rfl
 | ref _=>cases r;rfl
 | ty _=>cases r;rfl
theorem aX.inj {x y:V} {u:Value} (r:aX x u) (q:aX y u):x=y:=Option.some.inj (r.abs.symm.trans q.abs)
theorem aV.inj:∀ {xs ys:List V} {us:List Value},aV xs us→aV ys us→xs=ys
 | _,_,_,.nil,.nil=>rfl
 | _,_,_,.cons r t,.cons r' t'=>by rw [r.inj r',aV.inj t t']
section
variable {X:Cx} {pins:List (Addr×Obj)} {σ:St} {H:Hp} {s:Shared} {a:Addr} {xs ys:List V}
theorem SqL.of {K:W.Frag} (h:H a=some (.lst xs)):SqL K H a xs:=.inl (.inl h)
theorem SqT.of {K:W.Frag} (h:H a=some (.tup xs)):SqT K H a xs:=.inl (.inl h)
theorem Inv.list (I:Inv X pins σ H s) (h:SqL X.K H a xs):∃ its:List Value,aV xs its∧PlainL s.heap a its.toArray∧xs.length≤sizeLine:=by
 rcases h with h | ⟨o,its,n,hk,hc,hd,hs,hz,r⟩
 ·obtain ⟨z,its,n,r,e⟩:=h.ok I.hok
  exact ⟨its,r,⟨_,n,e,rfl,rfl,rfl⟩,z⟩
 ·refine ⟨its.toList,r,⟨o,n,I.kIn a o hk,hc,hd,by simpa using hs⟩,?_⟩
  have e:=r.length
  simp only [Array.length_toList] at e
  omega
theorem Inv.tuple (I:Inv X pins σ H s) (h:SqT X.K H a xs):∃ its:List Value,aV xs its∧IsTup s.heap a its.toArray∧xs.length≤sizeLine:=by
 rcases h with h | ⟨o,its,n,hk,hc,hs,hz,r⟩
 ·obtain ⟨z,its,r,p⟩:=h.ok I.hok
  exact ⟨its,r,p,z⟩
 ·refine ⟨its.toList,r,⟨o,I.kIn a o hk,hc,n,by simpa using hs⟩,?_⟩
  have e:=r.length
  simp only [Array.length_toList] at e
  omega
theorem Inv.list_inj (I:Inv X pins σ H s) (h:SqL X.K H a xs) (h':SqL X.K H a ys):xs=ys:=by
 obtain ⟨its,r,⟨o,n,e,_,_,d⟩,_⟩:=I.list h
 obtain ⟨its',r',⟨o',n',e',_,_,d'⟩,_⟩:=I.list h'
 rw [e] at e';cases e'
 rw [d] at d'
 injection d' with d1 _
 have:its=its':=by simpa using congrArg Array.toList d1
 subst this
 exact r.inj r'
theorem Inv.tuple_inj (I:Inv X pins σ H s) (h:SqT X.K H a xs) (h':SqT X.K H a ys):xs=ys:=by
 obtain ⟨its,r,⟨o,e,_,n,d⟩,_⟩:=I.tuple h
 obtain ⟨its',r',⟨o',e',_,n',d'⟩,_⟩:=I.tuple h'
 rw [e] at e';cases e'
 rw [d] at d'
 injection d' with d1 _
 have:its=its':=by simpa using congrArg Array.toList d1
 subst this
 exact r.inj r'
end
abbrev Cx.wish (X:Cx) (E:Value→Shared→Prop):Cx:={ X with xe:=E }
abbrev Cx.nox (X:Cx):Cx:=X.wish fun _ _=>False
theorem Cx.Ok.wish {X:Cx} (ok:X.Ok) (E:Value→Shared→Prop):(X.wish E).Ok:=
 ⟨ok.mod,ok.kind,ok.glob,ok.blt,ok.above,ok.inj,ok.has,ok.cab,ok.hd,ok.frames,ok.stk,ok.exf,ok.bs,ok.bsz,ok.noex,ok.exfs,ok.funs,ok.frf⟩
theorem Cx.Ok.unwish {X:Cx} {E:Value→Shared→Prop} (ok:(X.wish E).Ok):X.Ok:=
 ⟨ok.mod,ok.kind,ok.glob,ok.blt,ok.above,ok.inj,ok.has,ok.cab,ok.hd,ok.frames,ok.stk,ok.exf,ok.bs,ok.bsz,ok.noex,ok.exfs,ok.funs,ok.frf⟩
section
variable {X:Cx} {pins:List (Addr×Obj)} {σ:St} {H:Hp} {s:Shared} {E:Value→Shared→Prop}
theorem Inv.wish (I:Inv X pins σ H s) (E:Value→Shared→Prop):Inv (X.wish E) pins σ H s:=⟨I.ok.wish E,I.os,I.bare,I.base,I.loc,I.cell,I.free,I.freeC,I.pin,I.hok,I.len⟩
theorem Inv.unwish (I:Inv (X.wish E) pins σ H s):Inv X pins σ H s:=⟨I.ok.unwish,I.os,I.bare,I.base,I.loc,I.cell,I.free,I.freeC,I.pin,I.hok,I.len⟩
theorem SP.unwish {D:eO} {f:Flow} {s':Shared} (h:SP (X.wish E) pins D f s'):SP X pins D f s':=by
 cases f with
 | next=>obtain ⟨σ',H',I,q⟩:=h;exact ⟨σ',H',I.unwish,q⟩
 | brk=>obtain ⟨σ',H',I,q⟩:=h;exact ⟨σ',H',I.unwish,q⟩
 | cont=>obtain ⟨σ',H',I,q⟩:=h;exact ⟨σ',H',I.unwish,q⟩
 | ret u=>obtain ⟨v,σ',H',I,r,q⟩:=h;exact ⟨v,σ',H',I.unwish,r,q⟩
theorem PSs.nox {st:List Stmt} {t:TS} (h:PSs X.nox st t):PSs X st t:=fun pins s σ H D I hw=>
 wpAny_mono (h pins s σ H D (I.wish _) hw) (fun _ _ q=>q.unwish) fun _ _ z=>False.elim z
end
section
variable {X:Cx} {st:Stmt} {rest:List Stmt} {t u:TS} {e:Expr} {te:TE} {pos:Pos}
def iJ:TS:=fun D σ H=>D.nx σ H
def tSeq (t u:TS):TS:=fun D σ H=>t { D with nx:=u D } σ H
theorem aq:PSs X [] iJ:=fun _ _ σ H _ I h=>wpAny_execs_nil ⟨σ,H,I,h⟩
theorem ae (h1:PS X st t) (h2:PSs X rest u):PSs X (st :: rest) (tSeq t u):=by
 intro pins s σ H D I h
 refine wpAny_execs_cons (thn (h1 pins s σ H { D with nx:=u D } I h) fun f s1 q=>?_)
 cases f with
 | next=>
   obtain ⟨σ',H',I',q⟩:=q
   exact h2 pins s1 σ' H' D I' q
 | ret v=>exact q
 | brk=>exact q
 | cont=>exact q
theorem ah (h1:PS X st t):PSs X [st] t:=by
 intro pins s σ H D I h
 refine wpAny_execs_cons (thn (h1 pins s σ H D I h) fun f s1 q=>?_)
 cases f with
 | next=>exact wpAny_execs_nil q
 | ret v=>exact q
 | brk=>exact q
 | cont=>exact q
theorem Inv.quiet {pins:List (Addr×Obj)} {σ:St} {H:Hp} {s:Shared} (I:Inv X pins σ H s):interactive X.env=false:=by simp [interactive,I.ok.kind]
def tDrop (te:TE):TS:=fun D σ H=>te σ H fun _ H1=>D.nx σ H1
theorem bD (he:PE X e te) (hs:swapsWith e none pos.line X.env=pure false:=by rfl):PS X (.Expr e pos) (tDrop te):=by
 intro pins s σ H D I h
 exact wpAny_Expr_any (thn (he pins s σ H _ I h) fun v s1 ⟨x,H1,I1,r1,q1⟩=>⟨σ,H1,I1,q1⟩) I.quiet hs
def tRet (te:TE):TS:=fun D σ H=>te σ H D.rt
theorem ao (he:PE X e te):PS X (.Return (some e) pos) (tRet te):=by
 intro pins s σ H D I h
 exact wpAny_Return_some (thn (he pins s σ H _ I h) fun v s1 ⟨x,H1,I1,r1,q1⟩=>⟨x,σ,H1,I1,r1,q1⟩)
def tIfS (c:TT) (t u:TS):TS:=fun D σ H=>c σ H fun b H1=>if b=true then t D σ H1 else u D σ H1
theorem aC {c:Expr} {a b:List Stmt} {tc:TT} (hc:PT X c tc) (ha:PSs X a t) (hb:PSs X b u):PS X (.If c a b pos) (tIfS tc t u):=by
 intro pins s σ H D I h
 refine wpAny_If (thn (hc pins s σ H _ I h) fun d s1 ⟨H1,I1,q1⟩=>?_)
 cases d with
 | true=>exact ha pins s1 σ H1 D I1 q1
 | false=>exact hb pins s1 σ H1 D I1 q1
def tNever:TS:=fun _ _ _=>False
theorem jx {sts:List Stmt}:PSs X sts tNever:=fun _ _ _ _ _ _ h=>h.elim
end
abbrev TG:=V→St→Hp→(St→Hp→Prop)→Prop
abbrev TGs:=List V→St→Hp→(St→Hp→Prop)→Prop
def PG (X:Cx) (target:Expr) (t:TG):Prop:=
 ∀ (pins:List (Addr×Obj)) (s:Shared) (σ:St) (H:Hp) (v:V) (u:Value) (Q:St→Hp→Prop),Inv X pins σ H s→aX v u→t v σ H Q →
   wpAny (model X.prog X.w) X.A (assign target X.env u) (fun _ s'=>∃ σ' H',Inv X pins σ' H' s'∧Q σ' H') X.xe s
def PGs (X:Cx) (ts:List Expr) (t:TGs):Prop:=
 ∀ (pins:List (Addr×Obj)) (s:Shared) (σ:St) (H:Hp) (vs:List V) (us:List Value) (Q:St→Hp→Prop),Inv X pins σ H s→aV vs us→t vs σ H Q →
   wpAny (model X.prog X.w) X.A (assignInOrder ((assignEach ts X.env).map (·.2)) us) (fun _ s'=>∃ σ' H',Inv X pins σ' H' s'∧Q σ' H') X.xe s
abbrev TSet:=V→V→V→Hp→(Hp→Prop)→Prop
def PSet (X:Cx) (t:TSet):Prop:=
 ∀ (pins:List (Addr×Obj)) (s:Shared) (σ:St) (H:Hp) (o i v:V) (ov iv u:Value) (Q:Hp→Prop),Inv X pins σ H s→aX o ov→aX i iv→aX v u→t o i v H Q →
   wpAny (model X.prog X.w) X.A (setItem ov iv u) (fun _ s'=>∃ H',Inv X pins σ H' s'∧Q H') X.xe s
section
variable {X:Cx} {pos:Pos}
def bH (i:Nat):TG:=fun v σ H Q=>Q (σ.set i (some v)) H
theorem aZ {i:Nat} {x:Str} (hN:X.N.Nodup) (hi:X.N[i]? = some x) (hx:Loc X.env.scope x) (hf:X.fn x=true∨X.env.scope.names.lookup x=some .local:=by first | exact .inl rfl | exact .inr rfl | assumption):PG X (.Name x pos) (bH i):=by
 intro pins s σ H v u Q I r h
 exact wpAny_assign_Name (fB I hN hi hx r (fun s' I'=>⟨_,H,I',h⟩) hf)
def gNil:TGs:=fun vs σ H Q=>vs = []∧Q σ H
def kX (t:TG) (u:TGs):TGs:=fun vs σ H Q=>∃ v r,vs=v :: r∧t v σ H fun σ' H'=>u r σ' H' Q
theorem fq:PGs X [] gNil:=by
 intro pins s σ H vs us Q I r h
 obtain ⟨e,h⟩:=h
 subst e
 cases r
 exact assignInOrder_nil ⟨σ,H,I,h⟩
theorem bL {e:Expr} {es:List Expr} {t:TG} {u:TGs} (h1:PG X e t) (h2:PGs X es u)
 (hs:(assignEach (e :: es) X.env).map (·.2)=assign e X.env :: (assignEach es X.env).map (·.2):=by rfl):PGs X (e :: es) (kX t u):=by
 intro pins s σ H vs us Q I r h
 obtain ⟨v,vr,e1,h⟩:=h
 subst e1
 cases r with
 | cons r rr=>
   rw [hs]
   refine assignInOrder_cons (thn (h1 pins s σ H _ _ _ I r h) fun _ s1 ⟨σ1,H1,I1,q1⟩=>?_)
   exact h2 pins s1 σ1 H1 _ _ Q I1 rr q1
def gTup (K:W.Frag) (n:Nat) (t:TGs):TG:=fun v σ H Q=>∃ a xs,v = .ref a∧SqT K H a xs∧xs.length=n∧t xs σ H Q
theorem iB {es:List Expr} {k:Nat} {t:TGs} {n:Nat} (hc:X.calm=true) (h:PGs X es t)
 (hn:(assignEach es X.env).length=n:=by rfl) (hst:(assignEach es X.env).findIdx? (·.1)=none:=by rfl):PG X (.Tuple es k pos) (gTup X.K n t):=by
 intro pins s σ H v u Q I r hw
 obtain ⟨a,xs,e1,hq,hl,hw⟩:=hw
 subst e1
 cases r
 obtain ⟨its,rv,ht,hz⟩:=I.tuple hq
 refine assign_Tuple_tuple (I.ok.hd hc) ht (by simp [hn,← hl,rv.length]) hst fun h' hx=>?_
 have I1:Inv X pins σ H { s with heap:=h' }:=I.kept (t':=s.toks) fun b o e=>hx b o (Nat.ne_of_lt (Heap.lt_size e)) e
 exact h pins _ σ H xs _ Q I1 (by simpa using rv) hw
def gSub (to ti:TE) (t:TSet):TG:=fun v σ H Q=>to σ H fun o H1=>ti σ H1 fun i H2=>t o i v H2 fun H3=>Q σ H3
theorem pg_sub {o i:Expr} {to ti:TE} {t:TSet} (ho:PE X o to) (hi:PE X i ti) (hs:PSet X t)
 (ha:∀ v,assign (.Subscript o i pos) X.env v=(do
  let ov ← holding [v] (eval o X.env)
  let iv ← holding [v,ov] (eval i X.env)
  standAt pos
  holding [v,ov,iv] (setItem ov iv v)
  release [v,ov,iv] []):=by intro _;rfl):PG X (.Subscript o i pos) (gSub to ti t):=by
 intro pins s σ H v u Q I r h
 rw [ha]
 refine wpAny_bind (wpAny_holding (thn (ho pins s σ H _ I h) fun ov s1 ⟨x,H1,I1,r1,q1⟩=>?_))
 refine wpAny_bind (wpAny_holding (thn (hi pins s1 σ H1 _ I1 q1) fun iv s2 ⟨y,H2,I2,r2,q2⟩=>?_))
 refine wpAny_bind (wpAny_standAt (wpAny_bind (wpAny_holding (thn (hs pins s2 σ H2 x y v ov iv u _ I2 r1 r2 r q2) fun _ s3 ⟨H3,I3,q3⟩=>?_))))
 exact wpAny_release ⟨σ,H3,I3,q3⟩
def tAsg (te:TE) (g:TG):TS:=fun D σ H=>te σ H fun x H1=>g x σ H1 D.nx
theorem ps_asg {tg e:Expr} {te:TE} {g:TG} (he:PE X e te) (hg:PG X tg g) (hs:swapsWithSole [tg] e pos.line X.env=pure false:=by rfl) (hw:swappedStores [tg] e X.env=pure none:=by rfl)
 (h1:(assignEach [tg] X.env).map (·.2) = [assign tg X.env]:=by rfl):PS X (.Assign [tg] e pos) (tAsg te g):=by
 intro pins s σ H D I h
 refine wpAny_Assign_stores (thn (he pins s σ H _ I h) fun v s1 ⟨x,H1,I1,r1,q1⟩=>?_) hs hw
 rw [h1]
 exact thn (hg pins s1 σ H1 x v _ I1 r1 q1) fun _ s2 q=>q
theorem ps_set {i:Nat} {x:Str} {e:Expr} {te:TE} {pos':Pos} (hN:X.N.Nodup) (hi:X.N[i]? = some x) (hx:Loc X.env.scope x) (he:PE X e te) (hs:swapsWith e (some (.Name x pos')) pos.line X.env=pure false:=by rfl) (hf:X.fn x=true∨X.env.scope.names.lookup x=some .local:=by first | exact .inl rfl | exact .inr rfl | assumption) :
 PS X (.Assign [.Name x pos'] e pos) (tAsg te (bH i)):=by
 intro pins s σ H D I h
 refine wpAny_Assign_Name (thn (he pins s σ H _ I h) fun v s1 ⟨y,H1,I1,r1,q1⟩=>?_) hs
 exact fB I1 hN hi hx r1 (fun s2 I2=>⟨_,H1,I2,q1⟩) hf
end
structure It where
 go:Nat→Hp→Prop
 yld:Nat→Hp→V→Hp→Prop
 stop:Nat→Hp→Prop
def dH (X:Cx) (pins:List (Addr×Obj)) (H:Hp) (b:Addr):Prop:=
 H b=none∧b≠X.env.locals∧b ∉ X.fs∧(b∈X.ex∨X.s₀.heap.objs.size≤b)∧(∀ x c,X.env.cells.lookup x=some c→c≠b)∧∀ p∈X.pn ++ pins,p.1≠b
theorem Inv.fpOk {X:Cx} {pins:List (Addr×Obj)} {σ:St} {H H':Hp} {s:Shared} {b:Addr} (I:Inv X pins σ H s) (hb:s.heap.objs.size≤b) (hn:H' b=none):dH X pins H' b:=by
 refine ⟨hn,Nat.ne_of_gt (Nat.lt_of_lt_of_le I.lt hb),I.nofs hb,.inr (Nat.le_trans I.sz hb),fun x c e z=>?_,fun p hp z=>?_⟩
 ·obtain ⟨v,q⟩:=I.cell x c e
  exact absurd (Nat.lt_of_lt_of_le q.lt (by rw [z];exact hb)) (Nat.lt_irrefl _)
 ·exact absurd (Nat.lt_of_lt_of_le (Heap.lt_size (I.pin p hp).1) (by rw [z];exact hb)) (Nat.lt_irrefl _)
structure iP (P:Program) (w:World) (K:W.Frag) (tg:Expr) (J:It) (fp:List Addr) (it:Addr) (tn:Nat→Heap→Prop):Prop where
 mem:it∈fp
 obj:∀ i h,tn i h→∀ b∈fp,∃ o,h.get? b=some o∧∀ v,o.data≠.cell v
 keep:∀ i h h',tn i h→(∀ b∈fp,∀ o,h.get? b=some o→h'.get? b=some o)→tn i h'
 item:∀ (X:Cx),X.prog=P→X.w=w→X.K=K→X.calm=true→∀ (i:Nat) (pins:List (Addr×Obj)) (s:Shared) (σ:St) (H:Hp) (E:Value→Shared→Prop),Inv X pins σ H s→(∀ b∈fp,dH X pins H b)→tn i s.heap→J.go i H →
  wpAny (model P w) X.A (pyNext (.ref it)) (fun r s1=>∃ u,r=some u ∧
   wpAny (model P w) X.A (letOwnedTupleGo tg (.ref it) u) (fun _ s2=>∃ x H',Inv X pins σ H' s2∧aX x u∧J.yld i H x H'∧tn (i+1) s2.heap∧∀ b∈fp,H' b=none) E s1) E s
 done:∀ (X:Cx),X.prog=P→X.w=w→X.K=K→X.calm=true→∀ (i:Nat) (pins:List (Addr×Obj)) (s:Shared) (σ:St) (H:Hp) (E:Value→Shared→Prop),Inv X pins σ H s→(∀ b∈fp,dH X pins H b)→tn i s.heap→J.stop i H →
  wpAny (model P w) X.A (pyNext (.ref it)) (fun r s1=>r=none∧Inv X pins σ H s1) E s
 self:∀ (A:Around) (i:Nat) (s:Shared) (Q:Value→Shared→Prop) (E:Value→Shared→Prop),tn i s.heap→Q (.ref it) s→wpAny (model P w) A (pyIter (.ref it)) Q E s
abbrev TI:=St→Hp→(It→Hp→Prop)→Prop
def PIE (X:Cx) (pins:List (Addr×Obj)) (σ:St) (tg:Expr) (R:It→Hp→Prop) (itv:Value) (s2:Shared):Prop:=
 ∃ (it:Addr) (fp:List Addr) (tn:Nat→Heap→Prop) (J:It) (H':Hp),itv = .ref it∧Inv X pins σ H' s2∧iP X.prog X.w X.K tg J fp it tn∧tn 0 s2.heap∧(∀ b∈fp,dH X pins H' b)∧R J H'
def PI (X:Cx) (tg iter:Expr) (wi:TI):Prop:=
 ∀ (pins:List (Addr×Obj)) (s:Shared) (σ:St) (H:Hp) (R:It→Hp→Prop),Inv X pins σ H s→wi σ H R →
   wpAny (model X.prog X.w) X.A (eval iter X.env) (fun v s1=>wpAny (model X.prog X.w) X.A (pyIter v) (PIE X pins σ tg R) X.xe s1) X.xe s
theorem go_of {M:Model} {A:Around} {E:Value→Shared→Prop} {s:Shared} {tg:Expr} {it:Addr} {u:Value} {o:Obj} {n:String} {vs:Array Value} {Q:Unit→Shared→Prop} (ho:s.heap.get? it=some o) (hc:o.cls = .type n) (hd:o.data = .fields vs)
 (hn:["enumerate","zip","dict_itemiterator","dict_reverseitemiterator","odict_iterator","itertools.zip_longest","itertools.pairwise"].contains n=false) (hQ:Q () s):wpAny M A (letOwnedTupleGo tg (.ref it) u) Q E s:=by
 unfold letOwnedTupleGo
 cases tg <;> first
  | exact wpAny_pure hQ
  | (cases u <;> first
   | exact wpAny_pure hQ
   | (refine wpAny_bind (wpAny_load ho ?_)
      rw [hc,hd]
      show wpAny M A (if (["enumerate","zip","dict_itemiterator","dict_reverseitemiterator","odict_iterator","itertools.zip_longest","itertools.pairwise"].contains n && vs[0]? == some (rawInt _))=true then _ else _) Q E s
      rw [if_neg (by intro h;rw [hn,Bool.false_and] at h;cases h)]
      exact wpAny_pure hQ))
def Itl (K:W.Frag) (a:Addr):It:=
 ⟨fun i H=>∃ xs x,SqL K H a xs∧xs[i]? = some x,fun i H x H'=>H'=H∧∀ xs,SqL K H a xs→xs[i]? = some x,fun i H=>∃ xs,SqL K H a xs∧xs.length≤i⟩
def Itt (K:W.Frag) (a:Addr):It:=
 ⟨fun i H=>∃ xs x,SqT K H a xs∧xs[i]? = some x,fun i H x H'=>H'=H∧∀ xs,SqT K H a xs→xs[i]? = some x,fun i H=>∃ xs,SqT K H a xs∧xs.length≤i⟩
def Itr (lo:Int) (n:Nat):It:=⟨fun i _=>i<n,fun i H x H'=>H'=H∧x = .int (lo+i),fun i _=>n≤i⟩
theorem turn_list {P:Program} {w:World} {K:W.Frag} {tg:Expr} (a it:Addr):iP P w K tg (Itl K a) [it] it (fun i h=>h.IsListIter it a i) where
 mem:=by simp
 obj:=fun i h st b hb=>by
  have e:b=it:=by simpa using hb
  subst e
  obtain ⟨o,e,c,d⟩:=st
  exact ⟨o,e,fun v z=>by rw [d] at z;cases z⟩
 keep:=fun i h h' st k=>st.at fun o e=>k it (by simp) o e
 item:=by
  intro X hP hw hK hc i pins s σ H E I hf st hg
  subst hP hw hK
  obtain ⟨xs,x,hq,hx⟩:=hg
  obtain ⟨its,rv,p,hz⟩:=I.list hq
  obtain ⟨u,hu,ru⟩:=rv.get hx
  obtain ⟨f0,f1,f2,f3,f4,f5⟩:=hf it (by simp)
  refine wpAny_pyNext_list_item st p.isList (x:=u) (by simpa using hu) fun h' st' sb=>?_
  have I1:Inv X pins σ H { s with heap:=h' }:=I.turned (t':=s.toks) (fun b o hb e=>(sb.2 b hb).trans e) f0 f1 f3 f4 f5
  obtain ⟨o,e,c,d⟩:=id st'
  exact ⟨u,rfl,go_of (s:={ s with heap:=h' }) e c d (by decide) ⟨x,H,I1,ru,⟨rfl,fun ys hy=>by rw [I.list_inj hy hq];exact hx⟩,st',fun b hb=>(hf b hb).1⟩⟩
 done:=by
  intro X hP hw hK hc i pins s σ H E I hf st hg
  subst hP hw hK
  obtain ⟨xs,hq,hx⟩:=hg
  obtain ⟨its,rv,p,hz⟩:=I.list hq
  obtain ⟨f0,f1,f2,f3,f4,f5⟩:=hf it (by simp)
  have hl:=rv.length
  exact wpAny_pyNext_list_end (I.ok.hd hc) st p.isList (by simp;omega) fun h' eb=>⟨rfl,I.turned (t':=s.toks) (fun b o hb e=>eb b o hb e) f0 f1 f3 f4 f5⟩
 self:=fun _ _ _ _ _ st h=>wpAny_pyIter_listiter st h
theorem turn_tuple {P:Program} {w:World} {K:W.Frag} {tg:Expr} (a it:Addr):iP P w K tg (Itt K a) [it] it (fun i h=>h.IsTupleIter it a i) where
 mem:=by simp
 obj:=fun i h st b hb=>by
  have e:b=it:=by simpa using hb
  subst e
  obtain ⟨o,e,c,d⟩:=st
  exact ⟨o,e,fun v z=>by rw [d] at z;cases z⟩
 keep:=fun i h h' st k=>st.at fun o e=>k it (by simp) o e
 item:=by
  intro X hP hw hK hc i pins s σ H E I hf st hg
  subst hP hw hK
  obtain ⟨xs,x,hq,hx⟩:=hg
  obtain ⟨its,rv,p,hz⟩:=I.tuple hq
  obtain ⟨u,hu,ru⟩:=rv.get hx
  obtain ⟨f0,f1,f2,f3,f4,f5⟩:=hf it (by simp)
  refine wpAny_pyNext_tuple_item st (show s.heap.IsTuple a its.toArray from p) (x:=u) (by simpa using hu) fun h' st' sb=>?_
  have I1:Inv X pins σ H { s with heap:=h' }:=I.turned (t':=s.toks) (fun b o hb e=>(sb.2 b hb).trans e) f0 f1 f3 f4 f5
  obtain ⟨o,e,c,d⟩:=id st'
  exact ⟨u,rfl,go_of (s:={ s with heap:=h' }) e c d (by decide) ⟨x,H,I1,ru,⟨rfl,fun ys hy=>by rw [I.tuple_inj hy hq];exact hx⟩,st',fun b hb=>(hf b hb).1⟩⟩
 done:=by
  intro X hP hw hK hc i pins s σ H E I hf st hg
  subst hP hw hK
  obtain ⟨xs,hq,hx⟩:=hg
  obtain ⟨its,rv,p,hz⟩:=I.tuple hq
  obtain ⟨f0,f1,f2,f3,f4,f5⟩:=hf it (by simp)
  have hl:=rv.length
  exact wpAny_pyNext_tuple_end (I.ok.hd hc) st (show s.heap.IsTuple a its.toArray from p) (by simp;omega) fun h' eb=>⟨rfl,I.turned (t':=s.toks) (fun b o hb e=>eb b o hb e) f0 f1 f3 f4 f5⟩
 self:=fun _ _ _ _ _ st h=>wpAny_pyIter_tupleiter st h
theorem turn_range {P:Program} {w:World} {K:W.Frag} {tg:Expr} (it:Addr) (lo:Int) (n:Nat):iP P w K tg (Itr lo n) [it] it (fun i h=>IsRangeIter h it (lo+(i:Nat) * 1) ((n:Int) - (i:Nat)) 1) where
 mem:=by simp
 obj:=fun i h st b hb=>by
  have e:b=it:=by simpa using hb
  subst e
  exact ⟨_,st,fun v z=>by
   have z':Data.fields _=Data.cell v:=z
   cases z'⟩
 keep:=fun i h h' st k=>k it (by simp) _ st
 item:=by
  intro X hP hw hK hc i pins s σ H E I hf st hg
  subst hP hw hK
  obtain ⟨f0,f1,f2,f3,f4,f5⟩:=hf it (by simp)
  have W:=Walks.range (prog:=X.prog) (w:=X.w) (I.ok.hd hc) it lo 1 n
  refine W.item i s _ _ hg st fun v h' tk hv st' kk=>?_
  obtain ⟨t,rfl⟩:=hv
  have I1:Inv X pins σ H { s with heap:=h',toks:=tk }:=I.turned (fun b o hb e=>kk b o (by simpa using hb) e) f0 f1 f3 f4 f5
  refine ⟨_,rfl,go_of (s:={ s with heap:=h',toks:=tk }) (n:="range_iterator") st' rfl rfl (by decide) ⟨.int (lo+i),H,I1,⟨t,?_⟩,⟨rfl,rfl⟩,st',fun b hb=>(hf b hb).1⟩⟩
  rw [Int.mul_one]
 done:=by
  intro X hP hw hK hc i pins s σ H E I hf st hg
  subst hP hw hK
  obtain ⟨f0,f1,f2,f3,f4,f5⟩:=hf it (by simp)
  exact wpAny_pyNext_range_end (I.ok.hd hc) st (by have:n≤i:=hg;omega) fun h' eb=>⟨rfl,I.turned (t':=s.toks) (fun b o hb e=>eb b o hb e) f0 f1 f3 f4 f5⟩
 self:=fun _ _ _ _ _ st h=>wpAny_pyIter_rangeiter st h
end L2
namespace L2
open PySem PySem.Spec PyProof.Rows
section
variable {X:Cx} {tg:Expr}
theorem lD {pins:List (Addr×Obj)} {σ:St} {H:Hp} {s:Shared} {R:It→Hp→Prop} {E:Value→Shared→Prop} {lo hi:Int} {t u v:Tok} {tk:Nat} (I:Inv X pins σ H s) (h1:-(2 ^ 62)≤lo) (h2:lo<2 ^ 62) (h3:-(2 ^ 62)≤hi) (h4:hi<2 ^ 62)
 (q:R (Itr lo (hi - lo).toNat) H):wpAny (model X.prog X.w) X.A (pyIter (.ref s.heap.objs.size)) (PIE X pins σ tg R) E { s with heap:=s.heap.push { cls:=.type "range",data:=.fields #[.int lo t,.int hi u,.int 1 v] },toks:=tk }:=by
 refine wpAny_pyIter_range (IsRange.new ..) (small_one h1 h2 h3 h4) ?_
 have I1:Inv X pins σ H { s with heap:=s.heap.push { cls:=.type "range",data:=.fields #[.int lo t,.int hi u,.int 1 v] },toks:=tk }:=I.kept fun b o e=>Heap.get?_push_of_some _ e
 refine ⟨(s.heap.push { cls:=.type "range",data:=.fields #[.int lo t,.int hi u,.int 1 v] }).objs.size,[(s.heap.push { cls:=.type "range",data:=.fields #[.int lo t,.int hi u,.int 1 v] }).objs.size],_,_,H,rfl,
  I1.kept (t':=tk) fun b o e=>Heap.get?_push_of_some _ e,turn_range _ lo (hi - lo).toNat,?_,fun b hb=>?_,q⟩
 ·have e1:lo+((0:Nat):Int) * 1=lo:=by simp
  have e2:(((hi - lo).toNat:Nat):Int) - ((0:Nat):Int)=Builtin.Range.rangeSize lo hi 1:=by rw [rangeSize_one];split <;> omega
  show IsRangeIter _ _ (lo+((0:Nat):Int) * 1) ((((hi - lo).toNat:Nat):Int) - ((0:Nat):Int)) 1
  rw [e1,e2]
  exact Heap.get?_push_size _ rfl
 ·have e:b=(s.heap.push { cls:=.type "range",data:=.fields #[.int lo t,.int hi u,.int 1 v] }).objs.size:=by simpa using hb
  subst e
  exact I1.fpOk (Nat.le_refl _) (I1.hok.fresh (Nat.le_refl _))
def iRng1 (ta:TA):TI:=fun σ H R=>ta σ H fun vs H1=>∃ j:Int,vs = [.int j]∧-(2 ^ 62)≤j∧j<2 ^ 62∧R (Itr 0 j.toNat) H1
def iRng2 (ta:TA):TI:=fun σ H R=>ta σ H fun vs H1=>∃ i j:Int,vs = [.int i,.int j]∧(-(2 ^ 62)≤i∧i<2 ^ 62∧-(2 ^ 62)≤j∧j<2 ^ 62)∧R (Itr i (j - i).toNat) H1
theorem dh {a:Expr} {ta:TA} {p pos:Pos} (hg:Gl X "range") (hm:X.mg "range" = none) (ha:PA X [a] ta) (hs:starEach [a] X.env = [(false,eval a X.env)]:=by rfl):PI X tg (.Call (.Name "range" p) [a] [] pos) (iRng1 ta):=by
 intro pins s σ H R I h
 refine Call_ (cQ I hg hm boot_range (PyProof.Rows.callWith_type1 (thn (ha pos pins s σ H _ I h) fun us s1 ⟨vs,H1,I1,r1,q1⟩=>?_) hs rfl))
 obtain ⟨j,e,q1,q2,q⟩:=q1
 subst e
 cases r1 with
 | cons r rr=>
   cases rr
   obtain ⟨t,rfl⟩:=r
   exact call_range_1 (lD I1 (by omega) (by omega) q1 q2 (by simpa using q))
theorem gb {a b:Expr} {ta:TA} {p pos:Pos} (hg:Gl X "range") (hm:X.mg "range" = none) (ha:PA X [a,b] ta) (hs:starEach [a,b] X.env = [(false,eval a X.env),(false,eval b X.env)]:=by rfl) (hs2:starEach [b] X.env = [(false,eval b X.env)]:=by rfl) :
 PI X tg (.Call (.Name "range" p) [a,b] [] pos) (iRng2 ta):=by
 intro pins s σ H R I h
 refine Call_ (cQ I hg hm boot_range (PyProof.Rows.callWith_type1 (thn (ha pos pins s σ H _ I h) fun us s1 ⟨vs,H1,I1,r1,q1⟩=>?_) (by rw [hs,hs2]) (by rw [hs2];rfl)))
 obtain ⟨i,j,e,⟨q1,q2,q3,q4⟩,q⟩:=q1
 subst e
 cases r1 with
 | cons r rr=>
   cases rr with
   | cons r' rr=>
     cases rr
     obtain ⟨t,rfl⟩:=r
     obtain ⟨t',rfl⟩:=r'
     exact call_range_2 (lD I1 q1 q2 q3 q4 q)
def tFor (wi:TI) (g:TG) (tb:TS):TS:=fun D σ H=>wi σ H fun J H1=>∃ W:Nat→Nat→St→Hp→Prop,(∃ m,W 0 m σ H1)∧∀ i m σ H,W i m σ H →
 (J.stop i H∧D.nx σ H)∨(J.go i H∧∃ N:St→Hp→Prop,(∀ σ' H',N σ' H'→∃ m',m'<m∧W (i+1) m' σ' H')∧∀ x H',J.yld i H x H'→g x σ H' fun σ2 H2=>tb { D with nx:=N,ct:=N,bk:=D.nx } σ2 H2)
def iC (fp:List Addr) (h:Heap):List (Addr×Obj):=fp.filterMap fun b=>(h.get? b).map fun o=>(b,o)
theorem dz {fp:List Addr} {h:Heap} {b:Addr} {o:Obj} (hb:b∈fp) (e:h.get? b=some o):(b,o)∈iC fp h:=List.mem_filterMap.mpr ⟨b,hb,by rw [e];rfl⟩
theorem of_pinsAt {fp:List Addr} {h:Heap} {p:Addr×Obj} (hp:p∈iC fp h):p.1∈fp∧h.get? p.1=some p.2:=by
 obtain ⟨b,hb,e⟩:=List.mem_filterMap.mp hp
 cases q:h.get? b with
 | none=>rw [q] at e;cases e
 | some o=>
   rw [q] at e
   have e':(b,o)=p:=Option.some.inj e
   subst e'
   exact ⟨hb,q⟩
theorem Inv.pinned {pins:List (Addr×Obj)} {σ:St} {H:Hp} {s:Shared} {fp:List Addr} (I:Inv X pins σ H s) (hf:∀ b∈fp,dH X pins H b) (ho:∀ b∈fp,∃ o,s.heap.get? b=some o∧∀ v,o.data≠.cell v):Inv X (pins ++ iC fp s.heap) σ H s:=
 I.pins_of fun p hp=>(List.mem_append.mp hp).elim (fun z=>I.pin p (List.mem_append_right _ z)) fun z=>by
   obtain ⟨hb,e⟩:=of_pinsAt z
   obtain ⟨f0,f1,f2,_⟩:=hf p.1 hb
   obtain ⟨o,e',d⟩:=ho p.1 hb
   rw [e] at e';cases e'
   exact ⟨e,f0,f1,f2,d⟩
theorem Inv.unpinned {pins pl:List (Addr×Obj)} {σ:St} {H:Hp} {s:Shared} (I:Inv X (pins ++ pl) σ H s):Inv X pins σ H s:=I.pins_of fun p hp=>I.pin p (List.mem_append_right _ (List.mem_append_left _ hp))
theorem cU {iter:Expr} {body:List Stmt} {wi:TI} {g:TG} {tb:TS} {pos:Pos} (hp:PassesOwn (model X.prog X.w) X.A X.env X.xe) (hc:X.calm=true) (hi:PI X tg iter wi) (hg:PG X tg g) (hb:PSs X body tb)
 (hs:∀ x,foldedSetIterable iter X.env x=pure x:=by intro _;rfl):PS X (.For tg iter body [] pos) (tFor wi g tb):=by
 intro pins s σ H D I h
 refine wpAny_For (thn (hi pins s σ H _ I h) fun v s1 h1=>thn h1 fun itv s2 h2=>?_) hs
 obtain ⟨it,fp,tn,J,H2,e,I2,T,st2,f2,W,⟨m0,w0⟩,turn⟩:=h2
 subst e
 have stat:∀ {H':Hp},(∀ b∈fp,H' b=none)→∀ b∈fp,dH X pins H' b:=fun hn b hb=>⟨hn b hb,(f2 b hb).2⟩
 refine codeAny_forLoop_any (fun n s'=>∃ i σ' H',Inv X pins σ' H' s'∧tn i s'.heap∧(∀ b∈fp,H' b=none)∧W i n σ' H') ?_ m0 ⟨0,σ,H2,I2,st2,fun b hb=>(f2 b hb).1,w0⟩
 rintro n s3 ⟨i,σ3,H3,I3,st3,fr3,w3⟩
 rcases turn i n σ3 H3 w3 with ⟨stop,qn⟩ | ⟨go,N,hN,step⟩
 ·refine wpAny_passesOwn hp (thn (T.done X rfl rfl rfl hc i pins s3 σ3 H3 X.xe I3 (stat fr3) st3 stop) fun r s4 ⟨hr,I4⟩=>?_)
  subst hr
  exact wpAny_execs_nil ⟨σ3,H3,I4,qn⟩
 ·refine wpAny_passesOwn hp (thn (T.item X rfl rfl rfl hc i pins s3 σ3 H3 X.xe I3 (stat fr3) st3 go) fun r s4 ⟨u,hr,h4⟩=>?_)
  subst hr
  refine wpAny_passesOwn hp (thn h4 fun _ s5 ⟨x,H5,I5,r5,y5,st5,fr5⟩=>?_)
  have I5':=I5.pinned (stat fr5) (T.obj _ _ st5)
  refine wpAny_passesOwn hp (thn (hg _ s5 σ3 H5 x u _ I5' r5 (step x H5 y5)) fun _ s6 ⟨σ6,H6,I6,q6⟩=>?_)
  refine wpAny_passesOwn hp (thn (hb _ s6 σ6 H6 _ I6 q6) fun f s7 q7=>?_)
  have again:∀ {σ7:St} {H7:Hp},Inv X (pins ++ iC fp s5.heap) σ7 H7 s7→N σ7 H7→∃ m,m<n∧∃ i σ' H',Inv X pins σ' H' s7∧tn i s7.heap∧(∀ b∈fp,H' b=none)∧W i m σ' H':=fun {σ7 H7} I7 n7=>by
   obtain ⟨m',hm,w7⟩:=hN σ7 H7 n7
   refine ⟨m',hm,i+1,σ7,H7,I7.unpinned,T.keep _ _ _ st5 fun b hb o e=>(I7.pin (b,o) (List.mem_append_right _ (List.mem_append_right _ (dz hb e)))).1,fun b hb=>?_,w7⟩
   obtain ⟨o,e,d⟩:=T.obj _ _ st5 b hb
   exact (I7.pin (b,o) (List.mem_append_right _ (List.mem_append_right _ (dz hb e)))).2.1
  cases f with
  | next=>obtain ⟨σ7,H7,I7,n7⟩:=q7;exact again I7 n7
  | cont=>obtain ⟨σ7,H7,I7,n7⟩:=q7;exact again I7 n7
  | brk=>obtain ⟨σ7,H7,I7,q7⟩:=q7;exact ⟨σ7,H7,I7.unpinned,q7⟩
  | ret v=>obtain ⟨x7,σ7,H7,I7,r7,q7⟩:=q7;exact ⟨x7,σ7,H7,I7.unpinned,r7,q7⟩
end
theorem dW {lo:Int} {n:Nat} {g:TG} {tb:TS} {D:eO} {σ:St} {H:Hp} (Pv:Nat→St→Hp→Prop) (h0:Pv 0 σ H)
 (hs:∀ i σ H,i<n→Pv i σ H→g (.int (lo+i)) σ H fun σ2 H2=>tb { D with nx:=Pv (i+1),ct:=Pv (i+1),bk:=D.nx } σ2 H2) (hd:∀ σ H,Pv n σ H→D.nx σ H) :
 ∃ W:Nat→Nat→St→Hp→Prop,(∃ m,W 0 m σ H)∧∀ i m σ H,W i m σ H →
   ((Itr lo n).stop i H∧D.nx σ H)∨((Itr lo n).go i H∧∃ N:St→Hp→Prop,(∀ σ' H',N σ' H'→∃ m',m'<m∧W (i+1) m' σ' H')∧∀ x H',(Itr lo n).yld i H x H'→g x σ H' fun σ2 H2=>tb { D with nx:=N,ct:=N,bk:=D.nx } σ2 H2):=by
 refine ⟨fun i m σ H=>m=n - i∧i≤n∧Pv i σ H,⟨n,by simp,Nat.zero_le _,h0⟩,?_⟩
 rintro i m σ H ⟨rfl,hi,p⟩
 by_cases hlt:i<n
 ·refine .inr ⟨hlt,Pv (i+1),fun σ' H' p'=>⟨n - (i+1),by omega,rfl,hlt,p'⟩,fun x H' y=>?_⟩
  obtain ⟨e,y⟩:=y
  subst e y
  exact hs i σ _ hlt p
 ·have e:i=n:=by omega
  subst e
  exact .inl ⟨Nat.le_refl _,hd σ H p⟩
end L2
namespace L2
open PySem PySem.Spec PyProof.Rows
abbrev R2:=V→V→Hp→VK→Prop
def OpR (X:Cx) (f:Value→Value→Sem Value) (r:R2):Prop:=
 ∀ (pins:List (Addr×Obj)) (s:Shared) (σ:St) (H:Hp) (x y:V) (v u:Value) (Q:VK),Inv X pins σ H s→aX x v→aX y u→r x y H Q →
   wpAny (model X.prog X.w) X.A (f v u) (EP X pins σ Q) X.xe s
def UnR (X:Cx) (f:Value→Sem Value) (r:V→Hp→VK→Prop):Prop:=
 ∀ (pins:List (Addr×Obj)) (s:Shared) (σ:St) (H:Hp) (x:V) (v:Value) (Q:VK),Inv X pins σ H s→aX x v→r x H Q →
   wpAny (model X.prog X.w) X.A (f v) (EP X pins σ Q) X.xe s
def dE (X:Cx) (f:Value) (r:List V→Hp→VK→Prop):Prop:=
 ∀ (pins:List (Addr×Obj)) (s:Shared) (σ:St) (H:Hp) (xs:List V) (us:List Value) (Q:VK),Inv X pins σ H s→aV xs us→r xs H Q →
   wpAny (model X.prog X.w) X.A (call f us) (EP X pins σ Q) X.xe s
def tOp (r:R2) (ta tb:TE):TE:=fun σ H Q=>ta σ H fun x H1=>tb σ H1 fun y H2=>r x y H2 Q
def tUn (r:V→Hp→VK→Prop) (ta:TE):TE:=fun σ H Q=>ta σ H fun x H1=>r x H1 Q
def rI (C:Int→Int→Prop) (g:Int→Int→V):R2:=fun x y H Q=>∃ i j,x = .int i∧y = .int j∧C i j∧Q (g i j) H
def rI0 (g:Int→Int→V):R2:=fun x y H Q=>∃ i j,x = .int i∧y = .int j∧Q (g i j) H
def rU (g:Int→V):V→Hp→VK→Prop:=fun x H Q=>∃ i,x = .int i∧Q (g i) H
section
variable {X:Cx} {a b c:Expr} {ta tb tc:TE} {pos:Pos}
theorem binT (ha:PE X a ta) (hb:PE X b tb) {pins:List (Addr×Obj)} {s:Shared} {σ:St} {H:Hp} {R:V→V→Hp→Prop} (I:Inv X pins σ H s)
 (h:ta σ H fun x H1=>tb σ H1 fun y H2=>R x y H2) {Q:Value→Shared→Prop} {f:Value→Value→Sem Value}
 (hf:∀ v u s2 x y H2,Inv X pins σ H2 s2→aX x v→aX y u→R x y H2→wpAny (model X.prog X.w) X.A (f v u) Q X.xe s2) :
 wpAny (model X.prog X.w) X.A (eval a X.env) (fun v s₁=>wpAny (model X.prog X.w) X.A (eval b X.env) (fun u s₂=>wpAny (model X.prog X.w) X.A (f v u) Q X.xe s₂) X.xe s₁) X.xe s:=by
 refine thn (ha pins s σ H _ I h) fun v s1 ⟨x,H1,I1,r1,q1⟩=>?_
 refine thn (hb pins s1 σ H1 _ I1 q1) fun u s2 ⟨y,H2,I2,r2,q2⟩=>?_
 exact hf v u s2 x y H2 I2 r1 r2 q2
theorem aE {op:Operator} {r:R2} (ho:OpR X (binaryOp op) r) (ha:PE X a ta) (hb:PE X b tb):PE X (.BinOp a op b pos) (tOp r ta tb):=by
 intro pins s σ H Q I h
 exact wpAny_BinOp (binT ha hb I h fun v u s2 x y H2 I2 rx ry q=>ho pins s2 σ H2 x y v u Q I2 rx ry q)
theorem lC {op:UnaryOp} {r:V→Hp→VK→Prop} (ho:UnR X (unaryOp op) r) (ha:PE X a ta):PE X (.UnaryOp op a pos) (tUn r ta):=by
 intro pins s σ H Q I h
 exact UnaryOp_ (thn (ha pins s σ H _ I h) fun v s1 ⟨x,H1,I1,r1,q1⟩=>ho pins s1 σ H1 x v Q I1 r1 q1)
theorem opI {f:Value→Value→Sem Value} {C:Int→Int→Prop} {g:Int→Int→Int}
 (rule:∀ (i j:Int) (t u:Tok) (s:Shared) (Q:Value→Shared→Prop) (E:Value→Shared→Prop),C i j→Q (.int (g i j) s.toks) { s with toks:=s.toks+1 }→wpAny (model X.prog X.w) X.A (f (.int i t) (.int j u)) Q E s) :
 OpR X f (rI C fun i j=>.int (g i j)):=by
 intro pins s σ H x y v u Q I rx ry h
 obtain ⟨i,j,rfl,rfl,hc,q⟩:=h
 obtain ⟨t,rfl⟩:=rx
 obtain ⟨t',rfl⟩:=ry
 exact rule i j t t' s _ _ hc ⟨.int (g i j),H,I.tok _,⟨_,rfl⟩,q⟩
theorem opI0 {f:Value→Value→Sem Value} {g:Int→Int→Int}
 (rule:∀ (i j:Int) (t u:Tok) (s:Shared) (Q:Value→Shared→Prop) (E:Value→Shared→Prop),Q (.int (g i j) s.toks) { s with toks:=s.toks+1 }→wpAny (model X.prog X.w) X.A (f (.int i t) (.int j u)) Q E s) :
 OpR X f (rI0 fun i j=>.int (g i j)):=by
 intro pins s σ H x y v u Q I rx ry h
 obtain ⟨i,j,rfl,rfl,q⟩:=h
 obtain ⟨t,rfl⟩:=rx
 obtain ⟨t',rfl⟩:=ry
 exact rule i j t t' s _ _ ⟨.int (g i j),H,I.tok _,⟨_,rfl⟩,q⟩
theorem opB0 {f:Value→Value→Sem Value} {g:Int→Int→Bool}
 (rule:∀ (i j:Int) (t u:Tok) (s:Shared) (Q:Value→Shared→Prop) (E:Value→Shared→Prop),Q (.bool (g i j)) s→wpAny (model X.prog X.w) X.A (f (.int i t) (.int j u)) Q E s) :
 OpR X f (rI0 fun i j=>.bl (g i j)):=by
 intro pins s σ H x y v u Q I rx ry h
 obtain ⟨i,j,rfl,rfl,q⟩:=h
 obtain ⟨t,rfl⟩:=rx
 obtain ⟨t',rfl⟩:=ry
 exact rule i j t t' s _ _ ⟨.bl (g i j),H,I,rfl,q⟩
def CMul (i j:Int):Prop:=(-(2 ^ 64)<i∧i<2 ^ 64)∨(-(2 ^ 64)<j∧j<2 ^ 64)
theorem CMul.ok {i j:Int} (h:CMul i j):IntMulOk i j:=by
 rcases h with ⟨h1,h2⟩ | ⟨h1,h2⟩
 ·exact .of_left (intBits_le_64 h1 h2)
 ·exact .of_right (intBits_le_64 h1 h2)
theorem op_add:OpR X (binaryOp .Add) (rI0 fun i j=>.int (i+j)):=opI0 fun _ _ _ _ _ _ _ q=>add_int q
theorem cw:OpR X (binaryOp .Sub) (rI0 fun i j=>.int (i - j)):=opI0 fun _ _ _ _ _ _ _ q=>sub_int q
theorem op_mul:OpR X (binaryOp .Mult) (rI CMul fun i j=>.int (i * j)):=opI fun _ _ _ _ _ _ _ hc q=>mul_int q hc.ok
theorem bh:OpR X (binaryOp .Mod) (rI (fun _ j=>0<j) fun i j=>.int (i % j)):=opI fun i j _ _ _ _ _ hc q=>by
 have h1:(0:Int)<j:=hc
 exact mod_int' (by omega) (by rw [Int.fmod_eq_emod_of_nonneg i (by omega)];exact q)
theorem unI {f:Value→Sem Value} {g:Int→Int}
 (rule:∀ (i:Int) (t:Tok) (s:Shared) (Q:Value→Shared→Prop) (E:Value→Shared→Prop),Q (.int (g i) s.toks) { s with toks:=s.toks+1 }→wpAny (model X.prog X.w) X.A (f (.int i t)) Q E s) :
 UnR X f (rU fun i=>.int (g i)):=by
 intro pins s σ H x v Q I rx h
 obtain ⟨i,rfl,q⟩:=h
 obtain ⟨t,rfl⟩:=rx
 exact rule i t s _ _ ⟨.int (g i),H,I.tok _,⟨_,rfl⟩,q⟩
theorem iL:UnR X (unaryOp .USub) (rU fun i=>.int (-i)):=unI fun _ _ _ _ _ q=>neg_int q
end
def scal:V→V→Bool
 | .non,.non=>true | .non,.int _=>true | .int _,.non=>true | .non,.bl _=>true | .bl _,.non=>true | .non,.str _=>true | .str _,.non=>true
 | .int _,.int _=>true | .bl _,.bl _=>true | .str _,.str _=>true | .byt _,.byt _=>true
 | .int _,.str _=>true | .str _,.int _=>true | .bl _,.str _=>true | .str _,.bl _=>true
 | _,_=>false
def rEq:R2:=fun x y H Q=>scal x y=true∧Q (.bl (decide (x=y))) H
def rNe:R2:=fun x y H Q=>scal x y=true∧Q (.bl (!decide (x=y))) H
theorem eT {i j:Int}:decide (V.int i=V.int j)=(i == j):=by
 rw [Bool.eq_iff_iff]
 simp
theorem dec_bl {i j:Bool}:decide (V.bl i=V.bl j)=(i == j):=by
 rw [Bool.eq_iff_iff]
 simp
theorem dec_str {i j:Str}:decide (V.str i=V.str j)=(i == j):=by
 rw [Bool.eq_iff_iff]
 simp
theorem dec_byt {i j:Array UInt8}:decide (V.byt i=V.byt j)=(i.toList == j.toList):=by
 rw [Bool.eq_iff_iff]
 cases i
 cases j
 simp
section
variable {X:Cx} {a b c:Expr} {ta tb tc:TE} {pos:Pos}
theorem bf {pins:List (Addr×Obj)} {σ:St} {H:Hp} {s:Shared} {Q:VK} {k k':Bool} (I:Inv X pins σ H s) (q:Q (.bl k) H) (e:k=k'):EP X pins σ Q (.bool k') s:=by
 subst e
 exact ⟨.bl k,H,I,rfl,q⟩
theorem op_eq:OpR X (compareOp .Eq) rEq:=by
 intro pins s σ H x y v u Q I rx ry h
 obtain ⟨hs,q⟩:=h
 cases x with
 | non=>
   cases rx
   cases y with
   | non=>cases ry;exact PySem.EqNone.eq_none_none (bf I q (by simp))
   | bl j=>cases ry;exact PySem.EqNone.eq_none_bool (bf I q (by simp))
   | int j=>obtain ⟨t',rfl⟩:=ry;exact PySem.EqNone.eq_none_int (bf I q (by simp))
   | str j=>obtain ⟨t',rfl⟩:=ry;exact PySem.EqNone.eq_none_str (bf I q (by simp))
   | _=>exact absurd (show false=true from hs) Bool.false_ne_true
 | bl i=>
   cases rx
   cases y with
   | non=>cases ry;exact PySem.EqNone.eq_bool_none (bf I q (by simp))
   | bl j=>cases ry;exact eq_bool (bf I q dec_bl)
   | str j=>obtain ⟨t',rfl⟩:=ry;exact PySem.EqMixed.eq_bool_str (bf I q (by simp))
   | _=>exact absurd (show false=true from hs) Bool.false_ne_true
 | int i=>
   obtain ⟨t,rfl⟩:=rx
   cases y with
   | non=>cases ry;exact PySem.EqNone.eq_int_none (bf I q (by simp))
   | int j=>obtain ⟨t',rfl⟩:=ry;exact eq_int (bf I q eT)
   | str j=>obtain ⟨t',rfl⟩:=ry;exact PySem.EqMixed.eq_int_str (bf I q (by simp))
   | _=>exact absurd (show false=true from hs) Bool.false_ne_true
 | str i=>
   obtain ⟨t,rfl⟩:=rx
   cases y with
   | non=>cases ry;exact PySem.EqNone.eq_str_none (bf I q (by simp))
   | bl j=>cases ry;exact PySem.EqMixed.eq_str_bool (bf I q (by simp))
   | int j=>obtain ⟨t',rfl⟩:=ry;exact PySem.EqMixed.eq_str_int (bf I q (by simp))
   | str j=>obtain ⟨t',rfl⟩:=ry;exact eq_str (bf I q dec_str)
   | _=>exact absurd (show false=true from hs) Bool.false_ne_true
 | byt i=>
   obtain ⟨t,rfl⟩:=rx
   cases y with
   | byt j=>obtain ⟨t',rfl⟩:=ry;exact W.eq_bytes (bf I q dec_byt)
   | _=>exact absurd (show false=true from hs) Bool.false_ne_true
 | _=>cases y <;> exact absurd (show false=true from hs) Bool.false_ne_true
theorem op_ne:OpR X (compareOp .NotEq) rNe:=by
 intro pins s σ H x y v u Q I rx ry h
 obtain ⟨hs,q⟩:=h
 cases x with
 | non=>
   cases rx
   cases y with
   | non=>cases ry;exact PySem.EqNone.ne_none_none (bf I q (by simp))
   | bl j=>cases ry;exact PySem.EqNone.ne_none_bool (bf I q (by simp))
   | int j=>obtain ⟨t',rfl⟩:=ry;exact PySem.EqNone.ne_none_int (bf I q (by simp))
   | str j=>obtain ⟨t',rfl⟩:=ry;exact PySem.EqNone.ne_none_str (bf I q (by simp))
   | _=>exact absurd (show false=true from hs) Bool.false_ne_true
 | bl i=>
   cases rx
   cases y with
   | non=>cases ry;exact PySem.EqNone.ne_bool_none (bf I q (by simp))
   | bl j=>cases ry;exact ne_bool (bf I q (congrArg not dec_bl))
   | str j=>obtain ⟨t',rfl⟩:=ry;exact PySem.EqMixed.ne_bool_str (bf I q (by simp))
   | _=>exact absurd (show false=true from hs) Bool.false_ne_true
 | int i=>
   obtain ⟨t,rfl⟩:=rx
   cases y with
   | non=>cases ry;exact PySem.EqNone.ne_int_none (bf I q (by simp))
   | int j=>obtain ⟨t',rfl⟩:=ry;exact ne_int (bf I q (congrArg not eT))
   | str j=>obtain ⟨t',rfl⟩:=ry;exact PySem.EqMixed.ne_int_str (bf I q (by simp))
   | _=>exact absurd (show false=true from hs) Bool.false_ne_true
 | str i=>
   obtain ⟨t,rfl⟩:=rx
   cases y with
   | non=>cases ry;exact PySem.EqNone.ne_str_none (bf I q (by simp))
   | bl j=>cases ry;exact PySem.EqMixed.ne_str_bool (bf I q (by simp))
   | int j=>obtain ⟨t',rfl⟩:=ry;exact PySem.EqMixed.ne_str_int (bf I q (by simp))
   | str j=>obtain ⟨t',rfl⟩:=ry;exact ne_str (bf I q (congrArg not dec_str))
   | _=>exact absurd (show false=true from hs) Bool.false_ne_true
 | byt i=>
   obtain ⟨t,rfl⟩:=rx
   cases y with
   | byt j=>obtain ⟨t',rfl⟩:=ry;exact W.ne_bytes (bf I q (congrArg not dec_byt))
   | _=>exact absurd (show false=true from hs) Bool.false_ne_true
 | _=>cases y <;> exact absurd (show false=true from hs) Bool.false_ne_true
theorem op_lt:OpR X (compareOp .Lt) (rI0 fun i j=>.bl (decide (i<j))):=opB0 fun _ _ _ _ _ _ _ q=>lt_int q
theorem js:OpR X (compareOp .Gt) (rI0 fun i j=>.bl (decide (j<i))):=opB0 fun _ _ _ _ _ _ _ q=>gt_int q
theorem op_ge:OpR X (compareOp .GtE) (rI0 fun i j=>.bl (decide (j≤i))):=opB0 fun _ _ _ _ _ _ _ q=>ge_int q
theorem op_isN:OpR X (compareOp .Is) (fun x y H Q=>y = .non∧Q (.bl (decide (x = .non))) H):=by
 intro pins s σ H x y v u Q I rx ry h
 obtain ⟨rfl,q⟩:=h
 cases ry
 refine is_none_gen (bf I q ?_)
 cases x <;> first
  | (cases rx;rfl)
  | (obtain ⟨t,rfl⟩:=rx;rfl)
theorem fh:OpR X (compareOp .IsNot) (fun x y H Q=>y = .non∧Q (.bl (!decide (x = .non))) H):=by
 intro pins s σ H x y v u Q I rx ry h
 obtain ⟨rfl,q⟩:=h
 cases ry
 refine isnot_none_gen (bf I q ?_)
 cases x <;> first
  | (cases rx;rfl)
  | (obtain ⟨t,rfl⟩:=rx;rfl)
theorem am (b:Expr) {op:CmpOp} (h:op≠.In:=by decide) (h2:op≠.NotIn:=by decide):behindInMarks op b=false:=by
 have e1:(op == CmpOp.In)=false:=by cases op <;> first | rfl | exact absurd rfl h
 have e2:(op == CmpOp.NotIn)=false:=by cases op <;> first | rfl | exact absurd rfl h2
 cases b <;> simp [behindInMarks,e1,e2]
theorem dB {op:CmpOp} {r:R2} (ho:OpR X (compareOp op) r) (ha:PE X a ta) (hb:PE X b tb) (hm:behindInMarks op b=false):PE X (.Compare a [op] [b] pos) (tOp r ta tb):=by
 intro pins s σ H Q I h
 exact wpAny_Compare1 (binT ha hb I h fun v u s2 x y H2 I2 rx ry q=>ho pins s2 σ H2 x y v u Q I2 rx ry q) hm
def tTest (t:TE):TT:=fun σ H Q=>t σ H fun x H'=>∃ k,x = .bl k∧Q k H'
theorem ak {op:CmpOp} {r:R2} (ho:OpR X (compareOp op) r) (ha:PE X a ta) (hb:PE X b tb) (hm:behindInMarks op b=false):PT X (.Compare a [op] [b] pos) (tTest (tOp r ta tb)):=by
 intro pins s σ H Q I h
 refine wpAny_isTrue_Compare1 (thn (ha pins s σ H _ I h) fun v s1 ⟨x,H1,I1,r1,q1⟩=>thn (hb pins s1 σ H1 _ I1 q1) fun u s2 ⟨y,H2,I2,r2,q2⟩=>
  thn (ho pins s2 σ H2 x y v u _ I2 r1 r2 q2) fun c s3 ⟨z,H3,I3,r3,k,e,q3⟩=>?_) hm
 subst e
 cases r3
 exact wpAny_truthy_bool ⟨H3,I3,q3⟩
theorem fV:(sizeLine:Nat)<2 ^ 63:=by rw [sizeLine_eq];decide
theorem op_add_str:OpR X (binaryOp .Add) (fun x y H Q=>∃ i j,x = .str i∧y = .str j∧i.length+j.length≤sizeLine∧Q (.str (i ++ j)) H):=by
 intro pins s σ H x y v u Q I rx ry h
 obtain ⟨i,j,rfl,rfl,hz,q⟩:=h
 obtain ⟨t,rfl⟩:=rx
 obtain ⟨t',rfl⟩:=ry
 exact add_str (fun t' tk=>⟨.str (i ++ j),H,I.tok _,⟨_,rfl⟩,q⟩) hz
theorem jK {x:V} {us:List Value} (r:aV [x] us):∃ u,us = [u]∧aX x u:=by
 cases r with
 | cons r1 r2=>cases r2;exact ⟨_,rfl,r1⟩
theorem i6:dE X (.type "int") (fun xs H Q=>(∃ i,xs = [.int i]∧Q (.int i) H)∨∃ k,xs = [.bl k]∧Q (.int (if k then 1 else 0)) H):=by
 intro pins s σ H xs us Q I r h
 rcases h with ⟨i,rfl,q⟩ | ⟨k,rfl,q⟩
 ·obtain ⟨u,rfl,t,rfl⟩:=jK r
  exact call_int_int ⟨.int i,H,I,⟨_,rfl⟩,q⟩
 ·obtain ⟨u,rfl,r1⟩:=jK r
  cases r1
  exact call_int_bool ⟨.int (if k then 1 else 0),H,I.tok _,⟨_,rfl⟩,q⟩
end
end L2
namespace L2
open PySem PySem.Spec PyProof.Rows
structure ObjM (h:Heap) (x dx C:Addr) (mA:Str→Option Value):Prop where
 obj:h.get? x=some (W.instObj C dx)
 ns:h.Ns1 dx mA
 ne:dx≠x
theorem jp {h:Heap} {dx:Addr} {mA:Str→Option Value} (n:h.Ns1 dx mA):∃ od,h.get? dx=some od∧∀ name,W.lookIn name od=some (mA name):=by
 obtain ⟨o,es,ep,ho,hd,hk,_,hm⟩:=n
 refine ⟨o,ho,fun name=>?_⟩
 have e:=hm name
 unfold nsFind findBy at e
 rw [← Array.find?_toList] at e
 unfold W.lookIn
 rw [hd]
 dsimp only
 split
 ·rename_i y q
  rw [q] at e
  exact congrArg some e
 ·rename_i q
  rw [q] at e
  have a:es.toList.any (·.refKey)=false:=by
   rw [List.any_eq_false]
   intro y hy
   obtain ⟨z,t,hkey⟩:=hk y (Array.mem_toList_iff.mp hy)
   simp [DictEntry.refKey,hkey]
  have a':¬ es.toList.any (·.refKey)=true:=by rw [a];exact Bool.false_ne_true
  rw [if_neg a']
  exact congrArg some e
theorem ObjM.look {h:Heap} {x dx C:Addr} {mA:Str→Option Value} (I:ObjM h x dx C mA):∃ od,W.InstAt h x (W.instObj C dx) C (some od)∧∀ name,W.lookIn name od=some (mA name):=
 let ⟨od,ho,hl⟩:=jp I.ns
 ⟨od,⟨I.obj,rfl,rfl,ho⟩,hl⟩
section
variable {prog:Program} {w:World} {A:Around} {E:Value→Shared→Prop} {s:Shared} {K:W.Frag} {x dx C f:Addr} {mA:Str→Option Value} {name:Str} {v:Value}
theorem get_map {expr:Bool} {Q:Value→Shared→Prop} (X:K.In s.heap) (I:ObjM s.heap x dx C mA) (hg:W.plainGet K C name=true) (hh:W.hasDictIn K C=true)
 (ha:W.findIn K (.ref C) name=some none) (hv:mA name=some v) (hv':W.handedIn v=true) (h:Q v { s with toks:=s.toks+1 }) :
 wpAny (model prog w) A (getAttr (.ref x) name expr) Q E s:=by
 obtain ⟨od,J,hl⟩:=I.look
 exact W.get_value X J (W.plainGet_of hg).1 (W.findObj_own hh ha rfl (by rw [hl,hv])) hv' h
theorem get_meth {pl:Sem Bool} {Q:Value×List Value→Shared→Prop} (X:K.In s.heap) (I:ObjM s.heap x dx C mA) (hg:W.plainGet K C name=true)
 (hf:W.findIn K (.ref C) name=some (some (.ref f))) (ht:W.isFn K (.ref f)=true) (hv:mA name=none) (h:Q (.ref f,[.ref x]) s) :
 wpAny (model prog w) A (getMethod (.ref x) name pl) Q E s:=by
 obtain ⟨od,J,hl⟩:=I.look
 exact W.method_fn X J (W.plainGet_of hg).1 (W.plainGet_of hg).2 hf (beq_iff_eq.mp ht) (by show (W.lookIn name od).map (·.isSome)=some false;rw [hl,hv];rfl) h
theorem set_map {ns:List Str} {Q:Unit→Shared→Prop} (X:K.In s.heap) (I:ObjM s.heap x dx C mA)
 (hs:W.findIn K (.ref C) "__setattr__" = some (some (.builtin "object.__setattr__"))) (hp:W.plainOver K C=true) (ht:W.takerIn K C name=some none) (hh:W.hasDictIn K C=true)
 (hw:PySem.Within mA ns) (hsz:ns.length≤sizeLine)
 (h:∀ h',ObjM h' x dx C (fun y=>if y=name then some v else mA y)→Heap.SameBut dx s.heap h'→Q () { s with heap:=h',toks:=s.toks+2 }) :
 wpAny (model prog w) A (setAttr (.ref x) name v) Q E s:=by
 obtain ⟨od,J,hl⟩:=I.look
 refine W.set_plain X J hs (W.osa_open (s:={ s with toks:=s.toks+1 }) (r:=none) X J hp ht fun b=>?_)
 obtain ⟨cd,hc,hd'⟩:=W.any_some hh
 have hx:s.heap.get? x=some ⟨.ref C,some dx,.plain,#[]⟩:=I.obj
 refine wpAny_bind (wpAny_pure (wpAny_bind (wpAny_bind (wpAny_loadPart hx (wpAny_bind (W.Looks.here (s:={ s with toks:=s.toks+1 }) (W.looks_clsIn X hc) ?_))))))
 rw [hd']
 refine wpAny_pure (a:=some dx) (wpAny_bind (wpAny_pure (wpAny_bind ?_)))
 refine wpAny_nsSet1 (s:={ s with toks:=s.toks+1 }) I.ns fun h' hn2 hs2=>?_
 obtain ⟨oD,esD,epD,hoD,hdD,hcD⟩:=hn2.count (PySem.Within.cons name v hw)
 refine wpAny_bind (wpAny_lookBehind hoD (by rw [hdD];exact pastItsLine_dict (Nat.le_trans hcD (by rw [List.length_cons];omega))) ?_)
 exact wpAny_pure (h _ ⟨(hs2.2 _ (Ne.symm I.ne)).trans I.obj,hn2,I.ne⟩ hs2)
theorem make_map {R:Result→Shared→Prop} {vs:List Value} {kw:List (Str×Value)} (X:K.In s.heap) (hm:W.makesIn K C=true)
 (hi:W.findIn K (.ref C) "__init__" = some (some (.ref f))) (hf:W.typeIn K (.ref f)=some (.type "function"))
 (h:codeAny (model prog w) (A.under (.builtin "type.__call__" ⟨.ref C :: vs,kw⟩)) (.call (.ref f) ⟨.ref (s.heap.objs.size+1) :: vs,kw⟩) (W.InitBack (s.heap.objs.size+1) R)
  { s with heap:=(s.heap.push W.emptyDict).push (W.instObj C s.heap.objs.size) }) :
 codeAny (model prog w) A (.call (.ref C) ⟨vs,kw⟩) R s:=by
 obtain ⟨hh,g,d,t,os⟩:=s
 exact W.make_core (W.makes_of X hm) (W.looks_findIn X hi) (fun self=>W.bind_fn X self hf) (.inl rfl) h
end
def di (f:Str) (v:V):List (Str×V)→List (Str×V)
 | []=>[(f,v)]
 | (g,x) :: r=>if g=f then (g,v) :: r else (g,x) :: di f v r
theorem dP (f g:Str) (v:V):∀ fs:List (Str×V),(di f v fs).lookup g=if g=f then some v else fs.lookup g
 | []=>by
   show List.lookup g [(f,v)]=_
   by_cases h:g=f
   ·have hb:(g == f)=true:=beq_iff_eq.mpr h
    simp only [List.lookup,hb,if_pos h]
   ·have hb:(g == f)=false:=beq_eq_false_iff_ne.mpr h
    simp only [List.lookup,hb,if_neg h]
 | (k,x) :: r=>by
   have ih:=dP f g v r
   rw [show di f v ((k,x) :: r)=(if k=f then (k,v) :: r else (k,x) :: di f v r) from rfl]
   by_cases hk:k=f
   ·rw [if_pos hk]
    by_cases h:g=k
    ·have hb:(g == k)=true:=beq_iff_eq.mpr h
     simp only [List.lookup,hb,if_pos (h.trans hk)]
    ·have hb:(g == k)=false:=beq_eq_false_iff_ne.mpr h
     simp only [List.lookup,hb,if_neg (fun e:g=f=>h (e.trans hk.symm))]
   ·rw [if_neg hk]
    by_cases h:g=k
    ·have hb:(g == k)=true:=beq_iff_eq.mpr h
     simp only [List.lookup,hb,if_neg (fun e:g=f=>hk (h.symm.trans e))]
    ·have hb:(g == k)=false:=beq_eq_false_iff_ne.mpr h
     simp only [List.lookup,hb]
     exact ih
theorem cZ (f:Str) (v:V):∀ fs:List (Str×V),f∈(di f v fs).map (·.1)∧∀ g,g∈fs.map (·.1)→g∈(di f v fs).map (·.1)
 | []=>⟨by simp [di],fun g h=>by simp at h⟩
 | (k,x) :: r=>by
   obtain ⟨i1,i2⟩:=cZ f v r
   rw [show di f v ((k,x) :: r)=(if k=f then (k,v) :: r else (k,x) :: di f v r) from rfl]
   by_cases hk:k=f
   ·rw [if_pos hk]
    subst hk
    exact ⟨by simp,fun g h=>by simpa using h⟩
   ·rw [if_neg hk]
    refine ⟨?_,fun g h=>?_⟩
    ·rw [List.map_cons]
     exact List.mem_cons_of_mem _ i1
    ·rw [List.map_cons] at h ⊢
     rcases List.mem_cons.mp h with e | e
     ·exact List.mem_cons.mpr (.inl e)
     ·exact List.mem_cons_of_mem _ (i2 g e)
theorem gD (f:Str) (v:V):∀ fs:List (Str×V),(di f v fs).length≤fs.length+1
 | []=>by simp [di]
 | (k,x) :: r=>by
   have ih:=gD f v r
   rw [show di f v ((k,x) :: r)=(if k=f then (k,v) :: r else (k,x) :: di f v r) from rfl]
   by_cases hk:k=f
   ·rw [if_pos hk,List.length_cons,List.length_cons];omega
   ·rw [if_neg hk,List.length_cons,List.length_cons];omega
theorem cC.some_of {v:V} {o:Option Value} (r:cC (some v) o):∃ u,o=some u∧aX v u:=by
 cases o with
 | none=>exact (show False from r).elim
 | some u=>exact ⟨u,rfl,r⟩
theorem cC.none_of {o:Option Value} (r:cC none o):o=none:=by
 cases o with
 | none=>rfl
 | some u=>exact (show False from r).elim
theorem je {v:V} {u:Value} (r:aX v u):W.handedIn u=true:=by
 cases v with
 | non=>cases (show u=Value.none from r);rfl
 | bl b=>cases (show u=Value.bool b from r);rfl
 | int i=>obtain ⟨t,e⟩:=(show ∃ t,u=Value.int i t from r);cases e;rfl
 | str x=>obtain ⟨t,e⟩:=(show ∃ t,u=Value.str x t from r);cases e;rfl
 | byt b=>obtain ⟨t,e⟩:=(show ∃ t,u=Value.bytes b t from r);cases e;rfl
 | flt b=>obtain ⟨t,e⟩:=(show ∃ t,u=Value.float b t from r);cases e;rfl
 | ref a=>cases (show u=Value.ref a from r);rfl
 | ty n=>cases (show u=Value.type n from r);rfl
section
variable {P:Program} {w:World} {H H':Hp} {h h':Heap} {a C dx:Addr} {fs fs':List (Str×V)}
theorem gP (hok:HOk P w H h) (e:H a=some (.ins C dx fs)):∃ mA,ObjM h a dx C mA∧(∀ f,cC (fs.lookup f) (mA f))∧PySem.Within mA (fs.map (·.1))∧fs.length≤1000∧H dx=some (.own a):=by
 obtain ⟨d,z,ne,ob,mA,n,r,q⟩:=(show bp P w H h a (.ins C dx fs) from hok a _ e)
 exact ⟨mA,⟨ob,n,ne⟩,r,q,z,d⟩
end
structure Cls (K:W.Frag) (C:Addr):Prop where
 pg:W.plainGet K C Str.empty=true
 hd:W.hasDictIn K C=true
 po:W.plainOver K C=true
 sa:W.findIn K (.ref C) "__setattr__" = some (some (.builtin "object.__setattr__"))
theorem Cls.get {K:W.Frag} {C:Addr} (c:Cls K C) (f:Str):W.plainGet K C f=true:=c.pg
def cf (K:W.Frag) (C:Addr) (f:Str):Prop:=W.findIn K (.ref C) f=some none
theorem cf.taker {K:W.Frag} {C:Addr} {f:Str} (n:cf K C f):W.takerIn K C f=some none:=by
 unfold W.takerIn
 rw [show W.findIn K (.ref C) f=some none from n]
 rfl
structure jO (K:W.Frag) (C:Addr) (m:Str) (f:Addr):Prop where
 at_:W.findIn K (.ref C) m=some (some (.ref f))
 fn:W.isFn K (.ref f)=true
 kp:W.keepIn K (.ref f)=true
section
variable {X:Cx} {pins:List (Addr×Obj)} {σ:St} {H:Hp} {s:Shared} {a C dx:Addr} {fs:List (Str×V)} {f:Str} {v:V} {A:Around} {E:Value→Shared→Prop}
theorem getattr_ok {b:Bool} {Q:Value→Shared→Prop} (I:Inv X pins σ H s) (e:H a=some (.ins C dx fs)) (c:Cls X.K C) (n:cf X.K C f) (l:fs.lookup f=some v)
 (h:∀ u s',Inv X pins σ H s'→aX v u→Q u s'):wpAny (model X.prog X.w) A (getAttr (.ref a) f b) Q E s:=by
 obtain ⟨mA,O,r,_,_,_⟩:=gP I.hok e
 obtain ⟨u,hu,ru⟩:=cC.some_of (v:=v) (o:=mA f) (by rw [← l];exact r f)
 exact get_map I.kIn O (c.get f) c.hd n hu (je ru) (h u _ (I.tok _) ru)
theorem getmeth_ok {m:Str} {g:Addr} {pl:Sem Bool} {Q:Value×List Value→Shared→Prop} (I:Inv X pins σ H s) (e:H a=some (.ins C dx fs)) (c:Cls X.K C) (k:jO X.K C m g) (l:fs.lookup m=none)
 (h:Q (.ref g,[.ref a]) s):wpAny (model X.prog X.w) A (getMethod (.ref a) m pl) Q E s:=by
 obtain ⟨mA,O,r,_,_,_⟩:=gP I.hok e
 have hn:mA m=none:=cC.none_of (by rw [← l];exact r m)
 exact get_meth I.kIn O (c.get m) k.at_ k.fn hn h
theorem setattr_ok {y:V} {u:Value} {Q:Unit→Shared→Prop} (I:Inv X pins σ H s) (e:H a=some (.ins C dx fs)) (c:Cls X.K C) (n:cf X.K C f) (hl:fs.length<1000) (ry:aX y u)
 (h:∀ s',Inv X pins σ (upd H a (.ins C dx (di f y fs))) s'→Q () s'):wpAny (model X.prog X.w) A (setAttr (.ref a) f u) Q E s:=by
 obtain ⟨mA,O,r,wi,_,ho⟩:=gP I.hok e
 have hz:(fs.map (·.1)).length≤sizeLine:=by rw [List.length_map,sizeLine_eq];omega
 refine set_map I.kIn O c.sa c.po n.taker c.hd wi hz fun h' O' sb=>h _ ?_
 have hd:∃ o,h'.get? dx=some o:=let ⟨o,_,_,e',_⟩:=O'.ns;⟨o,e'⟩
 refine I.write (x:=a) (e:=dx) (by rw [e];exact True.intro) (.inr ho) (fun b q hb z=>(sb.2 b hb).trans z) hd ?_
 refine ⟨by rw [au O.ne];exact ho,?_,O.ne,O'.obj,_,O'.ns,fun g=>?_,fun g hg=>?_⟩
 ·have:=gD f y fs;omega
 ·show cC ((di f y fs).lookup g) (if g=f then some u else mA g)
  rw [dP]
  by_cases q:g=f
  ·rw [if_pos q,if_pos q];exact ry
  ·rw [if_neg q,if_neg q];exact r g
 ·by_cases q:g=f
  ·rw [q];exact (cZ f y fs).1
  ·refine (cZ f y fs).2 g (wi g fun z=>hg ?_)
   show (if g=f then some u else mA g)=none
   rw [if_neg q];exact z
theorem Inv.made (I:Inv X pins σ H s):Inv X pins σ (upd (upd H s.heap.objs.size (.own (s.heap.objs.size+1))) (s.heap.objs.size+1) (.ins C s.heap.objs.size []))
 { s with heap:=(s.heap.push W.emptyDict).push (W.instObj C s.heap.objs.size) }:=by
 have e1:(s.heap.push W.emptyDict).get? s.heap.objs.size=some W.emptyDict:=Heap.get?_push_size s.heap rfl
 have e2:((s.heap.push W.emptyDict).push (W.instObj C s.heap.objs.size)).get? (s.heap.objs.size+1)=some (W.instObj C s.heap.objs.size):=by
  have:=Heap.get?_push_size (s.heap.push W.emptyDict) (o:=W.instObj C s.heap.objs.size) rfl
  rwa [Heap.size_push] at this
 have e3:(s.heap.push W.emptyDict).Ns s.heap.objs.size (fun _=>none):=⟨W.emptyDict,#[],_,e1,rfl,(fun e he=>absurd he (by simp)),fun _=>rfl⟩
 have I1:=I.laid (a:=s.heap.objs.size) (o:=.own (s.heap.objs.size+1)) (h':=s.heap.push W.emptyDict) (t':=s.toks) (fun b u q=>Heap.get?_push_of_some _ q) (Nat.le_refl _) ⟨_,e1⟩
 refine I1.laid (a:=s.heap.objs.size+1) (o:=.ins C s.heap.objs.size []) (t':=s.toks) (fun b u q=>Heap.get?_push_of_some _ q) (Nat.le_of_eq (Heap.size_push _ _)) ?_
 have ne:s.heap.objs.size≠s.heap.objs.size+1:=Nat.ne_of_lt (Nat.lt_succ_self _)
 refine ⟨by rw [au ne,ag],Nat.zero_le _,ne,e2,fun _=>none,(Heap.Ns1.of_empty e3).at fun o q=>Heap.get?_push_of_some _ q,fun _=>True.intro,fun y hy=>absurd rfl hy⟩
theorem attr_of {prog:Program} {w:World} {env:Env} {e:Expr} {f:Str} {pos:Pos} {s:Shared} {Q:Value→Shared→Prop} (hb:attributeBase e f env (eval e env)=eval e env)
 (h:wpAny (model prog w) A (eval e env) (fun o s₁=>wpAny (model prog w) A (getAttr o f true) Q E s₁) E s):wpAny (model prog w) A (eval (.Attribute e f pos) env) Q E s:=
 Attribute_any_ h (by rw [arm_eval_Attribute,hb])
end
def tFld (K:W.Frag) (ta:TE) (f:Str):TE:=fun σ H Q=>ta σ H fun x H1=>∃ a C dx fs v,x = .ref a∧H1 a=some (.ins C dx fs)∧Cls K C∧cf K C f∧fs.lookup f=some v∧Q v H1
def sFld (K:W.Frag) (ta tv:TE) (f:Str):TS:=fun D σ H=>tv σ H fun y H1=>ta σ H1 fun x H2=>∃ a C dx fs,x = .ref a∧H2 a=some (.ins C dx fs)∧Cls K C∧cf K C f∧fs.length<1000 ∧
 D.nx σ (upd H2 a (.ins C dx (di f y fs)))
section
variable {X:Cx} {o e value:Expr} {f:Str} {pos pos' tpos:Pos} {ta tv:TE}
theorem j7 (he:PE X e ta) (hb:attributeBase e f X.env (eval e X.env)=eval e X.env):PE X (.Attribute e f pos) (tFld X.K ta f):=by
 intro pins s σ H Q I h
 refine attr_of hb (thn (he pins s σ H _ I h) fun u s1 ⟨x,H1,I1,rx,a,C,dx,fs,v,ex,ea,c,n,l,q⟩=>?_)
 subst ex
 obtain rfl:u=Value.ref a:=rx
 exact getattr_ok I1 ea c n l fun u' s2 I2 ru=>⟨v,H1,I2,ru,q⟩
theorem ps_fld (ha:PE X o ta) (hv:PE X value tv) (hs:swapsWith value (some (.Attribute o f pos')) pos.line X.env=pure false):PS X (.Assign [.Attribute o f pos'] value pos) (sFld X.K ta tv f):=by
 intro pins s σ H D I h
 refine plainObj_wpAny_Assign_Attribute (thn (hv pins s σ H _ I h) fun u s1 ⟨y,H1,I1,ry,q⟩=>thn (ha pins s1 σ H1 _ I1 q) fun ov s2 ⟨x,H2,I2,rx,a,C,dx,fs,ex,ea,c,n,l,q2⟩=>?_) hs
 subst ex
 obtain rfl:ov=Value.ref a:=rx
 exact setattr_ok I2 ea c n l ry fun s3 I3=>⟨σ,_,I3,q2⟩
end
section
variable {X:Cx} {pins:List (Addr×Obj)} {σ:St} {H:Hp} {s:Shared} {A:Around} {E:Value→Shared→Prop} {Q:Value→Shared→Prop} {c:Value} {b:Bool}
inductive fM (K:W.Frag) (H:Hp):V→Value→Prop where
 | non:fM K H .non (.type "NoneType")
 | bl (x:Bool):fM K H (.bl x) (.type "bool")
 | int (i:Int):fM K H (.int i) (.type "int")
 | str (x:Str):fM K H (.str x) (.type "str")
 | flt (x:UInt64):fM K H (.flt x) (.type "float")
 | lst {a:Addr} {xs:List V} (e:H a=some (.lst xs)):fM K H (.ref a) (.type "list")
 | frz {a:Addr} {o:Obj} {xs:List V} (e:H a=some (.frz o (.lst xs))):fM K H (.ref a) (.type "list")
 | tup {a:Addr} {xs:List V} (e:H a=some (.tup xs)):fM K H (.ref a) (.type "tuple")
 | dK {a:Addr} {kvs:List (Key×V)} (e:H a=some (.dK kvs)):fM K H (.ref a) (.type "dict")
 | dT {a:Addr} {kvs:List (List Key×V)} (e:H a=some (.dT kvs)):fM K H (.ref a) (.type "dict")
 | ins {a C dx:Addr} {fs:List (Str×V)} (e:H a=some (.ins C dx fs)) (cl:Cls K C) (ha:W.findIn K (.ref C) "__class__" = some (some (.builtin "object.__class__")))
  (hn:W.specialIn K (.builtin "object.__class__") "__get__" = some (some (.builtin "getset_descriptor.__get__"))) (htk:W.takesIn K (.builtin "object.__class__")=some true)
  (hm:W.mroIn K C (.type "object")=some true):fM K H (.ref a) (.ref C)
theorem isinst_ok {x:V} {u t:Value} (I:Inv X pins σ H s) (rx:aX x u) (ty:fM X.K H x t) (e:W.kitOne X.K t c=some b) (h:∀ tk,Q (.bool b) { s with toks:=tk }) :
 wpAny (model X.prog X.w) A (call (.builtin "isinstance") [u,c]) Q E s:=by
 cases ty with
 | non=>cases (show u=Value.none from rx);exact W.kia_one W.kitx_none I.kIn True.intro e (fun z=>nomatch z) h
 | bl y=>cases (show u=Value.bool y from rx);exact W.kia_one W.kitx_bool I.kIn True.intro e (fun z=>nomatch z) h
 | int i=>obtain ⟨t,q⟩:=(show ∃ t,u=Value.int i t from rx);cases q;exact W.kia_one W.kitx_int I.kIn True.intro e (fun z=>nomatch z) h
 | str y=>obtain ⟨t,q⟩:=(show ∃ t,u=Value.str y t from rx);cases q;exact W.kia_one W.kitx_str I.kIn True.intro e (fun z=>nomatch z) h
 | flt y=>obtain ⟨t,q⟩:=(show ∃ t,u=Value.float y t from rx);cases q;exact W.kia_one W.kitx_float I.kIn True.intro e (fun z=>nomatch z) h
 | @lst a xs ea=>
   cases (show u=Value.ref a from rx)
   obtain ⟨_,_,n,_,h1⟩:=(show bp X.prog X.w H s.heap a (.lst xs) from I.hok a _ ea)
   exact W.kia_one W.kitx_list I.kIn ⟨_,h1,rfl⟩ e (fun z=>nomatch z) h
 | @frz a ob xs ea=>
   cases (show u=Value.ref a from rx)
   obtain ⟨_,_,_,n,_,h1⟩:=(show bp X.prog X.w H s.heap a (.frz ob (.lst xs)) from I.hok a _ ea)
   exact W.kia_one W.kitx_list I.kIn ⟨_,h1,rfl⟩ e (fun z=>nomatch z) h
 | @tup a xs ea=>
   cases (show u=Value.ref a from rx)
   obtain ⟨_,_,_,p⟩:=(show bp X.prog X.w H s.heap a (.tup xs) from I.hok a _ ea)
   obtain ⟨o,h1,h2,_⟩:=p
   exact W.kia_one W.kitx_tuple I.kIn ⟨o,h1,h2⟩ e (fun z=>nomatch z) h
 | @dK a kvs ea=>
   cases (show u=Value.ref a from rx)
   obtain ⟨_,_,vs,_,p⟩:=(show bp X.prog X.w H s.heap a (.dK kvs) from I.hok a _ ea)
   obtain ⟨o,es,ep,h1,h2,_⟩:=p
   exact W.kia_one W.kitx_dict I.kIn ⟨o,h1,h2.1⟩ e (fun z=>nomatch z) h
 | @dT a kvs ea=>
   cases (show u=Value.ref a from rx)
   obtain ⟨_,_,xs,_,o,es,ep,h1,h2,_⟩:=(show bp X.prog X.w H s.heap a (.dT kvs) from I.hok a _ ea)
   exact W.kia_one W.kitx_dict I.kIn ⟨o,h1,h2.1⟩ e (fun z=>nomatch z) h
 | @ins a C dx fs ea cl ha hn htk hm=>
   cases (show u=Value.ref a from rx)
   obtain ⟨mA,O,_⟩:=gP I.hok ea
   obtain ⟨od,J,_⟩:=O.look
   exact W.kia_one (W.kitx_own (cl.get _) cl.hd ha hn htk hm) I.kIn J e (fun z=>nomatch z) h
end
end L2
namespace L2
open PySem PySem.Spec PyProof.Rows
structure Room (k:Nat) (A:Around):Prop where
 hd:A.handled=none
 dp:A.depth+3 * k+5<recursionLimit
 un:A.units+16 * k+200<cLine
theorem Room.mono {j k:Nat} {A:Around} (r:Room k A) (h:j≤k):Room j A:=⟨r.hd,by have:=r.dp;omega,by have:=r.un;omega⟩
theorem Room.deeper {k:Nat} {A:Around} (r:Room (k+1) A) (env:Env):Room k (A.deeper env):=
 ⟨r.hd,by have:=r.dp;show A.depth+1+3 * k+5<_;omega,by have:=r.un;show A.units+3+16 * k+200<_;omega⟩
theorem make_depth {A:Around} {C:Addr} {us:List Value} {kw:List (Str×Value)}:(A.under (.builtin "type.__call__" ⟨.ref C :: us,kw⟩)).depth=A.depth+1:=by
 first | rfl | simp [Around.under,Code.weight,Code.isCreation,Code.isGuard,Code.isCaller,Code.frames,Code.isFrame,guardIds]
theorem make_units {A:Around} {C:Addr} {us:List Value} {kw:List (Str×Value)}:(A.under (.builtin "type.__call__" ⟨.ref C :: us,kw⟩)).units=A.units+1:=by
 first | rfl | simp [Around.under,Code.cUnits,Code.frames,Code.isFrame]
theorem Room.make {k:Nat} {A:Around} (r:Room (k+1) A) (C:Addr) (us:List Value) (kw:List (Str×Value)):Room k (A.under (.builtin "type.__call__" ⟨.ref C :: us,kw⟩)):=
 ⟨r.hd,by have:=r.dp;rw [make_depth];omega,by have:=r.un;rw [make_units];omega⟩
theorem Room.depth {k:Nat} {A:Around} (r:Room k A):A.depth<recursionLimit:=by have:=r.dp;omega
theorem Room.units {k:Nat} {A:Around} (r:Room k A):A.units+64<cLine:=by have:=r.un;omega
def ko:TA:=fun _ H Q=>Q [] H
def dF (ta:TE) (tr:TA):TA:=fun σ H Q=>ta σ H fun x H1=>tr σ H1 fun xs H2=>Q (x :: xs) H2
section
variable {X:Cx} {e:Expr} {es:List Expr} {te:TE} {t:TA} {pos:Pos}
theorem ad:PA X [] ko:=fun _ _ _ _ H Q I h=>Calls.spliced_nil ⟨[],H,I,.nil,h⟩
theorem pa_cons (ha:PE X e te) (hr:PA X es t) (hs:starEach (e :: es) X.env=(false,eval e X.env) :: starEach es X.env:=by rfl):PA X (e :: es) (dF te t):=by
 intro pos pins s σ H Q I h
 rw [hs]
 show wpAny _ _ (spliced ((false,eval e X.env) :: backTo pos (starEach es X.env))) _ _ s
 refine Calls.spliced_cons (thn (ha pins s σ H _ I h) fun u s1 ⟨x,H1,I1,r1,q1⟩=>?_)
 exact thn (hr pos pins s1 σ H1 _ I1 q1) fun us s2 ⟨xs,H2,I2,r2,q2⟩=>⟨x :: xs,H2,I2,.cons r1 r2,q2⟩
def tTup (t:TA):TE:=fun σ H Q=>t σ H fun xs H1=>xs.length≤sizeLine∧∀ p,H1 p=none→Q (.ref p) (upd H1 p (.tup xs))
def tLst (t:TA):TE:=fun σ H Q=>t σ H fun xs H1=>xs.length≤sizeLine∧∀ p,H1 p=none→Q (.ref p) (upd H1 p (.lst xs))
theorem ay {x1} (h:PA X es t):PE X (.Tuple es x1 pos) (tTup t):=by
 intro pins s σ H Q I hq
 refine wpAny_Tuple_spliced (thn (h pos pins s σ H _ I hq) fun us s1 ⟨xs,H1,I1,r,z,q⟩=>⟨by rw [← r.length];exact z,?_⟩)
 have hf:H1 s1.heap.objs.size=none:=I1.hok.fresh (Nat.le_refl _)
 refine ⟨.ref s1.heap.objs.size,upd H1 s1.heap.objs.size (.tup xs),I1.laid (t':=s1.toks) (fun b u e=>Heap.get?_push_of_some _ e) (Nat.le_refl _) ?_,rfl,q _ hf⟩
 exact ⟨z,us,r,⟨_,Heap.get?_push_size _ rfl,rfl,_,rfl⟩⟩
theorem bt (h:PA X es t):PE X (.List es pos) (tLst t):=by
 intro pins s σ H Q I hq
 refine wpAny_List_spliced (thn (h pos pins s σ H _ I hq) fun us s1 ⟨xs,H1,I1,r,z,q⟩=>⟨by rw [← r.length];exact z,?_⟩)
 have hf:H1 s1.heap.objs.size=none:=I1.hok.fresh (Nat.le_refl _)
 refine ⟨.ref s1.heap.objs.size,upd H1 s1.heap.objs.size (.lst xs),I1.laid (t':=s1.toks) (fun b u e=>Heap.get?_push_of_some _ e) (Nat.le_refl _) ?_,rfl,q _ hf⟩
 exact ⟨z,us,0,r,Heap.get?_push_size _ rfl⟩
end
abbrev Sp:=List V→Hp→VK→XK→Prop
abbrev CXT:=List Env→Hp→Shared→XK→Value→Shared→Prop
structure Env0 (P:Program) (w:World) (K:W.Frag) (mg:Str→Option Value) (base:Heap) (A:Around) (outer:List Env) (s:Shared) (H:Hp):Prop where
 frames:A.frames=some outer
 mod:Mod K mg base
 bs:∀ b o,base.get? b=some o→s.heap.get? b=some o∧H b=none
 bsz:base.objs.size≤s.heap.objs.size
 funs:s.heap.FunFrames base outer
 frf:∀ b∈frs outer,H b=none
 hok:HOk P w H s.heap
 bare:AllBare s.gens
def CE (outer:List Env) (P:Program) (w:World) (H:Hp) (s:Shared) (Q:VK) (u:Value) (s':Shared):Prop:=
 ∃ v H',s'.os=s.os∧AllBare s'.gens∧Un (frs outer) [] H H' s.heap s'.heap∧HOk P w H' s'.heap∧aX v u∧Q v H'
def CR (CX:CXT) (outer:List Env) (P:Program) (w:World) (H:Hp) (s:Shared) (Q:VK) (E:XK) (r:Result) (s':Shared):Prop:=
 match r with
 | .ok (.ret u)=>CE outer P w H s Q u s'
 | .ok _=>False
 | .error e=>CX outer H s E e s'
structure aY (P:Program) (w:World) (K:W.Frag) (mg:Str→Option Value) (base:Heap) (CX:CXT) (k:Nat) (f:Addr) (fd:FuncData) (ps:List Str) (sp:Sp):Prop where
 len:∀ vs H Q E,sp vs H Q E→vs.length=ps.length
 run:∀ (A:Around) (outer:List Env) (s:Shared) (H:Hp) (args:Args) (us:List Value) (vs:List V) (Q:VK) (E:XK),Room k A→Env0 P w K mg base A outer s H→BindsTo s fd args (ps.zip us)→aV vs us→sp vs H Q E →
  codeAny (model P w) A (.call (.ref f) args) (CR CX outer P w H s Q E) s
theorem Env0.make {P:Program} {w:World} {K:W.Frag} {mg:Str→Option Value} {base:Heap} {A:Around} {outer:List Env} {s:Shared} {H:Hp} (e:Env0 P w K mg base A outer s H) (C:Addr) (us:List Value) (kw:List (Str×Value)) :
 Env0 P w K mg base (A.under (.builtin "type.__call__" ⟨.ref C :: us,kw⟩)) outer s H:=⟨by first | exact e.frames | (simpa [Around.under,Code.envs,Code.isFrame,pushEnvs] using e.frames),e.mod,e.bs,e.bsz,e.funs,e.frf,e.hok,e.bare⟩
section
variable {X:Cx} {pins:List (Addr×Obj)} {σ:St} {H:Hp} {s s':Shared}
theorem Inv.env0 (I:Inv X pins σ H s):Env0 X.prog X.w X.K X.mg X.base X.A X.stack s H:=
 ⟨I.ok.frames,I.ok.mod,I.bs,Nat.le_trans I.ok.bsz I.sz,I.stack,I.stkFree,I.hok,I.bare⟩
theorem Inv.after {Q:VK} {u:Value} (I:Inv X pins σ H s) (h:CE X.stack X.prog X.w H s Q u s'):EP X pins σ Q u s':=by
 obtain ⟨v,H',os,bare,un,hok,r,q⟩:=h
 obtain ⟨hh,g,d,t,os'⟩:=s'
 obtain rfl:os'=s.os:=os
 exact ⟨v,H',I.call (h':=hh) (g':=g) (d':=d) (t':=t) (ch:=[]) un hok bare (fun b z=>absurd z (by simp)),r,q⟩
end
def tCall (sp:Sp) (dvs:List V) (E:XK) (t:TA):TE:=fun σ H Q=>t σ H fun vs H1=>sp (vs ++ dvs) H1 Q E
def tMeth (C:Addr) (m:Str) (sp:Sp) (dvs:List V) (E:XK) (ta:TE) (t:TA):TE:=fun σ H Q=>ta σ H fun x H1=>∃ a dx fs,x = .ref a∧H1 a=some (.ins C dx fs)∧fs.lookup m=none ∧
 t σ H1 fun vs H2=>sp (x :: (vs ++ dvs)) H2 Q E
def tMake (C:Addr) (sp:Sp) (dvs:List V) (E:XK) (t:TA):TE:=fun σ H Q=>t σ H fun vs H1=>∀ x dx,H1 x=none→H1 dx=none→dx≠x →
 sp (.ref x :: (vs ++ dvs)) (upd (upd H1 dx (.own x)) x (.ins C dx [])) (fun v H2=>v = .non∧Q (.ref x) H2) E
def aJ (K:W.Frag) (fd:FuncData) (ps:List Str) (ds:List Value):Prop:=
 ∀ (s:Shared) (us:List Value),K.In s.heap→(us ++ ds).length=ps.length→BindsTo s fd ⟨us,[]⟩ (ps.zip (us ++ ds))
theorem aJ.all {K:W.Frag} {fd:FuncData} {ps:List Str} (h:∀ us:List Value,us.length=ps.length→bindArgs fd ⟨us,[]⟩=pure (ps.zip us)):aJ K fd ps []:=fun s us _ hl=>by
 rw [List.append_nil] at hl ⊢
 exact .of_eq (h us hl)
def fK (CX:CXT) (X:Cx) (E:XK):Prop:=∀ (pins:List (Addr×Obj)) (σ:St) (H:Hp) (s:Shared) (e:Value) (s':Shared),Inv X pins σ H s→CX X.stack H s E e s'→X.xe e s'
section
variable {X:Cx} {CX:CXT} {k:Nat} {f C:Addr} {fd:FuncData} {ps:List Str} {sp:Sp} {dvs:List V} {ds:List Value} {E:XK} {x m:Str} {p pos apos:Pos} {e o:Expr} {es:List Expr} {ta:TE} {t:TA}
theorem run_fn {pins:List (Addr×Obj)} {σ:St} {H:Hp} {s:Shared} {Q:VK} {us:List Value} {vs:List V} (F:aY X.prog X.w X.K X.mg X.base CX k f fd ps sp) (hr:Room k X.A) (hb:aJ X.K fd ps ds) (hd:aV dvs ds) (hx:fK CX X E)
 (I:Inv X pins σ H s) (r:aV vs us) (h:sp (vs ++ dvs) H Q E):wpAny (model X.prog X.w) X.A (call (.ref f) us) (EP X pins σ Q) X.xe s:=by
 have r2:aV (vs ++ dvs) (us ++ ds):=r.append hd
 have hl:(us ++ ds).length=ps.length:=by rw [← r2.length];exact F.len _ _ _ _ h
 refine wpAny_call (codeAny_mono (F.run X.A X.stack s H ⟨us,[]⟩ (us ++ ds) (vs ++ dvs) Q E hr I.env0 (hb s us I.kIn hl) r2 h) fun r s' hq=>?_)
 cases r with
 | error e=>exact hx pins σ H s e s' I hq
 | ok fl=>
   cases fl with
   | ret u=>exact I.after hq
   | next=>exact False.elim hq
   | brk=>exact False.elim hq
   | cont=>exact False.elim hq
theorem pe_call (F:aY X.prog X.w X.K X.mg X.base CX k f fd ps sp) (hr:Room k X.A) (hg:Gl X x) (hm:X.mg x=some (.ref f)) (hk:W.keepIn X.K (.ref f)=true) (hb:aJ X.K fd ps ds) (hd:aV dvs ds) (hx:fK CX X E)
 (ha:PA X (e :: es) t) (hdb:(x == ("__debug__":Str))=false:=by decide) (he:starEach (e :: es) X.env=(false,eval e X.env) :: starEach es X.env:=by rfl) (hpl:(backTo pos (starEach es X.env)).any (·.1)=false:=by rfl) :
 PE X (.Call (.Name x p) (e :: es) [] pos) (tCall sp dvs E t):=by
 intro pins s σ H Q I h
 refine wpAny_Call_Name_kw (cI I hg hm ?_ hdb)
 refine W.callWith_K (h₀:=X.base) I.ok.mod.kin hk (thn (ha pos pins s σ H _ I h) fun us s1 ⟨vs,H1,I1,r,q⟩=>⟨I1.kIn,?_⟩) he hpl
 exact run_fn F hr hb hd hx I1 r q
theorem pe_meth {pl:Sem Bool} (he:PE X o ta) (c:Cls X.K C) (hm:jO X.K C m f) (F:aY X.prog X.w X.K X.mg X.base CX k f fd ps sp) (hr:Room k X.A) (hb:aJ X.K fd ps ds) (hd:aV dvs ds) (hx:fK CX X E) (ha:PA X (e :: es) t)
 (hst:starEach (e :: es) X.env=(false,eval e X.env) :: starEach es X.env:=by rfl) (hpl:(backTo pos (starEach es X.env)).any (·.1)=false:=by rfl)
 (ht:eval (.Call (.Attribute o m apos) (e :: es) [] pos) X.env=(do
  let ov ← eval o X.env
  standAt apos.atName
  let (f,first) ← holding [ov] (getMethod ov m pl)
  callWith pos f first (backTo pos (starEach (e :: es) X.env)) (backToKw pos (keywordEach [] X.env))):=by rfl) :
 PE X (.Call (.Attribute o m apos) (e :: es) [] pos) (tMeth C m sp dvs E ta t):=by
 intro pins s σ H Q I h
 refine W.methodCall_KW (pl:=pl) (thn (he pins s σ H _ I h) fun u s1 ⟨x,H1,I1,rx,a,dx,fs,ex,ea,l,q⟩=>?_) ht
 subst ex
 obtain rfl:u=Value.ref a:=rx
 refine getmeth_ok I1 ea c hm l ?_
 refine W.callWith_K (first:=[.ref a]) (h₀:=X.base) I.ok.mod.kin hm.kp (thn (ha pos pins s1 σ H1 _ I1 q) fun us s2 ⟨vs,H2,I2,r,q2⟩=>⟨I2.kIn,?_⟩) hst hpl
 exact run_fn (us:=.ref a :: us) (vs:=.ref a :: vs) F hr hb hd hx I2 (.cons rfl r) q2
structure Mk (K:W.Frag) (C f:Addr):Prop where
 makes:W.makesIn K C=true
 init:W.findIn K (.ref C) "__init__" = some (some (.ref f))
 fn:W.isFn K (.ref f)=true
 kp:W.keepIn K (.ref C)=true
theorem run_make {pins:List (Addr×Obj)} {σ:St} {H:Hp} {s:Shared} {Q:VK} {us:List Value} {vs:List V} (M:Mk X.K C f) (F:aY X.prog X.w X.K X.mg X.base CX k f fd ps sp) (hr:Room (k+1) X.A) (hb:aJ X.K fd ps ds) (hd:aV dvs ds)
 (hx:fK CX X E) (I:Inv X pins σ H s) (r:aV vs us)
 (h:∀ x dx,H x=none→H dx=none→dx≠x→sp (.ref x :: (vs ++ dvs)) (upd (upd H dx (.own x)) x (.ins C dx [])) (fun v H2=>v = .non∧Q (.ref x) H2) E) :
 wpAny (model X.prog X.w) X.A (call (.ref C) us) (EP X pins σ Q) X.xe s:=by
 have hq:=h (s.heap.objs.size+1) s.heap.objs.size (I.hok.fresh (Nat.le_succ _)) (I.hok.fresh (Nat.le_refl _)) (Nat.ne_of_lt (Nat.lt_succ_self _))
 have I2:=Inv.made (C:=C) I
 have r2:aV (V.ref (s.heap.objs.size+1) :: (vs ++ dvs)) (Value.ref (s.heap.objs.size+1) :: (us ++ ds)):=.cons rfl (r.append hd)
 have hl:(Value.ref (s.heap.objs.size+1) :: us ++ ds).length=ps.length:=by
  have e:=r2.length
  rw [F.len _ _ _ _ hq] at e
  exact e.symm
 refine wpAny_call (make_map (f:=f) I.kIn M.makes M.init (beq_iff_eq.mp M.fn) (codeAny_mono (F.run _ X.stack _ _ ⟨Value.ref (s.heap.objs.size+1) :: us,[]⟩ (Value.ref (s.heap.objs.size+1) :: (us ++ ds)) _ _ E (hr.make C us [])
  (I2.env0.make C us []) (hb _ (Value.ref (s.heap.objs.size+1) :: us) I2.kIn hl) r2 hq) fun r s' hq'=>?_))
 cases r with
 | error e=>exact hx pins σ _ _ e s' I2 hq'
 | ok fl=>
   cases fl with
   | ret u=>
     obtain ⟨v,H',I3,rv,ev,q3⟩:=I2.after hq'
     subst ev
     exact ⟨rv,⟨V.ref (s.heap.objs.size+1),H',I3,rfl,q3⟩⟩
   | next=>exact False.elim hq'
   | brk=>exact False.elim hq'
   | cont=>exact False.elim hq'
theorem pe_make0 (M:Mk X.K C f) (F:aY X.prog X.w X.K X.mg X.base CX k f fd ps sp) (hr:Room (k+1) X.A) (hg:Gl X x) (hm:X.mg x=some (.ref C)) (hb:aJ X.K fd ps ds) (hd:aV dvs ds) (hx:fK CX X E)
 (hdb:(x == ("__debug__":Str))=false:=by decide):PE X (.Call (.Name x p) [] [] pos) (tMake C sp dvs E ko):=by
 intro pins s σ H Q I h
 refine wpAny_Call_Name_kw (cI I hg hm ?_ hdb)
 exact W.callWith_K0 I.kIn M.kp (run_make (us:=[]) M F hr hb hd hx I .nil h)
end
def PK (X:Cx) (kws:List Keyword) (t:TA):Prop:=
 ∀ (pos:Pos) (pins:List (Addr×Obj)) (s:Shared) (σ:St) (H:Hp) (Q:List V→Hp→Prop),Inv X pins σ H s→t σ H Q→wpAny (model X.prog X.w) X.A (evalAll ((backToKw pos (keywordEach kws X.env)).map (·.2))) (AP X pins σ Q) X.xe s
section
variable {X:Cx} {CX:CXT} {k:Nat} {f C:Addr} {fd:FuncData} {ps ks:List Str} {sp:Sp} {E:XK} {x m:Str} {p pos apos kpos:Pos} {e o:Expr} {es:List Expr} {kws:List Keyword} {te ta:TE} {t tk:TA} {nm:Option Str}
theorem pk_nil:PK X [] ko:=fun _ _ _ _ H Q I h=>wpAny_evalAll_nil ⟨[],H,I,.nil,h⟩
theorem j8 (ha:PE X e te) (hr:PK X kws t):PK X (⟨nm,e,kpos⟩ :: kws) (dF te t):=by
 intro pos pins s σ H Q I h
 show wpAny _ _ (evalAll ((do let v ← eval e X.env;standAt pos;pure v) :: (backToKw pos (keywordEach kws X.env)).map (·.2))) _ _ s
 refine wpAny_evalAll_cons (wpAny_bind (thn (ha pins s σ H _ I h) fun u s1 ⟨x,H1,I1,r1,q1⟩=>wpAny_bind (wpAny_standAt (wpAny_pure ?_))))
 exact thn (hr pos pins s1 σ H1 _ I1 q1) fun us s2 ⟨xs,H2,I2,r2,q2⟩=>⟨x :: xs,H2,I2,.cons r1 r2,q2⟩
variable {g:List Value→List Value→List Value} {gV:List V→List V→List V}
end
structure aF (N P:List Str) (sc:Scope):Prop where
 kind:sc.kind = .function
 co:sc.isCoroutine=false
 gen:sc.isGenerator=false
 nd:N.Nodup
 pre:N.take P.length=P
 par:∀ x∈P,sc.names.lookup x=some .local∨sc.names.lookup x=some .cell
 nofree:∀ y∈sc.names,y.2≠.free
theorem iY {kindOf:Str→Option NameKind} {x:Str}:∀ {binds:List (Str×Value)} {m:Str→Option Value},(∀ v,(x,v) ∉ binds)→bindL kindOf binds m x=m x
 | [],_,_=>rfl
 | (n,v) :: r,m,h=>by
   unfold bindL
   rw [iY fun w hw=>h w (List.mem_cons_of_mem _ hw)]
   split
   ·have:x≠n:=by rintro rfl;exact h v List.mem_cons_self
    simp [this]
   ·rfl
theorem iW {kindOf:Str→Option NameKind} {x:Str}:∀ {binds:List (Str×Value)} {m:Str→Option Value},(∀ v,(x,v) ∉ binds)→bindC kindOf binds m x=m x
 | [],_,_=>rfl
 | (n,v) :: r,m,h=>by
   unfold bindC
   rw [iW fun w hw=>h w (List.mem_cons_of_mem _ hw)]
   split
   ·rfl
   ·have:x≠n:=by rintro rfl;exact h v List.mem_cons_self
    simp [this]
theorem iX {kindOf:Str→Option NameKind} {x:Str} {v:Value}:∀ {P:List Str} {vs:List Value} {i:Nat} {m:Str→Option Value},P.Nodup→P[i]? = some x→vs[i]? = some v→kindOf x=some .local →
 bindL kindOf (P.zip vs) m x=some v
 | [],_,_,_,_,h,_,_=>by simp at h
 | _ :: _,[],_,_,_,_,h,_=>by simp at h
 | p :: P,w :: vs,0,m,nd,h1,h2,hk=>by
   simp at h1 h2;subst h1;subst h2
   show bindL kindOf ((p,w) :: P.zip vs) m p=_
   unfold bindL
   rw [iY fun v hv=>(List.nodup_cons.mp nd).1 (List.of_mem_zip hv).1,if_pos hk]
   simp
 | p :: P,w :: vs,i+1,m,nd,h1,h2,hk=>by
   show bindL kindOf ((p,w) :: P.zip vs) m x=_
   unfold bindL
   exact iX (i:=i) (List.nodup_cons.mp nd).2 (by simpa using h1) (by simpa using h2) hk
theorem iV {kindOf:Str→Option NameKind} {x:Str} {v:Value}:∀ {P:List Str} {vs:List Value} {i:Nat} {m:Str→Option Value},P.Nodup→P[i]? = some x→vs[i]? = some v→kindOf x≠some .local →
 bindC kindOf (P.zip vs) m x=some v
 | [],_,_,_,_,h,_,_=>by simp at h
 | _ :: _,[],_,_,_,_,h,_=>by simp at h
 | p :: P,w :: vs,0,m,nd,h1,h2,hk=>by
   simp at h1 h2;subst h1;subst h2
   show bindC kindOf ((p,w) :: P.zip vs) m p=_
   unfold bindC
   rw [iW fun v hv=>(List.nodup_cons.mp nd).1 (List.of_mem_zip hv).1,if_neg hk]
   simp
 | p :: P,w :: vs,i+1,m,nd,h1,h2,hk=>by
   show bindC kindOf ((p,w) :: P.zip vs) m x=_
   unfold bindC
   exact iV (i:=i) (List.nodup_cons.mp nd).2 (by simpa using h1) (by simpa using h2) hk
def fz (N:List Str) (vs:List V):St:=vs.map some ++ List.replicate (N.length - vs.length) none
def kK (CX:CXT) (P:Program) (w:World) (K:W.Frag) (mg:Str→Option Value) (base:Heap) (N:List Str) (qual:Str) (scope:Scope) (f:Addr) (cd:Value) (A:Around) (outer:List Env) (s:Shared) (H:Hp) (E:XK):Cx where
 prog:=P
 w:=w
 K:=K
 mg:=mg
 base:=base
 A:=A.deeper (envOfC qual scope s.heap.objs.size f cd)
 N:=N
 s₀:=s
 H₀:=H
 env:=envOfC qual scope s.heap.objs.size f cd
 outer:=outer
 stack:=envOfC qual scope s.heap.objs.size f cd :: outer
 ex:=[]
 calm:=true
 fn:=fun _=>true
 pn:=[]
 xe:=fun e s'=>wpAny (model P w) (A.deeper (envOfC qual scope s.heap.objs.size f cd)) (leaving (envOfC qual scope s.heap.objs.size f cd) e) (fun _ s''=>CX outer H s E e s'') (fun e' s''=>CX outer H s E e' s'') s'
theorem kG {sc:Scope} {n:Nat} {x:Str} (h:sc.names.lookup x=some .cell):∃ c,(cellsFrom n sc.names []).lookup x=some c:=by
 have q:=W.cellsFrom_some sc.names n [] (.inl h)
 exact Option.isSome_iff_exists.mp q
theorem inv_start {CX:CXT} {P:Program} {w:World} {K:W.Frag} {mg:Str→Option Value} {base:Heap} {N ps:List Str} {qual:Str} {scope:Scope} {f:Addr} {cd:Value} {A:Around} {outer:List Env} {s s1:Shared} {H:Hp} {E:XK} {us:List Value} {vs:List V}
 (S:aF N ps scope) (hd:A.handled=none) (e0:Env0 P w K mg base A outer s H) (hl:vs.length=ps.length) (r:aV vs us)
 (x:InCallC s s.heap.objs.size (bindL (envOfC qual scope s.heap.objs.size f cd).kindOf (ps.zip us) fun _=>none) (cellsFrom (s.heap.objs.size+1) scope.names []) (bindC (envOfC qual scope s.heap.objs.size f cd).kindOf (ps.zip us) fun _=>none) s1) :
 Inv (kK CX P w K mg base N qual scope f cd A outer s H E) [] (fz N vs) H s1:=by
 have hpl:ps.length≤N.length:=by have:=congrArg List.length S.pre;rw [List.length_take] at this;omega
 obtain ⟨h1,tk,rfl,hk⟩:=x.done
 have noA:∀ b:Addr,b ∉ (kK CX P w K mg base N qual scope f cd A outer s H E).ex:=fun b z=>absurd (show b∈([]:List Addr) from z) (by simp)
 refine ⟨⟨e0.mod,S.kind,rfl,rfl,Nat.le_refl _,fun y z c h1 h2=>?_,fun y hy=>?_,fun y c _ h=>?_,fun _=>hd,Around.frames_deeper e0.frames,.inr ⟨rfl,rfl⟩,fun b z=>absurd z (noA b),e0.bs,e0.bsz,fun b _ _=>noA b,fun b z=>absurd z (noA b),e0.funs,e0.frf⟩,
  rfl,e0.bare,Un.kept hk,⟨_,x.toInCall.ns,fun i y v h1 h2 h3=>?_⟩,fun y c h=>⟨_,x.cell y c h⟩,e0.hok.fresh (Nat.le_refl _),fun y c h=>?_,fun p hp=>absurd (show p∈([]:List (Addr×Obj)) from hp) (by simp),e0.hok.kept hk,?_⟩
 ·exact name_of_addr x.apart (PySem.mem_of_lookup h1) (PySem.mem_of_lookup h2)
 ·have hy:scope.names.lookup y=some .cell∨scope.names.lookup y=some .free:=hy
  rcases hy with hy | hy
  ·exact kG hy
  ·exact absurd rfl (S.nofree _ (PySem.mem_of_lookup hy))
 ·exact Nat.le_of_lt (x.above y c (PySem.mem_of_lookup h))
 ·have hi:i<vs.length:=by
   unfold fz at h2
   by_cases hi:i<vs.length
   ·exact hi
   ·rw [List.getElem?_append_right (by simpa using hi)] at h2
    rw [List.getElem?_replicate] at h2
    split at h2 <;> cases h2
  have ha:vs[i]? = some v:=by
   unfold fz at h2
   rw [List.getElem?_append_left (by simpa using hi),List.getElem?_map] at h2
   cases e:vs[i]? with
   | none=>rw [e] at h2;cases h2
   | some a=>rw [e] at h2;cases h2;rfl
  obtain ⟨u,hu,rv⟩:=r.get ha
  have hp:ps[i]? = some y:=by
   rw [← S.pre,List.getElem?_take_of_lt (by omega)];exact h1
  have ndP:ps.Nodup:=by rw [← S.pre];exact S.nd.sublist (List.take_sublist _ _)
  refine ⟨u,rv,?_⟩
  rcases S.par y (List.mem_of_getElem? hp) with k | k
  ·exact .inl ⟨k,iX ndP hp hu k⟩
  ·obtain ⟨c,e⟩:=kG (n:=s.heap.objs.size+1) k
   refine .inr ⟨.inl k,c,e,?_⟩
   have q:=x.cell y c e
   rw [iV ndP hp hu (by show scope.names.lookup y≠_;rw [k];decide)] at q
   exact q
 ·exact e0.hok.fresh (Nat.le_of_lt (x.above y c (PySem.mem_of_lookup h)))
 ·unfold fz
  show _=N.length
  rw [List.length_append,List.length_map,List.length_replicate]
  omega
theorem fn_of {CX:CXT} {P:Program} {w:World} {K:W.Frag} {mg:Str→Option Value} {base:Heap} {k:Nat} {f:Addr} {name qual:Str} {params:Arguments} {body:List Stmt} {scope:Scope} {dV kV doc pm cdv ct oc:Value} {an od:Option Addr}
 {osl:Array (Option Value)} {N ps:List Str} {sp:Sp} (lk:K.lookup f=some ⟨oc,od,.func (W.fnOf name qual params body scope dV kV doc pm an cdv ct),osl⟩) (hcd:W.codeIn K cdv qual=true) (S:aF N ps scope)
 (len:∀ vs H Q E,sp vs H Q E→vs.length=ps.length)
 (hbody:∀ (A:Around) (outer:List Env) (s:Shared) (H:Hp) (vs:List V) (Q:VK) (E:XK),Room k (A.deeper (envOfC qual scope s.heap.objs.size f cdv))→sp vs H Q E →
  ∃ t,PSs (kK CX P w K mg base N qual scope f cdv A outer s H E) body t∧t { nx:=fun _ H'=>Q .non H',rt:=Q } (fz N vs) H) :
 aY P w K mg base CX (k+1) f (W.fnOf name qual params body scope dV kV doc pm an cdv ct) ps sp:=by
 refine ⟨len,fun A outer s H args us vs Q E hr e0 hb r hsp=>?_⟩
 have hl:=len _ _ _ _ hsp
 have KX:K.In s.heap:=e0.mod.kin.keeps fun b o e=>(e0.bs b o e).1
 have lim:s.heap.NoLimit:=e0.mod.nolimit.keeps fun b o e=>(e0.bs b o e).1
 have hkind:∀ y∈ps.zip us,scope.names.lookup y.1=some .local∨(scope.names.lookup y.1=some .cell∧((cellsFrom (s.heap.objs.size+1) scope.names []).lookup y.1).isSome=true):=fun ⟨n,v⟩ hy=>by
  rcases S.par n (List.of_mem_zip hy).1 with q | q
  ·exact .inl q
  ·exact .inr ⟨q,W.cellsFrom_some _ _ _ (.inl q)⟩
 refine codeAny_call_function hr.depth (KX _ _ lk) rfl S.co S.gen rfl (W.codeRec_of KX hcd) (hb _ _ _ _ ?_)
 refine wpAny_newFunctionEnv_cells S.kind hkind fun env he s1 x=>?_
 subst he
 refine ⟨lim.keeps x.toInCall.keep,codeAny_func ?_⟩
 obtain ⟨t,ht,hq⟩:=hbody A outer s H vs Q E (hr.deeper _) hsp
 have I:Inv (kK CX P w K mg base N qual scope f cdv A outer s H E) [] (fz N vs) H s1:=inv_start S hr.hd e0 hl r x
 refine wpAny_mono (ht [] s1 (fz N vs) H _ I hq) (fun fl s' hs=>?_) fun e s' hs=>hs
 have fin:∀ {σ':St} {H':Hp} {v:V} {u:Value},Inv (kK CX P w K mg base N qual scope f cdv A outer s H E) [] σ' H' s'→aX v u→Q v H'→CE outer P w H s Q u s':=
  fun {σ' H' v u} J rv q=>⟨v,H',J.os,J.bare,J.base,J.hok,rv,q⟩
 cases fl with
 | ret u=>
   obtain ⟨v,σ',H',J,rv,q⟩:=hs
   exact fin J rv q
 | next=>
   obtain ⟨σ',H',J,q⟩:=hs
   exact fin (v:=V.non) (u:=Value.none) J rfl q
 | brk=>
   obtain ⟨_,_,_,q⟩:=hs
   exact False.elim q
 | cont=>
   obtain ⟨_,_,_,q⟩:=hs
   exact False.elim q
end L2
namespace L2
open PySem PySem.Spec PyProof.Rows
section
variable {X:Cx} {x:Str} {p pos:Pos} {e:Expr} {es:List Expr} {t:TA} {id T:String} {r:List V→Hp→VK→Prop}
def tCB (r:List V→Hp→VK→Prop) (t:TA):TE:=fun σ H Q=>t σ H fun vs H1=>r vs H1 Q
theorem aQ (hc:dE X (.builtin id) r) (hg:Gl X x) (hm:X.mg x=none) (hv:bootBuiltins x=some (.builtin id)) (ha:PA X (e :: es) t) (hn:x≠"__name__":=by decide) (hdb:(x == ("__debug__":Str))=false:=by decide)
 (he:starEach (e :: es) X.env=(false,eval e X.env) :: starEach es X.env:=by rfl) (hpl:(backTo pos (starEach es X.env)).any (·.1)=false:=by rfl):PE X (.Call (.Name x p) (e :: es) [] pos) (tCB r t):=by
 intro pins s σ H Q I h
 refine wpAny_Call_Name_kw (cQ I hg hm hv ?_ hn hdb)
 exact PyProof.Rows.callWith_builtin1 (thn (ha pos pins s σ H _ I h) fun us s1 ⟨vs,H1,I1,r1,q1⟩=>hc pins s1 σ H1 vs us Q I1 r1 q1) he hpl
theorem bI (hc:dE X (.type T) r) (hg:Gl X x) (hm:X.mg x=none) (hv:bootBuiltins x=some (.type T)) (ha:PA X (e :: es) t) (hn:x≠"__name__":=by decide) (hdb:(x == ("__debug__":Str))=false:=by decide)
 (he:starEach (e :: es) X.env=(false,eval e X.env) :: starEach es X.env:=by rfl) (hpl:(backTo pos (starEach es X.env)).any (·.1)=false:=by rfl):PE X (.Call (.Name x p) (e :: es) [] pos) (tCB r t):=by
 intro pins s σ H Q I h
 refine wpAny_Call_Name_kw (cQ I hg hm hv ?_ hn hdb)
 exact PyProof.Rows.callWith_type1 (thn (ha pos pins s σ H _ I h) fun us s1 ⟨vs,H1,I1,r1,q1⟩=>hc pins s1 σ H1 vs us Q I1 r1 q1) he hpl
end
end L2
namespace HT
open PySem PyProof.Rows
section
variable {prog:Program} {w:World} {A:Around} {E:Value→Shared→Prop} {s:Shared}
theorem cat_tup {t b:Addr} {vs ws:List Value} {Q:Value→Shared→Prop} (ht:IsTup s.heap t vs.toArray) (hb:IsTup s.heap b ws.toArray) (hv:vs≠[])
 (h1:ws = []→Q (.ref t) s) (h2:ws≠[]→Q (.ref s.heap.objs.size) { s with heap:=s.heap.push { cls:=.type "tuple",data:=.seq (vs ++ ws).toArray } })
 (hsz:vs.length+ws.length≤sizeLine):wpAny (model prog w) A (binaryOp .Add (.ref t) (.ref b)) Q E s:=by
 obtain ⟨⟨cls,dd,data,sl⟩,ho,hc,n,hd⟩:=id ht
 obtain ⟨⟨cls2,dd2,data2,sl2⟩,ho2,hc2,n2,hd2⟩:=id hb
 simp only at hc hd hc2 hd2
 subst hc hd hc2 hd2
 have e:vs.toArray ++ ws.toArray=(vs ++ ws).toArray:=by simp
 by_cases hw:ws = []
 ·exact concat_meets ⟨_,ho,rfl⟩ ⟨_,ho2,rfl⟩ noFill_tuple_add seq_tuple_add PySem.F.slot_tuple_add PySem.F.entry_tuple_add (PySem.F.args_tuple_add_2 _ _)
   (tuple_addW1 t b vs.toArray ws.toArray n n2 dd dd2 sl sl2 (by simpa using hv) (by simp [hw])) ⟨ho,ho2,h1 hw⟩
 ·refine concat_meets ⟨_,ho,rfl⟩ ⟨_,ho2,rfl⟩ noFill_tuple_add seq_tuple_add PySem.F.slot_tuple_add PySem.F.entry_tuple_add (PySem.F.args_tuple_add_2 _ _)
   (tuple_addW2 t b vs.toArray ws.toArray n n2 dd dd2 sl sl2 (by simpa using hv) (by simpa using hw) (by rw [List.size_toArray,List.size_toArray];exact hsz)) ⟨ho,ho2,?_⟩
  rw [e]
  exact h2 hw
def sIx (n d:Nat):Option Int→Nat
 | none=>d
 | some v=>if v<0 then (v+(n:Int)).toNat else min v.toNat n
theorem sIx_le (n d:Nat) (hd:d≤n) (o:Option Int):sIx n d o≤n:=by
 cases o with
 | none=>exact hd
 | some v=>
   show (if v<0 then (v+(n:Int)).toNat else min v.toNat n)≤n
   by_cases hv:v<0
   ·rw [if_pos hv];omega
   ·rw [if_neg hv];exact Nat.min_le_right _ _
theorem clip_eq (v:Int) (n d:Nat):(if v<0 then max (v+(n:Int)) 0 else min v (n:Int))=((sIx n d (some v):Nat):Int):=by
 show (if v<0 then max (v+(n:Int)) 0 else min v (n:Int))=(((if v<0 then (v+(n:Int)).toNat else min v.toNat n):Nat):Int)
 by_cases hv:v<0
 ·simp only [if_pos hv];omega
 ·simp only [if_neg hv];omega
theorem adjust_gen (lo hi:Option Int) (n:Nat):Builtin.Slice.sliceAdjust lo hi 1 (n:Int)=(((sIx n 0 lo:Nat):Int),((sIx n n hi:Nat):Int)):=by
 have h1:¬ ((1:Int)<0):=by omega
 unfold Builtin.Slice.sliceAdjust
 simp only [h1,if_false]
 refine Prod.ext ?_ ?_
 ·cases lo with
  | none=>rfl
  | some v=>exact clip_eq v n 0
 ·cases hi with
  | none=>rfl
  | some v=>exact clip_eq v n n
theorem places_gen (i j:Nat):Builtin.Slice.slicePlaces (i:Int) (j:Int) 1=j - i:=by
 unfold Builtin.Slice.slicePlaces
 have h1:(1:Int)>0:=by omega
 simp only [h1,if_true,Int.ediv_one]
 split <;> omega
theorem iH {v:Value} {o:Option Int} {Q:Option Int→Shared→Prop} (p:IsPart v o) (h:Q o s):wpAny (model prog w) A (Builtin.Slice.slicePartIndex v) Q E s:=by
 cases p with
 | none=>exact slicePart_none h
 | int i t=>exact slicePart_int h
theorem dj {sl:Addr} {vl vu:Value} {lo hi:Option Int} {n:Nat} {Q:Int×Int×Nat→Shared→Prop} (hs:s.heap.IsSliceOf sl vl vu .none) (pl:IsPart vl lo) (pu:IsPart vu hi)
 (h:Q (((sIx n 0 lo:Nat):Int),1,sIx n n hi - sIx n 0 lo) s):wpAny (model prog w) A (Builtin.Slice.sliceApplied (.ref sl) (pure (n:Int))) Q E s:=by
 obtain ⟨os,hos,hcs,hds⟩:=id hs
 unfold Builtin.Slice.sliceApplied Builtin.Slice.sliceFields
 refine wpAny_bind (wpAny_bind (wpAny_field hos hds (x:=vl) rfl (wpAny_bind (wpAny_field hos hds (x:=vu) rfl (wpAny_bind (wpAny_field hos hds (x:=.none) rfl (wpAny_pure ?_)))))))
 refine wpAny_bind (slicePart_none ?_)
 show wpAny _ _ (if ((1:Int) == 0)=true then _ else _) _ _ s
 rw [if_neg (by decide)]
 refine wpAny_bind (iH pl (wpAny_bind (iH pu (wpAny_bind (wpAny_pure ?_)))))
 show wpAny _ _ (match Builtin.Slice.sliceAdjust lo hi 1 (n:Int) with | (lo,hi)=>pure (lo,(1:Int),Builtin.Slice.slicePlaces lo hi 1)) _ _ s
 rw [adjust_gen lo hi n]
 show wpAny _ _ (pure (((sIx n 0 lo:Nat):Int),(1:Int),Builtin.Slice.slicePlaces ((sIx n 0 lo:Nat):Int) ((sIx n n hi:Nat):Int) 1)) _ _ s
 rw [places_gen]
 exact wpAny_pure h
theorem pick_gen (xs:Array Value) (i k:Nat):((List.range k).filterMap fun (m:Nat)=>xs[((i:Int)+(m:Int) * 1).toNat]?).toArray=((xs.toList.drop i).take k).toArray:=by
 have e:(fun (m:Nat)=>xs[((i:Int)+(m:Int) * 1).toNat]?)=fun m=>xs[i+m]?:=by
  funext m
  have:((i:Int)+(m:Int) * 1).toNat=i+m:=by omega
  rw [this]
 rw [e]
 have:=pick_run xs i k
 rw [List.filterMap_map] at this
 have e2:((fun x=>xs[x]?) ∘ fun x=>i+x)=fun m=>xs[i+m]?:=rfl
 rw [e2] at this
 rw [this]
theorem getItem_tuple_cut {t sl:Addr} {items:Array Value} {vl vu:Value} {lo hi:Option Int} {Q:Value→Shared→Prop} (ht:IsTup s.heap t items) (hs:s.heap.IsSliceOf sl vl vu .none) (pl:IsPart vl lo) (pu:IsPart vu hi)
 (hw:¬ (sIx items.size 0 lo=0∧sIx items.size items.size hi=items.size))
 (h:Q (.ref s.heap.objs.size) { s with heap:=s.heap.push { cls:=.type "tuple",data:=.seq ((items.toList.drop (sIx items.size 0 lo)).take (sIx items.size items.size hi - sIx items.size 0 lo)).toArray } })
 (hsz:items.size≤sizeLine):wpAny (model prog w) A (getItem (.ref t) (.ref sl)) Q E s:=by
 have htake:sizeOk (.seq ((items.toList.drop (sIx items.size 0 lo)).take (sIx items.size items.size hi - sIx items.size 0 lo)).toArray):=by
  show ((items.toList.drop (sIx items.size 0 lo)).take (sIx items.size items.size hi - sIx items.size 0 lo)).toArray.size≤sizeLine
  rw [List.size_toArray,List.length_take,List.length_drop,Array.length_toList]
  omega
 have hj:sIx items.size items.size hi≤items.size:=sIx_le _ _ (Nat.le_refl _) hi
 obtain ⟨os,hos,hcs,hds⟩:=id hs
 have hTs:s.TypeIs (.ref sl) "slice":=⟨os,hos,hcs⟩
 unfold getItem
 try with_reducible refine wpAny_holding ?_
 first | refine wpAny_bind (wpAny_pure ?_) | skip
 refine wpAny_bind (wpAny_sequenceKey ht.typeIs (by decide) ?_)
 refine wpAny_bind (wpAny_callSpecial?_slot (name:=Str.ofString "__getitem__") ht.typeIs PyProof.Rows.slot_tuple_getitem
  (wpAny_call_entry PyProof.Rows.slot_tuple_getitem ht.typeIs entry_tuple_getitem ?_ (args_tuple_getitem _ _)))
 show wpAny _ _ (Builtin.Tuple.tupleItemsOf (.ref t) >>= _) _ _ s
 refine wpAny_bind (tupleItemsOf_ ht ?_)
 refine wpAny_bind (wpAny_typeOf hTs ?_)
 rw [if_pos (by decide)]
 refine wpAny_bind (dj hs pl pu ?_)
 have hno:¬ ((((sIx items.size 0 lo:Nat):Int) == 0 && (1:Int) == 1 && (sIx items.size items.size hi - sIx items.size 0 lo) == items.size)=true):=by
  intro q
  rw [Bool.and_eq_true,Bool.and_eq_true] at q
  have q1:((sIx items.size 0 lo:Nat):Int)=0:=eq_of_beq q.1.1
  have q2:sIx items.size items.size hi - sIx items.size 0 lo=items.size:=eq_of_beq q.2
  exact hw ⟨by omega,by omega⟩
 show wpAny _ _ (if (((sIx items.size 0 lo:Nat):Int) == 0 && (1:Int) == 1 && (sIx items.size items.size hi - sIx items.size 0 lo) == items.size)=true then _ else _) _ _ s
 rw [if_neg hno,pick_gen]
 first
  | exact wpAny_bind (m:=Builtin.Tuple.tupleExact _) (wpAny_newObj_type (wpAny_pure ⟨_,rfl,wpAny_pure h⟩) htake)
  | exact wpAny_bind (m:=Builtin.Tuple.tupleExact _) (wpAny_newObj_type (wpAny_bind (wpAny_pure (wpAny_pure ⟨_,rfl,wpAny_pure h⟩))) htake)
  | exact wpAny_bind (wpAny_bind (m:=Builtin.Tuple.tupleExact _) (wpAny_newObj_type (wpAny_pure (wpAny_pure ⟨_,rfl,wpAny_pure h⟩)) htake))
  | exact wpAny_bind (wpAny_bind (m:=Builtin.Tuple.tupleExact _) (wpAny_newObj_type (wpAny_pure ⟨_,rfl,wpAny_pure h⟩) htake))
end
end HT
namespace L2
open PySem PySem.Spec PyProof.Rows
abbrev TO:=St→Hp→(Option Int→Hp→Prop)→Prop
def PO (X:Cx) (e:Option Expr) (t:TO):Prop:=
 ∀ (pins:List (Addr×Obj)) (s:Shared) (σ:St) (H:Hp) (Q:Option Int→Hp→Prop),Inv X pins σ H s→t σ H Q →
   wpAny (model X.prog X.w) X.A (evalPart e X.env) (fun u s'=>∃ o H',Inv X pins σ H' s'∧IsPart u o∧Q o H') X.xe s
def tNoPart:TO:=fun _ H Q=>Q none H
def tPart (t:TE):TO:=fun σ H Q=>t σ H fun x H1=>∃ i,x = .int i∧Q (some i) H1
theorem intsAre_of {ns:List Int}:∀ {us:List Value},aV (ns.map V.int) us→IntsAre us ns:=by
 induction ns with
 | nil=>intro us r;rw [List.map_nil] at r;cases r;exact .nil
 | cons n ns ih=>
   intro us r
   rw [List.map_cons] at r
   cases r with
   | cons r1 r2=>
     obtain ⟨t,e⟩:=r1
     subst e
     exact .cons n t (ih r2)
section
variable {X:Cx} {e:Expr} {te:TE} {lo hi:Option Expr} {tl th:TO} {pos p2:Pos}
theorem po_none:PO X none tNoPart:=by
 intro pins s σ H Q I h
 rw [evalPart_none]
 exact wpAny_pure ⟨none,H,I,.none,h⟩
theorem po_some (h:PE X e te):PO X (some e) (tPart te):=by
 intro pins s σ H Q I hw
 rw [evalPart_some]
 refine thn (h pins s σ H _ I hw) fun u s1 ⟨x,H1,I1,r1,q1⟩=>?_
 obtain ⟨i,rfl,q⟩:=q1
 obtain ⟨t,rfl⟩:=r1
 exact ⟨some i,H1,I1,.int i t,q⟩
def SlR (X:Cx) (r:V→Option Int→Option Int→Hp→VK→Prop):Prop:=
 ∀ (pins:List (Addr×Obj)) (s:Shared) (σ:St) (H:Hp) (x:V) (v vl vu:Value) (lo hi:Option Int) (sl:Addr) (Q:VK),Inv X pins σ H s→aX x v→s.heap.IsSliceOf sl vl vu .none→IsPart vl lo→IsPart vu hi→r x lo hi H Q →
   ∃ T id,typeLookup (.type T) "__getitem__" = pure (some (.builtin id))∧s.TypeIs v T∧wpAny (model X.prog X.w) X.A (getItem v (.ref sl)) (EP X pins σ Q) X.xe s
theorem SlR.or {r r':V→Option Int→Option Int→Hp→VK→Prop} (h:SlR X r) (h':SlR X r'):SlR X (fun x lo hi H Q=>r x lo hi H Q∨r' x lo hi H Q):=by
 intro pins s σ H x v vl vu lo hi sl Q I rx hs pl pu q
 rcases q with q | q
 ·exact h pins s σ H x v vl vu lo hi sl Q I rx hs pl pu q
 ·exact h' pins s σ H x v vl vu lo hi sl Q I rx hs pl pu q
def tSl (r:V→Option Int→Option Int→Hp→VK→Prop) (te:TE) (tl th:TO):TE:=fun σ H Q=>te σ H fun x H1=>tl σ H1 fun l H2=>th σ H2 fun u H3=>r x l u H3 Q
theorem lB {r:V→Option Int→Option Int→Hp→VK→Prop} (hr:SlR X r) (he:PE X e te) (hl:PO X lo tl) (hu:PO X hi th):PE X (.Subscript e (.Slice lo hi none p2) pos) (tSl r te tl th):=by
 intro pins s σ H Q I h
 refine Subscript_ (thn (he pins s σ H _ I h) fun v s1 ⟨x,H1,I1,r1,q1⟩=>?_)
 refine wpAny_Slice (thn (hl pins s1 σ H1 _ I1 q1) fun vl s2 ⟨l,H2,I2,pl,q2⟩=>thn (hu pins s2 σ H2 _ I2 q2) fun vu s3 ⟨u,H3,I3,pu,q3⟩=>?_)
 rw [evalPart_none]
 refine wpAny_pure ?_
 have I4:Inv X pins σ H3 { s3 with heap:=s3.heap.push { cls:=.type "slice",data:=.fields #[vl,vu,.none] } }:=I3.kept (t':=s3.toks) fun b ob q=>Heap.get?_push_of_some _ q
 obtain ⟨T,id,hT,ht,hg⟩:=hr pins { s3 with heap:=s3.heap.push { cls:=.type "slice",data:=.fields #[vl,vu,.none] } } σ H3 x v vl vu l u s3.heap.objs.size Q I4 r1 (Heap.IsSliceOf.new ..) pl pu q3
 show wpAny (model X.prog X.w) X.A (subscriptTail e (.Slice lo hi none p2) v (.ref s3.heap.objs.size)) (EP X pins σ Q) X.xe { s3 with heap:=s3.heap.push { cls:=.type "slice",data:=.fields #[vl,vu,.none] } }
 exact tail_any (ops:=[.ref s3.heap.objs.size,v]) ht hT hg (by with_unfolding_all rfl)
def iQ (xs:List V) (lo hi:Option Int):List V:=(xs.drop (HT.sIx xs.length 0 lo)).take (HT.sIx xs.length xs.length hi - HT.sIx xs.length 0 lo)
theorem gB (xs:List V) (lo hi:Option Int):(iQ xs lo hi).length≤xs.length:=by
 unfold iQ
 rw [List.length_take,List.length_drop]
 omega
def rSlT (K:W.Frag):V→Option Int→Option Int→Hp→VK→Prop:=fun x lo hi H Q=>∃ a xs,x = .ref a∧SqT K H a xs ∧
 ¬ (HT.sIx xs.length 0 lo=0∧HT.sIx xs.length xs.length hi=xs.length)∧∀ p,H p=none→Q (.ref p) (upd H p (.tup (iQ xs lo hi)))
theorem sl_tup:SlR X (rSlT X.K):=by
 intro pins s σ H x v vl vu lo hi sl Q I rx hs pl pu h
 obtain ⟨a,xs,rfl,hx,hw,q⟩:=h
 cases rx
 obtain ⟨its,r,ht,hz⟩:=I.tuple hx
 have hlen:its.toArray.size=xs.length:=by rw [List.size_toArray];exact r.length.symm
 refine ⟨"tuple",_,PyProof.Rows.slot_tuple_getitem.lookup,ht.typeIs,?_⟩
 refine HT.getItem_tuple_cut ht hs pl pu (by rw [hlen];exact hw) ?_ (by rw [hlen];exact hz)
 rw [hlen]
 refine ⟨.ref s.heap.objs.size,_,I.laid (t':=s.toks) (o:=.tup (iQ xs lo hi)) (fun b ob q=>Heap.get?_push_of_some _ q) (Nat.le_refl _) ?_,rfl,q _ (I.hok.fresh (Nat.le_refl _))⟩
 exact ⟨Nat.le_trans (gB xs lo hi) hz,_,(r.drop (HT.sIx xs.length 0 lo)).take (HT.sIx xs.length xs.length hi - HT.sIx xs.length 0 lo),IsTup.new _ _⟩
def rCatT (K:W.Frag):R2:=fun x y H Q=>∃ a b xs ys,x = .ref a∧y = .ref b∧SqT K H a xs∧SqT K H b ys∧xs≠[]∧xs.length+ys.length≤sizeLine ∧
 (ys = []→Q (.ref a) H)∧(ys≠[]→∀ p,H p=none→Q (.ref p) (upd H p (.tup (xs ++ ys))))
theorem aV.nil_iff {xs:List V} {us:List Value} (r:aV xs us):us = []↔xs = []:=by
 cases r with
 | nil=>simp
 | cons _ _=>simp
theorem op_catT:OpR X (binaryOp .Add) (rCatT X.K):=by
 intro pins s σ H x y v u Q I rx ry h
 obtain ⟨a,b,xs,ys,rfl,rfl,ha,hb,hx,hz,q1,q2⟩:=h
 cases rx
 cases ry
 obtain ⟨its,r1,p1,_⟩:=I.tuple ha
 obtain ⟨its2,r2,p2,_⟩:=I.tuple hb
 refine HT.cat_tup p1 p2 (fun z=>hx (r1.nil_iff.mp z)) (fun z=>⟨.ref a,H,I,rfl,q1 (r2.nil_iff.mp z)⟩) (fun z=>?_) (by rw [← r1.length,← r2.length];exact hz)
 refine ⟨.ref s.heap.objs.size,_,I.laid (t':=s.toks) (o:=.tup (xs ++ ys)) (fun b ob q=>Heap.get?_push_of_some _ q) (Nat.le_refl _) ?_,rfl,q2 (fun w=>z (r2.nil_iff.mpr w)) _ (I.hok.fresh (Nat.le_refl _))⟩
 exact ⟨by rw [List.length_append];exact hz,_,r1.append r2,IsTup.new _ _⟩
end
end L2
namespace L2
open PySem PySem.Spec PyProof.Rows
def ixN (n:Nat) (i:Int):Option Nat:=if 0≤i then (if i<n then some i.toNat else none) else if -(n:Int)≤i then some (i+n).toNat else none
def atI {α:Type} (xs:List α) (i:Int):Option α:=(ixN xs.length i).bind fun j=>xs[j]?
theorem ixN_seq {n:Nat} {i:Int} {j:Nat} (h:ixN n i=some j):seqIndex? i n=some j∧j<n∧-(n:Int)≤i∧i<n:=by
 unfold ixN at h
 by_cases h0:0≤i
 ·rw [if_pos h0] at h
  by_cases h1:i<n
  ·rw [if_pos h1] at h
   have e:i.toNat=j:=Option.some.inj h
   exact ⟨by rw [seqIndex_of h0 h1,e],by omega,by omega,h1⟩
  ·rw [if_neg h1] at h;cases h
 ·rw [if_neg h0] at h
  by_cases h1:-(n:Int)≤i
  ·rw [if_pos h1] at h
   have e:(i+n).toNat=j:=Option.some.inj h
   exact ⟨by rw [seqIndex_neg (by omega) h1,e],by omega,h1,by omega⟩
  ·rw [if_neg h1] at h;cases h
theorem jP {α:Type} {xs:List α} {i:Int} {v:α} (h:atI xs i=some v):∃ j,seqIndex? i xs.length=some j∧xs[j]? = some v∧j<xs.length∧-(xs.length:Int)≤i∧i<xs.length:=by
 unfold atI at h
 cases e:ixN xs.length i with
 | none=>rw [e] at h;cases h
 | some j=>
   rw [e] at h
   obtain ⟨h1,h2,h3,h4⟩:=ixN_seq e
   exact ⟨j,h1,h,h2,h3,h4⟩
theorem aK {α:Type} {xs:List α} {j:Nat} {v:α} (h:xs[j]? = some v):atI xs (j:Int)=some v:=by
 have hj:j<xs.length:=(List.getElem?_eq_some_iff.mp h).1
 have e:ixN xs.length (j:Int)=some j:=by
  unfold ixN
  rw [if_pos (by omega),if_pos (by omega)];simp
 unfold atI;rw [e];exact h
def gN (b:Expr):Prop:=∀ o i,subscripted b false o i=operate [o,i] (getItem o i)
def IxR (X:Cx) (r:R2):Prop:=
 ∀ (value slice:Expr) (pins:List (Addr×Obj)) (s:Shared) (σ:St) (H:Hp) (x y:V) (v u:Value) (Q:VK),Inv X pins σ H s→aX x v→aX y u→r x y H Q →
   subscripted slice false v u=operate [v,u] (getItem v u)→wpAny (model X.prog X.w) X.A (subscriptTail value slice v u) (EP X pins σ Q) X.xe s
def MtR (X:Cx) (id:String) (r:V→List V→Hp→VK→Prop):Prop:=
 ∀ (pins:List (Addr×Obj)) (s:Shared) (σ:St) (H:Hp) (x:V) (xs:List V) (v:Value) (us:List Value) (Q:VK),Inv X pins σ H s→aX x v→aV xs us→r x xs H Q →
   wpAny (model X.prog X.w) X.A (call (.builtin id) (v :: us)) (EP X pins σ Q) X.xe s
section
variable {X:Cx} {a b:Expr} {ta tb:TE} {pos:Pos}
theorem IxR.or {r r':R2} (h:IxR X r) (h':IxR X r'):IxR X (fun x y H Q=>r x y H Q∨r' x y H Q):=by
 intro value slice pins s σ H x y v u Q I rx ry q hs
 rcases q with q | q
 ·exact h value slice pins s σ H x y v u Q I rx ry q hs
 ·exact h' value slice pins s σ H x y v u Q I rx ry q hs
theorem al {r:R2} (hr:IxR X r) (ha:PE X a ta) (hb:PE X b tb) (hs:gN b):PE X (.Subscript a b pos) (tOp r ta tb):=by
 intro pins s σ H Q I h
 exact Subscript_ (binT ha hb I h fun v u s2 x y H2 I2 rx ry q=>hr a b pins s2 σ H2 x y v u Q I2 rx ry q (hs _ _))
def rIxL (K:W.Frag):R2:=fun x y H Q=>∃ p xs i v,x = .ref p∧y = .int i∧SqL K H p xs∧atI xs i=some v∧Q v H
def rIxT (K:W.Frag):R2:=fun x y H Q=>∃ p xs i v,x = .ref p∧y = .int i∧SqT K H p xs∧atI xs i=some v∧Q v H
def rIxS:R2:=fun x y H Q=>∃ z i c,x = .str z∧y = .int i∧z.length≤sizeLine∧atI z.cps.toList i=some c∧Q (.str ⟨#[c]⟩) H
theorem ix_list:IxR X (rIxL X.K):=by
 intro value slice pins s σ H x y v u Q I rx ry h hs
 obtain ⟨p,xs,i,z,rfl,rfl,hq,he,q⟩:=h
 cases rx
 obtain ⟨t,rfl⟩:=ry
 obtain ⟨its,r,pl,hz⟩:=I.list hq
 obtain ⟨j,h1,h2,h3,h4,h5⟩:=jP he
 obtain ⟨w,ew,rw'⟩:=r.get h2
 have hl:=r.length
 have hn:=fV
 have fin:EP X pins σ Q w s:=⟨z,H,I,rw',q⟩
 by_cases h0:0≤i
 ·have hj:i.toNat=j:=by
   rw [seqIndex_of h0 h5] at h1
   exact Option.some.inj h1
  exact item_listR pl.isList h0 (by omega) (by rw [hj];simpa using ew) fin hs
 ·have hj:(i+(its.toArray.size:Int)).toNat=j:=by
   rw [seqIndex_neg (by omega) h4] at h1
   rw [List.size_toArray,← hl]
   exact Option.some.inj h1
  exact subscriptTail_builtinR (x:=w) pl.isList.typeIs slot_list_getitem.lookup
   (wpAny_getItem_list_neg (Q:=fun r s'=>r=w∧EP X pins σ Q r s') pl.isList (by omega) (by rw [List.size_toArray] <;> omega) (by omega) (by rw [hj];simpa using ew) ⟨rfl,fin⟩) hs
theorem ix_tup:IxR X (rIxT X.K):=by
 intro value slice pins s σ H x y v u Q I rx ry h hs
 obtain ⟨p,xs,i,z,rfl,rfl,hq,he,q⟩:=h
 cases rx
 obtain ⟨t,rfl⟩:=ry
 obtain ⟨its,r,pl,hz⟩:=I.tuple hq
 obtain ⟨j,h1,h2,h3,h4,h5⟩:=jP he
 obtain ⟨w,ew,rw'⟩:=r.get h2
 have hl:=r.length
 have hn:=fV
 have fin:EP X pins σ Q w s:=⟨z,H,I,rw',q⟩
 exact subscriptTail_builtinR (x:=w) pl.typeIs slot_tuple_getitem.lookup
  (getItem_tuple (j:=j) (Q:=fun r s'=>r=w∧EP X pins σ Q r s') pl (by omega) (by omega) (by rw [List.size_toArray,← hl];exact h1) (by simpa using ew) ⟨rfl,fin⟩) hs
theorem ix_str:IxR X rIxS:=by
 intro value slice pins s σ H x y v u Q I rx ry h hs
 obtain ⟨z,i,c,rfl,rfl,hz,he,q⟩:=h
 obtain ⟨t,rfl⟩:=rx
 obtain ⟨t',rfl⟩:=ry
 obtain ⟨j,h1,h2,h3,h4,h5⟩:=jP he
 have hl:z.cps.toList.length=z.length:=by simp [Str.length]
 rw [hl] at h1 h4 h5
 have hn:=fV
 exact tail_any (typeIs_str s z t) slot_str_getitem.lookup (getItem_str (c:=c) (by
  have e1:decide (i < -(2 ^ 63:Int))=false:=decide_eq_false (by omega)
  have e2:decide (i≥2 ^ 63)=false:=decide_eq_false (by omega)
  rw [e1,e2,Bool.or_false]) (by rw [h1];simpa using h2) ⟨.str ⟨#[c]⟩,H,I.tok _,⟨_,rfl⟩,q⟩) hs
def rIx (K:W.Frag):R2:=fun x y H Q=>rIxL K x y H Q∨rIxT K x y H Q∨rIxS x y H Q
theorem ai:IxR X (rIx X.K):=ix_list.or (ix_tup.or ix_str)
theorem mapSeq_set (its:List Value) (n j:Nat) (u:Value):Obj.mapSeq (·.setIfInBounds j u) { cls:=.type "list",data:=.seq its.toArray n }={ cls:=.type "list",data:=.seq (its.set j u).toArray n }:=by
 simp [Obj.mapSeq]
theorem Inv.lst {pins:List (Addr×Obj)} {σ:St} {H:Hp} {s:Shared} {p:Addr} {xs:List V} (I:Inv X pins σ H s) (h:H p=some (.lst xs)) :
 ∃ (its:List Value) (n:Nat),aV xs its∧s.heap.get? p=some { cls:=.type "list",data:=.seq its.toArray n }∧xs.length≤sizeLine:=by
 obtain ⟨z,its,n,r,e⟩:=I.hok p _ h
 exact ⟨its,n,r,e,z⟩
theorem Inv.lstUpd {pins:List (Addr×Obj)} {σ:St} {H:Hp} {s:Shared} {p:Addr} {xs ys:List V} {its its':List Value} {n n':Nat} {f:Obj→Obj} (I:Inv X pins σ H s) (h:H p=some (.lst xs))
 (ho:s.heap.get? p=some { cls:=.type "list",data:=.seq its.toArray n }) (hf:f { cls:=.type "list",data:=.seq its.toArray n }={ cls:=.type "list",data:=.seq its'.toArray n' }) (r:aV ys its') (hz:ys.length≤sizeLine) (t:Nat) :
 Inv X pins σ (upd H p (.lst ys)) { s with heap:=s.heap.update p f,toks:=t }:=by
 have e:(s.heap.update p f).get? p=some { cls:=.type "list",data:=.seq its'.toArray n' }:=by
  rw [Heap.get?_update_self f ho (by rw [hf] <;> rfl),hf]
 refine I.write (x:=p) (e:=p) (by rw [h];trivial) (.inl rfl) (fun b u hb q=>(Heap.get?_update_other _ _ (Ne.symm hb)).trans q) ⟨_,e⟩ ?_
 exact ⟨hz,its',n',r,e⟩
def rSetL:V→V→V→Hp→(Hp→Prop)→Prop:=fun o i v H Q=>∃ p xs k j,o = .ref p∧i = .int k∧H p=some (.lst xs)∧ixN xs.length k=some j∧Q (upd H p (.lst (xs.set j v)))
theorem lE:PSet X rSetL:=by
 intro pins s σ H o i v ov iv u Q I ro ri rv h
 obtain ⟨p,xs,k,j,rfl,rfl,hp,hj,q⟩:=h
 cases ro
 obtain ⟨t,rfl⟩:=ri
 obtain ⟨its,n,r,ho,hz⟩:=I.lst hp
 obtain ⟨h1,h2,h3,h4⟩:=ixN_seq hj
 have hl:=r.length
 have hn:=fV
 have I':Inv X pins σ (upd H p (.lst (xs.set j v))) { s with heap:=s.heap.update p (Obj.mapSeq (·.setIfInBounds j u)) }:=
  I.lstUpd hp ho (mapSeq_set its n j u) (r.set rv j) (by rw [List.length_set];exact hz) s.toks
 by_cases h0:0≤k
 ·have hk:k.toNat=j:=by
   rw [seqIndex_of h0 h4] at h1
   exact Option.some.inj h1
  exact W.ki_setAt ho h0 (by omega) (by rw [List.size_toArray,← hl];exact h4) (by rw [hk];exact ⟨_,I',q⟩)
 ·have hk:(k+(its.toArray.size:Int)).toNat=j:=by
   rw [seqIndex_neg (by omega) h3] at h1
   rw [List.size_toArray,← hl]
   exact Option.some.inj h1
  exact W.ki_setBack ho (by omega) (by rw [List.size_toArray,← hl];exact h3) (by omega) (by rw [hk];exact ⟨_,I',q⟩)
theorem ki (lo hi:Option Int) (n:Nat):(sliceBounds lo hi none n).1=((HT.sIx n 0 lo:Nat):Int)∧(sliceBounds lo hi none n).2.1=((HT.sIx n n hi:Nat):Int)∧(sliceBounds lo hi none n).2.2=1:=by
 refine ⟨?_,?_,rfl⟩
 ·cases lo with
  | none=>simp [sliceBounds,HT.sIx]
  | some i=>
    simp only [sliceBounds,HT.sIx,Option.getD_none,show (1:Int)>0 by decide,if_true]
    by_cases h:i<0
    ·simp only [h,if_true] <;> omega
    ·simp only [h,if_false] <;> omega
 ·cases hi with
  | none=>simp [sliceBounds,HT.sIx]
  | some i=>
    simp only [sliceBounds,HT.sIx,Option.getD_none,show (1:Int)>0 by decide,if_true]
    by_cases h:i<0
    ·simp only [h,if_true] <;> omega
    ·simp only [h,if_false] <;> omega
theorem iS (its:List Value) (lo hi:Option Int):slicePick its.toArray lo hi none=((its.drop (HT.sIx its.length 0 lo)).take (HT.sIx its.length its.length hi - HT.sIx its.length 0 lo)).toArray:=by
 obtain ⟨h1,h2,h3⟩:=ki lo hi its.toArray.size
 unfold slicePick
 rw [h1,h2,h3]
 simp only [sliceRange_one,pick_run,List.size_toArray] <;> rfl
def rSlL (K:W.Frag):V→Option Int→Option Int→Hp→VK→Prop:=fun x lo hi H Q=>∃ a xs,x = .ref a∧SqL K H a xs∧∀ p,H p=none→Q (.ref p) (upd H p (.lst (iQ xs lo hi)))
theorem sl_list:SlR X (rSlL X.K):=by
 intro pins s σ H x v vl vu lo hi sl Q I rx hs pl pu h
 obtain ⟨a,xs,rfl,hx,q⟩:=h
 cases rx
 obtain ⟨its,r,ht,hz⟩:=I.list hx
 have hlen:=r.length
 refine ⟨"list",_,slot_list_getitem.lookup,ht.isList.typeIs,?_⟩
 refine wpAny_getItem_list_slice ht.isList hs pl pu .none (by simp) ?_ (by rw [List.size_toArray] <;> omega)
 rw [iS,← hlen]
 refine ⟨.ref s.heap.objs.size,_,I.laid (t':=s.toks) (o:=.lst (iQ xs lo hi)) (fun b ob q=>Heap.get?_push_of_some _ q) (Nat.le_refl _) ?_,rfl,q _ (I.hok.fresh (Nat.le_refl _))⟩
 exact ⟨Nat.le_trans (gB xs lo hi) hz,_,0,(r.drop (HT.sIx xs.length 0 lo)).take (HT.sIx xs.length xs.length hi - HT.sIx xs.length 0 lo),Heap.get?_push_size _ rfl⟩
def cY:V→Bool
 | .non=>true
 | .bl _=>true
 | .int _=>true
 | .str _=>true
 | _=>false
def eqV:V→V→Bool
 | .non,.non=>true
 | .bl a,.bl b=>a == b
 | .bl a,.int b=>(if a then 1 else 0) == b
 | .int a,.bl b=>a == (if b then 1 else 0)
 | .int a,.int b=>a == b
 | .str a,.str b=>a == b
 | _,_=>false
theorem cx {A:Around} {s:Shared} {y x:V} {u v:Value} (ry:aX y u) (rx:aX x v) (fy:cY y=true) (fx:cY x=true):SeqAt.EqAt A s u v (eqV y x):=by
 cases y with
 | non=>
   cases ry
   cases x with
   | non=>cases rx;exact SeqAt.EqAt.same _
   | bl b=>cases rx;exact SeqAt.EqAt.none_bool b
   | int b=>obtain ⟨t,rfl⟩:=rx;exact SeqAt.EqAt.none_int b t
   | str b=>obtain ⟨t,rfl⟩:=rx;exact SeqAt.EqAt.none_str b t
   | _=>exact absurd (show false=true from fx) Bool.false_ne_true
 | bl a=>
   cases ry
   cases x with
   | non=>cases rx;exact SeqAt.EqAt.bool_none a
   | bl b=>cases rx;exact SeqAt.EqAt.bool_bool a b
   | int b=>obtain ⟨t,rfl⟩:=rx;exact SeqAt.EqAt.bool_int a b t
   | str b=>obtain ⟨t,rfl⟩:=rx;exact SeqAt.EqAt.bool_str a b t
   | _=>exact absurd (show false=true from fx) Bool.false_ne_true
 | int a=>
   obtain ⟨t',rfl⟩:=ry
   cases x with
   | non=>cases rx;exact SeqAt.EqAt.int_none a t'
   | bl b=>cases rx;exact SeqAt.EqAt.int_bool a t' b
   | int b=>obtain ⟨t,rfl⟩:=rx;exact SeqAt.EqAt.int_int a t' b t
   | str b=>obtain ⟨t,rfl⟩:=rx;exact SeqAt.EqAt.int_str a t' b t
   | _=>exact absurd (show false=true from fx) Bool.false_ne_true
 | str a=>
   obtain ⟨t',rfl⟩:=ry
   cases x with
   | non=>cases rx;exact SeqAt.EqAt.str_none a t'
   | bl b=>cases rx;exact SeqAt.EqAt.str_bool a t' b
   | int b=>obtain ⟨t,rfl⟩:=rx;exact SeqAt.EqAt.str_int a t' b t
   | str b=>obtain ⟨t,rfl⟩:=rx;exact SeqAt.EqAt.str_str a t' b t
   | _=>exact absurd (show false=true from fx) Bool.false_ne_true
 | _=>exact absurd (show false=true from fy) Bool.false_ne_true
def eqU (x:V) (u:Value):Bool:=match u with
 | .none=>eqV .non x
 | .bool b=>eqV (.bl b) x
 | .int i _=>eqV (.int i) x
 | .str z _=>eqV (.str z) x
 | _=>false
theorem eqU_of {x y:V} {u:Value} (r:aX y u) (f:cY y=true):eqU x u=eqV y x:=by
 cases y with
 | non=>cases r;rfl
 | bl b=>cases r;rfl
 | int i=>obtain ⟨t,rfl⟩:=r;rfl
 | str z=>obtain ⟨t,rfl⟩:=r;rfl
 | _=>exact absurd (show false=true from f) Bool.false_ne_true
theorem eR {x:V}:∀ {xs:List V} {us:List Value},aV xs us→xs.all cY=true→us.any (eqU x)=xs.any fun y=>eqV y x
 | _,_,.nil,_=>rfl
 | y :: xs,u :: us,.cons r t,f=>by
   rw [List.all_cons,Bool.and_eq_true] at f
   rw [List.any_cons,List.any_cons,eqU_of r f.1,eR t f.2]
theorem db {A:Around} {s:Shared} {x:V} {v:Value} (rx:aX x v) (fx:cY x=true):∀ {xs:List V} {us:List Value},aV xs us→xs.all cY=true→∀ u∈us,SeqAt.EqAt A s u v (eqU x u)
 | _,_,.nil,_=>fun u hu=>by cases hu
 | y :: xs,u :: us,.cons r t,f=>fun u' hu=>by
   rw [List.all_cons,Bool.and_eq_true] at f
   rcases List.mem_cons.mp hu with rfl | hu
   ·rw [eqU_of r f.1];exact cx r rx f.1 fx
   ·exact db rx fx t f.2 u' hu
def inV (x:V) (xs:List V):Bool:=xs.any fun y=>eqV y x
def rIn (K:W.Frag) (neg:Bool):R2:=fun x y H Q=>∃ p xs,y = .ref p∧(SqL K H p xs∨SqT K H p xs)∧cY x=true∧xs.all cY=true∧Q (.bl (if neg then !inV x xs else inV x xs)) H
theorem d7:OpR X (compareOp .In) (rIn X.K false):=by
 intro pins s σ H x y v u Q I rx ry h
 obtain ⟨p,xs,rfl,hq,fx,fs,q⟩:=h
 cases ry
 rcases hq with hq | hq
 ·obtain ⟨its,r,pl,hz⟩:=I.list hq
  refine SeqAt.in_listAt (eqU x) pl.isList (fun w hw=>db rx fx r fs w (by simpa using hw)) ⟨.bl _,H,I,rfl,?_⟩
  rw [show its.toArray.any (eqU x)=its.any (eqU x) by simp,eR r fs]
  exact q
 ·obtain ⟨its,r,pl,hz⟩:=I.tuple hq
  refine SeqAt.in_tupleAt (eqU x) pl (fun w hw=>db rx fx r fs w (by simpa using hw)) ⟨.bl _,H,I,rfl,?_⟩
  rw [show its.toArray.any (eqU x)=its.any (eqU x) by simp,eR r fs]
  exact q
theorem fg:OpR X (compareOp .NotIn) (rIn X.K true):=by
 intro pins s σ H x y v u Q I rx ry h
 obtain ⟨p,xs,rfl,hq,fx,fs,q⟩:=h
 cases ry
 rcases hq with hq | hq
 ·obtain ⟨its,r,pl,hz⟩:=I.list hq
  refine SeqAt.notIn_listAt (eqU x) pl.isList (fun w hw=>db rx fx r fs w (by simpa using hw)) ⟨.bl _,H,I,rfl,?_⟩
  rw [show its.toArray.any (eqU x)=its.any (eqU x) by simp,eR r fs]
  exact q
 ·obtain ⟨its,r,pl,hz⟩:=I.tuple hq
  refine SeqAt.notIn_tupleAt (eqU x) pl (fun w hw=>db rx fx r fs w (by simpa using hw)) ⟨.bl _,H,I,rfl,?_⟩
  rw [show its.toArray.any (eqU x)=its.any (eqU x) by simp,eR r fs]
  exact q
theorem jT:dE X (.builtin "len") (fun xs H Q=>∃ p ys,xs = [.ref p]∧(SqL X.K H p ys∨SqT X.K H p ys)∧Q (.int ys.length) H):=by
 intro pins s σ H xs us Q I r h
 obtain ⟨p,ys,rfl,hq,q⟩:=h
 obtain ⟨u,rfl,rx⟩:=jK r
 cases rx
 have hn:=fV
 rcases hq with hq | hq
 ·obtain ⟨its,r',pl,hz⟩:=I.list hq
  have hlen:=r'.length
  exact Calls.call_len_list pl.isList (by simp only [List.size_toArray] <;> omega) ⟨.int ys.length,H,I.tok _,⟨s.toks+1,by rw [List.size_toArray,hlen]⟩,q⟩
 ·obtain ⟨its,r',pl,hz⟩:=I.tuple hq
  have hlen:=r'.length
  exact len_tuple pl (by simp only [List.size_toArray] <;> omega) ⟨.int ys.length,H,I.tok _,⟨s.toks+1,by rw [List.size_toArray,hlen]⟩,q⟩
theorem jU:dE X (.builtin "len") (fun xs H Q=>∃ z,xs = [.str z]∧z.length≤sizeLine∧Q (.int z.length) H):=by
 intro pins s σ H xs us Q I r h
 obtain ⟨z,rfl,hz,q⟩:=h
 obtain ⟨u,rfl,t,rfl⟩:=jK r
 have hn:=fV
 exact len_str (by omega) ⟨.int z.length,H,I.tok _,⟨_,rfl⟩,q⟩
theorem du:dE X (.type "list") (fun xs H Q=>∃ p ys,xs = [.ref p]∧(SqL X.K H p ys∨SqT X.K H p ys)∧∀ l,H l=none→Q (.ref l) (upd H l (.lst ys))):=by
 intro pins s σ H xs us Q I r h
 obtain ⟨p,ys,rfl,hq,q⟩:=h
 obtain ⟨u,rfl,rx⟩:=jK r
 cases rx
 have fin:∀ (its:List Value),aV ys its→ys.length≤sizeLine→∀ (h':Heap) (c':Nat),(∀ b o',s.heap.get? b=some o'→h'.get? b=some o') →
  h'.get? s.heap.objs.size=some { cls:=.type "list",dict:=none,data:=.seq its.toArray c',slots:=#[] }→EP X pins σ Q (.ref s.heap.objs.size) { s with heap:=h' }:=fun its r' hz h' c' kp e=>
  ⟨.ref s.heap.objs.size,_,I.laid (t':=s.toks) kp (Nat.le_refl _) (show bp X.prog X.w _ h' _ (.lst ys) from ⟨hz,its,c',r',e⟩),rfl,q _ (I.hok.fresh (Nat.le_refl _))⟩
 rcases hq with hq | hq
 ·obtain ⟨its,r',pl,hz⟩:=I.list hq
  have hlen:=r'.length
  obtain ⟨o,ho,hc,n,hd⟩:=pl.isList
  exact call_list_seq p (.inl rfl) ho hc hd (fun h' c' kp e=>fin its r' hz h' c' kp e) (by simp only [List.size_toArray] <;> omega)
 ·obtain ⟨its,r',pl,hz⟩:=I.tuple hq
  have hlen:=r'.length
  obtain ⟨o,ho,hc,n,hd⟩:=pl
  exact call_list_seq p (.inr rfl) ho hc hd (fun h' c' kp e=>fin its r' hz h' c' kp e) (by simp only [List.size_toArray] <;> omega)
theorem cN:dE X (.type "tuple") (fun xs H Q=>∃ p ys,xs = [.ref p]∧((SqL X.K H p ys∧∀ l,H l=none→Q (.ref l) (upd H l (.tup ys)))∨(SqT X.K H p ys∧Q (.ref p) H))):=by
 intro pins s σ H xs us Q I r h
 obtain ⟨p,ys,rfl,h⟩:=h
 obtain ⟨u,rfl,rx⟩:=jK r
 cases rx
 rcases h with ⟨hq,q⟩ | ⟨hq,q⟩
 ·obtain ⟨its,r',pl,hz⟩:=I.list hq
  have hlen:=r'.length
  refine call_tuple_list pl.isList (fun h' kp=>?_) (by simp only [List.size_toArray] <;> omega)
  have I1:Inv X pins σ H { s with heap:=h' }:=I.kept (t':=s.toks) kp
  have I2:Inv X pins σ (upd H h'.objs.size (.tup ys)) { s with heap:=h'.push { cls:=.type "tuple",data:=.seq its.toArray } }:=
   I1.laid (t':=s.toks) (fun b o e=>Heap.get?_push_of_some _ e) (Nat.le_refl _) (show bp X.prog X.w _ _ _ (.tup ys) from ⟨hz,its,r',IsTup.new _ _⟩)
  exact ⟨.ref h'.objs.size,_,I2,rfl,q _ (I1.hok.fresh (Nat.le_refl _))⟩
 ·obtain ⟨its,r',pl,hz⟩:=I.tuple hq
  exact call_tuple_same pl ⟨.ref p,H,I,rfl,q⟩
def tyV (K:W.Frag) (T:String) (x:V) (H:Hp):Prop:=match x with
 | .str _=>T = "str"
 | .int _=>T = "int"
 | .ref p=>(T = "list"∧∃ xs,SqL K H p xs)∨(T = "tuple"∧∃ o,K.lookup p=some o∧o.cls = .type "tuple"∧o.dict=none) ∨
  (T = "dict"∧((∃ kvs,H p=some (.dK kvs))∨∃ kvs,H p=some (.dT kvs)))∨(T = "set"∧∃ S n,H p=some (.set S n))
 | _=>False
theorem tyV_is {pins:List (Addr×Obj)} {σ:St} {H:Hp} {s:Shared} {T:String} {x:V} {v:Value} (I:Inv X pins σ H s) (r:aX x v) (ty:tyV X.K T x H) :
 s.TypeIs v T∧∀ a,v = .ref a→∃ ob,s.heap.get? a=some ob∧ob.dict=none:=by
 cases x with
 | str z=>
   obtain ⟨t,rfl⟩:=r
   cases (show T = "str" from ty)
   exact ⟨typeIs_str s z t,fun _ e=>nomatch e⟩
 | int i=>
   obtain ⟨t,rfl⟩:=r
   cases (show T = "int" from ty)
   exact ⟨typeIs_int s i t,fun _ e=>nomatch e⟩
 | ref p=>
   cases r
   rcases ty with ⟨rfl,xs,hq⟩ | ⟨rfl,o,hk,hc,hd⟩ | ⟨rfl,hk⟩ | ⟨rfl,S,n,hk⟩
   ·obtain ⟨its,_,pl,_⟩:=I.list hq
    refine ⟨pl.isList.typeIs,fun a e=>?_⟩
    cases e
    obtain ⟨o,n,e,c,hd,_⟩:=pl
    exact ⟨o,e,hd⟩
   ·refine ⟨⟨o,I.kIn p o hk,hc⟩,fun a e=>?_⟩
    cases e
    exact ⟨o,I.kIn _ o hk,hd⟩
   ·have z:∃ o,s.heap.get? p=some o∧o.ExactDict:=by
     rcases hk with ⟨kvs,hk⟩ | ⟨kvs,hk⟩
     ·obtain ⟨_,_,_,_,o,_,_,e,ex,_⟩:=I.hok p _ hk
      exact ⟨o,e,ex⟩
     ·obtain ⟨_,_,_,_,o,_,_,e,ex,_⟩:=I.hok p _ hk
      exact ⟨o,e,ex⟩
    obtain ⟨o,e,ex⟩:=z
    refine ⟨⟨o,e,ex.1⟩,fun a e2=>?_⟩
    cases e2
    exact ⟨o,e,ex.2.1⟩
   ·obtain ⟨o,_,_,_,e,ex,_⟩:=I.hok p _ hk
    refine ⟨⟨o,e,ex.1⟩,fun a e2=>?_⟩
    cases e2
    exact ⟨o,e,ex.2.1⟩
 | _=>exact False.elim ty
def tBM (K:W.Frag) (T:String) (r:V→List V→Hp→VK→Prop) (to:TE) (t:TA):TE:=fun σ H Q=>to σ H fun x H1=>tyV K T x H1∧t σ H1 fun xs H2=>r x xs H2 Q
variable {o e:Expr} {es:List Expr} {to:TE} {t:TA} {name:Str} {apos cpos:Pos} {T id:String} {r:V→List V→Hp→VK→Prop}
theorem pe_bm (pa:PlainAttrs T) (slot:Slot T name id) (hty:typeOf (.builtin id)=pure (.type "method_descriptor")) (hm:MtR X id r) (ho:PE X o to) (ha:PA X (e :: es) t)
 (hbase:attributeBase o name X.env (eval o X.env)=eval o X.env:=by rfl)
 (hfew:((backTo cpos (starEach (e :: es) X.env)).all (fun x=>!x.1) && (backToKw cpos (keywordEach [] X.env)).all (fun x=>x.1.isSome)
  && decide ((e :: es).length+([]:List Keyword).length+(if ([]:List Keyword).isEmpty then 0 else 1)<30))=true:=by rfl)
 (hline:(apos.endLine == cpos.line)=true:=by rfl) (hs:starEach (e :: es) X.env=(false,eval e X.env) :: starEach es X.env:=by rfl) (hplain:(backTo cpos (starEach es X.env)).any (·.1)=false:=by rfl) :
 PE X (.Call (.Attribute o name apos) (e :: es) [] cpos) (tBM X.K T r to t):=by
 intro pins s σ H Q I h
 refine wpAny_Call_method_late hbase hfew hline rfl (thn (ho pins s σ H _ I h) fun v s1 ⟨x,H1,I1,r1,ty,q1⟩=>?_)
 obtain ⟨h1,h2⟩:=tyV_is I1 r1 ty
 refine ⟨T,id,pa,slot,hty,h1,h2,?_⟩
 have hA:=ha cpos pins s1 σ H1 _ I1 q1
 rw [hs] at hA ⊢
 refine Calls.callWith_builtin (by show (false || (backTo cpos (starEach es X.env)).any (·.1))=false;rw [hplain] <;> rfl) (Calls.evalArgs_plain ?_)
 exact thn hA fun us s2 ⟨vs,H2,I2,r2,q2⟩=>hm pins s2 σ H2 x vs v us Q I2 r1 r2 q2
end
end L2
namespace L2
open PySem PySem.Spec PyProof.Rows
def MtM (X:Cx) (id:String) (r:V→List V→Hp→VK→Prop):Prop:=
 ∀ (pins:List (Addr×Obj)) (s:Shared) (σ:St) (H:Hp) (x:V) (xs:List V) (v:Value) (us:List Value) (Q:VK),Inv X pins σ H s→aX x v→aV xs us→r x xs H Q →
   wpAny (model X.prog X.w) X.A (call (.builtin id) (v :: us)) (EP X pins σ Q) X.xe s
theorem aV.one:∀ {x:V} {us:List Value},aV [x] us→∃ u,us = [u]∧aX x u
 | _,_,.cons r .nil=>⟨_,rfl,r⟩
theorem aV.two:∀ {x y:V} {us:List Value},aV [x,y] us→∃ u v,us = [u,v]∧aX x u∧aX y v
 | _,_,_,.cons r (.cons q .nil)=>⟨_,_,rfl,r,q⟩
section
variable {X:Cx} {pins:List (Addr×Obj)} {σ:St} {H:Hp} {s:Shared} {l b:Addr} {xs ys zs:List V}
theorem Inv.lset {its its':List Value} {n:Nat} {f:Array Value→Array Value} {t':Nat} (I:Inv X pins σ H s) (hH:H l=some (.lst xs))
 (e:s.heap.get? l=some { cls:=.type "list",data:=.seq its.toArray n }) (hf:f its.toArray=its'.toArray) (hv:aV ys its') (hz:ys.length≤sizeLine) :
 Inv X pins σ (upd H l (.lst ys)) { s with heap:=s.heap.update l (Obj.mapSeq f),toks:=t' }:=by
 have q:=PySem.IsL.update e f
 rw [hf] at q
 refine I.write (x:=l) (e:=l) (by rw [hH];exact trivial) (.inl rfl) (fun b' u hb hu=>(Heap.get?_update_other s.heap (Obj.mapSeq f) (Ne.symm hb)).trans hu) ⟨_,q⟩ ?_
 exact ⟨hz,its',_,hv,q⟩
theorem Inv.lnew {its:List Value} {t':Nat} (I:Inv X pins σ H s) (hv:aV ys its) (hz:ys.length≤sizeLine) :
 Inv X pins σ (upd H s.heap.objs.size (.lst ys)) { s with heap:=s.heap.push { cls:=.type "list",data:=.seq its.toArray },toks:=t' }:=
 I.laid (fun _ _ q=>Heap.get?_push_of_some _ q) (Nat.le_refl _) ⟨hz,its,0,hv,Heap.get?_push_size _ rfl⟩
theorem Inv.fresh (I:Inv X pins σ H s):H s.heap.objs.size=none:=I.hok.fresh (Nat.le_refl _)
theorem Inv.lstM (I:Inv X pins σ H s) (hH:H l=some (.lst xs)):xs.length≤sizeLine∧∃ (its:List Value) (n:Nat),aV xs its∧xs.length=its.length∧s.heap.get? l=some { cls:=.type "list",data:=.seq its.toArray n }:=by
 obtain ⟨z,its,n,r,e⟩:=I.hok l _ hH
 exact ⟨z,its,n,r,r.length,e⟩
end
section
variable {X:Cx}
def rAppend:V→List V→Hp→VK→Prop:=fun x vs H Q=>∃ l xs y,x = .ref l∧vs = [y]∧H l=some (.lst xs)∧xs.length<sizeLine∧Q .non (upd H l (.lst (xs ++ [y])))
theorem d0:MtM X "list.append" rAppend:=by
 intro pins s σ H x vs v us Q I rx rv h
 obtain ⟨l,xs,y,rfl,rfl,hH,hz,q⟩:=h
 cases rx
 obtain ⟨u,rfl,ru⟩:=rv.one
 obtain ⟨z,its,n,r,hl,e⟩:=I.lstM hH
 refine call_meets F.slot_list_append ⟨_,e,rfl⟩ F.entry_list_append (F.args_list_append_2 _ _) (PySem.list_append l its.toArray n u (by rw [List.size_toArray];omega)) ⟨e,?_⟩
 refine ⟨.non,_,I.lset (its':=its ++ [u]) hH e (by simp) (r.append (.cons ru .nil)) ?_,rfl,q⟩
 rw [List.length_append,List.length_singleton]
 omega
def rCat:R2:=fun x y H Q=>∃ l b xs zs,x = .ref l∧y = .ref b∧H l=some (.lst xs)∧H b=some (.lst zs)∧xs.length+zs.length≤sizeLine∧∀ p,H p=none→Q (.ref p) (upd H p (.lst (xs ++ zs)))
theorem op_cat:OpR X (binaryOp .Add) rCat:=by
 intro pins s σ H x y v u Q I rx ry h
 obtain ⟨l,b,xs,zs,rfl,rfl,hH,hB,hz,q⟩:=h
 cases rx
 cases ry
 obtain ⟨z,its,n,r,hl,e⟩:=I.lstM hH
 obtain ⟨z2,its2,n2,r2,hl2,e2⟩:=I.lstM hB
 refine PySem.P.add_list e e2 ?_ (by rw [List.size_toArray,List.size_toArray];omega)
 have ea:its.toArray ++ its2.toArray=(its ++ its2).toArray:=by simp
 rw [ea]
 exact ⟨.ref _,_,I.lnew (t':=s.toks) (r.append r2) (by rw [List.length_append];omega),rfl,q _ I.fresh⟩
end
end L2
namespace Att
open PySem PySem.W PySem.Calls PyProof.Rows
theorem gL {P:Params} {h:Heap}:∀ (ns:List Int) (vs:List Value),WellAll P h vs (ns.map WData.int)→IntsAre vs ns:=by
 intro ns
 induction ns with
 | nil=>
   intro vs w
   rw [List.map_nil] at w
   cases w
   exact .nil
 | cons n ns ih=>
   intro vs w
   rw [List.map_cons] at w
   cases w with
   | cons a b=>
     cases a
     exact .cons _ _ (ih _ b)
theorem script_of {l:OpenLaw} {n:Nat} (hn:l.most=some n) {P:Params} {h:Heap} {args:List WData} {vals:List Value}
 (hpre:l.row.toRowW.claim.pre args=true) (hwl:WellAll P h vals args) :
 ∃ a vs ns,vals = [Value.ref a]∧args = [WData.list (ns.map WData.int)]∧h.get? a=some { cls:=.type "list",data:=.seq vs.toArray }∧IntsAre vs ns∧ns.length≤n:=by
 have hsh:WShape.hasAll [] args [.list .int]=true:=(pre_splitW hpre).1
 have hc:l.pre.holds [] { args:=args }=true:=(pre_splitW hpre).2
 obtain ⟨d,r,rfl,h1,h2⟩:=hasAllW_cons hsh
 obtain rfl:=hasAllW_nil h2
 obtain ⟨xs,rfl,h3⟩:=hasW_list h1
 obtain ⟨ns,rfl⟩:=items_int h3
 have hlen:ns.length≤n:=by
  unfold OpenLaw.pre at hc
  have h4:(WTm.not (.lt (.lit (.int (n:Int))) (.len (.arg 0)))).holds [] { args:=[.list (ns.map .int)] }=true:=by
   have h4:=(holds_andW hc).1
   rw [hn] at h4
   exact h4
  have h5:=condW_of h4 (w_not (w_lt w_lit (w_len_list (w_arg rfl))))
  rw [List.length_map] at h5
  refine Nat.le_of_not_lt fun q=>?_
  have q':(n:Int)<((ns.length:Nat):Int):=by omega
  first
   | (rw [decide_eq_true q'] at h5;exact absurd h5 (by decide))
   | (simp at h5;omega)
 cases hwl with
 | cons w1 w2=>
   cases w2
   cases w1 with
   | list ho hall=>exact ⟨_,_,ns,rfl,rfl,ho,gL ns _ hall,hlen⟩
theorem post_true (l:OpenLaw) (args:List WData):l.row.toRowW.claim.post args (.bool true) args=true:=
 postW_of (r:=l.row.toRowW) (X:=(true == true))
  (show WShape.has [] (.bool true) .bool=true by first | rfl | decide | simp [WShape.has,WShape.arms,WShape.armsAll])
  (show (WTm.eq .res (.lit (.bool true))).value [] { args:=args,res:=some (.bool true),after:=args }=some (.bool (true == true)) from w_eq_bool (w_res rfl) w_lit) rfl
theorem attach_call {l:OpenLaw} {n:Nat} {q:Program} {loose:List Str} {XP:(Str→Option Value)→Heap→Prop} {YP:World→Heap→Prop} {d:DefRec}
 (hn:l.most=some n) (hdf:d.params.defaults = [])
 (call:∀ (w:World) (s₀ s₁:Shared) (mg mb:Str→Option Value) (fa:Addr) (o:Obj) (pm cd doc:Value) (a:Addr) (vs:List Value) (ns:List Int),
  Ground q loose [] XP w s₀ mg mb s₁.heap→YP w s₁.heap →
  s₁.heap.get? fa=some o→o.data = .func (docDef d.name d.params d.body d.scope pm cd doc)→s₁.heap.CodeRec cd d.name→mg d.name=some (.ref fa) →
  s₁.heap.get? a=some { cls:=.type "list",data:=.seq vs.toArray }→IntsAre vs ns→ns.length≤n→s₁.gens = #[] →
  codeAny (model l.prog w) callerA (.call (.ref fa) ⟨[.ref a],[]⟩) (fun r s'=>r = .ok (.ret (.bool true))∧OldK s₁.heap s'.heap∧s'.os=s₁.os∧AllBare s'.gens) s₁) :
 WalkO q loose XP YP l.row.toRowW d [] (fun f vs=>PySem.call f vs):=by
 intro w s₀ s₁ mg mb G Y fa o pm cd doc dV kV ho hd hcd hD hmg hg args vals as hpre hlay hrd hwl hlo
 obtain rfl:dV = .none:=Dflts.none hD hdf
 obtain rfl:kV = .none:=Dflts.noKw hD
 obtain ⟨a,vs,ns,rfl,rfl,hobj,hints,hlen⟩:=script_of hn hpre hwl
 refine enter_call (codeAny_mono (call w s₀ s₁ mg mb fa o pm cd doc a vs ns G Y ho (fd_plain hd) hcd hmg hobj hints hlen hg) fun r s' hq=>?_)
 obtain ⟨rfl,h2,h3,h4⟩:=hq
 exact ⟨.inl ⟨.bool true,.bool true,[],rfl,fun _=>rfl,.bool true,post_true l _,fun _=>⟨List.Pairwise.nil,fun _ hm=>(nomatch hm)⟩⟩,h2,h3,h4⟩
end Att
namespace L2
open PySem PySem.Spec PyProof.Rows
theorem jL:∀ {vs:List Value} {ns:List Int},IntsAre vs ns→aV (ns.map V.int) vs
 | _,_,.nil=>.nil
 | _,_,.cons n t h=>.cons ⟨t,rfl⟩ (jL h)
def Only (H:Hp):Prop:=∀ b,H b=none∨∃ o xs,H b=some (.frz o (.lst xs))
theorem law_call {P:Program} {w:World} {K:W.Frag} {mg mb:Str→Option Value} {CX:CXT} {k:Nat} {fa a:Addr} {fd:FuncData} {x:Str} {sp:Sp} {s₁:Shared} {vs:List Value} {ns:List Int}
 (KX:K.In s₁.heap) (hns:s₁.heap.Ns mainGlobals mg) (hb:s₁.heap.Ns builtinsNs mb) (hbb:∀ x:Str,x≠"__name__"→mb x=bootBuiltins x) (hlim:s₁.heap.NoLimit) (hg:s₁.gens = #[])
 (ha:s₁.heap.get? a=some { cls:=.type "list",data:=.seq vs.toArray }) (hi:IntsAre vs ns) (hl:ns.length≤sizeLine) (hr:Room k callerA)
 (F:∀ base:Heap,K.In base→base.Ns mainGlobals mg→aY P w K mg base CX k fa fd [x] sp) (hbind:∀ (s:Shared) (u:Value),BindsTo s fd ⟨[u],[]⟩ [(x,u)])
 (hsp:∀ H:Hp,Only H→SqL K H a (ns.map V.int)→sp [.ref a] H (fun v _=>v = .bl true) fun _ _ _=>False)
 (hCX:∀ H e s',CX [] H s₁ (fun _ _ _=>False) e s'→False) :
 codeAny (model P w) callerA (.call (.ref fa) ⟨[.ref a],[]⟩) (fun r s'=>r = .ok (.ret (.bool true))∧OldK s₁.heap s'.heap∧s'.os=s₁.os∧AllBare s'.gens) s₁:=by
 have rv:=jL hi
 have lenV:=hi.length
 have core:∀ H:Hp,Only H→SqL K H a (ns.map V.int)→HOk P w H s₁.heap→(∀ b,H b≠none→b=a)→(H a≠none→K.lookup a=none) →
  codeAny (model P w) callerA (.call (.ref fa) ⟨[.ref a],[]⟩) (fun r s'=>r = .ok (.ret (.bool true))∧OldK s₁.heap s'.heap∧s'.os=s₁.os∧AllBare s'.gens) s₁:=by
  intro H hO hS hok hA hK
  have base_of:∀ {b:Addr} {o:Obj},s₁.heap.get? b=some o→H b=none→(jW s₁.heap H).get? b=some o:=fun e n=>hidT_get e n
  have noA:∀ {b:Addr} {o:Obj} {es:Array DictEntry} {ep:Nat},s₁.heap.get? b=some o→o.data = .dict es ep→H b=none:=fun {b o es ep} e d=>by
   cases q:H b with
   | none=>rfl
   | some u=>
     have e':b=a:=hA b (by rw [q];simp)
     subst e'
     rw [ha] at e;cases e
     have d':Data.seq vs.toArray _=Data.dict es ep:=d
     cases d'
  have nsK:∀ {b:Addr} {m:Str→Option Value},s₁.heap.Ns b m→(jW s₁.heap H).Ns b m:=fun {b m} ⟨o,es,ep,e,d,r⟩=>⟨o,es,ep,base_of e (noA e d),d,r⟩
  have hKb:K.In (jW s₁.heap H):=fun b o e=>base_of (KX b o e) (by
   cases q:H b with
   | none=>rfl
   | some u=>
     have e':b=a:=hA b (by rw [q];simp)
     subst e'
     rw [hK (by rw [q];simp)] at e;cases e)
  have hM:Mod K mg (jW s₁.heap H):=⟨hKb,nsK hns,⟨mb,nsK hb,hbb⟩,let ⟨mc,h1,h2⟩:=hlim;⟨mc,nsK h1,h2⟩⟩
  have e0:Env0 P w K mg (jW s₁.heap H) callerA [] s₁ H:=⟨rfl,hM,fun b o e=>of_hidT e,Nat.le_of_eq (hidT_size _ _),trivial,fun b hb=>absurd (show b∈([]:List Addr) from hb) (by simp),hok,.of_eq hg⟩
  refine codeAny_mono ((F _ hKb (nsK hns)).run callerA [] s₁ H ⟨[.ref a],[]⟩ [.ref a] [.ref a] _ _ hr e0 (hbind s₁ (.ref a)) (.cons rfl .nil) (hsp H hO hS)) fun r s' h=>?_
  cases r with
  | error e=>exact (hCX H e s' h).elim
  | ok fl=>
    cases fl with
    | next=>exact False.elim h
    | brk=>exact False.elim h
    | cont=>exact False.elim h
    | ret u=>
      obtain ⟨v,H',os,bare,un,hok',r',q⟩:=h
      have q':v = .bl true:=q
      subst q'
      obtain rfl:u=Value.bool true:=r'
      refine ⟨rfl,OldK.of_keep fun b o e=>?_,os,bare⟩
      cases q:H b with
      | none=>exact un.keep b o e q (by intro z;exact absurd (show b∈([]:List Addr) from z) (by simp)) (by simp)
      | some u=>
        rcases hO b with z | ⟨ob,xs,z⟩
        ·rw [q] at z;cases z
        ·have z2:=un.frzs b ob _ z
         obtain ⟨e1,_⟩:=hok b _ z
         obtain ⟨e2,_⟩:=hok' b _ z2
         rw [e] at e1;cases e1
         exact e2
 cases hk:K.lookup a with
 | some o=>
   have e:=KX a o hk
   rw [ha] at e
   cases e
   refine core (fun _=>none) (fun _=>.inl rfl) (.inr ⟨_,vs.toArray,_,hk,rfl,rfl,rfl,by rw [List.size_toArray,lenV];exact hl,by simpa using rv⟩) (fun b u z=>by have z':(none:Option HO)=some u:=z;cases z') (fun b z=>absurd rfl z) fun z=>absurd rfl z
 | none=>
   refine core (fun b=>if b=a then some (.frz { cls:=.type "list",data:=.seq vs.toArray } (.lst (ns.map V.int))) else none) (fun b=>?_) (.inl (.inr ⟨{ cls:=.type "list",data:=.seq vs.toArray },if_pos rfl⟩)) (fun b u z=>?_) (fun b z=>?_) fun _=>hk
   ·by_cases hb:b=a
    ·exact .inr ⟨_,_,if_pos hb⟩
    ·exact .inl (if_neg hb)
   ·by_cases hb:b=a
    ·have z':=(if_pos hb).symm.trans z
     cases z'
     subst hb
     exact ⟨ha,by rw [List.length_map];exact hl,vs,_,rv,ha⟩
    ·have z':=(if_neg hb).symm.trans z
     cases z'
   ·by_cases hb:b=a
    ·exact hb
    ·exact absurd (if_neg hb) z
end L2
namespace L2
open PySem PySem.Spec PyProof.Rows
abbrev KOf {K:W.Frag} {h:Heap} (_:K.In h):W.Frag:=K
theorem walk_of {l:W.OpenLaw} {n k:Nat} {q:Program} {loose:List Str} {XP:(Str→Option Value)→Heap→Prop} {YP:World→Heap→Prop} {d:DefRec} {K:Params→W.Frag} {CX:World→CXT} {sp:World→Sp} {x:Str}
 (hn:l.most=some n) (hn2:n≤sizeLine) (hdf:d.params.defaults = []) (hr:Room k callerA)
 (hY:∀ (w:World) (h:Heap),YP w h→(K w.params).In h)
 (F:∀ (w:World) (mg:Str→Option Value) (fa:Addr) (h:Heap),(K w.params).In h→h.Ns mainGlobals mg→mg d.name=some (.ref fa) →
  ∃ fd:FuncData,(∀ (s:Shared) (u:Value),BindsTo s fd ⟨[u],[]⟩ [(x,u)]) ∧
    ∀ base:Heap,(K w.params).In base→base.Ns mainGlobals mg→aY l.prog w (K w.params) mg base (CX w) k fa fd [x] (sp w))
 (hsp:∀ (w:World) (H:Hp) (a:Addr) (ns:List Int),ns.length≤n→Only H→SqL (K w.params) H a (ns.map V.int)→sp w [.ref a] H (fun v _=>v = .bl true) fun _ _ _=>False)
 (hCX:∀ (w:World) (H:Hp) (s:Shared) (e:Value) (s':Shared),CX w [] H s (fun _ _ _=>False) e s'→False) :
 W.WalkO q loose XP YP l.row.toRowW d [] (fun f vs=>PySem.call f vs):=by
 refine Att.attach_call hn hdf fun w s₀ s₁ mg mb fa o pm cd doc a vs ns G Y ho hd hcd hmg hobj hints hlen hg=>?_
 have KX:=hY w _ Y
 obtain ⟨fd,hb,hF⟩:=F w mg fa _ KX G.T.g hmg
 exact law_call KX G.T.g G.T.b G.T.builtins G.T.nolimit hg hobj hints (Nat.le_trans hlen hn2) hr hF hb (fun H hO hS=>hsp w H a ns hlen hO hS) fun H e s'=>hCX w H s₁ e s'
end L2
namespace L2
open PySem PySem.Spec PyProof.Rows
def bW (s:Stmt):Arguments:=match s with
 | .FunctionDef _ a _ _ _ _ _ _ _ _=>a
 | _=>{ posonlyargs:=[],args:=[],vararg:=none,kwonlyargs:=[],kw_defaults:=[],kwarg:=none,defaults:=[] }
def bJ (s:Stmt):List Stmt:=match s with
 | .FunctionDef _ _ b _ _ _ _ _ _ _=>b
 | _=>[]
def aw (s:Stmt):Scope:=match s with
 | .FunctionDef _ _ _ _ _ _ sc _ _ _=>sc
 | _=>{ kind:=.function,names:=[],isGenerator:=false,isCoroutine:=false }
abbrev CX0:CXT:=fun _ _ _ _ _ _=>False
abbrev E0:XK:=fun _ _ _=>False
theorem pass0 {X:Cx}:fK CX0 X E0:=fun _ _ _ _ _ _ _ h=>h.elim
structure Fun (K:W.Frag) (x qual:Str) (st:Stmt) (f:Addr) (fd:FuncData):Prop where
 ex:∃ (oc:Value) (od:Option Addr) (kV doc pm:Value) (an:Option Addr) (cdv ct:Value) (osl:Array (Option Value)),
  fd=W.fnOf x qual (bW st) (bJ st) (aw st) .none kV doc pm an cdv ct∧K.lookup f=some ⟨oc,od,.func fd,osl⟩∧W.codeIn K cdv qual=true
 kp:W.keepIn K (.ref f)=true
section
variable {P:Program} {w:World} {K:W.Frag} {mg:Str→Option Value} {base:Heap}
theorem Fun.ok {x qual:Str} {st:Stmt} {f:Addr} {fd:FuncData} {N ps:List Str} {k:Nat} {sp:Sp} (F:Fun K x qual st f fd) (S:aF N ps (aw st)) (len:∀ vs H Q E,sp vs H Q E→vs.length=ps.length)
 (hbody:∀ (cdv:Value) (A:Around) (outer:List Env) (s:Shared) (H:Hp) (vs:List V) (Q:VK) (E:XK),Room k (A.deeper (envOfC qual (aw st) s.heap.objs.size f cdv))→sp vs H Q E →
  ∃ t,PSs (kK CX0 P w K mg base N qual (aw st) f cdv A outer s H E).nox (bJ st) t∧t { nx:=fun _ H'=>Q .non H',rt:=Q } (fz N vs) H):aY P w K mg base CX0 (k+1) f fd ps sp:=by
 obtain ⟨oc,od,kV,doc,pm,an,cdv,ct,osl,rfl,lk,hcd⟩:=F.ex
 refine fn_of lk hcd S len fun A outer s H vs Q E hr hsp=>?_
 obtain ⟨t,h,q⟩:=hbody cdv A outer s H vs Q E hr hsp
 exact ⟨t,h.nox,q⟩
theorem Fun.binds {x qual:Str} {st:Stmt} {f:Addr} {fd:FuncData} {ps:List Str} (F:Fun K x qual st f fd)
 (h:∀ (kV doc pm:Value) (an:Option Addr) (cdv ct:Value) (us:List Value),us.length=ps.length→bindArgs (W.fnOf x qual (bW st) (bJ st) (aw st) .none kV doc pm an cdv ct) ⟨us,[]⟩=pure (ps.zip us)):aJ K fd ps []:=by
 obtain ⟨oc,od,kV,doc,pm,an,cdv,ct,osl,rfl,lk,hcd⟩:=F.ex
 exact .all (h kV doc pm an cdv ct)
theorem dN {x qual:Str} {st:Stmt} {f:Addr} {oc:Value} {od an:Option Addr} {osl:Array (Option Value)} {kV doc pm cdv ct:Value} (l:K.lookup f=some ⟨oc,od,.func (W.fnOf x qual (bW st) (bJ st) (aw st) .none kV doc pm an cdv ct),osl⟩)
 (c:W.codeIn K cdv qual=true) (k:W.keepIn K (.ref f)=true):Fun K x qual st f (W.fnOf x qual (bW st) (bJ st) (aw st) .none kV doc pm an cdv ct):=⟨⟨oc,od,kV,doc,pm,an,cdv,ct,osl,rfl,l,c⟩,k⟩
end
theorem gh {n:Nat} (h:n≤1000):n<sizeLine:=Nat.lt_of_le_of_lt h (by decide)
section
variable {X:Cx}
theorem pv (i:Nat) {x:Str} {pos:Pos} (hN:X.N[i]? = some x:=by rfl) (hv:Vis X.env.scope x:=by first | exact Or.inl rfl | exact Or.inr (Or.inl rfl) | exact Or.inr (Or.inr rfl)) (hd:(x == ("__debug__":Str))=false:=by decide)
 (hcd:(x == ("__classdict__":Str))=false:=by decide):PE X (.Name x pos) (cV i):=pe_var hN hv hd hcd
end
theorem aU {A B:Prop} (h:B):if false=true then A else B:=by
 rw [if_neg Bool.false_ne_true]
 exact h
theorem a9 {A B:Prop} (h:A):if true=true then A else B:=by
 rw [if_pos rfl]
 exact h
theorem fQ {c A B:Prop} [Decidable c] (h1:c→A) (h2:¬ c→B):if c then A else B:=by
 by_cases h:c
 ·rw [if_pos h]
  exact h1 h
 ·rw [if_neg h]
  exact h2 h
end L2
section
namespace L2.Bw
open PySem PySem.Spec PyProof.Rows
def ia (env:Env):List (Str×NameKind)→List (Str×Addr)→List (Str×Addr)
 | [],cs=>cs
 | y :: r,cs=>ia env r (if (y.2 == NameKind.free)=true then (match env.cells.lookup y.1 with | some a=>(y.1,a) :: cs | none=>cs) else cs)
theorem cR {β:Type}:∀ {l:List (Str×β)} {p:Str×β},p∈l→∃ c,l.lookup p.1=some c
 | [],_,h=>nomatch h
 | (a,b) :: r,p,h=>by
   cases e:p.1 == a with
   | true=>exact ⟨b,by simp only [List.lookup_cons,e]⟩
   | false=>
     rcases List.mem_cons.mp h with q | q
     ·subst q;simp at e
     ·obtain ⟨c,hc⟩:=cR q
      exact ⟨c,by simp only [List.lookup_cons,e];exact hc⟩
theorem kI {env:Env}:∀ {ns:List (Str×NameKind)} {cs:List (Str×Addr)} {p:Str×Addr},p∈ia env ns cs→p∈cs∨env.cells.lookup p.1=some p.2
 | [],_,_,h=>.inl h
 | y :: r,cs,p,h=>by
   rcases kI (ns:=r) h with q | q
   ·by_cases hk:(y.2 == NameKind.free)=true
    ·rw [if_pos hk] at q
     cases e:env.cells.lookup y.1 with
     | none=>rw [e] at q;exact .inl q
     | some a=>
       rw [e] at q
       rcases List.mem_cons.mp q with rfl | q
       ·exact .inr e
       ·exact .inl q
    ·rw [if_neg hk] at q;exact .inl q
   ·exact .inr q
theorem i7 {env:Env}:∀ {ns:List (Str×NameKind)} {cs:List (Str×Addr)} {p:Str×Addr},p∈cs→p∈ia env ns cs
 | [],_,_,h=>h
 | y :: r,cs,p,h=>by
   refine i7 (ns:=r) ?_
   by_cases hk:(y.2 == NameKind.free)=true
   ·rw [if_pos hk]
    cases e:env.cells.lookup y.1 with
    | none=>exact h
    | some a=>exact List.mem_cons_of_mem _ h
   ·rw [if_neg hk];exact h
theorem ib {env:Env}:∀ {ns:List (Str×NameKind)} {cs:List (Str×Addr)} {y:Str×NameKind} {c:Addr},y∈ns→y.2 = .free→env.cells.lookup y.1=some c→(y.1,c)∈ia env ns cs
 | z :: r,cs,y,c,h,hf,hc=>by
   rcases List.mem_cons.mp h with rfl | h
   ·refine i7 (ns:=r) ?_
    rw [if_pos (by rw [hf];rfl),hc]
    exact List.mem_cons_self
   ·exact ib (ns:=r) h hf hc
theorem eE {env:Env} {f:(Str×NameKind)→List (Str×Addr)→Sem (ForInStep (List (Str×Addr)))}
 (hf:∀ y cs,f y cs=if (y.2 == NameKind.free)=true then (do let a ← cellOf env y.1;pure (ForInStep.yield ((y.1,a) :: cs))) else pure (ForInStep.yield cs)) :
 ∀ (ns:List (Str×NameKind)) (cs:List (Str×Addr)),(∀ y∈ns,y.2 = .free→∃ c,env.cells.lookup y.1=some c)→(forIn ns cs f:Sem _)=pure (ia env ns cs)
 | [],cs,_=>rfl
 | y :: r,cs,h=>by
   rw [List.forIn_cons,hf]
   by_cases hk:(y.2 == NameKind.free)=true
   ·obtain ⟨c,hc⟩:=h y List.mem_cons_self (by simpa using hk)
    have e1:cellOf env y.1=pure c:=by unfold cellOf;rw [hc]
    rw [if_pos hk,e1]
    have ih:=eE hf r ((y.1,c) :: cs) fun z hz=>h z (List.mem_cons_of_mem _ hz)
    show (forIn r ((y.1,c) :: cs) f:Sem _)=pure (ia env r _)
    rw [ih,if_pos hk,hc]
   ·have ih:=eE hf r cs fun z hz=>h z (List.mem_cons_of_mem _ hz)
    rw [if_neg hk]
    show (forIn r cs f:Sem _)=pure (ia env r _)
    rw [ih,if_neg hk]
theorem ie {env:Env} {sc:Scope} (h:∀ y∈sc.names,y.2 = .free→∃ c,env.cells.lookup y.1=some c):closureFor sc env=pure (ia env sc.names []):=by
 simp only [closureFor]
 rw [eE (env:=env) (fun y cs=>by obtain ⟨n,kd⟩:=y;by_cases hk:(kd == NameKind.free)=true <;> simp [hk]) sc.names [] h]
 rfl
def cxC (X:Cx) (N:List Str) (sc:Scope) (C:Addr) (s:Shared) (H:Hp) (fp:List Addr):Cx where
 prog:=X.prog
 w:=X.w
 K:=X.K
 mg:=X.mg
 base:=X.base
 A:=X.A
 N:=N
 s₀:=s
 H₀:=H
 env:=compEnvC sc (ia X.env sc.names []) C X.env
 outer:=X.stack
 stack:=X.stack
 ex:=fp
 fn:=fun _=>false
 calm:=X.calm
 pn:=[]
 xe:=fun _ _=>False
def oldOk (sc:Scope) (env:Env) (p:Str×Str):Bool:=match (relabel sc env).names.lookup p.1 with
 | some .local=>false
 | some .cell=>p.1 == p.2
 | some .free=>p.1 == p.2
 | _=>true
structure Lc (X:Cx) (sc:Scope) (k:Nat) (N:List Str):Prop where
 nocell:∀ y∈sc.names,y.2≠.cell
 kind:sc.kind = .function
 names:∀ y∈sc.names,y.2 = .local→sc.names.lookup y.1=some .local
 fr:∀ y∈sc.names,y.2 = .free→X.env.kindOf y.1=some .cell∨X.env.kindOf y.1=some .free
 len:N.length=k+X.N.length
 old:((N.drop k).zip X.N).all (oldOk sc X.env)=true
theorem eD {X:Cx} {sc:Scope} {k:Nat} {N:List Str} (h1:(sc.names.all fun y=>y.2 != .cell)=true) (h2:sc.kind = .function) (h3:(sc.names.all fun y=>y.2 != .local || sc.names.lookup y.1 == some .local)=true)
 (h4:(sc.names.all fun y=>y.2 != .free || (X.env.kindOf y.1 == some .cell || X.env.kindOf y.1 == some .free))=true) (h5:N.length=k+X.N.length) (h6:((N.drop k).zip X.N).all (oldOk sc X.env)=true):Lc X sc k N where
 nocell:=fun y hy=>by have:=List.all_eq_true.mp h1 y hy;simpa using this
 kind:=h2
 names:=fun y hy hl=>by have:=List.all_eq_true.mp h3 y hy;simpa [hl] using this
 fr:=fun y hy hl=>by have:=List.all_eq_true.mp h4 y hy;simpa [hl] using this
 len:=h5
 old:=h6
section
variable {X:Cx} {sc:Scope} {k:Nat} {N:List Str} {pins:List (Addr×Obj)} {σ:St} {H:Hp} {s:Shared} {fp:List Addr}
theorem Lc.cells (L:Lc X sc k N) (ok:X.Ok):∀ y∈sc.names,y.2 = .free→∃ c,X.env.cells.lookup y.1=some c:=fun y hy hf=>ok.has y.1 (L.fr y hy hf)
theorem ic {x:Str} {c:Addr} (e:(ia X.env sc.names []).lookup x=some c):X.env.cells.lookup x=some c:=by
 rcases kI (PySem.mem_of_lookup e) with q | q
 ·exact nomatch q
 ·exact q
theorem cH (L:Lc X sc k N) {x:Str} {kd:NameKind} (e:(relabel sc X.env).names.lookup x=some kd) (hk:kd = .cell∨kd = .free):(x,NameKind.free)∈sc.names:=by
 have hm:=PySem.mem_of_lookup e
 obtain ⟨⟨n,k'⟩,hy,q⟩:=List.mem_map.mp hm
 dsimp only at q
 by_cases hc:(k' == NameKind.free && X.env.scope.kind == .function && X.env.kindOf n == some .cell)=true
 ·rw [if_pos hc] at q
  have e1:n=x:=congrArg Prod.fst q
  have e2:k' = .free:=by simp at hc;exact hc.1.1
  subst e1 e2
  exact hy
 ·rw [if_neg hc] at q
  have e1:n=x:=congrArg Prod.fst q
  have e2:k'=kd:=congrArg Prod.snd q
  subst e1 e2
  rcases hk with rfl | rfl
  ·exact absurd rfl (L.nocell _ hy)
  ·exact hy
theorem caught_at (L:Lc X sc k N) {i:Nat} {x:Str} (hi:N[i]? = some x) (hk:k≤i) (v:Vis (relabel sc X.env) x):X.N[i - k]? = some x∧(x,NameKind.free)∈sc.names:=by
 have hlt:i<N.length:=(List.getElem?_eq_some_iff.mp hi).1
 have hl:=L.len
 have h2:i - k<X.N.length:=by omega
 have e1:(N.drop k)[i - k]? = some x:=by rw [List.getElem?_drop];rw [show k+(i - k)=i by omega];exact hi
 have e2:X.N[i - k]? = some X.N[i - k]:=List.getElem?_eq_getElem h2
 have hz:((N.drop k).zip X.N)[i - k]? = some (x,X.N[i - k]):=by rw [List.getElem?_zip_eq_some];exact ⟨e1,e2⟩
 have ho:=List.all_eq_true.mp L.old _ (List.mem_of_getElem? hz)
 have v':(relabel sc X.env).names.lookup x=some .local∨(relabel sc X.env).names.lookup x=some .cell∨(relabel sc X.env).names.lookup x=some .free:=v
 unfold oldOk at ho
 rcases v' with q | q | q
 ·simp only [q] at ho;cases ho
 ·simp only [q] at ho
  have e3:x=X.N[i - k]:=by simpa using ho
  exact ⟨by rw [e2,← e3],cH L q (.inl rfl)⟩
 ·simp only [q] at ho
  have e3:x=X.N[i - k]:=by simpa using ho
  exact ⟨by rw [e2,← e3],cH L q (.inr rfl)⟩
theorem lc_ok (L:Lc X sc k N) (I:Inv X pins σ H s) (fo:∀ b∈fp,dH X pins H b) (ob:∀ b∈fp,∃ o,s.heap.get? b=some o) {C:Addr} (hC:s.heap.objs.size≤C):(cxC X N sc C s H fp).Ok where
 mod:=I.ok.mod
 kind:=L.kind
 glob:=I.ok.glob
 blt:=I.ok.blt
 above:=hC
 inj:=fun x y c h1 h2=>I.ok.inj x y c (ic h1) (ic h2)
 has:=fun x hx=>by
  have hx':(relabel sc X.env).names.lookup x=some .cell∨(relabel sc X.env).names.lookup x=some .free:=hx
  have hm:(x,NameKind.free)∈sc.names:=by
   rcases hx' with q | q
   ·exact cH L q (.inl rfl)
   ·exact cH L q (.inr rfl)
  obtain ⟨c,hc⟩:=L.cells I.ok _ hm rfl
  exact cR (ib hm rfl hc)
 cab:=fun x c h _=>nomatch h
 hd:=I.ok.hd
 frames:=I.ok.frames
 stk:=.inl rfl
 exf:=fun b hb=>by
  obtain ⟨o,e⟩:=ob b hb
  refine ⟨Nat.ne_of_lt (Nat.lt_of_lt_of_le (Heap.lt_size e) hC),fun x c h=>(fo b hb).2.2.2.2.1 x c (ic h)⟩
 bs:=I.bs
 bsz:=Nat.le_trans I.ok.bsz I.sz
 noex:=fun b o e hb=>by
  rcases (fo b hb).2.2.2.1 with q | q
  ·exact I.ok.noex b o e q
  ·exact absurd (Nat.lt_of_lt_of_le (Heap.lt_size e) (Nat.le_trans I.ok.bsz q)) (Nat.lt_irrefl _)
 exfs:=fun b hb hf=>by
  rcases List.mem_cons.mp (I.stkSub b hf) with q | q
  ·exact (fo b hb).2.1 q
  ·exact (fo b hb).2.2.1 q
 funs:=I.stack
 frf:=I.stkFree
theorem lc_start (L:Lc X sc k N) (I:Inv X pins σ H s) (fo:∀ b∈fp,dH X pins H b) (ob:∀ b∈fp,∃ o,s.heap.get? b=some o) {C:Addr} {h':Heap} {tk n:Nat} {m:Str→Option Value} (hC:s.heap.objs.size<C)
 (kp:∀ b o,s.heap.get? b=some o→h'.get? b=some o) (hd:h'.get? s.heap.objs.size=some { cls:=.type "list",data:=.seq ([]:List Value).toArray n }) (hn:h'.Ns C m) :
 Inv (cxC X N sc C s H fp) [] (List.replicate k none ++ σ) (upd H s.heap.objs.size (.lst [])) { s with heap:=h',toks:=tk }:=by
 have hD:H s.heap.objs.size=none:=I.hok.fresh (Nat.le_refl _)
 have nofr:∀ b,H b=none→b≠s.heap.objs.size→upd H s.heap.objs.size (.lst []) b=none:=fun b h1 h2=>by rw [au h2];exact h1
 have clt:∀ x c,X.env.cells.lookup x=some c→c<s.heap.objs.size:=fun x c e=>by obtain ⟨v,q⟩:=I.cell x c e;exact q.lt
 have ckeep:∀ {c:Addr} {v:Option Value},s.heap.IsCell c v→h'.IsCell c v:=fun {c v} ⟨o,e,d⟩=>⟨o,kp c o e,d⟩
 refine ⟨lc_ok L I fo ob (Nat.le_of_lt hC),rfl,I.bare,Un.laid kp (Nat.le_refl _) hD,⟨m,hn,fun i x v h1 h2 h3=>?_⟩,fun x c e=>?_,?_,fun x c e=>?_,fun p hp=>absurd (show p∈([]:List (Addr×Obj)) from hp) (by simp),?_,?_⟩
 ·have hki:k≤i:=by
   by_cases q:i<k
   ·rw [List.getElem?_append_left (by simpa using q),List.getElem?_replicate,if_pos q] at h2
    cases h2
   ·omega
  rw [List.getElem?_append_right (by simpa using hki),List.length_replicate] at h2
  obtain ⟨hx,hm⟩:=caught_at L h1 hki h3
  have hkx:=L.fr _ hm rfl
  have hvis:Vis X.env.scope x:=by
   rcases hkx with q | q
   ·exact .inr (.inl q)
   ·exact .inr (.inr q)
  obtain ⟨m0,_,hl⟩:=I.loc
  obtain ⟨u,r,l⟩:=hl (i - k) x v hx h2 hvis
  refine ⟨u,r,?_⟩
  rcases l with ⟨q,_⟩ | ⟨_,c,hc,hcell⟩
  ·rcases hkx with z | z
   ·rw [show X.env.kindOf x=some .cell from z] at q;cases q
   ·rw [show X.env.kindOf x=some .free from z] at q;cases q
  ·obtain ⟨c',hc'⟩:=cR (ib hm rfl hc)
   have e:=ic hc'
   rw [hc] at e;cases e
   refine .inr ⟨?_,c,hc',ckeep hcell⟩
   have v':(relabel sc X.env).names.lookup x=some .local∨(relabel sc X.env).names.lookup x=some .cell∨(relabel sc X.env).names.lookup x=some .free:=h3
   rcases v' with z | z | z
   ·exfalso
    have hlt:i<N.length:=(List.getElem?_eq_some_iff.mp h1).1
    have hl':=L.len
    have h2':i - k<X.N.length:=by omega
    have hz:((N.drop k).zip X.N)[i - k]? = some (x,X.N[i - k]):=by
     rw [List.getElem?_zip_eq_some]
     exact ⟨by rw [List.getElem?_drop,show k+(i - k)=i by omega];exact h1,List.getElem?_eq_getElem h2'⟩
    have ho:=List.all_eq_true.mp L.old _ (List.mem_of_getElem? hz)
    unfold oldOk at ho
    simp only [z] at ho
    cases ho
   ·exact .inl z
   ·exact .inr z
 ·obtain ⟨v,q⟩:=I.cell x c (ic e)
  exact ⟨v,ckeep q⟩
 ·exact nofr C (I.hok.fresh (Nat.le_of_lt hC)) (Nat.ne_of_gt hC)
 ·exact nofr c (I.freeC x c (ic e)) (Nat.ne_of_lt (clt x c (ic e)))
 ·exact I.hok.laid kp (Nat.le_refl _) (show bp X.prog X.w _ h' _ (.lst []) from ⟨Nat.zero_le _,[],n,.nil,hd⟩)
 ·show (List.replicate k none ++ σ).length=N.length
  rw [List.length_append,List.length_replicate,L.len,I.len]
theorem lc_end (I:Inv X pins σ H s) (fo:∀ b∈fp,dH X pins H b) {C:Addr} {σ':St} {H':Hp} {s':Shared} (J:Inv (cxC X N sc C s H fp) [] σ' H' s'):Inv X pins σ H' s':=
 I.call' (ch:=fp) J.os J.base J.hok J.bare fun b hb=>let ⟨_,h1,_,h3,h4,h5⟩:=fo b hb;⟨h3,h1,h4,h5⟩
end
def PTs (Y:Cx) (ifs:List Expr) (t:TT):Prop:=
 ∀ (pins:List (Addr×Obj)) (s:Shared) (σ:St) (H:Hp) (Q:Bool→Hp→Prop),Inv Y pins σ H s→t σ H Q →
   wpAny (model Y.prog Y.w) Y.A (forIn ifs true fun c r=>if r=true then do let ok ← isTrue c Y.env (eval c Y.env);pure (ForInStep.yield ok) else pure (ForInStep.yield r)) (TP Y pins σ Q) Y.xe s
def tYes:TT:=fun _ H Q=>Q true H
theorem cK {Y:Cx}:PTs Y [] tYes:=fun _ _ _ H _ I h=>wpAny_tests_nil ⟨H,I,h⟩
theorem pts_one {Y:Cx} {c:Expr} {t:TT} (h:PT Y c t):PTs Y [c] t:=fun pins s σ H Q I q=>wpAny_tests_one (h pins s σ H Q I q)
def kD (J:It) (g:TG) (tt:TT) (te:TE) (D:Addr) (W:Nat→Nat→St→Hp→Prop) (Qe:Hp→Prop):Prop:=∀ i m σ H,W i m σ H →
 (J.stop i H∧Qe H)∨(J.go i H∧∀ x H',J.yld i H x H'→g x σ H' fun σ2 H2=>tt σ2 H2 fun b H3=>
   if b=true then te σ2 H3 fun y H4=>∃ ys,H4 D=some (.lst ys)∧ys.length<sizeLine∧∃ m',m'<m∧W (i+1) m' σ2 (upd H4 D (.lst (ys ++ [y])))
   else ∃ m',m'<m∧W (i+1) m' σ2 H3)
theorem lc_loop {Y:Cx} {elt tg iter:Expr} {ifs:List Expr} {sc:Scope} {pos:Pos} {J:It} {fp:List Addr} {it D:Addr} {tn:Nat→Heap→Prop} {g:TG} {tt:TT} {te:TE} {W:Nat→Nat→St→Hp→Prop} {Qe:Hp→Prop}
 {R:Result→Shared→Prop} (hc:Y.calm=true) (hx:∀ e s,Y.xe e s→False) (T:iP Y.prog Y.w Y.K tg J fp it tn) (fo:∀ H':Hp,(∀ b∈fp,H' b=none)→∀ b∈fp,dH Y [] H' b)
 (hg:PG Y tg g) (ht:PTs Y ifs tt) (he:PE Y elt te) (turn:kD J g tt te D W Qe) (hR:∀ σ' H' s',Inv Y [] σ' H' s'→Qe H'→R (.ok .next) s')
 {σ:St} {H:Hp} {s:Shared} {m0:Nat} (I:Inv Y [] σ H s) (st:tn 0 s.heap) (fr:∀ b∈fp,H b=none) (w0:W 0 m0 σ H) :
 codeAny (model Y.prog Y.w) Y.A (.compLoop (.ListComp elt [⟨tg,iter,ifs,0⟩] sc pos) 0 (.ref it) (.ref D) Y.env) R s:=by
 refine codeAny_loop rfl (fun n s'=>∃ i σ' H',Inv Y [] σ' H' s'∧tn i s'.heap∧(∀ b∈fp,H' b=none)∧W i n σ' H') (fun n s3 hI=>?_) m0 ⟨0,σ,H,I,st,fr,w0⟩
 obtain ⟨i,σ3,H3,I3,st3,fr3,w3⟩:=hI
 show wpAny (model Y.prog Y.w) Y.A ((compTurn (.ListComp elt [⟨tg,iter,ifs,0⟩] sc pos) 0 (.ref it) (.ref D) Y.env).onRaise (fun x=>do noteFrame x Y.env;theTreesLotGoes x)) _ _ s3
 refine wpAny_noted ?_
 rw [compTurn_list]
 refine wpAny_bind (wpAny_standAt (wpAny_bind ?_))
 rcases turn i n σ3 H3 w3 with ⟨stop,qn⟩ | ⟨go,step⟩
 ·refine thn (T.done Y rfl rfl rfl hc i [] s3 σ3 H3 _ I3 (fo H3 fr3) st3 stop) fun r s4 q4=>?_
  obtain ⟨hr,I4⟩:=q4
  subst hr
  exact wpAny_pure (hR σ3 H3 s4 I4 qn)
 ·refine thn (T.item Y rfl rfl rfl hc i [] s3 σ3 H3 _ I3 (fo H3 fr3) st3 go) fun r s4 q4=>?_
  obtain ⟨u,hr,h4⟩:=q4
  subst hr
  refine wpAny_bind (thn h4 fun _ s5 q5=>?_)
  obtain ⟨x,H5,I5,r5,y5,st5,fr5⟩:=q5
  have I5':=I5.pinned (fo H5 fr5) (T.obj _ _ st5)
  have quit:∀ {e:Value} {s':Shared} {Z:Prop},Y.xe e s'→Z:=fun h=>(hx _ _ h).elim
  refine wpAny_bind (wpAny_mono (hg _ s5 σ3 H5 x u _ I5' r5 (step x H5 y5)) (fun _ s6 q6=>?_) fun _ _ e=>quit e)
  obtain ⟨σ6,H6,I6,q6⟩:=q6
  have fin:∀ {σ7:St} {H7:Hp} {s7:Shared},Inv Y ([] ++ iC fp s5.heap) σ7 H7 s7→(∃ m',m'<n∧W (i+1) m' σ7 H7)→∃ m,m<n∧∃ i σ' H',Inv Y [] σ' H' s7∧tn i s7.heap∧(∀ b∈fp,H' b=none)∧W i m σ' H':=fun {σ7 H7 s7} I7 q7=>by
   obtain ⟨m',hm,w7⟩:=q7
   refine ⟨m',hm,i+1,σ7,H7,I7.unpinned,T.keep _ _ _ st5 fun b hb o e=>(I7.pin (b,o) (List.mem_append_right _ (List.mem_append_right _ (dz hb e)))).1,fun b hb=>?_,w7⟩
   obtain ⟨o,e,d⟩:=T.obj _ _ st5 b hb
   exact (I7.pin (b,o) (List.mem_append_right _ (List.mem_append_right _ (dz hb e)))).2.1
  refine wpAny_bind (wpAny_mono (ht _ s6 σ6 H6 _ I6 q6) (fun b s7 q7=>?_) fun _ _ e=>quit e)
  obtain ⟨H7,I7,q7⟩:=q7
  cases b with
  | false=>
    rw [if_neg Bool.false_ne_true] at q7
    exact wpAny_pure ⟨rfl,fin I7 q7⟩
  | true=>
    rw [if_pos rfl] at q7
    refine wpAny_bind (wpAny_bind (wpAny_mono (he _ s7 σ6 H7 _ I7 q7) (fun v s8 q8=>?_) fun _ _ e=>quit e))
    obtain ⟨y,H8,I8,r8,ys,hD,hz,q8⟩:=q8
    refine wpAny_bind (wpAny_mono (d0 _ s8 σ6 H8 (.ref D) [y] (.ref D) [v] (fun _ H9=>∃ m',m'<n∧W (i+1) m' σ6 H9) I8 rfl (.cons r8 .nil) ⟨D,ys,y,rfl,rfl,hD,hz,q8⟩) (fun _ s9 q9=>?_) fun _ _ e=>quit e)
    obtain ⟨_,H9,I9,_,q9⟩:=q9
    exact wpAny_pure (wpAny_pure ⟨rfl,fin I9 q9⟩)
theorem k9 {X:Cx} {sc:Scope} {k:Nat} {N:List Str} {elt tg iter:Expr} {ifs:List Expr} {pos:Pos} {g:TG} {tt:TT} {te:TE} (L:Lc X sc k N) (hc:X.calm=true)
 (hg:∀ C s H fp,PG (cxC X N sc C s H fp) tg g) (ht:∀ C s H fp,PTs (cxC X N sc C s H fp) ifs tt) (he:∀ C s H fp,PE (cxC X N sc C s H fp) elt te)
 {pins:List (Addr×Obj)} {σ:St} {H:Hp} {s:Shared} {it:Addr} {fp:List Addr} {tn:Nat→Heap→Prop} {J:It} {Q:V→Hp→Prop} {E:Value→Shared→Prop} {RR:Value→Addr→Result→Shared→Prop}
 (I:Inv X pins σ H s) (T:iP X.prog X.w X.K tg J fp it tn) (st:tn 0 s.heap) (fo:∀ b∈fp,dH X pins H b)
 (hq:∀ D,H D=none→∃ W,(∃ m,W 0 m (List.replicate k none ++ σ) (upd H D (.lst [])))∧kD J g tt te D W (Q (.ref D)))
 (hRR:∀ C σ' H' s',s.heap.objs.size<C→Inv (cxC X N sc C s H fp) [] σ' H' s'→Q (.ref s.heap.objs.size) H'→RR (.ref s.heap.objs.size) C (.ok .next) s') :
 wpAny (model X.prog X.w) X.A (newList []) (fun acc s3=>wpAny (model X.prog X.w) X.A (newFunctionEnv sc X.env.globals (ia X.env sc.names []) [] X.env.qual none .none (some X.env)) (fun cenv s4=>
  codeAny (model X.prog X.w) X.A (.compStart (.ListComp elt [⟨tg,iter,ifs,0⟩] sc pos) 0 (.ref it) acc { cenv with scope:=relabel sc X.env }) (RR acc cenv.locals) s4) E s3) E s:=by
 refine wpAny_newObj_type (wpAny_newFunctionEnv L.nocell (by intro y hy;simp at hy) (fun h1 hns hsb=>?_) L.kind)
 dsimp only at hns hsb ⊢
 generalize hG:s.heap.push { cls:=.type "list",dict:=none,data:=.seq ([]:List Value).toArray }=G at hns hsb ⊢
 have hC:G.objs.size=s.heap.objs.size+1:=by rw [← hG,Heap.size_push]
 have hlt:s.heap.objs.size<G.objs.size:=by omega
 have ob:∀ b∈fp,∃ o,s.heap.get? b=some o:=fun b hb=>let ⟨o,e,_⟩:=T.obj _ _ st b hb;⟨o,e⟩
 have up:∀ b o,G.get? b=some o→h1.get? b=some o:=fun b o e=>hsb.extBut b o (Nat.ne_of_lt (Heap.lt_size e)) (Heap.get?_push_of_some _ e)
 have kp:∀ b o,s.heap.get? b=some o→h1.get? b=some o:=fun b o e=>up b o (hG ▸ Heap.get?_push_of_some _ e)
 have I0:Inv (cxC X N sc G.objs.size s H fp) [] (List.replicate k none ++ σ) (upd H s.heap.objs.size (.lst [])) { s with heap:=h1,toks:=s.toks+([]:List (Str×Value)).length }:=
  lc_start L I fo ob hlt kp (up _ _ (hG ▸ Heap.get?_push_size _ rfl)) hns
 have st1:tn 0 h1:=T.keep _ _ _ st fun b _ o e=>kp b o e
 have hD:H s.heap.objs.size=none:=I.hok.fresh (Nat.le_refl _)
 obtain ⟨W,⟨m0,w0⟩,turn⟩:=hq _ hD
 have foY:∀ H':Hp,(∀ b∈fp,H' b=none)→∀ b∈fp,dH (cxC X N sc G.objs.size s H fp) [] H' b:=fun H' hn b hb=>
  ⟨hn b hb,(I0.ok.exf b hb).1,I0.ok.exfs b hb,.inl hb,(I0.ok.exf b hb).2,fun p hp=>absurd (show p∈([]:List (Addr×Obj)) from hp) (by simp)⟩
 have fr0:∀ b∈fp,upd H s.heap.objs.size (.lst []) b=none:=fun b hb=>by
  obtain ⟨o,e⟩:=ob b hb
  rw [au (Nat.ne_of_lt (Heap.lt_size e))]
  exact (fo b hb).1
 have loop:codeAny (model X.prog X.w) X.A (.compLoop (.ListComp elt [⟨tg,iter,ifs,0⟩] sc pos) 0 (.ref it) (.ref s.heap.objs.size) (cxC X N sc G.objs.size s H fp).env) (RR (.ref s.heap.objs.size) G.objs.size) { s with heap:=h1,toks:=s.toks+([]:List (Str×Value)).length }:=
  lc_loop (Y:=cxC X N sc G.objs.size s H fp) (iter:=iter) hc (fun _ _ h=>h) T foY (hg _ _ _ _) (ht _ _ _ _) (he _ _ _ _) turn (fun σ' H' s' J' q=>hRR _ σ' H' s' hlt J' q) I0 st1 fr0 w0
 exact codeAny_compStart_list loop (T.self _ 0 _ _ _ st1 loop)
def tLC (k:Nat) (wi:TI) (g:TG) (tt:TT) (te:TE):TE:=fun σ H Q=>wi σ H fun J H1=>∀ D,H1 D=none →
 ∃ W,(∃ m,W 0 m (List.replicate k none ++ σ) (upd H1 D (.lst [])))∧kD J g tt te D W (Q (.ref D))
section
variable {X:Cx} {sc:Scope} {k:Nat} {N:List Str} {elt tg iter:Expr} {ifs:List Expr} {pos:Pos} {wi:TI} {g:TG} {tt:TT} {te:TE}
theorem gG (L:Lc X sc k N) (hc:X.calm=true) (hi:PI X tg iter wi) (hg:∀ C s H fp,PG (cxC X N sc C s H fp) tg g) (ht:∀ C s H fp,PTs (cxC X N sc C s H fp) ifs tt) (he:∀ C s H fp,PE (cxC X N sc C s H fp) elt te)
 (hs:∀ x,foldedSetIterable iter X.env x=pure x:=by intro _;rfl):PE X (.ListComp elt [⟨tg,iter,ifs,0⟩] sc pos) (tLC k wi g tt te):=by
 intro pins s σ H Q I h
 rw [eval_ListComp]
 refine wpAny_comprehension_free (use:=none) rfl hs (ie (L.cells I.ok)) L.kind L.names (thn (hi pins s σ H _ I h) fun v s1 h1=>thn h1 fun itv s2 h2=>?_)
 obtain ⟨it,fp,tn,J,H2,e,I2,T,st2,f2,q2⟩:=h2
 subst e
 refine k9 (RR:=fun acc C=>compPost (model X.prog X.w) X.A X.xe none (EP X pins σ Q) acc C) L hc hg ht he I2 T st2 f2 q2 fun C σ' H' s' hC J' q=>?_
 have I3:=lc_end I2 f2 J'
 obtain ⟨m,hn,_⟩:=J'.loc
 refine ⟨m,hn,fun h' sb=>?_⟩
 obtain ⟨f0,f1,f2',f3,f4,f5⟩:=I2.fpOk (Nat.le_of_lt hC) (show H' C=none from J'.free)
 exact ⟨.ref s2.heap.objs.size,H',I3.turned (t':=s'.toks) (fun b o hb e=>(sb.2 b hb).trans e) f0 f1 f3 f4 f5,rfl,q⟩
theorem ps_lc {i:Nat} {x:Str} {pos' spos:Pos} (L:Lc X sc k N) (hc:X.calm=true) (hN:X.N.Nodup) (hx:X.N[i]? = some x) (hl:Loc X.env.scope x) (hi:PI X tg iter wi)
 (hg:∀ C s H fp,PG (cxC X N sc C s H fp) tg g) (ht:∀ C s H fp,PTs (cxC X N sc C s H fp) ifs tt) (he:∀ C s H fp,PE (cxC X N sc C s H fp) elt te)
 (hsw:swapsWith (.ListComp elt [⟨tg,iter,ifs,0⟩] sc pos) (some (.Name x pos')) spos.line X.env=pure true:=by rfl) (hf:X.fn x=true∨X.env.scope.names.lookup x=some .local:=by first | exact .inl rfl | exact .inr rfl | assumption)
 (hs:∀ x,foldedSetIterable iter X.env x=pure x:=by intro _;rfl):PS X (.Assign [.Name x pos'] (.ListComp elt [⟨tg,iter,ifs,0⟩] sc pos) spos) (tAsg (tLC k wi g tt te) (bH i)):=by
 intro pins s σ H D I h
 rw [exec_Assign_Name_used _ _ _ _ hsw]
 refine wpAny_bind (wpAny_standAt (wpAny_bind ?_))
 show wpAny _ X.A (do let _ ← comprehension (.ListComp elt [⟨tg,iter,ifs,0⟩] sc pos) sc X.env _ (newList []) false (eval iter X.env) (some (assign (.Name x pos') X.env))) _ _ s
 refine wpAny_bind (thn (wpAny_comprehension_free (use:=some (assign (.Name x pos') X.env)) (Q:=fun _ s'=>SP X pins D .next s') rfl hs (ie (L.cells I.ok)) L.kind L.names
  (thn (hi pins s σ H _ I h) fun v s1 h1=>thn h1 fun itv s2 h2=>?_)) fun _ s' hq=>wpAny_pure (wpAny_pure hq))
 obtain ⟨it,fp,tn,J,H2,e,I2,T,st2,f2,q2⟩:=h2
 subst e
 refine k9 (Q:=fun v H1=>bH i v σ H1 D.nx) (RR:=fun acc C=>compPost (model X.prog X.w) X.A X.xe (some (assign (.Name x pos') X.env)) (fun _ s'=>SP X pins D .next s') acc C) L hc hg ht he I2 T st2 f2 q2 fun C σ' H' s' hC J' q=>?_
 have I3:=lc_end I2 f2 J'
 obtain ⟨m,hn,_⟩:=J'.loc
 obtain ⟨f0,f1,f2',f3,f4,f5⟩:=I2.fpOk (Nat.le_of_lt hC) (show H' C=none from J'.free)
 show wpAny _ X.A (assign (.Name x pos') X.env (.ref s2.heap.objs.size)) _ _ _
 refine wpAny_assign_Name (jH I3 hN hx hl (v:=.ref s2.heap.objs.size) rfl (fun s4 I4 hs4=>?_) hf)
 obtain ⟨a,sb,ha⟩:=hs4
 have hne:C≠a:=by
  rcases ha with rfl | ha
  ·exact f1
  ·exact fun e=>f4 x a ha e.symm
 refine ⟨m,hn.sameBut sb hne,fun h' sb'=>?_⟩
 exact ⟨_,H',I4.turned (t':=s4.toks) (fun b o hb e=>(sb'.2 b hb).trans e) f0 f1 f3 f4 f5,q⟩
end
end L2.Bw
end
section
namespace L2.Bw
open PySem PySem.Spec PyProof.Rows
def Gr (M:Addr→Prop) (H H':Hp):Prop:=∀ b o,H b=some o→¬ M b→H' b=some o
abbrev M0:Addr→Prop:=fun _=>False
abbrev M1 (a:Addr):Addr→Prop:=fun b=>b=a
def Tm (H H':Hp):Prop:=∀ a xs,H a=some (.tup xs)→H' a=some (.tup xs)
theorem Gr.trans {M:Addr→Prop} {H H1 H2:Hp} (a:Gr M H H1) (b:Gr M H1 H2):Gr M H H2:=fun c o h n=>b c o (a c o h n) n
theorem Gr.wide {M M':Addr→Prop} {H H':Hp} (a:Gr M H H') (s:∀ b,M b→M' b):Gr M' H H':=fun c o h n=>a c o h fun q=>n (s c q)
theorem Gr.new {M:Addr→Prop} {H:Hp} {p:Addr} {o:HO} (h:H p=none):Gr M H (upd H p o):=fun b u e _=>by rw [au (ap e h)];exact e
theorem Gr.put {M:Addr→Prop} {H:Hp} {p:Addr} {o:HO} (h:M p):Gr M H (upd H p o):=fun b u e n=>by
 rw [au (fun q=>n (by rw [q];exact h))];exact e
theorem Gr.tm {M:Addr→Prop} {H H':Hp} (g:Gr M H H') (h:∀ b xs,M b→H b=some (.tup xs)→False):Tm H H':=fun a xs e=>g a _ e fun m=>h a xs m e
theorem Gr.tm1 {H H':Hp} {l:Addr} {xs:List V} (g:Gr (M1 l) H H') (h:H l=some (.lst xs)):Tm H H':=g.tm fun b ys m e=>by cases (show b=l from m);rw [h] at e;cases e
theorem Gr.free {H H':Hp} {M:Addr→Prop} (g:Gr M H H') {l:Addr} (h:H' l=none) (n:¬ M l):H l=none:=by
 cases q:H l with
 | none=>rfl
 | some o=>rw [g l o q n] at h;cases h
theorem Gr.seq {K:W.Frag} {M:Addr→Prop} {H H':Hp} {a:Addr} {xs:List V} (g:Gr M H H') (n:¬ M a) (h:SqL K H a xs):SqL K H' a xs:=by
 rcases h with (h | ⟨o,h⟩) | h
 ·exact .inl (.inl (g _ _ h n))
 ·exact .inl (.inr ⟨o,g _ _ h n⟩)
 ·exact .inr h
def isStar:Expr→Bool
 | .Starred ..=>true
 | _=>false
theorem star_of {e:Expr} {es:List Expr} {env:Env} (h:isStar e=false):starEach (e :: es) env=(false,eval e env) :: starEach es env:=by
 cases e <;> first | rfl | cases h
theorem pa {X:Cx} {e:Expr} {es:List Expr} {te:TE} {t:TA} (ha:PE X e te) (hr:PA X es t) (h:isStar e=false:=by rfl):PA X (e :: es) (dF te t):=pa_cons ha hr (star_of h)
structure Cal (P:Program) (w:World) (K:W.Frag) (mg:Str→Option Value) (base:Heap) (x:Str) (ps:List Str) (k:Nat) (sp:Sp):Prop where
 ex:∃ f fd,aY P w K mg base CX0 k f fd ps sp∧aJ K fd ps []∧W.keepIn K (.ref f)=true∧mg x=some (.ref f)
theorem az {X:Cx} {x:Str} {ps:List Str} {k n:Nat} {sp:Sp} {p pos:Pos} {e:Expr} {es:List Expr} {t:TA} (c:Cal X.prog X.w X.K X.mg X.base x ps k sp) (hr:Room n X.A) (ha:PA X (e :: es) t) (hn:k≤n:=by omega) (hg:Gl X x:=by rfl)
 (hdb:(x == ("__debug__":Str))=false:=by decide) (he:starEach (e :: es) X.env=(false,eval e X.env) :: starEach es X.env:=by rfl)
 (hpl:(backTo pos (starEach es X.env)).any (·.1)=false:=by rfl):PE X (.Call (.Name x p) (e :: es) [] pos) (tCall sp [] E0 t):=by
 obtain ⟨f,fd,F,b,kp,m⟩:=c.ex
 exact pe_call F (hr.mono hn) hg m kp b .nil pass0 ha hdb he hpl
end L2.Bw
end
section
namespace L2.Bw
open PySem PySem.Spec PyProof.Rows
section
variable {X:Cx}
def jy (K:W.Frag):R2:=fun x y H Q=>(∃ i j,x = .int i∧y = .int j∧Q (.int (i+j)) H)∨(∃ i j,x = .str i∧y = .str j∧i.length+j.length≤sizeLine∧Q (.str (i ++ j)) H)∨rCat x y H Q∨rCatT K x y H Q
theorem op_addA:OpR X (binaryOp .Add) (jy X.K):=fun pins s σ H x y v u Q I rx ry h=>by
 rcases h with h | h | h | h
 ·exact op_add pins s σ H x y v u Q I rx ry h
 ·exact op_add_str pins s σ H x y v u Q I rx ry h
 ·exact op_cat pins s σ H x y v u Q I rx ry h
 ·exact op_catT pins s σ H x y v u Q I rx ry h
theorem addI {K:W.Frag} {i j:Int} {H:Hp} {Q:VK} (q:Q (.int (i+j)) H):jy K (.int i) (.int j) H Q:=.inl ⟨i,j,rfl,rfl,q⟩
theorem addS {K:W.Frag} {i j:Str} {H:Hp} {Q:VK} (h:i.length+j.length≤sizeLine) (q:Q (.str (i ++ j)) H):jy K (.str i) (.str j) H Q:=.inr (.inl ⟨i,j,rfl,rfl,h,q⟩)
theorem addL {K:W.Frag} {x y:V} {H:Hp} {Q:VK} (h:rCat x y H Q):jy K x y H Q:=.inr (.inr (.inl h))
theorem addT {K:W.Frag} {x y:V} {H:Hp} {Q:VK} (h:rCatT K x y H Q):jy K x y H Q:=.inr (.inr (.inr h))
def rLenA (K:W.Frag):List V→Hp→VK→Prop:=fun xs H Q=>(∃ p ys,xs = [.ref p]∧(SqL K H p ys∨SqT K H p ys)∧Q (.int ys.length) H)∨∃ z,xs = [.str z]∧z.length≤sizeLine∧Q (.int z.length) H
theorem bd:dE X (.builtin "len") (rLenA X.K):=fun pins s σ H xs us Q I r h=>by
 rcases h with h | h
 ·exact jT pins s σ H xs us Q I r h
 ·exact jU pins s σ H xs us Q I r h
theorem gH {x:Str} {T:String} {pos:Pos} (hg:Gl X x) (hm:X.mg x=none) (hv:bootBuiltins x=some (.type T)) (hn:x≠"__name__":=by decide) (hd:(x == ("__debug__":Str))=false:=by decide):PE X (.Name x pos) (tC (.ty T)):=
 pe_bltn hg hm hv (v:=.ty T) rfl hn hd
def iSeq (K:W.Frag) (tl:TE):TI:=fun σ H R=>tl σ H fun x H1=>∃ a,x = .ref a∧(((∃ xs,SqL K H1 a xs)∧R (Itl K a) H1)∨((∃ xs,SqT K H1 a xs)∧R (Itt K a) H1))
theorem dC {tg l:Expr} {tl:TE} (hl:PE X l tl):PI X tg l (iSeq X.K tl):=by
 intro pins s σ H R I h
 refine thn (hl pins s σ H _ I h) fun v s1 q=>?_
 obtain ⟨x,H1,I1,r1,a,e,q1⟩:=q
 subst e
 cases r1
 have one:∀ b∈[s1.heap.objs.size],dH X pins H1 b:=fun b hb=>by
  cases (show b=s1.heap.objs.size by simpa using hb)
  exact I1.fpOk (Nat.le_refl _) (I1.hok.fresh (Nat.le_refl _))
 rcases q1 with ⟨⟨xs,hq⟩,q⟩ | ⟨⟨xs,hq⟩,q⟩
 ·obtain ⟨its,rv,p,hz⟩:=I1.list hq
  exact wpAny_pyIter_list p.isList ⟨s1.heap.objs.size,[s1.heap.objs.size],_,_,H1,rfl,I1.kept (t':=s1.toks) fun b o e=>Heap.get?_push_of_some _ e,turn_list a _,⟨_,Heap.get?_push_size _ rfl,rfl,rfl⟩,one,q⟩
 ·obtain ⟨its,rv,p,hz⟩:=I1.tuple hq
  exact wpAny_pyIter_tuple (show s1.heap.IsTuple a its.toArray from p) ⟨s1.heap.objs.size,[s1.heap.objs.size],_,_,H1,rfl,I1.kept (t':=s1.toks) fun b o e=>Heap.get?_push_of_some _ e,turn_tuple a _,⟨_,Heap.get?_push_size _ rfl,rfl,rfl⟩,one,q⟩
def IsI (K:W.Frag) (H:Hp) (x:V) (n:String) (b:Bool):Prop:=∃ t,fM K H x t∧W.kitOne K t (.type n)=some b
theorem call_isi:dE X (.builtin "isinstance") (fun xs H Q=>∃ x n b,xs = [x,.ty n]∧IsI X.K H x n b∧Q (.bl b) H):=by
 intro pins s σ H xs us Q I r h
 obtain ⟨x,n,b,e,⟨t,ty,k⟩,q⟩:=h
 subst e
 obtain ⟨u,w,e,ru,rw'⟩:=aV.two r
 subst e
 cases rw'
 exact isinst_ok I ru ty k fun tk=>⟨.bl b,H,I.tok tk,rfl,q⟩
end
end L2.Bw
end
section
namespace L2.Bw
open PySem PySem.Spec PyProof.Rows
section
variable {X:Cx} {pins:List (Addr×Obj)} {σ:St} {H:Hp} {s:Shared} {h':Heap} {ch:List Addr}
theorem g9 {t':Nat} {T:Addr} {xs:List V} (I:Inv X pins σ H s) (k:∀ b o,b ∉ ch→s.heap.get? b=some o→h'.get? b=some o) (fo:∀ b∈ch,dH X pins H b) (hT:s.heap.objs.size≤T)
 (new:∃ its:List Value,aV xs its∧IsTup h' T its.toArray) (hz:xs.length≤sizeLine):Inv X pins σ (upd H T (.tup xs)) { s with heap:=h',toks:=t' }:=by
 have hTn:H T=none:=I.hok.fresh hT
 have nit:∀ b u,H b=some u→b ∉ ch:=fun b u e z=>by rw [(fo b z).1] at e;cases e
 have old:∀ b u,H b=some u→upd H T (.tup xs) b=some u:=fun b u e=>by rw [au (ap e hTn)];exact e
 refine I.step (g':=s.gens) (d':=s.drawn) (ch:=ch) (fun b hb=>?_) (fun b o _ _ hc e _=>k b o hc e) (fun b o _ _ hc e _=>⟨o.slots,k b o hc e⟩) (fun b o _ e n=>?_) (fun b o hc e=>⟨o,k b o hc e⟩)
  (fun b ys e=>old b _ e) (fun b o u e=>old b _ e) (fun b ps e=>⟨#[],by rw [old b _ e];simp⟩) (fun m hm=>?_) (fun b u e=>?_) I.bare
 ·obtain ⟨_,h1,_,h3,h4,h5⟩:=fo b hb
  exact ⟨h3,h1,h4,h5⟩
 ·rw [au (Nat.ne_of_lt (Nat.lt_of_lt_of_le (Heap.lt_size e) hT))];exact n
 ·obtain ⟨o,es,ep,ho,r⟩:=hm
  exact ⟨o,es,ep,k _ o (fun z=>(fo _ z).2.1 rfl) ho,r⟩
 ·by_cases hb:b=T
  ·subst hb
   rw [ag] at e;cases e
   obtain ⟨its,r,p⟩:=new
   exact ⟨hz,its,r,p⟩
  ·rw [au hb] at e
   refine (I.hok b u e).stay (fun c v hc q=>k c v ?_ q) (fun c q=>old c _ q) fun c ys q=>old c _ q
   rcases hc with z | z
   ·rw [z];exact nit b u e
   ·exact nit c _ z
theorem g7 {t':Nat} (I:Inv X pins σ H s) (k:∀ b o,b ∉ ch→s.heap.get? b=some o→h'.get? b=some o) (fo:∀ b∈ch,dH X pins H b):Inv X pins σ H { s with heap:=h',toks:=t' }:=by
 have nit:∀ b u,H b=some u→b ∉ ch:=fun b u e z=>by rw [(fo b z).1] at e;cases e
 refine I.step (g':=s.gens) (d':=s.drawn) (ch:=ch) (fun b hb=>?_) (fun b o _ _ hc e _=>k b o hc e) (fun b o _ _ hc e _=>⟨o.slots,k b o hc e⟩) (fun b o _ e n=>n) (fun b o hc e=>⟨o,k b o hc e⟩)
  (fun b ys e=>e) (fun b o u e=>e) (fun b ps e=>⟨#[],by rw [e];simp⟩) (fun m hm=>?_) (fun b u e=>?_) I.bare
 ·obtain ⟨_,h1,_,h3,h4,h5⟩:=fo b hb
  exact ⟨h3,h1,h4,h5⟩
 ·obtain ⟨o,es,ep,ho,r⟩:=hm
  exact ⟨o,es,ep,k _ o (fun z=>(fo _ z).2.1 rfl) ho,r⟩
 ·refine (I.hok b u e).stay (fun c v hc q=>k c v ?_ q) (fun c q=>q) fun c ys q=>q
  rcases hc with z | z
  ·rw [z];exact nit b u e
  ·exact nit c _ z
end
theorem cy {X:Cx} {pins:List (Addr×Obj)} {σ:St} {H:Hp} {s:Shared} (I:Inv X pins σ H s) {c l:Addr} {us:List V} (f:dH X pins H c) (hq:SqL X.K H l us):l≠c:=fun e=>by
 subst e
 rcases hq with q | q
 ·rcases q with q | ⟨o,q⟩
  ·rw [f.1] at q;cases q
  ·rw [f.1] at q;cases q
 ·obtain ⟨o,its,n,q,_⟩:=q
  have bk:=I.ok.mod.kin _ _ q
  rcases f.2.2.2.1 with f | f
  ·exact I.ok.noex _ _ bk f
  ·exact absurd (Nat.lt_of_lt_of_le (Heap.lt_size bk) (Nat.le_trans I.ok.bsz f)) (Nat.lt_irrefl _)
theorem jN {z TI TO i1 i2 a b:Addr} (h:z≠TI∧z≠TO∧z≠i1∧z≠i2∧TI≠TO∧TI≠i1∧TI≠i2∧TO≠i1∧TO≠i2∧i1≠i2) (ha:∀ c∈[z,TI,TO,i1,i2],a≠c) (hb:∀ c∈[z,TI,TO,i1,i2],b≠c):ZipApart z TI TO i1 i2 a b:=by
 obtain ⟨h1,h2,h3,h4,h5,h6,h7,h8,h9,h0⟩:=h
 simp only [List.mem_cons,List.not_mem_nil,or_false,forall_eq_or_imp,forall_eq] at ha hb
 obtain ⟨a1,a2,a3,a4,a5⟩:=ha
 obtain ⟨b1,b2,b3,b4,b5⟩:=hb
 constructor <;> first | assumption | exact Ne.symm (by assumption)
def Itz (K:W.Frag) (a b:Addr):It where
 go:=fun i H=>∃ xs ys,SqL K H a xs∧SqL K H b ys∧i<xs.length∧i<ys.length
 yld:=fun i H v H'=>∃ T x y,v = .ref T∧H T=none∧H'=upd H T (.tup [x,y])∧(∀ xs,SqL K H a xs→xs[i]? = some x)∧∀ ys,SqL K H b ys→ys[i]? = some y
 stop:=fun i H=>∃ xs ys,SqL K H a xs∧SqL K H b ys∧i=min xs.length ys.length
theorem turn_zip {P:Program} {w:World} {K:W.Frag} {es:List Expr} {k:Nat} {tp:Pos} (a b z TI TO i1 i2:Addr) (hap:z≠TI∧z≠TO∧z≠i1∧z≠i2∧TI≠TO∧TI≠i1∧TI≠i2∧TO≠i1∧TO≠i2∧i1≠i2) :
 iP P w K (.Tuple es k tp) (Itz K a b) [z,TI,TO,i1,i2] z (fun i h=>IsZip h z TI TO .none∧IsPair h TI (.ref i1) (.ref i2)∧(∃ u v,IsPair h TO u v)∧h.IsListIter i1 a i∧h.IsListIter i2 b i) where
 mem:=by simp
 obj:=fun i h st c hc=>by
  obtain ⟨h1,h2,⟨u,v,h3⟩,⟨o4,e4,c4,d4⟩,⟨o5,e5,c5,d5⟩⟩:=st
  have hc':c=z∨c=TI∨c=TO∨c=i1∨c=i2:=by simpa using hc
  rcases hc' with rfl | rfl | rfl | rfl | rfl
  ·exact ⟨_,h1,fun v q=>by cases (show Data.fields _=Data.cell v from q)⟩
  ·exact ⟨_,h2,fun v q=>by cases (show Data.seq _ _=Data.cell v from q)⟩
  ·exact ⟨_,h3,fun v q=>by cases (show Data.seq _ _=Data.cell v from q)⟩
  ·exact ⟨o4,e4,fun v q=>by rw [d4] at q;cases q⟩
  ·exact ⟨o5,e5,fun v q=>by rw [d5] at q;cases q⟩
 keep:=fun i h h' st kp=>by
  obtain ⟨h1,h2,⟨u,v,h3⟩,h4,h5⟩:=st
  exact ⟨kp z (by simp) _ h1,kp TI (by simp) _ h2,⟨u,v,kp TO (by simp) _ h3⟩,h4.at fun o e=>kp i1 (by simp) o e,h5.at fun o e=>kp i2 (by simp) o e⟩
 item:=by
  intro X hP hw hK hc i pins s σ H E I hf st hg
  subst hP hw hK
  obtain ⟨xs,ys,hx,hy,l1,l2⟩:=hg
  obtain ⟨its1,r1,p1,z1⟩:=I.list hx
  obtain ⟨its2,r2,p2,z2⟩:=I.list hy
  obtain ⟨h1,h2,h3,h4,h5⟩:=st
  have len1:=r1.length
  have len2:=r2.length
  have D:ZipApart z TI TO i1 i2 a b:=jN hap (fun c hc=>cy I (hf c hc) hx) (fun c hc=>cy I (hf c hc) hy)
  have W:=WalksT.zip2 (prog:=X.prog) (w:=X.w) (A:=X.A) (I.ok.hd hc) z TI TO i1 i2 a b D its1.toArray its2.toArray
  refine W.item i s _ _ (by simp;omega) ⟨h1,h2,h3,h4,h5,p1.isList,p2.isList⟩ fun T vals h' tk hv hT ht hm kp=>?_
  obtain ⟨x,y,ex,ey,rfl⟩:=hv
  refine ⟨_,rfl,W.go es k tp i T _ _ _ hm fun h2' st2 kp2=>?_⟩
  obtain ⟨g1,g2,g3,g4,g5,_,_⟩:=st2
  obtain ⟨xv,ev,rx⟩:∃ xv,xs[i]? = some xv∧aX xv x:=by
   have hi:xs[i]? = some xs[i]:=List.getElem?_eq_getElem l1
   obtain ⟨u,hu,ru⟩:=r1.get hi
   have e2:its1[i]? = some x:=by simpa using ex
   rw [e2] at hu;cases hu
   exact ⟨_,hi,ru⟩
  obtain ⟨yv,eyv,ry⟩:∃ yv,ys[i]? = some yv∧aX yv y:=by
   have hi:ys[i]? = some ys[i]:=List.getElem?_eq_getElem l2
   obtain ⟨u,hu,ru⟩:=r2.get hi
   have e2:its2[i]? = some y:=by simpa using ey
   rw [e2] at hu;cases hu
   exact ⟨_,hi,ru⟩
  have Tw:T ∉ [z,TO,i1,i2]:=W.apart _ _ _ hm
  have ht2:IsTup h2' T #[x,y]:=by
   obtain ⟨o,e,r⟩:=ht
   exact ⟨o,kp2 T o Tw e,r⟩
  have I2:Inv X pins σ (upd H T (.tup [xv,yv])) { s with heap:=h2',toks:=tk }:=
   g9 (ch:=[z,TO,i1,i2]) I (fun b o hb e=>kp2 b o hb (kp b o hb e)) (fun b hb=>hf b (by simp at hb ⊢;rcases hb with rfl | rfl | rfl | rfl <;> simp)) hT ⟨[x,y],.cons rx (.cons ry .nil),ht2⟩ (by show 2≤sizeLine;decide)
  refine ⟨.ref T,_,I2,rfl,⟨T,xv,yv,rfl,I.hok.fresh hT,rfl,fun us hu=>?_,fun us hu=>?_⟩,⟨g1,g2,g3,g4,g5⟩,fun b hb=>?_⟩
  ·rw [I.list_inj hu hx];exact ev
  ·rw [I.list_inj hu hy];exact eyv
  ·have hbT:b≠T:=by
    obtain ⟨o,e,_⟩:∃ o,s.heap.get? b=some o∧True:=by
     have hc':b=z∨b=TI∨b=TO∨b=i1∨b=i2:=by simpa using hb
     obtain ⟨u3,v3,h3⟩:=h3
     obtain ⟨o4,e4,_⟩:=h4
     obtain ⟨o5,e5,_⟩:=h5
     rcases hc' with rfl | rfl | rfl | rfl | rfl
     ·exact ⟨_,h1,trivial⟩
     ·exact ⟨_,h2,trivial⟩
     ·exact ⟨_,h3,trivial⟩
     ·exact ⟨_,e4,trivial⟩
     ·exact ⟨_,e5,trivial⟩
    exact Nat.ne_of_lt (Nat.lt_of_lt_of_le (Heap.lt_size e) hT)
   rw [au hbT]
   exact (hf b hb).1
 done:=by
  intro X hP hw hK hc i pins s σ H E I hf st hg
  subst hP hw hK
  obtain ⟨xs,ys,hx,hy,hi⟩:=hg
  obtain ⟨its1,r1,p1,z1⟩:=I.list hx
  obtain ⟨its2,r2,p2,z2⟩:=I.list hy
  obtain ⟨h1,h2,h3,h4,h5⟩:=st
  have len1:=r1.length
  have len2:=r2.length
  have D:ZipApart z TI TO i1 i2 a b:=jN hap (fun c hc=>cy I (hf c hc) hx) (fun c hc=>cy I (hf c hc) hy)
  have W:=WalksT.zip2 (prog:=X.prog) (w:=X.w) (A:=X.A) (I.ok.hd hc) z TI TO i1 i2 a b D its1.toArray its2.toArray
  have hn:i=min its1.toArray.size its2.toArray.size:=by simp;omega
  refine W.done s _ _ (by rw [← hn];exact ⟨h1,h2,h3,h4,h5,p1.isList,p2.isList⟩) fun h' tk kp=>⟨rfl,?_⟩
  exact g7 (ch:=[z,TO,i1,i2]) I kp (fun b hb=>hf b (by simp at hb ⊢;rcases hb with rfl | rfl | rfl | rfl <;> simp))
 self:=fun _ _ _ _ _ st h=>wpAny_pyIter_zip st.1 h
theorem apart5 (n:Nat):n+4≠n+2∧n+4≠n+3∧n+4≠n∧n+4≠n+1∧n+2≠n+3∧n+2≠n∧n+2≠n+1∧n+3≠n∧n+3≠n+1∧n≠n+1:=by omega
theorem le5 (n c:Nat) (h:c=n+4∨c=n+2∨c=n+3∨c=n∨c=n+1):n≤c:=by omega
section
variable {X:Cx}
def iZip (K:W.Frag) (ta:TA):TI:=fun σ H R=>ta σ H fun vs H1=>∃ a b xs ys,vs = [.ref a,.ref b]∧SqL K H1 a xs∧SqL K H1 b ys∧R (Itz K a b) H1
theorem pi_zip {es:List Expr} {k:Nat} {tp p pos:Pos} {a b:Expr} {ta:TA} (hg:Gl X "zip") (hm:X.mg "zip" = none) (ha:PA X [a,b] ta) (hs:starEach [a,b] X.env = [(false,eval a X.env),(false,eval b X.env)]:=by rfl) (hs2:starEach [b] X.env = [(false,eval b X.env)]:=by rfl) :
 PI X (.Tuple es k tp) (.Call (.Name "zip" p) [a,b] [] pos) (iZip X.K ta):=by
 intro pins s σ H R I h
 refine Call_ (cQ I hg hm boot_zip (PyProof.Rows.callWith_type1 (thn (ha pos pins s σ H _ I h) fun us s1 q1=>?_) (by rw [hs,hs2]) (by rw [hs2];rfl)))
 obtain ⟨vs,H1,I1,r1,l1,l2,xs,ys,e,hx,hy,q⟩:=q1
 subst e
 obtain ⟨u,w',e,ru,rw'⟩:=aV.two r1
 subst e
 cases ru;cases rw'
 obtain ⟨i1,v1,p1,z1⟩:=I1.list hx
 obtain ⟨i2,v2,p2,z2⟩:=I1.list hy
 refine call_zip_2 p1.isList p2.isList fun h' hz hTI hTO g1 g2 hsz kp=>wpAny_pyIter_zip hz ?_
 have I2:Inv X pins σ H1 { s1 with heap:=h' }:=I1.kept (t':=s1.toks) kp
 refine ⟨s1.heap.objs.size+4,[s1.heap.objs.size+4,s1.heap.objs.size+2,s1.heap.objs.size+3,s1.heap.objs.size,s1.heap.objs.size+1],_,Itz X.K l1 l2,H1,rfl,I2,turn_zip l1 l2 _ _ _ _ _ (apart5 _),⟨hz,hTI,⟨_,_,hTO⟩,g1,g2⟩,fun c hc=>?_,q⟩
 have hc':s1.heap.objs.size≤c:=le5 _ _ (by simpa using hc)
 exact I1.fpOk hc' (I1.hok.fresh hc')
end
end L2.Bw
end
section
namespace L2.Bw
open PySem PySem.Spec PyProof.Rows
def dm:List Str→List Value→Bool
 | [],[]=>true
 | x :: r,v :: q=>(match v with | .str y _=>y == x | _=>false) && dm r q
 | _,_=>false
theorem fF:∀ {ss:List Str} {us:List Value},dm ss us=true→aV (ss.map V.str) us
 | [],[],_=>.nil
 | x :: r,v :: q,h=>by
   unfold dm at h
   have h':=Bool.and_eq_true_iff.mp h
   refine .cons ?_ (fF h'.2)
   have h1:=h'.1
   cases v with
   | str y t=>exact ⟨t,by rw [show y=x by simpa using h1]⟩
   | _=>exact absurd h1 (by simp)
 | [],_ :: _,h=>by simp [dm] at h
 | _ :: _,[],h=>by simp [dm] at h
def gE (K:W.Frag) (ss:List Str) (v:Value):Bool:=match v with
 | .ref b=>(match K.lookup b with
   | some o=>o.cls == .type "tuple" && (match o.data with | .seq its _=>decide (its.size≤1000) && dm ss its.toList | _=>false)
   | none=>false)
 | _=>false
def IsT (K:W.Frag) (ss:List Str) (v:Value):Prop:=∃ b,v = .ref b∧∀ H:Hp,SqT K H b (ss.map V.str)
theorem isT_of {K:W.Frag} (ss:List Str) (v:Value) (h:gE K ss v=true):IsT K ss v:=by
 unfold gE at h
 cases v with
 | ref b=>
   refine ⟨b,rfl,fun H=>.inr ?_⟩
   cases e:K.lookup b with
   | none=>simp only [e] at h;cases h
   | some o=>
     simp only [e] at h
     rw [Bool.and_eq_true_iff] at h
     cases d:o.data with
     | seq its n=>
       simp only [d] at h
       rw [Bool.and_eq_true_iff] at h
       exact ⟨o,its,n,rfl,by simpa using h.1,d,Nat.le_trans (of_decide_eq_true h.2.1) (Nat.le_of_lt (gh (Nat.le_refl _))),fF h.2.2⟩
     | _=>simp [d] at h
 | _=>simp at h
theorem jV {prog:Program} {w:World} {A:Around} {E:Value→Shared→Prop} {s:Shared} {δ:Type} {R:δ→Value→Prop} {a:Addr} {D:List (Str×δ)} {z:Str} {tz:Tok} {d:δ} {Q:Option Value→Shared→Prop}
 (T:KTD.TabOf R s.heap a D) (hat:KTD.datumAt z D=some d) (h:∀ v,R d v→Q (some v) { s with toks:=s.toks+1 }):wpAny (model prog w) A (dictGet a (.str z tz)) Q E s:=by
 obtain ⟨_,o,es,ep,ho,_,hd,hr⟩:=T
 obtain ⟨v,hv,hfl⟩:=hr.find_some hat
 have all:(es.all fun e=>isExactStrKey e.key)=true:=by
  obtain ⟨l⟩:=es
  simpa using hr.exact
 have hq:Q (findBy (fun k v=>v.isStr k) es z) { s with toks:=s.toks+1 }:=by
  rw [show findBy (fun k v=>v.isStr k) es z=some v by obtain ⟨l⟩:=es;simpa [findBy] using hv]
  exact h v hfl
 rw [findBy_of_findIdx?] at hq
 unfold dictGet
 refine wpAny_holding ?_
 refine wpAny_bind (wpAny_pyHash_str (wpAny_bind (KTD.kt_dictFind_strs (s:={ s with toks:=s.toks+1 }) ho hd all ?_)))
 cases hi:es.findIdx? fun e=>e.key.isStr z with
 | none=>
   rw [hi] at hq
   exact wpAny_pure hq
 | some i=>
   rw [hi] at hq
   exact wpAny_bind (wpAny_dictEntries (s:={ s with toks:=s.toks+1 }) ho hd (wpAny_pure hq))
section
variable {X:Cx}
def rTab (K:W.Frag) (a:Addr) (D:List (Str×List Str)):R2:=fun x y H Q=>x = .ref a∧∃ z ss,y = .str z∧KTD.datumAt z D=some ss∧∀ c,SqT K H c (ss.map V.str)→Q (.ref c) H
theorem pe_tab {x:Str} {p pos:Pos} {b:Expr} {tb:TE} {a:Addr} {D:List (Str×List Str)} (hg:Gl X x) (hm:X.mg x=some (.ref a)) (hK:KTD.tabLook (gE X.K) (fun b=>X.K.lookup b) a D=true) (hb:PE X b tb) (hs:gN b)
 (hd:(x == ("__debug__":Str))=false:=by decide) (hl:∀ r,letTemporaryGo (.Name x p) (.ref a) r=pure ():=by intro _;rfl):PE X (.Subscript (.Name x p) b pos) (tOp (rTab X.K a D) (tC (.ref a)) tb):=by
 intro pins s σ H Q I h
 refine Subscript_ (binT (fm hg hm (v:=.ref a) rfl hd) hb I h fun v u s2 x' y H2 I2 rx ry q=>?_)
 obtain ⟨e,z,ss,e',hat,q⟩:=q
 subst e e'
 cases rx
 obtain ⟨tz,e⟩:=ry
 subst e
 have T:KTD.TabOf (IsT X.K) s2.heap a D:=KTD.tab_of_look isT_of (fun b o e=>I2.kIn b o e) hK
 have ty:s2.TypeIs (.ref a) "dict":=by obtain ⟨_,o,_,_,ho,hc,_⟩:=T;exact ⟨o,ho,hc.1⟩
 refine subscriptTail_builtin ty slot_dict_getitem.lookup ?_ (hs _ _) hl
 unfold getItem
 refine wpAny_holding ?_
 refine wpAny_bind (wpAny_sequenceKey ty (by decide) ?_)
 refine wpAny_bind (wpAny_callSpecial?_slot (name:=Str.ofString "__getitem__") ty slot_dict_getitem (wpAny_call_entry slot_dict_getitem ty entry_dict_getitem ?_ (args_dict_getitem _ _)))
 show wpAny _ _ (dictGet a (.str z tz) >>= _) _ _ s2
 refine wpAny_bind (jV T hat fun v hv=>wpAny_pure ⟨v,rfl,wpAny_pure ?_⟩)
 obtain ⟨c,e,hc⟩:=hv
 subst e
 exact ⟨.ref c,H2,I2.tok _,rfl,q c (hc H2)⟩
end
end L2.Bw
end
section
namespace L2.Bw
open PySem PySem.Spec PyProof.Rows
theorem init_kw {T newId:String} {me:Value} {more:List Value} {kws:List (Str×Value)} (a1:typeLookup (.type T) "__init__" = pure (some (.builtin "object.__init__"))) (a2:Bind.madeBy (.type T)=pure (some newId))
 (a3:(some newId != some "object.__new__")=true) (a4:more≠[]):Meets (Builtin.«object.__init__» ⟨me :: more,kws⟩) (fun _ R s=>s.TypeIs me T∧R (.ok (.ret .none)) s):=by
 refine Meets.of_wp fun prog w A R s q=>?_
 obtain ⟨ty,q⟩:=q
 cases more with
 | nil=>exact absurd rfl a4
 | cons b more=>
   repeat (any_goals (first | assumption | wp_step))
   exact ⟨_,rfl,q⟩
section
variable {prog:Program} {w:World} {A:Around} {E:Value→Shared→Prop} {s:Shared}
theorem kF {T newId:String} {Bn:Builtin} {args:List Value} {kws:List (Str×Value)} {S:PySem.Spec} {Q Q1:Value→Shared→Prop} (ft:TypeCalled T newId "object.__init__") (ne:(some newId != some "object.__new__")=true) (na:args≠[])
 (c1:checkTypeCall T ⟨args,kws⟩=pure ()) (c2:checkBuiltinCall newId ⟨.type T :: args,kws⟩=pure ()) (e1:entryFor table newId=some Bn) (g:Meets (Bn ⟨.type T :: args,kws⟩) S) (h:S A.in1 (wants Q1 E) s)
 (hn:∀ obj s1,Q1 obj s1→s1.TypeIs obj T∧argsOk "object.__init__" ⟨obj :: args,kws⟩∧Q obj s1):wpAny (model prog w) A (call (.type T) args kws) Q E s:=by
 obtain ⟨c,tl,m1⟩:=ft.mro
 have m2:=ft.made
 have m3:=ft.sub
 refine wpAny_call (codeAny_of_tree ?_)
 show wpAny _ _ (callAny (.type T) _) _ _ _
 refine wpAny_pure ⟨Code.quiet_builtin _ (by decide +kernel),codeAny_builtin F.entry_type_call ?_⟩
 rw [Around.under_plain (weight_type_call_type T args kws) (units_type_call_type T args kws)]
 have m4:=ft.notType
 have m5:=ft.canCreate
 repeat (any_goals (first | assumption | wp_step))
 refine codeAny_mono (codeAny_call_builtin ft.plain e1 (wpAny_of_eq c2 (g prog w A.in1 _ s h))) fun r s1 q1=>?_
 cases r with
 | error e=>exact q1
 | ok fl=>
   cases fl with
   | ret obj=>
     obtain ⟨ty,ok,qq⟩:=hn _ _ q1
     have m6:=ft.init.lookup
     have m7:=ft.init.bind obj
     repeat (any_goals (first | assumption | wp_step))
     refine codeAny_mono (codeAny_call_builtin ft.init.plain F.entry_object_init (ft.init.check _ _ _ _ _ _ _ _ ty ok (init_kw m6 m2 ne na prog w A.in1 (wants (fun r s2=>r = .none∧Q obj s2) E) s1 ⟨ty,rfl,qq⟩))) fun r2 s2 q2=>?_
     cases r2 with
     | error e=>exact q2
     | ok f2=>
       cases f2 with
       | ret r=>
         obtain ⟨e,q3⟩:=q2
         subst e
         repeat (any_goals (first | assumption | wp_step))
       | _=>exact q2.elim
   | _=>exact q1.elim
theorem enum_new (t:Addr) (n:Int) (tk:Tok) (hn:Builtin.SmallTypes.fitsIndex n=true) (items:Array Value) :
 Meets (Builtin.«enumerate.__new__» ⟨[.type "enumerate",.ref t],[("start",.int n tk)]⟩) (fun _ R s=>s.heap.IsTuple t items ∧
  R (.ok (.ret (.ref (s.heap.push { cls:=.type "tuple_iterator",data:=.fields #[.ref t,.int 0 0] }).objs.size)))
    { s with heap:=(s.heap.push { cls:=.type "tuple_iterator",data:=.fields #[.ref t,.int 0 0] }).push { cls:=.type "enumerate",data:=.fields #[.none,.bool false,.ref s.heap.objs.size,rawInt n,.none,.none] } }):=
 .of_wp fun prog w A R s h=>by
  obtain ⟨hp,g,d,tk',os⟩:=s
  obtain ⟨ht,h⟩:=h
  have sub:=sub_enumerate
  wp_walk
  refine wpAny_stack_any fun st=>wpAny_pure ?_
  split
  ·rename_i c _ _ _ _ _
   cases (c == Value.type "enumerate")
   ·wp_walk using wpAny_pyIter_tuple ht
    exact ⟨_,rfl,h⟩
   ·wp_walk using wpAny_pyIter_tuple ht
    exact ⟨_,rfl,h⟩
  ·wp_walk using wpAny_pyIter_tuple ht
   exact ⟨_,rfl,h⟩
theorem next_tup {it t:Addr} {i:Nat} {xs:Array Value} {x:Value} {Q:Value→Shared→Prop} (g:s.heap.IsTupleIter it t i) (gt:s.heap.IsTuple t xs) (gx:xs[i]? = some x)
 (q:∀ h1,h1.IsTupleIter it t (i+1)→Heap.SameBut it s.heap h1→Q x { s with heap:=h1 }):wpAny (model prog w) A (Builtin.SmallTypes.nextOf (.ref it)) Q E s:=by
 obtain ⟨o,eo,co,dd⟩:=id g
 obtain ⟨ot,et,_,nt,dt⟩:=gt
 unfold Builtin.SmallTypes.nextOf
 refine wpAny_bind (wpAny_callSpecial?_slot (name:=Str.ofString "__next__") g.typeIs F.slot_tuple_iterator_next (wpAny_call_entry F.slot_tuple_iterator_next g.typeIs F.entry_tuple_iterator_next ?_ (F.args_tuple_iterator_next_1 _)))
 show wpAny _ _ (field (.ref it) 0 >>= fun _=>_) _ _ s
 refine wpAny_bind (wpAny_field eo dd (x:=.ref t) rfl ?_)
 show wpAny _ _ (if (Value.ref t == Value.none)=true then _ else _) _ _ s
 have nn:¬ ((Value.ref t == Value.none)=true):=Bool.false_ne_true
 rw [if_neg nn]
 show wpAny _ _ (field (.ref it) 1 >>= fun _=>_) _ _ s
 refine wpAny_bind (wpAny_field eo dd (x:=.int i 0) rfl ?_)
 show wpAny _ _ (seqItems? (.ref t) >>= fun _=>_) _ _ s
 refine wpAny_bind (wpAny_seqItems et dt ?_)
 simp only [Int.toNat_natCast,gx]
 refine wpAny_bind (wpAny_setField eo dd (by simp) (wpAny_pure ⟨x,rfl,wpAny_pure (q _ ⟨_,Heap.get?_update_self _ eo (Obj.isFreed_of_fields (Obj.data_mapFields dd _)),(Obj.cls_mapFields ..).trans co,?_⟩ (Heap.SameBut.update ..))⟩))
 rw [Obj.data_mapFields dd]
 simp [rawInt]
theorem enum_item {e it t:Addr} {i:Nat} {j:Int} {xs:Array Value} {x old:Value} {Q:Option Value→Shared→Prop} (ge:IsEnum s.heap e it j old) (g:s.heap.IsTupleIter it t i) (gt:s.heap.IsTuple t xs) (gx:xs[i]? = some x) (ne:e≠it)
 (q:∀ h1 tk,IsEnumOut h1 e it (j+1) x s.heap.objs.size→h1.IsTupleIter it t (i+1)→h1.get? s.heap.objs.size=some { cls:=.type "tuple",data:=.seq #[.int j tk,x] } →
  (∀ b o,b≠e→b≠it→s.heap.get? b=some o→h1.get? b=some o)→Q (some (.ref s.heap.objs.size)) { s with heap:=h1,toks:=tk+1 }):wpAny (model prog w) A (pyNext (.ref e)) Q E s:=by
 have ty:s.TypeIs (.ref e) "enumerate":=⟨_,ge,rfl⟩
 unfold pyNext
 refine wpAny_bind (wpAny_attempt (wpAny_callSpecial?_slot (name:=Str.ofString "__next__") ty F.slot_enumerate_next (wpAny_call_entry F.slot_enumerate_next ty F.entry_enumerate_next ?_ (F.args_enumerate_next_1 _))))
 obtain ⟨hp,gs,d,tk0,os⟩:=s
 show wpAny _ _ (field (.ref e) 2 >>= fun _=>_) _ _ _
 refine wpAny_bind (wpAny_field ge rfl (x:=.ref it) rfl ?_)
 refine wpAny_bind (next_tup g gt gx fun h1 g1 s1=>?_)
 replace s1:Heap.SameBut it hp h1:=s1
 have e1:IsEnum h1 e it j old:=(s1.2 e ne).trans ge
 show wpAny _ _ (field (.ref e) 3 >>= fun _=>_) _ _ ⟨h1,gs,d,tk0,os⟩
 refine wpAny_bind (wpAny_field e1 rfl (x:=rawInt j) rfl ?_)
 show wpAny _ _ (field (.ref e) 4 >>= fun _=>_) _ _ ⟨h1,gs,d,tk0,os⟩
 refine wpAny_bind (wpAny_field e1 rfl (x:=.none) rfl ?_)
 show wpAny _ _ (mkInt j >>= fun _=>_) _ _ ⟨h1,gs,d,tk0,os⟩
 refine wpAny_bind (wpAny_mkInt ?_)
 show wpAny _ _ (setField (.ref e) 3 (rawInt (j+1)) >>= fun _=>_) _ _ ⟨h1,gs,d,tk0+1,os⟩
 refine wpAny_bind (wpAny_setField_rec e1 (by simp) fun h2 e2 s2=>?_)
 replace s2:Heap.SameBut e h1 h2:=s2
 replace e2:IsEnum h2 e it (j+1) old:=e2
 show wpAny _ _ (setField (.ref e) 4 .none >>= fun _=>_) _ _ ⟨h2,gs,d,tk0+1,os⟩
 refine wpAny_bind (wpAny_setField_rec e2 (by simp) fun h3 e3 s3=>?_)
 replace s3:Heap.SameBut e h2 h3:=s3
 replace e3:IsEnum h3 e it (j+1) old:=e3
 show wpAny _ _ (newTuple [.int j tk0,x] >>= fun _=>_) _ _ ⟨h3,gs,d,tk0+1,os⟩
 refine wpAny_bind (wpAny_newTuple ?_)
 have e4:IsEnum (h3.push { cls:=.type "tuple",data:=.seq #[.int j tk0,x] }) e it (j+1) old:=Heap.get?_push_of_some _ e3
 generalize hh4:h3.push { cls:=.type "tuple",data:=.seq #[.int j tk0,x] }=h4 at e4
 have sz:h3.objs.size=hp.objs.size:=by rw [s3.1,s2.1,s1.1]
 have lt:e<hp.objs.size:=Heap.lt_size ge
 have t4:h4.get? hp.objs.size=some { cls:=.type "tuple",data:=.seq #[.int j tk0,x] }:=by rw [← hh4,← sz];exact Heap.get?_push_size _ rfl
 have k4:∀ b o,b≠e→b≠it→hp.get? b=some o→h4.get? b=some o:=fun b o n1 n2 hb=>by
  rw [← hh4];exact Heap.get?_push_of_some _ (s3.extBut b o n1 (s2.extBut b o n1 (s1.extBut b o n2 hb)))
 have g4:h4.IsTupleIter it t (i+1):=g1.at fun o y=>by
  rw [← hh4];exact Heap.get?_push_of_some _ (s3.extBut it o (Ne.symm ne) (s2.extBut it o (Ne.symm ne) y))
 show wpAny _ _ (Builtin.SmallTypes.ownedTupleIsFree (.ref e) >>= fun _=>_) _ _ ⟨h4,gs,d,tk0+1,os⟩
 rw [sz]
 clear hh4 e3 s3 e2 s2 e1 s1 g1 sz h3 h2 h1
 refine wpAny_bind ?_
 unfold Builtin.SmallTypes.ownedTupleIsFree
 refine wpAny_bind (wpAny_field e4 rfl (x:=.none) rfl (wpAny_pure ?_))
 simp only [if_true]
 refine wpAny_bind (wpAny_rule (wpAny_bind (wpAny_field e4 rfl (x:=old) rfl ?_)))
 refine wpAny_bind (wpAny_setField_rec e4 (by simp) fun h5 e5 s5=>?_)
 replace s5:Heap.SameBut e h4 h5:=s5
 replace e5:IsEnum h5 e it (j+1) x:=e5
 show wpAny _ _ (Builtin.SmallTypes.ownedTupleHandOut (.ref e) (.ref hp.objs.size) >>= fun _=>_) _ _ ⟨h5,gs,d,tk0+1,os⟩
 refine wpAny_bind ?_
 unfold Builtin.SmallTypes.ownedTupleHandOut
 refine wpAny_bind (wpAny_setField_rec e5 (by simp) fun h6 e6 s6=>?_)
 replace s6:Heap.SameBut e h5 h6:=s6
 replace e6:IsEnumOut h6 e it (j+1) x hp.objs.size:=e6
 refine wpAny_setField_rec e6 (by simp) fun h7 e7 s7=>?_
 replace s7:Heap.SameBut e h6 h7:=s7
 replace e7:IsEnumOut h7 e it (j+1) x hp.objs.size:=e7
 have up:∀ b o,b≠e→h4.get? b=some o→h7.get? b=some o:=fun b o n1 y=>s7.extBut b o n1 (s6.extBut b o n1 (s5.extBut b o n1 y))
 refine wpAny_bind (wpAny_letGo (wpAny_pure ⟨_,rfl,wpAny_pure ?_⟩))
 exact q h7 tk0 e7 (g4.at fun o y=>up it o (Ne.symm ne) y) (up _ _ (Nat.ne_of_gt lt) t4) fun b o n1 n2 y=>up b o n1 (k4 b o n1 n2 y)
theorem j4 {it t:Addr} {i:Nat} {xs:Array Value} {Q:Value→Shared→Prop} (hh:A.handled=none) (g:s.heap.IsTupleIter it t i) (gt:s.heap.IsTuple t xs) (gx:xs[i]? = none)
 (q:∀ h1 x,Heap.ExtBut it s.heap h1→(∃ o,h1.get? x=some o∧o.cls = .type "StopIteration")→E (.ref x) { s with heap:=h1 }):wpAny (model prog w) A (Builtin.SmallTypes.nextOf (.ref it)) Q E s:=by
 obtain ⟨o,eo,co,dd⟩:=id g
 obtain ⟨ot,et,_,nt,dt⟩:=gt
 unfold Builtin.SmallTypes.nextOf
 refine wpAny_bind (wpAny_callSpecial?_slot (name:=Str.ofString "__next__") g.typeIs F.slot_tuple_iterator_next (wpAny_call_entry F.slot_tuple_iterator_next g.typeIs F.entry_tuple_iterator_next ?_ (F.args_tuple_iterator_next_1 _)))
 show wpAny _ _ (field (.ref it) 0 >>= fun _=>_) _ _ s
 refine wpAny_bind (wpAny_field eo dd (x:=.ref t) rfl ?_)
 show wpAny _ _ (if (Value.ref t == Value.none)=true then _ else _) _ _ s
 have nn:¬ ((Value.ref t == Value.none)=true):=Bool.false_ne_true
 rw [if_neg nn]
 show wpAny _ _ (field (.ref it) 1 >>= fun _=>_) _ _ s
 refine wpAny_bind (wpAny_field eo dd (x:=.int i 0) rfl ?_)
 show wpAny _ _ (seqItems? (.ref t) >>= fun _=>_) _ _ s
 refine wpAny_bind (wpAny_seqItems et dt ?_)
 simp only [Int.toNat_natCast,gx]
 refine wpAny_bind (wpAny_rule (wpAny_bind (wpAny_setField eo dd (by simp) ?_)))
 show wpAny _ _ (newExc (.type "StopIteration") [] >>= fun _=>_) _ _ _
 refine wpAny_bind ?_
 simp only [newExc,newTuple]
 refine wpAny_bind (wpAny_newObj_type ?_ (by size_fits))
 refine wpAny_bind (m:=firstArgMember _ _) (wpAny_of_eq (a:=Value.none) (by first | rfl | (simp only [firstArgMember];rfl)) (wpAny_newObj_type ?_ (by size_fits)))
 simp only [raiseNew]
 refine wpAny_bind (wpAny_handled ?_)
 first | rw [show A.in1.handled=none from hh] | rw [hh]
 exact wpAny_bind (wpAny_pure (wpAny_throw (q _ _ (((Heap.SameBut.update ..).extBut.push _).push _) ⟨_,Heap.get?_push_size _ rfl,rfl⟩)))
theorem enum_end {e it t:Addr} {i:Nat} {j:Int} {xs:Array Value} {old:Value} {Q:Option Value→Shared→Prop} (hh:A.handled=none) (ge:IsEnum s.heap e it j old) (g:s.heap.IsTupleIter it t i) (gt:s.heap.IsTuple t xs) (gx:xs[i]? = none)
 (q:∀ h1,Heap.ExtBut it s.heap h1→Q none { s with heap:=h1 }):wpAny (model prog w) A (pyNext (.ref e)) Q E s:=by
 have ty:s.TypeIs (.ref e) "enumerate":=⟨_,ge,rfl⟩
 unfold pyNext
 refine wpAny_bind (wpAny_attempt (wpAny_callSpecial?_slot (name:=Str.ofString "__next__") ty F.slot_enumerate_next (wpAny_call_entry F.slot_enumerate_next ty F.entry_enumerate_next ?_ (F.args_enumerate_next_1 _))))
 show wpAny _ _ (field (.ref e) 2 >>= fun _=>_) _ _ _
 refine wpAny_bind (wpAny_field ge rfl (x:=.ref it) rfl ?_)
 refine wpAny_bind (j4 hh g gt gx fun h1 x k1 k2=>?_)
 obtain ⟨o,ho,hc⟩:=k2
 exact wpAny_bind (wpAny_isInstance (T:="StopIteration") (b:=true) ⟨o,ho,hc⟩ isSubtype_stop (wpAny_pure (q _ k1)))
end
def Ite (K:W.Frag) (a:Addr) (lo:Int):It where
 go:=fun i H=>∃ xs x,SqT K H a xs∧xs[i]? = some x
 yld:=fun i H v H'=>∃ T x,v = .ref T∧H T=none∧H'=upd H T (.tup [.int (lo+i),x])∧∀ xs,SqT K H a xs→xs[i]? = some x
 stop:=fun i H=>∃ xs,SqT K H a xs∧xs.length≤i
theorem turn_enum {P:Program} {w:World} {K:W.Frag} {es:List Expr} {k:Nat} {tp:Pos} (a e it:Addr) (lo:Int) (ne:e≠it) :
 iP P w K (.Tuple es k tp) (Ite K a lo) [e,it] e (fun i h=>(∃ old,IsEnum h e it (lo+i) old)∧h.IsTupleIter it a i) where
 mem:=by simp
 obj:=fun i h st c hc=>by
  obtain ⟨⟨old,h1⟩,⟨o2,e2,c2,d2⟩⟩:=st
  have hc':c=e∨c=it:=by simpa using hc
  rcases hc' with rfl | rfl
  ·exact ⟨_,h1,fun v q=>by cases (show Data.fields _=Data.cell v from q)⟩
  ·exact ⟨o2,e2,fun v q=>by rw [d2] at q;cases q⟩
 keep:=fun i h h' st kp=>by
  obtain ⟨⟨old,h1⟩,h2⟩:=st
  exact ⟨⟨old,kp e (by simp) _ h1⟩,h2.at fun o q=>kp it (by simp) o q⟩
 item:=by
  intro X hP hw hK hc i pins s σ H E I hf st hg
  subst hP hw hK
  obtain ⟨xs,x,hq,hx⟩:=hg
  obtain ⟨its,rv,p,hz⟩:=I.tuple hq
  obtain ⟨u,hu,ru⟩:=rv.get hx
  obtain ⟨⟨old,h1⟩,h2⟩:=st
  refine enum_item h1 h2 (show s.heap.IsTuple a its.toArray from p) (x:=u) (by simpa using hu) ne fun h' tk ho hi ht kp=>⟨_,rfl,?_⟩
  refine wpAny_letOwnedTupleGo_enum ho fun h'' he' hs'=>?_
  replace hs':Heap.SameBut e h' h'':=hs'
  replace he':IsEnum h'' e it (lo+i+1) u:=he'
  have zT:=(hs'.2 s.heap.objs.size (Nat.ne_of_gt (Heap.lt_size h1))).trans ht
  have kp':∀ b o,b ∉ [e,it]→s.heap.get? b=some o→h''.get? b=some o:=fun b o hb q=>(hs'.2 b (fun z=>hb (z ▸ List.mem_cons_self))).trans (kp b o (fun z=>hb (z ▸ List.mem_cons_self)) (fun z=>hb (z ▸ List.mem_cons_of_mem _ List.mem_cons_self)) q)
  have hsz:e<s.heap.objs.size:=Heap.lt_size h1
  have hiz:it<s.heap.objs.size:=by obtain ⟨o,q,_⟩:=h2;exact Heap.lt_size q
  have htT:IsTup h'' s.heap.objs.size #[.int (lo+i) tk,u]:=⟨_,zT,rfl,0,rfl⟩
  have hTn:H s.heap.objs.size=none:=I.hok.fresh (Nat.le_refl _)
  have I2:Inv X pins σ (upd H s.heap.objs.size (.tup [.int (lo+i),x])) { s with heap:=h'',toks:=tk+1 }:=
   g9 (ch:=[e,it]) I kp' hf (Nat.le_refl _) ⟨[.int (lo+i) tk,u],.cons ⟨tk,rfl⟩ (.cons ru .nil),htT⟩ (by show 2≤sizeLine;decide)
  refine ⟨.ref s.heap.objs.size,_,I2,rfl,⟨_,x,rfl,hTn,rfl,fun ys hy=>by rw [I.tuple_inj hy hq];exact hx⟩,⟨⟨u,?_⟩,hi.at fun o q=>(hs'.2 it (Ne.symm ne)).trans q⟩,fun b hb=>?_⟩
  ·have z:lo+((i+1:Nat):Int)=lo+(i:Int)+1:=by omega
   rw [z];exact he'
  ·have hb':b=e∨b=it:=by simpa using hb
   have hne:b≠s.heap.objs.size:=by
    rcases hb' with z | z
    ·rw [z];exact Nat.ne_of_lt hsz
    ·rw [z];exact Nat.ne_of_lt hiz
   rw [au hne]
   exact (hf b hb).1
 done:=by
  intro X hP hw hK hc i pins s σ H E I hf st hg
  subst hP hw hK
  obtain ⟨xs,hq,hx⟩:=hg
  obtain ⟨its,rv,p,hz⟩:=I.tuple hq
  obtain ⟨⟨old,h1⟩,h2⟩:=st
  have hl:=rv.length
  refine enum_end (I.ok.hd hc) h1 h2 (show s.heap.IsTuple a its.toArray from p) (by simp;omega) fun h' kp=>⟨rfl,?_⟩
  exact g7 (ch:=[e,it]) (t':=s.toks) I (fun b o hb q=>kp b o (fun z=>hb (z ▸ List.mem_cons_of_mem _ List.mem_cons_self)) q) hf
 self:=fun _ _ _ _ _ st h=>by
  obtain ⟨⟨old,h1⟩,_⟩:=st
  exact wpAny_pyIter_enum h1 h
section
variable {X:Cx}
def iEnum (K:W.Frag) (ta tk:TA):TI:=fun σ H R=>ta σ H fun vs H1=>tk σ H1 fun zs H2=>∃ a xs n,vs = [.ref a]∧zs = [.int n]∧Builtin.SmallTypes.fitsIndex n=true∧SqT K H2 a xs∧R (Ite K a n) H2
theorem callTy_kw {M:Model} {A:Around} {E:Value→Shared→Prop} {s:Shared} {env:Env} {pos:Pos} {T:String} {e:Expr} {rest:List Expr} {kws:List Keyword} {Q:Value→Shared→Prop}
 (h:wpAny M A (spliced (backTo pos (starEach (e :: rest) env))) (fun vs s1=>wpAny M A (evalAll ((backToKw pos (keywordEach kws env)).map (·.2))) (fun ks s2=>wpAny M A (call (.type T) vs (((backToKw pos (keywordEach kws env)).filterMap (·.1)).zip ks)) Q E s2) E s1) E s)
 (he:starEach (e :: rest) env=(false,eval e env) :: starEach rest env) (h1:(backTo pos (starEach (e :: rest) env)).any (·.1)=false) (h2:(backToKw pos (keywordEach kws env)).all (·.1.isSome)=true) (h3:(backToKw pos (keywordEach kws env)).any (·.1.isNone)=false) :
 wpAny M A (callWith pos (.type T) [] (backTo pos (starEach (e :: rest) env)) (backToKw pos (keywordEach kws env))) Q E s:=by
 have k:wpAny M A (evalArgs (.type T) true (backTo pos (starEach (e :: rest) env)) (backToKw pos (keywordEach kws env))) (fun a s1=>wpAny M A (call (.type T) ([] ++ a.pos) a.kw) Q E s1) E s:=by
  rw [he] at h ⊢
  exact evalArgs_kwB h2 h
 unfold callWith
 refine wpAny_bind (wpAny_holding (thn k fun a s1 q=>wpAny_bind (wpAny_standAt ?_)))
 simp only [h1,h3,Bool.or_false]
 exact wpAny_bind (wpAny_pure (wpAny_bind (thn q fun r s2 q2=>wpAny_bind (wpAny_holding (wpAny_point (wpAny_pure q2))))))
theorem enum_call {prog:Program} {w:World} {A:Around} {E:Value→Shared→Prop} {s:Shared} {t:Addr} {xs:Array Value} {n:Int} {tk:Tok} {Q:Value→Shared→Prop} (hn:Builtin.SmallTypes.fitsIndex n=true) (ht:s.heap.IsTuple t xs)
 (h:Q (.ref (s.heap.push { cls:=.type "tuple_iterator",data:=.fields #[.ref t,.int 0 0] }).objs.size)
  { s with heap:=(s.heap.push { cls:=.type "tuple_iterator",data:=.fields #[.ref t,.int 0 0] }).push { cls:=.type "enumerate",data:=.fields #[.none,.bool false,.ref s.heap.objs.size,rawInt n,.none,.none] } }) :
 wpAny (model prog w) A (call (.type "enumerate") [.ref t] [("start",.int n tk)]) Q E s:=by
 refine kF (Q1:=fun obj s1=>obj = .ref (s.heap.push { cls:=.type "tuple_iterator",data:=.fields #[.ref t,.int 0 0] }).objs.size∧s1={ s with heap:=(s.heap.push { cls:=.type "tuple_iterator",data:=.fields #[.ref t,.int 0 0] }).push { cls:=.type "enumerate",data:=.fields #[.none,.bool false,.ref s.heap.objs.size,rawInt n,.none,.none] } })
  F.called_enumerate (by decide) (by simp) (by kernel_rfl) (by kernel_rfl) F.entry_enumerate_new (enum_new t n tk hn xs) ⟨ht,rfl,rfl⟩ fun obj s1 q=>?_
 obtain ⟨e,e'⟩:=q
 subst e e'
 exact ⟨⟨_,Heap.get?_push_size _ rfl,rfl⟩,by first | (simp [argsOk];done) | (unfold argsOk;kernel_rfl) | (unfold argsOk;decide +kernel) | kernel_rfl,h⟩
theorem pi_enum {es:List Expr} {k:Nat} {tp p pos kp:Pos} {a b:Expr} {ta tk:TA} (hg:Gl X "enumerate") (hm:X.mg "enumerate" = none) (ha:PA X [a] ta) (hk:PK X [⟨some "start",b,kp⟩] tk) (hs:starEach [a] X.env = [(false,eval a X.env)]:=by rfl) :
 PI X (.Tuple es k tp) (.Call (.Name "enumerate" p) [a] [⟨some "start",b,kp⟩] pos) (iEnum X.K ta tk):=by
 intro pins s σ H R I h
 refine wpAny_Call_Name_kw (cQ I hg hm boot_enumerate ?_)
 refine callTy_kw (thn (ha pos pins s σ H _ I h) fun us s1 q1=>?_) (by rw [hs];rfl) (by rw [hs];rfl) rfl rfl
 obtain ⟨vs,H1,I1,r1,q1⟩:=q1
 refine thn (hk pos pins s1 σ H1 _ I1 q1) fun ws s2 q2=>?_
 obtain ⟨zs,H2,I2,r2,l,xs,n,e,e',hn,hx,q⟩:=q2
 subst e e'
 obtain ⟨u,e,ru⟩:=aV.one r1
 obtain ⟨u2,e',ru2⟩:=aV.one r2
 subst e e'
 cases ru
 obtain ⟨tz,e⟩:=ru2
 subst e
 obtain ⟨its,rv,p1,z1⟩:=I2.tuple hx
 refine enum_call hn (show s2.heap.IsTuple l its.toArray from p1) (wpAny_pyIter_enum (Heap.get?_push_size _ rfl) ?_)
 have hsz:(s2.heap.push { cls:=.type "tuple_iterator",data:=.fields #[.ref l,.int 0 0] }).objs.size=s2.heap.objs.size+1:=Heap.size_push ..
 rw [hsz]
 refine ⟨s2.heap.objs.size+1,[s2.heap.objs.size+1,s2.heap.objs.size],_,Ite X.K l n,H2,rfl,I2.kept (t':=s2.toks) fun b o e=>Heap.get?_push_of_some _ (Heap.get?_push_of_some _ e),turn_enum l _ _ n (Nat.succ_ne_self _),⟨⟨.none,?_⟩,⟨_,Heap.get?_push_of_some _ (Heap.get?_push_size _ rfl),rfl,rfl⟩⟩,fun c hc=>?_,q⟩
 ·have z:n+((0:Nat):Int)=n:=by omega
  rw [z,← hsz]
  exact Heap.get?_push_size _ rfl
 ·have hc':s2.heap.objs.size≤c:=by
   rcases List.mem_cons.mp hc with z | z
   ·rw [z];exact Nat.le_succ _
   ·rw [List.mem_singleton.mp z];exact Nat.le_refl _
  exact I2.fpOk hc' (I2.hok.fresh hc')
end
end L2.Bw
end
section
namespace L2.Bw
open PySem PySem.Spec PyProof.Rows
section
variable {prog:Program} {w:World} {A:Around} {R:Result→Shared→Prop} {it:Addr} {fp wr:List Addr} {n:Nat} {f:Nat→Int} {Z:Nat→Heap→Prop}
abbrev iU (f:Nat→Int):Nat→Value→Prop:=fun i v=>∃ t,v = .int (f i) t
abbrev eB (f:Nat→Int):Nat→Nat→Bool:=fun i j=>decide (f i>f j)
theorem max_go (W:Walks prog w A.in1 it fp wr n (iU f) Z) (kws:List (Str×Value)) (B:Addr) (nB:B ∉ fp) :
 ∀ (k j:Nat) (s:Shared) (u:Value) (c:Nat),n - (j+1)=k→j+1≤n→Z (j+1) s.heap→iU f (argBest (eB f) j) u→s.heap.get? B=some { cls:=.type "list",dict:=none,data:=.seq #[u,u] c,slots:=#[] } →
 (∀ v h1 tk,iU f (argBest (eB f) (n - 1)) v→(∀ b o,b ∉ wr→b≠B→s.heap.get? b=some o→h1.get? b=some o)→R (.ok (.ret v)) { s with heap:=h1,toks:=tk }) →
 codeAny (model prog w) A (.builtin "max.loop" ⟨[.ref it,.none,.ref B],kws⟩) R s:=by
 have nw:B ∉ wr:=fun h=>nB (W.sub _ h)
 have nm:(toString "max" ++ toString ".loop":String) = "max.loop":=by decide
 have cmp:CmpOf prog w A.in1 .Gt (iU f) (eB f):=CmpOf.ints_gt f fun _ _ h=>h
 intro k
 induction k with
 | zero=>
   intro j s u c hk hj hz hu hB hR
   have e:j+1=n:=by omega
   refine codeAny_builtin F.entry_max_loop ?_
   rw [Around.under_plainId F.plain_max_loop _]
   show wpAny _ A.in1 (seqItems? (.ref B) >>= fun _=>_) _ _ s
   refine wpAny_bind (wpAny_seqItems hB rfl ?_)
   show wpAny _ A.in1 (tryCatch (pyNext (.ref it)) _ >>= fun _=>_) _ _ s
   refine wpAny_bind (wpAny_tryCatch (W.done s _ _ (e ▸ hz) fun h1 tk k1=>?_))
   show wpAny _ A.in1 (updateSeq B (fun _=>#[]) >>= fun _=>_) _ _ _
   refine wpAny_bind (wpAny_updateSeq (k1 B _ nw hB) rfl (wpAny_bind (wpAny_letGo (wpAny_pure ?_))))
   exact hR u _ tk (by rw [← e];exact hu) fun b o n1 n2 q=>(Heap.get?_update_other _ _ (Ne.symm n2)).trans (k1 b o n1 q)
 | succ k ih=>
   intro j s u c hk hj hz hu hB hR
   have lt:j+1<n:=by omega
   refine codeAny_builtin F.entry_max_loop ?_
   rw [Around.under_plainId F.plain_max_loop _]
   show wpAny _ A.in1 (seqItems? (.ref B) >>= fun _=>_) _ _ s
   refine wpAny_bind (wpAny_seqItems hB rfl ?_)
   show wpAny _ A.in1 (tryCatch (pyNext (.ref it)) _ >>= fun _=>_) _ _ s
   refine wpAny_bind (wpAny_tryCatch (W.item (j+1) s _ _ lt hz fun v h1 tk hv hz1 k1=>?_))
   have hB1:=k1 B _ nw hB
   show wpAny _ A.in1 (tryCatch (holding [v,v] (richCompare .Gt v u >>= _)) _ >>= fun _=>_) _ _ _
   refine wpAny_bind (wpAny_tryCatch (wpAny_holding (wpAny_bind (cmp (j+1) (argBest (eB f) j) v u _ _ _ hv hu ?_))))
   refine wpAny_bind (wpAny_holding (wpAny_truthy_bool (wpAny_bind (wpAny_letGo (wpAny_pure ?_)))))
   cases hb:eB f (j+1) (argBest (eB f) j) with
   | true=>
     simp only [if_true]
     refine wpAny_bind (wpAny_updateSeq hB1 rfl (wpAny_bind (wpAny_letGo ?_)))
     rw [nm]
     refine wpAny_pure ⟨plainId_quiet F.plain_max_loop _,ih (j+1) _ v _ (by omega) lt (W.frame _ _ _ hz1 fun b hbf o q=>(Heap.get?_update_other _ _ (fun z:B=b=>nB (by rw [z];exact hbf))).trans q) ?_ (Heap.get?_update_self _ hB1 rfl) fun v' h2 tk2 hv' k2=>?_⟩
     ·simp only [argBest,hb,if_true];exact hv
     ·exact hR v' h2 tk2 hv' fun b o n1 n2 q=>k2 b o n1 n2 ((Heap.get?_update_other _ _ (Ne.symm n2)).trans (k1 b o n1 q))
   | false=>
     simp only [Bool.false_eq_true,if_false]
     refine wpAny_bind (wpAny_letGo ?_)
     rw [nm]
     refine wpAny_pure ⟨plainId_quiet F.plain_max_loop _,ih (j+1) _ u c (by omega) lt hz1 ?_ hB1 fun v' h2 tk2 hv' k2=>hR v' h2 tk2 hv' fun b o n1 n2 q=>k2 b o n1 n2 (k1 b o n1 q)⟩
     simp only [argBest,hb,Bool.false_eq_true,if_false];exact hu
theorem jS (f:Nat→Int):∀ k i,i≤k→f i≤f (argBest (eB f) k)
 | 0,i,h=>by cases (show i=0 by omega);exact Int.le_refl _
 | k+1,i,h=>by
   unfold argBest
   cases hb:eB f (k+1) (argBest (eB f) k) with
   | true=>
     have hb':f (k+1)>f (argBest (eB f) k):=of_decide_eq_true hb
     simp only [if_true]
     by_cases e:i=k+1
     ·rw [e];exact Int.le_refl _
     ·have:=jS f k i (by omega);omega
   | false=>
     have hb':¬ f (k+1)>f (argBest (eB f) k):=of_decide_eq_false hb
     simp only [Bool.false_eq_true,if_false]
     by_cases e:i=k+1
     ·rw [e];omega
     ·exact jS f k i (by omega)
theorem best_lt (f:Nat→Int):∀ k,argBest (eB f) k≤k
 | 0=>Nat.le_refl _
 | k+1=>by
   unfold argBest
   cases eB f (k+1) (argBest (eB f) k) with
   | true=>exact Nat.le_refl _
   | false=>exact Nat.le_trans (best_lt f k) (Nat.le_succ _)
end
def maxD (d:Int):List Int→Int
 | []=>d
 | x :: r=>r.foldl (fun a b=>if b>a then b else a) x
theorem fold_max (r:List Int):∀ x:Int,x≤r.foldl (fun a b=>if b>a then b else a) x∧(∀ y∈r,y≤r.foldl (fun a b=>if b>a then b else a) x)∧(r.foldl (fun a b=>if b>a then b else a) x=x∨r.foldl (fun a b=>if b>a then b else a) x∈r):=by
 induction r with
 | nil=>intro x;exact ⟨Int.le_refl _,fun y h=>(nomatch h),.inl rfl⟩
 | cons b r ih=>
   intro x
   have h:=ih (if b>x then b else x)
   rw [List.foldl_cons]
   obtain ⟨h1,h2,h3⟩:=h
   by_cases c:b>x
   ·rw [if_pos c] at h1 h2 h3 ⊢
    refine ⟨by omega,fun y hy=>?_,?_⟩
    ·rcases List.mem_cons.mp hy with rfl | hy
     ·exact h1
     ·exact h2 y hy
    ·rcases h3 with h3 | h3
     ·exact .inr (by rw [h3];exact List.mem_cons_self)
     ·exact .inr (List.mem_cons_of_mem _ h3)
   ·rw [if_neg c] at h1 h2 h3 ⊢
    refine ⟨h1,fun y hy=>?_,?_⟩
    ·rcases List.mem_cons.mp hy with rfl | hy
     ·omega
     ·exact h2 y hy
    ·rcases h3 with h3 | h3
     ·exact .inl h3
     ·exact .inr (List.mem_cons_of_mem _ h3)
theorem maxD_eq {d m:Int} {ns:List Int} (ne:ns≠[]) (hm:m∈ns) (hg:∀ y∈ns,y≤m):maxD d ns=m:=by
 cases ns with
 | nil=>exact absurd rfl ne
 | cons x r=>
   obtain ⟨h1,h2,h3⟩:=fold_max r x
   have k1:maxD d (x :: r)=r.foldl (fun a b=>if b>a then b else a) x:=rfl
   rw [k1]
   have a1:r.foldl (fun a b=>if b>a then b else a) x≤m:=by
    rcases h3 with h3 | h3
    ·rw [h3];exact hg x List.mem_cons_self
    ·exact hg _ (List.mem_cons_of_mem _ h3)
   have a2:m≤r.foldl (fun a b=>if b>a then b else a) x:=by
    rcases List.mem_cons.mp hm with rfl | hm
    ·exact h1
    ·exact h2 m hm
   omega
theorem gC:∀ {us:List Value} {ns:List Int} {i:Nat} {v:Value},IntsAre us ns→us[i]? = some v→∃ t,v = .int (ns.getD i 0) t
 | _,_,_,_,.nil,e=>by simp at e
 | _,_,0,v,.cons _ t _,e=>by simp at e;subst e;exact ⟨t,by simp⟩
 | _,_,i+1,v,.cons _ _ r,e=>by
   obtain ⟨t,h⟩:=gC (i:=i) r (by simpa using e)
   exact ⟨t,by simpa using h⟩
section
variable {X:Cx}
def rMaxD (K:W.Frag):List V→List V→Hp→VK→Prop:=fun vs zs H Q=>∃ l ns d,vs = [.ref l]∧zs = [.int d]∧SqL K H l (ns.map V.int)∧Q (.int (maxD d ns)) H
def tKw (r:List V→List V→Hp→VK→Prop) (ta tk:TA):TE:=fun σ H Q=>ta σ H fun vs H1=>tk σ H1 fun zs H2=>r vs zs H2 Q
theorem max_kw {prog:Program} {w:World} {A:Around} {E:Value→Shared→Prop} {s:Shared} {l:Addr} {us:List Value} {ns:List Int} {d:Int} {td:Tok} {Q:Value→Shared→Prop} (hh:A.handled=none) (hl:s.heap.IsList l us.toArray) (hi:IntsAre us ns)
 (q:∀ t h1 tk,(∀ b o,s.heap.get? b=some o→h1.get? b=some o)→Q (.int (maxD d ns) t) { s with heap:=h1,toks:=tk }):wpAny (model prog w) A (call (.builtin "max") [.ref l] [("default",.int d td)]) Q E s:=by
 have nm:(toString "max" ++ toString ".loop":String) = "max.loop":=by decide
 have hlt:l<s.heap.objs.size:=by obtain ⟨_,e,_⟩:=hl;exact Heap.lt_size e
 refine wpAny_call (codeAny_call_builtin F.plain_max F.entry_max (wpAny_of_eq (a:=()) (by kernel_rfl) ?_))
 show wpAny _ A.in1 (Builtin.Builtins.bindParams "max" ["key","default"] 0 ⟨[],[("default",.int d td)]⟩ >>= fun _=>_) _ _ s
 refine wpAny_bind (wpAny_of_eq (a:=[none,some (.int d td)]) (by rfl) (wpAny_bind (wpAny_pure ?_)))
 refine wpAny_bind (wpAny_pyIter_list hl (wpAny_bind (wpAny_newObj_type ?_)))
 rw [nm]
 let it:Addr:=s.heap.objs.size
 generalize hh1:s.heap.push { cls:=.type "list_iterator",data:=.fields #[.ref l,.int 0 0] }=h1
 have sz1:h1.objs.size=s.heap.objs.size+1:=by rw [← hh1];exact Heap.size_push ..
 have kp1:∀ b o,s.heap.get? b=some o→h1.get? b=some o:=fun b o e=>by rw [← hh1];exact Heap.get?_push_of_some _ e
 have it1:h1.IsListIter s.heap.objs.size l 0:=by rw [← hh1];exact ⟨_,Heap.get?_push_size _ rfl,rfl,rfl⟩
 have W:=Walks.list (prog:=prog) (w:=w) (A:=A.in1) hh s.heap.objs.size l (Nat.ne_of_lt hlt) us.toArray
 have nB:h1.objs.size ∉ [s.heap.objs.size,l]:=fun hm=>by
  rw [sz1] at hm
  rcases List.mem_cons.mp hm with z | z
  ·exact absurd z (Nat.succ_ne_self _)
  ·rw [List.mem_singleton] at z;exact absurd hlt (by rw [← z];exact Nat.not_lt.mpr (Nat.le_succ _))
 have hlen:us.length=ns.length:=hi.length
 have hB:(h1.push { cls:=.type "list",dict:=none,data:=.seq ([]:List Value).toArray }).get? h1.objs.size=some { cls:=.type "list",dict:=none,data:=.seq #[] 0,slots:=#[] }:=Heap.get?_push_size _ rfl
 have st0:(h1.push { cls:=.type "list",dict:=none,data:=.seq ([]:List Value).toArray }).IsListIter s.heap.objs.size l 0∧(h1.push { cls:=.type "list",dict:=none,data:=.seq ([]:List Value).toArray }).IsList l us.toArray:=
  ⟨it1.at fun o e=>Heap.get?_push_of_some _ e,(hl.at fun o e=>kp1 l o e).at fun o e=>Heap.get?_push_of_some _ e⟩
 have back:∀ (h2:Heap),(∀ b o,b ∉ [s.heap.objs.size]→b≠h1.objs.size→(h1.push { cls:=.type "list",dict:=none,data:=.seq ([]:List Value).toArray }).get? b=some o→h2.get? b=some o)→∀ b o,s.heap.get? b=some o→h2.get? b=some o:=fun h2 k b o e=>by
  have lt:=Heap.lt_size e
  refine k b o (fun z=>?_) (fun z=>?_) (Heap.get?_push_of_some _ (kp1 b o e))
  ·rw [List.mem_singleton.mp z] at lt;exact Nat.lt_irrefl _ lt
  ·rw [z,sz1] at lt;exact absurd lt (Nat.not_lt.mpr (Nat.le_succ _))
 refine wpAny_pure ⟨plainId_quiet F.plain_max_loop _,?_⟩
 refine codeAny_builtin F.entry_max_loop ?_
 rw [Around.under_plainId F.plain_max_loop _]
 show wpAny _ A.in1 (seqItems? (.ref h1.objs.size) >>= fun _=>_) _ _ _
 refine wpAny_bind (wpAny_seqItems hB rfl ?_)
 show wpAny _ A.in1 (tryCatch (pyNext (.ref s.heap.objs.size)) _ >>= fun _=>_) _ _ _
 cases hns:ns with
 | nil=>
   have hz:us.toArray.size=0:=by rw [hns] at hlen;simpa using hlen
   refine wpAny_bind (wpAny_tryCatch (W.done _ _ _ (by rw [hz];exact st0) fun h2 tk k2=>?_))
   refine wpAny_bind (wpAny_rule (wpAny_pure ?_))
   have:=q td h2 tk (back h2 fun b o n1 n2 e=>k2 b o n1 e)
   rw [hns] at this
   exact this
 | cons x r=>
   have hz:0<us.toArray.size:=by rw [hns] at hlen;simp;rw [hlen];simp
   let f:Nat→Int:=fun i=>ns.getD i 0
   have P:∀ i v,us.toArray[i]? = some v→iU f i v:=fun i v e=>by
    have e':us[i]? = some v:=by simpa using e
    obtain ⟨t,ht⟩:=gC hi e'
    exact ⟨t,ht⟩
   have W':Walks prog w A.in1 s.heap.objs.size [s.heap.objs.size,l] [s.heap.objs.size] us.toArray.size (iU f) (fun i h=>h.IsListIter s.heap.objs.size l i∧h.IsList l us.toArray):=
    { sub:=W.sub,frame:=W.frame,done:=W.done,self:=W.self,item:=fun i s Q E hi st hQ=>W.item i s Q E hi st fun v h' tk hP=>hQ v h' tk (P i v hP) }
   refine wpAny_bind (wpAny_tryCatch (W'.item 0 _ _ _ hz st0 fun v h2 tk hv st2 k2=>?_))
   have nBw:h1.objs.size ∉ [s.heap.objs.size]:=fun z=>nB (by rw [List.mem_singleton.mp z];exact List.mem_cons_self)
   have hB2:=k2 _ _ nBw hB
   show wpAny _ A.in1 (updateSeq h1.objs.size (fun _=>#[v,v]) >>= fun _=>_) _ _ _
   refine wpAny_bind (wpAny_updateSeq hB2 rfl ?_)
   rw [nm]
   refine wpAny_pure ⟨plainId_quiet F.plain_max_loop _,max_go W' _ h1.objs.size nB _ 0 _ v _ rfl hz (W'.frame _ _ _ st2 fun b hb o e=>(Heap.get?_update_other _ _ (fun z:h1.objs.size=b=>nB (by rw [z];exact hb))).trans e) hv (Heap.get?_update_self _ hB2 rfl) fun v' h3 tk3 hv' k3=>?_⟩
   obtain ⟨t',e'⟩:=hv'
   have lt:=best_lt f (us.toArray.size - 1)
   have hmem:f (argBest (eB f) (us.toArray.size - 1))=maxD d ns:=by
    have hl2:argBest (eB f) (us.toArray.size - 1)<ns.length:=by simp at lt hz ⊢;omega
    refine (maxD_eq (by rw [hns];simp) ?_ fun y hy=>?_).symm
    ·show ns.getD _ 0∈ns
     rw [List.getD_eq_getElem?_getD,List.getElem?_eq_getElem hl2]
     exact List.getElem_mem _
    ·obtain ⟨i,hi',rfl⟩:=List.mem_iff_getElem.mp hy
     have:=jS f (us.toArray.size - 1) i (by simp;omega)
     have e2:f i=ns[i]:=by show ns.getD i 0=_;rw [List.getD_eq_getElem?_getD,List.getElem?_eq_getElem hi'];rfl
     rw [← e2];exact this
   have q':=q t' h3 tk3 (back h3 fun b o n1 n2 e=>k3 b o n1 n2 ((Heap.get?_update_other _ _ (Ne.symm n2)).trans (k2 b o n1 e)))
   subst e'
   rw [hmem]
   exact q'
theorem pe_max {p pos kp:Pos} {a b:Expr} {ta tk:TA} (hc:X.calm=true) (hg:Gl X "max") (hm:X.mg "max" = none) (ha:PA X [a] ta) (hk:PK X [⟨some "default",b,kp⟩] tk) (hs:starEach [a] X.env = [(false,eval a X.env)]:=by rfl) :
 PE X (.Call (.Name "max" p) [a] [⟨some "default",b,kp⟩] pos) (tKw (rMaxD X.K) ta tk):=by
 intro pins s σ H Q I h
 refine wpAny_Call_Name_kw (cQ I hg hm boot_max ?_)
 refine callWith_kw (thn (ha pos pins s σ H _ I h) fun us s1 q1=>?_) (by rw [hs];rfl) (by rw [hs];rfl) rfl rfl
 obtain ⟨vs,H1,I1,r1,q1⟩:=q1
 refine thn (hk pos pins s1 σ H1 _ I1 q1) fun ws s2 q2=>?_
 obtain ⟨zs,H2,I2,r2,l,ns,d,e,e',hx,q⟩:=q2
 subst e e'
 obtain ⟨u,e,ru⟩:=aV.one r1
 obtain ⟨u2,e',ru2⟩:=aV.one r2
 subst e e'
 cases ru
 obtain ⟨tz,e⟩:=ru2
 subst e
 obtain ⟨its,rv,p1,z1⟩:=I2.list hx
 exact max_kw (I2.ok.hd hc) p1.isList (intsAre_of rv) fun t h1 tk' kp=>⟨.int _,H2,I2.kept kp,⟨t,rfl⟩,q⟩
end
end L2.Bw
end
section
namespace L2.Bw
open PySem PySem.Spec PyProof.Rows
theorem aA {X:Cx} {pos pos':Pos} {i:Nat} {x:Str} {e:Expr} {te:TE} (hN:X.N.Nodup) (hi:X.N[i]? = some x) (hx:Loc X.env.scope x) (hs:swapsWith e (some (.Name x pos')) pos.line X.env=pure false) (hf:X.fn x=true∨X.env.scope.names.lookup x=some .local) (he:PE X e te) :
 PS X (.Assign [.Name x pos'] e pos) (tAsg te (bH i)):=ps_set hN hi hx he hs hf
end L2.Bw
namespace L2.K11
open PySem PySem.Spec PyProof.Rows L2.Bw
def table:List (Str×List Str):=[("whole",["number"]),("truth",["truth"]),("given",["given"]),("name",["name"]),("fn",["name","kind","node"]),("self",["name","name","kind","kind","node"]),("call",["node","node"]),
 ("let",["name","node","node"]),("if",["node","node","node"]),("do",["sign","node","node"]),("row",["kind","nodes"]),("at",["node","node"]),("size",["node"]),("pair",["node","node"]),("one",["node"]),("two",["node"]),
 ("as",["kind","node"]),("look",["put in","put in","node"])]
def words:List Str:=table.map (·.1)
def cnt (ys:List Str) (z:Str):Nat:=ys.countP fun y=>decide (y=z)
def nf (x:Str):Nat:=if x = "whole" then 1 else if x = "truth" then 1 else if x = "given" then 1 else if x = "do" then 1 else cnt ["name","fn","let","self","self"] x
def nk (x:Str):Nat:=cnt ["fn","self","self","row","as","look","look"] x
def np (x:Str):Nat:=if x = "if" then 3 else if x∈(["call","let","do","at","pair"]:List Str) then 2 else if x∈(["whole","truth","given","name"]:List Str) then 0 else 1
def ixs (sort:Str) (k:Nat):List Str→List Int
 | []=>[]
 | y :: r=>if y=sort then (k:Int) :: ixs sort (k+1) r else ixs sort (k+1) r
def rng (lo n:Nat):List Int:=(List.range' lo n).map fun (i:Nat)=>(i:Int)
def form (x:Str):List Str:=(KTD.datumAt x table).getD []
theorem form_of:∀ x∈words,KTD.datumAt x table=some (form x)∧(form x).length≤5∧(x≠"row"→ixs "node" 2 (form x)=rng (2+nf x+nk x) (np x))∧(x≠"look"→ixs "kind" 2 (form x)=rng (2+nf x) (nk x))∧(x = "look"→ixs "kind" 2 (form x) = []):=by
 decide +kernel
end L2.K11
end
section
namespace L2.Bk
open PySem PySem.Spec PyProof.Rows L2.Bw PyProof.Rows.LSm
def Kt (K:W.Frag) (a:Addr) (xs:List V):Prop:=∃ (o:Obj) (its:Array Value) (n:Nat),K.lookup a=some o∧o.cls = .type "tuple"∧o.data = .seq its n∧its.size≤sizeLine∧aV xs its.toList
def Tp (K:W.Frag) (H:Hp) (a:Addr) (xs:List V):Prop:=H a=some (.tup xs)∨Kt K a xs
theorem Tp.of {K:W.Frag} {H:Hp} {a:Addr} {xs:List V} (h:H a=some (.tup xs)):Tp K H a xs:=.inl h
theorem Tp.sq {K:W.Frag} {H:Hp} {a:Addr} {xs:List V} (h:Tp K H a xs):SqT K H a xs:=by
 rcases h with h | h
 ·exact SqT.of h
 ·exact .inr h
theorem Tp.mono {K:W.Frag} {H H':Hp} {a:Addr} {xs:List V} (h:Tp K H a xs) (m:Tm H H'):Tp K H' a xs:=by
 rcases h with h | h
 ·exact .inl (m _ _ h)
 ·exact .inr h
inductive Dk where
 | non
 | int (i:Int)
 | bl (b:Bool)
 | str (x:Str)
 | tup (xs:List Dk)
mutual
def RK (K:W.Frag) (H:Hp):Dk→V→Prop
 | .non,v=>v = .non
 | .int i,v=>v = .int i
 | .bl b,v=>v = .bl b
 | .str x,v=>v = .str x
 | .tup ds,v=>∃ a vs,v = .ref a∧Tp K H a vs∧RKs K H ds vs
def RKs (K:W.Frag) (H:Hp):List Dk→List V→Prop
 | [],vs=>vs = []
 | d :: ds,vs=>∃ v r,vs=v :: r∧RK K H d v∧RKs K H ds r
end
mutual
def Dk.dq:Dk→Nat
 | .tup ds=>1+dqs ds
 | .non=>0
 | .int _=>0
 | .bl _=>0
 | .str _=>0
def dqs:List Dk→Nat
 | []=>0
 | d :: ds=>max d.dq (dqs ds)
end
theorem dq_tup (ds:List Dk):(Dk.tup ds).dq=1+dqs ds:=by rw [Dk.dq]
theorem dq_non:Dk.non.dq=0:=by rw [Dk.dq]
theorem dq_str (x:Str):(Dk.str x).dq=0:=by rw [Dk.dq]
theorem dq_int (x:Int):(Dk.int x).dq=0:=by rw [Dk.dq]
theorem dq_bl (x:Bool):(Dk.bl x).dq=0:=by rw [Dk.dq]
theorem kQ (d:Dk) (ds:List Dk):dqs (d :: ds)=max d.dq (dqs ds):=by rw [dqs]
theorem RK.n {K:W.Frag} {H:Hp}:RK K H .non .non:=by rw [RK]
theorem RK.s {K:W.Frag} {H:Hp} (x:Str):RK K H (.str x) (.str x):=by rw [RK]
theorem RK.i {K:W.Frag} {H:Hp} (x:Int):RK K H (.int x) (.int x):=by rw [RK]
theorem RK.b {K:W.Frag} {H:Hp} (x:Bool):RK K H (.bl x) (.bl x):=by rw [RK]
theorem RKs.nil {K:W.Frag} {H:Hp}:RKs K H [] []:=rfl
theorem RKs.cons {K:W.Frag} {H:Hp} {d:Dk} {ds:List Dk} {v:V} {vs:List V} (h:RK K H d v) (t:RKs K H ds vs):RKs K H (d :: ds) (v :: vs):=⟨v,vs,rfl,h,t⟩
theorem RK.tup {K:W.Frag} {H:Hp} {a:Addr} {ds:List Dk} {vs:List V} (h:Tp K H a vs) (t:RKs K H ds vs):RK K H (.tup ds) (.ref a):=⟨a,vs,rfl,h,t⟩
theorem RKs.length {K:W.Frag} {H:Hp}:∀ {ds:List Dk} {vs:List V},RKs K H ds vs→ds.length=vs.length
 | [],vs,h=>by cases (show vs = [] from h);rfl
 | d :: ds,vs,⟨v,r,e,_,t⟩=>by subst e;simp [RKs.length t]
theorem RKs.get {K:W.Frag} {H:Hp}:∀ {ds:List Dk} {vs:List V} {i:Nat} {d:Dk},RKs K H ds vs→ds[i]? = some d→∃ v,vs[i]? = some v∧RK K H d v
 | [],_,_,_,_,e=>by simp at e
 | d :: ds,vs,0,d',⟨v,r,e,h,_⟩,e'=>by subst e;simp at e';subst e';exact ⟨v,rfl,h⟩
 | d :: ds,vs,i+1,d',⟨v,r,e,_,t⟩,e'=>by
   subst e
   obtain ⟨u,h1,h2⟩:=RKs.get (i:=i) t (by simpa using e')
   exact ⟨u,by simpa using h1,h2⟩
theorem RKs.getV {K:W.Frag} {H:Hp}:∀ {ds:List Dk} {vs:List V} {i:Nat} {v:V},RKs K H ds vs→vs[i]? = some v→∃ d,ds[i]? = some d∧RK K H d v:=fun {ds vs i v} h e=>by
 have hl:=h.length
 have hi:i<ds.length:=by rw [hl];exact (List.getElem?_eq_some_iff.mp e).1
 obtain ⟨u,h1,h2⟩:=h.get (List.getElem?_eq_getElem hi)
 rw [e] at h1;cases h1
 exact ⟨_,List.getElem?_eq_getElem hi,h2⟩
theorem RKs.append {K:W.Frag} {H:Hp}:∀ {ds es:List Dk} {vs us:List V},RKs K H ds vs→RKs K H es us→RKs K H (ds ++ es) (vs ++ us)
 | [],_,vs,_,h,t=>by cases (show vs = [] from h);exact t
 | d :: ds,es,vs,us,⟨v,r,e,h,t'⟩,t=>by subst e;exact .cons h (RKs.append t' t)
theorem RKs.split {K:W.Frag} {H:Hp}:∀ {ds es:List Dk} {vs:List V},RKs K H (ds ++ es) vs→∃ us ws,vs=us ++ ws∧RKs K H ds us∧RKs K H es ws
 | [],_,vs,h=>⟨[],vs,rfl,rfl,h⟩
 | d :: ds,es,vs,⟨v,r,e,h,t⟩=>by
   subst e
   obtain ⟨us,ws,e,h1,h2⟩:=RKs.split t
   subst e
   exact ⟨v :: us,ws,rfl,.cons h h1,h2⟩
mutual
theorem RK.mono {K:W.Frag} {H H':Hp} (m:Tm H H'):∀ {d:Dk} {v:V},RK K H d v→RK K H' d v
 | .non,_,h=>h
 | .int _,_,h=>h
 | .bl _,_,h=>h
 | .str _,_,h=>h
 | .tup _,_,⟨a,vs,e,h,t⟩=>⟨a,vs,e,h.mono m,RKs.mono m t⟩
theorem RKs.mono {K:W.Frag} {H H':Hp} (m:Tm H H'):∀ {ds:List Dk} {vs:List V},RKs K H ds vs→RKs K H' ds vs
 | [],_,h=>h
 | _ :: _,_,⟨v,r,e,h,t⟩=>⟨v,r,e,RK.mono m h,RKs.mono m t⟩
end
theorem dS {d:Dk}:∀ {ds:List Dk},d∈ds→d.dq≤dqs ds
 | e :: ds,h=>by
   rcases List.mem_cons.mp h with rfl | h
   ·exact Nat.le_max_left _ _
   ·exact Nat.le_trans (dS h) (Nat.le_max_right _ _)
theorem ij {n:Nat}:∀ {ds:List Dk},(∀ d∈ds,d.dq≤n)→dqs ds≤n
 | [],_=>Nat.zero_le _
 | e :: ds,h=>Nat.max_le.mpr ⟨h e List.mem_cons_self,ij fun d hd=>h d (List.mem_cons_of_mem _ hd)⟩
theorem _root_.L2.Room.u1 {k:Nat} {A:Around} (r:Room k A):A.units+1<cLine:=by have:=r.un;omega
section
variable {X:Cx}
def IsJ (K:W.Frag) (H:Hp) (x:V) (n:String) (b:Bool):Prop:=IsI K H x n b∨∃ a xs,x = .ref a∧Kt K a xs∧W.kitOne K (.type "tuple") (.type n)=some b
theorem cX:dE X (.builtin "isinstance") (fun xs H Q=>∃ x n b,xs = [x,.ty n]∧IsJ X.K H x n b∧Q (.bl b) H):=by
 intro pins s σ H xs us Q I r h
 obtain ⟨x,n,b,e,ty,q⟩:=h
 rcases ty with ty | ⟨a,ys,e',⟨o,its,m,hk,hc,hd,hz,rv⟩,k⟩
 ·exact call_isi pins s σ H xs us Q I r ⟨x,n,b,e,ty,q⟩
 ·subst e e'
  obtain ⟨u,w,e,ru,rw'⟩:=aV.two r
  subst e
  cases rw'
  cases (show u=Value.ref a from ru)
  exact W.kia_one W.kitx_tuple I.kIn ⟨o,I.kIn a o hk,hc⟩ k (fun z=>nomatch z) fun tk=>⟨.bl b,H,I.tok tk,rfl,q⟩
theorem rk_eq {s:Shared} {pins:List (Addr×Obj)} {σ:St} {H:Hp} (I:Inv X pins σ H s):∀ (n:Nat) {A:Around} {d:Dk} {x y:V} {u v:Value},d.dq≤n→RK X.K H d x→RK X.K H d y→aX x u→aX y v→A.units+n<cLine→SeqAt.EqAt A s u v true:=by
 intro n
 induction n with
 | zero=>
   intro A d x y u v hn hx hy ru rv hu
   cases d with
   | non=>cases (show x = .non from hx);cases (show y = .non from hy);have k:=cx (A:=A) (s:=s) ru rv rfl rfl;simpa [eqV] using k
   | int i=>cases (show x = .int i from hx);cases (show y = .int i from hy);have k:=cx (A:=A) (s:=s) ru rv rfl rfl;simpa [eqV] using k
   | bl b=>cases (show x = .bl b from hx);cases (show y = .bl b from hy);have k:=cx (A:=A) (s:=s) ru rv rfl rfl;simpa [eqV] using k
   | str z=>cases (show x = .str z from hx);cases (show y = .str z from hy);have k:=cx (A:=A) (s:=s) ru rv rfl rfl;simpa [eqV] using k
   | tup ds=>have k:1+dqs ds≤0:=hn;omega
 | succ n ih=>
   intro A d x y u v hn hx hy ru rv hu
   cases d with
   | non=>cases (show x = .non from hx);cases (show y = .non from hy);have k:=cx (A:=A) (s:=s) ru rv rfl rfl;simpa [eqV] using k
   | int i=>cases (show x = .int i from hx);cases (show y = .int i from hy);have k:=cx (A:=A) (s:=s) ru rv rfl rfl;simpa [eqV] using k
   | bl b=>cases (show x = .bl b from hx);cases (show y = .bl b from hy);have k:=cx (A:=A) (s:=s) ru rv rfl rfl;simpa [eqV] using k
   | str z=>cases (show x = .str z from hx);cases (show y = .str z from hy);have k:=cx (A:=A) (s:=s) ru rv rfl rfl;simpa [eqV] using k
   | tup ds=>
     have hn':1+dqs ds≤n+1:=hn
     obtain ⟨a,vs,e,ha,ta⟩:=hx
     obtain ⟨b,ws,e',hb,tb⟩:=hy
     subst e e'
     cases ru;cases rv
     by_cases hab:a=b
     ·subst hab;exact SeqAt.EqAt.same _
     ·obtain ⟨i1,r1,p1,z1⟩:=I.tuple ha.sq
      obtain ⟨i2,r2,p2,z2⟩:=I.tuple hb.sq
      have l1:=r1.length
      have l2:=r2.length
      have l3:=ta.length
      have l4:=tb.length
      have key:=SeqAt.RcAt.tuples (A:=A) (s:=s) (e:=fun _=>true) p1 p2 (by omega) fun j h1 h2=>by
       have hjd:j<ds.length:=by simp at h1;omega
       obtain ⟨x1,e1,q1⟩:=ta.get (List.getElem?_eq_getElem hjd)
       obtain ⟨y1,e2,q2⟩:=tb.get (List.getElem?_eq_getElem hjd)
       obtain ⟨u1,f1,w1⟩:=r1.get e1
       obtain ⟨v1,f2,w2⟩:=r2.get e2
       have g1:i1.toArray[j]=u1:=by
        have h1':j<i1.length:=by simpa using h1
        rw [List.getElem?_eq_getElem h1'] at f1
        simpa using f1
       have g2:i2.toArray[j]=v1:=by
        have h2':j<i2.length:=by simpa using h2
        rw [List.getElem?_eq_getElem h2'] at f2
        simpa using f2
       rw [g1,g2]
       have k:=dS (List.getElem_mem hjd)
       exact ih (A:=A.in1) (by omega) q1 q2 w1 w2 (by show A.units+1+n<cLine;omega)
      have val:((List.range (min i1.toArray.size i2.toArray.size)).all (fun _=>true) && i1.toArray.size == i2.toArray.size)=true:=by
       simp;omega
      rw [val] at key
      exact SeqAt.EqAt.of_refs hab key
inductive EqK (K:W.Frag) (H:Hp):V→V→Bool→Prop where
 | lists {a c:Addr} {vs ws:List V} {ds:List Dk} (ha:SqL K H a vs) (hc:SqL K H c ws) (ta:RKs K H ds vs) (tc:RKs K H ds ws) (hd:dqs ds≤60):EqK K H (.ref a) (.ref c) true
 | lens {a c:Addr} {vs ws:List V} (ha:SqL K H a vs) (hc:SqL K H c ws) (hl:vs.length≠ws.length):EqK K H (.ref a) (.ref c) false
 | data {x y:V} {ds:List Dk} (hx:RK K H (.tup ds) x) (hy:RK K H (.tup ds) y) (hd:dqs ds≤60):EqK K H x y true
 | heads {a c:Addr} {h z:Str} {r:List V} (ha:SqT K H a (.str h :: r)) (hc:SqT K H c [.str z]):EqK K H (.ref a) (.ref c) (decide (h=z) && r.isEmpty)
theorem cP {vs:List V} {us:List Value} {j:Nat} {x:V} (r:aV vs us) (hx:vs[j]? = some x) (h:j<us.toArray.size):aX x us.toArray[j]:=by
 obtain ⟨u,f,w⟩:=r.get hx
 have h':j<us.length:=by simpa using h
 rw [List.getElem?_eq_getElem h'] at f
 cases f
 simpa using w
theorem eqk_ok {k:Nat} (hr:Room k X.A) {s:Shared} {pins:List (Addr×Obj)} {σ:St} {H:Hp} (I:Inv X pins σ H s) {x y:V} {u v:Value} {b:Bool} (h:EqK X.K H x y b) (rx:aX x u) (ry:aX y v):SeqAt.RcAt X.A s u v b∧SeqAt.RcNeAt X.A s u v (!b):=by
 have hu:=hr.units
 cases h with
 | @lists a c vs ws ds ha hc ta tc hd=>
   cases rx;cases ry
   obtain ⟨i1,r1,p1,z1⟩:=I.list ha
   obtain ⟨i2,r2,p2,z2⟩:=I.list hc
   have l1:=r1.length
   have l2:=r2.length
   have l3:=ta.length
   have l4:=tc.length
   have it:∀ j (h1:j<i1.toArray.size) (h2:j<i2.toArray.size),SeqAt.EqAt X.A.in1 s i1.toArray[j] i2.toArray[j] ((fun _=>true) j):=fun j h1 h2=>by
    have hjd:j<ds.length:=by simp at h1;omega
    obtain ⟨x1,e1,q1⟩:=ta.get (List.getElem?_eq_getElem hjd)
    obtain ⟨y1,e2,q2⟩:=tc.get (List.getElem?_eq_getElem hjd)
    have k:=dS (List.getElem_mem hjd)
    exact rk_eq I 60 (A:=X.A.in1) (by omega) q1 q2 (cP r1 e1 h1) (cP r2 e2 h2) (by show X.A.units+1+60<cLine;omega)
   have e:(List.range i1.toArray.size).all (fun _=>true)=true:=by simp
   have k1:=SeqAt.RcAt.lists (A:=X.A) (s:=s) p1.isList p2.isList (by simp;omega) (by omega) it
   have k2:=SeqAt.RcNeAt.lists (A:=X.A) (s:=s) p1.isList p2.isList (by simp;omega) (by omega) it
   rw [e] at k1 k2
   exact ⟨k1,k2⟩
 | @lens a c vs ws ha hc hl=>
   cases rx;cases ry
   obtain ⟨i1,r1,p1,z1⟩:=I.list ha
   obtain ⟨i2,r2,p2,z2⟩:=I.list hc
   have l1:=r1.length
   have l2:=r2.length
   exact ⟨SeqAt.RcAt.lists_lengths p1.isList p2.isList (by simp;omega) (by omega),SeqAt.RcNeAt.lists_lengths p1.isList p2.isList (by simp;omega) (by omega)⟩
 | @data x y ds hx hy hd=>
   obtain ⟨a,vs,e1,ha,ta⟩:=(show ∃ a vs,x = .ref a∧Tp X.K H a vs∧RKs X.K H ds vs by rw [RK] at hx;exact hx)
   obtain ⟨c,ws,e2,hc,tc⟩:=(show ∃ a vs,y = .ref a∧Tp X.K H a vs∧RKs X.K H ds vs by rw [RK] at hy;exact hy)
   subst e1 e2
   cases rx;cases ry
   obtain ⟨i1,r1,p1,z1⟩:=I.tuple ha.sq
   obtain ⟨i2,r2,p2,z2⟩:=I.tuple hc.sq
   have l1:=r1.length
   have l2:=r2.length
   have l3:=ta.length
   have l4:=tc.length
   have it:∀ j (h1:j<i1.toArray.size) (h2:j<i2.toArray.size),SeqAt.EqAt X.A.in1 s i1.toArray[j] i2.toArray[j] ((fun _=>true) j):=fun j h1 h2=>by
    have hjd:j<ds.length:=by simp at h1;omega
    obtain ⟨x1,e1,q1⟩:=ta.get (List.getElem?_eq_getElem hjd)
    obtain ⟨y1,e2,q2⟩:=tc.get (List.getElem?_eq_getElem hjd)
    have k:=dS (List.getElem_mem hjd)
    exact rk_eq I 60 (A:=X.A.in1) (by omega) q1 q2 (cP r1 e1 h1) (cP r2 e2 h2) (by show X.A.units+1+60<cLine;omega)
   have e:((List.range (min i1.toArray.size i2.toArray.size)).all (fun _=>true) && i1.toArray.size == i2.toArray.size)=true:=by
    simp;omega
   have k1:=SeqAt.RcAt.tuples (A:=X.A) (s:=s) p1 p2 (by omega) it
   have k2:=SeqAt.RcNeAt.tuples (A:=X.A) (s:=s) p1 p2 (by omega) it
   rw [e] at k1 k2
   exact ⟨k1,k2⟩
 | @heads a c h z r ha hc=>
   cases rx;cases ry
   obtain ⟨i1,r1,p1,z1⟩:=I.tuple ha
   obtain ⟨i2,r2,p2,z2⟩:=I.tuple hc
   have l1:=r1.length
   have l2:=r2.length
   have it:∀ j (h1:j<i1.toArray.size) (h2:j<i2.toArray.size),SeqAt.EqAt X.A.in1 s i1.toArray[j] i2.toArray[j] ((fun _=>decide (h=z)) j):=fun j h1 h2=>by
    have hj:j=0:=by simp at h2 l2;omega
    subst hj
    have k:=cx (A:=X.A.in1) (s:=s) (cP r1 (x:=.str h) rfl h1) (cP r2 (x:=.str z) rfl h2) rfl rfl
    have e:eqV (.str h) (.str z)=decide (h=z):=by show (h == z)=_;by_cases q:h=z <;> simp [q]
    rw [e] at k
    exact k
   have e:((List.range (min i1.toArray.size i2.toArray.size)).all (fun _=>decide (h=z)) && i1.toArray.size == i2.toArray.size)=(decide (h=z) && r.isEmpty):=by
    have m:min i1.toArray.size i2.toArray.size=1:=by simp at l1 l2 ⊢;omega
    rw [m]
    simp at l1 l2
    cases r with
    | nil=>simp at l1;simp [← l1,← l2]
    | cons q r=>simp at l1;simp [← l1,← l2]
   have k1:=SeqAt.RcAt.tuples (A:=X.A) (s:=s) p1 p2 (by omega) it
   have k2:=SeqAt.RcNeAt.tuples (A:=X.A) (s:=s) p1 p2 (by omega) it
   rw [e] at k1 k2
   exact ⟨k1,k2⟩
def rEqK (K:W.Frag):R2:=fun x y H Q=>(scal x y=true∧Q (.bl (decide (x=y))) H)∨∃ b,EqK K H x y b∧Q (.bl b) H
def rNeK (K:W.Frag):R2:=fun x y H Q=>(scal x y=true∧Q (.bl (!decide (x=y))) H)∨∃ b,EqK K H x y b∧Q (.bl (!b)) H
theorem op_eqK {k:Nat} (hr:Room k X.A):OpR X (compareOp .Eq) (rEqK X.K):=by
 intro pins s σ H x y v u Q I rx ry h
 rcases h with h | ⟨b,h,q⟩
 ·exact op_eq pins s σ H x y v u Q I rx ry h
 ·exact (eqk_ok hr I h rx ry).1 _ _ _ _ ⟨.bl b,H,I,rfl,q⟩
theorem op_neK {k:Nat} (hr:Room k X.A):OpR X (compareOp .NotEq) (rNeK X.K):=by
 intro pins s σ H x y v u Q I rx ry h
 rcases h with h | ⟨b,h,q⟩
 ·exact op_ne pins s σ H x y v u Q I rx ry h
 ·exact (eqk_ok hr I h rx ry).2 _ _ _ _ ⟨.bl (!b),H,I,rfl,q⟩
theorem eqQK {K:W.Frag} {x y:V} {b:Bool} {H:Hp} {Q:VK} (h:EqK K H x y b) (q:Q (.bl b) H):rEqK K x y H Q:=.inr ⟨b,h,q⟩
end
end L2.Bk
end
section
namespace HT
open PySem PySem.Spec PyProof.Rows
section
variable {prog:Program} {w:World} {A:Around} {E:Value→Shared→Prop} {s:Shared}
theorem getItem_tuple_all {t sl:Addr} {items:Array Value} {vl vu:Value} {lo hi:Option Int} {Q:Value→Shared→Prop} (ht:IsTup s.heap t items) (hs:s.heap.IsSliceOf sl vl vu .none) (pl:IsPart vl lo) (pu:IsPart vu hi)
 (hw:sIx items.size 0 lo=0∧sIx items.size items.size hi=items.size) (h:Q (.ref t) s):wpAny (model prog w) A (getItem (.ref t) (.ref sl)) Q E s:=by
 obtain ⟨os,hos,hcs,hds⟩:=id hs
 have hTs:s.TypeIs (.ref sl) "slice":=⟨os,hos,hcs⟩
 unfold getItem
 try with_reducible refine wpAny_holding ?_
 first | refine wpAny_bind (wpAny_pure ?_) | skip
 refine wpAny_bind (wpAny_sequenceKey ht.typeIs (by decide) ?_)
 refine wpAny_bind (wpAny_callSpecial?_slot (name:=Str.ofString "__getitem__") ht.typeIs PyProof.Rows.slot_tuple_getitem
  (wpAny_call_entry PyProof.Rows.slot_tuple_getitem ht.typeIs entry_tuple_getitem ?_ (args_tuple_getitem _ _)))
 show wpAny _ _ (Builtin.Tuple.tupleItemsOf (.ref t) >>= _) _ _ s
 refine wpAny_bind (tupleItemsOf_ ht ?_)
 refine wpAny_bind (wpAny_typeOf hTs ?_)
 rw [if_pos (by decide)]
 refine wpAny_bind (dj hs pl pu ?_)
 have hyes:(((sIx items.size 0 lo:Nat):Int) == 0 && (1:Int) == 1 && (sIx items.size items.size hi - sIx items.size 0 lo) == items.size)=true:=by
  rw [hw.1,hw.2]
  simp
 show wpAny _ _ (if (((sIx items.size 0 lo:Nat):Int) == 0 && (1:Int) == 1 && (sIx items.size items.size hi - sIx items.size 0 lo) == items.size)=true then _ else _) _ _ s
 rw [if_pos hyes]
 show wpAny _ _ (Builtin.Tuple.tupleIsExact (.ref t) >>= _) _ _ s
 refine wpAny_bind ?_
 unfold Builtin.Tuple.tupleIsExact
 refine wpAny_bind (wpAny_typeOf ht.typeIs (wpAny_pure ?_))
 rw [if_pos (by decide)]
 refine wpAny_bind (wpAny_rule ?_)
 first
  | exact wpAny_pure ⟨_,rfl,wpAny_pure h⟩
  | exact wpAny_bind (wpAny_pure (wpAny_pure ⟨_,rfl,wpAny_pure h⟩))
  | exact wpAny_bind (wpAny_bind (wpAny_pure (wpAny_pure ⟨_,rfl,wpAny_pure h⟩)))
end
end HT
namespace L2.Bk
open PySem PySem.Spec PyProof.Rows L2.Bw
section
variable {X:Cx}
def rSlW (K:W.Frag):V→Option Int→Option Int→Hp→VK→Prop:=fun x lo hi H Q=>∃ a xs,x = .ref a∧SqT K H a xs∧(HT.sIx xs.length 0 lo=0∧HT.sIx xs.length xs.length hi=xs.length)∧Q (.ref a) H
theorem sl_tupW:SlR X (rSlW X.K):=by
 intro pins s σ H x v vl vu lo hi sl Q I rx hs pl pu h
 obtain ⟨a,xs,e,hx,hw,q⟩:=h
 subst e
 cases rx
 obtain ⟨its,r,ht,hz⟩:=I.tuple hx
 have hlen:its.toArray.size=xs.length:=by rw [List.size_toArray];exact r.length.symm
 refine ⟨"tuple",_,PyProof.Rows.slot_tuple_getitem.lookup,ht.typeIs,?_⟩
 exact HT.getItem_tuple_all ht hs pl pu (by rw [hlen];exact hw) ⟨.ref a,H,I,rfl,q⟩
def rSlK (K:W.Frag):V→Option Int→Option Int→Hp→VK→Prop:=fun x lo hi H Q=>rSlL K x lo hi H Q∨rSlT K x lo hi H Q∨rSlW K x lo hi H Q
theorem sl_k:SlR X (rSlK X.K):=sl_list.or (sl_tup.or sl_tupW)
theorem sl_tail {K:W.Frag} {H:Hp} {a:Addr} {h:V} {r:List V} {Q:VK} (ha:SqT K H a (h :: r)) (q:∀ p,H p=none→Q (.ref p) (upd H p (.tup r))):rSlK K (.ref a) (some 1) none H Q:=by
 refine .inr (.inl ⟨a,_,rfl,ha,?_,fun p hp=>?_⟩)
 ·intro z
  have e:HT.sIx (h :: r).length 0 (some 1)=1:=by
   show _=_
   simp [HT.sIx]
  omega
 ·have k:=q p hp
  have e:iQ (h :: r) (some 1) none=r:=by
   unfold iQ
   have e:HT.sIx (h :: r).length 0 (some 1)=1:=by simp [HT.sIx]
   have e2:HT.sIx (h :: r).length (h :: r).length none=(h :: r).length:=by simp [HT.sIx]
   rw [e,e2]
   simp
  rw [e]
  exact k
end
end L2.Bk
end
section
namespace L2.Bw
open PySem PySem.Spec PyProof.Rows
def Nx (n:Nat) (Pv:Nat→St→Hp→Prop) (i:Nat) (σ:St) (H:Hp):Prop:=∃ m',m'<n - i∧(m'=n - (i+1)∧i+1≤n∧Pv (i+1) σ H)
theorem nx {n i:Nat} {Pv:Nat→St→Hp→Prop} {σ:St} {H:Hp} (h:i<n) (p:Pv (i+1) σ H):Nx n Pv i σ H:=⟨n - (i+1),by omega,rfl,by omega,p⟩
theorem lc_by {J:It} {g:TG} {tt:TT} {te:TE} {D:Addr} {Qe:Hp→Prop} {σ:St} {H:Hp} {n:Nat} (Pv:Nat→St→Hp→Prop) (h0:Pv 0 σ H) (hgo:∀ i σ H,i<n→Pv i σ H→J.go i H) (hstop:∀ σ H,Pv n σ H→J.stop n H)
 (hs:∀ i σ H,i<n→Pv i σ H→∀ x H',J.yld i H x H'→g x σ H' fun σ2 H2=>tt σ2 H2 fun b H3=>if b=true then te σ2 H3 fun y H4=>∃ ys,H4 D=some (.lst ys)∧ys.length<sizeLine∧Nx n Pv i σ2 (upd H4 D (.lst (ys ++ [y]))) else Nx n Pv i σ2 H3)
 (hd:∀ σ H,Pv n σ H→Qe H):∃ W,(∃ m,W 0 m σ H)∧kD J g tt te D W Qe:=by
 refine ⟨fun i m σ H=>m=n - i∧i≤n∧Pv i σ H,⟨n,by simp,Nat.zero_le _,h0⟩,?_⟩
 rintro i m σ H ⟨rfl,hi,p⟩
 by_cases hlt:i<n
 ·exact .inr ⟨hgo i σ H hlt p,fun x H' y=>hs i σ H hlt p x H' y⟩
 ·have e:i=n:=by omega
  subst e
  exact .inl ⟨hstop σ H p,hd σ H p⟩
theorem dO {J:It} {g:TG} {te:TE} {D:Addr} {Qe:Hp→Prop} {σ:St} {H:Hp} {n:Nat} (Pv:Nat→St→Hp→Prop) (h0:Pv 0 σ H) (hgo:∀ i σ H,i<n→Pv i σ H→J.go i H) (hstop:∀ σ H,Pv n σ H→J.stop n H)
 (hs:∀ i σ H,i<n→Pv i σ H→∀ x H',J.yld i H x H'→g x σ H' fun σ2 H2=>te σ2 H2 fun y H4=>∃ ys,H4 D=some (.lst ys)∧ys.length<sizeLine∧Nx n Pv i σ2 (upd H4 D (.lst (ys ++ [y]))))
 (hd:∀ σ H,Pv n σ H→Qe H):∃ W,(∃ m,W 0 m σ H)∧kD J g tYes te D W Qe:=by
 refine lc_by Pv h0 hgo hstop (fun i σ H hi p x H' y=>?_) hd
 exact cast (congrArg (g x σ H') (funext fun a=>funext fun b=>by unfold tYes;exact (if_pos rfl).symm)) (hs i σ H hi p x H' y)
theorem inV_strs (x:Str) (ss:List Str):inV (.str x) (ss.map V.str)=decide (x∈ss):=by
 unfold inV
 induction ss with
 | nil=>rfl
 | cons y r ih=>
   rw [List.map_cons,List.any_cons,ih]
   have e:eqV (.str y) (.str x)=decide (x=y):=by
    show (y == x)=_
    by_cases q:x=y
    ·subst q;simp
    ·have q':¬ y=x:=fun z=>q z.symm
     simp [q,q']
   rw [e]
   by_cases q:x=y <;> simp [q]
end L2.Bw
namespace L2.Bk
open PySem PySem.Spec PyProof.Rows L2.Bw
theorem small {n:Nat} (h:n≤1000):n≤sizeLine:=Nat.le_of_lt (gh h)
theorem bE {n:Nat} (h:n≤1000000):n<sizeLine:=Nat.lt_of_le_of_lt h (by decide)
theorem jQ {α:Type} {xs:List α} {i:Int} (h0:0≤i) (h1:i<(xs.length:Int)):∃ c,atI xs i=some c∧c∈xs:=by
 have hk:i.toNat<xs.length:=by omega
 have z:atI xs ((i.toNat:Nat):Int)=some xs[i.toNat]:=aK (List.getElem?_eq_getElem hk)
 rw [show ((i.toNat:Nat):Int)=i by omega] at z
 exact ⟨_,z,List.getElem_mem hk⟩
theorem dI {ss:List Str} {i:Int} (h0:0≤i) (h1:i<(ss.length:Int)):∃ c,atI (ss.map V.str) i=some (.str c)∧c∈ss:=by
 obtain ⟨c,e,hc⟩:=jQ (xs:=ss.map V.str) h0 (by rw [List.length_map];exact h1)
 obtain ⟨y,hy,rfl⟩:=List.mem_map.mp hc
 exact ⟨y,e,hy⟩
theorem aI {x y:Str}:decide (V.str x=V.str y)=decide (x=y):=by
 by_cases h:x=y
 ·subst h;simp
 ·have:¬ V.str x=V.str y:=fun q=>h (by cases q;rfl)
  simp [h,this]
theorem bP {α:Type} {ps:List α} {i:Nat} (h:i<ps.length):ps.take (i+1)=ps.take i ++ [ps[i]]:=by
 rw [List.take_add_one,List.getElem?_eq_getElem h];rfl
theorem dM {J:It} {g:TG} {tb:TS} {D:eO} {σ:St} {H:Hp} {n:Nat} (Pv:Nat→St→Hp→Prop) (h0:Pv 0 σ H) (hgo:∀ i σ H,i<n→Pv i σ H→J.go i H) (hstop:∀ σ H,Pv n σ H→J.stop n H)
 (hs:∀ i σ H,i<n→Pv i σ H→∀ x H',J.yld i H x H'→g x σ H' fun σ2 H2=>tb { D with nx:=Pv (i+1),ct:=Pv (i+1),bk:=D.nx } σ2 H2) (hd:∀ σ H,Pv n σ H→D.nx σ H) :
 ∃ W:Nat→Nat→St→Hp→Prop,(∃ m,W 0 m σ H)∧∀ i m σ H,W i m σ H →
   (J.stop i H∧D.nx σ H)∨(J.go i H∧∃ N:St→Hp→Prop,(∀ σ' H',N σ' H'→∃ m',m'<m∧W (i+1) m' σ' H')∧∀ x H',J.yld i H x H'→g x σ H' fun σ2 H2=>tb { D with nx:=N,ct:=N,bk:=D.nx } σ2 H2):=by
 refine ⟨fun i m σ H=>m=n - i∧i≤n∧Pv i σ H,⟨n,by simp,Nat.zero_le _,h0⟩,?_⟩
 rintro i m σ H ⟨rfl,hi,p⟩
 by_cases hlt:i<n
 ·exact .inr ⟨hgo i σ H hlt p,Pv (i+1),fun σ' H' p'=>⟨n - (i+1),by omega,rfl,hlt,p'⟩,fun x H' y=>hs i σ H hlt p x H' y⟩
 ·have e:i=n:=by omega
  subst e
  exact .inl ⟨hstop σ H p,hd σ H p⟩
theorem ixN_nat {n j:Nat} (h:j<n):ixN n (j:Int)=some j:=by
 unfold ixN
 rw [if_pos (by omega),if_pos (by omega)]
 simp
abbrev Old (H H':Hp):Prop:=∀ b o,H b=some o→H' b=some o
theorem Old.gr {H H':Hp} (h:Old H H'):Gr M0 H H':=fun b o e _=>h b o e
theorem Old.tm {H H':Hp} (h:Old H H'):Tm H H':=fun a xs e=>h a _ e
theorem Old.refl (H:Hp):Old H H:=fun _ _ h=>h
theorem Old.free {H H':Hp} (o:Old H H') {a:Addr} (h:H' a=none):H a=none:=by
 cases q:H a with
 | none=>rfl
 | some x=>rw [o a x q] at h;cases h
theorem Old.trans {H H1 H2:Hp} (a:Old H H1) (b:Old H1 H2):Old H H2:=fun c o h=>b c o (a c o h)
theorem Old.new {H:Hp} {p:Addr} {o:HO} (h:H p=none):Old H (upd H p o):=fun b u e=>by rw [au (ap e h)];exact e
theorem RK.get {K:W.Frag} {H:Hp} {ds:List Dk} {v:V} (h:RK K H (.tup ds) v):∃ a vs,v = .ref a∧Tp K H a vs∧RKs K H ds vs:=by rw [RK] at h;exact h
theorem RK.str {K:W.Frag} {H:Hp} {x:Str} {v:V} (h:RK K H (.str x) v):v = .str x:=by rw [RK] at h;exact h
theorem RK.kind {K:W.Frag} {H:Hp} {x:Str} {ds:List Dk} {v:V} (h:RK K H (.tup (.str x :: ds)) v):∃ a vs,v = .ref a∧Tp K H a (.str x :: vs)∧RKs K H ds vs:=by
 obtain ⟨a,us,rfl,ha,u,r,rfl,hu,hr⟩:=RK.get h
 cases RK.str hu
 exact ⟨a,r,rfl,ha,hr⟩
theorem cat_k {K:W.Frag} {H:Hp} {a b:Addr} {xs ys:List V} {ds es:List Dk} {Q:VK} (ha:Tp K H a xs) (hb:Tp K H b ys) (ra:RKs K H ds xs) (rb:RKs K H es ys) (ne:xs≠[]) (hz:xs.length+ys.length≤1000)
 (q:∀ (c:Addr) (H':Hp),Old H H'→RK K H' (.tup (ds ++ es)) (.ref c)→Q (.ref c) H'):rCatT K (.ref a) (.ref b) H Q:=by
 refine ⟨a,b,xs,ys,rfl,rfl,ha.sq,hb.sq,ne,small hz,fun e=>?_,fun e p hp=>?_⟩
 ·subst e
  cases (show es = [] from List.length_eq_zero_iff.mp rb.length)
  exact q a H (Old.refl _) (by rw [List.append_nil];exact RK.tup ha ra)
 ·have g:Old H (upd H p (.tup (xs ++ ys))):=Old.new hp
  exact q p _ g (RK.tup (.of ag) ((ra.append rb).mono g.tm))
theorem bF {X:Cx} {x:Str} {a:Addr} {pos:Pos} (hg:Gl X x) (hm:X.mg x=some (.ref a)) (hd:(x == ("__debug__":Str))=false:=by decide):PE X (.Name x pos) (tC (.ref a)):=fm hg hm (show aX (.ref a) (.ref a) from rfl) hd
inductive Kn where
 | mk (h:Str) (ks:List Kn)
mutual
def Kn.d:Kn→Dk
 | .mk h ks=>.tup (.str h :: Kn.ds ks)
def Kn.ds:List Kn→List Dk
 | []=>[]
 | t :: r=>t.d :: Kn.ds r
end
mutual
def Kn.dep:Kn→Nat
 | .mk _ ks=>1+Kn.deps ks
def Kn.deps:List Kn→Nat
 | []=>0
 | t :: r=>max t.dep (Kn.deps r)
end
mutual
def Kn.ok:Kn→Prop
 | .mk _ ks=>ks.length≤2∧Kn.oks ks
def Kn.oks:List Kn→Prop
 | []=>True
 | t :: r=>t.ok∧Kn.oks r
end
theorem aH:∀ (ks:List Kn),(Kn.ds ks).length=ks.length
 | []=>rfl
 | _ :: r=>by show (Kn.ds r).length+1=r.length+1;rw [aH r]
theorem b7:∀ {ks:List Kn} {i:Nat} (h:i<ks.length),(Kn.ds ks)[i]? = some ks[i].d
 | _ :: _,0,_=>rfl
 | _ :: r,i+1,h=>by
   show (Kn.ds r)[i]? = _
   exact b7 (ks:=r) (by simpa using h)
theorem jb:∀ (ks ls:List Kn),Kn.ds (ks ++ ls)=Kn.ds ks ++ Kn.ds ls
 | [],_=>rfl
 | t :: r,ls=>by show t.d :: Kn.ds (r ++ ls)=t.d :: (Kn.ds r ++ Kn.ds ls);rw [jb r ls]
theorem ff:∀ {ks:List Kn} {i:Nat} (h:i<ks.length),Kn.oks ks→ks[i].ok
 | _ :: _,0,_,q=>q.1
 | _ :: r,i+1,h,q=>ff (ks:=r) (by simpa using h) q.2
theorem cg:∀ {ks:List Kn} {i:Nat} (h:i<ks.length),ks[i].dep≤Kn.deps ks
 | _ :: _,0,_=>Nat.le_max_left _ _
 | _ :: r,i+1,h=>Nat.le_trans (cg (ks:=r) (by simpa using h)) (Nat.le_max_right _ _)
theorem kN:∀ {ks:List Kn},ks≠[]→((Kn.deps ks:Nat):Int)∈ks.map (fun t=>((t.dep:Nat):Int))
 | [t],_=>by
   have e:Kn.deps [t]=t.dep:=by show max t.dep 0=t.dep;omega
   rw [e]
   exact List.mem_cons_self
 | t :: u :: r,_=>by
   have ih:=kN (ks:=u :: r) (by simp)
   have e:Kn.deps (t :: u :: r)=max t.dep (Kn.deps (u :: r)):=rfl
   rw [e]
   by_cases c:t.dep≤Kn.deps (u :: r)
   ·rw [Nat.max_eq_right c]
    exact List.mem_cons_of_mem _ ih
   ·rw [Nat.max_eq_left (by omega)]
    exact List.mem_cons_self
theorem ja (ks:List Kn):maxD 0 (ks.map (fun t=>((t.dep:Nat):Int)))=((Kn.deps ks:Nat):Int):=by
 by_cases c:ks = []
 ·subst c;rfl
 ·refine maxD_eq (by simpa using c) (kN c) fun y hy=>?_
  obtain ⟨t,ht,rfl⟩:=List.mem_map.mp hy
  obtain ⟨i,hi,rfl⟩:=List.getElem_of_mem ht
  exact Int.ofNat_le.mpr (cg hi)
mutual
theorem dq_d:∀ (t:Kn),t.d.dq=t.dep
 | .mk h ks=>by
   show (Dk.tup (.str h :: Kn.ds ks)).dq=1+Kn.deps ks
   rw [dq_tup,kQ,dq_str,dq_ds ks]
   omega
theorem dq_ds:∀ (ks:List Kn),dqs (Kn.ds ks)=Kn.deps ks
 | []=>by show dqs []=0;rw [dqs]
 | t :: r=>by
   show dqs (t.d :: Kn.ds r)=max t.dep (Kn.deps r)
   rw [kQ,dq_d t,dq_ds r]
end
end L2.Bk
end
section
namespace L2
open PySem PySem.Spec PyProof.Rows
section
variable {κ:Type} [DecidableEq κ]
def cG (kvs:List (κ×V)) (k:κ):Option V:=(kvs.find? fun kv=>decide (kv.1=k)).map (·.2)
def putK (kvs:List (κ×V)) (k:κ) (v:V):List (κ×V):=
 if (kvs.any fun kv=>decide (kv.1=k))=true then kvs.map (fun kv=>if kv.1=k then (kv.1,v) else kv) else kvs ++ [(k,v)]
theorem bN {p:κ×V} {r:List (κ×V)} {k:κ} (e:p.1=k):cG (p :: r) k=some p.2:=by simp [cG,List.find?_cons,e]
theorem bM {p:κ×V} {r:List (κ×V)} {k:κ} (e:¬ p.1=k):cG (p :: r) k=cG r k:=by simp [cG,List.find?_cons,e]
theorem fE (k:κ):∀ kvs:List (κ×V),(kvs.any fun kv=>decide (kv.1=k))=(cG kvs k).isSome
 | []=>rfl
 | p :: r=>by
   rw [List.any_cons]
   by_cases e:p.1=k
   ·simp only [bN e,decide_eq_true e,Bool.true_or,Option.isSome_some]
   ·rw [bM e,decide_eq_false e,Bool.false_or];exact fE k r
theorem lH (k j:κ) (y:V):∀ kvs:List (κ×V),cG (kvs.map fun kv=>if kv.1=k then (kv.1,y) else kv) j=(cG kvs j).map fun x=>if j=k then y else x
 | []=>rfl
 | p :: r=>by
   have ih:=lH k j y r
   rw [List.map_cons]
   by_cases h:p.1=k
   ·rw [if_pos h]
    by_cases e:p.1=j
    ·rw [bN (p:=(p.1,y)) e,bN e,Option.map_some,if_pos (e.symm.trans h)]
    ·rw [bM (p:=(p.1,y)) e,bM e,ih]
   ·rw [if_neg h]
    by_cases e:p.1=j
    ·rw [bN (p:=p) e,bN e,Option.map_some,if_neg (fun z=>h (e.trans z))]
    ·rw [bM (p:=p) e,bM e,ih]
theorem jJ (k j:κ) (y:V):∀ kvs:List (κ×V),cG kvs k=none→cG (kvs ++ [(k,y)]) j=if j=k then some y else cG kvs j
 | [],_=>by
   by_cases e:k=j
   ·rw [if_pos e.symm];exact bN (p:=(k,y)) e
   ·rw [if_neg (fun z=>e z.symm)];exact bM (p:=(k,y)) e
 | p :: r,hn=>by
   rw [List.cons_append]
   have hk:¬ p.1=k:=fun z=>by rw [bN z] at hn;cases hn
   rw [bM hk] at hn
   have ih:=jJ k j y r hn
   by_cases e:p.1=j
   ·rw [bN e,bN e,if_neg (fun z=>hk (e.trans z))]
   ·rw [bM e,bM e,ih]
theorem lI (kvs:List (κ×V)) (k j:κ) (y:V):cG (putK kvs k y) j=if j=k then some y else cG kvs j:=by
 unfold putK
 by_cases a:(kvs.any fun kv=>decide (kv.1=k))=true
 ·rw [if_pos a,lH]
  rw [fE] at a
  by_cases e:j=k
  ·obtain ⟨x,hx⟩:=Option.isSome_iff_exists.mp a
   rw [if_pos e,e,hx,Option.map_some,if_pos rfl]
  ·rw [if_neg e]
   cases cG kvs j with
   | none=>rfl
   | some x=>rw [Option.map_some,if_neg e]
 ·rw [if_neg a]
  refine jJ k j y kvs ?_
  rw [fE] at a
  cases q:cG kvs k with
  | none=>rfl
  | some x=>rw [q] at a;exact (a rfl).elim
theorem bj (kvs:List (κ×V)) (k:κ) (v:V):(putK kvs k v).length≤kvs.length+1:=by
 unfold putK
 split
 ·rw [List.length_map];omega
 ·rw [List.length_append,List.length_cons,List.length_nil];omega
theorem cC.isSome_eq {o:Option V} {u:Option Value} (r:cC o u):o.isSome=u.isSome:=by
 cases o with
 | none=>cases u with
   | none=>rfl
   | some _=>exact (show False from r).elim
 | some _=>cases u with
   | none=>exact (show False from r).elim
   | some _=>rfl
theorem KV.val {kvs:List (κ×V)} {vs:List (κ×Value)} (r:KV kvs vs) (k:κ):cC (cG kvs k) (valueAt vs k):=by
 unfold KV at r
 induction r with
 | nil=>exact True.intro
 | @cons p q ps qs h t ih=>
   obtain ⟨h1,h2⟩:=h
   by_cases e:p.1=k
   ·have e':q.1=k:=h1.symm.trans e
    have b:valueAt (q :: qs) k=some q.2:=by simp [valueAt,List.find?_cons,e']
    rw [bN e,b];exact h2
   ·have e':¬ q.1=k:=fun z=>e (h1.trans z)
    have b:valueAt (q :: qs) k=valueAt qs k:=by simp [valueAt,List.find?_cons,e']
    rw [bM e,b];exact ih
theorem KV.any {kvs:List (κ×V)} {vs:List (κ×Value)} (r:KV kvs vs) (k:κ):(kvs.any fun kv=>decide (kv.1=k))=vs.any fun kv=>decide (kv.1=k):=by
 unfold KV at r
 induction r with
 | nil=>rfl
 | cons h t ih=>rw [List.any_cons,List.any_cons,ih,h.1]
theorem KV.repl {kvs:List (κ×V)} {vs:List (κ×Value)} (r:KV kvs vs) (k:κ) {y:V} {u:Value} (ry:aX y u) :
 KV (kvs.map fun kv=>if kv.1=k then (kv.1,y) else kv) (vs.map fun kv=>if kv.1=k then (kv.1,u) else kv):=by
 unfold KV at r ⊢
 induction r with
 | nil=>exact .nil
 | @cons p q ps qs h t ih=>
   rw [List.map_cons,List.map_cons]
   refine .cons ?_ ih
   obtain ⟨h1,h2⟩:=h
   by_cases e:p.1=k
   ·rw [if_pos e,if_pos (h1.symm.trans e)];exact ⟨h1,ry⟩
   ·rw [if_neg e,if_neg (fun z=>e (h1.trans z))];exact ⟨h1,h2⟩
theorem KV.put {kvs:List (κ×V)} {vs:List (κ×Value)} (r:KV kvs vs) (k:κ) {y:V} {u:Value} (ry:aX y u):KV (putK kvs k y) (stored vs k u):=by
 unfold putK stored
 rw [r.any k]
 by_cases e:(vs.any fun kv=>decide (kv.1=k))=true
 ·rw [if_pos e,if_pos e];exact r.repl k ry
 ·rw [if_neg e,if_neg e];exact Paired.snoc r ⟨rfl,ry⟩
theorem KV.length {kvs:List (κ×V)} {vs:List (κ×Value)} (r:KV kvs vs):kvs.length=vs.length:=Paired.length r
end
theorem kV_is {P:Program} {w:World} {k:Key} {u:Value} (r:aX (kV k) u):(bK P w).is k u=true:=by
 cases k with
 | inl i=>obtain ⟨t,e⟩:=(show ∃ t,u=Value.int i t from r);subst e;exact lb P w i t
 | inr x=>obtain ⟨t,e⟩:=(show ∃ t,u=Value.str x t from r);subst e;exact lh P w x t
theorem jm {P:Program} {w:World}:∀ {ks:List Key} {us:List Value},aV (ks.map kV) us→ItemsAre (bK P w) ks us
 | [],_,r=>by rw [List.map_nil] at r;cases r;exact .nil
 | k :: ks,_,r=>by
   rw [List.map_cons] at r
   cases r with
   | cons h t=>exact .cons (kV_is h) (jm t)
abbrev KT (H:Hp):List (List Key×V)→List (List Key×Addr×Value)→Prop:=Paired fun p q=>p.1=q.1∧H q.2.1=some (.tup (p.1.map kV))∧aX p.2 q.2.2
theorem KT.val {H:Hp} {kvs:List (List Key×V)} {xs:List (List Key×Addr×Value)} (r:KT H kvs xs) (k:List Key):cC (cG kvs k) ((atKey xs k).map (·.2)):=by
 induction r with
 | nil=>exact True.intro
 | @cons p q ps qs h t ih=>
   obtain ⟨h1,_,h2⟩:=h
   by_cases e:p.1=k
   ·have e':q.1=k:=h1.symm.trans e
    have b:atKey (q :: qs) k=some q.2:=by simp [atKey,List.find?_cons,e']
    rw [bN e,b];exact h2
   ·have e':¬ q.1=k:=fun z=>e (h1.trans z)
    have b:atKey (q :: qs) k=atKey qs k:=by simp [atKey,List.find?_cons,e']
    rw [bM e,b];exact ih
theorem KT.repl {H:Hp} {kvs:List (List Key×V)} {xs:List (List Key×Addr×Value)} (r:KT H kvs xs) (k:List Key) {y:V} {u:Value} (ry:aX y u) :
 KT H (kvs.map fun kv=>if kv.1=k then (kv.1,y) else kv) (xs.map (putAt k u)):=by
 induction r with
 | nil=>exact .nil
 | @cons p q ps qs h t ih=>
   rw [List.map_cons,List.map_cons]
   refine .cons ?_ ih
   obtain ⟨h1,h2,h3⟩:=h
   unfold putAt
   by_cases e:p.1=k
   ·rw [if_pos e,if_pos (h1.symm.trans e)];exact ⟨h1,h2,ry⟩
   ·rw [if_neg e,if_neg (fun z=>e (h1.trans z))];exact ⟨h1,h2,h3⟩
theorem KT.put {H:Hp} {kvs:List (List Key×V)} {xs:List (List Key×Addr×Value)} (r:KT H kvs xs) (k:List Key) {b:Addr} {y:V} {u:Value} (hb:H b=some (.tup (k.map kV))) (ry:aX y u) :
 KT H (putK kvs k y) (storedH xs k b u):=by
 have e:(kvs.any fun kv=>decide (kv.1=k))=(atKey xs k).isSome:=by
  rw [fE,(r.val k).isSome_eq,Option.isSome_map]
 unfold putK storedH
 rw [e]
 by_cases q:(atKey xs k).isSome=true
 ·rw [if_pos q,if_pos q];exact r.repl k ry
 ·rw [if_neg q,if_neg q];exact Paired.snoc r ⟨rfl,hb,ry⟩
theorem KT.keeps {H H':Hp} {kvs:List (List Key×V)} {xs:List (List Key×Addr×Value)} (r:KT H kvs xs) (ht:∀ b ys,H b=some (.tup ys)→H' b=some (.tup ys)):KT H' kvs xs:=
 Paired.mapP r fun _ _ z=>⟨z.1,ht _ _ z.2.1,z.2.2⟩
section
variable {P:Program} {w:World} {H:Hp} {h:Heap} {a:Addr}
theorem rd_of {u:HO} (ok:HOk P w H h) (e:Rd H a u):bp P w H h a u:=e.ok ok
theorem dk_rd {kvs:List (Key×V)} (ok:HOk P w H h) (e:Rd H a (.dK kvs)):kvs.length≤sizeLine∧(a == sysModules)=false∧∃ vs,KV kvs vs∧h.DictOf (bK P w) a vs:=
 show bp P w H h a (.dK kvs) from rd_of ok e
theorem dk_of {kvs:List (Key×V)} (ok:HOk P w H h) (e:H a=some (.dK kvs)):kvs.length≤sizeLine∧(a == sysModules)=false∧∃ vs,KV kvs vs∧h.DictOf (bK P w) a vs:=dk_rd ok (.inl e)
theorem key_of {ks:List Key} (ok:HOk P w H h) (e:H a=some (.tup (ks.map kV))):(tupleKind (bK P w)).is h ks a:=by
 obtain ⟨_,its,r,o,h1,h2,n,h3⟩:=(show bp P w H h a (.tup (ks.map kV)) from ok a _ e)
 exact ⟨o,its.toArray,n,h1,h2,h3,by simpa using jm r⟩
theorem dt_rd {kvs:List (List Key×V)} (ok:HOk P w H h) (e:Rd H a (.dT kvs)):kvs.length≤sizeLine∧(a == sysModules)=false ∧
 ∃ xs,KT H kvs xs∧h.DictOfH (tupleKind (bK P w)) a xs:=by
 obtain ⟨z,y,xs,r,o,es,ep,h1,h2,h3,h4,h5⟩:=(show bp P w H h a (.dT kvs) from rd_of ok e)
 refine ⟨z,y,xs,r,o,es,ep,h1,h2,h3,h4,fun x hx=>?_,h5⟩
 have all:∀ {l:List (List Key×V)} {m:List (List Key×Addr×Value)},KT H l m→∀ x∈m,(tupleKind (bK P w)).is h x.1 x.2.1:=by
  intro l m q
  induction q with
  | nil=>intro x hx;exact nomatch hx
  | @cons p q ps qs hq t ih=>
    intro x hx
    rcases List.mem_cons.mp hx with e | hx
    ·subst e
     exact key_of ok (by rw [← hq.1];exact hq.2.1)
    ·exact ih x hx
 exact all r x hx
theorem dt_of {kvs:List (List Key×V)} (ok:HOk P w H h) (e:H a=some (.dT kvs)):kvs.length≤sizeLine∧(a == sysModules)=false ∧
 ∃ xs,KT H kvs xs∧h.DictOfH (tupleKind (bK P w)) a xs:=dt_rd ok (.inl e)
end
def kz (H:Hp) (a:Addr) (y:V) (r:Option V):Prop:=
 (∃ kvs k,Rd H a (.dK kvs)∧y=kV k∧r=cG kvs k)∨∃ kvs k b,Rd H a (.dT kvs)∧y = .ref b∧H b=some (.tup (k.map kV))∧r=cG kvs k
def hV (H:Hp) (a:Addr) (y v:V) (H':Hp):Prop:=
 (∃ kvs k,H a=some (.dK kvs)∧y=kV k∧kvs.length<sizeLine∧H'=upd H a (.dK (putK kvs k v))) ∨
 ∃ kvs k b,H a=some (.dT kvs)∧y = .ref b∧H b=some (.tup (k.map kV))∧kvs.length<sizeLine∧H'=upd H a (.dT (putK kvs k v))
theorem kz.k {H:Hp} {a:Addr} {kvs:List (Key×V)} {k:Key} (e:H a=some (.dK kvs)):kz H a (kV k) (cG kvs k):=.inl ⟨kvs,k,.inl e,rfl,rfl⟩
theorem hV.k {H:Hp} {a:Addr} {kvs:List (Key×V)} {k:Key} {v:V} (e:H a=some (.dK kvs)) (hl:kvs.length<sizeLine):hV H a (kV k) v (upd H a (.dK (putK kvs k v))):=.inl ⟨kvs,k,e,rfl,hl,rfl⟩
section
variable {X:Cx} {pins:List (Addr×Obj)} {σ:St} {H:Hp} {s:Shared} {a:Addr} {y v:V} {u r:Value} {o:Option V} {A:Around} {E:Value→Shared→Prop}
theorem Inv.big (I:Inv X pins σ H s):sysModules<s.heap.objs.size:=by
 have h:mainGlobals<s.heap.objs.size:=(I.mod.glob.keeps I.bk).lt
 exact Nat.lt_trans (by decide) h
theorem d_getItem {Q:Value→Shared→Prop} (hu:A.units+1<cLine) (I:Inv X pins σ H s) (g:kz H a y (some v)) (ry:aX y u) (h:∀ w' s',Inv X pins σ H s'→aX v w'→Q w' s') :
 wpAny (model X.prog X.w) A (getItem (.ref a) u) Q E s:=by
 rcases g with ⟨kvs,k,e,ey,l⟩ | ⟨kvs,k,b,e,ey,eb,l⟩
 ·subst ey
  obtain ⟨z,hd,vs,rel,dd⟩:=dk_rd I.hok e
  obtain ⟨w',hw,rw'⟩:=cC.some_of (v:=v) (o:=valueAt vs k) (by rw [l];exact rel.val k)
  exact wpAny_getItem_of (kV_is ry) dd.mapOf hw (h w' _ (I.tok _) rw')
 ·subst ey
  cases (show u=Value.ref b from ry)
  obtain ⟨z,hd,xs,rel,dd⟩:=dt_rd I.hok e
  obtain ⟨w',hw,rw'⟩:=cC.some_of (v:=v) (o:=(atKey xs k).map (·.2)) (by rw [l];exact rel.val k)
  obtain ⟨p,hp,hp2⟩:=Option.map_eq_some_iff.mp hw
  refine wpAny_getItem_heap (tupleKind_room_in1 hu) (key_of I.hok eb) dd hp ?_
  rw [hp2]
  exact h w' _ (I.tok _) rw'
theorem d_write {h':Heap} {t':Nat} {ob:HO} (I:Inv X pins σ H s) (mu:Mut (H a)) (hs:Heap.SameBut a s.heap h') (he:∃ q,h'.get? a=some q) (new:bp X.prog X.w (upd H a ob) h' a ob) :
 Inv X pins σ (upd H a ob) { s with heap:=h',toks:=t' }:=
 I.write (x:=a) (e:=a) mu (.inl rfl) (fun b q hb z=>(hs.2 b hb).trans z) he new
theorem dk_new {P:Program} {w:World} {H':Hp} {h':Heap} {kvs:List (Key×V)} {vs:List (Key×Value)} (z:kvs.length≤sizeLine) (hd:(a == sysModules)=false) (rel:KV kvs vs) (dd:h'.DictOf (bK P w) a vs) :
 bp P w H' h' a (.dK kvs):=⟨z,hd,vs,rel,dd⟩
theorem d_setItem {H':Hp} {Q:Unit→Shared→Prop} (hu:A.units+1<cLine) (I:Inv X pins σ H s) (g:hV H a y v H') (ry:aX y u) (rv:aX v r) (h:∀ s',Inv X pins σ H' s'→Q () s') :
 wpAny (model X.prog X.w) A (setItem (.ref a) u r) Q E s:=by
 rcases g with ⟨kvs,k,e,ey,l,eH⟩ | ⟨kvs,k,b,e,ey,eb,l,eH⟩
 ·subst ey eH
  obtain ⟨z,hd,vs,rel,dd⟩:=dk_of I.hok e
  have hz:vs.length≤sizeLine:=by rw [← rel.length];exact z
  have hl:(putK kvs k v).length≤sizeLine:=by have:=bj kvs k v;omega
  refine wpAny_setItem_pairs (hsz:=hz) (kV_is ry) dd fun h' dd' hs=>h _ ?_
  have he:∃ q,h'.get? a=some q:=let ⟨q,_,_,hq,_⟩:=dd';⟨q,hq⟩
  exact d_write I (by rw [e];exact True.intro) hs he (dk_new hl hd (rel.put k rv) dd')
 ·subst ey eH
  cases (show u=Value.ref b from ry)
  obtain ⟨z,hd,xs,rel,dd⟩:=dt_of I.hok e
  have hz:xs.length≤sizeLine:=by rw [← Paired.length rel];exact z
  have hl:(putK kvs k v).length≤sizeLine:=by have:=bj kvs k v;omega
  refine wpAny_setItem_heap (hsz:=hz) (tupleKind_room_in1 hu) (key_of I.hok eb) dd fun h' dd' hs=>h _ ?_
  obtain ⟨q,es,ep,hq,h2,h3,h4,_,h5⟩:=dd'
  refine d_write I (by rw [e];exact True.intro) hs ⟨q,hq⟩ ⟨hl,hd,_,(rel.put k eb rv).keeps fun c ys ec=>?_,q,es,ep,hq,h2,h3,h4,h5⟩
  rw [au (ne_of ec e (fun z=>nomatch z))]
  exact ec
end
def NoSl (i:Expr):Prop:=∀ ov iv,subscripted i false ov iv=operate [ov,iv] (getItem ov iv)
theorem subD_of {prog:Program} {w:World} {A:Around} {E:Value→Shared→Prop} {s:Shared} {env:Env} {value slice:Expr} {pos:Pos} {T id:String} {Q:Value→Shared→Prop}
 (hl:typeLookup (.type T) "__getitem__" = pure (some (.builtin id))) (hs:NoSl slice)
 (h:wpAny (model prog w) A (eval value env) (fun o s₁=>wpAny (model prog w) A (eval slice env) (fun i s₂=>s₂.TypeIs o T∧wpAny (model prog w) A (getItem o i) Q E s₂) E s₁) E s) :
 wpAny (model prog w) A (eval (.Subscript value slice pos) env) Q E s:=by
 refine Subscript_ (wpAny_mono h (fun o s₁ h₁=>wpAny_mono h₁ (fun i s₂ h₂=>?_) fun _ _ x=>x) fun _ _ x=>x)
 obtain ⟨hT,h₂⟩:=h₂
 unfold subscriptTail
 refine wpAny_bind ?_
 rw [getitemInPython_of_ne hT.not_modules]
 refine wpAny_bind (wpAny_specialOf hT hl ?_)
 have fin:wpAny (model prog w) A (subscripted slice false o i) (fun r s₃=>wpAny (model prog w) A (letTemporaryGo value o r >>= fun _=>pure r) Q E s₃) E s₂:=by
  rw [hs o i]
  exact wpAny_operating (wpAny_mono h₂ (fun r s₃ h₃=>wpAny_bind (wpAny_letTemporaryGo (wpAny_pure h₃))) fun _ _ x=>x)
 first
  | exact wpAny_pure (wpAny_bind fin)
  | exact wpAny_bind (wpAny_pure (wpAny_bind fin))
  | exact wpAny_bind fin
theorem kP {X:Cx} {pins:List (Addr×Obj)} {σ:St} {H:Hp} {s:Shared} {a:Addr} {y:V} {o:Option V} (I:Inv X pins σ H s) (g:kz H a y o):s.TypeIs (.ref a) "dict":=by
 rcases g with ⟨kvs,k,e,_,_⟩ | ⟨kvs,k,b,e,_,_,_⟩
 ·obtain ⟨_,_,vs,_,dd⟩:=dk_rd I.hok e
  exact dd.typeIs
 ·obtain ⟨_,_,xs,_,dd⟩:=dt_rd I.hok e
  exact dd.typeIs
def tDGet (td ty:TE):TE:=fun σ H Q=>td σ H fun x H1=>ty σ H1 fun y H2=>∃ a v,x = .ref a∧kz H2 a y (some v)∧Q v H2
def sDPut (td ty tv:TE):TS:=fun D σ H=>tv σ H fun v H1=>td σ H1 fun x H2=>ty σ H2 fun y H3=>∃ a H4,x = .ref a∧hV H3 a y v H4∧D.nx σ H4
section
variable {X:Cx} {o i e value:Expr} {pos pos' tpos:Pos} {td ty tv:TE}
theorem j6 (hu:X.A.units+1<cLine) (ho:PE X o td) (hi:PE X i ty) (hs:NoSl i):PE X (.Subscript o i pos) (tDGet td ty):=by
 intro pins s σ H Q I h
 refine subD_of PySem.F.slot_dict_getitem.lookup hs (thn (ho pins s σ H _ I h) fun u s1 ⟨x,H1,I1,rx,q1⟩=>thn (hi pins s1 σ H1 _ I1 q1) fun iv s2 ⟨y,H2,I2,ry,a,v,ex,g,q2⟩=>?_)
 subst ex
 obtain rfl:u=Value.ref a:=rx
 exact ⟨kP I2 g,d_getItem hu I2 g ry fun w' s3 I3 rw'=>⟨v,H2,I3,rw',q2⟩⟩
theorem dD (hu:X.A.units+1<cLine) (ho:PE X o td) (hi:PE X i ty) (hv:PE X value tv) (hs:swapsWith value (some (.Subscript o i pos')) pos.line X.env=pure false) :
 PS X (.Assign [.Subscript o i pos'] value pos) (sDPut td ty tv):=by
 intro pins s σ H D I h
 refine wpAny_Assign_Subscript (thn (hv pins s σ H _ I h) fun r s1 ⟨v,H1,I1,rv,q1⟩=>thn (ho pins s1 σ H1 _ I1 q1) fun u s2 ⟨x,H2,I2,rx,q2⟩=>thn (hi pins s2 σ H2 _ I2 q2) fun iv s3 ⟨y,H3,I3,ry,a,H4,ex,g,q3⟩=>?_) hs
 subst ex
 obtain rfl:u=Value.ref a:=rx
 exact d_setItem hu I3 g ry rv fun s4 I4=>⟨σ,H4,I4,q3⟩
end
theorem dk_empty {P:Program} {w:World} {H:Hp} (h:Heap) (hb:sysModules<h.objs.size):bp P w H (h.push { cls:=.type "dict",data:=.dict #[] }) h.objs.size (.dK []):=
 ⟨Nat.zero_le _,beq_eq_false_iff_ne.mpr (Ne.symm (Nat.ne_of_lt hb)),[],.nil,Heap.DictOf.new h⟩
def tDNewK:TE:=fun _ H Q=>∀ p,H p=none→Q (.ref p) (upd H p (.dK []))
section
variable {X:Cx} {pos:Pos}
theorem fj:PE X (.Dict [] [] pos) tDNewK:=fun pins s σ H Q I h=>
 wpAny_Dict_empty ⟨.ref s.heap.objs.size,_,I.laid (a:=s.heap.objs.size) (o:=.dK []) (t':=s.toks) (fun _ _ q=>Heap.get?_push_of_some _ q) (Nat.le_refl _) (dk_empty s.heap I.big),rfl,h _ (I.hok.fresh (Nat.le_refl _))⟩
end
end L2
end
section
namespace L2.Bk
open PySem PySem.Spec PyProof.Rows L2.Bw
def Kn.h:Kn→Str
 | .mk h _=>h
def Kn.ks:Kn→List Kn
 | .mk _ ks=>ks
def bS (h:Str):Option Nat:=if h = "whole" then some 0 else if h = "truth" then some 0 else if h = "?" then some 0 else if h = "row" then some 1 else if h = "to" then some 2 else if h = "pair" then some 2 else none
mutual
def Kn.wf:Kn→Prop
 | .mk h ks=>bS h=some ks.length∧Kn.wfs ks
def Kn.wfs:List Kn→Prop
 | []=>True
 | t :: r=>t.wf∧Kn.wfs r
end
theorem eS {h:Str} {n:Nat} (e:bS h=some n):n≤2:=by
 unfold bS at e
 repeat' split at e
 all_goals first | (cases e;omega) | cases e
theorem arity_q {n:Nat} (e:bS "?" = some n):n=0:=by
 have:bS "?" = some 0:=by decide +kernel
 rw [this] at e
 cases e
 rfl
mutual
theorem fG:∀ {t:Kn},t.wf→t.ok
 | .mk _ _,⟨e,hs⟩=>⟨eS e,wfs_oks hs⟩
theorem wfs_oks:∀ {ks:List Kn},Kn.wfs ks→Kn.oks ks
 | [],_=>trivial
 | _ :: _,⟨h,hs⟩=>⟨fG h,wfs_oks hs⟩
end
theorem cL:∀ {ks:List Kn} {i:Nat} (h:i<ks.length),Kn.wfs ks→ks[i].wf
 | _ :: _,0,_,q=>q.1
 | _ :: r,i+1,h,q=>cL (ks:=r) (by simpa using h) q.2
def qK:Kn:=.mk "?" []
theorem wf_q:qK.wf:=⟨by decide +kernel,trivial⟩
mutual
def Kn.join:Kn→Kn→Kn
 | .mk h ks,.mk g ls=>if h=g then .mk h (Kn.joins ks ls) else qK
def Kn.joins:List Kn→List Kn→List Kn
 | t :: r,u :: q=>t.join u :: Kn.joins r q
 | [],_=>[]
 | _ :: _,[]=>[]
end
theorem bO:∀ (ks ls:List Kn),(Kn.joins ks ls).length=min ks.length ls.length
 | [],ls=>by show 0=_;simp
 | _ :: _,[]=>by show 0=_;simp
 | _ :: r,_ :: q=>by show (Kn.joins r q).length+1=_;rw [bO r q];simp
theorem fR:∀ {ks ls:List Kn} {i:Nat} (h1:i<ks.length) (h2:i<ls.length),(Kn.joins ks ls)[i]? = some (ks[i].join ls[i])
 | _ :: _,_ :: _,0,_,_=>rfl
 | _ :: r,_ :: q,i+1,h1,h2=>by
   show (Kn.joins r q)[i]? = _
   exact fR (ks:=r) (ls:=q) (by simpa using h1) (by simpa using h2)
theorem joins_take:∀ {ks ls:List Kn} {i:Nat} (h1:i<ks.length) (h2:i<ls.length),(Kn.joins ks ls).take (i+1)=(Kn.joins ks ls).take i ++ [ks[i].join ls[i]]:=fun {ks ls i} h1 h2=>by
 have hl:i<(Kn.joins ks ls).length:=by rw [bO];omega
 rw [bP hl]
 have e:=fR h1 h2
 rw [List.getElem?_eq_getElem hl] at e
 rw [Option.some.inj e]
mutual
theorem join_wf:∀ {a b:Kn},a.wf→b.wf→(a.join b).wf
 | .mk h ks,.mk g ls,⟨ea,ha⟩,⟨eb,hb⟩=>by
   show (if h=g then Kn.mk h (Kn.joins ks ls) else qK).wf
   by_cases c:h=g
   ·subst c
    rw [if_pos rfl]
    have e:ks.length=ls.length:=by rw [ea] at eb;exact Option.some.inj eb
    exact ⟨by rw [bO,← e,Nat.min_self];exact ea,k8 ha hb⟩
   ·rw [if_neg c];exact wf_q
theorem k8:∀ {ks ls:List Kn},Kn.wfs ks→Kn.wfs ls→Kn.wfs (Kn.joins ks ls)
 | [],_,_,_=>trivial
 | _ :: _,[],_,_=>trivial
 | _ :: _,_ :: _,⟨h,hs⟩,⟨g,gs⟩=>⟨join_wf h g,k8 hs gs⟩
end
mutual
theorem kZ:∀ (a b:Kn),(a.join b).dep≤a.dep
 | .mk h ks,.mk g ls=>by
   show (if h=g then Kn.mk h (Kn.joins ks ls) else qK).dep≤1+Kn.deps ks
   by_cases c:h=g
   ·rw [if_pos c]
    have:=jn ks ls
    show 1+Kn.deps (Kn.joins ks ls)≤_
    omega
   ·rw [if_neg c]
    show 1+0≤_
    omega
theorem jn:∀ (ks ls:List Kn),Kn.deps (Kn.joins ks ls)≤Kn.deps ks
 | [],_=>Nat.le_refl _
 | _ :: _,[]=>Nat.zero_le _
 | t :: r,u :: q=>by
   have h1:=kZ t u
   have h2:=jn r q
   show max (t.join u).dep (Kn.deps (Kn.joins r q))≤max t.dep (Kn.deps r)
   omega
end
end L2.Bk
end
section
namespace PySem
namespace F
theorem z3_typeCall (a b c:Value):checkTypeCall "zip" ⟨[a,b,c],[]⟩=pure ():=by kernel_rfl
theorem z3_newCall (a b c:Value):checkBuiltinCall "zip.__new__" ⟨[.type "zip",a,b,c],[]⟩=pure ():=by kernel_rfl
theorem z3_args_init (a b c d:Value):argsOk "object.__init__" ⟨[a,b,c,d],[]⟩:=by
 unfold argsOk;rw [signature?_of (id:="object.__init__") (n:=['_','_','t','i','n','i','_','_']) (o:=['t','c','e','j','b','o']) (by kernel_rfl) owner_object];kernel_rfl
end F
abbrev Is3 (h:Heap) (T:Addr) (a b c:Value):Prop:=h.get? T=some { cls:=.type "tuple",data:=.seq #[a,b,c] }
section
variable {prog:Program} {w:World} {A:Around} {E:Value→Shared→Prop} {s:Shared}
theorem gy {T:Addr} {a b c x:Value} {k:Nat} {Q:Unit→Shared→Prop} (hT:Is3 s.heap T a b c)
 (h:∀ h',h'.get? T=some { cls:=.type "tuple",data:=.seq ((#[a,b,c]:Array Value).setIfInBounds k x) }→Heap.SameBut T s.heap h'→Q () { s with heap:=h' }):wpAny (model prog w) A (updateSeq T (·.setIfInBounds k x)) Q E s:=by
 refine wpAny_updateSeq hT rfl (h _ ?_ (Heap.SameBut.update ..));rw [Heap.get?_update_self _ hT rfl];simp [Obj.mapSeq]
theorem gM {it t:Addr} {i:Nat} {items} {x:Value} {Q:Value→Shared→Prop} (hit:s.heap.IsTupleIter it t i) (ht:s.heap.IsTuple t items) (hx:items[i]? = some x)
 (hQ:∀ h',h'.IsTupleIter it t (i+1)→Heap.SameBut it s.heap h'→Q x { s with heap:=h' }):wpAny (model prog w) A (Builtin.SmallTypes.nextOf (.ref it)) Q E s:=by
 obtain ⟨o,ho,hc,hd⟩:=id hit
 obtain ⟨ol,hol,_,nl,hdl⟩:=ht
 unfold Builtin.SmallTypes.nextOf
 refine wpAny_bind (wpAny_callSpecial?_slot (name:=Str.ofString "__next__") hit.typeIs F.slot_tuple_iterator_next (wpAny_call_entry F.slot_tuple_iterator_next hit.typeIs F.entry_tuple_iterator_next ?_ (F.args_tuple_iterator_next_1 _)))
 show wpAny _ _ (field (.ref it) 0 >>= _) _ _ s;refine wpAny_bind (wpAny_field ho hd (x:=.ref t) rfl ?_)
 show wpAny _ _ (if (Value.ref t == Value.none)=true then _ else _) _ _ s;rw [if_neg (show ¬ ((Value.ref t == Value.none)=true) from Bool.false_ne_true)]
 show wpAny _ _ (field (.ref it) 1 >>= _) _ _ s;refine wpAny_bind (wpAny_field ho hd (x:=.int i 0) rfl ?_)
 show wpAny _ _ (seqItems? (.ref t) >>= _) _ _ s;refine wpAny_bind (wpAny_seqItems hol hdl ?_);simp only [Int.toNat_natCast,hx]
 refine wpAny_bind (wpAny_setField ho hd (by simp) (wpAny_pure ⟨x,rfl,wpAny_pure (hQ _ ?_ (Heap.SameBut.update ..))⟩))
 exact ⟨_,Heap.get?_update_self _ ho (Obj.isFreed_of_fields (Obj.data_mapFields hd _)),(Obj.cls_mapFields ..).trans hc,by rw [Obj.data_mapFields hd];simp [rawInt]⟩
theorem iK {it t:Addr} {i:Nat} {items} {Q:Value→Shared→Prop} (hh:A.handled=none) (hit:s.heap.IsTupleIter it t i) (ht:s.heap.IsTuple t items) (hx:items[i]? = none)
 (hE:∀ h' e,Heap.ExtBut it s.heap h'→(∃ o,h'.get? e=some o∧o.cls = .type "StopIteration")→E (.ref e) { s with heap:=h' }):wpAny (model prog w) A (Builtin.SmallTypes.nextOf (.ref it)) Q E s:=by
 obtain ⟨o,ho,hc,hd⟩:=id hit
 obtain ⟨ol,hol,_,nl,hdl⟩:=ht
 unfold Builtin.SmallTypes.nextOf
 refine wpAny_bind (wpAny_callSpecial?_slot (name:=Str.ofString "__next__") hit.typeIs F.slot_tuple_iterator_next (wpAny_call_entry F.slot_tuple_iterator_next hit.typeIs F.entry_tuple_iterator_next ?_ (F.args_tuple_iterator_next_1 _)))
 show wpAny _ _ (field (.ref it) 0 >>= _) _ _ s;refine wpAny_bind (wpAny_field ho hd (x:=.ref t) rfl ?_)
 show wpAny _ _ (if (Value.ref t == Value.none)=true then _ else _) _ _ s;rw [if_neg (show ¬ ((Value.ref t == Value.none)=true) from Bool.false_ne_true)]
 show wpAny _ _ (field (.ref it) 1 >>= _) _ _ s;refine wpAny_bind (wpAny_field ho hd (x:=.int i 0) rfl ?_)
 show wpAny _ _ (seqItems? (.ref t) >>= _) _ _ s;refine wpAny_bind (wpAny_seqItems hol hdl ?_);simp only [Int.toNat_natCast,hx]
 refine wpAny_bind (wpAny_rule (wpAny_bind (wpAny_setField ho hd (by simp) ?_)));show wpAny _ _ (newExc (.type "StopIteration") [] >>= _) _ _ _
 refine wpAny_bind ?_;simp only [newExc,newTuple];refine wpAny_bind (wpAny_newObj_type ?_ (by size_fits))
 refine wpAny_bind (m:=firstArgMember _ _) (wpAny_of_eq (a:=Value.none) (by first | rfl | (simp only [firstArgMember];rfl)) ?_);refine wpAny_newObj_type ?_ (by size_fits)
 simp only [raiseNew];refine wpAny_bind (wpAny_handled ?_);first | rw [show A.in1.handled=none from hh] | rw [hh]
 refine wpAny_bind (wpAny_pure (wpAny_throw ?_));exact hE _ _ (((Heap.SameBut.update ..).extBut.push _).push _) ⟨_,Heap.get?_push_size _ rfl,rfl⟩
structure Z3 (z TI TO i1 i2 i3 t b c:Addr):Prop where
 TIz:TI≠z
 TOz:TO≠z
 i1z:i1≠z
 i2z:i2≠z
 i3z:i3≠z
 TITO:TI≠TO
 TIi1:TI≠i1
 TIi2:TI≠i2
 TIi3:TI≠i3
 TOi1:TO≠i1
 TOi2:TO≠i2
 TOi3:TO≠i3
 i12:i1≠i2
 i13:i1≠i3
 i23:i2≠i3
 tz:t≠z
 tTO:t≠TO
 ti1:t≠i1
 ti2:t≠i2
 ti3:t≠i3
 bz:b≠z
 bTO:b≠TO
 bi1:b≠i1
 bi2:b≠i2
 bi3:b≠i3
 cz:c≠z
 cTO:c≠TO
 ci1:c≠i1
 ci2:c≠i2
 ci3:c≠i3
theorem z3_item {z TI TO i1 i2 i3 t b c:Addr} {k:Nat} {xs ys zs:Array Value} {x y v a0 b0 c0:Value} {Q:Value→Shared→Prop} (D:Z3 z TI TO i1 i2 i3 t b c) (hz:IsZip s.heap z TI TO .none) (hTI:Is3 s.heap TI (.ref i1) (.ref i2) (.ref i3)) (hTO:Is3 s.heap TO a0 b0 c0)
 (h1:s.heap.IsTupleIter i1 t k) (h2:s.heap.IsListIter i2 b k) (h3:s.heap.IsListIter i3 c k) (hl1:s.heap.IsTuple t xs) (hl2:s.heap.IsList b ys) (hl3:s.heap.IsList c zs) (hx:xs[k]? = some x) (hy:ys[k]? = some y) (hv:zs[k]? = some v)
 (hQ:∀ h',IsZip h' z TI TO (rawInt s.heap.objs.size)→Is3 h' TO x y v→h'.IsTupleIter i1 t (k+1)→h'.IsListIter i2 b (k+1)→h'.IsListIter i3 c (k+1)→Is3 h' s.heap.objs.size x y v→h'.objs.size=s.heap.objs.size+1 →
  (∀ d o,d≠z→d≠TO→d≠i1→d≠i2→d≠i3→s.heap.get? d=some o→h'.get? d=some o)→Q (.ref s.heap.objs.size) { s with heap:=h' }) :
 wpAny (model prog w) A (Builtin.«zip.__next__» ⟨[.ref z],[]⟩) (fun fin s'=>∃ v,fin = .done (.ret v)∧Q v s') E s:=by
 show wpAny _ _ (field (.ref z) 2 >>= _) _ _ _;refine wpAny_bind (wpAny_field hz rfl (x:=.bool false) rfl ?_)
 show wpAny _ _ (field (.ref z) 3 >>= _) _ _ _;refine wpAny_bind (wpAny_field hz rfl (x:=.ref TI) rfl ?_)
 refine wpAny_bind (wpAny_seqItems hTI rfl ?_);show wpAny _ _ (Builtin.SmallTypes.ownedTupleIsFree (.ref z) >>= _) _ _ _
 refine wpAny_bind ?_;unfold Builtin.SmallTypes.ownedTupleIsFree;refine wpAny_bind (wpAny_field hz rfl (x:=.none) rfl (wpAny_pure ?_));simp only [if_true]
 refine wpAny_bind (wpAny_rule ?_);refine wpAny_bind (wpAny_field hz rfl (x:=.ref TO) rfl ?_);refine wpAny_bind (wpAny_setField_rec hz (by simp) fun h₁ hz₁ hs₁=>?_)
 replace hz₁:IsZip h₁ z TI TO .ellipsis:=hz₁
 refine wpAny_bind ?_;simp only [List.zipIdx_cons,List.zipIdx_nil,List.forIn_cons,List.forIn_nil]
 refine wpAny_bind (wpAny_bind (wpAny_onRaise ?_));show wpAny _ _ (Builtin.SmallTypes.nextOf (.ref i1) >>= _) _ _ _
 refine wpAny_bind (gM (h1.extBut hs₁.extBut D.i1z) (hl1.extBut hs₁.extBut D.tz) hx fun h₂ h1₂ hs₂=>wpAny_pure ?_)
 have hTO₂:Is3 h₂ TO a0 b0 c0:=hs₂.extBut _ _ D.TOi1 (hs₁.extBut _ _ D.TOz hTO)
 refine wpAny_bind (wpAny_seqItems hTO₂ rfl ?_);refine wpAny_bind (gy hTO₂ fun h₃ hTO₃ hs₃=>?_)
 replace hTO₃:Is3 h₃ TO x b0 c0:=hTO₃
 refine wpAny_bind (wpAny_letGo (wpAny_pure ?_));refine wpAny_bind (wpAny_bind (wpAny_onRaise ?_));show wpAny _ _ (Builtin.SmallTypes.nextOf (.ref i2) >>= _) _ _ _
 refine wpAny_bind (wpAny_nextOf_list_item (((h2.extBut hs₁.extBut D.i2z).extBut hs₂.extBut D.i12.symm).extBut hs₃.extBut D.TOi2.symm) (((hl2.extBut hs₁.extBut D.bz).extBut hs₂.extBut D.bi1).extBut hs₃.extBut D.bTO) hy fun h₄ h2₄ hs₄=>wpAny_pure ?_)
 have hTO₄:Is3 h₄ TO x b0 c0:=hs₄.extBut _ _ D.TOi2 hTO₃
 refine wpAny_bind (wpAny_seqItems hTO₄ rfl ?_);refine wpAny_bind (gy hTO₄ fun h₅ hTO₅ hs₅=>?_)
 replace hTO₅:Is3 h₅ TO x y c0:=hTO₅
 refine wpAny_bind (wpAny_letGo (wpAny_pure ?_));refine wpAny_bind (wpAny_bind (wpAny_onRaise ?_));show wpAny _ _ (Builtin.SmallTypes.nextOf (.ref i3) >>= _) _ _ _
 refine wpAny_bind (wpAny_nextOf_list_item (((((h3.extBut hs₁.extBut D.i3z).extBut hs₂.extBut D.i13.symm).extBut hs₃.extBut D.TOi3.symm).extBut hs₄.extBut D.i23.symm).extBut hs₅.extBut D.TOi3.symm)
  (((((hl3.extBut hs₁.extBut D.cz).extBut hs₂.extBut D.ci1).extBut hs₃.extBut D.cTO).extBut hs₄.extBut D.ci2).extBut hs₅.extBut D.cTO) hv fun h₆ h3₆ hs₆=>wpAny_pure ?_)
 have hTO₆:Is3 h₆ TO x y c0:=hs₆.extBut _ _ D.TOi3 hTO₅
 refine wpAny_bind (wpAny_seqItems hTO₆ rfl ?_);refine wpAny_bind (gy hTO₆ fun h₇ hTO₇ hs₇=>?_)
 replace hTO₇:Is3 h₇ TO x y v:=hTO₇
 refine wpAny_bind (wpAny_letGo (wpAny_pure (wpAny_pure ?_)));refine wpAny_bind (wpAny_seqItems hTO₇ rfl ?_);refine wpAny_bind (wpAny_newTuple ?_)
 have hsz:h₇.objs.size=s.heap.objs.size:=by rw [hs₇.1,hs₆.1,hs₅.1,hs₄.1,hs₃.1,hs₂.1,hs₁.1]
 have hz₇:IsZip h₇ z TI TO .ellipsis:=hs₇.extBut _ _ D.TOz.symm (hs₆.extBut _ _ D.i3z.symm (hs₅.extBut _ _ D.TOz.symm (hs₄.extBut _ _ D.i2z.symm (hs₃.extBut _ _ D.TOz.symm (hs₂.extBut _ _ D.i1z.symm hz₁)))))
 have hk₇:∀ d o,d≠z→d≠TO→d≠i1→d≠i2→d≠i3→s.heap.get? d=some o→h₇.get? d=some o:=fun d o c1 c2 c3 c4 c5 e=>
  hs₇.extBut _ _ c2 (hs₆.extBut _ _ c5 (hs₅.extBut _ _ c2 (hs₄.extBut _ _ c4 (hs₃.extBut _ _ c2 (hs₂.extBut _ _ c3 (hs₁.extBut _ _ c1 e))))))
 have h1₇:h₇.IsTupleIter i1 t (k+1):=((((h1₂.extBut hs₃.extBut D.TOi1.symm).extBut hs₄.extBut D.i12).extBut hs₅.extBut D.TOi1.symm).extBut hs₆.extBut D.i13).extBut hs₇.extBut D.TOi1.symm
 have h2₇:h₇.IsListIter i2 b (k+1):=((h2₄.extBut hs₅.extBut D.TOi2.symm).extBut hs₆.extBut D.i23).extBut hs₇.extBut D.TOi2.symm
 have h3₇:h₇.IsListIter i3 c (k+1):=h3₆.extBut hs₇.extBut D.TOi3.symm
 have hzlt:z<h₇.objs.size:=Heap.lt_size hz₇
 show wpAny _ _ (Builtin.SmallTypes.ownedTupleHandOut (.ref z) (.ref h₇.objs.size) >>= _) _ _ _
 refine wpAny_bind ?_;unfold Builtin.SmallTypes.ownedTupleHandOut
 have hz₈:IsZip (h₇.push { cls:=.type "tuple",data:=.seq #[x,y,v] }) z TI TO .ellipsis:=Heap.get?_push_of_some _ hz₇
 refine wpAny_bind (wpAny_setField_rec hz₈ (by simp) fun h₉ hz₉ hs₉=>?_)
 replace hz₉:IsZip h₉ z TI TO (rawInt h₇.objs.size):=hz₉
 refine wpAny_setField_rec hz₉ (by simp) fun hA hzA hsA=>?_
 replace hzA:IsZip hA z TI TO (rawInt h₇.objs.size):=hzA
 have up:∀ d o,d≠z→h₇.get? d=some o→hA.get? d=some o:=fun d o c1 e=>hsA.extBut _ _ c1 (hs₉.extBut _ _ c1 (Heap.get?_push_of_some _ e))
 have hTA:Is3 hA h₇.objs.size x y v:=hsA.extBut _ _ (Nat.ne_of_gt hzlt) (hs₉.extBut _ _ (Nat.ne_of_gt hzlt) (Heap.get?_push_size _ rfl))
 have hzA8:hA.objs.size=h₇.objs.size+1:=by rw [hsA.1,hs₉.1,Heap.size_push]
 rw [hsz] at hzA hTA hzA8
 refine wpAny_pure ⟨_,rfl,?_⟩
 show Q (.ref h₇.objs.size) _
 rw [hsz]
 exact hQ hA hzA (up _ _ D.TOz hTO₇) (h1₇.at fun o e=>up _ o D.i1z e) (h2₇.at fun o e=>up _ o D.i2z e) (h3₇.at fun o e=>up _ o D.i3z e) hTA hzA8 fun d o c1 c2 c3 c4 c5 e=>up d o c1 (hk₇ d o c1 c2 c3 c4 c5 e)
theorem z3_end {z TI TO i1 i2 i3 t b c:Addr} {k:Nat} {xs:Array Value} {Q:Fin→Shared→Prop} (hh:A.handled=none) (D:Z3 z TI TO i1 i2 i3 t b c) (hz:IsZip s.heap z TI TO .none) (hTI:Is3 s.heap TI (.ref i1) (.ref i2) (.ref i3))
 (h1:s.heap.IsTupleIter i1 t k) (hl1:s.heap.IsTuple t xs) (hx:xs[k]? = none)
 (hE:∀ h' e,(∀ d o,d≠z→d≠i1→s.heap.get? d=some o→h'.get? d=some o)→(∃ o,h'.get? e=some o∧o.cls = .type "StopIteration")→E (.ref e) { s with heap:=h' }) :
 wpAny (model prog w) A (Builtin.«zip.__next__» ⟨[.ref z],[]⟩) Q E s:=by
 show wpAny _ _ (field (.ref z) 2 >>= _) _ _ _;refine wpAny_bind (wpAny_field hz rfl (x:=.bool false) rfl ?_)
 show wpAny _ _ (field (.ref z) 3 >>= _) _ _ _;refine wpAny_bind (wpAny_field hz rfl (x:=.ref TI) rfl ?_)
 refine wpAny_bind (wpAny_seqItems hTI rfl ?_);show wpAny _ _ (Builtin.SmallTypes.ownedTupleIsFree (.ref z) >>= _) _ _ _
 refine wpAny_bind ?_;unfold Builtin.SmallTypes.ownedTupleIsFree;refine wpAny_bind (wpAny_field hz rfl (x:=.none) rfl (wpAny_pure ?_));simp only [if_true]
 refine wpAny_bind (wpAny_rule ?_);refine wpAny_bind (wpAny_field hz rfl (x:=.ref TO) rfl ?_);refine wpAny_bind (wpAny_setField_rec hz (by simp) fun h₁ hz₁ hs₁=>?_)
 replace hz₁:IsZip h₁ z TI TO .ellipsis:=hz₁
 refine wpAny_bind ?_;simp only [List.zipIdx_cons,List.zipIdx_nil,List.forIn_cons,List.forIn_nil]
 refine wpAny_bind (wpAny_bind (wpAny_onRaise ?_));show wpAny _ _ (Builtin.SmallTypes.nextOf (.ref i1) >>= _) _ _ _
 refine wpAny_bind (iK hh (h1.extBut hs₁.extBut D.i1z) (hl1.extBut hs₁.extBut D.tz) hx fun h₂ e hs₂ he=>?_)
 obtain ⟨oe,hoe,hce⟩:=he
 have hz₂:IsZip h₂ z TI TO .ellipsis:=hs₂ _ _ D.i1z.symm hz₁
 have hez:e≠z:=fun x=>by subst x;rw [hz₂] at hoe;cases hoe;simp at hce
 exact wpAny_setField_rec hz₂ (by simp) fun h₃ _ hs₃=>hE h₃ e (fun d o c1 c3 x=>hs₃.extBut _ _ c1 (hs₂ _ _ c3 (hs₁.extBut _ _ c1 x))) ⟨oe,hs₃.extBut _ _ hez hoe,hce⟩
theorem iN {z TI TO i1 i2 i3 t b c:Addr} {k:Nat} {xs ys zs:Array Value} {x y v a0 b0 c0:Value} {Q:Option Value→Shared→Prop} (D:Z3 z TI TO i1 i2 i3 t b c) (hz:IsZip s.heap z TI TO .none) (hTI:Is3 s.heap TI (.ref i1) (.ref i2) (.ref i3)) (hTO:Is3 s.heap TO a0 b0 c0)
 (h1:s.heap.IsTupleIter i1 t k) (h2:s.heap.IsListIter i2 b k) (h3:s.heap.IsListIter i3 c k) (hl1:s.heap.IsTuple t xs) (hl2:s.heap.IsList b ys) (hl3:s.heap.IsList c zs) (hx:xs[k]? = some x) (hy:ys[k]? = some y) (hv:zs[k]? = some v)
 (hQ:∀ h',IsZip h' z TI TO (rawInt s.heap.objs.size)→Is3 h' TO x y v→h'.IsTupleIter i1 t (k+1)→h'.IsListIter i2 b (k+1)→h'.IsListIter i3 c (k+1)→Is3 h' s.heap.objs.size x y v→h'.objs.size=s.heap.objs.size+1 →
  (∀ d o,d≠z→d≠TO→d≠i1→d≠i2→d≠i3→s.heap.get? d=some o→h'.get? d=some o)→Q (some (.ref s.heap.objs.size)) { s with heap:=h' }):wpAny (model prog w) A (pyNext (.ref z)) Q E s:=by
 have hT:s.TypeIs (.ref z) "zip":=⟨_,hz,rfl⟩
 unfold pyNext
 exact wpAny_bind (wpAny_attempt (wpAny_callSpecial?_slot (name:=Str.ofString "__next__") hT F.slot_zip_next (wpAny_call_entry F.slot_zip_next hT F.entry_zip_next
  (z3_item D hz hTI hTO h1 h2 h3 hl1 hl2 hl3 hx hy hv fun h' a1 a2 a3 a4 a5 a6 a7 a8=>wpAny_pure (hQ h' a1 a2 a3 a4 a5 a6 a7 a8)) (F.args_zip_next_1 _))))
theorem iT {z TI TO i1 i2 i3 t b c:Addr} {k:Nat} {xs:Array Value} {Q:Option Value→Shared→Prop} (hh:A.handled=none) (D:Z3 z TI TO i1 i2 i3 t b c) (hz:IsZip s.heap z TI TO .none) (hTI:Is3 s.heap TI (.ref i1) (.ref i2) (.ref i3))
 (h1:s.heap.IsTupleIter i1 t k) (hl1:s.heap.IsTuple t xs) (hx:xs[k]? = none) (hQ:∀ h',(∀ d o,d≠z→d≠i1→s.heap.get? d=some o→h'.get? d=some o)→Q none { s with heap:=h' }):wpAny (model prog w) A (pyNext (.ref z)) Q E s:=by
 have hT:s.TypeIs (.ref z) "zip":=⟨_,hz,rfl⟩
 unfold pyNext
 refine wpAny_bind (wpAny_attempt (wpAny_callSpecial?_slot (name:=Str.ofString "__next__") hT F.slot_zip_next (wpAny_call_entry F.slot_zip_next hT F.entry_zip_next (z3_end hh D hz hTI h1 hl1 hx fun h' e hk he=>?_) (F.args_zip_next_1 _))))
 obtain ⟨o,ho,hc⟩:=he
 refine wpAny_bind (wpAny_isInstance (T:="StopIteration") (b:=true) ⟨o,ho,hc⟩ isSubtype_stop ?_)
 exact wpAny_pure (hQ _ hk)
end
end PySem
end
section
namespace PySem
abbrev z3H1 (h:Heap) (t:Addr):Heap:=h.push { cls:=.type "tuple_iterator",data:=.fields #[.ref t,.int 0 0] }
abbrev z3H2 (h:Heap) (t b:Addr):Heap:=(z3H1 h t).push { cls:=.type "list_iterator",data:=.fields #[.ref b,.int 0 0] }
abbrev z3H3 (h:Heap) (t b c:Addr):Heap:=(z3H2 h t b).push { cls:=.type "list_iterator",data:=.fields #[.ref c,.int 0 0] }
abbrev z3H4 (h:Heap) (t b c:Addr):Heap:=(z3H3 h t b c).push { cls:=.type "tuple",data:=.seq #[.ref h.objs.size,.ref (z3H1 h t).objs.size,.ref (z3H2 h t b).objs.size] }
abbrev z3H5 (h:Heap) (t b c:Addr):Heap:=(z3H4 h t b c).push { cls:=.type "tuple",data:=.seq #[.none,.none,.none] }
abbrev z3H6 (h:Heap) (t b c:Addr):Heap:=(z3H5 h t b c).push { cls:=.type "zip",data:=.fields #[.none,.bool false,.bool false,.ref (z3H3 h t b c).objs.size,.ref (z3H4 h t b c).objs.size] }
theorem z3_new (t b c:Addr) (xs ys zs:Array Value) :
 Meets (Builtin.«zip.__new__» ⟨[.type "zip",.ref t,.ref b,.ref c],[]⟩) (fun _ R s=>s.heap.IsTuple t xs∧s.heap.IsList b ys∧s.heap.IsList c zs∧R (.ok (.ret (.ref (z3H5 s.heap t b c).objs.size))) { s with heap:=z3H6 s.heap t b c }):=
 .of_wp fun prog w A R s h=>by
  obtain ⟨hp,g,d,tk,os⟩:=s;obtain ⟨hl1,hl2,hl3,h⟩:=h
  have hsub:=sub_zip
  have hL1:Heap.IsTuple (Shared.heap ⟨hp,g,d,tk,os⟩) t xs:=hl1
  have hL2:Heap.IsList (Shared.heap ⟨hp.push { cls:=.type "tuple_iterator",data:=.fields #[.ref t,.int 0 0] },g,d,tk,os⟩) b ys:=Heap.IsList.push hl2 _
  have hL3:Heap.IsList (Shared.heap ⟨(hp.push { cls:=.type "tuple_iterator",data:=.fields #[.ref t,.int 0 0] }).push { cls:=.type "list_iterator",data:=.fields #[.ref b,.int 0 0] },g,d,tk,os⟩) c zs:=Heap.IsList.push (Heap.IsList.push hl3 _) _
  wp_walk using wpAny_pyIter_tuple hL1,wpAny_pyIter_list hL2,wpAny_pyIter_list hL3
  exact ⟨_,rfl,h⟩
section
variable {prog:Program} {w:World} {A:Around} {E:Value→Shared→Prop} {s:Shared}
theorem call_zip_3 {t b c:Addr} {xs ys zs:Array Value} {Q:Value→Shared→Prop} (hl1:s.heap.IsTuple t xs) (hl2:s.heap.IsList b ys) (hl3:s.heap.IsList c zs)
 (h:∀ h',IsZip h' (s.heap.objs.size+5) (s.heap.objs.size+3) (s.heap.objs.size+4) .none→Is3 h' (s.heap.objs.size+3) (.ref s.heap.objs.size) (.ref (s.heap.objs.size+1)) (.ref (s.heap.objs.size+2)) →
  Is3 h' (s.heap.objs.size+4) .none .none .none→h'.IsTupleIter s.heap.objs.size t 0→h'.IsListIter (s.heap.objs.size+1) b 0→h'.IsListIter (s.heap.objs.size+2) c 0→(∀ d o,s.heap.get? d=some o→h'.get? d=some o)→Q (.ref (s.heap.objs.size+5)) { s with heap:=h' }) :
 wpAny (model prog w) A (call (.type "zip") [.ref t,.ref b,.ref c]) Q E s:=by
 refine callType_new F.called_zip (by decide) (F.z3_typeCall _ _ _) (F.z3_newCall _ _ _) (fun obj=>F.z3_args_init obj _ _ _) F.entry_zip_new (z3_new t b c xs ys zs) ⟨hl1,hl2,hl3,?_⟩
 have z1:(z3H1 s.heap t).objs.size=s.heap.objs.size+1:=Heap.size_push ..
 have z2:(z3H2 s.heap t b).objs.size=s.heap.objs.size+2:=by rw [Heap.size_push,z1]
 have z3:(z3H3 s.heap t b c).objs.size=s.heap.objs.size+3:=by rw [Heap.size_push,z2]
 have z4:(z3H4 s.heap t b c).objs.size=s.heap.objs.size+4:=by rw [Heap.size_push,z3]
 have z5:(z3H5 s.heap t b c).objs.size=s.heap.objs.size+5:=by rw [Heap.size_push,z4]
 have g6:(z3H6 s.heap t b c).get? (z3H5 s.heap t b c).objs.size=some _:=Heap.get?_push_size _ rfl
 have g5:(z3H6 s.heap t b c).get? (z3H4 s.heap t b c).objs.size=some _:=Heap.get?_push_of_some _ (Heap.get?_push_size _ rfl)
 have g4:(z3H6 s.heap t b c).get? (z3H3 s.heap t b c).objs.size=some _:=Heap.get?_push_of_some _ (Heap.get?_push_of_some _ (Heap.get?_push_size _ rfl))
 have g3:(z3H6 s.heap t b c).get? (z3H2 s.heap t b).objs.size=some _:=Heap.get?_push_of_some _ (Heap.get?_push_of_some _ (Heap.get?_push_of_some _ (Heap.get?_push_size _ rfl)))
 have g2:(z3H6 s.heap t b c).get? (z3H1 s.heap t).objs.size=some _:=Heap.get?_push_of_some _ (Heap.get?_push_of_some _ (Heap.get?_push_of_some _ (Heap.get?_push_of_some _ (Heap.get?_push_size _ rfl))))
 have g1:(z3H6 s.heap t b c).get? s.heap.objs.size=some _:=Heap.get?_push_of_some _ (Heap.get?_push_of_some _ (Heap.get?_push_of_some _ (Heap.get?_push_of_some _ (Heap.get?_push_of_some _ (Heap.get?_push_size _ rfl)))))
 show _∧_
 rw [z3,z4,z5] at g6
 rw [z1,z2,z3] at g4
 rw [z4] at g5
 rw [z2] at g3
 rw [z1] at g2
 rw [z5]
 exact ⟨⟨_,g6,rfl⟩,h _ g6 g4 g5 ⟨_,g1,rfl,rfl⟩ ⟨_,g2,rfl,rfl⟩ ⟨_,g3,rfl,rfl⟩ fun d o x=>Heap.get?_push_of_some _ (Heap.get?_push_of_some _ (Heap.get?_push_of_some _ (Heap.get?_push_of_some _ (Heap.get?_push_of_some _ (Heap.get?_push_of_some _ x)))))⟩
end
end PySem
namespace L2.Bk
open PySem PySem.Spec PyProof.Rows L2.Bw
theorem off_ofT {X:Cx} {pins:List (Addr×Obj)} {σ:St} {H:Hp} {s:Shared} (I:Inv X pins σ H s) {c l:Addr} {us:List V} (f:dH X pins H c) (hq:SqT X.K H l us):l≠c:=fun e=>by
 subst e
 rcases hq with q | q
 ·rcases q with q | ⟨o,q⟩
  ·rw [f.1] at q;cases q
  ·rw [f.1] at q;cases q
 ·obtain ⟨o,its,n,q,_⟩:=q
  have bk:=I.ok.mod.kin _ _ q
  rcases f.2.2.2.1 with f | f
  ·exact I.ok.noex _ _ bk f
  ·exact absurd (Nat.lt_of_lt_of_le (Heap.lt_size bk) (Nat.le_trans I.ok.bsz f)) (Nat.lt_irrefl _)
def Apart6 (z TI TO i1 i2 i3:Addr):Prop:=z≠TI∧z≠TO∧z≠i1∧z≠i2∧z≠i3∧TI≠TO∧TI≠i1∧TI≠i2∧TI≠i3∧TO≠i1∧TO≠i2∧TO≠i3∧i1≠i2∧i1≠i3∧i2≠i3
theorem lK {z TI TO i1 i2 i3 t b c:Addr} (h:Apart6 z TI TO i1 i2 i3) (ha:∀ d∈[z,TI,TO,i1,i2,i3],t≠d) (hb:∀ d∈[z,TI,TO,i1,i2,i3],b≠d) (hc:∀ d∈[z,TI,TO,i1,i2,i3],c≠d):Z3 z TI TO i1 i2 i3 t b c:=by
 obtain ⟨h1,h2,h3,h4,h5,h6,h7,h8,h9,h10,h11,h12,h13,h14,h15⟩:=h
 simp only [List.mem_cons,List.not_mem_nil,or_false,forall_eq_or_imp,forall_eq] at ha hb hc
 obtain ⟨a1,a2,a3,a4,a5,a6⟩:=ha
 obtain ⟨b1,b2,b3,b4,b5,b6⟩:=hb
 obtain ⟨c1,c2,c3,c4,c5,c6⟩:=hc
 constructor <;> first | assumption | exact Ne.symm (by assumption)
def It3 (K:W.Frag) (t b c:Addr):It where
 go:=fun i H=>∃ us xs ys,SqT K H t us∧SqL K H b xs∧SqL K H c ys∧i<us.length∧i<xs.length∧i<ys.length
 yld:=fun i H v H'=>∃ T u x y,v = .ref T∧H T=none∧H'=upd H T (.tup [u,x,y])∧(∀ us,SqT K H t us→us[i]? = some u)∧(∀ xs,SqL K H b xs→xs[i]? = some x)∧∀ ys,SqL K H c ys→ys[i]? = some y
 stop:=fun i H=>∃ us xs ys,SqT K H t us∧SqL K H b xs∧SqL K H c ys∧i=us.length
theorem turn_zip3 {P:Program} {w:World} {K:W.Frag} {es:List Expr} {k:Nat} {tp:Pos} (t b c z TI TO i1 i2 i3:Addr) (hap:Apart6 z TI TO i1 i2 i3) :
 iP P w K (.Tuple es k tp) (It3 K t b c) [z,TI,TO,i1,i2,i3] z (fun i h=>IsZip h z TI TO .none∧Is3 h TI (.ref i1) (.ref i2) (.ref i3)∧(∃ u v x,Is3 h TO u v x)∧h.IsTupleIter i1 t i∧h.IsListIter i2 b i∧h.IsListIter i3 c i) where
 mem:=by simp
 obj:=fun i h st d hd=>by
  obtain ⟨h1,h2,⟨u,v,x,h3⟩,⟨o4,e4,c4,d4⟩,⟨o5,e5,c5,d5⟩,⟨o6,e6,c6,d6⟩⟩:=st
  have hd':d=z∨d=TI∨d=TO∨d=i1∨d=i2∨d=i3:=by simpa using hd
  rcases hd' with rfl | rfl | rfl | rfl | rfl | rfl
  ·exact ⟨_,h1,fun v q=>by cases (show Data.fields _=Data.cell v from q)⟩
  ·exact ⟨_,h2,fun v q=>by cases (show Data.seq _ _=Data.cell v from q)⟩
  ·exact ⟨_,h3,fun v q=>by cases (show Data.seq _ _=Data.cell v from q)⟩
  ·exact ⟨o4,e4,fun v q=>by rw [d4] at q;cases q⟩
  ·exact ⟨o5,e5,fun v q=>by rw [d5] at q;cases q⟩
  ·exact ⟨o6,e6,fun v q=>by rw [d6] at q;cases q⟩
 keep:=fun i h h' st kp=>by
  obtain ⟨h1,h2,⟨u,v,x,h3⟩,h4,h5,h6⟩:=st
  exact ⟨kp z (by simp) _ h1,kp TI (by simp) _ h2,⟨u,v,x,kp TO (by simp) _ h3⟩,h4.at fun o e=>kp i1 (by simp) o e,h5.at fun o e=>kp i2 (by simp) o e,h6.at fun o e=>kp i3 (by simp) o e⟩
 item:=by
  intro X hP hw hK hc i pins s σ H E I hf st hg
  subst hP hw hK
  obtain ⟨us,xs,ys,hu,hx,hy,l0,l1,l2⟩:=hg
  obtain ⟨its0,r0,p0,z0⟩:=I.tuple hu
  obtain ⟨its1,r1,p1,z1⟩:=I.list hx
  obtain ⟨its2,r2,p2,z2⟩:=I.list hy
  obtain ⟨h1,h2,h3,h4,h5,h6⟩:=st
  have D:Z3 z TI TO i1 i2 i3 t b c:=lK hap (fun d hd=>off_ofT I (hf d hd) hu) (fun d hd=>cy I (hf d hd) hx) (fun d hd=>cy I (hf d hd) hy)
  obtain ⟨uv,euv,ru⟩:=r0.get (List.getElem?_eq_getElem l0)
  obtain ⟨xv,exv,rx⟩:=r1.get (List.getElem?_eq_getElem l1)
  obtain ⟨yv,eyv,ry⟩:=r2.get (List.getElem?_eq_getElem l2)
  obtain ⟨a0,b0,c0,h3'⟩:=h3
  refine iN D h1 h2 h3' h4 h5 h6 (show s.heap.IsTuple t its0.toArray from p0) p1.isList p2.isList (x:=uv) (y:=xv) (v:=yv) (by simpa using euv) (by simpa using exv) (by simpa using eyv) fun h' a1 a2 a3 a4 a5 a6 a7 kp=>?_
  have lt:∀ {d o},s.heap.get? d=some o→s.heap.objs.size≠d:=fun e=>Nat.ne_of_gt (Heap.lt_size e)
  refine ⟨_,rfl,wpAny_letOwnedTupleGo_zip a1 fun h2' hz' hs'=>?_⟩
  have n1:s.heap.objs.size≠z:=lt h1
  have n2:s.heap.objs.size≠TO:=lt h3'
  have n3:s.heap.objs.size≠i1:=by obtain ⟨_,e,_⟩:=h4;exact lt e
  have n4:s.heap.objs.size≠i2:=by obtain ⟨_,e,_⟩:=h5;exact lt e
  have n5:s.heap.objs.size≠i3:=by obtain ⟨_,e,_⟩:=h6;exact lt e
  have n6:s.heap.objs.size≠TI:=lt h2
  have ht2:IsTup h2' s.heap.objs.size #[uv,xv,yv]:=⟨_,hs'.extBut _ _ n1 a6,rfl,_,rfl⟩
  have hT:s.heap.objs.size≤s.heap.objs.size:=Nat.le_refl _
  have I2:Inv X pins σ (upd H s.heap.objs.size (.tup [us[i],xs[i],ys[i]])) { s with heap:=h2',toks:=s.toks }:=
   g9 (ch:=[z,TO,i1,i2,i3]) I (fun d o hd e=>hs'.extBut _ _ (fun x=>hd (by simp [x])) (kp d o (fun x=>hd (by simp [x])) (fun x=>hd (by simp [x])) (fun x=>hd (by simp [x])) (fun x=>hd (by simp [x])) (fun x=>hd (by simp [x])) e))
    (fun d hd=>hf d (by simp at hd ⊢;rcases hd with rfl | rfl | rfl | rfl | rfl <;> simp)) hT ⟨[uv,xv,yv],.cons ru (.cons rx (.cons ry .nil)),ht2⟩ (by show 3≤sizeLine;decide)
  refine ⟨.ref s.heap.objs.size,_,I2,rfl,⟨s.heap.objs.size,us[i],xs[i],ys[i],rfl,I.hok.fresh hT,rfl,fun vs hv=>?_,fun vs hv=>?_,fun vs hv=>?_⟩,
   ⟨hz',hs'.extBut _ _ D.TIz (kp _ _ D.TIz D.TITO D.TIi1 D.TIi2 D.TIi3 h2),⟨_,_,_,hs'.extBut _ _ D.TOz a2⟩,a3.extBut hs'.extBut D.i1z,a4.extBut hs'.extBut D.i2z,a5.extBut hs'.extBut D.i3z⟩,fun d hd=>?_⟩
  ·rw [I.tuple_inj hv hu];exact List.getElem?_eq_getElem l0
  ·rw [I.list_inj hv hx];exact List.getElem?_eq_getElem l1
  ·rw [I.list_inj hv hy];exact List.getElem?_eq_getElem l2
  ·have hd':d=z∨d=TI∨d=TO∨d=i1∨d=i2∨d=i3:=by simpa using hd
   have hne:d≠s.heap.objs.size:=by
    rcases hd' with rfl | rfl | rfl | rfl | rfl | rfl
    ·exact n1.symm
    ·exact n6.symm
    ·exact n2.symm
    ·exact n3.symm
    ·exact n4.symm
    ·exact n5.symm
   rw [au hne]
   exact (hf d hd).1
 done:=by
  intro X hP hw hK hc i pins s σ H E I hf st hg
  subst hP hw hK
  obtain ⟨us,xs,ys,hu,hx,hy,hi⟩:=hg
  obtain ⟨its0,r0,p0,z0⟩:=I.tuple hu
  obtain ⟨h1,h2,h3,h4,h5,h6⟩:=st
  have len0:=r0.length
  have D:Z3 z TI TO i1 i2 i3 t b c:=lK hap (fun d hd=>off_ofT I (hf d hd) hu) (fun d hd=>cy I (hf d hd) hx) (fun d hd=>cy I (hf d hd) hy)
  refine iT (I.ok.hd hc) D h1 h2 h4 (show s.heap.IsTuple t its0.toArray from p0) (by simp;omega) fun h' kp=>⟨rfl,?_⟩
  exact g7 (ch:=[z,i1]) (t':=s.toks) I (fun d o hd e=>kp d o (fun x=>hd (by simp [x])) (fun x=>hd (by simp [x])) e) (fun d hd=>hf d (by simp at hd ⊢;rcases hd with rfl | rfl <;> simp))
 self:=fun _ _ _ _ _ st h=>wpAny_pyIter_zip st.1 h
theorem apart6' (n:Nat):(n+5:Nat)≠n+3∧(n+5:Nat)≠n+4∧(n+5:Nat)≠n∧(n+5:Nat)≠n+1∧(n+5:Nat)≠n+2∧(n+3:Nat)≠n+4∧(n+3:Nat)≠n∧(n+3:Nat)≠n+1∧(n+3:Nat)≠n+2∧(n+4:Nat)≠n∧(n+4:Nat)≠n+1∧(n+4:Nat)≠n+2∧(n:Nat)≠n+1∧(n:Nat)≠n+2∧(n+1:Nat)≠n+2:=by omega
theorem apart6 (n:Nat):Apart6 (n+5) (n+3) (n+4) n (n+1) (n+2):=apart6' n
theorem le6 (n c:Nat) (h:c=n+5∨c=n+3∨c=n+4∨c=n∨c=n+1∨c=n+2):n≤c:=by omega
section
variable {X:Cx}
def iZip3 (K:W.Frag) (ta:TA):TI:=fun σ H R=>ta σ H fun vs H1=>∃ t b c us xs ys,vs = [.ref t,.ref b,.ref c]∧SqT K H1 t us∧SqL K H1 b xs∧SqL K H1 c ys∧R (It3 K t b c) H1
theorem vals3 {x y z:V} {us:List Value} (r:aV [x,y,z] us):∃ a b c,us = [a,b,c]∧aX x a∧aX y b∧aX z c:=by
 cases r with
 | cons r1 r=>cases r with
   | cons r2 r=>cases r with
     | cons r3 r=>cases r;exact ⟨_,_,_,rfl,r1,r2,r3⟩
theorem pi_zip3 {es:List Expr} {k:Nat} {tp p pos:Pos} {a b c:Expr} {ta:TA} (hg:Gl X "zip") (hm:X.mg "zip" = none) (ha:PA X [a,b,c] ta) (hs:starEach [a,b,c] X.env = [(false,eval a X.env),(false,eval b X.env),(false,eval c X.env)]:=by rfl) (hs2:starEach [b,c] X.env = [(false,eval b X.env),(false,eval c X.env)]:=by rfl) :
 PI X (.Tuple es k tp) (.Call (.Name "zip" p) [a,b,c] [] pos) (iZip3 X.K ta):=by
 intro pins s σ H R I h
 refine Call_ (cQ I hg hm boot_zip (PyProof.Rows.callWith_type1 (thn (ha pos pins s σ H _ I h) fun us s1 q1=>?_) (by rw [hs,hs2]) (by rw [hs2];rfl)))
 obtain ⟨vs,H1,I1,r1,t1,l1,l2,ws,xs,ys,e,hw,hx,hy,q⟩:=q1
 subst e
 obtain ⟨u0,u1,u2,e,ru0,ru1,ru2⟩:=vals3 r1
 subst e
 cases ru0;cases ru1;cases ru2
 obtain ⟨i0,v0,p0,z0⟩:=I1.tuple hw
 obtain ⟨i1,v1,p1,z1⟩:=I1.list hx
 obtain ⟨i2,v2,p2,z2⟩:=I1.list hy
 refine call_zip_3 (show s1.heap.IsTuple t1 i0.toArray from p0) p1.isList p2.isList fun h' hz hTI hTO g0 g1 g2 kp=>wpAny_pyIter_zip hz ?_
 have I2:Inv X pins σ H1 { s1 with heap:=h' }:=I1.kept (t':=s1.toks) kp
 refine ⟨s1.heap.objs.size+5,[s1.heap.objs.size+5,s1.heap.objs.size+3,s1.heap.objs.size+4,s1.heap.objs.size,s1.heap.objs.size+1,s1.heap.objs.size+2],_,It3 X.K t1 l1 l2,H1,rfl,I2,turn_zip3 t1 l1 l2 _ _ _ _ _ _ (apart6 _),⟨hz,hTI,⟨_,_,_,hTO⟩,g0,g1,g2⟩,fun d hd=>?_,q⟩
 have hd':s1.heap.objs.size≤d:=le6 _ _ (by simpa using hd)
 exact I1.fpOk hd' (I1.hok.fresh hd')
end
end L2.Bk
end
section
namespace L2.Bk
open PySem PySem.Spec PyProof.Rows L2.Bw
def fA:List (Str×List Str):=[("whole",[]),("truth",[]),("?",[]),("to",["arg","res"]),("row",["item"]),("pair",["one","two"])]
def aG (h:Str):List Str:=(KTD.datumAt h fA).getD []
theorem eV {h:Str} {n:Nat} (e:bS h=some n):h∈(["whole","truth","?","row","to","pair"]:List Str):=by
 unfold bS at e
 by_cases c1:h = "whole"
 ·simp [c1]
 rw [if_neg c1] at e
 by_cases c2:h = "truth"
 ·simp [c2]
 rw [if_neg c2] at e
 by_cases c3:h = "?"
 ·simp [c3]
 rw [if_neg c3] at e
 by_cases c4:h = "row"
 ·simp [c4]
 rw [if_neg c4] at e
 by_cases c5:h = "to"
 ·simp [c5]
 rw [if_neg c5] at e
 by_cases c6:h = "pair"
 ·simp [c6]
 rw [if_neg c6] at e
 cases e
theorem jG:∀ h∈(["whole","truth","?","row","to","pair"]:List Str),KTD.datumAt h fA=some (aG h)∧bS h=some (aG h).length:=by decide +kernel
theorem dl {h:Str} {n:Nat} (e:bS h=some n):(aG h).length=n:=by
 have:=(jG h (eV e)).2
 rw [e] at this
 exact (Option.some.inj this).symm
mutual
def Kn.part:Kn→Kn→Option (List Str)
 | .mk h ks,.mk g ls=>if h = "?" then none else if g = "?" then none else if h=g then Kn.parts (aG h) ks ls else some []
def Kn.parts:List Str→List Kn→List Kn→Option (List Str)
 | s :: ss,t :: r,u :: q=>match t.part u with
   | some w=>some (s :: w)
   | none=>Kn.parts ss r q
 | [],_,_=>none
 | _ :: _,[],_=>none
 | _ :: _,_ :: _,[]=>none
end
mutual
def Kn.ways:Kn→Kn→List (List Str)
 | .mk h ks,.mk g ls=>if h = "?" then [] else if g = "?" then [] else if h=g then Kn.wayss (aG h) ks ls else [[]]
def Kn.wayss:List Str→List Kn→List Kn→List (List Str)
 | s :: ss,t :: r,u :: q=>(t.ways u).map (s :: ·) ++ Kn.wayss ss r q
 | [],_,_=>[]
 | _ :: _,[],_=>[]
 | _ :: _,_ :: _,[]=>[]
end
mutual
theorem fZ:∀ (a b:Kn),a.part b=(a.ways b).head?
 | .mk h ks,.mk g ls=>by
   show (if h = "?" then none else if g = "?" then none else if h=g then Kn.parts (aG h) ks ls else some [])=(if h = "?" then [] else if g = "?" then [] else if h=g then Kn.wayss (aG h) ks ls else [[]]).head?
   by_cases c1:h = "?"
   ·rw [if_pos c1,if_pos c1];rfl
   rw [if_neg c1,if_neg c1]
   by_cases c2:g = "?"
   ·rw [if_pos c2,if_pos c2];rfl
   rw [if_neg c2,if_neg c2]
   by_cases c3:h=g
   ·rw [if_pos c3,if_pos c3];exact gF _ ks ls
   ·rw [if_neg c3,if_neg c3];rfl
theorem gF:∀ (ss:List Str) (ks ls:List Kn),Kn.parts ss ks ls=(Kn.wayss ss ks ls).head?
 | [],_,_=>by rw [Kn.parts,Kn.wayss];rfl
 | _ :: _,[],_=>rfl
 | _ :: _,_ :: _,[]=>rfl
 | s :: ss,t :: r,u :: q=>by
   show (match t.part u with | some w=>some (s :: w) | none=>Kn.parts ss r q)=((t.ways u).map (s :: ·) ++ Kn.wayss ss r q).head?
   rw [fZ t u,gF ss r q]
   cases t.ways u with
   | nil=>rfl
   | cons w ws=>rfl
end
mutual
theorem ju:∀ (a:Kn),a.part a=none
 | .mk h ks=>by
   show (if h = "?" then none else if h = "?" then none else if h=h then Kn.parts (aG h) ks ks else some [])=none
   rw [if_pos (rfl:h=h),iA (aG h) ks]
   split <;> rfl
theorem iA:∀ (ss:List Str) (ks:List Kn),Kn.parts ss ks ks=none
 | [],ks=>by rw [Kn.parts]
 | _ :: _,[]=>rfl
 | s :: ss,t :: r=>by
   show (match t.part t with | some w=>some (s :: w) | none=>Kn.parts ss r r)=none
   rw [ju t,iA ss r]
end
theorem iz {ss:List Str} {ks ls:List Kn} {i:Nat} (h0:i<ss.length) (h1:i<ks.length) (h2:i<ls.length) :
 Kn.parts (ss.drop i) (ks.drop i) (ls.drop i)=match ks[i].part ls[i] with | some w=>some (ss[i] :: w) | none=>Kn.parts (ss.drop (i+1)) (ks.drop (i+1)) (ls.drop (i+1)):=by
 rw [List.drop_eq_getElem_cons h0,List.drop_eq_getElem_cons h1,List.drop_eq_getElem_cons h2]
 rfl
mutual
theorem gu:∀ (a b:Kn),∀ w∈a.ways b,w.length<a.dep
 | .mk h ks,.mk g ls,w,hw=>by
   have hw':w∈(if h = "?" then [] else if g = "?" then [] else if h=g then Kn.wayss (aG h) ks ls else [[]]):=hw
   have hd:(Kn.mk h ks).dep=1+Kn.deps ks:=rfl
   split at hw'
   ·cases hw'
   ·split at hw'
    ·cases hw'
    ·split at hw'
     ·have:=gJ (aG h) ks ls w hw'
      omega
     ·rw [List.mem_singleton.mp hw',List.length_nil]
      omega
theorem gJ:∀ (ss:List Str) (ks ls:List Kn),∀ w∈Kn.wayss ss ks ls,w.length≤Kn.deps ks
 | [],_,_,_,hw=>by rw [Kn.wayss] at hw;cases hw
 | _ :: _,[],_,_,hw=>nomatch hw
 | _ :: _,_ :: _,[],_,hw=>nomatch hw
 | s :: ss,t :: r,u :: q,w,hw=>by
   have hd:Kn.deps (t :: r)=max t.dep (Kn.deps r):=rfl
   rcases List.mem_append.mp hw with z | z
   ·obtain ⟨v,hv,e⟩:=List.mem_map.mp z
    subst e
    have:=gu t u v hv
    rw [List.length_cons]
    omega
   ·have:=gJ ss r q w z
    omega
end
def wd (w:List Str):Dk:=.tup (w.map Dk.str)
def od:Option (List Str)→Dk
 | none=>.non
 | some w=>wd w
end L2.Bk
end
section
namespace L2.Bk
open PySem PySem.Spec PyProof.Rows L2.Bw PyProof.Rows.LSm
mutual
def Dk.eqb:Dk→Dk→Bool
 | .tup ds,y=>match y with | .tup es=>eF ds es | _=>false
 | .non,y=>match y with | .non=>true | _=>false
 | .bl a,y=>match y with | .bl b=>a == b | .int b=>(if a then 1 else 0) == b | _=>false
 | .int a,y=>match y with | .int b=>a == b | .bl b=>a == (if b then 1 else 0) | _=>false
 | .str a,y=>match y with | .str b=>a == b | _=>false
def eF:List Dk→List Dk→Bool
 | [],y=>match y with | []=>true | _ :: _=>false
 | d :: ds,y=>match y with | e :: es=>d.eqb e && eF ds es | []=>false
end
mutual
theorem kR:∀ (d:Dk),d.eqb d=true
 | .tup ds=>by show eF ds ds=true;exact dU ds
 | .non=>rfl
 | .bl a=>by show (a == a)=true;simp
 | .int a=>by show (a == a)=true;simp
 | .str a=>by show (a == a)=true;simp
theorem dU:∀ (ds:List Dk),eF ds ds=true
 | []=>rfl
 | d :: ds=>by show (d.eqb d && eF ds ds)=true;rw [kR d,dU ds];rfl
end
theorem eG:∀ (ds es:List Dk),eF ds es=((List.range (min ds.length es.length)).all (fun j=>(ds[j]?.getD .non).eqb (es[j]?.getD .non)) && ds.length == es.length)
 | [],[]=>rfl
 | [],e :: es=>by simp [eF]
 | d :: ds,[]=>by simp [eF]
 | d :: ds,e :: es=>by
   show (d.eqb e && eF ds es)=_
   rw [eG ds es]
   have m:min (d :: ds).length (e :: es).length=min ds.length es.length+1:=by simp only [List.length_cons];omega
   rw [m,List.range_succ_eq_map,List.all_cons,List.all_map]
   have e2:((d :: ds).length == (e :: es).length)=(ds.length == es.length):=by simp
   rw [e2,Bool.and_assoc]
   rfl
def unV:Value→V
 | .none=>.non | .bool b=>.bl b | .int i _=>.int i | .str x _=>.str x | .bytes b _=>.byt b | .float b _=>.flt b | .ref a=>.ref a | .type n=>.ty n | _=>.non
theorem relV_un {x:V} {u:Value} (h:aX x u):unV u=x:=by
 cases x with
 | non=>cases (show u=Value.none from h);rfl
 | bl b=>cases (show u=Value.bool b from h);rfl
 | int i=>obtain ⟨t,e⟩:=(show ∃ t,u=Value.int i t from h);subst e;rfl
 | str i=>obtain ⟨t,e⟩:=(show ∃ t,u=Value.str i t from h);subst e;rfl
 | byt i=>obtain ⟨t,e⟩:=(show ∃ t,u=Value.bytes i t from h);subst e;rfl
 | flt i=>obtain ⟨t,e⟩:=(show ∃ t,u=Value.float i t from h);subst e;rfl
 | ref a=>cases (show u=Value.ref a from h);rfl
 | ty n=>cases (show u=Value.type n from h);rfl
theorem relV_inj {x y:V} {u:Value} (hx:aX x u) (hy:aX y u):x=y:=(relV_un hx).symm.trans (relV_un hy)
theorem lJ:∀ {xs ys:List V} {us:List Value},aV xs us→aV ys us→xs=ys
 | _,_,_,.nil,h=>by cases h;rfl
 | _,_,_,.cons r t,h=>by
   cases h with
   | cons r' t'=>rw [relV_inj r r',lJ t t']
section
variable {X:Cx}
theorem tp_det {s:Shared} {pins:List (Addr×Obj)} {σ:St} {H:Hp} (I:Inv X pins σ H s) {a:Addr} {xs ys:List V} (h1:Tp X.K H a xs) (h2:Tp X.K H a ys):xs=ys:=by
 obtain ⟨i1,r1,⟨o1,e1,c1,n1,d1⟩,z1⟩:=I.tuple h1.sq
 obtain ⟨i2,r2,⟨o2,e2,c2,n2,d2⟩,z2⟩:=I.tuple h2.sq
 rw [e1] at e2
 cases e2
 rw [d1] at d2
 injection d2 with d2
 have e:i1=i2:=by simpa using d2
 subst e
 exact lJ r1 r2
mutual
theorem rk_det {s:Shared} {pins:List (Addr×Obj)} {σ:St} {H:Hp} (I:Inv X pins σ H s):∀ {d e:Dk} {x:V},RK X.K H d x→RK X.K H e x→d=e
 | .tup ds,e,x,h,h2=>by
   obtain ⟨a,vs,rfl,ha,ta⟩:=RK.get h
   cases e with
   | tup es=>
     obtain ⟨b,ws,e,hb,tb⟩:=RK.get h2
     cases e
     cases tp_det I ha hb
     rw [kh I ta tb]
   | non=>rw [RK] at h2;cases h2
   | int i=>rw [RK] at h2;cases h2
   | bl i=>rw [RK] at h2;cases h2
   | str i=>rw [RK] at h2;cases h2
 | .non,e,x,h,h2=>by
   rw [RK] at h;subst h
   cases e with
   | tup es=>obtain ⟨b,ws,e,hb,tb⟩:=RK.get h2;cases e
   | non=>rfl
   | _=>(rw [RK] at h2) <;> cases h2
 | .int _,e,x,h,h2=>by
   rw [RK] at h;subst h
   cases e with
   | tup es=>obtain ⟨b,ws,e,hb,tb⟩:=RK.get h2;cases e
   | _=>rw [RK] at h2;cases h2;try rfl
 | .bl _,e,x,h,h2=>by
   rw [RK] at h;subst h
   cases e with
   | tup es=>obtain ⟨b,ws,e,hb,tb⟩:=RK.get h2;cases e
   | _=>rw [RK] at h2;cases h2;try rfl
 | .str _,e,x,h,h2=>by
   rw [RK] at h;subst h
   cases e with
   | tup es=>obtain ⟨b,ws,e,hb,tb⟩:=RK.get h2;cases e
   | _=>rw [RK] at h2;cases h2;try rfl
theorem kh {s:Shared} {pins:List (Addr×Obj)} {σ:St} {H:Hp} (I:Inv X pins σ H s):∀ {ds es:List Dk} {xs:List V},RKs X.K H ds xs→RKs X.K H es xs→ds=es
 | [],es,xs,h,h2=>by
   cases (show xs = [] from h)
   cases es with
   | nil=>rfl
   | cons e es=>obtain ⟨v,r,e,_⟩:=h2;cases e
 | d :: ds,es,xs,h,h2=>by
   obtain ⟨v,r,rfl,h,t⟩:=h
   cases es with
   | nil=>cases (show v :: r = [] from h2)
   | cons e es=>
     obtain ⟨v',r',e,h',t'⟩:=h2
     cases e
     rw [rk_det I h h',kh I t t']
end
def Dk.flat:Dk→Bool
 | .tup _=>false
 | _=>true
theorem ik {s:Shared} {A:Around} {x:V} {u:Value} {b:Addr} {its:Array Value} (fx:cY x=true) (ru:aX x u) (p:s.heap.IsTuple b its) (hu:A.units<cLine):SeqAt.EqAt A s u (.ref b) false∧SeqAt.EqAt A s (.ref b) u false:=by
 cases x with
 | non=>cases (show u=Value.none from ru);exact ⟨SeqAt.EqAt.none_tuple p hu,SeqAt.EqAt.tuple_none p hu⟩
 | bl k=>cases (show u=Value.bool k from ru);exact ⟨SeqAt.EqAt.bool_tuple k p hu,SeqAt.EqAt.tuple_bool k p hu⟩
 | int k=>obtain ⟨t,e⟩:=(show ∃ t,u=Value.int k t from ru);subst e;exact ⟨SeqAt.EqAt.int_tuple k t p hu,SeqAt.EqAt.tuple_int k t p hu⟩
 | str k=>obtain ⟨t,e⟩:=(show ∃ t,u=Value.str k t from ru);subst e;exact ⟨SeqAt.EqAt.str_tuple k t p hu,SeqAt.EqAt.tuple_str k t p hu⟩
 | byt k=>cases fx
 | flt k=>cases fx
 | ref k=>cases fx
 | ty k=>cases fx
theorem dL {K:W.Frag} {H:Hp} {d:Dk} {x:V} (h:RK K H d x):(∃ ds,d = .tup ds)∨(cY x=true∧(∀ es,d.eqb (.tup es)=false∧(Dk.tup es).eqb d=false)∧d.dq=0):=by
 cases d with
 | tup ds=>exact .inl ⟨ds,rfl⟩
 | non=>rw [RK] at h;subst h;exact .inr ⟨rfl,fun es=>⟨rfl,rfl⟩,dq_non⟩
 | int k=>rw [RK] at h;subst h;exact .inr ⟨rfl,fun es=>⟨rfl,rfl⟩,dq_int _⟩
 | bl k=>rw [RK] at h;subst h;exact .inr ⟨rfl,fun es=>⟨rfl,rfl⟩,dq_bl _⟩
 | str k=>rw [RK] at h;subst h;exact .inr ⟨rfl,fun es=>⟨rfl,rfl⟩,dq_str _⟩
theorem kS {K:W.Frag} {H:Hp} {d e:Dk} {x y:V} (h:RK K H d x) (h2:RK K H e y) (fx:cY x=true) (fy:cY y=true):d.eqb e=eqV x y:=by
 cases d with
 | tup ds=>obtain ⟨a,vs,e,_⟩:=RK.get h;subst e;cases fx
 | _=>
   rw [RK] at h
   cases e with
   | tup es=>obtain ⟨a,vs,e,_⟩:=RK.get h2;subst e;cases fy
   | _=>rw [RK] at h2;subst h h2;rfl
theorem rk_eqb {s:Shared} {pins:List (Addr×Obj)} {σ:St} {H:Hp} (I:Inv X pins σ H s):∀ (n:Nat) {A:Around} {d e:Dk} {x y:V} {u v:Value},d.dq≤n→RK X.K H d x→RK X.K H e y→aX x u→aX y v→A.units+n<cLine→SeqAt.EqAt A s u v (d.eqb e):=by
 intro n
 induction n with
 | zero=>
   intro A d e x y u v hn hx hy ru rv hu
   rcases dL hx with ⟨ds,rfl⟩ | ⟨fx,nx,dx⟩
   ·have k:1+dqs ds≤0:=hn;omega
   rcases dL hy with ⟨es,rfl⟩ | ⟨fy,ny,dy⟩
   ·obtain ⟨b,ws,rfl,hb,tb⟩:=RK.get hy
    obtain ⟨i2,r2,p2,z2⟩:=I.tuple hb.sq
    cases rv
    rw [(nx es).1]
    exact (ik fx ru p2 (by omega)).1
   ·rw [kS hx hy fx fy]
    exact cx ru rv fx fy
 | succ n ih=>
   intro A d e x y u v hn hx hy ru rv hu
   rcases dL hx with ⟨ds,rfl⟩ | ⟨fx,nx,dx⟩
   ·have hn':1+dqs ds≤n+1:=hn
    obtain ⟨a,vs,rfl,ha,ta⟩:=RK.get hx
    obtain ⟨i1,r1,p1,z1⟩:=I.tuple ha.sq
    rcases dL hy with ⟨es,rfl⟩ | ⟨fy,ny,dy⟩
    ·obtain ⟨b,ws,rfl,hb,tb⟩:=RK.get hy
     cases ru;cases rv
     by_cases hab:a=b
     ·subst hab
      have e1:=tp_det I ha hb
      subst e1
      rw [kh I ta tb]
      have e2:(Dk.tup es).eqb (.tup es)=true:=kR _
      rw [e2]
      exact SeqAt.EqAt.same _
     ·obtain ⟨i2,r2,p2,z2⟩:=I.tuple hb.sq
      have l1:=r1.length
      have l2:=r2.length
      have l3:=ta.length
      have l4:=tb.length
      have key:=SeqAt.RcAt.tuples (A:=A) (s:=s) (e:=fun j=>(ds[j]?.getD .non).eqb (es[j]?.getD .non)) p1 p2 (by omega) fun j h1 h2=>by
       have hjd:j<ds.length:=by simp at h1;omega
       have hje:j<es.length:=by simp at h2;omega
       obtain ⟨x1,e1,q1⟩:=ta.get (List.getElem?_eq_getElem hjd)
       obtain ⟨y1,e2,q2⟩:=tb.get (List.getElem?_eq_getElem hje)
       have k:=dS (List.getElem_mem hjd)
       simp only [List.getElem?_eq_getElem hjd,List.getElem?_eq_getElem hje,Option.getD_some]
       exact ih (A:=A.in1) (by omega) q1 q2 (cP r1 e1 h1) (cP r2 e2 h2) (by show A.units+1+n<cLine;omega)
      have val:((List.range (min i1.toArray.size i2.toArray.size)).all (fun j=>(ds[j]?.getD .non).eqb (es[j]?.getD .non)) && i1.toArray.size == i2.toArray.size)=eF ds es:=by
       rw [eG,List.size_toArray,List.size_toArray,← l1,← l2,← l3,← l4]
      rw [val] at key
      exact SeqAt.EqAt.of_refs hab key
    ·cases ru
     rw [(ny ds).2]
     exact (ik fy rv p1 (by omega)).2
   ·rcases dL hy with ⟨es,rfl⟩ | ⟨fy,ny,dy⟩
    ·obtain ⟨b,ws,rfl,hb,tb⟩:=RK.get hy
     obtain ⟨i2,r2,p2,z2⟩:=I.tuple hb.sq
     cases rv
     rw [(nx es).1]
     exact (ik fx ru p2 (by omega)).1
    ·rw [kS hx hy fx fy]
     exact cx ru rv fx fy
theorem eqg_ok {k:Nat} (hr:Room k X.A) {s:Shared} {pins:List (Addr×Obj)} {σ:St} {H:Hp} (I:Inv X pins σ H s) {x y:V} {u v:Value} {ds es:List Dk} (hx:RK X.K H (.tup ds) x) (hy:RK X.K H (.tup es) y) (hd:dqs ds≤60) (ru:aX x u) (rv:aX y v):SeqAt.RcAt X.A s u v (eF ds es)∧SeqAt.RcNeAt X.A s u v (!eF ds es):=by
 have hu:=hr.units
 obtain ⟨a,vs,rfl,ha,ta⟩:=RK.get hx
 obtain ⟨b,ws,rfl,hb,tb⟩:=RK.get hy
 cases ru;cases rv
 obtain ⟨i1,r1,p1,z1⟩:=I.tuple ha.sq
 obtain ⟨i2,r2,p2,z2⟩:=I.tuple hb.sq
 have l1:=r1.length
 have l2:=r2.length
 have l3:=ta.length
 have l4:=tb.length
 have it:∀ j (h1:j<i1.toArray.size) (h2:j<i2.toArray.size),SeqAt.EqAt X.A.in1 s i1.toArray[j] i2.toArray[j] ((fun j=>(ds[j]?.getD .non).eqb (es[j]?.getD .non)) j):=fun j h1 h2=>by
  have hjd:j<ds.length:=by simp at h1;omega
  have hje:j<es.length:=by simp at h2;omega
  obtain ⟨x1,e1,q1⟩:=ta.get (List.getElem?_eq_getElem hjd)
  obtain ⟨y1,e2,q2⟩:=tb.get (List.getElem?_eq_getElem hje)
  have k:=dS (List.getElem_mem hjd)
  simp only [List.getElem?_eq_getElem hjd,List.getElem?_eq_getElem hje,Option.getD_some]
  exact rk_eqb I 60 (A:=X.A.in1) (by omega) q1 q2 (cP r1 e1 h1) (cP r2 e2 h2) (by show X.A.units+1+60<cLine;omega)
 have e:((List.range (min i1.toArray.size i2.toArray.size)).all (fun j=>(ds[j]?.getD .non).eqb (es[j]?.getD .non)) && i1.toArray.size == i2.toArray.size)=eF ds es:=by
  rw [eG,List.size_toArray,List.size_toArray,← l1,← l2,← l3,← l4]
 have k1:=SeqAt.RcAt.tuples (A:=X.A) (s:=s) p1 p2 (by omega) it
 have k2:=SeqAt.RcNeAt.tuples (A:=X.A) (s:=s) p1 p2 (by omega) it
 rw [e] at k1 k2
 exact ⟨k1,k2⟩
def rEqG (K:W.Frag):R2:=fun x y H Q=>(∃ ds es,RK K H (.tup ds) x∧RK K H (.tup es) y∧dqs ds≤60∧Q (.bl (eF ds es)) H)∨rEqK K x y H Q
def rNeG (K:W.Frag):R2:=fun x y H Q=>(∃ ds es,RK K H (.tup ds) x∧RK K H (.tup es) y∧dqs ds≤60∧Q (.bl (!eF ds es)) H)∨rNeK K x y H Q
theorem ax {k:Nat} (hr:Room k X.A):OpR X (compareOp .Eq) (rEqG X.K):=by
 intro pins s σ H x y v u Q I rx ry h
 rcases h with ⟨ds,es,h1,h2,hd,q⟩ | h
 ·exact (eqg_ok hr I h1 h2 hd rx ry).1 _ _ _ _ ⟨.bl _,H,I,rfl,q⟩
 ·exact op_eqK hr pins s σ H x y v u Q I rx ry h
theorem eI {k:Nat} (hr:Room k X.A):OpR X (compareOp .NotEq) (rNeG X.K):=by
 intro pins s σ H x y v u Q I rx ry h
 rcases h with ⟨ds,es,h1,h2,hd,q⟩ | h
 ·exact (eqg_ok hr I h1 h2 hd rx ry).2 _ _ _ _ ⟨.bl _,H,I,rfl,q⟩
 ·exact op_neK hr pins s σ H x y v u Q I rx ry h
def rCat0 (K:W.Frag):R2:=fun x y H Q=>∃ a b ys,x = .ref a∧y = .ref b∧SqT K H a []∧SqT K H b ys∧Q (.ref b) H
theorem op_cat0:OpR X (binaryOp .Add) (rCat0 X.K):=by
 intro pins s σ H x y v u Q I rx ry h
 obtain ⟨a,b,ys,rfl,rfl,ha,hb,q⟩:=h
 cases rx
 cases ry
 obtain ⟨its,r1,p1,_⟩:=I.tuple ha
 obtain ⟨its2,r2,p2,_⟩:=I.tuple hb
 cases r1
 obtain ⟨⟨cls,dd,data,sl⟩,ho,hc,n,hd⟩:=id p1
 obtain ⟨⟨cls2,dd2,data2,sl2⟩,ho2,hc2,n2,hd2⟩:=id p2
 simp only at hc hd hc2 hd2
 subst hc hd hc2 hd2
 exact concat_meets ⟨_,ho,rfl⟩ ⟨_,ho2,rfl⟩ noFill_tuple_add seq_tuple_add PySem.F.slot_tuple_add PySem.F.entry_tuple_add (PySem.F.args_tuple_add_2 _ _)
  (tuple_addW0 a b #[] its2.toArray n n2 dd dd2 sl sl2 rfl) ⟨ho,ho2,⟨.ref b,H,I,rfl,q⟩⟩
def jz (K:W.Frag):R2:=fun x y H Q=>rCat0 K x y H Q∨jy K x y H Q
theorem bo:OpR X (binaryOp .Add) (jz X.K):=by
 intro pins s σ H x y v u Q I rx ry h
 rcases h with h | h
 ·exact op_cat0 pins s σ H x y v u Q I rx ry h
 ·exact op_addA pins s σ H x y v u Q I rx ry h
theorem add_i {K:W.Frag} {i j:Int} {H:Hp} {Q:VK} (q:Q (.int (i+j)) H):jz K (.int i) (.int j) H Q:=.inr (addI q)
theorem cat_g {K:W.Frag} {H:Hp} {x y:V} {ds es:List Dk} {Q:VK} (ha:RK K H (.tup ds) x) (hb:RK K H (.tup es) y) (hz:ds.length+es.length≤1000)
 (q:∀ (v:V) (H':Hp),Old H H'→RK K H' (.tup (ds ++ es)) v→Q v H'):jz K x y H Q:=by
 obtain ⟨a,xs,rfl,ta,ra⟩:=RK.get ha
 obtain ⟨b,ys,rfl,tb,rb⟩:=RK.get hb
 have l1:=ra.length
 have l2:=rb.length
 cases xs with
 | nil=>
   cases (show ds = [] from List.length_eq_zero_iff.mp l1)
   exact .inl ⟨a,b,ys,rfl,rfl,ta.sq,tb.sq,q _ H (Old.refl _) (RK.tup tb rb)⟩
 | cons x r=>exact .inr (addT (cat_k ta tb ra rb (by simp) (by omega) fun c H' o r=>q _ H' o r))
end
end L2.Bk
namespace PySem
open Sem (wp)
theorem fY:fillsNumberSlot (.type "tuple") "mul" = pure false:=
 fillsNumberSlot_seq (id:="tuple.__mul__") (r:=some (.builtin "tuple.__rmul__")) F.slot_tuple_mul.lookup (by decide +kernel) F.slot_tuple_rmul.lookup (by decide +kernel)
theorem kf:seqRepeat? (.type "tuple")=pure (some (.builtin "tuple.__mul__")):=by
 unfold seqRepeat?
 rw [seqSlot_of (T:="tuple") (name:="__mul__") (id:="tuple.__mul__") F.slot_tuple_mul.lookup (by decide +kernel),seqSlot_of (T:="tuple") (name:="__rmul__") (id:="tuple.__rmul__") F.slot_tuple_rmul.lookup (by decide +kernel)]
 rfl
theorem io (a:Int) (t:Tok) (l:Addr) (items:Array Value) (n:Nat) (dd:Option Addr) (sl:Array (Option Value)) :
 Meets (Builtin.«int.__rmul__» ⟨[.int a t,.ref l],[]⟩) (fun _ R s=>s.heap.get? l=some { cls:=.type "tuple",dict:=dd,data:=.seq items n,slots:=sl }∧R (.ok (.ret Value.notImplemented)) s):=
 .of_wp fun prog w A R s h=>by obtain ⟨hp,g,d,tk,os⟩:=s;obtain ⟨hl,h⟩:=h;wp_walk;exact ⟨_,rfl,h⟩
theorem tuple_mul1 (l:Addr) (v:Value) (n:Nat) (u:Tok) (dd:Option Addr) (sl:Array (Option Value)) :
 Meets (Builtin.«tuple.__mul__» ⟨[.ref l,.int 1 u],[]⟩) (fun _ R s=>s.heap.get? l=some { cls:=.type "tuple",dict:=dd,data:=.seq #[v] n,slots:=sl }∧R (.ok (.ret (.ref l))) s):=
 .of_wp fun prog w A R s h=>by obtain ⟨hp,g,d,tk,os⟩:=s;obtain ⟨hl,h⟩:=h;have f1:=AutoSeq1.idx_int;wp_walk using wpAny_loadPart' hl;exact ⟨_,rfl,h⟩
theorem tuple_mul0 (l:Addr) (v:Value) (n:Nat) (u:Tok) (dd:Option Addr) (sl:Array (Option Value)) :
 Meets (Builtin.«tuple.__mul__» ⟨[.ref l,.int 0 u],[]⟩) (fun _ R s=>s.heap.get? l=some { cls:=.type "tuple",dict:=dd,data:=.seq #[v] n,slots:=sl }∧R (.ok (.ret (.ref s.heap.objs.size))) { s with heap:=s.heap.push { cls:=.type "tuple",data:=.seq #[] } }):=
 .of_wp fun prog w A R s h=>by obtain ⟨hp,g,d,tk,os⟩:=s;obtain ⟨hl,h⟩:=h;have f1:=AutoSeq1.idx_int;wp_walk using wpAny_loadPart' hl;exact ⟨_,rfl,h⟩
theorem tuple_mul2 (l:Addr) (v:Value) (n:Nat) (u:Tok) (dd:Option Addr) (sl:Array (Option Value)) :
 Meets (Builtin.«tuple.__mul__» ⟨[.ref l,.int 2 u],[]⟩) (fun _ R s=>s.heap.get? l=some { cls:=.type "tuple",dict:=dd,data:=.seq #[v] n,slots:=sl }∧R (.ok (.ret (.ref s.heap.objs.size))) { s with heap:=s.heap.push { cls:=.type "tuple",data:=.seq #[v,v] } }):=
 .of_wp fun prog w A R s h=>by obtain ⟨hp,g,d,tk,os⟩:=s;obtain ⟨hl,h⟩:=h;have f1:=AutoSeq1.idx_int;wp_walk using wpAny_loadPart' hl;exact ⟨_,rfl,h⟩
end PySem
namespace L2.Bk
open PySem PySem.Spec PyProof.Rows L2.Bw
section
variable {X:Cx}
def rRep (K:W.Frag):R2:=fun x y H Q=>∃ a v i,x = .ref a∧y = .int i∧SqT K H a [v]∧((i=1∧Q (.ref a) H)∨(i=0∧∀ p,H p=none→Q (.ref p) (upd H p (.tup [])))∨(i=2∧∀ p,H p=none→Q (.ref p) (upd H p (.tup [v,v]))))
theorem op_rep:OpR X (binaryOp .Mult) (rRep X.K):=by
 intro pins s σ H x y v u Q I rx ry h
 obtain ⟨a,v1,i,rfl,rfl,ha,h⟩:=h
 cases rx
 obtain ⟨tk,rfl⟩:=ry
 obtain ⟨its,r1,p1,_⟩:=I.tuple ha
 obtain ⟨u1,e1,ru1⟩:=aV.one r1
 subst e1
 obtain ⟨⟨cls,dd,data,sl⟩,ho,hc,n,hd⟩:=id p1
 simp only at hc hd
 subst hc hd
 refine wpAny_binaryOp_repeat_ref (T:="tuple") (U:="int") (by decide) ⟨_,ho,rfl⟩ (fun s'=>typeIs_int s' i tk) fY PySem.F.fills_int_mul PySem.F.slot_int_rmul kf PySem.F.slot_int_index.lookup ?_
 refine call_meets PySem.F.slot_int_rmul (typeIs_int s i tk) PySem.F.entry_int_rmul (PySem.F.args_int_rmul_2 _ _) (io i tk a #[u1] n dd sl) ⟨ho,rfl,⟨_,ho,rfl⟩,?_⟩
 rcases h with ⟨rfl,q⟩ | ⟨rfl,q⟩ | ⟨rfl,q⟩
 ·exact call_meets PySem.F.slot_tuple_mul ⟨_,ho,rfl⟩ PySem.F.entry_tuple_mul (PySem.F.args_tuple_mul_2 _ _) (tuple_mul1 a u1 n tk dd sl) ⟨ho,.ref a,H,I,rfl,q⟩
 ·refine call_meets PySem.F.slot_tuple_mul ⟨_,ho,rfl⟩ PySem.F.entry_tuple_mul (PySem.F.args_tuple_mul_2 _ _) (tuple_mul0 a u1 n tk dd sl) ⟨ho,?_⟩
  refine ⟨.ref s.heap.objs.size,_,I.laid (t':=s.toks) (o:=.tup []) (fun b ob q=>Heap.get?_push_of_some _ q) (Nat.le_refl _) ?_,rfl,q _ (I.hok.fresh (Nat.le_refl _))⟩
  exact ⟨by show 0≤sizeLine;decide,[],.nil,IsTup.new _ _⟩
 ·refine call_meets PySem.F.slot_tuple_mul ⟨_,ho,rfl⟩ PySem.F.entry_tuple_mul (PySem.F.args_tuple_mul_2 _ _) (tuple_mul2 a u1 n tk dd sl) ⟨ho,?_⟩
  refine ⟨.ref s.heap.objs.size,_,I.laid (t':=s.toks) (o:=.tup [v1,v1]) (fun b ob q=>Heap.get?_push_of_some _ q) (Nat.le_refl _) ?_,rfl,q _ (I.hok.fresh (Nat.le_refl _))⟩
  exact ⟨by show 2≤sizeLine;decide,[u1,u1],.cons ru1 (.cons ru1 .nil),IsTup.new _ _⟩
def rMulG (K:W.Frag):R2:=fun x y H Q=>rRep K x y H Q∨(rI CMul fun i j=>.int (i * j)) x y H Q
theorem dA:OpR X (binaryOp .Mult) (rMulG X.K):=by
 intro pins s σ H x y v u Q I rx ry h
 rcases h with h | h
 ·exact op_rep pins s σ H x y v u Q I rx ry h
 ·exact op_mul pins s σ H x y v u Q I rx ry h
end
end L2.Bk
end
section
namespace L2.Bk
open PySem PySem.Spec PyProof.Rows L2.Bw
theorem wf_q_eq {a:Kn} (h:a.wf) (e:a.h = "?"):a=qK:=by
 obtain ⟨g,ks⟩:=a
 cases (show g = "?" from e)
 have:=arity_q h.1
 rw [List.length_eq_zero_iff.mp this]
 rfl
end L2.Bk
end
section
namespace L2.Bk
open PySem PySem.Spec PyProof.Rows L2.Bw
section
variable {X:Cx}
theorem pe_gint {x:Str} {i:Int} {tk:Tok} {pos:Pos} (hg:Gl X x) (hm:X.mg x=some (.int i tk)) (hd:(x == ("__debug__":Str))=false:=by decide):PE X (.Name x pos) (tC (.int i)):=fm hg hm (show aX (.int i) (.int i tk) from ⟨tk,rfl⟩) hd
end
end L2.Bk
end
section
namespace L2.Bk
open PySem PySem.Spec PyProof.Rows L2.Bw
section
variable {X:Cx}
def CDivG (i j:Int):Prop:=(0<j∧j<1073741824)∨j=10 ^ 20
theorem bg:OpR X (binaryOp .FloorDiv) (rI CDivG fun i j=>.int (i / j)):=opI fun i j _ _ _ _ _ hc q=>by
 rcases hc with ⟨h1,h2⟩ | h
 ·exact floordiv_int (by omega) (by rw [Int.fdiv_eq_ediv_of_nonneg i (by omega)];exact q) (.inl (PyProof.noPylong_small (by omega)))
 ·subst h
  exact floordiv_int (by decide) (by rw [Int.fdiv_eq_ediv_of_nonneg i (by decide)];exact q) (.inl (PyProof.noPylong_of_log2 (by decide +kernel)))
end
end L2.Bk
end
section
namespace L2.Ex
open PySem PySem.Spec PyProof.Rows
structure Wr (S ch:List Addr) (h h':Heap):Prop where
 keep:∀ b o,h.get? b=some o→b ∉ S→b ∉ ch→h'.get? b=some o
 slot:∀ b o,h.get? b=some o→b ∉ ch→∃ sl,h'.get? b=some { o with slots:=sl }
 there:∀ b o,h.get? b=some o→∃ o',h'.get? b=some o'
section
variable {S ch ch':List Addr} {h h1 h2 h':Heap}
theorem Wr.trans (x:Wr S ch h h1) (y:Wr S ch h1 h2):Wr S ch h h2:=
 ⟨fun b o e n m=>y.keep b o (x.keep b o e n m) n m,fun b o e m=>let ⟨_,e1⟩:=x.slot b o e m;let ⟨sl,e2⟩:=y.slot b _ e1 m;⟨sl,e2⟩,fun b o e=>let ⟨_,e1⟩:=x.there b o e;y.there b _ e1⟩
theorem Wr.mono (x:Wr S ch h h') (k:∀ b∈ch,b∈ch'):Wr S ch' h h':=⟨fun b o e n m=>x.keep b o e n fun z=>m (k b z),fun b o e m=>x.slot b o e fun z=>m (k b z),x.there⟩
theorem Wr.kept (k:∀ b o,h.get? b=some o→h'.get? b=some o):Wr S ch h h':=⟨fun b o e _ _=>k b o e,fun b o e _=>⟨o.slots,k b o e⟩,fun b o e=>⟨o,k b o e⟩⟩
theorem Wr.set {a:Addr} {o:Obj} {vs:Array Value} (ho:h.get? a=some o) (hd:o.data = .fields vs) (g:Array Value→Array Value):Wr S [a] h (h.update a (Obj.mapFields g)):=by
 have ot:∀ b,b≠a→(h.update a (Obj.mapFields g)).get? b=h.get? b:=fun b n=>Heap.get?_update_other h _ fun z=>n z.symm
 have nm:∀ b,b ∉ [a]→b≠a:=fun b m z=>m (by rw [z];exact List.mem_cons_self)
 refine ⟨fun b u e _ m=>by rw [ot b (nm b m)];exact e,fun b u e m=>⟨u.slots,by rw [ot b (nm b m)];exact e⟩,fun b u e=>?_⟩
 by_cases z:b=a
 ·subst z
  exact ⟨_,Heap.get?_update_self _ ho (Obj.isFreed_of_fields (Obj.data_mapFields hd g))⟩
 ·exact ⟨u,by rw [ot b z];exact e⟩
theorem Wr.slots (x:Heap.SlotsOnly S h h'):Wr S ch h h':=⟨fun b o e n _=>(x.2.1 b n).trans e,fun b o e _=>x.2.2 b o e,fun b o e=>let ⟨_,q⟩:=x.2.2 b o e;⟨_,q⟩⟩
end
theorem kO (g:Array Value→Array Value) (o:Obj):(Obj.mapFields g o).dict=o.dict:=by
 obtain ⟨c,d,dt,sl⟩:=o
 cases dt <;> rfl
def Tr (h:Heap) (a:Addr) (cls:Value) (dx:Option Addr) (T:Addr) (fl:Value):Prop:=
 ∃ oe vs oT ts,h.get? a=some oe∧(oe.cls=cls∧oe.dict=dx)∧oe.data = .fields vs∧vs[1]? = some (.ref T)∧T≠a∧h.get? T=some oT∧oT.data = .fields ts∧ts[3]? = some fl
def Rw (h:Heap) (a:Addr) (cls:Value) (dx:Option Addr):Prop:=∃ oe vs,h.get? a=some oe∧(oe.cls=cls∧oe.dict=dx)∧oe.data = .fields vs∧vs[1]? = some .none
section
variable {M:Model} {A:Around} {E:Value→Shared→Prop} {s:Shared} {a T L:Addr} {cls fl:Value} {dx:Option Addr} {Q:Unit→Shared→Prop} {base:Heap} {env:Env} {outer:List Env} {S:List Addr}
theorem eJ {fr:Option Addr} (t:Tr s.heap a cls dx T fl) (hQ:∀ h',Tr h' a cls dx T (fr.elim .none fun f=>rawInt f)→Wr S [T] s.heap h'→Q () { s with heap:=h' }):wpAny M A (setFlight (.ref a) fr) Q E s:=by
 obtain ⟨oe,vs,oT,ts,he,hc,hd,h1,ne,hT,hdT,h3⟩:=t
 have z3:=(Array.getElem?_eq_some_iff.mp h3).1
 unfold setFlight
 refine wpAny_bind (wpAny_field he hd h1 ?_)
 rw [if_pos (show (Value.ref T != Value.none)=true by simp)]
 refine wpAny_setField hT hdT z3 (hQ _ ?_ (Wr.set hT hdT _))
 have dT:=Obj.data_mapFields hdT (·.setIfInBounds 3 (fr.elim Value.none fun f=>rawInt f))
 exact ⟨oe,vs,_,_,(Heap.get?_update_other _ _ ne).trans he,hc,hd,h1,ne,Heap.get?_update_self _ hT (Obj.isFreed_of_fields dT),dT,by simp [z3]⟩
theorem entry {oe:Obj} {vs:Array Value} {head:Value} {hn:Bool} (hfr:A.frames=some (env :: outer)) (hl:s.heap.FunFrames base (env :: outer)) (hf:env.frame=some L) (he:s.heap.get? a=some oe) (hd:oe.data = .fields vs) (hz:1<vs.size)
 (hQ:∀ h' T,s.heap.get? T=none→Tr h' a oe.cls oe.dict T (rawInt L)→Wr (frs (env :: outer)) [a] s.heap h'→Q () { s with heap:=h' }) :
 wpAny M A (do let x ← frameOf env;let pl ← entryPlaceOf L hn;let b ← EntryCells.newEntry head x .none (rawInt L) .none pl;setField (.ref a) 1 b) Q E s:=by
 have na:a ∉ (env :: outer).filterMap (·.frame):=fun m=>by
  obtain ⟨_,o,ho,nf⟩:=hl.mem m
  rw [he] at ho
  cases ho
  exact nf vs hd
 refine wpAny_bind (wpAny_frameOf_fun hfr hl hf fun g hg=>wpAny_bind (wpAny_entryPlaceOf fun pl hp=>?_))
 unfold EntryCells.newEntry newFields;refine wpAny_bind (wpAny_newObj_type ?_ (IsPlace.sizeOk5 hp _ _ _ _ _))
 have ea:g.get? a=some oe:=(hg.2.1 a na).trans he
 generalize hu:([head,Value.ref L,Value.none,rawInt L,Value.none] ++ (if pl.isEmpty then List.replicate 6 Value.none else pl)).toArray=us
 have u3:us[3]? = some (rawInt L):=by rw [← hu];rfl
 have ea2:=Heap.get?_push_of_some (h:=g) { cls:=.type "traceback",dict:=none,data:=.fields us } ea
 have nT:g.objs.size≠a:=Nat.ne_of_gt (Heap.lt_size ea)
 refine wpAny_setField ea2 hd hz (hQ _ g.objs.size ?_ ?_ ?_)
 ·rw [hg.1];exact Heap.get?_none_of_le (Nat.le_refl _)
 ·have da:=Obj.data_mapFields hd (·.setIfInBounds 1 (Value.ref g.objs.size))
  exact ⟨_,_,_,us,Heap.get?_update_self _ ea2 (Obj.isFreed_of_fields da),⟨Obj.cls_mapFields _ _,kO _ _⟩,da,by simp [hz],nT,(Heap.get?_update_other _ _ (Ne.symm nT)).trans (Heap.get?_push_size g rfl),rfl,u3⟩
 ·exact (Wr.slots (ch:=[a]) hg).trans ((Wr.kept fun b o e=>Heap.get?_push_of_some _ e).trans (Wr.set ea2 hd _))
theorem note_new (hfr:A.frames=some (env :: outer)) (hl:s.heap.FunFrames base (env :: outer)) (hf:env.frame=some L) (x:Rw s.heap a cls dx)
 (hQ:∀ h' T,s.heap.get? T=none→Tr h' a cls dx T (rawInt L)→Wr (frs (env :: outer)) [a] s.heap h'→Q () { s with heap:=h' }):wpAny M A (noteFrame (.ref a) env) Q E s:=by
 obtain ⟨oe,vs,he,⟨rfl,rfl⟩,hd,h1⟩:=x
 unfold noteFrame
 simp only [hf]
 refine wpAny_bind (wpAny_field he hd h1 ?_)
 rw [if_neg (by decide)]
 exact entry hfr hl hf he hd (Array.getElem?_eq_some_iff.mp h1).1 hQ
theorem jr (hfr:A.frames=some (env :: outer)) (hl:s.heap.FunFrames base (env :: outer)) (hf:env.frame=some L) (x:Tr s.heap a cls dx T .none)
 (hQ:∀ h' T',s.heap.get? T'=none→Tr h' a cls dx T' (rawInt L)→Wr (frs (env :: outer)) [a,T] s.heap h'→Q () { s with heap:=h' }):wpAny M A (noteFrame (.ref a) env) Q E s:=by
 obtain ⟨oe,vs,oT,ts,he,⟨rfl,rfl⟩,hd,h1,ne,hT,hdT,h3⟩:=x
 unfold noteFrame
 simp only [hf]
 refine wpAny_bind (wpAny_field he hd h1 ?_)
 rw [if_pos (show (Value.ref T != Value.none)=true by simp)]
 refine wpAny_bind (wpAny_field hT hdT h3 ?_)
 rw [if_neg (show ¬ ((Value.none == rawInt L)=true) by simp [rawInt])]
 refine wpAny_bind (wpAny_setField hT hdT (Array.getElem?_eq_some_iff.mp h3).1 ?_)
 have w1:Wr (frs (env :: outer)) [T] s.heap _:=Wr.set hT hdT (·.setIfInBounds 3 Value.none)
 refine entry hfr (hl.of_keeps fun b o e nf=>⟨o,?_,rfl⟩) hf ((Heap.get?_update_other _ _ ne).trans he) hd (Array.getElem?_eq_some_iff.mp h1).1 fun h' T' n t w=>hQ h' T' ?_ t ((w1.mono (by simp)).trans (w.mono (by simp)))
 ·refine (Heap.get?_update_other _ _ fun z=>?_).trans e
  subst z
  rw [hT] at e
  cases e
  exact nf ts hdT
 ·cases q:s.heap.get? T' with
  | none=>rfl
  | some o=>
    obtain ⟨o',e'⟩:=w1.there T' o q
    rw [n] at e'
    cases e'
theorem note_held (hf:env.frame=some L) (x:Tr s.heap a cls dx T (rawInt L)) (hQ:Q () s):wpAny M A (noteFrame (.ref a) env) Q E s:=by
 obtain ⟨oe,vs,oT,ts,he,⟨rfl,rfl⟩,hd,h1,ne,hT,hdT,h3⟩:=x
 unfold noteFrame
 simp only [hf]
 refine wpAny_bind (wpAny_field he hd h1 ?_)
 rw [if_pos (show (Value.ref T != Value.none)=true by simp)]
 refine wpAny_bind (wpAny_field hT hdT h3 ?_)
 rw [if_pos (show (rawInt L == rawInt L)=true by simp)]
 exact wpAny_pure hQ
end
end L2.Ex
end
section
namespace L2.Ex
open PySem PySem.Spec PyProof.Rows
def CXF (P:Program) (w:World):CXT:=fun outer H s E e s'=>∃ (a T:Addr) (cls:Value) (dx:Option Addr) (H':Hp),e = .ref a∧Tr s'.heap a cls dx T .none∧s.heap.get? a=none∧s.heap.get? T=none∧H' a=none∧H' T=none ∧
 s'.os=s.os∧AllBare s'.gens∧Un (frs outer) [] H H' s.heap s'.heap∧HOk P w H' s'.heap∧E cls dx H'
structure XB (X:Cx) (E:XK) (a:Addr) (cls:Value) (dx:Option Addr) (H':Hp) (s':Shared):Prop where
 na:X.s₀.heap.get? a=none
 ua:H' a=none
 os:s'.os=X.s₀.os
 bare:AllBare s'.gens
 un:Un (frs X.outer) [] X.H₀ H' X.s₀.heap s'.heap
 hok:HOk X.prog X.w H' s'.heap
 funs:s'.heap.FunFrames X.base (X.env :: X.outer)
 frf:∀ b∈frs (X.env :: X.outer),H' b=none
 nl:X.s₀.heap.get? X.env.locals=none
 fr:X.env.frame=some X.env.locals
 af:X.A.frames=some (X.env :: X.outer)
 e:E cls dx H'
def XS (X:Cx) (E:XK) (e:Value) (s':Shared):Prop:=∃ a cls dx H',e = .ref a∧XB X E a cls dx H' s' ∧
 (Rw s'.heap a cls dx∨∃ T fl,Tr s'.heap a cls dx T fl∧(fl = .none∨fl=rawInt X.env.locals)∧X.s₀.heap.get? T=none∧H' T=none)
theorem ho_there {P:Program} {w:World} {H:Hp} {h:Heap} {a:Addr} {o:HO} (x:bp P w H h a o):∃ u,h.get? a=some u:=by
 cases o with
 | lst xs=>obtain ⟨_,_,_,_,e⟩:=x;exact ⟨_,e⟩
 | tup xs=>obtain ⟨_,_,_,u,e,_⟩:=x;exact ⟨u,e⟩
 | dK kvs=>obtain ⟨_,_,_,_,u,_,_,e,_⟩:=x;exact ⟨u,e⟩
 | dT kvs=>obtain ⟨_,_,_,_,u,_,_,e,_⟩:=x;exact ⟨u,e⟩
 | set S n=>obtain ⟨u,_,_,_,e,_⟩:=x;exact ⟨u,e⟩
 | ins C dx fs=>obtain ⟨_,_,_,e,_⟩:=x;exact ⟨_,e⟩
 | own y=>exact x
 | xd fs=>obtain ⟨_,⟨u,_,_,e,_⟩,_⟩:=x;exact ⟨u,e⟩
 | rng lo hi=>obtain ⟨_,_,_,e⟩:=x;exact ⟨_,e⟩
 | frz ob u=>obtain ⟨e,_⟩:=x;exact ⟨_,e⟩
 | tbl ps=>exact ⟨_,(show h.get? a=some _ from x)⟩
 | met f y=>exact ⟨_,(show h.get? a=some _ from x)⟩
 | ext φ=>obtain ⟨_,e,_⟩:=x;exact e
theorem eW {P:Program} {w:World} {H:Hp} {h:Heap} {a:Addr} (x:HOk P w H h) (e:h.get? a=none):H a=none:=by
 cases q:H a with
 | none=>rfl
 | some o=>
   obtain ⟨u,hu⟩:=ho_there (x a o q)
   rw [e] at hu
   cases hu
section
variable {P:Program} {w:World} {H H0:Hp} {h h0 h':Heap} {S ch fs:List Addr} {L:Addr}
theorem hok_wr (x:HOk P w H h) (y:Wr S ch h h') (hc:∀ b∈ch,H b=none) (hs:∀ b∈S,H b=none):HOk P w H h':=fun a o e=>by
 have nt:∀ b u,H b=some u→b ∉ S∧b ∉ ch:=fun b u q=>⟨(fun z=>by rw [hs b z] at q;cases q),(fun z=>by rw [hc b z] at q;cases q)⟩
 refine (x a o e).stay (fun b u hb q=>?_) (fun _ q=>q) fun _ _ q=>q
 rcases hb with rfl | hb
 ·exact y.keep _ u q (nt _ _ e).1 (nt _ _ e).2
 ·exact y.keep _ u q (nt _ _ hb).1 (nt _ _ hb).2
theorem un_wr (x:Un fs [] H0 H h0 h) (y:Wr S ch h h') (hs:∀ b∈S,b∈fs∨h0.get? b=none) (hc:∀ b∈ch,h0.get? b=none):Un fs [] H0 H h0 h':=by
 have nc:∀ b o,h0.get? b=some o→b ∉ ch:=fun b o e z=>by rw [hc b z] at e;cases e
 have nS:∀ b o,h0.get? b=some o→b ∉ fs→b ∉ S:=fun b o e n z=>(hs b z).elim n fun q=>by rw [q] at e;cases e
 refine ⟨fun b o e n hb hx=>y.keep b o (x.keep b o e n hb hx) (nS b o e hb) (nc b o e),fun b o e n hb hx=>?_,x.free,fun b o e hx=>?_,x.tups,x.frzs,x.tbls⟩
 ·obtain ⟨sl,e1⟩:=x.slot b o e n hb hx
  obtain ⟨sl2,e2⟩:=y.slot b _ e1 (nc b o e)
  exact ⟨sl2,e2⟩
 ·obtain ⟨o1,e1⟩:=x.there b o e hx
  exact y.there b o1 e1
theorem fun_wr {base:Heap} {l:List Env} (x:h.FunFrames base l) (y:Wr S ch h h') (hc:∀ b∈ch,∃ o vs,h.get? b=some o∧o.data = .fields vs):h'.FunFrames base l:=x.of_keeps fun b o e nf=>by
 obtain ⟨sl,e1⟩:=y.slot b o e fun z=>by
  obtain ⟨o2,vs,q,d⟩:=hc b z
  rw [e] at q
  cases q
  exact nf vs d
 exact ⟨_,e1,rfl⟩
end
theorem Tr.fa {h:Heap} {a T:Addr} {cls fl:Value} {dx:Option Addr} (t:Tr h a cls dx T fl):∃ o vs,h.get? a=some o∧o.data = .fields vs:=let ⟨oe,vs,_,_,h1,_,h2,_⟩:=t;⟨oe,vs,h1,h2⟩
theorem Tr.ft {h:Heap} {a T:Addr} {cls fl:Value} {dx:Option Addr} (t:Tr h a cls dx T fl):∃ o vs,h.get? T=some o∧o.data = .fields vs:=let ⟨_,_,oT,ts,_,_,_,_,_,h1,h2,_⟩:=t;⟨oT,ts,h1,h2⟩
theorem Rw.fa {h:Heap} {a:Addr} {cls:Value} {dx:Option Addr} (t:Rw h a cls dx):∃ o vs,h.get? a=some o∧o.data = .fields vs:=let ⟨oe,vs,h1,_,h2,_⟩:=t;⟨oe,vs,h1,h2⟩
section
variable {X:Cx} {E:XK} {a:Addr} {cls:Value} {dx:Option Addr} {H':Hp} {s':Shared} {M:Model} {Z:Value→Shared→Prop} {Q:Unit→Shared→Prop}
theorem kW (hf:X.env.frame=some X.env.locals):frs (X.env :: X.outer)=X.env.locals :: frs X.outer:=by unfold frs;rw [List.filterMap_cons,hf]
theorem XB.wr (x:XB X E a cls dx H' s') {ch:List Addr} {h':Heap} (y:Wr (frs (X.env :: X.outer)) ch s'.heap h') (hc:∀ b∈ch,X.s₀.heap.get? b=none∧H' b=none∧∃ o vs,s'.heap.get? b=some o∧o.data = .fields vs):XB X E a cls dx H' { s' with heap:=h' }:=by
 refine ⟨x.na,x.ua,x.os,x.bare,un_wr x.un y (fun b hb=>?_) (fun b hb=>(hc b hb).1),hok_wr x.hok y (fun b hb=>(hc b hb).2.1) x.frf,fun_wr x.funs y (fun b hb=>(hc b hb).2.2),x.frf,x.nl,x.fr,x.af,x.e⟩
 rw [kW x.fr] at hb
 rcases List.mem_cons.mp hb with z | z
 ·rw [z];exact .inr x.nl
 ·exact .inl z
theorem xs_note {e:Value} (x:XS X E e s')
 (hQ:∀ h' a T cls dx H',e = .ref a→XB X E a cls dx H' { s' with heap:=h' }→Tr h' a cls dx T (rawInt X.env.locals)→X.s₀.heap.get? T=none→H' T=none→Q () { s' with heap:=h' }):wpAny M X.A (noteFrame e X.env) Q Z s':=by
 obtain ⟨a,cls,dx,H',rfl,b,t⟩:=x
 have hfr:=b.af
 have new:∀ T,s'.heap.get? T=none→X.s₀.heap.get? T=none:=fun T n=>by
  cases q:X.s₀.heap.get? T with
  | none=>rfl
  | some o=>
    obtain ⟨o',e'⟩:=b.un.there T o q (by simp)
    rw [n] at e'
    cases e'
 rcases t with t | ⟨T,fl,t,hfl,nT,uT⟩
 ·refine note_new hfr b.funs b.fr t fun h' T n t' y=>hQ h' a T cls dx H' rfl (b.wr y fun c hc=>?_) t' (new T n) (eW b.hok n)
  rw [List.mem_singleton.mp hc]
  exact ⟨b.na,b.ua,t.fa⟩
 ·rcases hfl with rfl | rfl
  ·refine jr hfr b.funs b.fr t fun h' T' n t' y=>hQ h' a T' cls dx H' rfl (b.wr y fun c hc=>?_) t' (new T' n) (eW b.hok n)
   rcases List.mem_cons.mp hc with z | z
   ·rw [z];exact ⟨b.na,b.ua,t.fa⟩
   ·rw [List.mem_singleton.mp z];exact ⟨nT,uT,t.ft⟩
  ·obtain ⟨hp,g,d,k,o⟩:=s'
   exact note_held b.fr t (hQ hp a T cls dx H' rfl b t nT uT)
theorem jM {T:Addr} {fl:Value} {fr:Option Addr} (b:XB X E a cls dx H' s') (t:Tr s'.heap a cls dx T fl) (nT:X.s₀.heap.get? T=none) (uT:H' T=none)
 (hQ:∀ h',XB X E a cls dx H' { s' with heap:=h' }→Tr h' a cls dx T (fr.elim .none fun f=>rawInt f)→Q () { s' with heap:=h' }):wpAny M X.A (setFlight (.ref a) fr) Q Z s':=by
 refine eJ (S:=frs (X.env :: X.outer)) t fun h' t' y=>hQ h' (b.wr y fun c hc=>?_) t'
 rw [List.mem_singleton.mp hc]
 exact ⟨nT,uT,t.ft⟩
theorem xs_leave {e:Value} (x:XS X E e s'):wpAny M X.A (leaving X.env e) (fun _ s''=>CXF X.prog X.w X.outer X.H₀ X.s₀ E e s'') Z s':=by
 unfold leaving
 refine wpAny_bind (xs_note x fun h' a T cls dx H' e1 b t nT uT=>?_)
 subst e1
 refine jM (fr:=none) b t nT uT fun h2 b2 t2=>?_
 exact ⟨a,T,cls,dx,H',rfl,t2,b2.na,nT,b2.ua,uT,b2.os,b2.bare,b2.un,b2.hok,b2.e⟩
theorem xs_own:PassesOwn M X.A X.env (XS X E):=fun e s' x=>by
 unfold notedBy
 refine xs_note x fun h' a T cls dx H' e1 b t nT uT=>?_
 subst e1
 unfold cameBackBy
 obtain ⟨oe,vs,oT,ts,he,hc,hd,h1,r⟩:=id t
 refine wpAny_bind (wpAny_field he hd h1 ?_)
 rw [if_neg (show ¬ ((Value.ref T == Value.none)=true) by simp)]
 rw [b.fr]
 refine jM (fr:=some X.env.locals) b t nT uT fun h2 b2 t2=>?_
 exact ⟨a,cls,dx,H',rfl,b2,.inr ⟨T,_,t2,.inr rfl,nT,uT⟩⟩
end
theorem xs_call {X:Cx} {E:XK} {pins:List (Addr×Obj)} {σ:St} {H:Hp} {s s':Shared} {e:Value} (I:Inv X pins σ H s) (hst:X.stack=X.env :: X.outer) (hf:X.env.frame=some X.env.locals) (hex:X.ex = []) (x:CXF X.prog X.w X.stack H s E e s'):XS X E e s':=by
 obtain ⟨a,T,cls,dx,H',rfl,t,na,nT,ua,uT,os,bare,un,hok,q⟩:=x
 rw [hst] at un
 have fc:=kW hf
 have b0:=I.base
 rw [hex] at b0
 have nl:X.s₀.heap.get? X.env.locals=none:=Heap.get?_none_of_le I.ok.above
 have back:∀ b,s.heap.get? b=none→X.s₀.heap.get? b=none:=fun b n=>by
  cases z:X.s₀.heap.get? b with
  | none=>rfl
  | some o=>
    obtain ⟨o',e'⟩:=b0.there b o z (by simp)
    rw [n] at e'
    cases e'
 have neL:∀ b o,X.s₀.heap.get? b=some o→b≠X.env.locals:=fun b o z w=>by rw [w,nl] at z;cases z
 refine ⟨a,cls,dx,H',rfl,⟨back a na,ua,os.trans I.os,bare,⟨fun b o z n hb hx=>?_,fun b o z n hb hx=>?_,fun b o z n hx=>?_,fun b o z hx=>?_,fun b xs z=>un.tups b xs (b0.tups b xs z),fun b o u z=>un.frzs b o u (b0.frzs b o u z),fun b ps z=>?_⟩,hok,?_,?_,nl,hf,(by rw [← hst];exact I.ok.frames),q⟩,.inr ⟨T,.none,t,.inl rfl,back T nT,uT⟩⟩
 ·refine un.keep b o (b0.keep b o z n hb hx) (b0.free b o z n hx) (fun w=>?_) (by simp)
  rw [fc] at w
  rcases List.mem_cons.mp w with w | w
  ·exact neL b o z w
  ·exact hb w
 ·obtain ⟨sl,e1⟩:=b0.slot b o z n hb hx
  obtain ⟨sl2,e2⟩:=un.any e1 (b0.free b o z n hx) (by simp)
  exact ⟨sl2,e2⟩
 ·obtain ⟨o',e'⟩:=b0.there b o z hx
  exact un.free b o' e' (b0.free b o z n hx) (by simp)
 ·obtain ⟨o',e'⟩:=b0.there b o z hx
  exact un.there b o' e' (by simp)
 ·obtain ⟨m1,e1⟩:=b0.tbls b ps z
  obtain ⟨m2,e2⟩:=un.tbls b _ e1
  exact ⟨m1 ++ m2,by rw [e2,Array.append_assoc]⟩
 ·have st:=I.stack
  rw [hst] at st
  have all:∀ (l:List Env),(∀ b∈frs l,b∈frs (X.env :: X.outer))→s.heap.FunFrames X.base l→s'.heap.FunFrames X.base l:=by
   intro l
   induction l with
   | nil=>intro _ _;trivial
   | cons v r ih=>
     intro hs hl
     obtain ⟨hk,⟨L,o,h1,hn,ho,hd⟩,hr⟩:=hl
     have hm:L∈frs (v :: r):=by unfold frs;rw [List.filterMap_cons,h1];exact List.mem_cons_self
     have hL:H L=none:=I.stkFree L (by rw [hst];exact hs L hm)
     obtain ⟨sl,e2⟩:=un.any ho hL (by simp)
     exact ⟨hk,⟨L,_,h1,hn,e2,hd⟩,ih (fun b hb=>hs b (by unfold frs;rw [List.filterMap_cons,h1];exact List.mem_cons_of_mem _ hb)) hr⟩
  exact all _ (fun _ hb=>hb) st
 ·intro b hb
  have hb':b∈frs X.stack:=by rw [hst];exact hb
  obtain ⟨_,o,ho,_⟩:=I.stack.mem hb'
  exact un.free b o ho (I.stkFree b hb') (by simp)
theorem pss_xs {X:Cx} {E:XK} {st:List Stmt} {t:TS} (h:PSs (X.wish (XS X E)) st t) (hst:X.stack=X.env :: X.outer) (hx:∀ e s',wpAny (model X.prog X.w) X.A (leaving X.env e) (fun _ s''=>CXF X.prog X.w X.outer X.H₀ X.s₀ E e s'') (fun e' s''=>CXF X.prog X.w X.outer X.H₀ X.s₀ E e' s'') s'→X.xe e s'):PSs X st t:=fun pins s σ H D I hw=>
 wpAny_mono (h pins s σ H D (I.wish _) hw) (fun _ _ q=>q.unwish) fun e s' z=>hx e s' (xs_leave z)
theorem dw {P:Program} {w:World} {K:W.Frag} {mg:Str→Option Value} {base:Heap} {x qual:Str} {st:Stmt} {f:Addr} {fd:FuncData} {N ps:List Str} {k:Nat} {sp:Sp} (F:Fun K x qual st f fd) (S:aF N ps (aw st)) (len:∀ vs H Q E,sp vs H Q E→vs.length=ps.length)
 (hbody:∀ (cdv:Value) (A:Around) (outer:List Env) (s:Shared) (H:Hp) (vs:List V) (Q:VK) (E:XK),Room k (A.deeper (envOfC qual (aw st) s.heap.objs.size f cdv))→sp vs H Q E →
  ∃ t,PSs ((kK (CXF P w) P w K mg base N qual (aw st) f cdv A outer s H E).wish (XS (kK (CXF P w) P w K mg base N qual (aw st) f cdv A outer s H E) E)) (bJ st) t∧t { nx:=fun _ H'=>Q .non H',rt:=Q } (fz N vs) H):aY P w K mg base (CXF P w) (k+1) f fd ps sp:=by
 obtain ⟨oc,od,kV,doc,pm,an,cdv,ct,osl,rfl,lk,hcd⟩:=F.ex
 refine fn_of lk hcd S len fun A outer s H vs Q E hr hsp=>?_
 obtain ⟨t,h,q⟩:=hbody cdv A outer s H vs Q E hr hsp
 exact ⟨t,pss_xs h rfl (fun e s' z=>z),q⟩
end L2.Ex
end
section
namespace L2.Ex
open PySem PySem.Spec PyProof.Rows
structure gK (P:Program) (w:World) (K:W.Frag) (mg:Str→Option Value) (base:Heap) (x:Str) (ps:List Str) (k:Nat) (sp:Sp):Prop where
 ex:∃ f fd,aY P w K mg base (CXF P w) k f fd ps sp∧aJ K fd ps []∧W.keepIn K (.ref f)=true∧mg x=some (.ref f)
theorem fi {Y:Cx} {E:XK} {x:Str} {ps:List Str} {k n:Nat} {sp:Sp} {p pos:Pos} {e:Expr} {es:List Expr} {t:TA} (c:gK Y.prog Y.w Y.K Y.mg Y.base x ps k sp) (hr:Room n Y.A) (ha:PA (Y.wish (XS Y E)) (e :: es) t) (hn:k≤n:=by omega) (hst:Y.stack=Y.env :: Y.outer:=by rfl) (hf:Y.env.frame=some Y.env.locals:=by rfl) (hex:Y.ex = []:=by rfl) (hg:Gl Y x:=by rfl)
 (hdb:(x == ("__debug__":Str))=false:=by decide) (he:starEach (e :: es) Y.env=(false,eval e Y.env) :: starEach es Y.env:=by rfl) (hpl:(backTo pos (starEach es Y.env)).any (·.1)=false:=by rfl):PE (Y.wish (XS Y E)) (.Call (.Name x p) (e :: es) [] pos) (tCall sp [] E t):=by
 obtain ⟨f,fd,F,b,kp,m⟩:=c.ex
 exact pe_call (X:=Y.wish (XS Y E)) (CX:=CXF Y.prog Y.w) F (hr.mono hn) hg m kp b .nil (fun pins σ H s e s' I q=>xs_call I.unwish hst hf hex q) ha hdb he hpl
end L2.Ex
end
section
namespace L2.Ex
open PySem PySem.Spec PyProof.Rows PySem.W
structure cM (K:Frag) (C:Addr):Prop where
 ga:findIn K (.ref C) "__getattribute__" = some (some (.builtin "BaseException.__getattribute__"))
 gn:findIn K (.ref C) "__getattr__" = some none
 cl:findIn K (.ref C) "__class__" = some (some (.builtin "object.__class__"))
 sg:specialIn K (.builtin "object.__class__") "__get__" = some (some (.builtin "getset_descriptor.__get__"))
 tk:takesIn K (.builtin "object.__class__")=some true
 ob:mroIn K C (.type "object")=some true
 be:mroIn K C (.type "BaseException")=some true
 is:(clsIn K C).isSome=true
theorem find_obj {K:Frag} {C:Addr} (Y:cM K C) (od:Option Obj):findObj K C od "__class__" = some (.bind (.builtin "getset_descriptor.__get__") (.builtin "object.__class__")):=by
 obtain ⟨cd,hc⟩:=Option.isSome_iff_exists.mp Y.is
 unfold findObj
 rw [hc,Option.bind_some,Y.cl,Option.bind_some]
 simp [Y.sg,Y.tk]
section
variable {prog:Program} {w:World} {A:Around} {E:Value→Shared→Prop} {K:Frag} {C a:Addr} {o:Obj} {od:Option Obj} {h:Heap} {g:Array GenState} {d:Drawn} {t:Nat} {os:OsState}
theorem kH {M:Model} {nameV:Value} {Q:Unit→Shared→Prop} (Y:cM K C) (X:K.In h) (I:InstAt h a o C od) (hq:Q () ⟨h,g,d,t,os⟩):wpAny M A (checkBuiltinCall "BaseException.__getattribute__" ⟨[.ref a,nameV],[]⟩) Q E ⟨h,g,d,t,os⟩:=by
 have k1:builtinKind "BaseException.__getattribute__" = some .slot:=by decide +kernel
 have k2:splitId "BaseException.__getattribute__" = some ("BaseException","__getattribute__"):=by decide +kernel
 have L:Looks M h (isInstance (.ref a) (.type "BaseException")) true:=(I.type (M:=M)).andThen (looks_mroIn X Y.be)
 have ha:=F.args_bexc_ga (.ref a) nameV
 simp only [checkBuiltinCall,k1,k2]
 refine wpAny_bind (L.at ?_)
 repeat (any_goals (first | assumption | wp_step))
theorem kJ {tk:Tok} {Q:Fin→Shared→Prop} (Y:cM K C) (X:K.In h) (I:InstAt h a o C od) (hq:Q (.done (.ret (.ref C))) ⟨h,g,d,t,os⟩) :
 wpAny (model prog w) A (Builtin.«object.__getattribute__» ⟨[.ref a,.str "__class__" tk],[]⟩) Q E ⟨h,g,d,t,os⟩:=by
 have L0:=I.type (M:=model prog w)
 have L1:=looks_find (M:=model prog w) X I (find_obj Y od)
 refine wpAny_bind (wpAny_pure (wpAny_bind (wpAny_pure (wpAny_bind (L0.at (wpAny_bind (L1.at ?_)))))))
 show wpAny _ _ (holding [Value.builtin "object.__class__"] (call (Value.builtin "getset_descriptor.__get__") [Value.builtin "object.__class__",Value.ref a,Value.ref C]) >>= ret) _ _ _
 exact wpAny_bind (wpAny_holding (wpAny_call (class_get (s:=⟨h,g,d,t,os⟩) X I Y.ob (wpAny_pure hq))))
theorem class_attr {Q:Option Value→Shared→Prop} (Y:cM K C) (X:K.In h) (I:InstAt h a o C od) (hq:Q (some (.ref C)) ⟨h,g,d,t+1,os⟩):wpAny (model prog w) A (getAttr? (.ref a) "__class__") Q E ⟨h,g,d,t,os⟩:=by
 have L0:=I.type (M:=model prog w)
 have L1:=looks_findIn (M:=model prog w) X Y.ga
 have L2:=looks_findIn (M:=model prog w) X Y.gn
 have G:=PySem.F.attrBase_ValueError.ga
 have b1:=G.bind (.ref a)
 unfold getAttr?;unfold getAttrBy?;unfold getAttrBy
 refine wpAny_bind (wpAny_mkText ?_)
 refine wpAny_bind (wpAny_attempt (wpAny_holding ?_))
 refine wpAny_bind (L0.at ?_)
 refine wpAny_bind (L1.at ?_)
 show wpAny _ _ (getAttrByItsOwn _ _ _ _ _ _) _ _ _
 unfold getAttrByItsOwn
 refine wpAny_bind (L2.at ?_)
 refine wpAny_bind (wpAny_attempt (wpAny_holding ?_))
 show wpAny _ _ (boundAndCalled _ _ _) _ _ _
 unfold boundAndCalled
 rw [b1]
 refine wpAny_bind (wpAny_pure ?_)
 refine wpAny_call (codeAny_call_builtin G.plain F.entry_bexc_ga (kH Y X I (kJ Y X I ?_)))
 exact handed_on rfl (wpAny_pure hq)
end
theorem cls_at {K:Frag} {C:Addr} (e:(clsIn K C).isSome=true):∃ c' d' cd' sl',K.lookup C=some ⟨c',d',.cls cd',sl'⟩:=by
 unfold clsIn at e
 split at e
 ·rename_i q;exact ⟨_,_,_,_,q⟩
 ·cases e
section
variable {X:Cx}
theorem un_new {fs:List Addr} {H:Hp} {h h':Heap} {a:Addr} {o:HO} (k:∀ b u,h.get? b=some u→h'.get? b=some u) (ha:h.get? a=none) (hn:H a=none):Un fs [] H (upd H a o) h h' where
 keep:=fun b u q _ _ _=>k b u q
 slot:=fun b u q _ _ _=>⟨u.slots,k b u q⟩
 free:=fun b u q n _=>by rw [au (fun z=>by rw [z,ha] at q;cases q)];exact n
 there:=fun b u q _=>⟨u,k b u q⟩
 tups:=fun b xs q=>by rw [au (ap q hn)];exact q
 frzs:=fun b u xs q=>by rw [au (ap q hn)];exact q
 tbls:=fun b ps q=>⟨#[],by rw [au (ap q hn),q];simp⟩
theorem hok_new {P:Program} {w:World} {H:Hp} {h h':Heap} {a:Addr} {o:HO} (x:HOk P w H h) (k:∀ b u,h.get? b=some u→h'.get? b=some u) (hn:H a=none) (new:bp P w (upd H a o) h' a o):HOk P w (upd H a o) h':=fun b u e=>by
 by_cases hb:b=a
 ·subst hb;rw [ag] at e;cases e;exact new
 ·rw [au hb] at e
  exact (x b u e).stay (fun c v _ q=>k c v q) (fun c q=>by rw [au (ap q hn)];exact q) fun c xs q=>by rw [au (ap q hn)];exact q
end
end L2.Ex
end
section
namespace L2.Ex
open PySem PySem.Spec PyProof.Rows PySem.W
section
variable {X:Cx} {pins:List (Addr×Obj)} {σ:St} {H:Hp} {s:Shared}
structure eQ (X:Cx) (pins:List (Addr×Obj)) (H:Hp) (b:Addr):Prop where
 s0:X.s₀.heap.get? b=none
 un:H b=none
 nl:b≠X.env.locals
 nc:∀ x c,X.env.cells.lookup x=some c→c≠b
 np:∀ p∈X.pn ++ pins,p.1≠b
theorem Inv.strange (I:Inv X pins σ H s) (hex:X.ex = []) {b:Addr} (n:s.heap.get? b=none):eQ X pins H b:=by
 have b0:=I.base
 rw [hex] at b0
 refine ⟨?_,eW I.hok n,fun z=>?_,fun x c e z=>?_,fun p hp z=>?_⟩
 ·cases z:X.s₀.heap.get? b with
  | none=>rfl
  | some o=>
    obtain ⟨o',e'⟩:=b0.there b o z (by simp)
    rw [n] at e'
    cases e'
 ·obtain ⟨m,⟨o,_,_,ho,_⟩,_⟩:=I.loc
  rw [← z,n] at ho
  cases ho
 ·obtain ⟨v,o,ho,_⟩:=I.cell x c e
  rw [z,n] at ho
  cases ho
 ·have:=(I.pin p hp).1
  rw [z,n] at this
  cases this
theorem Inv.wr {ch:List Addr} {h':Heap} {t':Nat} (I:Inv X pins σ H s) (hex:X.ex = []) (y:Wr (frs X.stack) ch s.heap h') (hc:∀ b∈ch,eQ X pins H b):Inv X pins σ H { s with heap:=h',toks:=t' }:=by
 have b0:=I.base
 rw [hex] at b0
 have nS:∀ b,b≠X.env.locals→b ∉ X.fs→b ∉ frs X.stack:=fun b n1 n2 z=>(List.mem_cons.mp (I.stkSub b z)).elim n1 n2
 have nl0:X.s₀.heap.get? X.env.locals=none:=Heap.get?_none_of_le I.ok.above
 refine ⟨I.ok,I.os,I.bare,?_,?_,fun x c e=>?_,I.free,I.freeC,fun p hp=>?_,hok_wr I.hok y (fun b hb=>(hc b hb).un) I.stkFree,I.len⟩
 ·rw [hex]
  refine un_wr b0 y (fun b hb=>?_) (fun b hb=>(hc b hb).s0)
  rcases List.mem_cons.mp (I.stkSub b hb) with z | z
  ·rw [z];exact .inr nl0
  ·exact .inl z
 ·obtain ⟨m,⟨o,es,ep,ho,r⟩,hl⟩:=I.loc
  obtain ⟨sl,e1⟩:=y.slot _ o ho fun z=>(hc _ z).nl rfl
  refine ⟨m,⟨_,es,ep,e1,r⟩,fun i x v e2 e3 e4=>?_⟩
  obtain ⟨u,ru,l⟩:=hl i x v e2 e3 e4
  refine ⟨u,ru,?_⟩
  rcases l with l | ⟨k,c,e,oc,hoc,hd⟩
  ·exact .inl l
  ·obtain ⟨sl2,e5⟩:=y.slot c oc hoc fun z=>(hc c z).nc x c e rfl
   exact .inr ⟨k,c,e,_,e5,hd⟩
 ·obtain ⟨v,oc,hoc,hd⟩:=I.cell x c e
  obtain ⟨sl2,e5⟩:=y.slot c oc hoc fun z=>(hc c z).nc x c e rfl
  exact ⟨v,_,e5,hd⟩
 ·obtain ⟨e,n,ne,nf,d⟩:=I.pin p hp
  exact ⟨y.keep _ _ e (nS _ ne nf) fun z=>(hc _ z).np p hp rfl,n,ne,nf,d⟩
theorem Inv.track {b:Addr} {o:HO} (I:Inv X pins σ H s) (q:eQ X pins H b) (new:bp X.prog X.w (upd H b o) s.heap b o):Inv X pins σ (upd H b o) s:=by
 have nb:∀ c u,X.s₀.heap.get? c=some u→c≠b:=fun c u e z=>by rw [z,q.s0] at e;cases e
 refine ⟨I.ok,I.os,I.bare,⟨I.base.keep,I.base.slot,fun c u e n hx=>by rw [au (nb c u e)];exact I.base.free c u e n hx,I.base.there,fun c xs e=>?_,fun c u v e=>?_,fun c ps e=>?_⟩,I.loc,I.cell,by rw [au (Ne.symm q.nl)];exact I.free,fun x c e=>by rw [au (q.nc x c e)];exact I.freeC x c e,fun p hp=>?_,hok_new I.hok (fun _ _ e=>e) q.un new,I.len⟩
 ·have z:=I.base.tups c xs e
  rw [au (ap z q.un)];exact z
 ·have z:=I.base.frzs c u v e
  rw [au (ap z q.un)];exact z
 ·obtain ⟨m,z⟩:=I.base.tbls c ps e
  exact ⟨m,by rw [au (ap z q.un)];exact z⟩
 ·obtain ⟨e,n,ne,nf,d⟩:=I.pin p hp
  exact ⟨e,by rw [au (q.np p hp)];exact n,ne,nf,d⟩
theorem Inv.gone {i:Nat} {x:Str} {m:Str→Option Value} {v:Option Value} {h':Heap} {t':Nat} (I:Inv X pins σ H s) (hi:X.N[i]? = some x) (hl:X.env.kindOf x=some .local) (hn:s.heap.Ns X.env.locals m) (hn':h'.Ns X.env.locals (fun y=>if y=x then v else m y)) (hs:Heap.SameBut X.env.locals s.heap h') (nd:X.N.Nodup):Inv X pins (σ.set i none) H { s with heap:=h',toks:=t' }:=by
 obtain ⟨oL,es,ep,hoL,r⟩:=id hn
 have neL:∀ b o,X.s₀.heap.get? b=some o→b≠X.env.locals:=fun b o e=>Nat.ne_of_lt (Nat.lt_of_lt_of_le (Heap.lt_size e) I.ok.above)
 refine ⟨I.ok,I.os,I.bare,⟨fun b o e n hb hx=>(hs.2 b (neL b o e)).trans (I.base.keep b o e n hb hx),fun b o e n hb hx=>?_,I.base.free,fun b o e hx=>?_,I.base.tups,I.base.frzs,I.base.tbls⟩,⟨_,hn',fun j y w e1 e2 e3=>?_⟩,fun y c e=>?_,I.free,I.freeC,fun p hp=>?_,fun b ob e=>?_,by rw [List.length_set];exact I.len⟩
 ·obtain ⟨sl,e1⟩:=I.base.slot b o e n hb hx
  exact ⟨sl,(hs.2 b (neL b o e)).trans e1⟩
 ·obtain ⟨o',e1⟩:=I.base.there b o e hx
  exact ⟨o',(hs.2 b (neL b o e)).trans e1⟩
 ·have ji:j≠i:=fun z=>by
   subst z
   by_cases lt:j<σ.length
   ·rw [List.getElem?_set_self lt] at e2;cases e2
   ·rw [List.getElem?_eq_none (by rw [List.length_set];omega)] at e2;cases e2
  rw [List.getElem?_set_ne (Ne.symm ji)] at e2
  obtain ⟨m2,hn2,hl2⟩:=I.loc
  obtain ⟨u,ru,l⟩:=hl2 j y w e1 e2 e3
  refine ⟨u,ru,?_⟩
  have em:m2=m:=by
   obtain ⟨o2,es2,ep2,ho2,hd2,_,hm2⟩:=hn2
   obtain ⟨o3,es3,ep3,ho3,hd3,_,hm3⟩:=hn
   rw [ho2] at ho3
   cases ho3
   rw [hd2] at hd3
   cases hd3
   funext z
   rw [← hm2 z,← hm3 z]
  rcases l with ⟨k,e⟩ | ⟨k,c,e,z⟩
  ·refine .inl ⟨k,?_⟩
   have yx:y≠x:=fun z=>ji (ix nd e1 (z ▸ hi))
   rw [em] at e
   simp [yx,e]
  ·exact .inr ⟨k,c,e,z.sameBut hs (I.cne y c e)⟩
 ·obtain ⟨w,z⟩:=I.cell y c e
  exact ⟨w,z.sameBut hs (I.cne y c e)⟩
 ·obtain ⟨e,n,ne,nf,d⟩:=I.pin p hp
  exact ⟨(hs.2 p.1 ne).trans e,n,ne,nf,d⟩
 ·refine (I.hok b ob e).stay (fun c w hc q=>(hs.2 c fun z=>?_).trans q) (fun _ q=>q) fun _ _ q=>q
  rcases hc with hc | hc
  ·rw [← hc,z,I.free] at e;cases e
  ·rw [z,I.free] at hc;cases hc
end
theorem name_goes {M:Model} {A:Around} {E:Value→Shared→Prop} {s:Shared} {env:Env} {n:Str} {pos:Pos} {m:Str→Option Value} {Q:Unit→Shared→Prop} (hl:env.kindOf n=some .local) (hn:s.heap.Ns env.locals m) (hp:(env.scope.kind == .class || (env.scope.kind == .module && env.locals != env.globals))=false)
 (h:∀ h' v,h'.Ns env.locals (fun y=>if y=n then v else m y)→Heap.SameBut env.locals s.heap h'→Q () { s with heap:=h',toks:=s.toks+1 }):wpAny M A (do bindName env n .none;unbindBehindTheSuite env n pos) Q E s:=by
 refine wpAny_bind (wpAny_bindName (wpAny_storeName_local hl hn (fun h1 n1 s1=>?_) hp))
 unfold unbindBehindTheSuite unbindName;refine wpAny_onRaise (wpAny_bind (wpAny_point (wpAny_bind ?_)))
 unfold deleteName;simp only [hl,hp];rw [if_neg (by decide)]
 refine wpAny_bind (wpAny_nsDel_keeps n1 fun h2 v n2 s2=>?_)
 simp only [if_true,Option.isSome_some,Bool.not_true,Bool.false_eq_true,if_false]
 refine wpAny_pure (wpAny_point (h h2 v ?_ (s1.trans s2)))
 have e:(fun y=>if y=n then v else if y=n then some Value.none else m y)=fun y=>if y=n then v else m y:=by
  funext y
  by_cases z:y=n <;> simp [z]
 rw [e] at n2
 exact n2
end L2.Ex
end
section
namespace L2.Ex
open PySem PySem.Spec PyProof.Rows PySem.W
abbrev dX (X:Cx) (e:Value):Cx:={ X with A:=X.A.mark (some e),calm:=false,xe:=fun _ _=>False }
theorem jj {X:Cx} {pins:List (Addr×Obj)} {σ:St} {H:Hp} {s:Shared} (e:Value) (I:Inv X pins σ H s):Inv (dX X e) pins σ H s:=
 ⟨⟨I.ok.mod,I.ok.kind,I.ok.glob,I.ok.blt,I.ok.above,I.ok.inj,I.ok.has,I.ok.cab,(fun z=>nomatch z),I.ok.frames,I.ok.stk,I.ok.exf,I.ok.bs,I.ok.bsz,I.ok.noex,I.ok.exfs,I.ok.funs,I.ok.frf⟩,I.os,I.bare,I.base,I.loc,I.cell,I.free,I.freeC,I.pin,I.hok,I.len⟩
theorem inv_out {X:Cx} {pins:List (Addr×Obj)} {σ:St} {H:Hp} {s:Shared} {e:Value} (hd:X.A.handled=none) (I:Inv (dX X e) pins σ H s):Inv X pins σ H s:=
 ⟨⟨I.ok.mod,I.ok.kind,I.ok.glob,I.ok.blt,I.ok.above,I.ok.inj,I.ok.has,I.ok.cab,(fun _=>hd),I.ok.frames,I.ok.stk,I.ok.exf,I.ok.bs,I.ok.bsz,I.ok.noex,I.ok.exfs,I.ok.funs,I.ok.frf⟩,I.os,I.bare,I.base,I.loc,I.cell,I.free,I.freeC,I.pin,I.hok,I.len⟩
structure kA (K:Frag) (B:Addr):Prop where
 ty:typeIn K (.ref B)=some (.type "type")
 is:(clsIn K B).isSome=true
 be:mroIn K B (.type "BaseException")=some true
theorem is_type {K:Frag} {M:Model} {h:Heap} {C:Addr} (X:K.In h) (e:(clsIn K C).isSome=true):Looks M h (isType (.ref C)) true:=by
 obtain ⟨c',d',cd',sl',hk⟩:=cls_at e
 intro A' Q' E' s' k q
 unfold isType;unfold loadHead
 exact wpAny_bind (wpAny_loadPart (k _ _ (X _ _ hk)) (wpAny_pure q))
theorem matches_ex {K:Frag} {M:Model} {A:Around} {E:Value→Shared→Prop} {s:Shared} {a B C:Addr} {o:Obj} {Q:Bool→Shared→Prop} (X:K.In s.heap) (Y:kA K B) (he:s.heap.get? a=some o) (hc:o.cls = .ref C) (hm:mroIn K C (.ref B)=some true) (hq:Q true s):wpAny M A (excMatches (.ref a) (.ref B)) Q E s:=by
 have L1:Looks M s.heap (isInstance (.ref B) (.type "tuple")) false:=(looks_typeIn X Y.ty).andThen (Looks.of_pure tc_notTuple)
 have L2:=is_type (M:=M) X Y.is
 have L3:=looks_mroIn (M:=M) X Y.be
 have L4:=looks_mroIn (M:=M) X hm
 obtain ⟨h,g,d,t,os⟩:=s
 unfold excMatches isExcClass
 refine wpAny_bind (L1.at ?_)
 dsimp only
 rw [if_neg Bool.false_ne_true]
 refine wpAny_bind (wpAny_pure ?_)
 rw [List.forIn_cons]
 refine wpAny_bind (wpAny_bind (wpAny_bind (wpAny_bind (L2.at ?_))))
 rw [if_pos rfl]
 refine L3.at ?_
 rw [if_neg (show ¬ ((!true)=true) by decide)]
 refine wpAny_pure ?_
 dsimp only
 rw [List.forIn_nil]
 refine wpAny_pure ?_
 have T0:∀ {Q':Value→Shared→Prop},Q' (.ref C) ⟨h,g,d,t,os⟩→wpAny M A (typeOf (.ref a)) Q' E ⟨h,g,d,t,os⟩:=fun {Q'} q'=>by
  repeat (first | (with_reducible refine wpAny_loadPart_at he ?_;rw [hc]) | wp_step)
  exact q'
 refine wpAny_bind (T0 ?_)
 rw [List.forIn_cons]
 refine wpAny_bind (wpAny_bind (wpAny_bind (L4.at ?_)))
 rw [if_pos rfl]
 exact wpAny_pure (wpAny_pure (wpAny_pure hq))
theorem eval_cal {X:Cx} {pins:List (Addr×Obj)} {σ:St} {H:Hp} {s:Shared} {x:Str} {ps:List Str} {k n:Nat} {sp:Sp} {p pos:Pos} {e:Expr} {es:List Expr} {t:TA} {Q:VK} {Ec:XK} (c:gK X.prog X.w X.K X.mg X.base x ps k sp) (hr:Room n X.A) (hn:k≤n) (ha:PA X.nox (e :: es) t) (I:Inv X pins σ H s) (h:t σ H fun vs H1=>sp vs H1 Q Ec) (hg:Gl X x)
 (hdb:(x == ("__debug__":Str))=false) (he:starEach (e :: es) X.env=(false,eval e X.env) :: starEach es X.env) (hpl:(backTo pos (starEach es X.env)).any (·.1)=false) :
 wpAny (model X.prog X.w) X.A (eval (.Call (.Name x p) (e :: es) [] pos) X.env) (EP X pins σ Q) (fun e' s'=>∃ H1 s1,Inv X pins σ H1 s1∧CXF X.prog X.w X.stack H1 s1 Ec e' s') s:=by
 obtain ⟨fa,fd,F,b,kp,m⟩:=c.ex
 refine wpAny_Call_Name_kw (cI I hg m ?_ hdb)
 have hp:=ha pos pins s σ H _ (I.wish _) h
 refine callWith_K (h₀:=X.base) I.ok.mod.kin kp (wpAny_mono hp (fun us s1 z=>?_) (fun _ _ z=>False.elim z)) he hpl
 obtain ⟨vs,H1,I0,r,q⟩:=z
 have I1:=I0.unwish
 refine ⟨I1.kIn,?_⟩
 have hl:us.length=ps.length:=by rw [← r.length];exact F.len _ _ _ _ q
 have hb:=b s1 us I1.kIn (by rw [List.append_nil];exact hl)
 rw [List.append_nil] at hb
 refine wpAny_call (codeAny_mono (F.run X.A X.stack s1 H1 ⟨us,[]⟩ us vs Q Ec (hr.mono hn) I1.env0 hb r q) fun rr s' hq=>?_)
 cases rr with
 | error e'=>exact ⟨H1,s1,I1,hq⟩
 | ok fl=>
   cases fl with
   | ret u=>exact I1.after hq
   | next=>exact False.elim hq
   | brk=>exact False.elim hq
   | cont=>exact False.elim hq
end L2.Ex
end
section
namespace L2.Ex
open PySem PySem.Spec PyProof.Rows PySem.W
section
variable {X:Cx}
abbrev TJ:=Str→St→Hp→VK→Prop
def PJ (X:Cx) (es:List Expr) (t:TJ):Prop:=∀ (pins:List (Addr×Obj)) (s:Shared) (σ:St) (H:Hp) (acc:Str) (Q:VK),Inv X pins σ H s→t acc σ H Q →
 Joins (model X.prog X.w) X.A X.xe (evalEach es X.env) acc (fun out s1=>out.length≤sizeLine∧EP X pins σ Q (.str out s1.toks) { s1 with toks:=s1.toks+1 }) s
def tJn:TJ:=fun acc σ H Q=>acc.length≤sizeLine∧Q (.str acc) H
def tJc (te:TE) (t:TJ):TJ:=fun acc σ H Q=>te σ H fun v H1=>∃ y,v = .str y∧(acc ++ y).length≤sizeLine∧t (acc ++ y) σ H1 Q
theorem pj_nil:PJ X [] tJn:=fun pins s σ H acc Q I h=>⟨h.1,.str acc,H,I.tok _,⟨_,rfl⟩,h.2⟩
theorem cJ {e:Expr} {es:List Expr} {te:TE} {t:TJ} (he:PE X e te) (ht:PJ X es t):PJ X (e :: es) (tJc te t):=by
 intro pins s σ H acc Q I h
 show wpAny _ _ (eval e X.env) _ _ _
 refine thn (he pins s σ H _ I h) fun v s1 z=>?_
 obtain ⟨w,H1,I1,r,y,rfl,hz,q⟩:=z
 obtain ⟨tk,rfl⟩:=r
 exact ⟨y,tk,rfl,hz,ht pins s1 σ H1 _ Q I1 q⟩
def tJoin (t:TJ):TE:=fun σ H Q=>t Str.empty σ H Q
theorem pe_join {e1 e2:Expr} {es:List Expr} {t:TJ} {pos:Pos} (ht:PJ X (e1 :: e2 :: es) t):PE X (.JoinedStr (e1 :: e2 :: es) pos) (tJoin t):=by
 intro pins s σ H Q I h
 exact wpAny_JoinedStr (ht pins s σ H _ Q I h)
end
end L2.Ex
end
section
namespace L2.Ex
open PySem PySem.Spec PyProof.Rows PySem.W
theorem eA (ss:List Str):(ss.map V.str).all cY=true:=by
 rw [List.all_map,List.all_eq_true]
 intro _ _
 rfl
theorem strs_at {ss:List Str} {its:List Value} (r:aV (ss.map V.str) its) {j:Nat} (h:j<its.length):∃ z tk,ss[j]? = some z∧its[j] = .str z tk:=by
 have hl:=r.length
 rw [List.length_map] at hl
 have e:(ss.map V.str)[j]? = some (.str ss[j]):=by rw [List.getElem?_map,List.getElem?_eq_getElem (by omega)];rfl
 obtain ⟨u,hu,tk,rfl⟩:=r.get e
 rw [List.getElem?_eq_getElem h] at hu
 exact ⟨ss[j],tk,List.getElem?_eq_getElem (by omega),Option.some.inj hu⟩
def rIndex (S:Hp→Addr→List V→Prop):V→List V→Hp→VK→Prop:=fun x vs H Q=>∃ (p:Addr) (ss:List Str) (z:Str) (j:Nat),x = .ref p∧vs = [.str z]∧S H p (ss.map V.str)∧ss[j]? = some z∧(∀ m,m<j→ss[m]?≠some z)∧j≤1000∧Q (.int (j:Nat)) H
section
variable {X:Cx}
theorem kY {M:Model} {A:Around} {E:Value→Shared→Prop} {s:Shared} {items:Array Value} {x:Value} {e:Value→Bool} {Q:Option PySem.Fin×Unit→Shared→Prop} (he:∀ y∈items,∀ (E':Value→Shared→Prop) (Q':Bool→Shared→Prop),Q' (e y) s→wpAny M A (eqBool y x) Q' E' s) {j:Nat} (hj:j<items.size) (hit:e items[j]=true)
 (hq:Q (some (.done (.ret (.int j s.toks))),()) { s with toks:=s.toks+1 }):∀ (k i:Nat),i+k=items.size→i≤j→(∀ m (hm:m<items.size),i≤m→m<j→e items[m]=false) →
 wpAny M A (forIn (List.range' i k) ((none:Option PySem.Fin),()) fun (i:Nat) _=>match items[i]? with
  | some y=>do
    if ← eqBool y x then
     let r ← retInt (i:Nat)
     pure (ForInStep.done (some r,()))
    else pure (ForInStep.yield (none,()))
  | _=>pure (ForInStep.yield (none,()))) Q E s
 | 0,i,h1,h2,_=>by omega
 | k+1,i,h1,h2,hn=>by
   have hi:i<items.size:=by omega
   rw [List.range'_succ,List.forIn_cons,Array.getElem?_eq_getElem hi]
   refine wpAny_bind (wpAny_bind (he _ (Array.getElem_mem hi) _ _ ?_))
   by_cases z:i=j
   ·subst z
    rw [hit,if_pos rfl]
    refine wpAny_bind ?_
    unfold retInt
    exact wpAny_bind (wpAny_mkInt (wpAny_pure (wpAny_pure (wpAny_pure hq))))
   ·rw [hn i hi (Nat.le_refl _) (by omega),if_neg Bool.false_ne_true]
    exact wpAny_pure (kY he hj hit hq k (i+1) (by omega) (by omega) fun m hm h3 h4=>hn m hm (by omega) h4)
theorem tup_index (l:Addr) (items:Array Value) (x:Value) (e:Value→Bool) (j:Nat) (hj:j<items.size) (hit:e items[j]=true) (hno:∀ m (hm:m<items.size),m<j→e items[m]=false) :
 Meets (Builtin.«tuple.index» ⟨[.ref l,x],[]⟩) (fun A R s=>IsTup s.heap l items∧(∀ y,y∈items→SeqAt.EqAt A.in1 s y x (e y))∧R (.ok (.ret (.int j s.toks))) { s with toks:=s.toks+1 }):=by
 intro prog w A R s h
 obtain ⟨ht,he,hq⟩:=h
 unfold Builtin.«tuple.index»
 refine wpAny_bind (wpAny_pure ?_)
 refine wpAny_bind (tupleItemsOf_ ht ?_)
 refine wpAny_bind (wpAny_pure ?_)
 refine wpAny_bind (wpAny_pure ?_)
 dsimp only
 rw [Nat.min_self,Std.Legacy.Range.forIn_eq_forIn_range']
 have ez:Std.Legacy.Range.size [:items.size]=items.size:=by simp [Std.Legacy.Range.size]
 rw [ez]
 refine wpAny_bind (kY (e:=e) (fun y hy E' Q' q'=>he y hy prog w E' Q' q') hj hit ?_ items.size 0 (by omega) (by omega) fun m hm _ h4=>hno m hm h4)
 exact wpAny_pure hq
theorem mt_indexT:MtR X "tuple.index" (rIndex (SqT X.K)):=by
 intro pins s σ H x vs v us Q I rx rv h
 obtain ⟨p,ss,z,j,rfl,rfl,hS,hj,hno,h1000,q⟩:=h
 cases rx
 obtain ⟨u,rfl,tk,rfl⟩:=rv.one
 obtain ⟨its,r,pl,hz⟩:=I.tuple hS
 have hl:=r.length
 rw [List.length_map] at hl
 have hj':j<its.length:=by have:=(List.getElem?_eq_some_iff.mp hj).1;omega
 have eqs:∀ (A:Around) (y:Value),y∈its.toArray→SeqAt.EqAt A s y (.str z tk) (eqU (.str z) y):=fun A y hy=>db (x:=.str z) ⟨tk,rfl⟩ rfl r (eA ss) y (by simpa using hy)
 obtain ⟨o,ho,hc,n,hd⟩:=id pl
 refine call_meets PySem.F.slot_tuple_index ⟨_,ho,hc⟩ PySem.F.entry_tuple_index (PySem.F.args_tuple_index_2 _ _) (tup_index p its.toArray (.str z tk) (eqU (.str z)) j (by simpa using hj') ?_ ?_) ⟨pl,fun y hy=>eqs _ y hy,⟨.int j,H,I.tok _,⟨_,rfl⟩,q⟩⟩
 ·obtain ⟨z',tk',e1,e2⟩:=strs_at r hj'
  rw [hj] at e1
  cases e1
  show eqU (.str z) its[j]=true
  rw [e2]
  exact beq_self_eq_true z
 ·intro m hm hlt
  have hm':m<its.length:=by simpa using hm
  obtain ⟨z',tk',e1,e2⟩:=strs_at r hm'
  show eqU (.str z) its[m]=false
  rw [e2]
  exact beq_eq_false_iff_ne.mpr fun w=>hno m hlt (by rw [e1,w])
end
end L2.Ex
end
section
namespace L2.Bk
open PySem PySem.Spec PyProof.Rows L2.Bw
def five:List Str:=["arg","res","item","one","two"]
def kn (t:Kn) (s:Str):Option Kn:=if t.h = "?" then some qK else if s∈aG t.h then t.ks[(aG t.h).idxOf s]? else none
end L2.Bk
end
section
namespace L2.Ex
open PySem PySem.Spec PyProof.Rows
theorem j9 {Y:Cx} {E:XK} {tg iter:Expr} {body:List Stmt} {wi:TI} {g:TG} {tb:TS} {pos:Pos} (hc:Y.calm=true) (hi:PI (Y.wish (XS Y E)) tg iter wi) (hg:PG (Y.wish (XS Y E)) tg g) (hb:PSs (Y.wish (XS Y E)) body tb)
 (hs:∀ x,foldedSetIterable iter Y.env x=pure x:=by intro _;rfl):PS (Y.wish (XS Y E)) (.For tg iter body [] pos) (tFor wi g tb):=
 cU (X:=Y.wish (XS Y E)) (xs_own (X:=Y) (E:=E)) hc hi hg hb hs
end L2.Ex
namespace L2.Bw
open PySem PySem.Spec PyProof.Rows
def jq (K:W.Frag) (ss:List Str) (v:Value):Bool:=gE K ss v && (match v with | .ref b=>(match K.lookup b with | some o=>o.dict.isNone | none=>false) | _=>false)
def IsN (K:W.Frag) (ss:List Str) (v:Value):Prop:=∃ b,v = .ref b∧(∀ H:Hp,SqT K H b (ss.map V.str))∧∃ o,K.lookup b=some o∧o.cls = .type "tuple"∧o.dict=none
theorem isN_of {K:W.Frag} (ss:List Str) (v:Value) (h:jq K ss v=true):IsN K ss v:=by
 unfold jq at h
 rw [Bool.and_eq_true_iff] at h
 obtain ⟨b,rfl,hq⟩:=isT_of ss v h.1
 refine ⟨b,rfl,hq,?_⟩
 have h1:=h.1
 unfold gE at h1
 have h2:=h.2
 cases e:K.lookup b with
 | none=>simp only [e] at h2;cases h2
 | some o=>
   simp only [e] at h2 h1
   rw [Bool.and_eq_true_iff] at h1
   exact ⟨o,rfl,by simpa using h1.1,by simpa using h2⟩
section
variable {X:Cx}
def rTabN (K:W.Frag) (a:Addr) (D:List (Str×List Str)):R2:=fun x y H Q=>x = .ref a∧∃ z ss,y = .str z∧KTD.datumAt z D=some ss∧∀ c,(∀ H':Hp,SqT K H' c (ss.map V.str))→(∃ o,K.lookup c=some o∧o.cls = .type "tuple"∧o.dict=none)→Q (.ref c) H
theorem pe_tabN {x:Str} {p pos:Pos} {b:Expr} {tb:TE} {a:Addr} {D:List (Str×List Str)} (hg:Gl X x) (hm:X.mg x=some (.ref a)) (hK:KTD.tabLook (jq X.K) (fun b=>X.K.lookup b) a D=true) (hb:PE X b tb) (hs:gN b)
 (hd:(x == ("__debug__":Str))=false:=by decide) (hl:∀ r,letTemporaryGo (.Name x p) (.ref a) r=pure ():=by intro _;rfl):PE X (.Subscript (.Name x p) b pos) (tOp (rTabN X.K a D) (tC (.ref a)) tb):=by
 intro pins s σ H Q I h
 refine Subscript_ (binT (fm hg hm (v:=.ref a) rfl hd) hb I h fun v u s2 x' y H2 I2 rx ry q=>?_)
 obtain ⟨e,z,ss,e',hat,q⟩:=q
 subst e e'
 cases rx
 obtain ⟨tz,e⟩:=ry
 subst e
 have T:KTD.TabOf (IsN X.K) s2.heap a D:=KTD.tab_of_look isN_of (fun b o e=>I2.kIn b o e) hK
 have ty:s2.TypeIs (.ref a) "dict":=by obtain ⟨_,o,_,_,ho,hc,_⟩:=T;exact ⟨o,ho,hc.1⟩
 refine subscriptTail_builtin ty slot_dict_getitem.lookup ?_ (hs _ _) hl
 unfold getItem
 refine wpAny_holding ?_
 refine wpAny_bind (wpAny_sequenceKey ty (by decide) ?_)
 refine wpAny_bind (wpAny_callSpecial?_slot (name:=Str.ofString "__getitem__") ty slot_dict_getitem (wpAny_call_entry slot_dict_getitem ty entry_dict_getitem ?_ (args_dict_getitem _ _)))
 show wpAny _ _ (dictGet a (.str z tz) >>= _) _ _ s2
 refine wpAny_bind (jV T hat fun v hv=>wpAny_pure ⟨v,rfl,wpAny_pure ?_⟩)
 obtain ⟨c,e,hc,ho⟩:=hv
 subst e
 exact ⟨.ref c,H2,I2.tok _,rfl,q c hc ho⟩
end
end L2.Bw
end
section
namespace L2.Ex
open PySem PySem.Spec PyProof.Rows PySem.W
def jt (bmB:List Value):List Value→Bool
 | []=>false
 | v :: r=>(v :: r) == bmB || match v with | .ref _=>jt bmB r | _=>false
theorem gI {self:Value} {bmB:List Value} (hp:refuseLoop self "__setattr__" bmB=pure ()):∀ {l:List Value},jt bmB l=true→refuseLoop self "__setattr__" l=pure ()
 | [],e=>by cases e
 | v :: r,e=>by
   unfold jt at e
   rcases Bool.or_eq_true_iff.mp e with z | z
   ·rw [beq_iff_eq.mp z];exact hp
   ·split at z
    ·rw [refuseLoop_ref];exact gI hp z
    ·cases z
abbrev veB:List Value:=[.type "ValueError",.type "Exception",.type "BaseException",.type "object"]
structure kB (K:Frag) (C:Addr):Prop where
 sa:findIn K (.ref C) "__setattr__" = some (some (.builtin "object.__setattr__"))
 over:((clsIn K C).any fun cd=>jt veB cd.mro)=true
 hd:((clsIn K C).any fun cd=>cd.hasDict)=true
 ob:mroIn K C (.type "object")=some true
section
variable {prog:Program} {w:World} {A:Around} {E:Value→Shared→Prop} {s:Shared} {K:Frag} {x C:Addr} {o:Obj} {vs:Array Value} {mA:Str→Option Value} {name:Str} {v:Value} {ns:List Str}
theorem jh {M:Model} {d:Addr} {tk:Tok} {Q:Fin→Shared→Prop} (hn:s.heap.Ns1 d mA) (hw:Within mA ns) (hz:ns.length<1000)
 (hq:∀ h',h'.Ns1 d (fun y=>if y=name then some v else mA y)→Heap.SameBut d s.heap h'→Q (.done (.ret .none)) { s with heap:=h',toks:=s.toks+1 }):wpAny M A (Builtin.ObjectAttr.storeInDict d (.str name tk) name v) Q E s:=by
 unfold Builtin.ObjectAttr.storeInDict Builtin.ObjectAttr.newKeyGuard
 refine wpAny_bind (wpAny_pure (wpAny_bind (wpAny_nsSet1 hn fun h' n' sb=>?_)))
 obtain ⟨od,es,ep,e1,e2,e3⟩:=n'.count (Within.cons name v hw)
 have few:es.size≤sizeLine:=Nat.le_trans e3 (by rw [List.length_cons,sizeLine_eq];omega)
 refine wpAny_bind (wpAny_lookBehind e1 (by rw [e2];exact pastItsLine_dict (Nat.le_succ_of_le few)) ?_)
 exact wpAny_pure (hq h' n' sb)
theorem jc {Q:Unit→Shared→Prop} (X:K.In s.heap) (Z:kB K C) (hf:findIn K (.ref C) name=some none) (hx:s.heap.get? x=some o) (hc:o.cls = .ref C) (hd:o.data = .fields vs)
 (hm:(o.dict=none∧∀ n,mA n=none)∨∃ d,o.dict=some d∧d≠x∧s.heap.Ns1 d mA) (hw:Within mA ns) (hz:ns.length<1000)
 (hq:∀ h' d t',h'.get? x=some { o with dict:=some d }→d≠x→h'.Ns1 d (fun y=>if y=name then some v else mA y)→(∀ b u,b≠x→b≠d→s.heap.get? b=some u→h'.get? b=some u) →
  (o.dict=some d∨(o.dict=none∧s.heap.get? d=none))→Q () { s with heap:=h',toks:=t' }):wpAny (model prog w) A (setAttr (.ref x) name v) Q E s:=by
 obtain ⟨od,I⟩:∃ od,InstAt s.heap x o C od:=by
  rcases hm with ⟨z,_⟩ | ⟨d,z,_,od,_,_,e,_⟩
  ·exact ⟨none,hx,hc,by unfold notCls;rw [hd],by rw [z];trivial⟩
  ·exact ⟨some od,hx,hc,by unfold notCls;rw [hd],by rw [z];exact e⟩
 have SF:=PySem.F.store_ValueError
 obtain ⟨cd,hcd,hov⟩:=any_some Z.over
 obtain ⟨cd',hcd',hhd⟩:=any_some Z.hd
 rw [hcd] at hcd'
 cases hcd'
 refine set_plain X I Z.sa ?_
 obtain ⟨h,g,d,t,os⟩:=s
 have sub:Looks (model prog w) h (isInstance (.ref x) (.type "object")) true:=I.type.andThen (looks_mroIn X Z.ob)
 refine codeAny_call_builtin SF.slot.plain SF.entry (@check_slot (model prog w) _ _ ⟨h,g,d,t+1,os⟩ "object.__setattr__" "object" "__setattr__" (.ref x) [.str name t,v] [] _ SF.kind SF.split sub (SF.args (.ref x) (.str name t) v) ?_)
 have lm:Looks (model prog w) h (mroOf (.ref C)) cd.mro:=(looks_clsIn X hcd).andThen .now
 rw [osa_eq,refuse_eq]
 have l0:=I.type (M:=model prog w)
 have lf:=looks_findIn (M:=model prog w) X hf
 refine wpAny_bind (wpAny_bind (l0.at (wpAny_bind (lm.at ?_))))
 rw [gI (SF.passes _) hov]
 refine wpAny_pure (wpAny_bind (l0.at (wpAny_bind (lf.at ?_))))
 refine wpAny_bind (wpAny_pure ?_)
 refine wpAny_bind (wpAny_pure ?_)
 have lc:=looks_clsIn (M:=model prog w) X hcd
 obtain ⟨oc,odi,oda,osl⟩:=o
 dsimp only at hc hd hm hx
 subst hc hd
 refine wpAny_bind (wpAny_bind (wpAny_loadPart hx (wpAny_bind (lc.at ?_))))
 rw [hhd]
 rcases hm with ⟨rfl,hmA⟩ | ⟨dx,rfl,hne,hns⟩
 ·obtain rfl:mA=fun _=>none:=funext hmA
  have hxs:x≠h.objs.size:=Nat.ne_of_lt (Heap.lt_size hx)
  have hx1:=Heap.get?_push_of_some { cls:=.type "dict",data:=.dict #[] } hx
  refine wpAny_bind (wpAny_alloc' (wpAny_bind (wpAny_update' hx1 ?_)))
  have hg:((h.push { cls:=.type "dict",data:=.dict #[] }).update x fun o=>{ cls:=o.cls,dict:=some h.objs.size,data:=o.data,slots:=o.slots }).get? h.objs.size=some { cls:=.type "dict",data:=.dict #[] }:=
   (Heap.get?_update_ne _ _ _ _ (Ne.symm hxs)).trans (Heap.get?_push_at rfl rfl)
  have hn0:((h.push { cls:=.type "dict",data:=.dict #[] }).update x fun o=>{ cls:=o.cls,dict:=some h.objs.size,data:=o.data,slots:=o.slots }).Ns h.objs.size (fun _=>none):=
   ⟨_,#[],_,hg,rfl,fun e he=>absurd he (by simp),fun _=>rfl⟩
  refine wpAny_pure (a:=some h.objs.size) ?_
  refine jh (Heap.Ns1.of_empty hn0) Within.nil (by decide) fun h' n' sb=>?_
  refine hq h' h.objs.size _ ?_ (Ne.symm hxs) n' (fun b u h1 h2 e=>?_) (.inr ⟨rfl,Heap.get?_none_of_le (Nat.le_refl _)⟩)
  ·refine (sb.2 x hxs).trans (Heap.get?_update_self _ hx1 rfl)
  ·exact (sb.2 b h2).trans ((Heap.get?_update_ne _ _ _ _ h1).trans (Heap.get?_push_of_some _ e))
 ·refine wpAny_pure (a:=some dx) ?_
  refine jh hns hw hz fun h' n' sb=>?_
  exact hq h' dx _ ((sb.2 x (Ne.symm hne)).trans hx) hne n' (fun b u _ h2 e=>(sb.2 b h2).trans e) (.inl rfl)
theorem exc_read {d:Addr} {expr:Bool} {Q:Value→Shared→Prop} (Y:cM K C) (hh:hasDictIn K C=true) (X:K.In s.heap) (hf:findIn K (.ref C) name=some none) (hx:s.heap.get? x=some o) (hc:o.cls = .ref C) (hd:o.data = .fields vs) (hdi:o.dict=some d) (hn:s.heap.Ns1 d mA) (hv:mA name=some v) (hv':handedIn v=true)
 (hq:Q v { s with toks:=s.toks+1 }):wpAny (model prog w) A (getAttr (.ref x) name expr) Q E s:=by
 obtain ⟨od,ho,hl⟩:=jp hn
 have I:InstAt s.heap x o C (some od):=⟨hx,hc,by unfold notCls;rw [hd],by rw [hdi];exact ho⟩
 have fo:findObj K C (some od) name=some (.value v):=findObj_own hh hf rfl (by rw [hl,hv])
 obtain ⟨h,g,dr,t,os⟩:=s
 have l0:=I.type (M:=model prog w)
 have l1:=looks_findIn (M:=model prog w) X Y.ga
 have l2:=looks_findIn (M:=model prog w) X Y.gn
 have l3:=looks_find (M:=model prog w) X I fo
 have G:=PySem.F.attrBase_ValueError.ga
 have b1:=G.bind (.ref x)
 unfold getAttr getAttrBy
 refine wpAny_bind (wpAny_mkText (wpAny_holding (wpAny_bind (l0.at (wpAny_bind (l1.at ?_))))))
 show wpAny _ _ (getAttrByItsOwn _ _ _ _ _ _) _ _ _
 unfold getAttrByItsOwn
 refine wpAny_bind (l2.at (wpAny_bind (wpAny_attempt (wpAny_holding ?_))))
 unfold callGetattribute
 rw [show (expr && onTheHeap (Value.builtin "BaseException.__getattribute__"))=false from Bool.and_false _,if_neg Bool.false_ne_true]
 unfold boundAndCalled
 rw [b1]
 refine wpAny_bind (wpAny_pure ?_)
 refine wpAny_call (codeAny_call_builtin G.plain F.entry_bexc_ga (kH Y X I ?_))
 refine wpAny_bind (wpAny_pure (wpAny_bind (wpAny_pure (wpAny_bind (l0.at (wpAny_bind (l3.at ?_)))))))
 exact wpAny_pure (handed_on hv' hq)
end
structure iO (K:Frag) (C fI:Addr) (bmB:List Value) (newId:String):Prop where
 at_:∃ (nm q:Str) (N:Addr) (bs bm:List Value) (hdct:Bool) (sn:List Str) (sub:List Value) (ab:Bool) (col:Option Bool) (dd:Option Addr) (k0 k1 k2 k3 k5:Option Value),
  K.lookup C=some (excClassObj nm q C N bs bm hdct sn sub ab col dd k0 k1 k2 k3 k5 newId)∧tailIn K bmB bm=true
 init:findIn K (.ref C) "__init__" = some (some (.ref fI))
 fn:isFn K (.ref fI)=true
section
variable {prog:Program} {w:World} {A:Around} {E:Value→Shared→Prop} {K:Frag} {C fI:Addr} {rest bmB:List Value} {B newId initId:String} {h:Heap} {g:Array GenState} {d:Drawn} {t:Nat} {os:OsState}
abbrev jR (h:Heap) (C:Addr) (rest:List Value):Heap:=(h.push { cls:=.type "tuple",data:=.seq rest.toArray }).push { cls:=.ref C,data:=.fields #[.ref h.objs.size,.none,.none,.none,.bool false,.none] }
theorem hW (b:Addr) (u:Obj) (z:h.get? b=some u):(jR h C rest).get? b=some u:=Heap.get?_push_of_some _ (Heap.get?_push_of_some _ z)
theorem bare_made:Heap.MadeExcOf h (jR h C rest) (h.objs.size+1) (.ref C) rest where
 keeps:=hW
 new:=Heap.get?_none_of_le (Nat.le_succ _)
 there:=⟨h.objs.size,by heap_get,Heap.get?_none_of_le (Nat.le_refl _),Heap.get?_push_of_some _ (Heap.get?_push_at rfl rfl)⟩
theorem iR {Q:Fin→Shared→Prop} (F:ExcBaseFacts B newId initId bmB) (X:K.In h) (O:iO K C fI bmB newId) (hz:rest.length≤sizeLine)
 (hq:∀ h' e,Heap.MadeExcOf h h' e (.ref C) rest→wpAny (model prog w) A (call (.ref fI) (.ref e :: rest)) (fun r s'=>r = .none∧Q (.done (.ret (.ref e))) s') E ⟨h',g,d,t,os⟩) :
 wpAny (model prog w) A (Builtin.«type.__call__» ⟨.ref C :: rest,[]⟩) Q E ⟨h,g,d,t,os⟩:=by
 obtain ⟨nm,q,N,bs,bm,hdct,sn,sub,ab,col,dd,k0,k1,k2,k3,k5,l,tl⟩:=O.at_
 have c0:=X _ _ l
 have T:=tail_of_in X tl
 have X1:K.In (jR h C rest):=fun b u z=>hW b u (X b u z)
 have c1:=X1 _ _ l
 have m1:=(bare_made (h:=h) (C:=C) (rest:=rest))
 obtain ⟨tt,e1,_,_⟩:=id m1.there
 have self:(Value.ref C :: bm).contains (.ref C)=true:=by simp
 have l1:=looks_findIn (M:=model prog w) X1 O.init
 have l2:=fun self=>bind_fn (M:=model prog w) X1 self (beq_iff_eq.mp O.fn)
 repeat (first | with_reducible refine wpAny_loadPart_at c0 ?_ | with_reducible refine wpAny_madeBy_exc c0 ?_ | wp_step)
 refine codeAny_call_builtin_code (Code.quiet_builtin _ F.quiet) (wpAny_check_new_subT F T c0 (codeAny_exc_new_subT F T c0 ?_ hz))
 show wpAny _ _ _ _ _ _
 unfold isInstance
 repeat (first | with_reducible refine wpAny_loadPart_at e1 ?_ | (with_reducible refine wpAny_isSubtype_exc c1 ?_;rw [self]) | wp_step)
 refine l1.at (wpAny_holding (wpAny_bind ((l2 _).at ?_)))
 refine wpAny_bind (wpAny_mono (hq _ _ m1) (fun r s' z=>?_) fun _ _ z=>z)
 obtain ⟨rfl,z⟩:=z
 wp_walk
 exact z
theorem exc_call {Q:Value→Shared→Prop} (F:ExcBaseFacts B newId initId bmB) (X:K.In h) (O:iO K C fI bmB newId) (hz:rest.length≤sizeLine)
 (hq:∀ h' e,Heap.MadeExcOf h h' e (.ref C) rest→wpAny (model prog w) (A.under (.builtin "type.__call__" ⟨.ref C :: rest,[]⟩)) (call (.ref fI) (.ref e :: rest)) (fun r s'=>r = .none∧Q (.ref e) s') E ⟨h',g,d,t,os⟩) :
 wpAny (model prog w) A (call (.ref C) rest) Q E ⟨h,g,d,t,os⟩:=by
 obtain ⟨nm,q,N,bs,bm,hdct,sn,sub,ab,col,dd,k0,k1,k2,k3,k5,l,tl⟩:=O.at_
 have c0:=X _ _ l
 have y1:=tc_lookup
 have y2:=tc_bind (.ref C)
 have y3:Shared.TypeIs ⟨h,g,d,t,os⟩ (.ref C) "type":=⟨_,c0,rfl⟩
 refine wpAny_call (codeAny_of_tree ?_)
 show wpAny _ _ (callAny (.ref C) _) _ _ _
 repeat (any_goals (first | assumption | with_reducible refine wpAny_loadPart_at c0 ?_ | wp_step))
 refine ⟨rfl,codeAny_call_builtin_at (Code.quiet_builtin _ (by decide +kernel)) entry_typeCall (wpAny_check_type_call_sub c0 ?_)⟩
 exact iR F X O hz fun h' e m=>hq h' e m
end
end L2.Ex
end
section
namespace L2.Ex
open PySem PySem.Spec PyProof.Rows PySem.W
def XP (fr:Bool) (p C:Addr) (dx:Option Addr) (h:Heap):Prop:=∃ o vs,h.get? p=some o∧o.cls = .ref C∧o.data = .fields vs∧(0<vs.size∧(fr=true→vs[1]? = some .none))∧o.dict=dx∧∀ d,dx=some d→d≠p
def XQ (fr:Bool) (p C:Addr) (dx:Option Addr):HO:=.ext (XP fr p C dx)
def DO (d:Addr) (fs:List (Str×V)):HO:=.ext fun h=>∃ mA,h.Ns1 d mA∧(∀ f,cC (fs.lookup f) (mA f))∧PySem.Within mA (fs.map (·.1))
section
variable {P:Program} {w:World} {H:Hp} {h h':Heap} {p C d:Addr} {dx:Option Addr} {fs:List (Str×V)} {fr:Bool}
theorem xq_ok (x:XP fr p C dx h):bp P w H h p (XQ fr p C dx):=by
 obtain ⟨o,vs,e,r⟩:=id x
 exact ⟨x,⟨o,e⟩,fun h1 h2 ⟨o1,vs1,e1,r1⟩ y=>⟨o1,vs1,y o1 e1,r1⟩⟩
theorem do_ok {mA:Str→Option Value} (n:h.Ns1 d mA) (r:∀ f,cC (fs.lookup f) (mA f)) (wi:PySem.Within mA (fs.map (·.1))):bp P w H h d (DO d fs):=by
 obtain ⟨o,es,ep,e,_⟩:=id n
 exact ⟨⟨mA,n,r,wi⟩,⟨o,e⟩,fun h1 h2 ⟨m1,n1,r1,w1⟩ y=>⟨m1,n1.at y,r1,w1⟩⟩
theorem rel_put {f:Str} {y:V} {u:Value} {mA:Str→Option Value} (r:∀ g,cC (fs.lookup g) (mA g)) (ry:aX y u):∀ g,cC ((di f y fs).lookup g) (if g=f then some u else mA g):=fun g=>by
 rw [dP]
 by_cases q:g=f
 ·rw [if_pos q,if_pos q];exact ry
 ·rw [if_neg q,if_neg q];exact r g
theorem iM {f:Str} {y:V} {u:Value} {mA:Str→Option Value} (wi:PySem.Within mA (fs.map (·.1))):PySem.Within (fun g=>if g=f then some u else mA g) ((di f y fs).map (·.1)):=fun g hg=>by
 by_cases q:g=f
 ·rw [q];exact (cZ f y fs).1
 ·refine (cZ f y fs).2 g (wi g fun z=>hg ?_)
  show (if g=f then some u else mA g)=none
  rw [if_neg q];exact z
end
section
variable {X:Cx}
theorem eM {pins:List (Addr×Obj)} {σ:St} {H:Hp} {s:Shared} {p C:Addr} {dx:Option Addr} {fr:Bool} (I:Inv X pins σ H s) (e:H p=some (XQ fr p C dx)):XP fr p C dx s.heap:=(I.hok p _ e).1
theorem do_get {pins:List (Addr×Obj)} {σ:St} {H:Hp} {s:Shared} {d:Addr} {fs:List (Str×V)} (I:Inv X pins σ H s) (e:H d=some (DO d fs)):∃ mA,s.heap.Ns1 d mA∧(∀ f,cC (fs.lookup f) (mA f))∧PySem.Within mA (fs.map (·.1)):=(I.hok d _ e).1
def sXF (K:Frag) (ta tv:TE) (f:Str):TS:=fun D σ H=>tv σ H fun y H1=>ta σ H1 fun x H2=>∃ fr p C,x = .ref p∧kB K C∧findIn K (.ref C) f=some none ∧
 ((H2 p=some (XQ fr p C none)∧∀ d,H2 d=none→d≠p→D.nx σ (upd (upd H2 p (XQ fr p C (some d))) d (DO d [(f,y)]))) ∨
  ∃ d fs,H2 p=some (XQ fr p C (some d))∧H2 d=some (DO d fs)∧fs.length<900∧D.nx σ (upd H2 d (DO d (di f y fs))))
theorem d9 {o value:Expr} {ta tv:TE} {f:Str} {pos pos':Pos} (hex:X.ex = []) (ha:PE X o ta) (hv:PE X value tv) (hs:swapsWith value (some (.Attribute o f pos')) pos.line X.env=pure false):PS X (.Assign [.Attribute o f pos'] value pos) (sXF X.K ta tv f):=by
 intro pins s σ H D I h
 refine plainObj_wpAny_Assign_Attribute (thn (hv pins s σ H _ I h) fun u s1 ⟨y,H1,I1,ry,q⟩=>thn (ha pins s1 σ H1 _ I1 q) fun ov s2 ⟨x,H2,I2,rx,fr,p,C,ex,Z,hf,q2⟩=>?_) hs
 subst ex
 obtain rfl:ov=Value.ref p:=rx
 rcases q2 with ⟨ep,q2⟩ | ⟨d,fs,ep,ed,lz,q2⟩
 ·obtain ⟨ob,vs,e1,e2,e3,e4,e5,e6⟩:=eM I2 ep
  refine jc (mA:=fun _=>none) (ns:=[]) I2.kIn Z hf e1 e2 e3 (.inl ⟨e5,fun _=>rfl⟩) Within.nil (by decide) fun h' d t' g1 ne n k ds=>?_
  have nd:s2.heap.get? d=none:=by
   rcases ds with z | ⟨_,z⟩
   ·rw [e5] at z;cases z
   ·exact z
  have st:=Inv.strange I2 hex nd
  have I3:Inv X pins σ (upd H2 p (XQ fr p C (some d))) { s2 with heap:=h',toks:=t' }:=I2.write (x:=p) (e:=p) (by rw [ep];exact True.intro) (.inl rfl) (fun b u2 hb z=>k b u2 hb (fun w=>by rw [w,nd] at z;cases z) z) ⟨_,g1⟩
   (xq_ok ⟨_,vs,g1,e2,e3,e4,rfl,fun d' z=>by cases z;exact ne⟩)
  have I4:=Inv.track (b:=d) (o:=DO d [(f,y)]) I3 ⟨st.s0,by rw [au ne];exact st.un,st.nl,st.nc,st.np⟩ (do_ok n (fun g=>?_) ?_)
  ·exact ⟨σ,_,I4,q2 d st.un ne⟩
  ·exact rel_put (fs:=[]) (fun _=>(show cC none none from trivial)) ry g
  ·exact iM (fs:=[]) (f:=f) (y:=y) Within.nil
 ·obtain ⟨ob,vs,e1,e2,e3,e4,e5,e6⟩:=eM I2 ep
  obtain ⟨mA,n0,r0,w0⟩:=do_get I2 ed
  have ne0:=e6 d rfl
  refine jc (mA:=mA) (ns:=fs.map (·.1)) I2.kIn Z hf e1 e2 e3 (.inr ⟨d,e5,ne0,n0⟩) w0 (by rw [List.length_map];omega) fun h' d' t' g1 ne n k ds=>?_
  obtain rfl:d=d':=by
   rcases ds with z | ⟨z,_⟩
   ·rw [e5] at z;exact Option.some.inj z
   ·rw [e5] at z;cases z
  obtain ⟨od,es,epx,g2,_⟩:=id n
  have eo:({ ob with dict:=some d }:Obj)=ob:=by rw [← e5]
  rw [eo] at g1
  refine ⟨σ,_,I2.write (x:=d) (e:=d) (t':=t') (by rw [ed];exact True.intro) (.inl rfl) (fun b u2 hb z=>?_) ⟨_,g2⟩ (do_ok n (rel_put r0 ry) (iM w0)),q2⟩
  by_cases hbp:b=p
  ·rw [hbp] at z ⊢
   rw [e1] at z
   cases z
   exact g1
  ·exact k b u2 hbp hb z
def tXF (K:Frag) (ta:TE) (f:Str):TE:=fun σ H Q=>ta σ H fun x H1=>∃ fr p C d fs v,x = .ref p∧H1 p=some (XQ fr p C (some d))∧H1 d=some (DO d fs)∧cM K C∧hasDictIn K C=true∧findIn K (.ref C) f=some none∧fs.lookup f=some v∧Q v H1
theorem xget_ok {pins:List (Addr×Obj)} {σ:St} {H:Hp} {s:Shared} {A:Around} {E:Value→Shared→Prop} {p C d:Addr} {fs:List (Str×V)} {f:Str} {v:V} {b fr:Bool} {Q:Value→Shared→Prop} (I:Inv X pins σ H s) (ep:H p=some (XQ fr p C (some d))) (ed:H d=some (DO d fs)) (Y:cM X.K C) (hh:hasDictIn X.K C=true) (hf:findIn X.K (.ref C) f=some none) (l:fs.lookup f=some v)
 (h:∀ u s',Inv X pins σ H s'→aX v u→Q u s'):wpAny (model X.prog X.w) A (getAttr (.ref p) f b) Q E s:=by
 obtain ⟨ob,vs,e1,e2,e3,e4,e5,e6⟩:=eM I ep
 obtain ⟨mA,n0,r0,w0⟩:=do_get I ed
 obtain ⟨u,hu,ru⟩:=cC.some_of (v:=v) (o:=mA f) (by rw [← l];exact r0 f)
 exact exc_read Y hh I.kIn hf e1 e2 e3 e5 n0 hu (je ru) (h u _ (I.tok _) ru)
end
end L2.Ex
end
section
namespace L2.Ex
open PySem PySem.Spec PyProof.Rows PySem.W
section
variable {X:Cx}
theorem d8 {e:Expr} {f:Str} {pos:Pos} {ta:TE} (he:PE X e ta) (hb:attributeBase e f X.env (eval e X.env)=eval e X.env):PE X (.Attribute e f pos) (tXF X.K ta f):=by
 intro pins s σ H Q I h
 refine attr_of hb (thn (he pins s σ H _ I h) fun u s1 ⟨x,H1,I1,rx,fr,p,C,d,fs,v,ex,ep,ed,Y,hh,hf,l,q⟩=>?_)
 subst ex
 obtain rfl:u=Value.ref p:=rx
 exact xget_ok I1 ep ed Y hh hf l fun u' s2 I2 ru=>⟨v,H1,I2,ru,q⟩
structure BInit (K:Frag) (B:Addr):Prop where
 ga:specialIn K (.ref B) "__getattribute__" = some (some (.builtin "type.__getattribute__"))
 rd:readsIn K B (.type "type")=true
 at_:findCls K (.ref B) (.type "type") "__init__" = some (.val (.builtin "ValueError.__init__"))
def tBI (C:Addr) (t:TA):TE:=fun σ H Q=>t σ H fun vs H1=>∃ fr p dx r,vs = .ref p :: r∧H1 p=some (XQ fr p C dx)∧r.length≤sizeLine∧Q .non H1
theorem lA {x:Str} {B C fI:Addr} {np apos pos:Pos} {e:Expr} {es:List Expr} {t:TA} {pl:Sem Bool} (Z:BInit X.K B) (O:iO X.K C fI veB "ValueError.__new__") (hm:X.mg x=some (.ref B)) (hg:Gl X x) (ha:PA X (e :: es) t)
 (hdb:(x == ("__debug__":Str))=false:=by decide) (hst:starEach (e :: es) X.env=(false,eval e X.env) :: starEach es X.env:=by rfl) (hpl:(backTo pos (starEach es X.env)).any (·.1)=false:=by rfl)
 (ht:eval (.Call (.Attribute (.Name x np) "__init__" apos) (e :: es) [] pos) X.env=(do
  let ov ← eval (.Name x np) X.env
  standAt apos.atName
  let (f,first) ← holding [ov] (getMethod ov "__init__" pl)
  callWith pos f first (backTo pos (starEach (e :: es) X.env)) (backToKw pos (keywordEach [] X.env))):=by rfl) :
 PE X (.Call (.Attribute (.Name x np) "__init__" apos) (e :: es) [] pos) (tBI C t):=by
 intro pins s σ H Q I h
 have F:=PySem.F.excBase_ValueError
 refine methodCall_KW (pl:=pl) (cI I hg hm ?_ hdb) ht
 refine method_cls I.kIn Z.ga (cls_value I.kIn Z.rd Z.at_ rfl ?_)
 have hA:=ha pos pins _ σ H _ (I.tok (s.toks+1)) h
 rw [hst] at hA ⊢
 refine Calls.callWith_builtin (by show (false || (backTo pos (starEach es X.env)).any (·.1))=false;rw [hpl] <;> rfl) (Calls.evalArgs_plain (thn hA fun us s2 z=>?_))
 obtain ⟨vs,H2,I2,r2,fr,p,dx,r,rfl,ep,lz,q⟩:=z
 obtain ⟨u0,ur,rfl,ru,rr⟩:∃ u0 ur,us=u0 :: ur∧aX (.ref p) u0∧aV r ur:=by
  cases r2 with
  | cons a b=>exact ⟨_,_,rfl,a,b⟩
 obtain rfl:u0=Value.ref p:=ru
 obtain ⟨ob,fv,e1,e2,e3,e4,e5,e6⟩:=eM I2 ep
 obtain ⟨nm,q',N,bs,bm,hdct,sn,sub,ab,col,dd,k0,k1,k2,k3,k5,l,tl⟩:=O.at_
 have K2:=I2.kIn
 obtain ⟨h2,g2,d2,t2,o2⟩:=s2
 have lz':ur.length≤sizeLine:=by rw [← rr.length];exact lz
 show wpAny _ _ (call (.builtin "ValueError.__init__") (.ref p :: ur)) _ _ _
 refine wpAny_call (codeAny_call_builtin F.init.plain F.initEntry (wpAny_check_init_subT F (tail_of_in K2 tl) (K2 _ _ l) e1 e2 ?_))
 have e1':=Heap.get?_push_of_some (h:=h2) { cls:=.type "tuple",data:=.seq ur.toArray } e1
 obtain ⟨f0,e0⟩:∃ f0,fv[0]? = some f0:=⟨_,Array.getElem?_eq_getElem e4.1⟩
 unfold Builtin.«BaseException.__init__» Builtin.BaseException.bexcPut
 refine wpAny_bind (wpAny_newTuple ?_ lz')
 refine wpAny_bind (wpAny_bind (wpAny_field e1' e3 e0 (wpAny_bind (wpAny_setField e1' e3 e4.1 ?_))))
 have dT:=Obj.data_mapFields e3 (·.setIfInBounds 0 (Value.ref h2.objs.size))
 have gs:=Heap.get?_update_self (h:=h2.push { cls:=.type "tuple",data:=.seq ur.toArray }) (Obj.mapFields (·.setIfInBounds 0 (Value.ref h2.objs.size))) e1' (Obj.isFreed_of_fields dT)
 have fin:EP X pins σ Q Value.none ⟨(h2.push { cls:=.type "tuple",data:=.seq ur.toArray }).update p (Obj.mapFields (·.setIfInBounds 0 (Value.ref h2.objs.size))),g2,d2,t2,o2⟩:=by
  have I3:=I2.write (x:=p) (e:=p) (o:=XQ fr p C dx) (t':=t2) (h':=(h2.push { cls:=.type "tuple",data:=.seq ur.toArray }).update p (Obj.mapFields (·.setIfInBounds 0 (Value.ref h2.objs.size)))) (by rw [ep];exact True.intro) (.inl rfl)
   (fun b u2 hb z=>(Heap.get?_update_other _ _ (Ne.symm hb)).trans (Heap.get?_push_of_some _ z)) ⟨_,gs⟩
   (xq_ok ⟨_,_,gs,by rw [Obj.cls_mapFields];exact e2,dT,⟨by simpa using e4.1,fun z=>by simpa using e4.2 z⟩,by rw [kO];exact e5,e6⟩)
  have eh:upd H2 p (XQ fr p C dx)=H2:=by
   funext b
   by_cases z:b=p
   ·rw [z,ag,ep]
   ·rw [au z]
  rw [eh] at I3
  exact ⟨.non,H2,I3,rfl,q⟩
 cases f0 <;> first | exact wpAny_pure (wpAny_pure fin) | exact wpAny_letGo (wpAny_pure fin)
end
end L2.Ex
end
section
namespace L2.Ex
open PySem PySem.Spec PyProof.Rows PySem.W
def del (H:Hp) (a:Addr):Hp:=fun b=>if b=a then none else H b
theorem kM {H:Hp} {a:Addr}:del H a a=none:=by unfold del;rw [if_pos rfl]
theorem dJ {H:Hp} {a b:Addr} (n:b≠a):del H a b=H b:=by unfold del;rw [if_neg n]
theorem kL {H:Hp} {a b:Addr} (n:H b=none):del H a b=none:=by unfold del;split <;> first | rfl | exact n
theorem hok_del {P:Program} {w:World} {H:Hp} {h:Heap} {a:Addr} {φ:Heap→Prop} (x:HOk P w H h) (e:H a=some (.ext φ)):HOk P w (del H a) h:=fun b o q=>by
 by_cases z:b=a
 ·rw [z,kM] at q;cases q
 rw [dJ z] at q
 exact (x b o q).stay (fun _ _ _ q=>q) (fun c q=>by rw [dJ (fun z=>by rw [z,e] at q;cases q)];exact q) fun c xs q=>by rw [dJ (fun z=>by rw [z,e] at q;cases q)];exact q
theorem un_del {fs ch:List Addr} {H0 H:Hp} {h0 h:Heap} {a:Addr} {φ:Heap→Prop} (u:Un fs ch H0 H h0 h) (e:H a=some (.ext φ)):Un fs ch H0 (del H a) h0 h where
 keep:=u.keep
 slot:=u.slot
 free:=fun b o q n hx=>kL (u.free b o q n hx)
 there:=u.there
 tups:=fun b xs q=>by
  have z:=u.tups b xs q
  rw [dJ (fun y=>by rw [y,e] at z;cases z)];exact z
 frzs:=fun b o xs q=>by
  have z:=u.frzs b o xs q
  rw [dJ (fun y=>by rw [y,e] at z;cases z)];exact z
 tbls:=fun b ps q=>by
  obtain ⟨m,z⟩:=u.tbls b ps q
  exact ⟨m,by rw [dJ (fun y=>by rw [y,e] at z;cases z)];exact z⟩
section
variable {X:Cx}
theorem run_excI {pins:List (Addr×Obj)} {σ:St} {H:Hp} {s:Shared} {Q:Addr→Hp→Prop} {us:List Value} {vs:List V} {k:Nat} {C fI:Addr} {fd:FuncData} {ps:List Str} {sp:Sp} {E:Value→Shared→Prop} (O:iO X.K C fI veB "ValueError.__new__") (F:aY X.prog X.w X.K X.mg X.base CX0 k fI fd ps sp) (hr:Room (k+1) X.A) (hb:aJ X.K fd ps [])
 (I:Inv X pins σ H s) (r:aV vs us) (lz:vs.length≤sizeLine) (h:∀ p,H p=none→sp (.ref p :: vs) (upd H p (XQ true p C none)) (fun v H2=>v = .non∧Q p H2) E0) :
 wpAny (model X.prog X.w) X.A (call (.ref C) us) (fun v s'=>∃ p,v = .ref p∧s.heap.get? p=none∧∃ H',Inv X pins σ H' s'∧Q p H') E s:=by
 have lz':us.length≤sizeLine:=by rw [← r.length];exact lz
 obtain ⟨h1,g1,d1,t1,o1⟩:=s
 refine exc_call PySem.F.excBase_ValueError I.kIn O lz' fun h' p m=>?_
 have np:H p=none:=eW I.hok m.new
 obtain ⟨tt,ht,_,_⟩:=m.there
 have I2:Inv X pins σ (upd H p (XQ true p C none)) ⟨h',g1,d1,t1,o1⟩:=I.un (h':=h') (t':=t1) (un_new m.keeps m.new np) (hok_new I.hok m.keeps np (xq_ok ⟨_,_,ht,rfl,rfl,⟨by simp,fun _=>rfl⟩,rfl,fun d z=>by cases z⟩))
 have hq:=h p np
 have r2:aV (V.ref p :: vs) (Value.ref p :: us):=.cons rfl r
 have hl:(Value.ref p :: us ++ []).length=ps.length:=by
  rw [List.append_nil,← r2.length]
  exact F.len _ _ _ _ hq
 have hbb:=hb ⟨h',g1,d1,t1,o1⟩ (Value.ref p :: us) I2.kIn hl
 rw [List.append_nil] at hbb
 refine wpAny_call (codeAny_mono (F.run _ X.stack _ _ ⟨Value.ref p :: us,[]⟩ (Value.ref p :: us) _ _ E0 (hr.make C us []) (I2.env0.make C us []) hbb r2 hq) fun rr s' hq'=>?_)
 cases rr with
 | error e=>exact hq'.elim
 | ok fl=>
   cases fl with
   | ret u=>
     obtain ⟨v,H',I3,rv,ev,q3⟩:=I2.after hq'
     subst ev
     exact ⟨rv,p,rfl,m.new,H',I3,q3⟩
   | next=>exact False.elim hq'
   | brk=>exact False.elim hq'
   | cont=>exact False.elim hq'
theorem xs_madeI {E:XK} {pins:List (Addr×Obj)} {σ:St} {H H':Hp} {s s':Shared} {p C:Addr} {dx:Option Addr} (I0:Inv X pins σ H s) (n0:s.heap.get? p=none) (I:Inv X pins σ H' s') (hst:X.stack=X.env :: X.outer) (hf:X.env.frame=some X.env.locals) (hex:X.ex = []) (ep:H' p=some (XQ true p C dx)) (q:E (.ref C) dx (del H' p)):XS X E (.ref p) s':=by
 have st0:=Inv.strange I0 hex n0
 have b0:=I.base
 rw [hex] at b0
 have st:=I.stack
 rw [hst] at st
 obtain ⟨ob,vs,e1,e2,e3,e4,e5,e6⟩:=eM I ep
 refine ⟨p,.ref C,dx,del H' p,rfl,⟨st0.s0,kM,I.os,I.bare,un_del b0 ep,hok_del I.hok ep,st,(fun b hb=>kL (I.stkFree b (by rw [hst];exact hb))),Heap.get?_none_of_le I.ok.above,hf,(by rw [← hst];exact I.ok.frames),q⟩,.inl ⟨ob,vs,e1,⟨e2,e5⟩,e3,e4.2 rfl⟩⟩
theorem raise_obj {M:Model} {A:Around} {E:Value→Shared→Prop} {s:Shared} {K:Frag} {env:Env} {C:Addr} {x:Sem Value} {Q:Flow→Shared→Prop} (be:mroIn K C (.type "BaseException")=some true) (ty:typeIn K (.ref C)=some (.type "type")) (hh:A.handled=none)
 (h:wpAny M A x (fun v s1=>∃ p ob vs,v = .ref p∧K.In s1.heap∧s1.heap.get? p=some ob∧ob.cls = .ref C∧ob.data = .fields vs∧vs[1]? = some .none∧E (.ref p) s1) E s):wpAny M A (raiseStmt env (some x) none) Q E s:=by
 unfold raiseStmt
 refine wpAny_bind (wpAny_mono h (fun v s1 z=>?_) fun _ _ z=>z)
 obtain ⟨p,⟨oc,od,oda,osl⟩,vs,rfl,Xk,e1,e2,e3,e4,q⟩:=z
 simp only at e2 e3
 subst e2 e3
 obtain ⟨h1,g1,d1,t1,o1⟩:=s1
 have l0:Looks M h1 (typeOf (.ref p)) (.ref C):=(Looks.ld e1).andThen .now
 have l1:Looks M h1 (isInstance (.ref p) (.type "BaseException")) true:=l0.andThen (looks_mroIn Xk be)
 have l2:=looks_typeIn (M:=M) Xk ty
 have l3:Looks M h1 (isType (.ref p)) false:=(Looks.ld e1).andThen .now
 have l4:Looks M h1 (isExcClass (.ref p)) false:=l3.andThen .now
 refine wpAny_bind (wpAny_pure (wpAny_bind (wpAny_holding ?_)))
 unfold excFromValue raisedInstance setFlight
 refine wpAny_bind (l4.at ?_)
 rw [if_neg Bool.false_ne_true]
 refine wpAny_bind (l1.at ?_)
 rw [if_pos rfl]
 refine wpAny_pure (wpAny_bind (l3.at ?_))
 rw [if_neg Bool.false_ne_true]
 refine wpAny_bind (wpAny_bind (l0.at (wpAny_bind (l2.at ?_))))
 rw [if_pos (show (Value.type "type" == Value.type "type")=true by decide)]
 refine wpAny_pure (wpAny_bind (wpAny_bind (wpAny_field e1 rfl e4 ?_)))
 rw [if_neg (show ¬ ((Value.none != Value.none)=true) by decide)]
 exact wpAny_pure (wpAny_raiseNew_none hh q)
def tRaiseI (C:Addr) (sp:Sp) (E:XK) (t:TA):TS:=fun _ σ H=>t σ H fun vs H1=>vs.length≤sizeLine∧∀ p,H1 p=none→sp (.ref p :: vs) (upd H1 p (XQ true p C none)) (fun v H2=>v = .non∧∃ dx,H2 p=some (XQ true p C dx)∧E (.ref C) dx (del H2 p)) E0
theorem jw {Y:Cx} {E:XK} {x:Str} {C fI:Addr} {k n:Nat} {fd:FuncData} {ps:List Str} {sp:Sp} {np cpos pos:Pos} {e:Expr} {es:List Expr} {t:TA} (O:iO Y.K C fI veB "ValueError.__new__") (F:aY Y.prog Y.w Y.K Y.mg Y.base CX0 k fI fd ps sp) (hr:Room n Y.A) (hb:aJ Y.K fd ps []) (hm:Y.mg x=some (.ref C)) (kp:keepIn Y.K (.ref C)=true) (be:mroIn Y.K C (.type "BaseException")=some true) (ty:typeIn Y.K (.ref C)=some (.type "type"))
 (ha:PA (Y.wish (XS Y E)) (e :: es) t) (hn:k+1≤n:=by omega) (hst:Y.stack=Y.env :: Y.outer:=by rfl) (hf:Y.env.frame=some Y.env.locals:=by rfl) (hex:Y.ex = []:=by rfl) (hc:Y.calm=true:=by rfl) (hg:Gl Y x:=by rfl) (hdb:(x == ("__debug__":Str))=false:=by decide)
 (he:starEach (e :: es) Y.env=(false,eval e Y.env) :: starEach es Y.env:=by rfl) (hpl:(backTo cpos (starEach es Y.env)).any (·.1)=false:=by rfl) :
 PS (Y.wish (XS Y E)) (.Raise (some (.Call (.Name x np) (e :: es) [] cpos)) none pos) (tRaiseI C sp E t):=by
 intro pins s σ H D I h
 have hh:=I.ok.hd hc
 rw [arm_exec_Raise]
 refine wpAny_bind (wpAny_standAt (raise_obj (K:=Y.K) (C:=C) be ty hh (wpAny_bind ?_)))
 refine wpAny_Call_Name_kw (cI I hg hm ?_ hdb)
 refine callWith_K (h₀:=Y.base) I.ok.mod.kin kp (thn (ha cpos pins s σ H _ I h) fun us s1 z=>?_) he hpl
 obtain ⟨vs,H1,I1,r,lz,qE⟩:=z
 refine ⟨I1.kIn,?_⟩
 refine wpAny_mono (run_excI (X:=Y) (Q:=fun p H2=>∃ dx,H2 p=some (XQ true p C dx)∧E (.ref C) dx (del H2 p)) (E:=XS Y E) O F (hr.mono hn) hb I1.unwish r lz fun p np=>?_) (fun v s' z=>?_) fun _ _ z=>z
 ·exact qE p np
 ·obtain ⟨p,rfl,n0,H',I3,dx,ep,q⟩:=z
  obtain ⟨ob,vs',e1,e2,e3,e4,e5,e6⟩:=eM I3 ep
  refine wpAny_bind (wpAny_standAt (wpAny_pure ⟨p,ob,vs',rfl,I3.kIn,e1,e2,e3,e4.2 rfl,xs_madeI I1.unwish n0 I3 hst hf hex ep q⟩))
end
end L2.Ex
end
section
namespace L2.Ex
open PySem PySem.Spec PyProof.Rows PySem.W
def Suite2 (K:Frag) (B:Addr) (k:Nat) (ts:TS) (D:eO) (σ:St):XK:=fun cls dx H2=>∃ C,cls = .ref C∧mroIn K C (.ref B)=some true∧(∀ d,dx=some d→∃ o,H2 d=some o) ∧
 ∀ a,H2 a=none→ts { nx:=fun σ' H'=>D.nx (σ'.set k none) H',rt:=fun _ _=>False } (σ.set k (some (.ref a))) (upd H2 a (XQ false a C dx))
theorem caught2 {X:Cx} {pins:List (Addr×Obj)} {σ:St} {H1:Hp} {s1 s':Shared} {e:Value} {B:Addr} {Bn n:Str} {np hpos:Pos} {k:Nat} {b₀:Stmt} {suite:List Stmt} {rest:List ExceptHandler} {ts:TS} {D:eO}
 (I:Inv X pins σ H1 s1) (x:CXF X.prog X.w X.stack H1 s1 (Suite2 X.K B k ts D σ) e s') (Y:kA X.K B) (hm:X.mg Bn=some (.ref B)) (hN:X.N.Nodup) (hk:X.N[k]? = some n) (hl:X.env.scope.names.lookup n=some .local) (hS:∀ a,PSs (dX X (.ref a)) (b₀ :: suite) ts)
 (hst:X.stack=X.env :: X.outer) (hf:X.env.frame=some X.env.locals) (hex:X.ex = []) (hc:X.calm=true) (hg:Gl X Bn) (hdb:(Bn == ("__debug__":Str))=false) :
 wpAny (model X.prog X.w) X.A (noteFrame e X.env) (fun _ s₂=>wpAny (model X.prog X.w) X.A (setFlight e none) (fun _ s₃=>wpAny (model X.prog X.w) X.A (handleBy e X.env (.ExceptHandler (some (.Name Bn np)) (some n) (b₀ :: suite) hpos :: rest)) (SP X pins D) X.xe s₃) X.xe s₂) X.xe s':=by
 obtain ⟨a,T,cls,dx,H',rfl,t,na,nT,ua,uT,os,bare,un,hok,C,rfl,hsub,there,q⟩:=x
 have I':Inv X pins σ H' s':=I.call' os un hok bare (fun _ z=>nomatch z)
 have qa0:=Inv.strange I hex na
 have qT0:=Inv.strange I hex nT
 have qa:eQ X pins H' a:=⟨qa0.s0,ua,qa0.nl,qa0.nc,qa0.np⟩
 have qT:eQ X pins H' T:=⟨qT0.s0,uT,qT0.nl,qT0.nc,qT0.np⟩
 have hfr:X.A.frames=some (X.env :: X.outer):=by rw [← hst];exact I.ok.frames
 have hd:=I.ok.hd hc
 have st':=I'.stack
 rw [hst] at st'
 refine jr hfr st' hf t fun h2 T2 n2 t2 y2=>?_
 have qT2:=Inv.strange I' hex n2
 rw [← hst] at y2
 have I2:=Inv.wr (t':=s'.toks) I' hex y2 (fun b hb=>by
  rcases List.mem_cons.mp hb with z | z
  ·rw [z];exact qa
  ·rw [List.mem_singleton.mp z];exact qT)
 refine eJ (S:=frs X.stack) (fr:=none) t2 fun h3 t3 y3=>?_
 have I3:=Inv.wr (t':=s'.toks) I2 hex y3 (fun b hb=>by rw [List.mem_singleton.mp hb];exact qT2)
 refine wpAny_handleBy_cons ?_ (fun z=>nomatch z)
 refine codeAny_handlers_test ?_
 have J3:=jj (.ref a) I3
 refine cI (X:=dX X (.ref a)) J3 hg hm ?_ hdb
 obtain ⟨oe,vs,oT,tt,he,⟨hcl,hdi⟩,hda,h1,ne,hT,hdT,h3'⟩:=id t3
 refine matches_ex I3.kIn Y he hcl hsub ?_
 show codeAny _ _ _ _ _
 refine codeAny_handlers_suite_as ?_
 refine eJ (S:=frs X.stack) (fr:=none) t3 fun h4 t4 y4=>?_
 have I4:=Inv.wr (t':=s'.toks) I3 hex y4 (fun b hb=>by rw [List.mem_singleton.mp hb];exact qT2)
 obtain ⟨oe4,vs4,oT4,tt4,he4,⟨hcl4,hdi4⟩,hda4,h14,_⟩:=id t4
 have neD:∀ d,dx=some d→d≠a:=fun d z w=>by
  obtain ⟨o,e⟩:=there d z
  rw [w,ua] at e
  cases e
 have I5:=Inv.track I4 qa (xq_ok ⟨oe4,vs4,he4,hcl4,hda4,⟨Nat.lt_of_lt_of_le Nat.zero_lt_one (Nat.le_of_lt (Array.getElem?_eq_some_iff.mp h14).1),fun z=>nomatch z⟩,hdi4,fun d z=>neD d z⟩:bp X.prog X.w (upd H' a (XQ false a C dx)) h4 a (XQ false a C dx))
 have J5:=jj (.ref a) I5
 refine fB (X:=dX X (.ref a)) (i:=k) (v:=.ref a) J5 hN hk (Or.inl hl) rfl (fun s6 J6=>?_) (.inr hl)
 refine wpAny_mono (hS a pins s6 _ _ _ J6 (q a ua)) (fun f s7 z=>?_) (fun _ _ z=>False.elim z)
 cases f with
 | next=>
   obtain ⟨σ',H'',J7,dn⟩:=z
   have I7:=inv_out hd J7
   obtain ⟨m,hn,_⟩:=I7.loc
   refine name_goes hl hn (by rw [I.ok.kind];rfl) fun h8 v n8 s8=>?_
   exact ⟨σ'.set k none,H'',Inv.gone I7 hk hl hn n8 s8 hN,dn⟩
 | ret u=>obtain ⟨_,_,_,_,_,z⟩:=z;exact z.elim
 | brk=>obtain ⟨_,_,_,z⟩:=z;exact z.elim
 | cont=>obtain ⟨_,_,_,z⟩:=z;exact z.elim
def tTryB (K:Frag) (B:Addr) (i k:Nat) (sp:Sp) (t:TA) (ts:TS):TS:=fun D σ H=>t σ H fun vs H1=>sp vs H1 (fun v H2=>D.nx (σ.set i (some v)) H2) (Suite2 K B k ts D σ)
theorem ps_tryB {X:Cx} {x f:Str} {ps:List Str} {lv lw:Nat} {sp:Sp} {p cpos px apos np hpos pos:Pos} {e:Expr} {es:List Expr} {t:TA} {B:Addr} {Bn n:Str} {i k:Nat} {b₀:Stmt} {suite:List Stmt} {ts:TS}
 (c:gK X.prog X.w X.K X.mg X.base f ps lv sp) (hr:Room lw X.A) (ha:PA X.nox (e :: es) t) (Y:kA X.K B) (hm:X.mg Bn=some (.ref B)) (hN:X.N.Nodup) (hi:X.N[i]? = some x) (hx:X.env.scope.names.lookup x=some .local) (hk:X.N[k]? = some n) (hl:X.env.scope.names.lookup n=some .local) (hS:∀ a,PSs (dX X (.ref a)) (b₀ :: suite) ts)
 (hn:lv≤lw:=by omega) (hst:X.stack=X.env :: X.outer:=by rfl) (hf:X.env.frame=some X.env.locals:=by rfl) (hex:X.ex = []:=by rfl) (hc:X.calm=true:=by rfl) (hgf:Gl X f:=by rfl) (hgB:Gl X Bn:=by rfl) (hdf:(f == ("__debug__":Str))=false:=by decide) (hdB:(Bn == ("__debug__":Str))=false:=by decide)
 (he:starEach (e :: es) X.env=(false,eval e X.env) :: starEach es X.env:=by rfl) (hpl:(backTo cpos (starEach es X.env)).any (·.1)=false:=by rfl) (hsw:swapsWith (.Call (.Name f p) (e :: es) [] cpos) (some (.Name x px)) apos.line X.env=pure false:=by rfl) :
 PS X (.Try [.Assign [.Name x px] (.Call (.Name f p) (e :: es) [] cpos) apos] [.ExceptHandler (some (.Name Bn np)) (some n) (b₀ :: suite) hpos] [] [] pos) (tTryB X.K B i k sp t ts):=by
 intro pins s σ H D I h
 refine wpAny_Try_except ?_
 have body:wpAny (model X.prog X.w) X.A (exec (.Assign [.Name x px] (.Call (.Name f p) (e :: es) [] cpos) apos) X.env) (SP X pins { D with bk:=fun _ _=>False,ct:=fun _ _=>False,rt:=fun _ _=>False }) (fun e' s'=>∃ H1 s1,Inv X pins σ H1 s1∧CXF X.prog X.w X.stack H1 s1 (Suite2 X.K B k ts D σ) e' s') s:=by
  refine wpAny_Assign_Name (thn (eval_cal c hr hn ha I h hgf hdf he hpl) fun v s1 z=>?_) hsw
  obtain ⟨y,H1,I1,r1,q1⟩:=z
  exact fB I1 hN hi (Or.inl hx) r1 (fun s2 I2=>⟨_,H1,I2,q1⟩) (.inr hx)
 refine wpAny_execs_cons (wpAny_mono body (fun fl s1 z=>?_) fun e' s1 z=>?_)
 ·cases fl with
  | next=>exact wpAny_execs_nil (wpAny_execs_nil z)
  | ret u=>obtain ⟨_,_,_,_,_,z⟩:=z;exact z.elim
  | brk=>obtain ⟨_,_,_,z⟩:=z;exact z.elim
  | cont=>obtain ⟨_,_,_,z⟩:=z;exact z.elim
 ·obtain ⟨H1,s2,I2,xx⟩:=z
  exact caught2 I2 xx Y hm hN hk hl hS hst hf hex hc hgB hdB
section
variable {X:Cx}
theorem kitx_inst {K:Frag} {p C:Addr} (Y:cM K C):KitX K (.ref p) (.ref C) (fun h=>∃ o od,InstAt h p o C od) where
 ty:=fun M h _ z=>let ⟨_,_,I⟩:=z;I.type
 it:=fun M h X _=>is_type X Y.is
 ne:=fun h tp dd its n sl X e=>by
  obtain ⟨c',d',cd',sl',hk⟩:=cls_at Y.is
  refine beq_eq_false_iff_ne.mpr fun z=>?_
  cases z
  rw [X _ _ hk] at e
  cases e
 ca:=fun {prog w A E Q s} X z hq=>by
  obtain ⟨_,_,I⟩:=z
  obtain ⟨h,g,d,t,os⟩:=s
  exact class_attr Y X I hq
def rIsX (K:Frag):List V→Hp→VK→Prop:=fun xs H Q=>∃ (fr:Bool) (p C:Addr) (dx:Option Addr) (c:V) (cv:Value) (b:Bool),xs = [.ref p,c]∧aX c cv∧(∀ u,aX c u→u=cv)∧H p=some (XQ fr p C dx)∧(∀ d,dx=some d→∃ fs,H d=some (DO d fs))∧cM K C∧kitOne K (.ref C) cv=some b∧Q (.bl b) H
theorem cm:dE X (.builtin "isinstance") (rIsX X.K):=by
 intro pins s σ H xs us Q I r h
 obtain ⟨fr,p,C,dx,c,cv,b,rfl,rc,un,hp,hd,Y,k,q⟩:=h
 obtain ⟨u,v,e,ru,rv⟩:=aV.two r
 subst e
 cases (show u=Value.ref p from ru)
 rw [un v rv]
 have J:∃ o od,InstAt s.heap p o C od:=by
  obtain ⟨ob,vs,e1,e2,e3,e4,e5,e6⟩:=eM I hp
  cases dx with
  | none=>exact ⟨ob,none,e1,e2,by unfold notCls;rw [e3],by rw [e5];trivial⟩
  | some d=>
    obtain ⟨fs,ed⟩:=hd d rfl
    obtain ⟨mA,⟨od,es,ep,e7,_⟩,_⟩:=do_get I ed
    exact ⟨ob,some od,e1,e2,by unfold notCls;rw [e3],by rw [e5];exact e7⟩
 exact kia_one (kitx_inst Y) I.kIn J k (fun z=>nomatch z) fun tk=>⟨.bl b,H,I.tok tk,rfl,q⟩
end
end L2.Ex
end
section
namespace L2.Bw
open PySem PySem.Spec PyProof.Rows
def ItL (K:W.Frag) (a:Addr):It where
 go:=fun i H=>∃ xs,SqL K H a xs∧i<xs.length
 yld:=fun i H v H'=>∃ T x,v = .ref T∧H T=none∧H'=upd H T (.tup [.int (i:Nat),x])∧∀ xs,SqL K H a xs→xs[i]? = some x
 stop:=fun i H=>∃ xs,SqL K H a xs∧xs.length=i
theorem turn_enumL {P:Program} {w:World} {K:W.Frag} {es:List Expr} {k:Nat} {tp:Pos} (a e it:Addr) (ne:e≠it) :
 iP P w K (.Tuple es k tp) (ItL K a) [e,it] e (fun i h=>(∃ old,IsEnum h e it (i:Nat) old)∧h.IsListIter it a i) where
 mem:=by simp
 obj:=fun i h st c hc=>by
  obtain ⟨⟨old,h1⟩,⟨o2,e2,c2,d2⟩⟩:=st
  have hc':c=e∨c=it:=by simpa using hc
  rcases hc' with rfl | rfl
  ·exact ⟨_,h1,fun v q=>by cases (show Data.fields _=Data.cell v from q)⟩
  ·exact ⟨o2,e2,fun v q=>by rw [d2] at q;cases q⟩
 keep:=fun i h h' st kp=>by
  obtain ⟨⟨old,h1⟩,h2⟩:=st
  exact ⟨⟨old,kp e (by simp) _ h1⟩,h2.at fun o q=>kp it (by simp) o q⟩
 item:=by
  intro X hP hw hK hc i pins s σ H E I hf st hg
  subst hP hw hK
  obtain ⟨xs,hx,l1⟩:=hg
  obtain ⟨its,r1,p1,z1⟩:=I.list hx
  have len:=r1.length
  have W:=WalksT.enumerate (prog:=X.prog) (w:=X.w) (A:=X.A) (I.ok.hd hc) e it a ne (cy I (hf e (by simp)) hx) (cy I (hf it (by simp)) hx) its.toArray
  refine W.item i s _ _ (by simp;omega) ⟨st.1,st.2,p1.isList⟩ fun T vals h' tk hv hT ht hm kp=>?_
  obtain ⟨t,x,ex,rfl⟩:=hv
  have Tw:T ∉ [e,it]:=W.apart _ _ _ hm
  refine ⟨_,rfl,W.go es k tp i T _ _ _ hm fun h2' st2 kp2=>?_⟩
  obtain ⟨g1,g2,_⟩:=st2
  obtain ⟨xv,ev,rx⟩:∃ xv,xs[i]? = some xv∧aX xv x:=by
   have hi:xs[i]? = some xs[i]:=List.getElem?_eq_getElem l1
   obtain ⟨u,hu,ru⟩:=r1.get hi
   have e2:its[i]? = some x:=by simpa using ex
   rw [e2] at hu;cases hu
   exact ⟨_,hi,ru⟩
  have ht2:IsTup h2' T #[.int i t,x]:=by
   obtain ⟨o,eo,r⟩:=ht
   exact ⟨o,kp2 T o Tw eo,r⟩
  have I2:Inv X pins σ (upd H T (.tup [.int (i:Nat),xv])) { s with heap:=h2',toks:=tk }:=
   g9 (ch:=[e,it]) I (fun b o hb q=>kp2 b o hb (kp b o hb q)) hf hT ⟨[.int i t,x],.cons ⟨t,rfl⟩ (.cons rx .nil),ht2⟩ (by show 2≤sizeLine;decide)
  refine ⟨.ref T,_,I2,rfl,⟨T,xv,rfl,I.hok.fresh hT,rfl,fun us hu=>by rw [I.list_inj hu hx];exact ev⟩,⟨g1,g2⟩,fun b hb=>?_⟩
  have hbT:b≠T:=fun z=>Tw (z ▸ hb)
  rw [au hbT]
  exact (hf b hb).1
 done:=by
  intro X hP hw hK hc i pins s σ H E I hf st hg
  subst hP hw hK
  obtain ⟨xs,hx,hi⟩:=hg
  obtain ⟨its,r1,p1,z1⟩:=I.list hx
  have len:=r1.length
  have W:=WalksT.enumerate (prog:=X.prog) (w:=X.w) (A:=X.A) (I.ok.hd hc) e it a ne (cy I (hf e (by simp)) hx) (cy I (hf it (by simp)) hx) its.toArray
  have hn:i=its.toArray.size:=by simp;omega
  refine W.done s _ _ (by rw [← hn];exact ⟨st.1,st.2,p1.isList⟩) fun h' tk kp=>⟨rfl,?_⟩
  exact g7 (ch:=[e,it]) I kp hf
 self:=fun _ _ _ _ _ st h=>let ⟨⟨_,z⟩,_⟩:=st;wpAny_pyIter_enum z h
section
variable {X:Cx}
def iEnumL (K:W.Frag) (ta:TA):TI:=fun σ H R=>ta σ H fun vs H1=>∃ a xs,vs = [.ref a]∧H1 a=some (.lst xs)∧R (ItL K a) H1
theorem fu {es:List Expr} {k:Nat} {tp p pos:Pos} {a:Expr} {ta:TA} (hg:Gl X "enumerate") (hm:X.mg "enumerate" = none) (ha:PA X [a] ta) (hs:starEach [a] X.env = [(false,eval a X.env)]:=by rfl) :
 PI X (.Tuple es k tp) (.Call (.Name "enumerate" p) [a] [] pos) (iEnumL X.K ta):=by
 intro pins s σ H R I h
 refine Call_ (cQ I hg hm boot_enumerate (PyProof.Rows.callWith_type1 (thn (ha pos pins s σ H _ I h) fun us s1 q1=>?_) (by rw [hs];rfl) rfl))
 obtain ⟨vs,H1,I1,r1,l,xs,e,hx,q⟩:=q1
 subst e
 obtain ⟨u,e,ru⟩:=aV.one r1
 subst e
 cases ru
 obtain ⟨lz,its,n,v1,_,ho⟩:=I1.lstM hx
 refine call_enumerate_1 ho fun h' g1 g2 hsz kp=>wpAny_pyIter_enum g1 ?_
 have I2:Inv X pins σ H1 { s1 with heap:=h' }:=I1.kept (t':=s1.toks) kp
 refine ⟨s1.heap.objs.size+1,[s1.heap.objs.size+1,s1.heap.objs.size],_,ItL X.K l,H1,rfl,I2,turn_enumL l _ _ (Nat.succ_ne_self _),⟨⟨_,g1⟩,g2⟩,fun c hc=>?_,q⟩
 have hc':s1.heap.objs.size≤c:=by
  rcases List.mem_cons.mp hc with z | z
  ·rw [z];exact Nat.le_succ _
  ·rw [List.mem_singleton.mp z];exact Nat.le_refl _
 exact I1.fpOk hc' (I1.hok.fresh hc')
end
end L2.Bw
end
section
namespace L2.Bk
open PySem PySem.Spec PyProof.Rows L2.Bw L2.Ex
section
variable {X:Cx}
def tFmt (te:TE):TE:=fun σ H Q=>te σ H fun v H1=>∃ i:Int,v = .int i∧i.natAbs.log2<1920∧Q (.str (Str.ofString (toString i))) H1
theorem pe_fmt {e:Expr} {te:TE} {pos:Pos} (he:PE X e te):PE X (.FormattedValue e (-1) none pos) (tFmt te):=by
 intro pins s σ H Q I h
 refine FormattedValue_plain (thn (he pins s σ H _ I h) fun v s1 z=>?_)
 obtain ⟨y,H1,I1,r,i,rfl,hi,q⟩:=z
 obtain ⟨tk,rfl⟩:=r
 exact wpAny_formatField_int hi ⟨.str _,H1,I1.tok _,⟨_,rfl⟩,q⟩
end
end L2.Bk
end
section
namespace L2.Bk
open PySem PySem.Spec PyProof.Rows L2.Bw L2.Ex
inductive Tn where
 | mk (w:Str) (p:Int) (fr mid:List Dk) (ps:List Tn)
mutual
def Tn.d:Tn→Dk
 | .mk w p fr mid ps=>.tup (.str w :: .int p :: (fr ++ mid ++ (if w = "row" then [.tup (Tn.ds ps)] else Tn.ds ps)))
def Tn.ds:List Tn→List Dk
 | []=>[]
 | t :: r=>t.d :: Tn.ds r
end
def Tn.w:Tn→Str | .mk w _ _ _ _=>w
def Tn.p:Tn→Int | .mk _ p _ _ _=>p
def Tn.fr:Tn→List Dk | .mk _ _ fr _ _=>fr
def Tn.ps:Tn→List Tn | .mk _ _ _ _ ps=>ps
mutual
def Tn.dep:Tn→Nat
 | .mk _ _ _ _ ps=>1+Tn.deps ps
def Tn.deps:List Tn→Nat
 | []=>0
 | t :: r=>max t.dep (Tn.deps r)
end
def dQ:List Str:=["name","fn","let","self"]
mutual
def Tn.wf:Tn→Prop
 | .mk w p fr mid ps=>(w∈K11.words∧fr.length=K11.nf w∧mid.length=K11.nk w∧(w≠"row"→ps.length=K11.np w)∧ps.length≤5∧(w∈dQ→∃ ns:List Str,fr=ns.map Dk.str)∧0≤p∧p<100000)∧Tn.wfs ps
def Tn.wfs:List Tn→Prop
 | []=>True
 | t :: r=>t.wf∧Tn.wfs r
end
theorem b8:∀ (ks:List Tn),(Tn.ds ks).length=ks.length
 | []=>rfl
 | _ :: r=>by show (Tn.ds r).length+1=r.length+1;rw [b8 r]
theorem fD:∀ {ks:List Tn} {i:Nat} (h:i<ks.length),(Tn.ds ks)[i]? = some ks[i].d
 | _ :: _,0,_=>rfl
 | _ :: r,i+1,h=>by
   show (Tn.ds r)[i]? = _
   exact fD (ks:=r) (by simpa using h)
theorem jI:∀ {ks:List Tn} {i:Nat} (h:i<ks.length),ks[i].dep≤Tn.deps ks
 | t :: r,0,_=>Nat.le_max_left _ _
 | t :: r,i+1,h=>Nat.le_trans (jI (ks:=r) (by simpa using h)) (Nat.le_max_right _ _)
theorem lG:∀ {ks:List Tn} {i:Nat} (h:i<ks.length),Tn.wfs ks→ks[i].wf
 | t :: r,0,_,z=>z.1
 | t :: r,i+1,h,z=>lG (ks:=r) (by simpa using h) z.2
def txs:List Dk→List Str
 | []=>[]
 | .str s :: r=>s :: txs r
 | _ :: r=>txs r
theorem hJ:∀ ns:List Str,txs (ns.map Dk.str)=ns
 | []=>rfl
 | _ :: r=>by show _ :: txs (r.map Dk.str)=_;rw [hJ r]
def bnd (w:Str) (ns:List Str) (i:Nat):List Str:=if w = "fn"∨w = "self"∨(w = "let"∧i=1) then ns else []
mutual
def Tn.frees:Tn→List Str→List (Int×Str)
 | .mk w p fr _ ps,bs=>(if w = "name"∧(txs fr).headD "" ∉ bs then [(p,(txs fr).headD "")] else []) ++ Tn.freess w (txs fr) 0 ps bs
def Tn.freess:Str→List Str→Nat→List Tn→List Str→List (Int×Str)
 | _,_,_,[],_=>[]
 | w,ns,i,t :: r,bs=>t.frees (bs ++ bnd w ns i) ++ Tn.freess w ns (i+1) r bs
end
theorem cO:∀ (ks ls:List Tn) (w:Str) (ns:List Str) (i:Nat) (bs:List Str),Tn.freess w ns i (ks ++ ls) bs=Tn.freess w ns i ks bs ++ Tn.freess w ns (i+ks.length) ls bs
 | [],ls,w,ns,i,bs=>rfl
 | t :: r,ls,w,ns,i,bs=>by
   show t.frees _ ++ Tn.freess w ns (i+1) (r ++ ls) bs=t.frees _ ++ Tn.freess w ns (i+1) r bs ++ _
   rw [cO r ls,List.append_assoc]
   have e:i+1+r.length=i+(t :: r).length:=by simp;omega
   rw [e]
theorem kU (ks:List Tn) (t:Tn) (w:Str) (ns:List Str) (bs:List Str):Tn.freess w ns 0 (ks ++ [t]) bs=Tn.freess w ns 0 ks bs ++ t.frees (bs ++ bnd w ns ks.length):=by
 rw [cO,Nat.zero_add]
 show _ ++ (t.frees _ ++ [])=_
 rw [List.append_nil]
theorem RKs.txs {K:W.Frag} {H:Hp}:∀ {ns:List Str} {vs:List V},RKs K H (ns.map Dk.str) vs→vs=ns.map V.str
 | [],vs,r=>r
 | n :: ns,vs,r=>by
   obtain ⟨v,vs',rfl,h1,h2⟩:=r
   rw [RK.str h1,RKs.txs h2]
   rfl
theorem RK.node {K:W.Frag} {H:Hp} {w:Str} {p:Int} {fr mid:List Dk} {ps:List Tn} {v:V} (r:RK K H (Tn.mk w p fr mid ps).d v):∃ (a:Addr) (uf um up:List V),v = .ref a∧Tp K H a (.str w :: .int p :: (uf ++ um ++ up))∧RKs K H fr uf∧RKs K H mid um∧RKs K H (if w = "row" then [.tup (Tn.ds ps)] else Tn.ds ps) up:=by
 obtain ⟨a,us,rfl,ha,ru⟩:=RK.get (show RK K H (.tup (.str w :: .int p :: (fr ++ mid ++ (if w = "row" then [.tup (Tn.ds ps)] else Tn.ds ps)))) v from r)
 obtain ⟨v1,r1,rfl,h1,v2,r2,rfl,h2,ru⟩:=ru
 obtain ⟨x1,up,rfl,x2,hup⟩:=ru.split
 obtain ⟨uf,um,rfl,hf,hm⟩:=x2.split
 rw [RK.str h1,show v2 = .int p by rw [RK] at h2;exact h2] at ha
 exact ⟨a,uf,um,up,rfl,ha,hf,hm,hup⟩
end L2.Bk
end
section
namespace L2.Bk
open PySem PySem.Spec PyProof.Rows L2.Bw L2.Ex
section
variable {X:Cx}
def rDict:List V→Hp→VK→Prop:=fun xs H Q=>∃ a kvs,xs = [.ref a]∧H a=some (.dK kvs)∧∀ p,H p=none→Q (.ref p) (upd H p (.dK kvs))
theorem iZ:dE X (.type "dict") rDict:=by
 intro pins s σ H xs us Q I r h
 obtain ⟨a,kvs,rfl,ha,q⟩:=h
 obtain ⟨u,e,ru⟩:=aV.one r
 subst e
 cases ru
 obtain ⟨z,y,vs,rel,dd⟩:=(show bp X.prog X.w H s.heap a (.dK kvs) from I.hok a _ ha)
 have lv:=rel.length
 refine kt_call_dict (knd:=bK X.prog X.w) y dd (by rw [← lv];exact z) fun h' hd' sb=>?_
 have kp:∀ b o,s.heap.get? b=some o→h'.get? b=some o:=fun b o e=>(sb.2 b (Nat.ne_of_lt (Heap.lt_size e))).trans (Heap.get?_push_of_some _ e)
 have np:=I.fresh
 refine ⟨.ref s.heap.objs.size,_,I.laid (t':=s.toks) (o:=.dK kvs) kp (Nat.le_refl _) ⟨z,?_,vs,rel,hd'⟩,rfl,q _ np⟩
 have hb:=Inv.big I
 exact beq_eq_false_iff_ne.mpr (Nat.ne_of_gt hb)
end
end L2.Bk
end
section
namespace L2.Bk
open PySem PySem.Spec PyProof.Rows L2.Bw L2.Ex
mutual
def ce (K:W.Frag):Dk→Value→Bool
 | .str x,v=>(match v with | .str y _=>y == x | _=>false)
 | .tup ds,v=>(match v with
   | .ref b=>(match K.lookup b with
     | some o=>o.cls == .type "tuple" && (match o.data with | .seq its _=>decide (its.size≤1000) && fX K ds its.toList | _=>false)
     | none=>false)
   | _=>false)
 | _,_=>false
def fX (K:W.Frag):List Dk→List Value→Bool
 | [],vs=>vs.isEmpty
 | d :: ds,vs=>(match vs with | v :: r=>ce K d v && fX K ds r | []=>false)
end
def IsD (K:W.Frag) (d:Dk) (v:Value):Prop:=∃ x:V,aX x v∧∀ H:Hp,RK K H d x
mutual
theorem isD_of {K:W.Frag}:∀ (d:Dk) (v:Value),ce K d v=true→IsD K d v
 | .str x,v,h=>by
   cases v with
   | str y t=>
     simp only [ce] at h
     exact ⟨.str x,⟨t,by rw [show y=x by simpa using h]⟩,fun H=>.s _⟩
   | _=>simp [ce] at h
 | .tup ds,v,h=>by
   cases v with
   | ref b=>
     simp only [ce] at h
     cases e:K.lookup b with
     | none=>simp only [e] at h;cases h
     | some o=>
       simp only [e] at h
       rw [Bool.and_eq_true_iff] at h
       cases d:o.data with
       | seq its n=>
         simp only [d] at h
         rw [Bool.and_eq_true_iff] at h
         obtain ⟨xs,rv,rk⟩:=isDs_of ds its.toList h.2.2
         have lx:=rv.length
         have kt:Kt K b xs:=⟨o,its,n,e,by simpa using h.1,d,Nat.le_trans (of_decide_eq_true h.2.1) (Nat.le_of_lt (gh (Nat.le_refl _))),rv⟩
         exact ⟨.ref b,rfl,fun H=>RK.tup (.inr kt) (rk H)⟩
       | _=>simp [d] at h
   | _=>simp [ce] at h
 | .int _,v,h=>by simp [ce] at h
 | .bl _,v,h=>by simp [ce] at h
 | .non,v,h=>by simp [ce] at h
theorem isDs_of {K:W.Frag}:∀ (ds:List Dk) (vs:List Value),fX K ds vs=true→∃ xs:List V,aV xs vs∧∀ H:Hp,RKs K H ds xs
 | [],vs,h=>by
   cases vs with
   | nil=>exact ⟨[],.nil,fun _=>.nil⟩
   | cons _ _=>simp [fX] at h
 | d :: ds,vs,h=>by
   cases vs with
   | nil=>simp [fX] at h
   | cons v r=>
     simp only [fX] at h
     have h':=Bool.and_eq_true_iff.mp h
     obtain ⟨x,rx,kx⟩:=isD_of d v h'.1
     obtain ⟨xs,rxs,kxs⟩:=isDs_of ds r h'.2
     exact ⟨x :: xs,.cons rx rxs,fun H=>.cons (kx H) (kxs H)⟩
end
theorem getTab0 {prog:Program} {w:World} {A:Around} {E:Value→Shared→Prop} {s:Shared} {δ:Type} {R:δ→Value→Prop} {a:Addr} {D:List (Str×δ)} {z:Str} {tz:Tok} {Q:Option Value→Shared→Prop}
 (T:KTD.TabOf R s.heap a D) (hat:KTD.datumAt z D=none) (h:Q none { s with toks:=s.toks+1 }):wpAny (model prog w) A (dictGet a (.str z tz)) Q E s:=by
 obtain ⟨_,o,es,ep,ho,_,hd,hr⟩:=T
 have hv:=hr.find_none hat
 have all:(es.all fun e=>isExactStrKey e.key)=true:=by
  obtain ⟨l⟩:=es
  simpa using hr.exact
 have hq:Q (findBy (fun k v=>v.isStr k) es z) { s with toks:=s.toks+1 }:=by
  rw [show findBy (fun k v=>v.isStr k) es z=none by obtain ⟨l⟩:=es;simpa [findBy] using hv]
  exact h
 rw [findBy_of_findIdx?] at hq
 unfold dictGet
 refine wpAny_holding (wpAny_bind (wpAny_pyHash_str (wpAny_bind (KTD.kt_dictFind_strs (s:={ s with toks:=s.toks+1 }) ho hd all ?_))))
 cases hi:es.findIdx? fun e=>e.key.isStr z with
 | none=>
   rw [hi] at hq
   exact wpAny_pure hq
 | some i=>
   rw [hi] at hq
   exact wpAny_bind (wpAny_dictEntries (s:={ s with toks:=s.toks+1 }) ho hd (wpAny_pure hq))
section
variable {X:Cx}
def rTabD (K:W.Frag) (a:Addr) (D:List (Str×Dk)):R2:=fun x y H Q=>x = .ref a∧∃ z d,y = .str z∧KTD.datumAt z D=some d∧∀ v,(∀ H':Hp,RK K H' d v)→Q v H
theorem gT {x:Str} {p pos:Pos} {b:Expr} {tb:TE} {a:Addr} {D:List (Str×Dk)} (hg:Gl X x) (hm:X.mg x=some (.ref a)) (hK:KTD.tabLook (ce X.K) (fun b=>X.K.lookup b) a D=true) (hb:PE X b tb) (hs:gN b)
 (hd:(x == ("__debug__":Str))=false:=by decide) (hl:∀ r,letTemporaryGo (.Name x p) (.ref a) r=pure ():=by intro _;rfl):PE X (.Subscript (.Name x p) b pos) (tOp (rTabD X.K a D) (tC (.ref a)) tb):=by
 intro pins s σ H Q I h
 refine Subscript_ (binT (fm hg hm (v:=.ref a) rfl hd) hb I h fun v u s2 x' y H2 I2 rx ry q=>?_)
 obtain ⟨e,z,d,e',hat,q⟩:=q
 subst e e'
 cases rx
 obtain ⟨tz,e⟩:=ry
 subst e
 have T:KTD.TabOf (IsD X.K) s2.heap a D:=KTD.tab_of_look isD_of (fun b o e=>I2.kIn b o e) hK
 have ty:s2.TypeIs (.ref a) "dict":=by obtain ⟨_,o,_,_,ho,hc,_⟩:=T;exact ⟨o,ho,hc.1⟩
 refine subscriptTail_builtin ty slot_dict_getitem.lookup ?_ (hs _ _) hl
 unfold getItem
 refine wpAny_holding (wpAny_bind (wpAny_sequenceKey ty (by decide) (wpAny_bind (wpAny_callSpecial?_slot (name:=Str.ofString "__getitem__") ty slot_dict_getitem (wpAny_call_entry slot_dict_getitem ty entry_dict_getitem ?_ (args_dict_getitem _ _))))))
 show wpAny _ _ (dictGet a (.str z tz) >>= _) _ _ s2
 refine wpAny_bind (jV T hat fun v hv=>wpAny_pure ⟨v,rfl,wpAny_pure ?_⟩)
 obtain ⟨y,ry,rk⟩:=hv
 exact ⟨y,H2,I2.tok _,ry,q y rk⟩
def tInT (D:List Str) (te:TE):TE:=fun σ H Q=>te σ H fun y H1=>∃ z,y = .str z∧Q (.bl (decide (z∈D))) H1
theorem i9 {δ:Type} {z:Str}:∀ {D:List (Str×δ)},(KTD.datumAt z D).isSome=decide (z∈D.map (·.1))
 | []=>rfl
 | (x,d) :: r=>by
   have ih:=i9 (z:=z) (D:=r)
   rw [KTD.datumAt]
   by_cases c:z=x
   ·simp [c]
   ·simp [c,ih]
theorem pc_inT {x:Str} {p:Pos} {b:Expr} {tb:TE} {a:Addr} {D:List (Str×Dk)} (hg:Gl X x) (hm:X.mg x=some (.ref a)) (hK:KTD.tabLook (ce X.K) (fun b=>X.K.lookup b) a D=true) (hb:PE X b tb) (hd:(x == ("__debug__":Str))=false:=by decide):PC X .In b (.Name x p) (tInT (D.map (·.1)) tb):=by
 intro pins s σ H Q I h
 refine thn (hb pins s σ H _ I h) fun iv s1 ⟨y,H1,I1,ry,z,ez,q⟩=>?_
 subst ez
 obtain ⟨tz,rfl⟩:=ry
 refine cI I1 hg hm ?_ hd
 have T:KTD.TabOf (IsD X.K) s1.heap a D:=KTD.tab_of_look isD_of (fun b o e=>I1.kIn b o e) hK
 have ty:s1.TypeIs (.ref a) "dict":=by obtain ⟨_,o,_,_,ho,hc,_⟩:=T;exact ⟨o,ho,hc.1⟩
 have nsm:=T.1
 show wpAny _ _ (do return Value.bool (← contains (.ref a) (.str z tz))) _ _ s1
 refine wpAny_bind ?_
 unfold contains
 refine wpAny_holding ?_
 refine wpAny_bind (wpAny_specialOf ty slot_dict_contains.lookup ?_)
 show wpAny _ _ (if (some (Value.builtin "dict.__contains__") == some Value.none)=true then _ else _) _ _ s1
 rw [if_neg (by rw [beq_builtin_none];exact Bool.false_ne_true)]
 refine wpAny_bind (wpAny_callSpecialUnlessNone?_slot (name:=Str.ofString "__contains__") ty slot_dict_contains (wpAny_call_entry slot_dict_contains ty entry_dict_contains ?_ (args_dict_contains _ _)))
 show wpAny _ _ (dictGet a (.str z tz) >>= _) _ _ s1
 have em:=i9 (z:=z) (D:=D)
 cases hat:KTD.datumAt z D with
 | some d=>
   rw [hat] at em
   rw [← em] at q
   refine wpAny_bind (jV T hat fun v _=>?_)
   show wpAny _ _ (ret (.bool true)) _ _ _
   exact wpAny_pure ⟨_,rfl,wpAny_truthy_bool (wpAny_pure ⟨.bl true,H1,I1.tok _,rfl,q⟩)⟩
 | none=>
   rw [hat] at em
   rw [← em] at q
   refine wpAny_bind (getTab0 T hat ?_)
   show wpAny _ _ (Builtin.Dict.pendingKey? a (.str z tz) >>= _) _ _ _
   exact wpAny_bind (wpAny_pendingKey_other nsm (wpAny_pure ⟨_,rfl,wpAny_truthy_bool (wpAny_pure ⟨.bl false,H1,I1.tok _,rfl,q⟩)⟩))
end
end L2.Bk
end
section
namespace L2.Ex
open PySem PySem.Spec PyProof.Rows L2.Bw L2.Bk
structure CalM (P:Program) (w:World) (K:W.Frag) (mg:Str→Option Value) (base:Heap) (C:Addr) (m:Str) (ps:List Str) (k:Nat) (sp:Sp):Prop where
 ex:∃ f fd,aY P w K mg base CX0 k f fd ps sp∧aJ K fd ps []∧jO K C m f
structure eC (P:Program) (w:World) (K:W.Frag) (mg:Str→Option Value) (base:Heap) (C:Addr) (m:Str) (ps:List Str) (k:Nat) (sp:Sp):Prop where
 ex:∃ f fd,aY P w K mg base (CXF P w) k f fd ps sp∧aJ K fd ps []∧jO K C m f
structure CalN (P:Program) (w:World) (K:W.Frag) (mg:Str→Option Value) (base:Heap) (x:Str) (C:Addr) (k:Nat) (sp:Sp):Prop where
 ex:∃ f fd,aY P w K mg base CX0 k f fd ["self"] sp∧aJ K fd ["self"] []∧Mk K C f∧mg x=some (.ref C)
theorem pe_mth {X:Cx} {C:Addr} {ps:List Str} {k n:Nat} {sp:Sp} {m:Str} {apos pos:Pos} {o e:Expr} {es:List Expr} {ta:TE} {t:TA} {pl:Sem Bool} (c:CalM X.prog X.w X.K X.mg X.base C m ps k sp) (cl:Cls X.K C) (hr:Room n X.A) (he:PE X o ta) (ha:PA X (e :: es) t) (hn:k≤n:=by omega)
 (hst:starEach (e :: es) X.env=(false,eval e X.env) :: starEach es X.env:=by rfl) (hpl:(backTo pos (starEach es X.env)).any (·.1)=false:=by rfl)
 (ht:eval (.Call (.Attribute o m apos) (e :: es) [] pos) X.env=(do
  let ov ← eval o X.env
  standAt apos.atName
  let (f,first) ← holding [ov] (getMethod ov m pl)
  callWith pos f first (backTo pos (starEach (e :: es) X.env)) (backToKw pos (keywordEach [] X.env))):=by rfl) :
 PE X (.Call (.Attribute o m apos) (e :: es) [] pos) (tMeth C m sp [] E0 ta t):=by
 obtain ⟨f,fd,F,b,M⟩:=c.ex
 exact pe_meth he cl M F (hr.mono hn) b .nil pass0 ha hst hpl ht
theorem gS {Y:Cx} {E:XK} {C:Addr} {ps:List Str} {k n:Nat} {sp:Sp} {m:Str} {apos pos:Pos} {o e:Expr} {es:List Expr} {ta:TE} {t:TA} {pl:Sem Bool} (c:eC Y.prog Y.w Y.K Y.mg Y.base C m ps k sp) (cl:Cls Y.K C) (hr:Room n Y.A) (he:PE (Y.wish (XS Y E)) o ta) (ha:PA (Y.wish (XS Y E)) (e :: es) t) (hn:k≤n:=by omega)
 (hst:Y.stack=Y.env :: Y.outer:=by rfl) (hf:Y.env.frame=some Y.env.locals:=by rfl) (hex:Y.ex = []:=by rfl)
 (hss:starEach (e :: es) Y.env=(false,eval e Y.env) :: starEach es Y.env:=by rfl) (hpl:(backTo pos (starEach es Y.env)).any (·.1)=false:=by rfl)
 (ht:eval (.Call (.Attribute o m apos) (e :: es) [] pos) Y.env=(do
  let ov ← eval o Y.env
  standAt apos.atName
  let (f,first) ← holding [ov] (getMethod ov m pl)
  callWith pos f first (backTo pos (starEach (e :: es) Y.env)) (backToKw pos (keywordEach [] Y.env))):=by rfl) :
 PE (Y.wish (XS Y E)) (.Call (.Attribute o m apos) (e :: es) [] pos) (tMeth C m sp [] E ta t):=by
 obtain ⟨f,fd,F,b,M⟩:=c.ex
 exact pe_meth (X:=Y.wish (XS Y E)) (CX:=CXF Y.prog Y.w) he cl M F (hr.mono hn) b .nil (fun pins σ H s e s' I q=>xs_call I.unwish hst hf hex q) ha hss hpl ht
theorem pe_new {X:Cx} {x:Str} {C:Addr} {k n:Nat} {sp:Sp} {p pos:Pos} (c:CalN X.prog X.w X.K X.mg X.base x C k sp) (hr:Room n X.A) (hn:k+1≤n:=by omega) (hg:Gl X x:=by rfl) (hdb:(x == ("__debug__":Str))=false:=by decide):PE X (.Call (.Name x p) [] [] pos) (tMake C sp [] E0 ko):=by
 obtain ⟨f,fd,F,b,M,m⟩:=c.ex
 exact pe_make0 M F (hr.mono hn) hg m b .nil pass0 hdb
end L2.Ex
end
section
namespace L2.Bk
open PySem PySem.Spec PyProof.Rows L2.Bw L2.Ex
theorem wf_qK:qK.wf:=⟨by decide +kernel,trivial⟩
inductive Tk where
 | mk (w:Str) (p:Int) (fr:List Dk) (ks:List Kn) (ps:List Tk)
mutual
def Tk.tn:Tk→Tn
 | .mk w p fr ks ps=>.mk w p fr (Kn.ds ks) (Tk.tns ps)
def Tk.tns:List Tk→List Tn
 | []=>[]
 | t :: r=>t.tn :: Tk.tns r
end
def Tk.w:Tk→Str | .mk w _ _ _ _=>w
def Tk.p:Tk→Int | .mk _ p _ _ _=>p
def Tk.fr:Tk→List Dk | .mk _ _ fr _ _=>fr
def Tk.ks:Tk→List Kn | .mk _ _ _ ks _=>ks
def Tk.ps:Tk→List Tk | .mk _ _ _ _ ps=>ps
mutual
def Tk.ok:Tk→Prop
 | .mk w _ fr ks ps=>(Kn.wfs ks∧Kn.deps ks≤7∧(∀ d∈fr,d.flat=true)∧w≠"look")∧Tk.oks ps
def Tk.oks:List Tk→Prop
 | []=>True
 | t :: r=>t.ok∧Tk.oks r
end
theorem aM:∀ (ps:List Tk),(Tk.tns ps).length=ps.length
 | []=>rfl
 | t :: r=>by show (Tk.tns r).length+1=r.length+1;rw [aM r]
theorem gZ:∀ {ps:List Tk} {i:Nat} (h:i<ps.length),(Tk.tns ps)[i]? = some ps[i].tn
 | _ :: _,0,_=>rfl
 | _ :: r,i+1,h=>by
   show (Tk.tns r)[i]? = _
   exact gZ (ps:=r) (by simpa using h)
end L2.Bk
end
section
namespace L2.Bk
open PySem PySem.Spec PyProof.Rows L2.Bw L2.Ex
def Dk.isT:Dk→Bool
 | .tup _=>true
 | _=>false
theorem isj_t {K:W.Frag} {H:Hp} {d:Dk} {v:V} (r:RK K H d v):IsJ K H v "tuple" d.isT:=by
 cases d with
 | tup ds=>
   obtain ⟨a,vs,rfl,ha,_⟩:=RK.get r
   rcases ha with h | h
   ·exact .inl ⟨_,.tup h,show W.kitOne K (.type "tuple") (.type "tuple")=some true from (by decide +kernel:W.kitOne [] (.type "tuple") (.type "tuple")=some true)⟩
   ·exact .inr ⟨a,vs,rfl,h,show W.kitOne K (.type "tuple") (.type "tuple")=some true from (by decide +kernel:W.kitOne [] (.type "tuple") (.type "tuple")=some true)⟩
 | non=>rw [RK] at r;subst r;exact .inl ⟨_,.non,show W.kitOne K (.type "NoneType") (.type "tuple")=some false from (by decide +kernel:W.kitOne [] (.type "NoneType") (.type "tuple")=some false)⟩
 | int i=>rw [RK] at r;subst r;exact .inl ⟨_,.int i,show W.kitOne K (.type "int") (.type "tuple")=some false from (by decide +kernel:W.kitOne [] (.type "int") (.type "tuple")=some false)⟩
 | bl i=>rw [RK] at r;subst r;exact .inl ⟨_,.bl i,show W.kitOne K (.type "bool") (.type "tuple")=some false from (by decide +kernel:W.kitOne [] (.type "bool") (.type "tuple")=some false)⟩
 | str i=>rw [RK] at r;subst r;exact .inl ⟨_,.str i,show W.kitOne K (.type "str") (.type "tuple")=some false from (by decide +kernel:W.kitOne [] (.type "str") (.type "tuple")=some false)⟩
end L2.Bk
end
section
namespace L2.Bk
open PySem PySem.Spec PyProof.Rows L2.Bw L2.Ex
inductive Rf where
 | deep (p:Int)
 | par (p:Int) (k:Kn) (b:Int) (w:Kn) (way:List Str)
abbrev Nv:=Str→Option Kn
def ck (e:Nv) (x:Str) (k:Kn):Nv:=fun y=>if y=x then some k else e y
def cW:Kn:=.mk "whole" []
def eL:Kn:=.mk "truth" []
def Kn.hd:Kn→Str | .mk h _=>h
def Kn.pt:Kn→Nat→Kn | .mk h ks,i=>if h = "?" then qK else (ks[i]?).getD qK
def bX (w:Str):Option Kn:=if w = "call" then some (.mk "to" [qK,qK]) else if w = "at"∨w = "size" then some (.mk "row" [qK]) else if w = "one"∨w = "two" then some (.mk "pair" [qK,qK]) else none
def bq (w:Str) (ks f:List Kn):Kn:=
 if w = "do"∨(w = "at"∧f.length=2) then cW
 else if w = "if"∧f.length=1 then eL
 else if w = "row"∨w = "as" then ks.headD qK
 else if w = "self" then (ks[1]?).getD qK
 else if w = "call"∧f.length=2 then (f.headD qK).pt 0
 else match bX w with
  | some n=>if (f.headD qK).hd≠n.hd then n else f.getLastD qK
  | none=>f.getLastD qK
def ba (w:Str) (fr:List Dk) (ks f:List Kn) (e:Nv):Kn:=
 if w = "whole"∨w = "given"∨w = "size" then cW
 else if w = "truth" then eL
 else if w = "call"∨w = "two" then (f.headD qK).pt 1
 else if w = "at"∨w = "one" then (f.headD qK).pt 0
 else if w = "name" then (e ((txs fr).headD "")).getD qK
 else if w = "fn" then .mk "to" [ks.headD qK,f.headD qK]
 else if w = "self" then .mk "to" [ks.headD qK,(ks[1]?).getD qK]
 else if w = "let" then (f[1]?).getD qK
 else if w = "if" then ((f[1]?).getD qK).join ((f[2]?).getD qK)
 else if w = "do" then (if (txs fr).headD ""∈(["<","="]:List Str) then eL else cW)
 else if w = "row" then .mk "row" [ks.headD qK]
 else if w = "pair" then .mk "pair" [f.headD qK,(f[1]?).getD qK]
 else ks.headD qK
def bwK (w:Str) (fr:List Dk) (ks f:List Kn) (i:Nat) (e:Nv):Nv:=
 if w = "fn" then ck e ((txs fr).headD "") (ks.headD qK)
 else if w = "self" then ck (ck e ((txs fr).headD "") (.mk "to" [ks.headD qK,(ks[1]?).getD qK])) (((txs fr)[1]?).getD "") (ks.headD qK)
 else if w = "let"∧i=1 then ck e ((txs fr).headD "") (f.headD qK)
 else e
def br (w:Str) (p pl np:Int) (ks f:List Kn):Option Rf:=
 if w = "if"∧f.length=3 then (((f[2]?).getD qK).part ((f[1]?).getD qK)).map fun way=>.par np ((f[2]?).getD qK) pl ((f[1]?).getD qK) way
 else ((f.getLastD qK).part (bq w ks f)).map fun way=>.par np (f.getLastD qK) p (bq w ks f) way
mutual
def Tk.lk:Tk→Nv→Except Rf Kn
 | .mk w p fr ks ps,e=>if ks.any (fun k=>decide (4<k.dep)) then .error (.deep p) else
  match Tk.lks w p ((ps[1]?).map Tk.p |>.getD 0) fr ks ps 0 e [] with
  | .error r=>.error r
  | .ok f=>if 4<(ba w fr ks f e).dep then .error (.deep p) else .ok (ba w fr ks f e)
def Tk.lks (w:Str) (p pl:Int) (fr:List Dk) (ks:List Kn):List Tk→Nat→Nv→List Kn→Except Rf (List Kn)
 | [],_,_,f=>.ok f
 | n :: r,i,e,f=>match n.lk (bwK w fr ks f i e) with
   | .error r=>.error r
   | .ok k=>match br w p pl n.p ks (f ++ [k]) with
     | some r=>.error r
     | none=>Tk.lks w p pl fr ks r (i+1) e (f ++ [k])
end
theorem lk_eq (w:Str) (p:Int) (fr:List Dk) (ks:List Kn) (ps:List Tk) (e:Nv):(Tk.mk w p fr ks ps).lk e=if ks.any (fun k=>decide (4<k.dep)) then .error (.deep p) else
 match Tk.lks w p ((ps[1]?).map Tk.p |>.getD 0) fr ks ps 0 e [] with
 | .error r=>.error r
 | .ok f=>if 4<(ba w fr ks f e).dep then .error (.deep p) else .ok (ba w fr ks f e):=by rw [Tk.lk]
theorem lks_nil (w:Str) (p pl:Int) (fr:List Dk) (ks:List Kn) (i:Nat) (e:Nv) (f:List Kn):Tk.lks w p pl fr ks [] i e f = .ok f:=by rw [Tk.lks]
theorem la (w:Str) (p pl:Int) (fr:List Dk) (ks:List Kn) (n:Tk) (r:List Tk) (i:Nat) (e:Nv) (f:List Kn):Tk.lks w p pl fr ks (n :: r) i e f=match n.lk (bwK w fr ks f i e) with
 | .error r=>.error r
 | .ok k=>match br w p pl n.p ks (f ++ [k]) with
   | some r=>.error r
   | none=>Tk.lks w p pl fr ks r (i+1) e (f ++ [k]):=by rw [Tk.lks]
structure Kg (k:Kn) (m:Nat):Prop where
 wf:k.wf
 dep:k.dep≤m
def Nv.ok (e:Nv):Prop:=∀ x k,e x=some k→Kg k 5
theorem fU:Kg qK 1:=⟨wf_qK,Nat.le_refl _⟩
theorem eZ:Kg cW 1:=⟨⟨by decide +kernel,trivial⟩,Nat.le_refl _⟩
theorem eY:Kg eL 1:=⟨⟨by decide +kernel,trivial⟩,Nat.le_refl _⟩
theorem Kg.mono {k:Kn} {m n:Nat} (h:Kg k m) (l:m≤n):Kg k n:=⟨h.wf,Nat.le_trans h.dep l⟩
theorem ir {a b:Kn} {m:Nat} (ha:Kg a m) (hb:Kg b m):Kg (.mk "to" [a,b]) (m+1):=⟨⟨by show bS "to" = some 2;decide +kernel,ha.wf,hb.wf,trivial⟩,by
 have:=ha.dep;have:=hb.dep
 show 1+max a.dep (max b.dep 0)≤m+1;omega⟩
theorem gQ {a b:Kn} {m:Nat} (ha:Kg a m) (hb:Kg b m):Kg (.mk "pair" [a,b]) (m+1):=⟨⟨by show bS "pair" = some 2;decide +kernel,ha.wf,hb.wf,trivial⟩,by
 have:=ha.dep;have:=hb.dep
 show 1+max a.dep (max b.dep 0)≤m+1;omega⟩
theorem j2 {a:Kn} {m:Nat} (ha:Kg a m):Kg (.mk "row" [a]) (m+1):=⟨⟨by show bS "row" = some 1;decide +kernel,ha.wf,trivial⟩,by
 have:=ha.dep
 show 1+max a.dep 0≤m+1;omega⟩
theorem kg_pt {k:Kn} {m:Nat} (h:Kg k m) (i:Nat):Kg (k.pt i) m:=by
 obtain ⟨g,ks⟩:=k
 have h1:=h.dep
 have h1':1+Kn.deps ks≤m:=h1
 show Kg (if g = "?" then qK else (ks[i]?).getD qK) m
 split
 ·exact fU.mono (by omega)
 ·by_cases c:i<ks.length
  ·rw [List.getElem?_eq_getElem c]
   have:=cg c
   exact ⟨cL c h.wf.2,by show ks[i].dep≤m;omega⟩
  ·rw [List.getElem?_eq_none (by omega)]
   exact fU.mono (by omega)
theorem bU {f:List Kn} {m:Nat} (hm:1≤m) (h:∀ k∈f,Kg k m):Kg (f.headD qK) m:=by
 cases f with
 | nil=>exact fU.mono hm
 | cons k r=>exact h k List.mem_cons_self
theorem ci {f:List Kn} {m:Nat} (hm:1≤m) (h:∀ k∈f,Kg k m) (i:Nat):Kg ((f[i]?).getD qK) m:=by
 by_cases c:i<f.length
 ·rw [List.getElem?_eq_getElem c]
  exact h _ (List.getElem_mem c)
 ·rw [List.getElem?_eq_none (by omega)]
  exact fU.mono hm
theorem eX {f:List Kn} {m:Nat} (hm:1≤m) (h:∀ k∈f,Kg k m):Kg (f.getLastD qK) m:=by
 cases hf:f.getLast? with
 | none=>
   have:f = []:=by simpa using hf
   subst this
   exact fU.mono hm
 | some k=>
   have e:f.getLastD qK=k:=by rw [List.getLastD_eq_getLast?,hf];rfl
   rw [e]
   exact h k (List.mem_of_getLast? hf)
theorem j3 {w:Str} {ks f:List Kn} (hk:∀ k∈ks,Kg k 4) (hf:∀ k∈f,Kg k 4):Kg (bq w ks f) 4:=by
 unfold bq
 split
 ·exact eZ.mono (by omega)
 split
 ·exact eY.mono (by omega)
 split
 ·exact bU (by omega) hk
 split
 ·exact ci (by omega) hk 1
 split
 ·exact kg_pt (bU (by omega) hf) 0
 split
 ·rename_i n hn
  split
  ·unfold bX at hn
   split at hn
   ·cases hn;exact (ir fU fU).mono (by omega)
   split at hn
   ·cases hn;exact (j2 fU).mono (by omega)
   split at hn
   ·cases hn;exact (gQ fU fU).mono (by omega)
   ·cases hn
  ·exact eX (by omega) hf
 ·exact eX (by omega) hf
theorem kg_join {a b:Kn} {m:Nat} (hm:1≤m) (ha:Kg a m) (hb:Kg b m):Kg (a.join b) m:=⟨join_wf ha.wf hb.wf,Nat.le_trans (kZ a b) ha.dep⟩
theorem cu {c:Prop} [Decidable c] {a b:Kn} {m:Nat} (ha:Kg a m) (hb:Kg b m):Kg (if c then a else b) m:=by
 by_cases h:c
 ·rw [if_pos h];exact ha
 ·rw [if_neg h];exact hb
theorem kg_own {w:Str} {fr:List Dk} {ks f:List Kn} {e:Nv} (hk:∀ k∈ks,Kg k 4) (hf:∀ k∈f,Kg k 4) (he:e.ok):Kg (ba w fr ks f e) 5:=by
 have a1:=bU (by omega) hk
 have a2:=bU (by omega) hf
 have a3:=fun i=>ci (by omega) hk i
 have a4:=fun i=>ci (by omega) hf i
 have an:Kg ((e ((txs fr).headD "")).getD qK) 5:=by
  cases h:e ((txs fr).headD "") with
  | none=>exact fU.mono (by omega)
  | some k=>exact he _ k h
 unfold ba
 exact cu (eZ.mono (by omega)) (cu (eY.mono (by omega)) (cu ((kg_pt a2 1).mono (by omega)) (cu ((kg_pt a2 0).mono (by omega)) (cu an (cu (ir a1 a2) (cu (ir a1 (a3 1)) (cu ((a4 1).mono (by omega)) (cu ((kg_join (by omega) (a4 1) (a4 2)).mono (by omega)) (cu (cu (eY.mono (by omega)) (eZ.mono (by omega))) (cu (j2 a1) (cu (gQ a2 (a4 1)) (a1.mono (by omega)))))))))))))
theorem j5 {e:Nv} (he:e.ok) (x:Str) {k:Kn} (h:Kg k 5):(ck e x k).ok:=fun y k' hk=>by
 unfold ck at hk
 split at hk
 ·cases hk;exact h
 ·exact he y k' hk
theorem nv_bw {w:Str} {fr:List Dk} {ks f:List Kn} {i:Nat} {e:Nv} (hk:∀ k∈ks,Kg k 4) (hf:∀ k∈f,Kg k 4) (he:e.ok):(bwK w fr ks f i e).ok:=by
 have a1:=bU (by omega) hk
 have a3:=fun i=>ci (by omega) hk i
 unfold bwK
 split
 ·exact j5 he _ (a1.mono (by omega))
 split
 ·exact j5 (j5 he _ (ir a1 (a3 1))) _ (a1.mono (by omega))
 split
 ·exact j5 he _ ((bU (by omega) hf).mono (by omega))
 ·exact he
def Nv.has (e:Nv) (bs:List Str):Prop:=∀ x∈bs,(e x).isSome=true
theorem gO {e:Nv} {bs:List Str} (h:e.has bs) (x:Str) (k:Kn):(ck e x k).has (bs ++ [x]):=fun y hy=>by
 unfold ck
 rcases List.mem_append.mp hy with hy | hy
 ·split
  ·rfl
  ·exact h y hy
 ·rw [if_pos (List.mem_singleton.mp hy)]
  rfl
theorem has_bw {w:Str} {fr:List Dk} {ks f:List Kn} {i:Nat} {e:Nv} {bs:List Str} (h:e.has bs) (h1:w∈dQ→fr=(txs fr).map Dk.str∧(txs fr).length=K11.nf w):(bwK w fr ks f i e).has (bs ++ bnd w (txs fr) i):=by
 have nf1:K11.nf "fn" = 1∧K11.nf "self" = 2∧K11.nf "let" = 1:=by decide +kernel
 unfold bwK bnd
 by_cases c1:w = "fn"
 ·rw [if_pos c1,if_pos (.inl c1)]
  have l:=(h1 (by rw [c1];decide +kernel)).2
  rw [c1,nf1.1] at l
  obtain ⟨x,hx⟩:=List.length_eq_one_iff.mp l
  rw [hx]
  exact gO h _ _
 rw [if_neg c1]
 by_cases c2:w = "self"
 ·rw [if_pos c2,if_pos (.inr (.inl c2))]
  have l:=(h1 (by rw [c2];decide +kernel)).2
  rw [c2,nf1.2.1] at l
  obtain ⟨x,y,hx⟩:∃ x y,txs fr = [x,y]:=by
   cases ht:txs fr with
   | nil=>rw [ht] at l;cases l
   | cons x r=>cases r with
     | nil=>rw [ht] at l;cases l
     | cons y r=>cases r with
       | nil=>exact ⟨x,y,rfl⟩
       | cons z r=>rw [ht] at l;simp at l
  rw [hx]
  have z:=gO (gO h x (.mk "to" [ks.headD qK,(ks[1]?).getD qK])) y (ks.headD qK)
  rw [List.append_assoc] at z
  exact z
 rw [if_neg c2]
 by_cases c3:w = "let"∧i=1
 ·rw [if_pos c3,if_pos (.inr (.inr c3))]
  have l:=(h1 (by rw [c3.1];decide +kernel)).2
  rw [c3.1,nf1.2.2] at l
  obtain ⟨x,hx⟩:=List.length_eq_one_iff.mp l
  rw [hx]
  exact gO h _ _
 ·rw [if_neg c3,if_neg (fun z=>z.elim c1 fun z=>z.elim c2 c3),List.append_nil]
  exact h
end L2.Bk
end
section
namespace L2.Bk
open PySem PySem.Spec PyProof.Rows L2.Bw L2.Ex
mutual
def Tk.cnt:Tk→Nat
 | .mk _ _ _ _ ps=>1+Tk.cnts ps
def Tk.cnts:List Tk→Nat
 | []=>0
 | t :: r=>t.cnt+Tk.cnts r
end
mutual
def Tk.dos:Tk→Prop
 | .mk w _ fr _ ps=>(w = "do"→∃ o,fr = [.str o])∧Tk.doss ps
def Tk.doss:List Tk→Prop
 | []=>True
 | t :: r=>t.dos∧Tk.doss r
end
theorem cnt_pos (t:Tk):0<t.cnt:=by
 cases t
 show 0<1+_
 omega
theorem ii:∀ {ps:List Tk} {i:Nat} (h:i<ps.length),Tk.doss ps→ps[i].dos
 | _ :: _,0,_,d=>d.1
 | _ :: _,i+1,h,d=>ii (i:=i) (Nat.lt_of_succ_lt_succ h) d.2
theorem iy:∀ {ps:List Tk} {i:Nat} (h:i<ps.length),Tk.oks ps→ps[i].ok
 | _ :: _,0,_,d=>d.1
 | _ :: _,i+1,h,d=>iy (i:=i) (Nat.lt_of_succ_lt_succ h) d.2
theorem e8:∀ {ps:List Tk} {i:Nat} (h:i<ps.length),Tn.wfs (Tk.tns ps)→ps[i].tn.wf
 | _ :: _,0,_,d=>d.1
 | _ :: _,i+1,h,d=>e8 (i:=i) (Nat.lt_of_succ_lt_succ h) d.2
theorem fS:∀ {ps:List Tk} {i:Nat} (h:i<ps.length),ps[i].tn.dep≤Tn.deps (Tk.tns ps)
 | t :: r,0,_=>by show t.tn.dep≤max t.tn.dep (Tn.deps (Tk.tns r));omega
 | t :: r,i+1,h=>by
   have:=fS (ps:=r) (i:=i) (Nat.lt_of_succ_lt_succ h)
   exact Nat.le_trans this (Nat.le_max_right _ _)
theorem cnts_drop {ps:List Tk} {i:Nat} (h:i<ps.length):Tk.cnts (ps.drop i)=ps[i].cnt+Tk.cnts (ps.drop (i+1)):=by
 rw [List.drop_eq_getElem_cons h]
 rfl
theorem il:∀ {ps:List Tk} {i:Nat} (h:i<ps.length) (w:Str) (ns:List Str) (j:Nat) (bs:List Str),Tn.freess w ns j (Tk.tns ps) bs = []→ps[i].tn.frees (bs ++ bnd w ns (j+i)) = []
 | t :: r,0,_,w,ns,j,bs,e=>by
   have e':t.tn.frees (bs ++ bnd w ns j) ++ Tn.freess w ns (j+1) (Tk.tns r) bs = []:=e
   exact (List.append_eq_nil_iff.mp e').1
 | t :: r,i+1,h,w,ns,j,bs,e=>by
   have e':t.tn.frees (bs ++ bnd w ns j) ++ Tn.freess w ns (j+1) (Tk.tns r) bs = []:=e
   have:=il (ps:=r) (i:=i) (Nat.lt_of_succ_lt_succ h) w ns (j+1) bs (List.append_eq_nil_iff.mp e').2
   rw [show j+(i+1)=j+1+i by omega]
   exact this
theorem kT {x:Str} {p:Int} {fr:List Dk} {ks:List Kn} {ps:List Tk} {bs:List Str} (h:(Tk.mk x p fr ks ps).tn.frees bs = []):(x = "name"→(txs fr).headD ""∈bs)∧∀ {i:Nat} (hi:i<ps.length),ps[i].tn.frees (bs ++ bnd x (txs fr) i) = []:=by
 have h':(if x = "name"∧(txs fr).headD "" ∉ bs then [(p,(txs fr).headD "")] else []) ++ Tn.freess x (txs fr) 0 (Tk.tns ps) bs = []:=h
 obtain ⟨h1,h2⟩:=List.append_eq_nil_iff.mp h'
 refine ⟨fun c=>Decidable.by_contra fun z=>?_,fun {i} hi=>?_⟩
 ·rw [if_pos ⟨c,z⟩] at h1
  cases h1
 ·have:=il hi x (txs fr) 0 bs h2
  rw [Nat.zero_add] at this
  exact this
def Fit (x:Str) (g:List Kn):Prop:=∀ n,bX x=some n→(g.headD qK).hd = "?"∨(g.headD qK).hd=n.hd
theorem e9 {x:Str} {n:Kn} (h:bX x=some n):x∈(["call","at","size","one","two"]:List Str)∧n.hd≠"?":=by
 unfold bX at h
 by_cases c1:x = "call"
 ·rw [if_pos c1] at h;cases h
  rw [c1];decide +kernel
 rw [if_neg c1] at h
 by_cases c2:x = "at"∨x = "size"
 ·rw [if_pos c2] at h;cases h
  rcases c2 with c2 | c2 <;> (rw [c2];decide +kernel)
 rw [if_neg c2] at h
 by_cases c3:x = "one"∨x = "two"
 ·rw [if_pos c3] at h;cases h
  rcases c3 with c3 | c3 <;> (rw [c3];decide +kernel)
 rw [if_neg c3] at h
 cases h
theorem ly:∀ x∈(["call","at","size","one","two"]:List Str),x≠"do"∧x≠"if"∧x≠"row"∧x≠"as"∧x≠"self":=by decide +kernel
theorem jd {x:Str} {p pl np:Int} {ks:List Kn} {k:Kn} (h:br x p pl np ks [k]=none):Fit x [k]:=fun n hn=>by
 obtain ⟨hw,hq⟩:=e9 hn
 obtain ⟨d1,d2,d3,d4,d5⟩:=ly x hw
 show k.hd = "?"∨k.hd=n.hd
 unfold br at h
 rw [if_neg (fun z=>d2 z.1)] at h
 have hp:([k].getLastD qK).part (bq x ks [k])=none:=by
  cases e:([k].getLastD qK).part (bq x ks [k]) with
  | none=>rfl
  | some w=>rw [e] at h;cases h
 by_cases c:k.hd=n.hd
 ·exact .inr c
 have ew:bq x ks [k]=n:=by
  unfold bq
  rw [if_neg (fun z=>z.elim d1 fun z=>absurd (show 1=2 from z.2) (by decide)),if_neg (fun z=>d2 z.1),if_neg (fun z=>z.elim d3 d4),if_neg d5,if_neg (fun z=>absurd (show 1=2 from z.2) (by decide)),hn]
  exact if_pos c
 rw [ew] at hp
 have hp':k.part n=none:=hp
 obtain ⟨g,gs⟩:=k
 obtain ⟨m,ms⟩:=n
 rw [Kn.part] at hp'
 by_cases c2:g = "?"
 ·exact .inl c2
 ·rw [if_neg c2,if_neg (show ¬ m = "?" from hq),if_neg (show ¬ g=m from c)] at hp'
  cases hp'
theorem eU {x:Str} {g:List Kn} (hg:g≠[]) (k:Kn) (h:Fit x g):Fit x (g ++ [k]):=fun n hn=>by
 have:=h n hn
 cases g with
 | nil=>exact absurd rfl hg
 | cons a r=>exact this
end L2.Bk
end
section
namespace L2.K33
open PySem PySem.Spec PyProof.Rows L2.Bw L2.Bk L2.Ex
def top (i:Nat):Stmt:=PySem.Challenge.pw_blamewise_k33_refusals.main.body.getD i (.Pass ⟨0,0,0,0⟩)
def im (s:Stmt) (j:Nat):Stmt:=match s with
 | .ClassDef _ _ _ body _ _ _ _ _ _ _=>body.getD j (.Pass ⟨0,0,0,0⟩)
 | _=>.Pass ⟨0,0,0,0⟩
structure Tx (mg:Str→Option Value):Prop where
 len:mg "len" = none
 isinstance:mg "isinstance" = none
 list:mg "list" = none
 tuple:mg "tuple" = none
 int:mg "int" = none
 bool:mg "bool" = none
 str:mg "str" = none
 range:mg "range" = none
 zip:mg "zip" = none
 max:mg "max" = none
 enumerate:mg "enumerate" = none
 dict:mg "dict" = none
 ValueError:mg "ValueError" = none
theorem at0 {v:V} {us:List V}:atI (v :: us) 0=some v:=aK (j:=0) rfl
theorem at1 {u v:V} {us:List V}:atI (u :: v :: us) 1=some v:=aK (j:=1) rfl
theorem at2 {a b v:V} {us:List V}:atI (a :: b :: v :: us) 2=some v:=aK (j:=2) rfl
theorem at3 {a b c v:V} {us:List V}:atI (a :: b :: c :: v :: us) 3=some v:=aK (j:=3) rfl
section
variable {P:Program} {w:World} {K:W.Frag} {mg:Str→Option Value} {base:Heap} {f:Addr} {fd:FuncData}
abbrev sKi:Stmt:=top 13
def spKi (K:W.Frag):Sp:=fun vs H Q _=>∃ (v:V) (h:Str) (ds:List Dk),vs = [v]∧RK K H (.tup (.str h :: ds)) v ∧
 ∀ (r:Addr) (us:List V) (H':Hp),Old H H'→H r=none→H' r=some (.lst us)→RKs K H' ds us→Q (.ref r) H'
theorem scKi:aF ["kind"] ["kind"] (aw sKi):=⟨rfl,rfl,rfl,by decide +kernel,rfl,by decide +kernel,by decide +kernel⟩
theorem ok_ki {n:Nat} (F:Fun K "kinds_in" "kinds_in" sKi f fd) (T:Tx mg):aY P w K mg base CX0 (n+1) f fd ["kind"] (spKi K):=by
 refine F.ok scKi (fun vs H Q E h=>?_) (fun cdv A outer s H vs Q E hr h=>?_)
 ·obtain ⟨v,h,ds,rfl,_⟩:=h
  rfl
 obtain ⟨v,h,ds,rfl,rv,q⟩:=h
 obtain ⟨a,us,rfl,ha,ru⟩:=RK.kind rv
 refine' ⟨_,?n0,?Z⟩
 case' n0=>refine' ah ?N1
 case' N1=>refine' ao ?N2
 case' N2=>refine' bI (du) rfl T.list boot_list ?N3
 case' N3=>refine' pa ?N4 ad
 case' N4=>refine' lB sl_k (pv 0) ?N5 po_none
 case N5=>exact po_some ac
 refine ⟨_,rfl,_,rfl,sl_tail ha.sq fun p hp=>?_⟩
 have o1:Old H (upd H p (.tup us)):=Old.new hp
 refine ⟨p,us,rfl,.inr (SqT.of ag),fun l hl=>?_⟩
 have o2:Old (upd H p (.tup us)) (upd (upd H p (.tup us)) l (.lst us)):=Old.new hl
 exact q l us _ (o1.trans o2) (o1.free hl) ag (ru.mono (o1.trans o2).tm)
abbrev sSteps:Stmt:=top 12
def gY (K:W.Frag):Sp:=fun vs H Q _=>∃ (v:V) (h:Str) (n:Nat) (ds:List Dk),vs = [v]∧RK K H (.tup (.str h :: ds)) v∧bS h=some n∧∀ c,(∀ H':Hp,SqT K H' c ((aG h).map V.str))→(∃ o,K.lookup c=some o∧o.cls = .type "tuple"∧o.dict=none)→Q (.ref c) H
theorem scSteps:aF ["kind"] ["kind"] (aw sSteps):=⟨rfl,rfl,rfl,by decide +kernel,rfl,by decide +kernel,by decide +kernel⟩
theorem ok_steps {m:Nat} {fa:Addr} (F:Fun K "steps" "steps" sSteps f fd) (m_STEPS:mg "STEPS" = some (.ref fa)) (k_STEPS:KTD.tabLook (jq K) (fun b=>K.lookup b) fa fA=true):aY P w K mg base CX0 (m+1) f fd ["kind"] (gY K):=by
 refine F.ok scSteps (fun vs H Q E h=>?_) (fun cdv A outer s H vs Q E hr h=>?_)
 ·obtain ⟨v,h,n,ds,rfl,_⟩:=h
  rfl
 obtain ⟨v,h,n,ds,rfl,rv,ear,q⟩:=h
 obtain ⟨xa,us,rfl,ha,ru⟩:=RK.kind rv
 refine' ⟨_,?n0,?Z⟩
 case' n0=>refine' ah ?N1
 case' N1=>refine' ao ?N2
 case' N2=>refine' pe_tabN rfl m_STEPS k_STEPS ?N3 (fun _ _=>rfl)
 case N3=>exact al ai (pv 0) ac (fun _ _=>rfl)
 exact ⟨_,rfl,.inr (.inl ⟨xa,_,0,.str h,rfl,rfl,ha.sq,(by exact aK (j:=0) rfl),rfl,h,aG h,rfl,(jG h (eV ear)).1,fun c hc ho=>q c hc ho⟩)⟩
abbrev sWk:Stmt:=top 14
def spWk (K:W.Frag):Sp:=fun vs H Q _=>∃ (v:V) (c:Addr) (h:Str) (ds es:List Dk) (ws:List V),vs = [v,.ref c]∧RK K H (.tup (.str h :: ds)) v∧H c=some (.lst ws)∧RKs K H es ws∧es.length≤900 ∧
 ∀ (v':V) (H':Hp),Old H H'→RK K H' (.tup (.str h :: es)) v'→Q v' H'
theorem scWk:aF ["kind","some"] ["kind","some"] (aw sWk):=⟨rfl,rfl,rfl,by decide +kernel,rfl,by decide +kernel,by decide +kernel⟩
theorem ok_wk {n:Nat} (F:Fun K "with_kinds" "with_kinds" sWk f fd) (T:Tx mg):aY P w K mg base CX0 (n+1) f fd ["kind","some"] (spWk K):=by
 refine F.ok scWk (fun vs H Q E h=>?_) (fun cdv A outer s H vs Q E hr h=>?_)
 ·obtain ⟨v,c,h,ds,es,ws,rfl,_⟩:=h
  rfl
 obtain ⟨v,c,h,ds,es,ws,rfl,rv,hc,rs,hz,q⟩:=h
 obtain ⟨a,us,rfl,ha,ru⟩:=RK.kind rv
 have ls:=rs.length
 refine' ⟨_,?n0,?Z⟩
 case' n0=>refine' ah ?N1
 case' N1=>refine' ao ?N2
 case' N2=>refine' aE bo ?N3 (bI (cN) rfl T.tuple boot_tuple (pa (pv 1) ad))
 case' N3=>refine' ay ?N4
 case' N4=>refine' pa ?N5 ad
 case N5=>exact al ai (pv 0) ac (fun _ _=>rfl)
 refine ⟨_,rfl,.inr (.inl ⟨a,_,0,.str h,rfl,rfl,ha.sq,(by exact aK (j:=0) rfl),by show 1≤sizeLine;decide,fun p hp=>?_⟩)⟩
 have o1:Old H (upd H p (.tup [.str h])):=Old.new hp
 refine ⟨_,rfl,c,ws,rfl,.inl ⟨SqL.of (o1 _ _ hc),fun p2 hp2=>?_⟩⟩
 have o2:Old (upd H p (.tup [.str h])) (upd (upd H p (.tup [.str h])) p2 (.tup ws)):=Old.new hp2
 refine .inr (addT (cat_k (ds:=[.str h]) (es:=es) (.of (o2 _ _ ag)) (.of ag) (.cons (.s _) .nil) (rs.mono (o1.trans o2).tm) (by simp) (by simp;omega) fun c' H' o3 r3=>?_))
 exact q _ _ ((o1.trans o2).trans o3) r3
abbrev sForm:Stmt:=top 23
def spForm (K:W.Frag):Sp:=fun vs H Q _=>∃ (x:Str),vs = [.str x]∧x∈K11.words∧∀ c,SqT K H c ((K11.form x).map V.str)→Q (.ref c) H
theorem scForm:aF ["word"] ["word"] (aw sForm):=⟨rfl,rfl,rfl,by decide +kernel,rfl,by decide +kernel,by decide +kernel⟩
theorem ok_form {m:Nat} {fa:Addr} (F:Fun K "form" "form" sForm f fd) (m_FORMS:mg "FORMS" = some (.ref fa)) (k_FORMS:KTD.tabLook (gE K) (fun b=>K.lookup b) fa K11.table=true):aY P w K mg base CX0 (m+1) f fd ["word"] (spForm K):=by
 refine F.ok scForm (fun vs H Q E h=>?_) (fun cdv A outer s H vs Q E hr h=>?_)
 ·obtain ⟨x,rfl,_⟩:=h
  rfl
 obtain ⟨x,rfl,hx,q⟩:=h
 refine' ⟨_,?n0,?Z⟩
 case' n0=>refine' ah ?N1
 case' N1=>refine' ao ?N2
 case N2=>exact pe_tab rfl m_FORMS k_FORMS (pv 0) (fun _ _=>rfl)
 exact ⟨_,rfl,rfl,x,K11.form x,rfl,(K11.form_of x hx).1,q⟩
abbrev iD:Stmt:=top 24
def eg (K:W.Frag):Sp:=fun vs H Q _=>∃ (a:Addr) (x:Str) (us:List V) (so:Str),vs = [.ref a,.str so]∧Tp K H a (.str x :: us)∧x∈K11.words ∧
 ∀ (r:Addr) (H':Hp),Old H H'→H r=none→H' r=some (.lst ((K11.ixs so 2 (K11.form x)).map V.int))→Q (.ref r) H'
theorem jD:aF ["tree","sort"] ["tree","sort"] (aw iD):=⟨rfl,rfl,rfl,by decide +kernel,rfl,by decide +kernel,by decide +kernel⟩
theorem iq (so:Str):∀ (ss:List Str) (k:Nat) (y:Str),K11.ixs so k (ss ++ [y])=K11.ixs so k ss ++ (if y=so then [((k+ss.length:Nat):Int)] else [])
 | [],k,y=>by show (if y=so then _ else _)=_;split <;> rfl
 | z :: r,k,y=>by
   show (if z=so then (k:Int) :: K11.ixs so (k+1) (r ++ [y]) else K11.ixs so (k+1) (r ++ [y]))=(if z=so then (k:Int) :: K11.ixs so (k+1) r else K11.ixs so (k+1) r) ++ _
   rw [iq so r (k+1) y]
   have e:k+1+r.length=k+(z :: r).length:=by simp;omega
   rw [e]
   split <;> rfl
theorem ixs_len (so:Str):∀ (ss:List Str) (k:Nat),(K11.ixs so k ss).length≤ss.length
 | [],_=>Nat.le_refl _
 | z :: r,k=>by
   have:=ixs_len so r (k+1)
   show (if z=so then (k:Int) :: K11.ixs so (k+1) r else K11.ixs so (k+1) r).length≤r.length+1
   split
   ·simp;omega
   ·omega
theorem ok_indexes {m:Nat} (F:Fun K "indexes" "indexes" iD f fd) (T:Tx mg) (c_form:Cal P w K mg base "form" ["word"] 1 (spForm K)):aY P w K mg base CX0 (m+2) f fd ["tree","sort"] (eg K):=by
 refine F.ok jD (fun vs H Q E h=>?_) (fun cdv A outer s H vs Q E hr h=>?_)
 ·obtain ⟨a,x,us,so,rfl,_⟩:=h
  rfl
 obtain ⟨a,x,us,so,rfl,ha,hx,q⟩:=h
 have nd:=jD.nd
 obtain ⟨f1,f2,_⟩:=K11.form_of x hx
 refine' ⟨_,?n0,?Z⟩
 case' n0=>refine' ah ?N1
 case' N1=>refine' ao ?N2
 case' N2=>refine' gG (g:=gTup K 2 (kX (bH 0) (kX (bH 1) gNil))) (tt:=tTest (tOp (rEqG K) (cV 1) (cV 3))) (te:=cV 0) (k:=2) (N:=["index","found","tree","sort"]) (eD rfl rfl rfl rfl rfl rfl) rfl ?N3 (fun _ _ _ _=>?N4) (fun _ _ _ _=>?N5) (fun _ _ _ _=>?N6)
 case' N3=>refine' pi_enum rfl T.enumerate ?N7 ?N8
 case' N7=>refine' pa ?N9 ad
 case' N9=>refine' az c_form hr ?Na
 case' Na=>refine' pa ?Nb ad
 case Nb=>exact al ai (pv 0) ac (fun _ _=>rfl)
 case N8=>exact j8 ac pk_nil
 case N4=>
  refine' iB rfl ?Nc
  case' Nc=>refine' bL ?Nd ?Ne
  case Nd=>exact aZ (i:=0) (by show List.Nodup (["index","found","tree","sort"]:List Str);decide +kernel) rfl (Or.inl rfl)
  case' Ne=>refine' bL ?Nf fq
  first | case Nf=>exact aZ (i:=1) (by show List.Nodup (["index","found","tree","sort"]:List Str);decide +kernel) rfl (Or.inl rfl) | case Ne=>exact aZ (i:=1) (by show List.Nodup (["index","found","tree","sort"]:List Str);decide +kernel) rfl (Or.inl rfl)
 case N5=>exact pts_one (ak (ax hr) (pv 1) (pv 3) (am _))
 case N6=>exact pv 0
 refine ⟨_,rfl,.inr (.inl ⟨a,_,0,.str x,rfl,rfl,ha.sq,at0,x,rfl,hx,fun c hc=>⟨c,_,2,rfl,rfl,by decide +kernel,hc,fun D hD=>?_⟩⟩)⟩
 have same2:∀ {H':Hp},Old H H'→SqT K H' c ((K11.form x).map V.str):=fun {H'} g=>by
  rcases hc with (h | ⟨o,h⟩) | h
  ·exact .inl (.inl (g _ _ h))
  ·exact .inl (.inr ⟨o,g _ _ h⟩)
  ·exact .inr h
 have lenf:((K11.form x).map V.str).length=(K11.form x).length:=List.length_map _
 have neD:∀ b o,H b=some o→b≠D:=fun b o e=>ap e hD
 refine lc_by (n:=(K11.form x).length) (fun i σ H2=>∃ (k1 k2:Option V),σ = [k1,k2,some (.ref a),some (.str so)]∧Old H H2∧H2 D=some (.lst ((K11.ixs so 2 ((K11.form x).take i)).map V.int))) ⟨none,none,rfl,fun b o e=>by rw [au (neD b o e)];exact e,ag⟩ ?_ ?_ ?_ ?_
 ·intro i σ H2 hi hv
  obtain ⟨k1,k2,rfl,g,hD2⟩:=hv
  exact ⟨_,.str (K11.form x)[i],same2 g,by rw [List.getElem?_map,List.getElem?_eq_getElem hi];rfl⟩
 ·intro σ H2 hv
  obtain ⟨k1,k2,rfl,g,hD2⟩:=hv
  exact ⟨_,same2 g,by rw [lenf];exact Nat.le_refl _⟩
 ·intro i σ H2 hi hv v H3 hy
  obtain ⟨k1,k2,rfl,g,hD2⟩:=hv
  obtain ⟨t,y,rfl,ht,rfl,hyx⟩:=hy
  have ey:y = .str (K11.form x)[i]:=by
   have:=hyx _ (same2 g)
   rw [List.getElem?_map,List.getElem?_eq_getElem hi] at this
   exact (Option.some.inj this).symm
  subst ey
  have ntD:D≠t:=ap hD2 ht
  refine ⟨t,_,rfl,SqT.of ag,rfl,_,_,rfl,_,_,rfl,rfl,?_⟩
  refine ⟨_,rfl,_,rfl,.inr (.inl ⟨rfl,_,rfl,?_⟩)⟩
  rw [aI]
  have g3:∀ b o,H b=some o→upd H2 t (.tup [.int (2+(i:Int)),.str (K11.form x)[i]]) b=some o:=fun b o e=>by rw [au (ap (g b o e) ht)];exact g b o e
  have hD3:upd H2 t (.tup [.int (2+(i:Int)),.str (K11.form x)[i]]) D=some (.lst ((K11.ixs so 2 ((K11.form x).take i)).map V.int)):=by rw [au ntD];exact hD2
  have tk:(K11.form x).take (i+1)=(K11.form x).take i ++ [(K11.form x)[i]]:=bP hi
  have lt:((K11.form x).take i).length=i:=by rw [List.length_take];omega
  refine fQ (fun cc=>?_) (fun cc=>?_)
  ·have c':(K11.form x)[i]=so:=of_decide_eq_true cc
   refine ⟨_,rfl,_,hD3,?_,nx hi ⟨_,_,rfl,fun b o e=>by rw [au (neD b o e)];exact g3 b o e,?_⟩⟩
   ·have:=ixs_len so ((K11.form x).take i) 2
    rw [List.length_map]
    exact bE (by rw [List.length_take] at this;omega)
   ·rw [ag,tk,iq,if_pos c',List.map_append,lt]
    have e2:(2:Int)+(i:Int)=((2+i:Nat):Int):=by omega
    rw [e2]
    rfl
  ·have c':¬ (K11.form x)[i]=so:=of_decide_eq_false (Bool.eq_false_iff.mpr cc)
   refine nx hi ⟨_,_,rfl,g3,?_⟩
   rw [hD3,tk,iq,if_neg c',List.append_nil]
 ·intro σ H2 hv
  obtain ⟨k1,k2,rfl,g,hD2⟩:=hv
  rw [List.take_length] at hD2
  exact q D H2 g hD hD2
abbrev sParts:Stmt:=top 25
def gW (K:W.Frag):Sp:=fun vs H Q _=>∃ (v:V) (t:Tn),vs = [v]∧RK K H t.d v∧t.wf ∧
 ∀ (r:Addr) (us:List V) (H':Hp),Old H H'→H r=none→H' r=some (.lst us)→RKs K H' (Tn.ds t.ps) us→Q (.ref r) H'
theorem scParts:aF ["tree"] ["tree"] (aw sParts):=⟨rfl,rfl,rfl,by decide +kernel,rfl,by decide +kernel,by decide +kernel⟩
theorem gU {lo n i:Nat} (h:i<n):(K11.rng lo n)[i]? = some ((lo+i:Nat):Int):=by
 unfold K11.rng
 rw [List.getElem?_map,List.getElem?_range' h]
 simp
theorem rng_len (lo n:Nat):(K11.rng lo n).length=n:=by unfold K11.rng;simp
theorem nf_row:K11.nf "row" = 0:=by decide +kernel
theorem nk_row:K11.nk "row" = 1:=by decide +kernel
theorem ok_parts {m:Nat} (F:Fun K "parts" "parts" sParts f fd) (T:Tx mg) (c_indexes:Cal P w K mg base "indexes" ["tree","sort"] 2 (eg K)):aY P w K mg base CX0 (m+3) f fd ["tree"] (gW K):=by
 refine F.ok scParts (fun vs H Q E h=>?_) (fun cdv A outer s H vs Q E hr h=>?_)
 ·obtain ⟨v,t,rfl,_⟩:=h
  rfl
 obtain ⟨v,t,rfl,rv,wt,q⟩:=h
 have nd:=scParts.nd
 obtain ⟨x,p,fr,mid,ps⟩:=t
 obtain ⟨⟨hx,lf,lm,lp,few,_⟩,_⟩:=wt
 obtain ⟨a,uf,um,up,rfl,ha,rf,rm,rp⟩:=RK.node rv
 have l1:=rf.length
 have l2:=rm.length
 refine' ⟨_,?n0,?Z⟩
 case' n0=>refine' ae ?N1 ?N2
 case' N1=>refine' aC ?N3 ?N4 aq
 case' N3=>refine' ak (ax hr) ?N5 aj (am _)
 case N5=>exact al ai (pv 0) ac (fun _ _=>rfl)
 case' N4=>refine' ah ?N6
 case' N6=>refine' ao ?N7
 case' N7=>refine' bI (du) rfl T.list boot_list ?N8
 case' N8=>refine' pa ?N9 ad
 case N9=>exact al ai (pv 0) ac (fun _ _=>rfl)
 case' N2=>refine' ah ?Na
 case' Na=>refine' ao ?Nb
 case' Nb=>refine' gG (te:=tOp (rIx K) (cV 1) (cV 0)) (k:=1) (N:=["index","tree"]) (eD rfl rfl rfl rfl rfl rfl) rfl ?Nc (fun _ _ _ _=>?Nd) (fun _ _ _ _=>?Ne) (fun _ _ _ _=>?Nf)
 case Nc=>exact dC (az c_indexes hr (pa (pv 0) (pa aj ad)))
 case Nd=>exact aZ (i:=0) (by show List.Nodup (["index","tree"]:List Str);decide +kernel) rfl (Or.inl rfl)
 case Ne=>exact cK
 case Nf=>exact al ai (pv 1) (pv 0) (fun _ _=>rfl)
 refine ⟨_,rfl,.inr (.inl ⟨a,_,0,.str x,rfl,rfl,ha.sq,at0,.inr (.inl ⟨rfl,_,rfl,?_⟩)⟩)⟩
 rw [aI]
 by_cases cr:x = "row"
 ·rw [decide_eq_true cr]
  refine a9 ?_
  rw [if_pos cr] at rp
  rw [cr,nf_row] at lf
  rw [cr,nk_row] at lm
  obtain ⟨pv,e0,rfl,rpv,e1⟩:=rp
  have e1':e0 = []:=e1
  subst e1'
  obtain rfl:uf = []:=List.length_eq_zero_iff.mp (l1.symm.trans lf)
  obtain ⟨k0,rfl⟩:∃ k0,um = [k0]:=List.length_eq_one_iff.mp (l2.symm.trans lm)
  obtain ⟨b,us,rfl,hb,rus⟩:=RK.get rpv
  refine ⟨_,rfl,.inr (.inl ⟨a,_,3,.ref b,rfl,rfl,ha.sq,at3,b,us,rfl,.inr hb.sq,fun l hl=>?_⟩)⟩
  have o:Old H (upd H l (.lst us)):=Old.new hl
  exact q l us _ o hl ag (rus.mono o.tm)
 ·rw [decide_eq_false cr]
  refine aU ?_
  rw [if_neg cr] at rp
  have l3:=rp.length
  rw [b8] at l3
  have lp':=lp cr
  refine ⟨_,rfl,a,x,_,"node",rfl,ha,hx,fun r H1 o1 hr0 hr1=>⟨r,rfl,.inl ⟨⟨_,SqL.of hr1⟩,fun D hD=>?_⟩⟩⟩
  rw [(K11.form_of x hx).2.2.1 cr] at hr1
  have lo0:([V.str x,V.int p] ++ uf ++ um).length=2+K11.nf x+K11.nk x:=by
   rw [List.length_append,List.length_append,← l1,← l2,lf,lm]
   rfl
  have ln:up.length=K11.np x:=by rw [← l3];exact lp'
  have e1:V.str x :: V.int p :: (uf ++ um ++ up)=([V.str x,V.int p] ++ uf ++ um) ++ up:=by simp
  have lu5:up.length≤5:=by rw [← l3];exact few
  clear lp' l3 lf lm l1 l2 lp
  generalize 2+K11.nf x+K11.nk x=lo at hr1 lo0
  generalize K11.np x=n at hr1 ln
  rw [e1] at ha
  generalize [V.str x,V.int p] ++ uf ++ um=pre at ha lo0
  have neD:∀ b o,H1 b=some o→b≠D:=fun b o e=>ap e hD
  have lr:((K11.rng lo n).map V.int).length=n:=by rw [List.length_map,rng_len]
  refine dO (n:=n) (fun i σ H2=>∃ (k1:Option V),σ = [k1,some (.ref a)]∧Old H1 H2∧H2 D=some (.lst (up.take i))) ⟨none,rfl,Old.new hD,ag⟩ ?_ ?_ ?_ ?_
  ·intro i σ H2 hi hv
   obtain ⟨k1,rfl,o2,hD2⟩:=hv
   exact ⟨_,_,SqL.of (o2 _ _ hr1),by rw [List.getElem?_map,gU hi];rfl⟩
  ·intro σ H2 hv
   obtain ⟨k1,rfl,o2,hD2⟩:=hv
   exact ⟨_,SqL.of (o2 _ _ hr1),by rw [lr];exact Nat.le_refl _⟩
  ·intro i σ H2 hi hv y H3 hy
   obtain ⟨k1,rfl,o2,hD2⟩:=hv
   obtain ⟨e1,hyx⟩:=hy
   subst e1
   have ey:=hyx _ (SqL.of (o2 _ _ hr1))
   rw [List.getElem?_map,gU hi] at ey
   cases ey
   have iu:i<up.length:=by omega
   have eu:(pre ++ up)[lo+i]? = some up[i]:=by
    rw [List.getElem?_append_right (by omega),lo0,show lo+i - lo=i by omega,List.getElem?_eq_getElem iu]
   have ha3:=(ha.mono (o1.trans o2).tm).sq
   refine ⟨_,rfl,_,rfl,.inr (.inl ⟨a,_,_,up[i],rfl,rfl,ha3,aK eu,?_⟩)⟩
   refine ⟨_,hD2,bE (by rw [List.length_take];omega),nx hi ⟨_,rfl,fun b o e=>by rw [au (neD b o e)];exact o2 b o e,?_⟩⟩
   rw [ag,bP iu]
  ·intro σ H2 hv
   obtain ⟨k1,rfl,o2,hD2⟩:=hv
   rw [List.take_of_length_le (by omega)] at hD2
   exact q D up H2 (o1.trans o2) (o1.free hD) hD2 (rp.mono (o1.trans o2).tm)
abbrev sWr:Stmt:=top 26
def tmid:Tn→List Dk | .mk _ _ _ mid _=>mid
def spWr (K:W.Frag):Sp:=fun vs H Q _=>∃ (v:V) (t:Tn),vs = [v]∧RK K H t.d v∧t.wf∧t.w≠"look" ∧
 ∀ (r:Addr) (us:List V) (H':Hp),Old H H'→H r=none→H' r=some (.lst us)→RKs K H' (tmid t) us→Q (.ref r) H'
theorem scWr:aF ["tree"] ["tree"] (aw sWr):=⟨rfl,rfl,rfl,by decide +kernel,rfl,by decide +kernel,by decide +kernel⟩
theorem nk_le:∀ x∈K11.words,K11.nk x≤5:=by decide +kernel
theorem ok_Wr {m:Nat} (F:Fun K "written" "written" sWr f fd) (T:Tx mg) (c_indexes:Cal P w K mg base "indexes" ["tree","sort"] 2 (eg K)):aY P w K mg base CX0 (m+3) f fd ["tree"] (spWr K):=by
 refine F.ok scWr (fun vs H Q E h=>?_) (fun cdv A outer s H vs Q E hr h=>?_)
 ·obtain ⟨v,t,rfl,_⟩:=h
  rfl
 obtain ⟨v,t,rfl,rv,wt,nl,q⟩:=h
 have nd:=scWr.nd
 obtain ⟨x,p,fr,mid,ps⟩:=t
 obtain ⟨⟨hx,lf,lm,_⟩,_⟩:=wt
 obtain ⟨a,uf,um,up,rfl,ha,rf,rm,rp⟩:=RK.node rv
 have l1:=rf.length
 have l2:=rm.length
 refine' ⟨_,?n0,?Z⟩
 case' n0=>refine' ah ?N1
 case' N1=>refine' ao ?N2
 case' N2=>refine' gG (te:=tOp (rIx K) (cV 1) (cV 0)) (k:=1) (N:=["index","tree"]) (eD rfl rfl rfl rfl rfl rfl) rfl ?N3 (fun _ _ _ _=>?N4) (fun _ _ _ _=>?N5) (fun _ _ _ _=>?N6)
 case N3=>exact dC (az c_indexes hr (pa (pv 0) (pa aj ad)))
 case N4=>exact aZ (i:=0) (by show List.Nodup (["index","tree"]:List Str);decide +kernel) rfl (Or.inl rfl)
 case N5=>exact cK
 case N6=>exact al ai (pv 1) (pv 0) (fun _ _=>rfl)
 refine ⟨_,rfl,a,x,_,"kind",rfl,ha,hx,fun r H1 o1 hr0 hr1=>⟨r,rfl,.inl ⟨⟨_,SqL.of hr1⟩,fun D hD=>?_⟩⟩⟩
 rw [(K11.form_of x hx).2.2.2.1 nl] at hr1
 have lo0:([V.str x,V.int p] ++ uf).length=2+K11.nf x:=by
  rw [List.length_append,← l1,lf]
  rfl
 have ln:um.length=K11.nk x:=by rw [← l2];exact lm
 have lu5:um.length≤5:=by rw [ln];exact nk_le x hx
 have e1:V.str x :: V.int p :: (uf ++ um ++ up)=([V.str x,V.int p] ++ uf) ++ (um ++ up):=by simp
 clear l1 l2
 generalize 2+K11.nf x=lo at hr1 lo0
 generalize K11.nk x=n at hr1 ln
 rw [e1] at ha
 generalize [V.str x,V.int p] ++ uf=pre at ha lo0
 have neD:∀ b o,H1 b=some o→b≠D:=fun b o e=>ap e hD
 have lr:((K11.rng lo n).map V.int).length=n:=by rw [List.length_map,rng_len]
 refine dO (n:=n) (fun i σ H2=>∃ (k1:Option V),σ = [k1,some (.ref a)]∧Old H1 H2∧H2 D=some (.lst (um.take i))) ⟨none,rfl,Old.new hD,ag⟩ ?_ ?_ ?_ ?_
 ·intro i σ H2 hi hv
  obtain ⟨k1,rfl,o2,hD2⟩:=hv
  exact ⟨_,_,SqL.of (o2 _ _ hr1),by rw [List.getElem?_map,gU hi];rfl⟩
 ·intro σ H2 hv
  obtain ⟨k1,rfl,o2,hD2⟩:=hv
  exact ⟨_,SqL.of (o2 _ _ hr1),by rw [lr];exact Nat.le_refl _⟩
 ·intro i σ H2 hi hv y H3 hy
  obtain ⟨k1,rfl,o2,hD2⟩:=hv
  obtain ⟨e1,hyx⟩:=hy
  subst e1
  have ey:=hyx _ (SqL.of (o2 _ _ hr1))
  rw [List.getElem?_map,gU hi] at ey
  cases ey
  have iu:i<um.length:=by omega
  have eu:(pre ++ (um ++ up))[lo+i]? = some um[i]:=by
   rw [List.getElem?_append_right (by omega),lo0,show lo+i - lo=i by omega,List.getElem?_append_left iu,List.getElem?_eq_getElem iu]
  have ha3:=(ha.mono (o1.trans o2).tm).sq
  refine ⟨_,rfl,_,rfl,.inr (.inl ⟨a,_,_,um[i],rfl,rfl,ha3,aK eu,?_⟩)⟩
  refine ⟨_,hD2,bE (by rw [List.length_take];omega),nx hi ⟨_,rfl,fun b o e=>by rw [au (neD b o e)];exact o2 b o e,?_⟩⟩
  rw [ag,bP iu]
 ·intro σ H2 hv
  obtain ⟨k1,rfl,o2,hD2⟩:=hv
  rw [List.take_of_length_le (by omega)] at hD2
  exact q D um H2 (o1.trans o2) (o1.free hD) hD2 (rm.mono (o1.trans o2).tm)
theorem q_empty {h:Str} {ks:List Kn} {us:List V} (e:bS h=some ks.length) (l:ks.length=us.length):(decide (h = "?") && us.isEmpty)=decide (h = "?"):=by
 by_cases c:h = "?"
 ·subst c
  have:=arity_q e
  have:us = []:=List.length_eq_zero_iff.mp (by omega)
  subst this
  rfl
 ·rw [decide_eq_false c,Bool.false_and]
abbrev sDepth:Stmt:=top 15
def bY (K:W.Frag) (m:Nat):Sp:=fun vs H Q _=>∃ (v:V) (t:Kn),vs = [v]∧RK K H t.d v∧t.ok∧t.dep<m∧∀ (H':Hp),Old H H'→Q (.int ((t.dep:Nat):Int)) H'
theorem scDepth:aF ["kind"] ["kind"] (aw sDepth):=⟨rfl,rfl,rfl,by decide +kernel,rfl,by decide +kernel,by decide +kernel⟩
theorem ok_depth {m:Nat} (F:Fun K "depth" "depth" sDepth f fd) (T:Tx mg) (c_kinds_in:Cal P w K mg base "kinds_in" ["kind"] 1 (spKi K)) (c_depth:Cal P w K mg base "depth" ["kind"] (m+1) (bY K m)):aY P w K mg base CX0 (m+2) f fd ["kind"] (bY K (m+1)):=by
 refine F.ok scDepth (fun vs H Q E h=>?_) (fun cdv A outer s H vs Q E hr h=>?_)
 ·obtain ⟨v,t,rfl,_⟩:=h
  rfl
 obtain ⟨v,t,rfl,rv,hok,hns,q⟩:=h
 have nd:=scDepth.nd
 obtain ⟨h,ks⟩:=t
 obtain ⟨few,hoks⟩:=hok
 have rv':RK K H (.tup (.str h :: Kn.ds ks)) v:=rv
 have hns':1+Kn.deps ks<m+1:=hns
 refine' ⟨_,?n0,?Z⟩
 case' n0=>refine' ah ?N1
 case' N1=>refine' ao ?N2
 case' N2=>refine' aE bo ac ?N3
 case' N3=>refine' pe_max rfl rfl T.max ?N4 ?N5
 case' N4=>refine' pa ?N6 ad
 case' N6=>refine' gG (k:=1) (N:=["inner","kind"]) (eD rfl rfl rfl rfl rfl rfl) rfl ?N7 (fun _ _ _ _=>?N8) (fun _ _ _ _=>?N9) (fun _ _ _ _=>?Na)
 case N7=>exact dC (az c_kinds_in hr (pa (pv 0) ad))
 case N8=>exact aZ (i:=0) (by show List.Nodup (["inner","kind"]:List Str);decide +kernel) rfl (Or.inl rfl)
 case N9=>exact cK
 case Na=>exact az c_depth hr (pa (pv 0) ad)
 case N5=>exact j8 ac pk_nil
 refine ⟨_,rfl,v,h,Kn.ds ks,rfl,rv',fun r us H1 o1 hr0 hr1 rus=>⟨r,rfl,.inl ⟨⟨_,SqL.of hr1⟩,fun D hD=>?_⟩⟩⟩
 have lus:=rus.length
 rw [aH] at lus
 have neD:∀ b o,H1 b=some o→b≠D:=fun b o e=>ap e hD
 refine dO (n:=ks.length) (fun i σ H2=>∃ k1:Option V,σ = [k1,some v]∧Old H1 H2∧H2 D=some (.lst (((ks.take i).map (fun t=>((t.dep:Nat):Int))).map V.int))) ⟨none,rfl,Old.new hD,by rw [ag];rfl⟩ ?_ ?_ ?_ ?_
 ·intro i σ H2 hi hv
  obtain ⟨k1,rfl,g,hD2⟩:=hv
  obtain ⟨u,hu⟩:∃ u,us[i]? = some u:=⟨_,List.getElem?_eq_getElem (by omega)⟩
  exact ⟨_,u,SqL.of (g _ _ hr1),hu⟩
 ·intro σ H2 hv
  obtain ⟨k1,rfl,g,hD2⟩:=hv
  exact ⟨_,SqL.of (g _ _ hr1),by omega⟩
 ·intro i σ H2 hi hv y H3 hy
  obtain ⟨k1,rfl,g,hD2⟩:=hv
  obtain ⟨e1,hyx⟩:=hy
  subst e1
  have eu:us[i]? = some y:=hyx _ (SqL.of (g _ _ hr1))
  obtain ⟨d,ed,rd⟩:=rus.getV eu
  rw [b7 hi] at ed
  cases ed
  refine ⟨_,rfl,y,ks[i],rfl,rd.mono g.tm,ff hi hoks,Nat.lt_of_le_of_lt (cg hi) (by omega),fun H4 o4=>⟨_,o4 _ _ hD2,?_,nx hi ⟨_,rfl,fun b o e=>by rw [au (neD b o e)];exact o4 _ _ (g b o e),?_⟩⟩⟩
  ·refine bE ?_
   rw [List.length_map,List.length_map,List.length_take]
   omega
  ·rw [ag,bP hi,List.map_append,List.map_append]
   rfl
 ·intro σ H2 hv
  obtain ⟨k1,rfl,g,hD2⟩:=hv
  rw [List.take_length] at hD2
  refine ⟨D,_,0,rfl,rfl,SqL.of hD2,add_i ?_⟩
  rw [ja]
  have k:=q H2 (o1.trans g)
  have e:((Kn.dep (Kn.mk h ks):Nat):Int)=1+((Kn.deps ks:Nat):Int):=by
   show ((1+Kn.deps ks:Nat):Int)=_
   omega
  rw [e] at k
  exact k
abbrev sJoin:Stmt:=top 20
def eK (K:W.Frag) (m:Nat):Sp:=fun vs H Q _=>∃ (x y:V) (a b:Kn),vs = [x,y]∧RK K H a.d x∧RK K H b.d y∧a.ok∧b.ok∧a.dep<m∧∀ (v:V) (H':Hp),Old H H'→RK K H' (a.join b).d v→Q v H'
theorem scJoin:aF ["kind","other"] ["kind","other"] (aw sJoin):=⟨rfl,rfl,rfl,by decide +kernel,rfl,by decide +kernel,by decide +kernel⟩
theorem ok_join {m:Nat} {ua:Addr} (F:Fun K "join" "join" sJoin f fd) (T:Tx mg) (m_UNTOLD:mg "UNTOLD" = some (.ref ua)) (k_UNTOLD:Kt K ua [.str "?"]) (c_kinds_in:Cal P w K mg base "kinds_in" ["kind"] 1 (spKi K)) (c_with_kinds:Cal P w K mg base "with_kinds" ["kind","some"] 1 (spWk K)) (c_join:Cal P w K mg base "join" ["kind","other"] (m+1) (eK K m)) :
 aY P w K mg base CX0 (m+2) f fd ["kind","other"] (eK K (m+1)):=by
 refine F.ok scJoin (fun vs H Q E h=>?_) (fun cdv A outer s H vs Q E hr h=>?_)
 ·obtain ⟨x,y,a,b,rfl,_⟩:=h
  rfl
 obtain ⟨x,y,a,b,rfl,rx,ry,oka,okb,hm,q⟩:=h
 have nd:=scJoin.nd
 obtain ⟨h,ks⟩:=a
 obtain ⟨g,ls⟩:=b
 have rx':RK K H (.tup (.str h :: Kn.ds ks)) x:=rx
 have ry':RK K H (.tup (.str g :: Kn.ds ls)) y:=ry
 obtain ⟨xa,us,rfl,ha,ru⟩:=RK.kind rx'
 obtain ⟨xb,ws,rfl,hb,rw'⟩:=RK.kind ry'
 have hm':1+Kn.deps ks<m+1:=hm
 obtain ⟨fa,okas⟩:=oka
 obtain ⟨fb,okbs⟩:=okb
 refine' ⟨_,?n0,?Z⟩
 case' n0=>refine' ae ?N1 ?N2
 case' N1=>refine' aC ?N3 ?N4 aq
 case' N3=>refine' ak (eI hr) ?N5 ?N6 (am _)
 case N5=>exact al ai (pv 0) ac (fun _ _=>rfl)
 case N6=>exact al ai (pv 1) ac (fun _ _=>rfl)
 case' N4=>refine' ah ?N7
 case N7=>exact ao (bF rfl m_UNTOLD)
 case' N2=>refine' ah ?N8
 case' N8=>refine' ao ?N9
 case' N9=>refine' az c_with_kinds hr ?Na
 case' Na=>refine' pa (pv 0) ?Nb
 case' Nb=>refine' pa ?Nc ad
 case' Nc=>refine' gG (g:=gTup K 2 (kX (bH 0) (kX (bH 1) gNil))) (k:=2) (N:=["inner","beside","kind","other"]) (eD rfl rfl rfl rfl rfl rfl) rfl ?Nd (fun _ _ _ _=>?Ne) (fun _ _ _ _=>?Nf) (fun _ _ _ _=>?Ng)
 case Nd=>exact pi_zip rfl T.zip (pa (az c_kinds_in hr (pa (pv 0) ad)) (pa (az c_kinds_in hr (pa (pv 1) ad)) ad))
 case Ne=>
  refine' iB rfl ?Nh
  case' Nh=>refine' bL ?Ni ?Nj
  case Ni=>exact aZ (i:=0) (by show List.Nodup (["inner","beside","kind","other"]:List Str);decide +kernel) rfl (Or.inl rfl)
  case' Nj=>refine' bL ?Nk fq
  first | case Nk=>exact aZ (i:=1) (by show List.Nodup (["inner","beside","kind","other"]:List Str);decide +kernel) rfl (Or.inl rfl) | case Nj=>exact aZ (i:=1) (by show List.Nodup (["inner","beside","kind","other"]:List Str);decide +kernel) rfl (Or.inl rfl)
 case Nf=>exact cK
 case Ng=>exact az c_join hr (pa (pv 0) (pa (pv 1) ad))
 refine ⟨_,rfl,.inr (.inl ⟨xa,_,0,.str h,rfl,rfl,ha.sq,(by exact aK (j:=0) rfl),_,rfl,.inr (.inl ⟨xb,_,0,.str g,rfl,rfl,hb.sq,(by exact aK (j:=0) rfl),.inr (.inl ⟨rfl,_,rfl,?_⟩)⟩)⟩)⟩
 rw [aI]
 by_cases c:h=g
 ·subst c
  rw [decide_eq_true rfl]
  refine aU ?_
  have ej:(Kn.mk h ks).join (.mk h ls) = .mk h (Kn.joins ks ls):=if_pos rfl
  rw [ej] at q
  refine ⟨_,rfl,_,rfl,_,h,Kn.ds ks,rfl,rx',fun r1 us1 H1 o1 hr1 hr1' rus1=>⟨_,rfl,_,h,Kn.ds ls,rfl,ry'.mono o1.tm,fun r2 us2 H2 o2 hr2 hr2' rus2=>⟨r1,r2,us1,us2,rfl,SqL.of (o2 _ _ hr1'),SqL.of hr2',fun D hD=>?_⟩⟩⟩
  have l1:=rus1.length
  have l2:=rus2.length
  rw [aH] at l1 l2
  have hr1H:=o2 _ _ hr1'
  have rus1H:=rus1.mono o2.tm
  have neD:∀ b o,H2 b=some o→b≠D:=fun b o e=>ap e hD
  have lj:=bO ks ls
  refine dO (n:=(Kn.joins ks ls).length) (fun i σ H3=>∃ (k1 k2:Option V) (zs:List V),σ = [k1,k2,some (.ref xa),some (.ref xb)]∧Old H2 H3∧H3 D=some (.lst zs)∧RKs K H3 (Kn.ds ((Kn.joins ks ls).take i)) zs) ⟨none,none,[],rfl,Old.new hD,ag,rfl⟩ ?_ ?_ ?_ ?_
  ·intro i σ H3 hi hv
   obtain ⟨k1,k2,zs,rfl,o3,hD3,rz⟩:=hv
   exact ⟨_,_,SqL.of (o3 _ _ hr1H),SqL.of (o3 _ _ hr2'),by omega,by omega⟩
  ·intro σ H3 hv
   obtain ⟨k1,k2,zs,rfl,o3,hD3,rz⟩:=hv
   exact ⟨_,_,SqL.of (o3 _ _ hr1H),SqL.of (o3 _ _ hr2'),by omega⟩
  ·intro i σ H3 hi hv v H4 hy
   obtain ⟨k1,k2,zs,rfl,o3,hD3,rz⟩:=hv
   obtain ⟨t,x,y,rfl,ht,rfl,hx,hyy⟩:=hy
   have ex:=hx _ (SqL.of (o3 _ _ hr1H))
   have ey:=hyy _ (SqL.of (o3 _ _ hr2'))
   have i1:i<ks.length:=by omega
   have i2:i<ls.length:=by omega
   obtain ⟨d1,e1,rd1⟩:=rus1H.getV ex
   obtain ⟨d2,e2,rd2⟩:=rus2.getV ey
   rw [b7 i1] at e1
   rw [b7 i2] at e2
   cases e1
   cases e2
   have o4:Old H3 (upd H3 t (.tup [x,y])):=Old.new ht
   have o34:=o3.trans o4
   have lz:=rz.length
   rw [aH,List.length_take] at lz
   refine ⟨t,_,rfl,SqT.of ag,rfl,_,_,rfl,_,_,rfl,rfl,_,rfl,_,rfl,x,y,ks[i],ls[i],rfl,rd1.mono o34.tm,rd2.mono o34.tm,ff i1 okas,ff i2 okbs,Nat.lt_of_le_of_lt (cg i1) (by omega),fun v H5 o5 rv=>?_⟩
   have hD5:=o5 _ _ (o4 _ _ hD3)
   have tm:Tm H5 (upd H5 D (.lst (zs ++ [v]))):=fun b xs e=>by
    rw [au]
    ·exact e
    ·intro z
     rw [z,hD5] at e
     cases e
   refine ⟨_,hD5,bE (by omega),nx hi ⟨_,_,_,rfl,fun b o e=>by rw [au (neD b o e)];exact o5 _ _ (o34 b o e),ag,?_⟩⟩
   rw [joins_take i1 i2,jb]
   exact ((rz.mono (o4.trans o5).tm).mono tm).append (.cons (rv.mono tm) .nil)
  ·intro σ H3 hv
   obtain ⟨k1,k2,zs,rfl,o3,hD3,rz⟩:=hv
   rw [List.take_length] at rz
   refine ⟨_,D,h,Kn.ds ks,Kn.ds (Kn.joins ks ls),zs,rfl,rx'.mono ((o1.trans o2).trans o3).tm,hD3,rz,by rw [aH];omega,fun v' H' o' r'=>?_⟩
   exact q v' H' (((o1.trans o2).trans o3).trans o') r'
 ·rw [decide_eq_false c]
  refine a9 ?_
  have ej:(Kn.mk h ks).join (.mk g ls)=qK:=if_neg c
  rw [ej] at q
  exact q (.ref ua) H (Old.refl _) (RK.tup (.inr k_UNTOLD) (.cons (.s _) .nil))
abbrev iE:Stmt:=top 19
def bA (K:W.Frag) (m:Nat):Sp:=fun vs H Q _=>∃ (x y:V) (a b:Kn),vs = [x,y]∧RK K H a.d x∧RK K H b.d y∧a.wf∧b.wf∧a.dep<m∧a.dep≤8∧∀ (v:V) (H':Hp),Old H H'→RK K H' (od (a.part b)) v→Q v H'
theorem jE:aF ["kind","other","step","inner","beside","way"] ["kind","other"] (aw iE):=⟨rfl,rfl,rfl,by decide +kernel,rfl,by decide +kernel,by decide +kernel⟩
theorem ok_parting {m:Nat} {ua:Addr} (F:Fun K "parting" "parting" iE f fd) (T:Tx mg) (m_UNTOLD:mg "UNTOLD" = some (.ref ua)) (k_UNTOLD:Kt K ua [.str "?"]) (c_steps:Cal P w K mg base "steps" ["kind"] 1 (gY K)) (c_kinds_in:Cal P w K mg base "kinds_in" ["kind"] 1 (spKi K)) (c_parting:Cal P w K mg base "parting" ["kind","other"] (m+1) (bA K m)) :
 aY P w K mg base CX0 (m+2) f fd ["kind","other"] (bA K (m+1)):=by
 refine F.ok jE (fun vs H Q E h=>?_) (fun cdv A outer s H vs Q E hr h=>?_)
 ·obtain ⟨x,y,a,b,rfl,_⟩:=h
  rfl
 obtain ⟨x,y,a,b,rfl,rx,ry,wa,wb,hm,h8,q⟩:=h
 have nd:=jE.nd
 obtain ⟨h,ks⟩:=a
 obtain ⟨g,ls⟩:=b
 have rx':RK K H (.tup (.str h :: Kn.ds ks)) x:=rx
 have ry':RK K H (.tup (.str g :: Kn.ds ls)) y:=ry
 obtain ⟨xa,us,rfl,ha,ru⟩:=RK.kind rx'
 obtain ⟨xb,ws,rfl,hb,rw'⟩:=RK.kind ry'
 have hm':1+Kn.deps ks<m+1:=hm
 have h8':1+Kn.deps ks≤8:=h8
 obtain ⟨ea,wks⟩:=wa
 obtain ⟨eb,wls⟩:=wb
 have lu:=ru.length
 have lw:=rw'.length
 rw [aH] at lu lw
 have ep:(Kn.mk h ks).part (.mk g ls)=if h = "?" then none else if g = "?" then none else if h=g then Kn.parts (aG h) ks ls else some []:=rfl
 refine' ⟨_,?n0,?Z⟩
 case' n0=>refine' ae ?N1 ?N2
 case' N1=>refine' aC ?N3 ?N4 aq
 case' N3=>refine' PW.pt ?N5
 case' N5=>refine' bV (ak (ax hr) (pv 0) (bF rfl m_UNTOLD) (am _)) ?N6
 case N6=>exact bR (ak (ax hr) (pv 1) (bF rfl m_UNTOLD) (am _))
 case' N4=>refine' ah ?N7
 case N7=>exact ao bQ
 case' N2=>refine' ae ?N8 ?N9
 case' N8=>refine' aC ?Na ?Nb aq
 case' Na=>refine' ak (eI hr) ?Nc ?Nd (am _)
 case Nc=>exact al ai (pv 0) ac (fun _ _=>rfl)
 case Nd=>exact al ai (pv 1) ac (fun _ _=>rfl)
 case' Nb=>refine' ah ?Ne
 case Ne=>exact ao (ay ad)
 case' N9=>refine' ae ?Nf ?Ng
 case' Nf=>refine' cU PassesOwn.never rfl ?Nh ?Ni ?Nj
 case Nh=>exact pi_zip3 rfl T.zip (pa (az c_steps hr (pa (pv 0) ad)) (pa (az c_kinds_in hr (pa (pv 0) ad)) (pa (az c_kinds_in hr (pa (pv 1) ad)) ad)))
 case' Ni=>refine' iB rfl ?Nk
 case' Nk=>refine' bL ?Nl ?Nm
 case Nl=>exact aZ (i:=2) nd rfl (Or.inl rfl)
 case' Nm=>refine' bL ?Nn ?No
 case Nn=>exact aZ (i:=3) nd rfl (Or.inl rfl)
 case' No=>refine' bL ?Np fq
 case Np=>exact aZ (i:=4) nd rfl (Or.inl rfl)
 case' Nj=>refine' ae ?Nq ?Nr
 case Nq=>exact aA (i:=5) nd rfl (Or.inl rfl) rfl (by first | exact .inl rfl | exact .inr rfl) (az c_parting hr (pa (pv 3) (pa (pv 4) ad)))
 case' Nr=>refine' ah ?Ns
 case' Ns=>refine' aC (ak fh (pv 5) bQ (am _)) ?Nt aq
 case' Nt=>refine' ah ?Nu
 case Nu=>exact ao (aE bo (ay (pa (pv 2) ad)) (pv 5))
 case' Ng=>refine' ah ?Nv
 case Nv=>exact ao bQ
 refine ⟨_,rfl,.inr (.inr ⟨_,.heads ha.sq (Tp.sq (.inr k_UNTOLD)),_,rfl,?_⟩)⟩
 rw [q_empty ea lu]
 by_cases c1:h = "?"
 ·rw [decide_eq_true c1]
  rw [ep,if_pos c1] at q
  exact a9 (a9 (q .non H (Old.refl _) .n))
 rw [decide_eq_false c1]
 rw [if_neg c1] at ep
 refine aU ?_
 refine ⟨_,rfl,.inr (.inr ⟨_,.heads hb.sq (Tp.sq (.inr k_UNTOLD)),_,rfl,?_⟩)⟩
 rw [q_empty eb lw]
 by_cases c2:g = "?"
 ·rw [decide_eq_true c2]
  rw [ep,if_pos c2] at q
  exact a9 (q .non H (Old.refl _) .n)
 rw [decide_eq_false c2]
 rw [if_neg c2] at ep
 refine aU ?_
 refine ⟨_,rfl,.inr (.inl ⟨xa,_,0,.str h,rfl,rfl,ha.sq,(by exact aK (j:=0) rfl),_,rfl,.inr (.inl ⟨xb,_,0,.str g,rfl,rfl,hb.sq,(by exact aK (j:=0) rfl),.inr (.inl ⟨rfl,_,rfl,?_⟩)⟩)⟩)⟩
 rw [aI]
 by_cases c:h=g
 ·subst c
  rw [decide_eq_true rfl]
  refine aU ?_
  rw [if_pos rfl] at ep
  rw [ep] at q
  have el:ks.length=ls.length:=by rw [ea] at eb;exact Option.some.inj eb
  have es:=dl ea
  refine ⟨_,rfl,_,h,_,Kn.ds ks,rfl,rx',ea,fun c0 hcO hcT=>?_⟩
  refine ⟨_,rfl,_,h,Kn.ds ks,rfl,rx',fun r1 us1 H1 o1 hr1 hr1' rus1=>⟨_,rfl,_,h,Kn.ds ls,rfl,ry'.mono o1.tm,fun r2 us2 H2 o2 hr2 hr2' rus2=>⟨c0,r1,r2,_,us1,us2,rfl,hcO _,SqL.of (o2 _ _ hr1'),SqL.of hr2',?_⟩⟩⟩
  have l1:=rus1.length
  have l2:=rus2.length
  rw [aH] at l1 l2
  have hr1H:=o2 _ _ hr1'
  have rus1H:=rus1.mono o2.tm
  have o12:=o1.trans o2
  refine dM (n:=ks.length) (fun i σ H3=>∃ (k1 k2 k3 k4:Option V),σ = [some (.ref xa),some (.ref xb),k1,k2,k3,k4]∧Old H2 H3∧Kn.parts (aG h) ks ls=Kn.parts ((aG h).drop i) (ks.drop i) (ls.drop i)) ⟨none,none,none,none,rfl,Old.refl _,rfl⟩ ?_ ?_ ?_ ?_
  ·intro i σ H3 hi hv
   obtain ⟨k1,k2,k3,k4,rfl,o3,e3⟩:=hv
   exact ⟨_,_,_,hcO _,SqL.of (o3 _ _ hr1H),SqL.of (o3 _ _ hr2'),by rw [List.length_map];omega,by omega,by omega⟩
  ·intro σ H3 hv
   obtain ⟨k1,k2,k3,k4,rfl,o3,e3⟩:=hv
   exact ⟨_,_,_,hcO _,SqL.of (o3 _ _ hr1H),SqL.of (o3 _ _ hr2'),by rw [List.length_map];omega⟩
  ·intro i σ H3 hi hv v H4 hy
   obtain ⟨k1,k2,k3,k4,rfl,o3,e3⟩:=hv
   obtain ⟨t,u,x,y,rfl,ht,rfl,hu,hx,hyy⟩:=hy
   have i0:i<(aG h).length:=by omega
   have i2:i<ls.length:=by omega
   have eu:=hu _ (hcO _)
   rw [List.getElem?_map,List.getElem?_eq_getElem i0] at eu
   cases eu
   have ex:=hx _ (SqL.of (o3 _ _ hr1H))
   have ey:=hyy _ (SqL.of (o3 _ _ hr2'))
   obtain ⟨d1,e1,rd1⟩:=rus1H.getV ex
   obtain ⟨d2,e2,rd2⟩:=rus2.getV ey
   rw [b7 hi] at e1
   rw [b7 i2] at e2
   cases e1
   cases e2
   have o4:=Old.new (o:=.tup [.str (aG h)[i],x,y]) ht
   have o34:=o3.trans o4
   have dg:=cg hi
   refine ⟨t,_,rfl,SqT.of ag,rfl,_,_,rfl,_,_,rfl,_,_,rfl,rfl,?_⟩
   refine ⟨_,rfl,_,rfl,x,y,ks[i],ls[i],rfl,rd1.mono o34.tm,rd2.mono o34.tm,cL hi wks,cL i2 wls,by omega,by omega,fun wv H5 o5 rv=>?_⟩
   have pd':=iz i0 hi i2
   rw [← e3] at pd'
   refine ⟨_,rfl,rfl,_,rfl,?_⟩
   cases hp:ks[i].part ls[i] with
   | none=>
     rw [hp] at rv pd'
     cases (show wv = .non by rw [od,RK] at rv;exact rv)
     exact aU ⟨_,_,_,_,rfl,o34.trans o5,pd'⟩
   | some w0=>
     rw [hp] at rv pd'
     obtain ⟨wa',wvs,rfl,hwa,rws⟩:=RK.get (show RK K H5 (.tup (w0.map Dk.str)) wv from rv)
     refine a9 ?_
     have lw0:=rws.length
     rw [List.length_map] at lw0
     have hmem:w0∈ks[i].ways ls[i]:=by
      have e:=fZ ks[i] ls[i]
      rw [hp] at e
      cases hw:ks[i].ways ls[i] with
      | nil=>rw [hw] at e;cases e
      | cons w1 r1=>rw [hw] at e;cases e;exact List.mem_cons_self
     have sh:=gu _ _ _ hmem
     refine ⟨_,rfl,by show 1≤sizeLine;decide,fun p6 hp6=>⟨_,rfl,?_⟩⟩
     have o6:=Old.new (o:=.tup [.str (aG h)[i]]) hp6
     refine .inr (addT (cat_k (ds:=[.str (aG h)[i]]) (.of ag) (hwa.mono o6.tm) (.cons (.s _) .nil) (rws.mono o6.tm) (by simp) (by simp;omega) fun c7 H7 o7 r7=>?_))
     refine q (.ref c7) H7 ((((o12.trans o34).trans o5).trans o6).trans o7) ?_
     rw [pd']
     exact r7
  ·intro σ H3 hv
   obtain ⟨k1,k2,k3,k4,rfl,o3,e3⟩:=hv
   refine q .non H3 (o12.trans o3) ?_
   rw [e3,← es,List.drop_length,Kn.parts]
   exact .n
 ·rw [decide_eq_false c]
  refine a9 ?_
  rw [if_neg c] at ep
  rw [ep] at q
  refine ⟨by show 0≤sizeLine;decide,fun p hp=>?_⟩
  exact q (.ref p) _ (Old.new hp) (RK.tup (.of ag) .nil)
end
end L2.K33
end
section
namespace L2.K33
open PySem PySem.Spec PyProof.Rows L2.Bw L2.Bk L2.Ex
theorem dY (z:Str) (ss:List Str):inV (.str z) (ss.map V.str)=decide (z∈ss):=inV_strs z ss
theorem nf_of:K11.nf "name" = 1∧K11.nf "fn" = 1∧K11.nf "let" = 1∧K11.nf "self" = 2∧K11.np "name" = 0:=by decide +kernel
theorem bnd_len {w:Str} {ns:List Str} (i:Nat) (h:w∈dQ→ns.length=K11.nf w):(bnd w ns i).length≤2:=by
 obtain ⟨n1,n2,n3,n4,_⟩:=nf_of
 unfold bnd
 split
 ·rename_i z
  rcases z with z | z | ⟨z,_⟩
  ·subst z;rw [h (by decide +kernel),n2];decide
  ·subst z;rw [h (by decide +kernel),n4];decide
  ·subst z;rw [h (by decide +kernel),n3];decide
 ·exact Nat.zero_le _
theorem cE {tt:TT} {ta tb u:TS} {D:eO} {σ:St} {H:Hp} (P:St→Hp→Prop) (h1:∀ R:St→Hp→Prop,(∀ σ H,P σ H→R σ H)→tIfS tt ta tb { D with nx:=R } σ H) (h2:∀ σ H,P σ H→u D σ H):tSeq (tIfS tt ta tb) u D σ H:=h1 (u D) h2
section
variable {P:Program} {w:World} {K:W.Frag} {mg:Str→Option Value} {base:Heap} {f:Addr} {fd:FuncData}
abbrev sNb:Stmt:=top 29
def spNb (K:W.Frag):Sp:=fun vs H Q _=>∃ (v:V) (t:Tn) (i:Nat),vs = [v,.int i]∧RK K H t.d v∧t.wf∧∀ (v':V) (H':Hp),Old H H'→RK K H' (.tup ((bnd t.w (txs t.fr) i).map Dk.str)) v'→Q v' H'
theorem scNb:aF ["tree","number","word"] ["tree","number"] (aw sNb):=⟨rfl,rfl,rfl,by decide +kernel,rfl,by decide +kernel,by decide +kernel⟩
theorem ok_nb {n:Nat} (F:Fun K "names_bound" "names_bound" sNb f fd) (T:Tx mg):aY P w K mg base CX0 (n+1) f fd ["tree","number"] (spNb K):=by
 refine F.ok scNb (fun vs H Q E h=>?_) (fun cdv A outer s H vs Q E hr h=>?_)
 ·obtain ⟨v,t,i,rfl,_⟩:=h
  rfl
 obtain ⟨v,t,i,rfl,rv,wt,q⟩:=h
 have nd:=scNb.nd
 obtain ⟨x,p,fr,mid,ps⟩:=t
 obtain ⟨⟨hx,lf,lm,lp,few,hn,_⟩,_⟩:=wt
 obtain ⟨a,uf,um,up,rfl,ha,rf,rm,rp⟩:=RK.node rv
 obtain ⟨n1,n2,n3,n4,n5⟩:=nf_of
 have one:∀ y,x=y→y∈dQ→K11.nf y=1→∃ z:Str,fr = [.str z]∧uf = [.str z]:=fun y e hy e1=>by
  subst e
  obtain ⟨ns,rfl⟩:=hn hy
  rw [List.length_map,e1] at lf
  obtain ⟨z,rfl⟩:=List.length_eq_one_iff.mp lf
  exact ⟨z,rfl,RKs.txs rf⟩
 have two:x = "self"→∃ z y:Str,fr = [.str z,.str y]∧uf = [.str z,.str y]:=fun e=>by
  subst e
  obtain ⟨ns,rfl⟩:=hn (by decide +kernel)
  rw [List.length_map,n4] at lf
  match ns,lf,rf with
  | [z,y],_,rf=>exact ⟨z,y,rfl,RKs.txs rf⟩
 refine' ⟨_,?n0,?Z⟩
 case' n0=>refine' ae ?N1 ?N2
 case' N1=>refine' aA (i:=2) nd rfl (Or.inl rfl) rfl (by first | exact .inl rfl | exact .inr rfl) ?N3
 case N3=>exact al ai (pv 0) ac (fun _ _=>rfl)
 case' N2=>refine' ae ?N4 ?N5
 case' N4=>refine' aC (ak (ax hr) (pv 2) aj (am _)) ?N6 aq
 case' N6=>refine' ah ?N7
 case' N7=>refine' ao ?N8
 case' N8=>refine' ay ?N9
 case' N9=>refine' pa ?Na ad
 case Na=>exact al ai (pv 0) ac (fun _ _=>rfl)
 case' N5=>refine' ae ?Nb ?Nc
 case' Nb=>refine' aC (ak (ax hr) (pv 2) aj (am _)) ?Nd aq
 case' Nd=>refine' ah ?Ne
 case' Ne=>refine' ao ?Nf
 case' Nf=>refine' ay ?Ng
 case' Ng=>refine' pa ?Nh ?Ni
 case Nh=>exact al ai (pv 0) ac (fun _ _=>rfl)
 case' Ni=>refine' pa ?Nj ad
 case Nj=>exact al ai (pv 0) ac (fun _ _=>rfl)
 case' Nc=>refine' ae ?Nk ?Nl
 case' Nk=>refine' aC ?Nm ?Nn aq
 case' Nm=>refine' PW.pt ?No
 case' No=>refine' bG (ak (ax hr) (pv 2) aj (am _)) ?Np
 case Np=>exact bu (ak (ax hr) (pv 1) ac (am _))
 case' Nn=>refine' ah ?Nq
 case' Nq=>refine' ao ?Nr
 case' Nr=>refine' ay ?Ns
 case' Ns=>refine' pa ?Nt ad
 case Nt=>exact al ai (pv 0) ac (fun _ _=>rfl)
 case' Nl=>refine' ah ?Nu
 case Nu=>exact ao (ay ad)
 refine ⟨_,rfl,.inr (.inl ⟨a,_,0,.str x,rfl,rfl,ha.sq,at0,?_⟩)⟩
 refine ⟨_,rfl,.inr (.inl ⟨rfl,_,rfl,?_⟩)⟩
 rw [aI]
 by_cases c1:x = "fn"
 ·rw [decide_eq_true c1]
  refine a9 ?_
  obtain ⟨z,rfl,rfl⟩:=one "fn" c1 (by decide +kernel) n2
  refine ⟨_,rfl,.inr (.inl ⟨a,_,2,.str z,rfl,rfl,ha.sq,at2,by show 1≤sizeLine;decide,fun b hb=>?_⟩)⟩
  have o:Old H (upd H b (.tup [.str z])):=Old.new hb
  refine q (.ref b) _ o ?_
  have e:bnd x (txs [.str z]) i = [z]:=if_pos (.inl c1)
  show RK K _ (.tup ((bnd x (txs [.str z]) i).map Dk.str)) _
  rw [e]
  exact RK.tup (.of ag) (.cons (.s _) .nil)
 rw [decide_eq_false c1]
 refine aU ?_
 refine ⟨_,rfl,.inr (.inl ⟨rfl,_,rfl,?_⟩)⟩
 rw [aI]
 by_cases c2:x = "self"
 ·rw [decide_eq_true c2]
  refine a9 ?_
  obtain ⟨z,y,rfl,rfl⟩:=two c2
  refine ⟨_,rfl,.inr (.inl ⟨a,_,2,.str z,rfl,rfl,ha.sq,at2,_,rfl,.inr (.inl ⟨a,_,3,.str y,rfl,rfl,ha.sq,at3,by show 2≤sizeLine;decide,fun b hb=>?_⟩)⟩)⟩
  have o:Old H (upd H b (.tup [.str z,.str y])):=Old.new hb
  refine q (.ref b) _ o ?_
  have e:bnd x (txs [.str z,.str y]) i = [z,y]:=if_pos (.inr (.inl c2))
  show RK K _ (.tup ((bnd x (txs [.str z,.str y]) i).map Dk.str)) _
  rw [e]
  exact RK.tup (.of ag) (.cons (.s _) (.cons (.s _) .nil))
 rw [decide_eq_false c2]
 refine aU ?_
 refine ⟨_,rfl,.inr (.inl ⟨rfl,_,rfl,?_⟩)⟩
 rw [aI]
 have rest:(¬ (x = "let"∧i=1))→∀ b,H b=none→Q (.ref b) (upd H b (.tup [])):=fun h b hb=>by
  refine q (.ref b) _ (Old.new hb) ?_
  have e:bnd x (txs fr) i = []:=if_neg (fun z=>z.elim c1 fun z=>z.elim c2 h)
  show RK K _ (.tup ((bnd x (txs fr) i).map Dk.str)) _
  rw [e]
  exact RK.tup (.of ag) .nil
 by_cases c3:x = "let"
 ·rw [decide_eq_true c3]
  refine a9 ?_
  refine ⟨_,rfl,.inr (.inl ⟨rfl,_,rfl,?_⟩)⟩
  rw [eT,show ((i:Int) == 1)=decide ((i:Int)=1) from rfl]
  by_cases c4:i=1
  ·rw [show decide ((i:Int)=1)=true from decide_eq_true (by omega)]
   refine a9 ?_
   obtain ⟨z,rfl,rfl⟩:=one "let" c3 (by decide +kernel) n3
   refine ⟨_,rfl,.inr (.inl ⟨a,_,2,.str z,rfl,rfl,ha.sq,at2,by show 1≤sizeLine;decide,fun b hb=>?_⟩)⟩
   have o:Old H (upd H b (.tup [.str z])):=Old.new hb
   refine q (.ref b) _ o ?_
   have e:bnd x (txs [.str z]) i = [z]:=if_pos (.inr (.inr ⟨c3,c4⟩))
   show RK K _ (.tup ((bnd x (txs [.str z]) i).map Dk.str)) _
   rw [e]
   exact RK.tup (.of ag) (.cons (.s _) .nil)
  ·rw [show decide ((i:Int)=1)=false from decide_eq_false (by omega)]
   refine aU ?_
   exact ⟨by show 0≤sizeLine;decide,rest (fun z=>c4 z.2)⟩
 ·rw [decide_eq_false c3]
  refine aU ?_
  exact ⟨by show 0≤sizeLine;decide,rest (fun z=>c3 z.1)⟩
abbrev sNB:Stmt:=top 28
def spNB (K:W.Frag) (m:Nat):Sp:=fun vs H Q _=>∃ (v y:V) (t:Tn) (bs:List Str),vs = [v,y]∧RK K H t.d v∧t.wf∧RK K H (.tup (bs.map Dk.str)) y∧t.dep<m∧bs.length+2 * t.dep≤900∧t.frees bs = []∧∀ H',Old H H'→Q .non H'
theorem scNB:aF ["tree","bound","number","part"] ["tree","bound"] (aw sNB):=⟨rfl,rfl,rfl,by decide +kernel,rfl,by decide +kernel,by decide +kernel⟩
theorem ok_NB {m:Nat} (F:Fun K "need_bound" "need_bound" sNB f fd) (T:Tx mg)
 (c_parts:Cal P w K mg base "parts" ["tree"] 3 (gW K)) (c_names_bound:Cal P w K mg base "names_bound" ["tree","number"] 1 (spNb K)) (c_need_bound:Cal P w K mg base "need_bound" ["tree","bound"] (m+4) (spNB K m)):aY P w K mg base CX0 (m+5) f fd ["tree","bound"] (spNB K (m+1)):=by
 refine F.ok scNB (fun vs H Q E h=>?_) (fun cdv A outer s H vs Q E hr h=>?_)
 ·obtain ⟨v,y,t,bs,rfl,_⟩:=h
  rfl
 obtain ⟨v,y,t,bs,rfl,rv,wt,ry,hd,hz,fe,qn⟩:=h
 have nd:=scNB.nd
 obtain ⟨x,p,fr,mid,ps⟩:=t
 obtain ⟨⟨hx,lf,lm,lp,few,hn,h0,h1⟩,wps⟩:=id wt
 obtain ⟨a,uf,um,up,rfl,ha,rf,rm,rp⟩:=RK.node rv
 obtain ⟨b,us,rfl,hb,rb⟩:=RK.get ry
 cases RKs.txs rb
 obtain ⟨n1,n2,n3,n4,n5⟩:=nf_of
 have ef:(Tn.mk x p fr mid ps).frees bs=(if x = "name"∧(txs fr).headD "" ∉ bs then [(p,(txs fr).headD "")] else []) ++ Tn.freess x (txs fr) 0 ps bs:=rfl
 have hdd:1+Tn.deps ps<m+1:=hd
 have hzz:bs.length+2 * (1+Tn.deps ps)≤900:=hz
 have lns:x∈dQ→(txs fr).length=K11.nf x:=fun h=>by
  obtain ⟨ns,rfl⟩:=hn h
  rw [hJ,← lf,List.length_map]
 refine' ⟨_,?n0,?Z⟩
 case' n0=>refine' ae ?N1 ?N2
 case' N1=>refine' aC ?N3 jx aq
 case' N3=>refine' PW.pt ?N4
 case' N4=>refine' bG ?N5 ?N6
 case' N5=>refine' ak (ax hr) ?N7 aj (am _)
 case N7=>exact al ai (pv 0) ac (fun _ _=>rfl)
 case' N6=>refine' bu ?N8
 case' N8=>refine' ak fg ?N9 (pv 1) rfl
 case N9=>exact al ai (pv 0) ac (fun _ _=>rfl)
 case' N2=>refine' ah ?Na
 case' Na=>refine' cU PassesOwn.never rfl ?Nb ?Nc ?Nd
 case Nb=>exact fu rfl T.enumerate (pa (az c_parts hr (pa (pv 0) ad)) ad)
 case' Nc=>refine' iB rfl ?Ne
 case' Ne=>refine' bL ?Nf ?Ng
 case Nf=>exact aZ (i:=2) nd rfl (Or.inl rfl)
 case' Ng=>refine' bL ?Nh fq
 case Nh=>exact aZ (i:=3) nd rfl (Or.inl rfl)
 case' Nd=>refine' ah ?Ni
 case Ni=>exact bD (az c_need_bound hr (pa (pv 3) (pa (aE bo (pv 1) (az c_names_bound hr (pa (pv 0) (pa (pv 2) ad)))) ad)))
 refine cE (fun σ H1=>σ = [some (.ref a),some (.ref b),none,none]∧H1=H∧¬ (x = "name"∧(txs fr).headD "" ∉ bs)) (fun R hR=>?_) (fun σ H1 hP=>?_)
 ·refine ⟨_,rfl,.inr (.inl ⟨a,_,0,.str x,rfl,rfl,ha.sq,at0,.inr (.inl ⟨rfl,_,rfl,?_⟩)⟩)⟩
  rw [aI]
  by_cases c1:x = "name"
  ·rw [decide_eq_true c1]
   refine a9 ?_
   obtain ⟨ns,rfl⟩:=hn (by rw [c1];decide +kernel)
   rw [List.length_map,c1,n1] at lf
   obtain ⟨z,rfl⟩:=List.length_eq_one_iff.mp lf
   obtain rfl:=RKs.txs rf
   refine ⟨_,rfl,.inr (.inl ⟨a,_,2,.str z,rfl,rfl,ha.sq,at2,_,rfl,b,_,rfl,.inr hb.sq,rfl,eA _,_,rfl,?_⟩)⟩
   rw [if_pos rfl,dY]
   by_cases c2:z∈bs
   ·rw [decide_eq_true c2]
    exact aU (hR _ _ ⟨rfl,rfl,fun h=>h.2 c2⟩)
   ·rw [decide_eq_false c2]
    refine a9 ?_
    have e1:(Tn.mk x p (List.map Dk.str [z]) mid ps).frees bs=(p,z) :: Tn.freess x (txs (List.map Dk.str [z])) 0 ps bs:=by
     rw [ef,if_pos ⟨c1,c2⟩]
     rfl
    exact absurd (e1.symm.trans fe) (fun z=>nomatch z)
  ·rw [decide_eq_false c1]
   exact aU (aU (hR _ _ ⟨rfl,rfl,fun h=>c1 h.1⟩))
 obtain ⟨rfl,rfl,nf0⟩:=hP
 rw [if_neg nf0,List.nil_append] at ef
 rw [ef] at fe
 refine ⟨_,rfl,_,Tn.mk x p fr mid ps,rfl,rv,wt,fun r us H2 o2 hr0 hr2 rus=>⟨r,us,rfl,hr2,?_⟩⟩
 have lus:=rus.length
 rw [b8] at lus
 have lus':ps.length=us.length:=lus
 refine dM (n:=us.length) (fun i σ H3=>∃ (k1 k2:Option V),σ = [some (.ref a),some (.ref b),k1,k2]∧Old H2 H3∧Tn.freess x (txs fr) 0 (ps.take i) bs = [])
  ⟨none,none,rfl,Old.refl _,rfl⟩ ?_ ?_ ?_ ?_
 ·intro i σ H3 hi hv
  obtain ⟨k1,k2,rfl,o3,e3⟩:=hv
  exact ⟨_,SqL.of (o3 _ _ hr2),hi⟩
 ·intro σ H3 hv
  obtain ⟨k1,k2,rfl,o3,e3⟩:=hv
  exact ⟨_,SqL.of (o3 _ _ hr2),rfl⟩
 ·intro i σ H3 hi hv z H4 hy
  obtain ⟨k1,k2,rfl,o3,e3⟩:=hv
  obtain ⟨T4,uv,rfl,hT4,rfl,hyx⟩:=hy
  have eu:us[i]? = some uv:=hyx _ (SqL.of (o3 _ _ hr2))
  have ip:i<ps.length:=by omega
  obtain ⟨d,ed,rd⟩:=rus.getV eu
  rw [show (Tn.ds (Tn.mk x p fr mid ps).ps)[i]? = some ps[i].d from fD ip] at ed
  cases ed
  have o4:Old H3 (upd H3 T4 (.tup [.int (i:Nat),uv])):=Old.new hT4
  have oA:=(o2.trans o3).trans o4
  have bl:=bnd_len i lns
  have dg:=jI ip
  have snoc:Tn.freess x (txs fr) 0 (ps.take (i+1)) bs=ps[i].frees (bs ++ bnd x (txs fr) i):=by
   rw [bP ip,kU,e3,List.nil_append,List.length_take,Nat.min_eq_left (by omega)]
  refine ⟨T4,_,rfl,SqT.of ag,rfl,_,_,rfl,_,_,rfl,rfl,?_⟩
  refine ⟨_,rfl,_,rfl,_,rfl,_,rfl,_,Tn.mk x p fr mid ps,i,rfl,rv.mono oA.tm,wt,fun nv H5 o5 rn=>?_⟩
  refine cat_g (ry.mono (oA.trans o5).tm) rn (by rw [List.length_map,List.length_map];show bs.length+(bnd x (txs fr) i).length≤1000;omega) fun bv H6 o6 rb6=>?_
  rw [← List.map_append] at rb6
  have ez:=cO (ps.take (i+1)) (ps.drop (i+1)) x (txs fr) 0 bs
  rw [List.take_append_drop,fe,snoc] at ez
  have e:=(List.append_eq_nil_iff.mp ez.symm).1
  refine ⟨uv,bv,ps[i],bs ++ bnd x (txs fr) i,rfl,rd.mono ((o3.trans o4).trans (o5.trans o6)).tm,lG ip wps,rb6,by omega,by rw [List.length_append];omega,e,fun H7 o7=>?_⟩
  exact ⟨_,_,rfl,((o3.trans o4).trans (o5.trans o6)).trans o7,by rw [snoc];exact e⟩
 ·intro σ H3 hv
  obtain ⟨k1,k2,rfl,o3,e3⟩:=hv
  rw [← lus',List.take_length] at e3
  exact qn _ (o2.trans o3)
abbrev sNN:Stmt:=top 27
def spNN (K:W.Frag) (m:Nat):Sp:=fun vs H Q _=>∃ (v:V) (t:Tn),vs = [v]∧RK K H t.d v∧t.wf∧t.dep<m∧2 * t.dep≤900∧t.frees [] = []∧∀ H',Old H H'→Q .non H'
theorem scNN:aF ["tree"] ["tree"] (aw sNN):=⟨rfl,rfl,rfl,by decide +kernel,rfl,by decide +kernel,by decide +kernel⟩
theorem ok_NN {m:Nat} (F:Fun K "need_names" "need_names" sNN f fd) (T:Tx mg) (c_need_bound:Cal P w K mg base "need_bound" ["tree","bound"] (m+4) (spNB K m)):aY P w K mg base CX0 (m+5) f fd ["tree"] (spNN K m):=by
 refine F.ok scNN (fun vs H Q E h=>?_) (fun cdv A outer s H vs Q E hr h=>?_)
 ·obtain ⟨v,t,rfl,_⟩:=h
  rfl
 obtain ⟨v,t,rfl,rv,wt,hd,hz,fe,qn⟩:=h
 refine' ⟨_,?n0,?Z⟩
 case' n0=>refine' ah ?N1
 case N1=>exact bD (az c_need_bound hr (pa (pv 0) (pa (ay ad) ad)))
 refine ⟨_,rfl,by show 0≤sizeLine;decide,fun e he=>?_⟩
 have o1:Old H (upd H e (.tup [])):=Old.new he
 exact ⟨v,.ref e,t,[],rfl,rv.mono o1.tm,wt,RK.tup (.of ag) .nil,hd,by simpa using hz,fe,fun H' o'=>qn _ (o1.trans o')⟩
end
end L2.K33
end
section
namespace L2.K33
open PySem PySem.Spec PyProof.Rows L2.Bw L2.Bk L2.Ex
theorem jX {i:Int} (h0:0≤i) (h1:i<100000):i.natAbs.log2<1920:=by
 have a1:i.natAbs<2 ^ 17:=by omega
 by_cases z:i.natAbs=0
 ·rw [z];decide
 ·exact Nat.lt_of_lt_of_le ((Nat.log2_lt z).mpr a1) (by decide)
theorem jY {i:Int} (h0:0≤i) (h1:i<100000):(Str.ofString (toString i)).length≤8:=by
 rw [PySem.ofString_length]
 exact int_text_length_le10 (k:=7) (by decide) (by omega)
theorem cB (m:Nat) (h:m≤1000):m≤sizeLine:=Nat.le_trans h (by decide)
def spInit (C:Addr):Sp:=fun vs H Q _=>∃ (p:Addr) (i:Int),vs = [.ref p,.int i]∧H p=some (XQ true p C none)∧0≤i∧i<100000∧∀ d,H d=none→d≠p→Q .non (upd (upd H p (XQ true p C (some d))) d (DO d [("place",.int i)]))
section
variable {P:Program} {w:World} {K:W.Frag} {mg:Str→Option Value} {base:Heap} {f:Addr} {fd:FuncData}
abbrev gf:Stmt:=im (top 4) 0
theorem scInitD:aF ["self","place"] ["self","place"] (aw gf):=⟨rfl,rfl,rfl,by decide +kernel,rfl,by decide +kernel,by decide +kernel⟩
theorem ok_initD {n:Nat} {B C fI:Addr} (F:Fun K "__init__" "TooDeep.__init__" gf f fd) (T:Tx mg) (Z_BlameError:BInit K B) (O_TooDeep:iO K C fI veB "ValueError.__new__") (m_BlameError:mg "BlameError" = some (.ref B)) (S:kB K C) (hf:W.findIn K (.ref C) "place" = some none):aY P w K mg base CX0 (n+1) f fd ["self","place"] (spInit C):=by
 refine F.ok scInitD (fun vs H Q E h=>?_) (fun cdv A outer s H vs Q E hr h=>?_)
 ·obtain ⟨p,i,rfl,_⟩:=h
  rfl
 obtain ⟨p,i,rfl,hp,h0,h1,q⟩:=h
 refine' ⟨_,?n0,?Z⟩
 case' n0=>refine' ae ?N1 ?N2
 case' N1=>refine' bD ?N3
 case' N3=>refine' lA Z_BlameError O_TooDeep m_BlameError rfl ?N4
 case' N4=>refine' pa (pv 0) ?N5
 case' N5=>refine' pa ?N6 ad
 case' N6=>refine' pe_join ?N7
 case' N7=>refine' cJ aj ?N8
 case' N8=>refine' cJ ?N9 ?Na
 case N9=>exact pe_fmt (pv 1)
 case Na=>exact cJ aj pj_nil
 case' N2=>refine' ah ?Nb
 case Nb=>exact d9 rfl (pv 0) (pv 1) rfl
 have lg:=jX h0 h1
 have tl2:=jY h0 h1
 have l0:Str.empty.length=0:=rfl
 have l1:(Str.ofString "a kind at place ").length=16:=by decide +kernel
 have l2:(Str.ofString " is too deep").length=12:=by decide +kernel
 refine ⟨_,rfl,_,rfl,?_,_,rfl,i,rfl,lg,_,rfl,?_,_,rfl,?_,?_,true,p,none,_,rfl,hp,by show 1≤sizeLine;decide,?_⟩
 ·exact cB _ (by rw [strLen_append,l0,l1];omega)
 ·exact cB _ (by rw [strLen_append,strLen_append,l0,l1];omega)
 ·exact cB _ (by rw [strLen_append,strLen_append,strLen_append,l0,l1,l2];omega)
 ·exact cB _ (by rw [strLen_append,strLen_append,strLen_append,l0,l1,l2];omega)
 exact ⟨_,rfl,_,rfl,true,p,C,rfl,S,hf,.inl ⟨hp,fun d hd ne=>q d hd ne⟩⟩
abbrev gg:Stmt:=im (top 7) 0
def ptd (pl:Int) (kv:V) (by':Int) (wv yv:V):List (Str×V):=[("place",.int pl),("kind",kv),("by",.int by'),("wanted",wv),("way",yv)]
def kj (C:Addr):Sp:=fun vs H Q _=>∃ (p:Addr) (i j:Int) (kv wv yv:V),vs = [.ref p,.int i,kv,.int j,wv,yv]∧H p=some (XQ true p C none)∧(0≤i∧i<100000)∧(0≤j∧j<100000)∧∀ d,H d=none→d≠p→Q .non (upd (upd H p (XQ true p C (some d))) d (DO d (ptd i kv j wv yv)))
theorem scInitP:aF ["self","place","kind","by","wanted","way"] ["self","place","kind","by","wanted","way"] (aw gg):=⟨rfl,rfl,rfl,by decide +kernel,rfl,by decide +kernel,by decide +kernel⟩
theorem ok_initP {n:Nat} {B C fI:Addr} (F:Fun K "__init__" "Parted.__init__" gg f fd) (T:Tx mg) (Z_BlameError:BInit K B) (O_Parted:iO K C fI veB "ValueError.__new__") (m_BlameError:mg "BlameError" = some (.ref B)) (S:kB K C) (f1:W.findIn K (.ref C) "place" = some none) (f2:W.findIn K (.ref C) "kind" = some none) (f3:W.findIn K (.ref C) "by" = some none) (f4:W.findIn K (.ref C) "wanted" = some none) (f5:W.findIn K (.ref C) "way" = some none):aY P w K mg base CX0 (n+1) f fd ["self","place","kind","by","wanted","way"] (kj C):=by
 refine F.ok scInitP (fun vs H Q E h=>?_) (fun cdv A outer s H vs Q E hr h=>?_)
 ·obtain ⟨p,i,j,kv,wv,yv,rfl,_⟩:=h
  rfl
 obtain ⟨p,i,j,kv,wv,yv,rfl,hp,⟨h0,h1⟩,⟨j0,j1⟩,q⟩:=h
 refine' ⟨_,?n0,?Z⟩
 case' n0=>refine' ae ?N1 ?N2
 case' N1=>refine' bD ?N3
 case' N3=>refine' lA Z_BlameError O_Parted m_BlameError rfl ?N4
 case' N4=>refine' pa (pv 0) ?N5
 case' N5=>refine' pa ?N6 ad
 case' N6=>refine' pe_join ?N7
 case' N7=>refine' cJ aj ?N8
 case' N8=>refine' cJ ?N9 ?Na
 case N9=>exact pe_fmt (pv 1)
 case' Na=>refine' cJ aj ?Nb
 case' Nb=>refine' cJ ?Nc ?Nd
 case Nc=>exact pe_fmt (pv 3)
 case Nd=>exact cJ aj pj_nil
 case' N2=>refine' ae ?Ne ?Nf
 case Ne=>exact d9 rfl (pv 0) (pv 1) rfl
 case' Nf=>refine' ae ?Ng ?Nh
 case Ng=>exact d9 rfl (pv 0) (pv 2) rfl
 case' Nh=>refine' ae ?Ni ?Nj
 case Ni=>exact d9 rfl (pv 0) (pv 3) rfl
 case' Nj=>refine' ae ?Nk ?Nl
 case Nk=>exact d9 rfl (pv 0) (pv 4) rfl
 case' Nl=>refine' ah ?Nm
 case Nm=>exact d9 rfl (pv 0) (pv 5) rfl
 have lg:=jX h0 h1
 have tl2:=jY h0 h1
 have lgj:=jX j0 j1
 have tlj:=jY j0 j1
 have l0:Str.empty.length=0:=rfl
 have l1:(Str.ofString "the kind at place ").length=18:=by decide +kernel
 have l2:(Str.ofString " parts from the one that place ").length=31:=by decide +kernel
 have l3:(Str.ofString " wants").length=6:=by decide +kernel
 refine ⟨_,rfl,_,rfl,?_,_,rfl,i,rfl,lg,_,rfl,?_,_,rfl,?_,_,rfl,j,rfl,lgj,_,rfl,?_,_,rfl,?_,?_,true,p,none,_,rfl,hp,by show 1≤sizeLine;decide,?_⟩
 ·exact cB _ (by rw [strLen_append,l0,l1];omega)
 ·exact cB _ (by rw [strLen_append,strLen_append,l0,l1];omega)
 ·exact cB _ (by rw [strLen_append,strLen_append,strLen_append,l0,l1,l2];omega)
 ·exact cB _ (by rw [strLen_append,strLen_append,strLen_append,strLen_append,l0,l1,l2];omega)
 ·exact cB _ (by rw [strLen_append,strLen_append,strLen_append,strLen_append,strLen_append,l0,l1,l2,l3];omega)
 ·exact cB _ (by rw [strLen_append,strLen_append,strLen_append,strLen_append,strLen_append,l0,l1,l2,l3];omega)
 refine ⟨_,rfl,_,rfl,true,p,C,rfl,S,f1,.inl ⟨hp,fun d hd ne=>?_⟩⟩
 have e0:∀ {o:HO},upd (upd H p (XQ true p C (some d))) d o p=some (XQ true p C (some d)):=fun {o}=>by rw [au (Ne.symm ne),ag]
 refine ⟨_,rfl,_,rfl,true,p,C,rfl,S,f2,.inr ⟨d,_,e0,ag,by show 1<900;decide,?_⟩⟩
 rw [hU]
 refine ⟨_,rfl,_,rfl,true,p,C,rfl,S,f3,.inr ⟨d,_,e0,ag,by show 2<900;decide,?_⟩⟩
 rw [hU]
 refine ⟨_,rfl,_,rfl,true,p,C,rfl,S,f4,.inr ⟨d,_,e0,ag,by show 3<900;decide,?_⟩⟩
 rw [hU]
 refine ⟨_,rfl,_,rfl,true,p,C,rfl,S,f5,.inr ⟨d,_,e0,ag,by show 4<900;decide,?_⟩⟩
 rw [hU]
 exact q d hd ne
end
end L2.K33
end
section
namespace L2.K33
open PySem PySem.Spec PyProof.Rows L2.Bw L2.Bk L2.Ex
section
variable {P:Program} {w:World} {K:W.Frag} {mg:Str→Option Value} {base:Heap} {f:Addr} {fd:FuncData}
abbrev iF:Stmt:=top 17
def gj (K:W.Frag):Sp:=fun vs H Q _=>∃ (v:V) (t u:Kn) (z:Str),vs = [v,.str z]∧RK K H t.d v∧t.wf∧t.dep≤7∧z∈five∧kn t z=some u∧∀ (v':V) (H':Hp),Old H H'→RK K H' u.d v'→Q v' H'
theorem jF:aF ["kind","step","fitting","head"] ["kind","step"] (aw iF):=⟨rfl,rfl,rfl,by decide +kernel,rfl,by decide +kernel,by decide +kernel⟩
theorem jf:∀ (ss:List Str) (z:Str) (m:Nat),m<ss.idxOf z→ss[m]?≠some z
 | [],z,m,h=>by simp
 | a :: ss,z,m,h=>by
   rw [List.idxOf_cons] at h
   cases b:(a == z) with
   | true=>rw [b] at h;exact absurd h (Nat.not_lt_zero _)
   | false=>
     rw [b] at h
     have ne:a≠z:=fun e=>by rw [e,beq_self_eq_true] at b;cases b
     cases m with
     | zero=>intro e;exact ne (Option.some.inj e)
     | succ m=>
       rw [List.getElem?_cons_succ]
       exact jf ss z m (Nat.lt_of_succ_lt_succ h)
theorem ok_stepped {n:Nat} {ua fa:Addr} (F:Fun K "stepped" "stepped" iF f fd) (T:Tx mg) (m_UNTOLD:mg "UNTOLD" = some (.ref ua)) (k_UNTOLD:Kt K ua [.str "?"]) (m_ALL_STEPS:mg "ALL_STEPS" = some (.ref fa)) (k_ALL_STEPS:Kt K fa (five.map V.str)) (c_steps:Cal P w K mg base "steps" ["kind"] 1 (gY K)) (c_kinds_in:Cal P w K mg base "kinds_in" ["kind"] 1 (spKi K)):aY P w K mg base CX0 (n+2) f fd ["kind","step"] (gj K):=by
 refine F.ok jF (fun vs H Q E h=>?_) (fun cdv A outer s H vs Q E hr h=>?_)
 ·obtain ⟨v,t,u,z,rfl,_⟩:=h
  rfl
 obtain ⟨v,t,u0,z,rfl,rv,wt,dt,hz,eu0,q0⟩:=h
 have qs:∀ (u:Kn) (v':V) (H':Hp),kn t z=some u→Old H H'→RK K H' u.d v'→Q v' H':=fun u v' H' e o r=>q0 v' H' o (by rw [eu0] at e;rw [Option.some.inj e];exact r)
 have nd:=jF.nd
 refine' ⟨_,?n0,?Z⟩
 case' n0=>refine' ae ?N1 ?N2
 case' N1=>refine' aC ?N3 ?N4 aq
 case' N3=>refine' PW.pt ?N5
 case' N5=>refine' bG (ak (ax hr) (pv 0) (bF rfl m_UNTOLD) (am _)) ?N6
 case N6=>exact bu (ak d7 (pv 1) (bF rfl m_ALL_STEPS) rfl)
 case' N4=>refine' ah ?N7
 case N7=>exact ao (bF rfl m_UNTOLD)
 case' N2=>refine' ae ?N8 ?N9
 case N8=>exact aA (i:=2) nd rfl (Or.inl rfl) rfl (by first | exact .inl rfl | exact .inr rfl) (az c_steps hr (pa (pv 0) ad))
 case' N9=>refine' ae ?Na ?Nb
 case Na=>exact aC (ak fg (pv 1) (pv 2) rfl) jx aq
 case' Nb=>refine' ah ?Nc
 case' Nc=>refine' ao ?Nd
 case' Nd=>refine' al ai (az c_kinds_in hr (pa (pv 0) ad)) ?Ne (fun _ _=>rfl)
 case Ne=>exact pe_bm PySem.F.plainAttrs_tuple PySem.F.slot_tuple_index PySem.F.type_tuple_index mt_indexT (pv 2) (pa (pv 1) ad)
 obtain ⟨h,ks⟩:=t
 have wt':=wt
 obtain ⟨ear,wks⟩:=wt
 obtain ⟨xa,us,rfl,ha,ru⟩:=RK.kind (show RK K H (.tup (.str h :: Kn.ds ks)) v from rv)
 have lus:=ru.length
 rw [aH] at lus
 have hd6:=eV ear
 have tU:Tp K H ua [.str "?"]:=.inr k_UNTOLD
 have tA:SqT K H fa (five.map V.str):=(show Tp K H fa (five.map V.str) from .inr k_ALL_STEPS).sq
 refine ⟨_,rfl,.inr (eqQK (.heads ha.sq tU.sq) ⟨_,rfl,?_⟩)⟩
 by_cases cq:h = "?"
 ·have e0:us = []:=by
   have z0:=wf_q_eq wt' cq
   have:ks = []:=by injection z0
   rw [this] at lus
   exact List.length_eq_zero_iff.mp lus.symm
  rw [e0,decide_eq_true cq]
  refine a9 ?_
  refine ⟨_,rfl,fa,_,rfl,.inr tA,rfl,eA _,_,rfl,?_⟩
  rw [if_neg Bool.false_ne_true,dY,decide_eq_true hz]
  refine a9 ?_
  refine qs qK (.ref ua) H ?_ (Old.refl _) (RK.tup tU (.cons (.s _) .nil))
  unfold kn
  exact if_pos cq
 rw [decide_eq_false cq]
 refine aU (aU ?_)
 dsimp only [iJ]
 refine ⟨_,rfl,_,h,_,_,rfl,rv,ear,fun c hco ho=>?_⟩
 refine ⟨_,rfl,_,rfl,c,_,rfl,.inr (hco _),rfl,eA _,_,rfl,?_⟩
 rw [if_pos rfl,dY]
 by_cases cz:z∈aG h
 ·rw [decide_eq_true cz]
  refine aU ?_
  have jl:(aG h).idxOf z<(aG h).length:=List.idxOf_lt_length_iff.mpr cz
  have sl:=dl ear
  have jk:(aG h).idxOf z<ks.length:=by omega
  have few:=eS ear
  refine ⟨_,rfl,_,h,_,rfl,rv,fun r us' H' o' hr' hl' ru'=>?_⟩
  obtain ⟨u,hu,rku⟩:=ru'.get (b7 jk)
  refine ⟨_,rfl,.inr (.inl ⟨rfl,ho⟩),_,rfl,c,aG h,z,_,rfl,rfl,hco _,?_,?_,by omega,.inl ⟨r,us',_,u,rfl,rfl,SqL.of hl',aK hu,?_⟩⟩
  ·rw [List.getElem?_eq_getElem jl,List.getElem_idxOf]
  ·intro m hm e
   exact jf _ _ _ hm e
  ·refine qs ks[(aG h).idxOf z] u H' ?_ o' rku
   unfold kn
   exact (if_neg cq).trans ((if_pos cz).trans (List.getElem?_eq_getElem jk))
 ·rw [decide_eq_false cz]
  have e:kn (.mk h ks) z=none:=by
   unfold kn
   exact (if_neg cq).trans (if_neg cz)
  rw [e] at eu0
  cases eu0
abbrev sPart:Stmt:=top 16
def km (K:W.Frag):Sp:=fun vs H Q _=>∃ (v:V) (t u:Kn) (p:Addr) (z:Str),vs = [v,.ref p]∧RK K H t.d v∧t.wf∧t.dep≤7∧Tp K H p [.str z]∧z∈five∧kn t z=some u∧∀ (v':V) (H':Hp),Old H H'→RK K H' u.d v'→Q v' H'
theorem scPart:aF ["kind","way","found","step"] ["kind","way"] (aw sPart):=⟨rfl,rfl,rfl,by decide +kernel,rfl,by decide +kernel,by decide +kernel⟩
theorem ok_part {n:Nat} (F:Fun K "part" "part" sPart f fd) (T:Tx mg) (c_stepped:Cal P w K mg base "stepped" ["kind","step"] 2 (gj K)):aY P w K mg base CX0 (n+3) f fd ["kind","way"] (km K):=by
 refine F.ok scPart (fun vs H Q E h=>?_) (fun cdv A outer s H vs Q E hr h=>?_)
 ·obtain ⟨v,t,u,p,z,rfl,_⟩:=h
  rfl
 obtain ⟨v,t,u,p,z,rfl,rv,wt,dt,hp,hz,eu,q⟩:=h
 have nd:=scPart.nd
 refine' ⟨_,?n0,?Z⟩
 case' n0=>refine' ae ?N1 ?N2
 case N1=>exact aA (i:=2) nd rfl (Or.inl rfl) rfl (by first | exact .inl rfl | exact .inr rfl) (pv 0)
 case' N2=>refine' ae ?N3 ?N4
 case' N3=>refine' cU PassesOwn.never rfl ?N5 ?N6 ?N7
 case N5=>exact dC (pv 1)
 case N6=>exact aZ (i:=3) nd rfl (Or.inl rfl)
 case' N7=>refine' ah ?N8
 case N8=>exact aA (i:=2) nd rfl (Or.inl rfl) rfl (by first | exact .inl rfl | exact .inr rfl) (az c_stepped hr (pa (pv 2) (pa (pv 3) ad)))
 case' N4=>refine' ah ?N9
 case N9=>exact ao (pv 2)
 refine ⟨_,rfl,?_⟩
 refine ⟨_,rfl,p,rfl,.inr ⟨⟨_,hp.sq⟩,?_⟩⟩
 refine dM (n:=1) (fun i σ H1=>∃ (k:Option V) (uv:V),σ = [some v,some (.ref p),some uv,k]∧Old H H1∧((i=0∧uv=v)∨(i=1∧RK K H1 u.d uv))) ⟨none,v,rfl,Old.refl _,.inl ⟨rfl,rfl⟩⟩ ?_ ?_ ?_ ?_
 ·intro i σ H1 hi hv
  obtain ⟨k,uv,rfl,o1,_⟩:=hv
  exact ⟨_,.str z,(hp.mono o1.tm).sq,by rw [show i=0 by omega];rfl⟩
 ·intro σ H1 hv
  obtain ⟨k,uv,rfl,o1,_⟩:=hv
  exact ⟨_,(hp.mono o1.tm).sq,Nat.le_refl _⟩
 ·intro i σ H1 hi hv y H2 hy
  obtain ⟨k,uv,rfl,o1,h1⟩:=hv
  obtain ⟨e1,hyx⟩:=hy
  subst e1
  obtain rfl:i=0:=by omega
  have ey:=hyx _ ((hp.mono o1.tm).sq)
  cases ey
  obtain ⟨_,rfl⟩ | ⟨h1,_⟩:=h1
  ·exact ⟨_,rfl,_,rfl,uv,t,u,z,rfl,rv.mono o1.tm,wt,dt,hz,eu,fun v' H' o' r'=>⟨_,v',rfl,o1.trans o',.inr ⟨rfl,r'⟩⟩⟩
  ·omega
 ·intro σ H1 hv
  obtain ⟨k,uv,rfl,o1,h1⟩:=hv
  obtain ⟨h1,_⟩ | ⟨_,r1⟩:=h1
  ·omega
  ·exact ⟨_,rfl,q uv H1 o1 r1⟩
end
end L2.K33
end
section
namespace L2.K33
open PySem PySem.Spec PyProof.Rows L2.Bw L2.Bk L2.Ex
def dSK:List (Str×Dk):=[("whole",.tup [.str "whole"]),("given",.tup [.str "whole"]),("size",.tup [.str "whole"]),("truth",.tup [.str "truth"])]
def dTO:List (Str×Dk):=[("call",.tup [.str "res"]),("at",.tup [.str "item"]),("one",.tup [.str "one"]),("two",.tup [.str "two"])]
def dND:List (Str×Dk):=[("call",.tup [.str "to",.tup [.str "?"],.tup [.str "?"]]),("at",.tup [.str "row",.tup [.str "?"]]),("size",.tup [.str "row",.tup [.str "?"]]),("one",.tup [.str "pair",.tup [.str "?"],.tup [.str "?"]]),("two",.tup [.str "pair",.tup [.str "?"],.tup [.str "?"]])]
section
variable {P:Program} {w:World} {K:W.Frag} {mg:Str→Option Value} {base:Heap} {f:Addr} {fd:FuncData}
theorem ke {H H2:Hp} {pe d:Addr} {C:Addr} {fs:List (Str×V)} (hpe:H pe=none) (hd:upd H pe (XQ true pe C none) d=none) (ne:d≠pe) (e:H2=upd (upd (upd H pe (XQ true pe C none)) pe (XQ true pe C (some d))) d (DO d fs)) :
 H2 pe=some (XQ true pe C (some d))∧Old H (del H2 pe)∧del H2 pe d=some (DO d fs):=by
 subst e
 have hd':H d=none:=by rw [au ne] at hd;exact hd
 refine ⟨?_,fun c o e=>?_,?_⟩
 ·rw [au (Ne.symm ne),ag]
 ·rw [dJ (ap e hpe),au (ap e hd'),au (ap e hpe),au (ap e hpe)]
  exact e
 ·rw [dJ ne,ag]
abbrev sSm:Stmt:=top 41
def spSm (K:W.Frag) (C:Addr):Sp:=fun vs H Q E=>∃ (nv kv av wv:V) (n a:Tn) (k wk:Kn),vs = [nv,kv,av,wv]∧RK K H n.d nv∧n.wf∧RK K H a.d av∧a.wf∧RK K H k.d kv∧RK K H wk.d wv∧k.wf∧wk.wf∧k.dep≤7 ∧
 (k.part wk=none→∀ H',Old H H'→Q .non H')∧(∀ way,k.part wk=some way→∀ d yv H',Old H H'→RK K H' (.tup (way.map Dk.str)) yv→H' d=some (DO d (ptd n.p kv a.p wv yv))→E (.ref C) (some d) H')
theorem scSm:aF ["node","kind","against","wanted","way"] ["node","kind","against","wanted"] (aw sSm):=⟨rfl,rfl,rfl,by decide +kernel,rfl,by decide +kernel,by decide +kernel⟩
theorem ok_Sm {n:Nat} {C fI:Addr} {fdI:FuncData} (F:Fun K "need_same" "need_same" sSm f fd) (T:Tx mg) (O_Parted:iO K C fI veB "ValueError.__new__") (i_Parted:aY P w K mg base CX0 1 fI fdI ["self","place","kind","by","wanted","way"] (kj C)) (b_Parted:aJ K fdI ["self","place","kind","by","wanted","way"] []) (m_Parted:mg "Parted" = some (.ref C)) (k_Parted:W.keepIn K (.ref C)=true) (be_Parted:W.mroIn K C (.type "BaseException")=some true) (ty_Parted:W.typeIn K (.ref C)=some (.type "type"))
 (c_parting:Cal P w K mg base "parting" ["kind","other"] 9 (bA K 8)):aY P w K mg base (CXF P w) (n+10) f fd ["node","kind","against","wanted"] (spSm K C):=by
 refine dw F scSm (fun vs H Q E h=>?_) (fun cdv A outer s H vs Q E hr h=>?_)
 ·obtain ⟨nv,kv,av,wv,n,a,k,wk,rfl,_⟩:=h
  rfl
 obtain ⟨nv,kv,av,wv,n,a,k,wk,rfl,rn,wn,ra,wa,rk,rw',wk1,wk2,dk,qn,qe⟩:=h
 have nd:=scSm.nd
 obtain ⟨x,p,fr,mid,ps⟩:=n
 obtain ⟨⟨_,_,_,_,_,_,h0,h1⟩,_⟩:=wn
 obtain ⟨an,uf,um,up,rfl,han,_⟩:=RK.node rn
 obtain ⟨x',p',fr',mid',ps'⟩:=a
 obtain ⟨⟨_,_,_,_,_,_,j0,j1⟩,_⟩:=wa
 obtain ⟨aa,uf',um',up',rfl,haa,_⟩:=RK.node ra
 refine' ⟨_,?n0,?Z⟩
 case' n0=>refine' ae ?N1 ?N2
 case N1=>exact aA (i:=4) nd rfl (Or.inl rfl) rfl (by first | exact .inl rfl | exact .inr rfl) (az c_parting hr (pa (pv 1) (pa (pv 3) ad)))
 case' N2=>refine' ah ?N3
 case' N3=>refine' aC (ak fh (pv 4) bQ (am _)) ?N4 aq
 case' N4=>refine' ah ?N5
 case' N5=>refine' jw O_Parted i_Parted hr b_Parted m_Parted k_Parted be_Parted ty_Parted ?N6
 case' N6=>refine' pa ?N7 ?N8
 case N7=>exact al ai (pv 0) ac (fun _ _=>rfl)
 case' N8=>refine' pa (pv 1) ?N9
 case' N9=>refine' pa ?Na (pa (pv 3) (pa (pv 4) ad))
 case Na=>exact al ai (pv 2) ac (fun _ _=>rfl)
 refine ⟨_,rfl,_,rfl,kv,wv,k,wk,rfl,rk,rw',wk1,wk2,by omega,by omega,fun yv H1 o1 ry=>?_⟩
 refine ⟨_,rfl,rfl,_,rfl,?_⟩
 cases ep:k.part wk with
 | none=>
   rw [ep] at ry
   cases (show yv = .non by rw [od,RK] at ry;exact ry)
   exact aU (qn ep _ o1)
 | some way=>
   rw [ep] at ry
   have ry':RK K H1 (.tup (way.map Dk.str)) yv:=ry
   obtain ⟨ya,yvs,rfl,_,_⟩:=RK.get ry'
   refine a9 ?_
   refine ⟨_,rfl,.inr (.inl ⟨an,_,1,.int p,rfl,rfl,(han.mono o1.tm).sq,at1,_,rfl,_,rfl,.inr (.inl ⟨aa,_,1,.int p',rfl,rfl,(haa.mono o1.tm).sq,at1,_,rfl,_,rfl,by show 5≤sizeLine;decide,fun pe hpe=>⟨pe,p,p',kv,wv,.ref ya,rfl,ag,⟨h0,h1⟩,⟨j0,j1⟩,fun d hd ne=>⟨rfl,some d,?_,?_⟩⟩⟩)⟩)⟩
   ·exact (ke hpe hd ne rfl).1
   ·obtain ⟨_,o2,hd2⟩:=ke (fs:=ptd p kv p' wv (.ref ya)) hpe hd ne rfl
    exact qe way ep d (.ref ya) _ (o1.trans o2) (ry'.mono o2.tm) hd2
abbrev sN0:Stmt:=top 40
def spN0 (K:W.Frag) (C:Addr):Sp:=fun vs H Q E=>∃ (v kv:V) (t:Tn) (k:Kn),vs = [v,kv]∧RK K H t.d v∧t.wf∧RK K H k.d kv∧k.ok∧k.dep≤8∧(¬ 4<k.dep→∀ H',Old H H'→Q .non H')∧(4<k.dep→∀ d H',Old H H'→H' d=some (DO d [("place",.int t.p)])→E (.ref C) (some d) H')
theorem scN0:aF ["tree","kind"] ["tree","kind"] (aw sN0):=⟨rfl,rfl,rfl,by decide +kernel,rfl,by decide +kernel,by decide +kernel⟩
theorem ok_N0 {n:Nat} {tk:Tok} {C fI:Addr} {fdI:FuncData} (F:Fun K "need_shallow" "need_shallow" sN0 f fd) (T:Tx mg) (O_TooDeep:iO K C fI veB "ValueError.__new__") (i_TooDeep:aY P w K mg base CX0 1 fI fdI ["self","place"] (spInit C)) (b_TooDeep:aJ K fdI ["self","place"] []) (m_TooDeep:mg "TooDeep" = some (.ref C)) (k_TooDeep:W.keepIn K (.ref C)=true) (be_TooDeep:W.mroIn K C (.type "BaseException")=some true) (ty_TooDeep:W.typeIn K (.ref C)=some (.type "type"))
 (m_MOST_DEPTH:mg "MOST_DEPTH" = some (.int 4 tk)) (c_depth:Cal P w K mg base "depth" ["kind"] 10 (bY K 9)):aY P w K mg base (CXF P w) (n+11) f fd ["tree","kind"] (spN0 K C):=by
 refine dw F scN0 (fun vs H Q E h=>?_) (fun cdv A outer s H vs Q E hr h=>?_)
 ·obtain ⟨v,kv,t,k,rfl,_⟩:=h
  rfl
 obtain ⟨v,kv,t,k,rfl,rv,wt,rk,ok,dk,qn,qe⟩:=h
 have nd:=scN0.nd
 obtain ⟨x,p,fr,mid,ps⟩:=t
 obtain ⟨⟨_,_,_,_,_,_,h0,h1⟩,_⟩:=wt
 obtain ⟨a,uf,um,up,rfl,ha,_⟩:=RK.node rv
 refine' ⟨_,?n0,?Z⟩
 case' n0=>refine' ah ?N1
 case' N1=>refine' aC ?N2 ?N3 aq
 case' N2=>refine' ak js (az c_depth hr (pa (pv 1) ad)) ?N4 (am _)
 case N4=>exact pe_gint rfl m_MOST_DEPTH
 case' N3=>refine' ah ?N5
 case' N5=>refine' jw O_TooDeep i_TooDeep hr b_TooDeep m_TooDeep k_TooDeep be_TooDeep ty_TooDeep ?N6
 case' N6=>refine' pa ?N7 ad
 case N7=>exact al ai (pv 0) ac (fun _ _=>rfl)
 refine ⟨_,rfl,kv,k,rfl,rk,ok,by omega,fun H1 o1=>⟨_,_,rfl,rfl,_,rfl,?_⟩⟩
 refine fQ (fun c=>?_) (fun c=>?_)
 ·have c':(4:Int)<(k.dep:Nat):=of_decide_eq_true c
  refine ⟨_,rfl,.inr (.inl ⟨a,_,1,.int p,rfl,rfl,(ha.mono o1.tm).sq,at1,by show 1≤sizeLine;decide,fun pe hpe=>⟨pe,p,rfl,ag,h0,h1,fun d hd ne=>⟨rfl,some d,?_,?_⟩⟩⟩)⟩
  ·exact (ke hpe hd ne rfl).1
  ·obtain ⟨_,o2,hd2⟩:=ke (fs:=[("place",.int p)]) hpe hd ne rfl
   exact qe (by omega) d _ (o1.trans o2) hd2
 ·have c':¬ (4:Int)<(k.dep:Nat):=of_decide_eq_false (Bool.eq_false_iff.mpr c)
  exact qn (by omega) _ o1
def dG (K:W.Frag) (H:Hp) (kvs:List (Key×V)) (e:Nv):Prop:=∀ x k,e x=some k→∃ v,cG kvs (.inr x)=some v∧RK K H k.d v
theorem dG.mono {H H':Hp} {kvs:List (Key×V)} {e:Nv} (h:dG K H kvs e) (m:Tm H H'):dG K H' kvs e:=fun x k hk=>by
 obtain ⟨v,h1,h2⟩:=h x k hk
 exact ⟨v,h1,h2.mono m⟩
theorem dG.put {H:Hp} {kvs:List (Key×V)} {e:Nv} (h:dG K H kvs e) {x:Str} {k:Kn} {v:V} (r:RK K H k.d v):dG K H (putK kvs (.inr x) v) (ck e x k):=fun y k' hk=>by
 unfold ck at hk
 rw [lI]
 by_cases c:y=x
 ·rw [if_pos c] at hk
  cases hk
  exact ⟨v,if_pos (by rw [c]),r⟩
 ·rw [if_neg c] at hk
  obtain ⟨u,h1,h2⟩:=h y k' hk
  exact ⟨u,by rw [if_neg (fun z=>c (Sum.inr.inj z))];exact h1,h2⟩
structure Fd (K:W.Frag) (H:Hp) (fa:Addr) (g:List Kn):Prop where
 ex:∃ fvs,H fa=some (.lst fvs)∧RKs K H (Kn.ds g) fvs
theorem Fd.get {H:Hp} {fa:Addr} {g:List Kn} (h:Fd K H fa g) {i:Nat} (hi:i<g.length):∃ fvs u,SqL K H fa fvs∧fvs.length=g.length∧atI fvs (i:Int)=some u∧RK K H ((g[i]?).getD qK).d u:=by
 obtain ⟨fvs,h1,h2⟩:=h.ex
 obtain ⟨u,e,r⟩:=h2.get (b7 hi)
 have l:=h2.length
 rw [aH] at l
 exact ⟨fvs,u,SqL.of h1,l.symm,aK e,by rw [List.getElem?_eq_getElem hi];exact r⟩
theorem Fd.old {H H':Hp} {fa:Addr} {g:List Kn} (h:Fd K H fa g) (o:Old H H'):Fd K H' fa g:=by
 obtain ⟨fvs,h1,h2⟩:=h.ex
 exact ⟨⟨fvs,o _ _ h1,h2.mono o.tm⟩⟩
theorem bx (g:List Kn):g.headD qK=(g[0]?).getD qK:=by cases g <;> rfl
abbrev sBW:Stmt:=top 42
def spBW (K:W.Frag):Sp:=fun vs H Q _=>∃ (v:V) (t:Tk) (i:Nat) (fa b:Addr) (g:List Kn) (kvs:List (Key×V)) (e:Nv),vs = [v,.int (i:Int),.ref fa,.ref b]∧RK K H t.tn.d v∧t.tn.wf∧Fd K H fa g∧(t.w = "let"→i=1→g≠[])∧H b=some (.dK kvs)∧kvs.length≤1000∧dG K H kvs e ∧
 ∀ (r:Addr) (kvs':List (Key×V)) (H':Hp),Old H H'→H r=none→H' r=some (.dK kvs')→kvs'.length≤kvs.length+2→dG K H' kvs' (bwK t.w t.fr t.ks g i e)→Q (.ref r) H'
theorem scBW:aF ["tree","number","found","bound","inner"] ["tree","number","found","bound"] (aw sBW):=⟨rfl,rfl,rfl,by decide +kernel,rfl,by decide +kernel,by decide +kernel⟩
theorem bC:K11.nf "fn" = 1∧K11.nk "fn" = 1∧K11.nf "self" = 2∧K11.nk "self" = 2∧K11.nf "let" = 1∧K11.nf "name" = 1∧K11.nf "do" = 1∧K11.nf "row" = 0∧K11.nk "row" = 1∧K11.nf "as" = 0∧K11.nk "as" = 1:=by decide +kernel
theorem b9 {α:Type}:∀ {l:List α},l.length=2→∃ a b,l = [a,b]
 | [a,b],_=>⟨a,b,rfl⟩
theorem ok_BW {n:Nat} (F:Fun K "bound_within" "bound_within" sBW f fd) (T:Tx mg):aY P w K mg base CX0 (n+1) f fd ["tree","number","found","bound"] (spBW K):=by
 refine F.ok scBW (fun vs H Q E h=>?_) (fun cdv A outer s H vs Q E hr h=>?_)
 ·obtain ⟨v,t,i,fa,b,g,kvs,e,rfl,_⟩:=h
  rfl
 obtain ⟨v,t,i,fa,b,g,kvs,e,rfl,rv,wt,hf,hlet,hb,lk,he,q⟩:=h
 have nd:=scBW.nd
 obtain ⟨x,p,fr,ks,ps⟩:=t
 have rv':RK K H (Tn.mk x p fr (Kn.ds ks) (Tk.tns ps)).d v:=rv
 obtain ⟨⟨hx,lf,lm,_,_,hn,_⟩,_⟩:=(show (Tn.mk x p fr (Kn.ds ks) (Tk.tns ps)).wf from wt)
 obtain ⟨a,uf,um,up,rfl,ha,rf,rm,_⟩:=RK.node rv'
 rw [aH] at lm
 obtain ⟨f1,f2,f3,f4,f5,_⟩:=bC
 have hlet':x = "let"→i=1→g≠[]:=hlet
 have q':∀ (r:Addr) (kvs':List (Key×V)) (H':Hp),Old H H'→H r=none→H' r=some (.dK kvs')→kvs'.length≤kvs.length+2→dG K H' kvs' (bwK x fr ks g i e)→Q (.ref r) H':=q
 refine' ⟨_,?n0,?Z⟩
 case' n0=>refine' ae ?N1 ?N2
 case N1=>exact aA (i:=4) nd rfl (Or.inl rfl) rfl (by first | exact .inl rfl | exact .inr rfl) (bI (iZ) rfl T.dict boot_dict (pa (pv 3) ad))
 case' N2=>refine' ae ?N3 ?N4
 case' N3=>refine' aC ?N5 ?N6 ?N7
 case' N5=>refine' ak (ax hr) ?N8 aj (am _)
 case N8=>exact al ai (pv 0) ac (fun _ _=>rfl)
 case' N6=>refine' ah ?N9
 case' N9=>refine' dD hr.u1 (pv 4) ?Na ?Nb rfl
 case Na=>exact al ai (pv 0) ac (fun _ _=>rfl)
 case Nb=>exact al ai (pv 0) ac (fun _ _=>rfl)
 case' N7=>refine' ah ?Nc
 case' Nc=>refine' aC ?Nd ?Ne ?Nf
 case' Nd=>refine' ak (ax hr) ?Ng aj (am _)
 case Ng=>exact al ai (pv 0) ac (fun _ _=>rfl)
 case' Ne=>refine' ae ?Nh ?Ni
 case' Nh=>refine' dD hr.u1 (pv 4) ?Nj ?Nk rfl
 case Nj=>exact al ai (pv 0) ac (fun _ _=>rfl)
 case' Nk=>refine' ay ?Nl
 case' Nl=>refine' pa aj ?Nm
 case' Nm=>refine' pa ?Nn ?No
 case Nn=>exact al ai (pv 0) ac (fun _ _=>rfl)
 case' No=>refine' pa ?Np ad
 case Np=>exact al ai (pv 0) ac (fun _ _=>rfl)
 case' Ni=>refine' ah ?Nq
 case' Nq=>refine' dD hr.u1 (pv 4) ?Nr ?Ns rfl
 case Nr=>exact al ai (pv 0) ac (fun _ _=>rfl)
 case Ns=>exact al ai (pv 0) ac (fun _ _=>rfl)
 case' Nf=>refine' ah ?Nt
 case' Nt=>refine' aC ?Nu ?Nv aq
 case' Nu=>refine' PW.pt ?Nw
 case' Nw=>refine' bG ?Nx ?Ny
 case' Nx=>refine' ak (ax hr) ?Nz aj (am _)
 case Nz=>exact al ai (pv 0) ac (fun _ _=>rfl)
 case Ny=>exact bu (ak (ax hr) (pv 1) ac (am _))
 case' Nv=>refine' ah ?N10
 case' N10=>refine' dD hr.u1 (pv 4) ?N11 ?N12 rfl
 case N11=>exact al ai (pv 0) ac (fun _ _=>rfl)
 case N12=>exact al ai (pv 2) ac (fun _ _=>rfl)
 case' N4=>refine' ah ?N13
 case N13=>exact ao (pv 4)
 refine ⟨_,rfl,b,kvs,rfl,hb,fun r hr0=>?_⟩
 have o1:=Old.new (o:=.dK kvs) hr0
 have hr1:upd H r (.dK kvs) r=some (.dK kvs):=ag
 generalize upd H r (.dK kvs)=H1 at o1 hr1 ⊢
 have ha1:=ha.mono o1.tm
 have he1:=he.mono o1.tm
 have tmP:∀ {kvs2:List (Key×V)} {H2:Hp},H2 r=some (.dK kvs)→Tm H2 (upd H2 r (.dK kvs2)):=fun {kvs2 H2} h=>fun c xs e=>by
  rw [au]
  ·exact e
  ·intro z;rw [z,h] at e;cases e
 have tmP2:∀ {k1 k2:List (Key×V)},Tm H1 (upd (upd H1 r (.dK k1)) r (.dK k2)):=fun {k1 k2} c xs e=>by
  have nc:c≠r:=fun z=>by rw [z,hr1] at e;cases e
  rw [au nc,au nc];exact e
 have oP:∀ {o:HO},Old H (upd H1 r o):=fun {o} c y e=>by rw [au (ap e hr0)];exact o1 _ _ e
 dsimp only [bH]
 refine cE (fun σ H2=>∃ kvs2,σ = [some (.ref a),some (.int (i:Int)),some (.ref fa),some (.ref b),some (.ref r)]∧Old H H2∧H2 r=some (.dK kvs2)∧kvs2.length≤kvs.length+2∧dG K H2 kvs2 (bwK x fr ks g i e)) (fun R hR=>?_) (fun σ H2 hP=>?_)
 ·refine ⟨_,rfl,.inr (.inl ⟨a,_,0,.str x,rfl,rfl,ha1.sq,at0,.inr (.inl ⟨rfl,_,rfl,?_⟩)⟩)⟩
  rw [aI]
  by_cases c1:x = "fn"
  ·rw [decide_eq_true c1]
   obtain ⟨ns,rfl⟩:=hn (by rw [c1];decide +kernel)
   obtain rfl:=RKs.txs rf
   rw [List.length_map,c1,f1] at lf
   rw [c1,f2] at lm
   obtain ⟨nm,rfl⟩:=List.length_eq_one_iff.mp lf
   obtain ⟨k0,rfl⟩:=List.length_eq_one_iff.mp lm
   obtain ⟨kv,um',rfl,rkv,_⟩:=rm
   refine a9 ⟨_,rfl,.inr (.inl ⟨a,_,3,kv,rfl,rfl,ha1.sq,at3,_,rfl,_,rfl,.inr (.inl ⟨a,_,2,.str nm,rfl,rfl,ha1.sq,at2,r,_,rfl,hV.k (k:=.inr nm) hr1 (bE (by omega)),?_⟩)⟩)⟩
   have ee:bwK x ([nm].map Dk.str) [k0] g i e=ck e nm k0:=by unfold bwK;rw [if_pos c1];rfl
   refine hR _ _ ⟨_,rfl,oP,ag,Nat.le_trans (bj _ _ _) (by omega),?_⟩
   rw [ee]
   exact (he1.put (rkv.mono o1.tm)).mono (tmP hr1)
  rw [decide_eq_false c1]
  refine aU ?_
  refine ⟨_,rfl,.inr (.inl ⟨a,_,0,.str x,rfl,rfl,ha1.sq,at0,.inr (.inl ⟨rfl,_,rfl,?_⟩)⟩)⟩
  rw [aI]
  by_cases c2:x = "self"
  ·rw [decide_eq_true c2]
   obtain ⟨ns,rfl⟩:=hn (by rw [c2];decide +kernel)
   obtain rfl:=RKs.txs rf
   rw [List.length_map,c2,f3] at lf
   rw [c2,f4] at lm
   obtain ⟨nm,nm2,rfl⟩:=b9 lf
   obtain ⟨k0,k1,rfl⟩:=b9 lm
   obtain ⟨kv,um',rfl,rkv,rm'⟩:=rm
   obtain ⟨kv1,um'',rfl,rkv1,_⟩:=rm'
   refine a9 ?_
   have a4:atI (V.str x :: V.int p :: ([nm,nm2].map V.str ++ (kv :: kv1 :: um'') ++ up)) 4=some kv:=aK (j:=4) rfl
   have a5:atI (V.str x :: V.int p :: ([nm,nm2].map V.str ++ (kv :: kv1 :: um'') ++ up)) 5=some kv1:=aK (j:=5) rfl
   refine ⟨_,rfl,.inr (.inl ⟨a,_,4,kv,rfl,rfl,ha1.sq,a4,_,rfl,.inr (.inl ⟨a,_,5,kv1,rfl,rfl,ha1.sq,a5,by show 3≤sizeLine;decide,fun ta hta=>?_⟩)⟩)⟩
   have o2:=Old.new (o:=.tup [.str "to",kv,kv1]) hta
   have rto:RK K (upd H1 ta (.tup [.str "to",kv,kv1])) (Kn.mk "to" [k0,k1]).d (.ref ta):=RK.tup (.of ag) (.cons (.s _) (.cons ((rkv.mono o1.tm).mono o2.tm) (.cons ((rkv1.mono o1.tm).mono o2.tm) .nil)))
   have hr2:=o2 _ _ hr1
   generalize upd H1 ta (.tup [.str "to",kv,kv1])=H2 at o2 rto hr2 ⊢
   have o12:=o1.trans o2
   have ha2:=ha1.mono o2.tm
   refine ⟨_,rfl,_,rfl,.inr (.inl ⟨a,_,2,.str nm,rfl,rfl,ha2.sq,at2,r,_,rfl,hV.k (k:=.inr nm) hr2 (bE (by omega)),?_⟩)⟩
   have tm3:=tmP (kvs2:=putK kvs (.inr nm) (.ref ta)) hr2
   have e3:=(he1.mono o2.tm).put (x:=nm) rto |>.mono tm3
   have o3:Old H (upd H2 r (.dK (putK kvs (.inr nm) (.ref ta)))):=fun c y ee=>by rw [au (ap ee hr0)];exact o12 _ _ ee
   have hr3:upd H2 r (.dK (putK kvs (.inr nm) (.ref ta))) r=some (.dK (putK kvs (.inr nm) (.ref ta))):=ag
   have ha3:=ha2.mono tm3
   have rk3:=((rkv.mono o1.tm).mono o2.tm).mono tm3
   have l3:=bj kvs (.inr nm:Key) (V.ref ta)
   generalize upd H2 r (.dK (putK kvs (.inr nm) (.ref ta)))=H3 at e3 o3 hr3 ha3 rk3 ⊢
   generalize putK kvs (.inr nm) (.ref ta)=kvs3 at e3 hr3 l3
   have tm4:Tm H3 (upd H3 r (.dK (putK kvs3 (.inr nm2) kv))):=fun c xs e=>by
    rw [au]
    ·exact e
    ·intro z;rw [z,hr3] at e;cases e
   refine ⟨_,rfl,.inr (.inl ⟨a,_,4,kv,rfl,rfl,ha3.sq,a4,_,rfl,_,rfl,.inr (.inl ⟨a,_,3,.str nm2,rfl,rfl,ha3.sq,at3,r,_,rfl,hV.k (k:=.inr nm2) hr3 (bE (by omega)),?_⟩)⟩)⟩
   have ee:bwK x ([nm,nm2].map Dk.str) [k0,k1] g i e=ck (ck e nm (.mk "to" [k0,k1])) nm2 k0:=by unfold bwK;rw [if_neg c1,if_pos c2];rfl
   refine hR _ _ ⟨_,rfl,fun c y ee=>by rw [au (ap ee hr0)];exact o3 _ _ ee,ag,Nat.le_trans (bj _ _ _) (by omega),?_⟩
   rw [ee]
   exact (e3.put (x:=nm2) rk3).mono tm4
  rw [decide_eq_false c2]
  refine aU ?_
  have keep:¬ (x = "let"∧i=1)→R [some (.ref a),some (.int (i:Int)),some (.ref fa),some (.ref b),some (.ref r)] H1:=fun z=>hR _ _ ⟨kvs,rfl,o1,hr1,by omega,by
   have ee:bwK x fr ks g i e=e:=by unfold bwK;rw [if_neg c1,if_neg c2,if_neg z]
   rw [ee];exact he1⟩
  refine ⟨_,rfl,.inr (.inl ⟨a,_,0,.str x,rfl,rfl,ha1.sq,at0,.inr (.inl ⟨rfl,_,rfl,?_⟩)⟩)⟩
  rw [aI]
  by_cases c3:x = "let"
  ·rw [decide_eq_true c3]
   refine a9 ⟨_,rfl,.inr (.inl ⟨rfl,_,rfl,?_⟩)⟩
   rw [eT,show ((i:Int) == 1)=decide ((i:Int)=1) from rfl]
   by_cases c4:i=1
   ·rw [decide_eq_true (show (i:Int)=1 by omega)]
    obtain ⟨ns,rfl⟩:=hn (by rw [c3];decide +kernel)
    obtain rfl:=RKs.txs rf
    rw [List.length_map,c3,f5] at lf
    obtain ⟨nm,rfl⟩:=List.length_eq_one_iff.mp lf
    have gl:0<g.length:=List.length_pos_iff.mpr (hlet' c3 c4)
    obtain ⟨fvs,u,hs,_,eu,ru⟩:=(hf.old o1).get gl
    refine a9 ⟨_,rfl,.inl ⟨fa,_,0,u,rfl,rfl,hs,eu,_,rfl,_,rfl,.inr (.inl ⟨a,_,2,.str nm,rfl,rfl,ha1.sq,at2,r,_,rfl,hV.k (k:=.inr nm) hr1 (bE (by omega)),?_⟩)⟩⟩
    have ee:bwK x ([nm].map Dk.str) ks g i e=ck e nm ((g[0]?).getD qK):=by unfold bwK;rw [if_neg c1,if_neg c2,if_pos ⟨c3,c4⟩,bx];rfl
    refine hR _ _ ⟨_,rfl,oP,ag,Nat.le_trans (bj _ _ _) (by omega),?_⟩
    rw [ee]
    exact (he1.put ru).mono (tmP hr1)
   ·rw [decide_eq_false (show ¬ (i:Int)=1 by omega)]
    exact aU (keep fun z=>c4 z.2)
  ·rw [decide_eq_false c3]
   exact aU (aU (keep fun z=>c3 z.1))
 obtain ⟨kvs2,rfl,o2,hr2,l2,e2⟩:=hP
 exact ⟨_,rfl,q' r kvs2 H2 o2 hr0 hr2 l2 e2⟩
end
end L2.K33
end
section
namespace L2.K33
open PySem PySem.Spec PyProof.Rows L2.Bw L2.Bk L2.Ex
section
variable {P:Program} {w:World} {K:W.Frag} {mg:Str→Option Value} {base:Heap} {f:Addr} {fd:FuncData}
theorem Fd.last {H:Hp} {fa:Addr} {g:List Kn} (h:Fd K H fa g) (hg:g≠[]):∃ fvs u,SqL K H fa fvs∧fvs.length=g.length∧atI fvs (-1)=some u∧RK K H (g.getLastD qK).d u:=by
 obtain ⟨fvs,h1,h2⟩:=h.ex
 have hl:0<g.length:=List.length_pos_iff.mpr hg
 obtain ⟨u,e,r⟩:=h2.get (b7 (i:=g.length - 1) (by omega))
 have l:=h2.length
 rw [aH] at l
 refine ⟨fvs,u,SqL.of h1,l.symm,?_,?_⟩
 ·rw [show atI fvs (-1)=fvs[fvs.length - 1]? from by
   unfold atI
   rw [show ixN fvs.length (-1)=some (fvs.length - 1) from by unfold ixN;simp;omega]
   rfl,← l];exact e
 ·rw [List.getLastD_eq_getLast?,List.getLast?_eq_getElem?,List.getElem?_eq_getElem (by omega)];exact r
theorem cF {x y:Int}:decide (V.int x=V.int y)=decide (x=y):=eT
theorem stp_pt {k:Kn} {z:Str} {i:Nat} (wf:k.wf) (h:k.hd≠"?"→z∈aG k.hd∧(aG k.hd).idxOf z=i):kn k z=some (k.pt i):=by
 obtain ⟨g,ks⟩:=k
 show (if g = "?" then some qK else if z∈aG g then ks[(aG g).idxOf z]? else none)=some (if g = "?" then qK else (ks[i]?).getD qK)
 by_cases c:g = "?"
 ·rw [if_pos c,if_pos c]
 ·obtain ⟨h1,h2⟩:=h c
  rw [if_neg c,if_neg c,if_pos (show z∈aG g from h1),show (aG g).idxOf z=i from h2]
  have jl:(aG g).idxOf z<(aG g).length:=List.idxOf_lt_length_iff.mpr h1
  have sl:=dl wf.1
  have e:(aG g).idxOf z=i:=h2
  rw [List.getElem?_eq_getElem (by omega)]
  rfl
theorem ndK (x:Str) (h:x∈dND.map (·.1)):∃ nh nks,bX x=some (.mk nh nks)∧KTD.datumAt x dND=some (Kn.mk nh nks).d:=by
 rcases List.mem_cons.mp h with rfl | h
 ·exact ⟨_,_,rfl,by kernel_rfl⟩
 rcases List.mem_cons.mp h with rfl | h
 ·exact ⟨_,_,rfl,by kernel_rfl⟩
 rcases List.mem_cons.mp h with rfl | h
 ·exact ⟨_,_,rfl,by kernel_rfl⟩
 rcases List.mem_cons.mp h with rfl | h
 ·exact ⟨_,_,rfl,by kernel_rfl⟩
 obtain rfl:=List.mem_singleton.mp h
 exact ⟨_,_,rfl,by kernel_rfl⟩
theorem ndN (x:Str) (h:x ∉ dND.map (·.1)):bX x=none:=by
 have c:∀ z∈dND.map (·.1),x≠z:=fun z hz e=>h (e ▸ hz)
 unfold bX
 rw [if_neg (c "call" (by decide +kernel)),if_neg (fun z=>z.elim (c "at" (by decide +kernel)) (c "size" (by decide +kernel))),if_neg (fun z=>z.elim (c "one" (by decide +kernel)) (c "two" (by decide +kernel)))]
abbrev sWa:Stmt:=top 43
def spWa (K:W.Frag):Sp:=fun vs H Q _=>∃ (v:V) (fa:Addr) (t:Tk) (g:List Kn),vs = [v,.ref fa]∧RK K H t.tn.d v∧t.tn.wf∧Fd K H fa g∧g≠[]∧(∀ k∈g,Kg k 4)∧(t.w = "call"→g.length=2→(g.headD qK).hd = "?"∨(g.headD qK).hd = "to")∧∀ v' H',Old H H'→RK K H' (bq t.w t.ks g).d v'→Q v' H'
theorem scWa:aF ["tree","found","word"] ["tree","found"] (aw sWa):=⟨rfl,rfl,rfl,by decide +kernel,rfl,by decide +kernel,by decide +kernel⟩
theorem ok_Wa {n:Nat} {aN aW aT:Addr} (F:Fun K "wanted_kind" "wanted_kind" sWa f fd) (T:Tx mg) (m_WHOLE:mg "WHOLE" = some (.ref aW)) (k_WHOLE:Kt K aW [.str "whole"]) (m_TRUTH:mg "TRUTH" = some (.ref aT)) (k_TRUTH:Kt K aT [.str "truth"]) (m_NEEDED:mg "NEEDED" = some (.ref aN)) (k_NEEDED:KTD.tabLook (ce K) (fun b=>K.lookup b) aN dND=true) (c_part:Cal P w K mg base "part" ["kind","way"] 3 (km K)):aY P w K mg base CX0 (n+4) f fd ["tree","found"] (spWa K):=by
 refine F.ok scWa (fun vs H Q E h=>?_) (fun cdv A outer s H vs Q E hr h=>?_)
 ·obtain ⟨v,fa,t,g,rfl,_⟩:=h
  rfl
 obtain ⟨v,fa,t,g,rfl,rv,wt,hf,gn,kg,hc,q⟩:=h
 have nd:=scWa.nd
 obtain ⟨x,p,fr,ks,ps⟩:=t
 have rv':RK K H (Tn.mk x p fr (Kn.ds ks) (Tk.tns ps)).d v:=rv
 obtain ⟨⟨hx,lf,lm,_,_,hn,_⟩,_⟩:=(show (Tn.mk x p fr (Kn.ds ks) (Tk.tns ps)).wf from wt)
 obtain ⟨a,uf,um,up,rfl,ha,rf,rm,_⟩:=RK.node rv'
 have l1:=rf.length
 have l2:=rm.length
 rw [aH] at lm
 have q':∀ v' H',Old H H'→RK K H' (bq x ks g).d v'→Q v' H':=q
 refine' ⟨_,?n0,?Z⟩
 case' n0=>refine' ae ?N1 ?N2
 case' N1=>refine' aA (i:=2) nd rfl (Or.inl rfl) rfl (by first | exact .inl rfl | exact .inr rfl) ?N3
 case N3=>exact al ai (pv 0) ac (fun _ _=>rfl)
 case' N2=>refine' ae ?N4 ?N5
 case' N4=>refine' aC ?N6 ?N7 aq
 case' N6=>refine' PW.pt ?N8
 case' N8=>refine' bV (ak (ax hr) (pv 2) aj (am _)) ?N9
 case' N9=>refine' bR ?Na
 case' Na=>refine' PW.pt ?Nb
 case' Nb=>refine' bG (ak (ax hr) (pv 2) aj (am _)) ?Nc
 case Nc=>exact bu (ak (ax hr) (aQ (bd) rfl T.len boot_len (pa (pv 1) ad)) ac (am _))
 case' N7=>refine' ah ?Nd
 case Nd=>exact ao (bF rfl m_WHOLE)
 case' N5=>refine' ae ?Ne ?Nf
 case' Ne=>refine' aC ?Ng ?Nh aq
 case' Ng=>refine' PW.pt ?Ni
 case' Ni=>refine' bG (ak (ax hr) (pv 2) aj (am _)) ?Nj
 case Nj=>exact bu (ak (ax hr) (aQ (bd) rfl T.len boot_len (pa (pv 1) ad)) ac (am _))
 case' Nh=>refine' ah ?Nk
 case Nk=>exact ao (bF rfl m_TRUTH)
 case' Nf=>refine' ae ?Nl ?Nm
 case' Nl=>refine' aC (ak d7 (pv 2) (ay (pa aj (pa aj ad))) rfl) ?Nn aq
 case' Nn=>refine' ah ?No
 case' No=>refine' ao ?Np
 case Np=>exact al ai (pv 0) ac (fun _ _=>rfl)
 case' Nm=>refine' ae ?Nq ?Nr
 case' Nq=>refine' aC (ak (ax hr) (pv 2) aj (am _)) ?Ns aq
 case' Ns=>refine' ah ?Nt
 case' Nt=>refine' ao ?Nu
 case Nu=>exact al ai (pv 0) ac (fun _ _=>rfl)
 case' Nr=>refine' ae ?Nv ?Nw
 case' Nv=>refine' aC ?Nx ?Ny aq
 case' Nx=>refine' PW.pt ?Nz
 case' Nz=>refine' bG (ak (ax hr) (pv 2) aj (am _)) ?N10
 case N10=>exact bu (ak (ax hr) (aQ (bd) rfl T.len boot_len (pa (pv 1) ad)) ac (am _))
 case' Ny=>refine' ah ?N11
 case' N11=>refine' ao ?N12
 case' N12=>refine' az c_part hr ?N13
 case' N13=>refine' pa ?N14 (pa (ay (pa aj ad)) ad)
 case N14=>exact al ai (pv 1) ac (fun _ _=>rfl)
 case' Nw=>refine' ae ?N15 ?N16
 case' N15=>refine' aC ?N17 ?N18 aq
 case' N17=>refine' PW.pt ?N19
 case' N19=>refine' bG ?N1a ?N1b
 case' N1a=>refine' pt_cmp ?N1c
 case N1c=>exact pc_inT rfl m_NEEDED k_NEEDED (pv 2)
 case' N1b=>refine' bu ?N1d
 case' N1d=>refine' ak (eI hr) ?N1e ?N1f (am _)
 case' N1e=>refine' al ai ?N1g ac (fun _ _=>rfl)
 case N1g=>exact al ai (pv 1) ac (fun _ _=>rfl)
 case' N1f=>refine' al ai ?N1h ac (fun _ _=>rfl)
 case N1h=>exact gT rfl m_NEEDED k_NEEDED (pv 2) (fun _ _=>rfl)
 case' N18=>refine' ah ?N1i
 case' N1i=>refine' ao ?N1j
 case N1j=>exact gT rfl m_NEEDED k_NEEDED (pv 2) (fun _ _=>rfl)
 case' N16=>refine' ah ?N1k
 case' N1k=>refine' ao ?N1l
 case' N1l=>refine' al ai (pv 1) ?N1m (fun _ _=>rfl)
 case N1m=>exact lC iL ac
 refine ⟨_,rfl,.inr (.inl ⟨a,_,0,.str x,rfl,rfl,ha.sq,at0,?_⟩)⟩
 obtain ⟨fvs,hfa,rfs⟩:=hf.ex
 have hs:SqL K H fa fvs:=SqL.of hfa
 have ll:=rfs.length
 rw [aH] at ll
 have gl:0<g.length:=List.length_pos_iff.mpr gn
 have len2:decide ((fvs.length:Int)=2)=decide (g.length=2):=decide_eq_decide.mpr ⟨fun e=>by omega,fun e=>by omega⟩
 have len1:decide ((fvs.length:Int)=1)=decide (g.length=1):=decide_eq_decide.mpr ⟨fun e=>by omega,fun e=>by omega⟩
 dsimp only [bH]
 refine cE (fun σ H1=>σ = [some (.ref a),some (.ref fa),some (.str x)]∧H=H1∧¬ (x = "do"∨(x = "at"∧g.length=2))) (fun R hR=>?_) (fun σ H1 hP=>?_)
 ·have fin:(x = "do"∨(x = "at"∧g.length=2))→Q (.ref aW) H:=fun c=>q' _ _ (Old.refl _) (by
   rw [show bq x ks g=cW by unfold bq;exact if_pos c]
   exact RK.tup (.inr k_WHOLE) (.cons (.s _) .nil))
  refine ⟨_,rfl,.inr (.inl ⟨rfl,_,rfl,?_⟩)⟩
  rw [aI]
  by_cases c1:x = "do"
  ·rw [decide_eq_true c1]
   exact a9 (a9 (fin (.inl c1)))
  rw [decide_eq_false c1]
  refine aU ⟨_,rfl,.inr (.inl ⟨rfl,_,rfl,?_⟩)⟩
  rw [aI]
  by_cases c2:x = "at"
  ·rw [decide_eq_true c2]
   refine a9 ⟨_,rfl,.inl ⟨fa,fvs,rfl,.inl hs,.inr (.inl ⟨rfl,_,rfl,?_⟩)⟩⟩
   rw [cF,len2]
   by_cases c3:g.length=2
   ·rw [decide_eq_true c3]
    exact a9 (fin (.inr ⟨c2,c3⟩))
   ·rw [decide_eq_false c3]
    exact aU (hR _ _ ⟨rfl,rfl,fun z=>z.elim c1 fun z=>c3 z.2⟩)
  ·rw [decide_eq_false c2]
   exact aU (aU (hR _ _ ⟨rfl,rfl,fun z=>z.elim c1 fun z=>c2 z.1⟩))
 obtain ⟨rfl,rfl,n1⟩:=hP
 have w1:bq x ks g=bq x ks g:=rfl
 conv at w1=>rhs;unfold bq
 rw [if_neg n1] at w1
 refine cE (fun σ H1=>σ = [some (.ref a),some (.ref fa),some (.str x)]∧H=H1∧¬ (x = "if"∧g.length=1)) (fun R hR=>?_) (fun σ H1 hP=>?_)
 ·refine ⟨_,rfl,.inr (.inl ⟨rfl,_,rfl,?_⟩)⟩
  rw [aI]
  by_cases c2:x = "if"
  ·rw [decide_eq_true c2]
   refine a9 ⟨_,rfl,.inl ⟨fa,fvs,rfl,.inl hs,.inr (.inl ⟨rfl,_,rfl,?_⟩)⟩⟩
   rw [cF,len1]
   by_cases c3:g.length=1
   ·rw [decide_eq_true c3]
    refine a9 (q' _ _ (Old.refl _) ?_)
    rw [w1,if_pos ⟨c2,c3⟩]
    exact RK.tup (.inr k_TRUTH) (.cons (.s _) .nil)
   ·rw [decide_eq_false c3]
    exact aU (hR _ _ ⟨rfl,rfl,fun z=>c3 z.2⟩)
  ·rw [decide_eq_false c2]
   exact aU (aU (hR _ _ ⟨rfl,rfl,fun z=>c2 z.1⟩))
 obtain ⟨rfl,rfl,n2⟩:=hP
 rw [if_neg n2] at w1
 obtain ⟨f1,f2,f3,f4,f5,f6,f7,f8,f9,f10,f11⟩:=bC
 refine ⟨_,rfl,by show 2≤sizeLine;decide,fun r hr0=>⟨r,_,rfl,.inr (SqT.of ag),rfl,rfl,_,rfl,?_⟩⟩
 have o1:=Old.new (o:=.tup [.str "row",.str "as"]) hr0
 generalize upd H r (.tup [.str "row",.str "as"])=H1 at o1 ⊢
 have ha1:=ha.mono o1.tm
 have hs1:SqL K H1 fa fvs:=SqL.of (o1 _ _ hfa)
 rw [if_neg Bool.false_ne_true,show [V.str "row",V.str "as"]=(["row","as"]:List Str).map V.str from rfl,dY]
 by_cases c3:x = "row"∨x = "as"
 ·rw [decide_eq_true (show x∈(["row","as"]:List Str) from c3.elim (fun c=>c ▸ .head _) (fun c=>c ▸ .tail _ (.head _)))]
  rw [if_pos c3] at w1
  have e1:fr.length=0∧ks.length=1:=by rcases c3 with rfl | rfl <;> exact ⟨by omega,by omega⟩
  obtain rfl:uf = []:=List.length_eq_zero_iff.mp (l1.symm.trans e1.1)
  obtain ⟨k0,rfl⟩:=List.length_eq_one_iff.mp e1.2
  obtain ⟨mv,ur,rfl,rmv,_⟩:=rm
  refine a9 ⟨_,rfl,.inr (.inl ⟨a,_,2,mv,rfl,rfl,ha1.sq,at2,q' _ _ o1 ?_⟩)⟩
  rw [w1]
  exact rmv.mono o1.tm
 rw [decide_eq_false (show x ∉ (["row","as"]:List Str) from fun z=>by
  rcases List.mem_cons.mp z with z | z
  ·exact c3 (.inl z)
  ·exact c3 (.inr (List.mem_singleton.mp z)))]
 rw [if_neg c3] at w1
 refine aU ⟨_,rfl,.inr (.inl ⟨rfl,_,rfl,?_⟩)⟩
 rw [aI]
 by_cases c4:x = "self"
 ·rw [decide_eq_true c4]
  rw [if_pos c4] at w1
  rw [c4,f3] at lf
  rw [c4,f4] at lm
  obtain ⟨x0,x1,rfl⟩:=b9 lf
  obtain ⟨k0,k1,rfl⟩:=b9 lm
  obtain ⟨y0,uf',rfl,_,rf'⟩:=rf
  obtain ⟨y1,uf'',rfl,_,rf''⟩:=rf'
  obtain rfl:uf'' = []:=rf''
  obtain ⟨kv,um',rfl,rkv,rm'⟩:=rm
  obtain ⟨kv1,um'',rfl,rkv1,_⟩:=rm'
  refine a9 ⟨_,rfl,.inr (.inl ⟨a,_,5,kv1,rfl,rfl,ha1.sq,aK (j:=5) rfl,q' _ _ o1 ?_⟩)⟩
  rw [w1]
  exact rkv1.mono o1.tm
 rw [decide_eq_false c4]
 rw [if_neg c4] at w1
 refine aU ?_
 obtain ⟨_,u0,_,_,eu0,ru0⟩:=hf.get gl
 have hf1:=hf.old o1
 obtain ⟨fvs1,u1,hs1',_,eu1,ru1⟩:=hf1.get gl
 obtain ⟨fvs2,u2,hs2',_,eu2,ru2⟩:=hf1.last gn
 have kg0:Kg (g.headD qK) 4:=bU (by omega) kg
 rw [← bx] at ru1
 dsimp only [iJ]
 refine cE (fun σ H2=>σ = [some (.ref a),some (.ref fa),some (.str x)]∧H1=H2∧¬ (x = "call"∧g.length=2)) (fun R hR=>?_) (fun σ H2 hP=>?_)
 ·refine ⟨_,rfl,.inr (.inl ⟨rfl,_,rfl,?_⟩)⟩
  rw [aI]
  by_cases c2:x = "call"
  ·rw [decide_eq_true c2]
   refine a9 ⟨_,rfl,.inl ⟨fa,fvs,rfl,.inl hs1,.inr (.inl ⟨rfl,_,rfl,?_⟩)⟩⟩
   rw [cF,len2]
   by_cases c5:g.length=2
   ·rw [decide_eq_true c5]
    have st:kn (g.headD qK) "arg" = some ((g.headD qK).pt 0):=stp_pt kg0.wf (fun nq=>by
     rw [(hc c2 c5).resolve_left nq];decide +kernel)
    refine a9 ⟨_,rfl,.inl ⟨fa,fvs1,0,u1,rfl,rfl,hs1',eu1,by show 1≤sizeLine;decide,fun pa hpa=>?_⟩⟩
    have o2:=Old.new (o:=.tup [.str "arg"]) hpa
    refine ⟨u1,g.headD qK,(g.headD qK).pt 0,pa,"arg",rfl,ru1.mono o2.tm,kg0.wf,by have:=kg0.dep;omega,.of ag,by decide +kernel,st,fun v' H' o' r'=>q' _ _ ((o1.trans o2).trans o') ?_⟩
    rw [w1,if_pos ⟨c2,c5⟩]
    exact r'
   ·rw [decide_eq_false c5]
    exact aU (hR _ _ ⟨rfl,rfl,fun z=>c5 z.2⟩)
  ·rw [decide_eq_false c2]
   exact aU (aU (hR _ _ ⟨rfl,rfl,fun z=>c2 z.1⟩))
 obtain ⟨rfl,rfl,n5⟩:=hP
 rw [if_neg n5] at w1
 have lastly:bq x ks g=g.getLastD qK→Q u2 H1:=fun e=>q' _ _ o1 (by rw [e];exact ru2)
 refine ⟨_,rfl,_,rfl,_,rfl,?_⟩
 by_cases cn:x∈dND.map (·.1)
 ·rw [decide_eq_true cn]
  obtain ⟨nh,nks,en,ed⟩:=ndK x cn
  rw [en] at w1
  obtain ⟨ua,uus,rfl,hua,_⟩:=RK.kind (show RK K H1 (.tup (.str (g.headD qK).hd :: Kn.ds (g.headD qK).ks)) u1 by
   have:=ru1
   cases hg:g.headD qK
   rw [hg] at this
   exact this)
  refine a9 ⟨_,rfl,.inl ⟨fa,fvs1,0,.ref ua,rfl,rfl,hs1',eu1,.inr (.inl ⟨ua,_,0,.str (g.headD qK).hd,rfl,rfl,hua.sq,at0,?_⟩)⟩⟩
  refine ⟨_,rfl,rfl,_,_,rfl,ed,fun v hv=>?_⟩
  obtain ⟨va,vus,rfl,hva,_⟩:=RK.kind (show RK K H1 (.tup (.str nh :: Kn.ds nks)) v from hv H1)
  refine .inr (.inl ⟨va,_,0,.str nh,rfl,rfl,hva.sq,at0,.inr (.inl ⟨rfl,_,rfl,?_⟩)⟩)
  rw [aI]
  by_cases c6:(g.headD qK).hd=nh
  ·rw [decide_eq_true c6]
   refine aU ⟨_,rfl,_,rfl,.inl ⟨fa,fvs2,-1,u2,rfl,rfl,hs2',eu2,lastly ?_⟩⟩
   rw [w1]
   exact if_neg (fun z=>z c6)
  ·rw [decide_eq_false c6]
   refine a9 ⟨_,rfl,rfl,_,_,rfl,ed,fun v2 hv2=>q' _ _ o1 ?_⟩
   rw [w1]
   have:(if (g.headD qK).hd≠(Kn.mk nh nks).hd then (Kn.mk nh nks) else g.getLastD qK)=Kn.mk nh nks:=if_pos c6
   exact (show RK K H1 (if (g.headD qK).hd≠(Kn.mk nh nks).hd then (Kn.mk nh nks) else g.getLastD qK).d v2 by rw [this];exact hv2 H1)
 ·rw [decide_eq_false cn]
  refine aU (aU ⟨_,rfl,_,rfl,.inl ⟨fa,fvs2,-1,u2,rfl,rfl,hs2',eu2,lastly ?_⟩⟩)
  rw [w1,ndN x cn]
end
end L2.K33
end
section
namespace L2.K33
open PySem PySem.Spec PyProof.Rows L2.Bw L2.Bk L2.Ex
section
variable {P:Program} {w:World} {K:W.Frag} {mg:Str→Option Value} {base:Heap} {f:Addr} {fd:FuncData}
theorem toK (x:Str) (h:x∈dTO.map (·.1)) (fr:List Dk) (ks g:List Kn) (e:Nv):∃ z i nh nks,KTD.datumAt x dTO=some (.tup [.str z])∧z∈five∧bX x=some (.mk nh nks)∧(z∈aG nh∧(aG nh).idxOf z=i)∧ba x fr ks g e=(g.headD qK).pt i:=by
 rcases List.mem_cons.mp h with rfl | h
 ·exact ⟨"res",1,_,_,by kernel_rfl,by decide +kernel,rfl,by decide +kernel,by unfold ba;rw [if_neg (by decide +kernel),if_neg (by decide +kernel),if_pos (by decide +kernel)]⟩
 rcases List.mem_cons.mp h with rfl | h
 ·exact ⟨"item",0,_,_,by kernel_rfl,by decide +kernel,rfl,by decide +kernel,by unfold ba;rw [if_neg (by decide +kernel),if_neg (by decide +kernel),if_neg (by decide +kernel),if_pos (by decide +kernel)]⟩
 rcases List.mem_cons.mp h with rfl | h
 ·exact ⟨"one",0,_,_,by kernel_rfl,by decide +kernel,rfl,by decide +kernel,by unfold ba;rw [if_neg (by decide +kernel),if_neg (by decide +kernel),if_neg (by decide +kernel),if_pos (by decide +kernel)]⟩
 obtain rfl:=List.mem_singleton.mp h
 exact ⟨"two",1,_,_,by kernel_rfl,by decide +kernel,rfl,by decide +kernel,by unfold ba;rw [if_neg (by decide +kernel),if_neg (by decide +kernel),if_pos (by decide +kernel)]⟩
theorem skK (x:Str) (h:x∈dSK.map (·.1)) (fr:List Dk) (ks g:List Kn) (e:Nv):KTD.datumAt x dSK=some (ba x fr ks g e).d:=by
 rcases List.mem_cons.mp h with rfl | h
 ·rw [show ba "whole" fr ks g e=cW by unfold ba;exact if_pos (by decide +kernel)];kernel_rfl
 rcases List.mem_cons.mp h with rfl | h
 ·rw [show ba "given" fr ks g e=cW by unfold ba;exact if_pos (by decide +kernel)];kernel_rfl
 rcases List.mem_cons.mp h with rfl | h
 ·rw [show ba "size" fr ks g e=cW by unfold ba;exact if_pos (by decide +kernel)];kernel_rfl
 obtain rfl:=List.mem_singleton.mp h
 rw [show ba "truth" fr ks g e=eL by unfold ba;rw [if_neg (by decide +kernel)];exact if_pos (by decide +kernel)];kernel_rfl
theorem de:K11.np "call" = 2∧K11.np "at" = 2∧K11.np "one" = 1∧K11.np "two" = 1∧K11.np "fn" = 1∧K11.np "let" = 2∧K11.np "if" = 3∧K11.np "pair" = 2:=by decide +kernel
theorem as_left:∀ z∈K11.words,z = "as"∨z∈(["whole","given","size","truth","call","at","one","two","name","fn","self","let","if","do","row","pair","look"]:List Str):=by decide +kernel
theorem to_pos:∀ x:Str,x∈dTO.map (·.1)→x≠"row"∧0<K11.np x:=(show ∀ x∈dTO.map (·.1),x≠("row":Str)∧0<K11.np x by decide +kernel)
abbrev sOw:Stmt:=top 44
def spOw (K:W.Frag):Sp:=fun vs H Q _=>∃ (v:V) (fa b:Addr) (t:Tk) (g:List Kn) (kvs:List (Key×V)) (e:Nv),vs = [v,.ref fa,.ref b]∧RK K H t.tn.d v∧t.tn.wf∧t.w≠"look"∧Fd K H fa g∧g.length=t.ps.length∧(∀ k∈g,Kg k 4)∧Fit t.w g∧(t.w = "do"→∃ o,t.fr = [.str o])∧(t.w = "name"→(e ((txs t.fr).headD "")).isSome=true)∧H b=some (.dK kvs)∧dG K H kvs e ∧
 ∀ v' H',Old H H'→RK K H' (ba t.w t.fr t.ks g e).d v'→Q v' H'
theorem scOw:aF ["tree","found","bound","word"] ["tree","found","bound"] (aw sOw):=⟨rfl,rfl,rfl,by decide +kernel,rfl,by decide +kernel,by decide +kernel⟩
theorem ok_Ow {n:Nat} {aS aO aW aT:Addr} (F:Fun K "own_kind" "own_kind" sOw f fd) (T:Tx mg) (m_WHOLE:mg "WHOLE" = some (.ref aW)) (k_WHOLE:Kt K aW [.str "whole"]) (m_TRUTH:mg "TRUTH" = some (.ref aT)) (k_TRUTH:Kt K aT [.str "truth"]) (m_SURE_KINDS:mg "SURE_KINDS" = some (.ref aS)) (k_SURE_KINDS:KTD.tabLook (ce K) (fun b=>K.lookup b) aS dSK=true) (m_TAKEN_OUT:mg "TAKEN_OUT" = some (.ref aO)) (k_TAKEN_OUT:KTD.tabLook (ce K) (fun b=>K.lookup b) aO dTO=true)
 (c_part:Cal P w K mg base "part" ["kind","way"] 3 (km K)) (c_join:Cal P w K mg base "join" ["kind","other"] 9 (eK K 8)):aY P w K mg base CX0 (n+10) f fd ["tree","found","bound"] (spOw K):=by
 refine F.ok scOw (fun vs H Q E h=>?_) (fun cdv A outer s H vs Q E hr h=>?_)
 ·obtain ⟨v,fa,b,t,g,kvs,e,rfl,_⟩:=h
  rfl
 obtain ⟨v,fa,b,t,g,kvs,e,rfl,rv,wt,nl,hf,lg,kg,fit,hdo,hnm,hb,he,q⟩:=h
 have nd:=scOw.nd
 obtain ⟨x,p,fr,ks,ps⟩:=t
 have rv':RK K H (Tn.mk x p fr (Kn.ds ks) (Tk.tns ps)).d v:=rv
 obtain ⟨⟨hx,lf,lm,lp,_,hn,_⟩,_⟩:=(show (Tn.mk x p fr (Kn.ds ks) (Tk.tns ps)).wf from wt)
 obtain ⟨a,uf,um,up,rfl,ha,rf,rm,_⟩:=RK.node rv'
 have l1:=rf.length
 have l2:=rm.length
 rw [aH] at lm
 rw [aM] at lp
 have lg':g.length=ps.length:=lg
 rw [← lg'] at lp
 have q':∀ v' H',Old H H'→RK K H' (ba x fr ks g e).d v'→Q v' H':=q
 obtain ⟨f1,f2,f3,f4,f5,f6,f7,f8,f9,f10,f11⟩:=bC
 obtain ⟨p1,p2,p3,p4,p5,p6,p7,p8⟩:=de
 have kgD:∀ i,Kg ((g[i]?).getD qK) 4:=fun i=>ci (by omega) kg i
 have kg0:Kg (g.headD qK) 4:=bU (by omega) kg
 refine' ⟨_,?n0,?Z⟩
 case' n0=>refine' ae ?N1 ?N2
 case' N1=>refine' aA (i:=3) nd rfl (Or.inl rfl) rfl (by first | exact .inl rfl | exact .inr rfl) ?N3
 case N3=>exact al ai (pv 0) ac (fun _ _=>rfl)
 case' N2=>refine' ae ?N4 ?N5
 case' N4=>refine' aC ?N6 ?N7 aq
 case' N6=>refine' pt_cmp ?N8
 case N8=>exact pc_inT rfl m_SURE_KINDS k_SURE_KINDS (pv 3)
 case' N7=>refine' ah ?N9
 case' N9=>refine' ao ?Na
 case Na=>exact gT rfl m_SURE_KINDS k_SURE_KINDS (pv 3) (fun _ _=>rfl)
 case' N5=>refine' ae ?Nb ?Nc
 case' Nb=>refine' aC ?Nd ?Ne aq
 case' Nd=>refine' pt_cmp ?Nf
 case Nf=>exact pc_inT rfl m_TAKEN_OUT k_TAKEN_OUT (pv 3)
 case' Ne=>refine' ah ?Ng
 case' Ng=>refine' ao ?Nh
 case' Nh=>refine' az c_part hr ?Ni
 case' Ni=>refine' pa ?Nj ?Nk
 case Nj=>exact al ai (pv 1) ac (fun _ _=>rfl)
 case' Nk=>refine' pa ?Nl ad
 case Nl=>exact gT rfl m_TAKEN_OUT k_TAKEN_OUT (pv 3) (fun _ _=>rfl)
 case' Nc=>refine' ae ?Nm ?Nn
 case' Nm=>refine' aC (ak (ax hr) (pv 3) aj (am _)) ?No aq
 case' No=>refine' ah ?Np
 case' Np=>refine' ao ?Nq
 case' Nq=>refine' j6 hr.u1 (pv 2) ?Nr (fun _ _=>rfl)
 case Nr=>exact al ai (pv 0) ac (fun _ _=>rfl)
 case' Nn=>refine' ae ?Ns ?Nt
 case' Ns=>refine' aC (ak (ax hr) (pv 3) aj (am _)) ?Nu aq
 case' Nu=>refine' ah ?Nv
 case' Nv=>refine' ao ?Nw
 case' Nw=>refine' ay ?Nx
 case' Nx=>refine' pa aj ?Ny
 case' Ny=>refine' pa ?Nz ?N10
 case Nz=>exact al ai (pv 0) ac (fun _ _=>rfl)
 case' N10=>refine' pa ?N11 ad
 case N11=>exact al ai (pv 1) ac (fun _ _=>rfl)
 case' Nt=>refine' ae ?N12 ?N13
 case' N12=>refine' aC (ak (ax hr) (pv 3) aj (am _)) ?N14 aq
 case' N14=>refine' ah ?N15
 case' N15=>refine' ao ?N16
 case' N16=>refine' ay ?N17
 case' N17=>refine' pa aj ?N18
 case' N18=>refine' pa ?N19 ?N1a
 case N19=>exact al ai (pv 0) ac (fun _ _=>rfl)
 case' N1a=>refine' pa ?N1b ad
 case N1b=>exact al ai (pv 0) ac (fun _ _=>rfl)
 case' N13=>refine' ae ?N1c ?N1d
 case' N1c=>refine' aC (ak (ax hr) (pv 3) aj (am _)) ?N1e aq
 case' N1e=>refine' ah ?N1f
 case' N1f=>refine' ao ?N1g
 case N1g=>exact al ai (pv 1) ac (fun _ _=>rfl)
 case' N1d=>refine' ae ?N1h ?N1i
 case' N1h=>refine' aC (ak (ax hr) (pv 3) aj (am _)) ?N1j aq
 case' N1j=>refine' ah ?N1k
 case' N1k=>refine' ao ?N1l
 case' N1l=>refine' az c_join hr ?N1m
 case' N1m=>refine' pa ?N1n ?N1o
 case N1n=>exact al ai (pv 1) ac (fun _ _=>rfl)
 case' N1o=>refine' pa ?N1p ad
 case N1p=>exact al ai (pv 1) ac (fun _ _=>rfl)
 case' N1i=>refine' ae ?N1q ?N1r
 case' N1q=>refine' aC (ak (ax hr) (pv 3) aj (am _)) ?N1s aq
 case' N1s=>refine' ah ?N1t
 case' N1t=>refine' ao ?N1u
 case' N1u=>refine' pe_ifExp ?N1v (bF rfl m_TRUTH) (bF rfl m_WHOLE)
 case' N1v=>refine' ak d7 ?N1w (ay (pa aj (pa aj ad))) rfl
 case N1w=>exact al ai (pv 0) ac (fun _ _=>rfl)
 case' N1r=>refine' ae ?N1x ?N1y
 case' N1x=>refine' aC (ak (ax hr) (pv 3) aj (am _)) ?N1z aq
 case' N1z=>refine' ah ?N20
 case' N20=>refine' ao ?N21
 case' N21=>refine' ay ?N22
 case' N22=>refine' pa aj ?N23
 case' N23=>refine' pa ?N24 ad
 case N24=>exact al ai (pv 0) ac (fun _ _=>rfl)
 case' N1y=>refine' ae ?N25 ?N26
 case' N25=>refine' aC (ak (ax hr) (pv 3) aj (am _)) ?N27 aq
 case' N27=>refine' ah ?N28
 case' N28=>refine' ao ?N29
 case' N29=>refine' ay ?N2a
 case' N2a=>refine' pa aj ?N2b
 case' N2b=>refine' pa ?N2c ?N2d
 case N2c=>exact al ai (pv 1) ac (fun _ _=>rfl)
 case' N2d=>refine' pa ?N2e ad
 case N2e=>exact al ai (pv 1) ac (fun _ _=>rfl)
 case' N26=>refine' ah ?N2f
 case' N2f=>refine' ao ?N2g
 case N2g=>exact al ai (pv 0) ac (fun _ _=>rfl)
 refine ⟨_,rfl,.inr (.inl ⟨a,_,0,.str x,rfl,rfl,ha.sq,at0,?_⟩)⟩
 refine ⟨_,rfl,_,rfl,_,rfl,?_⟩
 by_cases cs:x∈dSK.map (·.1)
 ·rw [decide_eq_true cs]
  exact a9 ⟨_,rfl,rfl,_,_,rfl,skK x cs fr ks g e,fun v hv=>q' v H (Old.refl _) (hv H)⟩
 rw [decide_eq_false cs]
 refine aU ?_
 refine ⟨_,rfl,_,rfl,_,rfl,?_⟩
 by_cases ct:x∈dTO.map (·.1)
 ·rw [decide_eq_true ct]
  obtain ⟨z,i,nh,nks,ed,hz,en,st,eo⟩:=toK x ct fr ks g e
  have gp:0<g.length:=by rw [lp (to_pos x ct).1];exact (to_pos x ct).2
  obtain ⟨fvs,u,hs,_,eu,ru⟩:=hf.get gp
  rw [← bx] at ru
  refine a9 ⟨_,rfl,.inl ⟨fa,fvs,0,u,rfl,rfl,hs,eu,_,rfl,rfl,_,_,rfl,ed,fun v hv=>?_⟩⟩
  obtain ⟨pa,us,rfl,hpa,ez⟩:=RK.kind (hv H)
  obtain rfl:us = []:=ez
  refine ⟨u,g.headD qK,(g.headD qK).pt i,pa,z,rfl,ru,kg0.wf,by have:=kg0.dep;omega,hpa,hz,stp_pt kg0.wf (fun nq=>by rw [(fit _ en).resolve_left nq];exact st),fun v' H' o' r'=>q' _ _ o' ?_⟩
  rw [eo]
  exact r'
 rw [decide_eq_false ct]
 refine aU ?_
 have cS:∀ z∈dSK.map (·.1),x≠z:=fun z hz ez=>cs (ez ▸ hz)
 have cT:∀ z∈dTO.map (·.1),x≠z:=fun z hz ez=>ct (ez ▸ hz)
 have w1:ba x fr ks g e=ba x fr ks g e:=rfl
 conv at w1=>rhs;unfold ba
 rw [if_neg (fun z=>z.elim (cS "whole" (by decide +kernel)) (fun z=>z.elim (cS "given" (by decide +kernel)) (cS "size" (by decide +kernel)))),if_neg (cS "truth" (by decide +kernel)),if_neg (fun z=>z.elim (cT "call" (by decide +kernel)) (cT "two" (by decide +kernel))),if_neg (fun z=>z.elim (cT "at" (by decide +kernel)) (cT "one" (by decide +kernel)))] at w1
 refine ⟨_,rfl,.inr (.inl ⟨rfl,_,rfl,?_⟩)⟩
 rw [aI]
 by_cases c1:x = "name"
 ·rw [decide_eq_true c1]
  rw [if_pos c1] at w1
  obtain ⟨ns,rfl⟩:=hn (by rw [c1];decide +kernel)
  obtain rfl:=RKs.txs rf
  rw [List.length_map,c1,f6] at lf
  obtain ⟨nm,rfl⟩:=List.length_eq_one_iff.mp lf
  have hs:=hnm c1
  obtain ⟨k,hk⟩:=Option.isSome_iff_exists.mp (show (e nm).isSome=true from hs)
  obtain ⟨kv,hv,rk⟩:=he nm k hk
  refine a9 ⟨_,rfl,_,rfl,.inr (.inl ⟨a,_,2,.str nm,rfl,rfl,ha.sq,at2,b,kv,rfl,?_,q' kv H (Old.refl _) ?_⟩)⟩
  ·have z:=kz.k (k:=.inr nm) hb
   rw [hv] at z
   exact z
  ·rw [w1,show (txs ([nm].map Dk.str)).headD "" = nm from rfl,hk]
   exact rk
 rw [decide_eq_false c1]
 rw [if_neg c1] at w1
 refine aU ⟨_,rfl,.inr (.inl ⟨rfl,_,rfl,?_⟩)⟩
 rw [aI]
 by_cases c2:x = "fn"
 ·rw [decide_eq_true c2]
  rw [if_pos c2] at w1
  have lg1:=lp (by rw [c2];decide +kernel)
  rw [c2,p5] at lg1
  rw [c2,f1] at lf
  rw [c2,f2] at lm
  obtain ⟨x0,rfl⟩:=List.length_eq_one_iff.mp lf
  obtain ⟨k0,rfl⟩:=List.length_eq_one_iff.mp lm
  obtain ⟨y0,uf',rfl,_,rf'⟩:=rf
  obtain rfl:uf' = []:=rf'
  obtain ⟨kv,um',rfl,rkv,_⟩:=rm
  obtain ⟨fvs,u,hs,_,eu,ru⟩:=hf.get (i:=0) (by omega)
  refine a9 ⟨_,rfl,.inr (.inl ⟨a,_,3,kv,rfl,rfl,ha.sq,at3,_,rfl,.inl ⟨fa,fvs,0,u,rfl,rfl,hs,eu,by show 3≤sizeLine;decide,fun r hr0=>q' _ _ (Old.new hr0) ?_⟩⟩)⟩
  rw [w1,bx g]
  exact RK.tup (.of ag) (.cons (.s _) (.cons (rkv.mono (Old.new hr0).tm) (.cons (ru.mono (Old.new hr0).tm) .nil)))
 rw [decide_eq_false c2]
 rw [if_neg c2] at w1
 refine aU ⟨_,rfl,.inr (.inl ⟨rfl,_,rfl,?_⟩)⟩
 rw [aI]
 by_cases c3:x = "self"
 ·rw [decide_eq_true c3]
  rw [if_pos c3] at w1
  rw [c3,f3] at lf
  rw [c3,f4] at lm
  obtain ⟨x0,x1,rfl⟩:=b9 lf
  obtain ⟨k0,k1,rfl⟩:=b9 lm
  obtain ⟨y0,uf',rfl,_,rf'⟩:=rf
  obtain ⟨y1,uf'',rfl,_,rf''⟩:=rf'
  obtain rfl:uf'' = []:=rf''
  obtain ⟨kv,um',rfl,rkv,rm'⟩:=rm
  obtain ⟨kv1,um'',rfl,rkv1,_⟩:=rm'
  refine a9 ⟨_,rfl,.inr (.inl ⟨a,_,4,kv,rfl,rfl,ha.sq,aK (j:=4) rfl,_,rfl,.inr (.inl ⟨a,_,5,kv1,rfl,rfl,ha.sq,aK (j:=5) rfl,by show 3≤sizeLine;decide,fun r hr0=>q' _ _ (Old.new hr0) ?_⟩)⟩)⟩
  rw [w1]
  exact RK.tup (.of ag) (.cons (.s _) (.cons (rkv.mono (Old.new hr0).tm) (.cons (rkv1.mono (Old.new hr0).tm) .nil)))
 rw [decide_eq_false c3]
 rw [if_neg c3] at w1
 refine aU ⟨_,rfl,.inr (.inl ⟨rfl,_,rfl,?_⟩)⟩
 rw [aI]
 by_cases c4:x = "let"
 ·rw [decide_eq_true c4]
  rw [if_pos c4] at w1
  have lg1:=lp (by rw [c4];decide +kernel)
  rw [c4,p6] at lg1
  obtain ⟨fvs,u,hs,_,eu,ru⟩:=hf.get (i:=1) (by omega)
  refine a9 ⟨_,rfl,.inl ⟨fa,fvs,1,u,rfl,rfl,hs,eu,q' _ _ (Old.refl _) ?_⟩⟩
  rw [w1]
  exact ru
 rw [decide_eq_false c4]
 rw [if_neg c4] at w1
 refine aU ⟨_,rfl,.inr (.inl ⟨rfl,_,rfl,?_⟩)⟩
 rw [aI]
 by_cases c5:x = "if"
 ·rw [decide_eq_true c5]
  rw [if_pos c5] at w1
  have lg1:=lp (by rw [c5];decide +kernel)
  rw [c5,p7] at lg1
  obtain ⟨fvs,u,hs,_,eu,ru⟩:=hf.get (i:=1) (by omega)
  obtain ⟨fvs2,u2,hs2,_,eu2,ru2⟩:=hf.get (i:=2) (by omega)
  refine a9 ⟨_,rfl,.inl ⟨fa,fvs,1,u,rfl,rfl,hs,eu,_,rfl,.inl ⟨fa,fvs2,2,u2,rfl,rfl,hs2,eu2,?_⟩⟩⟩
  refine ⟨u,u2,(g[1]?).getD qK,(g[2]?).getD qK,rfl,ru,ru2,fG (kgD 1).wf,fG (kgD 2).wf,by have:=(kgD 1).dep;omega,fun v' H' o' r'=>q' _ _ o' ?_⟩
  rw [w1]
  exact r'
 rw [decide_eq_false c5]
 rw [if_neg c5] at w1
 refine aU ⟨_,rfl,.inr (.inl ⟨rfl,_,rfl,?_⟩)⟩
 rw [aI]
 by_cases c6:x = "do"
 ·rw [decide_eq_true c6]
  rw [if_pos c6] at w1
  obtain ⟨o,eo⟩:=hdo c6
  obtain rfl:fr = [.str o]:=eo
  obtain ⟨y0,uf',rfl,ry0,rf'⟩:=rf
  obtain rfl:y0 = .str o:=by rw [RK] at ry0;exact ry0
  refine a9 ⟨_,rfl,.inr (.inl ⟨a,_,2,.str o,rfl,rfl,ha.sq,at2,by show 2≤sizeLine;decide,fun r hr0=>⟨r,_,rfl,.inr (SqT.of ag),rfl,rfl,_,rfl,?_⟩⟩)⟩
  have o1:=Old.new (o:=.tup [.str "<",.str "="]) hr0
  generalize upd H r (.tup [.str "<",.str "="])=H1 at o1 ⊢
  rw [if_neg Bool.false_ne_true,show [V.str "<",V.str "="]=(["<","="]:List Str).map V.str from rfl,dY]
  by_cases c:o∈(["<","="]:List Str)
  ·rw [decide_eq_true c]
   refine a9 (q' _ _ o1 ?_)
   rw [w1,if_pos (show (txs [.str o]).headD ""∈(["<","="]:List Str) from c)]
   exact RK.tup (.inr k_TRUTH) (.cons (.s _) .nil)
  ·rw [decide_eq_false c]
   refine aU (q' _ _ o1 ?_)
   rw [w1,if_neg (show ¬ (txs [.str o]).headD ""∈(["<","="]:List Str) from c)]
   exact RK.tup (.inr k_WHOLE) (.cons (.s _) .nil)
 rw [decide_eq_false c6]
 rw [if_neg c6] at w1
 refine aU ⟨_,rfl,.inr (.inl ⟨rfl,_,rfl,?_⟩)⟩
 rw [aI]
 by_cases c7:x = "row"
 ·rw [decide_eq_true c7]
  rw [if_pos c7] at w1
  rw [c7,f8] at lf
  rw [c7,f9] at lm
  obtain rfl:uf = []:=List.length_eq_zero_iff.mp (l1.symm.trans lf)
  obtain ⟨k0,rfl⟩:=List.length_eq_one_iff.mp lm
  obtain ⟨kv,um',rfl,rkv,_⟩:=rm
  refine a9 ⟨_,rfl,.inr (.inl ⟨a,_,2,kv,rfl,rfl,ha.sq,at2,by show 2≤sizeLine;decide,fun r hr0=>q' _ _ (Old.new hr0) ?_⟩)⟩
  rw [w1]
  exact RK.tup (.of ag) (.cons (.s _) (.cons (rkv.mono (Old.new hr0).tm) .nil))
 rw [decide_eq_false c7]
 rw [if_neg c7] at w1
 refine aU ⟨_,rfl,.inr (.inl ⟨rfl,_,rfl,?_⟩)⟩
 rw [aI]
 by_cases c8:x = "pair"
 ·rw [decide_eq_true c8]
  rw [if_pos c8] at w1
  have lg1:=lp (by rw [c8];decide +kernel)
  rw [c8,p8] at lg1
  obtain ⟨fvs,u,hs,_,eu,ru⟩:=hf.get (i:=0) (by omega)
  obtain ⟨fvs2,u2,hs2,_,eu2,ru2⟩:=hf.get (i:=1) (by omega)
  refine a9 ⟨_,rfl,.inl ⟨fa,fvs,0,u,rfl,rfl,hs,eu,_,rfl,.inl ⟨fa,fvs2,1,u2,rfl,rfl,hs2,eu2,by show 3≤sizeLine;decide,fun r hr0=>q' _ _ (Old.new hr0) ?_⟩⟩⟩
  rw [w1,bx g]
  exact RK.tup (.of ag) (.cons (.s _) (.cons (ru.mono (Old.new hr0).tm) (.cons (ru2.mono (Old.new hr0).tm) .nil)))
 rw [decide_eq_false c8]
 rw [if_neg c8] at w1
 have ea:x = "as":=(as_left x hx).resolve_right fun z=>by
  rcases List.mem_append.mp (show x∈dSK.map (·.1) ++ (dTO.map (·.1) ++ (["name","fn","self","let","if","do","row","pair","look"]:List Str)) from z) with z | z
  ·exact cs z
  rcases List.mem_append.mp z with z | z
  ·exact ct z
  rcases List.mem_cons.mp z with z | z
  ·exact c1 z
  rcases List.mem_cons.mp z with z | z
  ·exact c2 z
  rcases List.mem_cons.mp z with z | z
  ·exact c3 z
  rcases List.mem_cons.mp z with z | z
  ·exact c4 z
  rcases List.mem_cons.mp z with z | z
  ·exact c5 z
  rcases List.mem_cons.mp z with z | z
  ·exact c6 z
  rcases List.mem_cons.mp z with z | z
  ·exact c7 z
  rcases List.mem_cons.mp z with z | z
  ·exact c8 z
  ·exact nl (List.mem_singleton.mp z)
 rw [ea,f10] at lf
 rw [ea,f11] at lm
 obtain rfl:uf = []:=List.length_eq_zero_iff.mp (l1.symm.trans lf)
 obtain ⟨k0,rfl⟩:=List.length_eq_one_iff.mp lm
 obtain ⟨kv,um',rfl,rkv,_⟩:=rm
 refine aU ⟨_,rfl,.inr (.inl ⟨a,_,2,kv,rfl,rfl,ha.sq,at2,q' _ _ (Old.refl _) ?_⟩)⟩
 rw [w1]
 exact rkv
end
end L2.K33
end
section
namespace L2.K33
open PySem PySem.Spec PyProof.Rows L2.Bw L2.Bk L2.Ex
structure bZ (C:Addr) (H:Hp) (L kd wd:Addr) (ks ws:List (Key×V)):Prop where
 hi:∃ dx,H L=some (.ins C dx [("kinds",.ref kd),("wanted",.ref wd)])
 hk:H kd=some (.dK ks)
 hw:H wd=some (.dK ws)
 hn:kd≠wd
theorem lkW {a b:V}:([("kinds",a),("wanted",b)]:List (Str×V)).lookup ("wanted":Str)=some b:=by kernel_rfl
theorem lkK {a b:V}:([("kinds",a),("wanted",b)]:List (Str×V)).lookup ("kinds":Str)=some a:=by kernel_rfl
theorem lkN {a b:V}:∀ m∈(["want","look","hold","hold_choice"]:List Str),([("kinds",a),("wanted",b)]:List (Str×V)).lookup m=none:=by
 intro m hm
 rcases List.mem_cons.mp hm with rfl | hm
 ·kernel_rfl
 rcases List.mem_cons.mp hm with rfl | hm
 ·kernel_rfl
 rcases List.mem_cons.mp hm with rfl | hm
 ·kernel_rfl
 rcases List.mem_cons.mp hm with rfl | hm
 ·kernel_rfl
 ·exact nomatch hm
def Out (kd wd:Addr) (H H':Hp):Prop:=∀ b o,b≠kd→b≠wd→H b=some o→H' b=some o
theorem Out.refl {kd wd:Addr} {H:Hp}:Out kd wd H H:=fun _ _ _ _ e=>e
theorem Out.trans {kd wd:Addr} {H H1 H2:Hp} (h:Out kd wd H H1) (g:Out kd wd H1 H2):Out kd wd H H2:=fun b o n1 n2 e=>g b o n1 n2 (h b o n1 n2 e)
theorem Out.old {kd wd:Addr} {H H1:Hp} (h:Old H H1):Out kd wd H H1:=fun b o _ _ e=>h b o e
theorem Out.tm {C L kd wd:Addr} {H H1:Hp} {ks ws:List (Key×V)} (l:bZ C H L kd wd ks ws) (h:Out kd wd H H1):Tm H H1:=fun a xs e=>h a _ (fun z=>by subst z;rw [l.hk] at e;cases e) (fun z=>by subst z;rw [l.hw] at e;cases e) e
theorem Out.putW {kd wd:Addr} {H:Hp} {o:HO}:Out kd wd H (upd H wd o):=fun b o n1 n2 e=>by rw [au n2];exact e
theorem Out.putK {kd wd:Addr} {H:Hp} {o:HO}:Out kd wd H (upd H kd o):=fun b o n1 n2 e=>by rw [au n1];exact e
theorem bZ.old {C L kd wd:Addr} {H H1:Hp} {ks ws:List (Key×V)} (l:bZ C H L kd wd ks ws) (h:Old H H1):bZ C H1 L kd wd ks ws:=⟨let ⟨dx,e⟩:=l.hi;⟨dx,h _ _ e⟩,h _ _ l.hk,h _ _ l.hw,l.hn⟩
theorem bZ.nk {C L kd wd:Addr} {H:Hp} {ks ws:List (Key×V)} (l:bZ C H L kd wd ks ws):L≠kd:=fun z=>by subst z;obtain ⟨dx,e⟩:=l.hi;rw [l.hk] at e;cases e
theorem bZ.nw {C L kd wd:Addr} {H:Hp} {ks ws:List (Key×V)} (l:bZ C H L kd wd ks ws):L≠wd:=fun z=>by subst z;obtain ⟨dx,e⟩:=l.hi;rw [l.hw] at e;cases e
theorem bZ.putW {C L kd wd:Addr} {H:Hp} {ks ws ws':List (Key×V)} (l:bZ C H L kd wd ks ws):bZ C (upd H wd (.dK ws')) L kd wd ks ws':=⟨let ⟨dx,e⟩:=l.hi;⟨dx,by rw [au l.nw];exact e⟩,by rw [au l.hn];exact l.hk,ag,l.hn⟩
theorem bZ.putK {C L kd wd:Addr} {H:Hp} {ks ws ks':List (Key×V)} (l:bZ C H L kd wd ks ws):bZ C (upd H kd (.dK ks')) L kd wd ks' ws:=⟨let ⟨dx,e⟩:=l.hi;⟨dx,by rw [au l.nk];exact e⟩,ag,by rw [au (Ne.symm l.hn)];exact l.hw,l.hn⟩
section
variable {P:Program} {w:World} {K:W.Frag} {mg:Str→Option Value} {base:Heap} {f:Addr} {fd:FuncData}
abbrev jC:Stmt:=im (top 39) 4
def iI (K:W.Frag) (C:Addr):Sp:=fun vs H Q _=>∃ (L kd wd:Addr) (ks ws:List (Key×V)) (nv kv:V) (n:Tn),vs = [.ref L,nv,kv]∧bZ C H L kd wd ks ws∧ws.length≤1000∧RK K H n.d nv∧Q .non (upd H wd (.dK (putK ws (.inl n.p) kv)))
theorem scWant:aF ["self","node","kind"] ["self","node","kind"] (aw jC):=⟨rfl,rfl,rfl,by decide +kernel,rfl,by decide +kernel,by decide +kernel⟩
theorem ok_Want {m:Nat} {C:Addr} (F:Fun K "want" "Looker.want" jC f fd) (cl_Looker:Cls K C) (a_wanted:cf K C "wanted"):aY P w K mg base CX0 (m+1) f fd ["self","node","kind"] (iI K C):=by
 refine F.ok scWant (fun vs H Q E h=>?_) (fun cdv A outer s H vs Q E hr h=>?_)
 ·obtain ⟨L,kd,wd,ks,ws,nv,kv,n,rfl,_⟩:=h
  rfl
 obtain ⟨L,kd,wd,ks,ws,nv,kv,n,rfl,lk,few,rn,q⟩:=h
 have nd:=scWant.nd
 obtain ⟨x,p,fr,mid,ps⟩:=n
 obtain ⟨a,uf,um,up,rfl,ha,_⟩:=RK.node rn
 obtain ⟨dx,hL⟩:=lk.hi
 refine' ⟨_,?n0,?Z⟩
 case' n0=>refine' ah ?N1
 case' N1=>refine' dD hr.u1 (j7 (pv 0) rfl) ?N2 (pv 2) rfl
 case N2=>exact al ai (pv 1) ac (fun _ _=>rfl)
 refine ⟨_,rfl,_,rfl,L,C,dx,_,.ref wd,rfl,hL,cl_Looker,a_wanted,lkW,_,rfl,.inr (.inl ⟨a,_,1,.int p,rfl,rfl,ha.sq,at1,wd,_,rfl,hV.k (k:=.inl p) lk.hw (bE (by omega)),q⟩)⟩
abbrev sLI:Stmt:=im (top 39) 0
def spLI (C:Addr):Sp:=fun vs H Q _=>∃ (L dx:Addr),vs = [.ref L]∧H L=some (.ins C dx [])∧∀ kd wd H',H kd=none→H wd=none→(∀ b o,b≠L→H b=some o→H' b=some o)→bZ C H' L kd wd [] []→Q .non H'
theorem scLI:aF ["self"] ["self"] (aw sLI):=⟨rfl,rfl,rfl,by decide +kernel,rfl,by decide +kernel,by decide +kernel⟩
theorem ok_LI {m:Nat} {C:Addr} (F:Fun K "__init__" "Looker.__init__" sLI f fd) (cl_Looker:Cls K C) (a_kinds:cf K C "kinds") (a_wanted:cf K C "wanted"):aY P w K mg base CX0 (m+1) f fd ["self"] (spLI C):=by
 refine F.ok scLI (fun vs H Q E h=>?_) (fun cdv A outer s H vs Q E hr h=>?_)
 ·obtain ⟨L,dx,rfl,_⟩:=h
  rfl
 obtain ⟨L,dx,rfl,hL,q⟩:=h
 have nd:=scLI.nd
 refine' ⟨_,?n0,?Z⟩
 case' n0=>refine' ae ?N1 ?N2
 case N1=>exact ps_fld (pv 0) fj rfl
 case' N2=>refine' ah ?N3
 case N3=>exact ps_fld (pv 0) fj rfl
 refine fun kd hk=>?_
 have nk:L≠kd:=ap hL hk
 refine ⟨_,rfl,L,C,dx,[],rfl,by rw [au nk];exact hL,cl_Looker,a_kinds,by decide,?_⟩
 refine fun wd hw=>?_
 have nw:wd≠L:=fun z=>by subst z;rw [ag] at hw;cases hw
 have hw1:upd H kd (.dK []) wd=none:=by rw [au nw] at hw;exact hw
 have nkw:wd≠kd:=fun z=>by subst z;rw [ag] at hw1;cases hw1
 have hw0:H wd=none:=by rw [au nkw] at hw1;exact hw1
 refine ⟨_,rfl,L,C,dx,[("kinds",.ref kd)],rfl,by rw [au (Ne.symm nw),ag];rfl,cl_Looker,a_wanted,by show 1<1000;decide,?_⟩
 have e:di ("wanted":Str) (V.ref wd) ([("kinds",V.ref kd)]:List (Str×V))=([("kinds",V.ref kd),("wanted",V.ref wd)]:List (Str×V)):=by kernel_rfl
 rw [e]
 refine q kd wd _ hk hw0 (fun b o nb e=>?_) ⟨⟨dx,ag⟩,?_,?_,Ne.symm nkw⟩
 ·rw [au nb,au (ap e hw0),au nb,au (ap e hk)]
  exact e
 ·rw [au (Ne.symm nk),au (Ne.symm nkw),au (Ne.symm nk),ag]
 ·rw [au nw,ag]
def RfR (K:W.Frag) (H:Hp) (d:Addr):Rf→Prop
 | .deep p=>H d=some (DO d [("place",.int p)])
 | .par p k b w way=>∃ kv wv yv,RK K H k.d kv∧RK K H w.d wv∧RK K H (.tup (way.map Dk.str)) yv∧H d=some (DO d (ptd p kv b wv yv))
def clsR (Cp Ct:Addr):Rf→Addr
 | .deep _=>Ct
 | .par ..=>Cp
theorem lF {α:Type}:∀ {l:List α},l.length=3→∃ a b c,l = [a,b,c]
 | [a,b,c],_=>⟨a,b,c,rfl⟩
theorem Out.fnd {C L kd wd fa:Addr} {H H1:Hp} {ks ws:List (Key×V)} {g:List Kn} (l:bZ C H L kd wd ks ws) (h:Out kd wd H H1) (hf:Fd K H fa g):Fd K H1 fa g:=by
 obtain ⟨fvs,h1,h2⟩:=hf.ex
 exact ⟨⟨fvs,h fa _ (fun z=>by subst z;rw [l.hk] at h1;cases h1) (fun z=>by subst z;rw [l.hw] at h1;cases h1) h1,h2.mono (Out.tm l h)⟩⟩
abbrev sHC:Stmt:=im (top 39) 3
def spHC (K:W.Frag) (C Cp:Addr):Sp:=fun vs H Q E=>∃ (L kd wd fa:Addr) (ks ws:List (Key×V)) (tv:V) (t n0 n1 n2:Tk) (g:List Kn),vs = [.ref L,tv,.ref fa]∧bZ C H L kd wd ks ws∧ws.length≤990∧RK K H t.tn.d tv∧t.tn.wf∧t.w = "if"∧t.ps = [n0,n1,n2]∧Fd K H fa g∧g.length=3∧(∀ k∈g,Kg k 4) ∧
 (((g[2]?).getD qK).part ((g[1]?).getD qK)=none→∀ ws' H',Out kd wd H H'→bZ C H' L kd wd ks ws'→ws'.length≤ws.length+2→Q .non H') ∧
 (∀ way,((g[2]?).getD qK).part ((g[1]?).getD qK)=some way→∀ d H',Old H H'→RfR K H' d (.par n2.p ((g[2]?).getD qK) n1.p ((g[1]?).getD qK) way)→E (.ref Cp) (some d) H')
theorem scHC:aF ["self","tree","found","node"] ["self","tree","found"] (aw sHC):=⟨rfl,rfl,rfl,by decide +kernel,rfl,by decide +kernel,by decide +kernel⟩
theorem nf_if:K11.nf "if" = 0∧K11.nk "if" = 0:=by decide +kernel
theorem tk_p (n:Tk):n.tn.p=n.p:=by cases n;rfl
theorem ok_HC {m:Nat} {C Cp:Addr} (F:Fun K "hold_choice" "Looker.hold_choice" sHC f fd) (T:Tx mg) (cl_Looker:Cls K C) (M_want:CalM P w K mg base C "want" ["self","node","kind"] 1 (iI K C)) (c_join:Cal P w K mg base "join" ["kind","other"] 9 (eK K 8))
 (c_need_same:gK P w K mg base "need_same" ["node","kind","against","wanted"] 10 (spSm K Cp)):aY P w K mg base (CXF P w) (m+11) f fd ["self","tree","found"] (spHC K C Cp):=by
 refine dw F scHC (fun vs H Q E h=>?_) (fun cdv A outer s H vs Q E hr h=>?_)
 ·obtain ⟨L,kd,wd,fa,ks,ws,tv,t,n0,n1,n2,g,rfl,_⟩:=h
  rfl
 obtain ⟨L,kd,wd,fa,ks,ws,tv,t,n0,n1,n2,g,rfl,lk,few,rt,wt,ei,eps,hf,lg,kg,qn,qe⟩:=h
 have nd:=scHC.nd
 obtain ⟨x,p,fr,kks,ps⟩:=t
 obtain rfl:x = "if":=ei
 obtain rfl:ps = [n0,n1,n2]:=eps
 have rt':RK K H (Tn.mk "if" p fr (Kn.ds kks) [n0.tn,n1.tn,n2.tn]).d tv:=rt
 obtain ⟨⟨hx,lf,lm,_⟩,w0,w1,w2,_⟩:=(show (Tn.mk "if" p fr (Kn.ds kks) [n0.tn,n1.tn,n2.tn]).wf from wt)
 obtain ⟨a,uf,um,up,rfl,ha,rf,rm,rp⟩:=RK.node rt'
 rw [nf_if.1] at lf
 rw [nf_if.2] at lm
 obtain rfl:uf = []:=List.length_eq_zero_iff.mp (rf.length.symm.trans lf)
 obtain rfl:um = []:=List.length_eq_zero_iff.mp (rm.length.symm.trans lm)
 rw [if_neg (by decide +kernel)] at rp
 obtain ⟨v0,up1,rfl,rv0,rp1⟩:=rp
 obtain ⟨v1,up2,rfl,rv1,rp2⟩:=rp1
 obtain ⟨v2,up3,rfl,rv2,rp3⟩:=rp2
 obtain rfl:up3 = []:=rp3
 have a3:atI (V.str "if" :: V.int p :: ([] ++ [] ++ [v0,v1,v2])) 3=some v1:=aK (j:=3) rfl
 have a4:atI (V.str "if" :: V.int p :: ([] ++ [] ++ [v0,v1,v2])) 4=some v2:=aK (j:=4) rfl
 have kgD:∀ i,Kg ((g[i]?).getD qK) 4:=fun i=>ci (by omega) kg i
 obtain ⟨fvs,u1,hs,_,eu1,ru1⟩:=hf.get (i:=1) (by omega)
 obtain ⟨fvs2,u2,hs2,_,eu2,ru2⟩:=hf.get (i:=2) (by omega)
 refine' ⟨_,?n0,?Z⟩
 case' n0=>refine' ae ?N1 ?N2
 case' N1=>refine' bD ?N3
 case' N3=>refine' fi c_need_same hr ?N4
 case' N4=>refine' pa ?N5 ?N6
 case N5=>exact al ai (pv 1) ac (fun _ _=>rfl)
 case' N6=>refine' pa ?N7 ?N8
 case N7=>exact al ai (pv 2) ac (fun _ _=>rfl)
 case' N8=>refine' pa ?N9 ?Na
 case N9=>exact al ai (pv 1) ac (fun _ _=>rfl)
 case' Na=>refine' pa ?Nb ad
 case Nb=>exact al ai (pv 2) ac (fun _ _=>rfl)
 case' N2=>refine' ah ?Nc
 case' Nc=>refine' j9 rfl ?Nd ?Ne ?Nf
 case' Nd=>refine' dC ?Ng
 case' Ng=>refine' ay ?Nh
 case' Nh=>refine' pa ?Ni ?Nj
 case Ni=>exact al ai (pv 1) ac (fun _ _=>rfl)
 case' Nj=>refine' pa ?Nk ad
 case Nk=>exact al ai (pv 1) ac (fun _ _=>rfl)
 case Ne=>exact aZ (i:=3) nd rfl (Or.inl rfl)
 case' Nf=>refine' ah ?Nl
 case' Nl=>refine' bD ?Nm
 case' Nm=>refine' pe_mth M_want cl_Looker hr (pv 0) ?Nn
 case' Nn=>refine' pa (pv 3) ?No
 case' No=>refine' pa ?Np ad
 case' Np=>refine' az c_join hr ?Nq
 case' Nq=>refine' pa ?Nr ?Ns
 case Nr=>exact al ai (pv 2) ac (fun _ _=>rfl)
 case' Ns=>refine' pa ?Nt ad
 case Nt=>exact al ai (pv 2) ac (fun _ _=>rfl)
 refine ⟨_,rfl,.inr (.inl ⟨a,_,4,v2,rfl,rfl,ha.sq,a4,_,rfl,.inl ⟨fa,fvs2,2,u2,rfl,rfl,hs2,eu2,_,rfl,.inr (.inl ⟨a,_,3,v1,rfl,rfl,ha.sq,a3,_,rfl,.inl ⟨fa,fvs,1,u1,rfl,rfl,hs,eu1,?_⟩⟩)⟩⟩)⟩
 refine ⟨v2,u2,v1,u1,n2.tn,n1.tn,_,_,rfl,rv2,w2,rv1,w1,ru2,ru1,(kgD 2).wf,(kgD 1).wf,by have:=(kgD 2).dep;omega,fun e H1 o1=>?_,fun way e d yv H1 o1 ry hd=>?_⟩
 ·have ha1:=ha.mono o1.tm
  refine ⟨_,rfl,.inr (.inl ⟨a,_,3,v1,rfl,rfl,ha1.sq,a3,_,rfl,.inr (.inl ⟨a,_,4,v2,rfl,rfl,ha1.sq,a4,by show 2≤sizeLine;decide,fun ta hta=>?_⟩)⟩)⟩
  have o2:=o1.trans (Old.new (o:=.tup [v1,v2]) hta)
  have ht2:Tp K (upd H1 ta (.tup [v1,v2])) ta [v1,v2]:=.of ag
  generalize upd H1 ta (.tup [v1,v2])=H2 at o2 ht2 ⊢
  have lk2:=lk.old o2
  have hf2:=hf.old o2
  refine ⟨ta,rfl,.inr ⟨⟨_,ht2.sq⟩,?_⟩⟩
  refine dM (n:=2) (fun i σ H5=>∃ (k:Option V) (ws':List (Key×V)),σ = [some (.ref L),some (.ref a),some (.ref fa),k]∧Out kd wd H2 H5∧bZ C H5 L kd wd ks ws'∧ws'.length≤ws.length+i) ⟨none,ws,rfl,Out.refl,lk2,Nat.le_refl _⟩ ?_ ?_ ?_ ?_
  ·intro i σ H5 hi hv
   obtain ⟨k,ws',rfl,o5,lk5,l5⟩:=hv
   exact ⟨_,_,(ht2.mono (Out.tm lk2 o5)).sq,List.getElem?_eq_getElem (by show i<2;omega)⟩
  ·intro σ H5 hv
   obtain ⟨k,ws',rfl,o5,lk5,l5⟩:=hv
   exact ⟨_,(ht2.mono (Out.tm lk2 o5)).sq,Nat.le_refl _⟩
  ·intro i σ H5 hi hv y H6 hy
   obtain ⟨k,ws',rfl,o5,lk5,l5⟩:=hv
   obtain ⟨e1,hyx⟩:=hy
   subst e1
   have ey:=hyx _ ((ht2.mono (Out.tm lk2 o5)).sq)
   have tm5:=Out.tm lk2 o5
   obtain ⟨n,rn⟩:∃ n:Tn,RK K H6 n.d y:=by
    match i,hi,ey with
    | 0,_,ey=>cases ey;exact ⟨_,(rv1.mono o2.tm).mono tm5⟩
    | 1,_,ey=>cases ey;exact ⟨_,(rv2.mono o2.tm).mono tm5⟩
   obtain ⟨dx,hi5⟩:=lk5.hi
   have hf5:=Out.fnd lk2 o5 hf2
   obtain ⟨fvs5,y1,hs5,_,ey1,ry1⟩:=hf5.get (i:=1) (by omega)
   obtain ⟨fvs6,y2,hs6,_,ey2,ry2⟩:=hf5.get (i:=2) (by omega)
   refine ⟨_,rfl,L,dx,_,rfl,hi5,lkN _ (by decide +kernel),_,rfl,_,rfl,.inl ⟨fa,fvs5,1,y1,rfl,rfl,hs5,ey1,_,rfl,.inl ⟨fa,fvs6,2,y2,rfl,rfl,hs6,ey2,?_⟩⟩⟩
   refine ⟨y1,y2,(g[1]?).getD qK,(g[2]?).getD qK,rfl,ry1,ry2,fG (kgD 1).wf,fG (kgD 2).wf,by have:=(kgD 1).dep;omega,fun jv H7 o7 r7=>?_⟩
   have lk7:=lk5.old o7
   refine ⟨L,kd,wd,ks,ws',y,jv,n,rfl,lk7,by omega,rn.mono o7.tm,?_⟩
   exact ⟨_,_,rfl,(o5.trans (Out.old o7)).trans Out.putW,lk7.putW,Nat.le_trans (bj _ _ _) (by omega)⟩
  ·intro σ H5 hv
   obtain ⟨k,ws',rfl,o5,lk5,l5⟩:=hv
   exact qn e ws' H5 ((Out.old o2).trans o5) lk5 l5
 ·rw [tk_p,tk_p] at hd
  exact qe way e d H1 o1 ⟨u2,u1,yv,ru2.mono o1.tm,ru1.mono o1.tm,ry,hd⟩
end
end L2.K33
end
section
namespace L2.K33
open PySem PySem.Spec PyProof.Rows L2.Bw L2.Bk L2.Ex
section
variable {P:Program} {w:World} {K:W.Frag} {mg:Str→Option Value} {base:Heap} {f:Addr} {fd:FuncData}
theorem fO {tt:TT} {ta tb:TS} {D:eO} {σ:St} {H:Hp} (B:Prop) [Decidable B] (h:∀ R:Bool→Hp→Prop,R (decide B) H→tt σ H R) (h1:B→ta D σ H) (h2:¬ B→tb D σ H):tIfS tt ta tb D σ H:=h _ (by
 by_cases c:B
 ·rw [decide_eq_true c];exact a9 (h1 c)
 ·rw [decide_eq_false c];exact aU (h2 c))
abbrev jA:Stmt:=im (top 39) 2
def plK (ps:List Tk):Int:=((ps[1]?).map Tk.p).getD 0
def spHold (K:W.Frag) (C Cp:Addr):Sp:=fun vs H Q E=>∃ (L kd wd fa:Addr) (ks ws:List (Key×V)) (tv nv:V) (t n:Tk) (g:List Kn),vs = [.ref L,tv,nv,.ref fa]∧bZ C H L kd wd ks ws∧ws.length≤990∧RK K H t.tn.d tv∧t.tn.wf∧RK K H n.tn.d nv∧n.tn.wf∧Fd K H fa g∧g≠[]∧(∀ k∈g,Kg k 4)∧(∀ k∈t.ks,Kg k 4) ∧
 (t.w = "call"→g.length=2→(g.headD qK).hd = "?"∨(g.headD qK).hd = "to")∧(t.w = "if"→g.length=3→t.ps[2]? = some n) ∧
 (br t.w t.p (plK t.ps) n.p t.ks g=none→∀ ws' H',Out kd wd H H'→bZ C H' L kd wd ks ws'→ws'.length≤ws.length+2→Q .non H') ∧
 (∀ r,br t.w t.p (plK t.ps) n.p t.ks g=some r→∀ d H',Old H H'→RfR K H' d r→(∀ z,clsR Cp z r=Cp)→E (.ref Cp) (some d) H')
theorem scHold:aF ["self","tree","node","found","kind"] ["self","tree","node","found"] (aw jA):=⟨rfl,rfl,rfl,by decide +kernel,rfl,by decide +kernel,by decide +kernel⟩
theorem ok_Hold {m:Nat} {C Cp:Addr} (F:Fun K "hold" "Looker.hold" jA f fd) (T:Tx mg) (cl_Looker:Cls K C) (M_want:CalM P w K mg base C "want" ["self","node","kind"] 1 (iI K C)) (M_hold_choice:eC P w K mg base C "hold_choice" ["self","tree","found"] 11 (spHC K C Cp)) (c_wanted_kind:Cal P w K mg base "wanted_kind" ["tree","found"] 4 (spWa K))
 (c_need_same:gK P w K mg base "need_same" ["node","kind","against","wanted"] 10 (spSm K Cp)):aY P w K mg base (CXF P w) (m+12) f fd ["self","tree","node","found"] (spHold K C Cp):=by
 refine dw F scHold (fun vs H Q E h=>?_) (fun cdv A outer s H vs Q E hr h=>?_)
 ·obtain ⟨L,kd,wd,fa,ks,ws,tv,nv,t,n,g,rfl,_⟩:=h
  rfl
 obtain ⟨L,kd,wd,fa,ks,ws,tv,nv,t,n,g,rfl,lk,few,rt,wt,rn,wn,hf,gn,kg,kks,hc,h3,qn,qe⟩:=h
 have nd:=scHold.nd
 obtain ⟨x,p,fr,cs,ps⟩:=t
 have rt':RK K H (Tn.mk x p fr (Kn.ds cs) (Tk.tns ps)).d tv:=rt
 obtain ⟨⟨hx,lf,lm,lp,_⟩,_⟩:=(show (Tn.mk x p fr (Kn.ds cs) (Tk.tns ps)).wf from wt)
 rw [aM] at lp
 obtain ⟨a,uf,um,up,rfl,ha,_⟩:=RK.node rt'
 have qn':br x p (plK ps) n.p cs g=none→∀ ws' H',Out kd wd H H'→bZ C H' L kd wd ks ws'→ws'.length≤ws.length+2→Q .non H':=qn
 have qe':∀ r,br x p (plK ps) n.p cs g=some r→∀ d H',Old H H'→RfR K H' d r→(∀ z,clsR Cp z r=Cp)→E (.ref Cp) (some d) H':=qe
 have kgD:∀ i,Kg ((g[i]?).getD qK) 4:=fun i=>ci (by omega) kg i
 have kgl:Kg (g.getLastD qK) 4:=eX (by omega) kg
 have kw:Kg (bq x cs g) 4:=j3 kks kg
 obtain ⟨fvs,hfa,rfs⟩:=hf.ex
 have hs:SqL K H fa fvs:=SqL.of hfa
 have ll:=rfs.length
 rw [aH] at ll
 have len3:decide ((fvs.length:Int)=3)=decide (g.length=3):=decide_eq_decide.mpr ⟨fun e=>by omega,fun e=>by omega⟩
 obtain ⟨dx,hi⟩:=lk.hi
 refine' ⟨_,?n0,?Z⟩
 case' n0=>refine' ah ?N1
 case' N1=>refine' aC ?N2 ?N3 ?N4
 case' N2=>refine' PW.pt ?N5
 case' N5=>refine' bG ?N6 ?N7
 case' N6=>refine' ak (ax hr) ?N8 aj (am _)
 case N8=>exact al ai (pv 1) ac (fun _ _=>rfl)
 case N7=>exact bu (ak (ax hr) (aQ (bd) rfl T.len boot_len (pa (pv 3) ad)) ac (am _))
 case' N3=>refine' ah ?N9
 case' N9=>refine' bD ?Na
 case Na=>exact gS M_hold_choice cl_Looker hr (pv 0) (pa (pv 1) (pa (pv 3) ad))
 case' N4=>refine' ae ?Nb ?Nc
 case Nb=>exact aA (i:=4) nd rfl (Or.inl rfl) rfl (by first | exact .inl rfl | exact .inr rfl) (az c_wanted_kind hr (pa (pv 1) (pa (pv 3) ad)))
 case' Nc=>refine' ae ?Nd ?Ne
 case' Nd=>refine' bD ?Nf
 case' Nf=>refine' fi c_need_same hr ?Ng
 case' Ng=>refine' pa (pv 2) ?Nh
 case' Nh=>refine' pa ?Ni (pa (pv 1) (pa (pv 4) ad))
 case' Ni=>refine' al ai (pv 3) ?Nj (fun _ _=>rfl)
 case Nj=>exact lC iL ac
 case' Ne=>refine' ah ?Nk
 case' Nk=>refine' bD ?Nl
 case Nl=>exact pe_mth M_want cl_Looker hr (pv 0) (pa (pv 2) (pa (pv 4) ad))
 have rest:¬ (x = "if"∧g.length=3)→br x p (plK ps) n.p cs g=((g.getLastD qK).part (bq x cs g)).map (fun way=>.par n.p (g.getLastD qK) p (bq x cs g) way):=fun z=>by unfold br;exact if_neg z
 refine fO (x = "if"∧g.length=3) (fun R hR=>?_) (fun c=>?_) (fun c=>?_)
 ·refine ⟨_,rfl,.inr (.inl ⟨a,_,0,.str x,rfl,rfl,ha.sq,at0,.inr (.inl ⟨rfl,_,rfl,?_⟩)⟩)⟩
  rw [aI]
  by_cases c1:x = "if"
  ·rw [decide_eq_true c1]
   refine a9 ⟨_,rfl,.inl ⟨fa,fvs,rfl,.inl hs,.inr (.inl ⟨rfl,_,rfl,?_⟩)⟩⟩
   rw [cF,len3]
   rw [show decide (x = "if"∧g.length=3)=decide (g.length=3) from decide_eq_decide.mpr ⟨fun z=>z.2,fun z=>⟨c1,z⟩⟩] at hR
   exact hR
  ·rw [decide_eq_false c1]
   rw [decide_eq_false (show ¬ (x = "if"∧g.length=3) from fun z=>c1 z.1)] at hR
   exact aU hR
 ·obtain ⟨c1,c2⟩:=c
  have lp3:=lp (by rw [c1];decide +kernel)
  rw [c1,de.2.2.2.2.2.2.1] at lp3
  obtain ⟨n0,n1,n2,rfl⟩:=lF lp3
  have en:n2=n:=Option.some.inj (h3 c1 c2)
  have eh:br x p (plK [n0,n1,n2]) n.p cs g=(((g[2]?).getD qK).part ((g[1]?).getD qK)).map fun way=>.par n.p ((g[2]?).getD qK) n1.p ((g[1]?).getD qK) way:=by unfold br;exact if_pos ⟨c1,c2⟩
  refine ⟨_,rfl,L,dx,_,rfl,hi,lkN _ (by decide +kernel),_,rfl,_,rfl,?_⟩
  refine ⟨L,kd,wd,fa,ks,ws,.ref a,Tk.mk x p fr cs [n0,n1,n2],n0,n1,n2,g,rfl,lk,few,rt,wt,c1,rfl,hf,c2,kg,fun e ws' H' o l1 l2=>qn' (by rw [eh,e];rfl) ws' H' o l1 l2,fun way e d H' o r=>qe' (.par n.p ((g[2]?).getD qK) n1.p ((g[1]?).getD qK) way) (by rw [eh,e];rfl) d H' o (by rw [← en];exact r) (fun _=>rfl)⟩
 ·have eh:=rest c
  refine ⟨_,rfl,_,rfl,.ref a,fa,Tk.mk x p fr cs ps,g,rfl,rt,wt,hf,gn,kg,hc,fun wv H1 o1 rw1=>?_⟩
  obtain ⟨fvs2,u2,hs2,_,eu2,ru2⟩:=(hf.old o1).last gn
  refine ⟨nv,rfl,_,rfl,_,rfl,.inl ⟨fa,fvs2,-1,u2,rfl,rfl,hs2,eu2,_,rfl,_,rfl,?_⟩⟩
  refine ⟨nv,u2,.ref a,wv,n.tn,(Tk.mk x p fr cs ps).tn,g.getLastD qK,bq x cs g,rfl,rn.mono o1.tm,wn,rt.mono o1.tm,wt,ru2,rw1,kgl.wf,kw.wf,by have:=kgl.dep;omega,fun e H2 o2=>?_,fun way e d yv H2 o2 ry hd=>?_⟩
  ·have lk2:=(lk.old o1).old o2
   obtain ⟨dx,hi⟩:=lk2.hi
   refine ⟨_,rfl,L,dx,_,rfl,hi,lkN _ (by decide +kernel),_,rfl,_,rfl,L,kd,wd,ks,ws,nv,wv,n.tn,rfl,lk2,by omega,(rn.mono o1.tm).mono o2.tm,?_⟩
   exact qn' (by rw [eh,e];rfl) _ _ ((Out.old (o1.trans o2)).trans Out.putW) lk2.putW (Nat.le_trans (bj _ _ _) (by omega))
  ·rw [tk_p,tk_p] at hd
   exact qe' (.par n.p (g.getLastD qK) p (bq x cs g) way) (by rw [eh,e];rfl) d H2 (o1.trans o2) ⟨u2,wv,yv,ru2.mono o2.tm,rw1.mono o2.tm,ry,hd⟩ (fun _=>rfl)
end
end L2.K33
end
section
namespace L2.K33
open PySem PySem.Spec PyProof.Rows L2.Bw L2.Bk L2.Ex
section
variable {P:Program} {w:World} {K:W.Frag} {mg:Str→Option Value} {base:Heap} {f:Addr} {fd:FuncData}
theorem bZ.upd {C L kd wd b:Addr} {H:Hp} {ks ws:List (Key×V)} {o:HO} (l:bZ C H L kd wd ks ws) (n1:L≠b) (n2:kd≠b) (n3:wd≠b):bZ C (upd H b o) L kd wd ks ws:=
 ⟨let ⟨dx,e⟩:=l.hi;⟨dx,by rw [au n1];exact e⟩,by rw [au n2];exact l.hk,by rw [au n3];exact l.hw,l.hn⟩
theorem jZ {ks:List Kn} {us:List V} {H:Hp} {i:Nat} {v:V} (h:RKs K H (Kn.ds ks) us) (e:us[i]? = some v):∃ hi:i<ks.length,RK K H ks[i].d v:=by
 obtain ⟨d,ed,rd⟩:=h.getV e
 have hi:i<ks.length:=by
  have:=(List.getElem?_eq_some_iff.mp ed).1
  rw [aH] at this
  exact this
 rw [b7 hi] at ed
 cases ed
 exact ⟨hi,rd⟩
theorem fJ:∀ {ks:List Kn} {k:Kn},k∈ks→Kn.wfs ks→k.wf
 | _ :: _,_,.head _,h=>h.1
 | _ :: _,_,.tail _ m,h=>fJ m h.2
theorem ig:∀ {ks:List Kn} {k:Kn},k∈ks→k.dep≤Kn.deps ks
 | k :: r,_,.head _=>by show k.dep≤max k.dep (Kn.deps r);omega
 | k :: r,z,.tail _ m=>by
   have:=ig m
   show z.dep≤max k.dep (Kn.deps r);omega
theorem ds_app (g:List Kn) (k:Kn):Kn.ds (g ++ [k])=Kn.ds g ++ [k.d]:=by
 induction g with
 | nil=>rfl
 | cons a r ih=>show a.d :: Kn.ds (r ++ [k])=a.d :: (Kn.ds r ++ [k.d]);rw [ih]
abbrev jB:Stmt:=im (top 39) 1
structure Lkb (t:Tk) (e:Nv) (bs:List Str):Prop where
 wf:t.tn.wf
 ok:t.ok
 dos:t.dos
 eok:e.ok
 has:e.has bs
 free:t.tn.frees bs = []
def gi (K:W.Frag) (C Cp Ct:Addr) (m:Nat):Sp:=fun vs H Q E=>∃ (L kd wd b:Addr) (ks ws kvs:List (Key×V)) (tv:V) (t:Tk) (e:Nv) (bs:List Str),vs = [.ref L,tv,.ref b]∧bZ C H L kd wd ks ws∧b≠kd∧b≠wd∧ks.length+t.cnt≤980∧ws.length+2 * t.cnt≤980∧RK K H t.tn.d tv∧Lkb t e bs∧H b=some (.dK kvs)∧kvs.length+2 * t.tn.dep≤1000∧dG K H kvs e∧t.tn.dep≤m ∧
 (∀ k,t.lk e = .ok k→Kg k 4→∀ kv ks' ws' H',Out kd wd H H'→bZ C H' L kd wd (putK ks' (.inl t.p) kv) ws'→(putK ks' (.inl t.p) kv).length≤ks.length+t.cnt→ws'.length+2≤ws.length+2 * t.cnt→RK K H' k.d kv→Q kv H') ∧
 (∀ r,t.lk e = .error r→∀ d H',Out kd wd H H'→RfR K H' d r→E (.ref (clsR Cp Ct r)) (some d) H')
theorem scLook:aF ["self","tree","bound","kind","found","number","node","own"] ["self","tree","bound"] (aw jB):=⟨rfl,rfl,rfl,by decide +kernel,rfl,by decide +kernel,by decide +kernel⟩
theorem ok_Look {m:Nat} {C Cp Ct:Addr} (F:Fun K "look" "Looker.look" jB f fd) (T:Tx mg) (cl_Looker:Cls K C) (a_kinds:cf K C "kinds") (M_hold:eC P w K mg base C "hold" ["self","tree","node","found"] 12 (spHold K C Cp)) (M_look:eC P w K mg base C "look" ["self","tree","bound"] (m+12) (gi K C Cp Ct m))
 (c_written:Cal P w K mg base "written" ["tree"] 3 (spWr K)) (c_need_shallow:gK P w K mg base "need_shallow" ["tree","kind"] 11 (spN0 K Ct)) (c_parts:Cal P w K mg base "parts" ["tree"] 3 (gW K)) (c_bound_within:Cal P w K mg base "bound_within" ["tree","number","found","bound"] 1 (spBW K)) (c_own_kind:Cal P w K mg base "own_kind" ["tree","found","bound"] 10 (spOw K)) :
 aY P w K mg base (CXF P w) (m+13) f fd ["self","tree","bound"] (gi K C Cp Ct (m+1)):=by
 refine dw F scLook (fun vs H Q E h=>?_) (fun cdv A outer s H vs Q E hr h=>?_)
 ·obtain ⟨L,kd,wd,b,ks,ws,kvs,tv,t,e,bs,rfl,_⟩:=h
  rfl
 obtain ⟨L,kd,wd,b,ks,ws,kvs,tv,t,e,bs,rfl,lk,nbk,nbw,fk,fw,rt,N,hb,lkv,he,hd,qk,qr⟩:=h
 have nd:=scLook.nd
 obtain ⟨x,p,fr,cs,ps⟩:=t
 have rt':RK K H (Tn.mk x p fr (Kn.ds cs) (Tk.tns ps)).d tv:=rt
 have wt:=N.wf
 obtain ⟨⟨hx,lf,lm,lp,l5p,hn,hp01⟩,wps⟩:=(show (Tn.mk x p fr (Kn.ds cs) (Tk.tns ps)).wf from N.wf)
 obtain ⟨⟨wks,dks,flt,nlk⟩,oks⟩:=N.ok
 obtain ⟨hdo,doss⟩:=N.dos
 obtain ⟨fnm,fps⟩:=kT N.free
 have hcnt:(Tk.mk x p fr cs ps).cnt=1+Tk.cnts ps:=rfl
 have hdep:(Tk.mk x p fr cs ps).tn.dep=1+Tn.deps (Tk.tns ps):=rfl
 rw [hcnt] at fk fw
 rw [hdep] at lkv hd
 rw [aM] at lp l5p
 have nm1:x∈dQ→fr=(txs fr).map Dk.str∧(txs fr).length=K11.nf x:=fun z=>by
  obtain ⟨ns,rfl⟩:=hn z
  rw [hJ]
  exact ⟨rfl,by rw [List.length_map] at lf;exact lf⟩
 obtain ⟨a,uf,um,up,rfl,ha,_⟩:=RK.node rt'
 obtain ⟨dx0,hi0⟩:=lk.hi
 refine' ⟨_,?n0,?Z⟩
 case' n0=>refine' ae ?N1 ?N2
 case' N1=>refine' j9 rfl ?N3 ?N4 ?N5
 case N3=>exact dC (az c_written hr (pa (pv 1) ad))
 case N4=>exact aZ (i:=3) nd rfl (Or.inl rfl)
 case' N5=>refine' ah ?N6
 case' N6=>refine' bD ?N7
 case N7=>exact fi c_need_shallow hr (pa (pv 1) (pa (pv 3) ad))
 case' N2=>refine' ae ?N8 ?N9
 case N8=>exact aA (i:=4) nd rfl (Or.inl rfl) rfl (by first | exact .inl rfl | exact .inr rfl) (bt ad)
 case' N9=>refine' ae ?Na ?Nb
 case' Na=>refine' j9 rfl ?Nc ?Nd ?Ne
 case Nc=>exact fu rfl T.enumerate (pa (az c_parts hr (pa (pv 1) ad)) ad)
 case' Nd=>refine' iB rfl ?Nf
 case' Nf=>refine' bL ?Ng ?Nh
 case Ng=>exact aZ (i:=5) nd rfl (Or.inl rfl)
 case' Nh=>refine' bL ?Ni fq
 case Ni=>exact aZ (i:=6) nd rfl (Or.inl rfl)
 case' Ne=>refine' ae ?Nj ?Nk
 case' Nj=>refine' bD ?Nl
 case' Nl=>refine' pe_bm PySem.F.plainAttrs_list PySem.F.slot_list_append PySem.F.type_list_append d0 (pv 4) ?Nm
 case' Nm=>refine' pa ?Nn ad
 case Nn=>exact gS M_look cl_Looker hr (pv 0) (pa (pv 6) (pa (az c_bound_within hr (pa (pv 1) (pa (pv 5) (pa (pv 4) (pa (pv 2) ad))))) ad))
 case' Nk=>refine' ah ?No
 case' No=>refine' bD ?Np
 case Np=>exact gS M_hold cl_Looker hr (pv 0) (pa (pv 1) (pa (pv 6) (pa (pv 4) ad)))
 case' Nb=>refine' ae ?Nq ?Nr
 case Nq=>exact aA (i:=7) nd rfl (Or.inl rfl) rfl (by first | exact .inl rfl | exact .inr rfl) (az c_own_kind hr (pa (pv 1) (pa (pv 4) (pa (pv 2) ad))))
 case' Nr=>refine' ae ?Ns ?Nt
 case' Ns=>refine' bD ?Nu
 case Nu=>exact fi c_need_shallow hr (pa (pv 1) (pa (pv 7) ad))
 case' Nt=>refine' ae ?Nv ?Nw
 case' Nv=>refine' dD hr.u1 (j7 (pv 0) rfl) ?Nx (pv 7) rfl
 case Nx=>exact al ai (pv 1) ac (fun _ _=>rfl)
 case' Nw=>refine' ah ?Ny
 case Ny=>exact ao (pv 7)
 refine ⟨_,rfl,.ref a,(Tk.mk x p fr cs ps).tn,rfl,rt,wt,nlk,fun r us H1 o1 hr0 hr1 rus=>⟨r,rfl,.inl ⟨⟨_,SqL.of hr1⟩,?_⟩⟩⟩
 have rus':RKs K H1 (Kn.ds cs) us:=rus
 have lus:=rus'.length
 rw [aH] at lus
 refine dM (n:=us.length) (fun i σ H2=>∃ (k3:Option V),σ = [some (.ref L),some (.ref a),some (.ref b),k3,none,none,none,none]∧Old H1 H2∧∀ (j:Nat) (hj:j<cs.length),j<i→cs[j].dep≤4) ⟨none,rfl,Old.refl _,fun j _ z=>absurd z (Nat.not_lt_zero _)⟩ ?_ ?_ ?_ ?_
 ·intro i σ H2 hi hv
  obtain ⟨k3,rfl,o2,_⟩:=hv
  exact ⟨_,_,SqL.of (o2 _ _ hr1),List.getElem?_eq_getElem hi⟩
 ·intro σ H2 hv
  obtain ⟨k3,rfl,o2,_⟩:=hv
  exact ⟨_,SqL.of (o2 _ _ hr1),Nat.le_refl _⟩
 ·intro i σ H2 hi hv y H3 hy
  obtain ⟨k3,rfl,o2,lo⟩:=hv
  obtain ⟨e1,hyx⟩:=hy
  subst e1
  have ey:=hyx _ (SqL.of (o2 _ _ hr1))
  obtain ⟨hz,rz⟩:=jZ rus' ey
  have mem:cs[i]∈cs:=List.getElem_mem hz
  refine ⟨_,rfl,_,rfl,_,y,(Tk.mk x p fr cs ps).tn,cs[i],rfl,rt.mono (o1.trans o2).tm,wt,rz.mono o2.tm,fG (fJ mem wks),by have:=ig mem;omega,fun c4 H4 o4=>⟨_,rfl,o2.trans o4,fun j hj lj=>?_⟩,fun c4 d H4 o4 hd4=>?_⟩
  ·by_cases c:j<i
   ·exact lo j hj c
   ·obtain rfl:j=i:=by omega
    omega
  ·refine qr (.deep p) ?_ d H4 (Out.old ((o1.trans o2).trans o4)) hd4
   rw [lk_eq,if_pos (List.any_eq_true.mpr ⟨_,mem,decide_eq_true c4⟩)]
 intro σ H2 hv
 obtain ⟨k3,rfl,o2,lo⟩:=hv
 have kcs:∀ k∈cs,Kg k 4:=fun k hk=>by
  obtain ⟨j,hj,ej⟩:=List.getElem_of_mem hk
  have:=lo j hj (by omega)
  rw [ej] at this
  exact ⟨fJ hk wks,this⟩
 have elk:(Tk.mk x p fr cs ps).lk e=match Tk.lks x p (plK ps) fr cs ps 0 e [] with
  | .error r=>.error r
  | .ok f=>if 4<(ba x fr cs f e).dep then .error (.deep p) else .ok (ba x fr cs f e):=by
  rw [lk_eq,if_neg]
  ·rfl
  ·intro z
   obtain ⟨k,hk,dk⟩:=List.any_eq_true.mp z
   have:=(kcs k hk).dep
   have:=of_decide_eq_true dk
   omega
 refine ⟨by show 0≤sizeLine;decide,fun fa hfa=>?_⟩
 have o3:Old H (upd H2 fa (.lst [])):=(o1.trans o2).trans (Old.new hfa)
 have hf3:upd H2 fa (.lst []) fa=some (.lst []):=ag
 have hfa0:H fa=none:=(o1.trans o2).free hfa
 have nL:L≠fa:=ap hi0 hfa0
 have nK:kd≠fa:=ap lk.hk hfa0
 have nW:wd≠fa:=ap lk.hw hfa0
 have nB:b≠fa:=ap hb hfa0
 revert o3 hf3
 generalize upd H2 fa (.lst [])=H3
 intro o3 hf3
 refine ⟨_,rfl,.ref a,(Tk.mk x p fr cs ps).tn,rfl,rt.mono o3.tm,wt,fun r2 us2 H4 o4 hr4 hr5 rus2=>⟨r2,us2,rfl,hr5,?_⟩⟩
 have rus3:RKs K H4 (Tn.ds (Tk.tns ps)) us2:=rus2
 have l2:ps.length=us2.length:=by
  have:=rus3.length
  rw [b8,aM] at this
  exact this
 have o5:=o3.trans o4
 have lk4:=lk.old o5
 have nr2:r2≠fa:=fun z=>by rw [z,hf3] at hr4;cases hr4
 have out4:Out kd wd H H4:=Out.old o5
 refine dM (n:=us2.length) (fun i σ H5=>∃ (k5 k6:Option V) (g:List Kn) (ks5 ws5:List (Key×V)),σ = [some (.ref L),some (.ref a),some (.ref b),k3,some (.ref fa),k5,k6,none]∧Out kd wd H H5∧Tm H4 H5∧H5 r2=some (.lst us2)∧bZ C H5 L kd wd ks5 ws5∧Fd K H5 fa g∧g.length=i∧(∀ k∈g,Kg k 4)∧(g≠[]→Fit x g)∧Tk.lks x p (plK ps) fr cs ps 0 e []=Tk.lks x p (plK ps) fr cs (ps.drop i) i e g∧ks5.length+Tk.cnts (ps.drop i)≤ks.length+Tk.cnts ps∧ws5.length+2 * Tk.cnts (ps.drop i)≤ws.length+2 * Tk.cnts ps) ⟨none,none,[],ks,ws,rfl,out4,fun _ _ z=>z,hr5,lk4,⟨⟨[],o4 _ _ hf3,rfl⟩⟩,rfl,fun k z=>(nomatch z),fun z=>absurd rfl z,rfl,Nat.le_refl _,Nat.le_refl _⟩ ?_ ?_ ?_ ?_
 ·intro i σ H5 hi hv
  obtain ⟨k5,k6,g,ks5,ws5,rfl,out5,tm5,h2,_⟩:=hv
  exact ⟨_,SqL.of h2,hi⟩
 ·intro σ H5 hv
  obtain ⟨k5,k6,g,ks5,ws5,rfl,out5,tm5,h2,_⟩:=hv
  exact ⟨_,SqL.of h2,rfl⟩
 ·intro i σ H5 hi hv z H6 hy
  obtain ⟨k5,k6,g,ks5,ws5,rfl,out5,tm5,h2,lk5,hf5,lg,kg,fit,elks,fk5,fw5⟩:=hv
  have hi':i<ps.length:=by omega
  obtain ⟨T4,uv,rfl,hT4,rfl,hyx⟩:=hy
  have eu:us2[i]? = some uv:=hyx _ (SqL.of h2)
  have rn:RK K H4 ps[i].tn.d uv:=by
   obtain ⟨d,ed,rd⟩:=rus3.getV eu
   have e1:(Tk.tns ps)[i]'(by rw [aM];exact hi')=ps[i].tn:=by
    have:=gZ hi'
    rw [List.getElem?_eq_getElem (by rw [aM];exact hi')] at this
    exact Option.some.inj this
   rw [fD (by rw [aM];exact hi'),e1] at ed
   cases ed
   exact rd
  refine ⟨T4,_,rfl,SqT.of ag,rfl,_,_,rfl,_,_,rfl,rfl,?_⟩
  have o6:Old H5 (upd H5 T4 (.tup [.int (i:Int),uv])):=Old.new hT4
  revert o6
  generalize upd H5 T4 (.tup [.int (i:Int),uv])=H6
  intro o6
  have out6:=out5.trans (Out.old o6)
  have tm6:Tm H4 H6:=fun c xs e=>o6 _ _ (tm5 c xs e)
  have lk6:=lk5.old o6
  have hf6:=hf5.old o6
  have hb6:H6 b=some (.dK kvs):=out6 b _ nbk nbw hb
  have tmH6:Tm H H6:=Out.tm lk out6
  obtain ⟨dx,hi6⟩:=lk6.hi
  obtain ⟨fv6,hfv6,_⟩:=hf6.ex
  refine ⟨_,rfl,.inl ⟨rfl,_,SqL.of hfv6⟩,_,rfl,L,dx,_,rfl,hi6,lkN _ (by decide +kernel),_,rfl,_,rfl,_,rfl,_,rfl,_,rfl,?_⟩
  refine ⟨.ref a,Tk.mk x p fr cs ps,i,fa,b,g,kvs,e,rfl,rt.mono tmH6,wt,hf6,(fun _ z1 z2=>by rw [z2,z1] at lg;cases lg),hb6,by omega,he.mono tmH6,fun r3 kvs' H7 o7 hr3 hr3' lkv' he7=>?_⟩
  have lk7:=lk6.old o7
  have out7:=out6.trans (Out.old o7)
  have tm7:Tm H4 H7:=fun c xs e=>o7 _ _ (tm6 c xs e)
  have hf7:=hf6.old o7
  have rn7:=rn.mono tm7
  have cd:=cnts_drop hi'
  have dn:=fS hi'
  have cp:=cnt_pos ps[i]
  have h27:H7 r2=some (.lst us2):=o7 _ _ (o6 _ _ h2)
  have elk2:Tk.lks x p (plK ps) fr cs (ps.drop i) i e g=match ps[i].lk (bwK x fr cs g i e) with
   | .error r=>.error r
   | .ok k=>match br x p (plK ps) ps[i].p cs (g ++ [k]) with
     | some r=>.error r
     | none=>Tk.lks x p (plK ps) fr cs (ps.drop (i+1)) (i+1) e (g ++ [k]):=by
   rw [List.drop_eq_getElem_cons hi']
   exact la _ _ _ _ _ _ _ _ _ _
  refine ⟨L,kd,wd,r3,ks5,ws5,kvs',uv,ps[i],bwK x fr cs g i e,bs ++ bnd x (txs fr) i,rfl,lk7,Ne.symm (ap lk6.hk hr3),Ne.symm (ap lk6.hw hr3),by omega,by omega,rn7,⟨e8 hi' wps,iy hi' oks,ii hi' doss,nv_bw kcs kg N.eok,has_bw N.has nm1,fps hi'⟩,hr3',by omega,he7,by omega,fun k ek kgk kv ks8 ws8 H8 out8 lk8 l8 l8w rk=>?_,fun r er d H8 out8 rf=>?_⟩
  ·have hf8:=Out.fnd lk7 out8 hf7
   obtain ⟨fvs,hfa8,rfs8⟩:=hf8.ex
   have lfv:=rfs8.length
   rw [aH] at lfv
   refine ⟨fa,fvs,kv,rfl,rfl,hfa8,bE (by omega),?_⟩
   have h28:H8 r2=some (.lst us2):=out8 r2 _ (fun z=>by rw [z,lk7.hk] at h27;cases h27) (fun z=>by rw [z,lk7.hw] at h27;cases h27) h27
   have tm8:Tm H7 H8:=Out.tm lk7 out8
   have tm9:Tm H8 (upd H8 fa (.lst (fvs ++ [kv]))):=fun c xs e=>by rw [au (fun z=>by rw [z,hfa8] at e;cases e)];exact e
   have lk9:bZ C (upd H8 fa (.lst (fvs ++ [kv]))) L kd wd _ ws8:=lk8.upd nL nK nW
   have h29:upd H8 fa (.lst (fvs ++ [kv])) r2=some (.lst us2):=by rw [au nr2];exact h28
   have fd9:Fd K (upd H8 fa (.lst (fvs ++ [kv]))) fa (g ++ [k]):=⟨⟨_,ag,by
    rw [ds_app]
    exact RKs.append (rfs8.mono tm9) (.cons (rk.mono tm9) .nil)⟩⟩
   have out9:Out kd wd H (upd H8 fa (.lst (fvs ++ [kv]))):=fun c o n1 n2 e=>by
    rw [au (ap e hfa0)]
    exact (out7.trans out8) c o n1 n2 e
   have tm49:Tm H4 (upd H8 fa (.lst (fvs ++ [kv]))):=fun c xs e=>tm9 _ _ (tm8 _ _ (tm7 c xs e))
   revert lk9 h29 fd9 out9 tm49
   generalize upd H8 fa (.lst (fvs ++ [kv]))=H9
   intro lk9 h29 fd9 out9 tm49
   have gl1:(g ++ [k]).length=i+1:=by rw [List.length_append,lg];rfl
   have gne:g ++ [k]≠[]:=by simp
   have kg':∀ z∈g ++ [k],Kg z 4:=fun z hz=>by
    rcases List.mem_append.mp hz with hz | hz
    ·exact kg z hz
    ·rw [List.mem_singleton.mp hz];exact kgk
   obtain ⟨dx1,hi9⟩:=lk9.hi
   have tmH9:Tm H H9:=Out.tm lk out9
   refine ⟨_,rfl,L,dx1,_,rfl,hi9,lkN _ (by decide +kernel),_,rfl,_,rfl,_,rfl,?_⟩
   refine ⟨L,kd,wd,fa,_,ws8,.ref a,uv,Tk.mk x p fr cs ps,ps[i],g ++ [k],rfl,lk9,by omega,rt.mono tmH9,wt,rn.mono tm49,e8 hi' wps,fd9,gne,kg',kcs,fun c1 c2=>?_,fun c1 c2=>?_,fun eh ws' H10 out10 lk10 lw=>?_,fun r eh d H10 o10 rf cl=>?_⟩
   ·have gn:g≠[]:=fun z=>by rw [z] at c2;cases c2
    have:=eU gn k (fit gn) (.mk "to" [qK,qK]) (by rw [show x = "call" from c1];rfl)
    exact this
   ·rw [gl1] at c2
    obtain rfl:i=2:=by omega
    exact List.getElem?_eq_getElem hi'
   ·have eh':br x p (plK ps) ps[i].p cs (g ++ [k])=none:=eh
    have h210:H10 r2=some (.lst us2):=out10 r2 _ (fun z=>by rw [z,lk9.hk] at h29;cases h29) (fun z=>by rw [z,lk9.hw] at h29;cases h29) h29
    have tm10:=Out.tm lk9 out10
    refine ⟨_,_,g ++ [k],_,ws',rfl,out9.trans out10,fun c xs e=>tm10 _ _ (tm49 c xs e),h210,lk10,Out.fnd lk9 out10 fd9,gl1,kg',fun _=>?_,?_,by omega,by omega⟩
    ·by_cases gn:g = []
     ·subst gn
      exact jd eh'
     ·exact eU gn k (fit gn)
    ·rw [elks,elk2,ek]
     show (match br x p (plK ps) ps[i].p cs (g ++ [k]) with | some r=>Except.error r | none=>Tk.lks x p (plK ps) fr cs (ps.drop (i+1)) (i+1) e (g ++ [k]))=_
     rw [eh']
   ·have eh':br x p (plK ps) ps[i].p cs (g ++ [k])=some r:=eh
    have z:=qr r (by
     rw [elk,elks,elk2,ek]
     show (match (match br x p (plK ps) ps[i].p cs (g ++ [k]) with | some r=>Except.error r | none=>Tk.lks x p (plK ps) fr cs (ps.drop (i+1)) (i+1) e (g ++ [k])) with | .error r=>Except.error r | .ok f=>if 4<(ba x fr cs f e).dep then .error (.deep p) else .ok (ba x fr cs f e))=_
     rw [eh']) d H10 (out9.trans (Out.old o10)) rf
    rw [cl Ct] at z
    exact z
  ·refine qr r ?_ d H8 (out7.trans out8) rf
   rw [elk,elks,elk2,er]
 ·intro σ H5 hv
  obtain ⟨k5,k6,g,ks5,ws5,rfl,out5,tm5,h2,lk5,hf5,lg,kg,fit,elks,fk5,fw5⟩:=hv
  rw [← l2,List.drop_length] at elks fk5 fw5
  rw [lks_nil] at elks
  have c0:Tk.cnts []=0:=rfl
  rw [c0] at fk5 fw5
  have tmH5:=Out.tm lk out5
  have hb5:H5 b=some (.dK kvs):=out5 b _ nbk nbw hb
  have kgo:Kg (ba x fr cs g e) 5:=kg_own kcs kg N.eok
  refine ⟨_,rfl,_,rfl,_,rfl,.ref a,fa,b,Tk.mk x p fr cs ps,g,kvs,e,rfl,rt.mono tmH5,wt,nlk,hf5,lg.trans l2.symm,kg,?_,hdo,fun c=>N.has _ (fnm c),hb5,he.mono tmH5,fun kv H6 o6 rk=>?_⟩
  ·by_cases gn:g = []
   ·subst gn
    exact fun _ _=>.inl rfl
   ·exact fit gn
  have rk':RK K H6 (ba x fr cs g e).d kv:=rk
  refine ⟨_,rfl,_,rfl,.ref a,kv,(Tk.mk x p fr cs ps).tn,ba x fr cs g e,rfl,(rt.mono tmH5).mono o6.tm,wt,rk',fG kgo.wf,by have:=kgo.dep;omega,fun c4 H7 o7=>?_,fun c4 d H7 o7 hd7=>?_⟩
  ·have oF:=o6.trans o7
   have lk7:=lk5.old oF
   obtain ⟨dx,hi⟩:=lk7.hi
   have pl:=bj ks5 (.inl p:Key) kv
   refine ⟨_,rfl,_,rfl,L,C,dx,_,.ref kd,rfl,hi,cl_Looker,a_kinds,lkK,_,rfl,.inr (.inl ⟨a,_,1,.int p,rfl,rfl,((ha.mono tmH5).mono oF.tm).sq,at1,kd,_,rfl,hV.k (k:=.inl p) lk7.hk (bE (by omega)),?_⟩)⟩
   have out8:Out kd wd H7 (upd H7 kd (.dK (putK ks5 (.inl p) kv))):=Out.putK
   have tm8:=Out.tm lk7 out8
   refine ⟨_,rfl,qk (ba x fr cs g e) ?_ ⟨kgo.wf,by omega⟩ kv ks5 ws5 _ ((out5.trans (Out.old oF)).trans out8) lk7.putK ?_ ?_ ((rk'.mono o7.tm).mono tm8)⟩
   ·rw [elk,elks]
    exact if_neg c4
   ·rw [hcnt]
    exact Nat.le_trans pl (by omega)
   ·rw [hcnt];omega
  ·refine qr (.deep p) ?_ d H7 (out5.trans (Out.old (o6.trans o7))) hd7
   rw [elk,elks]
   exact if_pos c4
end
end L2.K33
end
section
namespace L2.K33
open PySem PySem.Spec PyProof.Rows L2.Bw L2.Bk L2.Ex
section
variable {P:Program} {w:World} {K:W.Frag} {mg:Str→Option Value} {base:Heap} {f:Addr} {fd:FuncData}
abbrev sLkd:Stmt:=top 37
def nv0:Nv:=fun _=>none
structure Lkp (t:Tk):Prop where
 wf:t.tn.wf
 ok:t.ok
 dos:t.dos
 free:t.tn.frees [] = []
 cnt:t.cnt≤400
 dep:t.tn.dep≤8
def spLkd (K:W.Frag) (Cp Ct:Addr):Sp:=fun vs H Q E=>∃ (tv:V) (t:Tk),vs = [tv]∧RK K H t.tn.d tv∧Lkp t ∧
 (∀ k,t.lk nv0 = .ok k→Kg k 4→∀ r kd wd kv ks' ws' H',Old H H'→RK K H' k.d kv→H' r=some (.tup [.ref kd,.ref wd])→H' kd=some (.dK (putK ks' (.inl t.p) kv))→H' wd=some (.dK ws')→Q (.ref r) H') ∧
 (∀ r,t.lk nv0 = .error r→∀ d H',Old H H'→RfR K H' d r→E (.ref (clsR Cp Ct r)) (some d) H')
theorem scLkd:aF ["tree","looker"] ["tree"] (aw sLkd):=⟨rfl,rfl,rfl,by decide +kernel,rfl,by decide +kernel,by decide +kernel⟩
theorem ok_Lkd {m:Nat} {C Cp Ct:Addr} (F:Fun K "looked" "looked" sLkd f fd) (T:Tx mg) (cl_Looker:Cls K C) (a_kinds:cf K C "kinds") (a_wanted:cf K C "wanted") (n_Looker:CalN P w K mg base "Looker" C 1 (spLI C)) (M_want:CalM P w K mg base C "want" ["self","node","kind"] 1 (iI K C)) (M_look:eC P w K mg base C "look" ["self","tree","bound"] 20 (gi K C Cp Ct 8))
 (c_need_names:Cal P w K mg base "need_names" ["tree"] 14 (spNN K 9)):aY P w K mg base (CXF P w) (m+21) f fd ["tree"] (spLkd K Cp Ct):=by
 refine dw F scLkd (fun vs H Q E h=>?_) (fun cdv A outer s H vs Q E hr h=>?_)
 ·obtain ⟨tv,t,rfl,_⟩:=h
  rfl
 obtain ⟨tv,t,rfl,rt,g,qn,qe⟩:=h
 have nd:=scLkd.nd
 have gd:=g.dep
 have gc:=g.cnt
 refine' ⟨_,?n0,?Z⟩
 case' n0=>refine' ae ?N1 ?N2
 case N1=>exact bD (az c_need_names hr (pa (pv 0) ad))
 case' N2=>refine' ae ?N3 ?N4
 case' N3=>refine' aA (i:=1) nd rfl (Or.inl rfl) rfl (by first | exact .inl rfl | exact .inr rfl) ?N5
 case N5=>exact pe_new n_Looker hr
 case' N4=>refine' ae ?N6 ?N7
 case' N6=>refine' bD ?N8
 case' N8=>refine' pe_mth M_want cl_Looker hr (pv 1) ?N9
 case' N9=>refine' pa (pv 0) ?Na
 case' Na=>refine' pa ?Nb ad
 case Nb=>exact gS M_look cl_Looker hr (pv 1) (pa (pv 0) (pa fj ad))
 case' N7=>refine' ah ?Nc
 case Nc=>exact ao (ay (pa (j7 (pv 1) rfl) (pa (j7 (pv 1) rfl) ad)))
 refine ⟨_,rfl,tv,t.tn,rfl,rt,g.wf,by omega,by omega,g.free,fun H1 o1=>?_⟩
 refine fun L dx hL hdx ne=>⟨L,dx,rfl,ag,fun kd wd H2 hk hw keep lk=>⟨rfl,?_⟩⟩
 have o2:Old H1 H2:=fun b o e=>keep b o (ap e hL) (by rw [au (ap e hL),au (ap e hdx)];exact e)
 obtain ⟨dx1,hi2⟩:=lk.hi
 refine ⟨_,rfl,L,dx1,_,rfl,hi2,lkN _ (by decide +kernel),_,rfl,_,rfl,L,dx1,_,rfl,hi2,lkN _ (by decide +kernel),_,rfl,fun b hb=>?_⟩
 have o3:Old H2 (upd H2 b (.dK [])):=Old.new hb
 have oB:=(o1.trans o2).trans o3
 have gone:∀ x,upd (upd H1 dx (.own L)) L (.ins C dx []) x=none→H x=none:=fun x h=>by
  have n1:x≠L:=fun z=>by rw [z,ag] at h;cases h
  rw [au n1] at h
  have n2:x≠dx:=fun z=>by rw [z,ag] at h;cases h
  rw [au n2] at h
  exact o1.free h
 have kd0:H kd=none:=gone kd hk
 have wd0:H wd=none:=gone wd hw
 have oOut:∀ {H':Hp},Out kd wd (upd H2 b (.dK [])) H'→Old H H':=fun o b' o' e=>o b' o' (ap e kd0) (ap e wd0) (oB b' o' e)
 have lk3:=lk.old o3
 refine ⟨L,kd,wd,b,[],[],[],tv,t,nv0,[],rfl,lk3,Ne.symm (ap lk.hk hb),Ne.symm (ap lk.hw hb),by show 0+_≤_;omega,by show 0+_≤_;omega,rt.mono oB.tm,⟨g.wf,g.ok,g.dos,fun x k z=>(nomatch z),fun x z=>(nomatch z),g.free⟩,ag,by show 0+_≤_;omega,fun x k z=>(nomatch z),gd,fun k ek kgk kv ks4 ws4 H4 out4 lk4 l4 l4w rk=>?_,fun r er d H4 out4 rf=>qe r er d H4 (oOut out4) rf⟩
 have l4w':ws4.length+2≤0+2 * t.cnt:=l4w
 refine ⟨L,kd,wd,_,_,tv,kv,t.tn,rfl,lk4,by omega,rt.mono (oOut out4).tm,?_⟩
 have out5:Out kd wd H4 (upd H4 wd (.dK (putK ws4 (.inl t.tn.p) kv))):=Out.putW
 have lk5:bZ C (upd H4 wd (.dK (putK ws4 (.inl t.tn.p) kv))) L kd wd (putK ks4 (.inl t.p) kv) (putK ws4 (.inl t.tn.p) kv):=lk4.putW
 have tm5:=Out.tm lk4 out5
 have ob:=oOut (out4.trans out5)
 obtain ⟨dx5,hi5⟩:=lk5.hi
 refine ⟨_,rfl,L,C,dx5,_,.ref kd,rfl,hi5,cl_Looker,a_kinds,lkK,_,rfl,L,C,dx5,_,.ref wd,rfl,hi5,cl_Looker,a_wanted,lkW,by show 2≤sizeLine;decide,fun r hr0=>?_⟩
 have o6:=Old.new (o:=.tup [.ref kd,.ref wd]) hr0
 exact qn k ek kgk r kd wd kv ks4 _ _ (ob.trans o6) ((rk.mono tm5).mono o6.tm) ag (o6 _ _ lk5.hk) (o6 _ _ lk5.hw)
abbrev sKo:Stmt:=top 38
def spKo (K:W.Frag) (Cp Ct:Addr):Sp:=fun vs H Q E=>∃ (tv:V) (t:Tk),vs = [tv]∧RK K H t.tn.d tv∧Lkp t∧(∀ k,t.lk nv0 = .ok k→Kg k 4→∀ kv H',Old H H'→RK K H' k.d kv→Q kv H')∧(∀ r,t.lk nv0 = .error r→∀ d H',Old H H'→RfR K H' d r→E (.ref (clsR Cp Ct r)) (some d) H')
theorem scKo:aF ["tree"] ["tree"] (aw sKo):=⟨rfl,rfl,rfl,by decide +kernel,rfl,by decide +kernel,by decide +kernel⟩
theorem ok_Ko {m:Nat} {Cp Ct:Addr} (F:Fun K "kind_of" "kind_of" sKo f fd) (T:Tx mg) (c_looked:gK P w K mg base "looked" ["tree"] 21 (spLkd K Cp Ct)):aY P w K mg base (CXF P w) (m+22) f fd ["tree"] (spKo K Cp Ct):=by
 refine dw F scKo (fun vs H Q E h=>?_) (fun cdv A outer s H vs Q E hr h=>?_)
 ·obtain ⟨tv,t,rfl,_⟩:=h
  rfl
 obtain ⟨tv,t,rfl,rt,g,qn,qe⟩:=h
 have nd:=scKo.nd
 obtain ⟨x,p,fr,cs,ps⟩:=t
 obtain ⟨a,uf,um,up,rfl,ha,_⟩:=RK.node (show RK K H (Tn.mk x p fr (Kn.ds cs) (Tk.tns ps)).d tv from rt)
 refine' ⟨_,?n0,?Z⟩
 case' n0=>refine' ah ?N1
 case' N1=>refine' ao ?N2
 case' N2=>refine' j6 hr.u1 ?N3 ?N4 (fun _ _=>rfl)
 case' N3=>refine' al ai ?N5 ac (fun _ _=>rfl)
 case N5=>exact fi c_looked hr (pa (pv 0) ad)
 case N4=>exact al ai (pv 0) ac (fun _ _=>rfl)
 refine ⟨_,rfl,.ref a,Tk.mk x p fr cs ps,rfl,rt,g,fun k ek kgk r kd wd kv ks' ws' H1 o1 rk hr1 hk hw=>?_,qe⟩
 refine .inr (.inl ⟨r,_,0,.ref kd,rfl,rfl,SqT.of hr1,at0,_,rfl,.inr (.inl ⟨a,_,1,.int p,rfl,rfl,(ha.mono o1.tm).sq,at1,kd,kv,rfl,?_,qn k ek kgk kv H1 o1 rk⟩)⟩)
 have z:=kz.k (k:=.inl p) hk
 rw [show cG (putK ks' (.inl (Tk.mk x p fr cs ps).p) kv) (.inl p:Key)=some kv by rw [lI];exact if_pos rfl] at z
 exact z
end
end L2.K33
end
section
namespace L2.K33
open PySem PySem.Spec PyProof.Rows L2.Bw L2.Bk L2.Ex
section
variable {P:Program} {w:World} {K:W.Frag} {mg:Str→Option Value} {base:Heap} {f:Addr} {fd:FuncData}
abbrev sLS:Stmt:=top 54
def spLS (K:W.Frag):Sp:=fun vs H Q _=>∃ (h:Str) (n:Nat),vs = [.str h]∧bS h=some n∧n≠0∧∀ (r:Addr) (H':Hp),Old H H'→H' r=some (.lst ((aG h).map V.str))→Q (.ref r) H'
theorem scLS:aF ["_law_head"] ["_law_head"] (aw sLS):=⟨rfl,rfl,rfl,by decide +kernel,rfl,by decide +kernel,by decide +kernel⟩
theorem three {h:Str} {n:Nat} (e:bS h=some n) (n0:n≠0):h = "to"∨h = "row"∨h = "pair":=by
 have z:=eV e
 have l:=dl e
 rcases List.mem_cons.mp z with rfl | z
 ·exact absurd ((show (aG "whole").length=0 by decide +kernel).symm.trans l).symm n0
 rcases List.mem_cons.mp z with rfl | z
 ·exact absurd ((show (aG "truth").length=0 by decide +kernel).symm.trans l).symm n0
 rcases List.mem_cons.mp z with rfl | z
 ·exact absurd ((show (aG "?").length=0 by decide +kernel).symm.trans l).symm n0
 rcases List.mem_cons.mp z with rfl | z
 ·exact .inr (.inl rfl)
 rcases List.mem_cons.mp z with rfl | z
 ·exact .inl rfl
 rcases List.mem_cons.mp z with rfl | z
 ·exact .inr (.inr rfl)
 ·exact nomatch z
theorem st_to:aG "to" = (["arg","res"]:List Str):=by decide +kernel
theorem st_row:aG "row" = (["item"]:List Str):=by decide +kernel
theorem st_pair:aG "pair" = (["one","two"]:List Str):=by decide +kernel
theorem ok_LS {m:Nat} (F:Fun K "_law_steps" "_law_steps" sLS f fd) (T:Tx mg):aY P w K mg base CX0 (m+1) f fd ["_law_head"] (spLS K):=by
 refine F.ok scLS (fun vs H Q E h=>?_) (fun cdv A outer s H vs Q E hr h=>?_)
 ·obtain ⟨h,n,rfl,_⟩:=h
  rfl
 obtain ⟨h,n,rfl,e,n0,q⟩:=h
 have nd:=scLS.nd
 refine' ⟨_,?n0,?Z⟩
 case' n0=>refine' ae ?N1 ?N2
 case' N1=>refine' aC (ak (ax hr) (pv 0) aj (am _)) ?N3 aq
 case' N3=>refine' ah ?N4
 case N4=>exact ao (bt (pa aj (pa aj ad)))
 case' N2=>refine' ae ?N5 ?N6
 case' N5=>refine' aC (ak (ax hr) (pv 0) aj (am _)) ?N7 aq
 case' N7=>refine' ah ?N8
 case N8=>exact ao (bt (pa aj ad))
 case' N6=>refine' ah ?N9
 case N9=>exact ao (bt (pa aj (pa aj ad)))
 rcases three e n0 with rfl | rfl | rfl
 ·refine ⟨_,rfl,.inr (.inl ⟨rfl,_,rfl,?_⟩)⟩;rw [aI]
  refine fQ (fun _=>?_) (fun c=>absurd (decide_eq_true rfl) c)
  rw [st_to] at q
  exact ⟨by show 2≤sizeLine;decide,fun r hr0=>q r _ (Old.new hr0) ag⟩
 ·refine ⟨_,rfl,.inr (.inl ⟨rfl,_,rfl,?_⟩)⟩;rw [aI]
  refine fQ (fun c=>absurd (of_decide_eq_true c) (by decide +kernel)) (fun _=>?_)
  refine ⟨_,rfl,.inr (.inl ⟨rfl,_,rfl,?_⟩)⟩;rw [aI]
  refine fQ (fun _=>?_) (fun c=>absurd (decide_eq_true rfl) c)
  rw [st_row] at q
  exact ⟨by show 1≤sizeLine;decide,fun r hr0=>q r _ (Old.new hr0) ag⟩
 ·refine ⟨_,rfl,.inr (.inl ⟨rfl,_,rfl,?_⟩)⟩;rw [aI]
  refine fQ (fun c=>absurd (of_decide_eq_true c) (by decide +kernel)) (fun _=>?_)
  refine ⟨_,rfl,.inr (.inl ⟨rfl,_,rfl,?_⟩)⟩;rw [aI]
  refine fQ (fun c=>absurd (of_decide_eq_true c) (by decide +kernel)) (fun _=>?_)
  rw [st_pair] at q
  exact ⟨by show 2≤sizeLine;decide,fun r hr0=>q r _ (Old.new hr0) ag⟩
abbrev sLP:Stmt:=top 55
theorem scLP:aF ["_law_kind_here","_law_other","_law_k","_law_inner"] ["_law_kind_here","_law_other"] (aw sLP):=⟨rfl,rfl,rfl,by decide +kernel,rfl,by decide +kernel,by decide +kernel⟩
theorem ok_LP {m:Nat} (F:Fun K "_law_parting" "_law_parting" sLP f fd) (T:Tx mg) (c_steps:Cal P w K mg base "_law_steps" ["_law_head"] 1 (spLS K)) (c_parting:Cal P w K mg base "_law_parting" ["_law_kind_here","_law_other"] (m+1) (bA K m)) :
 aY P w K mg base CX0 (m+2) f fd ["_law_kind_here","_law_other"] (bA K (m+1)):=by
 refine F.ok scLP (fun vs H Q E h=>?_) (fun cdv A outer s H vs Q E hr h=>?_)
 ·obtain ⟨x,y,a,b,rfl,_⟩:=h
  rfl
 obtain ⟨x,y,a,b,rfl,rx,ry,wa,wb,hm,h8,q⟩:=h
 have nd:=scLP.nd
 obtain ⟨h,ks⟩:=a
 obtain ⟨g,ls⟩:=b
 have rx':RK K H (.tup (.str h :: Kn.ds ks)) x:=rx
 have ry':RK K H (.tup (.str g :: Kn.ds ls)) y:=ry
 obtain ⟨xa,us,rfl,ha,ru⟩:=RK.kind rx'
 obtain ⟨xb,ws,rfl,hb,rw'⟩:=RK.kind ry'
 have hm':1+Kn.deps ks<m+1:=hm
 have h8':1+Kn.deps ks≤8:=h8
 obtain ⟨ea,wks⟩:=wa
 obtain ⟨eb,wls⟩:=wb
 have lu:=ru.length
 have lw:=rw'.length
 rw [aH] at lu lw
 have ep:(Kn.mk h ks).part (.mk g ls)=if h = "?" then none else if g = "?" then none else if h=g then Kn.parts (aG h) ks ls else some []:=rfl
 refine' ⟨_,?n0,?Z⟩
 case' n0=>refine' ae ?N1 ?N2
 case' N1=>refine' aC ?N3 ?N4 aq
 case' N3=>refine' PW.pt ?N5
 case' N5=>refine' bV ?N6 ?N7
 case' N6=>refine' ak (ax hr) ?N8 aj (am _)
 case N8=>exact al ai (pv 0) ac (fun _ _=>rfl)
 case' N7=>refine' bR ?N9
 case' N9=>refine' ak (ax hr) ?Na aj (am _)
 case Na=>exact al ai (pv 1) ac (fun _ _=>rfl)
 case' N4=>refine' ah ?Nb
 case Nb=>exact ao bQ
 case' N2=>refine' ae ?Nc ?Nd
 case' Nc=>refine' aC ?Ne ?Nf aq
 case' Ne=>refine' ak (eI hr) ?Ng ?Nh (am _)
 case Ng=>exact al ai (pv 0) ac (fun _ _=>rfl)
 case Nh=>exact al ai (pv 1) ac (fun _ _=>rfl)
 case' Nf=>refine' ah ?Ni
 case Ni=>exact ao (ay ad)
 case' Nd=>refine' ae ?Nj ?Nk
 case' Nj=>refine' cU PassesOwn.never rfl ?Nl ?Nm ?Nn
 case Nl=>exact gb rfl T.range (pa ac (pa (aQ (bd) rfl T.len boot_len (pa (pv 0) ad)) ad))
 case Nm=>exact aZ (i:=2) nd rfl (Or.inl rfl)
 case' Nn=>refine' ae ?No ?Np
 case' No=>refine' aA (i:=3) nd rfl (Or.inl rfl) rfl (by first | exact .inl rfl | exact .inr rfl) ?Nq
 case' Nq=>refine' az c_parting hr ?Nr
 case' Nr=>refine' pa ?Ns ?Nt
 case Ns=>exact al ai (pv 0) (pv 2) (fun _ _=>rfl)
 case' Nt=>refine' pa ?Nu ad
 case Nu=>exact al ai (pv 1) (pv 2) (fun _ _=>rfl)
 case' Np=>refine' ah ?Nv
 case' Nv=>refine' aC (ak fh (pv 3) bQ (am _)) ?Nw aq
 case' Nw=>refine' ah ?Nx
 case' Nx=>refine' ao ?Ny
 case' Ny=>refine' aE bo ?Nz (pv 3)
 case' Nz=>refine' ay ?N10
 case' N10=>refine' pa ?N11 ad
 case' N11=>refine' al ai ?N12 (aE cw (pv 2) ac) (fun _ _=>rfl)
 case' N12=>refine' az c_steps hr ?N13
 case' N13=>refine' pa ?N14 ad
 case N14=>exact al ai (pv 0) ac (fun _ _=>rfl)
 case' Nk=>refine' ah ?N15
 case N15=>exact ao bQ
 refine ⟨_,rfl,.inr (.inl ⟨xa,_,0,.str h,rfl,rfl,ha.sq,at0,.inr (.inl ⟨rfl,_,rfl,?_⟩)⟩)⟩
 rw [aI]
 by_cases c1:h = "?"
 ·rw [decide_eq_true c1]
  rw [ep,if_pos c1] at q
  exact a9 (a9 (q .non H (Old.refl _) .n))
 rw [decide_eq_false c1]
 rw [if_neg c1] at ep
 refine aU ?_
 refine ⟨_,rfl,.inr (.inl ⟨xb,_,0,.str g,rfl,rfl,hb.sq,at0,.inr (.inl ⟨rfl,_,rfl,?_⟩)⟩)⟩
 rw [aI]
 by_cases c2:g = "?"
 ·rw [decide_eq_true c2]
  rw [ep,if_pos c2] at q
  exact a9 (q .non H (Old.refl _) .n)
 rw [decide_eq_false c2]
 rw [if_neg c2] at ep
 refine aU ?_
 refine ⟨_,rfl,.inr (.inl ⟨xa,_,0,.str h,rfl,rfl,ha.sq,at0,_,rfl,.inr (.inl ⟨xb,_,0,.str g,rfl,rfl,hb.sq,at0,.inr (.inl ⟨rfl,_,rfl,?_⟩)⟩)⟩)⟩
 rw [aI]
 by_cases c:h=g
 ·subst c
  rw [decide_eq_true rfl]
  refine aU ?_
  rw [if_pos rfl] at ep
  rw [ep] at q
  have el:ks.length=ls.length:=by rw [ea] at eb;exact Option.some.inj eb
  have es:=dl ea
  have few:=eS ea
  refine ⟨_,rfl,.inl ⟨xa,_,rfl,.inr ha.sq,_,_,rfl,?_⟩⟩
  have nn:((V.str h :: us).length:Int)=1+(ks.length:Int):=by rw [List.length_cons];omega
  refine ⟨⟨by decide,by decide,by omega,by omega⟩,?_⟩
  have en:(((V.str h :: us).length:Nat) - (1:Int)).toNat=ks.length:=by omega
  rw [en]
  refine dW (lo:=1) (n:=ks.length) (fun i σ H3=>∃ (k1 k2:Option V),σ = [some (.ref xa),some (.ref xb),k1,k2]∧Old H H3∧Kn.parts (aG h) ks ls=Kn.parts ((aG h).drop i) (ks.drop i) (ls.drop i)) ⟨none,none,rfl,Old.refl _,rfl⟩ ?_ ?_
  ·intro i σ H3 hi hv
   obtain ⟨k1,k2,rfl,o3,e3⟩:=hv
   have i0:i<(aG h).length:=by omega
   have i2:i<ls.length:=by omega
   obtain ⟨u,eu,rku⟩:=(ru.mono o3.tm).get (b7 hi)
   obtain ⟨u',eu',rku'⟩:=(rw'.mono o3.tm).get (b7 i2)
   have eat:atI (V.str h :: us) (1+(i:Int))=some u:=by
    have z:atI (V.str h :: us) ((i+1:Nat):Int)=some u:=aK (by rw [List.getElem?_cons_succ];exact eu)
    rwa [show ((i+1:Nat):Int)=1+(i:Int) by omega] at z
   have eat':atI (V.str h :: ws) (1+(i:Int))=some u':=by
    have z:atI (V.str h :: ws) ((i+1:Nat):Int)=some u':=aK (by rw [List.getElem?_cons_succ];exact eu')
    rwa [show ((i+1:Nat):Int)=1+(i:Int) by omega] at z
   have dg:=cg hi
   refine ⟨_,rfl,_,rfl,.inr (.inl ⟨xa,_,_,u,rfl,rfl,(ha.mono o3.tm).sq,eat,_,rfl,_,rfl,.inr (.inl ⟨xb,_,_,u',rfl,rfl,(hb.mono o3.tm).sq,eat',u,u',ks[i],ls[i],rfl,rku,rku',cL hi wks,cL i2 wls,by omega,by omega,fun wv H5 o5 rv=>?_⟩)⟩)⟩
   have pd':=iz i0 hi i2
   rw [← e3] at pd'
   refine ⟨_,rfl,rfl,_,rfl,?_⟩
   cases hp:ks[i].part ls[i] with
   | none=>
     rw [hp] at rv pd'
     cases (show wv = .non by rw [od,RK] at rv;exact rv)
     exact aU ⟨_,_,rfl,o3.trans o5,pd'⟩
   | some w0=>
     rw [hp] at rv pd'
     obtain ⟨wa',wvs,rfl,hwa,rws⟩:=RK.get (show RK K H5 (.tup (w0.map Dk.str)) wv from rv)
     refine a9 ?_
     have lw0:=rws.length
     rw [List.length_map] at lw0
     have hmem:w0∈ks[i].ways ls[i]:=by
      have e:=fZ ks[i] ls[i]
      rw [hp] at e
      cases hw:ks[i].ways ls[i] with
      | nil=>rw [hw] at e;cases e
      | cons w1 r1=>rw [hw] at e;cases e;exact List.mem_cons_self
     have sh:=gu _ _ _ hmem
     have o35:=o3.trans o5
     refine ⟨_,rfl,.inr (.inl ⟨xa,_,0,.str h,rfl,rfl,(ha.mono o35.tm).sq,at0,h,ks.length,rfl,ea,by omega,fun r6 H6 o6 hr6=>?_⟩)⟩
     refine ⟨_,rfl,_,_,rfl,rfl,.inl ⟨r6,_,_,.str (aG h)[i],rfl,rfl,SqL.of hr6,?_,by show 1≤sizeLine;decide,fun p7 hp7=>⟨_,rfl,?_⟩⟩⟩
     ·have z:atI ((aG h).map V.str) ((i:Nat):Int)=some (.str (aG h)[i]):=aK (by rw [List.getElem?_map,List.getElem?_eq_getElem i0];rfl)
      rwa [show ((i:Nat):Int)=1+(i:Int) - 1 by omega] at z
     have o7:=Old.new (o:=.tup [.str (aG h)[i]]) hp7
     refine .inr (addT (cat_k (ds:=[.str (aG h)[i]]) (.of ag) (hwa.mono (o6.trans o7).tm) (.cons (.s _) .nil) (rws.mono (o6.trans o7).tm) (by simp) (by simp;omega) fun c8 H8 o8 r8=>?_))
     refine q (.ref c8) H8 (((o35.trans o6).trans o7).trans o8) ?_
     rw [pd']
     exact r8
  ·intro σ H3 hv
   obtain ⟨k1,k2,rfl,o3,e3⟩:=hv
   refine q .non H3 o3 ?_
   rw [e3,← es,List.drop_length,Kn.parts]
   exact .n
 ·rw [decide_eq_false c]
  refine a9 ?_
  rw [if_neg c] at ep
  rw [ep] at q
  refine ⟨by show 0≤sizeLine;decide,fun p hp=>?_⟩
  exact q (.ref p) _ (Old.new hp) (RK.tup (.of ag) .nil)
end
end L2.K33
end
section
namespace L2.K33
open PySem PySem.Spec PyProof.Rows L2.Bw L2.Bk L2.Ex
section
variable {P:Program} {w:World} {K:W.Frag} {mg:Str→Option Value} {base:Heap} {f:Addr} {fd:FuncData}
abbrev sMo:Stmt:=top 53
def spMo (K:W.Frag):Sp:=fun vs H Q _=>∃ (b:Addr) (x:Str) (kv:V) (kvs:List (Key×V)),vs = [.ref b,.str x,kv]∧H b=some (.dK kvs)∧kvs.length≤1000∧∀ (r:Addr) (H':Hp),Old H H'→H r=none→H' r=some (.dK (putK kvs (.inr x) kv))→Q (.ref r) H'
theorem scMo:aF ["_law_names_here","_law_word","_law_kind_here","_law_more_here"] ["_law_names_here","_law_word","_law_kind_here"] (aw sMo):=⟨rfl,rfl,rfl,by decide +kernel,rfl,by decide +kernel,by decide +kernel⟩
theorem ok_Mo {n:Nat} (F:Fun K "_law_more" "_law_more" sMo f fd) (T:Tx mg):aY P w K mg base CX0 (n+1) f fd ["_law_names_here","_law_word","_law_kind_here"] (spMo K):=by
 refine F.ok scMo (fun vs H Q E h=>?_) (fun cdv A outer s H vs Q E hr h=>?_)
 ·obtain ⟨b,x,kv,kvs,rfl,_⟩:=h
  rfl
 obtain ⟨b,x,kv,kvs,rfl,hb,lk,q⟩:=h
 have nd:=scMo.nd
 refine' ⟨_,?n0,?Z⟩
 case' n0=>refine' ae ?N1 ?N2
 case N1=>exact aA (i:=3) nd rfl (Or.inl rfl) rfl (by first | exact .inl rfl | exact .inr rfl) (bI (iZ) rfl T.dict boot_dict (pa (pv 0) ad))
 case' N2=>refine' ae ?N3 ?N4
 case N3=>exact dD hr.u1 (pv 3) (pv 1) (pv 2) rfl
 case' N4=>refine' ah ?N5
 case N5=>exact ao (pv 3)
 refine ⟨_,rfl,b,kvs,rfl,hb,fun r hr0=>?_⟩
 refine ⟨_,rfl,_,rfl,_,rfl,r,_,rfl,hV.k (k:=.inr x) ag (bE (by omega)),_,rfl,q r _ (fun c y e=>?_) hr0 ag⟩
 rw [au (ap e hr0),au (ap e hr0)]
 exact e
abbrev sSh:Stmt:=top 59
def spSh (K:W.Frag):Sp:=fun vs H Q _=>∃ (kv sv:V) (k s:Kn),vs = [kv,sv]∧RK K H k.d kv∧RK K H s.d sv∧∀ v,RK K H (if k.hd=s.hd then k else s).d v→Q v H
theorem scSh:aF ["_law_kind_here","_law_shape"] ["_law_kind_here","_law_shape"] (aw sSh):=⟨rfl,rfl,rfl,by decide +kernel,rfl,by decide +kernel,by decide +kernel⟩
theorem ok_Sh {n:Nat} (F:Fun K "_law_shaped" "_law_shaped" sSh f fd) (T:Tx mg):aY P w K mg base CX0 (n+1) f fd ["_law_kind_here","_law_shape"] (spSh K):=by
 refine F.ok scSh (fun vs H Q E h=>?_) (fun cdv A outer s H vs Q E hr h=>?_)
 ·obtain ⟨kv,sv,k,s,rfl,_⟩:=h
  rfl
 obtain ⟨kv,sv,k,s,rfl,rk,rs,q⟩:=h
 have nd:=scSh.nd
 obtain ⟨h,ks⟩:=k
 obtain ⟨g,gs⟩:=s
 obtain ⟨ka,ku,rfl,hka,_⟩:=RK.kind (show RK K H (.tup (.str h :: Kn.ds ks)) kv from rk)
 obtain ⟨sa,su,rfl,hsa,_⟩:=RK.kind (show RK K H (.tup (.str g :: Kn.ds gs)) sv from rs)
 refine' ⟨_,?n0,?Z⟩
 case' n0=>refine' ae ?N1 ?N2
 case' N1=>refine' aC ?N3 ?N4 aq
 case' N3=>refine' ak (ax hr) ?N5 ?N6 (am _)
 case N5=>exact al ai (pv 0) ac (fun _ _=>rfl)
 case N6=>exact al ai (pv 1) ac (fun _ _=>rfl)
 case' N4=>refine' ah ?N7
 case N7=>exact ao (pv 0)
 case' N2=>refine' ah ?N8
 case N8=>exact ao (pv 1)
 refine ⟨_,rfl,.inr (.inl ⟨ka,_,0,.str h,rfl,rfl,hka.sq,at0,_,rfl,.inr (.inl ⟨sa,_,0,.str g,rfl,rfl,hsa.sq,at0,.inr (.inl ⟨rfl,_,rfl,?_⟩)⟩)⟩)⟩
 rw [aI]
 have q':∀ v,RK K H (if h=g then Kn.mk h ks else Kn.mk g gs).d v→Q v H:=q
 by_cases c:h=g
 ·rw [decide_eq_true c]
  rw [if_pos c] at q'
  exact a9 ⟨_,rfl,q' _ rk⟩
 ·rw [decide_eq_false c]
  rw [if_neg c] at q'
  exact aU ⟨_,rfl,q' _ rs⟩
abbrev sWn:Stmt:=top 64
def spWn (K:W.Frag):Sp:=fun vs H Q _=>∃ (v:V) (t:Tk),vs = [v]∧RK K H t.tn.d v∧t.tn.wf∧t.w≠"look"∧∀ (r:Addr) (us:List V) (H':Hp),Old H H'→H' r=some (.lst us)→RKs K H' (Kn.ds t.ks) us→Q (.ref r) H'
theorem scWn:aF ["_law_node"] ["_law_node"] (aw sWn):=⟨rfl,rfl,rfl,by decide +kernel,rfl,by decide +kernel,by decide +kernel⟩
theorem nk_zero:∀ z∈K11.words,z≠"fn"→z≠"self"→z≠"row"→z≠"as"→z≠"look"→K11.nk z=0:=by decide +kernel
theorem ok_Wn {n:Nat} (F:Fun K "_law_written" "_law_written" sWn f fd) (T:Tx mg):aY P w K mg base CX0 (n+1) f fd ["_law_node"] (spWn K):=by
 refine F.ok scWn (fun vs H Q E h=>?_) (fun cdv A outer s H vs Q E hr h=>?_)
 ·obtain ⟨v,t,rfl,_⟩:=h
  rfl
 obtain ⟨v,t,rfl,rv,wt,nl,q⟩:=h
 have nd:=scWn.nd
 obtain ⟨x,p,fr,ks,ps⟩:=t
 have rv':RK K H (Tn.mk x p fr (Kn.ds ks) (Tk.tns ps)).d v:=rv
 obtain ⟨⟨hx,lf,lm,_,_,hn,_⟩,_⟩:=(show (Tn.mk x p fr (Kn.ds ks) (Tk.tns ps)).wf from wt)
 obtain ⟨a,uf,um,up,rfl,ha,rf,rm,_⟩:=RK.node rv'
 rw [aH] at lm
 have l1:=rf.length
 have q':∀ (r:Addr) (us:List V) (H':Hp),Old H H'→H' r=some (.lst us)→RKs K H' (Kn.ds ks) us→Q (.ref r) H':=q
 obtain ⟨f1,f2,f3,f4,f5,f6,f7,f8,f9,f10,f11⟩:=bC
 refine' ⟨_,?n0,?Z⟩
 case' n0=>refine' ae ?N1 ?N2
 case' N1=>refine' aC ?N3 ?N4 aq
 case' N3=>refine' ak (ax hr) ?N5 aj (am _)
 case N5=>exact al ai (pv 0) ac (fun _ _=>rfl)
 case' N4=>refine' ah ?N6
 case' N6=>refine' ao ?N7
 case' N7=>refine' bt ?N8
 case' N8=>refine' pa ?N9 ad
 case N9=>exact al ai (pv 0) ac (fun _ _=>rfl)
 case' N2=>refine' ae ?Na ?Nb
 case' Na=>refine' aC ?Nc ?Nd aq
 case' Nc=>refine' ak (ax hr) ?Ne aj (am _)
 case Ne=>exact al ai (pv 0) ac (fun _ _=>rfl)
 case' Nd=>refine' ah ?Nf
 case' Nf=>refine' ao ?Ng
 case' Ng=>refine' bt ?Nh
 case' Nh=>refine' pa ?Ni ?Nj
 case Ni=>exact al ai (pv 0) ac (fun _ _=>rfl)
 case' Nj=>refine' pa ?Nk ad
 case Nk=>exact al ai (pv 0) ac (fun _ _=>rfl)
 case' Nb=>refine' ae ?Nl ?Nm
 case' Nl=>refine' aC ?Nn ?No aq
 case' Nn=>refine' PW.pt ?Np
 case' Np=>refine' bV ?Nq ?Nr
 case' Nq=>refine' ak (ax hr) ?Ns aj (am _)
 case Ns=>exact al ai (pv 0) ac (fun _ _=>rfl)
 case' Nr=>refine' bR ?Nt
 case' Nt=>refine' ak (ax hr) ?Nu aj (am _)
 case Nu=>exact al ai (pv 0) ac (fun _ _=>rfl)
 case' No=>refine' ah ?Nv
 case' Nv=>refine' ao ?Nw
 case' Nw=>refine' bt ?Nx
 case' Nx=>refine' pa ?Ny ad
 case Ny=>exact al ai (pv 0) ac (fun _ _=>rfl)
 case' Nm=>refine' ah ?Nz
 case Nz=>exact ao (bt ad)
 refine ⟨_,rfl,.inr (.inl ⟨a,_,0,.str x,rfl,rfl,ha.sq,at0,.inr (.inl ⟨rfl,_,rfl,?_⟩)⟩)⟩
 rw [aI]
 by_cases c1:x = "fn"
 ·rw [decide_eq_true c1]
  rw [c1,f1] at lf
  rw [c1,f2] at lm
  obtain ⟨x0,rfl⟩:=List.length_eq_one_iff.mp lf
  obtain ⟨k0,rfl⟩:=List.length_eq_one_iff.mp lm
  obtain ⟨y0,uf',rfl,_,rf'⟩:=rf
  obtain rfl:uf' = []:=rf'
  obtain ⟨kv,um',rfl,rkv,_⟩:=rm
  exact a9 ⟨_,rfl,.inr (.inl ⟨a,_,3,kv,rfl,rfl,ha.sq,at3,by show 1≤sizeLine;decide,fun r hr0=>q' r _ _ (Old.new hr0) ag (.cons (rkv.mono (Old.new hr0).tm) .nil)⟩)⟩
 rw [decide_eq_false c1]
 refine aU ⟨_,rfl,.inr (.inl ⟨a,_,0,.str x,rfl,rfl,ha.sq,at0,.inr (.inl ⟨rfl,_,rfl,?_⟩)⟩)⟩
 rw [aI]
 by_cases c3:x = "self"
 ·rw [decide_eq_true c3]
  rw [c3,f3] at lf
  rw [c3,f4] at lm
  obtain ⟨x0,x1,rfl⟩:=b9 lf
  obtain ⟨k0,k1,rfl⟩:=b9 lm
  obtain ⟨y0,uf',rfl,_,rf'⟩:=rf
  obtain ⟨y1,uf'',rfl,_,rf''⟩:=rf'
  obtain rfl:uf'' = []:=rf''
  obtain ⟨kv,um',rfl,rkv,rm'⟩:=rm
  obtain ⟨kv1,um'',rfl,rkv1,_⟩:=rm'
  exact a9 ⟨_,rfl,.inr (.inl ⟨a,_,4,kv,rfl,rfl,ha.sq,aK (j:=4) rfl,_,rfl,.inr (.inl ⟨a,_,5,kv1,rfl,rfl,ha.sq,aK (j:=5) rfl,by show 2≤sizeLine;decide,fun r hr0=>q' r _ _ (Old.new hr0) ag (.cons (rkv.mono (Old.new hr0).tm) (.cons (rkv1.mono (Old.new hr0).tm) .nil))⟩)⟩)⟩
 rw [decide_eq_false c3]
 refine aU ?_
 dsimp only [iJ]
 refine cE (fun σ H1=>σ = [some (.ref a)]∧H=H1∧¬ (x = "row"∨x = "as")) (fun R hR=>?_) (fun σ H1 hP=>?_)
 ·have fin:(x = "row"∨x = "as")→tRet (tLst (dF (tOp (rIx K) (cV 0) (tC (V.int 2))) ko)) { nx:=R,rt:=Q } [some (.ref a)] H:=fun c3=>by
   have e1:fr.length=0∧ks.length=1:=by rcases c3 with rfl | rfl <;> exact ⟨by omega,by omega⟩
   obtain rfl:uf = []:=List.length_eq_zero_iff.mp (l1.symm.trans e1.1)
   obtain ⟨k0,rfl⟩:=List.length_eq_one_iff.mp e1.2
   obtain ⟨kv,ur,rfl,rkv,_⟩:=rm
   exact ⟨_,rfl,.inr (.inl ⟨a,_,2,kv,rfl,rfl,ha.sq,at2,by show 1≤sizeLine;decide,fun r hr0=>q' r _ _ (Old.new hr0) ag (.cons (rkv.mono (Old.new hr0).tm) .nil)⟩)⟩
  refine ⟨_,rfl,.inr (.inl ⟨a,_,0,.str x,rfl,rfl,ha.sq,at0,.inr (.inl ⟨rfl,_,rfl,?_⟩)⟩)⟩
  rw [aI]
  by_cases c4:x = "row"
  ·rw [decide_eq_true c4]
   exact a9 (a9 (fin (.inl c4)))
  rw [decide_eq_false c4]
  refine aU ⟨_,rfl,.inr (.inl ⟨a,_,0,.str x,rfl,rfl,ha.sq,at0,.inr (.inl ⟨rfl,_,rfl,?_⟩)⟩)⟩
  rw [aI]
  by_cases c5:x = "as"
  ·rw [decide_eq_true c5]
   exact a9 (fin (.inr c5))
  ·rw [decide_eq_false c5]
   exact aU (hR _ _ ⟨rfl,rfl,fun z=>z.elim c4 c5⟩)
 obtain ⟨rfl,rfl,c⟩:=hP
 have k0:=nk_zero x hx c1 c3 (fun z=>c (.inl z)) (fun z=>c (.inr z)) nl
 rw [k0] at lm
 obtain rfl:=List.length_eq_zero_iff.mp lm
 exact ⟨by show 0≤sizeLine;decide,fun r hr0=>q' r [] _ (Old.new hr0) ag .nil⟩
end
end L2.K33
end
section
namespace L2.K33
open PySem PySem.Spec PyProof.Rows L2.Bw L2.Bk L2.Ex
section
variable {P:Program} {w:World} {K:W.Frag} {mg:Str→Option Value} {base:Heap} {f:Addr} {fd:FuncData}
abbrev sNa:Stmt:=top 58
def spNa (K:W.Frag):Sp:=fun vs H Q _=>∃ (v:V) (b fa:Addr) (t:Tk) (g:List Kn) (kvs:List (Key×V)) (e:Nv),vs = [v,.ref b,.ref fa]∧RK K H t.tn.d v∧t.tn.wf∧H b=some (.dK kvs)∧kvs.length≤990∧dG K H kvs e∧Fd K H fa g ∧
 ∀ (r:Addr) (kvs':List (Key×V)) (H':Hp),Old H H'→H' r=some (.dK kvs')→kvs'.length≤kvs.length+2→dG K H' kvs' (bwK t.w t.fr t.ks g g.length e)→Q (.ref r) H'
theorem scNa:aF ["_law_node","_law_names_here","_law_kinds"] ["_law_node","_law_names_here","_law_kinds"] (aw sNa):=⟨rfl,rfl,rfl,by decide +kernel,rfl,by decide +kernel,by decide +kernel⟩
theorem ok_Na {n:Nat} (F:Fun K "_law_names" "_law_names" sNa f fd) (T:Tx mg) (c_more:Cal P w K mg base "_law_more" ["_law_names_here","_law_word","_law_kind_here"] 1 (spMo K)):aY P w K mg base CX0 (n+2) f fd ["_law_node","_law_names_here","_law_kinds"] (spNa K):=by
 refine F.ok scNa (fun vs H Q E h=>?_) (fun cdv A outer s H vs Q E hr h=>?_)
 ·obtain ⟨v,b,fa,t,g,kvs,e,rfl,_⟩:=h
  rfl
 obtain ⟨v,b,fa,t,g,kvs,e,rfl,rv,wt,hb,lk,he,hf,q⟩:=h
 have nd:=scNa.nd
 obtain ⟨x,p,fr,ks,ps⟩:=t
 have rv':RK K H (Tn.mk x p fr (Kn.ds ks) (Tk.tns ps)).d v:=rv
 obtain ⟨⟨hx,lf,lm,_,_,hn,_⟩,_⟩:=(show (Tn.mk x p fr (Kn.ds ks) (Tk.tns ps)).wf from wt)
 obtain ⟨a,uf,um,up,rfl,ha,rf,rm,_⟩:=RK.node rv'
 rw [aH] at lm
 obtain ⟨f1,f2,f3,f4,f5,_⟩:=bC
 have q':∀ (r:Addr) (kvs':List (Key×V)) (H':Hp),Old H H'→H' r=some (.dK kvs')→kvs'.length≤kvs.length+2→dG K H' kvs' (bwK x fr ks g g.length e)→Q (.ref r) H':=q
 obtain ⟨fvs,hfa,rfs⟩:=hf.ex
 have hs:SqL K H fa fvs:=SqL.of hfa
 have ll:=rfs.length
 rw [aH] at ll
 have len1:decide ((fvs.length:Int)=1)=decide (g.length=1):=decide_eq_decide.mpr ⟨fun e=>by omega,fun e=>by omega⟩
 refine' ⟨_,?n0,?Z⟩
 case' n0=>refine' ae ?N1 ?N2
 case' N1=>refine' aC ?N3 ?N4 aq
 case' N3=>refine' ak (ax hr) ?N5 aj (am _)
 case N5=>exact al (show IxR _ (rIx K) from ai) (pv 0) ac (fun _ _=>rfl)
 case' N4=>refine' ah ?N6
 case' N6=>refine' ao ?N7
 case' N7=>refine' az c_more hr ?N8
 case' N8=>refine' pa (pv 1) ?N9
 case' N9=>refine' pa ?Na ?Nb
 case Na=>exact al (show IxR _ (rIx K) from ai) (pv 0) ac (fun _ _=>rfl)
 case' Nb=>refine' pa ?Nc ad
 case Nc=>exact al (show IxR _ (rIx K) from ai) (pv 0) ac (fun _ _=>rfl)
 case' N2=>refine' ae ?Nd ?Ne
 case' Nd=>refine' aC ?Nf ?Ng aq
 case' Nf=>refine' ak (ax hr) ?Nh aj (am _)
 case Nh=>exact al (show IxR _ (rIx K) from ai) (pv 0) ac (fun _ _=>rfl)
 case' Ng=>refine' ah ?Ni
 case' Ni=>refine' ao ?Nj
 case' Nj=>refine' az c_more hr ?Nk
 case' Nk=>refine' pa ?Nl ?Nm
 case' Nl=>refine' az c_more hr ?Nn
 case' Nn=>refine' pa (pv 1) ?No
 case' No=>refine' pa ?Np ?Nq
 case Np=>exact al (show IxR _ (rIx K) from ai) (pv 0) ac (fun _ _=>rfl)
 case' Nq=>refine' pa ?Nr ad
 case' Nr=>refine' ay ?Ns
 case' Ns=>refine' pa aj ?Nt
 case' Nt=>refine' pa ?Nu ?Nv
 case Nu=>exact al (show IxR _ (rIx K) from ai) (pv 0) ac (fun _ _=>rfl)
 case' Nv=>refine' pa ?Nw ad
 case Nw=>exact al (show IxR _ (rIx K) from ai) (pv 0) ac (fun _ _=>rfl)
 case' Nm=>refine' pa ?Nx ?Ny
 case Nx=>exact al (show IxR _ (rIx K) from ai) (pv 0) ac (fun _ _=>rfl)
 case' Ny=>refine' pa ?Nz ad
 case Nz=>exact al (show IxR _ (rIx K) from ai) (pv 0) ac (fun _ _=>rfl)
 case' Ne=>refine' ae ?N10 ?N11
 case' N10=>refine' aC ?N12 ?N13 aq
 case' N12=>refine' PW.pt ?N14
 case' N14=>refine' bG ?N15 ?N16
 case' N15=>refine' ak (ax hr) ?N17 aj (am _)
 case N17=>exact al (show IxR _ (rIx K) from ai) (pv 0) ac (fun _ _=>rfl)
 case N16=>exact bu (ak (ax hr) (aQ (bd) rfl T.len boot_len (pa (pv 2) ad)) ac (am _))
 case' N13=>refine' ah ?N18
 case' N18=>refine' ao ?N19
 case' N19=>refine' az c_more hr ?N1a
 case' N1a=>refine' pa (pv 1) ?N1b
 case' N1b=>refine' pa ?N1c ?N1d
 case N1c=>exact al (show IxR _ (rIx K) from ai) (pv 0) ac (fun _ _=>rfl)
 case' N1d=>refine' pa ?N1e ad
 case N1e=>exact al (show IxR _ (rIx K) from ai) (pv 2) ac (fun _ _=>rfl)
 case' N11=>refine' ah ?N1f
 case N1f=>exact ao (pv 1)
 refine ⟨_,rfl,.inr (.inl ⟨a,_,0,.str x,rfl,rfl,ha.sq,at0,.inr (.inl ⟨rfl,_,rfl,?_⟩)⟩)⟩
 rw [aI]
 by_cases c1:x = "fn"
 ·rw [decide_eq_true c1]
  obtain ⟨ns,rfl⟩:=hn (by rw [c1];decide +kernel)
  obtain rfl:=RKs.txs rf
  rw [List.length_map,c1,f1] at lf
  rw [c1,f2] at lm
  obtain ⟨nm,rfl⟩:=List.length_eq_one_iff.mp lf
  obtain ⟨k0,rfl⟩:=List.length_eq_one_iff.mp lm
  obtain ⟨kv,um',rfl,rkv,_⟩:=rm
  have ee:bwK x ([nm].map Dk.str) [k0] g g.length e=ck e nm k0:=by unfold bwK;rw [if_pos c1];rfl
  refine a9 ⟨_,rfl,_,rfl,.inr (.inl ⟨a,_,2,.str nm,rfl,rfl,ha.sq,at2,_,rfl,.inr (.inl ⟨a,_,3,kv,rfl,rfl,ha.sq,at3,b,nm,kv,kvs,rfl,hb,by omega,fun r H1 o1 hr0 hr1=>q' r _ H1 o1 hr1 (Nat.le_trans (bj _ _ _) (by omega)) ?_⟩)⟩)⟩
  rw [ee]
  exact (he.mono o1.tm).put (rkv.mono o1.tm)
 rw [decide_eq_false c1]
 refine aU ⟨_,rfl,.inr (.inl ⟨a,_,0,.str x,rfl,rfl,ha.sq,at0,.inr (.inl ⟨rfl,_,rfl,?_⟩)⟩)⟩
 rw [aI]
 by_cases c2:x = "self"
 ·rw [decide_eq_true c2]
  obtain ⟨ns,rfl⟩:=hn (by rw [c2];decide +kernel)
  obtain rfl:=RKs.txs rf
  rw [List.length_map,c2,f3] at lf
  rw [c2,f4] at lm
  obtain ⟨nm,nm2,rfl⟩:=b9 lf
  obtain ⟨k0,k1,rfl⟩:=b9 lm
  obtain ⟨kv,um',rfl,rkv,rm'⟩:=rm
  obtain ⟨kv1,um'',rfl,rkv1,_⟩:=rm'
  have a4:atI (V.str x :: V.int p :: ([nm,nm2].map V.str ++ (kv :: kv1 :: um'') ++ up)) 4=some kv:=aK (j:=4) rfl
  have a5:atI (V.str x :: V.int p :: ([nm,nm2].map V.str ++ (kv :: kv1 :: um'') ++ up)) 5=some kv1:=aK (j:=5) rfl
  have ee:bwK x ([nm,nm2].map Dk.str) [k0,k1] g g.length e=ck (ck e nm (.mk "to" [k0,k1])) nm2 k0:=by unfold bwK;rw [if_neg c1,if_pos c2];rfl
  refine a9 ⟨_,rfl,_,rfl,.inr (.inl ⟨a,_,2,.str nm,rfl,rfl,ha.sq,at2,_,rfl,.inr (.inl ⟨a,_,4,kv,rfl,rfl,ha.sq,a4,_,rfl,.inr (.inl ⟨a,_,5,kv1,rfl,rfl,ha.sq,a5,by show 3≤sizeLine;decide,fun ta hta=>?_⟩)⟩)⟩)⟩
  have o2:=Old.new (o:=.tup [.str "to",kv,kv1]) hta
  have rto:RK K (upd H ta (.tup [.str "to",kv,kv1])) (Kn.mk "to" [k0,k1]).d (.ref ta):=RK.tup (.of ag) (.cons (.s _) (.cons (rkv.mono o2.tm) (.cons (rkv1.mono o2.tm) .nil)))
  generalize upd H ta (.tup [.str "to",kv,kv1])=H2 at o2 rto ⊢
  refine ⟨b,nm,.ref ta,kvs,rfl,o2 _ _ hb,by omega,fun r H3 o3 hr0 hr3=>?_⟩
  have o23:=o2.trans o3
  have ha3:=ha.mono o23.tm
  have l3:=bj kvs (.inr nm:Key) (V.ref ta)
  refine ⟨_,rfl,.inr (.inl ⟨a,_,3,.str nm2,rfl,rfl,ha3.sq,at3,_,rfl,.inr (.inl ⟨a,_,4,kv,rfl,rfl,ha3.sq,a4,r,nm2,kv,_,rfl,hr3,by omega,fun r4 H4 o4 hr40 hr4=>q' r4 _ H4 (o23.trans o4) hr4 (Nat.le_trans (bj _ _ _) (by omega)) ?_⟩)⟩)⟩
  rw [ee]
  exact (((he.mono o23.tm).put (rto.mono o3.tm)).mono o4.tm).put ((rkv.mono o23.tm).mono o4.tm)
 rw [decide_eq_false c2]
 refine aU ?_
 dsimp only [iJ]
 refine cE (fun σ H1=>σ = [some (.ref a),some (.ref b),some (.ref fa)]∧H=H1∧¬ (x = "let"∧g.length=1)) (fun R hR=>?_) (fun σ H1 hP=>?_)
 ·refine ⟨_,rfl,.inr (.inl ⟨a,_,0,.str x,rfl,rfl,ha.sq,at0,.inr (.inl ⟨rfl,_,rfl,?_⟩)⟩)⟩
  rw [aI]
  by_cases c3:x = "let"
  ·rw [decide_eq_true c3]
   refine a9 ⟨_,rfl,.inl ⟨fa,fvs,rfl,.inl hs,.inr (.inl ⟨rfl,_,rfl,?_⟩)⟩⟩
   rw [cF,len1]
   by_cases c4:g.length=1
   ·rw [decide_eq_true c4]
    obtain ⟨ns,rfl⟩:=hn (by rw [c3];decide +kernel)
    obtain rfl:=RKs.txs rf
    rw [List.length_map,c3,f5] at lf
    obtain ⟨nm,rfl⟩:=List.length_eq_one_iff.mp lf
    obtain ⟨fvs1,u,hs1,_,eu,ru⟩:=hf.get (i:=0) (by omega)
    have ee:bwK x ([nm].map Dk.str) ks g g.length e=ck e nm ((g[0]?).getD qK):=by unfold bwK;rw [if_neg c1,if_neg c2,if_pos ⟨c3,c4⟩,bx];rfl
    refine a9 ⟨_,rfl,_,rfl,.inr (.inl ⟨a,_,2,.str nm,rfl,rfl,ha.sq,at2,_,rfl,.inl ⟨fa,fvs1,0,u,rfl,rfl,hs1,eu,b,nm,u,kvs,rfl,hb,by omega,fun r H1 o1 hr0 hr1=>q' r _ H1 o1 hr1 (Nat.le_trans (bj _ _ _) (by omega)) ?_⟩⟩)⟩
    rw [ee]
    exact (he.mono o1.tm).put (ru.mono o1.tm)
   ·rw [decide_eq_false c4]
    exact aU (hR _ _ ⟨rfl,rfl,fun z=>c4 z.2⟩)
  ·rw [decide_eq_false c3]
   exact aU (aU (hR _ _ ⟨rfl,rfl,fun z=>c3 z.1⟩))
 obtain ⟨rfl,rfl,c⟩:=hP
 have ee:bwK x fr ks g g.length e=e:=by unfold bwK;rw [if_neg c1,if_neg c2,if_neg c]
 exact ⟨_,rfl,q' b kvs H (Old.refl _) hb (by omega) (by rw [ee];exact he)⟩
abbrev sLD:Stmt:=top 62
theorem scLD:aF ["_law_kind_here"] ["_law_kind_here"] (aw sLD):=⟨rfl,rfl,rfl,by decide +kernel,rfl,by decide +kernel,by decide +kernel⟩
theorem ok_LD {m:Nat} (F:Fun K "_law_depth" "_law_depth" sLD f fd) (T:Tx mg) (c_depth:Cal P w K mg base "_law_depth" ["_law_kind_here"] m (bY K m)):aY P w K mg base CX0 (m+1) f fd ["_law_kind_here"] (bY K (m+1)):=by
 refine F.ok scLD (fun vs H Q E h=>?_) (fun cdv A outer s H vs Q E hr h=>?_)
 ·obtain ⟨v,t,rfl,_⟩:=h
  rfl
 obtain ⟨v,t,rfl,rv,hok,hns,q⟩:=h
 have nd:=scLD.nd
 obtain ⟨h,ks⟩:=t
 obtain ⟨few,hoks⟩:=hok
 have rv':RK K H (.tup (.str h :: Kn.ds ks)) v:=rv
 have hns':1+Kn.deps ks<m+1:=hns
 obtain ⟨xa,us,rfl,hxa,rus⟩:=RK.kind rv'
 have lus:=rus.length
 rw [aH] at lus
 refine' ⟨_,?n0,?Z⟩
 case' n0=>refine' ah ?N1
 case' N1=>refine' ao ?N2
 case' N2=>refine' aE bo ac ?N3
 case' N3=>refine' pe_max rfl rfl T.max ?N4 ?N5
 case' N4=>refine' pa ?N6 ad
 case' N6=>refine' gG (k:=1) (N:=["_law_k","_law_kind_here"]) (eD rfl rfl rfl rfl rfl rfl) rfl ?N7 (fun _ _ _ _=>?N8) (fun _ _ _ _=>?N9) (fun _ _ _ _=>?Na)
 case N7=>exact gb rfl T.range (pa ac (pa (aQ (bd) rfl T.len boot_len (pa (pv 0) ad)) ad))
 case N8=>exact aZ (i:=0) (by show List.Nodup (["_law_k","_law_kind_here"]:List Str);decide +kernel) rfl (Or.inl rfl)
 case N9=>exact cK
 case Na=>
  refine' az c_depth hr ?Nb
  case' Nb=>refine' pa ?Nc ad
  first | case Nc=>exact al (show IxR _ (rIx K) from ai) (pv 1) (pv 0) (fun _ _=>rfl) | case Nb=>exact al (show IxR _ (rIx K) from ai) (pv 1) (pv 0) (fun _ _=>rfl)
 case N5=>exact j8 ac pk_nil
 refine ⟨_,rfl,.inl ⟨xa,_,rfl,.inr hxa.sq,_,_,rfl,?_⟩⟩
 have nn:((V.str h :: us).length:Int)=1+(ks.length:Int):=by rw [List.length_cons];omega
 refine ⟨⟨by decide,by decide,by omega,by omega⟩,?_⟩
 have en:(((V.str h :: us).length:Nat) - (1:Int)).toNat=ks.length:=by omega
 rw [en]
 intro D hD
 have neD:∀ b o,H b=some o→b≠D:=fun b o e=>ap e hD
 refine dO (n:=ks.length) (fun i σ H2=>∃ k1:Option V,σ = [k1,some (.ref xa)]∧Old H H2∧H2 D=some (.lst (((ks.take i).map (fun t=>((t.dep:Nat):Int))).map V.int))) ⟨none,rfl,Old.new hD,by rw [ag];rfl⟩ ?_ ?_ ?_ ?_
 ·intro i σ H7 hi _;exact hi
 ·intro σ H7 _;exact Nat.le_refl _
 ·intro i σ H2 hi hv y H3 hy
  obtain ⟨e1,e2⟩:=hy
  subst e1 e2
  obtain ⟨k1,rfl,g,hD2⟩:=hv
  obtain ⟨u,eu,rd⟩:=rus.get (b7 hi)
  have eat:atI (V.str h :: us) (1+(i:Int))=some u:=by
   have z:atI (V.str h :: us) ((i+1:Nat):Int)=some u:=aK (by rw [List.getElem?_cons_succ];exact eu)
   rwa [show ((i+1:Nat):Int)=1+(i:Int) by omega] at z
  refine ⟨_,rfl,_,rfl,.inr (.inl ⟨xa,_,_,u,rfl,rfl,(hxa.mono g.tm).sq,eat,u,ks[i],rfl,rd.mono g.tm,ff hi hoks,Nat.lt_of_le_of_lt (cg hi) (by omega),fun H4 o4=>⟨_,o4 _ _ hD2,?_,nx hi ⟨_,rfl,fun b o e=>by rw [au (neD b o e)];exact o4 _ _ (g b o e),?_⟩⟩⟩)⟩
  ·refine bE ?_
   rw [List.length_map,List.length_map,List.length_take]
   omega
  ·rw [ag,bP hi,List.map_append,List.map_append]
   rfl
 ·intro σ H2 hv
  obtain ⟨k1,rfl,g,hD2⟩:=hv
  rw [List.take_length] at hD2
  refine ⟨D,_,0,rfl,rfl,SqL.of hD2,add_i ?_⟩
  rw [ja]
  have k:=q H2 g
  have e:((Kn.dep (Kn.mk h ks):Nat):Int)=1+((Kn.deps ks:Nat):Int):=by
   show ((1+Kn.deps ks:Nat):Int)=_
   omega
  rw [e] at k
  exact k
end
end L2.K33
end
section
namespace L2.K33
open PySem PySem.Spec PyProof.Rows L2.Bw L2.Bk L2.Ex
theorem bb {tt:TT} {ta u:TS} {D:eO} {σ:St} {H:Hp} (B:Prop) [Decidable B] (h:∀ R:Bool→Hp→Prop,R (decide B) H→tt σ H R) (h1:B→ta { D with nx:=u D } σ H) (h2:¬ B→u D σ H):tSeq (tIfS tt ta iJ) u D σ H:=fO (D:={ D with nx:=u D }) B h h1 h2
theorem df {t1 t2:TT} {σ:St} {H:Hp} {R:Bool→Hp→Prop} (A B:Prop) [Decidable A] [Decidable B] (hR:R (decide (A∨B)) H) (h1:∀ R:Bool→Hp→Prop,R (decide A) H→t1 σ H R) (h2:∀ R:Bool→Hp→Prop,R (decide B) H→t2 σ H R):tOr t1 t2 σ H R:=h1 _ (by
 by_cases c:A
 ·rw [decide_eq_true (.inl c)] at hR
  rw [decide_eq_true c]
  exact a9 hR
 ·rw [decide_eq_false c]
  rw [show decide (A∨B)=decide B from decide_eq_decide.mpr ⟨fun z=>z.resolve_left c,.inr⟩] at hR
  exact aU (h2 _ hR))
theorem fN {t1 t2:TT} {σ:St} {H:Hp} {R:Bool→Hp→Prop} (A B:Prop) [Decidable A] [Decidable B] (hR:R (decide (A∧B)) H) (h1:∀ R:Bool→Hp→Prop,R (decide A) H→t1 σ H R) (h2:A→∀ R:Bool→Hp→Prop,R (decide B) H→t2 σ H R):tAnd t1 t2 σ H R:=h1 _ (by
 by_cases c:A
 ·rw [decide_eq_true c]
  rw [show decide (A∧B)=decide B from decide_eq_decide.mpr ⟨fun z=>z.2,fun z=>⟨c,z⟩⟩] at hR
  exact a9 (h2 c _ hR)
 ·rw [decide_eq_false c]
  rw [decide_eq_false (fun z:A∧B=>c z.1)] at hR
  exact aU hR)
section
variable {P:Program} {w:World} {K:W.Frag} {mg:Str→Option Value} {base:Heap} {f:Addr} {fd:FuncData}
abbrev sLJ:Stmt:=top 56
def spLJ (K:W.Frag) (m:Nat):Sp:=fun vs H Q _=>∃ (x y:V) (a b:Kn),vs = [x,y]∧RK K H a.d x∧RK K H b.d y∧a.wf∧b.wf∧a.dep<m∧∀ (v:V) (H':Hp),Old H H'→RK K H' (a.join b).d v→Q v H'
theorem scLJ:aF ["_law_kind_here","_law_other"] ["_law_kind_here","_law_other"] (aw sLJ):=⟨rfl,rfl,rfl,by decide +kernel,rfl,by decide +kernel,by decide +kernel⟩
theorem ok_LJ {m:Nat} (F:Fun K "_law_join" "_law_join" sLJ f fd) (T:Tx mg) (c_join:Cal P w K mg base "_law_join" ["_law_kind_here","_law_other"] m (spLJ K m)):aY P w K mg base CX0 (m+1) f fd ["_law_kind_here","_law_other"] (spLJ K (m+1)):=by
 refine F.ok scLJ (fun vs H Q E h=>?_) (fun cdv A outer s H vs Q E hr h=>?_)
 ·obtain ⟨x,y,a,b,rfl,_⟩:=h
  rfl
 obtain ⟨x,y,a,b,rfl,rx,ry,wa,wb,hm,q⟩:=h
 have nd:=scLJ.nd
 obtain ⟨h,ks⟩:=a
 obtain ⟨g,ls⟩:=b
 obtain ⟨xa,us,rfl,ha,ru⟩:=RK.kind (show RK K H (.tup (.str h :: Kn.ds ks)) x from rx)
 obtain ⟨xb,ws,rfl,hb,rw'⟩:=RK.kind (show RK K H (.tup (.str g :: Kn.ds ls)) y from ry)
 obtain ⟨ea,wks⟩:=wa
 obtain ⟨eb,wls⟩:=wb
 have hm':1+Kn.deps ks<m+1:=hm
 have lu:=ru.length
 have lw:=rw'.length
 rw [aH] at lu lw
 have q':∀ (v:V) (H':Hp),Old H H'→RK K H' (if h=g then Kn.mk h (Kn.joins ks ls) else qK).d v→Q v H':=q
 refine' ⟨_,?n0,?Z⟩
 case' n0=>refine' ae ?N1 ?N2
 case' N1=>refine' aC ?N3 ?N4 aq
 case' N3=>refine' ak (eI hr) ?N5 ?N6 (am _)
 case N5=>exact al (show IxR _ (rIx K) from ai) (pv 0) ac (fun _ _=>rfl)
 case N6=>exact al (show IxR _ (rIx K) from ai) (pv 1) ac (fun _ _=>rfl)
 case' N4=>refine' ah ?N7
 case N7=>exact ao (ay (pa aj ad))
 case' N2=>refine' ah ?N8
 case' N8=>refine' ao ?N9
 case' N9=>refine' aE bo ?Na ?Nb
 case' Na=>refine' ay ?Nc
 case' Nc=>refine' pa ?Nd ad
 case Nd=>exact al (show IxR _ (rIx K) from ai) (pv 0) ac (fun _ _=>rfl)
 case' Nb=>refine' bI (cN) rfl T.tuple boot_tuple ?Ne
 case' Ne=>refine' pa ?Nf ad
 case' Nf=>refine' gG (k:=1) (N:=["_law_k","_law_kind_here","_law_other"]) (eD rfl rfl rfl rfl rfl rfl) rfl ?Ng (fun _ _ _ _=>?Nh) (fun _ _ _ _=>?Ni) (fun _ _ _ _=>?Nj)
 case Ng=>exact gb rfl T.range (pa ac (pa (aQ (bd) rfl T.len boot_len (pa (pv 0) ad)) ad))
 case Nh=>exact aZ (i:=0) (by show List.Nodup (["_law_k","_law_kind_here","_law_other"]:List Str);decide +kernel) rfl (Or.inl rfl)
 case Ni=>exact cK
 case Nj=>
  refine' az c_join hr ?Nk
  case' Nk=>refine' pa ?Nl ?Nm
  case Nl=>exact al (show IxR _ (rIx K) from ai) (pv 1) (pv 0) (fun _ _=>rfl)
  case' Nm=>refine' pa ?Nn ad
  first | case Nn=>exact al (show IxR _ (rIx K) from ai) (pv 2) (pv 0) (fun _ _=>rfl) | case Nm=>exact al (show IxR _ (rIx K) from ai) (pv 2) (pv 0) (fun _ _=>rfl)
 refine ⟨_,rfl,.inr (.inl ⟨xa,_,0,.str h,rfl,rfl,ha.sq,at0,_,rfl,.inr (.inl ⟨xb,_,0,.str g,rfl,rfl,hb.sq,at0,.inr (.inl ⟨rfl,_,rfl,?_⟩)⟩)⟩)⟩
 rw [aI]
 by_cases c:h=g
 ·subst c
  rw [decide_eq_true rfl]
  rw [if_pos rfl] at q'
  have el:ks.length=ls.length:=by rw [ea] at eb;exact Option.some.inj eb
  have few:=eS ea
  refine aU ⟨_,rfl,.inr (.inl ⟨xa,_,0,.str h,rfl,rfl,ha.sq,at0,by show 1≤sizeLine;decide,fun p4 hp4=>?_⟩)⟩
  have o4:Old H (upd H p4 (.tup [.str h])):=Old.new hp4
  have hp4':Tp K (upd H p4 (.tup [.str h])) p4 [.str h]:=.of ag
  generalize upd H p4 (.tup [.str h])=H4 at o4 hp4' ⊢
  have ha4:=ha.mono o4.tm
  refine ⟨_,rfl,.inl ⟨xa,_,rfl,.inr ha4.sq,_,_,rfl,?_⟩⟩
  have nn:((V.str h :: us).length:Int)=1+(ks.length:Int):=by rw [List.length_cons];omega
  refine ⟨⟨by decide,by decide,by omega,by omega⟩,?_⟩
  have en:(((V.str h :: us).length:Nat) - (1:Int)).toNat=ks.length:=by omega
  rw [en]
  intro D hD
  have neD:∀ b o,H4 b=some o→b≠D:=fun b o e=>ap e hD
  refine dO (n:=ks.length) (fun i σ H7=>∃ (k1:Option V) (zs:List V),σ = [k1,some (.ref xa),some (.ref xb)]∧RKs K H7 (Kn.ds ((Kn.joins ks ls).take i)) zs∧H7 D=some (.lst zs)∧Old H4 H7)
   ⟨none,[],rfl,rfl,ag,Old.new hD⟩ ?_ ?_ ?_ ?_
  ·intro i σ H7 hi _;exact hi
  ·intro σ H7 _;exact Nat.le_refl _
  ·intro i σ H7 hi hv x1 H8 hy
   obtain ⟨e1,e2⟩:=hy
   subst e1 e2
   obtain ⟨k1,zs,rfl,rzs,hD7,o7⟩:=hv
   have i2:i<ls.length:=by omega
   obtain ⟨u,eu,rku⟩:=(ru.mono (o4.trans o7).tm).get (b7 hi)
   obtain ⟨u',eu',rku'⟩:=(rw'.mono (o4.trans o7).tm).get (b7 i2)
   have eat:atI (V.str h :: us) (1+(i:Int))=some u:=by
    have z:atI (V.str h :: us) ((i+1:Nat):Int)=some u:=aK (by rw [List.getElem?_cons_succ];exact eu)
    rwa [show ((i+1:Nat):Int)=1+(i:Int) by omega] at z
   have eat':atI (V.str h :: ws) (1+(i:Int))=some u':=by
    have z:atI (V.str h :: ws) ((i+1:Nat):Int)=some u':=aK (by rw [List.getElem?_cons_succ];exact eu')
    rwa [show ((i+1:Nat):Int)=1+(i:Int) by omega] at z
   have dg:=cg hi
   have lz:=rzs.length
   have lj:=bO ks ls
   have hj:i<(Kn.joins ks ls).length:=by omega
   rw [aH,List.length_take] at lz
   refine ⟨_,rfl,_,rfl,.inr (.inl ⟨xa,_,_,u,rfl,rfl,(ha4.mono o7.tm).sq,eat,_,rfl,_,rfl,.inr (.inl ⟨xb,_,_,u',rfl,rfl,(hb.mono (o4.trans o7).tm).sq,eat',u,u',ks[i],ls[i],rfl,rku,rku',cL hi wks,cL i2 wls,by omega,fun v' H9 o9 rj=>?_⟩)⟩)⟩
   have hD9:=o9 _ _ hD7
   have tmD:Tm H9 (upd H9 D (.lst (zs ++ [v']))):=fun b xs e=>by
    rw [au]
    ·exact e
    ·intro z
     rw [z,hD9] at e
     cases e
   refine ⟨zs,hD9,bE (by omega),nx hi ⟨_,zs ++ [v'],rfl,?_,ag,fun b o e=>by rw [au (neD b o e)];exact o9 _ _ (o7 b o e)⟩⟩
   have jg:(Kn.joins ks ls)[i]=ks[i].join ls[i]:=by
    have:=fR hi i2
    rw [List.getElem?_eq_getElem hj] at this
    exact Option.some.inj this
   rw [bP hj,ds_app,jg]
   exact ((rzs.mono o9.tm).mono tmD).append (.cons (rj.mono tmD) .nil)
  ·intro σ H7 hv
   obtain ⟨k1,zs,rfl,rzs,hD7,o7⟩:=hv
   have lj:=bO ks ls
   rw [List.take_of_length_le (by omega)] at rzs
   have lz:=rzs.length
   rw [aH] at lz
   refine ⟨D,zs,rfl,.inl ⟨SqL.of hD7,fun p8 hp8=>?_⟩⟩
   have o8:=Old.new (o:=.tup zs) hp8
   refine cat_g (ds:=[.str h]) (es:=Kn.ds (Kn.joins ks ls)) (RK.tup (hp4'.mono (o7.trans o8).tm) (.cons (.s _) .nil)) (RK.tup (.of ag) (rzs.mono o8.tm)) (by rw [aH];simp;omega) fun v9 H9 o9 r9=>?_
   exact q' v9 H9 (((o4.trans o7).trans o8).trans o9) r9
 ·rw [decide_eq_false c]
  rw [if_neg c] at q'
  exact a9 ⟨by show 1≤sizeLine;decide,fun p hp=>q' (.ref p) _ (Old.new hp) (RK.tup (.of ag) (.cons (.s _) .nil))⟩
theorem arT2:bS "to" = some 2:=by decide +kernel
theorem arP2:bS "pair" = some 2:=by decide +kernel
theorem arR1:bS "row" = some 1:=by decide +kernel
theorem gm {h:Str} {k:Kn} (wf:k.wf) (ar:bS h=some 2) (hk:k.hd = "?"∨k.hd=h) (hq:h≠"?":=by decide +kernel):∃ a b,(if k.hd=h then k else Kn.mk h [qK,qK]) = .mk h [a,b]∧k.pt 0=a∧k.pt 1=b:=by
 obtain ⟨g,gs⟩:=k
 by_cases c:g=h
 ·subst c
  have l:gs.length=2:=by have:=wf.1;rw [ar] at this;exact (Option.some.inj this).symm
  obtain ⟨a,b,rfl⟩:=b9 l
  exact ⟨a,b,if_pos rfl,by show (if g = "?" then qK else a)=a;exact if_neg hq,by show (if g = "?" then qK else b)=b;exact if_neg hq⟩
 ·have e:g = "?":=hk.resolve_right c
  exact ⟨qK,qK,if_neg c,by show (if g = "?" then qK else _)=qK;exact if_pos e,by show (if g = "?" then qK else _)=qK;exact if_pos e⟩
theorem one_part {h:Str} {k:Kn} (wf:k.wf) (ar:bS h=some 1) (hk:k.hd = "?"∨k.hd=h) (hq:h≠"?":=by decide +kernel):∃ a,(if k.hd=h then k else Kn.mk h [qK]) = .mk h [a]∧k.pt 0=a:=by
 obtain ⟨g,gs⟩:=k
 by_cases c:g=h
 ·subst c
  have l:gs.length=1:=by have:=wf.1;rw [ar] at this;exact (Option.some.inj this).symm
  obtain ⟨a,rfl⟩:=List.length_eq_one_iff.mp l
  exact ⟨a,if_pos rfl,by show (if g = "?" then qK else a)=a;exact if_neg hq⟩
 ·have e:g = "?":=hk.resolve_right c
  exact ⟨qK,if_neg c,by show (if g = "?" then qK else _)=qK;exact if_pos e⟩
theorem iG (h:Str) {H:Hp} {p1 p2 p3:Addr} (h1:H p1=none) (h2:upd H p1 (.tup [.str "?"]) p2=none) (h3:upd (upd H p1 (.tup [.str "?"])) p2 (.tup [.str "?"]) p3=none):RK K (upd (upd (upd H p1 (.tup [.str "?"])) p2 (.tup [.str "?"])) p3 (.tup [.str h,.ref p1,.ref p2])) (Kn.mk h [qK,qK]).d (.ref p3):=by
 have o2:=Old.new (o:=.tup [.str "?"]) h2
 have o3:=Old.new (o:=.tup [.str h,.ref p1,.ref p2]) h3
 exact RK.tup (.of ag) (.cons (.s _) (.cons (RK.tup (.of (o3 _ _ (o2 _ _ ag))) (.cons (.s _) .nil)) (.cons (RK.tup (.of (o3 _ _ ag)) (.cons (.s _) .nil)) .nil)))
theorem shape1 (h:Str) {H:Hp} {p1 p3:Addr} (h1:H p1=none) (h3:upd H p1 (.tup [.str "?"]) p3=none):RK K (upd (upd H p1 (.tup [.str "?"])) p3 (.tup [.str h,.ref p1])) (Kn.mk h [qK]).d (.ref p3):=by
 have o3:=Old.new (o:=.tup [.str h,.ref p1]) h3
 exact RK.tup (.of ag) (.cons (.s _) (.cons (RK.tup (.of (o3 _ _ ag)) (.cons (.s _) .nil)) .nil))
abbrev sLW:Stmt:=top 60
def spLW (K:W.Frag):Sp:=fun vs H Q _=>∃ (v:V) (fa:Addr) (t:Tk) (g:List Kn),vs = [v,.ref fa]∧RK K H t.tn.d v∧t.tn.wf∧Fd K H fa g∧g≠[]∧g.length≤t.ps.length∧(∀ k∈g,Kg k 4)∧(g.length≠1→Fit t.w g)∧¬ (t.w = "if"∧g.length≠1)∧∀ v' H',Old H H'→RK K H' (bq t.w t.ks g).d v'→Q v' H'
theorem scLW:aF ["_law_node","_law_kinds","_law_word","_law_first"] ["_law_node","_law_kinds"] (aw sLW):=⟨rfl,rfl,rfl,by decide +kernel,rfl,by decide +kernel,by decide +kernel⟩
theorem np_one:K11.np "size" = 1∧K11.np "one" = 1∧K11.np "two" = 1∧K11.np "at" = 2∧K11.np "call" = 2:=by decide +kernel
theorem ok_LW {n:Nat} (F:Fun K "_law_want" "_law_want" sLW f fd) (T:Tx mg) (c_shaped:Cal P w K mg base "_law_shaped" ["_law_kind_here","_law_shape"] 1 (spSh K)):aY P w K mg base CX0 (n+2) f fd ["_law_node","_law_kinds"] (spLW K):=by
 refine F.ok scLW (fun vs H Q E h=>?_) (fun cdv A outer s H vs Q E hr h=>?_)
 ·obtain ⟨v,fa,t,g,rfl,_⟩:=h
  rfl
 obtain ⟨v,fa,t,g,rfl,rv,wt,hf,gn,gle,kg,fit,nif,q⟩:=h
 have nd:=scLW.nd
 obtain ⟨x,p,fr,ks,ps⟩:=t
 have rv':RK K H (Tn.mk x p fr (Kn.ds ks) (Tk.tns ps)).d v:=rv
 obtain ⟨⟨hx,lf,lm,lp,_,hn,_⟩,_⟩:=(show (Tn.mk x p fr (Kn.ds ks) (Tk.tns ps)).wf from wt)
 obtain ⟨a,uf,um,up,rfl,ha,rf,rm,_⟩:=RK.node rv'
 have l1:=rf.length
 rw [aH] at lm
 rw [aM] at lp
 have gle':g.length≤ps.length:=gle
 have gl:0<g.length:=List.length_pos_iff.mpr gn
 have q':∀ v' H',Old H H'→RK K H' (bq x ks g).d v'→Q v' H':=q
 obtain ⟨f1,f2,f3,f4,f5,f6,f7,f8,f9,f10,f11⟩:=bC
 obtain ⟨fvs,hfa,rfs⟩:=hf.ex
 have hs:SqL K H fa fvs:=SqL.of hfa
 have ll:=rfs.length
 rw [aH] at ll
 have len1:decide ((fvs.length:Int)=1)=decide (g.length=1):=decide_eq_decide.mpr ⟨fun e=>by omega,fun e=>by omega⟩
 have kg0:Kg (g.headD qK) 4:=bU (by omega) kg
 obtain ⟨fvs1,u1,hs1,_,eu1,ru1⟩:=hf.get gl
 obtain ⟨fvs2,u2,hs2,_,eu2,ru2⟩:=hf.last gn
 rw [← bx] at ru1
 have w1:bq x ks g=bq x ks g:=rfl
 conv at w1=>rhs;unfold bq
 refine' ⟨_,?n0,?Z⟩
 case' n0=>refine' ae ?N1 ?N2
 case' N1=>refine' aA (i:=2) nd rfl (Or.inl rfl) rfl (by first | exact .inl rfl | exact .inr rfl) ?N3
 case N3=>exact al (show IxR _ (rIx K) from ai) (pv 0) ac (fun _ _=>rfl)
 case' N2=>refine' ae ?N4 ?N5
 case' N4=>refine' aA (i:=3) nd rfl (Or.inl rfl) rfl (by first | exact .inl rfl | exact .inr rfl) ?N6
 case N6=>exact dB (ax hr) (aQ (bd) rfl T.len boot_len (pa (pv 1) ad)) ac (am _)
 case' N5=>refine' ae ?N7 ?N8
 case' N7=>refine' aC ?N9 ?Na aq
 case' N9=>refine' PW.pt ?Nb
 case' Nb=>refine' bV (ak (ax hr) (pv 2) aj (am _)) ?Nc
 case' Nc=>refine' bR ?Nd
 case' Nd=>refine' PW.pt ?Ne
 case' Ne=>refine' bG (ak (ax hr) (pv 2) aj (am _)) ?Nf
 case Nf=>exact bu (pt_not (cA (pv 3)))
 case' Na=>refine' ah ?Ng
 case Ng=>exact ao (ay (pa aj ad))
 case' N8=>refine' ae ?Nh ?Ni
 case' Nh=>refine' aC ?Nj ?Nk aq
 case' Nj=>refine' PW.pt ?Nl
 case' Nl=>refine' bV (ak (ax hr) (pv 2) aj (am _)) ?Nm
 case Nm=>exact bR (ak (ax hr) (pv 2) aj (am _))
 case' Nk=>refine' ah ?Nn
 case' Nn=>refine' ao ?No
 case No=>exact al (show IxR _ (rIx K) from ai) (pv 0) ac (fun _ _=>rfl)
 case' Ni=>refine' ae ?Np ?Nq
 case' Np=>refine' aC (ak (ax hr) (pv 2) aj (am _)) ?Nr aq
 case' Nr=>refine' ah ?Ns
 case' Ns=>refine' ao ?Nt
 case Nt=>exact al (show IxR _ (rIx K) from ai) (pv 0) ac (fun _ _=>rfl)
 case' Nq=>refine' ae ?Nu ?Nv
 case' Nu=>refine' aC ?Nw ?Nx aq
 case' Nw=>refine' PW.pt ?Ny
 case' Ny=>refine' bG (ak (ax hr) (pv 2) aj (am _)) ?Nz
 case Nz=>exact bu (cA (pv 3))
 case' Nx=>refine' ah ?N10
 case N10=>exact ao (ay (pa aj ad))
 case' Nv=>refine' ae ?N11 ?N12
 case' N11=>refine' aC ?N13 ?N14 aq
 case' N13=>refine' PW.pt ?N15
 case' N15=>refine' bG (ak (ax hr) (pv 2) aj (am _)) ?N16
 case N16=>exact bu (pt_not (cA (pv 3)))
 case' N14=>refine' ah ?N17
 case' N17=>refine' ao ?N18
 case' N18=>refine' al (show IxR _ (rIx K) from ai) ?N19 ac (fun _ _=>rfl)
 case' N19=>refine' az c_shaped hr ?N1a
 case' N1a=>refine' pa ?N1b (pa (ay (pa aj (pa (ay (pa aj ad)) (pa (ay (pa aj ad)) ad)))) ad)
 case N1b=>exact al (show IxR _ (rIx K) from ai) (pv 1) ac (fun _ _=>rfl)
 case' N12=>refine' ae ?N1c ?N1d
 case' N1c=>refine' aC (ak (ax hr) (pv 2) aj (am _)) ?N1e aq
 case' N1e=>refine' ah ?N1f
 case' N1f=>refine' ao ?N1g
 case' N1g=>refine' az c_shaped hr ?N1h
 case' N1h=>refine' pa ?N1i (pa (ay (pa aj (pa (ay (pa aj ad)) (pa (ay (pa aj ad)) ad)))) ad)
 case N1i=>exact al (show IxR _ (rIx K) from ai) (pv 1) ac (fun _ _=>rfl)
 case' N1d=>refine' ae ?N1j ?N1k
 case' N1j=>refine' aC ?N1l ?N1m aq
 case' N1l=>refine' PW.pt ?N1n
 case' N1n=>refine' bV (ak (ax hr) (pv 2) aj (am _)) ?N1o
 case N1o=>exact bR (ak (ax hr) (pv 2) aj (am _))
 case' N1m=>refine' ah ?N1p
 case' N1p=>refine' ao ?N1q
 case' N1q=>refine' az c_shaped hr ?N1r
 case' N1r=>refine' pa ?N1s (pa (ay (pa aj (pa (ay (pa aj ad)) ad))) ad)
 case N1s=>exact al (show IxR _ (rIx K) from ai) (pv 1) ac (fun _ _=>rfl)
 case' N1k=>refine' ae ?N1t ?N1u
 case' N1t=>refine' aC ?N1v ?N1w aq
 case' N1v=>refine' PW.pt ?N1x
 case' N1x=>refine' bV (ak (ax hr) (pv 2) aj (am _)) ?N1y
 case N1y=>exact bR (ak (ax hr) (pv 2) aj (am _))
 case' N1w=>refine' ah ?N1z
 case' N1z=>refine' ao ?N20
 case' N20=>refine' az c_shaped hr ?N21
 case' N21=>refine' pa ?N22 (pa (ay (pa aj (pa (ay (pa aj ad)) (pa (ay (pa aj ad)) ad)))) ad)
 case N22=>exact al (show IxR _ (rIx K) from ai) (pv 1) ac (fun _ _=>rfl)
 case' N1u=>refine' ah ?N23
 case' N23=>refine' ao ?N24
 case' N24=>refine' al (show IxR _ (rIx K) from ai) (pv 1) ?N25 (fun _ _=>rfl)
 case N25=>exact lC iL ac
 refine ⟨_,rfl,.inr (.inl ⟨a,_,0,.str x,rfl,rfl,ha.sq,at0,?_⟩)⟩
 refine ⟨_,rfl,.inl ⟨fa,fvs,rfl,.inl hs,.inr (.inl ⟨rfl,?_⟩)⟩⟩
 rw [cF,len1]
 dsimp only [bH]
 have e1:(x = "do"∨(x = "at"∧g.length=2))↔(x = "do"∨(x = "at"∧¬ g.length=1)):=⟨fun z=>z.imp_right fun z=>⟨z.1,by have:=z.2;omega⟩,fun z=>z.imp_right fun z=>⟨z.1,by
  have:=lp (by rw [z.1];decide +kernel)
  rw [z.1,np_one.2.2.2.1] at this
  have:=z.2
  omega⟩⟩
 have first:g.length=1→∀ n,bX x=some n→bq x ks g=if (g.headD qK).hd=n.hd then g.headD qK else n:=fun l1 n hn=>by
  obtain ⟨k,rfl⟩:=List.length_eq_one_iff.mp l1
  obtain ⟨hw,hq⟩:=e9 hn
  obtain ⟨d1,d2,d3,d4,d5⟩:=ly x hw
  unfold bq
  rw [if_neg (fun z=>z.elim d1 fun z=>absurd (show 1=2 from z.2) (by decide)),if_neg (fun z=>d2 z.1),if_neg (fun z=>z.elim d3 d4),if_neg d5,if_neg (fun z=>absurd (show 1=2 from z.2) (by decide)),hn]
  show (if k.hd≠n.hd then n else k)=if k.hd=n.hd then k else n
  by_cases c:k.hd=n.hd
  ·rw [if_pos c,if_neg (fun z=>z c)]
  ·rw [if_neg c,if_pos c]
 have all1:x∈(["size","one","two"]:List Str)→g.length=1:=fun z=>by
  have hnr:x≠"row":=fun e=>by rw [e] at z;exact absurd z (by decide +kernel)
  have h1:=lp hnr
  have h2:K11.np x=1:=(show ∀ y∈(["size","one","two"]:List Str),K11.np y=1 by decide +kernel) x z
  omega
 refine bb (x = "do"∨(x = "at"∧¬ g.length=1)) (fun R hR=>df _ _ hR (fun R hR=>⟨_,rfl,.inr (.inl ⟨rfl,_,rfl,by rw [aI];exact hR⟩)⟩) fun R hR=>fN _ _ hR (fun R hR=>⟨_,rfl,.inr (.inl ⟨rfl,_,rfl,by rw [aI];exact hR⟩)⟩) fun _ R hR=>⟨_,rfl,_,rfl,by rw [decide_not] at hR;exact hR⟩) (fun c=>?_) (fun c1=>?_)
 ·refine ⟨by show 1≤sizeLine;decide,fun r hr0=>q' _ _ (Old.new hr0) ?_⟩
  rw [w1,if_pos (e1.mpr c)]
  exact RK.tup (.of ag) (.cons (.s _) .nil)
 have n1:¬ (x = "do"∨(x = "at"∧g.length=2)):=fun z=>c1 (e1.mp z)
 rw [if_neg n1] at w1
 refine bb (x = "as"∨x = "row") (fun R hR=>df _ _ hR (fun R hR=>⟨_,rfl,.inr (.inl ⟨rfl,_,rfl,by rw [aI];exact hR⟩)⟩) (fun R hR=>⟨_,rfl,.inr (.inl ⟨rfl,_,rfl,by rw [aI];exact hR⟩)⟩)) (fun c=>?_) (fun c2=>?_)
 ·have e2:fr.length=0∧ks.length=1:=by rcases c with rfl | rfl <;> exact ⟨by omega,by omega⟩
  obtain rfl:uf = []:=List.length_eq_zero_iff.mp (l1.symm.trans e2.1)
  obtain ⟨k0,rfl⟩:=List.length_eq_one_iff.mp e2.2
  obtain ⟨mv,ur,rfl,rmv,_⟩:=rm
  refine ⟨_,rfl,.inr (.inl ⟨a,_,2,mv,rfl,rfl,ha.sq,at2,q' _ _ (Old.refl _) ?_⟩)⟩
  rw [w1,if_neg (fun z=>by rcases c with c | c <;> exact absurd (c.symm.trans z.1) (by decide +kernel)),if_pos c.symm]
  exact rmv
 refine bb (x = "self") (fun R hR=>⟨_,rfl,.inr (.inl ⟨rfl,_,rfl,by rw [aI];exact hR⟩)⟩) (fun c=>?_) (fun c3=>?_)
 ·rw [c,f3] at lf
  rw [c,f4] at lm
  obtain ⟨x0,x1,rfl⟩:=b9 lf
  obtain ⟨k0,k1,rfl⟩:=b9 lm
  obtain ⟨y0,uf',rfl,_,rf'⟩:=rf
  obtain ⟨y1,uf'',rfl,_,rf''⟩:=rf'
  obtain rfl:uf'' = []:=rf''
  obtain ⟨kv,um',rfl,rkv,rm'⟩:=rm
  obtain ⟨kv1,um'',rfl,rkv1,_⟩:=rm'
  refine ⟨_,rfl,.inr (.inl ⟨a,_,5,kv1,rfl,rfl,ha.sq,aK (j:=5) rfl,q' _ _ (Old.refl _) ?_⟩)⟩
  rw [w1,if_neg (fun z=>absurd (c.symm.trans z.1) (by decide +kernel)),if_neg (fun z=>c2 z.symm),if_pos c]
  exact rkv1
 refine bb (x = "if"∧g.length=1) (fun R hR=>fN _ _ hR (fun R hR=>⟨_,rfl,.inr (.inl ⟨rfl,_,rfl,by rw [aI];exact hR⟩)⟩) fun _ R hR=>⟨_,rfl,_,rfl,hR⟩) (fun c=>?_) (fun c4=>?_)
 ·refine ⟨by show 1≤sizeLine;decide,fun r hr0=>q' _ _ (Old.new hr0) ?_⟩
  rw [w1,if_pos c]
  exact RK.tup (.of ag) (.cons (.s _) .nil)
 rw [if_neg c4,if_neg (fun z=>c2 z.symm),if_neg c3] at w1
 refine bb (x = "call"∧¬ g.length=1) (fun R hR=>fN _ _ hR (fun R hR=>⟨_,rfl,.inr (.inl ⟨rfl,_,rfl,by rw [aI];exact hR⟩)⟩) fun _ R hR=>⟨_,rfl,_,rfl,by rw [decide_not] at hR;exact hR⟩) (fun c=>?_) (fun c5=>?_)
 ·have l2:g.length=2:=by
   have:=lp (by rw [c.1];decide +kernel)
   rw [c.1,np_one.2.2.2.2] at this
   have:=c.2
   omega
  have hfit:(g.headD qK).hd = "?"∨(g.headD qK).hd = "to":=fit c.2 (.mk "to" [qK,qK]) (by rw [show x = "call" from c.1];rfl)
  obtain ⟨a0,b0,es,ep0,_⟩:=gm (h:="to") kg0.wf arT2 hfit
  refine ⟨_,rfl,.inl ⟨fa,fvs1,0,u1,rfl,rfl,hs1,eu1,by show 1≤sizeLine;decide,fun p1 h1=>⟨by show 1≤sizeLine;decide,fun p2 h2=>⟨by show 3≤sizeLine;decide,fun p3 h3=>?_⟩⟩⟩⟩
  have o1:=Old.new (o:=.tup [.str "?"]) h1
  have o2:=Old.new (o:=.tup [.str "?"]) h2
  have o3:=Old.new (o:=.tup [.str "to",.ref p1,.ref p2]) h3
  have oo:=(o1.trans o2).trans o3
  have rsh:=iG (K:=K) "to" h1 h2 h3
  generalize upd (upd (upd H p1 (.tup [.str "?"])) p2 (.tup [.str "?"])) p3 (.tup [.str "to",.ref p1,.ref p2])=H3 at oo rsh ⊢
  refine ⟨u1,.ref p3,g.headD qK,.mk "to" [qK,qK],rfl,ru1.mono oo.tm,rsh,fun v hv=>?_⟩
  rw [show (if (g.headD qK).hd=(Kn.mk "to" [qK,qK]).hd then g.headD qK else Kn.mk "to" [qK,qK]) = .mk "to" [a0,b0] from es] at hv
  obtain ⟨va,vus,rfl,hva,rvs⟩:=RK.kind (show RK K H3 (.tup (.str "to" :: Kn.ds [a0,b0])) v from hv)
  obtain ⟨va0,vr,rfl,rva0,_⟩:=rvs
  refine .inr (.inl ⟨va,_,1,va0,rfl,rfl,hva.sq,at1,q' _ _ oo ?_⟩)
  rw [w1,if_pos ⟨c.1,l2⟩,ep0]
  exact rva0
 have call1:x = "call"→g.length=1:=fun z=>Decidable.by_contra fun y=>c5 ⟨z,y⟩
 refine bb (x = "call") (fun R hR=>⟨_,rfl,.inr (.inl ⟨rfl,_,rfl,by rw [aI];exact hR⟩)⟩) (fun c=>?_) (fun c6=>?_)
 ·refine ⟨_,rfl,.inl ⟨fa,fvs1,0,u1,rfl,rfl,hs1,eu1,by show 1≤sizeLine;decide,fun p1 h1=>⟨by show 1≤sizeLine;decide,fun p2 h2=>⟨by show 3≤sizeLine;decide,fun p3 h3=>?_⟩⟩⟩⟩
  have oo:=((Old.new (o:=.tup [.str "?"]) h1).trans (Old.new (o:=.tup [.str "?"]) h2)).trans (Old.new (o:=.tup [.str "to",.ref p1,.ref p2]) h3)
  have rsh:=iG (K:=K) "to" h1 h2 h3
  generalize upd (upd (upd H p1 (.tup [.str "?"])) p2 (.tup [.str "?"])) p3 (.tup [.str "to",.ref p1,.ref p2])=H3 at oo rsh ⊢
  refine ⟨u1,.ref p3,g.headD qK,.mk "to" [qK,qK],rfl,ru1.mono oo.tm,rsh,fun v hv=>q' _ _ oo ?_⟩
  rw [first (call1 c) (.mk "to" [qK,qK]) (by rw [c];rfl)]
  exact hv
 refine bb (x = "at"∨x = "size") (fun R hR=>df _ _ hR (fun R hR=>⟨_,rfl,.inr (.inl ⟨rfl,_,rfl,by rw [aI];exact hR⟩)⟩) (fun R hR=>⟨_,rfl,.inr (.inl ⟨rfl,_,rfl,by rw [aI];exact hR⟩)⟩)) (fun c=>?_) (fun c7=>?_)
 ·refine ⟨_,rfl,.inl ⟨fa,fvs1,0,u1,rfl,rfl,hs1,eu1,by show 1≤sizeLine;decide,fun p1 h1=>⟨by show 2≤sizeLine;decide,fun p3 h3=>?_⟩⟩⟩
  have oo:=(Old.new (o:=.tup [.str "?"]) h1).trans (Old.new (o:=.tup [.str "row",.ref p1]) h3)
  have rsh:=shape1 (K:=K) "row" h1 h3
  generalize upd (upd H p1 (.tup [.str "?"])) p3 (.tup [.str "row",.ref p1])=H3 at oo rsh ⊢
  refine ⟨u1,.ref p3,g.headD qK,.mk "row" [qK],rfl,ru1.mono oo.tm,rsh,fun v hv=>q' _ _ oo ?_⟩
  rw [first (c.elim (fun z=>Decidable.by_contra fun y=>c1 (.inr ⟨z,y⟩)) (fun z=>all1 (by rw [z];decide +kernel))) (.mk "row" [qK]) (by rcases c with c | c <;> (rw [c];rfl))]
  exact hv
 refine bb (x = "one"∨x = "two") (fun R hR=>df _ _ hR (fun R hR=>⟨_,rfl,.inr (.inl ⟨rfl,_,rfl,by rw [aI];exact hR⟩)⟩) (fun R hR=>⟨_,rfl,.inr (.inl ⟨rfl,_,rfl,by rw [aI];exact hR⟩)⟩)) (fun c=>?_) (fun c8=>?_)
 ·refine ⟨_,rfl,.inl ⟨fa,fvs1,0,u1,rfl,rfl,hs1,eu1,by show 1≤sizeLine;decide,fun p1 h1=>⟨by show 1≤sizeLine;decide,fun p2 h2=>⟨by show 3≤sizeLine;decide,fun p3 h3=>?_⟩⟩⟩⟩
  have oo:=((Old.new (o:=.tup [.str "?"]) h1).trans (Old.new (o:=.tup [.str "?"]) h2)).trans (Old.new (o:=.tup [.str "pair",.ref p1,.ref p2]) h3)
  have rsh:=iG (K:=K) "pair" h1 h2 h3
  generalize upd (upd (upd H p1 (.tup [.str "?"])) p2 (.tup [.str "?"])) p3 (.tup [.str "pair",.ref p1,.ref p2])=H3 at oo rsh ⊢
  refine ⟨u1,.ref p3,g.headD qK,.mk "pair" [qK,qK],rfl,ru1.mono oo.tm,rsh,fun v hv=>q' _ _ oo ?_⟩
  rw [first (all1 (by rcases c with c | c <;> (rw [c];decide +kernel))) (.mk "pair" [qK,qK]) (by rcases c with c | c <;> (rw [c];rfl))]
  exact hv
 refine ⟨_,rfl,_,rfl,.inl ⟨fa,fvs2,-1,u2,rfl,rfl,hs2,eu2,q' _ _ (Old.refl _) ?_⟩⟩
 rw [w1,if_neg (fun z=>c6 z.1),show bX x=none by unfold bX;rw [if_neg c6,if_neg c7,if_neg c8]]
 exact ru2
end
end L2.K33
end
section
namespace L2.K33
open PySem PySem.Spec PyProof.Rows L2.Bw L2.Bk L2.Ex
theorem sifo_by {tt:TT} {ta u:TS} {D:eO} {σ:St} {H:Hp} (B:Prop) [Decidable B] (h:∀ R:Bool→Hp→Prop,(∀ H',Old H H'→R (decide B) H')→tt σ H R) (h1:B→∀ H',Old H H'→ta { D with nx:=u D } σ H') (h2:¬ B→∀ H',Old H H'→u D σ H'):tSeq (tIfS tt ta iJ) u D σ H:=h _ (fun H' o=>by
 by_cases c:B
 ·rw [decide_eq_true c];exact a9 (h1 c H' o)
 ·rw [decide_eq_false c];exact aU (h2 c H' o))
section
variable {P:Program} {w:World} {K:W.Frag} {mg:Str→Option Value} {base:Heap} {f:Addr} {fd:FuncData}
abbrev sLO:Stmt:=top 61
def spLO (K:W.Frag):Sp:=fun vs H Q _=>∃ (v:V) (b fa:Addr) (t:Tk) (g:List Kn) (kvs:List (Key×V)) (e:Nv),vs = [v,.ref b,.ref fa]∧RK K H t.tn.d v∧t.tn.wf∧t.w≠"look"∧Fd K H fa g∧g.length=t.ps.length∧(∀ k∈g,Kg k 4)∧Fit t.w g∧(t.w = "do"→∃ o,t.fr = [.str o])∧(t.w = "name"→(e ((txs t.fr).headD "")).isSome=true)∧H b=some (.dK kvs)∧dG K H kvs e ∧
 ∀ v' H',Old H H'→RK K H' (ba t.w t.fr t.ks g e).d v'→Q v' H'
theorem scLO:aF ["_law_node","_law_names_here","_law_kinds","_law_word"] ["_law_node","_law_names_here","_law_kinds"] (aw sLO):=⟨rfl,rfl,rfl,by decide +kernel,rfl,by decide +kernel,by decide +kernel⟩
theorem ok_LO {n:Nat} (F:Fun K "_law_own" "_law_own" sLO f fd) (T:Tx mg) (c_shaped:Cal P w K mg base "_law_shaped" ["_law_kind_here","_law_shape"] 1 (spSh K)) (c_join:Cal P w K mg base "_law_join" ["_law_kind_here","_law_other"] 8 (spLJ K 8)):aY P w K mg base CX0 (n+9) f fd ["_law_node","_law_names_here","_law_kinds"] (spLO K):=by
 refine F.ok scLO (fun vs H Q E h=>?_) (fun cdv A outer s H vs Q E hr h=>?_)
 ·obtain ⟨v,b,fa,t,g,kvs,e,rfl,_⟩:=h
  rfl
 obtain ⟨v,b,fa,t,g,kvs,e,rfl,rv,wt,nl,hf,lg,kg,fit,hdo,hnm,hb,he,q⟩:=h
 have nd:=scLO.nd
 obtain ⟨x,p,fr,ks,ps⟩:=t
 have rv':RK K H (Tn.mk x p fr (Kn.ds ks) (Tk.tns ps)).d v:=rv
 obtain ⟨⟨hx,lf,lm,lp,_,hn,_⟩,_⟩:=(show (Tn.mk x p fr (Kn.ds ks) (Tk.tns ps)).wf from wt)
 obtain ⟨a,uf,um,up,rfl,ha,rf,rm,_⟩:=RK.node rv'
 have l1:=rf.length
 rw [aH] at lm
 rw [aM] at lp
 have lg':g.length=ps.length:=lg
 rw [← lg'] at lp
 have q':∀ v' H',Old H H'→RK K H' (ba x fr ks g e).d v'→Q v' H':=q
 obtain ⟨f1,f2,f3,f4,f5,f6,f7,f8,f9,f10,f11⟩:=bC
 obtain ⟨p1,p2,p3,p4,p5,p6,p7,p8⟩:=de
 have kgD:∀ i,Kg ((g[i]?).getD qK) 4:=fun i=>ci (by omega) kg i
 have kg0:Kg (g.headD qK) 4:=bU (by omega) kg
 have at1':∀ (z:Str),x=z→z∈(["call","at","one","two"]:List Str)→0<g.length:=fun z ez hz=>by
  obtain ⟨h1,h2⟩:=to_pos z hz
  have:=lp (by rw [ez];exact h1)
  rw [ez] at this
  omega
 refine' ⟨_,?n0,?Z⟩
 case' n0=>refine' ae ?N1 ?N2
 case' N1=>refine' aA (i:=3) nd rfl (Or.inl rfl) rfl (by first | exact .inl rfl | exact .inr rfl) ?N3
 case N3=>exact al (show IxR _ (rIx K) from ai) (pv 0) ac (fun _ _=>rfl)
 case' N2=>refine' ae ?N4 ?N5
 case' N4=>refine' aC (ak (ax hr) (pv 3) aj (am _)) ?N6 aq
 case' N6=>refine' ah ?N7
 case' N7=>refine' ao ?N8
 case' N8=>refine' j6 hr.u1 (pv 1) ?N9 (fun _ _=>rfl)
 case N9=>exact al (show IxR _ (rIx K) from ai) (pv 0) ac (fun _ _=>rfl)
 case' N5=>refine' ae ?Na ?Nb
 case' Na=>refine' aC ?Nc ?Nd aq
 case' Nc=>refine' PW.pt ?Ne
 case' Ne=>refine' bV (ak (ax hr) (pv 3) aj (am _)) ?Nf
 case' Nf=>refine' bR ?Ng
 case' Ng=>refine' PW.pt ?Nh
 case' Nh=>refine' bG (ak (ax hr) (pv 3) aj (am _)) ?Ni
 case' Ni=>refine' bu ?Nj
 case' Nj=>refine' ak d7 ?Nk (bt (pa aj (pa aj ad))) rfl
 case Nk=>exact al (show IxR _ (rIx K) from ai) (pv 0) ac (fun _ _=>rfl)
 case' Nd=>refine' ah ?Nl
 case Nl=>exact ao (ay (pa aj ad))
 case' Nb=>refine' ae ?Nm ?Nn
 case' Nm=>refine' aC ?No ?Np aq
 case' No=>refine' PW.pt ?Nq
 case' Nq=>refine' bV (ak (ax hr) (pv 3) aj (am _)) ?Nr
 case' Nr=>refine' bV (ak (ax hr) (pv 3) aj (am _)) ?Ns
 case' Ns=>refine' bV (ak (ax hr) (pv 3) aj (am _)) ?Nt
 case Nt=>exact bR (ak (ax hr) (pv 3) aj (am _))
 case' Np=>refine' ah ?Nu
 case Nu=>exact ao (ay (pa aj ad))
 case' Nn=>refine' ae ?Nv ?Nw
 case' Nv=>refine' aC (ak (ax hr) (pv 3) aj (am _)) ?Nx aq
 case' Nx=>refine' ah ?Ny
 case' Ny=>refine' ao ?Nz
 case' Nz=>refine' ay ?N10
 case' N10=>refine' pa aj ?N11
 case' N11=>refine' pa ?N12 ?N13
 case N12=>exact al (show IxR _ (rIx K) from ai) (pv 0) ac (fun _ _=>rfl)
 case' N13=>refine' pa ?N14 ad
 case N14=>exact al (show IxR _ (rIx K) from ai) (pv 2) ac (fun _ _=>rfl)
 case' Nw=>refine' ae ?N15 ?N16
 case' N15=>refine' aC (ak (ax hr) (pv 3) aj (am _)) ?N17 aq
 case' N17=>refine' ah ?N18
 case' N18=>refine' ao ?N19
 case' N19=>refine' ay ?N1a
 case' N1a=>refine' pa aj ?N1b
 case' N1b=>refine' pa ?N1c ?N1d
 case N1c=>exact al (show IxR _ (rIx K) from ai) (pv 0) ac (fun _ _=>rfl)
 case' N1d=>refine' pa ?N1e ad
 case N1e=>exact al (show IxR _ (rIx K) from ai) (pv 0) ac (fun _ _=>rfl)
 case' N16=>refine' ae ?N1f ?N1g
 case' N1f=>refine' aC (ak (ax hr) (pv 3) aj (am _)) ?N1h aq
 case' N1h=>refine' ah ?N1i
 case' N1i=>refine' ao ?N1j
 case N1j=>exact al (show IxR _ (rIx K) from ai) (pv 2) ac (fun _ _=>rfl)
 case' N1g=>refine' ae ?N1k ?N1l
 case' N1k=>refine' aC (ak (ax hr) (pv 3) aj (am _)) ?N1m aq
 case' N1m=>refine' ah ?N1n
 case' N1n=>refine' ao ?N1o
 case' N1o=>refine' az c_join hr ?N1p
 case' N1p=>refine' pa ?N1q ?N1r
 case N1q=>exact al (show IxR _ (rIx K) from ai) (pv 2) ac (fun _ _=>rfl)
 case' N1r=>refine' pa ?N1s ad
 case N1s=>exact al (show IxR _ (rIx K) from ai) (pv 2) ac (fun _ _=>rfl)
 case' N1l=>refine' ae ?N1t ?N1u
 case' N1t=>refine' aC (ak (ax hr) (pv 3) aj (am _)) ?N1v aq
 case' N1v=>refine' ah ?N1w
 case' N1w=>refine' ao ?N1x
 case' N1x=>refine' al (show IxR _ (rIx K) from ai) ?N1y ac (fun _ _=>rfl)
 case' N1y=>refine' az c_shaped hr ?N1z
 case' N1z=>refine' pa ?N20 (pa (ay (pa aj (pa (ay (pa aj ad)) (pa (ay (pa aj ad)) ad)))) ad)
 case N20=>exact al (show IxR _ (rIx K) from ai) (pv 2) ac (fun _ _=>rfl)
 case' N1u=>refine' ae ?N21 ?N22
 case' N21=>refine' aC (ak (ax hr) (pv 3) aj (am _)) ?N23 aq
 case' N23=>refine' ah ?N24
 case' N24=>refine' ao ?N25
 case' N25=>refine' ay ?N26
 case' N26=>refine' pa aj ?N27
 case' N27=>refine' pa ?N28 ad
 case N28=>exact al (show IxR _ (rIx K) from ai) (pv 0) ac (fun _ _=>rfl)
 case' N22=>refine' ae ?N29 ?N2a
 case' N29=>refine' aC (ak (ax hr) (pv 3) aj (am _)) ?N2b aq
 case' N2b=>refine' ah ?N2c
 case' N2c=>refine' ao ?N2d
 case' N2d=>refine' al (show IxR _ (rIx K) from ai) ?N2e ac (fun _ _=>rfl)
 case' N2e=>refine' az c_shaped hr ?N2f
 case' N2f=>refine' pa ?N2g (pa (ay (pa aj (pa (ay (pa aj ad)) ad))) ad)
 case N2g=>exact al (show IxR _ (rIx K) from ai) (pv 2) ac (fun _ _=>rfl)
 case' N2a=>refine' ae ?N2h ?N2i
 case' N2h=>refine' aC (ak (ax hr) (pv 3) aj (am _)) ?N2j aq
 case' N2j=>refine' ah ?N2k
 case' N2k=>refine' ao ?N2l
 case' N2l=>refine' ay ?N2m
 case' N2m=>refine' pa aj ?N2n
 case' N2n=>refine' pa ?N2o ?N2p
 case N2o=>exact al (show IxR _ (rIx K) from ai) (pv 2) ac (fun _ _=>rfl)
 case' N2p=>refine' pa ?N2q ad
 case N2q=>exact al (show IxR _ (rIx K) from ai) (pv 2) ac (fun _ _=>rfl)
 case' N2i=>refine' ae ?N2r ?N2s
 case' N2r=>refine' aC (ak (ax hr) (pv 3) aj (am _)) ?N2t aq
 case' N2t=>refine' ah ?N2u
 case' N2u=>refine' ao ?N2v
 case N2v=>exact al (show IxR _ (rIx K) from ai) (pv 0) ac (fun _ _=>rfl)
 case' N2s=>refine' ah ?N2w
 case' N2w=>refine' ao ?N2x
 case' N2x=>refine' al (show IxR _ (rIx K) from ai) ?N2y ?N2z (fun _ _=>rfl)
 case' N2y=>refine' az c_shaped hr ?N30
 case' N30=>refine' pa ?N31 (pa (ay (pa aj (pa (ay (pa aj ad)) (pa (ay (pa aj ad)) ad)))) ad)
 case N31=>exact al (show IxR _ (rIx K) from ai) (pv 2) ac (fun _ _=>rfl)
 case' N2z=>refine' aE bo ac ?N32
 case' N32=>refine' bI (i6) rfl T.int boot_int ?N33
 case' N33=>refine' pa ?N34 ad
 case N34=>exact dB (ax hr) (pv 3) aj (am _)
 refine ⟨_,rfl,.inr (.inl ⟨a,_,0,.str x,rfl,rfl,ha.sq,at0,?_⟩)⟩
 dsimp only [bH]
 refine bb (x = "name") (fun R hR=>⟨_,rfl,.inr (.inl ⟨rfl,_,rfl,by rw [aI];exact hR⟩)⟩) (fun c=>?_) (fun c1=>?_)
 ·obtain ⟨ns,rfl⟩:=hn (by rw [c];decide +kernel)
  obtain rfl:=RKs.txs rf
  rw [List.length_map,c,f6] at lf
  obtain ⟨nm,rfl⟩:=List.length_eq_one_iff.mp lf
  have hs:=hnm c
  obtain ⟨k,hk⟩:=Option.isSome_iff_exists.mp (show (e nm).isSome=true from hs)
  obtain ⟨kv,hv,rk⟩:=he nm k hk
  refine ⟨_,rfl,_,rfl,.inr (.inl ⟨a,_,2,.str nm,rfl,rfl,ha.sq,at2,b,kv,rfl,?_,q' kv H (Old.refl _) ?_⟩)⟩
  ·have z:=kz.k (k:=.inr nm) hb
   rw [hv] at z
   exact z
  ·rw [show ba x ([nm].map Dk.str) ks g e=k by
    unfold ba
    rw [c,if_neg (by decide +kernel),if_neg (by decide +kernel),if_neg (by decide +kernel),if_neg (by decide +kernel),if_pos rfl,show (txs ([nm].map Dk.str)).headD "" = nm from rfl,hk]
    rfl]
   exact rk
 refine sifo_by (x = "truth"∨(x = "do"∧(txs fr).headD ""∈(["<","="]:List Str))) (fun R hR=>?_) (fun c H1 o1=>?_) (fun c2 H1 o1=>?_)
 ·refine ⟨_,rfl,.inr (.inl ⟨rfl,_,rfl,?_⟩)⟩
  rw [aI]
  by_cases d1:x = "truth"
  ·rw [decide_eq_true d1]
   rw [decide_eq_true (.inl d1)] at hR
   exact a9 (hR _ (Old.refl _))
  rw [decide_eq_false d1]
  refine aU ⟨_,rfl,.inr (.inl ⟨rfl,_,rfl,?_⟩)⟩
  rw [aI]
  by_cases d2:x = "do"
  ·rw [decide_eq_true d2]
   obtain ⟨o,eo⟩:=hdo d2
   obtain rfl:fr = [.str o]:=eo
   obtain ⟨y0,uf',rfl,ry0,rf'⟩:=rf
   obtain rfl:y0 = .str o:=by rw [RK] at ry0;exact ry0
   refine a9 ⟨_,rfl,.inr (.inl ⟨a,_,2,.str o,rfl,rfl,ha.sq,at2,by show 2≤sizeLine;decide,fun r hr0=>⟨r,_,rfl,.inl (SqL.of ag),rfl,rfl,_,rfl,?_⟩⟩)⟩
   have o1:=Old.new (o:=.lst [.str "<",.str "="]) hr0
   rw [if_neg Bool.false_ne_true,show [V.str "<",V.str "="]=(["<","="]:List Str).map V.str from rfl,dY]
   rw [show decide (x = "truth"∨(x = "do"∧(txs [.str o]).headD ""∈(["<","="]:List Str)))=decide (o∈(["<","="]:List Str)) from decide_eq_decide.mpr ⟨fun z=>(z.resolve_left d1).2,fun z=>.inr ⟨d2,z⟩⟩] at hR
   exact hR _ o1
  ·rw [decide_eq_false d2]
   rw [decide_eq_false (fun z=>z.elim d1 fun z=>d2 z.1)] at hR
   exact aU (hR _ (Old.refl _))
 ·refine ⟨by show 1≤sizeLine;decide,fun r hr0=>q' _ _ (o1.trans (Old.new hr0)) ?_⟩
  rw [show ba x fr ks g e=eL by
   unfold ba
   rcases c with c | ⟨c,c'⟩
   ·rw [c,if_neg (by decide +kernel),if_pos rfl]
   ·rw [c,if_neg (by decide +kernel),if_neg (by decide +kernel),if_neg (by decide +kernel),if_neg (by decide +kernel),if_neg (by decide +kernel),if_neg (by decide +kernel),if_neg (by decide +kernel),if_neg (by decide +kernel),if_neg (by decide +kernel),if_pos rfl,if_pos c']]
  exact RK.tup (.of ag) (.cons (.s _) .nil)
 have ha1:=ha.mono o1.tm
 have hf1:=hf.old o1
 have rm1:=rm.mono o1.tm
 refine bb (x = "whole"∨(x = "given"∨(x = "do"∨x = "size"))) (fun R hR=>df _ _ hR (fun R hR=>⟨_,rfl,.inr (.inl ⟨rfl,_,rfl,by rw [aI];exact hR⟩)⟩) fun R hR=>df _ _ hR (fun R hR=>⟨_,rfl,.inr (.inl ⟨rfl,_,rfl,by rw [aI];exact hR⟩)⟩) fun R hR=>df _ _ hR (fun R hR=>⟨_,rfl,.inr (.inl ⟨rfl,_,rfl,by rw [aI];exact hR⟩)⟩) (fun R hR=>⟨_,rfl,.inr (.inl ⟨rfl,_,rfl,by rw [aI];exact hR⟩)⟩)) (fun c=>?_) (fun c3=>?_)
 ·refine ⟨by show 1≤sizeLine;decide,fun r hr0=>q' _ _ (o1.trans (Old.new hr0)) ?_⟩
  rw [show ba x fr ks g e=cW by
   unfold ba
   by_cases d:x = "do"
   ·rw [d,if_neg (by decide +kernel),if_neg (by decide +kernel),if_neg (by decide +kernel),if_neg (by decide +kernel),if_neg (by decide +kernel),if_neg (by decide +kernel),if_neg (by decide +kernel),if_neg (by decide +kernel),if_neg (by decide +kernel),if_pos rfl,if_neg (fun z=>c2 (.inr ⟨d,z⟩))]
   ·exact if_pos (c.imp_right fun z=>z.imp_right fun z=>z.resolve_left d)]
  exact RK.tup (.of ag) (.cons (.s _) .nil)
 refine bb (x = "fn") (fun R hR=>⟨_,rfl,.inr (.inl ⟨rfl,_,rfl,by rw [aI];exact hR⟩)⟩) (fun c=>?_) (fun c4=>?_)
 ·have lg1:=lp (by rw [c];decide +kernel)
  rw [c,p5] at lg1
  rw [c,f1] at lf
  rw [c,f2] at lm
  obtain ⟨x0,rfl⟩:=List.length_eq_one_iff.mp lf
  obtain ⟨k0,rfl⟩:=List.length_eq_one_iff.mp lm
  obtain ⟨y0,uf',rfl,_,rf'⟩:=rf
  obtain rfl:uf' = []:=rf'
  obtain ⟨kv,um',rfl,rkv,_⟩:=rm1
  obtain ⟨fvs,u,hs,_,eu,ru⟩:=hf1.get (i:=0) (by omega)
  refine ⟨_,rfl,.inr (.inl ⟨a,_,3,kv,rfl,rfl,ha1.sq,at3,_,rfl,.inl ⟨fa,fvs,0,u,rfl,rfl,hs,eu,by show 3≤sizeLine;decide,fun r hr0=>q' _ _ (o1.trans (Old.new hr0)) ?_⟩⟩)⟩
  rw [show ba x [x0] [k0] g e = .mk "to" [k0,g.headD qK] by
   unfold ba
   rw [c,if_neg (by decide +kernel),if_neg (by decide +kernel),if_neg (by decide +kernel),if_neg (by decide +kernel),if_neg (by decide +kernel),if_pos rfl]
   rfl,bx g]
  exact RK.tup (.of ag) (.cons (.s _) (.cons (rkv.mono (Old.new hr0).tm) (.cons (ru.mono (Old.new hr0).tm) .nil)))
 refine bb (x = "self") (fun R hR=>⟨_,rfl,.inr (.inl ⟨rfl,_,rfl,by rw [aI];exact hR⟩)⟩) (fun c=>?_) (fun c5=>?_)
 ·rw [c,f3] at lf
  rw [c,f4] at lm
  obtain ⟨x0,x1,rfl⟩:=b9 lf
  obtain ⟨k0,k1,rfl⟩:=b9 lm
  obtain ⟨y0,uf',rfl,_,rf'⟩:=rf
  obtain ⟨y1,uf'',rfl,_,rf''⟩:=rf'
  obtain rfl:uf'' = []:=rf''
  obtain ⟨kv,um',rfl,rkv,rm'⟩:=rm1
  obtain ⟨kv1,um'',rfl,rkv1,_⟩:=rm'
  refine ⟨_,rfl,.inr (.inl ⟨a,_,4,kv,rfl,rfl,ha1.sq,aK (j:=4) rfl,_,rfl,.inr (.inl ⟨a,_,5,kv1,rfl,rfl,ha1.sq,aK (j:=5) rfl,by show 3≤sizeLine;decide,fun r hr0=>q' _ _ (o1.trans (Old.new hr0)) ?_⟩)⟩)⟩
  rw [show ba x [x0,x1] [k0,k1] g e = .mk "to" [k0,k1] by
   unfold ba
   rw [c,if_neg (by decide +kernel),if_neg (by decide +kernel),if_neg (by decide +kernel),if_neg (by decide +kernel),if_neg (by decide +kernel),if_neg (by decide +kernel),if_pos rfl]
   rfl]
  exact RK.tup (.of ag) (.cons (.s _) (.cons (rkv.mono (Old.new hr0).tm) (.cons (rkv1.mono (Old.new hr0).tm) .nil)))
 refine bb (x = "let") (fun R hR=>⟨_,rfl,.inr (.inl ⟨rfl,_,rfl,by rw [aI];exact hR⟩)⟩) (fun c=>?_) (fun c6=>?_)
 ·have lg1:=lp (by rw [c];decide +kernel)
  rw [c,p6] at lg1
  obtain ⟨fvs,u,hs,_,eu,ru⟩:=hf1.get (i:=1) (by omega)
  refine ⟨_,rfl,.inl ⟨fa,fvs,1,u,rfl,rfl,hs,eu,q' _ _ o1 ?_⟩⟩
  rw [show ba x fr ks g e=(g[1]?).getD qK by
   unfold ba
   rw [c,if_neg (by decide +kernel),if_neg (by decide +kernel),if_neg (by decide +kernel),if_neg (by decide +kernel),if_neg (by decide +kernel),if_neg (by decide +kernel),if_neg (by decide +kernel),if_pos rfl]]
  exact ru
 refine bb (x = "if") (fun R hR=>⟨_,rfl,.inr (.inl ⟨rfl,_,rfl,by rw [aI];exact hR⟩)⟩) (fun c=>?_) (fun c7=>?_)
 ·have lg1:=lp (by rw [c];decide +kernel)
  rw [c,p7] at lg1
  obtain ⟨fvs,u,hs,_,eu,ru⟩:=hf1.get (i:=1) (by omega)
  obtain ⟨fvs2,u2,hs2,_,eu2,ru2⟩:=hf1.get (i:=2) (by omega)
  refine ⟨_,rfl,.inl ⟨fa,fvs,1,u,rfl,rfl,hs,eu,_,rfl,.inl ⟨fa,fvs2,2,u2,rfl,rfl,hs2,eu2,?_⟩⟩⟩
  refine ⟨u,u2,(g[1]?).getD qK,(g[2]?).getD qK,rfl,ru,ru2,(kgD 1).wf,(kgD 2).wf,by have:=(kgD 1).dep;omega,fun v' H' o' r'=>q' _ _ (o1.trans o') ?_⟩
  rw [show ba x fr ks g e=((g[1]?).getD qK).join ((g[2]?).getD qK) by
   unfold ba
   rw [c,if_neg (by decide +kernel),if_neg (by decide +kernel),if_neg (by decide +kernel),if_neg (by decide +kernel),if_neg (by decide +kernel),if_neg (by decide +kernel),if_neg (by decide +kernel),if_neg (by decide +kernel),if_pos rfl]]
  exact r'
 refine bb (x = "call") (fun R hR=>⟨_,rfl,.inr (.inl ⟨rfl,_,rfl,by rw [aI];exact hR⟩)⟩) (fun c=>?_) (fun c8=>?_)
 ·obtain ⟨fvs1,u1,hs1,_,eu1,ru1⟩:=hf1.get (at1' "call" c (by decide +kernel))
  rw [← bx] at ru1
  have hfit:(g.headD qK).hd = "?"∨(g.headD qK).hd = "to":=fit (.mk "to" [qK,qK]) (by rw [show x = "call" from c];rfl)
  obtain ⟨a0,b0,es,_,ep1⟩:=gm (h:="to") kg0.wf arT2 hfit
  refine ⟨_,rfl,.inl ⟨fa,fvs1,0,u1,rfl,rfl,hs1,eu1,by show 1≤sizeLine;decide,fun p1 h1=>⟨by show 1≤sizeLine;decide,fun p2 h2=>⟨by show 3≤sizeLine;decide,fun p3 h3=>?_⟩⟩⟩⟩
  have oo:=((Old.new (o:=.tup [.str "?"]) h1).trans (Old.new (o:=.tup [.str "?"]) h2)).trans (Old.new (o:=.tup [.str "to",.ref p1,.ref p2]) h3)
  have rsh:=iG (K:=K) "to" h1 h2 h3
  generalize upd (upd (upd H1 p1 (.tup [.str "?"])) p2 (.tup [.str "?"])) p3 (.tup [.str "to",.ref p1,.ref p2])=H3 at oo rsh ⊢
  refine ⟨u1,.ref p3,g.headD qK,.mk "to" [qK,qK],rfl,ru1.mono oo.tm,rsh,fun v hv=>?_⟩
  rw [show (if (g.headD qK).hd=(Kn.mk "to" [qK,qK]).hd then g.headD qK else Kn.mk "to" [qK,qK]) = .mk "to" [a0,b0] from es] at hv
  obtain ⟨va,vus,rfl,hva,rvs⟩:=RK.kind (show RK K H3 (.tup (.str "to" :: Kn.ds [a0,b0])) v from hv)
  obtain ⟨va0,vr,rfl,rva0,rvs'⟩:=rvs
  obtain ⟨vb0,vr',rfl,rvb0,_⟩:=rvs'
  refine .inr (.inl ⟨va,_,2,vb0,rfl,rfl,hva.sq,at2,q' _ _ (o1.trans oo) ?_⟩)
  rw [show ba x fr ks g e=(g.headD qK).pt 1 by
   unfold ba
   rw [c,if_neg (by decide +kernel),if_neg (by decide +kernel),if_pos (by decide +kernel)],ep1]
  exact rvb0
 refine bb (x = "row") (fun R hR=>⟨_,rfl,.inr (.inl ⟨rfl,_,rfl,by rw [aI];exact hR⟩)⟩) (fun c=>?_) (fun c9=>?_)
 ·rw [c,f8] at lf
  rw [c,f9] at lm
  obtain rfl:uf = []:=List.length_eq_zero_iff.mp (l1.symm.trans lf)
  obtain ⟨k0,rfl⟩:=List.length_eq_one_iff.mp lm
  obtain ⟨kv,um',rfl,rkv,_⟩:=rm1
  refine ⟨_,rfl,.inr (.inl ⟨a,_,2,kv,rfl,rfl,ha1.sq,at2,by show 2≤sizeLine;decide,fun r hr0=>q' _ _ (o1.trans (Old.new hr0)) ?_⟩)⟩
  rw [show ba x fr [k0] g e = .mk "row" [k0] by
   unfold ba
   rw [c,if_neg (by decide +kernel),if_neg (by decide +kernel),if_neg (by decide +kernel),if_neg (by decide +kernel),if_neg (by decide +kernel),if_neg (by decide +kernel),if_neg (by decide +kernel),if_neg (by decide +kernel),if_neg (by decide +kernel),if_neg (by decide +kernel),if_pos rfl]
   rfl]
  exact RK.tup (.of ag) (.cons (.s _) (.cons (rkv.mono (Old.new hr0).tm) .nil))
 refine bb (x = "at") (fun R hR=>⟨_,rfl,.inr (.inl ⟨rfl,_,rfl,by rw [aI];exact hR⟩)⟩) (fun c=>?_) (fun c10=>?_)
 ·obtain ⟨fvs1,u1,hs1,_,eu1,ru1⟩:=hf1.get (at1' "at" c (by decide +kernel))
  rw [← bx] at ru1
  have hfit:(g.headD qK).hd = "?"∨(g.headD qK).hd = "row":=fit (.mk "row" [qK]) (by rw [show x = "at" from c];rfl)
  obtain ⟨a0,es,ep0⟩:=one_part (h:="row") kg0.wf arR1 hfit
  refine ⟨_,rfl,.inl ⟨fa,fvs1,0,u1,rfl,rfl,hs1,eu1,by show 1≤sizeLine;decide,fun p1 h1=>⟨by show 2≤sizeLine;decide,fun p3 h3=>?_⟩⟩⟩
  have oo:=(Old.new (o:=.tup [.str "?"]) h1).trans (Old.new (o:=.tup [.str "row",.ref p1]) h3)
  have rsh:=shape1 (K:=K) "row" h1 h3
  generalize upd (upd H1 p1 (.tup [.str "?"])) p3 (.tup [.str "row",.ref p1])=H3 at oo rsh ⊢
  refine ⟨u1,.ref p3,g.headD qK,.mk "row" [qK],rfl,ru1.mono oo.tm,rsh,fun v hv=>?_⟩
  rw [show (if (g.headD qK).hd=(Kn.mk "row" [qK]).hd then g.headD qK else Kn.mk "row" [qK]) = .mk "row" [a0] from es] at hv
  obtain ⟨va,vus,rfl,hva,rvs⟩:=RK.kind (show RK K H3 (.tup (.str "row" :: Kn.ds [a0])) v from hv)
  obtain ⟨va0,vr,rfl,rva0,_⟩:=rvs
  refine .inr (.inl ⟨va,_,1,va0,rfl,rfl,hva.sq,at1,q' _ _ (o1.trans oo) ?_⟩)
  rw [show ba x fr ks g e=(g.headD qK).pt 0 by
   unfold ba
   rw [c,if_neg (by decide +kernel),if_neg (by decide +kernel),if_neg (by decide +kernel),if_pos (by decide +kernel)],ep0]
  exact rva0
 refine bb (x = "pair") (fun R hR=>⟨_,rfl,.inr (.inl ⟨rfl,_,rfl,by rw [aI];exact hR⟩)⟩) (fun c=>?_) (fun c11=>?_)
 ·have lg1:=lp (by rw [c];decide +kernel)
  rw [c,p8] at lg1
  obtain ⟨fvs,u,hs,_,eu,ru⟩:=hf1.get (i:=0) (by omega)
  obtain ⟨fvs2,u2,hs2,_,eu2,ru2⟩:=hf1.get (i:=1) (by omega)
  refine ⟨_,rfl,.inl ⟨fa,fvs,0,u,rfl,rfl,hs,eu,_,rfl,.inl ⟨fa,fvs2,1,u2,rfl,rfl,hs2,eu2,by show 3≤sizeLine;decide,fun r hr0=>q' _ _ (o1.trans (Old.new hr0)) ?_⟩⟩⟩
  rw [show ba x fr ks g e = .mk "pair" [g.headD qK,(g[1]?).getD qK] by
   unfold ba
   rw [c,if_neg (by decide +kernel),if_neg (by decide +kernel),if_neg (by decide +kernel),if_neg (by decide +kernel),if_neg (by decide +kernel),if_neg (by decide +kernel),if_neg (by decide +kernel),if_neg (by decide +kernel),if_neg (by decide +kernel),if_neg (by decide +kernel),if_neg (by decide +kernel),if_pos rfl],bx g]
  exact RK.tup (.of ag) (.cons (.s _) (.cons (ru.mono (Old.new hr0).tm) (.cons (ru2.mono (Old.new hr0).tm) .nil)))
 refine bb (x = "as") (fun R hR=>⟨_,rfl,.inr (.inl ⟨rfl,_,rfl,by rw [aI];exact hR⟩)⟩) (fun c=>?_) (fun c12=>?_)
 ·rw [c,f10] at lf
  rw [c,f11] at lm
  obtain rfl:uf = []:=List.length_eq_zero_iff.mp (l1.symm.trans lf)
  obtain ⟨k0,rfl⟩:=List.length_eq_one_iff.mp lm
  obtain ⟨kv,um',rfl,rkv,_⟩:=rm1
  refine ⟨_,rfl,.inr (.inl ⟨a,_,2,kv,rfl,rfl,ha1.sq,at2,q' _ _ o1 ?_⟩)⟩
  rw [show ba x fr [k0] g e=k0 by
   unfold ba
   rw [c,if_neg (by decide +kernel),if_neg (by decide +kernel),if_neg (by decide +kernel),if_neg (by decide +kernel),if_neg (by decide +kernel),if_neg (by decide +kernel),if_neg (by decide +kernel),if_neg (by decide +kernel),if_neg (by decide +kernel),if_neg (by decide +kernel),if_neg (by decide +kernel),if_neg (by decide +kernel)]
   rfl]
  exact rkv
 have c13:x = "one"∨x = "two":=by
  rcases as_left x hx with z | z
  ·exact absurd z c12
  by_cases d1:x = "one"
  ·exact .inl d1
  by_cases d2:x = "two"
  ·exact .inr d2
  exfalso
  rcases List.mem_cons.mp z with z | z
  ·exact c3 (.inl z)
  rcases List.mem_cons.mp z with z | z
  ·exact c3 (.inr (.inl z))
  rcases List.mem_cons.mp z with z | z
  ·exact c3 (.inr (.inr (.inr z)))
  rcases List.mem_cons.mp z with z | z
  ·exact c2 (.inl z)
  rcases List.mem_cons.mp z with z | z
  ·exact c8 z
  rcases List.mem_cons.mp z with z | z
  ·exact c10 z
  rcases List.mem_cons.mp z with z | z
  ·exact d1 z
  rcases List.mem_cons.mp z with z | z
  ·exact d2 z
  rcases List.mem_cons.mp z with z | z
  ·exact c1 z
  rcases List.mem_cons.mp z with z | z
  ·exact c4 z
  rcases List.mem_cons.mp z with z | z
  ·exact c5 z
  rcases List.mem_cons.mp z with z | z
  ·exact c6 z
  rcases List.mem_cons.mp z with z | z
  ·exact c7 z
  rcases List.mem_cons.mp z with z | z
  ·exact c3 (.inr (.inr (.inl z)))
  rcases List.mem_cons.mp z with z | z
  ·exact c9 z
  rcases List.mem_cons.mp z with z | z
  ·exact c11 z
  ·exact nl (List.mem_singleton.mp z)
 obtain ⟨fvs1,u1,hs1,_,eu1,ru1⟩:=hf1.get (at1' x rfl (by rcases c13 with c | c <;> (rw [c];decide +kernel)))
 rw [← bx] at ru1
 have hfit:(g.headD qK).hd = "?"∨(g.headD qK).hd = "pair":=fit (.mk "pair" [qK,qK]) (by rcases c13 with c | c <;> (rw [show x=_ from c];rfl))
 obtain ⟨a0,b0,es,ep0,ep1⟩:=gm (h:="pair") kg0.wf arP2 hfit
 refine ⟨_,rfl,.inl ⟨fa,fvs1,0,u1,rfl,rfl,hs1,eu1,by show 1≤sizeLine;decide,fun p1 h1=>⟨by show 1≤sizeLine;decide,fun p2 h2=>⟨by show 3≤sizeLine;decide,fun p3 h3=>?_⟩⟩⟩⟩
 have oo:=((Old.new (o:=.tup [.str "?"]) h1).trans (Old.new (o:=.tup [.str "?"]) h2)).trans (Old.new (o:=.tup [.str "pair",.ref p1,.ref p2]) h3)
 have rsh:=iG (K:=K) "pair" h1 h2 h3
 generalize upd (upd (upd H1 p1 (.tup [.str "?"])) p2 (.tup [.str "?"])) p3 (.tup [.str "pair",.ref p1,.ref p2])=H3 at oo rsh ⊢
 refine ⟨u1,.ref p3,g.headD qK,.mk "pair" [qK,qK],rfl,ru1.mono oo.tm,rsh,fun v hv=>?_⟩
 rw [show (if (g.headD qK).hd=(Kn.mk "pair" [qK,qK]).hd then g.headD qK else Kn.mk "pair" [qK,qK]) = .mk "pair" [a0,b0] from es] at hv
 obtain ⟨va,vus,rfl,hva,rvs⟩:=RK.kind (show RK K H3 (.tup (.str "pair" :: Kn.ds [a0,b0])) v from hv)
 obtain ⟨va0,vr,rfl,rva0,rvs'⟩:=rvs
 obtain ⟨vb0,vr',rfl,rvb0,_⟩:=rvs'
 refine ⟨_,rfl,.inr (.inl ⟨rfl,?_⟩)⟩
 rw [aI]
 refine .inr ⟨_,rfl,.inr (.inl ⟨_,_,rfl,rfl,?_⟩)⟩
 by_cases d:x = "two"
 ·rw [decide_eq_true d]
  refine .inr (.inl ⟨va,_,2,vb0,rfl,rfl,hva.sq,at2,q' _ _ (o1.trans oo) ?_⟩)
  rw [show ba x fr ks g e=(g.headD qK).pt 1 by
   unfold ba
   rw [d,if_neg (by decide +kernel),if_neg (by decide +kernel),if_pos (by decide +kernel)],ep1]
  exact rvb0
 ·rw [decide_eq_false d]
  refine .inr (.inl ⟨va,_,1,va0,rfl,rfl,hva.sq,at1,q' _ _ (o1.trans oo) ?_⟩)
  rw [show ba x fr ks g e=(g.headD qK).pt 0 by
   unfold ba
   rw [c13.resolve_right d,if_neg (by decide +kernel),if_neg (by decide +kernel),if_neg (by decide +kernel),if_pos (by decide +kernel)],ep0]
  exact rva0
end
end L2.K33
end
section
namespace L2.K33
open PySem PySem.Spec PyProof.Rows L2.Bw L2.Bk L2.Ex
def rfD:Rf→Dk
 | .deep p=>.tup [.str "deep",.int p]
 | .par p k b w way=>.tup [.str "parted",.int p,k.d,.int b,w.d,.tup (way.map Dk.str)]
def hdD:Option Rf→Dk
 | none=>.non
 | some r=>rfD r
section
variable {P:Program} {w:World} {K:W.Frag} {mg:Str→Option Value} {base:Heap} {f:Addr} {fd:FuncData}
abbrev sHe:Stmt:=top 63
def spHe (K:W.Frag):Sp:=fun vs H Q _=>∃ (v nv:V) (fa:Addr) (t n:Tk) (g:List Kn),vs = [v,nv,.ref fa]∧RK K H t.tn.d v∧t.tn.wf∧RK K H n.tn.d nv∧Fd K H fa g∧g≠[]∧g.length≤t.ps.length∧(∀ k∈g,Kg k 4)∧(∀ k∈t.ks,Kg k 4)∧(g.length≠1→Fit t.w g) ∧
 ∀ v' H',Old H H'→RK K H' (hdD (br t.w t.p (plK t.ps) n.p t.ks g)) v'→Q v' H'
theorem scHe:aF ["_law_node","_law_inner","_law_kinds","_law_way","_law_want_here"] ["_law_node","_law_inner","_law_kinds"] (aw sHe):=⟨rfl,rfl,rfl,by decide +kernel,rfl,by decide +kernel,by decide +kernel⟩
theorem ok_He {n:Nat} (F:Fun K "_law_held" "_law_held" sHe f fd) (T:Tx mg) (c_want:Cal P w K mg base "_law_want" ["_law_node","_law_kinds"] 2 (spLW K)) (c_parting:Cal P w K mg base "_law_parting" ["_law_kind_here","_law_other"] 9 (bA K 8)):aY P w K mg base CX0 (n+10) f fd ["_law_node","_law_inner","_law_kinds"] (spHe K):=by
 refine F.ok scHe (fun vs H Q E h=>?_) (fun cdv A outer s H vs Q E hr h=>?_)
 ·obtain ⟨v,nv,fa,t,n,g,rfl,_⟩:=h
  rfl
 obtain ⟨v,nv,fa,t,n,g,rfl,rv,wt,rn,hf,gn,gle,kg,kks,fit,q⟩:=h
 have nd:=scHe.nd
 obtain ⟨x,p,fr,cs,ps⟩:=t
 have rv':RK K H (Tn.mk x p fr (Kn.ds cs) (Tk.tns ps)).d v:=rv
 obtain ⟨⟨hx,lf,lm,lp,_⟩,_⟩:=(show (Tn.mk x p fr (Kn.ds cs) (Tk.tns ps)).wf from wt)
 rw [aM] at lp
 obtain ⟨a,uf,um,up,rfl,ha,rf,rm,rp⟩:=RK.node rv'
 obtain ⟨x',np,fr',cs',ps'⟩:=n
 obtain ⟨an,uf',um',up',rfl,han,_⟩:=RK.node (show RK K H (Tn.mk x' np fr' (Kn.ds cs') (Tk.tns ps')).d nv from rn)
 have gle':g.length≤ps.length:=gle
 have q':∀ v' H',Old H H'→RK K H' (hdD (br x p (plK ps) np cs g)) v'→Q v' H':=q
 have kgD:∀ i,Kg ((g[i]?).getD qK) 4:=fun i=>ci (by omega) kg i
 have kgl:Kg (g.getLastD qK) 4:=eX (by omega) kg
 have kw:Kg (bq x cs g) 4:=j3 kks kg
 obtain ⟨fvs,hfa,rfs⟩:=hf.ex
 have hs:SqL K H fa fvs:=SqL.of hfa
 have ll:=rfs.length
 rw [aH] at ll
 have len2:decide ((fvs.length:Int)=2)=decide (g.length=2):=decide_eq_decide.mpr ⟨fun e=>by omega,fun e=>by omega⟩
 have len3:decide ((fvs.length:Int)=3)=decide (g.length=3):=decide_eq_decide.mpr ⟨fun e=>by omega,fun e=>by omega⟩
 refine' ⟨_,?n0,?Z⟩
 case' n0=>refine' ae ?N1 ?N2
 case' N1=>refine' aC ?N3 ?N4 aq
 case' N3=>refine' PW.pt ?N5
 case' N5=>refine' bG ?N6 ?N7
 case' N6=>refine' ak (ax hr) ?N8 aj (am _)
 case N8=>exact al (show IxR _ (rIx K) from ai) (pv 0) ac (fun _ _=>rfl)
 case N7=>exact bu (ak (ax hr) (aQ (bd) rfl T.len boot_len (pa (pv 2) ad)) ac (am _))
 case' N4=>refine' ah ?N9
 case N9=>exact ao bQ
 case' N2=>refine' ae ?Na ?Nb
 case' Na=>refine' aC ?Nc ?Nd aq
 case' Nc=>refine' PW.pt ?Ne
 case' Ne=>refine' bG ?Nf ?Ng
 case' Nf=>refine' ak (ax hr) ?Nh aj (am _)
 case Nh=>exact al (show IxR _ (rIx K) from ai) (pv 0) ac (fun _ _=>rfl)
 case Ng=>exact bu (ak (ax hr) (aQ (bd) rfl T.len boot_len (pa (pv 2) ad)) ac (am _))
 case' Nd=>refine' ae ?Ni ?Nj
 case' Ni=>refine' aA (i:=3) nd rfl (Or.inl rfl) rfl (by first | exact .inl rfl | exact .inr rfl) ?Nk
 case' Nk=>refine' az c_parting hr ?Nl
 case' Nl=>refine' pa ?Nm ?Nn
 case Nm=>exact al (show IxR _ (rIx K) from ai) (pv 2) ac (fun _ _=>rfl)
 case' Nn=>refine' pa ?No ad
 case No=>exact al (show IxR _ (rIx K) from ai) (pv 2) ac (fun _ _=>rfl)
 case' Nj=>refine' ae ?Np ?Nq
 case' Np=>refine' aC (ak fh (pv 3) bQ (am _)) ?Nr aq
 case' Nr=>refine' ah ?Ns
 case' Ns=>refine' ao ?Nt
 case' Nt=>refine' ay ?Nu
 case' Nu=>refine' pa aj ?Nv
 case' Nv=>refine' pa ?Nw ?Nx
 case Nw=>exact al (show IxR _ (rIx K) from ai) (pv 1) ac (fun _ _=>rfl)
 case' Nx=>refine' pa ?Ny ?Nz
 case Ny=>exact al (show IxR _ (rIx K) from ai) (pv 2) ac (fun _ _=>rfl)
 case' Nz=>refine' pa ?N10 ?N11
 case' N10=>refine' al (show IxR _ (rIx K) from ai) ?N12 ac (fun _ _=>rfl)
 case N12=>exact al (show IxR _ (rIx K) from ai) (pv 0) ac (fun _ _=>rfl)
 case' N11=>refine' pa ?N13 (pa (pv 3) ad)
 case N13=>exact al (show IxR _ (rIx K) from ai) (pv 2) ac (fun _ _=>rfl)
 case' Nq=>refine' ah ?N14
 case N14=>exact ao bQ
 case' Nb=>refine' ae ?N15 ?N16
 case N15=>exact aA (i:=4) nd rfl (Or.inl rfl) rfl (by first | exact .inl rfl | exact .inr rfl) (az c_want hr (pa (pv 0) (pa (pv 2) ad)))
 case' N16=>refine' ae ?N17 ?N18
 case' N17=>refine' aA (i:=3) nd rfl (Or.inl rfl) rfl (by first | exact .inl rfl | exact .inr rfl) ?N19
 case' N19=>refine' az c_parting hr ?N1a
 case' N1a=>refine' pa ?N1b (pa (pv 4) ad)
 case' N1b=>refine' al (show IxR _ (rIx K) from ai) (pv 2) ?N1c (fun _ _=>rfl)
 case N1c=>exact lC iL ac
 case' N18=>refine' ae ?N1d ?N1e
 case' N1d=>refine' aC (ak op_isN (pv 3) bQ (am _)) ?N1f aq
 case' N1f=>refine' ah ?N1g
 case N1g=>exact ao bQ
 case' N1e=>refine' ah ?N1h
 case' N1h=>refine' ao ?N1i
 case' N1i=>refine' ay ?N1j
 case' N1j=>refine' pa aj ?N1k
 case' N1k=>refine' pa ?N1l ?N1m
 case N1l=>exact al (show IxR _ (rIx K) from ai) (pv 1) ac (fun _ _=>rfl)
 case' N1m=>refine' pa ?N1n ?N1o
 case' N1n=>refine' al (show IxR _ (rIx K) from ai) (pv 2) ?N1p (fun _ _=>rfl)
 case N1p=>exact lC iL ac
 case' N1o=>refine' pa ?N1q (pa (pv 4) (pa (pv 3) ad))
 case N1q=>exact al (show IxR _ (rIx K) from ai) (pv 0) ac (fun _ _=>rfl)
 refine bb (x = "if"∧g.length=2) (fun R hR=>fN _ _ hR (fun R hR=>⟨_,rfl,.inr (.inl ⟨a,_,0,.str x,rfl,rfl,ha.sq,at0,.inr (.inl ⟨rfl,_,rfl,by rw [aI];exact hR⟩)⟩)⟩) fun _ R hR=>⟨_,rfl,.inl ⟨fa,fvs,rfl,.inl hs,.inr (.inl ⟨rfl,_,rfl,by rw [cF,len2];exact hR⟩)⟩⟩) (fun c=>?_) (fun c1=>?_)
 ·refine q' _ _ (Old.refl _) ?_
  have e:br x p (plK ps) np cs g=none:=by
   unfold br
   rw [if_neg (fun z=>by have:=z.2;have:=c.2;omega)]
   have ew:bq x cs g=g.getLastD qK:=by
    unfold bq
    rw [c.1,if_neg (fun z=>z.elim (fun z=>absurd z (by decide +kernel)) (fun z=>absurd z.1 (by decide +kernel))),if_neg (fun z=>by have:=z.2;have:=c.2;omega),if_neg (by decide +kernel),if_neg (by decide +kernel),if_neg (fun z=>absurd z.1 (by decide +kernel))]
    rfl
   rw [ew,ju]
   rfl
  rw [e]
  exact .n
 refine bb (x = "if"∧g.length=3) (fun R hR=>fN _ _ hR (fun R hR=>⟨_,rfl,.inr (.inl ⟨a,_,0,.str x,rfl,rfl,ha.sq,at0,.inr (.inl ⟨rfl,_,rfl,by rw [aI];exact hR⟩)⟩)⟩) fun _ R hR=>⟨_,rfl,.inl ⟨fa,fvs,rfl,.inl hs,.inr (.inl ⟨rfl,_,rfl,by rw [cF,len3];exact hR⟩)⟩⟩) (fun c=>?_) (fun c2=>?_)
 ·obtain ⟨fvs1,u1,hs1,_,eu1,ru1⟩:=hf.get (i:=1) (by have:=c.2;omega)
  obtain ⟨fvs2,u2,hs2,_,eu2,ru2⟩:=hf.get (i:=2) (by have:=c.2;omega)
  have eh:br x p (plK ps) np cs g=(((g[2]?).getD qK).part ((g[1]?).getD qK)).map fun way=>.par np ((g[2]?).getD qK) (plK ps) ((g[1]?).getD qK) way:=by unfold br;exact if_pos c
  have lp3:=lp (by rw [c.1];decide +kernel)
  rw [c.1,de.2.2.2.2.2.2.1] at lp3
  rw [c.1,nf_if.1] at lf
  rw [aH,c.1,nf_if.2] at lm
  obtain ⟨n0,n1,n2,rfl⟩:=lF lp3
  obtain rfl:uf = []:=List.length_eq_zero_iff.mp (rf.length.symm.trans lf)
  obtain rfl:um = []:=List.length_eq_zero_iff.mp (by have:=rm.length;rw [aH,lm] at this;exact this.symm)
  rw [if_neg (by rw [c.1];decide +kernel)] at rp
  have rp':RKs K H [n0.tn.d,n1.tn.d,n2.tn.d] up:=rp
  obtain ⟨v0,up1,rfl,rv0,rp1⟩:=rp'
  obtain ⟨v1,up2,rfl,rv1,rp2⟩:=rp1
  obtain ⟨x1,q1,fr1,cs1,ps1⟩:=n1
  obtain ⟨a1,uf1,um1,up1',rfl,ha1,_⟩:=RK.node (show RK K H (Tn.mk x1 q1 fr1 (Kn.ds cs1) (Tk.tns ps1)).d v1 from rv1)
  refine ⟨_,rfl,.inl ⟨fa,fvs2,2,u2,rfl,rfl,hs2,eu2,_,rfl,.inl ⟨fa,fvs1,1,u1,rfl,rfl,hs1,eu1,?_⟩⟩⟩
  refine ⟨u2,u1,_,_,rfl,ru2,ru1,(kgD 2).wf,(kgD 1).wf,by have:=(kgD 2).dep;omega,by have:=(kgD 2).dep;omega,fun yv H1 o1 ry=>?_⟩
  refine ⟨_,rfl,rfl,_,rfl,?_⟩
  cases ep:((g[2]?).getD qK).part ((g[1]?).getD qK) with
  | none=>
    rw [ep] at ry eh
    cases (show yv = .non by rw [od,RK] at ry;exact ry)
    refine aU (q' _ _ o1 ?_)
    rw [eh]
    exact .n
  | some way=>
    rw [ep] at ry eh
    have ry':RK K H1 (.tup (way.map Dk.str)) yv:=ry
    obtain ⟨ya,yvs,rfl,_,_⟩:=RK.get ry'
    obtain ⟨fvs3,u3,hs3,_,eu3,ru3⟩:=(hf.old o1).get (i:=1) (by have:=c.2;omega)
    obtain ⟨fvs4,u4,hs4,_,eu4,ru4⟩:=(hf.old o1).get (i:=2) (by have:=c.2;omega)
    refine a9 ⟨_,rfl,.inr (.inl ⟨an,_,1,.int np,rfl,rfl,(han.mono o1.tm).sq,at1,_,rfl,.inl ⟨fa,fvs4,2,u4,rfl,rfl,hs4,eu4,_,rfl,.inr (.inl ⟨a,_,3,.ref a1,rfl,rfl,(ha.mono o1.tm).sq,aK (j:=3) rfl,.inr (.inl ⟨a1,_,1,.int q1,rfl,rfl,(ha1.mono o1.tm).sq,at1,_,rfl,.inl ⟨fa,fvs3,1,u3,rfl,rfl,hs3,eu3,_,rfl,by show 6≤sizeLine;decide,fun r hr0=>q' _ _ (o1.trans (Old.new hr0)) ?_⟩⟩)⟩)⟩⟩)⟩
    have o2:=Old.new (o:=.tup [.str "parted",.int np,u4,.int q1,u3,.ref ya]) hr0
    rw [eh]
    exact RK.tup (.of ag) (.cons (.s _) (.cons (.i _) (.cons (ru4.mono o2.tm) (.cons (.i _) (.cons (ru3.mono o2.tm) (.cons (ry'.mono o2.tm) .nil))))))
 have eh:br x p (plK ps) np cs g=((g.getLastD qK).part (bq x cs g)).map fun way=>.par np (g.getLastD qK) p (bq x cs g) way:=by unfold br;exact if_neg c2
 have nif:¬ (x = "if"∧g.length≠1):=fun z=>by
  have h3:=lp (by rw [z.1];decide +kernel)
  rw [z.1,de.2.2.2.2.2.2.1] at h3
  have gl:0<g.length:=List.length_pos_iff.mpr gn
  have z2:=z.2
  by_cases c4:g.length=2
  ·exact c1 ⟨z.1,c4⟩
  ·exact c2 ⟨z.1,by omega⟩
 refine ⟨_,rfl,_,rfl,.ref a,fa,Tk.mk x p fr cs ps,g,rfl,rv,wt,hf,gn,gle,kg,fit,nif,fun wv H1 o1 rw1=>?_⟩
 have rw1':RK K H1 (bq x cs g).d wv:=rw1
 obtain ⟨fvs2,u2,hs2,_,eu2,ru2⟩:=(hf.old o1).last gn
 refine ⟨_,rfl,_,rfl,.inl ⟨fa,fvs2,-1,u2,rfl,rfl,hs2,eu2,_,rfl,?_⟩⟩
 refine ⟨u2,wv,_,_,rfl,ru2,rw1',kgl.wf,kw.wf,by have:=kgl.dep;omega,by have:=kgl.dep;omega,fun yv H2 o2 ry=>?_⟩
 have o12:=o1.trans o2
 refine ⟨_,rfl,rfl,_,rfl,?_⟩
 cases ep:(g.getLastD qK).part (bq x cs g) with
 | none=>
   rw [ep] at ry eh
   cases (show yv = .non by rw [od,RK] at ry;exact ry)
   refine a9 (q' _ _ o12 ?_)
   rw [eh]
   exact .n
 | some way=>
   rw [ep] at ry eh
   have ry':RK K H2 (.tup (way.map Dk.str)) yv:=ry
   obtain ⟨ya,yvs,rfl,_,_⟩:=RK.get ry'
   obtain ⟨fvs3,u3,hs3,_,eu3,ru3⟩:=(hf.old o12).last gn
   refine aU ⟨_,rfl,.inr (.inl ⟨an,_,1,.int np,rfl,rfl,(han.mono o12.tm).sq,at1,_,rfl,_,rfl,.inl ⟨fa,fvs3,-1,u3,rfl,rfl,hs3,eu3,_,rfl,.inr (.inl ⟨a,_,1,.int p,rfl,rfl,(ha.mono o12.tm).sq,at1,_,rfl,_,rfl,by show 6≤sizeLine;decide,fun r hr0=>q' _ _ (o12.trans (Old.new hr0)) ?_⟩)⟩⟩)⟩
   have o3:=Old.new (o:=.tup [.str "parted",.int np,u3,.int p,wv,.ref ya]) hr0
   rw [eh]
   exact RK.tup (.of ag) (.cons (.s _) (.cons (.i _) (.cons (ru3.mono o3.tm) (.cons (.i _) (.cons ((rw1'.mono o2.tm).mono o3.tm) (.cons (ry'.mono o3.tm) .nil))))))
end
end L2.K33
end
section
namespace L2.K33
open PySem PySem.Spec PyProof.Rows L2.Bw L2.Bk L2.Ex
section
variable {P:Program} {w:World} {K:W.Frag} {mg:Str→Option Value} {base:Heap} {f:Addr} {fd:FuncData}
def isI':Dk→Bool
 | .int _=>true
 | .bl _=>true
 | _=>false
theorem isj_i {H:Hp} {d:Dk} {v:V} (r:RK K H d v):IsJ K H v "int" (isI' d):=by
 cases d with
 | tup ds=>
   obtain ⟨a,vs,rfl,ha,_⟩:=RK.get r
   rcases ha with h | h
   ·exact .inl ⟨_,.tup h,show W.kitOne K (.type "tuple") (.type "int")=some false from (by decide +kernel:W.kitOne [] (.type "tuple") (.type "int")=some false)⟩
   ·exact .inr ⟨a,vs,rfl,h,show W.kitOne K (.type "tuple") (.type "int")=some false from (by decide +kernel:W.kitOne [] (.type "tuple") (.type "int")=some false)⟩
 | non=>rw [RK] at r;subst r;exact .inl ⟨_,.non,show W.kitOne K (.type "NoneType") (.type "int")=some false from (by decide +kernel:W.kitOne [] (.type "NoneType") (.type "int")=some false)⟩
 | int i=>rw [RK] at r;subst r;exact .inl ⟨_,.int i,show W.kitOne K (.type "int") (.type "int")=some true from (by decide +kernel:W.kitOne [] (.type "int") (.type "int")=some true)⟩
 | bl i=>rw [RK] at r;subst r;exact .inl ⟨_,.bl i,show W.kitOne K (.type "bool") (.type "int")=some true from (by decide +kernel:W.kitOne [] (.type "bool") (.type "int")=some true)⟩
 | str i=>rw [RK] at r;subst r;exact .inl ⟨_,.str i,show W.kitOne K (.type "str") (.type "int")=some false from (by decide +kernel:W.kitOne [] (.type "str") (.type "int")=some false)⟩
theorem sl_two {H:Hp} {a:Addr} {h h':V} {r:List V} {Q:VK} (ha:SqT K H a (h :: h' :: r)) (q:∀ p,H p=none→Q (.ref p) (upd H p (.tup r))):rSlK K (.ref a) (some 2) none H Q:=by
 have e:HT.sIx (h :: h' :: r).length 0 (some 2)=2:=by
  simp [HT.sIx]
 refine .inr (.inl ⟨a,_,rfl,ha,?_,fun p hp=>?_⟩)
 ·intro z
  omega
 ·have k:=q p hp
  have e:iQ (h :: h' :: r) (some 2) none=r:=by
   unfold iQ
   have e2:HT.sIx (h :: h' :: r).length (h :: h' :: r).length none=(h :: h' :: r).length:=by simp [HT.sIx]
   rw [e,e2]
   simp
  rw [e]
  exact k
abbrev sPt:Stmt:=top 57
def spPt (K:W.Frag):Sp:=fun vs H Q _=>∃ (v:V) (t:Tk),vs = [v]∧RK K H t.tn.d v∧t.tn.wf∧t.ok∧∀ (r:Addr) (us:List V) (H':Hp),Old H H'→H r=none→H' r=some (.lst us)→RKs K H' (Tn.ds (Tk.tns t.ps)) us→Q (.ref r) H'
theorem scPt:aF ["_law_node","_law_word"] ["_law_node"] (aw sPt):=⟨rfl,rfl,rfl,by decide +kernel,rfl,by decide +kernel,by decide +kernel⟩
theorem gR:K11.np "whole" = 0∧K11.np "truth" = 0∧K11.np "given" = 0∧K11.np "name" = 0:=by decide +kernel
theorem ok_Pt {n:Nat} (F:Fun K "_law_parts" "_law_parts" sPt f fd) (T:Tx mg):aY P w K mg base CX0 (n+1) f fd ["_law_node"] (spPt K):=by
 refine F.ok scPt (fun vs H Q E h=>?_) (fun cdv A outer s H vs Q E hr h=>?_)
 ·obtain ⟨v,t,rfl,_⟩:=h
  rfl
 obtain ⟨v,t,rfl,rv,wt,ot,q⟩:=h
 have nd:=scPt.nd
 obtain ⟨x,p,fr,ks,ps⟩:=t
 have rv':RK K H (Tn.mk x p fr (Kn.ds ks) (Tk.tns ps)).d v:=rv
 obtain ⟨⟨hx,lf,lm,lp,l5,_⟩,wps⟩:=(show (Tn.mk x p fr (Kn.ds ks) (Tk.tns ps)).wf from wt)
 obtain ⟨⟨wks,dks,flt,nlk⟩,oks⟩:=ot
 rw [aM] at lp l5
 obtain ⟨a,uf,um,up,rfl,ha,rf,rm,rp⟩:=RK.node rv'
 have q':∀ (r:Addr) (us:List V) (H':Hp),Old H H'→H r=none→H' r=some (.lst us)→RKs K H' (Tn.ds (Tk.tns ps)) us→Q (.ref r) H':=q
 refine' ⟨_,?n0,?Z⟩
 case' n0=>refine' ae ?N1 ?N2
 case' N1=>refine' aA (i:=1) nd rfl (Or.inl rfl) rfl (by first | exact .inl rfl | exact .inr rfl) ?N3
 case N3=>exact al (show IxR _ (rIx K) from ai) (pv 0) ac (fun _ _=>rfl)
 case' N2=>refine' ae ?N4 ?N5
 case' N4=>refine' aC ?N6 ?N7 aq
 case' N6=>refine' PW.pt ?N8
 case' N8=>refine' bV (ak (ax hr) (pv 1) aj (am _)) ?N9
 case' N9=>refine' bV (ak (ax hr) (pv 1) aj (am _)) ?Na
 case' Na=>refine' bV (ak (ax hr) (pv 1) aj (am _)) ?Nb
 case Nb=>exact bR (ak (ax hr) (pv 1) aj (am _))
 case' N7=>refine' ah ?Nc
 case Nc=>exact ao (bt ad)
 case' N5=>refine' ae ?Nd ?Ne
 case' Nd=>refine' aC (ak (ax hr) (pv 1) aj (am _)) ?Nf aq
 case' Nf=>refine' ah ?Ng
 case' Ng=>refine' ao ?Nh
 case' Nh=>refine' bI (du) rfl T.list boot_list ?Ni
 case' Ni=>refine' pa ?Nj ad
 case Nj=>exact al (show IxR _ (rIx K) from ai) (pv 0) ac (fun _ _=>rfl)
 case' Ne=>refine' ah ?Nk
 case' Nk=>refine' ao ?Nl
 case' Nl=>refine' gG (tt:=tAnd (tB (tCB (fun xs H Q=>∃ x n b,xs = [x,V.ty n]∧IsJ K H x n b∧Q (V.bl b) H) (dF (cV 0) (dF (tC (.ty "tuple")) ko)))) (tAnd (tTest (tOp (rI0 fun i j=>.bl (decide (j<i))) (tCB (rLenA K) (dF (cV 0) ko)) (tC (.int 1)))) (tB (tCB (fun xs H Q=>∃ x n b,xs = [x,V.ty n]∧IsJ K H x n b∧Q (V.bl b) H) (dF (tOp (rIx K) (cV 0) (tC (.int 1))) (dF (tC (.ty "int")) ko)))))) (te:=cV 0) (k:=1) (N:=["_law_thing","_law_node","_law_word"]) (eD rfl rfl rfl rfl rfl rfl) rfl ?Nm (fun _ _ _ _=>?Nn) (fun _ _ _ _=>?No) (fun _ _ _ _=>?Np)
 case' Nm=>refine' dC ?Nq
 case' Nq=>refine' lB sl_k (pv 0) ?Nr po_none
 case Nr=>exact po_some ac
 case Nn=>exact aZ (i:=0) (by show List.Nodup (["_law_thing","_law_node","_law_word"]:List Str);decide +kernel) rfl (Or.inl rfl)
 case No=>
  refine' pts_one ?Ns
  case' Ns=>refine' PW.pt ?Nt
  first | case' Nt=>refine' bG ?Nu ?Nv | case' Ns=>refine' bG ?Nu ?Nv
  case' Nu=>refine' cA ?Nw
  first | case' Nw=>refine' aQ (cX) rfl T.isinstance boot_isinstance ?Nx | case' Nu=>refine' aQ (cX) rfl T.isinstance boot_isinstance ?Nx
  first | case' Nx=>refine' pa (pv 0) ?Ny | case' Nw=>refine' pa (pv 0) ?Ny | case' Nu=>refine' pa (pv 0) ?Ny
  first | case' Ny=>refine' pa ?Nz ad | case' Nx=>refine' pa ?Nz ad | case' Nw=>refine' pa ?Nz ad | case' Nu=>refine' pa ?Nz ad
  first | case Nz=>exact gH rfl T.tuple boot_tuple | case Ny=>exact gH rfl T.tuple boot_tuple | case Nx=>exact gH rfl T.tuple boot_tuple | case Nw=>exact gH rfl T.tuple boot_tuple | case Nu=>exact gH rfl T.tuple boot_tuple
  case' Nv=>refine' bG (ak js (aQ (bd) rfl T.len boot_len (pa (pv 0) ad)) ac (am _)) ?N10
  first | case' N10=>refine' bu ?N11 | case' Nv=>refine' bu ?N11
  first | case' N11=>refine' cA ?N12 | case' N10=>refine' cA ?N12 | case' Nv=>refine' cA ?N12
  first | case' N12=>refine' aQ (cX) rfl T.isinstance boot_isinstance ?N13 | case' N11=>refine' aQ (cX) rfl T.isinstance boot_isinstance ?N13 | case' N10=>refine' aQ (cX) rfl T.isinstance boot_isinstance ?N13 | case' Nv=>refine' aQ (cX) rfl T.isinstance boot_isinstance ?N13
  first | case' N13=>refine' pa ?N14 ?N15 | case' N12=>refine' pa ?N14 ?N15 | case' N11=>refine' pa ?N14 ?N15 | case' N10=>refine' pa ?N14 ?N15 | case' Nv=>refine' pa ?N14 ?N15
  case N14=>exact al (show IxR _ (rIx K) from ai) (pv 0) ac (fun _ _=>rfl)
  case' N15=>refine' pa ?N16 ad
  first | case N16=>exact gH rfl T.int boot_int | case N15=>exact gH rfl T.int boot_int
 case Np=>exact pv 0
 refine ⟨_,rfl,.inr (.inl ⟨a,_,0,.str x,rfl,rfl,ha.sq,at0,?_⟩)⟩
 dsimp only [bH]
 refine bb (x = "whole"∨(x = "truth"∨(x = "given"∨x = "name"))) (fun R hR=>df _ _ hR (fun R hR=>⟨_,rfl,.inr (.inl ⟨rfl,_,rfl,by rw [aI];exact hR⟩)⟩) fun R hR=>df _ _ hR (fun R hR=>⟨_,rfl,.inr (.inl ⟨rfl,_,rfl,by rw [aI];exact hR⟩)⟩) fun R hR=>df _ _ hR (fun R hR=>⟨_,rfl,.inr (.inl ⟨rfl,_,rfl,by rw [aI];exact hR⟩)⟩) (fun R hR=>⟨_,rfl,.inr (.inl ⟨rfl,_,rfl,by rw [aI];exact hR⟩)⟩)) (fun c=>?_) (fun c1=>?_)
 ·have l0:ps.length=0:=by
   rcases c with c | c | c | c
   ·rw [lp (by rw [c];decide +kernel),c];exact gR.1
   ·rw [lp (by rw [c];decide +kernel),c];exact gR.2.1
   ·rw [lp (by rw [c];decide +kernel),c];exact gR.2.2.1
   ·rw [lp (by rw [c];decide +kernel),c];exact gR.2.2.2
  obtain rfl:=List.length_eq_zero_iff.mp l0
  exact ⟨by show 0≤sizeLine;decide,fun r hr0=>q' r [] _ (Old.new hr0) hr0 ag .nil⟩
 refine bb (x = "row") (fun R hR=>⟨_,rfl,.inr (.inl ⟨rfl,_,rfl,by rw [aI];exact hR⟩)⟩) (fun c=>?_) (fun c2=>?_)
 ·rw [if_pos c] at rp
  rw [c,nf_row] at lf
  rw [c,nk_row] at lm
  obtain ⟨pv,e0,rfl,rpv,e1⟩:=rp
  have e1':e0 = []:=e1
  subst e1'
  obtain rfl:uf = []:=List.length_eq_zero_iff.mp (rf.length.symm.trans lf)
  obtain ⟨k0,rfl⟩:∃ k0,um = [k0]:=List.length_eq_one_iff.mp (rm.length.symm.trans lm)
  obtain ⟨b,us,rfl,hb,rus⟩:=RK.get rpv
  refine ⟨_,rfl,.inr (.inl ⟨a,_,3,.ref b,rfl,rfl,ha.sq,at3,b,us,rfl,.inr hb.sq,fun l hl=>?_⟩)⟩
  exact q' l us _ (Old.new hl) hl ag (rus.mono (Old.new hl).tm)
 ·rw [if_neg c2] at rp
  have l3:=rp.length
  rw [b8,aM] at l3
  refine ⟨_,rfl,_,rfl,sl_two ha.sq fun sp hsp=>?_⟩
  have o1:=Old.new (o:=.tup (uf ++ um ++ up)) hsp
  have hp1:upd H sp (.tup (uf ++ um ++ up)) sp=some (.tup (uf ++ um ++ up)):=ag
  generalize upd H sp (.tup (uf ++ um ++ up))=H1 at o1 hp1 ⊢
  refine ⟨sp,rfl,.inr ⟨⟨_,SqT.of hp1⟩,fun D hD=>?_⟩⟩
  have neD:∀ b o,H1 b=some o→b≠D:=fun b o e=>ap e hD
  have hD0:H D=none:=o1.free hD
  refine lc_by (n:=(uf ++ um ++ up).length) (fun i σ H2=>∃ k1:Option V,σ = [k1,some (.ref a),some (.str x)]∧Old H1 H2∧H2 D=some (.lst (up.take (i - (uf ++ um).length)))) ⟨none,rfl,Old.new hD,by rw [ag,Nat.zero_sub];rfl⟩ ?_ ?_ ?_ ?_
  ·intro i σ H2 hi hv
   obtain ⟨k1,rfl,g,hD2⟩:=hv
   exact ⟨_,_,SqT.of (g _ _ hp1),List.getElem?_eq_getElem hi⟩
  ·intro σ H2 hv
   obtain ⟨k1,rfl,g,hD2⟩:=hv
   exact ⟨_,SqT.of (g _ _ hp1),Nat.le_refl _⟩
  ·intro i σ H2 hi hv y H3 hy
   obtain ⟨k1,rfl,g,hD2⟩:=hv
   obtain ⟨e1,hyx⟩:=hy
   subst e1
   have eu:(uf ++ um ++ up)[i]? = some y:=hyx _ (SqT.of (g _ _ hp1))
   have tmH:=(o1.trans g).tm
   by_cases c3:i<(uf ++ um).length
   ·have keep:Nx (uf ++ um ++ up).length (fun i σ H2=>∃ k1:Option V,σ = [k1,some (.ref a),some (.str x)]∧Old H1 H2∧H2 D=some (.lst (up.take (i - (uf ++ um).length)))) i [some y,some (.ref a),some (.str x)] H3:=nx hi ⟨_,rfl,g,by
     rw [show i+1 - (uf ++ um).length=i - (uf ++ um).length by omega]
     exact hD2⟩
    rw [List.getElem?_append_left c3] at eu
    by_cases c4:i<uf.length
    ·rw [List.getElem?_append_left c4] at eu
     obtain ⟨d,ed,rd⟩:=rf.getV eu
     have fd':d.isT=false:=by
      have:=flt d (List.mem_of_getElem? ed)
      cases d <;> first | rfl | cases this
     refine ⟨_,rfl,y,"tuple",_,rfl,isj_t (rd.mono tmH),_,rfl,?_⟩
     rw [fd']
     exact aU (aU keep)
    ·rw [List.getElem?_append_right (by omega)] at eu
     obtain ⟨hk,rk⟩:=jZ rm eu
     have rk3:=rk.mono tmH
     generalize cs_eq:ks[i - uf.length]=k0 at rk3
     obtain ⟨hh,kk⟩:=k0
     have rk4:RK K H3 (.tup (.str hh :: Kn.ds kk)) y:=rk3
     obtain ⟨ya,yus,rfl,hya,rys⟩:=RK.kind rk4
     refine ⟨_,rfl,_,"tuple",_,rfl,isj_t rk4,_,rfl,a9 ?_⟩
     refine ⟨_,rfl,.inl ⟨ya,_,rfl,.inr hya.sq,_,_,rfl,rfl,_,rfl,?_⟩⟩
     cases kk with
     | nil=>
       obtain rfl:yus = []:=rys
       refine fQ (fun z=>absurd (show (1:Int)<1 from of_decide_eq_true z) (by decide)) (fun _=>aU keep)
     | cons k1' kr=>
       obtain ⟨z0,zr,rfl,rz0,_⟩:=rys
       refine fQ (fun _=>?_) (fun z=>absurd (decide_eq_true (show (1:Int)<((V.str hh :: z0 :: zr).length:Nat) by simp;omega)) z)
       refine ⟨_,rfl,.inr (.inl ⟨ya,_,1,z0,rfl,rfl,hya.sq,at1,z0,"int",_,rfl,isj_i rz0,_,rfl,?_⟩)⟩
       rw [show isI' k1'.d=false by cases k1';rfl]
       exact aU keep
   ·rw [List.getElem?_append_right (by omega)] at eu
    have hj:i - (uf ++ um).length<ps.length:=by
     have:=(List.getElem?_eq_some_iff.mp eu).1
     omega
    have rn:RK K H ps[i - (uf ++ um).length].tn.d y:=by
     obtain ⟨d,ed,rd⟩:=rp.getV eu
     have e1:(Tk.tns ps)[i - (uf ++ um).length]'(by rw [aM];exact hj)=ps[i - (uf ++ um).length].tn:=by
      have:=gZ hj
      rw [List.getElem?_eq_getElem (by rw [aM];exact hj)] at this
      exact Option.some.inj this
     rw [fD (by rw [aM];exact hj),e1] at ed
     cases ed
     exact rd
    have rn3:=rn.mono tmH
    generalize ps[i - (uf ++ um).length]=n0 at rn3
    obtain ⟨x',np,fr',cs',ps'⟩:=n0
    have rn4:RK K H3 (Tn.mk x' np fr' (Kn.ds cs') (Tk.tns ps')).d y:=rn3
    obtain ⟨ya,uf',um',up',rfl,hya,_⟩:=RK.node rn4
    refine ⟨_,rfl,_,"tuple",_,rfl,isj_t rn4,_,rfl,a9 ?_⟩
    refine ⟨_,rfl,.inl ⟨ya,_,rfl,.inr hya.sq,_,_,rfl,rfl,_,rfl,?_⟩⟩
    refine fQ (fun _=>?_) (fun z=>absurd (decide_eq_true (show (1:Int)<((V.str x' :: V.int np :: (uf' ++ um' ++ up')).length:Nat) by simp;omega)) z)
    refine ⟨_,rfl,.inr (.inl ⟨ya,_,1,.int np,rfl,rfl,hya.sq,at1,.int np,"int",_,rfl,isj_i (.i np),_,rfl,a9 ?_⟩)⟩
    refine ⟨_,rfl,_,hD2,?_,nx hi ⟨_,rfl,fun b o e=>by rw [au (neD b o e)];exact g b o e,?_⟩⟩
    ·refine bE ?_
     rw [List.length_take]
     omega
    ·rw [ag,show i+1 - (uf ++ um).length=i - (uf ++ um).length+1 by omega]
     have hj':i - (uf ++ um).length<up.length:=by omega
     rw [bP hj']
     rw [List.getElem?_eq_getElem hj'] at eu
     rw [Option.some.inj eu]
  ·intro σ H2 hv
   obtain ⟨k1,rfl,g,hD2⟩:=hv
   rw [show (uf ++ um ++ up).length - (uf ++ um).length=up.length by rw [List.length_append (as:=uf ++ um)];omega,List.take_length] at hD2
   exact q' D up H2 (o1.trans g) hD0 hD2 (rp.mono (o1.trans g).tm)
end
end L2.K33
end
section
namespace L2.K33
open PySem PySem.Spec PyProof.Rows L2.Bw L2.Bk L2.Ex
section
variable {P:Program} {w:World} {K:W.Frag} {mg:Str→Option Value} {base:Heap} {f:Addr} {fd:FuncData}
def cmD:Except Rf Kn→Dk
 | .ok k=>.tup [.str "taken",k.d]
 | .error r=>rfD r
theorem rf_head (r:Rf):∃ h ds,rfD r = .tup (.str h :: ds)∧h≠"taken":=by
 cases r
 ·exact ⟨"deep",_,rfl,by decide +kernel⟩
 ·exact ⟨"parted",_,rfl,by decide +kernel⟩
abbrev sCT:Stmt:=top 65
def spCT (K:W.Frag) (m:Nat):Sp:=fun vs H Q _=>∃ (v:V) (b:Addr) (t:Tk) (kvs:List (Key×V)) (e:Nv) (bs:List Str),vs = [v,.ref b]∧RK K H t.tn.d v∧Lkb t e bs∧H b=some (.dK kvs)∧kvs.length+2 * t.tn.dep≤900∧dG K H kvs e∧t.tn.dep≤m ∧
 ∀ v' H',Old H H'→RK K H' (cmD (t.lk e)) v'→(∀ k,t.lk e = .ok k→Kg k 4)→Q v' H'
theorem scCT:aF ["_law_node","_law_names_here","_law_kind_here","_law_kinds","_law_inner","_law_got","_law_own_here"] ["_law_node","_law_names_here"] (aw sCT):=⟨rfl,rfl,rfl,by decide +kernel,rfl,by decide +kernel,by decide +kernel⟩
theorem ok_CT {m:Nat} (F:Fun K "_law_come_to" "_law_come_to" sCT f fd) (T:Tx mg) (c_written:Cal P w K mg base "_law_written" ["_law_node"] 1 (spWn K)) (c_depth:Cal P w K mg base "_law_depth" ["_law_kind_here"] 9 (bY K 9)) (c_parts:Cal P w K mg base "_law_parts" ["_law_node"] 1 (spPt K)) (c_names:Cal P w K mg base "_law_names" ["_law_node","_law_names_here","_law_kinds"] 2 (spNa K)) (c_held:Cal P w K mg base "_law_held" ["_law_node","_law_inner","_law_kinds"] 10 (spHe K)) (c_own:Cal P w K mg base "_law_own" ["_law_node","_law_names_here","_law_kinds"] 9 (spLO K)) (c_come_to:Cal P w K mg base "_law_come_to" ["_law_node","_law_names_here"] (m+10) (spCT K m)) :
 aY P w K mg base CX0 (m+11) f fd ["_law_node","_law_names_here"] (spCT K (m+1)):=by
 refine F.ok scCT (fun vs H Q E h=>?_) (fun cdv A outer s H vs Q E hr h=>?_)
 ·obtain ⟨v,b,t,kvs,e,bs,rfl,_⟩:=h
  rfl
 obtain ⟨v,b,t,kvs,e,bs,rfl,rt,N,hb,lkv,he,hd,q⟩:=h
 have nd:=scCT.nd
 obtain ⟨x,p,fr,cs,ps⟩:=t
 have rt':RK K H (Tn.mk x p fr (Kn.ds cs) (Tk.tns ps)).d v:=rt
 have wt:=N.wf
 obtain ⟨⟨hx,lf,lm,lp,l5p,hn,hp01⟩,wps⟩:=(show (Tn.mk x p fr (Kn.ds cs) (Tk.tns ps)).wf from N.wf)
 obtain ⟨⟨wks,dks,flt,nlk⟩,oks⟩:=N.ok
 obtain ⟨hdo,doss⟩:=N.dos
 obtain ⟨fnm,fps⟩:=kT N.free
 have hdep:(Tk.mk x p fr cs ps).tn.dep=1+Tn.deps (Tk.tns ps):=rfl
 rw [hdep] at lkv hd
 rw [aM] at lp l5p
 have nm1:x∈dQ→fr=(txs fr).map Dk.str∧(txs fr).length=K11.nf x:=fun z=>by
  obtain ⟨ns,rfl⟩:=hn z
  rw [hJ]
  exact ⟨rfl,by rw [List.length_map] at lf;exact lf⟩
 obtain ⟨a,uf,um,up,rfl,ha,_⟩:=RK.node rt'
 have deepQ:∀ H1,Old H H1→(Tk.mk x p fr cs ps).lk e = .error (.deep p)→∀ r,H1 r=none→Q (.ref r) (upd H1 r (.tup [.str "deep",.int p])):=fun H1 o1 ee r hr0=>q _ _ (o1.trans (Old.new hr0)) (by
  rw [ee]
  exact RK.tup (.of ag) (.cons (.s _) (.cons (.i _) .nil))) (fun k hk=>by rw [ee] at hk;cases hk)
 refine' ⟨_,?n0,?Z⟩
 case' n0=>refine' ae ?N1 ?N2
 case' N1=>refine' cU PassesOwn.never rfl ?N3 ?N4 ?N5
 case N3=>exact dC (az c_written hr (pa (pv 0) ad))
 case N4=>exact aZ (i:=2) nd rfl (Or.inl rfl)
 case' N5=>refine' ah ?N6
 case' N6=>refine' aC (ak js (az c_depth hr (pa (pv 2) ad)) ac (am _)) ?N7 aq
 case' N7=>refine' ah ?N8
 case' N8=>refine' ao ?N9
 case' N9=>refine' ay ?Na
 case' Na=>refine' pa aj ?Nb
 case' Nb=>refine' pa ?Nc ad
 case Nc=>exact al (show IxR _ (rIx K) from ai) (pv 0) ac (fun _ _=>rfl)
 case' N2=>refine' ae ?Nd ?Ne
 case Nd=>exact aA (i:=3) nd rfl (Or.inl rfl) rfl (by first | exact .inl rfl | exact .inr rfl) (bt ad)
 case' Ne=>refine' ae ?Nf ?Ng
 case' Nf=>refine' cU PassesOwn.never rfl ?Nh ?Ni ?Nj
 case Nh=>exact dC (az c_parts hr (pa (pv 0) ad))
 case Ni=>exact aZ (i:=4) nd rfl (Or.inl rfl)
 case' Nj=>refine' ae ?Nk ?Nl
 case Nk=>exact aA (i:=5) nd rfl (Or.inl rfl) rfl (by first | exact .inl rfl | exact .inr rfl) (az c_come_to hr (pa (pv 4) (pa (az c_names hr (pa (pv 0) (pa (pv 1) (pa (pv 3) ad)))) ad)))
 case' Nl=>refine' ae ?Nm ?Nn
 case' Nm=>refine' aC ?No ?Np aq
 case' No=>refine' ak (eI hr) ?Nq aj (am _)
 case Nq=>exact al (show IxR _ (rIx K) from ai) (pv 5) ac (fun _ _=>rfl)
 case' Np=>refine' ah ?Nr
 case Nr=>exact ao (pv 5)
 case' Nn=>refine' ae ?Ns ?Nt
 case' Ns=>refine' bD ?Nu
 case' Nu=>refine' pe_bm PySem.F.plainAttrs_list PySem.F.slot_list_append PySem.F.type_list_append d0 (pv 3) ?Nv
 case' Nv=>refine' pa ?Nw ad
 case Nw=>exact al (show IxR _ (rIx K) from ai) (pv 5) ac (fun _ _=>rfl)
 case' Nt=>refine' ae ?Nx ?Ny
 case Nx=>exact aA (i:=5) nd rfl (Or.inl rfl) rfl (by first | exact .inl rfl | exact .inr rfl) (az c_held hr (pa (pv 0) (pa (pv 4) (pa (pv 3) ad))))
 case' Ny=>refine' ah ?Nz
 case' Nz=>refine' aC (ak fh (pv 5) bQ (am _)) ?N10 aq
 case' N10=>refine' ah ?N11
 case N11=>exact ao (pv 5)
 case' Ng=>refine' ae ?N12 ?N13
 case N12=>exact aA (i:=6) nd rfl (Or.inl rfl) rfl (by first | exact .inl rfl | exact .inr rfl) (az c_own hr (pa (pv 0) (pa (pv 1) (pa (pv 3) ad))))
 case' N13=>refine' ae ?N14 ?N15
 case' N14=>refine' aC (ak js (az c_depth hr (pa (pv 6) ad)) ac (am _)) ?N16 aq
 case' N16=>refine' ah ?N17
 case' N17=>refine' ao ?N18
 case' N18=>refine' ay ?N19
 case' N19=>refine' pa aj ?N1a
 case' N1a=>refine' pa ?N1b ad
 case N1b=>exact al (show IxR _ (rIx K) from ai) (pv 0) ac (fun _ _=>rfl)
 case' N15=>refine' ah ?N1c
 case N1c=>exact ao (ay (pa aj (pa (pv 6) ad)))
 refine ⟨_,rfl,.ref a,Tk.mk x p fr cs ps,rfl,rt,wt,nlk,fun r us H1 o1 hr1 rus=>⟨r,rfl,.inl ⟨⟨_,SqL.of hr1⟩,?_⟩⟩⟩
 have rus':RKs K H1 (Kn.ds cs) us:=rus
 have lus:=rus'.length
 rw [aH] at lus
 refine dM (n:=us.length) (fun i σ H2=>∃ (k3:Option V),σ = [some (.ref a),some (.ref b),k3,none,none,none,none]∧Old H1 H2∧∀ (j:Nat) (hj:j<cs.length),j<i→cs[j].dep≤4) ⟨none,rfl,Old.refl _,fun j _ z=>absurd z (Nat.not_lt_zero _)⟩ ?_ ?_ ?_ ?_
 ·intro i σ H2 hi hv
  obtain ⟨k3,rfl,o2,_⟩:=hv
  exact ⟨_,_,SqL.of (o2 _ _ hr1),List.getElem?_eq_getElem hi⟩
 ·intro σ H2 hv
  obtain ⟨k3,rfl,o2,_⟩:=hv
  exact ⟨_,SqL.of (o2 _ _ hr1),Nat.le_refl _⟩
 ·intro i σ H2 hi hv y H3 hy
  obtain ⟨k3,rfl,o2,lo⟩:=hv
  obtain ⟨e1,hyx⟩:=hy
  subst e1
  have ey:=hyx _ (SqL.of (o2 _ _ hr1))
  obtain ⟨hz,rz⟩:=jZ rus' ey
  have mem:cs[i]∈cs:=List.getElem_mem hz
  refine ⟨_,rfl,y,cs[i],rfl,rz.mono o2.tm,fG (fJ mem wks),by have:=ig mem;omega,fun H4 o4=>⟨_,_,rfl,rfl,_,rfl,?_⟩⟩
  refine fQ (fun c=>?_) (fun c=>?_)
  ·have c':(4:Int)<(cs[i].dep:Nat):=of_decide_eq_true c
   have o124:=(o1.trans o2).trans o4
   refine ⟨_,rfl,.inr (.inl ⟨a,_,1,.int p,rfl,rfl,(ha.mono o124.tm).sq,at1,by show 2≤sizeLine;decide,fun r5 hr5=>deepQ _ o124 ?_ r5 hr5⟩)⟩
   rw [lk_eq,if_pos (List.any_eq_true.mpr ⟨_,mem,decide_eq_true (by omega)⟩)]
  ·have c':¬ (4:Int)<(cs[i].dep:Nat):=of_decide_eq_false (Bool.eq_false_iff.mpr c)
   refine ⟨_,rfl,o2.trans o4,fun j hj lj=>?_⟩
   by_cases c2:j<i
   ·exact lo j hj c2
   ·obtain rfl:j=i:=by omega
    omega
 intro σ H2 hv
 obtain ⟨k3,rfl,o2,lo⟩:=hv
 have kcs:∀ k∈cs,Kg k 4:=fun k hk=>by
  obtain ⟨j,hj,ej⟩:=List.getElem_of_mem hk
  have:=lo j hj (by omega)
  rw [ej] at this
  exact ⟨fJ hk wks,this⟩
 have elk:(Tk.mk x p fr cs ps).lk e=match Tk.lks x p (plK ps) fr cs ps 0 e [] with
  | .error r=>.error r
  | .ok f=>if 4<(ba x fr cs f e).dep then .error (.deep p) else .ok (ba x fr cs f e):=by
  rw [lk_eq,if_neg]
  ·rfl
  ·intro z
   obtain ⟨k,hk,dk⟩:=List.any_eq_true.mp z
   have:=(kcs k hk).dep
   have:=of_decide_eq_true dk
   omega
 refine ⟨by show 0≤sizeLine;decide,fun fa hfa=>?_⟩
 have o3:Old H (upd H2 fa (.lst [])):=(o1.trans o2).trans (Old.new hfa)
 have hf3:upd H2 fa (.lst []) fa=some (.lst []):=ag
 have hfa0:H fa=none:=(o1.trans o2).free hfa
 have nB:b≠fa:=ap hb hfa0
 revert o3 hf3
 generalize upd H2 fa (.lst [])=H3
 intro o3 hf3
 refine ⟨_,rfl,.ref a,Tk.mk x p fr cs ps,rfl,rt.mono o3.tm,wt,N.ok,fun r2 us2 H4 o4 hr4 hr5 rus2=>⟨r2,rfl,.inl ⟨⟨_,SqL.of hr5⟩,?_⟩⟩⟩
 have rus3:RKs K H4 (Tn.ds (Tk.tns ps)) us2:=rus2
 have l2:ps.length=us2.length:=by
  have:=rus3.length
  rw [b8,aM] at this
  exact this
 have o5:=o3.trans o4
 have nr2:r2≠fa:=fun z=>by rw [z,hf3] at hr4;cases hr4
 refine dM (n:=us2.length) (fun i σ H5=>∃ (k5 k6:Option V) (g:List Kn),σ = [some (.ref a),some (.ref b),k3,some (.ref fa),k5,k6,none]∧Old H H5∧Tm H4 H5∧H5 r2=some (.lst us2)∧Fd K H5 fa g∧g.length=i∧(∀ k∈g,Kg k 4)∧(g≠[]→Fit x g)∧Tk.lks x p (plK ps) fr cs ps 0 e []=Tk.lks x p (plK ps) fr cs (ps.drop i) i e g) ⟨none,none,[],rfl,o5,fun _ _ z=>z,hr5,⟨⟨[],o4 _ _ hf3,rfl⟩⟩,rfl,fun k z=>(nomatch z),fun z=>absurd rfl z,rfl⟩ ?_ ?_ ?_ ?_
 ·intro i σ H5 hi hv
  obtain ⟨k5,k6,g,rfl,o6,tm5,h2,_⟩:=hv
  exact ⟨_,_,SqL.of h2,List.getElem?_eq_getElem hi⟩
 ·intro σ H5 hv
  obtain ⟨k5,k6,g,rfl,o6,tm5,h2,_⟩:=hv
  exact ⟨_,SqL.of h2,Nat.le_refl _⟩
 ·intro i σ H5 hi hv uv H6 hy
  obtain ⟨k5,k6,g,rfl,o6,tm5,h2,hf5,lg,kg,fit,elks⟩:=hv
  have hi':i<ps.length:=by omega
  obtain ⟨e1,hyx⟩:=hy
  subst e1
  have eu:us2[i]? = some uv:=hyx _ (SqL.of h2)
  have rn:RK K H4 ps[i].tn.d uv:=by
   obtain ⟨d,ed,rd⟩:=rus3.getV eu
   have e1:(Tk.tns ps)[i]'(by rw [aM];exact hi')=ps[i].tn:=by
    have:=gZ hi'
    rw [List.getElem?_eq_getElem (by rw [aM];exact hi')] at this
    exact Option.some.inj this
   rw [fD (by rw [aM];exact hi'),e1] at ed
   cases ed
   exact rd
  have hb6:=o6 _ _ hb
  have dn:=fS hi'
  have elk2:Tk.lks x p (plK ps) fr cs (ps.drop i) i e g=match ps[i].lk (bwK x fr cs g i e) with
   | .error r=>.error r
   | .ok k=>match br x p (plK ps) ps[i].p cs (g ++ [k]) with
     | some r=>.error r
     | none=>Tk.lks x p (plK ps) fr cs (ps.drop (i+1)) (i+1) e (g ++ [k]):=by
   rw [List.drop_eq_getElem_cons hi']
   exact la _ _ _ _ _ _ _ _ _ _
  refine ⟨_,rfl,_,rfl,_,rfl,_,rfl,?_⟩
  refine ⟨.ref a,b,fa,Tk.mk x p fr cs ps,g,kvs,e,rfl,rt.mono o6.tm,wt,hb6,by omega,he.mono o6.tm,hf5,fun r3 kvs' H7 o7 hr3 lkv' he7=>?_⟩
  rw [lg] at he7
  have rn7:=rn.mono (fun c xs e=>o7 _ _ (tm5 c xs e):Tm H4 H7)
  refine ⟨uv,r3,ps[i],kvs',bwK x fr cs g i e,bs ++ bnd x (txs fr) i,rfl,rn7,⟨e8 hi' wps,iy hi' oks,ii hi' doss,nv_bw kcs kg N.eok,has_bw N.has nm1,fps hi'⟩,hr3,by omega,he7,by omega,fun gv H8 o8 rg kgk=>?_⟩
  have o78:=o7.trans o8
  have oH8:=o6.trans o78
  have tm8:Tm H4 H8:=fun c xs e=>o78 _ _ (tm5 c xs e)
  have hf8:=hf5.old o78
  have h28:=o78 _ _ h2
  cases ek:ps[i].lk (bwK x fr cs g i e) with
  | error r=>
    rw [ek] at rg
    obtain ⟨hh,ds,er,nt⟩:=rf_head r
    have rg':RK K H8 (rfD r) gv:=rg
    have rg2:=rg'
    rw [er] at rg2
    obtain ⟨ga,gus,rfl,hga,_⟩:=RK.kind rg2
    refine ⟨_,rfl,.inr (.inl ⟨ga,_,0,.str hh,rfl,rfl,hga.sq,at0,.inr (.inl ⟨rfl,_,rfl,?_⟩)⟩)⟩
    rw [aI,decide_eq_false nt]
    have ee:(Tk.mk x p fr cs ps).lk e = .error r:=by rw [elk,elks,elk2,ek]
    exact a9 ⟨_,rfl,q _ _ oH8 (by rw [ee];exact rg') (fun k hk=>by rw [ee] at hk;cases hk)⟩
  | ok k=>
    rw [ek] at rg
    have kgk':=kgk k ek
    have rg':RK K H8 (.tup [.str "taken",k.d]) gv:=rg
    obtain ⟨ga,gus,rfl,hga,rgs⟩:=RK.kind rg'
    obtain ⟨kv,gr,rfl,rk,e0⟩:=rgs
    refine ⟨_,rfl,.inr (.inl ⟨ga,_,0,.str "taken",rfl,rfl,hga.sq,at0,.inr (.inl ⟨rfl,_,rfl,?_⟩)⟩)⟩
    rw [aI,decide_eq_true rfl]
    refine aU ?_
    obtain ⟨fvs,hfa8,rfs8⟩:=hf8.ex
    have lfv:=rfs8.length
    rw [aH] at lfv
    refine ⟨_,rfl,.inl ⟨rfl,_,SqL.of hfa8⟩,_,rfl,.inr (.inl ⟨ga,_,1,kv,rfl,rfl,hga.sq,at1,fa,fvs,kv,rfl,rfl,hfa8,bE (by omega),?_⟩)⟩
    have tm9:Tm H8 (upd H8 fa (.lst (fvs ++ [kv]))):=fun c xs e=>by rw [au (fun z=>by rw [z,hfa8] at e;cases e)];exact e
    have h29:upd H8 fa (.lst (fvs ++ [kv])) r2=some (.lst us2):=by rw [au nr2];exact h28
    have fd9:Fd K (upd H8 fa (.lst (fvs ++ [kv]))) fa (g ++ [k]):=⟨⟨_,ag,by
     rw [ds_app]
     exact RKs.append (rfs8.mono tm9) (.cons (rk.mono tm9) .nil)⟩⟩
    have o9:Old H (upd H8 fa (.lst (fvs ++ [kv]))):=fun c o e=>by
     rw [au (ap e hfa0)]
     exact oH8 c o e
    have tm49:Tm H4 (upd H8 fa (.lst (fvs ++ [kv]))):=fun c xs e=>tm9 _ _ (tm8 c xs e)
    revert h29 fd9 o9 tm49
    generalize upd H8 fa (.lst (fvs ++ [kv]))=H9
    intro h29 fd9 o9 tm49
    have gl1:(g ++ [k]).length=i+1:=by rw [List.length_append,lg];rfl
    have gne:g ++ [k]≠[]:=by simp
    have kg':∀ z∈g ++ [k],Kg z 4:=fun z hz=>by
     rcases List.mem_append.mp hz with hz | hz
     ·exact kg z hz
     ·rw [List.mem_singleton.mp hz];exact kgk'
    refine ⟨_,rfl,_,rfl,_,rfl,?_⟩
    refine ⟨.ref a,uv,fa,Tk.mk x p fr cs ps,ps[i],g ++ [k],rfl,rt.mono o9.tm,wt,rn.mono tm49,fd9,gne,by rw [gl1];exact hi',kg',kcs,fun z=>?_,fun hv H10 o10 rh=>?_⟩
    ·have gn:g≠[]:=fun y=>by rw [y] at z;exact z rfl
     exact eU gn k (fit gn)
    have rh':RK K H10 (hdD (br x p (plK ps) ps[i].p cs (g ++ [k]))) hv:=rh
    refine ⟨_,rfl,rfl,_,rfl,?_⟩
    cases eh:br x p (plK ps) ps[i].p cs (g ++ [k]) with
    | none=>
      rw [eh] at rh'
      cases (show hv = .non by rw [hdD,RK] at rh';exact rh')
      refine aU ⟨_,_,g ++ [k],rfl,o9.trans o10,fun c xs e=>o10 _ _ (tm49 c xs e),o10 _ _ h29,fd9.old o10,gl1,kg',fun _=>?_,?_⟩
      ·by_cases gn:g = []
       ·subst gn
        exact jd eh
       ·exact eU gn k (fit gn)
      ·rw [elks,elk2,ek]
       show (match br x p (plK ps) ps[i].p cs (g ++ [k]) with | some r=>Except.error r | none=>Tk.lks x p (plK ps) fr cs (ps.drop (i+1)) (i+1) e (g ++ [k]))=_
       rw [eh]
    | some r=>
      rw [eh] at rh'
      have rh2:RK K H10 (rfD r) hv:=rh'
      obtain ⟨hh,ds,er,_⟩:=rf_head r
      have rh3:=rh2
      rw [er] at rh3
      obtain ⟨va,vus,rfl,_,_⟩:=RK.kind rh3
      have ee:(Tk.mk x p fr cs ps).lk e = .error r:=by
       rw [elk,elks,elk2,ek]
       show (match (match br x p (plK ps) ps[i].p cs (g ++ [k]) with | some r=>Except.error r | none=>Tk.lks x p (plK ps) fr cs (ps.drop (i+1)) (i+1) e (g ++ [k])) with | .error r=>Except.error r | .ok f=>if 4<(ba x fr cs f e).dep then .error (.deep p) else .ok (ba x fr cs f e))=_
       rw [eh]
      exact a9 ⟨_,rfl,q _ _ (o9.trans o10) (by rw [ee];exact rh2) (fun k hk=>by rw [ee] at hk;cases hk)⟩
 ·intro σ H5 hv
  obtain ⟨k5,k6,g,rfl,o6,tm5,h2,hf5,lg,kg,fit,elks⟩:=hv
  rw [← l2,List.drop_length,lks_nil] at elks
  have kgo:Kg (ba x fr cs g e) 5:=kg_own kcs kg N.eok
  refine ⟨_,rfl,_,rfl,_,rfl,.ref a,b,fa,Tk.mk x p fr cs ps,g,kvs,e,rfl,rt.mono o6.tm,wt,nlk,hf5,lg.trans l2.symm,kg,?_,hdo,fun c=>N.has _ (fnm c),o6 _ _ hb,he.mono o6.tm,fun kv H7 o7 rk=>?_⟩
  ·by_cases gn:g = []
   ·subst gn
    exact fun _ _=>.inl rfl
   ·exact fit gn
  have rk':RK K H7 (ba x fr cs g e).d kv:=rk
  refine ⟨_,rfl,kv,ba x fr cs g e,rfl,rk',fG kgo.wf,by have:=kgo.dep;omega,fun H8 o8=>⟨_,_,rfl,rfl,_,rfl,?_⟩⟩
  have o678:=(o6.trans o7).trans o8
  refine fQ (fun c=>?_) (fun c=>?_)
  ·have c':(4:Int)<((ba x fr cs g e).dep:Nat):=of_decide_eq_true c
   refine ⟨_,rfl,.inr (.inl ⟨a,_,1,.int p,rfl,rfl,(ha.mono o678.tm).sq,at1,by show 2≤sizeLine;decide,fun r5 hr5=>deepQ _ o678 ?_ r5 hr5⟩)⟩
   rw [elk,elks]
   exact if_pos (by omega)
  ·have c':¬ (4:Int)<((ba x fr cs g e).dep:Nat):=of_decide_eq_false (Bool.eq_false_iff.mpr c)
   have ee:(Tk.mk x p fr cs ps).lk e = .ok (ba x fr cs g e):=by
    rw [elk,elks]
    exact if_neg (by omega)
   refine ⟨_,rfl,by show 2≤sizeLine;decide,fun r5 hr5=>q _ _ (o678.trans (Old.new hr5)) ?_ (fun k hk=>?_)⟩
   ·rw [ee]
    exact RK.tup (.of ag) (.cons (.s _) (.cons ((rk'.mono o8.tm).mono (Old.new hr5).tm) .nil))
   ·rw [ee] at hk
    cases hk
    exact ⟨kgo.wf,by omega⟩
end
end L2.K33
end
section
namespace L2.K33
open PySem PySem.Spec PyProof.Rows L2.Bw L2.Bk L2.Ex
section
variable {P:Program} {w:World} {K:W.Frag} {mg:Str→Option Value} {base:Heap} {f:Addr} {fd:FuncData}
abbrev sCell:Stmt:=top 46
def spCell (K:W.Frag):Sp:=fun vs H Q _=>∃ (a:Addr) (ns:List Int) (k:Int),vs = [.ref a,.int k]∧SqL K H a (ns.map V.int)∧0≤k∧∀ i:Int,Q (.int i) H
theorem scCell:aF ["_law_script","_law_k"] ["_law_script","_law_k"] (aw sCell):=⟨rfl,rfl,rfl,by decide +kernel,rfl,by decide +kernel,by decide +kernel⟩
theorem hZ {ns:List Int} {k:Int} (h0:0≤k) (h:k<(ns.length:Int)):∃ y,atI (ns.map V.int) k=some (.int y):=by
 obtain ⟨j,ej⟩:∃ j:Nat,k=(j:Int):=⟨k.toNat,by omega⟩
 have hj:j<ns.length:=by omega
 exact ⟨ns[j],by rw [ej];exact aK (by rw [List.getElem?_map,List.getElem?_eq_getElem hj];rfl)⟩
theorem ok_cell {n:Nat} (F:Fun K "_law_cell_at" "_law_cell_at" sCell f fd) (T:Tx mg):aY P w K mg base CX0 (n+1) f fd ["_law_script","_law_k"] (spCell K):=by
 refine F.ok scCell (fun vs H Q E h=>?_) (fun cdv A outer s H vs Q E hr h=>?_)
 ·obtain ⟨a,ns,k,rfl,_⟩:=h
  rfl
 obtain ⟨a,ns,k,rfl,hS,hk,q⟩:=h
 have nd:=scCell.nd
 refine' ⟨_,?n0,?Z⟩
 case' n0=>refine' ae ?N1 ?N2
 case' N1=>refine' aC (ak op_lt (pv 1) (aQ (bd) rfl T.len boot_len (pa (pv 0) ad)) (am _)) ?N3 aq
 case' N3=>refine' ah ?N4
 case' N4=>refine' ao ?N5
 case N5=>exact al (show IxR _ (rIx K) from ai) (pv 0) (pv 1) (fun _ _=>rfl)
 case' N2=>refine' ah ?N6
 case N6=>exact ao ac
 refine ⟨_,rfl,_,rfl,.inl ⟨a,_,rfl,.inl hS,_,_,rfl,rfl,_,rfl,?_⟩⟩
 refine fQ (fun cc=>?_) (fun cc=>q 0)
 have c':k<((ns.map V.int).length:Int):=of_decide_eq_true cc
 rw [List.length_map] at c'
 obtain ⟨y,ey⟩:=hZ hk c'
 exact ⟨_,rfl,_,rfl,.inl ⟨a,_,k,_,rfl,rfl,hS,ey,q y⟩⟩
abbrev sNext:Stmt:=top 48
structure Dl (K:W.Frag) (H:Hp) (d a wl:Addr) (ns:List Int) (ws:List Str) (i b c:Int):Prop where
 hd:H d=some (.lst [.ref a,.int i,.int b,.int c,.ref wl])
 ha:SqL K H a (ns.map V.int)
 ne:a=d→∀ H':Hp,SqL K H' a (ns.map V.int)
 hw:H wl=some (.lst (ws.map V.str))
 nw:wl≠d
 i0:0≤i
 five:ws.length=5
theorem Dl.put {H:Hp} {d a wl:Addr} {ns:List Int} {ws:List Str} {i b c i' c':Int} (D:Dl K H d a wl ns ws i b c) (h:0≤i'):Dl K (upd H d (.lst [.ref a,.int i',.int b,.int c',.ref wl])) d a wl ns ws i' b c':=⟨ag,by
 by_cases z:a=d
 ·exact D.ne z _
 ·exact (Gr.put (M:=M1 d) rfl).seq z D.ha,D.ne,by rw [au D.nw];exact D.hw,D.nw,h,D.five⟩
theorem Dl.old {H H':Hp} {d a wl:Addr} {ns:List Int} {ws:List Str} {i b c:Int} (D:Dl K H d a wl ns ws i b c) (o:Old H H'):Dl K H' d a wl ns ws i b c:=⟨o _ _ D.hd,o.gr.seq (fun z=>z) D.ha,D.ne,o _ _ D.hw,D.nw,D.i0,D.five⟩
theorem Dl.i1 {i b c:Int} {a wl:Addr}:atI [V.ref a,.int i,.int b,.int c,.ref wl] 1=some (.int i):=aK (j:=1) rfl
theorem Dl.i2 {i b c:Int} {a wl:Addr}:atI [V.ref a,.int i,.int b,.int c,.ref wl] 2=some (.int b):=aK (j:=2) rfl
theorem Dl.i3 {i b c:Int} {a wl:Addr}:atI [V.ref a,.int i,.int b,.int c,.ref wl] 3=some (.int c):=aK (j:=3) rfl
theorem Dl.i4 {i b c:Int} {a wl:Addr}:atI [V.ref a,.int i,.int b,.int c,.ref wl] 4=some (.ref wl):=aK (j:=4) rfl
def spNext (K:W.Frag):Sp:=fun vs H Q _=>∃ (d a wl:Addr) (ns:List Int) (ws:List Str) (i b c:Int),vs = [.ref d]∧Dl K H d a wl ns ws i b c∧∀ r:Int,0≤r→Q (.int r) (upd H d (.lst [.ref a,.int (i+1),.int b,.int c,.ref wl]))
theorem scNext:aF ["_law_deal"] ["_law_deal"] (aw sNext):=⟨rfl,rfl,rfl,by decide +kernel,rfl,by decide +kernel,by decide +kernel⟩
theorem ok_next {n:Nat} (F:Fun K "_law_next" "_law_next" sNext f fd) (T:Tx mg):aY P w K mg base CX0 (n+1) f fd ["_law_deal"] (spNext K):=by
 refine F.ok scNext (fun vs H Q E h=>?_) (fun cdv A outer s H vs Q E hr h=>?_)
 ·obtain ⟨d,a,wl,ns,ws,i,b,c,rfl,_⟩:=h
  rfl
 obtain ⟨d,a,wl,ns,ws,i,b,c,rfl,D,q⟩:=h
 have nd:=scNext.nd
 refine' ⟨_,?n0,?Z⟩
 case' n0=>refine' ae ?N1 ?N2
 case' N1=>refine' ps_asg ?N3 ?N4
 case' N3=>refine' aE bo ?N5 ac
 case N5=>exact al (show IxR _ (rIx K) from ai) (pv 0) ac (fun _ _=>rfl)
 case N4=>exact pg_sub (pv 0) ac lE
 case' N2=>refine' ae ?N6 ?N7
 case' N6=>refine' aC ?N8 ?N9 aq
 case' N8=>refine' PW.pt ?Na
 case' Na=>refine' bV ?Nb ?Nc
 case' Nb=>refine' ak js ?Nd ac (am _)
 case Nd=>exact al (show IxR _ (rIx K) from ai) (pv 0) ac (fun _ _=>rfl)
 case' Nc=>refine' bR ?Ne
 case' Ne=>refine' ak op_ge ?Nf ?Ng (am _)
 case Nf=>exact al (show IxR _ (rIx K) from ai) (pv 0) ac (fun _ _=>rfl)
 case' Ng=>refine' aQ (bd) rfl T.len boot_len ?Nh
 case' Nh=>refine' pa ?Ni ad
 case Ni=>exact al (show IxR _ (rIx K) from ai) (pv 0) ac (fun _ _=>rfl)
 case' N9=>refine' ah ?Nj
 case Nj=>exact ao ac
 case' N7=>refine' ah ?Nk
 case' Nk=>refine' ao ?Nl
 case' Nl=>refine' aE bh ?Nm ac
 case' Nm=>refine' aE bo ?Nn ?No
 case' Nn=>refine' aE dA ?Np ac
 case' Np=>refine' al (show IxR _ (rIx K) from ai) ?Nq ?Nr (fun _ _=>rfl)
 case Nq=>exact al (show IxR _ (rIx K) from ai) (pv 0) ac (fun _ _=>rfl)
 case Nr=>exact al (show IxR _ (rIx K) from ai) (pv 0) ac (fun _ _=>rfl)
 case' No=>refine' aE dA ac ?Ns
 case Ns=>exact al (show IxR _ (rIx K) from ai) (pv 0) ac (fun _ _=>rfl)
 refine ⟨_,rfl,.inl ⟨d,_,1,.int i,rfl,rfl,SqL.of D.hd,Dl.i1,.inr (.inl ⟨_,_,rfl,rfl,?_⟩)⟩⟩
 refine ⟨_,rfl,d,_,1,1,rfl,rfl,D.hd,ixN_nat (n:=5) (j:=1) (by decide),?_⟩
 have i0:=D.i0
 have D1:=D.put (i':=i+1) (c':=c) (by omega)
 have q1:∀ r:Int,0≤r→Q (.int r) (upd H d (.lst ([V.ref a,.int i,.int b,.int c,.ref wl].set 1 (.int (i+1))))):=q
 have D1':Dl K (upd H d (.lst ([V.ref a,.int i,.int b,.int c,.ref wl].set 1 (.int (i+1))))) d a wl ns ws (i+1) b c:=D1
 generalize upd H d (.lst ([V.ref a,.int i,.int b,.int c,.ref wl].set 1 (.int (i+1))))=H1 at q1 D1' ⊢
 dsimp only
 refine bb ((20:Int)<c∨(ns.length:Int)≤i+1) (fun R hR=>df _ _ hR (fun R hR=>⟨_,rfl,.inl ⟨d,_,3,.int c,rfl,rfl,SqL.of D1'.hd,Dl.i3,_,_,rfl,rfl,_,rfl,hR⟩⟩) fun R hR=>⟨_,rfl,.inl ⟨d,_,1,.int (i+1),rfl,rfl,SqL.of D1'.hd,Dl.i1,_,rfl,.inl ⟨d,_,0,.ref a,rfl,rfl,SqL.of D1'.hd,at0,.inl ⟨a,_,rfl,.inl D1'.ha,_,_,rfl,rfl,_,rfl,?_⟩⟩⟩⟩) (fun _=>q1 3 (by decide)) (fun cc=>?_)
 ·rw [List.length_map]
  exact hR
 have c':¬ ((ns.length:Int)≤i+1):=fun z=>cc (.inr z)
 obtain ⟨y,ey⟩:=hZ (ns:=ns) (k:=i+1) (by omega) (by omega)
 refine ⟨_,rfl,.inl ⟨d,_,0,.ref a,rfl,rfl,SqL.of D1'.hd,at0,_,rfl,.inl ⟨d,_,1,.int (i+1),rfl,rfl,SqL.of D1'.hd,Dl.i1,.inl ⟨a,_,_,.int y,rfl,rfl,D1'.ha,ey,.inr ⟨_,_,rfl,rfl,.inr ⟨by decide,by decide⟩,_,rfl,.inl ⟨d,_,1,.int (i+1),rfl,rfl,SqL.of D1'.hd,Dl.i1,.inr ⟨_,_,rfl,rfl,.inl ⟨by decide,by decide⟩,.inr (.inl ⟨_,_,rfl,rfl,_,_,rfl,rfl,(by show (0:Int)<1000000000039;decide),q1 _ (Int.emod_nonneg _ (by decide))⟩)⟩⟩⟩⟩⟩⟩⟩
abbrev sPlace:Stmt:=top 49
def gX (K:W.Frag):Sp:=fun vs H Q _=>∃ (d a wl:Addr) (ns:List Int) (ws:List Str) (i b c:Int),vs = [.ref d]∧Dl K H d a wl ns ws i b c∧∀ r:Int,0≤r→r<997→Q (.int r) (upd H d (.lst [.ref a,.int i,.int b,.int (c+1),.ref wl]))
theorem scPlace:aF ["_law_deal"] ["_law_deal"] (aw sPlace):=⟨rfl,rfl,rfl,by decide +kernel,rfl,by decide +kernel,by decide +kernel⟩
theorem ok_place {n:Nat} (F:Fun K "_law_place" "_law_place" sPlace f fd) (T:Tx mg):aY P w K mg base CX0 (n+1) f fd ["_law_deal"] (gX K):=by
 refine F.ok scPlace (fun vs H Q E h=>?_) (fun cdv A outer s H vs Q E hr h=>?_)
 ·obtain ⟨d,a,wl,ns,ws,i,b,c,rfl,_⟩:=h
  rfl
 obtain ⟨d,a,wl,ns,ws,i,b,c,rfl,D,q⟩:=h
 have nd:=scPlace.nd
 refine' ⟨_,?n0,?Z⟩
 case' n0=>refine' ae ?N1 ?N2
 case' N1=>refine' ps_asg ?N3 ?N4
 case' N3=>refine' aE bo ?N5 ac
 case N5=>exact al (show IxR _ (rIx K) from ai) (pv 0) ac (fun _ _=>rfl)
 case N4=>exact pg_sub (pv 0) ac lE
 case' N2=>refine' ah ?N6
 case' N6=>refine' ao ?N7
 case' N7=>refine' aE bh ?N8 ac
 case' N8=>refine' aE bo ?N9 ?Na
 case N9=>exact al (show IxR _ (rIx K) from ai) (pv 0) ac (fun _ _=>rfl)
 case' Na=>refine' aE dA ac ?Nb
 case Nb=>exact al (show IxR _ (rIx K) from ai) (pv 0) ac (fun _ _=>rfl)
 refine ⟨_,rfl,.inl ⟨d,_,3,.int c,rfl,rfl,SqL.of D.hd,Dl.i3,.inr (.inl ⟨_,_,rfl,rfl,?_⟩)⟩⟩
 refine ⟨_,rfl,d,_,3,3,rfl,rfl,D.hd,ixN_nat (n:=5) (j:=3) (by decide),?_⟩
 have D1:=D.put (i':=i) (c':=c+1) D.i0
 have q1:∀ r:Int,0≤r→r<997→Q (.int r) (upd H d (.lst ([V.ref a,.int i,.int b,.int c,.ref wl].set 3 (.int (c+1))))):=q
 have D1':Dl K (upd H d (.lst ([V.ref a,.int i,.int b,.int c,.ref wl].set 3 (.int (c+1))))) d a wl ns ws i b (c+1):=D1
 generalize upd H d (.lst ([V.ref a,.int i,.int b,.int c,.ref wl].set 3 (.int (c+1))))=H1 at q1 D1' ⊢
 refine ⟨_,rfl,.inl ⟨d,_,2,.int b,rfl,rfl,SqL.of D1'.hd,Dl.i2,_,rfl,.inl ⟨d,_,3,.int (c+1),rfl,rfl,SqL.of D1'.hd,Dl.i3,.inr ⟨_,_,rfl,rfl,.inl ⟨by decide,by decide⟩,.inr (.inl ⟨_,_,rfl,rfl,_,_,rfl,rfl,(by show (0:Int)<997;decide),q1 _ (Int.emod_nonneg _ (by decide)) (Int.emod_lt_of_pos _ (by decide))⟩)⟩⟩⟩⟩
end
end L2.K33
end
section
namespace L2.K33
open PySem PySem.Spec PyProof.Rows L2.Bw L2.Bk L2.Ex
section
variable {P:Program} {w:World} {K:W.Frag} {mg:Str→Option Value} {base:Heap} {f:Addr} {fd:FuncData}
theorem flat3 {p1 p2 p3:Addr} {i:Int} {H:Hp} (h0:0≤i) (h1:i<3) (t1:Tp K H p1 [.str "whole"]) (t2:Tp K H p2 [.str "truth"]) (t3:Tp K H p3 [.str "?"]):∃ (k:Kn) (v:V),atI [V.ref p1,V.ref p2,V.ref p3] i=some v∧Kg k 1∧RK K H k.d v:=by
 have c:i=0∨i=1∨i=2:=by omega
 rcases c with c | c | c <;> subst c
 ·exact ⟨cW,.ref p1,rfl,eZ,RK.tup t1 (.cons (.s _) .nil)⟩
 ·exact ⟨eL,.ref p2,rfl,eY,RK.tup t2 (.cons (.s _) .nil)⟩
 ·exact ⟨qK,.ref p3,rfl,fU,RK.tup t3 (.cons (.s _) .nil)⟩
theorem pick {i:Int} {vs:List V} {m:Nat} {H:Hp} (h0:0≤i) (h1:i<(vs.length:Int)) (h:∀ v∈vs,∃ k:Kn,Kg k m∧RK K H k.d v):∃ (k:Kn) (v:V),atI vs i=some v∧Kg k m∧RK K H k.d v:=by
 obtain ⟨v,ev,hv⟩:=jQ h0 h1
 obtain ⟨k,hk,rk⟩:=h v hv
 exact ⟨k,v,ev,hk,rk⟩
abbrev sKind:Stmt:=top 50
def kl (K:W.Frag):Sp:=fun vs H Q _=>∃ (a:Int),vs = [.int a]∧∀ (t:Kn) (v:V) (H':Hp),RK K H' t.d v→Kg t 6→Old H H'→Q v H'
theorem scKind:aF ["_law_cell","_law_flat","_law_one","_law_two","_law_kind_here","_law_k"] ["_law_cell"] (aw sKind):=⟨rfl,rfl,rfl,by decide +kernel,rfl,by decide +kernel,by decide +kernel⟩
theorem ok_kind {m:Nat} (F:Fun K "_law_kind" "_law_kind" sKind f fd) (T:Tx mg):aY P w K mg base CX0 (m+1) f fd ["_law_cell"] (kl K):=by
 refine F.ok scKind (fun vs H Q E h=>?_) (fun cdv A outer s H vs Q E hr h=>?_)
 ·obtain ⟨a,rfl,_⟩:=h
  rfl
 obtain ⟨a,rfl,q⟩:=h
 have nd:=scKind.nd
 refine' ⟨_,?n0,?Z⟩
 case' n0=>refine' ae ?N1 ?N2
 case' N1=>refine' aA (i:=1) nd rfl (Or.inl rfl) rfl (by first | exact .inl rfl | exact .inr rfl) ?N3
 case' N3=>refine' bt ?N4
 case' N4=>refine' pa ?N5 ?N6
 case' N5=>refine' ay ?N7
 case' N7=>refine' pa ?N8 ?N9
 case N8=>exact aj
 case N9=>exact ad
 case' N6=>refine' pa ?Na ?Nb
 case' Na=>refine' ay ?Nc
 case' Nc=>refine' pa ?Nd ?Ne
 case Nd=>exact aj
 case Ne=>exact ad
 case' Nb=>refine' pa ?Nf ?Ng
 case' Nf=>refine' ay ?Nh
 case' Nh=>refine' pa ?Ni ?Nj
 case Ni=>exact aj
 case Nj=>exact ad
 case Ng=>exact ad
 case' N2=>refine' ae ?Nk ?Nl
 case' Nk=>refine' aA (i:=2) nd rfl (Or.inl rfl) rfl (by first | exact .inl rfl | exact .inr rfl) ?Nm
 case' Nm=>refine' al (show IxR _ (rIx K) from ai) ?Nn ?No (fun _ _=>rfl)
 case Nn=>exact pv 1
 case' No=>refine' aE bh ?Np ?Nq
 case Np=>exact pv 0
 case Nq=>exact ac
 case' Nl=>refine' ae ?Nr ?Ns
 case' Nr=>refine' aA (i:=3) nd rfl (Or.inl rfl) rfl (by first | exact .inl rfl | exact .inr rfl) ?Nt
 case' Nt=>refine' al (show IxR _ (rIx K) from ai) ?Nu ?Nv (fun _ _=>rfl)
 case Nu=>exact pv 1
 case' Nv=>refine' aE bh ?Nw ?Nx
 case' Nw=>refine' aE bg ?Ny ?Nz
 case Ny=>exact pv 0
 case Nz=>exact ac
 case Nx=>exact ac
 case' Ns=>refine' ae ?N10 ?N11
 case' N10=>refine' aA (i:=4) nd rfl (Or.inl rfl) rfl (by first | exact .inl rfl | exact .inr rfl) ?N12
 case' N12=>refine' al (show IxR _ (rIx K) from ai) ?N13 ?N14 (fun _ _=>rfl)
 case' N13=>refine' bt ?N15
 case' N15=>refine' pa ?N16 ?N17
 case N16=>exact pv 2
 case' N17=>refine' pa ?N18 ?N19
 case' N18=>refine' ay ?N1a
 case' N1a=>refine' pa ?N1b ?N1c
 case N1b=>exact aj
 case' N1c=>refine' pa ?N1d ?N1e
 case N1d=>exact pv 3
 case' N1e=>refine' pa ?N1f ?N1g
 case N1f=>exact pv 2
 case N1g=>exact ad
 case' N19=>refine' pa ?N1h ?N1i
 case' N1h=>refine' ay ?N1j
 case' N1j=>refine' pa ?N1k ?N1l
 case N1k=>exact aj
 case' N1l=>refine' pa ?N1m ?N1n
 case N1m=>exact pv 2
 case N1n=>exact ad
 case' N1i=>refine' pa ?N1o ?N1p
 case' N1o=>refine' ay ?N1q
 case' N1q=>refine' pa ?N1r ?N1s
 case N1r=>exact aj
 case' N1s=>refine' pa ?N1t ?N1u
 case N1t=>exact pv 2
 case' N1u=>refine' pa ?N1v ?N1w
 case N1v=>exact pv 3
 case N1w=>exact ad
 case' N1p=>refine' pa ?N1x ?N1y
 case N1x=>exact pv 2
 case N1y=>exact ad
 case' N14=>refine' aE bh ?N1z ?N20
 case' N1z=>refine' aE bg ?N21 ?N22
 case N21=>exact pv 0
 case N22=>exact ac
 case N20=>exact ac
 case' N11=>refine' ae ?N23 ?N24
 case' N23=>refine' cU PassesOwn.never rfl ?N25 ?N26 ?N27
 case' N25=>refine' dh rfl T.range ?N28
 case' N28=>refine' pa ?N29 ?N2a
 case' N29=>refine' al (show IxR _ (rIx K) from ai) ?N2b ?N2c (fun _ _=>rfl)
 case' N2b=>refine' bt ?N2d
 case' N2d=>refine' pa ?N2e ?N2f
 case N2e=>exact ac
 case' N2f=>refine' pa ?N2g ?N2h
 case N2g=>exact ac
 case' N2h=>refine' pa ?N2i ?N2j
 case N2i=>exact ac
 case' N2j=>refine' pa ?N2k ?N2l
 case N2k=>exact ac
 case' N2l=>refine' pa ?N2m ?N2n
 case N2m=>exact ac
 case' N2n=>refine' pa ?N2o ?N2p
 case N2o=>exact ac
 case' N2p=>refine' pa ?N2q ?N2r
 case N2q=>exact ac
 case' N2r=>refine' pa ?N2s ?N2t
 case N2s=>exact ac
 case' N2t=>refine' pa ?N2u ?N2v
 case N2u=>exact ac
 case' N2v=>refine' pa ?N2w ?N2x
 case N2w=>exact ac
 case N2x=>exact ad
 case' N2c=>refine' aE bh ?N2y ?N2z
 case' N2y=>refine' aE bg ?N30 ?N31
 case N30=>exact pv 0
 case N31=>exact ac
 case N2z=>exact ac
 case N2a=>exact ad
 case N26=>exact aZ (i:=5) nd rfl (Or.inl rfl)
 case' N27=>refine' ah ?N32
 case' N32=>refine' aA (i:=4) nd rfl (Or.inl rfl) rfl (by first | exact .inl rfl | exact .inr rfl) ?N33
 case' N33=>refine' al (show IxR _ (rIx K) from ai) ?N34 ?N35 (fun _ _=>rfl)
 case' N34=>refine' bt ?N36
 case' N36=>refine' pa ?N37 ?N38
 case' N37=>refine' ay ?N39
 case' N39=>refine' pa ?N3a ?N3b
 case N3a=>exact aj
 case' N3b=>refine' pa ?N3c ?N3d
 case N3c=>exact pv 4
 case' N3d=>refine' pa ?N3e ?N3f
 case' N3e=>refine' ay ?N3g
 case' N3g=>refine' pa ?N3h ?N3i
 case N3h=>exact aj
 case N3i=>exact ad
 case N3f=>exact ad
 case' N38=>refine' pa ?N3j ?N3k
 case' N3j=>refine' ay ?N3l
 case' N3l=>refine' pa ?N3m ?N3n
 case N3m=>exact aj
 case' N3n=>refine' pa ?N3o ?N3p
 case N3o=>exact pv 4
 case N3p=>exact ad
 case' N3k=>refine' pa ?N3q ?N3r
 case' N3q=>refine' ay ?N3s
 case' N3s=>refine' pa ?N3t ?N3u
 case N3t=>exact aj
 case' N3u=>refine' pa ?N3v ?N3w
 case' N3v=>refine' ay ?N3x
 case' N3x=>refine' pa ?N3y ?N3z
 case N3y=>exact aj
 case N3z=>exact ad
 case' N3w=>refine' pa ?N40 ?N41
 case N40=>exact pv 4
 case N41=>exact ad
 case' N3r=>refine' pa ?N42 ?N43
 case' N42=>refine' ay ?N44
 case' N44=>refine' pa ?N45 ?N46
 case N45=>exact aj
 case' N46=>refine' pa ?N47 ?N48
 case N47=>exact pv 2
 case' N48=>refine' pa ?N49 ?N4a
 case N49=>exact pv 4
 case N4a=>exact ad
 case N43=>exact ad
 case' N35=>refine' aE bh ?N4b ?N4c
 case' N4b=>refine' aE bo ?N4d ?N4e
 case' N4d=>refine' aE bg ?N4f ?N4g
 case N4f=>exact pv 0
 case N4g=>exact ac
 case N4e=>exact pv 5
 case N4c=>exact ac
 case' N24=>refine' ah ?N4h
 case' N4h=>refine' ao ?N4i
 case N4i=>exact pv 4
 refine ⟨by show 1≤sizeLine;decide,fun p1 hp1=>⟨by show 1≤sizeLine;decide,fun p2 hp2=>⟨by show 1≤sizeLine;decide,fun p3 hp3=>⟨by show 3≤sizeLine;decide,fun p4 hp4=>?_⟩⟩⟩⟩
 have o1:Old H (upd H p1 (.tup [.str "whole"])):=Old.new hp1
 have o2:=Old.new (o:=.tup [.str "truth"]) hp2
 have o3:=Old.new (o:=.tup [.str "?"]) hp3
 have o4:=Old.new (o:=.lst [.ref p1,.ref p2,.ref p3]) hp4
 have t1:Tp K _ p1 [.str "whole"]:=.of (o4 _ _ (o3 _ _ (o2 _ _ ag)))
 have t2:Tp K _ p2 [.str "truth"]:=.of (o4 _ _ (o3 _ _ ag))
 have t3:Tp K _ p3 [.str "?"]:=.of (o4 _ _ ag)
 have oo:=((o1.trans o2).trans o3).trans o4
 have hl4:upd (upd (upd (upd H p1 (.tup [.str "whole"])) p2 (.tup [.str "truth"])) p3 (.tup [.str "?"])) p4 (HO.lst [.ref p1,.ref p2,.ref p3]) p4=some (.lst [.ref p1,.ref p2,.ref p3]):=ag
 obtain ⟨ka,va,eva,gka,rka⟩:=flat3 (K:=K) (Int.emod_nonneg a (by decide:(3:Int)≠0)) (Int.emod_lt_of_pos a (by decide)) t1 t2 t3
 obtain ⟨kb,vb,evb,gkb,rkb⟩:=flat3 (K:=K) (Int.emod_nonneg (a / 3) (by decide:(3:Int)≠0)) (Int.emod_lt_of_pos (a / 3) (by decide)) t1 t2 t3
 revert oo rka rkb hl4
 generalize upd (upd (upd (upd H p1 (.tup [.str "whole"])) p2 (.tup [.str "truth"])) p3 (.tup [.str "?"])) p4 (.lst [.ref p1,.ref p2,.ref p3])=H1
 intro oo hl4 rka rkb
 refine ⟨_,rfl,_,rfl,_,_,rfl,rfl,(by show (0:Int)<3;decide),.inl ⟨p4,_,_,va,rfl,rfl,SqL.of hl4,eva,?_⟩⟩
 refine ⟨_,rfl,_,rfl,_,_,rfl,rfl,.inl ⟨by decide,by decide⟩,_,_,rfl,rfl,(by show (0:Int)<3;decide),.inl ⟨p4,_,_,vb,rfl,rfl,SqL.of hl4,evb,?_⟩⟩
 refine ⟨_,rfl,_,rfl,_,rfl,by show 3≤sizeLine;decide,fun q1 hq1=>⟨_,rfl,by show 2≤sizeLine;decide,fun q2 hq2=>⟨_,rfl,_,rfl,by show 3≤sizeLine;decide,fun q3 hq3=>⟨_,rfl,by show 5≤sizeLine;decide,fun q4 hq4=>?_⟩⟩⟩⟩
 have u1:Old H1 (upd H1 q1 (.tup [.str "to",vb,va])):=Old.new hq1
 have u2:=Old.new (o:=.tup [.str "row",va]) hq2
 have u3:=Old.new (o:=.tup [.str "pair",va,vb]) hq3
 have u4:=Old.new (o:=.lst [va,.ref q1,.ref q2,.ref q3,va]) hq4
 have s1:Tp K _ q1 [.str "to",vb,va]:=.of (u4 _ _ (u3 _ _ (u2 _ _ ag)))
 have s2:Tp K _ q2 [.str "row",va]:=.of (u4 _ _ (u3 _ _ ag))
 have s3:Tp K _ q3 [.str "pair",va,vb]:=.of (u4 _ _ ag)
 have uu:=((u1.trans u2).trans u3).trans u4
 have hl5:upd (upd (upd (upd H1 q1 (.tup [.str "to",vb,va])) q2 (.tup [.str "row",va])) q3 (.tup [.str "pair",va,vb])) q4 (HO.lst [va,.ref q1,.ref q2,.ref q3,va]) q4=some (.lst [va,.ref q1,.ref q2,.ref q3,va]):=ag
 have rka2:=rka.mono uu.tm
 have rkb2:=rkb.mono uu.tm
 obtain ⟨kc,vc,evc,gkc,rkc⟩:=pick (K:=K) (m:=2) (vs:=[va,.ref q1,.ref q2,.ref q3,va]) (Int.emod_nonneg (a / 9) (by decide:(5:Int)≠0)) (Int.emod_lt_of_pos (a / 9) (by decide)) (fun v hv=>by
  rcases List.mem_cons.mp hv with rfl | hv
  ·exact ⟨ka,gka.mono (by omega),rka2⟩
  rcases List.mem_cons.mp hv with rfl | hv
  ·exact ⟨_,ir gkb gka,RK.tup s1 (.cons (.s _) (.cons rkb2 (.cons rka2 .nil)))⟩
  rcases List.mem_cons.mp hv with rfl | hv
  ·exact ⟨_,j2 gka,RK.tup s2 (.cons (.s _) (.cons rka2 .nil))⟩
  rcases List.mem_cons.mp hv with rfl | hv
  ·exact ⟨_,gQ gka gkb,RK.tup s3 (.cons (.s _) (.cons rka2 (.cons rkb2 .nil)))⟩
  ·rw [List.mem_singleton.mp hv]
   exact ⟨ka,gka.mono (by omega),rka2⟩)
 revert uu rkc rka2 rkb2 hl5
 generalize upd (upd (upd (upd H1 q1 (.tup [.str "to",vb,va])) q2 (.tup [.str "row",va])) q3 (.tup [.str "pair",va,vb])) q4 (.lst [va,.ref q1,.ref q2,.ref q3,va])=H2
 intro uu hl5 rka2 rkb2 rkc
 refine ⟨_,rfl,_,_,rfl,rfl,.inl ⟨by decide,by decide⟩,_,_,rfl,rfl,(by show (0:Int)<5;decide),.inl ⟨q4,_,_,vc,rfl,rfl,SqL.of hl5,evc,?_⟩⟩
 refine ⟨by show 10≤sizeLine;decide,fun q5 hq5=>?_⟩
 have u5:=Old.new (o:=.lst [.int 0,.int 0,.int 0,.int 0,.int 0,.int 0,.int 1,.int 2,.int 3,.int 4]) hq5
 have hl6:upd H2 q5 (HO.lst [.int 0,.int 0,.int 0,.int 0,.int 0,.int 0,.int 1,.int 2,.int 3,.int 4]) q5=some (.lst [.int 0,.int 0,.int 0,.int 0,.int 0,.int 0,.int 1,.int 2,.int 3,.int 4]):=ag
 revert u5 hl6
 generalize upd H2 q5 (.lst [.int 0,.int 0,.int 0,.int 0,.int 0,.int 0,.int 1,.int 2,.int 3,.int 4])=H3
 intro u5 hl6
 obtain ⟨nn,enn,n0,n4⟩:∃ nn:Nat,atI [V.int 0,.int 0,.int 0,.int 0,.int 0,.int 0,.int 1,.int 2,.int 3,.int 4] (a / 45 % 10)=some (.int (nn:Int))∧0≤nn∧nn≤4:=by
  have b0:0≤a / 45 % 10:=Int.emod_nonneg _ (by decide)
  have b1:a / 45 % 10<10:=Int.emod_lt_of_pos _ (by decide)
  generalize a / 45 % 10=j at b0 b1
  have c:j=0∨j=1∨j=2∨j=3∨j=4∨j=5∨j=6∨j=7∨j=8∨j=9:=by omega
  rcases c with c | c | c | c | c | c | c | c | c | c <;> subst c
  ·exact ⟨0,rfl,by decide,by decide⟩
  ·exact ⟨0,rfl,by decide,by decide⟩
  ·exact ⟨0,rfl,by decide,by decide⟩
  ·exact ⟨0,rfl,by decide,by decide⟩
  ·exact ⟨0,rfl,by decide,by decide⟩
  ·exact ⟨0,rfl,by decide,by decide⟩
  ·exact ⟨1,rfl,by decide,by decide⟩
  ·exact ⟨2,rfl,by decide,by decide⟩
  ·exact ⟨3,rfl,by decide,by decide⟩
  ·exact ⟨4,rfl,by decide,by decide⟩
 have oH3:=(oo.trans uu).trans u5
 refine ⟨_,rfl,_,_,rfl,rfl,.inl ⟨by decide,by decide⟩,_,_,rfl,rfl,(by show (0:Int)<10;decide),.inl ⟨q5,_,_,.int (nn:Int),rfl,rfl,SqL.of hl6,enn,_,rfl,by omega,by omega,?_⟩⟩
 refine dW (n:=nn) (fun i σ H5=>∃ (k6:Option V) (kv:V) (k:Kn),σ = [some (.int a),some (.ref p4),some va,some vb,some kv,k6]∧Old H3 H5∧RK K H5 k.d kv∧Kg k (2+i)) ⟨none,vc,kc,rfl,Old.refl _,rkc.mono u5.tm,gkc⟩ ?_ ?_
 ·intro i σ H5 hi hv
  obtain ⟨k6,kv,k,rfl,o5,rk,gk⟩:=hv
  refine ⟨_,rfl,by show 1≤sizeLine;decide,fun r1 h1=>⟨by show 3≤sizeLine;decide,fun r2 h2=>⟨_,rfl,by show 2≤sizeLine;decide,fun r3 h3=>⟨by show 1≤sizeLine;decide,fun r4 h4=>⟨_,rfl,by show 3≤sizeLine;decide,fun r5 h5=>⟨_,rfl,_,rfl,by show 3≤sizeLine;decide,fun r6 h6=>⟨by show 4≤sizeLine;decide,fun r7 h7=>?_⟩⟩⟩⟩⟩⟩⟩
  have v1:Old H5 (upd H5 r1 (.tup [.str "?"])):=Old.new h1
  have v2:=Old.new (o:=.tup [.str "to",kv,.ref r1]) h2
  have v3:=Old.new (o:=.tup [.str "row",kv]) h3
  have v4:=Old.new (o:=.tup [.str "?"]) h4
  have v5:=Old.new (o:=.tup [.str "pair",.ref r4,kv]) h5
  have v6:=Old.new (o:=.tup [.str "to",va,kv]) h6
  have v7:=Old.new (o:=.lst [.ref r2,.ref r3,.ref r5,.ref r6]) h7
  have y1:Tp K _ r1 [.str "?"]:=.of (v7 _ _ (v6 _ _ (v5 _ _ (v4 _ _ (v3 _ _ (v2 _ _ ag))))))
  have y2:Tp K _ r2 [.str "to",kv,.ref r1]:=.of (v7 _ _ (v6 _ _ (v5 _ _ (v4 _ _ (v3 _ _ ag)))))
  have y3:Tp K _ r3 [.str "row",kv]:=.of (v7 _ _ (v6 _ _ (v5 _ _ (v4 _ _ ag))))
  have y4:Tp K _ r4 [.str "?"]:=.of (v7 _ _ (v6 _ _ (v5 _ _ ag)))
  have y5:Tp K _ r5 [.str "pair",.ref r4,kv]:=.of (v7 _ _ (v6 _ _ ag))
  have y6:Tp K _ r6 [.str "to",va,kv]:=.of (v7 _ _ ag)
  have vv:=(((((v1.trans v2).trans v3).trans v4).trans v5).trans v6).trans v7
  have hl7:upd (upd (upd (upd (upd (upd (upd H5 r1 (.tup [.str "?"])) r2 (.tup [.str "to",kv,.ref r1])) r3 (.tup [.str "row",kv])) r4 (.tup [.str "?"])) r5 (.tup [.str "pair",.ref r4,kv])) r6 (.tup [.str "to",va,kv])) r7 (HO.lst [.ref r2,.ref r3,.ref r5,.ref r6]) r7=some (.lst [.ref r2,.ref r3,.ref r5,.ref r6]):=ag
  have rk7:=rk.mono vv.tm
  have ra7:=(rka2.mono (u5.trans o5).tm).mono vv.tm
  have gq:Kg qK (2+i):=fU.mono (by omega)
  obtain ⟨kd,vd,evd,gkd,rkd⟩:=pick (K:=K) (m:=2+i+1) (vs:=[.ref r2,.ref r3,.ref r5,.ref r6]) (Int.emod_nonneg (a / 450+(0+(i:Int))) (by decide:(4:Int)≠0)) (Int.emod_lt_of_pos (a / 450+(0+(i:Int))) (by decide)) (fun v hv=>by
   rcases List.mem_cons.mp hv with rfl | hv
   ·exact ⟨_,ir gk gq,RK.tup y2 (.cons (.s _) (.cons rk7 (.cons (RK.tup y1 (.cons (.s _) .nil)) .nil)))⟩
   rcases List.mem_cons.mp hv with rfl | hv
   ·exact ⟨_,j2 gk,RK.tup y3 (.cons (.s _) (.cons rk7 .nil))⟩
   rcases List.mem_cons.mp hv with rfl | hv
   ·exact ⟨_,gQ gq gk,RK.tup y5 (.cons (.s _) (.cons (RK.tup y4 (.cons (.s _) .nil)) (.cons rk7 .nil)))⟩
   ·rw [List.mem_singleton.mp hv]
    exact ⟨_,ir (gka.mono (by omega)) gk,RK.tup y6 (.cons (.s _) (.cons ra7 (.cons rk7 .nil)))⟩)
  refine ⟨_,rfl,_,_,rfl,rfl,.inl ⟨by decide,by decide⟩,_,rfl,.inr (.inl ⟨_,_,rfl,rfl,_,_,rfl,rfl,(by show (0:Int)<4;decide),.inl ⟨r7,_,_,vd,rfl,rfl,SqL.of hl7,evd,?_⟩⟩)⟩
  exact ⟨_,vd,kd,rfl,o5.trans vv,rkd,gkd⟩
 ·intro σ H5 hv
  obtain ⟨k6,kv,k,rfl,o5,rk,gk⟩:=hv
  exact ⟨_,rfl,q k kv H5 rk (gk.mono (by omega)) (oH3.trans o5)⟩
end
end L2.K33
end
section
namespace L2.K33
open PySem PySem.Spec PyProof.Rows L2.Bw L2.Bk L2.Ex
def cb:Nat→Nat
 | 0=>0
 | r+1=>1+4 * cb r
section
variable {P:Program} {w:World} {K:W.Frag} {mg:Str→Option Value} {base:Heap} {f:Addr} {fd:FuncData}
abbrev sLeaf:Stmt:=top 51
structure Mt (K:W.Frag) (H:Hp) (v:V) (t:Tk) (bs:List Str) (m:Nat):Prop where
 r:RK K H t.tn.d v
 wf:t.tn.wf
 ok:t.ok
 dos:t.dos
 free:t.tn.frees bs = []
 cnt:t.cnt≤cb m
 dep:t.tn.dep≤m
def spLeaf (K:W.Frag):Sp:=fun vs H Q _=>∃ (d a wl nl:Addr) (ns:List Int) (ws bs:List Str) (i b c cell:Int),vs = [.ref d,.ref nl,.int cell]∧Dl K H d a wl ns ws i b c∧H nl=some (.lst (bs.map V.str))∧nl≠d∧bs.length≤100∧∀ (t:Tk) (v:V) (H':Hp),Gr (M1 d) H H'→Dl K H' d a wl ns ws i b (c+1)→Mt K H' v t bs 1→Q v H'
theorem scLeaf:aF ["_law_deal","_law_names_here","_law_cell","_law_place_here"] ["_law_deal","_law_names_here","_law_cell"] (aw sLeaf):=⟨rfl,rfl,rfl,by decide +kernel,rfl,by decide +kernel,by decide +kernel⟩
theorem leaf_facts:∀ x∈(["whole","truth","given","name"]:List Str),x∈K11.words∧K11.nf x=1∧K11.nk x=0∧K11.np x=0∧x≠"look"∧x≠"row"∧x≠"do":=by decide +kernel
theorem dZ {H:Hp} {v:V} {x:Str} {p:Int} {d:Dk} {bs:List Str} (hx:x∈(["whole","truth","given","name"]:List Str)) (p0:0≤p) (p1:p<9973) (fd:d.flat=true) (hn:x∈dQ→∃ s,d = .str s∧s∈bs) (r:RK K H (.tup [.str x,.int p,d]) v):Mt K H v (.mk x p [d] [] []) bs 1:=by
 obtain ⟨f1,f2,f3,f4,f5,f6,f7⟩:=leaf_facts x hx
 refine ⟨?_,⟨⟨f1,f2.symm,f3.symm,fun _=>f4.symm,by decide,fun z=>?_,p0,by omega⟩,trivial⟩,⟨⟨trivial,by decide,fun e he=>by rw [List.mem_singleton.mp he];exact fd,f5⟩,trivial⟩,⟨fun z=>absurd z f7,trivial⟩,?_,Nat.le_refl _,Nat.le_refl _⟩
 ·show RK K H (.tup (.str x :: .int p :: ([d] ++ [] ++ (if x = "row" then [.tup []] else [])))) v
  rw [if_neg f6]
  exact r
 ·obtain ⟨s,rfl,_⟩:=hn z
  exact ⟨[s],rfl⟩
 ·show (if x = "name"∧(txs [d]).headD "" ∉ bs then [(p,(txs [d]).headD "")] else []) ++ [] = []
  rw [if_neg]
  ·rfl
  ·rintro ⟨z1,z2⟩
   obtain ⟨s,rfl,hs⟩:=hn (by rw [z1];decide +kernel)
   exact z2 hs
theorem ok_leaf {n:Nat} (F:Fun K "_law_leaf" "_law_leaf" sLeaf f fd) (T:Tx mg) (c_place:Cal P w K mg base "_law_place" ["_law_deal"] 1 (gX K)):aY P w K mg base CX0 (n+2) f fd ["_law_deal","_law_names_here","_law_cell"] (spLeaf K):=by
 refine F.ok scLeaf (fun vs H Q E h=>?_) (fun cdv A outer s H vs Q E hr h=>?_)
 ·obtain ⟨d,a,wl,nl,ns,ws,bs,i,b,c,cell,rfl,_⟩:=h
  rfl
 obtain ⟨d,a,wl,nl,ns,ws,bs,i,b,c,cell,rfl,D,hnl,nd1,few,q⟩:=h
 have nd:=scLeaf.nd
 refine' ⟨_,?n0,?Z⟩
 case' n0=>refine' ae ?N1 ?N2
 case N1=>exact aA (i:=3) nd rfl (Or.inl rfl) rfl (by first | exact .inl rfl | exact .inr rfl) (az c_place hr (pa (pv 0) ad))
 case' N2=>refine' ae ?N3 ?N4
 case' N3=>refine' aC ?N5 ?N6 aq
 case' N5=>refine' PW.pt ?N7
 case' N7=>refine' bG (ak js (aQ (bd) rfl T.len boot_len (pa (pv 1) ad)) ac (am _)) ?N8
 case N8=>exact bu (ak (ax hr) (aE bh (pv 2) ac) ac (am _))
 case' N6=>refine' ah ?N9
 case' N9=>refine' ao ?Na
 case' Na=>refine' ay ?Nb
 case' Nb=>refine' pa aj ?Nc
 case' Nc=>refine' pa (pv 3) ?Nd
 case' Nd=>refine' pa ?Ne ad
 case Ne=>exact al (show IxR _ (rIx K) from ai) (pv 1) (aE bh (aE bg (pv 2) ac) (aQ (bd) rfl T.len boot_len (pa (pv 1) ad))) (fun _ _=>rfl)
 case' N4=>refine' ae ?Nf ?Ng
 case' Nf=>refine' aC (ak (ax hr) (aE bh (pv 2) ac) ac (am _)) ?Nh aq
 case' Nh=>refine' ah ?Ni
 case' Ni=>refine' ao ?Nj
 case' Nj=>refine' ay ?Nk
 case' Nk=>refine' pa aj ?Nl
 case' Nl=>refine' pa (pv 3) ?Nm
 case' Nm=>refine' pa ?Nn ad
 case Nn=>exact dB (ax hr) (aE bh (aE bg (pv 2) ac) ac) ac (am _)
 case' Ng=>refine' ae ?No ?Np
 case' No=>refine' aC (ak (ax hr) (aE bh (pv 2) ac) ac (am _)) ?Nq aq
 case' Nq=>refine' ah ?Nr
 case Nr=>exact ao (ay (pa aj (pa (pv 3) (pa (aE bh (aE bg (pv 2) ac) ac) ad))))
 case' Np=>refine' ah ?Ns
 case Ns=>exact ao (ay (pa aj (pa (pv 3) (pa (aE cw (aE bh (aE bg (pv 2) ac) ac) ac) ad))))
 refine ⟨_,rfl,d,a,wl,ns,ws,i,b,c,rfl,D,fun p p0 p1=>?_⟩
 have D1:=D.put (i':=i) (c':=c+1) D.i0
 have g1:Gr (M1 d) H (upd H d (.lst [.ref a,.int i,.int b,.int (c+1),.ref wl])):=Gr.put rfl
 have hn1:upd H d (.lst [.ref a,.int i,.int b,.int (c+1),.ref wl]) nl=some (.lst (bs.map V.str)):=by rw [au nd1];exact hnl
 generalize upd H d (.lst [.ref a,.int i,.int b,.int (c+1),.ref wl])=H1 at D1 g1 hn1 ⊢
 have fin:∀ (t:Tk) (xs:List V) (r:Addr),H1 r=none→Mt K (upd H1 r (.tup xs)) (.ref r) t bs 1→Q (.ref r) (upd H1 r (.tup xs)):=fun t xs r hr0 m=>q t _ _ (g1.trans (Gr.new hr0)) (D1.old (Old.new hr0)) m
 dsimp only [bH]
 refine bb ((0:Int)<(bs.length:Int)∧cell % 2=0) (fun R hR=>fN _ _ hR (fun R hR=>⟨_,rfl,.inl ⟨nl,_,rfl,.inl (SqL.of hn1),_,_,rfl,rfl,_,rfl,by rw [List.length_map];exact hR⟩⟩) fun _ R hR=>⟨_,rfl,_,_,rfl,rfl,(by show (0:Int)<2;decide),.inr (.inl ⟨rfl,_,rfl,by rw [cF];exact hR⟩)⟩) (fun cc=>?_) (fun _=>?_)
 ·have lm:(0:Int)<((bs.map V.str).length:Int):=by rw [List.length_map];exact cc.1
  obtain ⟨nm,enm,hnm⟩:=dI (ss:=bs) (i:=cell / 2 % ((bs.map V.str).length:Int)) (Int.emod_nonneg _ (by omega)) (by have:=Int.emod_lt_of_pos (cell / 2) lm;rw [List.length_map] at this ⊢;exact this)
  refine ⟨_,rfl,_,rfl,_,rfl,_,_,rfl,rfl,.inl ⟨by decide,by decide⟩,_,rfl,.inl ⟨nl,_,rfl,.inl (SqL.of hn1),_,_,rfl,rfl,lm,.inl ⟨nl,_,_,.str nm,rfl,rfl,SqL.of hn1,enm,by show 3≤sizeLine;decide,fun r hr0=>?_⟩⟩⟩
  exact fin _ _ r hr0 (dZ (by decide +kernel) p0 (by omega) rfl (fun _=>⟨nm,rfl,hnm⟩) (RK.tup (.of ag) (.cons (.s _) (.cons (.i _) (.cons (.s _) .nil)))))
 refine bb (cell % 4=1) (fun R hR=>⟨_,rfl,_,_,rfl,rfl,(by show (0:Int)<4;decide),.inr (.inl ⟨rfl,_,rfl,by rw [cF];exact hR⟩)⟩) (fun cc=>?_) (fun _=>?_)
 ·refine ⟨_,rfl,_,rfl,_,_,rfl,rfl,.inl ⟨by decide,by decide⟩,_,_,rfl,rfl,(by show (0:Int)<2;decide),.inr (.inl ⟨rfl,by show 3≤sizeLine;decide,fun r hr0=>?_⟩)⟩
  exact fin _ _ r hr0 (dZ (by decide +kernel) p0 (by omega) rfl (fun z=>absurd z (by decide +kernel)) (RK.tup (.of ag) (.cons (.s _) (.cons (.i _) (.cons (.b _) .nil)))))
 refine bb (cell % 16=3) (fun R hR=>⟨_,rfl,_,_,rfl,rfl,(by show (0:Int)<16;decide),.inr (.inl ⟨rfl,_,rfl,by rw [cF];exact hR⟩)⟩) (fun cc=>?_) (fun _=>?_)
 ·refine ⟨_,rfl,_,rfl,_,_,rfl,rfl,.inl ⟨by decide,by decide⟩,_,_,rfl,rfl,(by show (0:Int)<8;decide),by show 3≤sizeLine;decide,fun r hr0=>?_⟩
  exact fin _ _ r hr0 (dZ (by decide +kernel) p0 (by omega) rfl (fun z=>absurd z (by decide +kernel)) (RK.tup (.of ag) (.cons (.s _) (.cons (.i _) (.cons (.i _) .nil)))))
 refine ⟨_,rfl,_,rfl,_,_,rfl,rfl,.inl ⟨by decide,by decide⟩,_,_,rfl,rfl,(by show (0:Int)<14;decide),_,_,rfl,rfl,by show 3≤sizeLine;decide,fun r hr0=>?_⟩
 exact fin _ _ r hr0 (dZ (by decide +kernel) p0 (by omega) rfl (fun z=>absurd z (by decide +kernel)) (RK.tup (.of ag) (.cons (.s _) (.cons (.i _) (.cons (.i _) .nil)))))
end
end L2.K33
end
section
namespace L2.K33
open PySem PySem.Spec PyProof.Rows L2.Bw L2.Bk L2.Ex
structure Mp (t:Tk) (bs:List Str) (m:Nat):Prop where
 wf:t.tn.wf
 ok:t.ok
 dos:t.dos
 free:t.tn.frees bs = []
 cnt:t.cnt≤cb m
 dep:t.tn.dep≤m
def Mps (x:Str) (ns bs:List Str) (m:Nat):Nat→List Tk→Prop
 | _,[]=>True
 | i,t :: r=>Mp t (bs ++ bnd x ns i) m∧Mps x ns bs m (i+1) r
theorem mps_wf {x:Str} {ns bs:List Str} {m:Nat}:∀ {i:Nat} {ps:List Tk},Mps x ns bs m i ps→Tn.wfs (Tk.tns ps)
 | _,[],_=>trivial
 | _,_ :: _,h=>⟨h.1.wf,mps_wf h.2⟩
theorem mps_ok {x:Str} {ns bs:List Str} {m:Nat}:∀ {i:Nat} {ps:List Tk},Mps x ns bs m i ps→Tk.oks ps
 | _,[],_=>trivial
 | _,_ :: _,h=>⟨h.1.ok,mps_ok h.2⟩
theorem mps_dos {x:Str} {ns bs:List Str} {m:Nat}:∀ {i:Nat} {ps:List Tk},Mps x ns bs m i ps→Tk.doss ps
 | _,[],_=>trivial
 | _,_ :: _,h=>⟨h.1.dos,mps_dos h.2⟩
theorem li {x:Str} {ns bs:List Str} {m:Nat}:∀ {i:Nat} {ps:List Tk},Mps x ns bs m i ps→Tn.freess x ns i (Tk.tns ps) bs = []
 | _,[],_=>rfl
 | i,t :: r,h=>by
   show t.tn.frees (bs ++ bnd x ns i) ++ Tn.freess x ns (i+1) (Tk.tns r) bs = []
   rw [h.1.free,li h.2]
   rfl
theorem mps_cnt {x:Str} {ns bs:List Str} {m:Nat}:∀ {i:Nat} {ps:List Tk},Mps x ns bs m i ps→Tk.cnts ps≤ps.length * cb m
 | _,[],_=>Nat.zero_le _
 | _,t :: r,h=>by
   have a:=h.1.cnt
   have b:=mps_cnt h.2
   show t.cnt+Tk.cnts r≤(r.length+1) * cb m
   rw [Nat.succ_mul]
   omega
theorem mps_dep {x:Str} {ns bs:List Str} {m:Nat}:∀ {i:Nat} {ps:List Tk},Mps x ns bs m i ps→Tn.deps (Tk.tns ps)≤m
 | _,[],_=>Nat.zero_le _
 | _,t :: r,h=>by
   have a:=h.1.dep
   have b:=mps_dep h.2
   show max t.tn.dep (Tn.deps (Tk.tns r))≤m
   omega
theorem kgs_wf:∀ {ks:List Kn},(∀ k∈ks,Kg k 6)→Kn.wfs ks
 | [],_=>trivial
 | k :: r,h=>⟨(h k (.head _)).wf,kgs_wf fun k' hk=>h k' (.tail _ hk)⟩
theorem kgs_dep:∀ {ks:List Kn},(∀ k∈ks,Kg k 6)→Kn.deps ks≤7
 | [],_=>Nat.zero_le _
 | k :: r,h=>by
   have a:=(h k (.head _)).dep
   have b:=kgs_dep (ks:=r) fun k' hk=>h k' (.tail _ hk)
   show max k.dep (Kn.deps r)≤7
   omega
def goodW (x:Str):Prop:=x∈K11.words∧x≠"look"∧x≠"name"
section
variable {K:W.Frag}
theorem Mt.mp {H:Hp} {v:V} {t:Tk} {bs:List Str} {m:Nat} (h:Mt K H v t bs m):Mp t bs m:=⟨h.wf,h.ok,h.dos,h.free,h.cnt,h.dep⟩
theorem Mt.tm {H H':Hp} {v:V} {t:Tk} {bs:List Str} {m:Nat} (h:Mt K H v t bs m) (g:Tm H H'):Mt K H' v t bs m:=⟨h.r.mono g,h.wf,h.ok,h.dos,h.free,h.cnt,h.dep⟩
theorem Mp.more {t:Tk} {bs cs:List Str} {m:Nat} (h:Mp t bs m) (e:bs=cs):Mp t cs m:=e ▸ h
theorem cj {H:Hp} {v:V} {x:Str} {p:Int} {fr:List Dk} {ks:List Kn} {ps:List Tk} {bs:List Str} {m:Nat} (gw:goodW x) (lf:fr.length=K11.nf x) (lk:ks.length=K11.nk x) (lp:x≠"row"→ps.length=K11.np x) (l4:ps.length≤4) (hn:x∈dQ→∃ ns:List Str,fr=ns.map Dk.str) (p0:0≤p) (p1:p<100000) (flt:∀ d∈fr,d.flat=true) (hk:∀ k∈ks,Kg k 6) (hdo:x = "do"→∃ o,fr = [.str o]) (hm:Mps x (txs fr) bs m 0 ps) (r:RK K H (Tk.mk x p fr ks ps).tn.d v):Mt K H v (.mk x p fr ks ps) bs (m+1):=by
 refine ⟨r,⟨⟨gw.1,lf,by rw [aH];exact lk,fun z=>by rw [aM];exact lp z,by rw [aM];omega,hn,p0,p1⟩,mps_wf hm⟩,⟨⟨kgs_wf hk,kgs_dep hk,flt,gw.2.1⟩,mps_ok hm⟩,⟨hdo,mps_dos hm⟩,?_,?_,?_⟩
 ·show (if x = "name"∧(txs fr).headD "" ∉ bs then [(p,(txs fr).headD "")] else []) ++ Tn.freess x (txs fr) 0 (Tk.tns ps) bs = []
  rw [if_neg (fun z=>gw.2.2 z.1),li hm]
  rfl
 ·have a:=mps_cnt hm
  show 1+Tk.cnts ps≤1+4 * cb m
  have b:ps.length * cb m≤4 * cb m:=Nat.mul_le_mul_right _ l4
  omega
 ·have a:=mps_dep hm
  show 1+Tn.deps (Tk.tns ps)≤m+1
  omega
theorem cD {x:Str} {ns:List Str} {i:Nat} (h1:x≠"fn") (h2:x≠"self") (h3:x≠"let") (bs:List Str):bs=bs ++ bnd x ns i:=by
 unfold bnd
 rw [if_neg (fun z=>z.elim h1 fun z=>z.elim h2 fun z=>h3 z.1),List.append_nil]
end
end L2.K33
end
section
namespace L2.K33
open PySem PySem.Spec PyProof.Rows L2.Bw L2.Bk L2.Ex
section
variable {P:Program} {w:World} {K:W.Frag} {mg:Str→Option Value} {base:Heap} {f:Addr} {fd:FuncData}
abbrev sAny:Stmt:=top 52
def dR (K:W.Frag) (m:Nat):Sp:=fun vs H Q _=>∃ (d a wl nl:Addr) (ns:List Int) (ws bs:List Str) (i b c:Int) (r:Nat),vs = [.ref d,.ref nl,.int (r:Int)]∧Dl K H d a wl ns ws i b c∧H nl=some (.lst (bs.map V.str))∧nl≠d∧bs.length+2 * r≤100∧1≤r∧r<m ∧
 ∀ (t:Tk) (v:V) (H':Hp) (i' c':Int),Gr (M1 d) H H'→Dl K H' d a wl ns ws i' b c'→Mt K H' v t bs r→Q v H'
theorem scAny:aF ["_law_deal","_law_names_here","_law_room","_law_cell","_law_place_here","_law_way","_law_word","_law_own_here","_law_inner","_law_one","_law_items","_law_two"] ["_law_deal","_law_names_here","_law_room"] (aw sAny):=⟨rfl,rfl,rfl,by decide +kernel,rfl,by decide +kernel,by decide +kernel⟩
structure St5 (K:W.Frag) (H H':Hp) (d a wl nl:Addr) (ns:List Int) (ws bs:List Str) (b:Int):Prop where
 g:Gr (M1 d) H H'
 D:∃ i c,Dl K H' d a wl ns ws i b c
 nl:H' nl=some (.lst (bs.map V.str))
theorem Mt.up {H:Hp} {v:V} {t:Tk} {bs:List Str} {m:Nat} (h:Mt K H v t bs 1) (hm:1≤m):Mt K H v t bs m:=⟨h.r,h.wf,h.ok,h.dos,h.free,by
 have:=h.cnt
 obtain ⟨k,rfl⟩:∃ k,m=k+1:=⟨m - 1,by omega⟩
 show t.cnt≤1+4 * cb k
 have e:cb 1=1:=rfl
 omega,Nat.le_trans h.dep hm⟩
theorem St5.call {H Hx:Hp} {d a wl nl nl':Addr} {ns:List Int} {ws bs bs':List Str} {b:Int} {m r:Nat} {Q:VK} {E:XK} (S:St5 K H Hx d a wl nl ns ws bs b) (nd1:nl≠d) (h':Hx nl'=some (.lst (bs'.map V.str))) (nd':nl'≠d) (few:bs'.length+2 * (r - 1)≤100) (r2:2≤r) (rm:r<m+1)
 (k:∀ t v Hy,St5 K H Hy d a wl nl ns ws bs b→Tm Hx Hy→Mt K Hy v t bs' (r - 1)→Q v Hy):dR K m [.ref d,.ref nl',.int ((r:Int) - 1)] Hx Q E:=by
 obtain ⟨i,c,D⟩:=S.D
 refine ⟨d,a,wl,nl',ns,ws,bs',i,b,c,r - 1,by rw [show ((r - 1:Nat):Int)=(r:Int) - 1 by omega],D,h',nd',few,by omega,by omega,fun t v Hy i' c' g' D' M=>k t v Hy ⟨S.g.trans g',⟨i',c',D'⟩,g' _ _ S.nl nd1⟩ (g'.tm1 D.hd) M⟩
theorem St5.callG {H Hx:Hp} {d a wl nl nl':Addr} {ns:List Int} {ws bs bs':List Str} {b:Int} {m r:Nat} {Q:VK} {E:XK} (S:St5 K H Hx d a wl nl ns ws bs b) (nd1:nl≠d) (h':Hx nl'=some (.lst (bs'.map V.str))) (nd':nl'≠d) (few:bs'.length+2 * (r - 1)≤100) (r2:2≤r) (rm:r<m+1)
 (k:∀ t v Hy,St5 K H Hy d a wl nl ns ws bs b→Gr (M1 d) Hx Hy→Tm Hx Hy→Mt K Hy v t bs' (r - 1)→Q v Hy):dR K m [.ref d,.ref nl',.int ((r:Int) - 1)] Hx Q E:=by
 obtain ⟨i,c,D⟩:=S.D
 refine ⟨d,a,wl,nl',ns,ws,bs',i,b,c,r - 1,by rw [show ((r - 1:Nat):Int)=(r:Int) - 1 by omega],D,h',nd',few,by omega,by omega,fun t v Hy i' c' g' D' M=>k t v Hy ⟨S.g.trans g',⟨i',c',D'⟩,g' _ _ S.nl nd1⟩ g' (g'.tm1 D.hd) M⟩
theorem St5.old {H Hx Hy:Hp} {d a wl nl:Addr} {ns:List Int} {ws bs:List Str} {b:Int} (S:St5 K H Hx d a wl nl ns ws bs b) (o:Old Hx Hy):St5 K H Hy d a wl nl ns ws bs b:=⟨S.g.trans (o.gr.wide fun _ z=>False.elim z),let ⟨i,c,D⟩:=S.D;⟨i,c,D.old o⟩,o _ _ S.nl⟩
theorem St5.ne {H Hx:Hp} {d a wl nl:Addr} {ns:List Int} {ws bs:List Str} {b:Int} (S:St5 K H Hx d a wl nl ns ws bs b) {p:Addr} (h:Hx p=none):p≠d:=fun z=>by
 obtain ⟨i,c,D⟩:=S.D
 rw [z,D.hd] at h
 cases h
theorem St5.cat {H Hx:Hp} {d a wl nl l1:Addr} {ns:List Int} {ws bs xs:List Str} {b:Int} {Q:VK} (S:St5 K H Hx d a wl nl ns ws bs b) (hl1:Hx l1=none) (few:bs.length+xs.length≤200)
 (k:∀ l2 Hy,St5 K H Hy d a wl nl ns ws bs b→Old Hx Hy→Hy l2=some (.lst ((bs ++ xs).map V.str))→l2≠d→Q (.ref l2) Hy):jz K (.ref nl) (.ref l1) (upd Hx l1 (.lst (xs.map V.str))) Q:=by
 have o4:=Old.new (o:=.lst (xs.map V.str)) hl1
 refine .inr (addL ⟨nl,l1,_,_,rfl,rfl,o4 _ _ S.nl,ag,by rw [List.length_map,List.length_map];exact Nat.le_of_lt (bE (by omega)),fun l2 hl2=>?_⟩)
 have o5:=o4.trans (Old.new (o:=.lst (bs.map V.str ++ xs.map V.str)) hl2)
 exact k l2 _ (S.old o5) o5 (by rw [ag,List.map_append]) ((S.old o4).ne hl2)
theorem St5.upd {H Hx:Hp} {d a wl nl D9:Addr} {ns:List Int} {ws bs:List Str} {b:Int} {o:HO} (S:St5 K H Hx d a wl nl ns ws bs b) (h0:H D9=none) (n1:d≠D9) (n2:wl≠D9) (n3:nl≠D9) (aD:a=D9→∀ H':Hp,SqL K H' a (ns.map V.int)):St5 K H (upd Hx D9 o) d a wl nl ns ws bs b:=by
 obtain ⟨i,c,D⟩:=S.D
 refine ⟨fun b o e n=>by rw [au (ap e h0)];exact S.g b o e n,⟨i,c,by rw [au n1];exact D.hd,?_,D.ne,by rw [au n2];exact D.hw,D.nw,D.i0,D.five⟩,by rw [au n3];exact S.nl⟩
 by_cases z:a=D9
 ·exact aD z _
 ·exact (Gr.put (M:=M1 D9) rfl).seq z D.ha
theorem mps_app {x:Str} {ns bs:List Str} {m:Nat} {t:Tk}:∀ {i:Nat} {ps:List Tk},Mps x ns bs m i ps→Mp t (bs ++ bnd x ns (i+ps.length)) m→Mps x ns bs m i (ps ++ [t])
 | _,[],_,h=>⟨h,trivial⟩
 | i,u :: r,g,h=>⟨g.1,mps_app (i:=i+1) (ps:=r) g.2 (by rw [show i+1+r.length=i+(u :: r).length by simp;omega];exact h)⟩
theorem tns_app:∀ (ps:List Tk) (t:Tk),Tn.ds (Tk.tns (ps ++ [t]))=Tn.ds (Tk.tns ps) ++ [t.tn.d]
 | [],t=>rfl
 | u :: r,t=>by show u.tn.d :: Tn.ds (Tk.tns (r ++ [t]))=u.tn.d :: (Tn.ds (Tk.tns r) ++ [t.tn.d]);rw [tns_app r t]
theorem aR:(K11.nf "let" = 1∧K11.nk "let" = 0∧K11.np "let" = 2)∧(K11.nf "as" = 0∧K11.nk "as" = 1∧K11.np "as" = 1)∧(K11.nf "self" = 2∧K11.nk "self" = 2∧K11.np "self" = 1)∧(K11.nf "if" = 0∧K11.nk "if" = 0∧K11.np "if" = 3)∧(K11.nf "do" = 1∧K11.nk "do" = 0∧K11.np "do" = 2)∧(K11.nf "row" = 0∧K11.nk "row" = 1):=by decide +kernel
theorem one_facts:∀ x∈(["size","one","two"]:List Str),(x∈K11.words∧x≠"look"∧x≠"name")∧K11.nf x=0∧K11.nk x=0∧K11.np x=1∧x ∉ dQ∧x≠"do"∧x≠"fn"∧x≠"self"∧x≠"let"∧x≠"row":=by decide +kernel
theorem two_facts:∀ x∈(["call","call","at","pair"]:List Str),(x∈K11.words∧x≠"look"∧x≠"name")∧K11.nf x=0∧K11.nk x=0∧K11.np x=2∧x ∉ dQ∧x≠"do"∧x≠"fn"∧x≠"self"∧x≠"let"∧x≠"row":=by decide +kernel
theorem ok_any {m:Nat} (F:Fun K "_law_any" "_law_any" sAny f fd) (T:Tx mg) (c_next:Cal P w K mg base "_law_next" ["_law_deal"] 1 (spNext K)) (c_place:Cal P w K mg base "_law_place" ["_law_deal"] 1 (gX K)) (c_leaf:Cal P w K mg base "_law_leaf" ["_law_deal","_law_names_here","_law_cell"] 2 (spLeaf K)) (c_kind:Cal P w K mg base "_law_kind" ["_law_cell"] 1 (kl K)) (c_any:Cal P w K mg base "_law_any" ["_law_deal","_law_names_here","_law_room"] (m+2) (dR K m)) :
 aY P w K mg base CX0 (m+3) f fd ["_law_deal","_law_names_here","_law_room"] (dR K (m+1)):=by
 refine F.ok scAny (fun vs H Q E h=>?_) (fun cdv A outer s H vs Q E hr h=>?_)
 ·obtain ⟨d,a,wl,nl,ns,ws,bs,i,b,c,r,rfl,_⟩:=h
  rfl
 obtain ⟨d,a,wl,nl,ns,ws,bs,i,b,c,r,rfl,D,hnl,nd1,few,r1,rm,q⟩:=h
 have nd:=scAny.nd
 refine' ⟨_,?n0,?Z⟩
 case' n0=>refine' ae ?N1 ?N2
 case N1=>exact aA (i:=3) nd rfl (Or.inl rfl) rfl (by first | exact .inl rfl | exact .inr rfl) (az c_next hr (pa (pv 0) ad))
 case' N2=>refine' ae ?N3 ?N4
 case' N3=>refine' aC ?N5 ?N6 aq
 case' N5=>refine' PW.pt ?N7
 case' N7=>refine' bV (ak op_lt (pv 2) ac (am _)) ?N8
 case N8=>exact bR (ak (ax hr) (aE bh (pv 3) ac) ac (am _))
 case' N6=>refine' ah ?N9
 case N9=>exact ao (az c_leaf hr (pa (pv 0) (pa (pv 1) (pa (aE bg (pv 3) ac) ad))))
 case' N4=>refine' ae ?Na ?Nb
 case Na=>exact aA (i:=4) nd rfl (Or.inl rfl) rfl (by first | exact .inl rfl | exact .inr rfl) (az c_place hr (pa (pv 0) ad))
 case' Nb=>refine' ae ?Nc ?Nd
 case Nc=>exact aA (i:=5) nd rfl (Or.inl rfl) rfl (by first | exact .inl rfl | exact .inr rfl) (aE bh (aE bg (pv 3) ac) ac)
 case' Nd=>refine' ae ?Ne ?Nf
 case Ne=>exact aA (i:=3) nd rfl (Or.inl rfl) rfl (by first | exact .inl rfl | exact .inr rfl) (aE bg (pv 3) ac)
 case' Nf=>refine' ae ?Ng ?Nh
 case' Ng=>refine' aA (i:=6) nd rfl (Or.inl rfl) rfl (by first | exact .inl rfl | exact .inr rfl) ?Ni
 case' Ni=>refine' al (show IxR _ (rIx K) from ai) ?Nj (aE bh (pv 3) ac) (fun _ _=>rfl)
 case Nj=>exact al (show IxR _ (rIx K) from ai) (pv 0) ac (fun _ _=>rfl)
 case' Nh=>refine' ae ?Nk ?Nl
 case' Nk=>refine' aC (ak (ax hr) (pv 5) ac (am _)) ?Nm aq
 case' Nm=>refine' ah ?Nn
 case Nn=>exact ao (ay (pa aj (pa (pv 4) (pa (pv 6) (pa (az c_kind hr (pa (aE bg (pv 3) ac) ad)) (pa (az c_any hr (pa (pv 0) (pa (aE bo (pv 1) (bt (pa (pv 6) ad))) (pa (aE cw (pv 2) ac) ad)))) ad))))))
 case' Nl=>refine' ae ?No ?Np
 case' No=>refine' aC (ak (ax hr) (pv 5) ac (am _)) ?Nq aq
 case' Nq=>refine' ae ?Nr ?Ns
 case' Nr=>refine' aA (i:=7) nd rfl (Or.inl rfl) rfl (by first | exact .inl rfl | exact .inr rfl) ?Nt
 case' Nt=>refine' al (show IxR _ (rIx K) from ai) ?Nu (aE bh (aE bg (pv 3) ac) ac) (fun _ _=>rfl)
 case Nu=>exact al (show IxR _ (rIx K) from ai) (pv 0) ac (fun _ _=>rfl)
 case' Ns=>refine' ae ?Nv ?Nw
 case Nv=>exact aA (i:=8) nd rfl (Or.inl rfl) rfl (by first | exact .inl rfl | exact .inr rfl) (az c_any hr (pa (pv 0) (pa (aE bo (pv 1) (bt (pa (pv 7) (pa (pv 6) ad)))) (pa (aE cw (pv 2) ac) ad))))
 case' Nw=>refine' ah ?Nx
 case Nx=>exact ao (ay (pa aj (pa (pv 4) (pa (pv 7) (pa (pv 6) (pa (az c_kind hr (pa (aE bg (pv 3) ac) ad)) (pa (az c_kind hr (pa (aE bg (pv 3) ac) ad)) (pa (pv 8) ad))))))))
 case' Np=>refine' ae ?Ny ?Nz
 case' Ny=>refine' aC (ak (ax hr) (pv 5) ac (am _)) ?N10 aq
 case' N10=>refine' ae ?N11 ?N12
 case N11=>exact aA (i:=9) nd rfl (Or.inl rfl) rfl (by first | exact .inl rfl | exact .inr rfl) (az c_any hr (pa (pv 0) (pa (pv 1) (pa (aE cw (pv 2) ac) ad))))
 case' N12=>refine' ah ?N13
 case N13=>exact ao (ay (pa aj (pa (pv 4) (pa (pv 6) (pa (pv 9) (pa (az c_any hr (pa (pv 0) (pa (aE bo (pv 1) (bt (pa (pv 6) ad))) (pa (aE cw (pv 2) ac) ad)))) ad))))))
 case' Nz=>refine' ae ?N14 ?N15
 case' N14=>refine' aC (ak (ax hr) (pv 5) ac (am _)) ?N16 aq
 case' N16=>refine' ae ?N17 ?N18
 case' N17=>refine' ps_lc (te:=tCall (dR K m) [] E0 (dF (cV 1) (dF (cV 2) (dF (tOp (rI0 fun i j=>.int (i - j)) (cV 3) (tC (.int 1))) ko)))) (i:=10) (k:=1) (N:=["_law_k","_law_deal","_law_names_here","_law_room","_law_cell","_law_place_here","_law_way","_law_word","_law_own_here","_law_inner","_law_one","_law_items","_law_two"]) (eD rfl rfl rfl rfl rfl rfl) rfl nd rfl (Or.inl rfl) ?N19 (fun _ _ _ _=>?N1a) (fun _ _ _ _=>?N1b) (fun _ _ _ _=>?N1c)
 case N19=>exact dh rfl T.range (pa (aE bh (pv 3) ac) ad)
 case N1a=>exact aZ (i:=0) (by show List.Nodup (["_law_k","_law_deal","_law_names_here","_law_room","_law_cell","_law_place_here","_law_way","_law_word","_law_own_here","_law_inner","_law_one","_law_items","_law_two"]:List Str);decide +kernel) rfl (Or.inl rfl)
 case N1b=>exact cK
 case N1c=>exact az c_any hr (pa (pv 1) (pa (pv 2) (pa (aE cw (pv 3) ac) ad)))
 case' N18=>refine' ah ?N1d
 case N1d=>exact ao (ay (pa aj (pa (pv 4) (pa (az c_kind hr (pa (aE bg (pv 3) ac) ad)) (pa (bI (cN) rfl T.tuple boot_tuple (pa (pv 10) ad)) ad)))))
 case' N15=>refine' ae ?N1e ?N1f
 case' N1e=>refine' aC (ak (ax hr) (pv 5) ac (am _)) ?N1g aq
 case' N1g=>refine' ah ?N1h
 case N1h=>exact ao (ay (pa aj (pa (pv 4) (pa (az c_kind hr (pa (pv 3) ad)) (pa (az c_any hr (pa (pv 0) (pa (pv 1) (pa (aE cw (pv 2) ac) ad)))) ad)))))
 case' N1f=>refine' ae ?N1i ?N1j
 case' N1i=>refine' aC (ak op_lt (pv 5) ac (am _)) ?N1k aq
 case' N1k=>refine' ah ?N1l
 case' N1l=>refine' ao ?N1m
 case' N1m=>refine' ay ?N1n
 case' N1n=>refine' pa ?N1o (pa (pv 4) (pa (az c_any hr (pa (pv 0) (pa (pv 1) (pa (aE cw (pv 2) ac) ad)))) ad))
 case N1o=>exact al (show IxR _ (rIx K) from ai) (bt (pa aj (pa aj (pa aj ad)))) (aE cw (pv 5) ac) (fun _ _=>rfl)
 case' N1j=>refine' ae ?N1p ?N1q
 case N1p=>exact aA (i:=9) nd rfl (Or.inl rfl) rfl (by first | exact .inl rfl | exact .inr rfl) (az c_any hr (pa (pv 0) (pa (pv 1) (pa (aE cw (pv 2) ac) ad))))
 case' N1q=>refine' ae ?N1r ?N1s
 case N1r=>exact aA (i:=11) nd rfl (Or.inl rfl) rfl (by first | exact .inl rfl | exact .inr rfl) (az c_any hr (pa (pv 0) (pa (pv 1) (pa (aE cw (pv 2) ac) ad))))
 case' N1s=>refine' ae ?N1t ?N1u
 case' N1t=>refine' aC (ak (ax hr) (pv 5) ac (am _)) ?N1v aq
 case' N1v=>refine' ah ?N1w
 case N1w=>exact ao (ay (pa aj (pa (pv 4) (pa (pv 9) (pa (pv 11) (pa (az c_any hr (pa (pv 0) (pa (pv 1) (pa (aE cw (pv 2) ac) ad)))) ad))))))
 case' N1u=>refine' ae ?N1x ?N1y
 case' N1x=>refine' aC (ak (ax hr) (pv 5) ac (am _)) ?N1z aq
 case' N1z=>refine' ah ?N20
 case' N20=>refine' ao ?N21
 case' N21=>refine' ay ?N22
 case' N22=>refine' pa aj ?N23
 case' N23=>refine' pa (pv 4) ?N24
 case' N24=>refine' pa ?N25 (pa (pv 9) (pa (pv 11) ad))
 case N25=>exact al (show IxR _ (rIx K) from ai) aj (aE bh (pv 3) ac) (fun _ _=>rfl)
 case' N1y=>refine' ah ?N26
 case' N26=>refine' ao ?N27
 case' N27=>refine' ay ?N28
 case' N28=>refine' pa ?N29 (pa (pv 4) (pa (pv 9) (pa (pv 11) ad)))
 case N29=>exact al (show IxR _ (rIx K) from ai) (bt (pa aj (pa aj (pa aj (pa aj ad))))) (aE bh (aE bo (pv 5) (pv 3)) ac) (fun _ _=>rfl)
 refine ⟨_,rfl,d,a,wl,ns,ws,i,b,c,rfl,D,fun cell cell0=>?_⟩
 have D1:=D.put (i':=i+1) (c':=c) (by have:=D.i0;omega)
 have g1:Gr (M1 d) H (upd H d (.lst [.ref a,.int (i+1),.int b,.int c,.ref wl])):=Gr.put rfl
 have hn1:upd H d (.lst [.ref a,.int (i+1),.int b,.int c,.ref wl]) nl=some (.lst (bs.map V.str)):=by rw [au nd1];exact hnl
 generalize upd H d (.lst [.ref a,.int (i+1),.int b,.int c,.ref wl])=H1 at D1 g1 hn1 ⊢
 dsimp only [bH]
 refine bb ((r:Int)<2∨cell % 5=3) (fun R hR=>df _ _ hR (fun R hR=>⟨_,rfl,_,_,rfl,rfl,_,rfl,hR⟩) fun R hR=>⟨_,rfl,_,_,rfl,rfl,(by show (0:Int)<5;decide),.inr (.inl ⟨rfl,_,rfl,by rw [cF];exact hR⟩)⟩) (fun cc=>?_) (fun cc=>?_)
 ·refine ⟨_,rfl,_,rfl,_,rfl,_,_,rfl,rfl,.inl ⟨by decide,by decide⟩,d,a,wl,nl,ns,ws,bs,_,b,c,_,rfl,D1,hn1,nd1,by omega,fun t v H' g' D' M=>?_⟩
  exact q t v H' _ _ (g1.trans g') D' (M.up r1)
 have r2:2≤r:=by
  have:¬ (r:Int)<2:=fun z=>cc (.inl z)
  omega
 have c5:¬ cell % 5=3:=fun z=>cc (.inr z)
 refine ⟨_,rfl,d,a,wl,ns,ws,_,b,c,rfl,D1,fun p p0 p1=>?_⟩
 have D2:=D1.put (i':=i+1) (c':=c+1) D1.i0
 have g2:Gr (M1 d) H (upd H1 d (.lst [.ref a,.int (i+1),.int b,.int (c+1),.ref wl])):=g1.trans (Gr.put rfl)
 have hn2:upd H1 d (.lst [.ref a,.int (i+1),.int b,.int (c+1),.ref wl]) nl=some (.lst (bs.map V.str)):=by rw [au nd1];exact hn1
 generalize upd H1 d (.lst [.ref a,.int (i+1),.int b,.int (c+1),.ref wl])=H2 at D2 g2 hn2 ⊢
 have S2:St5 K H H2 d a wl nl ns ws bs b:=⟨g2,⟨_,_,D2⟩,hn2⟩
 refine ⟨_,rfl,_,_,rfl,rfl,.inl ⟨by decide,by decide⟩,_,_,rfl,rfl,(by show (0:Int)<13;decide),?_⟩
 have way0:0≤cell / 5 % 13:=Int.emod_nonneg _ (by decide)
 have way1:cell / 5 % 13<13:=Int.emod_lt_of_pos _ (by decide)
 refine ⟨_,rfl,_,_,rfl,rfl,.inl ⟨by decide,by decide⟩,?_⟩
 have l5:((ws.length:Nat):Int)=5:=by rw [D2.five];rfl
 obtain ⟨wd,ewd,_⟩:=dI (ss:=ws) (i:=cell / 65 % 5) (Int.emod_nonneg _ (by decide)) (by rw [l5];exact Int.emod_lt_of_pos _ (by decide))
 obtain ⟨wo,ewo,_⟩:=dI (ss:=ws) (i:=cell / 65 / 5 % 5) (Int.emod_nonneg _ (by decide)) (by rw [l5];exact Int.emod_lt_of_pos _ (by decide))
 refine ⟨_,rfl,.inl ⟨d,_,4,.ref wl,rfl,rfl,SqL.of D2.hd,Dl.i4,_,rfl,_,_,rfl,rfl,(by show (0:Int)<5;decide),.inl ⟨wl,_,_,.str wd,rfl,rfl,SqL.of D2.hw,ewd,?_⟩⟩⟩
 have fin:∀ (t:Tk) (v:V) (Hy:Hp),St5 K H Hy d a wl nl ns ws bs b→Mt K Hy v t bs (r - 1+1)→Q v Hy:=fun t v Hy S M=>by
  obtain ⟨i',c',D'⟩:=S.D
  rw [show r - 1+1=r by omega] at M
  exact q t v Hy i' c' S.g D' M
 dsimp only [bH]
 refine bb (cell / 5 % 13=0) (fun R hR=>⟨_,rfl,.inr (.inl ⟨rfl,_,rfl,by rw [cF];exact hR⟩)⟩) (fun _=>?_) (fun w0=>?_)
 ·refine ⟨_,rfl,_,rfl,_,rfl,_,_,rfl,rfl,.inl ⟨by decide,by decide⟩,_,rfl,fun k kv H3 rk gk o3=>?_⟩
  have S3:=S2.old o3
  refine ⟨_,rfl,_,rfl,_,rfl,by show 1≤sizeLine;decide,fun l1 hl1=>S3.cat (xs:=[wd]) hl1 (by show bs.length+1≤200;omega) fun l2 H5 S5 o5 hl2' nl2=>?_⟩
  have rk5:=rk.mono o5.tm
  refine ⟨_,rfl,_,_,rfl,rfl,S5.call (E:=E0) nd1 hl2' nl2 (by rw [List.length_append];show bs.length+1+2 * (r - 1)≤100;omega) r2 rm fun t v Hy S6 tm6 M=>⟨by show 5≤sizeLine;decide,fun q1 hq1=>?_⟩⟩
  have o7:=Old.new (o:=.tup [.str "fn",.int p,.str wd,kv,v]) hq1
  refine fin (.mk "fn" p [.str wd] [k] [t]) _ _ (S6.old o7) (cj ⟨by decide +kernel,by decide +kernel,by decide +kernel⟩ bC.1.symm bC.2.1.symm (fun _=>de.2.2.2.2.1.symm) (by show 1≤4;decide) (fun _=>⟨[wd],rfl⟩) p0 (by omega) (fun e he=>by rw [List.mem_singleton.mp he];rfl) (fun e he=>by rw [List.mem_singleton.mp he];exact gk) (fun z=>absurd z (by decide +kernel)) ⟨M.mp,trivial⟩ ?_)
  exact RK.tup (.of ag) (.cons (.s _) (.cons (.i _) (.cons (.s _) (.cons ((rk5.mono tm6).mono o7.tm) (.cons (M.r.mono o7.tm) .nil)))))
 refine bb (cell / 5 % 13=1) (fun R hR=>⟨_,rfl,.inr (.inl ⟨rfl,_,rfl,by rw [cF];exact hR⟩)⟩) (fun _=>?_) (fun w1=>?_)
 ·refine ⟨_,rfl,.inl ⟨d,_,4,.ref wl,rfl,rfl,SqL.of D2.hd,Dl.i4,_,rfl,_,_,rfl,rfl,.inl ⟨by decide,by decide⟩,_,_,rfl,rfl,(by show (0:Int)<5;decide),.inl ⟨wl,_,_,.str wo,rfl,rfl,SqL.of D2.hw,ewo,?_⟩⟩⟩
  refine ⟨_,rfl,_,rfl,_,rfl,_,rfl,by show 2≤sizeLine;decide,fun l1 hl1=>S2.cat (xs:=[wo,wd]) hl1 (by show bs.length+2≤200;omega) fun l2 H5 S5 o5 hl2' nl2=>?_⟩
  refine ⟨_,rfl,_,_,rfl,rfl,S5.call (E:=E0) nd1 hl2' nl2 (by rw [List.length_append];show bs.length+2+2 * (r - 1)≤100;omega) r2 rm fun t v Hy S6 tm6 M=>?_⟩
  refine ⟨_,rfl,_,rfl,_,rfl,_,rfl,_,_,rfl,rfl,.inl ⟨by decide,by decide⟩,_,rfl,fun k kv H7 rk gk o7=>?_⟩
  refine ⟨_,rfl,_,_,rfl,rfl,.inl ⟨by decide,by decide⟩,_,rfl,fun k' kv' H8 rk' gk' o8=>?_⟩
  refine ⟨_,rfl,by show 7≤sizeLine;decide,fun q1 hq1=>?_⟩
  have o9:=Old.new (o:=.tup [.str "self",.int p,.str wo,.str wd,kv,kv',v]) hq1
  refine fin (.mk "self" p [.str wo,.str wd] [k,k'] [t]) _ _ (((S6.old o7).old o8).old o9) (cj ⟨by decide +kernel,by decide +kernel,by decide +kernel⟩ aR.2.2.1.1.symm aR.2.2.1.2.1.symm (fun _=>aR.2.2.1.2.2.symm) (by show 1≤4;decide) (fun _=>⟨[wo,wd],rfl⟩) p0 (by omega) (fun e he=>by
   rcases List.mem_cons.mp he with rfl | he
   ·rfl
   ·rw [List.mem_singleton.mp he];rfl) (fun e he=>by
   rcases List.mem_cons.mp he with rfl | he
   ·exact gk
   ·rw [List.mem_singleton.mp he];exact gk') (fun z=>absurd z (by decide +kernel)) ⟨M.mp,trivial⟩ ?_)
  exact RK.tup (.of ag) (.cons (.s _) (.cons (.i _) (.cons (.s _) (.cons (.s _) (.cons ((rk.mono o8.tm).mono o9.tm) (.cons (rk'.mono o9.tm) (.cons (((M.r.mono o7.tm).mono o8.tm).mono o9.tm) .nil)))))))
 refine bb (cell / 5 % 13=2) (fun R hR=>⟨_,rfl,.inr (.inl ⟨rfl,_,rfl,by rw [cF];exact hR⟩)⟩) (fun _=>?_) (fun w2=>?_)
 ·refine ⟨_,rfl,_,rfl,_,rfl,_,_,rfl,rfl,S2.call (E:=E0) nd1 S2.nl nd1 (by omega) r2 rm fun t v H5 S5 tm5 M=>?_⟩
  refine ⟨_,rfl,_,rfl,_,rfl,_,rfl,_,rfl,_,rfl,by show 1≤sizeLine;decide,fun l1 hl1=>S5.cat (xs:=[wd]) hl1 (by show bs.length+1≤200;omega) fun l2 H6 S6 o6 hl2' nl2=>?_⟩
  refine ⟨_,rfl,_,_,rfl,rfl,S6.call (E:=E0) nd1 hl2' nl2 (by rw [List.length_append];show bs.length+1+2 * (r - 1)≤100;omega) r2 rm fun t' v' Hy S7 tm7 M'=>⟨by show 5≤sizeLine;decide,fun q1 hq1=>?_⟩⟩
  have o8:=Old.new (o:=.tup [.str "let",.int p,.str wd,v,v']) hq1
  refine fin (.mk "let" p [.str wd] [] [t,t']) _ _ (S7.old o8) (cj ⟨by decide +kernel,by decide +kernel,by decide +kernel⟩ aR.1.1.symm aR.1.2.1.symm (fun _=>aR.1.2.2.symm) (by show 2≤4;decide) (fun _=>⟨[wd],rfl⟩) p0 (by omega) (fun e he=>by rw [List.mem_singleton.mp he];rfl) (fun e he=>nomatch he) (fun z=>absurd z (by decide +kernel)) ⟨M.mp.more (by show bs=bs ++ [];rw [List.append_nil]),M'.mp,trivial⟩ ?_)
  exact RK.tup (.of ag) (.cons (.s _) (.cons (.i _) (.cons (.s _) (.cons (((M.r.mono o6.tm).mono tm7).mono o8.tm) (.cons (M'.r.mono o8.tm) .nil)))))
 refine bb (cell / 5 % 13=3) (fun R hR=>⟨_,rfl,.inr (.inl ⟨rfl,_,rfl,by rw [cF];exact hR⟩)⟩) (fun _=>?_) (fun w3=>?_)
 ·obtain ⟨ky,eky,ky4⟩:∃ ky:Nat,cell / 65 % 5=(ky:Int)∧ky≤4:=by
   have b0:0≤cell / 65 % 5:=Int.emod_nonneg _ (by decide)
   have b1:cell / 65 % 5<5:=Int.emod_lt_of_pos _ (by decide)
   exact ⟨(cell / 65 % 5).toNat,by omega,by omega⟩
  refine ⟨_,rfl,_,_,rfl,rfl,(by show (0:Int)<5;decide),ky,by show [V.int (cell / 65 % 5)]=_;rw [eky],by omega,by omega,fun D9 hD9=>?_⟩
  have n1:d≠D9:=fun z=>by rw [← z,D2.hd] at hD9;cases hD9
  have n2:wl≠D9:=fun z=>by rw [← z,D2.hw] at hD9;cases hD9
  have n3:nl≠D9:=fun z=>by rw [← z,hn2] at hD9;cases hD9
  have h0:H D9=none:=g2.free hD9 (fun z=>n1 z.symm)
  have aD:a=D9→∀ H':Hp,SqL K H' a (ns.map V.int):=fun z H'=>by
   rcases D2.ha with h | h
   ·rcases h with h | ⟨o,h⟩
    ·rw [z,hD9] at h;cases h
    ·rw [z,hD9] at h;cases h
   ·exact .inr h
  refine dO (n:=ky) (fun j σ H6=>∃ (k1:Option V) (ts:List Tk) (tv:List V),σ = [k1,some (.ref d),some (.ref nl),some (.int (r:Int)),some (.int (cell / 65)),some (.int p),some (.int (cell / 5 % 13)),some (.str wd),none,none,none,none,none]∧St5 K H H6 d a wl nl ns ws bs b∧H6 D9=some (.lst tv)∧RKs K H6 (Tn.ds (Tk.tns ts)) tv∧ts.length=j∧Mps "row" [] bs (r - 1) 0 ts) ⟨none,[],[],rfl,S2.old (Old.new hD9),ag,.nil,rfl,trivial⟩ ?_ ?_ ?_ ?_
  ·intro j σ H6 hj hv
   exact hj
  ·intro σ H6 hv
   exact Nat.le_refl _
  ·intro j σ H6 hj hv y H7 hy
   obtain ⟨k1,ts,tv,rfl,S6,hD6,rts,lts,Ms⟩:=hv
   obtain ⟨rfl,rfl⟩:=hy
   refine ⟨_,rfl,_,rfl,_,rfl,_,_,rfl,rfl,S6.callG (E:=E0) nd1 S6.nl nd1 (by omega) r2 rm fun t v H8 S8 g8 tm8 M8=>?_⟩
   have hD8:H8 D9=some (.lst tv):=g8 _ _ hD6 (fun z=>n1 z.symm)
   have ltv:=rts.length
   rw [b8,aM] at ltv
   have tm9:Tm H8 (upd H8 D9 (.lst (tv ++ [v]))):=(Gr.put (M:=M1 D9) rfl).tm1 hD8
   refine ⟨_,hD8,bE (by omega),nx hj ⟨_,ts ++ [t],tv ++ [v],rfl,S8.upd h0 n1 n2 n3 aD,ag,?_,by rw [List.length_append,lts];rfl,mps_app Ms (M8.mp.more (cD (by decide +kernel) (by decide +kernel) (by decide +kernel) bs))⟩⟩
   rw [tns_app]
   exact ((rts.mono tm8).mono tm9).append (.cons (M8.r.mono tm9) .nil)
  ·intro σ H6 hv
   obtain ⟨k1,ts,tv,rfl,S6,hD6,rts,lts,Ms⟩:=hv
   refine ⟨_,rfl,_,rfl,_,_,rfl,rfl,.inl ⟨by decide,by decide⟩,_,rfl,fun k kv H7 rk gk o7=>?_⟩
   have S7:=S6.old o7
   refine ⟨_,rfl,D9,tv,rfl,.inl ⟨SqL.of (o7 _ _ hD6),fun na hna=>?_⟩⟩
   have o8:=Old.new (o:=.tup tv) hna
   refine ⟨by show 4≤sizeLine;decide,fun q1 hq1=>?_⟩
   have o9:=Old.new (o:=.tup [.str "row",.int p,kv,.ref na]) hq1
   refine fin (.mk "row" p [] [k] ts) _ _ ((S7.old o8).old o9) (cj ⟨by decide +kernel,by decide +kernel,by decide +kernel⟩ aR.2.2.2.2.2.1.symm aR.2.2.2.2.2.2.symm (fun z=>absurd rfl z) (by omega) (fun z=>absurd z (by decide +kernel)) p0 (by omega) (fun e he=>nomatch he) (fun e he=>by rw [List.mem_singleton.mp he];exact gk) (fun z=>absurd z (by decide +kernel)) Ms ?_)
   exact RK.tup (.of ag) (.cons (.s _) (.cons (.i _) (.cons ((rk.mono o8.tm).mono o9.tm) (.cons (RK.tup (.of (o9 _ _ ag)) (((rts.mono o7.tm).mono o8.tm).mono o9.tm)) .nil))))
 refine bb (cell / 5 % 13=4) (fun R hR=>⟨_,rfl,.inr (.inl ⟨rfl,_,rfl,by rw [cF];exact hR⟩)⟩) (fun _=>?_) (fun w4=>?_)
 ·refine ⟨_,rfl,_,rfl,_,rfl,fun k kv H3 rk gk o3=>?_⟩
  have S3:=S2.old o3
  refine ⟨_,rfl,_,rfl,_,rfl,_,_,rfl,rfl,S3.call (E:=E0) nd1 S3.nl nd1 (by omega) r2 rm fun t v Hy S6 tm6 M=>⟨by show 4≤sizeLine;decide,fun q1 hq1=>?_⟩⟩
  have o7:=Old.new (o:=.tup [.str "as",.int p,kv,v]) hq1
  refine fin (.mk "as" p [] [k] [t]) _ _ (S6.old o7) (cj ⟨by decide +kernel,by decide +kernel,by decide +kernel⟩ aR.2.1.1.symm aR.2.1.2.1.symm (fun _=>aR.2.1.2.2.symm) (by show 1≤4;decide) (fun z=>absurd z (by decide +kernel)) p0 (by omega) (fun e he=>nomatch he) (fun e he=>by rw [List.mem_singleton.mp he];exact gk) (fun z=>absurd z (by decide +kernel)) ⟨M.mp.more (cD (by decide +kernel) (by decide +kernel) (by decide +kernel) bs),trivial⟩ ?_)
  exact RK.tup (.of ag) (.cons (.s _) (.cons (.i _) (.cons ((rk.mono tm6).mono o7.tm) (.cons (M.r.mono o7.tm) .nil))))
 refine bb (cell / 5 % 13<8) (fun R hR=>⟨_,rfl,_,_,rfl,rfl,_,rfl,hR⟩) (fun w7=>?_) (fun w7=>?_)
 ·refine ⟨by show 3≤sizeLine;decide,fun l3 hl3=>?_⟩
  have o3:=Old.new (o:=.lst [.str "size",.str "one",.str "two"]) hl3
  have hl3':upd H2 l3 (.lst [.str "size",.str "one",.str "two"]) l3=some (.lst ((["size","one","two"]:List Str).map V.str)):=ag
  generalize upd H2 l3 (.lst [.str "size",.str "one",.str "two"])=H3 at o3 hl3' ⊢
  have S3:=S2.old o3
  obtain ⟨x,ex,hx⟩:=dI (ss:=["size","one","two"]) (i:=cell / 5 % 13 - 5) (by omega) (by show cell / 5 % 13 - 5<3;omega)
  obtain ⟨y1,y2,y3,y4,y5,y6,y7,y8,y9,y10⟩:=one_facts x hx
  refine ⟨_,rfl,_,_,rfl,rfl,.inl ⟨l3,_,_,.str x,rfl,rfl,SqL.of hl3',ex,?_⟩⟩
  refine ⟨_,rfl,_,rfl,_,rfl,_,rfl,_,_,rfl,rfl,S3.call (E:=E0) nd1 S3.nl nd1 (by omega) r2 rm fun t v Hy S6 tm6 M=>⟨by show 3≤sizeLine;decide,fun q1 hq1=>?_⟩⟩
  have o7:=Old.new (o:=.tup [.str x,.int p,v]) hq1
  refine fin (.mk x p [] [] [t]) _ _ (S6.old o7) (cj y1 y2.symm y3.symm (fun _=>y4.symm) (by show 1≤4;decide) (fun z=>absurd z y5) p0 (by omega) (fun e he=>nomatch he) (fun e he=>nomatch he) (fun z=>absurd z y6) ⟨M.mp.more (cD y7 y8 y9 bs),trivial⟩ ?_)
  show RK K _ (.tup (.str x :: .int p :: ([] ++ [] ++ (if x = "row" then [.tup [t.tn.d]] else [t.tn.d])))) _
  rw [if_neg y10]
  exact RK.tup (.of ag) (.cons (.s _) (.cons (.i _) (.cons (M.r.mono o7.tm) .nil)))
 refine ⟨_,rfl,_,rfl,_,rfl,_,_,rfl,rfl,S2.call (E:=E0) nd1 S2.nl nd1 (by omega) r2 rm fun ta va H3 S3 tm3 Ma=>?_⟩
 refine ⟨_,rfl,_,rfl,_,rfl,_,_,rfl,rfl,S3.call (E:=E0) nd1 S3.nl nd1 (by omega) r2 rm fun tb vb H4 S4 tm4 Mb=>?_⟩
 have Ma4:=Ma.tm tm4
 dsimp only [bH]
 refine bb (cell / 5 % 13=8) (fun R hR=>⟨_,rfl,.inr (.inl ⟨rfl,_,rfl,by rw [cF];exact hR⟩)⟩) (fun _=>?_) (fun w8=>?_)
 ·refine ⟨_,rfl,_,rfl,_,rfl,_,rfl,_,rfl,_,rfl,_,_,rfl,rfl,S4.call (E:=E0) nd1 S4.nl nd1 (by omega) r2 rm fun t v Hy S6 tm6 M=>⟨by show 5≤sizeLine;decide,fun q1 hq1=>?_⟩⟩
  have o7:=Old.new (o:=.tup [.str "if",.int p,va,vb,v]) hq1
  have bn:∀ i,bs=bs ++ bnd "if" (txs []) i:=fun i=>cD (by decide +kernel) (by decide +kernel) (by decide +kernel) bs
  refine fin (.mk "if" p [] [] [ta,tb,t]) _ _ (S6.old o7) (cj ⟨by decide +kernel,by decide +kernel,by decide +kernel⟩ aR.2.2.2.1.1.symm aR.2.2.2.1.2.1.symm (fun _=>aR.2.2.2.1.2.2.symm) (by show 3≤4;decide) (fun z=>absurd z (by decide +kernel)) p0 (by omega) (fun e he=>nomatch he) (fun e he=>nomatch he) (fun z=>absurd z (by decide +kernel)) ⟨Ma.mp.more (bn _),Mb.mp.more (bn _),M.mp.more (bn _),trivial⟩ ?_)
  exact RK.tup (.of ag) (.cons (.s _) (.cons (.i _) (.cons ((Ma4.r.mono tm6).mono o7.tm) (.cons ((Mb.r.mono tm6).mono o7.tm) (.cons (M.r.mono o7.tm) .nil)))))
 refine bb (cell / 5 % 13=9) (fun R hR=>⟨_,rfl,.inr (.inl ⟨rfl,_,rfl,by rw [cF];exact hR⟩)⟩) (fun _=>?_) (fun w9=>?_)
 ·have k50:0≤cell / 65 % 5:=Int.emod_nonneg _ (by decide)
  have k51:cell / 65 % 5<5:=Int.emod_lt_of_pos _ (by decide)
  obtain ⟨ch,ec,_⟩:=jQ (xs:=(("+-*<=":Str)).cps.toList) k50 (by exact k51)
  refine ⟨_,rfl,_,rfl,_,_,rfl,rfl,(by show (0:Int)<5;decide),.inr (.inr ⟨_,_,ch,rfl,rfl,by decide +kernel,ec,_,rfl,_,rfl,by show 5≤sizeLine;decide,fun q1 hq1=>?_⟩)⟩
  have o7:=Old.new (o:=.tup [.str "do",.int p,.str ⟨#[ch]⟩,va,vb]) hq1
  have bn:∀ i,bs=bs ++ bnd "do" (txs [.str ⟨#[ch]⟩]) i:=fun i=>cD (by decide +kernel) (by decide +kernel) (by decide +kernel) bs
  refine fin (.mk "do" p [.str ⟨#[ch]⟩] [] [ta,tb]) _ _ (S4.old o7) (cj ⟨by decide +kernel,by decide +kernel,by decide +kernel⟩ aR.2.2.2.2.1.1.symm aR.2.2.2.2.1.2.1.symm (fun _=>aR.2.2.2.2.1.2.2.symm) (by show 2≤4;decide) (fun z=>absurd z (by decide +kernel)) p0 (by omega) (fun e he=>by rw [List.mem_singleton.mp he];rfl) (fun e he=>nomatch he) (fun _=>⟨_,rfl⟩) ⟨Ma.mp.more (bn _),Mb.mp.more (bn _),trivial⟩ ?_)
  exact RK.tup (.of ag) (.cons (.s _) (.cons (.i _) (.cons (.s _) (.cons (Ma4.r.mono o7.tm) (.cons (Mb.r.mono o7.tm) .nil)))))
 refine ⟨by show 4≤sizeLine;decide,fun l3 hl3=>?_⟩
 have o5:=Old.new (o:=.lst [.str "call",.str "call",.str "at",.str "pair"]) hl3
 have hl3':upd H4 l3 (.lst [.str "call",.str "call",.str "at",.str "pair"]) l3=some (.lst ((["call","call","at","pair"]:List Str).map V.str)):=ag
 generalize upd H4 l3 (.lst [.str "call",.str "call",.str "at",.str "pair"])=H5 at o5 hl3' ⊢
 obtain ⟨x,ex,hx⟩:=dI (ss:=["call","call","at","pair"]) (i:=(cell / 5 % 13+cell / 65) % 4) (Int.emod_nonneg _ (by decide)) (Int.emod_lt_of_pos _ (by decide))
 obtain ⟨y1,y2,y3,y4,y5,y6,y7,y8,y9,y10⟩:=two_facts x hx
 refine ⟨_,rfl,_,rfl,.inr (.inl ⟨_,_,rfl,rfl,_,_,rfl,rfl,(by show (0:Int)<4;decide),.inl ⟨l3,_,_,.str x,rfl,rfl,SqL.of hl3',ex,_,rfl,_,rfl,_,rfl,by show 4≤sizeLine;decide,fun q1 hq1=>?_⟩⟩)⟩
 have o7:=Old.new (o:=.tup [.str x,.int p,va,vb]) hq1
 refine fin (.mk x p [] [] [ta,tb]) _ _ ((S4.old o5).old o7) (cj y1 y2.symm y3.symm (fun _=>y4.symm) (by show 2≤4;decide) (fun z=>absurd z y5) p0 (by omega) (fun e he=>nomatch he) (fun e he=>nomatch he) (fun z=>absurd z y6) ⟨Ma.mp.more (cD y7 y8 y9 bs),Mb.mp.more (cD y7 y8 y9 bs),trivial⟩ ?_)
 show RK K _ (.tup (.str x :: .int p :: ([] ++ [] ++ (if x = "row" then [.tup [ta.tn.d,tb.tn.d]] else [ta.tn.d,tb.tn.d])))) _
 rw [if_neg y10]
 exact RK.tup (.of ag) (.cons (.s _) (.cons (.i _) (.cons ((Ma4.r.mono o5.tm).mono o7.tm) (.cons ((Mb.r.mono o5.tm).mono o7.tm) .nil))))
end
end L2.K33
end
section
namespace L2.K33
open PySem PySem.Spec PyProof.Rows L2.Bw L2.Bk L2.Ex
theorem seq_at {ta u:TS} {D:eO} {σ:St} {H:Hp} (h:ta { D with nx:=u D } σ H):tSeq ta u D σ H:=h
section
variable {P:Program} {w:World} {K:W.Frag} {mg:Str→Option Value} {base:Heap} {f:Addr} {fd:FuncData}
abbrev sWds:Stmt:=top 47
def spWds (K:W.Frag):Sp:=fun vs H Q _=>∃ (cell:Int),vs = [.int cell]∧∀ (l:Addr) (ws:List Str) (H':Hp),Old H H'→H l=none→H' l=some (.lst (ws.map V.str))→ws.length=5→Q (.ref l) H'
theorem scWds:aF ["_law_cell","_law_letters","_law_base","_law_at","_law_words_here","_law_k","_law_word","_law_j"] ["_law_cell"] (aw sWds):=⟨rfl,rfl,rfl,by decide +kernel,rfl,by decide +kernel,by decide +kernel⟩
theorem ok_words {n:Nat} (F:Fun K "_law_words" "_law_words" sWds f fd) (T:Tx mg):aY P w K mg base CX0 (n+1) f fd ["_law_cell"] (spWds K):=by
 refine F.ok scWds (fun vs H Q E h=>?_) (fun cdv A outer s H vs Q E hr h=>?_)
 ·obtain ⟨cell,rfl,_⟩:=h
  rfl
 obtain ⟨cell,rfl,q⟩:=h
 have nd:=scWds.nd
 refine' ⟨_,?n0,?Z⟩
 case' n0=>refine' ae ?N1 ?N2
 case N1=>exact aA (i:=1) nd rfl (Or.inl rfl) rfl (by first | exact .inl rfl | exact .inr rfl) aj
 case' N2=>refine' ae ?N3 ?N4
 case' N3=>refine' ps_lc (te:=tOp (rI (fun _ j=>0<j) fun i j=>.int (i % j)) (tOp (jz K) (tOp (rI CDivG fun i j=>.int (i / j)) (cV 1) (tOp (jz K) (cV 0) (tC (.int 1)))) (tOp (rMulG K) (cV 0) (cV 0))) (tC (.int 26))) (i:=2) (k:=1) (N:=["_law_k","_law_cell","_law_letters","_law_base","_law_at","_law_words_here","!5","_law_word","_law_j"]) (eD rfl rfl rfl rfl rfl rfl) rfl nd rfl (Or.inl rfl) ?N5 (fun _ _ _ _=>?N6) (fun _ _ _ _=>?N7) (fun _ _ _ _=>?N8)
 case N5=>exact dh rfl T.range (pa (aE bo ac (aE bh (pv 0) ac)) ad)
 case N6=>exact aZ (i:=0) (by show List.Nodup (["_law_k","_law_cell","_law_letters","_law_base","_law_at","_law_words_here","!5","_law_word","_law_j"]:List Str);decide +kernel) rfl (Or.inl rfl)
 case N7=>exact cK
 case N8=>exact aE bh (aE bo (aE bg (pv 1) (aE bo (pv 0) ac)) (aE dA (pv 0) (pv 0))) ac
 case' N4=>refine' ae ?N9 ?Na
 case N9=>exact aA (i:=3) nd rfl (Or.inl rfl) rfl (by first | exact .inl rfl | exact .inr rfl) (aE bh (aE bg (pv 0) ac) (aQ (bd) rfl T.len boot_len (pa (pv 2) ad)))
 case' Na=>refine' ae ?Nb ?Nc
 case Nb=>exact aA (i:=4) nd rfl (Or.inl rfl) rfl (by first | exact .inl rfl | exact .inr rfl) (bt ad)
 case' Nc=>refine' ae ?Nd ?Ne
 case' Nd=>refine' cU PassesOwn.never rfl ?Nf ?Ng ?Nh
 case Nf=>exact dh rfl T.range (pa ac ad)
 case Ng=>exact aZ (i:=5) nd rfl (Or.inl rfl)
 case' Nh=>refine' ae ?Ni ?Nj
 case Ni=>exact aA (i:=6) nd rfl (Or.inl rfl) rfl (by first | exact .inl rfl | exact .inr rfl) aj
 case' Nj=>refine' ae ?Nk ?Nl
 case' Nk=>refine' cU PassesOwn.never rfl ?Nm ?Nn ?No
 case Nm=>exact dh rfl T.range (pa (aQ (bd) rfl T.len boot_len (pa (pv 2) ad)) ad)
 case Nn=>exact aZ (i:=7) nd rfl (Or.inl rfl)
 case' No=>refine' ah ?Np
 case' Np=>refine' aA (i:=6) nd rfl (Or.inl rfl) rfl (by first | exact .inl rfl | exact .inr rfl) ?Nq
 case' Nq=>refine' aE bo (pv 6) ?Nr
 case' Nr=>refine' al (show IxR _ (rIx K) from ai) (pv 1) ?Ns (fun _ _=>rfl)
 case' Ns=>refine' aE bh ?Nt ac
 case' Nt=>refine' aE bo ?Nu ?Nv
 case Nu=>exact al (show IxR _ (rIx K) from ai) (pv 2) (pv 7) (fun _ _=>rfl)
 case' Nv=>refine' aE dA (aE dA ac (pv 5)) ?Nw
 case' Nw=>refine' bI (i6) rfl T.int boot_int ?Nx
 case' Nx=>refine' pa ?Ny ad
 case Ny=>exact dB (ax hr) (pv 7) (pv 3) (am _)
 case' Nl=>refine' ae ?Nz ?N10
 case' Nz=>refine' aC ?N11 ?N12 aq
 case' N11=>refine' PW.pt ?N13
 case' N13=>refine' bV (ak (ax hr) (pv 6) aj (am _)) ?N14
 case N14=>exact bR (ak (ax hr) (pv 6) aj (am _))
 case' N12=>refine' ah ?N15
 case N15=>exact aA (i:=6) nd rfl (Or.inl rfl) rfl (by first | exact .inl rfl | exact .inr rfl) (aE bo (pv 6) aj)
 case' N10=>refine' ah ?N16
 case' N16=>refine' bD ?N17
 case N17=>exact pe_bm PySem.F.plainAttrs_list PySem.F.slot_list_append PySem.F.type_list_append d0 (pv 4) (pa (pv 6) ad)
 case' Ne=>refine' ah ?N18
 case N18=>exact ao (pv 4)
 refine seq_at ?_
 dsimp only [tAsg,tC,bH]
 obtain ⟨ky,eky,ky0,ky8⟩:∃ ky:Nat,1+cell % 8=(ky:Int)∧1≤ky∧ky≤8:=by
  have b0:0≤cell % 8:=Int.emod_nonneg _ (by decide)
  have b1:cell % 8<8:=Int.emod_lt_of_pos _ (by decide)
  exact ⟨(1+cell % 8).toNat,by omega,by omega,by omega⟩
 refine ⟨_,rfl,_,_,rfl,rfl,(by show (0:Int)<8;decide),.inr (.inl ⟨_,_,rfl,rfl,ky,by show [V.int (1+cell % 8)]=_;rw [eky],by omega,by omega,fun D9 hD9=>?_⟩)⟩
 have neD:∀ b o,H b=some o→b≠D9:=fun b o e=>ap e hD9
 refine dO (n:=ky) (fun j σ H6=>∃ (k1:Option V) (xs:List Int),σ = [k1,some (.int cell),some (.str "abcdefghijklmnopqrstuvwxyz"),none,none,none,none,none,none]∧Old H H6∧H6 D9=some (.lst (xs.map V.int))∧xs.length=j) ⟨none,[],rfl,Old.new hD9,ag,rfl⟩ ?_ ?_ ?_ ?_
 ·intro j σ H6 hj hv
  exact hj
 ·intro σ H6 hv
  exact Nat.le_refl _
 ·intro j σ H6 hj hv y H7 hy
  obtain ⟨k1,xs,rfl,o6,hD6,lx⟩:=hv
  obtain ⟨rfl,rfl⟩:=hy
  refine ⟨_,rfl,_,rfl,.inr (.inl ⟨_,_,rfl,rfl,_,_,rfl,rfl,.inl ⟨by omega,by omega⟩,_,rfl,_,rfl,.inr ⟨_,_,rfl,rfl,.inl ⟨by omega,by omega⟩,.inr (.inl ⟨_,_,rfl,rfl,_,_,rfl,rfl,(by show (0:Int)<26;decide),_,hD6,bE (by rw [List.length_map];omega),nx hj ⟨_,xs ++ [_],rfl,fun b o e=>by rw [au (neD b o e)];exact o6 b o e,by rw [ag,List.map_append];rfl,by rw [List.length_append,lx];rfl⟩⟩)⟩⟩)⟩
 intro σ H6 hv
 obtain ⟨k1,xs,rfl,o6,hD6,lx⟩:=hv
 have lm:((xs.map V.int).length:Int)=(ky:Int):=by rw [List.length_map,lx]
 refine ⟨_,rfl,_,_,rfl,rfl,.inl ⟨by decide,by decide⟩,_,rfl,.inl ⟨D9,_,rfl,.inl (SqL.of hD6),_,_,rfl,rfl,(by show (0:Int)<((xs.map V.int).length:Int);omega),?_⟩⟩
 refine ⟨by show 0≤sizeLine;decide,fun wl hwl=>?_⟩
 have o7:Old H (upd H6 wl (.lst [])):=o6.trans (Old.new hwl)
 have hw7:upd H6 wl (.lst []) wl=some (.lst (([]:List Str).map V.str)):=ag
 have hwl0:H wl=none:=o6.free hwl
 have nDw:D9≠wl:=fun z=>by rw [z,hwl] at hD6;cases hD6
 have hD7:upd H6 wl (.lst []) D9=some (.lst (xs.map V.int)):=by rw [au nDw];exact hD6
 generalize upd H6 wl (.lst [])=H7 at o7 hw7 hD7 ⊢
 have lett:∀ i:Int,∃ ch,atI (("abcdefghijklmnopqrstuvwxyz":Str)).cps.toList (i % 26)=some ch:=fun i=>by
  obtain ⟨ch,e,_⟩:=jQ (xs:=(("abcdefghijklmnopqrstuvwxyz":Str)).cps.toList) (i:=i % 26) (Int.emod_nonneg _ (by decide)) (by show i % 26<26;exact Int.emod_lt_of_pos _ (by decide))
  exact ⟨ch,e⟩
 dsimp only [bH]
 refine ⟨5,rfl,by decide,by decide,dW (n:=5) (fun i σ H8=>∃ (k5 k6 k7:Option V) (ws:List Str),σ = [some (.int cell),some (.str "abcdefghijklmnopqrstuvwxyz"),some (.ref D9),some (.int (cell / 8 % ((xs.map V.int).length:Int))),some (.ref wl),k5,k6,k7]∧Old H H8∧H8 D9=some (.lst (xs.map V.int))∧H8 wl=some (.lst (ws.map V.str))∧ws.length=i) ⟨none,none,none,[],rfl,o7,hD7,hw7,rfl⟩ ?_ ?_⟩
 ·intro i σ H8 hi hv
  obtain ⟨k5,k6,k7,ws,rfl,o8,hD8,hw8,lw⟩:=hv
  refine ⟨_,rfl,.inl ⟨D9,_,rfl,.inl (SqL.of hD8),ky,by rw [lm],by omega,by omega,dW (n:=ky) (fun j σ H9=>∃ (k7:Option V) (word:Str),σ = [some (.int cell),some (.str "abcdefghijklmnopqrstuvwxyz"),some (.ref D9),some (.int (cell / 8 % ((xs.map V.int).length:Int))),some (.ref wl),some (.int (0+(i:Int))),some (.str word),k7]∧H8=H9∧word.length=j) ⟨k7,"",rfl,rfl,rfl⟩ ?_ ?_⟩⟩
  ·intro j σ H9 hj hv
   obtain ⟨k7,word,rfl,rfl,lwd⟩:=hv
   obtain ⟨y,ey⟩:=hZ (ns:=xs) (k:=0+(j:Int)) (by omega) (by omega)
   refine ⟨_,rfl,_,rfl,_,rfl,_,rfl,.inl ⟨D9,_,_,.int y,rfl,rfl,SqL.of hD8,ey,_,rfl,.inr ⟨_,_,rfl,rfl,.inl ⟨by decide,by decide⟩,_,rfl,_,rfl,.inr (.inl ⟨rfl,.inr ⟨_,rfl,.inr ⟨_,_,rfl,rfl,.inl ⟨by omega,by omega⟩,.inr (.inl ⟨_,_,rfl,rfl,_,_,rfl,rfl,(by show (0:Int)<26;decide),.inr (.inr ⟨_,_,_,rfl,rfl,by decide,(lett _).choose_spec,.inr (addS (cB _ (by show word.length+1≤1000;omega)) ?_)⟩)⟩)⟩⟩⟩)⟩⟩⟩
   exact ⟨_,_,rfl,rfl,by rw [strLen_append,lwd];rfl⟩
  ·intro σ H9 hv
   obtain ⟨k7,word,rfl,rfl,lwd⟩:=hv
   have lx:("x":Str).length=1:=by decide +kernel
   have put:∀ (word:Str) (x6:Option V),(fun σ H8=>∃ (k5 k6 k7:Option V) (ws:List Str),σ = [some (.int cell),some (.str "abcdefghijklmnopqrstuvwxyz"),some (.ref D9),some (.int (cell / 8 % ((xs.map V.int).length:Int))),some (.ref wl),k5,k6,k7]∧Old H H8∧H8 D9=some (.lst (xs.map V.int))∧H8 wl=some (.lst (ws.map V.str))∧ws.length=i+1) [some (.int cell),some (.str "abcdefghijklmnopqrstuvwxyz"),some (.ref D9),some (.int (cell / 8 % ((xs.map V.int).length:Int))),some (.ref wl),some (.int (0+(i:Int))),x6,k7] (upd H8 wl (.lst (ws.map V.str ++ [.str word]))):=fun word x6=>⟨_,_,_,ws ++ [word],rfl,fun b o e=>by rw [au (ap e hwl0)];exact o8 b o e,by rw [au nDw];exact hD8,by rw [ag,List.map_append];rfl,by rw [List.length_append,lw];rfl⟩
   dsimp only
   refine cE (fun σ H9=>∃ word':Str,σ = [some (.int cell),some (.str "abcdefghijklmnopqrstuvwxyz"),some (.ref D9),some (.int (cell / 8 % ((xs.map V.int).length:Int))),some (.ref wl),some (.int (0+(i:Int))),some (.str word'),k7]∧H8=H9) (fun R hR=>?_) (fun σ H9 hP=>?_)
   ·refine fO (word = "yes"∨word = "no") (fun R hR=>df _ _ hR (fun R hR=>⟨_,rfl,.inr (.inl ⟨rfl,_,rfl,by rw [aI];exact hR⟩)⟩) (fun R hR=>⟨_,rfl,.inr (.inl ⟨rfl,_,rfl,by rw [aI];exact hR⟩)⟩)) (fun _=>?_) (fun _=>hR _ _ ⟨word,rfl,rfl⟩)
    exact ⟨_,rfl,.inr (addS (cB _ (by rw [lx];omega)) (hR _ _ ⟨_,rfl,rfl⟩))⟩
   obtain ⟨word',rfl,rfl⟩:=hP
   exact ⟨_,rfl,.inl ⟨rfl,_,SqL.of hw8⟩,_,rfl,wl,_,.str word',rfl,rfl,hw8,bE (by rw [List.length_map];omega),put word' _⟩
 ·intro σ H8 hv
  obtain ⟨k5,k6,k7,ws,rfl,o8,hD8,hw8,lw⟩:=hv
  exact ⟨_,rfl,q wl ws H8 o8 hwl0 hw8 lw⟩
end
end L2.K33
end
section
namespace L2.K33
open PySem PySem.Spec PyProof.Rows L2.Bw L2.Bk L2.Ex
section
variable {P:Program} {w:World} {K:W.Frag} {mg:Str→Option Value} {base:Heap} {f:Addr} {fd:FuncData}
theorem boot_VE:bootBuiltins "ValueError" = some (.type "ValueError"):=by decide +kernel
abbrev sTo:Stmt:=top 66
def spTo (K:W.Frag):Sp:=fun vs H Q _=>∃ (v:V) (t:Tk),vs = [v]∧RK K H t.tn.d v∧Lkp t∧∀ v' H',Old H H'→RK K H' (cmD (t.lk nv0)) v'→Q v' H'
theorem scTo:aF ["_law_tree","_law_caught","_law_found","e"] ["_law_tree"] (aw sTo):=⟨rfl,rfl,rfl,by decide +kernel,rfl,by decide +kernel,by decide +kernel⟩
structure Xc (K:W.Frag) (B C D1 D2 D5:Addr):Prop where
 hm:W.mroIn K C (.ref B)=some true
 X:cM K C
 hh:W.hasDictIn K C=true
 i1:W.kitOne K (.ref C) (.ref D1)=some false
 i2:W.kitOne K (.ref C) (.ref D2)=some false
 i5:W.kitOne K (.ref C) (.ref D5)=some false
 i8:W.kitOne K (.ref C) (.type "ValueError")=some true
theorem ok_To {n:Nat} {B Cp Ct D1 D2 D5:Addr} (F:Fun K "_law_told" "_law_told" sTo f fd) (T:Tx mg) (Y_BlameError:kA K B) (m_BlameError:mg "BlameError" = some (.ref B)) (xp:Xc K B Cp D1 D2 D5) (xt:Xc K B Ct D1 D2 D5)
 (m_NoFit:mg "NoFit" = some (.ref D1)) (m_NoLook:mg "NoLook" = some (.ref D2)) (m_NoName:mg "NoName" = some (.ref D5)) (m_Parted:mg "Parted" = some (.ref Cp)) (m_TooDeep:mg "TooDeep" = some (.ref Ct))
 (tp:W.kitOne K (.ref Ct) (.ref Cp)=some false) (tt:W.kitOne K (.ref Ct) (.ref Ct)=some true) (pp:W.kitOne K (.ref Cp) (.ref Cp)=some true) (pt:W.kitOne K (.ref Cp) (.ref Ct)=some false) (ft:W.findIn K (.ref Ct) "place" = some none)
 (f1:W.findIn K (.ref Cp) "place" = some none) (f2:W.findIn K (.ref Cp) "kind" = some none) (f3:W.findIn K (.ref Cp) "by" = some none) (f4:W.findIn K (.ref Cp) "wanted" = some none) (f5:W.findIn K (.ref Cp) "way" = some none)
 (c_kind_of:gK P w K mg base "kind_of" ["tree"] 22 (spKo K Cp Ct)):aY P w K mg base CX0 (n+23) f fd ["_law_tree"] (spTo K):=by
 refine F.ok scTo (fun vs H Q E h=>?_) (fun cdv A outer s H vs Q E hr h=>?_)
 ·obtain ⟨v,t,rfl,_⟩:=h
  rfl
 obtain ⟨v,t,rfl,rv,g,q⟩:=h
 have nd:=scTo.nd
 refine' ⟨_,?n0,?Z⟩
 case' n0=>refine' ae ?N1 ?N2
 case N1=>exact aA (i:=1) nd rfl (Or.inl rfl) rfl (by first | exact .inl rfl | exact .inr rfl) bQ
 case' N2=>refine' ae ?N3 ?N4
 case N3=>exact aA (i:=2) nd rfl (Or.inl rfl) rfl (by first | exact .inl rfl | exact .inr rfl) bQ
 case' N4=>refine' ae ?N5 ?N6
 case' N5=>refine' ps_tryB (i:=2) (k:=3) c_kind_of hr (pa (pv 0) ad) Y_BlameError m_BlameError nd rfl rfl rfl rfl (fun _=>?N7)
 case N7=>
  refine' ah ?N8
  case N8=>exact aA (i:=1) nd rfl (Or.inl rfl) rfl (by first | exact .inl rfl | exact .inr rfl) (pv 3)
 case' N6=>refine' ae ?N9 ?Na
 case' N9=>refine' aC (ak op_isN (pv 1) bQ (am _)) ?Nb aq
 case' Nb=>refine' ah ?Nc
 case Nc=>exact ao (ay (pa aj (pa (pv 2) ad)))
 case' Na=>refine' ae ?Nd ?Ne
 case' Nd=>refine' aC ?Nf ?Ng aq
 case' Nf=>refine' PW.pt ?Nh
 case' Nh=>refine' bV (cA (aQ cm rfl T.isinstance boot_isinstance (pa (pv 1) (pa (bF rfl m_NoName) ad)))) ?Ni
 case' Ni=>refine' bV (cA (aQ cm rfl T.isinstance boot_isinstance (pa (pv 1) (pa (bF rfl m_NoFit) ad)))) ?Nj
 case Nj=>exact bR (cA (aQ cm rfl T.isinstance boot_isinstance (pa (pv 1) (pa (bF rfl m_NoLook) ad))))
 case' Ng=>refine' ah ?Nk
 case Nk=>exact ao (ay (pa aj ad))
 case' Ne=>refine' ae ?Nl ?Nm
 case' Nl=>refine' aC ?Nn ?No aq
 case' Nn=>refine' PW.pt ?Np
 case' Np=>refine' bV ?Nq ?Nr
 case' Nq=>refine' pt_not ?Ns
 case' Ns=>refine' cA ?Nt
 case' Nt=>refine' aQ cm rfl T.isinstance boot_isinstance ?Nu
 case' Nu=>refine' pa (pv 1) ?Nv
 case' Nv=>refine' pa ?Nw ad
 case Nw=>exact gH rfl T.ValueError boot_VE
 case Nr=>exact bR (ak (ax hr) (aQ cm rfl T.isinstance boot_isinstance (pa (pv 1) (pa (bF rfl m_Parted) ad))) (aQ cm rfl T.isinstance boot_isinstance (pa (pv 1) (pa (bF rfl m_TooDeep) ad))) (am _))
 case' No=>refine' ah ?Nx
 case Nx=>exact ao (ay (pa aj ad))
 case' Nm=>refine' ae ?Ny ?Nz
 case' Ny=>refine' aC (cA (aQ cm rfl T.isinstance boot_isinstance (pa (pv 1) (pa (bF rfl m_Parted) ad)))) ?N10 aq
 case' N10=>refine' ah ?N11
 case' N11=>refine' ao ?N12
 case' N12=>refine' ay ?N13
 case' N13=>refine' pa aj ?N14
 case' N14=>refine' pa ?N15 ?N16
 case N15=>exact d8 (pv 1) rfl
 case' N16=>refine' pa ?N17 ?N18
 case N17=>exact d8 (pv 1) rfl
 case' N18=>refine' pa ?N19 ?N1a
 case N19=>exact d8 (pv 1) rfl
 case' N1a=>refine' pa ?N1b ?N1c
 case N1b=>exact d8 (pv 1) rfl
 case' N1c=>refine' pa ?N1d ad
 case N1d=>exact d8 (pv 1) rfl
 case' Nz=>refine' ah ?N1e
 case' N1e=>refine' ao ?N1f
 case' N1f=>refine' ay ?N1g
 case' N1g=>refine' pa aj ?N1h
 case' N1h=>refine' pa ?N1i ad
 case N1i=>exact d8 (pv 1) rfl
 refine seq_at ?_
 dsimp only [tAsg,tC,bH]
 refine seq_at ?_
 dsimp only [tAsg,tC,bH]
 refine ⟨_,rfl,v,t,rfl,rv,g,fun k ek kgk kv H1 o1 rk=>?_,fun r er d H1 o1 rf=>?_⟩
 ·refine ⟨_,rfl,rfl,_,rfl,a9 ⟨_,rfl,by show 2≤sizeLine;decide,fun b hb=>q _ _ (o1.trans (Old.new hb)) ?_⟩⟩
  rw [ek]
  exact RK.tup (.of ag) (.cons (.s _) (.cons (rk.mono (Old.new hb).tm) .nil))
 cases r with
 | deep p=>
   have hd:H1 d=some (DO d [("place",.int p)]):=rf
   refine ⟨Ct,rfl,xt.hm,fun d' e=>⟨_,by cases e;exact hd⟩,fun a ha=>?_⟩
   have o2:Old H1 (upd H1 a (XQ false a Ct (some d))):=Old.new ha
   have hpa:upd H1 a (XQ false a Ct (some d)) a=some (XQ false a Ct (some d)):=ag
   have hda:=o2 _ _ hd
   generalize upd H1 a (XQ false a Ct (some d))=H2 at o2 hpa hda ⊢
   have hdx:∀ d',some d=some d'→∃ fs,H2 d'=some (DO d' fs):=fun d' e=>⟨_,by cases e;exact hda⟩
   refine ⟨_,rfl,?_⟩
   dsimp only [bH]
   refine ⟨_,rfl,rfl,_,rfl,?_⟩
   rw [decide_eq_false (fun z=>nomatch z)]
   refine aU ⟨_,rfl,false,a,Ct,some d,_,_,_,rfl,rfl,fun _ e=>e,hpa,hdx,xt.X,xt.i5,_,rfl,aU ⟨_,rfl,false,a,Ct,some d,_,_,_,rfl,rfl,fun _ e=>e,hpa,hdx,xt.X,xt.i1,_,rfl,aU ⟨_,rfl,false,a,Ct,some d,_,_,_,rfl,rfl,fun _ e=>e,hpa,hdx,xt.X,xt.i2,_,rfl,aU ?_⟩⟩⟩
   refine ⟨_,rfl,false,a,Ct,some d,_,_,_,rfl,rfl,fun _ e=>e,hpa,hdx,xt.X,xt.i8,_,rfl,aU ⟨_,rfl,false,a,Ct,some d,_,_,_,rfl,rfl,fun _ e=>e,hpa,hdx,xt.X,tp,_,rfl,false,a,Ct,some d,_,_,_,rfl,rfl,fun _ e=>e,hpa,hdx,xt.X,tt,.inr (.inl ⟨rfl,_,rfl,?_⟩)⟩⟩
   rw [decide_eq_false (by decide)]
   refine aU ⟨_,rfl,false,a,Ct,some d,_,_,_,rfl,rfl,fun _ e=>e,hpa,hdx,xt.X,tp,_,rfl,?_⟩
   refine aU ⟨_,rfl,false,a,Ct,d,_,.int p,rfl,hpa,hda,xt.X,xt.hh,ft,rfl,by show 2≤sizeLine;decide,fun b hb=>q _ _ ((o1.trans o2).trans (Old.new hb)) ?_⟩
   rw [er]
   exact RK.tup (.of ag) (.cons (.s _) (.cons (.i _) .nil))
 | par p k b w way=>
   obtain ⟨kv,wv,yv,rk,rw',ry,hd⟩:=rf
   refine ⟨Cp,rfl,xp.hm,fun d' e=>⟨_,by cases e;exact hd⟩,fun a ha=>?_⟩
   have o2:Old H1 (upd H1 a (XQ false a Cp (some d))):=Old.new ha
   have hpa:upd H1 a (XQ false a Cp (some d)) a=some (XQ false a Cp (some d)):=ag
   have hda:=o2 _ _ hd
   generalize upd H1 a (XQ false a Cp (some d))=H2 at o2 hpa hda ⊢
   have hdx:∀ d',some d=some d'→∃ fs,H2 d'=some (DO d' fs):=fun d' e=>⟨_,by cases e;exact hda⟩
   refine ⟨_,rfl,?_⟩
   dsimp only [bH]
   refine ⟨_,rfl,rfl,_,rfl,?_⟩
   rw [decide_eq_false (fun z=>nomatch z)]
   refine aU ⟨_,rfl,false,a,Cp,some d,_,_,_,rfl,rfl,fun _ e=>e,hpa,hdx,xp.X,xp.i5,_,rfl,aU ⟨_,rfl,false,a,Cp,some d,_,_,_,rfl,rfl,fun _ e=>e,hpa,hdx,xp.X,xp.i1,_,rfl,aU ⟨_,rfl,false,a,Cp,some d,_,_,_,rfl,rfl,fun _ e=>e,hpa,hdx,xp.X,xp.i2,_,rfl,aU ?_⟩⟩⟩
   refine ⟨_,rfl,false,a,Cp,some d,_,_,_,rfl,rfl,fun _ e=>e,hpa,hdx,xp.X,xp.i8,_,rfl,aU ⟨_,rfl,false,a,Cp,some d,_,_,_,rfl,rfl,fun _ e=>e,hpa,hdx,xp.X,pp,_,rfl,false,a,Cp,some d,_,_,_,rfl,rfl,fun _ e=>e,hpa,hdx,xp.X,pt,.inr (.inl ⟨rfl,_,rfl,?_⟩)⟩⟩
   rw [decide_eq_false (by decide)]
   refine aU ⟨_,rfl,false,a,Cp,some d,_,_,_,rfl,rfl,fun _ e=>e,hpa,hdx,xp.X,pp,_,rfl,?_⟩
   refine a9 ⟨_,rfl,false,a,Cp,d,_,.int p,rfl,hpa,hda,xp.X,xp.hh,f1,rfl,_,rfl,false,a,Cp,d,_,kv,rfl,hpa,hda,xp.X,xp.hh,f2,rfl,_,rfl,false,a,Cp,d,_,.int b,rfl,hpa,hda,xp.X,xp.hh,f3,rfl,_,rfl,false,a,Cp,d,_,wv,rfl,hpa,hda,xp.X,xp.hh,f4,rfl,_,rfl,false,a,Cp,d,_,yv,rfl,hpa,hda,xp.X,xp.hh,f5,rfl,by show 6≤sizeLine;decide,fun z hz=>q _ _ ((o1.trans o2).trans (Old.new hz)) ?_⟩
   have o3:=o2.trans (Old.new (o:=.tup [.str "parted",.int p,kv,.int b,wv,yv]) hz)
   rw [er]
   exact RK.tup (.of ag) (.cons (.s _) (.cons (.i _) (.cons (rk.mono o3.tm) (.cons (.i _) (.cons (rw'.mono o3.tm) (.cons (ry.mono o3.tm) .nil))))))
end
end L2.K33
end
section
namespace L2.K33
open PySem PySem.Spec PyProof.Rows L2.Bw L2.Bk L2.Ex
def smF:Rf→Prop
 | .deep _=>True
 | .par _ k _ w _=>Kg k 4∧Kg w 4
def smR:Except Rf Kn→Prop
 | .ok k=>Kg k 4
 | .error r=>smF r
def smL:Except Rf (List Kn)→Prop
 | .ok f=>∀ k∈f,Kg k 4
 | .error r=>smF r
theorem any_kg:∀ {ks:List Kn},Kn.wfs ks→¬ ks.any (fun k=>decide (4<k.dep))=true→∀ k∈ks,Kg k 4
 | [],_,_,_,h=>nomatch h
 | a :: r,w,n,k,h=>by
   rw [List.any_cons,Bool.or_eq_true] at n
   rcases List.mem_cons.mp h with rfl | h
   ·exact ⟨w.1,by
     have:¬ 4<k.dep:=fun z=>n (.inl (decide_eq_true z))
     omega⟩
   ·exact any_kg w.2 (fun z=>n (.inr z)) k h
theorem hold_sm {w:Str} {p pl np:Int} {ks f:List Kn} {r:Rf} (hk:∀ k∈ks,Kg k 4) (hf:∀ k∈f,Kg k 4) (h:br w p pl np ks f=some r):smF r:=by
 unfold br at h
 split at h
 ·obtain ⟨way,_,rfl⟩:=Option.map_eq_some_iff.mp h
  exact ⟨ci (by omega) hf 2,ci (by omega) hf 1⟩
 ·obtain ⟨way,_,rfl⟩:=Option.map_eq_some_iff.mp h
  exact ⟨eX (by omega) hf,j3 hk hf⟩
mutual
theorem lk_sm:∀ (t:Tk) (e:Nv),t.ok→e.ok→smR (t.lk e)
 | .mk w p fr ks ps,e,o,he=>by
   rw [Tk.lk]
   by_cases c:ks.any (fun k=>decide (4<k.dep))=true
   ·rw [if_pos c];trivial
   rw [if_neg c]
   have hk:=any_kg o.1.1 c
   have hl:=lks_sm w p ((ps[1]?).map Tk.p |>.getD 0) fr ks ps 0 e [] hk o.2 he (fun k h=>nomatch h)
   generalize Tk.lks w p ((ps[1]?).map Tk.p |>.getD 0) fr ks ps 0 e []=z at hl ⊢
   cases z with
   | error r=>exact hl
   | ok f=>
     show smR (if 4<(ba w fr ks f e).dep then .error (.deep p) else .ok (ba w fr ks f e))
     by_cases c2:4<(ba w fr ks f e).dep
     ·rw [if_pos c2];trivial
     ·rw [if_neg c2];exact ⟨(kg_own hk hl he).wf,by omega⟩
theorem lks_sm (w:Str) (p pl:Int) (fr:List Dk) (ks:List Kn):∀ (ps:List Tk) (i:Nat) (e:Nv) (f:List Kn),(∀ k∈ks,Kg k 4)→Tk.oks ps→e.ok→(∀ k∈f,Kg k 4)→smL (Tk.lks w p pl fr ks ps i e f)
 | [],i,e,f,_,_,_,hf=>by rw [Tk.lks];exact hf
 | n :: r,i,e,f,hk,o,he,hf=>by
   rw [Tk.lks]
   have h1:=lk_sm n (bwK w fr ks f i e) o.1 (nv_bw hk hf he)
   generalize n.lk (bwK w fr ks f i e)=z at h1 ⊢
   cases z with
   | error r=>exact h1
   | ok k=>
     have hf':∀ k'∈f ++ [k],Kg k' 4:=fun k' h=>by
      rcases List.mem_append.mp h with h | h
      ·exact hf k' h
      ·rw [List.mem_singleton.mp h];exact h1
     show smL (match br w p pl n.p ks (f ++ [k]) with | some r=>.error r | none=>Tk.lks w p pl fr ks r (i+1) e (f ++ [k]))
     cases eh:br w p pl n.p ks (f ++ [k]) with
     | some r=>exact hold_sm hk hf' eh
     | none=>exact lks_sm w p pl fr ks r (i+1) e (f ++ [k]) hk o.2 he hf'
end
theorem dq_kg {k:Kn} {m:Nat} (h:Kg k m):k.d.dq≤m:=by rw [dq_d];exact h.dep
theorem cm_tup (z:Except Rf Kn) (h:smR z):∃ ds,cmD z = .tup ds∧dqs ds≤60:=by
 cases z with
 | ok k=>
   refine ⟨_,rfl,ij fun x hx=>?_⟩
   rcases List.mem_cons.mp hx with rfl | hx
   ·exact Nat.zero_le _
   ·rw [List.mem_singleton.mp hx];exact Nat.le_trans (dq_kg h) (by decide)
 | error r=>cases r with
   | deep p=>
     refine ⟨_,rfl,ij fun x hx=>?_⟩
     rcases List.mem_cons.mp hx with rfl | hx
     ·exact Nat.zero_le _
     ·rw [List.mem_singleton.mp hx];exact Nat.zero_le _
   | par p k b w way=>
     refine ⟨_,rfl,ij fun x hx=>?_⟩
     rcases List.mem_cons.mp hx with rfl | hx
     ·exact Nat.zero_le _
     rcases List.mem_cons.mp hx with rfl | hx
     ·exact Nat.zero_le _
     rcases List.mem_cons.mp hx with rfl | hx
     ·exact Nat.le_trans (dq_kg h.1) (by decide)
     rcases List.mem_cons.mp hx with rfl | hx
     ·exact Nat.zero_le _
     rcases List.mem_cons.mp hx with rfl | hx
     ·exact Nat.le_trans (dq_kg h.2) (by decide)
     rw [List.mem_singleton.mp hx,dq_tup]
     have:dqs (way.map Dk.str)≤0:=ij fun y hy=>by
      obtain ⟨z,_,rfl⟩:=List.mem_map.mp hy
      exact Nat.le_refl _
     omega
section
variable {P:Program} {w:World} {K:W.Frag} {mg:Str→Option Value} {base:Heap} {f:Addr} {fd:FuncData}
theorem Mt.le {H:Hp} {v:V} {t:Tk} {bs:List Str} {m:Nat} (h:Mt K H v t bs m):Mt K H v t bs (m+1):=⟨h.r,h.wf,h.ok,h.dos,h.free,by
 have:=h.cnt
 show t.cnt≤1+4 * cb m
 omega,Nat.le_succ_of_le h.dep⟩
abbrev sLaw:Stmt:=top 67
def spLaw (K:W.Frag):Sp:=fun vs H Q _=>∃ (a:Addr) (ns:List Int),vs = [.ref a]∧SqL K H a (ns.map V.int)∧ns.length≤63∧∀ H',Q (.bl true) H'
theorem scLaw:aF ["_law_script","_law_cell","_law_deal","_law_tree","_law_one","_law_due"] ["_law_script"] (aw sLaw):=⟨rfl,rfl,rfl,by decide +kernel,rfl,by decide +kernel,by decide +kernel⟩
theorem ok_law {m:Nat} (F:Fun K "law" "law" sLaw f fd) (T:Tx mg) (c_cell_at:Cal P w K mg base "_law_cell_at" ["_law_script","_law_k"] 1 (spCell K)) (c_words:Cal P w K mg base "_law_words" ["_law_cell"] 1 (spWds K)) (c_any:Cal P w K mg base "_law_any" ["_law_deal","_law_names_here","_law_room"] 8 (dR K 6)) (c_kind:Cal P w K mg base "_law_kind" ["_law_cell"] 1 (kl K))
 (c_come_to:Cal P w K mg base "_law_come_to" ["_law_node","_law_names_here"] 18 (spCT K 8)) (c_told:Cal P w K mg base "_law_told" ["_law_tree"] 23 (spTo K)):aY P w K mg base CX0 (m+24) f fd ["_law_script"] (spLaw K):=by
 refine F.ok scLaw (fun vs H Q E h=>?_) (fun cdv A outer s H vs Q E hr h=>?_)
 ·obtain ⟨a,ns,rfl,_⟩:=h
  rfl
 obtain ⟨a,ns,rfl,hS,h63,q⟩:=h
 have nd:=scLaw.nd
 refine' ⟨_,?n0,?Z⟩
 case' n0=>refine' ae ?N1 ?N2
 case N1=>exact aA (i:=1) nd rfl (Or.inl rfl) rfl (by first | exact .inl rfl | exact .inr rfl) (aE bh (aE dA (az c_cell_at hr (pa (pv 0) (pa ac ad))) ac) ac)
 case' N2=>refine' ae ?N3 ?N4
 case N3=>exact aA (i:=2) nd rfl (Or.inl rfl) rfl (by first | exact .inl rfl | exact .inr rfl) (bt (pa (pv 0) (pa ac (pa (aE bh (az c_cell_at hr (pa (pv 0) (pa ac ad))) ac) (pa ac (pa (az c_words hr (pa (pv 1) ad)) ad))))))
 case' N4=>refine' ae ?N5 ?N6
 case N5=>exact aA (i:=3) nd rfl (Or.inl rfl) rfl (by first | exact .inl rfl | exact .inr rfl) (ay (pa aj (pa ac (pa pe_bl ad))))
 case' N6=>refine' ae ?N7 ?N8
 case' N7=>refine' aC (ak (eI hr) (aE bh (pv 1) ac) ac (am _)) ?N9 aq
 case' N9=>refine' ah ?Na
 case Na=>exact aA (i:=3) nd rfl (Or.inl rfl) rfl (by first | exact .inl rfl | exact .inr rfl) (az c_any hr (pa (pv 2) (pa (bt ad) (pa ac ad))))
 case' N8=>refine' ae ?Nb ?Nc
 case' Nb=>refine' aC (ak (ax hr) (aE bh (pv 1) ac) ac (am _)) ?Nd aq
 case' Nd=>refine' ah ?Ne
 case Ne=>exact aA (i:=3) nd rfl (Or.inl rfl) rfl (by first | exact .inl rfl | exact .inr rfl) (ay (pa aj (pa ac (pa (az c_kind hr (pa (aE bg (pv 1) ac) ad)) (pa (pv 3) ad)))))
 case' Nc=>refine' ae ?Nf ?Ng
 case' Nf=>refine' aC (ak (ax hr) (aE bh (pv 1) ac) ac (am _)) ?Nh aq
 case' Nh=>refine' ae ?Ni ?Nj
 case Ni=>exact aA (i:=4) nd rfl (Or.inl rfl) rfl (by first | exact .inl rfl | exact .inr rfl) (az c_any hr (pa (pv 2) (pa (bt ad) (pa ac ad))))
 case' Nj=>refine' ah ?Nk
 case' Nk=>refine' aA (i:=3) nd rfl (Or.inl rfl) rfl (by first | exact .inl rfl | exact .inr rfl) ?Nl
 case' Nl=>refine' ay ?Nm
 case' Nm=>refine' pa aj ?Nn
 case' Nn=>refine' pa ac ?No
 case' No=>refine' pa ?Np (pa (pv 4) (pa (az c_any hr (pa (pv 2) (pa (bt ad) (pa (aE bo ac (aE bh (aE bg (pv 1) ac) ac)) ad)))) ad))
 case' Np=>refine' ay ?Nq
 case' Nq=>refine' pa aj ?Nr
 case' Nr=>refine' pa ac ?Ns
 case' Ns=>refine' pa ?Nt ad
 case Nt=>exact dB (ax hr) (aE bh (aE bg (pv 1) ac) ac) ac (am _)
 case' Ng=>refine' ae ?Nu ?Nv
 case Nu=>exact aA (i:=5) nd rfl (Or.inl rfl) rfl (by first | exact .inl rfl | exact .inr rfl) (az c_come_to hr (pa (pv 3) (pa fj ad)))
 case' Nv=>refine' ah ?Nw
 case' Nw=>refine' ao ?Nx
 case' Nx=>refine' pe_and ?Ny ?Nz
 case Ny=>exact dB (ax hr) (az c_told hr (pa (pv 3) ad)) (pv 5) (am _)
 case' Nz=>refine' pe_one ?N10
 case N10=>exact dB (ax hr) (az c_told hr (pa (pv 3) ad)) (pv 5) (am _)
 refine ⟨_,rfl,a,ns,0,rfl,hS,by decide,fun c0=>.inr ⟨_,_,rfl,rfl,.inr ⟨by decide,by decide⟩,_,_,rfl,rfl,(by show (0:Int)<1000000000039;decide),?_⟩⟩
 dsimp only
 generalize c0 * 6364136223846793005 % 1000000000039=cell
 refine ⟨_,rfl,_,rfl,a,ns,1,rfl,hS,by decide,fun c1=>⟨_,_,rfl,rfl,(by show (0:Int)<997;decide),_,rfl,_,rfl,fun wl ws H1 o1 hwl0 hwl l5=>⟨by show 5≤sizeLine;decide,fun d hd=>?_⟩⟩⟩
 dsimp only
 generalize c1 % 997=b
 have o2:=Old.new (o:=.lst [.ref a,.int 1,.int b,.int 0,.ref wl]) hd
 have hS1:SqL K H1 a (ns.map V.int):=o1.gr.seq (fun z=>z) hS
 have ne:a=d→∀ H':Hp,SqL K H' a (ns.map V.int):=fun e H'=>by
  rcases hS1 with h | h
  ·rcases h with h | ⟨o,h⟩
   ·rw [e,hd] at h;cases h
   ·rw [e,hd] at h;cases h
  ·exact .inr h
 have D1:Dl K (upd H1 d (.lst [.ref a,.int 1,.int b,.int 0,.ref wl])) d a wl ns ws 1 b 0:=⟨ag,o2.gr.seq (fun z=>z) hS1,ne,o2 _ _ hwl,ap hwl hd,by decide,l5⟩
 generalize upd H1 d (.lst [.ref a,.int 1,.int b,.int 0,.ref wl])=H2 at D1 ⊢
 refine ⟨by show 3≤sizeLine;decide,fun ta hta=>?_⟩
 have o3:=Old.new (o:=.tup [.str "truth",.int 997,.bl true]) hta
 have D3:=D1.old o3
 have M3:Mt K (upd H2 ta (.tup [.str "truth",.int 997,.bl true])) (.ref ta) (.mk "truth" 997 [.bl true] [] []) [] 1:=dZ (by decide +kernel) (by decide) (by decide) rfl (fun z=>absurd z (by decide +kernel)) (RK.tup (.of ag) (.cons (.s _) (.cons (.i _) (.cons (.b _) .nil))))
 have M3':=M3.up (m:=5) (by decide)
 generalize upd H2 ta (.tup [.str "truth",.int 997,.bl true])=H3 at D3 M3' ⊢
 have call:∀ (r:Nat) (Hx:Hp) (i c:Int) (Q':VK),1≤r→r<6→Dl K Hx d a wl ns ws i b c→(∀ t v Hy i' c',Tm Hx Hy→Dl K Hy d a wl ns ws i' b c'→Mt K Hy v t [] r→Q' v Hy)→∀ nl,Hx nl=none→dR K 6 [.ref d,.ref nl,.int (r:Int)] (upd Hx nl (.lst [])) Q' E0:=fun r Hx i c Q' r1 r6 D' k nl hnl=>by
  have on:=Old.new (o:=.lst []) hnl
  have Dn:=D'.old on
  exact ⟨d,a,wl,nl,ns,ws,[],i,b,c,r,rfl,Dn,ag,(ap D'.hd hnl).symm,by show 0+2 * r≤100;omega,r1,r6,fun t v Hy i' c' g' D'' M=>k t v Hy i' c' (fun x y e=>g'.tm1 Dn.hd x y (on.tm x y e)) D'' M⟩
 dsimp only [bH]
 refine cE (fun σ H4=>∃ t tv i c,σ = [some (.ref a),some (.int cell),some (.ref d),some tv,none,none]∧Dl K H4 d a wl ns ws i b c∧Mt K H4 tv t [] 5) (fun R hR=>?_) (fun σ H4 hP=>?_)
 ·refine fO (¬ cell % 7=2) (fun R hR=>⟨_,rfl,_,_,rfl,rfl,(by show (0:Int)<7;decide),.inr (.inl ⟨rfl,_,rfl,by rw [show (!decide ((V.int (cell % 7))=V.int 2))=decide (¬ cell % 7=2) by rw [cF];exact (decide_not (p:=cell % 7=2)).symm];exact hR⟩)⟩) (fun _=>?_) (fun _=>hR _ _ ⟨_,_,_,_,rfl,D3,M3'⟩)
  exact ⟨_,rfl,by show 0≤sizeLine;decide,fun nl hnl=>call 5 H3 _ _ _ (by decide) (by decide) D3 (fun t v Hy i' c' tm D' M'=>hR _ _ ⟨t,v,i',c',rfl,D',M'⟩) nl hnl⟩
 obtain ⟨t,tv,i,c,rfl,D4,M4⟩:=hP
 have c5:cb 5=341:=rfl
 refine cE (fun σ H5=>∃ t tv i c,σ = [some (.ref a),some (.int cell),some (.ref d),some tv,none,none]∧Dl K H5 d a wl ns ws i b c∧RK K H5 t.tn.d tv∧Lkp t) (fun R hR=>?_) (fun σ H5 hP=>?_)
 ·have M4c:=M4.cnt
  have M4d:=M4.dep
  refine fO (cell % 7=1) (fun R hR=>⟨_,rfl,_,_,rfl,rfl,(by show (0:Int)<7;decide),.inr (.inl ⟨rfl,_,rfl,by rw [cF];exact hR⟩)⟩) (fun _=>?_) (fun _=>hR _ _ ⟨_,_,_,_,rfl,D4,M4.r,M4.wf,M4.ok,M4.dos,M4.free,by omega,by omega⟩)
  refine ⟨_,rfl,_,_,rfl,rfl,.inl ⟨by decide,by decide⟩,_,rfl,fun k kv H5 rk gk o5=>⟨_,rfl,by show 4≤sizeLine;decide,fun q1 hq1=>?_⟩⟩
  have o6:=Old.new (o:=.tup [.str "as",.int 9990,kv,tv]) hq1
  have M5:=(M4.tm o5.tm).tm o6.tm
  have N:=cj (m:=5) (x:="as") (p:=9990) (fr:=[]) (ks:=[k]) (ps:=[t]) (bs:=[]) ⟨by decide +kernel,by decide +kernel,by decide +kernel⟩ aR.2.1.1.symm aR.2.1.2.1.symm (fun _=>aR.2.1.2.2.symm) (by show 1≤4;decide) (fun z=>absurd z (by decide +kernel)) (by decide) (by decide) (fun e he=>nomatch he) (fun e he=>by rw [List.mem_singleton.mp he];exact gk) (fun z=>absurd z (by decide +kernel)) ⟨M5.mp.more (by exact cD (by decide +kernel) (by decide +kernel) (by decide +kernel) []),trivial⟩ (RK.tup (.of ag) (.cons (.s _) (.cons (.i _) (.cons (rk.mono o6.tm) (.cons M5.r .nil)))))
  exact hR _ _ ⟨_,_,_,_,rfl,(D4.old o5).old o6,N.r,N.wf,N.ok,N.dos,N.free,by show 1+(t.cnt+0)≤400;omega,Nat.le_trans N.dep (by decide)⟩
 obtain ⟨t,tv,i,c,rfl,D5,r5,L5⟩:=hP
 refine cE (fun σ H6=>∃ t tv k5,σ = [some (.ref a),some (.int cell),some (.ref d),some tv,k5,none]∧RK K H6 t.tn.d tv∧Lkp t) (fun R hR=>?_) (fun σ H6 hP=>?_)
 ·refine fO (cell % 7=2) (fun R hR=>⟨_,rfl,_,_,rfl,rfl,(by show (0:Int)<7;decide),.inr (.inl ⟨rfl,_,rfl,by rw [cF];exact hR⟩)⟩) (fun _=>?_) (fun _=>hR _ _ ⟨_,_,_,rfl,r5,L5⟩)
  have call2:∀ (Hx:Hp) (i c:Int) (Q':VK),Dl K Hx d a wl ns ws i b c→(∀ t v Hy i' c',Tm Hx Hy→Dl K Hy d a wl ns ws i' b c'→Mt K Hy v t [] 3→Q' v Hy)→∀ nl,Hx nl=none→dR K 6 [.ref d,.ref nl,.int (2+cell / 14 % 2)] (upd Hx nl (.lst [])) Q' E0:=fun Hx i c Q' D' k nl hnl=>by
   have e0:0≤cell / 14 % 2:=Int.emod_nonneg _ (by decide)
   have e1:cell / 14 % 2<2:=Int.emod_lt_of_pos _ (by decide)
   by_cases z:cell / 14 % 2=0
   ·rw [z]
    exact call 2 Hx i c Q' (by decide) (by decide) D' (fun t v Hy i' c' tm D'' M=>k t v Hy i' c' tm D'' M.le) nl hnl
   ·rw [show cell / 14 % 2=1 by omega]
    exact call 3 Hx i c Q' (by decide) (by decide) D' k nl hnl
  refine ⟨_,rfl,by show 0≤sizeLine;decide,fun nl hnl=>call 2 H5 _ _ _ (by decide) (by decide) D5 (fun t1 v1 H6 i1 c1 tm6 D6 M6=>?_) nl hnl⟩
  refine ⟨_,rfl,_,_,rfl,rfl,.inl ⟨by decide,by decide⟩,_,_,rfl,rfl,(by show (0:Int)<2;decide),.inr (.inl ⟨rfl,by show 3≤sizeLine;decide,fun ta hta=>⟨_,rfl,_,rfl,by show 0≤sizeLine;decide,fun nl2 hnl2=>⟨_,rfl,_,_,rfl,rfl,.inl ⟨by decide,by decide⟩,_,_,rfl,rfl,(by show (0:Int)<2;decide),.inr (.inl ⟨_,_,rfl,rfl,call2 _ _ _ _ (D6.old (Old.new hta)) (fun t2 v2 H8 i2 c2 tm8 D8 M8=>⟨by show 5≤sizeLine;decide,fun q1 hq1=>?_⟩) nl2 hnl2⟩)⟩⟩⟩)⟩
  have o7:=Old.new (o:=.tup [.str "truth",.int 999,.bl (decide (V.int (cell / 7 % 2)=V.int 0))]) hta
  have Mt0:Mt K (upd H6 ta (.tup [.str "truth",.int 999,.bl (decide (V.int (cell / 7 % 2)=V.int 0))])) (.ref ta) (.mk "truth" 999 [.bl (decide (V.int (cell / 7 % 2)=V.int 0))] [] []) [] 1:=dZ (by decide +kernel) (by decide) (by decide) rfl (fun z=>absurd z (by decide +kernel)) (RK.tup (.of ag) (.cons (.s _) (.cons (.i _) (.cons (.b _) .nil))))
  have o9:=Old.new (o:=.tup [.str "if",.int 998,.ref ta,v1,v2]) hq1
  have Ma:=((Mt0.up (m:=3) (by decide)).tm tm8).tm o9.tm
  have Mb:=((M6.tm o7.tm).tm tm8).tm o9.tm
  have Mc:=M8.tm o9.tm
  have N:=cj (m:=3) (x:="if") (p:=998) (fr:=[]) (ks:=[]) (ps:=[_,t1,t2]) (bs:=[]) ⟨by decide +kernel,by decide +kernel,by decide +kernel⟩ aR.2.2.2.1.1.symm aR.2.2.2.1.2.1.symm (fun _=>aR.2.2.2.1.2.2.symm) (by show 3≤4;decide) (fun z=>absurd z (by decide +kernel)) (by decide) (by decide) (fun e he=>nomatch he) (fun e he=>nomatch he) (fun z=>absurd z (by decide +kernel)) ⟨Ma.mp.more (by exact cD (by decide +kernel) (by decide +kernel) (by decide +kernel) []),Mb.le.mp.more (by exact cD (by decide +kernel) (by decide +kernel) (by decide +kernel) []),Mc.mp.more (by exact cD (by decide +kernel) (by decide +kernel) (by decide +kernel) []),trivial⟩ (RK.tup (.of ag) (.cons (.s _) (.cons (.i _) (.cons Ma.r (.cons Mb.r (.cons Mc.r .nil))))))
  have c4:cb (3+1)=85:=rfl
  have Nc:=N.cnt
  have Nd:=N.dep
  exact hR _ _ ⟨_,_,_,rfl,N.r,N.wf,N.ok,N.dos,N.free,by omega,by omega⟩
 obtain ⟨t,tv,k5,rfl,r6,L6⟩:=hP
 refine ⟨_,rfl,fun b0 hb0=>⟨tv,b0,t,[],nv0,[],rfl,r6.mono (Old.new hb0).tm,⟨L6.wf,L6.ok,L6.dos,fun x k z=>(nomatch z),fun x z=>(nomatch z),L6.free⟩,ag,by have:=L6.dep;show 0+_≤_;omega,fun x k z=>(nomatch z),L6.dep,fun dv H7 o7 rd _=>?_⟩⟩
 obtain ⟨ds,eds,hds⟩:=cm_tup (t.lk nv0) (lk_sm t nv0 L6.ok fun x k z=>(nomatch z))
 rw [eds] at rd
 have r7:=r6.mono ((Old.new hb0).trans o7).tm
 dsimp only [bH]
 refine ⟨_,rfl,tv,t,rfl,r7,L6,fun v1 H8 o8 r8=>?_⟩
 rw [eds] at r8
 refine ⟨_,rfl,.inl ⟨ds,ds,r8,rd.mono o8.tm,hds,_,rfl,?_⟩⟩
 rw [dU]
 refine a9 ⟨_,rfl,tv,t,rfl,r7.mono o8.tm,L6,fun v2 H9 o9 r9=>⟨_,rfl,?_⟩⟩
 rw [eds] at r9
 refine .inl ⟨ds,ds,r9,rd.mono (o8.trans o9).tm,hds,?_⟩
 rw [dU]
 exact q _
end
end L2.K33
end
section
namespace L2.K33
open PySem PySem.Spec PyProof.Rows L2.Bw L2.Bk L2.Ex
section
variable {P:Program} {w:World} {K:W.Frag} {mg:Str→Option Value} {base:Heap} {f:Addr} {fd:FuncData}
theorem none_of {k:Nat} {ps:List Str} {sp:Sp} (no:∀ vs H Q E,¬ sp vs H Q E):aY P w K mg base CX0 k f fd ps sp:=⟨fun vs H Q E h=>absurd h (no vs H Q E),fun A outer s H args us vs Q E _ _ _ _ h=>absurd h (no vs H Q E)⟩
theorem lq:∀ vs H Q E,¬ bY K 0 vs H Q E:=fun vs H Q E h=>by
 obtain ⟨v,t,_,_,_,h1,_⟩:=h
 omega
theorem iw:∀ vs H Q E,¬ bA K 0 vs H Q E:=fun vs H Q E h=>by
 obtain ⟨x,y,a,b,_,_,_,_,_,h1,_⟩:=h
 omega
theorem no_join:∀ vs H Q E,¬ eK K 0 vs H Q E:=fun vs H Q E h=>by
 obtain ⟨x,y,a,b,_,_,_,_,_,h1,_⟩:=h
 omega
theorem no_NB:∀ vs H Q E,¬ spNB K 0 vs H Q E:=fun vs H Q E h=>by
 obtain ⟨v,y,t,bs,_,_,_,_,h1,_⟩:=h
 omega
theorem no_Look {C Cp Ct:Addr}:∀ vs H Q E,¬ gi K C Cp Ct 0 vs H Q E:=fun vs H Q E h=>by
 obtain ⟨L,kd,wd,b,ks,ws,kvs,tv,t,e,bs,_,_,_,_,_,_,_,_,_,_,_,h1,_⟩:=h
 cases t
 exact absurd h1 (by show ¬ 1+_≤0;omega)
theorem no_LP:∀ vs H Q E,¬ bA K 0 vs H Q E:=iw
theorem no_LD:∀ vs H Q E,¬ bY K 0 vs H Q E:=lq
theorem no_LJ:∀ vs H Q E,¬ spLJ K 0 vs H Q E:=fun vs H Q E h=>by
 obtain ⟨x,y,a,b,_,_,_,_,_,h1,_⟩:=h
 omega
theorem no_CT:∀ vs H Q E,¬ spCT K 0 vs H Q E:=fun vs H Q E h=>by
 obtain ⟨v,b,t,kvs,e,bs,_,_,_,_,_,_,h1,_⟩:=h
 cases t
 exact absurd h1 (by show ¬ 1+_≤0;omega)
theorem no_any:∀ vs H Q E,¬ dR K 0 vs H Q E:=fun vs H Q E h=>by
 obtain ⟨d,a,wl,nl,ns,ws,bs,i,b,c,r,_,_,_,_,_,h1,h2,_⟩:=h
 omega
theorem bT {x:Str} {ps:List Str} {sp:Nat→Sp} (lv:Nat→Nat) (b:aJ K fd ps []) (kp:W.keepIn K (.ref f)=true) (m:mg x=some (.ref f)) (no:∀ vs H Q E,¬ sp 0 vs H Q E)
 (step:∀ n,Cal P w K mg base x ps (lv n) (sp n)→aY P w K mg base CX0 (lv (n+1)) f fd ps (sp (n+1))):∀ n,Cal P w K mg base x ps (lv n) (sp n)
 | 0=>⟨⟨f,fd,none_of no,b,kp,m⟩⟩
 | n+1=>⟨⟨f,fd,step n (bT lv b kp m no step n),b,kp,m⟩⟩
end
def bw (K:W.Frag) (x:Str) (st:Stmt):Prop:=∃ f fd,Fun K x x st f fd∧W.nsIn K mainGlobals x=some (some (.ref f))
theorem here_mk {K:W.Frag} {x:Str} {st:Stmt} {f:Addr} {od an:Option Addr} {sl:Array (Option Value)} {oc kV dc pm cd ct:Value} (a:W.nsIn K mainGlobals x=some (some (.ref f)))
 (l:K.lookup f=some ⟨oc,od,.func (W.fnOf x x (bW st) (bJ st) (aw st) .none kV dc pm an cd ct),sl⟩) (c:W.codeIn K cd x=true) (k:W.keepIn K (.ref f)=true):bw K x st:=⟨f,_,dN l c k,a⟩
def gA (K:W.Frag):Prop:=∃ ua,W.nsIn K mainGlobals "ALL_STEPS" = some (some (.ref ua))∧Kt K ua [.str "arg",.str "res",.str "item",.str "one",.str "two"]
theorem tup_ALL_STEPS {K:W.Frag} {ua:Addr} {od:Option Addr} {n:Nat} {t0 t1 t2 t3 t4:Tok} {sl:Array (Option Value)} (a:W.nsIn K mainGlobals "ALL_STEPS" = some (some (.ref ua))) (l:K.lookup ua=some ⟨.type "tuple",od,.seq #[.str "arg" t0,.str "res" t1,.str "item" t2,.str "one" t3,.str "two" t4] n,sl⟩):gA K:=
 ⟨ua,a,_,_,n,l,rfl,rfl,by show 5≤sizeLine;decide,.cons ⟨t0,rfl⟩ (.cons ⟨t1,rfl⟩ (.cons ⟨t2,rfl⟩ (.cons ⟨t3,rfl⟩ (.cons ⟨t4,rfl⟩ (.nil)))))⟩
def kC (K:W.Frag):Prop:=∃ ua,W.nsIn K mainGlobals "UNTOLD" = some (some (.ref ua))∧Kt K ua [.str "?"]
theorem tup_UNTOLD {K:W.Frag} {ua:Addr} {od:Option Addr} {n:Nat} {tk:Tok} {sl:Array (Option Value)} (a:W.nsIn K mainGlobals "UNTOLD" = some (some (.ref ua))) (l:K.lookup ua=some ⟨.type "tuple",od,.seq #[.str "?" tk] n,sl⟩):kC K:=
 ⟨ua,a,_,_,n,l,rfl,rfl,by show 1≤sizeLine;decide,.cons ⟨tk,rfl⟩ .nil⟩
def T_WHOLE (K:W.Frag):Prop:=∃ ua,W.nsIn K mainGlobals "WHOLE" = some (some (.ref ua))∧Kt K ua [.str "whole"]
theorem tup_WHOLE {K:W.Frag} {ua:Addr} {od:Option Addr} {n:Nat} {tk:Tok} {sl:Array (Option Value)} (a:W.nsIn K mainGlobals "WHOLE" = some (some (.ref ua))) (l:K.lookup ua=some ⟨.type "tuple",od,.seq #[.str "whole" tk] n,sl⟩):T_WHOLE K:=
 ⟨ua,a,_,_,n,l,rfl,rfl,by show 1≤sizeLine;decide,.cons ⟨tk,rfl⟩ .nil⟩
def T_TRUTH (K:W.Frag):Prop:=∃ ua,W.nsIn K mainGlobals "TRUTH" = some (some (.ref ua))∧Kt K ua [.str "truth"]
theorem tup_TRUTH {K:W.Frag} {ua:Addr} {od:Option Addr} {n:Nat} {tk:Tok} {sl:Array (Option Value)} (a:W.nsIn K mainGlobals "TRUTH" = some (some (.ref ua))) (l:K.lookup ua=some ⟨.type "tuple",od,.seq #[.str "truth" tk] n,sl⟩):T_TRUTH K:=
 ⟨ua,a,_,_,n,l,rfl,rfl,by show 1≤sizeLine;decide,.cons ⟨tk,rfl⟩ .nil⟩
def B_STEPS (K:W.Frag):Prop:=∃ fa,W.nsIn K mainGlobals "STEPS" = some (some (.ref fa))∧KTD.tabLook (jq K) (fun b=>K.lookup b) fa fA=true
theorem tab_STEPS {K:W.Frag} {fa:Addr} (a:W.nsIn K mainGlobals "STEPS" = some (some (.ref fa))) (h:KTD.tabLook (jq K) (fun b=>K.lookup b) fa fA=true):B_STEPS K:=⟨fa,a,h⟩
def B_FORMS (K:W.Frag):Prop:=∃ fa,W.nsIn K mainGlobals "FORMS" = some (some (.ref fa))∧KTD.tabLook (gE K) (fun b=>K.lookup b) fa K11.table=true
theorem tab_FORMS {K:W.Frag} {fa:Addr} (a:W.nsIn K mainGlobals "FORMS" = some (some (.ref fa))) (h:KTD.tabLook (gE K) (fun b=>K.lookup b) fa K11.table=true):B_FORMS K:=⟨fa,a,h⟩
def eN (K:W.Frag):Prop:=∃ fa,W.nsIn K mainGlobals "SURE_KINDS" = some (some (.ref fa))∧KTD.tabLook (ce K) (fun b=>K.lookup b) fa dSK=true
theorem tab_SURE_KINDS {K:W.Frag} {fa:Addr} (a:W.nsIn K mainGlobals "SURE_KINDS" = some (some (.ref fa))) (h:KTD.tabLook (ce K) (fun b=>K.lookup b) fa dSK=true):eN K:=⟨fa,a,h⟩
def gz (K:W.Frag):Prop:=∃ fa,W.nsIn K mainGlobals "TAKEN_OUT" = some (some (.ref fa))∧KTD.tabLook (ce K) (fun b=>K.lookup b) fa dTO=true
theorem tab_TAKEN_OUT {K:W.Frag} {fa:Addr} (a:W.nsIn K mainGlobals "TAKEN_OUT" = some (some (.ref fa))) (h:KTD.tabLook (ce K) (fun b=>K.lookup b) fa dTO=true):gz K:=⟨fa,a,h⟩
def kq (K:W.Frag):Prop:=∃ fa,W.nsIn K mainGlobals "NEEDED" = some (some (.ref fa))∧KTD.tabLook (ce K) (fun b=>K.lookup b) fa dND=true
theorem tab_NEEDED {K:W.Frag} {fa:Addr} (a:W.nsIn K mainGlobals "NEEDED" = some (some (.ref fa))) (h:KTD.tabLook (ce K) (fun b=>K.lookup b) fa dND=true):kq K:=⟨fa,a,h⟩
def eP (K:W.Frag):Prop:=∃ tk,W.nsIn K mainGlobals "MOST_DEPTH" = some (some (.int 4 tk))
theorem int_MOST_DEPTH {K:W.Frag} {tk:Tok} (a:W.nsIn K mainGlobals "MOST_DEPTH" = some (some (.int 4 tk))):eP K:=⟨tk,a⟩
theorem noneX {P:Program} {w:World} {K:W.Frag} {mg:Str→Option Value} {base:Heap} {f:Addr} {fd:FuncData} {k:Nat} {ps:List Str} {sp:Sp} (no:∀ vs H Q E,¬ sp vs H Q E):aY P w K mg base (CXF P w) k f fd ps sp:=⟨fun vs H Q E h=>absurd h (no vs H Q E),fun A outer s H args us vs Q E _ _ _ _ h=>absurd h (no vs H Q E)⟩
theorem hX {P:Program} {w:World} {K:W.Frag} {mg:Str→Option Value} {base:Heap} {f C:Addr} {fd:FuncData} {x:Str} {ps:List Str} {sp:Nat→Sp} (lv:Nat→Nat) (b:aJ K fd ps []) (M:jO K C x f) (no:∀ vs H Q E,¬ sp 0 vs H Q E)
 (step:∀ n,eC P w K mg base C x ps (lv n) (sp n)→aY P w K mg base (CXF P w) (lv (n+1)) f fd ps (sp (n+1))):∀ n,eC P w K mg base C x ps (lv n) (sp n)
 | 0=>⟨⟨f,fd,noneX no,b,M⟩⟩
 | n+1=>⟨⟨f,fd,step n (hX lv b M no step n),b,M⟩⟩
structure XD (K:W.Frag) (C fI:Addr) (qn:Str) (sti:Stmt):Prop where
 own:iO K C fI veB "ValueError.__new__"
 ini:∃ fd,Fun K "__init__" qn sti fI fd
 st:kB K C
 kp:W.keepIn K (.ref C)=true
 ty:W.typeIn K (.ref C)=some (.type "type")
 be:W.mroIn K C (.type "BaseException")=some true
structure XX (K:W.Frag) (Cp Ct B fP fT D1 D2 D5:Addr):Prop where
 aP:W.nsIn K mainGlobals "Parted" = some (some (.ref Cp))
 aT:W.nsIn K mainGlobals "TooDeep" = some (some (.ref Ct))
 aB:W.nsIn K mainGlobals "BlameError" = some (some (.ref B))
 aD1:W.nsIn K mainGlobals "NoFit" = some (some (.ref D1))
 aD2:W.nsIn K mainGlobals "NoLook" = some (some (.ref D2))
 aD5:W.nsIn K mainGlobals "NoName" = some (some (.ref D5))
 xp:XD K Cp fP "Parted.__init__" gg
 xt:XD K Ct fT "TooDeep.__init__" gf
 yp:Xc K B Cp D1 D2 D5
 yt:Xc K B Ct D1 D2 D5
 bc:kA K B
 bi:BInit K B
 f1P:W.findIn K (.ref Cp) "place" = some none
 f2P:W.findIn K (.ref Cp) "kind" = some none
 f3P:W.findIn K (.ref Cp) "by" = some none
 f4P:W.findIn K (.ref Cp) "wanted" = some none
 f5P:W.findIn K (.ref Cp) "way" = some none
 f1T:W.findIn K (.ref Ct) "place" = some none
 tp:W.kitOne K (.ref Ct) (.ref Cp)=some false
 tt:W.kitOne K (.ref Ct) (.ref Ct)=some true
 pp:W.kitOne K (.ref Cp) (.ref Cp)=some true
 pt:W.kitOne K (.ref Cp) (.ref Ct)=some false
def X_Cls (K:W.Frag):Prop:=∃ Cp Ct B fP fT D1 D2 D5:Addr,XX K Cp Ct B fP fT D1 D2 D5
theorem x_Cls {K:W.Frag} {Cp Ct B fP fT D1 D2 D5:Addr} {nmP qP:Str} {NP:Addr} {bsP bmP:List Value} {hdctP:Bool} {snP:List Str} {subP:List Value} {abP:Bool} {colP:Option Bool} {ddP:Option Addr} {k0P k1P k2P k3P k5P:Option Value} {nmT qT:Str} {NT:Addr} {bsT bmT:List Value} {hdctT:Bool} {snT:List Str} {subT:List Value} {abT:Bool} {colT:Option Bool} {ddT:Option Addr} {k0T k1T k2T k3T k5T:Option Value} {ofdP anfP:Option Addr} {slfP:Array (Option Value)} {ocfP kVfP dcfP pmfP cdfP ctfP:Value} {ofdT anfT:Option Addr} {slfT:Array (Option Value)} {ocfT kVfT dcfT pmfT cdfT ctfT:Value}
 (aP:W.nsIn K mainGlobals "Parted" = some (some (.ref Cp))) (aT:W.nsIn K mainGlobals "TooDeep" = some (some (.ref Ct))) (aB:W.nsIn K mainGlobals "BlameError" = some (some (.ref B))) (aD1:W.nsIn K mainGlobals "NoFit" = some (some (.ref D1))) (aD2:W.nsIn K mainGlobals "NoLook" = some (some (.ref D2))) (aD5:W.nsIn K mainGlobals "NoName" = some (some (.ref D5))) (lP:K.lookup Cp=some (excClassObj nmP qP Cp NP bsP bmP hdctP snP subP abP colP ddP k0P k1P k2P k3P k5P "ValueError.__new__")) (lT:K.lookup Ct=some (excClassObj nmT qT Ct NT bsT bmT hdctT snT subT abT colT ddT k0T k1T k2T k3T k5T "ValueError.__new__"))
 (tP:W.tailIn K [.type "ValueError",.type "Exception",.type "BaseException",.type "object"] bmP=true) (iniP:W.findIn K (.ref Cp) "__init__" = some (some (.ref fP))) (flP:K.lookup fP=some ⟨ocfP,ofdP,.func (W.fnOf "__init__" "Parted.__init__" (bW gg) (bJ gg) (aw gg) .none kVfP dcfP pmfP anfP cdfP ctfP),slfP⟩) (fnP:W.isFn K (.ref fP)=true) (fcP:W.codeIn K cdfP "Parted.__init__" = true) (fkP:W.keepIn K (.ref fP)=true) (gaP:W.findIn K (.ref Cp) "__getattribute__" = some (some (.builtin "BaseException.__getattribute__"))) (gnP:W.findIn K (.ref Cp) "__getattr__" = some none) (clP:W.findIn K (.ref Cp) "__class__" = some (some (.builtin "object.__class__"))) (sgP:W.specialIn K (.builtin "object.__class__") "__get__" = some (some (.builtin "getset_descriptor.__get__"))) (tkP:W.takesIn K (.builtin "object.__class__")=some true) (obP:W.mroIn K Cp (.type "object")=some true) (beP:W.mroIn K Cp (.type "BaseException")=some true) (isP:(W.clsIn K Cp).isSome=true) (kpP:W.keepIn K (.ref Cp)=true) (tyCP:W.typeIn K (.ref Cp)=some (.type "type")) (saP:W.findIn K (.ref Cp) "__setattr__" = some (some (.builtin "object.__setattr__"))) (ovP:((W.clsIn K Cp).any fun cd=>jt veB cd.mro)=true) (hdcP:((W.clsIn K Cp).any fun cd=>cd.hasDict)=true) (hhP:W.hasDictIn K Cp=true) (f1P:W.findIn K (.ref Cp) "place" = some none) (f2P:W.findIn K (.ref Cp) "kind" = some none) (f3P:W.findIn K (.ref Cp) "by" = some none) (f4P:W.findIn K (.ref Cp) "wanted" = some none) (f5P:W.findIn K (.ref Cp) "way" = some none) (hmP:W.mroIn K Cp (.ref B)=some true) (i1P:W.kitOne K (.ref Cp) (.ref D1)=some false) (i2P:W.kitOne K (.ref Cp) (.ref D2)=some false) (i5P:W.kitOne K (.ref Cp) (.ref D5)=some false) (i8P:W.kitOne K (.ref Cp) (.type "ValueError")=some true) (tT:W.tailIn K [.type "ValueError",.type "Exception",.type "BaseException",.type "object"] bmT=true) (iniT:W.findIn K (.ref Ct) "__init__" = some (some (.ref fT))) (flT:K.lookup fT=some ⟨ocfT,ofdT,.func (W.fnOf "__init__" "TooDeep.__init__" (bW gf) (bJ gf) (aw gf) .none kVfT dcfT pmfT anfT cdfT ctfT),slfT⟩) (fnT:W.isFn K (.ref fT)=true) (fcT:W.codeIn K cdfT "TooDeep.__init__" = true) (fkT:W.keepIn K (.ref fT)=true) (gaT:W.findIn K (.ref Ct) "__getattribute__" = some (some (.builtin "BaseException.__getattribute__"))) (gnT:W.findIn K (.ref Ct) "__getattr__" = some none) (clT:W.findIn K (.ref Ct) "__class__" = some (some (.builtin "object.__class__"))) (sgT:W.specialIn K (.builtin "object.__class__") "__get__" = some (some (.builtin "getset_descriptor.__get__"))) (tkT:W.takesIn K (.builtin "object.__class__")=some true) (obT:W.mroIn K Ct (.type "object")=some true) (beT:W.mroIn K Ct (.type "BaseException")=some true) (isT:(W.clsIn K Ct).isSome=true) (kpT:W.keepIn K (.ref Ct)=true) (tyCT:W.typeIn K (.ref Ct)=some (.type "type")) (saT:W.findIn K (.ref Ct) "__setattr__" = some (some (.builtin "object.__setattr__"))) (ovT:((W.clsIn K Ct).any fun cd=>jt veB cd.mro)=true) (hdcT:((W.clsIn K Ct).any fun cd=>cd.hasDict)=true) (hhT:W.hasDictIn K Ct=true) (f1T:W.findIn K (.ref Ct) "place" = some none) (hmT:W.mroIn K Ct (.ref B)=some true) (i1T:W.kitOne K (.ref Ct) (.ref D1)=some false) (i2T:W.kitOne K (.ref Ct) (.ref D2)=some false) (i5T:W.kitOne K (.ref Ct) (.ref D5)=some false) (i8T:W.kitOne K (.ref Ct) (.type "ValueError")=some true) (b1:W.typeIn K (.ref B)=some (.type "type")) (b2:(W.clsIn K B).isSome=true) (b3:W.mroIn K B (.type "BaseException")=some true) (g1:W.specialIn K (.ref B) "__getattribute__" = some (some (.builtin "type.__getattribute__"))) (g2:W.readsIn K B (.type "type")=true) (g3:W.findCls K (.ref B) (.type "type") "__init__" = some (.val (.builtin "ValueError.__init__"))) (tp:W.kitOne K (.ref Ct) (.ref Cp)=some false) (tt:W.kitOne K (.ref Ct) (.ref Ct)=some true) (pp:W.kitOne K (.ref Cp) (.ref Cp)=some true) (pt:W.kitOne K (.ref Cp) (.ref Ct)=some false):X_Cls K:=
 ⟨Cp,Ct,B,fP,fT,D1,D2,D5,{ aP:=aP,aT:=aT,aB:=aB,aD1:=aD1,aD2:=aD2,aD5:=aD5,xp:={ own:=⟨⟨nmP,qP,NP,bsP,bmP,hdctP,snP,subP,abP,colP,ddP,k0P,k1P,k2P,k3P,k5P,lP,tP⟩,iniP,fnP⟩,ini:=⟨_,dN flP fcP fkP⟩,st:=⟨saP,ovP,hdcP,obP⟩,kp:=kpP,ty:=tyCP,be:=beP },yp:={ hm:=hmP,X:=⟨gaP,gnP,clP,sgP,tkP,obP,beP,isP⟩,hh:=hhP,i1:=i1P,i2:=i2P,i5:=i5P,i8:=i8P },xt:={ own:=⟨⟨nmT,qT,NT,bsT,bmT,hdctT,snT,subT,abT,colT,ddT,k0T,k1T,k2T,k3T,k5T,lT,tT⟩,iniT,fnT⟩,ini:=⟨_,dN flT fcT fkT⟩,st:=⟨saT,ovT,hdcT,obT⟩,kp:=kpT,ty:=tyCT,be:=beT },yt:={ hm:=hmT,X:=⟨gaT,gnT,clT,sgT,tkT,obT,beT,isT⟩,hh:=hhT,i1:=i1T,i2:=i2T,i5:=i5T,i8:=i8T },bc:=⟨b1,b2,b3⟩,bi:=⟨g1,g2,g3⟩,f1P:=f1P,f2P:=f2P,f3P:=f3P,f4P:=f4P,f5P:=f5P,f1T:=f1T,tp:=tp,tt:=tt,pp:=pp,pt:=pt }⟩
structure LC (K:W.Frag) (C fW fC fH fL fI:Addr):Prop where
 a:W.nsIn K mainGlobals "Looker" = some (some (.ref C))
 cls:Cls K C
 mk':Mk K C fI
 n1:cf K C "kinds"
 n2:cf K C "wanted"
 FW:∃ fd,Fun K "want" "Looker.want" jC fW fd
 MW:jO K C "want" fW
 FC:∃ fd,Fun K "hold_choice" "Looker.hold_choice" sHC fC fd
 MC:jO K C "hold_choice" fC
 FH:∃ fd,Fun K "hold" "Looker.hold" jA fH fd
 MH:jO K C "hold" fH
 FL:∃ fd,Fun K "look" "Looker.look" jB fL fd
 ML:jO K C "look" fL
 FI:∃ fd,Fun K "__init__" "Looker.__init__" sLI fI fd
def kE (K:W.Frag):Prop:=∃ C fW fC fH fL fI:Addr,LC K C fW fC fH fL fI
theorem x_Looker {K:W.Frag} {C fW fC fH fL fI:Addr} {ofdW anfW:Option Addr} {slfW:Array (Option Value)} {ocfW kVfW dcfW pmfW cdfW ctfW:Value} {ofdC anfC:Option Addr} {slfC:Array (Option Value)} {ocfC kVfC dcfC pmfC cdfC ctfC:Value} {ofdH anfH:Option Addr} {slfH:Array (Option Value)} {ocfH kVfH dcfH pmfH cdfH ctfH:Value} {ofdL anfL:Option Addr} {slfL:Array (Option Value)} {ocfL kVfL dcfL pmfL cdfL ctfL:Value} {ofdI anfI:Option Addr} {slfI:Array (Option Value)} {ocfI kVfI dcfI pmfI cdfI ctfI:Value}
 (a:W.nsIn K mainGlobals "Looker" = some (some (.ref C))) (pg:W.plainGet K C Str.empty=true) (hd:W.hasDictIn K C=true) (po:W.plainOver K C=true) (sa:W.findIn K (.ref C) "__setattr__" = some (some (.builtin "object.__setattr__"))) (mk:W.makesIn K C=true) (kp:W.keepIn K (.ref C)=true) (n1:W.findIn K (.ref C) "kinds" = some none) (n2:W.findIn K (.ref C) "wanted" = some none) (atW:W.findIn K (.ref C) "want" = some (some (.ref fW))) (flW:K.lookup fW=some ⟨ocfW,ofdW,.func (W.fnOf "want" "Looker.want" (bW jC) (bJ jC) (aw jC) .none kVfW dcfW pmfW anfW cdfW ctfW),slfW⟩) (fnW:W.isFn K (.ref fW)=true) (fcW:W.codeIn K cdfW "Looker.want" = true) (fkW:W.keepIn K (.ref fW)=true) (atC:W.findIn K (.ref C) "hold_choice" = some (some (.ref fC))) (flC:K.lookup fC=some ⟨ocfC,ofdC,.func (W.fnOf "hold_choice" "Looker.hold_choice" (bW sHC) (bJ sHC) (aw sHC) .none kVfC dcfC pmfC anfC cdfC ctfC),slfC⟩) (fnC:W.isFn K (.ref fC)=true) (fcC:W.codeIn K cdfC "Looker.hold_choice" = true) (fkC:W.keepIn K (.ref fC)=true) (atH:W.findIn K (.ref C) "hold" = some (some (.ref fH))) (flH:K.lookup fH=some ⟨ocfH,ofdH,.func (W.fnOf "hold" "Looker.hold" (bW jA) (bJ jA) (aw jA) .none kVfH dcfH pmfH anfH cdfH ctfH),slfH⟩) (fnH:W.isFn K (.ref fH)=true) (fcH:W.codeIn K cdfH "Looker.hold" = true) (fkH:W.keepIn K (.ref fH)=true) (atL:W.findIn K (.ref C) "look" = some (some (.ref fL))) (flL:K.lookup fL=some ⟨ocfL,ofdL,.func (W.fnOf "look" "Looker.look" (bW jB) (bJ jB) (aw jB) .none kVfL dcfL pmfL anfL cdfL ctfL),slfL⟩) (fnL:W.isFn K (.ref fL)=true) (fcL:W.codeIn K cdfL "Looker.look" = true) (fkL:W.keepIn K (.ref fL)=true) (atI:W.findIn K (.ref C) "__init__" = some (some (.ref fI))) (flI:K.lookup fI=some ⟨ocfI,ofdI,.func (W.fnOf "__init__" "Looker.__init__" (bW sLI) (bJ sLI) (aw sLI) .none kVfI dcfI pmfI anfI cdfI ctfI),slfI⟩) (fnI:W.isFn K (.ref fI)=true) (fcI:W.codeIn K cdfI "Looker.__init__" = true) (fkI:W.keepIn K (.ref fI)=true):kE K:=
 ⟨C,fW,fC,fH,fL,fI,{ a:=a,cls:=⟨pg,hd,po,sa⟩,mk':=⟨mk,atI,fnI,kp⟩,n1:=n1,n2:=n2,FW:=⟨_,dN flW fcW fkW⟩,MW:=⟨atW,fnW,fkW⟩,FC:=⟨_,dN flC fcC fkC⟩,MC:=⟨atC,fnC,fkC⟩,FH:=⟨_,dN flH fcH fkH⟩,MH:=⟨atH,fnH,fkH⟩,FL:=⟨_,dN flL fcL fkL⟩,ML:=⟨atL,fnL,fkL⟩,FI:=⟨_,dN flI fcI fkI⟩ }⟩
structure Txt (K:W.Frag):Prop where
 d_steps:bw K "steps" sSteps
 d_kinds_in:bw K "kinds_in" sKi
 d_with_kinds:bw K "with_kinds" sWk
 d_depth:bw K "depth" sDepth
 d_stepped:bw K "stepped" iF
 d_part:bw K "part" sPart
 d_parting:bw K "parting" iE
 d_join:bw K "join" sJoin
 d_form:bw K "form" sForm
 d_indexes:bw K "indexes" iD
 d_parts:bw K "parts" sParts
 d_written:bw K "written" sWr
 d_names_bound:bw K "names_bound" sNb
 d_need_bound:bw K "need_bound" sNB
 d_need_names:bw K "need_names" sNN
 d_need_same:bw K "need_same" sSm
 d_need_shallow:bw K "need_shallow" sN0
 d_bound_within:bw K "bound_within" sBW
 d_own_kind:bw K "own_kind" sOw
 d_wanted_kind:bw K "wanted_kind" sWa
 d_looked:bw K "looked" sLkd
 d_kind_of:bw K "kind_of" sKo
 d__law_steps:bw K "_law_steps" sLS
 d__law_parting:bw K "_law_parting" sLP
 d__law_more:bw K "_law_more" sMo
 d__law_shaped:bw K "_law_shaped" sSh
 d__law_written:bw K "_law_written" sWn
 d__law_names:bw K "_law_names" sNa
 d__law_depth:bw K "_law_depth" sLD
 d__law_join:bw K "_law_join" sLJ
 d__law_want:bw K "_law_want" sLW
 d__law_own:bw K "_law_own" sLO
 d__law_held:bw K "_law_held" sHe
 d__law_parts:bw K "_law_parts" sPt
 d__law_come_to:bw K "_law_come_to" sCT
 d__law_cell_at:bw K "_law_cell_at" sCell
 d__law_next:bw K "_law_next" sNext
 d__law_place:bw K "_law_place" sPlace
 d__law_kind:bw K "_law_kind" sKind
 d__law_leaf:bw K "_law_leaf" sLeaf
 d__law_any:bw K "_law_any" sAny
 d__law_words:bw K "_law_words" sWds
 d__law_told:bw K "_law_told" sTo
 d_law:bw K "law" sLaw
 x_Cls:X_Cls K
 x_Looker:kE K
 t_UNTOLD:kC K
 t_WHOLE:T_WHOLE K
 t_TRUTH:T_TRUTH K
 t_ALL_STEPS:gA K
 b_STEPS:B_STEPS K
 b_FORMS:B_FORMS K
 b_SURE_KINDS:eN K
 b_TAKEN_OUT:gz K
 b_NEEDED:kq K
 i_MOST_DEPTH:eP K
 z_len:W.nsIn K mainGlobals "len" = some none
 z_isinstance:W.nsIn K mainGlobals "isinstance" = some none
 z_list:W.nsIn K mainGlobals "list" = some none
 z_tuple:W.nsIn K mainGlobals "tuple" = some none
 z_int:W.nsIn K mainGlobals "int" = some none
 z_bool:W.nsIn K mainGlobals "bool" = some none
 z_str:W.nsIn K mainGlobals "str" = some none
 z_range:W.nsIn K mainGlobals "range" = some none
 z_zip:W.nsIn K mainGlobals "zip" = some none
 z_max:W.nsIn K mainGlobals "max" = some none
 z_enumerate:W.nsIn K mainGlobals "enumerate" = some none
 z_dict:W.nsIn K mainGlobals "dict" = some none
 z_ValueError:W.nsIn K mainGlobals "ValueError" = some none
theorem all_mk {l:W.OpenLaw} {w:World} {K:W.Frag} {h:Heap} {mg:Str→Option Value} {fa:Addr} (Y:K.In h) (G:h.Ns mainGlobals mg) (hfa:mg "law" = some (.ref fa)) (T:Txt K) :
 ∃ fd:FuncData,(∀ (s:Shared) (v:Value),BindsTo s fd ⟨[v],[]⟩ [("_law_script",v)])∧∀ base:Heap,K.In base→base.Ns mainGlobals mg→aY l.prog w K mg base CX0 24 fa fd ["_law_script"] (spLaw K):=by
 have X:Tx mg:=⟨W.mg_none_of Y G T.z_len,W.mg_none_of Y G T.z_isinstance,W.mg_none_of Y G T.z_list,W.mg_none_of Y G T.z_tuple,W.mg_none_of Y G T.z_int,W.mg_none_of Y G T.z_bool,W.mg_none_of Y G T.z_str,W.mg_none_of Y G T.z_range,W.mg_none_of Y G T.z_zip,W.mg_none_of Y G T.z_max,W.mg_none_of Y G T.z_enumerate,W.mg_none_of Y G T.z_dict,W.mg_none_of Y G T.z_ValueError⟩
 obtain ⟨fL,fdL,FL,aL⟩:=T.d_law
 have e:=hfa.symm.trans (W.mg_of Y G aL)
 cases e
 obtain ⟨Cp,Ct,B,fP,fT,D1,D2,D5,xx⟩:=T.x_Cls
 obtain ⟨fdP,FP⟩:=xx.xp.ini
 obtain ⟨fdT,FT⟩:=xx.xt.ini
 obtain ⟨CL,fW,fHC,fH,fLk,fLI,lc⟩:=T.x_Looker
 obtain ⟨fdW,FW⟩:=lc.FW
 obtain ⟨fdHC,FHC⟩:=lc.FC
 obtain ⟨fdH,FH⟩:=lc.FH
 obtain ⟨fdLk,FLk⟩:=lc.FL
 obtain ⟨fdLI,FLI⟩:=lc.FI
 have m_Looker:=W.mg_of Y G lc.a
 have m_Parted:=W.mg_of Y G xx.aP
 have m_TooDeep:=W.mg_of Y G xx.aT
 have m_BlameError:=W.mg_of Y G xx.aB
 have m_NoFit:=W.mg_of Y G xx.aD1
 have m_NoLook:=W.mg_of Y G xx.aD2
 have m_NoName:=W.mg_of Y G xx.aD5
 have b_initP:aJ K fdP ["self","place","kind","by","wanted","way"] []:=FP.binds fun _ _ _ _ _ _ us hl=>match us,hl with | [_,_,_,_,_,_],_=>rfl
 have b_initT:aJ K fdT ["self","place"] []:=FT.binds fun _ _ _ _ _ _ us hl=>match us,hl with | [_,_],_=>rfl
 have b_want:aJ K fdW ["self","node","kind"] []:=FW.binds fun _ _ _ _ _ _ us hl=>match us,hl with | [_,_,_],_=>rfl
 have b_hc:aJ K fdHC ["self","tree","found"] []:=FHC.binds fun _ _ _ _ _ _ us hl=>match us,hl with | [_,_,_],_=>rfl
 have b_hold:aJ K fdH ["self","tree","node","found"] []:=FH.binds fun _ _ _ _ _ _ us hl=>match us,hl with | [_,_,_,_],_=>rfl
 have b_look:aJ K fdLk ["self","tree","bound"] []:=FLk.binds fun _ _ _ _ _ _ us hl=>match us,hl with | [_,_,_],_=>rfl
 have b_LI:aJ K fdLI ["self"] []:=FLI.binds fun _ _ _ _ _ _ us hl=>match us,hl with | [_],_=>rfl
 obtain ⟨u_UNTOLD,aU_UNTOLD,k_UNTOLD⟩:=T.t_UNTOLD
 have m_UNTOLD:=W.mg_of Y G aU_UNTOLD
 obtain ⟨u_WHOLE,aU_WHOLE,k_WHOLE⟩:=T.t_WHOLE
 have m_WHOLE:=W.mg_of Y G aU_WHOLE
 obtain ⟨u_TRUTH,aU_TRUTH,k_TRUTH⟩:=T.t_TRUTH
 have m_TRUTH:=W.mg_of Y G aU_TRUTH
 obtain ⟨u_ALL_STEPS,aU_ALL_STEPS,k_ALL_STEPS⟩:=T.t_ALL_STEPS
 have m_ALL_STEPS:=W.mg_of Y G aU_ALL_STEPS
 obtain ⟨u_STEPS,aU_STEPS,k_STEPS⟩:=T.b_STEPS
 have m_STEPS:=W.mg_of Y G aU_STEPS
 obtain ⟨u_FORMS,aU_FORMS,k_FORMS⟩:=T.b_FORMS
 have m_FORMS:=W.mg_of Y G aU_FORMS
 obtain ⟨u_SURE_KINDS,aU_SURE_KINDS,k_SURE_KINDS⟩:=T.b_SURE_KINDS
 have m_SURE_KINDS:=W.mg_of Y G aU_SURE_KINDS
 obtain ⟨u_TAKEN_OUT,aU_TAKEN_OUT,k_TAKEN_OUT⟩:=T.b_TAKEN_OUT
 have m_TAKEN_OUT:=W.mg_of Y G aU_TAKEN_OUT
 obtain ⟨u_NEEDED,aU_NEEDED,k_NEEDED⟩:=T.b_NEEDED
 have m_NEEDED:=W.mg_of Y G aU_NEEDED
 obtain ⟨u_MOST_DEPTH,aU_MOST_DEPTH⟩:=T.i_MOST_DEPTH
 have m_MOST_DEPTH:=W.mg_of Y G aU_MOST_DEPTH
 obtain ⟨f_steps,fd_steps,F_steps,a_steps⟩:=T.d_steps
 have m_steps:=W.mg_of Y G a_steps
 have b_steps:aJ K fd_steps ["kind"] []:=F_steps.binds fun _ _ _ _ _ _ us hl=>match us,hl with | [_],_=>rfl
 obtain ⟨f_kinds_in,fd_kinds_in,F_kinds_in,a_kinds_in⟩:=T.d_kinds_in
 have m_kinds_in:=W.mg_of Y G a_kinds_in
 have b_kinds_in:aJ K fd_kinds_in ["kind"] []:=F_kinds_in.binds fun _ _ _ _ _ _ us hl=>match us,hl with | [_],_=>rfl
 obtain ⟨f_with_kinds,fd_with_kinds,F_with_kinds,a_with_kinds⟩:=T.d_with_kinds
 have m_with_kinds:=W.mg_of Y G a_with_kinds
 have b_with_kinds:aJ K fd_with_kinds ["kind","some"] []:=F_with_kinds.binds fun _ _ _ _ _ _ us hl=>match us,hl with | [_,_],_=>rfl
 obtain ⟨f_depth,fd_depth,F_depth,a_depth⟩:=T.d_depth
 have m_depth:=W.mg_of Y G a_depth
 have b_depth:aJ K fd_depth ["kind"] []:=F_depth.binds fun _ _ _ _ _ _ us hl=>match us,hl with | [_],_=>rfl
 obtain ⟨f_stepped,fd_stepped,F_stepped,a_stepped⟩:=T.d_stepped
 have m_stepped:=W.mg_of Y G a_stepped
 have b_stepped:aJ K fd_stepped ["kind","step"] []:=F_stepped.binds fun _ _ _ _ _ _ us hl=>match us,hl with | [_,_],_=>rfl
 obtain ⟨f_part,fd_part,F_part,a_part⟩:=T.d_part
 have m_part:=W.mg_of Y G a_part
 have b_part:aJ K fd_part ["kind","way"] []:=F_part.binds fun _ _ _ _ _ _ us hl=>match us,hl with | [_,_],_=>rfl
 obtain ⟨f_parting,fd_parting,F_parting,a_parting⟩:=T.d_parting
 have m_parting:=W.mg_of Y G a_parting
 have b_parting:aJ K fd_parting ["kind","other"] []:=F_parting.binds fun _ _ _ _ _ _ us hl=>match us,hl with | [_,_],_=>rfl
 obtain ⟨f_join,fd_join,F_join,a_join⟩:=T.d_join
 have m_join:=W.mg_of Y G a_join
 have b_join:aJ K fd_join ["kind","other"] []:=F_join.binds fun _ _ _ _ _ _ us hl=>match us,hl with | [_,_],_=>rfl
 obtain ⟨f_form,fd_form,F_form,a_form⟩:=T.d_form
 have m_form:=W.mg_of Y G a_form
 have b_form:aJ K fd_form ["word"] []:=F_form.binds fun _ _ _ _ _ _ us hl=>match us,hl with | [_],_=>rfl
 obtain ⟨f_indexes,fd_indexes,F_indexes,a_indexes⟩:=T.d_indexes
 have m_indexes:=W.mg_of Y G a_indexes
 have b_indexes:aJ K fd_indexes ["tree","sort"] []:=F_indexes.binds fun _ _ _ _ _ _ us hl=>match us,hl with | [_,_],_=>rfl
 obtain ⟨f_parts,fd_parts,F_parts,a_parts⟩:=T.d_parts
 have m_parts:=W.mg_of Y G a_parts
 have b_parts:aJ K fd_parts ["tree"] []:=F_parts.binds fun _ _ _ _ _ _ us hl=>match us,hl with | [_],_=>rfl
 obtain ⟨f_written,fd_written,F_written,a_written⟩:=T.d_written
 have m_written:=W.mg_of Y G a_written
 have b_written:aJ K fd_written ["tree"] []:=F_written.binds fun _ _ _ _ _ _ us hl=>match us,hl with | [_],_=>rfl
 obtain ⟨f_names_bound,fd_names_bound,F_names_bound,a_names_bound⟩:=T.d_names_bound
 have m_names_bound:=W.mg_of Y G a_names_bound
 have b_names_bound:aJ K fd_names_bound ["tree","number"] []:=F_names_bound.binds fun _ _ _ _ _ _ us hl=>match us,hl with | [_,_],_=>rfl
 obtain ⟨f_need_bound,fd_need_bound,F_need_bound,a_need_bound⟩:=T.d_need_bound
 have m_need_bound:=W.mg_of Y G a_need_bound
 have b_need_bound:aJ K fd_need_bound ["tree","bound"] []:=F_need_bound.binds fun _ _ _ _ _ _ us hl=>match us,hl with | [_,_],_=>rfl
 obtain ⟨f_need_names,fd_need_names,F_need_names,a_need_names⟩:=T.d_need_names
 have m_need_names:=W.mg_of Y G a_need_names
 have b_need_names:aJ K fd_need_names ["tree"] []:=F_need_names.binds fun _ _ _ _ _ _ us hl=>match us,hl with | [_],_=>rfl
 obtain ⟨f_need_same,fd_need_same,F_need_same,a_need_same⟩:=T.d_need_same
 have m_need_same:=W.mg_of Y G a_need_same
 have b_need_same:aJ K fd_need_same ["node","kind","against","wanted"] []:=F_need_same.binds fun _ _ _ _ _ _ us hl=>match us,hl with | [_,_,_,_],_=>rfl
 obtain ⟨f_need_shallow,fd_need_shallow,F_need_shallow,a_need_shallow⟩:=T.d_need_shallow
 have m_need_shallow:=W.mg_of Y G a_need_shallow
 have b_need_shallow:aJ K fd_need_shallow ["tree","kind"] []:=F_need_shallow.binds fun _ _ _ _ _ _ us hl=>match us,hl with | [_,_],_=>rfl
 obtain ⟨f_bound_within,fd_bound_within,F_bound_within,a_bound_within⟩:=T.d_bound_within
 have m_bound_within:=W.mg_of Y G a_bound_within
 have b_bound_within:aJ K fd_bound_within ["tree","number","found","bound"] []:=F_bound_within.binds fun _ _ _ _ _ _ us hl=>match us,hl with | [_,_,_,_],_=>rfl
 obtain ⟨f_own_kind,fd_own_kind,F_own_kind,a_own_kind⟩:=T.d_own_kind
 have m_own_kind:=W.mg_of Y G a_own_kind
 have b_own_kind:aJ K fd_own_kind ["tree","found","bound"] []:=F_own_kind.binds fun _ _ _ _ _ _ us hl=>match us,hl with | [_,_,_],_=>rfl
 obtain ⟨f_wanted_kind,fd_wanted_kind,F_wanted_kind,a_wanted_kind⟩:=T.d_wanted_kind
 have m_wanted_kind:=W.mg_of Y G a_wanted_kind
 have b_wanted_kind:aJ K fd_wanted_kind ["tree","found"] []:=F_wanted_kind.binds fun _ _ _ _ _ _ us hl=>match us,hl with | [_,_],_=>rfl
 obtain ⟨f_looked,fd_looked,F_looked,a_looked⟩:=T.d_looked
 have m_looked:=W.mg_of Y G a_looked
 have b_looked:aJ K fd_looked ["tree"] []:=F_looked.binds fun _ _ _ _ _ _ us hl=>match us,hl with | [_],_=>rfl
 obtain ⟨f_kind_of,fd_kind_of,F_kind_of,a_kind_of⟩:=T.d_kind_of
 have m_kind_of:=W.mg_of Y G a_kind_of
 have b_kind_of:aJ K fd_kind_of ["tree"] []:=F_kind_of.binds fun _ _ _ _ _ _ us hl=>match us,hl with | [_],_=>rfl
 obtain ⟨f__law_steps,fd__law_steps,F__law_steps,a__law_steps⟩:=T.d__law_steps
 have m__law_steps:=W.mg_of Y G a__law_steps
 have b__law_steps:aJ K fd__law_steps ["_law_head"] []:=F__law_steps.binds fun _ _ _ _ _ _ us hl=>match us,hl with | [_],_=>rfl
 obtain ⟨f__law_parting,fd__law_parting,F__law_parting,a__law_parting⟩:=T.d__law_parting
 have m__law_parting:=W.mg_of Y G a__law_parting
 have b__law_parting:aJ K fd__law_parting ["_law_kind_here","_law_other"] []:=F__law_parting.binds fun _ _ _ _ _ _ us hl=>match us,hl with | [_,_],_=>rfl
 obtain ⟨f__law_more,fd__law_more,F__law_more,a__law_more⟩:=T.d__law_more
 have m__law_more:=W.mg_of Y G a__law_more
 have b__law_more:aJ K fd__law_more ["_law_names_here","_law_word","_law_kind_here"] []:=F__law_more.binds fun _ _ _ _ _ _ us hl=>match us,hl with | [_,_,_],_=>rfl
 obtain ⟨f__law_shaped,fd__law_shaped,F__law_shaped,a__law_shaped⟩:=T.d__law_shaped
 have m__law_shaped:=W.mg_of Y G a__law_shaped
 have b__law_shaped:aJ K fd__law_shaped ["_law_kind_here","_law_shape"] []:=F__law_shaped.binds fun _ _ _ _ _ _ us hl=>match us,hl with | [_,_],_=>rfl
 obtain ⟨f__law_written,fd__law_written,F__law_written,a__law_written⟩:=T.d__law_written
 have m__law_written:=W.mg_of Y G a__law_written
 have b__law_written:aJ K fd__law_written ["_law_node"] []:=F__law_written.binds fun _ _ _ _ _ _ us hl=>match us,hl with | [_],_=>rfl
 obtain ⟨f__law_names,fd__law_names,F__law_names,a__law_names⟩:=T.d__law_names
 have m__law_names:=W.mg_of Y G a__law_names
 have b__law_names:aJ K fd__law_names ["_law_node","_law_names_here","_law_kinds"] []:=F__law_names.binds fun _ _ _ _ _ _ us hl=>match us,hl with | [_,_,_],_=>rfl
 obtain ⟨f__law_depth,fd__law_depth,F__law_depth,a__law_depth⟩:=T.d__law_depth
 have m__law_depth:=W.mg_of Y G a__law_depth
 have b__law_depth:aJ K fd__law_depth ["_law_kind_here"] []:=F__law_depth.binds fun _ _ _ _ _ _ us hl=>match us,hl with | [_],_=>rfl
 obtain ⟨f__law_join,fd__law_join,F__law_join,a__law_join⟩:=T.d__law_join
 have m__law_join:=W.mg_of Y G a__law_join
 have b__law_join:aJ K fd__law_join ["_law_kind_here","_law_other"] []:=F__law_join.binds fun _ _ _ _ _ _ us hl=>match us,hl with | [_,_],_=>rfl
 obtain ⟨f__law_want,fd__law_want,F__law_want,a__law_want⟩:=T.d__law_want
 have m__law_want:=W.mg_of Y G a__law_want
 have b__law_want:aJ K fd__law_want ["_law_node","_law_kinds"] []:=F__law_want.binds fun _ _ _ _ _ _ us hl=>match us,hl with | [_,_],_=>rfl
 obtain ⟨f__law_own,fd__law_own,F__law_own,a__law_own⟩:=T.d__law_own
 have m__law_own:=W.mg_of Y G a__law_own
 have b__law_own:aJ K fd__law_own ["_law_node","_law_names_here","_law_kinds"] []:=F__law_own.binds fun _ _ _ _ _ _ us hl=>match us,hl with | [_,_,_],_=>rfl
 obtain ⟨f__law_held,fd__law_held,F__law_held,a__law_held⟩:=T.d__law_held
 have m__law_held:=W.mg_of Y G a__law_held
 have b__law_held:aJ K fd__law_held ["_law_node","_law_inner","_law_kinds"] []:=F__law_held.binds fun _ _ _ _ _ _ us hl=>match us,hl with | [_,_,_],_=>rfl
 obtain ⟨f__law_parts,fd__law_parts,F__law_parts,a__law_parts⟩:=T.d__law_parts
 have m__law_parts:=W.mg_of Y G a__law_parts
 have b__law_parts:aJ K fd__law_parts ["_law_node"] []:=F__law_parts.binds fun _ _ _ _ _ _ us hl=>match us,hl with | [_],_=>rfl
 obtain ⟨f__law_come_to,fd__law_come_to,F__law_come_to,a__law_come_to⟩:=T.d__law_come_to
 have m__law_come_to:=W.mg_of Y G a__law_come_to
 have b__law_come_to:aJ K fd__law_come_to ["_law_node","_law_names_here"] []:=F__law_come_to.binds fun _ _ _ _ _ _ us hl=>match us,hl with | [_,_],_=>rfl
 obtain ⟨f__law_cell_at,fd__law_cell_at,F__law_cell_at,a__law_cell_at⟩:=T.d__law_cell_at
 have m__law_cell_at:=W.mg_of Y G a__law_cell_at
 have b__law_cell_at:aJ K fd__law_cell_at ["_law_script","_law_k"] []:=F__law_cell_at.binds fun _ _ _ _ _ _ us hl=>match us,hl with | [_,_],_=>rfl
 obtain ⟨f__law_next,fd__law_next,F__law_next,a__law_next⟩:=T.d__law_next
 have m__law_next:=W.mg_of Y G a__law_next
 have b__law_next:aJ K fd__law_next ["_law_deal"] []:=F__law_next.binds fun _ _ _ _ _ _ us hl=>match us,hl with | [_],_=>rfl
 obtain ⟨f__law_place,fd__law_place,F__law_place,a__law_place⟩:=T.d__law_place
 have m__law_place:=W.mg_of Y G a__law_place
 have b__law_place:aJ K fd__law_place ["_law_deal"] []:=F__law_place.binds fun _ _ _ _ _ _ us hl=>match us,hl with | [_],_=>rfl
 obtain ⟨f__law_kind,fd__law_kind,F__law_kind,a__law_kind⟩:=T.d__law_kind
 have m__law_kind:=W.mg_of Y G a__law_kind
 have b__law_kind:aJ K fd__law_kind ["_law_cell"] []:=F__law_kind.binds fun _ _ _ _ _ _ us hl=>match us,hl with | [_],_=>rfl
 obtain ⟨f__law_leaf,fd__law_leaf,F__law_leaf,a__law_leaf⟩:=T.d__law_leaf
 have m__law_leaf:=W.mg_of Y G a__law_leaf
 have b__law_leaf:aJ K fd__law_leaf ["_law_deal","_law_names_here","_law_cell"] []:=F__law_leaf.binds fun _ _ _ _ _ _ us hl=>match us,hl with | [_,_,_],_=>rfl
 obtain ⟨f__law_any,fd__law_any,F__law_any,a__law_any⟩:=T.d__law_any
 have m__law_any:=W.mg_of Y G a__law_any
 have b__law_any:aJ K fd__law_any ["_law_deal","_law_names_here","_law_room"] []:=F__law_any.binds fun _ _ _ _ _ _ us hl=>match us,hl with | [_,_,_],_=>rfl
 obtain ⟨f__law_words,fd__law_words,F__law_words,a__law_words⟩:=T.d__law_words
 have m__law_words:=W.mg_of Y G a__law_words
 have b__law_words:aJ K fd__law_words ["_law_cell"] []:=F__law_words.binds fun _ _ _ _ _ _ us hl=>match us,hl with | [_],_=>rfl
 obtain ⟨f__law_told,fd__law_told,F__law_told,a__law_told⟩:=T.d__law_told
 have m__law_told:=W.mg_of Y G a__law_told
 have b__law_told:aJ K fd__law_told ["_law_tree"] []:=F__law_told.binds fun _ _ _ _ _ _ us hl=>match us,hl with | [_],_=>rfl
 refine ⟨fdL,?_,fun base YB GB=>?_⟩
 ·obtain ⟨oc,od,kV,doc,pm,an,cdv,ct,osl,rfl,lk,hc⟩:=FL.ex
  exact fun s v=>.of_eq rfl
 have i_initP:aY l.prog w K mg base CX0 1 fP fdP ["self","place","kind","by","wanted","way"] (kj Cp):=ok_initP (n:=0) FP X xx.bi xx.xp.own m_BlameError xx.xp.st xx.f1P xx.f2P xx.f3P xx.f4P xx.f5P
 have i_initT:aY l.prog w K mg base CX0 1 fT fdT ["self","place"] (spInit Ct):=ok_initD (n:=0) FT X xx.bi xx.xt.own m_BlameError xx.xt.st xx.f1T
 have c_steps:Cal l.prog w K mg base "steps" ["kind"] 1 (gY K):=⟨⟨f_steps,fd_steps,ok_steps F_steps m_STEPS k_STEPS,b_steps,F_steps.kp,m_steps⟩⟩
 have c_kinds_in:Cal l.prog w K mg base "kinds_in" ["kind"] 1 (spKi K):=⟨⟨f_kinds_in,fd_kinds_in,ok_ki F_kinds_in X,b_kinds_in,F_kinds_in.kp,m_kinds_in⟩⟩
 have c_with_kinds:Cal l.prog w K mg base "with_kinds" ["kind","some"] 1 (spWk K):=⟨⟨f_with_kinds,fd_with_kinds,ok_wk F_with_kinds X,b_with_kinds,F_with_kinds.kp,m_with_kinds⟩⟩
 have c_depth:Cal l.prog w K mg base "depth" ["kind"] 10 (bY K 9):=bT (sp:=bY K) (fun n=>n+1) b_depth F_depth.kp m_depth lq (fun n ih=>ok_depth F_depth X c_kinds_in ih) 9
 have c_stepped:Cal l.prog w K mg base "stepped" ["kind","step"] 2 (gj K):=⟨⟨f_stepped,fd_stepped,ok_stepped (n:=0) F_stepped X m_UNTOLD k_UNTOLD m_ALL_STEPS k_ALL_STEPS c_steps c_kinds_in,b_stepped,F_stepped.kp,m_stepped⟩⟩
 have c_part:Cal l.prog w K mg base "part" ["kind","way"] 3 (km K):=⟨⟨f_part,fd_part,ok_part (n:=0) F_part X c_stepped,b_part,F_part.kp,m_part⟩⟩
 have c_parting:Cal l.prog w K mg base "parting" ["kind","other"] 9 (bA K 8):=bT (sp:=bA K) (fun n=>n+1) b_parting F_parting.kp m_parting iw (fun n ih=>ok_parting F_parting X m_UNTOLD k_UNTOLD c_steps c_kinds_in ih) 8
 have c_join:Cal l.prog w K mg base "join" ["kind","other"] 9 (eK K 8):=bT (sp:=eK K) (fun n=>n+1) b_join F_join.kp m_join no_join (fun n ih=>ok_join F_join X m_UNTOLD k_UNTOLD c_kinds_in c_with_kinds ih) 8
 have c_form:Cal l.prog w K mg base "form" ["word"] 1 (spForm K):=⟨⟨f_form,fd_form,ok_form F_form m_FORMS k_FORMS,b_form,F_form.kp,m_form⟩⟩
 have c_indexes:Cal l.prog w K mg base "indexes" ["tree","sort"] 2 (eg K):=⟨⟨f_indexes,fd_indexes,ok_indexes F_indexes X c_form,b_indexes,F_indexes.kp,m_indexes⟩⟩
 have c_parts:Cal l.prog w K mg base "parts" ["tree"] 3 (gW K):=⟨⟨f_parts,fd_parts,ok_parts F_parts X c_indexes,b_parts,F_parts.kp,m_parts⟩⟩
 have c_written:Cal l.prog w K mg base "written" ["tree"] 3 (spWr K):=⟨⟨f_written,fd_written,ok_Wr F_written X c_indexes,b_written,F_written.kp,m_written⟩⟩
 have c_names_bound:Cal l.prog w K mg base "names_bound" ["tree","number"] 1 (spNb K):=⟨⟨f_names_bound,fd_names_bound,ok_nb F_names_bound X,b_names_bound,F_names_bound.kp,m_names_bound⟩⟩
 have c_need_bound:Cal l.prog w K mg base "need_bound" ["tree","bound"] 13 (spNB K 9):=bT (sp:=spNB K) (fun n=>n+4) b_need_bound F_need_bound.kp m_need_bound no_NB (fun n ih=>ok_NB F_need_bound X c_parts c_names_bound ih) 9
 have c_need_names:Cal l.prog w K mg base "need_names" ["tree"] 14 (spNN K 9):=⟨⟨f_need_names,fd_need_names,ok_NN (m:=9) F_need_names X c_need_bound,b_need_names,F_need_names.kp,m_need_names⟩⟩
 have c_need_same:gK l.prog w K mg base "need_same" ["node","kind","against","wanted"] 10 (spSm K Cp):=⟨⟨f_need_same,fd_need_same,ok_Sm (n:=0) F_need_same X xx.xp.own i_initP b_initP m_Parted xx.xp.kp xx.xp.be xx.xp.ty c_parting,b_need_same,F_need_same.kp,m_need_same⟩⟩
 have c_need_shallow:gK l.prog w K mg base "need_shallow" ["tree","kind"] 11 (spN0 K Ct):=⟨⟨f_need_shallow,fd_need_shallow,ok_N0 (n:=0) F_need_shallow X xx.xt.own i_initT b_initT m_TooDeep xx.xt.kp xx.xt.be xx.xt.ty m_MOST_DEPTH c_depth,b_need_shallow,F_need_shallow.kp,m_need_shallow⟩⟩
 have c_bound_within:Cal l.prog w K mg base "bound_within" ["tree","number","found","bound"] 1 (spBW K):=⟨⟨f_bound_within,fd_bound_within,ok_BW F_bound_within X,b_bound_within,F_bound_within.kp,m_bound_within⟩⟩
 have c_own_kind:Cal l.prog w K mg base "own_kind" ["tree","found","bound"] 10 (spOw K):=⟨⟨f_own_kind,fd_own_kind,ok_Ow (n:=0) F_own_kind X m_WHOLE k_WHOLE m_TRUTH k_TRUTH m_SURE_KINDS k_SURE_KINDS m_TAKEN_OUT k_TAKEN_OUT c_part c_join,b_own_kind,F_own_kind.kp,m_own_kind⟩⟩
 have c_wanted_kind:Cal l.prog w K mg base "wanted_kind" ["tree","found"] 4 (spWa K):=⟨⟨f_wanted_kind,fd_wanted_kind,ok_Wa (n:=0) F_wanted_kind X m_WHOLE k_WHOLE m_TRUTH k_TRUTH m_NEEDED k_NEEDED c_part,b_wanted_kind,F_wanted_kind.kp,m_wanted_kind⟩⟩
 have M_want:CalM l.prog w K mg base CL "want" ["self","node","kind"] 1 (iI K CL):=⟨⟨fW,fdW,ok_Want (m:=0) FW lc.cls lc.n2,b_want,lc.MW⟩⟩
 have n_Looker:CalN l.prog w K mg base "Looker" CL 1 (spLI CL):=⟨⟨fLI,fdLI,ok_LI (m:=0) FLI lc.cls lc.n1 lc.n2,b_LI,lc.mk',m_Looker⟩⟩
 have M_hold_choice:eC l.prog w K mg base CL "hold_choice" ["self","tree","found"] 11 (spHC K CL Cp):=⟨⟨fHC,fdHC,ok_HC (m:=0) FHC X lc.cls M_want c_join c_need_same,b_hc,lc.MC⟩⟩
 have M_hold:eC l.prog w K mg base CL "hold" ["self","tree","node","found"] 12 (spHold K CL Cp):=⟨⟨fH,fdH,ok_Hold (m:=0) FH X lc.cls M_want M_hold_choice c_wanted_kind c_need_same,b_hold,lc.MH⟩⟩
 have M_look:∀ n,eC l.prog w K mg base CL "look" ["self","tree","bound"] (n+12) (gi K CL Cp Ct n):=hX (sp:=gi K CL Cp Ct) (fun n=>n+12) b_look lc.ML no_Look (fun n ih=>ok_Look (m:=n) FLk X lc.cls lc.n1 M_hold ih c_written c_need_shallow c_parts c_bound_within c_own_kind)
 have c_looked:gK l.prog w K mg base "looked" ["tree"] 21 (spLkd K Cp Ct):=⟨⟨f_looked,fd_looked,ok_Lkd (m:=0) F_looked X lc.cls lc.n1 lc.n2 n_Looker M_want (M_look 8) c_need_names,b_looked,F_looked.kp,m_looked⟩⟩
 have c_kind_of:gK l.prog w K mg base "kind_of" ["tree"] 22 (spKo K Cp Ct):=⟨⟨f_kind_of,fd_kind_of,ok_Ko (m:=0) F_kind_of X c_looked,b_kind_of,F_kind_of.kp,m_kind_of⟩⟩
 have c__law_steps:Cal l.prog w K mg base "_law_steps" ["_law_head"] 1 (spLS K):=⟨⟨f__law_steps,fd__law_steps,ok_LS F__law_steps X,b__law_steps,F__law_steps.kp,m__law_steps⟩⟩
 have c__law_parting:Cal l.prog w K mg base "_law_parting" ["_law_kind_here","_law_other"] 9 (bA K 8):=bT (sp:=bA K) (fun n=>n+1) b__law_parting F__law_parting.kp m__law_parting no_LP (fun n ih=>ok_LP F__law_parting X c__law_steps ih) 8
 have c__law_more:Cal l.prog w K mg base "_law_more" ["_law_names_here","_law_word","_law_kind_here"] 1 (spMo K):=⟨⟨f__law_more,fd__law_more,ok_Mo F__law_more X,b__law_more,F__law_more.kp,m__law_more⟩⟩
 have c__law_shaped:Cal l.prog w K mg base "_law_shaped" ["_law_kind_here","_law_shape"] 1 (spSh K):=⟨⟨f__law_shaped,fd__law_shaped,ok_Sh F__law_shaped X,b__law_shaped,F__law_shaped.kp,m__law_shaped⟩⟩
 have c__law_written:Cal l.prog w K mg base "_law_written" ["_law_node"] 1 (spWn K):=⟨⟨f__law_written,fd__law_written,ok_Wn F__law_written X,b__law_written,F__law_written.kp,m__law_written⟩⟩
 have c__law_names:Cal l.prog w K mg base "_law_names" ["_law_node","_law_names_here","_law_kinds"] 2 (spNa K):=⟨⟨f__law_names,fd__law_names,ok_Na (n:=0) F__law_names X c__law_more,b__law_names,F__law_names.kp,m__law_names⟩⟩
 have c__law_depth:Cal l.prog w K mg base "_law_depth" ["_law_kind_here"] 9 (bY K 9):=bT (sp:=bY K) (fun n=>n+0) b__law_depth F__law_depth.kp m__law_depth no_LD (fun n ih=>ok_LD F__law_depth X  ih) 9
 have c__law_join:Cal l.prog w K mg base "_law_join" ["_law_kind_here","_law_other"] 8 (spLJ K 8):=bT (sp:=spLJ K) (fun n=>n+0) b__law_join F__law_join.kp m__law_join no_LJ (fun n ih=>ok_LJ F__law_join X  ih) 8
 have c__law_want:Cal l.prog w K mg base "_law_want" ["_law_node","_law_kinds"] 2 (spLW K):=⟨⟨f__law_want,fd__law_want,ok_LW (n:=0) F__law_want X c__law_shaped,b__law_want,F__law_want.kp,m__law_want⟩⟩
 have c__law_own:Cal l.prog w K mg base "_law_own" ["_law_node","_law_names_here","_law_kinds"] 9 (spLO K):=⟨⟨f__law_own,fd__law_own,ok_LO (n:=0) F__law_own X c__law_shaped c__law_join,b__law_own,F__law_own.kp,m__law_own⟩⟩
 have c__law_held:Cal l.prog w K mg base "_law_held" ["_law_node","_law_inner","_law_kinds"] 10 (spHe K):=⟨⟨f__law_held,fd__law_held,ok_He (n:=0) F__law_held X c__law_want c__law_parting,b__law_held,F__law_held.kp,m__law_held⟩⟩
 have c__law_parts:Cal l.prog w K mg base "_law_parts" ["_law_node"] 1 (spPt K):=⟨⟨f__law_parts,fd__law_parts,ok_Pt (n:=0) F__law_parts X,b__law_parts,F__law_parts.kp,m__law_parts⟩⟩
 have c__law_come_to:Cal l.prog w K mg base "_law_come_to" ["_law_node","_law_names_here"] 18 (spCT K 8):=bT (sp:=spCT K) (fun n=>n+10) b__law_come_to F__law_come_to.kp m__law_come_to no_CT (fun n ih=>ok_CT F__law_come_to X c__law_written c__law_depth c__law_parts c__law_names c__law_held c__law_own ih) 8
 have c__law_cell_at:Cal l.prog w K mg base "_law_cell_at" ["_law_script","_law_k"] 1 (spCell K):=⟨⟨f__law_cell_at,fd__law_cell_at,ok_cell (n:=0) F__law_cell_at X,b__law_cell_at,F__law_cell_at.kp,m__law_cell_at⟩⟩
 have c__law_next:Cal l.prog w K mg base "_law_next" ["_law_deal"] 1 (spNext K):=⟨⟨f__law_next,fd__law_next,ok_next (n:=0) F__law_next X,b__law_next,F__law_next.kp,m__law_next⟩⟩
 have c__law_place:Cal l.prog w K mg base "_law_place" ["_law_deal"] 1 (gX K):=⟨⟨f__law_place,fd__law_place,ok_place (n:=0) F__law_place X,b__law_place,F__law_place.kp,m__law_place⟩⟩
 have c__law_kind:Cal l.prog w K mg base "_law_kind" ["_law_cell"] 1 (kl K):=⟨⟨f__law_kind,fd__law_kind,ok_kind (m:=0) F__law_kind X,b__law_kind,F__law_kind.kp,m__law_kind⟩⟩
 have c__law_leaf:Cal l.prog w K mg base "_law_leaf" ["_law_deal","_law_names_here","_law_cell"] 2 (spLeaf K):=⟨⟨f__law_leaf,fd__law_leaf,ok_leaf (n:=0) F__law_leaf X c__law_place,b__law_leaf,F__law_leaf.kp,m__law_leaf⟩⟩
 have c__law_any:Cal l.prog w K mg base "_law_any" ["_law_deal","_law_names_here","_law_room"] 8 (dR K 6):=bT (sp:=dR K) (fun n=>n+2) b__law_any F__law_any.kp m__law_any no_any (fun n ih=>ok_any F__law_any X c__law_next c__law_place c__law_leaf c__law_kind ih) 6
 have c__law_words:Cal l.prog w K mg base "_law_words" ["_law_cell"] 1 (spWds K):=⟨⟨f__law_words,fd__law_words,ok_words (n:=0) F__law_words X,b__law_words,F__law_words.kp,m__law_words⟩⟩
 have c__law_told:Cal l.prog w K mg base "_law_told" ["_law_tree"] 23 (spTo K):=⟨⟨f__law_told,fd__law_told,ok_To (n:=0) F__law_told X xx.bc m_BlameError xx.yp xx.yt m_NoFit m_NoLook m_NoName m_Parted m_TooDeep xx.tp xx.tt xx.pp xx.pt xx.f1T xx.f1P xx.f2P xx.f3P xx.f4P xx.f5P c_kind_of,b__law_told,F__law_told.kp,m__law_told⟩⟩
 exact ok_law (m:=0) FL X c__law_cell_at c__law_words c__law_any c__law_kind c__law_come_to c__law_told
theorem walk {l:W.OpenLaw} {q:Program} {loose:List Str} {XP:(Str→Option Value)→Heap→Prop} {YP:World→Heap→Prop} {d:DefRec} {K:Params→W.Frag} (hn:l.most=some 63) (hdf:d.params.defaults = [])
 (hY:∀ (w:World) (h:Heap),YP w h→(K w.params).In h)
 (F:∀ (w:World) (mg:Str→Option Value) (fa:Addr) (h:Heap),(K w.params).In h→h.Ns mainGlobals mg→mg d.name=some (.ref fa) →
  ∃ fd:FuncData,(∀ (s:Shared) (u:Value),BindsTo s fd ⟨[u],[]⟩ [("_law_script",u)])∧∀ base:Heap,(K w.params).In base→base.Ns mainGlobals mg→aY l.prog w (K w.params) mg base CX0 24 fa fd ["_law_script"] (spLaw (K w.params))) :
 W.WalkO q loose XP YP l.row.toRowW d [] (fun f vs=>PySem.call f vs):=
 L2.walk_of (n:=63) (k:=24) (x:="_law_script") (CX:=fun _=>CX0) (sp:=fun w=>spLaw (K w.params)) hn (by decide) hdf ⟨rfl,by decide,by decide⟩ hY F (fun _ _ a ns hl _ hS=>⟨a,ns,rfl,hS,hl,fun _=>rfl⟩) fun _ _ _ _ _ z=>z
end L2.K33
end
section
open PySem PySem.W PyProof.Rows
def PySem.W.Fast.tw16689261855725779047:Nat:=0
def PySem.W.Fast.tw14171695269958733186:Nat:=0
def PySem.W.Fast.tw2697760919759402382:Nat:=0
def PySem.W.Fast.tw977879744333308298:Nat:=0
def PySem.W.Fast.tw783719736644687314:Nat:=0
def PySem.W.Fast.tw3939307794433116711:Nat:=0
def PySem.W.Fast.tw13272182138819325357:Nat:=0
def PySem.W.Fast.tw13570651256529095066:Nat:=0
def PySem.W.Fast.tw12890835861270525514:Nat:=0
def PySem.W.Fast.tw5806952881486457651:Nat:=0
def PySem.W.Fast.tw5499348412376882739:Nat:=0
def PySem.W.Fast.tw12682488657440692434:Nat:=0
def PySem.W.Fast.tw11210748687521254368:Nat:=0
def PySem.W.Fast.tw6449705726959552111:Nat:=0
def PySem.W.Fast.tw8707127489070555478:Nat:=0
def PySem.W.Fast.tw14895044206062404057:Nat:=0
def PySem.W.Fast.tw9035501081301643638:Nat:=0
def PySem.W.Fast.tw10610229314551368378:Nat:=0
def PySem.W.Fast.tw16356050693363331689:Nat:=0
def PySem.W.Fast.tw9783278589905292375:Nat:=0
def PySem.W.Fast.tw796858973199282082:Nat:=0
def PySem.W.Fast.tw7150818384629271794:Nat:=0
def PySem.W.Fast.tw12755754633155129987:Nat:=0
def PySem.W.Fast.tw9352765740166367619:Nat:=0
def PySem.W.Fast.tw18371647034361513145:Nat:=0
def PySem.W.Fast.tw11113923295808935359:Nat:=0
def PySem.W.Fast.tw17850701534682483471:Nat:=0
def PySem.W.Fast.tw8750313656805377093:Nat:=0
def PySem.W.Fast.tw8422099254760406801:Nat:=0
def PySem.W.Fast.tw13775278307541216149:Nat:=0
def PySem.W.Fast.tw1074156880964550790:Nat:=0
def PySem.W.Fast.tw6382992734751508580:Nat:=0
def PySem.W.Fast.tw8856269793916126693:Nat:=0
def PySem.W.Fast.tw864027849792269304:Nat:=0
def PySem.W.Fast.tw11318011689560190772:Nat:=0
def PySem.W.Fast.tw152699708548531656:Nat:=0
def PySem.W.Fast.tw11399838859338192907:Nat:=0
def PySem.W.Fast.tw10453541940412452532:Nat:=0
def PySem.W.Fast.tw17998616809933610568:Nat:=0
def PySem.W.Fast.tw8612376731535190242:Nat:=0
def PySem.W.Fast.tw13398062236538589772:Nat:=0
def PySem.W.Fast.tw5048804772353102381:Nat:=0
def PySem.W.Fast.tw9765035849139164218:Nat:=0
def PySem.W.Fast.tw9659771346354091820:Nat:=0
def PySem.W.Fast.tw11252540735708891268:Nat:=0
def PySem.W.Fast.tw9743967050540232180:Nat:=0
def PySem.W.Fast.tw12370280282127284074:Nat:=0
def PySem.W.Fast.tw14960321784473800181:Nat:=0
def PySem.W.Fast.tw3029107862905946063:Nat:=0
def PySem.W.Fast.tw2573395469384301179:Nat:=0
def PySem.W.Fast.tw933804790942973956:Nat:=0
def PySem.W.Fast.tw6631621717852507265:Nat:=0
def PySem.W.Fast.tw16656452957056231223:Nat:=0
def PySem.W.Fast.tw5199927679760593948:Nat:=0
def PySem.W.Fast.tw17502559357188475014:Nat:=0
def PySem.W.Fast.tw1203738708990529681:Nat:=0
def PySem.W.Fast.tw13877400823422481659:Nat:=0
def PySem.W.Fast.tw4101164889235470059:Nat:=0
def PySem.W.Fast.tw1893166419154167791:Nat:=0
def PySem.W.Fast.tw3604187257744549354:Nat:=0
def PySem.W.Fast.tw14222663982628185233:Nat:=0
def PySem.W.Fast.tw16777380870458313259:Nat:=0
def PySem.W.Fast.tw3026625658488680340:Nat:=0
def PySem.W.Fast.tw14866608165269326370:Nat:=0
def PySem.W.Fast.tw4834746516505774270:Nat:=0
def PySem.W.Fast.tw7873352602867434435:Nat:=0
def PySem.W.Fast.tw8927878934924428121:Nat:=0
def PySem.W.Fast.tw9838148355943281531:Nat:=0
def PySem.W.Fast.tw8976824402049050647:Nat:=0
def PySem.W.Fast.tw6603945065424174561:Nat:=0
def PySem.W.Fast.tw18423949440293755769:Nat:=0
def PySem.W.Fast.tw4945397372458343956:Nat:=0
def PySem.W.Fast.tw1194879531645113144:Nat:=0
def PySem.W.Fast.tw13956263589905389006:Nat:=0
def PySem.W.Fast.tw16510644346021118642:Nat:=0
def PySem.W.Fast.tw15904103839697046252:Nat:=0
def PySem.W.Fast.tw12663536233749687233:Nat:=0
def PySem.W.Fast.tw15359549711778851780:Nat:=0
set_option maxRecDepth 100000 in
set_option maxHeartbeats 0 in
theorem PySem.Challenge.cw_blamewise_k33_refusals_holds : PySem.Challenge.rw_blamewise_k33_refusals.Holds := by
 w_on;o_law;k_head;(case hw=>w_witness2)
 k_fill
 refine L2.K33.walk (l:=PySem.Challenge.rw_blamewise_k33_refusals) rfl rfl (fun w h Y=>W.kIn_of Y) ?F
 case F=>
  intro w mg fa h KX G hmg
  have T:L2.K33.Txt (L2.KOf KX):=by
   dsimp only [L2.KOf]
   refine' L2.K33.Txt.mk  ?_ ?_ ?_ ?_ ?_ ?_ ?_ ?_ ?_ ?_ ?_ ?_ ?_ ?_ ?_ ?_ ?_ ?_ ?_ ?_ ?_ ?_ ?_ ?_ ?_ ?_ ?_ ?_ ?_ ?_ ?_ ?_ ?_ ?_ ?_ ?_ ?_ ?_ ?_ ?_ ?_ ?_ ?_ ?_ ?x_Cls ?x_Looker ?t_UNTOLD ?t_WHOLE ?t_TRUTH ?t_ALL_STEPS ?b_STEPS ?b_FORMS ?b_SURE_KINDS ?b_TAKEN_OUT ?b_NEEDED ?i_MOST_DEPTH ?_ ?_ ?_ ?_ ?_ ?_ ?_ ?_ ?_ ?_ ?_ ?_ ?_
   (case t_UNTOLD=>refine' L2.K33.tup_UNTOLD ?a ?l;(case a=>k_is);(case l=>k_is))
   (case t_WHOLE=>refine' L2.K33.tup_WHOLE ?a ?l;(case a=>k_is);(case l=>k_is))
   (case t_TRUTH=>refine' L2.K33.tup_TRUTH ?a ?l;(case a=>k_is);(case l=>k_is))
   (case t_ALL_STEPS=>refine' L2.K33.tup_ALL_STEPS ?a ?l;(case a=>k_is);(case l=>k_is))
   (case x_Cls=>refine' L2.K33.x_Cls ?aP ?aT ?aB ?aD1 ?aD2 ?aD5 ?lP ?lT ?tP ?iniP ?flP ?fnP ?fcP ?fkP ?gaP ?gnP ?clP ?sgP ?tkP ?obP ?beP ?isP ?kpP ?tyCP ?saP ?ovP ?hdcP ?hhP ?f1P ?f2P ?f3P ?f4P ?f5P ?hmP ?i1P ?i2P ?i5P ?i8P ?tT ?iniT ?flT ?fnT ?fcT ?fkT ?gaT ?gnT ?clT ?sgT ?tkT ?obT ?beT ?isT ?kpT ?tyCT ?saT ?ovT ?hdcT ?hhT ?f1T ?hmT ?i1T ?i2T ?i5T ?i8T ?b1 ?b2 ?b3 ?g1 ?g2 ?g3 ?tp ?tt ?pp ?pt;(case aP=>k_is);(case aT=>k_is);(case aB=>k_is);(case aD1=>k_is);(case aD2=>k_is);(case aD5=>k_is);(case lP=>k_is);(case lT=>k_is);(case tP=>kernel_rfl);(case iniP=>k_is);(case flP=>k_is);(case fnP=>k_is);(case fcP=>k_is);(case fkP=>k_is);(case gaP=>k_is);(case gnP=>k_is);(case clP=>k_is);(case sgP=>k_is);(case tkP=>k_is);(case obP=>k_is);(case beP=>k_is);(case isP=>kernel_rfl);(case kpP=>k_is);(case tyCP=>k_is);(case saP=>k_is);(case ovP=>kernel_rfl);(case hdcP=>kernel_rfl);(case hhP=>k_is);(case f1P=>k_is);(case f2P=>k_is);(case f3P=>k_is);(case f4P=>k_is);(case f5P=>k_is);(case hmP=>k_is);(case i1P=>kernel_rfl);(case i2P=>kernel_rfl);(case i5P=>kernel_rfl);(case i8P=>kernel_rfl);(case tT=>kernel_rfl);(case iniT=>k_is);(case flT=>k_is);(case fnT=>k_is);(case fcT=>k_is);(case fkT=>k_is);(case gaT=>k_is);(case gnT=>k_is);(case clT=>k_is);(case sgT=>k_is);(case tkT=>k_is);(case obT=>k_is);(case beT=>k_is);(case isT=>kernel_rfl);(case kpT=>k_is);(case tyCT=>k_is);(case saT=>k_is);(case ovT=>kernel_rfl);(case hdcT=>kernel_rfl);(case hhT=>k_is);(case f1T=>k_is);(case hmT=>k_is);(case i1T=>kernel_rfl);(case i2T=>kernel_rfl);(case i5T=>kernel_rfl);(case i8T=>kernel_rfl);(case b1=>k_is);(case b2=>kernel_rfl);(case b3=>k_is);(case g1=>k_is);(case g2=>kernel_rfl);(case g3=>kernel_rfl);(case tp=>kernel_rfl);(case tt=>kernel_rfl);(case pp=>kernel_rfl);(case pt=>kernel_rfl))
   (case x_Looker=>refine' L2.K33.x_Looker ?a ?pg ?hd ?po ?sa ?mk ?kp ?n1 ?n2 ?atW ?flW ?fnW ?fcW ?fkW ?atC ?flC ?fnC ?fcC ?fkC ?atH ?flH ?fnH ?fcH ?fkH ?atL ?flL ?fnL ?fcL ?fkL ?atI ?flI ?fnI ?fcI ?fkI;(case a=>k_is);(case pg=>k_is);(case hd=>k_is);(case po=>k_is);(case sa=>k_is);(case mk=>k_is);(case kp=>k_is);(case n1=>k_is);(case n2=>k_is);(case atW=>k_is);(case flW=>k_is);(case fnW=>k_is);(case fcW=>k_is);(case fkW=>k_is);(case atC=>k_is);(case flC=>k_is);(case fnC=>k_is);(case fcC=>k_is);(case fkC=>k_is);(case atH=>k_is);(case flH=>k_is);(case fnH=>k_is);(case fcH=>k_is);(case fkH=>k_is);(case atL=>k_is);(case flL=>k_is);(case fnL=>k_is);(case fcL=>k_is);(case fkL=>k_is);(case atI=>k_is);(case flI=>k_is);(case fnI=>k_is);(case fcI=>k_is);(case fkI=>k_is))
   (case b_STEPS=>refine' L2.K33.tab_STEPS ?a ?t;(case a=>k_is);(case t=>kernel_rfl))
   (case b_FORMS=>refine' L2.K33.tab_FORMS ?a ?t;(case a=>k_is);(case t=>kernel_rfl))
   (case b_SURE_KINDS=>refine' L2.K33.tab_SURE_KINDS ?a ?t;(case a=>k_is);(case t=>kernel_rfl))
   (case b_TAKEN_OUT=>refine' L2.K33.tab_TAKEN_OUT ?a ?t;(case a=>k_is);(case t=>kernel_rfl))
   (case b_NEEDED=>refine' L2.K33.tab_NEEDED ?a ?t;(case a=>k_is);(case t=>kernel_rfl))
   (case i_MOST_DEPTH=>refine' L2.K33.int_MOST_DEPTH ?a;(case a=>k_is))
   all_goals first | (refine' L2.K33.here_mk ?a ?l ?c ?k;(case a=>k_is);(case l=>k_is);(case c=>k_is);(case k=>k_is)) | k_is
  exact L2.K33.all_mk KX G hmg T
end
