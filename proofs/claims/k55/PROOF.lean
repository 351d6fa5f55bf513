import PyProof.Rows.All
import Wide.All
import OpenK.AllK
import Wide.FinOn
import Lean
import PyProof.EqAt
import PyProof.EqKinds
import PyProof.TupleCall
import KE.KTabLook
import KE.LcSums
import PyProof.ListMulRoad
import PySem.Challenge.RW_blamewise_k55_whole_many_laid
-- CHANGE: your row's module here, as the last of these rows
set_option Elab.async false
set_option linter.all false
set_option maxRecDepth 100000
/-! THE HAND LAYER, for ints, bools, texts, own classes, LISTS and tuples (index, slices, in, append, pop ..), calls, loops. Paste it whole ahead of your own text; what your proof does not reach may be deleted. -/
namespace L2
open PySem PySem.Spec PyProof.Rows

/-- a key: an int or a str -/
abbrev Key := Sum Int Str
def keyIs : Key → Value → Bool
  | .inl k, v => Value.isInt k v
  | .inr x, v => Value.isStrOf x v
def keyH (w : World) : Key → Int
  | .inl k => hashInt k
  | .inr x => hashStr w x
theorem keyIs_shape : ∀ {k : Key} {v : Value}, keyIs k v = true → (∃ i t, k = Sum.inl i ∧ v = Value.int i t) ∨ (∃ x t, k = Sum.inr x ∧ v = Value.str x t)
  | .inl i, v, h => by
    obtain ⟨t, e⟩ := Value.isInt_shape (k := i) (v := v) h
    exact .inl ⟨i, t, rfl, e⟩
  | .inr x, v, h => by
    obtain ⟨t, e⟩ := Value.isStrOf_shape (x := x) (v := v) h
    exact .inr ⟨x, t, rfl, e⟩
theorem key_ll (a b : Int) : decide ((Sum.inl a : Key) = Sum.inl b) = (a == b) := by
  by_cases e : a = b
  · subst e; simp
  · have h : ¬ (Sum.inl a : Key) = Sum.inl b := fun q => e (Sum.inl.inj q)
    rw [decide_eq_false h]
    exact (beq_eq_false_iff_ne.mpr e).symm
theorem key_rr (a b : Str) : decide ((Sum.inr a : Key) = Sum.inr b) = decide (a = b) := by
  by_cases e : a = b
  · subst e; simp
  · have h : ¬ (Sum.inr a : Key) = Sum.inr b := fun q => e (Sum.inr.inj q)
    rw [decide_eq_false h, decide_eq_false e]
theorem key_lr (a : Int) (b : Str) : decide ((Sum.inl a : Key) = Sum.inr b) = false := decide_eq_false (fun q => nomatch q)
theorem key_rl (a : Str) (b : Int) : decide ((Sum.inr a : Key) = Sum.inl b) = false := decide_eq_false (fun q => nomatch q)

def mixKind (prog : Program) (w : World) : PySem.KeyKind prog w Key where
  is := keyIs
  hash := keyH w
  inj := fun v a b ha hb => by
    rcases keyIs_shape ha with ⟨i, t, rfl, rfl⟩ | ⟨x, t, rfl, rfl⟩
    · rcases keyIs_shape hb with ⟨j, u, rfl, e⟩ | ⟨y, u, rfl, e⟩
      · injection e with e1 _; rw [e1]
      · exact nomatch e
    · rcases keyIs_shape hb with ⟨j, u, rfl, e⟩ | ⟨y, u, rfl, e⟩
      · exact nomatch e
      · injection e with e1 _; rw [e1]
  byValue := fun k v h => by
    rcases keyIs_shape h with ⟨i, t, rfl, rfl⟩ | ⟨x, t, rfl, rfl⟩ <;> rfl
  pyHash := fun hv h => by
    rcases keyIs_shape hv with ⟨i, t, rfl, rfl⟩ | ⟨x, t, rfl, rfl⟩
    · exact wpAny_pyHash_int h
    · exact wpAny_pyHash_str h
  eqBool := fun hu hv h => by
    rcases keyIs_shape hu with ⟨i, t, rfl, rfl⟩ | ⟨x, t, rfl, rfl⟩
    · rcases keyIs_shape hv with ⟨j, u, rfl, rfl⟩ | ⟨y, u, rfl, rfl⟩
      · rw [key_ll] at h; exact wpAny_eqBool_int h
      · rw [key_lr] at h; exact SeqAt.EqAt.int_str i t y u _ _ _ _ h
    · rcases keyIs_shape hv with ⟨j, u, rfl, rfl⟩ | ⟨y, u, rfl, rfl⟩
      · rw [key_rl] at h; exact SeqAt.EqAt.str_int x t j u _ _ _ _ h
      · rw [key_rr] at h; exact wpAny_eqBool_str h
  «strs» := fun k x t v h => by
    rcases keyIs_shape h with ⟨i, u, rfl, e⟩ | ⟨y, u, rfl, e⟩
    · exact nomatch e
    · injection e with e1 _
      subst e1
      cases v <;> rfl

end L2

namespace L2
open PySem PySem.Spec PyProof.Rows

/-- a value, without the heap -/
inductive V where
  | non | bl (b : Bool) | int (i : Int) | str (x : Str) | byt (b : Array UInt8) | flt (b : UInt64) | ref (a : Addr) | ty (n : String)
  deriving DecidableEq

def RelV : V → Value → Prop
  | .non, u => u = Value.none
  | .bl b, u => u = Value.bool b
  | .int i, u => ∃ t, u = Value.int i t
  | .str x, u => ∃ t, u = Value.str x t
  | .byt b, u => ∃ t, u = Value.bytes b t
  | .flt b, u => ∃ t, u = Value.float b t
  | .ref a, u => u = Value.ref a
  | .ty n, u => u = Value.type n

abbrev Vals : List V → List Value → Prop := Paired RelV
theorem Vals.length {xs : List V} {us : List Value} (r : Vals xs us) : xs.length = us.length := Paired.length r
theorem Vals.get : ∀ {xs : List V} {us : List Value} {i : Nat} {x : V}, Vals xs us → xs[i]? = some x → ∃ u, us[i]? = some u ∧ RelV x u
  | _, _, _, _, .nil, e => by simp at e
  | _, _, 0, _, .cons r _, e => by simp at e; subst e; exact ⟨_, rfl, r⟩
  | _, _, i + 1, x, .cons _ t, e => by
    obtain ⟨u, h1, h2⟩ := Vals.get (i := i) (x := x) t (by simpa using e)
    exact ⟨u, by simpa using h1, h2⟩
theorem Vals.set {x : V} {u : Value} (r : RelV x u) : ∀ {xs : List V} {us : List Value} (i : Nat), Vals xs us → Vals (xs.set i x) (us.set i u)
  | _, _, _, .nil => .nil
  | _, _, 0, .cons _ t => .cons r t
  | _, _, i + 1, .cons q t => .cons q (Vals.set r i t)
theorem Vals.append : ∀ {xs ys : List V} {us ws : List Value}, Vals xs us → Vals ys ws → Vals (xs ++ ys) (us ++ ws)
  | _, _, _, _, .nil, s => s
  | _, _, _, _, .cons r t, s => .cons r (Vals.append t s)
theorem Vals.take : ∀ {xs : List V} {us : List Value} (n : Nat), Vals xs us → Vals (xs.take n) (us.take n)
  | _, _, 0, _ => .nil
  | _, _, _ + 1, .nil => .nil
  | _, _, n + 1, .cons r t => .cons r (Vals.take n t)
theorem Vals.drop : ∀ {xs : List V} {us : List Value} (n : Nat), Vals xs us → Vals (xs.drop n) (us.drop n)
  | _, _, 0, r => r
  | _, _, _ + 1, .nil => .nil
  | _, _, n + 1, .cons _ t => Vals.drop n t
theorem Vals.none_of : ∀ {xs : List V} {us : List Value} {i : Nat}, Vals xs us → xs[i]? = none → us[i]? = none := fun {xs us i} r e => by
  have h1 := r.length
  have h2 : xs.length ≤ i := List.getElem?_eq_none_iff.mp e
  exact List.getElem?_eq_none_iff.mpr (by omega)

def RelO : Option V → Option Value → Prop
  | some v, some u => RelV v u
  | none, none => True
  | _, _ => False
def KV {κ : Type} : List (κ × V) → List (κ × Value) → Prop := Paired fun (p : κ × V) (q : κ × Value) => p.1 = q.1 ∧ RelV p.2 q.2

/-- a key of a dict (00_mix): an int or a text -/
def kV : Key → V
  | .inl i => .int i
  | .inr x => .str x

/-- what stands at a tracked address -/
inductive HO where
  /-- a list -/
  | lst (xs : List V)
  /-- a tuple (never changes) -/
  | tup (xs : List V)
  /-- a dict whose keys are ints and texts; one whose keys are tuples of ints and texts (the empty one is both) -/
  | dK (kvs : List (Key × V)) | dT (kvs : List (List Key × V))
  /-- a set of ints: its members, its size -/
  | set (S : Int → Bool) (n : Nat)
  /-- an instance of the class at C, its dict at dx, its attributes -/
  | ins (C dx : Addr) (fs : List (Str × V))
  /-- the dict of the instance at x -/
  | own (x : Addr)
  /-- the dict of an exception -/
  | xd (fs : List (Str × V))
  /-- a bound method, f of x -/
  | met (f x : Addr)
  /-- a range object lo, lo + 1, .. below hi -/
  | rng (lo hi : Int)
  /-- a thing that is known to the object (the script; a dict while a loop walks it): read, never written while it is so -/
  | frz (o : Obj) (u : HO)
  /-- a code object's table -/
  | tbl (ps : Array Value)
  /-- any other thing, by what is true of its one object (a def of one's own: SetO a S n := HO.ext fun h => ..) -/
  | ext (φ : Heap → Prop)

abbrev Hp := Addr → Option HO
def upd (H : Hp) (a : Addr) (o : HO) : Hp := fun b => if b = a then some o else H b
theorem upd_same {H : Hp} {a : Addr} {o : HO} : upd H a o a = some o := by unfold upd; rw [if_pos rfl]
theorem upd_ne {H : Hp} {a b : Addr} {o : HO} (h : b ≠ a) : upd H a o b = H b := by unfold upd; rw [if_neg h]
theorem ne_of_none {H : Hp} {a b : Addr} {o : HO} (h : H a = some o) (h' : H b = none) : a ≠ b := by
  intro e; subst e; rw [h] at h'; cases h'

section
variable (P : Program) (w : World)
def ObjOk (H : Hp) (h : Heap) (a : Addr) : HO → Prop
  | .lst xs => xs.length ≤ sizeLine ∧ ∃ (its : List Value) (n : Nat), Vals xs its ∧ h.get? a = some { cls := .type "list", data := .seq its.toArray n }
  | .tup xs => xs.length ≤ sizeLine ∧ ∃ its : List Value, Vals xs its ∧ IsTup h a its.toArray
  | .dK kvs => kvs.length ≤ sizeLine ∧ (a == sysModules) = false ∧ ∃ vs, KV kvs vs ∧ h.DictOf (mixKind P w) a vs
  | .dT kvs => kvs.length ≤ sizeLine ∧ (a == sysModules) = false ∧ ∃ xs : List (List Key × Addr × Value),
      Paired (fun (p : List Key × V) (q : List Key × Addr × Value) => p.1 = q.1 ∧ H q.2.1 = some (.tup (p.1.map kV)) ∧ RelV p.2 q.2.2) kvs xs ∧
      ∃ o es ep, h.get? a = some o ∧ o.ExactDict ∧ o.data = .dict es ep ∧ es.toList = xs.map (entryOfKey (tupleKind (mixKind P w))) ∧ (xs.map (·.1)).Nodup
  | .set S n => h.SetOf (intKind P w) a S n
  | .ins C dx fs => H dx = some (.own a) ∧ fs.length ≤ 1000 ∧ dx ≠ a ∧ h.get? a = some (PySem.W.instObj C dx) ∧
      ∃ mA, h.Ns1 dx mA ∧ (∀ f, RelO (fs.lookup f) (mA f)) ∧ PySem.Within mA (fs.map (·.1))
  | .own _ => ∃ o, h.get? a = some o
  | .xd fs => ∃ mA, h.Ns1 a mA ∧ ∀ f, RelO (fs.lookup f) (mA f)
  | .rng lo hi => ∃ t u v, h.get? a = some { cls := .type "range", data := .fields #[.int lo t, .int hi u, .int 1 v] }
  | .frz o u => h.get? a = some o ∧ ObjOk H h a u
  | .tbl ps => h.get? a = some { cls := .none, data := .fields ps }
  | .met f x => h.get? a = some (PySem.W.methodObj (.ref f) (.ref x))
  | .ext φ => φ h ∧ (∃ o, h.get? a = some o) ∧ ∀ h1 h2 : Heap, φ h1 → (∀ o, h1.get? a = some o → h2.get? a = some o) → φ h2
/-- the abstract heap is held -/
def HOk (H : Hp) (h : Heap) : Prop := ∀ a o, H a = some o → ObjOk P w H h a o
end

section
variable {P : Program} {w : World} {H H' : Hp} {h h' : Heap} {a : Addr} {o : HO}
theorem ObjOk.lt (x : ObjOk P w H h a o) : a < h.objs.size := by
  cases o with
  | lst xs => obtain ⟨_, _, _, _, e⟩ := x; exact Heap.lt_size e
  | tup xs => obtain ⟨_, _, _, p⟩ := x; exact p.lt
  | dK kvs => obtain ⟨_, _, _, _, o, _, _, e, _⟩ := x; exact Heap.lt_size e
  | dT kvs => obtain ⟨_, _, _, _, o, _, _, e, _⟩ := x; exact Heap.lt_size e
  | set S n => obtain ⟨o, _, _, _, e, _⟩ := x; exact Heap.lt_size e
  | ins C dx fs => obtain ⟨_, _, _, e, _⟩ := x; exact Heap.lt_size e
  | own y => obtain ⟨_, e⟩ := x; exact Heap.lt_size e
  | xd fs => obtain ⟨_, ⟨_, _, _, e, _⟩, _⟩ := x; exact Heap.lt_size e
  | rng lo hi => obtain ⟨_, _, _, e⟩ := x; exact Heap.lt_size e
  | frz ob u => obtain ⟨e, _⟩ := x; exact Heap.lt_size e
  | tbl ps => exact Heap.lt_size (show h.get? a = some _ from x)
  | met f y => exact Heap.lt_size (show h.get? a = some _ from x)
  | ext φ => obtain ⟨_, ⟨_, e⟩, _⟩ := x; exact Heap.lt_size e
theorem Paired.mapP {α β : Type} {F G : α → β → Prop} : ∀ {l₁ : List α} {l₂ : List β}, Paired F l₁ l₂ → (∀ a b, F a b → G a b) → Paired G l₁ l₂
  | _, _, .nil, _ => .nil
  | _, _, .cons r t, f => .cons (f _ _ r) (Paired.mapP t f)
/-- what an object's description leans on: its own object, its own dict, the tuples -/
theorem ObjOk.stay (x : ObjOk P w H h a o) (k : ∀ b u, (b = a ∨ H b = some (.own a)) → h.get? b = some u → h'.get? b = some u)
    (ho : ∀ b, H b = some (.own a) → H' b = some (.own a)) (ht : ∀ b xs, H b = some (.tup xs) → H' b = some (.tup xs)) : ObjOk P w H' h' a o := by
  induction o with
  | lst xs => obtain ⟨z, its, n, r, e⟩ := x; exact ⟨z, its, n, r, k _ _ (.inl rfl) e⟩
  | tup xs => obtain ⟨z, its, r, ob, e, c⟩ := x; exact ⟨z, its, r, ob, k _ _ (.inl rfl) e, c⟩
  | dK kvs => obtain ⟨z, y, vs, r, ob, es, ep, e, c⟩ := x; exact ⟨z, y, vs, r, ob, es, ep, k _ _ (.inl rfl) e, c⟩
  | dT kvs =>
    obtain ⟨z, y, xs, r, ob, es, ep, e, c⟩ := x
    exact ⟨z, y, xs, Paired.mapP r fun p q z => ⟨z.1, ht _ _ z.2.1, z.2.2⟩, ob, es, ep, k _ _ (.inl rfl) e, c⟩
  | set S n => obtain ⟨ob, es, ep, t, e, c⟩ := x; exact ⟨ob, es, ep, t, k _ _ (.inl rfl) e, c⟩
  | ins C dx fs =>
    obtain ⟨d, z, ne, e, mA, ⟨od, es, ep, e2, c⟩, r⟩ := x
    exact ⟨ho _ d, z, ne, k _ _ (.inl rfl) e, mA, ⟨od, es, ep, k _ _ (.inr d) e2, c⟩, r⟩
  | own y => obtain ⟨ob, e⟩ := x; exact ⟨ob, k _ _ (.inl rfl) e⟩
  | xd fs => obtain ⟨mA, ⟨od, es, ep, e, c⟩, r⟩ := x; exact ⟨mA, ⟨od, es, ep, k _ _ (.inl rfl) e, c⟩, r⟩
  | rng lo hi => obtain ⟨t, u, v, e⟩ := x; exact ⟨t, u, v, k _ _ (.inl rfl) e⟩
  | frz ob u ih => obtain ⟨e, q⟩ := x; exact ⟨k _ _ (.inl rfl) e, ih q⟩
  | tbl ps =>
    have e : h.get? a = some { cls := .none, data := .fields ps } := x
    show h'.get? a = some { cls := .none, data := .fields ps }
    exact k a _ (.inl rfl) e
  | met f y =>
    have e : h.get? a = some (PySem.W.methodObj (.ref f) (.ref y)) := x
    show h'.get? a = some (PySem.W.methodObj (.ref f) (.ref y))
    exact k a _ (.inl rfl) e
  | ext φ => obtain ⟨p, ⟨o, e⟩, st⟩ := x; exact ⟨st _ _ p fun o q => k _ _ (.inl rfl) q, ⟨o, k _ _ (.inl rfl) e⟩, st⟩
theorem HOk.lt (x : HOk P w H h) (e : H a = some o) : a < h.objs.size := (x a o e).lt
theorem HOk.fresh (x : HOk P w H h) (e : h.objs.size ≤ a) : H a = none := by
  cases q : H a with
  | none => rfl
  | some u => exact absurd (Nat.lt_of_lt_of_le (x.lt q) e) (Nat.lt_irrefl _)
/-- every object of the heap is kept -/
theorem HOk.kept (x : HOk P w H h) (k : ∀ b u, h.get? b = some u → h'.get? b = some u) : HOk P w H h' := fun a o e =>
  (x a o e).stay (fun b u _ q => k b u q) (fun _ q => q) fun _ _ q => q
/-- a new object is laid and tracked -/
theorem HOk.laid (x : HOk P w H h) (k : ∀ b u, h.get? b = some u → h'.get? b = some u) (hp : h.objs.size ≤ a) (new : ObjOk P w (upd H a o) h' a o) : HOk P w (upd H a o) h' := fun b u e => by
  have hn := x.fresh hp
  by_cases hb : b = a
  · subst hb; rw [upd_same] at e; cases e; exact new
  · rw [upd_ne hb] at e
    exact (x b u e).stay (fun c v _ q => k c v q) (fun c q => by rw [upd_ne (ne_of_none q hn)]; exact q) fun c xs q => by rw [upd_ne (ne_of_none q hn)]; exact q
end

/-- what may be read as u: it is u, or a known u -/
def Rd (H : Hp) (a : Addr) (u : HO) : Prop := H a = some u ∨ ∃ o, H a = some (.frz o u)
theorem Rd.of {H : Hp} {a : Addr} {u : HO} (h : H a = some u) : Rd H a u := .inl h
theorem Rd.ok {P : Program} {w : World} {H : Hp} {h : Heap} {a : Addr} {u : HO} (r : Rd H a u) (x : HOk P w H h) : ObjOk P w H h a u := by
  rcases r with r | ⟨o, r⟩
  · exact x a u r
  · obtain ⟨_, q⟩ := x a _ r
    exact q
/-- what may be written -/
def Mut : Option HO → Prop
  | some (.lst _) => True
  | some (.dK _) => True
  | some (.dT _) => True
  | some (.set _ _) => True
  | some (.ins _ _ _) => True
  | some (.ext _) => True
  | _ => False
section
variable {P : Program} {w : World} {H : Hp} {h h' : Heap} {x e : Addr} {o' : HO}
/-- the object at e is changed: x itself, or the dict of the instance x -/
theorem HOk.write (ok : HOk P w H h) (mu : Mut (H x)) (he : e = x ∨ H e = some (.own x)) (k : ∀ b u, b ≠ e → h.get? b = some u → h'.get? b = some u) (heo : ∃ u, h'.get? e = some u)
    (new : ObjOk P w (upd H x o') h' x o') : HOk P w (upd H x o') h' := fun b u q => by
  have nown : ∀ c y, H c = some (.own y) → c ≠ x := fun c y r z => by subst z; rw [r] at mu; exact mu
  have ntup : ∀ c xs, H c = some (.tup xs) → c ≠ x := fun c xs r z => by subst z; rw [r] at mu; exact mu
  by_cases hb : b = x
  · subst hb; rw [upd_same] at q; cases q; exact new
  · rw [upd_ne hb] at q
    by_cases hbe : b = e
    · have q' : H b = some (.own x) := by
        rcases he with z | z
        · exact absurd (hbe.trans z) hb
        · rw [hbe]; exact z
      rw [q] at q'; cases q'
      obtain ⟨v, hv⟩ := heo
      exact ⟨v, by rw [hbe]; exact hv⟩
    · refine (ok b u q).stay (fun c v hc r => k c v ?_ r) (fun c r => by rw [upd_ne (nown c b r)]; exact r) fun c xs r => by rw [upd_ne (ntup c xs r)]; exact r
      rcases hc with rfl | hc
      · exact hbe
      · rintro rfl
        rcases he with z | z
        · exact nown c b hc z
        · rw [hc] at z; cases z; exact hb rfl
end

/-! ### kept unless tracked; of the frames at fs (the callers') the slots may change (an exception that passes writes there); of the records at ex (iterators) nothing is said -/
structure Un (fs ex : List Addr) (H H' : Hp) (h h' : Heap) : Prop where
  keep : ∀ b o, h.get? b = some o → H b = none → b ∉ fs → b ∉ ex → h'.get? b = some o
  slot : ∀ b o, h.get? b = some o → H b = none → b ∈ fs → b ∉ ex → ∃ sl, h'.get? b = some { o with slots := sl }
  free : ∀ b o, h.get? b = some o → H b = none → b ∉ ex → H' b = none
  there : ∀ b o, h.get? b = some o → b ∉ ex → ∃ o', h'.get? b = some o'
  tups : ∀ b xs, H b = some (.tup xs) → H' b = some (.tup xs)
  frzs : ∀ b o u, H b = some (.frz o u) → H' b = some (.frz o u)
  tbls : ∀ b ps, H b = some (.tbl ps) → ∃ more, H' b = some (.tbl (ps ++ more))
section
variable {fs fs' ex ex' : List Addr} {H H1 H2 : Hp} {h h1 h2 h' : Heap} {a x e : Addr} {o : HO}
theorem Un.any (u : Un fs ex H H1 h h1) {b : Addr} {ob : Obj} (q : h.get? b = some ob) (n : H b = none) (hx : b ∉ ex) : ∃ sl, h1.get? b = some { ob with slots := sl } := by
  by_cases hb : b ∈ fs
  · exact u.slot b ob q n hb hx
  · exact ⟨ob.slots, u.keep b ob q n hb hx⟩
theorem Un.trans (a : Un fs ex H H1 h h1) (b : Un fs ex H1 H2 h1 h2) : Un fs ex H H2 h h2 where
  keep := fun c ob q n hc hx => b.keep c ob (a.keep c ob q n hc hx) (a.free c ob q n hx) hc hx
  slot := fun c ob q n hc hx => by
    obtain ⟨sl, e1⟩ := a.slot c ob q n hc hx
    obtain ⟨sl', e2⟩ := b.slot c _ e1 (a.free c ob q n hx) hc hx
    exact ⟨sl', e2⟩
  free := fun c ob q n hx => by
    obtain ⟨o', e1⟩ := a.there c ob q hx
    exact b.free c o' e1 (a.free c ob q n hx) hx
  there := fun c ob q hx => by
    obtain ⟨o', e1⟩ := a.there c ob q hx
    exact b.there c o' e1 hx
  tups := fun c xs q => b.tups c xs (a.tups c xs q)
  frzs := fun c ob xs q => b.frzs c ob xs (a.frzs c ob xs q)
  tbls := fun c ps q => by
    obtain ⟨m1, e1⟩ := a.tbls c ps q
    obtain ⟨m2, e2⟩ := b.tbls c _ e1
    exact ⟨m1 ++ m2, by rw [e2, Array.append_assoc]⟩
theorem Un.kept (k : ∀ b u, h.get? b = some u → h'.get? b = some u) : Un fs ex H H h h' :=
  ⟨fun b ob q _ _ _ => k b ob q, fun b ob q _ _ _ => ⟨ob.slots, k b ob q⟩, fun _ _ _ n _ => n, fun b ob q _ => ⟨ob, k b ob q⟩, fun _ _ q => q, fun _ _ _ q => q, fun _ ps q => ⟨#[], by rw [q]; simp⟩⟩
theorem Un.refl : Un fs ex H H h h := Un.kept fun _ _ q => q
theorem Un.laid (k : ∀ b u, h.get? b = some u → h'.get? b = some u) (hp : h.objs.size ≤ a) (hn : H a = none) : Un fs ex H (upd H a o) h h' where
  keep := fun b u q _ _ _ => k b u q
  slot := fun b u q _ _ _ => ⟨u.slots, k b u q⟩
  free := fun b u q n _ => by rw [upd_ne (Nat.ne_of_lt (Nat.lt_of_lt_of_le (Heap.lt_size q) hp))]; exact n
  there := fun b u q _ => ⟨u, k b u q⟩
  tups := fun b xs q => by rw [upd_ne (ne_of_none q hn)]; exact q
  frzs := fun b u xs q => by rw [upd_ne (ne_of_none q hn)]; exact q
  tbls := fun b ps q => ⟨#[], by rw [upd_ne (ne_of_none q hn), q]; simp⟩
theorem Un.write (mu : Mut (H x)) (he : e = x ∨ H e = some (.own x)) (k : ∀ b u, b ≠ e → h.get? b = some u → h'.get? b = some u) (heo : ∃ u, h'.get? e = some u) : Un fs ex H (upd H x o) h h' := by
  have hx : ∀ b, H b = none → b ≠ x := fun b n z => by subst z; rw [n] at mu; exact mu
  have hb : ∀ b, H b = none → b ≠ e := fun b n z => by
    subst z
    rcases he with r | r
    · exact hx b n r
    · rw [n] at r; cases r
  have hm : ∀ b u, H b = some u → ¬ Mut (some u) → b ≠ x := fun b u q nm z => by subst z; rw [q] at mu; exact nm mu
  refine ⟨fun b u q n _ _ => k b u (hb b n) q, fun b u q n _ _ => ⟨u.slots, k b u (hb b n) q⟩, fun b u q n _ => by rw [upd_ne (hx b n)]; exact n, fun b u q _ => ?_,
    fun b xs q => by rw [upd_ne (hm b _ q fun z => z)]; exact q, fun b u xs q => by rw [upd_ne (hm b _ q fun z => z)]; exact q, fun b ps q => ⟨#[], by rw [upd_ne (hm b _ q fun z => z), q]; simp⟩⟩
  by_cases hbe : b = e
  · subst hbe; exact heo
  · exact ⟨u, k b u hbe q⟩
theorem Un.mono (u : Un fs ex H H1 h h1) (hs : ∀ b ∈ fs, b ∈ fs') (hx : ∀ b ∈ ex, b ∈ ex') : Un fs' ex' H H1 h h1 :=
  ⟨fun b ob q n hb he => u.keep b ob q n (fun z => hb (hs b z)) fun z => he (hx b z), fun _ _ q n _ he => u.any q n fun z => he (hx _ z), fun b ob q n he => u.free b ob q n fun z => he (hx b z), fun b ob q he => u.there b ob q fun z => he (hx b z), u.tups, u.frzs, u.tbls⟩
end

/-! ### the heap without what is tracked -/
def trk (h : Heap) (H : Hp) : List Addr := (List.range h.objs.size).filter fun a => (H a).isSome
def hidT (h : Heap) (H : Hp) : Heap := PySem.W.hideAll h (trk h H)
theorem hidT_size (h : Heap) (H : Hp) : (hidT h H).objs.size = h.objs.size := PySem.W.hideAll_size _ _
theorem hidT_get {h : Heap} {H : Hp} {b : Addr} {o : Obj} (e : h.get? b = some o) (n : H b = none) : (hidT h H).get? b = some o :=
  PySem.W.hideAll_get _ e fun hm => by
    have q : (H b).isSome = true := (List.mem_filter.mp hm).2
    rw [n] at q; simp at q
theorem of_hidT {h : Heap} {H : Hp} {b : Addr} {o : Obj} (e : (hidT h H).get? b = some o) : h.get? b = some o ∧ H b = none := by
  have e' : h.get? b = some o := PySem.W.of_hideAll (trk h H) e
  refine ⟨e', ?_⟩
  cases q : H b with
  | none => rfl
  | some x =>
    have hm : b ∈ trk h H := List.mem_filter.mpr ⟨List.mem_range.mpr (Heap.lt_size e'), by simp [q]⟩
    have z : (hidT h H).get? b = none := PySem.W.hideAll_none (trk h H) hm
    rw [z] at e; cases e

/-! ### OpenK's ledger, filled with every new object but one -/
def allNews (g h : Heap) (L : Addr) : List (Addr × Obj) := (List.range h.objs.size).filterMap fun a => if a = L ∨ (g.get? a).isSome = true then none else (h.get? a).map fun o => (a, o)
def rest (g h : Heap) (L d : Addr) : List (Addr × Obj) := (allNews g h L).filter fun p => decide (p.1 ≠ d)
end L2

namespace L2
open PySem PySem.Spec PyProof.Rows

/-- the module's facts, over the base: the heap at the law's entry without what is tracked there -/
structure Mod (K : PySem.W.Frag) (mg : Str → Option Value) (base : Heap) : Prop where
  kin : K.In base
  glob : base.Ns mainGlobals mg
  blt : ∃ mb, base.Ns builtinsNs mb ∧ ∀ x : Str, x ≠ "__name__" → mb x = bootBuiltins x
  nolimit : base.NoLimit

/-- the context: a def's body (or a comprehension's block) running. base: fixed through the whole law; s₀, H₀: the entry; outer: the frames whose slots others may change (a def's callers); stack: all frames that run;
   ex: iterators that were made ahead of the entry and are walked here (a comprehension's); fn: the names whose cells were made at the entry (a def: all; a comprehension's block: its own); calm: not within an except suite; pn: pins that every state bears; xe: what is wanted of an exception that leaves the code -/
structure Cx where
  prog : Program
  w : World
  K : PySem.W.Frag
  mg : Str → Option Value
  base : Heap
  A : Around
  N : List Str
  s₀ : Shared
  H₀ : Hp
  env : Env
  outer : List Env
  stack : List Env
  ex : List Addr
  fn : Str → Bool
  calm : Bool
  pn : List (Addr × Obj)
  xe : Value → Shared → Prop
/-- the callers' frames -/
def frs (l : List Env) : List Addr := l.filterMap (·.frame)
abbrev Cx.fs (X : Cx) : List Addr := frs X.outer

def Vis (sc : Scope) (x : Str) : Prop := sc.names.lookup x = some .local ∨ sc.names.lookup x = some .cell ∨ sc.names.lookup x = some .free
def Loc (sc : Scope) (x : Str) : Prop := sc.names.lookup x = some .local ∨ sc.names.lookup x = some .cell
def Look (env : Env) (h : Heap) (m : Str → Option Value) (x : Str) (u : Value) : Prop :=
  (env.kindOf x = some .local ∧ m x = some u) ∨ ((env.kindOf x = some .cell ∨ env.kindOf x = some .free) ∧ ∃ c, env.cells.lookup x = some c ∧ h.IsCell c (some u))

structure Cx.Ok (X : Cx) : Prop where
  mod : Mod X.K X.mg X.base
  kind : X.env.scope.kind = .function
  glob : X.env.globals = mainGlobals
  blt : X.env.builtins = builtinsNs
  above : X.s₀.heap.objs.size ≤ X.env.locals
  inj : ∀ x y c, X.env.cells.lookup x = some c → X.env.cells.lookup y = some c → x = y
  has : ∀ x, (X.env.kindOf x = some .cell ∨ X.env.kindOf x = some .free) → ∃ c, X.env.cells.lookup x = some c
  cab : ∀ x c, X.fn x = true → X.env.cells.lookup x = some c → X.s₀.heap.objs.size ≤ c
  hd : X.calm = true → X.A.handled = none
  frames : X.A.frames = some X.stack
  stk : X.stack = X.outer ∨ (X.stack = X.env :: X.outer ∧ X.env.frame = some X.env.locals)
  exf : ∀ b ∈ X.ex, b ≠ X.env.locals ∧ ∀ x c, X.env.cells.lookup x = some c → c ≠ b
  bs : ∀ b o, X.base.get? b = some o → X.s₀.heap.get? b = some o ∧ X.H₀ b = none
  bsz : X.base.objs.size ≤ X.s₀.heap.objs.size
  noex : ∀ b o, X.base.get? b = some o → b ∉ X.ex
  exfs : ∀ b ∈ X.ex, b ∉ X.fs
  funs : X.s₀.heap.FunFrames X.base X.outer
  frf : ∀ b ∈ X.fs, X.H₀ b = none

structure Inv (X : Cx) (pins : List (Addr × Obj)) (σ : List (Option V)) (H : Hp) (s : Shared) : Prop where
  ok : X.Ok
  os : s.os = X.s₀.os
  bare : AllBare s.gens
  base : Un X.fs X.ex X.H₀ H X.s₀.heap s.heap
  loc : ∃ m, s.heap.Ns X.env.locals m ∧ ∀ (i : Nat) (x : Str) (v : V), X.N[i]? = some x → σ[i]? = some (some v) → Vis X.env.scope x → ∃ u, RelV v u ∧ Look X.env s.heap m x u
  cell : ∀ x c, X.env.cells.lookup x = some c → ∃ v, s.heap.IsCell c v
  free : H X.env.locals = none
  freeC : ∀ x c, X.env.cells.lookup x = some c → H c = none
  pin : ∀ p ∈ X.pn ++ pins, s.heap.get? p.1 = some p.2 ∧ H p.1 = none ∧ p.1 ≠ X.env.locals ∧ p.1 ∉ X.fs ∧ ∀ v, p.2.data ≠ .cell v
  hok : HOk X.prog X.w H s.heap
  len : σ.length = X.N.length

section
variable {X : Cx} {pins : List (Addr × Obj)} {σ : List (Option V)} {H H' : Hp} {s : Shared} {h' : Heap}

theorem Cx.Ok.nofr (ok : X.Ok) {b : Addr} {o : Obj} (e : X.base.get? b = some o) : b ∉ X.fs := fun hb => by
  have := (ok.funs.mem hb).1
  rw [e] at this; cases this
theorem Inv.bs (I : Inv X pins σ H s) : ∀ b o, X.base.get? b = some o → s.heap.get? b = some o ∧ H b = none := fun b o e =>
  ⟨I.base.keep b o (I.ok.bs b o e).1 (I.ok.bs b o e).2 (I.ok.nofr e) (I.ok.noex b o e), I.base.free b o (I.ok.bs b o e).1 (I.ok.bs b o e).2 (I.ok.noex b o e)⟩
theorem Inv.bk (I : Inv X pins σ H s) : ∀ b o, X.base.get? b = some o → s.heap.get? b = some o := fun b o e => (I.bs b o e).1
theorem Inv.mod (I : Inv X pins σ H s) : Mod X.K X.mg X.base := I.ok.mod
theorem Inv.kIn (I : Inv X pins σ H s) : X.K.In s.heap := I.ok.mod.kin.keeps I.bk
theorem Inv.nolimit (I : Inv X pins σ H s) : s.heap.NoLimit := I.ok.mod.nolimit.keeps I.bk
/-- the frame over the base: for OpenK's rules (K.In X.base is I.mod.kin) -/
theorem Inv.fr (I : Inv X pins σ H s) : ∃ m, Fr X.base X.env.locals s.heap m :=
  let ⟨m, hn, _⟩ := I.loc
  ⟨m, hn, I.bk, Nat.le_trans I.ok.bsz I.ok.above⟩
theorem Inv.lt (I : Inv X pins σ H s) : X.env.locals < s.heap.objs.size := let ⟨_, hn, _⟩ := I.loc; hn.lt
theorem Inv.sz (I : Inv X pins σ H s) : X.s₀.heap.objs.size ≤ s.heap.objs.size := Nat.le_trans I.ok.above (Nat.le_of_lt I.lt)
theorem Inv.nofs (I : Inv X pins σ H s) {a : Addr} (h : s.heap.objs.size ≤ a) : a ∉ X.fs := fun hb => by
  obtain ⟨_, o, ho, _⟩ := I.ok.funs.mem hb
  exact absurd (Nat.lt_of_lt_of_le (Heap.lt_size ho) (Nat.le_trans I.sz h)) (Nat.lt_irrefl _)
theorem Inv.cne (I : Inv X pins σ H s) : ∀ x c, X.env.cells.lookup x = some c → c ≠ X.env.locals := fun x c e z => by
  obtain ⟨v, o, ho, hd⟩ := I.cell x c e
  obtain ⟨m, ⟨o', es, ep, ho', hd', _⟩, _⟩ := I.loc
  rw [z, ho'] at ho; cases ho; rw [hd'] at hd; cases hd
theorem Inv.funs (I : Inv X pins σ H s) : s.heap.FunFrames X.base X.outer := by
  have all : ∀ (l : List Env), (∀ b ∈ frs l, b ∈ X.fs) → X.s₀.heap.FunFrames X.base l → s.heap.FunFrames X.base l := by
    intro l
    induction l with
    | nil => intro _ _; trivial
    | cons env r ih =>
      intro hs hl
      obtain ⟨hk, ⟨L, o, hf, hn, ho, hd⟩, hr⟩ := hl
      have hL : L ∈ X.fs := hs L (by unfold frs; rw [List.filterMap_cons, hf]; exact List.mem_cons_self)
      obtain ⟨sl, e⟩ := I.base.slot L o ho (I.ok.frf L hL) hL fun z => I.ok.exfs L z hL
      exact ⟨hk, ⟨L, _, hf, hn, e, hd⟩, ih (fun b hb => hs b (by unfold frs; rw [List.filterMap_cons, hf]; exact List.mem_cons_of_mem _ hb)) hr⟩
  exact all X.outer (fun _ hb => hb) I.ok.funs

/-- the frames that run, for a call -/
theorem Inv.stack (I : Inv X pins σ H s) : s.heap.FunFrames X.base X.stack := by
  rcases I.ok.stk with e | ⟨e, hf⟩
  · rw [e]; exact I.funs
  · rw [e]
    obtain ⟨m, hn, _⟩ := I.loc
    refine .cons (by rw [I.ok.kind]; decide) hf hn ?_ I.funs
    exact Heap.get?_none_of_le (Nat.le_trans I.ok.bsz I.ok.above)
theorem Inv.stkSub (I : Inv X pins σ H s) : ∀ b ∈ frs X.stack, b ∈ X.env.locals :: X.fs := fun b hb => by
  rcases I.ok.stk with e | ⟨e, hf⟩
  · rw [e] at hb; exact List.mem_cons_of_mem _ hb
  · rw [e] at hb
    unfold frs at hb
    rw [List.filterMap_cons, hf] at hb
    exact hb
theorem Inv.stkFree (I : Inv X pins σ H s) : ∀ b ∈ frs X.stack, H b = none := fun b hb => by
  rcases List.mem_cons.mp (I.stkSub b hb) with e | hb
  · rw [e]; exact I.free
  · obtain ⟨_, o, ho, _⟩ := I.ok.funs.mem hb
    exact I.base.free b o ho (I.ok.frf b hb) fun z => I.ok.exfs b z hb

/-- THE STEP: the untracked objects but the frame and the records at ch are kept (the callers' frames up to slots), the frame's map is kept, the new abstract heap is held -/
theorem Inv.step {g' : Array GenState} {t' : Nat} {d' : Drawn} {ch : List Addr} (I : Inv X pins σ H s)
    (hch : ∀ b ∈ ch, (b ∈ X.ex ∨ X.s₀.heap.objs.size ≤ b) ∧ b ≠ X.env.locals ∧ (∀ x c, X.env.cells.lookup x = some c → c ≠ b) ∧ ∀ p ∈ X.pn ++ pins, p.1 ≠ b)
    (keep : ∀ b o, b ≠ X.env.locals → b ∉ X.fs → b ∉ ch → s.heap.get? b = some o → H b = none → h'.get? b = some o)
    (slot : ∀ b o, b ≠ X.env.locals → b ∈ X.fs → b ∉ ch → s.heap.get? b = some o → H b = none → ∃ sl, h'.get? b = some { o with slots := sl }) (free : ∀ b o, b ∉ ch → s.heap.get? b = some o → H b = none → H' b = none)
    (there : ∀ b o, b ∉ ch → s.heap.get? b = some o → ∃ o', h'.get? b = some o')
    (tups : ∀ b xs, H b = some (.tup xs) → H' b = some (.tup xs)) (frzs : ∀ b o u, H b = some (.frz o u) → H' b = some (.frz o u)) (tbls : ∀ b ps, H b = some (.tbl ps) → ∃ more, H' b = some (.tbl (ps ++ more)))
    (ns : ∀ m, s.heap.Ns X.env.locals m → h'.Ns X.env.locals m) (hok : HOk X.prog X.w H' h') (hg : AllBare g') :
    Inv X pins σ H' { s with heap := h', gens := g', drawn := d', toks := t' } := by
  have neL : ∀ b o, X.s₀.heap.get? b = some o → b ≠ X.env.locals := fun b o e => Nat.ne_of_lt (Nat.lt_of_lt_of_le (Heap.lt_size e) I.ok.above)
  have neC : ∀ b o, X.s₀.heap.get? b = some o → b ∉ X.ex → b ∉ ch := fun b o e hx hb => by
    rcases (hch b hb).1 with z | z
    · exact hx z
    · exact absurd (Nat.lt_of_lt_of_le (Heap.lt_size e) z) (Nat.lt_irrefl _)
  have cellK : ∀ x c, X.env.cells.lookup x = some c → ∀ v, s.heap.IsCell c v → h'.IsCell c v := fun x c e v ⟨o, ho, hd⟩ => by
    have nch : c ∉ ch := fun z => (hch c z).2.2.1 x c e rfl
    by_cases hc : c ∈ X.fs
    · obtain ⟨sl, q⟩ := slot c o (I.cne x c e) hc nch ho (I.freeC x c e)
      exact ⟨_, q, hd⟩
    · exact ⟨o, keep c o (I.cne x c e) hc nch ho (I.freeC x c e), hd⟩
  refine ⟨I.ok, I.os, hg, ⟨fun b o e n hb hx => ?_, fun b o e n hb hx => ?_, fun b o e n hx => ?_, fun b o e hx => ?_, fun b xs e => tups b xs (I.base.tups b xs e), fun b o xs e => frzs b o xs (I.base.frzs b o xs e), fun b ps e => ?_⟩, ?_, fun x c e => ?_, ?_, fun x c e => ?_, fun p hp => ?_, hok, I.len⟩
  · exact keep b o (neL b o e) hb (neC b o e hx) (I.base.keep b o e n hb hx) (I.base.free b o e n hx)
  · obtain ⟨sl, e1⟩ := I.base.slot b o e n hb hx
    obtain ⟨sl', e2⟩ := slot b _ (neL b o e) hb (neC b o e hx) e1 (I.base.free b o e n hx)
    exact ⟨sl', e2⟩
  · obtain ⟨o', e1⟩ := I.base.there b o e hx
    exact free b o' (neC b o e hx) e1 (I.base.free b o e n hx)
  · obtain ⟨o', e1⟩ := I.base.there b o e hx
    exact there b o' (neC b o e hx) e1
  · obtain ⟨m1, e1⟩ := I.base.tbls b ps e
    obtain ⟨m2, e2⟩ := tbls b _ e1
    exact ⟨m1 ++ m2, by rw [e2, Array.append_assoc]⟩
  · obtain ⟨m, hn, hl⟩ := I.loc
    refine ⟨m, ns m hn, fun i x v e1 e2 e3 => ?_⟩
    obtain ⟨u, r, l⟩ := hl i x v e1 e2 e3
    refine ⟨u, r, ?_⟩
    rcases l with l | ⟨k, c, e, z⟩
    · exact .inl l
    · exact .inr ⟨k, c, e, cellK x c e _ z⟩
  · obtain ⟨v, z⟩ := I.cell x c e
    exact ⟨v, cellK x c e v z⟩
  · obtain ⟨m, ⟨o, _, _, ho, _⟩, _⟩ := I.loc
    exact free _ o (fun z => (hch _ z).2.1 rfl) ho I.free
  · obtain ⟨v, o, ho, hd⟩ := I.cell x c e
    exact free c o (fun z => (hch c z).2.2.1 x c e rfl) ho (I.freeC x c e)
  · obtain ⟨e, n, ne, nf, d⟩ := I.pin p hp
    have nch : p.1 ∉ ch := fun z => (hch p.1 z).2.2.2 p hp rfl
    exact ⟨keep p.1 p.2 ne nf nch e n, free p.1 p.2 nch e n, ne, nf, d⟩
/-- .. where the frame's own object is kept too -/
theorem Inv.un {t' : Nat} (I : Inv X pins σ H s) (u : Un X.fs [] H H' s.heap h') (hok : HOk X.prog X.w H' h') : Inv X pins σ H' { s with heap := h', toks := t' } := by
  obtain ⟨m, ⟨o, es, ep, ho, r⟩, _⟩ := id I.loc
  obtain ⟨sl, hL⟩ := u.any ho I.free (by simp)
  exact I.step (g' := s.gens) (d' := s.drawn) (ch := []) (fun _ z => nomatch z) (fun b o _ hb _ e n => u.keep b o e n hb (by simp)) (fun b o _ hb _ e n => u.slot b o e n hb (by simp)) (fun b o _ e n => u.free b o e n (by simp)) (fun b o _ e => u.there b o e (by simp)) u.tups u.frzs u.tbls (fun m' hm => by
    obtain ⟨o', es', ep', ho', r'⟩ := hm
    rw [ho] at ho'; cases ho'
    exact ⟨_, es', ep', hL, r'⟩) hok I.bare
/-- behind a call (or a comprehension's block): the slots of this frame may have changed too, the records at ch may have turned -/
theorem Inv.call {g' : Array GenState} {t' : Nat} {d' : Drawn} {ch : List Addr} (I : Inv X pins σ H s) (u : Un (frs X.stack) ch H H' s.heap h') (hok : HOk X.prog X.w H' h') (hg : AllBare g')
    (hch : ∀ b ∈ ch, (b ∈ X.ex ∨ X.s₀.heap.objs.size ≤ b) ∧ b ≠ X.env.locals ∧ (∀ x c, X.env.cells.lookup x = some c → c ≠ b) ∧ ∀ p ∈ X.pn ++ pins, p.1 ≠ b) :
    Inv X pins σ H' { s with heap := h', gens := g', drawn := d', toks := t' } := by
  obtain ⟨m, ⟨o, es, ep, ho, r⟩, _⟩ := id I.loc
  obtain ⟨sl, hL⟩ := u.any ho I.free fun z => (hch _ z).2.1 rfl
  exact I.step (ch := ch) hch (fun b o hL hb hc e n => u.keep b o e n (fun z => (List.mem_cons.mp (I.stkSub b z)).elim hL hb) hc) (fun b o _ _ hc e n => u.any e n hc) (fun b o hc e n => u.free b o e n hc) (fun b o hc e => u.there b o e hc) u.tups u.frzs u.tbls (fun m' hm => by
    obtain ⟨o', es', ep', ho', r'⟩ := hm
    rw [ho] at ho'; cases ho'
    exact ⟨_, es', ep', hL, r'⟩) hok hg
/-- an untracked record of ours (an iterator) has turned -/
theorem Inv.turned {t' : Nat} {it : Addr} (I : Inv X pins σ H s) (k : ∀ b o, b ≠ it → s.heap.get? b = some o → h'.get? b = some o) (hn : H it = none) (hL : it ≠ X.env.locals)
    (h1 : it ∈ X.ex ∨ X.s₀.heap.objs.size ≤ it) (h2 : ∀ x c, X.env.cells.lookup x = some c → c ≠ it) (h3 : ∀ p ∈ X.pn ++ pins, p.1 ≠ it) : Inv X pins σ H { s with heap := h', toks := t' } := by
  have nit : ∀ b u, H b = some u → b ≠ it := fun b u e z => by rw [z, hn] at e; cases e
  refine I.step (g' := s.gens) (d' := s.drawn) (ch := [it]) (fun b hb => ?_) (fun b o _ _ hc e _ => k b o (fun z => hc (by simp [z])) e) (fun b o _ _ hc e _ => ⟨o.slots, k b o (fun z => hc (by simp [z])) e⟩) (fun _ _ _ _ n => n)
    (fun b o hc e => ⟨o, k b o (fun z => hc (by simp [z])) e⟩) (fun _ _ e => e) (fun _ _ _ e => e) (fun b ps e => ⟨#[], by rw [e]; simp⟩) (fun m hm => ?_) (fun b u e => ?_) I.bare
  · have e : b = it := by simpa using hb
    subst e
    exact ⟨h1, hL, h2, h3⟩
  · obtain ⟨o, es, ep, ho, r⟩ := hm
    exact ⟨o, es, ep, k _ o (Ne.symm hL) ho, r⟩
  · refine (I.hok b u e).stay (fun c v hc q => k c v ?_ q) (fun _ q => q) fun _ _ q => q
    rcases hc with z | z
    · rw [z]; exact nit b u e
    · exact nit c _ z
theorem Inv.tok (I : Inv X pins σ H s) (t : Nat) : Inv X pins σ H { s with toks := t } := I.un (h' := s.heap) (t' := t) Un.refl I.hok
/-- all objects kept -/
theorem Inv.kept {t' : Nat} (I : Inv X pins σ H s) (k : ∀ b u, s.heap.get? b = some u → h'.get? b = some u) : Inv X pins σ H { s with heap := h', toks := t' } := I.un (Un.kept k) (I.hok.kept k)
/-- a new object laid and tracked -/
theorem Inv.laid {a : Addr} {o : HO} {t' : Nat} (I : Inv X pins σ H s) (k : ∀ b u, s.heap.get? b = some u → h'.get? b = some u) (hp : s.heap.objs.size ≤ a) (new : ObjOk X.prog X.w (upd H a o) h' a o) :
    Inv X pins σ (upd H a o) { s with heap := h', toks := t' } := I.un (Un.laid k hp (I.hok.fresh hp)) (I.hok.laid k hp new)
/-- an object written -/
theorem Inv.write {x e : Addr} {o : HO} {t' : Nat} (I : Inv X pins σ H s) (mu : Mut (H x)) (he : e = x ∨ H e = some (.own x)) (k : ∀ b u, b ≠ e → s.heap.get? b = some u → h'.get? b = some u) (heo : ∃ u, h'.get? e = some u)
    (new : ObjOk X.prog X.w (upd H x o) h' x o) : Inv X pins σ (upd H x o) { s with heap := h', toks := t' } := I.un (Un.write mu he k heo) (I.hok.write mu he k heo new)
theorem Inv.pins_of {pins' : List (Addr × Obj)} (I : Inv X pins σ H s) (h : ∀ p ∈ pins', s.heap.get? p.1 = some p.2 ∧ H p.1 = none ∧ p.1 ≠ X.env.locals ∧ p.1 ∉ X.fs ∧ ∀ v, p.2.data ≠ .cell v) : Inv X pins' σ H s :=
  ⟨I.ok, I.os, I.bare, I.base, I.loc, I.cell, I.free, I.freeC, fun p hp => (List.mem_append.mp hp).elim (fun z => I.pin p (List.mem_append_left _ z)) (h p), I.hok, I.len⟩

theorem nodup_ix {N : List Str} (hN : N.Nodup) {i j : Nat} {x : Str} (a : N[i]? = some x) (b : N[j]? = some x) : i = j := by
  obtain ⟨h1, e1⟩ := List.getElem?_eq_some_iff.mp a
  obtain ⟨h2, e2⟩ := List.getElem?_eq_some_iff.mp b
  exact (List.getElem_inj hN).mp (e1.trans e2.symm)

/-- a name is stored; what changed -/
theorem store_ok2 {M : Model} {A : Around} {E : Value → Shared → Prop} {i : Nat} {x : Str} {v : V} {u : Value} {Q : Unit → Shared → Prop} (I : Inv X pins σ H s) (hN : X.N.Nodup) (hi : X.N[i]? = some x) (hx : Loc X.env.scope x) (r : RelV v u)
    (h : ∀ s', Inv X pins (σ.set i (some v)) H s' → (∃ a, Heap.SameBut a s.heap s'.heap ∧ (a = X.env.locals ∨ X.env.cells.lookup x = some a)) → Q () s') (hf : X.fn x = true ∨ X.env.scope.names.lookup x = some .local := by first | exact .inl rfl | exact .inr rfl | assumption) : wpAny M A (storeName X.env x u) Q E s := by
  obtain ⟨m, hn, hl⟩ := id I.loc
  have hcls : (X.env.scope.kind == .class || (X.env.scope.kind == .module && X.env.locals != X.env.globals)) = false := by rw [I.ok.kind]; rfl
  have hiσ : i < σ.length := by rw [I.len]; exact (List.getElem?_eq_some_iff.mp hi).1
  have cne := I.cne
  have tracked : ∀ {a : Addr} {h' : Heap}, (∃ o, s.heap.get? a = some o ∧ H a = none) → Heap.SameBut a s.heap h' → HOk X.prog X.w H h' := fun {a h'} ha hs b ob e => by
    obtain ⟨_, _, hfree⟩ := ha
    refine (I.hok b ob e).stay (fun c w' hc q => (hs.2 c ?_).trans q) (fun _ q => q) fun _ _ q => q
    rintro rfl
    rcases hc with rfl | hc
    · rw [hfree] at e; cases e
    · rw [hfree] at hc; cases hc
  rcases hx with hk | hk
  · refine wpAny_storeName_local hk hn (fun h' hn' hs => ?_) hcls
    obtain ⟨oL, _, _, hoL, _⟩ := id hn
    refine h _ ⟨I.ok, I.os, I.bare, ⟨fun b o e n hb hx => ?_, fun b o e n hb hx => ?_, I.base.free, fun b o e hx => ?_, I.base.tups, I.base.frzs, I.base.tbls⟩, ⟨_, hn', fun j y v' e1 e2 e3 => ?_⟩, fun y c e => ?_, I.free, I.freeC, fun p hp => ?_, tracked ⟨oL, hoL, I.free⟩ hs, by simpa using I.len⟩ ⟨_, hs, .inl rfl⟩
    · exact (hs.2 b (Nat.ne_of_lt (Nat.lt_of_lt_of_le (Heap.lt_size e) I.ok.above))).trans (I.base.keep b o e n hb hx)
    · obtain ⟨sl, e1⟩ := I.base.slot b o e n hb hx
      exact ⟨sl, (hs.2 b (Nat.ne_of_lt (Nat.lt_of_lt_of_le (Heap.lt_size e) I.ok.above))).trans e1⟩
    · obtain ⟨o', e1⟩ := I.base.there b o e hx
      exact ⟨o', (hs.2 b (Nat.ne_of_lt (Nat.lt_of_lt_of_le (Heap.lt_size e) I.ok.above))).trans e1⟩
    · by_cases hj : j = i
      · subst hj
        rw [hi] at e1; cases e1
        rw [List.getElem?_set_self hiσ] at e2
        cases e2
        exact ⟨u, r, .inl ⟨hk, by simp⟩⟩
      · rw [List.getElem?_set_ne (Ne.symm hj)] at e2
        obtain ⟨u', r', q⟩ := hl j y v' e1 e2 e3
        refine ⟨u', r', ?_⟩
        rcases q with ⟨k, e⟩ | ⟨k, c, e, z⟩
        · refine .inl ⟨k, ?_⟩
          have : y ≠ x := fun e => hj (nodup_ix hN e1 (e ▸ hi))
          simp [this, e]
        · exact .inr ⟨k, c, e, z.sameBut hs (cne y c e)⟩
    · obtain ⟨w', z⟩ := I.cell y c e
      exact ⟨w', z.sameBut hs (cne y c e)⟩
    · obtain ⟨e, n, ne, nf, d⟩ := I.pin p hp
      exact ⟨(hs.2 p.1 ne).trans e, n, ne, nf, d⟩
  · have hfn : X.fn x = true := by
      rcases hf with z | z
      · exact z
      · rw [z] at hk; cases hk
    obtain ⟨c, hc⟩ := I.ok.has x (.inl hk)
    obtain ⟨w', z⟩ := I.cell x c hc
    refine wpAny_storeName_cell I.ok.kind hk hc z (fun h' hc' hs => ?_)
    obtain ⟨oc, hoc, hocd⟩ := id z
    refine h { s with heap := h' } ⟨I.ok, I.os, I.bare, ⟨fun b o e n hb hx => ?_, fun b o e n hb hx => ?_, I.base.free, fun b o e hx => ?_, I.base.tups, I.base.frzs, I.base.tbls⟩, ⟨m, hn.sameBut hs (Ne.symm (cne x c hc)), fun j y v' e1 e2 e3 => ?_⟩, fun y c' e => ?_, I.free, I.freeC, fun p hp => ?_, tracked ⟨oc, hoc, I.freeC x c hc⟩ hs, by simpa using I.len⟩ ⟨c, hs, .inr hc⟩
    · exact (hs.2 b (Nat.ne_of_lt (Nat.lt_of_lt_of_le (Heap.lt_size e) (I.ok.cab x c hfn hc)))).trans (I.base.keep b o e n hb hx)
    · obtain ⟨sl, e1⟩ := I.base.slot b o e n hb hx
      exact ⟨sl, (hs.2 b (Nat.ne_of_lt (Nat.lt_of_lt_of_le (Heap.lt_size e) (I.ok.cab x c hfn hc)))).trans e1⟩
    · obtain ⟨o', e1⟩ := I.base.there b o e hx
      exact ⟨o', (hs.2 b (Nat.ne_of_lt (Nat.lt_of_lt_of_le (Heap.lt_size e) (I.ok.cab x c hfn hc)))).trans e1⟩
    · by_cases hj : j = i
      · subst hj
        rw [hi] at e1; cases e1
        rw [List.getElem?_set_self hiσ] at e2
        cases e2
        exact ⟨u, r, .inr ⟨.inl hk, c, hc, hc'⟩⟩
      · rw [List.getElem?_set_ne (Ne.symm hj)] at e2
        obtain ⟨u', r', q⟩ := hl j y v' e1 e2 e3
        refine ⟨u', r', ?_⟩
        rcases q with q | ⟨k, c', e, z'⟩
        · exact .inl q
        · refine .inr ⟨k, c', e, z'.sameBut hs ?_⟩
          rintro rfl
          exact hj (nodup_ix hN e1 (I.ok.inj _ _ _ e hc ▸ hi))
    · by_cases hcc : c' = c
      · subst hcc; exact ⟨_, hc'⟩
      · obtain ⟨w2, z2⟩ := I.cell y c' e
        exact ⟨w2, z2.sameBut hs hcc⟩
    · obtain ⟨e, n, ne, nf, d⟩ := I.pin p hp
      refine ⟨(hs.2 p.1 ?_).trans e, n, ne, nf, d⟩
      intro q
      rw [q, hoc] at e
      have q' : oc = p.2 := Option.some.inj e
      exact d w' (by rw [← q']; exact hocd)
theorem store_ok {M : Model} {A : Around} {E : Value → Shared → Prop} {i : Nat} {x : Str} {v : V} {u : Value} {Q : Unit → Shared → Prop} (I : Inv X pins σ H s) (hN : X.N.Nodup) (hi : X.N[i]? = some x) (hx : Loc X.env.scope x) (r : RelV v u)
    (h : ∀ s', Inv X pins (σ.set i (some v)) H s' → Q () s') (hf : X.fn x = true ∨ X.env.scope.names.lookup x = some .local := by first | exact .inl rfl | exact .inr rfl | assumption) : wpAny M A (storeName X.env x u) Q E s :=
  store_ok2 I hN hi hx r (fun s' I' _ => h s' I') hf
/-- behind a call or a block, the state as it is -/
theorem Inv.call' {s' : Shared} {ch : List Addr} (I : Inv X pins σ H s) (ho : s'.os = s.os) (u : Un (frs X.stack) ch H H' s.heap s'.heap) (hok : HOk X.prog X.w H' s'.heap) (hg : AllBare s'.gens)
    (hch : ∀ b ∈ ch, (b ∈ X.ex ∨ X.s₀.heap.objs.size ≤ b) ∧ b ≠ X.env.locals ∧ (∀ x c, X.env.cells.lookup x = some c → c ≠ b) ∧ ∀ p ∈ X.pn ++ pins, p.1 ≠ b) : Inv X pins σ H' s' := by
  obtain ⟨h', g', d', t', o'⟩ := s'
  have e : o' = s.os := ho
  subst e
  exact I.call (g' := g') (t' := t') (d' := d') u hok hg hch
end

/-! ### the judgements -/
/-- an exception: its class, its own dict's address (where it has one), the abstract heap behind it -/
abbrev XK := Value → Option Addr → Hp → Prop
abbrev St := List (Option V)
abbrev VK := V → Hp → Prop
/-- an expression's reading; a test's; an argument list's -/
abbrev TE := St → Hp → VK → Prop
abbrev TT := St → Hp → (Bool → Hp → Prop) → Prop
abbrev TA := St → Hp → (List V → Hp → Prop) → Prop
/-- what is wanted behind a statement -/
structure Ends where
  nx : St → Hp → Prop
  rt : VK
  bk : St → Hp → Prop := fun _ _ => False
  ct : St → Hp → Prop := fun _ _ => False
abbrev TS := Ends → St → Hp → Prop

def EP (X : Cx) (pins : List (Addr × Obj)) (σ : St) (Q : VK) (u : Value) (s' : Shared) : Prop := ∃ v H', Inv X pins σ H' s' ∧ RelV v u ∧ Q v H'
def TP (X : Cx) (pins : List (Addr × Obj)) (σ : St) (Q : Bool → Hp → Prop) (b : Bool) (s' : Shared) : Prop := ∃ H', Inv X pins σ H' s' ∧ Q b H'
def AP (X : Cx) (pins : List (Addr × Obj)) (σ : St) (Q : List V → Hp → Prop) (us : List Value) (s' : Shared) : Prop := ∃ vs H', Inv X pins σ H' s' ∧ Vals vs us ∧ Q vs H'
def SP (X : Cx) (pins : List (Addr × Obj)) (D : Ends) (f : Flow) (s' : Shared) : Prop :=
  match f with
  | .next => ∃ σ' H', Inv X pins σ' H' s' ∧ D.nx σ' H'
  | .brk => ∃ σ' H', Inv X pins σ' H' s' ∧ D.bk σ' H'
  | .cont => ∃ σ' H', Inv X pins σ' H' s' ∧ D.ct σ' H'
  | .ret u => ∃ v σ' H', Inv X pins σ' H' s' ∧ RelV v u ∧ D.rt v H'

def PE (X : Cx) (e : Expr) (t : TE) : Prop :=
  ∀ (pins : List (Addr × Obj)) (s : Shared) (σ : St) (H : Hp) (Q : VK), Inv X pins σ H s → t σ H Q → wpAny (model X.prog X.w) X.A (eval e X.env) (EP X pins σ Q) X.xe s
def PT (X : Cx) (e : Expr) (t : TT) : Prop :=
  ∀ (pins : List (Addr × Obj)) (s : Shared) (σ : St) (H : Hp) (Q : Bool → Hp → Prop), Inv X pins σ H s → t σ H Q → wpAny (model X.prog X.w) X.A (isTrue e X.env (eval e X.env)) (TP X pins σ Q) X.xe s
/-- a test whatever its 'whole' is (and, or) -/
def PW (X : Cx) (e : Expr) (t : TT) : Prop :=
  ∀ (whole : Sem Value) (pins : List (Addr × Obj)) (s : Shared) (σ : St) (H : Hp) (Q : Bool → Hp → Prop), Inv X pins σ H s → t σ H Q → wpAny (model X.prog X.w) X.A (isTrue e X.env whole) (TP X pins σ Q) X.xe s
theorem PW.pt {X : Cx} {e : Expr} {t : TT} (h : PW X e t) : PT X e t := h _
/-- an argument list (no star), from the left -/
def PA (X : Cx) (es : List Expr) (t : TA) : Prop :=
  ∀ (pos : Pos) (pins : List (Addr × Obj)) (s : Shared) (σ : St) (H : Hp) (Q : List V → Hp → Prop), Inv X pins σ H s → t σ H Q → wpAny (model X.prog X.w) X.A (spliced (backTo pos (starEach es X.env))) (AP X pins σ Q) X.xe s
def PS (X : Cx) (st : Stmt) (t : TS) : Prop :=
  ∀ (pins : List (Addr × Obj)) (s : Shared) (σ : St) (H : Hp) (D : Ends), Inv X pins σ H s → t D σ H → wpAny (model X.prog X.w) X.A (exec st X.env) (SP X pins D) X.xe s
def PSs (X : Cx) (st : List Stmt) (t : TS) : Prop :=
  ∀ (pins : List (Addr × Obj)) (s : Shared) (σ : St) (H : Hp) (D : Ends), Inv X pins σ H s → t D σ H → wpAny (model X.prog X.w) X.A (execs st X.env) (SP X pins D) X.xe s
/-- weaken the end -/
theorem thn {α : Type} {t : Sem α} {Q Q' : α → Shared → Prop} {M : Model} {A : Around} {E : Value → Shared → Prop} {s : Shared} (h : wpAny M A t Q E s) (hQ : ∀ a s, Q a s → Q' a s) : wpAny M A t Q' E s := wpAny_mono h hQ fun _ _ x => x
end L2

namespace L2
open PySem PySem.Spec PyProof.Rows
section
variable {X : Cx}

/-! ### names and constants -/
def tVar (i : Nat) : TE := fun σ H Q => ∃ v, σ[i]? = some (some v) ∧ Q v H
def tC (v : V) : TE := fun _ H Q => Q v H
theorem pe_var {i : Nat} {x : Str} {pos : Pos} (hN : X.N[i]? = some x) (hv : Vis X.env.scope x) (hd : (x == ("__debug__" : Str)) = false := by decide) (hcd : (x == ("__classdict__" : Str)) = false := by decide) : PE X (.Name x pos) (tVar i) := by
  intro pins s σ H Q I h
  obtain ⟨v, e, h⟩ := h
  obtain ⟨m, hn, hl⟩ := I.loc
  obtain ⟨u, r, l⟩ := hl i x v hN e hv
  have fin : EP X pins σ Q u s := ⟨v, H, I, r, h⟩
  rcases l with ⟨hk, hm⟩ | ⟨hk, c, hc, hcell⟩
  · exact wpAny_Name (wpAny_loadName_local I.ok.kind hk hn hm fin) hd
  · rcases hk with hk | hk
    · exact wpAny_Name (wpAny_loadName_cell I.ok.kind hk hc hcell fin) hd
    · exact wpAny_Name (wpAny_loadName_free I.ok.kind hk hc hcell fin hcd) hd
theorem pe_int {i j pos} : PE X (.Constant (.int i) j pos) (tC (.int i)) := fun _ _ _ H _ I h => wpAny_Constant_int ⟨.int i, H, I.tok _, ⟨_, rfl⟩, h⟩
theorem pe_bl {b j pos} : PE X (.Constant (.bool b) j pos) (tC (.bl b)) := fun _ _ _ H _ I h => Constant_bool ⟨.bl b, H, I, rfl, h⟩
theorem pe_non {j pos} : PE X (.Constant .none j pos) (tC .non) := fun _ _ _ H _ I h => Constant_none ⟨.non, H, I, rfl, h⟩
theorem pe_str {x j pos} : PE X (.Constant (.str x) j pos) (tC (.str x)) := fun _ _ _ H _ I h => Calls.Constant_str ⟨.str x, H, I.tok _, ⟨_, rfl⟩, h⟩

/-- a global name of the def -/
def Gl (X : Cx) (x : Str) : Prop := X.env.kindOf x = some .globalImplicit
theorem ld_glob {E : Value → Shared → Prop} {pins : List (Addr × Obj)} {s : Shared} {σ : St} {H : Hp} {x : Str} {u : Value} {pos : Pos} {Q : Value → Shared → Prop} (I : Inv X pins σ H s) (hg : Gl X x) (hm : X.mg x = some u) (h : Q u s)
    (hd : (x == ("__debug__" : Str)) = false := by decide) : wpAny (model X.prog X.w) X.A (eval (.Name x pos) X.env) Q E s :=
  Calls.Name_function_global I.ok.kind hg (Calls.loadGlobal_global (by rw [I.ok.glob]; exact I.mod.glob.keeps I.bk) hm h) hd
theorem ld_blt {E : Value → Shared → Prop} {pins : List (Addr × Obj)} {s : Shared} {σ : St} {H : Hp} {x : Str} {u : Value} {pos : Pos} {Q : Value → Shared → Prop} (I : Inv X pins σ H s) (hg : Gl X x) (hm : X.mg x = none) (hv : bootBuiltins x = some u) (h : Q u s)
    (hn : x ≠ "__name__" := by decide) (hd : (x == ("__debug__" : Str)) = false := by decide) : wpAny (model X.prog X.w) X.A (eval (.Name x pos) X.env) Q E s := by
  obtain ⟨mb, h1, h2⟩ := I.mod.blt
  exact Calls.Name_function_global I.ok.kind hg (Calls.loadGlobal_builtin (by rw [I.ok.glob]; exact I.mod.glob.keeps I.bk) hm (by rw [I.ok.blt]; exact h1.keeps I.bk) ((h2 x hn).trans hv) h) hd
/-- a module's constant, a class, a function, as a value -/
theorem pe_glob {x : Str} {v : V} {u : Value} {pos : Pos} (hg : Gl X x) (hm : X.mg x = some u) (r : RelV v u) (hd : (x == ("__debug__" : Str)) = false := by decide) : PE X (.Name x pos) (tC v) :=
  fun _ _ _ H _ I h => ld_glob I hg hm ⟨v, H, I, r, h⟩ hd
theorem pe_bltn {x : Str} {v : V} {u : Value} {pos : Pos} (hg : Gl X x) (hm : X.mg x = none) (hv : bootBuiltins x = some u) (r : RelV v u) (hn : x ≠ "__name__" := by decide) (hd : (x == ("__debug__" : Str)) = false := by decide) : PE X (.Name x pos) (tC v) :=
  fun _ _ _ H _ I h => ld_blt I hg hm hv ⟨v, H, I, r, h⟩ hn hd

/-! ### arithmetic -/
variable {a b : Expr} {ta tb : TE} {pos : Pos}
/-! ### comparisons -/
/-- a comparison as a value, as a test -/
def tB (t : TE) : TT := fun σ H Q => t σ H fun x H1 => ∃ c, x = .bl c ∧ Q c H1
/-- an expression whose value is a bool, as a test -/
theorem pt_val {e : Expr} {t : TE} (h : PE X e t) (he : ∀ whole, isTrue e X.env whole = (do let v ← whole; standAt e.pos; holding [v] (truthy v)) := by intro _; rfl) : PT X e (tB t) := by
  intro pins s σ H Q I hw
  refine isTrue_plain (thn (h pins s σ H _ I hw) fun v s1 ⟨x, H1, I1, r1, q1⟩ => ?_) (he _)
  obtain ⟨d, rfl, q⟩ := q1
  cases r1
  exact wpAny_truthy_bool ⟨H1, I1, q⟩

/-! ### and, or, not -/
variable {tA tB' : TT} {rest : List Expr}
def tAnd (t u : TT) : TT := fun σ H Q => t σ H fun c H1 => if c = true then u σ H1 Q else Q false H1
def tOr (t u : TT) : TT := fun σ H Q => t σ H fun c H1 => if c = true then Q true H1 else u σ H1 Q
def tNot (t : TT) : TT := fun σ H Q => t σ H fun c H1 => Q (!c) H1
theorem pw_and1 (ha : PT X a tA) : PW X (.BoolOp .And [a] pos) tA := by
  intro wh pins s σ H Q I h
  refine isTrue_and (thn (ha pins s σ H Q I h) fun c s1 e => ?_)
  cases c with
  | true => exact isTrue_and_nil e
  | false => exact e
theorem pw_or1 (ha : PT X a tA) : PW X (.BoolOp .Or [a] pos) tA := by
  intro wh pins s σ H Q I h
  refine isTrue_or (thn (ha pins s σ H Q I h) fun c s1 e => ?_)
  cases c with
  | false => exact isTrue_or_nil e
  | true => exact e
theorem pw_and (ha : PT X a tA) (hb : PW X (.BoolOp .And (b :: rest) pos) tB') : PW X (.BoolOp .And (a :: b :: rest) pos) (tAnd tA tB') := by
  intro wh pins s σ H Q I h
  refine isTrue_and (thn (ha pins s σ H _ I h) fun c s1 ⟨H1, I1, q1⟩ => ?_)
  cases c with
  | true => exact hb wh pins s1 σ H1 Q I1 q1
  | false => exact ⟨H1, I1, q1⟩
theorem pw_or (ha : PT X a tA) (hb : PW X (.BoolOp .Or (b :: rest) pos) tB') : PW X (.BoolOp .Or (a :: b :: rest) pos) (tOr tA tB') := by
  intro wh pins s σ H Q I h
  refine isTrue_or (thn (ha pins s σ H _ I h) fun c s1 ⟨H1, I1, q1⟩ => ?_)
  cases c with
  | true => exact ⟨H1, I1, q1⟩
  | false => exact hb wh pins s1 σ H1 Q I1 q1
theorem pt_not (ha : PT X a tA) : PT X (.UnaryOp .Not a pos) (tNot tA) := by
  intro pins s σ H Q I h
  exact isTrue_not (ha pins s σ H (fun c H1 => Q (!c) H1) I h)
/-- .. as values (bools) -/
def tAndV (ta tb : TE) : TE := fun σ H Q => ta σ H fun x H1 => ∃ c, x = .bl c ∧ if c = true then tb σ H1 Q else Q (.bl false) H1
def tNotV (ta : TE) : TE := fun σ H Q => ta σ H fun x H1 => ∃ c, x = .bl c ∧ Q (.bl (!c)) H1
theorem pe_one {op} {t : TE} (h : PE X a t) : PE X (.BoolOp op [a] pos) t := fun pins s σ H Q I hw => BoolOp_one (h pins s σ H Q I hw)
theorem pe_and (ha : PE X a ta) (hb : PE X (.BoolOp .And (b :: rest) pos) tb) : PE X (.BoolOp .And (a :: b :: rest) pos) (tAndV ta tb) := by
  intro pins s σ H Q I h
  refine BoolOp_and (thn (ha pins s σ H _ I h) fun v s1 ⟨x, H1, I1, r1, q1⟩ => ?_)
  obtain ⟨c, rfl, q1⟩ := q1
  cases r1
  refine wpAny_truthy_bool ?_
  cases c with
  | true => exact hb pins s1 σ H1 Q I1 q1
  | false => exact ⟨.bl false, H1, I1, rfl, q1⟩
theorem pe_not (ha : PE X a ta) : PE X (.UnaryOp .Not a pos) (tNotV ta) := by
  intro pins s σ H Q I h
  refine UnaryOp_ (thn (ha pins s σ H _ I h) fun v s1 ⟨x, H1, I1, r1, q1⟩ => ?_)
  obtain ⟨c, rfl, q1⟩ := q1
  cases r1
  exact not_of (wpAny_truthy_bool ⟨.bl (!c), H1, I1, rfl, q1⟩)
/-- a if t else b -/
def tIf (t : TT) (ta tb : TE) : TE := fun σ H Q => t σ H fun c H1 => if c = true then ta σ H1 Q else tb σ H1 Q
theorem pe_ifExp {c : Expr} (hc : PT X c tA) (ha : PE X a ta) (hb : PE X b tb) : PE X (.IfExp c a b pos) (tIf tA ta tb) := by
  intro pins s σ H Q I h
  refine wpAny_IfExp (thn (hc pins s σ H _ I h) fun d s1 ⟨H1, I1, q1⟩ => ?_)
  cases d with
  | true => exact ha pins s1 σ H1 Q I1 q1
  | false => exact hb pins s1 σ H1 Q I1 q1
end
end L2

namespace L2
open PySem PySem.Spec PyProof.Rows

/-! ### a list, a tuple that is read: tracked, frozen, or an object of the module -/
def SqL (K : PySem.W.Frag) (H : Hp) (a : Addr) (xs : List V) : Prop :=
  Rd H a (.lst xs) ∨
    ∃ (o : Obj) (its : Array Value) (n : Nat), K.lookup a = some o ∧ o.cls = .type "list" ∧ o.dict = none ∧ o.data = .seq its n ∧ its.size ≤ sizeLine ∧ Vals xs its.toList
def SqT (K : PySem.W.Frag) (H : Hp) (a : Addr) (xs : List V) : Prop :=
  Rd H a (.tup xs) ∨
    ∃ (o : Obj) (its : Array Value) (n : Nat), K.lookup a = some o ∧ o.cls = .type "tuple" ∧ o.data = .seq its n ∧ its.size ≤ sizeLine ∧ Vals xs its.toList
def absV : Value → Option V
  | .none => some .non
  | .bool b => some (.bl b)
  | .int i _ => some (.int i)
  | .str x _ => some (.str x)
  | .bytes b _ => some (.byt b)
  | .float b _ => some (.flt b)
  | .ref a => some (.ref a)
  | .type n => some (.ty n)
  | _ => none
theorem RelV.abs {x : V} {u : Value} (r : RelV x u) : absV u = some x := by
  cases x with
  | non => cases r; rfl
  | bl _ => cases r; rfl
  | int _ => obtain ⟨t, rfl⟩ := r; rfl
  | str _ => obtain ⟨t, rfl⟩ := r; rfl
  | byt _ => obtain ⟨t, rfl⟩ := r; rfl
  | flt _ => obtain ⟨t, rfl⟩ := r; rfl
  | ref _ => cases r; rfl
  | ty _ => cases r; rfl
theorem RelV.inj {x y : V} {u : Value} (r : RelV x u) (q : RelV y u) : x = y := Option.some.inj (r.abs.symm.trans q.abs)
theorem Vals.inj : ∀ {xs ys : List V} {us : List Value}, Vals xs us → Vals ys us → xs = ys
  | _, _, _, .nil, .nil => rfl
  | _, _, _, .cons r t, .cons r' t' => by rw [r.inj r', Vals.inj t t']
section
variable {X : Cx} {pins : List (Addr × Obj)} {σ : St} {H : Hp} {s : Shared} {a : Addr} {xs ys : List V}
theorem SqL.of {K : PySem.W.Frag} (h : H a = some (.lst xs)) : SqL K H a xs := .inl (.inl h)
theorem SqT.of {K : PySem.W.Frag} (h : H a = some (.tup xs)) : SqT K H a xs := .inl (.inl h)
theorem Inv.list (I : Inv X pins σ H s) (h : SqL X.K H a xs) : ∃ its : List Value, Vals xs its ∧ PlainL s.heap a its.toArray ∧ xs.length ≤ sizeLine := by
  rcases h with h | ⟨o, its, n, hk, hc, hd, hs, hz, r⟩
  · obtain ⟨z, its, n, r, e⟩ := h.ok I.hok
    exact ⟨its, r, ⟨_, n, e, rfl, rfl, rfl⟩, z⟩
  · refine ⟨its.toList, r, ⟨o, n, I.kIn a o hk, hc, hd, by simpa using hs⟩, ?_⟩
    have e := r.length
    simp only [Array.length_toList] at e
    omega
theorem Inv.tuple (I : Inv X pins σ H s) (h : SqT X.K H a xs) : ∃ its : List Value, Vals xs its ∧ IsTup s.heap a its.toArray ∧ xs.length ≤ sizeLine := by
  rcases h with h | ⟨o, its, n, hk, hc, hs, hz, r⟩
  · obtain ⟨z, its, r, p⟩ := h.ok I.hok
    exact ⟨its, r, p, z⟩
  · refine ⟨its.toList, r, ⟨o, I.kIn a o hk, hc, n, by simpa using hs⟩, ?_⟩
    have e := r.length
    simp only [Array.length_toList] at e
    omega
theorem Inv.list_inj (I : Inv X pins σ H s) (h : SqL X.K H a xs) (h' : SqL X.K H a ys) : xs = ys := by
  obtain ⟨its, r, ⟨o, n, e, _, _, d⟩, _⟩ := I.list h
  obtain ⟨its', r', ⟨o', n', e', _, _, d'⟩, _⟩ := I.list h'
  rw [e] at e'; cases e'
  rw [d] at d'
  injection d' with d1 _
  have : its = its' := by simpa using congrArg Array.toList d1
  subst this
  exact r.inj r'
theorem Inv.tuple_inj (I : Inv X pins σ H s) (h : SqT X.K H a xs) (h' : SqT X.K H a ys) : xs = ys := by
  obtain ⟨its, r, ⟨o, e, _, n, d⟩, _⟩ := I.tuple h
  obtain ⟨its', r', ⟨o', e', _, n', d'⟩, _⟩ := I.tuple h'
  rw [e] at e'; cases e'
  rw [d] at d'
  injection d' with d1 _
  have : its = its' := by simpa using congrArg Array.toList d1
  subst this
  exact r.inj r'
end

/-! ### another wish about exceptions -/
abbrev Cx.wish (X : Cx) (E : Value → Shared → Prop) : Cx := { X with xe := E }
/-- no exception leaves -/
abbrev Cx.nox (X : Cx) : Cx := X.wish fun _ _ => False
theorem Cx.Ok.wish {X : Cx} (ok : X.Ok) (E : Value → Shared → Prop) : (X.wish E).Ok :=
  ⟨ok.mod, ok.kind, ok.glob, ok.blt, ok.above, ok.inj, ok.has, ok.cab, ok.hd, ok.frames, ok.stk, ok.exf, ok.bs, ok.bsz, ok.noex, ok.exfs, ok.funs, ok.frf⟩
theorem Cx.Ok.unwish {X : Cx} {E : Value → Shared → Prop} (ok : (X.wish E).Ok) : X.Ok :=
  ⟨ok.mod, ok.kind, ok.glob, ok.blt, ok.above, ok.inj, ok.has, ok.cab, ok.hd, ok.frames, ok.stk, ok.exf, ok.bs, ok.bsz, ok.noex, ok.exfs, ok.funs, ok.frf⟩
section
variable {X : Cx} {pins : List (Addr × Obj)} {σ : St} {H : Hp} {s : Shared} {E : Value → Shared → Prop}
theorem Inv.wish (I : Inv X pins σ H s) (E : Value → Shared → Prop) : Inv (X.wish E) pins σ H s := ⟨I.ok.wish E, I.os, I.bare, I.base, I.loc, I.cell, I.free, I.freeC, I.pin, I.hok, I.len⟩
theorem Inv.unwish (I : Inv (X.wish E) pins σ H s) : Inv X pins σ H s := ⟨I.ok.unwish, I.os, I.bare, I.base, I.loc, I.cell, I.free, I.freeC, I.pin, I.hok, I.len⟩
theorem SP.unwish {D : Ends} {f : Flow} {s' : Shared} (h : SP (X.wish E) pins D f s') : SP X pins D f s' := by
  cases f with
  | next => obtain ⟨σ', H', I, q⟩ := h; exact ⟨σ', H', I.unwish, q⟩
  | brk => obtain ⟨σ', H', I, q⟩ := h; exact ⟨σ', H', I.unwish, q⟩
  | cont => obtain ⟨σ', H', I, q⟩ := h; exact ⟨σ', H', I.unwish, q⟩
  | ret u => obtain ⟨v, σ', H', I, r, q⟩ := h; exact ⟨v, σ', H', I.unwish, r, q⟩
theorem PE.nox {e : Expr} {t : TE} (h : PE X.nox e t) : PE X e t := fun pins s σ H Q I hw =>
  wpAny_mono (h pins s σ H Q (I.wish _) hw) (fun _ _ ⟨v, H', I', r, q⟩ => ⟨v, H', I'.unwish, r, q⟩) fun _ _ z => False.elim z
theorem PT.nox {e : Expr} {t : TT} (h : PT X.nox e t) : PT X e t := fun pins s σ H Q I hw =>
  wpAny_mono (h pins s σ H Q (I.wish _) hw) (fun _ _ ⟨H', I', q⟩ => ⟨H', I'.unwish, q⟩) fun _ _ z => False.elim z
theorem PSs.nox {st : List Stmt} {t : TS} (h : PSs X.nox st t) : PSs X st t := fun pins s σ H D I hw =>
  wpAny_mono (h pins s σ H D (I.wish _) hw) (fun _ _ q => q.unwish) fun _ _ z => False.elim z
end

/-! ### blocks and small statements -/
section
variable {X : Cx} {st : Stmt} {rest : List Stmt} {t u : TS} {e : Expr} {te : TE} {pos : Pos}
def tNext : TS := fun D σ H => D.nx σ H
def tSeq (t u : TS) : TS := fun D σ H => t { D with nx := u D } σ H
theorem pss_nil : PSs X [] tNext := fun _ _ σ H _ I h => wpAny_execs_nil ⟨σ, H, I, h⟩
theorem pss_cons (h1 : PS X st t) (h2 : PSs X rest u) : PSs X (st :: rest) (tSeq t u) := by
  intro pins s σ H D I h
  refine wpAny_execs_cons (thn (h1 pins s σ H { D with nx := u D } I h) fun f s1 q => ?_)
  cases f with
  | next =>
    obtain ⟨σ', H', I', q⟩ := q
    exact h2 pins s1 σ' H' D I' q
  | ret v => exact q
  | brk => exact q
  | cont => exact q
theorem pss_one (h1 : PS X st t) : PSs X [st] t := by
  intro pins s σ H D I h
  refine wpAny_execs_cons (thn (h1 pins s σ H D I h) fun f s1 q => ?_)
  cases f with
  | next => exact wpAny_execs_nil q
  | ret v => exact q
  | brk => exact q
  | cont => exact q
/-- in a def's body nothing is shown -/
theorem Inv.quiet {pins : List (Addr × Obj)} {σ : St} {H : Hp} {s : Shared} (I : Inv X pins σ H s) : interactive X.env = false := by simp [interactive, I.ok.kind]
/-- an expression whose value is dropped -/
def tDrop (te : TE) : TS := fun D σ H => te σ H fun _ H1 => D.nx σ H1
theorem ps_expr (he : PE X e te) (hs : swapsWith e none pos.line X.env = pure false := by rfl) : PS X (.Expr e pos) (tDrop te) := by
  intro pins s σ H D I h
  exact wpAny_Expr_any (thn (he pins s σ H _ I h) fun v s1 ⟨x, H1, I1, r1, q1⟩ => ⟨σ, H1, I1, q1⟩) I.quiet hs
def tRet (te : TE) : TS := fun D σ H => te σ H D.rt
theorem ps_ret (he : PE X e te) : PS X (.Return (some e) pos) (tRet te) := by
  intro pins s σ H D I h
  exact wpAny_Return_some (thn (he pins s σ H _ I h) fun v s1 ⟨x, H1, I1, r1, q1⟩ => ⟨x, σ, H1, I1, r1, q1⟩)
def tIfS (c : TT) (t u : TS) : TS := fun D σ H => c σ H fun b H1 => if b = true then t D σ H1 else u D σ H1
theorem ps_if {c : Expr} {a b : List Stmt} {tc : TT} (hc : PT X c tc) (ha : PSs X a t) (hb : PSs X b u) : PS X (.If c a b pos) (tIfS tc t u) := by
  intro pins s σ H D I h
  refine wpAny_If (thn (hc pins s σ H _ I h) fun d s1 ⟨H1, I1, q1⟩ => ?_)
  cases d with
  | true => exact ha pins s1 σ H1 D I1 q1
  | false => exact hb pins s1 σ H1 D I1 q1
end

/-! ### targets -/
abbrev TG := V → St → Hp → (St → Hp → Prop) → Prop
abbrev TGs := List V → St → Hp → (St → Hp → Prop) → Prop
def PG (X : Cx) (target : Expr) (t : TG) : Prop :=
  ∀ (pins : List (Addr × Obj)) (s : Shared) (σ : St) (H : Hp) (v : V) (u : Value) (Q : St → Hp → Prop), Inv X pins σ H s → RelV v u → t v σ H Q →
    wpAny (model X.prog X.w) X.A (assign target X.env u) (fun _ s' => ∃ σ' H', Inv X pins σ' H' s' ∧ Q σ' H') X.xe s
/-- several targets, one after another -/
def PGs (X : Cx) (ts : List Expr) (t : TGs) : Prop :=
  ∀ (pins : List (Addr × Obj)) (s : Shared) (σ : St) (H : Hp) (vs : List V) (us : List Value) (Q : St → Hp → Prop), Inv X pins σ H s → Vals vs us → t vs σ H Q →
    wpAny (model X.prog X.w) X.A (assignInOrder ((assignEach ts X.env).map (·.2)) us) (fun _ s' => ∃ σ' H', Inv X pins σ' H' s' ∧ Q σ' H') X.xe s
section
variable {X : Cx} {pos : Pos}
def gName (i : Nat) : TG := fun v σ H Q => Q (σ.set i (some v)) H
theorem pg_name {i : Nat} {x : Str} (hN : X.N.Nodup) (hi : X.N[i]? = some x) (hx : Loc X.env.scope x) (hf : X.fn x = true ∨ X.env.scope.names.lookup x = some .local := by first | exact .inl rfl | exact .inr rfl | assumption) : PG X (.Name x pos) (gName i) := by
  intro pins s σ H v u Q I r h
  exact wpAny_assign_Name (store_ok I hN hi hx r (fun s' I' => ⟨_, H, I', h⟩) hf)
def gNil : TGs := fun vs σ H Q => vs = [] ∧ Q σ H
def gCons (t : TG) (u : TGs) : TGs := fun vs σ H Q => ∃ v r, vs = v :: r ∧ t v σ H fun σ' H' => u r σ' H' Q
theorem pgs_nil : PGs X [] gNil := by
  intro pins s σ H vs us Q I r h
  obtain ⟨e, h⟩ := h
  subst e
  cases r
  exact assignInOrder_nil ⟨σ, H, I, h⟩
theorem pgs_cons {e : Expr} {es : List Expr} {t : TG} {u : TGs} (h1 : PG X e t) (h2 : PGs X es u)
    (hs : (assignEach (e :: es) X.env).map (·.2) = assign e X.env :: (assignEach es X.env).map (·.2) := by rfl) : PGs X (e :: es) (gCons t u) := by
  intro pins s σ H vs us Q I r h
  obtain ⟨v, vr, e1, h⟩ := h
  subst e1
  cases r with
  | cons r rr =>
    rw [hs]
    refine assignInOrder_cons (thn (h1 pins s σ H _ _ _ I r h) fun _ s1 ⟨σ1, H1, I1, q1⟩ => ?_)
    exact h2 pins s1 σ1 H1 _ _ Q I1 rr q1
/-- (a, b, ..) = a tuple of that length -/
def gTup (K : PySem.W.Frag) (n : Nat) (t : TGs) : TG := fun v σ H Q => ∃ a xs, v = .ref a ∧ SqT K H a xs ∧ xs.length = n ∧ t xs σ H Q
theorem pg_tup {es : List Expr} {k : Nat} {t : TGs} {n : Nat} (hc : X.calm = true) (h : PGs X es t)
    (hn : (assignEach es X.env).length = n := by rfl) (hst : (assignEach es X.env).findIdx? (·.1) = none := by rfl) : PG X (.Tuple es k pos) (gTup X.K n t) := by
  intro pins s σ H v u Q I r hw
  obtain ⟨a, xs, e1, hq, hl, hw⟩ := hw
  subst e1
  cases r
  obtain ⟨its, rv, ht, hz⟩ := I.tuple hq
  refine assign_Tuple_tuple (I.ok.hd hc) ht (by simp [hn, ← hl, rv.length]) hst fun h' hx => ?_
  have I1 : Inv X pins σ H { s with heap := h' } := I.kept (t' := s.toks) fun b o e => hx b o (Nat.ne_of_lt (Heap.lt_size e)) e
  exact h pins _ σ H xs _ Q I1 (by simpa using rv) hw
/-- target = value -/
def tAsg (te : TE) (g : TG) : TS := fun D σ H => te σ H fun x H1 => g x σ H1 D.nx
/-- name = value -/
theorem ps_set {i : Nat} {x : Str} {e : Expr} {te : TE} {pos' : Pos} (hN : X.N.Nodup) (hi : X.N[i]? = some x) (hx : Loc X.env.scope x) (he : PE X e te) (hs : swapsWith e (some (.Name x pos')) pos.line X.env = pure false := by rfl) (hf : X.fn x = true ∨ X.env.scope.names.lookup x = some .local := by first | exact .inl rfl | exact .inr rfl | assumption) :
    PS X (.Assign [.Name x pos'] e pos) (tAsg te (gName i)) := by
  intro pins s σ H D I h
  refine wpAny_Assign_Name (thn (he pins s σ H _ I h) fun v s1 ⟨y, H1, I1, r1, q1⟩ => ?_) hs
  exact store_ok I1 hN hi hx r1 (fun s2 I2 => ⟨_, H1, I2, q1⟩) hf
end

/-! ### while -/
section
variable {X : Cx} {pos : Pos}
/-- the invariant W with its measure -/
def tWhile (c : TT) (tb : TS) : TS := fun D σ H => ∃ W : Nat → St → Hp → Prop, (∃ m, W m σ H) ∧ ∀ m σ H, W m σ H →
  c σ H fun b H1 => if b = true then ∃ N : St → Hp → Prop, (∀ σ' H', N σ' H' → ∃ m', m' < m ∧ W m' σ' H') ∧ tb { D with nx := N, ct := N, bk := D.nx } σ H1 else D.nx σ H1
theorem ps_while {c : Expr} {body : List Stmt} {tc : TT} {tb : TS} (hp : PassesOwn (model X.prog X.w) X.A X.env X.xe) (hc : PT X c tc) (hb : PSs X body tb) : PS X (.While c body [] pos) (tWhile tc tb) := by
  intro pins s σ H D I h
  obtain ⟨W, ⟨m0, w0⟩, turn⟩ := h
  refine wpAny_While (codeAny_whileLoop (fun n s' => ∃ σ' H', Inv X pins σ' H' s' ∧ W n σ' H') ?_ m0 ⟨σ, H, I, w0⟩)
  rintro n s1 ⟨σ1, H1, I1, w1⟩
  refine wpAny_passesOwn hp (thn (hc pins s1 σ1 H1 _ I1 (turn n σ1 H1 w1)) fun b s2 ⟨H2, I2, q2⟩ => ?_)
  cases b with
  | true =>
    obtain ⟨N, hN, q2⟩ := q2
    rw [if_pos rfl]
    refine wpAny_passesOwn hp (thn (hb pins s2 σ1 H2 _ I2 q2) fun f s3 q3 => ?_)
    cases f with
    | next =>
      obtain ⟨σ3, H3, I3, n3⟩ := q3
      obtain ⟨m', hm, w3⟩ := hN σ3 H3 n3
      exact ⟨m', hm, σ3, H3, I3, w3⟩
    | cont =>
      obtain ⟨σ3, H3, I3, n3⟩ := q3
      obtain ⟨m', hm, w3⟩ := hN σ3 H3 n3
      exact ⟨m', hm, σ3, H3, I3, w3⟩
    | brk => exact q3
    | ret v => exact q3
  | false =>
    rw [if_neg Bool.false_ne_true]
    exact wpAny_execs_nil ⟨σ1, H2, I2, q2⟩
end

/-! ### what a loop or a comprehension walks -/
/-- at turn i: it yields x (the heap may grow), or it stops -/
structure It where
  go : Nat → Hp → Prop
  yld : Nat → Hp → V → Hp → Prop
  stop : Nat → Hp → Prop
/-- the iterator's own objects may turn: they are not the frame's, not pinned, younger than the entry (or a comprehension's own) -/
def FpOk (X : Cx) (pins : List (Addr × Obj)) (H : Hp) (b : Addr) : Prop :=
  H b = none ∧ b ≠ X.env.locals ∧ b ∉ X.fs ∧ (b ∈ X.ex ∨ X.s₀.heap.objs.size ≤ b) ∧ (∀ x c, X.env.cells.lookup x = some c → c ≠ b) ∧ ∀ p ∈ X.pn ++ pins, p.1 ≠ b
theorem Inv.fpOk {X : Cx} {pins : List (Addr × Obj)} {σ : St} {H H' : Hp} {s : Shared} {b : Addr} (I : Inv X pins σ H s) (hb : s.heap.objs.size ≤ b) (hn : H' b = none) : FpOk X pins H' b := by
  refine ⟨hn, Nat.ne_of_gt (Nat.lt_of_lt_of_le I.lt hb), I.nofs hb, .inr (Nat.le_trans I.sz hb), fun x c e z => ?_, fun p hp z => ?_⟩
  · obtain ⟨v, q⟩ := I.cell x c e
    exact absurd (Nat.lt_of_lt_of_le q.lt (by rw [z]; exact hb)) (Nat.lt_irrefl _)
  · exact absurd (Nat.lt_of_lt_of_le (Heap.lt_size (I.pin p hp).1) (by rw [z]; exact hb)) (Nat.lt_irrefl _)
structure Turn (P : Program) (w : World) (K : PySem.W.Frag) (tg : Expr) (J : It) (fp : List Addr) (it : Addr) (tn : Nat → Heap → Prop) : Prop where
  mem : it ∈ fp
  obj : ∀ i h, tn i h → ∀ b ∈ fp, ∃ o, h.get? b = some o ∧ ∀ v, o.data ≠ .cell v
  keep : ∀ i h h', tn i h → (∀ b ∈ fp, ∀ o, h.get? b = some o → h'.get? b = some o) → tn i h'
  item : ∀ (X : Cx), X.prog = P → X.w = w → X.K = K → X.calm = true → ∀ (i : Nat) (pins : List (Addr × Obj)) (s : Shared) (σ : St) (H : Hp) (E : Value → Shared → Prop), Inv X pins σ H s → (∀ b ∈ fp, FpOk X pins H b) → tn i s.heap → J.go i H →
    wpAny (model P w) X.A (pyNext (.ref it)) (fun r s1 => ∃ u, r = some u ∧
      wpAny (model P w) X.A (letOwnedTupleGo tg (.ref it) u) (fun _ s2 => ∃ x H', Inv X pins σ H' s2 ∧ RelV x u ∧ J.yld i H x H' ∧ tn (i + 1) s2.heap ∧ ∀ b ∈ fp, H' b = none) E s1) E s
  done : ∀ (X : Cx), X.prog = P → X.w = w → X.K = K → X.calm = true → ∀ (i : Nat) (pins : List (Addr × Obj)) (s : Shared) (σ : St) (H : Hp) (E : Value → Shared → Prop), Inv X pins σ H s → (∀ b ∈ fp, FpOk X pins H b) → tn i s.heap → J.stop i H →
    wpAny (model P w) X.A (pyNext (.ref it)) (fun r s1 => r = none ∧ Inv X pins σ H s1) E s
  self : ∀ (A : Around) (i : Nat) (s : Shared) (Q : Value → Shared → Prop) (E : Value → Shared → Prop), tn i s.heap → Q (.ref it) s → wpAny (model P w) A (pyIter (.ref it)) Q E s
abbrev TI := St → Hp → (It → Hp → Prop) → Prop
/-- an iterator has come -/
def PIE (X : Cx) (pins : List (Addr × Obj)) (σ : St) (tg : Expr) (R : It → Hp → Prop) (itv : Value) (s2 : Shared) : Prop :=
  ∃ (it : Addr) (fp : List Addr) (tn : Nat → Heap → Prop) (J : It) (H' : Hp), itv = .ref it ∧ Inv X pins σ H' s2 ∧ Turn X.prog X.w X.K tg J fp it tn ∧ tn 0 s2.heap ∧ (∀ b ∈ fp, FpOk X pins H' b) ∧ R J H'
def PI (X : Cx) (tg iter : Expr) (wi : TI) : Prop :=
  ∀ (pins : List (Addr × Obj)) (s : Shared) (σ : St) (H : Hp) (R : It → Hp → Prop), Inv X pins σ H s → wi σ H R →
    wpAny (model X.prog X.w) X.A (eval iter X.env) (fun v s1 => wpAny (model X.prog X.w) X.A (pyIter v) (PIE X pins σ tg R) X.xe s1) X.xe s

/-- the step ahead of the store is nothing for an iterator that keeps no tuple -/
theorem go_of {M : Model} {A : Around} {E : Value → Shared → Prop} {s : Shared} {tg : Expr} {it : Addr} {u : Value} {o : Obj} {n : String} {vs : Array Value} {Q : Unit → Shared → Prop} (ho : s.heap.get? it = some o) (hc : o.cls = .type n) (hd : o.data = .fields vs)
    (hn : ["enumerate", "zip", "dict_itemiterator", "dict_reverseitemiterator", "odict_iterator", "itertools.zip_longest", "itertools.pairwise"].contains n = false) (hQ : Q () s) : wpAny M A (letOwnedTupleGo tg (.ref it) u) Q E s := by
  unfold letOwnedTupleGo
  cases tg <;> first
    | exact wpAny_pure hQ
    | (cases u <;> first
        | exact wpAny_pure hQ
        | (refine wpAny_bind (wpAny_load ho ?_)
           rw [hc, hd]
           show wpAny M A (if (["enumerate", "zip", "dict_itemiterator", "dict_reverseitemiterator", "odict_iterator", "itertools.zip_longest", "itertools.pairwise"].contains n && vs[0]? == some (rawInt _)) = true then _ else _) Q E s
           rw [if_neg (by intro h; rw [hn, Bool.false_and] at h; cases h)]
           exact wpAny_pure hQ))

/-- the list at a, as it stands at each turn (a loop may append to it) -/
def Itl (K : PySem.W.Frag) (a : Addr) : It :=
  ⟨fun i H => ∃ xs x, SqL K H a xs ∧ xs[i]? = some x, fun i H x H' => H' = H ∧ ∀ xs, SqL K H a xs → xs[i]? = some x, fun i H => ∃ xs, SqL K H a xs ∧ xs.length ≤ i⟩
def Itt (K : PySem.W.Frag) (a : Addr) : It :=
  ⟨fun i H => ∃ xs x, SqT K H a xs ∧ xs[i]? = some x, fun i H x H' => H' = H ∧ ∀ xs, SqT K H a xs → xs[i]? = some x, fun i H => ∃ xs, SqT K H a xs ∧ xs.length ≤ i⟩
/-- lo, lo + 1, .. (n of them) -/
def Itr (lo : Int) (n : Nat) : It := ⟨fun i _ => i < n, fun i H x H' => H' = H ∧ x = .int (lo + i), fun i _ => n ≤ i⟩
theorem turn_list {P : Program} {w : World} {K : PySem.W.Frag} {tg : Expr} (a it : Addr) : Turn P w K tg (Itl K a) [it] it (fun i h => h.IsListIter it a i) where
  mem := by simp
  obj := fun i h st b hb => by
    have e : b = it := by simpa using hb
    subst e
    obtain ⟨o, e, c, d⟩ := st
    exact ⟨o, e, fun v z => by rw [d] at z; cases z⟩
  keep := fun i h h' st k => st.at fun o e => k it (by simp) o e
  item := by
    intro X hP hw hK hc i pins s σ H E I hf st hg
    subst hP hw hK
    obtain ⟨xs, x, hq, hx⟩ := hg
    obtain ⟨its, rv, p, hz⟩ := I.list hq
    obtain ⟨u, hu, ru⟩ := rv.get hx
    obtain ⟨f0, f1, f2, f3, f4, f5⟩ := hf it (by simp)
    refine wpAny_pyNext_list_item st p.isList (x := u) (by simpa using hu) fun h' st' sb => ?_
    have I1 : Inv X pins σ H { s with heap := h' } := I.turned (t' := s.toks) (fun b o hb e => (sb.2 b hb).trans e) f0 f1 f3 f4 f5
    obtain ⟨o, e, c, d⟩ := id st'
    exact ⟨u, rfl, go_of (s := { s with heap := h' }) e c d (by decide) ⟨x, H, I1, ru, ⟨rfl, fun ys hy => by rw [I.list_inj hy hq]; exact hx⟩, st', fun b hb => (hf b hb).1⟩⟩
  done := by
    intro X hP hw hK hc i pins s σ H E I hf st hg
    subst hP hw hK
    obtain ⟨xs, hq, hx⟩ := hg
    obtain ⟨its, rv, p, hz⟩ := I.list hq
    obtain ⟨f0, f1, f2, f3, f4, f5⟩ := hf it (by simp)
    have hl := rv.length
    exact wpAny_pyNext_list_end (I.ok.hd hc) st p.isList (by simp; omega) fun h' eb => ⟨rfl, I.turned (t' := s.toks) (fun b o hb e => eb b o hb e) f0 f1 f3 f4 f5⟩
  self := fun _ _ _ _ _ st h => wpAny_pyIter_listiter st h
theorem turn_tuple {P : Program} {w : World} {K : PySem.W.Frag} {tg : Expr} (a it : Addr) : Turn P w K tg (Itt K a) [it] it (fun i h => h.IsTupleIter it a i) where
  mem := by simp
  obj := fun i h st b hb => by
    have e : b = it := by simpa using hb
    subst e
    obtain ⟨o, e, c, d⟩ := st
    exact ⟨o, e, fun v z => by rw [d] at z; cases z⟩
  keep := fun i h h' st k => st.at fun o e => k it (by simp) o e
  item := by
    intro X hP hw hK hc i pins s σ H E I hf st hg
    subst hP hw hK
    obtain ⟨xs, x, hq, hx⟩ := hg
    obtain ⟨its, rv, p, hz⟩ := I.tuple hq
    obtain ⟨u, hu, ru⟩ := rv.get hx
    obtain ⟨f0, f1, f2, f3, f4, f5⟩ := hf it (by simp)
    refine wpAny_pyNext_tuple_item st (show s.heap.IsTuple a its.toArray from p) (x := u) (by simpa using hu) fun h' st' sb => ?_
    have I1 : Inv X pins σ H { s with heap := h' } := I.turned (t' := s.toks) (fun b o hb e => (sb.2 b hb).trans e) f0 f1 f3 f4 f5
    obtain ⟨o, e, c, d⟩ := id st'
    exact ⟨u, rfl, go_of (s := { s with heap := h' }) e c d (by decide) ⟨x, H, I1, ru, ⟨rfl, fun ys hy => by rw [I.tuple_inj hy hq]; exact hx⟩, st', fun b hb => (hf b hb).1⟩⟩
  done := by
    intro X hP hw hK hc i pins s σ H E I hf st hg
    subst hP hw hK
    obtain ⟨xs, hq, hx⟩ := hg
    obtain ⟨its, rv, p, hz⟩ := I.tuple hq
    obtain ⟨f0, f1, f2, f3, f4, f5⟩ := hf it (by simp)
    have hl := rv.length
    exact wpAny_pyNext_tuple_end (I.ok.hd hc) st (show s.heap.IsTuple a its.toArray from p) (by simp; omega) fun h' eb => ⟨rfl, I.turned (t' := s.toks) (fun b o hb e => eb b o hb e) f0 f1 f3 f4 f5⟩
  self := fun _ _ _ _ _ st h => wpAny_pyIter_tupleiter st h
theorem turn_range {P : Program} {w : World} {K : PySem.W.Frag} {tg : Expr} (it : Addr) (lo : Int) (n : Nat) : Turn P w K tg (Itr lo n) [it] it (fun i h => IsRangeIter h it (lo + (i : Nat) * 1) ((n : Int) - (i : Nat)) 1) where
  mem := by simp
  obj := fun i h st b hb => by
    have e : b = it := by simpa using hb
    subst e
    exact ⟨_, st, fun v z => by
      have z' : Data.fields _ = Data.cell v := z
      cases z'⟩
  keep := fun i h h' st k => k it (by simp) _ st
  item := by
    intro X hP hw hK hc i pins s σ H E I hf st hg
    subst hP hw hK
    obtain ⟨f0, f1, f2, f3, f4, f5⟩ := hf it (by simp)
    have W := Walks.range (prog := X.prog) (w := X.w) (I.ok.hd hc) it lo 1 n
    refine W.item i s _ _ hg st fun v h' tk hv st' kk => ?_
    obtain ⟨t, rfl⟩ := hv
    have I1 : Inv X pins σ H { s with heap := h', toks := tk } := I.turned (fun b o hb e => kk b o (by simpa using hb) e) f0 f1 f3 f4 f5
    refine ⟨_, rfl, go_of (s := { s with heap := h', toks := tk }) (n := "range_iterator") st' rfl rfl (by decide) ⟨.int (lo + i), H, I1, ⟨t, ?_⟩, ⟨rfl, rfl⟩, st', fun b hb => (hf b hb).1⟩⟩
    rw [Int.mul_one]
  done := by
    intro X hP hw hK hc i pins s σ H E I hf st hg
    subst hP hw hK
    obtain ⟨f0, f1, f2, f3, f4, f5⟩ := hf it (by simp)
    exact wpAny_pyNext_range_end (I.ok.hd hc) st (by have : n ≤ i := hg; omega) fun h' eb => ⟨rfl, I.turned (t' := s.toks) (fun b o hb e => eb b o hb e) f0 f1 f3 f4 f5⟩
  self := fun _ _ _ _ _ st h => wpAny_pyIter_rangeiter st h
end L2

namespace L2
open PySem PySem.Spec PyProof.Rows
section
variable {X : Cx} {tg : Expr}
/-- a range object just made, walked -/
theorem range_it {pins : List (Addr × Obj)} {σ : St} {H : Hp} {s : Shared} {R : It → Hp → Prop} {E : Value → Shared → Prop} {lo hi : Int} {t u v : Tok} {tk : Nat} (I : Inv X pins σ H s) (h1 : -(2 ^ 62) ≤ lo) (h2 : lo < 2 ^ 62) (h3 : -(2 ^ 62) ≤ hi) (h4 : hi < 2 ^ 62)
    (q : R (Itr lo (hi - lo).toNat) H) : wpAny (model X.prog X.w) X.A (pyIter (.ref s.heap.objs.size)) (PIE X pins σ tg R) E { s with heap := s.heap.push { cls := .type "range", data := .fields #[.int lo t, .int hi u, .int 1 v] }, toks := tk } := by
  refine wpAny_pyIter_range (IsRange.new ..) (small_one h1 h2 h3 h4) ?_
  have I1 : Inv X pins σ H { s with heap := s.heap.push { cls := .type "range", data := .fields #[.int lo t, .int hi u, .int 1 v] }, toks := tk } := I.kept fun b o e => Heap.get?_push_of_some _ e
  refine ⟨(s.heap.push { cls := .type "range", data := .fields #[.int lo t, .int hi u, .int 1 v] }).objs.size, [(s.heap.push { cls := .type "range", data := .fields #[.int lo t, .int hi u, .int 1 v] }).objs.size], _, _, H, rfl,
    I1.kept (t' := tk) fun b o e => Heap.get?_push_of_some _ e, turn_range _ lo (hi - lo).toNat, ?_, fun b hb => ?_, q⟩
  · have e1 : lo + ((0 : Nat) : Int) * 1 = lo := by simp
    have e2 : (((hi - lo).toNat : Nat) : Int) - ((0 : Nat) : Int) = Builtin.Range.rangeSize lo hi 1 := by rw [rangeSize_one]; split <;> omega
    show IsRangeIter _ _ (lo + ((0 : Nat) : Int) * 1) ((((hi - lo).toNat : Nat) : Int) - ((0 : Nat) : Int)) 1
    rw [e1, e2]
    exact Heap.get?_push_size _ rfl
  · have e : b = (s.heap.push { cls := .type "range", data := .fields #[.int lo t, .int hi u, .int 1 v] }).objs.size := by simpa using hb
    subst e
    exact I1.fpOk (Nat.le_refl _) (I1.hok.fresh (Nat.le_refl _))
def iRng1 (ta : TA) : TI := fun σ H R => ta σ H fun vs H1 => ∃ j : Int, vs = [.int j] ∧ -(2 ^ 62) ≤ j ∧ j < 2 ^ 62 ∧ R (Itr 0 j.toNat) H1
def iRng2 (ta : TA) : TI := fun σ H R => ta σ H fun vs H1 => ∃ i j : Int, vs = [.int i, .int j] ∧ (-(2 ^ 62) ≤ i ∧ i < 2 ^ 62 ∧ -(2 ^ 62) ≤ j ∧ j < 2 ^ 62) ∧ R (Itr i (j - i).toNat) H1
theorem pi_range1 {a : Expr} {ta : TA} {p pos : Pos} (hg : Gl X "range") (hm : X.mg "range" = none) (ha : PA X [a] ta) (hs : starEach [a] X.env = [(false, eval a X.env)] := by rfl) : PI X tg (.Call (.Name "range" p) [a] [] pos) (iRng1 ta) := by
  intro pins s σ H R I h
  refine Call_ (ld_blt I hg hm boot_range (PyProof.Rows.callWith_type1 (thn (ha pos pins s σ H _ I h) fun us s1 ⟨vs, H1, I1, r1, q1⟩ => ?_) hs rfl))
  obtain ⟨j, e, q1, q2, q⟩ := q1
  subst e
  cases r1 with
  | cons r rr =>
    cases rr
    obtain ⟨t, rfl⟩ := r
    exact call_range_1 (range_it I1 (by omega) (by omega) q1 q2 (by simpa using q))
theorem pi_range2 {a b : Expr} {ta : TA} {p pos : Pos} (hg : Gl X "range") (hm : X.mg "range" = none) (ha : PA X [a, b] ta) (hs : starEach [a, b] X.env = [(false, eval a X.env), (false, eval b X.env)] := by rfl) (hs2 : starEach [b] X.env = [(false, eval b X.env)] := by rfl) :
    PI X tg (.Call (.Name "range" p) [a, b] [] pos) (iRng2 ta) := by
  intro pins s σ H R I h
  refine Call_ (ld_blt I hg hm boot_range (PyProof.Rows.callWith_type1 (thn (ha pos pins s σ H _ I h) fun us s1 ⟨vs, H1, I1, r1, q1⟩ => ?_) (by rw [hs, hs2]) (by rw [hs2]; rfl)))
  obtain ⟨i, j, e, ⟨q1, q2, q3, q4⟩, q⟩ := q1
  subst e
  cases r1 with
  | cons r rr =>
    cases rr with
    | cons r' rr =>
      cases rr
      obtain ⟨t, rfl⟩ := r
      obtain ⟨t', rfl⟩ := r'
      exact call_range_2 (range_it I1 q1 q2 q3 q4 q)

/-! ### for -/
/-- W: the invariant by the turn and a measure; N: what the body is to reach -/
def tFor (wi : TI) (g : TG) (tb : TS) : TS := fun D σ H => wi σ H fun J H1 => ∃ W : Nat → Nat → St → Hp → Prop, (∃ m, W 0 m σ H1) ∧ ∀ i m σ H, W i m σ H →
  (J.stop i H ∧ D.nx σ H) ∨ (J.go i H ∧ ∃ N : St → Hp → Prop, (∀ σ' H', N σ' H' → ∃ m', m' < m ∧ W (i + 1) m' σ' H') ∧ ∀ x H', J.yld i H x H' → g x σ H' fun σ2 H2 => tb { D with nx := N, ct := N, bk := D.nx } σ2 H2)
/-- the records at fp as they stand -/
def pinsAt (fp : List Addr) (h : Heap) : List (Addr × Obj) := fp.filterMap fun b => (h.get? b).map fun o => (b, o)
theorem mem_pinsAt {fp : List Addr} {h : Heap} {b : Addr} {o : Obj} (hb : b ∈ fp) (e : h.get? b = some o) : (b, o) ∈ pinsAt fp h := List.mem_filterMap.mpr ⟨b, hb, by rw [e]; rfl⟩
theorem of_pinsAt {fp : List Addr} {h : Heap} {p : Addr × Obj} (hp : p ∈ pinsAt fp h) : p.1 ∈ fp ∧ h.get? p.1 = some p.2 := by
  obtain ⟨b, hb, e⟩ := List.mem_filterMap.mp hp
  cases q : h.get? b with
  | none => rw [q] at e; cases e
  | some o =>
    rw [q] at e
    have e' : (b, o) = p := Option.some.inj e
    subst e'
    exact ⟨hb, q⟩
theorem Inv.pinned {pins : List (Addr × Obj)} {σ : St} {H : Hp} {s : Shared} {fp : List Addr} (I : Inv X pins σ H s) (hf : ∀ b ∈ fp, FpOk X pins H b) (ho : ∀ b ∈ fp, ∃ o, s.heap.get? b = some o ∧ ∀ v, o.data ≠ .cell v) : Inv X (pins ++ pinsAt fp s.heap) σ H s :=
  I.pins_of fun p hp => (List.mem_append.mp hp).elim (fun z => I.pin p (List.mem_append_right _ z)) fun z => by
    obtain ⟨hb, e⟩ := of_pinsAt z
    obtain ⟨f0, f1, f2, _⟩ := hf p.1 hb
    obtain ⟨o, e', d⟩ := ho p.1 hb
    rw [e] at e'; cases e'
    exact ⟨e, f0, f1, f2, d⟩
theorem Inv.unpinned {pins pl : List (Addr × Obj)} {σ : St} {H : Hp} {s : Shared} (I : Inv X (pins ++ pl) σ H s) : Inv X pins σ H s := I.pins_of fun p hp => I.pin p (List.mem_append_right _ (List.mem_append_left _ hp))
theorem ps_for {iter : Expr} {body : List Stmt} {wi : TI} {g : TG} {tb : TS} {pos : Pos} (hp : PassesOwn (model X.prog X.w) X.A X.env X.xe) (hc : X.calm = true) (hi : PI X tg iter wi) (hg : PG X tg g) (hb : PSs X body tb)
    (hs : ∀ x, foldedSetIterable iter X.env x = pure x := by intro _; rfl) : PS X (.For tg iter body [] pos) (tFor wi g tb) := by
  intro pins s σ H D I h
  refine wpAny_For (thn (hi pins s σ H _ I h) fun v s1 h1 => thn h1 fun itv s2 h2 => ?_) hs
  obtain ⟨it, fp, tn, J, H2, e, I2, T, st2, f2, W, ⟨m0, w0⟩, turn⟩ := h2
  subst e
  -- what stays true of the iterator's objects through the loop
  have stat : ∀ {H' : Hp}, (∀ b ∈ fp, H' b = none) → ∀ b ∈ fp, FpOk X pins H' b := fun hn b hb => ⟨hn b hb, (f2 b hb).2⟩
  refine codeAny_forLoop_any (fun n s' => ∃ i σ' H', Inv X pins σ' H' s' ∧ tn i s'.heap ∧ (∀ b ∈ fp, H' b = none) ∧ W i n σ' H') ?_ m0 ⟨0, σ, H2, I2, st2, fun b hb => (f2 b hb).1, w0⟩
  rintro n s3 ⟨i, σ3, H3, I3, st3, fr3, w3⟩
  rcases turn i n σ3 H3 w3 with ⟨stop, qn⟩ | ⟨go, N, hN, step⟩
  · refine wpAny_passesOwn hp (thn (T.done X rfl rfl rfl hc i pins s3 σ3 H3 X.xe I3 (stat fr3) st3 stop) fun r s4 ⟨hr, I4⟩ => ?_)
    subst hr
    exact wpAny_execs_nil ⟨σ3, H3, I4, qn⟩
  · refine wpAny_passesOwn hp (thn (T.item X rfl rfl rfl hc i pins s3 σ3 H3 X.xe I3 (stat fr3) st3 go) fun r s4 ⟨u, hr, h4⟩ => ?_)
    subst hr
    refine wpAny_passesOwn hp (thn h4 fun _ s5 ⟨x, H5, I5, r5, y5, st5, fr5⟩ => ?_)
    have I5' := I5.pinned (stat fr5) (T.obj _ _ st5)
    refine wpAny_passesOwn hp (thn (hg _ s5 σ3 H5 x u _ I5' r5 (step x H5 y5)) fun _ s6 ⟨σ6, H6, I6, q6⟩ => ?_)
    refine wpAny_passesOwn hp (thn (hb _ s6 σ6 H6 _ I6 q6) fun f s7 q7 => ?_)
    have again : ∀ {σ7 : St} {H7 : Hp}, Inv X (pins ++ pinsAt fp s5.heap) σ7 H7 s7 → N σ7 H7 → ∃ m, m < n ∧ ∃ i σ' H', Inv X pins σ' H' s7 ∧ tn i s7.heap ∧ (∀ b ∈ fp, H' b = none) ∧ W i m σ' H' := fun {σ7 H7} I7 n7 => by
      obtain ⟨m', hm, w7⟩ := hN σ7 H7 n7
      refine ⟨m', hm, i + 1, σ7, H7, I7.unpinned, T.keep _ _ _ st5 fun b hb o e => (I7.pin (b, o) (List.mem_append_right _ (List.mem_append_right _ (mem_pinsAt hb e)))).1, fun b hb => ?_, w7⟩
      obtain ⟨o, e, d⟩ := T.obj _ _ st5 b hb
      exact (I7.pin (b, o) (List.mem_append_right _ (List.mem_append_right _ (mem_pinsAt hb e)))).2.1
    cases f with
    | next => obtain ⟨σ7, H7, I7, n7⟩ := q7; exact again I7 n7
    | cont => obtain ⟨σ7, H7, I7, n7⟩ := q7; exact again I7 n7
    | brk => obtain ⟨σ7, H7, I7, q7⟩ := q7; exact ⟨σ7, H7, I7.unpinned, q7⟩
    | ret v => obtain ⟨x7, σ7, H7, I7, r7, q7⟩ := q7; exact ⟨x7, σ7, H7, I7.unpinned, r7, q7⟩
end

/-! ### the forms one uses -/
theorem for_range {lo : Int} {n : Nat} {g : TG} {tb : TS} {D : Ends} {σ : St} {H : Hp} (Pv : Nat → St → Hp → Prop) (h0 : Pv 0 σ H)
    (hs : ∀ i σ H, i < n → Pv i σ H → g (.int (lo + i)) σ H fun σ2 H2 => tb { D with nx := Pv (i + 1), ct := Pv (i + 1), bk := D.nx } σ2 H2) (hd : ∀ σ H, Pv n σ H → D.nx σ H) :
    ∃ W : Nat → Nat → St → Hp → Prop, (∃ m, W 0 m σ H) ∧ ∀ i m σ H, W i m σ H →
      ((Itr lo n).stop i H ∧ D.nx σ H) ∨ ((Itr lo n).go i H ∧ ∃ N : St → Hp → Prop, (∀ σ' H', N σ' H' → ∃ m', m' < m ∧ W (i + 1) m' σ' H') ∧ ∀ x H', (Itr lo n).yld i H x H' → g x σ H' fun σ2 H2 => tb { D with nx := N, ct := N, bk := D.nx } σ2 H2) := by
  refine ⟨fun i m σ H => m = n - i ∧ i ≤ n ∧ Pv i σ H, ⟨n, by simp, Nat.zero_le _, h0⟩, ?_⟩
  rintro i m σ H ⟨rfl, hi, p⟩
  by_cases hlt : i < n
  · refine .inr ⟨hlt, Pv (i + 1), fun σ' H' p' => ⟨n - (i + 1), by omega, rfl, hlt, p'⟩, fun x H' y => ?_⟩
    obtain ⟨e, y⟩ := y
    subst e y
    exact hs i σ _ hlt p
  · have e : i = n := by omega
    subst e
    exact .inl ⟨Nat.le_refl _, hd σ H p⟩
end L2

namespace L2
open PySem PySem.Spec PyProof.Rows

abbrev R2 := V → V → Hp → VK → Prop
/-- a two-place operation on values: f is binaryOp op, inplaceOp op or compareOp op -/
def OpR (X : Cx) (f : Value → Value → Sem Value) (r : R2) : Prop :=
  ∀ (pins : List (Addr × Obj)) (s : Shared) (σ : St) (H : Hp) (x y : V) (v u : Value) (Q : VK), Inv X pins σ H s → RelV x v → RelV y u → r x y H Q →
    wpAny (model X.prog X.w) X.A (f v u) (EP X pins σ Q) X.xe s
/-- a one-place operation -/
def UnR (X : Cx) (f : Value → Sem Value) (r : V → Hp → VK → Prop) : Prop :=
  ∀ (pins : List (Addr × Obj)) (s : Shared) (σ : St) (H : Hp) (x : V) (v : Value) (Q : VK), Inv X pins σ H s → RelV x v → r x H Q →
    wpAny (model X.prog X.w) X.A (f v) (EP X pins σ Q) X.xe s
/-- a call of a value that is known (a builtin, a type) with values -/
def CallR (X : Cx) (f : Value) (r : List V → Hp → VK → Prop) : Prop :=
  ∀ (pins : List (Addr × Obj)) (s : Shared) (σ : St) (H : Hp) (xs : List V) (us : List Value) (Q : VK), Inv X pins σ H s → Vals xs us → r xs H Q →
    wpAny (model X.prog X.w) X.A (call f us) (EP X pins σ Q) X.xe s
def tOp (r : R2) (ta tb : TE) : TE := fun σ H Q => ta σ H fun x H1 => tb σ H1 fun y H2 => r x y H2 Q
def tUn (r : V → Hp → VK → Prop) (ta : TE) : TE := fun σ H Q => ta σ H fun x H1 => r x H1 Q
/-- ints in, under C, and a value out -/
def rI (C : Int → Int → Prop) (g : Int → Int → V) : R2 := fun x y H Q => ∃ i j, x = .int i ∧ y = .int j ∧ C i j ∧ Q (g i j) H
def rI0 (g : Int → Int → V) : R2 := fun x y H Q => ∃ i j, x = .int i ∧ y = .int j ∧ Q (g i j) H
def rU (g : Int → V) : V → Hp → VK → Prop := fun x H Q => ∃ i, x = .int i ∧ Q (g i) H

section
variable {X : Cx} {a b c : Expr} {ta tb tc : TE} {pos : Pos}

theorem binT (ha : PE X a ta) (hb : PE X b tb) {pins : List (Addr × Obj)} {s : Shared} {σ : St} {H : Hp} {R : V → V → Hp → Prop} (I : Inv X pins σ H s)
    (h : ta σ H fun x H1 => tb σ H1 fun y H2 => R x y H2) {Q : Value → Shared → Prop} {f : Value → Value → Sem Value}
    (hf : ∀ v u s2 x y H2, Inv X pins σ H2 s2 → RelV x v → RelV y u → R x y H2 → wpAny (model X.prog X.w) X.A (f v u) Q X.xe s2) :
    wpAny (model X.prog X.w) X.A (eval a X.env) (fun v s₁ => wpAny (model X.prog X.w) X.A (eval b X.env) (fun u s₂ => wpAny (model X.prog X.w) X.A (f v u) Q X.xe s₂) X.xe s₁) X.xe s := by
  refine thn (ha pins s σ H _ I h) fun v s1 ⟨x, H1, I1, r1, q1⟩ => ?_
  refine thn (hb pins s1 σ H1 _ I1 q1) fun u s2 ⟨y, H2, I2, r2, q2⟩ => ?_
  exact hf v u s2 x y H2 I2 r1 r2 q2

theorem pe_op {op : Operator} {r : R2} (ho : OpR X (binaryOp op) r) (ha : PE X a ta) (hb : PE X b tb) : PE X (.BinOp a op b pos) (tOp r ta tb) := by
  intro pins s σ H Q I h
  exact wpAny_BinOp (binT ha hb I h fun v u s2 x y H2 I2 rx ry q => ho pins s2 σ H2 x y v u Q I2 rx ry q)
theorem pe_un {op : UnaryOp} {r : V → Hp → VK → Prop} (ho : UnR X (unaryOp op) r) (ha : PE X a ta) : PE X (.UnaryOp op a pos) (tUn r ta) := by
  intro pins s σ H Q I h
  exact UnaryOp_ (thn (ha pins s σ H _ I h) fun v s1 ⟨x, H1, I1, r1, q1⟩ => ho pins s1 σ H1 x v Q I1 r1 q1)
/-! ### ints -/
theorem opI {f : Value → Value → Sem Value} {C : Int → Int → Prop} {g : Int → Int → Int}
    (rule : ∀ (i j : Int) (t u : Tok) (s : Shared) (Q : Value → Shared → Prop) (E : Value → Shared → Prop), C i j → Q (.int (g i j) s.toks) { s with toks := s.toks + 1 } → wpAny (model X.prog X.w) X.A (f (.int i t) (.int j u)) Q E s) :
    OpR X f (rI C fun i j => .int (g i j)) := by
  intro pins s σ H x y v u Q I rx ry h
  obtain ⟨i, j, rfl, rfl, hc, q⟩ := h
  obtain ⟨t, rfl⟩ := rx
  obtain ⟨t', rfl⟩ := ry
  exact rule i j t t' s _ _ hc ⟨.int (g i j), H, I.tok _, ⟨_, rfl⟩, q⟩
theorem opI0 {f : Value → Value → Sem Value} {g : Int → Int → Int}
    (rule : ∀ (i j : Int) (t u : Tok) (s : Shared) (Q : Value → Shared → Prop) (E : Value → Shared → Prop), Q (.int (g i j) s.toks) { s with toks := s.toks + 1 } → wpAny (model X.prog X.w) X.A (f (.int i t) (.int j u)) Q E s) :
    OpR X f (rI0 fun i j => .int (g i j)) := by
  intro pins s σ H x y v u Q I rx ry h
  obtain ⟨i, j, rfl, rfl, q⟩ := h
  obtain ⟨t, rfl⟩ := rx
  obtain ⟨t', rfl⟩ := ry
  exact rule i j t t' s _ _ ⟨.int (g i j), H, I.tok _, ⟨_, rfl⟩, q⟩
theorem opB0 {f : Value → Value → Sem Value} {g : Int → Int → Bool}
    (rule : ∀ (i j : Int) (t u : Tok) (s : Shared) (Q : Value → Shared → Prop) (E : Value → Shared → Prop), Q (.bool (g i j)) s → wpAny (model X.prog X.w) X.A (f (.int i t) (.int j u)) Q E s) :
    OpR X f (rI0 fun i j => .bl (g i j)) := by
  intro pins s σ H x y v u Q I rx ry h
  obtain ⟨i, j, rfl, rfl, q⟩ := h
  obtain ⟨t, rfl⟩ := rx
  obtain ⟨t', rfl⟩ := ry
  exact rule i j t t' s _ _ ⟨.bl (g i j), H, I, rfl, q⟩

def CPow (i j : Int) : Prop := 0 ≤ j ∧ j ≤ 1000000 ∧ i.natAbs < 2 ^ 64
def CMul (i j : Int) : Prop := (-(2 ^ 64) < i ∧ i < 2 ^ 64) ∨ (-(2 ^ 64) < j ∧ j < 2 ^ 64)
theorem CMul.ok {i j : Int} (h : CMul i j) : IntMulOk i j := by
  rcases h with ⟨h1, h2⟩ | ⟨h1, h2⟩
  · exact .of_left (intBits_le_64 h1 h2)
  · exact .of_right (intBits_le_64 h1 h2)
theorem op_add : OpR X (binaryOp .Add) (rI0 fun i j => .int (i + j)) := opI0 fun _ _ _ _ _ _ _ q => add_int q
theorem op_sub : OpR X (binaryOp .Sub) (rI0 fun i j => .int (i - j)) := opI0 fun _ _ _ _ _ _ _ q => sub_int q
theorem op_mul : OpR X (binaryOp .Mult) (rI CMul fun i j => .int (i * j)) := opI fun _ _ _ _ _ _ _ hc q => mul_int q hc.ok
/-- % by a positive divisor of any size -/
theorem op_mod : OpR X (binaryOp .Mod) (rI (fun _ j => 0 < j) fun i j => .int (i % j)) := opI fun i j _ _ _ _ _ hc q => by
  have h1 : (0 : Int) < j := hc
  exact mod_int' (by omega) (by rw [Int.fmod_eq_emod_of_nonneg i (by omega)]; exact q)
theorem op_pow : OpR X (binaryOp .Pow) (rI CPow fun i j => .int (i ^ j.toNat)) := opI fun _ _ _ _ _ _ _ hc q => pow_int_small hc.1 hc.2.1 hc.2.2 q
theorem unI {f : Value → Sem Value} {g : Int → Int}
    (rule : ∀ (i : Int) (t : Tok) (s : Shared) (Q : Value → Shared → Prop) (E : Value → Shared → Prop), Q (.int (g i) s.toks) { s with toks := s.toks + 1 } → wpAny (model X.prog X.w) X.A (f (.int i t)) Q E s) :
    UnR X f (rU fun i => .int (g i)) := by
  intro pins s σ H x v Q I rx h
  obtain ⟨i, rfl, q⟩ := h
  obtain ⟨t, rfl⟩ := rx
  exact rule i t s _ _ ⟨.int (g i), H, I.tok _, ⟨_, rfl⟩, q⟩
theorem un_neg : UnR X (unaryOp .USub) (rU fun i => .int (-i)) := unI fun _ _ _ _ _ q => neg_int q
/-! ### bools among ints: n += (a < b) -/
end

/-! ### comparisons -/
/-- the scalars that == tells apart as data does -/
def scal : V → V → Bool
  | .non, .non => true | .non, .int _ => true | .int _, .non => true | .non, .bl _ => true | .bl _, .non => true | .non, .str _ => true | .str _, .non => true
  | .int _, .int _ => true | .bl _, .bl _ => true | .str _, .str _ => true | .byt _, .byt _ => true
  | .int _, .str _ => true | .str _, .int _ => true | .bl _, .str _ => true | .str _, .bl _ => true
  | _, _ => false
def rEq : R2 := fun x y H Q => scal x y = true ∧ Q (.bl (decide (x = y))) H
def rNe : R2 := fun x y H Q => scal x y = true ∧ Q (.bl (!decide (x = y))) H

theorem dec_int {i j : Int} : decide (V.int i = V.int j) = (i == j) := by
  rw [Bool.eq_iff_iff]
  simp
theorem dec_bl {i j : Bool} : decide (V.bl i = V.bl j) = (i == j) := by
  rw [Bool.eq_iff_iff]
  simp
theorem dec_str {i j : Str} : decide (V.str i = V.str j) = (i == j) := by
  rw [Bool.eq_iff_iff]
  simp
theorem dec_byt {i j : Array UInt8} : decide (V.byt i = V.byt j) = (i.toList == j.toList) := by
  rw [Bool.eq_iff_iff]
  cases i
  cases j
  simp

section
variable {X : Cx} {a b c : Expr} {ta tb tc : TE} {pos : Pos}
theorem fin_bl {pins : List (Addr × Obj)} {σ : St} {H : Hp} {s : Shared} {Q : VK} {k k' : Bool} (I : Inv X pins σ H s) (q : Q (.bl k) H) (e : k = k') : EP X pins σ Q (.bool k') s := by
  subst e
  exact ⟨.bl k, H, I, rfl, q⟩
theorem op_eq : OpR X (compareOp .Eq) rEq := by
  intro pins s σ H x y v u Q I rx ry h
  obtain ⟨hs, q⟩ := h
  cases x with
  | non =>
    cases rx
    cases y with
    | non => cases ry; exact PySem.EqNone.eq_none_none (fin_bl I q (by simp))
    | bl j => cases ry; exact PySem.EqNone.eq_none_bool (fin_bl I q (by simp))
    | int j => obtain ⟨t', rfl⟩ := ry; exact PySem.EqNone.eq_none_int (fin_bl I q (by simp))
    | str j => obtain ⟨t', rfl⟩ := ry; exact PySem.EqNone.eq_none_str (fin_bl I q (by simp))
    | _ => exact absurd (show false = true from hs) Bool.false_ne_true
  | bl i =>
    cases rx
    cases y with
    | non => cases ry; exact PySem.EqNone.eq_bool_none (fin_bl I q (by simp))
    | bl j => cases ry; exact eq_bool (fin_bl I q dec_bl)
    | str j => obtain ⟨t', rfl⟩ := ry; exact PySem.EqMixed.eq_bool_str (fin_bl I q (by simp))
    | _ => exact absurd (show false = true from hs) Bool.false_ne_true
  | int i =>
    obtain ⟨t, rfl⟩ := rx
    cases y with
    | non => cases ry; exact PySem.EqNone.eq_int_none (fin_bl I q (by simp))
    | int j => obtain ⟨t', rfl⟩ := ry; exact eq_int (fin_bl I q dec_int)
    | str j => obtain ⟨t', rfl⟩ := ry; exact PySem.EqMixed.eq_int_str (fin_bl I q (by simp))
    | _ => exact absurd (show false = true from hs) Bool.false_ne_true
  | str i =>
    obtain ⟨t, rfl⟩ := rx
    cases y with
    | non => cases ry; exact PySem.EqNone.eq_str_none (fin_bl I q (by simp))
    | bl j => cases ry; exact PySem.EqMixed.eq_str_bool (fin_bl I q (by simp))
    | int j => obtain ⟨t', rfl⟩ := ry; exact PySem.EqMixed.eq_str_int (fin_bl I q (by simp))
    | str j => obtain ⟨t', rfl⟩ := ry; exact eq_str (fin_bl I q dec_str)
    | _ => exact absurd (show false = true from hs) Bool.false_ne_true
  | byt i =>
    obtain ⟨t, rfl⟩ := rx
    cases y with
    | byt j => obtain ⟨t', rfl⟩ := ry; exact PySem.W.eq_bytes (fin_bl I q dec_byt)
    | _ => exact absurd (show false = true from hs) Bool.false_ne_true
  | _ => cases y <;> exact absurd (show false = true from hs) Bool.false_ne_true
theorem op_ne : OpR X (compareOp .NotEq) rNe := by
  intro pins s σ H x y v u Q I rx ry h
  obtain ⟨hs, q⟩ := h
  cases x with
  | non =>
    cases rx
    cases y with
    | non => cases ry; exact PySem.EqNone.ne_none_none (fin_bl I q (by simp))
    | bl j => cases ry; exact PySem.EqNone.ne_none_bool (fin_bl I q (by simp))
    | int j => obtain ⟨t', rfl⟩ := ry; exact PySem.EqNone.ne_none_int (fin_bl I q (by simp))
    | str j => obtain ⟨t', rfl⟩ := ry; exact PySem.EqNone.ne_none_str (fin_bl I q (by simp))
    | _ => exact absurd (show false = true from hs) Bool.false_ne_true
  | bl i =>
    cases rx
    cases y with
    | non => cases ry; exact PySem.EqNone.ne_bool_none (fin_bl I q (by simp))
    | bl j => cases ry; exact ne_bool (fin_bl I q (congrArg not dec_bl))
    | str j => obtain ⟨t', rfl⟩ := ry; exact PySem.EqMixed.ne_bool_str (fin_bl I q (by simp))
    | _ => exact absurd (show false = true from hs) Bool.false_ne_true
  | int i =>
    obtain ⟨t, rfl⟩ := rx
    cases y with
    | non => cases ry; exact PySem.EqNone.ne_int_none (fin_bl I q (by simp))
    | int j => obtain ⟨t', rfl⟩ := ry; exact ne_int (fin_bl I q (congrArg not dec_int))
    | str j => obtain ⟨t', rfl⟩ := ry; exact PySem.EqMixed.ne_int_str (fin_bl I q (by simp))
    | _ => exact absurd (show false = true from hs) Bool.false_ne_true
  | str i =>
    obtain ⟨t, rfl⟩ := rx
    cases y with
    | non => cases ry; exact PySem.EqNone.ne_str_none (fin_bl I q (by simp))
    | bl j => cases ry; exact PySem.EqMixed.ne_str_bool (fin_bl I q (by simp))
    | int j => obtain ⟨t', rfl⟩ := ry; exact PySem.EqMixed.ne_str_int (fin_bl I q (by simp))
    | str j => obtain ⟨t', rfl⟩ := ry; exact ne_str (fin_bl I q (congrArg not dec_str))
    | _ => exact absurd (show false = true from hs) Bool.false_ne_true
  | byt i =>
    obtain ⟨t, rfl⟩ := rx
    cases y with
    | byt j => obtain ⟨t', rfl⟩ := ry; exact PySem.W.ne_bytes (fin_bl I q (congrArg not dec_byt))
    | _ => exact absurd (show false = true from hs) Bool.false_ne_true
  | _ => cases y <;> exact absurd (show false = true from hs) Bool.false_ne_true

theorem op_lt : OpR X (compareOp .Lt) (rI0 fun i j => .bl (decide (i < j))) := opB0 fun _ _ _ _ _ _ _ q => lt_int q
theorem op_gt : OpR X (compareOp .Gt) (rI0 fun i j => .bl (decide (j < i))) := opB0 fun _ _ _ _ _ _ _ q => gt_int q
/-- is None, is not None: the right side a value none -/
theorem op_isN : OpR X (compareOp .Is) (fun x y H Q => y = .non ∧ Q (.bl (decide (x = .non))) H) := by
  intro pins s σ H x y v u Q I rx ry h
  obtain ⟨rfl, q⟩ := h
  cases ry
  refine is_none_gen (fin_bl I q ?_)
  cases x <;> first
    | (cases rx; rfl)
    | (obtain ⟨t, rfl⟩ := rx; rfl)
theorem op_notN : OpR X (compareOp .IsNot) (fun x y H Q => y = .non ∧ Q (.bl (!decide (x = .non))) H) := by
  intro pins s σ H x y v u Q I rx ry h
  obtain ⟨rfl, q⟩ := h
  cases ry
  refine isnot_none_gen (fin_bl I q ?_)
  cases x <;> first
    | (cases rx; rfl)
    | (obtain ⟨t, rfl⟩ := rx; rfl)

/-- two rules for one operation: by cases -/
theorem OpR.or {f : Value → Value → Sem Value} {r r' : R2} (h : OpR X f r) (h' : OpR X f r') : OpR X f (fun x y H Q => r x y H Q ∨ r' x y H Q) := by
  intro pins s σ H x y v u Q I rx ry q
  rcases q with q | q
  · exact h pins s σ H x y v u Q I rx ry q
  · exact h' pins s σ H x y v u Q I rx ry q

theorem nomark (b : Expr) {op : CmpOp} (h : op ≠ .In := by decide) (h2 : op ≠ .NotIn := by decide) : behindInMarks op b = false := by
  have e1 : (op == CmpOp.In) = false := by cases op <;> first | rfl | exact absurd rfl h
  have e2 : (op == CmpOp.NotIn) = false := by cases op <;> first | rfl | exact absurd rfl h2
  cases b <;> simp [behindInMarks, e1, e2]
/-- a comparison as a value; hm: nomark b, or (for in, not in) by with_unfolding_all rfl -/
theorem pe_cmpR {op : CmpOp} {r : R2} (ho : OpR X (compareOp op) r) (ha : PE X a ta) (hb : PE X b tb) (hm : behindInMarks op b = false) : PE X (.Compare a [op] [b] pos) (tOp r ta tb) := by
  intro pins s σ H Q I h
  exact wpAny_Compare1 (binT ha hb I h fun v u s2 x y H2 I2 rx ry q => ho pins s2 σ H2 x y v u Q I2 rx ry q) hm
/-- a reading of a value as a test -/
def tTest (t : TE) : TT := fun σ H Q => t σ H fun x H' => ∃ k, x = .bl k ∧ Q k H'
theorem pt_cmpR {op : CmpOp} {r : R2} (ho : OpR X (compareOp op) r) (ha : PE X a ta) (hb : PE X b tb) (hm : behindInMarks op b = false) : PT X (.Compare a [op] [b] pos) (tTest (tOp r ta tb)) := by
  intro pins s σ H Q I h
  refine wpAny_isTrue_Compare1 (thn (ha pins s σ H _ I h) fun v s1 ⟨x, H1, I1, r1, q1⟩ => thn (hb pins s1 σ H1 _ I1 q1) fun u s2 ⟨y, H2, I2, r2, q2⟩ =>
    thn (ho pins s2 σ H2 x y v u _ I2 r1 r2 q2) fun c s3 ⟨z, H3, I3, r3, k, e, q3⟩ => ?_) hm
  subst e
  cases r3
  exact wpAny_truthy_bool ⟨H3, I3, q3⟩
/-! ### truth -/
theorem line63 : (sizeLine : Nat) < 2 ^ 63 := by rw [sizeLine_eq]; decide
/-! ### strs and bytes -/
theorem op_add_str : OpR X (binaryOp .Add) (fun x y H Q => ∃ i j, x = .str i ∧ y = .str j ∧ i.length + j.length ≤ sizeLine ∧ Q (.str (i ++ j)) H) := by
  intro pins s σ H x y v u Q I rx ry h
  obtain ⟨i, j, rfl, rfl, hz, q⟩ := h
  obtain ⟨t, rfl⟩ := rx
  obtain ⟨t', rfl⟩ := ry
  exact add_str (fun t' tk => ⟨.str (i ++ j), H, I.tok _, ⟨_, rfl⟩, q⟩) hz
/-! ### scalar builtins, by CallR -/
theorem vals1 {x : V} {us : List Value} (r : Vals [x] us) : ∃ u, us = [u] ∧ RelV x u := by
  cases r with
  | cons r1 r2 => cases r2; exact ⟨_, rfl, r1⟩
theorem call_abs : CallR X (.builtin "abs") (fun xs H Q => ∃ i, xs = [.int i] ∧ Q (.int (if i < 0 then -i else i)) H) := by
  intro pins s σ H xs us Q I r h
  obtain ⟨i, rfl, q⟩ := h
  obtain ⟨u, rfl, t, rfl⟩ := vals1 r
  exact call_abs_int fun u tk => ⟨.int (if i < 0 then -i else i), H, I.tok _, ⟨_, rfl⟩, q⟩
end
end L2

namespace L2
open PySem PySem.Spec PyProof.Rows

/-! ### an instance, its attributes a map -/
structure ObjM (h : Heap) (x dx C : Addr) (mA : Str → Option Value) : Prop where
  obj : h.get? x = some (PySem.W.instObj C dx)
  ns : h.Ns1 dx mA
  ne : dx ≠ x

theorem lookIn_ns {h : Heap} {dx : Addr} {mA : Str → Option Value} (n : h.Ns1 dx mA) : ∃ od, h.get? dx = some od ∧ ∀ name, PySem.W.lookIn name od = some (mA name) := by
  obtain ⟨o, es, ep, ho, hd, hk, _, hm⟩ := n
  refine ⟨o, ho, fun name => ?_⟩
  have e := hm name
  unfold nsFind findBy at e
  rw [← Array.find?_toList] at e
  unfold PySem.W.lookIn
  rw [hd]
  dsimp only
  split
  · rename_i y q
    rw [q] at e
    exact congrArg some e
  · rename_i q
    rw [q] at e
    have a : es.toList.any (·.refKey) = false := by
      rw [List.any_eq_false]
      intro y hy
      obtain ⟨z, t, hkey⟩ := hk y (Array.mem_toList_iff.mp hy)
      simp [DictEntry.refKey, hkey]
    have a' : ¬ es.toList.any (·.refKey) = true := by rw [a]; exact Bool.false_ne_true
    rw [if_neg a']
    exact congrArg some e

theorem ObjM.look {h : Heap} {x dx C : Addr} {mA : Str → Option Value} (I : ObjM h x dx C mA) : ∃ od, PySem.W.InstAt h x (PySem.W.instObj C dx) C (some od) ∧ ∀ name, PySem.W.lookIn name od = some (mA name) :=
  let ⟨od, ho, hl⟩ := lookIn_ns I.ns
  ⟨od, ⟨I.obj, rfl, rfl, ho⟩, hl⟩

section
variable {prog : Program} {w : World} {A : Around} {E : Value → Shared → Prop} {s : Shared} {K : PySem.W.Frag} {x dx C f : Addr} {mA : Str → Option Value} {name : Str} {v : Value}

end

/-! ### the attributes as a list of pairs -/
theorem RelO.none_of {o : Option Value} (r : RelO none o) : o = none := by
  cases o with
  | none => rfl
  | some u => exact (show False from r).elim
section
variable {P : Program} {w : World} {H H' : Hp} {h h' : Heap} {a C dx : Addr} {fs fs' : List (Str × V)}
theorem ins_get (hok : HOk P w H h) (e : H a = some (.ins C dx fs)) : ∃ mA, ObjM h a dx C mA ∧ (∀ f, RelO (fs.lookup f) (mA f)) ∧ PySem.Within mA (fs.map (·.1)) ∧ fs.length ≤ 1000 ∧ H dx = some (.own a) := by
  obtain ⟨d, z, ne, ob, mA, n, r, q⟩ := (show ObjOk P w H h a (.ins C dx fs) from hok a _ e)
  exact ⟨mA, ⟨ob, n, ne⟩, r, q, z, d⟩
end

/-! ### what of the text a class must have -/
structure Cls (K : PySem.W.Frag) (C : Addr) : Prop where
  pg : PySem.W.plainGet K C Str.empty = true
  hd : PySem.W.hasDictIn K C = true
  po : PySem.W.plainOver K C = true
  sa : PySem.W.findIn K (.ref C) "__setattr__" = some (some (.builtin "object.__setattr__"))
theorem Cls.get {K : PySem.W.Frag} {C : Addr} (c : Cls K C) (f : Str) : PySem.W.plainGet K C f = true := c.pg
/-- a constant of the class -/
structure Con (K : PySem.W.Frag) (C : Addr) (f : Str) (v : V) (u : Value) : Prop where
  at_ : PySem.W.findIn K (.ref C) f = some (some u)
  rel : RelV v u
  get : PySem.W.specialIn K u "__get__" = some none
  cp : PySem.W.copiedNames.contains f = false
/-- a method: a plain def of the class or of one above it -/
structure Meth (K : PySem.W.Frag) (C : Addr) (m : Str) (f : Addr) : Prop where
  at_ : PySem.W.findIn K (.ref C) m = some (some (.ref f))
  fn : PySem.W.isFn K (.ref f) = true
  kp : PySem.W.keepIn K (.ref f) = true

section
variable {X : Cx} {pins : List (Addr × Obj)} {σ : St} {H : Hp} {s : Shared} {a C dx : Addr} {fs : List (Str × V)} {f : Str} {v : V} {A : Around} {E : Value → Shared → Prop}

/-- a new instance, tracked, without attributes -/
theorem Inv.made (I : Inv X pins σ H s) : Inv X pins σ (upd (upd H s.heap.objs.size (.own (s.heap.objs.size + 1))) (s.heap.objs.size + 1) (.ins C s.heap.objs.size []))
    { s with heap := (s.heap.push PySem.W.emptyDict).push (PySem.W.instObj C s.heap.objs.size) } := by
  have e1 : (s.heap.push PySem.W.emptyDict).get? s.heap.objs.size = some PySem.W.emptyDict := Heap.get?_push_size s.heap rfl
  have e2 : ((s.heap.push PySem.W.emptyDict).push (PySem.W.instObj C s.heap.objs.size)).get? (s.heap.objs.size + 1) = some (PySem.W.instObj C s.heap.objs.size) := by
    have := Heap.get?_push_size (s.heap.push PySem.W.emptyDict) (o := PySem.W.instObj C s.heap.objs.size) rfl
    rwa [Heap.size_push] at this
  have e3 : (s.heap.push PySem.W.emptyDict).Ns s.heap.objs.size (fun _ => none) := ⟨PySem.W.emptyDict, #[], _, e1, rfl, (fun e he => absurd he (by simp)), fun _ => rfl⟩
  have I1 := I.laid (a := s.heap.objs.size) (o := .own (s.heap.objs.size + 1)) (h' := s.heap.push PySem.W.emptyDict) (t' := s.toks) (fun b u q => Heap.get?_push_of_some _ q) (Nat.le_refl _) ⟨_, e1⟩
  refine I1.laid (a := s.heap.objs.size + 1) (o := .ins C s.heap.objs.size []) (t' := s.toks) (fun b u q => Heap.get?_push_of_some _ q) (Nat.le_of_eq (Heap.size_push _ _)) ?_
  have ne : s.heap.objs.size ≠ s.heap.objs.size + 1 := Nat.ne_of_lt (Nat.lt_succ_self _)
  refine ⟨by rw [upd_ne ne, upd_same], Nat.zero_le _, ne, e2, fun _ => none, (Heap.Ns1.of_empty e3).at fun o q => Heap.get?_push_of_some _ q, fun _ => True.intro, fun y hy => absurd rfl hy⟩

end

/-! ### readings and rules -/
section
variable {X : Cx} {o e value : Expr} {f : Str} {pos pos' tpos : Pos} {ta tv : TE}
end

/-! ### isinstance -/
section
variable {X : Cx} {pins : List (Addr × Obj)} {σ : St} {H : Hp} {s : Shared} {A : Around} {E : Value → Shared → Prop} {Q : Value → Shared → Prop} {c : Value} {b : Bool}
/-- the type of a value, as the fragment's deciders take it; for an instance its class -/
inductive TyOf (K : PySem.W.Frag) (H : Hp) : V → Value → Prop where
  | non : TyOf K H .non (.type "NoneType")
  | bl (x : Bool) : TyOf K H (.bl x) (.type "bool")
  | int (i : Int) : TyOf K H (.int i) (.type "int")
  | str (x : Str) : TyOf K H (.str x) (.type "str")
  | flt (x : UInt64) : TyOf K H (.flt x) (.type "float")
  | lst {a : Addr} {xs : List V} (e : H a = some (.lst xs)) : TyOf K H (.ref a) (.type "list")
  | frz {a : Addr} {o : Obj} {xs : List V} (e : H a = some (.frz o (.lst xs))) : TyOf K H (.ref a) (.type "list")
  | tup {a : Addr} {xs : List V} (e : H a = some (.tup xs)) : TyOf K H (.ref a) (.type "tuple")
  | dK {a : Addr} {kvs : List (Key × V)} (e : H a = some (.dK kvs)) : TyOf K H (.ref a) (.type "dict")
  | dT {a : Addr} {kvs : List (List Key × V)} (e : H a = some (.dT kvs)) : TyOf K H (.ref a) (.type "dict")
  | ins {a C dx : Addr} {fs : List (Str × V)} (e : H a = some (.ins C dx fs)) (cl : Cls K C) (ha : PySem.W.findIn K (.ref C) "__class__" = some (some (.builtin "object.__class__")))
      (hn : PySem.W.specialIn K (.builtin "object.__class__") "__get__" = some (some (.builtin "getset_descriptor.__get__"))) (htk : PySem.W.takesIn K (.builtin "object.__class__") = some true)
      (hm : PySem.W.mroIn K C (.type "object") = some true) : TyOf K H (.ref a) (.ref C)
/-- isinstance(x, c) for one class c, a built-in or an own one: kitOne's answer -/
theorem isinst_ok {x : V} {u t : Value} (I : Inv X pins σ H s) (rx : RelV x u) (ty : TyOf X.K H x t) (e : PySem.W.kitOne X.K t c = some b) (h : ∀ tk, Q (.bool b) { s with toks := tk }) :
    wpAny (model X.prog X.w) A (call (.builtin "isinstance") [u, c]) Q E s := by
  cases ty with
  | non => cases (show u = Value.none from rx); exact PySem.W.kia_one PySem.W.kitx_none I.kIn True.intro e (fun z => nomatch z) h
  | bl y => cases (show u = Value.bool y from rx); exact PySem.W.kia_one PySem.W.kitx_bool I.kIn True.intro e (fun z => nomatch z) h
  | int i => obtain ⟨t, q⟩ := (show ∃ t, u = Value.int i t from rx); cases q; exact PySem.W.kia_one PySem.W.kitx_int I.kIn True.intro e (fun z => nomatch z) h
  | str y => obtain ⟨t, q⟩ := (show ∃ t, u = Value.str y t from rx); cases q; exact PySem.W.kia_one PySem.W.kitx_str I.kIn True.intro e (fun z => nomatch z) h
  | flt y => obtain ⟨t, q⟩ := (show ∃ t, u = Value.float y t from rx); cases q; exact PySem.W.kia_one PySem.W.kitx_float I.kIn True.intro e (fun z => nomatch z) h
  | @lst a xs ea =>
    cases (show u = Value.ref a from rx)
    obtain ⟨_, _, n, _, h1⟩ := (show ObjOk X.prog X.w H s.heap a (.lst xs) from I.hok a _ ea)
    exact PySem.W.kia_one PySem.W.kitx_list I.kIn ⟨_, h1, rfl⟩ e (fun z => nomatch z) h
  | @frz a ob xs ea =>
    cases (show u = Value.ref a from rx)
    obtain ⟨_, _, _, n, _, h1⟩ := (show ObjOk X.prog X.w H s.heap a (.frz ob (.lst xs)) from I.hok a _ ea)
    exact PySem.W.kia_one PySem.W.kitx_list I.kIn ⟨_, h1, rfl⟩ e (fun z => nomatch z) h
  | @tup a xs ea =>
    cases (show u = Value.ref a from rx)
    obtain ⟨_, _, _, p⟩ := (show ObjOk X.prog X.w H s.heap a (.tup xs) from I.hok a _ ea)
    obtain ⟨o, h1, h2, _⟩ := p
    exact PySem.W.kia_one PySem.W.kitx_tuple I.kIn ⟨o, h1, h2⟩ e (fun z => nomatch z) h
  | @dK a kvs ea =>
    cases (show u = Value.ref a from rx)
    obtain ⟨_, _, vs, _, p⟩ := (show ObjOk X.prog X.w H s.heap a (.dK kvs) from I.hok a _ ea)
    obtain ⟨o, es, ep, h1, h2, _⟩ := p
    exact PySem.W.kia_one PySem.W.kitx_dict I.kIn ⟨o, h1, h2.1⟩ e (fun z => nomatch z) h
  | @dT a kvs ea =>
    cases (show u = Value.ref a from rx)
    obtain ⟨_, _, xs, _, o, es, ep, h1, h2, _⟩ := (show ObjOk X.prog X.w H s.heap a (.dT kvs) from I.hok a _ ea)
    exact PySem.W.kia_one PySem.W.kitx_dict I.kIn ⟨o, h1, h2.1⟩ e (fun z => nomatch z) h
  | @ins a C dx fs ea cl ha hn htk hm =>
    cases (show u = Value.ref a from rx)
    obtain ⟨mA, O, _⟩ := ins_get I.hok ea
    obtain ⟨od, J, _⟩ := O.look
    exact PySem.W.kia_one (PySem.W.kitx_own (cl.get _) cl.hd ha hn htk hm) I.kIn J e (fun z => nomatch z) h
end
end L2

namespace L2
open PySem PySem.Spec PyProof.Rows

/-! ### room -/
structure Room (k : Nat) (A : Around) : Prop where
  hd : A.handled = none
  dp : A.depth + 3 * k + 5 < recursionLimit
  un : A.units + 16 * k + 200 < cLine
theorem Room.mono {j k : Nat} {A : Around} (r : Room k A) (h : j ≤ k) : Room j A := ⟨r.hd, by have := r.dp; omega, by have := r.un; omega⟩
theorem Room.deeper {k : Nat} {A : Around} (r : Room (k + 1) A) (env : Env) : Room k (A.deeper env) :=
  ⟨r.hd, by have := r.dp; show A.depth + 1 + 3 * k + 5 < _; omega, by have := r.un; show A.units + 3 + 16 * k + 200 < _; omega⟩
theorem Room.in1 {k : Nat} {A : Around} (r : Room (k + 1) A) : Room k A.in1 :=
  ⟨r.hd, by have := r.dp; show A.depth + 3 * k + 5 < _; omega, by have := r.un; show A.units + 1 + 16 * k + 200 < _; omega⟩
theorem Room.depth {k : Nat} {A : Around} (r : Room k A) : A.depth < recursionLimit := by have := r.dp; omega
theorem Room.units {k : Nat} {A : Around} (r : Room k A) : A.units + 64 < cLine := by have := r.un; omega
/-! ### argument lists and displays -/
def tNil : TA := fun _ H Q => Q [] H
def tCons (ta : TE) (tr : TA) : TA := fun σ H Q => ta σ H fun x H1 => tr σ H1 fun xs H2 => Q (x :: xs) H2
section
variable {X : Cx} {e : Expr} {es : List Expr} {te : TE} {t : TA} {pos : Pos}
theorem pa_nil : PA X [] tNil := fun _ _ _ _ H Q I h => Calls.spliced_nil ⟨[], H, I, .nil, h⟩
theorem pa_cons (ha : PE X e te) (hr : PA X es t) (hs : starEach (e :: es) X.env = (false, eval e X.env) :: starEach es X.env := by rfl) : PA X (e :: es) (tCons te t) := by
  intro pos pins s σ H Q I h
  rw [hs]
  show wpAny _ _ (spliced ((false, eval e X.env) :: backTo pos (starEach es X.env))) _ _ s
  refine Calls.spliced_cons (thn (ha pins s σ H _ I h) fun u s1 ⟨x, H1, I1, r1, q1⟩ => ?_)
  exact thn (hr pos pins s1 σ H1 _ I1 q1) fun us s2 ⟨xs, H2, I2, r2, q2⟩ => ⟨x :: xs, H2, I2, .cons r1 r2, q2⟩

/-- a tuple, a list of written items -/
def tTup (t : TA) : TE := fun σ H Q => t σ H fun xs H1 => xs.length ≤ sizeLine ∧ ∀ p, H1 p = none → Q (.ref p) (upd H1 p (.tup xs))
def tLst (t : TA) : TE := fun σ H Q => t σ H fun xs H1 => xs.length ≤ sizeLine ∧ ∀ p, H1 p = none → Q (.ref p) (upd H1 p (.lst xs))
theorem pe_tup {x1} (h : PA X es t) : PE X (.Tuple es x1 pos) (tTup t) := by
  intro pins s σ H Q I hq
  refine wpAny_Tuple_spliced (thn (h pos pins s σ H _ I hq) fun us s1 ⟨xs, H1, I1, r, z, q⟩ => ⟨by rw [← r.length]; exact z, ?_⟩)
  have hf : H1 s1.heap.objs.size = none := I1.hok.fresh (Nat.le_refl _)
  refine ⟨.ref s1.heap.objs.size, upd H1 s1.heap.objs.size (.tup xs), I1.laid (t' := s1.toks) (fun b u e => Heap.get?_push_of_some _ e) (Nat.le_refl _) ?_, rfl, q _ hf⟩
  exact ⟨z, us, r, ⟨_, Heap.get?_push_size _ rfl, rfl, _, rfl⟩⟩
theorem pe_lst (h : PA X es t) : PE X (.List es pos) (tLst t) := by
  intro pins s σ H Q I hq
  refine wpAny_List_spliced (thn (h pos pins s σ H _ I hq) fun us s1 ⟨xs, H1, I1, r, z, q⟩ => ⟨by rw [← r.length]; exact z, ?_⟩)
  have hf : H1 s1.heap.objs.size = none := I1.hok.fresh (Nat.le_refl _)
  refine ⟨.ref s1.heap.objs.size, upd H1 s1.heap.objs.size (.lst xs), I1.laid (t' := s1.toks) (fun b u e => Heap.get?_push_of_some _ e) (Nat.le_refl _) ?_, rfl, q _ hf⟩
  exact ⟨z, us, 0, r, Heap.get?_push_size _ rfl⟩
end

/-! ### what a def promises -/
/-- a def's promise: the bound arguments in the parameters' order, the heap, the wanted end, the wanted exception -/
abbrev Sp := List V → Hp → VK → XK → Prop
/-- how an exception lies behind a call (file 08 gives it): the callers' frames, abstract heap and state ahead of the call, the wish, the exception, the state -/
abbrev CXT := List Env → Hp → Shared → XK → Value → Shared → Prop

/-- the state at a call -/
structure Env0 (P : Program) (w : World) (K : PySem.W.Frag) (mg : Str → Option Value) (base : Heap) (A : Around) (outer : List Env) (s : Shared) (H : Hp) : Prop where
  frames : A.frames = some outer
  mod : Mod K mg base
  bs : ∀ b o, base.get? b = some o → s.heap.get? b = some o ∧ H b = none
  bsz : base.objs.size ≤ s.heap.objs.size
  funs : s.heap.FunFrames base outer
  frf : ∀ b ∈ frs outer, H b = none
  hok : HOk P w H s.heap
  bare : AllBare s.gens
/-- a call's end -/
def CE (outer : List Env) (P : Program) (w : World) (H : Hp) (s : Shared) (Q : VK) (u : Value) (s' : Shared) : Prop :=
  ∃ v H', s'.os = s.os ∧ AllBare s'.gens ∧ Un (frs outer) [] H H' s.heap s'.heap ∧ HOk P w H' s'.heap ∧ RelV v u ∧ Q v H'
def CR (CX : CXT) (outer : List Env) (P : Program) (w : World) (H : Hp) (s : Shared) (Q : VK) (E : XK) (r : Result) (s' : Shared) : Prop :=
  match r with
  | .ok (.ret u) => CE outer P w H s Q u s'
  | .ok _ => False
  | .error e => CX outer H s E e s'
structure FnOk (P : Program) (w : World) (K : PySem.W.Frag) (mg : Str → Option Value) (base : Heap) (CX : CXT) (k : Nat) (f : Addr) (fd : FuncData) (ps : List Str) (sp : Sp) : Prop where
  len : ∀ vs H Q E, sp vs H Q E → vs.length = ps.length
  run : ∀ (A : Around) (outer : List Env) (s : Shared) (H : Hp) (args : Args) (us : List Value) (vs : List V) (Q : VK) (E : XK), Room k A → Env0 P w K mg base A outer s H → BindsTo s fd args (ps.zip us) → Vals vs us → sp vs H Q E →
    codeAny (model P w) A (.call (.ref f) args) (CR CX outer P w H s Q E) s
theorem FnOk.mono {P : Program} {w : World} {K : PySem.W.Frag} {mg : Str → Option Value} {base : Heap} {CX : CXT} {j k : Nat} {f : Addr} {fd : FuncData} {ps : List Str} {sp : Sp} (F : FnOk P w K mg base CX j f fd ps sp) (h : j ≤ k) :
    FnOk P w K mg base CX k f fd ps sp := ⟨F.len, fun A outer s H args us vs Q E hr => F.run A outer s H args us vs Q E (hr.mono h)⟩
theorem Env0.in1 {P : Program} {w : World} {K : PySem.W.Frag} {mg : Str → Option Value} {base : Heap} {A : Around} {outer : List Env} {s : Shared} {H : Hp} (e : Env0 P w K mg base A outer s H) :
    Env0 P w K mg base A.in1 outer s H := ⟨e.frames, e.mod, e.bs, e.bsz, e.funs, e.frf, e.hok, e.bare⟩

section
variable {X : Cx} {pins : List (Addr × Obj)} {σ : St} {H : Hp} {s s' : Shared}
/-- from a body: what a callee wants -/
theorem Inv.env0 (I : Inv X pins σ H s) : Env0 X.prog X.w X.K X.mg X.base X.A X.stack s H :=
  ⟨I.ok.frames, I.ok.mod, I.bs, Nat.le_trans I.ok.bsz I.sz, I.stack, I.stkFree, I.hok, I.bare⟩
/-- behind a call -/
theorem Inv.after {Q : VK} {u : Value} (I : Inv X pins σ H s) (h : CE X.stack X.prog X.w H s Q u s') : EP X pins σ Q u s' := by
  obtain ⟨v, H', os, bare, un, hok, r, q⟩ := h
  obtain ⟨hh, g, d, t, os'⟩ := s'
  obtain rfl : os' = s.os := os
  exact ⟨v, H', I.call (h' := hh) (g' := g) (d' := d) (t' := t) (ch := []) un hok bare (fun b z => absurd z (by simp)), r, q⟩
end

/-! ### calls -/
/-- f(..): the written arguments, then the defaults dvs; E: what is wanted of an exception -/
def tCall (sp : Sp) (dvs : List V) (E : XK) (t : TA) : TE := fun σ H Q => t σ H fun vs H1 => sp (vs ++ dvs) H1 Q E
/-- how the parameters are bound: us the positional arguments, kw the keywords' values by name, ds the defaults that fill up -/
def Binds (K : PySem.W.Frag) (fd : FuncData) (ps : List Str) (ds : List Value) : Prop :=
  ∀ (s : Shared) (us : List Value), K.In s.heap → (us ++ ds).length = ps.length → BindsTo s fd ⟨us, []⟩ (ps.zip (us ++ ds))
/-- every parameter is given -/
theorem Binds.all {K : PySem.W.Frag} {fd : FuncData} {ps : List Str} (h : ∀ us : List Value, us.length = ps.length → bindArgs fd ⟨us, []⟩ = pure (ps.zip us)) : Binds K fd ps [] := fun s us _ hl => by
  rw [List.append_nil] at hl ⊢
  exact .of_eq (h us hl)

/-- an exception of a callee reaches what this body wants of exceptions -/
def Passes (CX : CXT) (X : Cx) (E : XK) : Prop := ∀ (pins : List (Addr × Obj)) (σ : St) (H : Hp) (s : Shared) (e : Value) (s' : Shared), Inv X pins σ H s → CX X.stack H s E e s' → X.xe e s'

section
variable {X : Cx} {CX : CXT} {k : Nat} {f C : Addr} {fd : FuncData} {ps : List Str} {sp : Sp} {dvs : List V} {ds : List Value} {E : XK} {x m : Str} {p pos apos : Pos} {e o : Expr} {es : List Expr} {ta : TE} {t : TA}

/-- the callee runs -/
theorem run_fn {pins : List (Addr × Obj)} {σ : St} {H : Hp} {s : Shared} {Q : VK} {us : List Value} {vs : List V} (F : FnOk X.prog X.w X.K X.mg X.base CX k f fd ps sp) (hr : Room k X.A) (hb : Binds X.K fd ps ds) (hd : Vals dvs ds) (hx : Passes CX X E)
    (I : Inv X pins σ H s) (r : Vals vs us) (h : sp (vs ++ dvs) H Q E) : wpAny (model X.prog X.w) X.A (call (.ref f) us) (EP X pins σ Q) X.xe s := by
  have r2 : Vals (vs ++ dvs) (us ++ ds) := r.append hd
  have hl : (us ++ ds).length = ps.length := by rw [← r2.length]; exact F.len _ _ _ _ h
  refine wpAny_call (codeAny_mono (F.run X.A X.stack s H ⟨us, []⟩ (us ++ ds) (vs ++ dvs) Q E hr I.env0 (hb s us I.kIn hl) r2 h) fun r s' hq => ?_)
  cases r with
  | error e => exact hx pins σ H s e s' I hq
  | ok fl =>
    cases fl with
    | ret u => exact I.after hq
    | next => exact False.elim hq
    | brk => exact False.elim hq
    | cont => exact False.elim hq

theorem pe_call (F : FnOk X.prog X.w X.K X.mg X.base CX k f fd ps sp) (hr : Room k X.A) (hg : Gl X x) (hm : X.mg x = some (.ref f)) (hk : PySem.W.keepIn X.K (.ref f) = true) (hb : Binds X.K fd ps ds) (hd : Vals dvs ds) (hx : Passes CX X E)
    (ha : PA X (e :: es) t) (hdb : (x == ("__debug__" : Str)) = false := by decide) (he : starEach (e :: es) X.env = (false, eval e X.env) :: starEach es X.env := by rfl) (hpl : (backTo pos (starEach es X.env)).any (·.1) = false := by rfl) :
    PE X (.Call (.Name x p) (e :: es) [] pos) (tCall sp dvs E t) := by
  intro pins s σ H Q I h
  refine wpAny_Call_Name_kw (ld_glob I hg hm ?_ hdb)
  refine PySem.W.callWith_K (h₀ := X.base) I.ok.mod.kin hk (thn (ha pos pins s σ H _ I h) fun us s1 ⟨vs, H1, I1, r, q⟩ => ⟨I1.kIn, ?_⟩) he hpl
  exact run_fn F hr hb hd hx I1 r q
/-- what a class must have to be made -/
structure Mk (K : PySem.W.Frag) (C f : Addr) : Prop where
  makes : PySem.W.makesIn K C = true
  init : PySem.W.findIn K (.ref C) "__init__" = some (some (.ref f))
  fn : PySem.W.isFn K (.ref f) = true
  kp : PySem.W.keepIn K (.ref C) = true

end

/-! ### keywords -/
section
variable {X : Cx} {CX : CXT} {k : Nat} {f C : Addr} {fd : FuncData} {ps ks : List Str} {sp : Sp} {E : XK} {x m : Str} {p pos apos kpos : Pos} {e o : Expr} {es : List Expr} {kws : List Keyword} {te ta : TE} {t tk : TA} {nm : Option Str}
/-- how a call with keywords binds: g puts the positional values us and the keywords' values ws (names ks) in the parameters' order, defaults among them -/
structure KBinds (K : PySem.W.Frag) (fd : FuncData) (ps ks : List Str) (g : List Value → List Value → List Value) (gV : List V → List V → List V) : Prop where
  to : ∀ (s : Shared) (us ws : List Value), K.In s.heap → (g us ws).length = ps.length → BindsTo s fd ⟨us, ks.zip ws⟩ (ps.zip (g us ws))
  rel : ∀ {vs : List V} {us : List Value} {zs : List V} {ws : List Value}, Vals vs us → Vals zs ws → Vals (gV vs zs) (g us ws)
variable {g : List Value → List Value → List Value} {gV : List V → List V → List V}
end

/-! ### a def's body keeps its promise -/
/-- names: the parameters first -/
structure FnScope (N P : List Str) (sc : Scope) : Prop where
  kind : sc.kind = .function
  co : sc.isCoroutine = false
  gen : sc.isGenerator = false
  nd : N.Nodup
  pre : N.take P.length = P
  par : ∀ x ∈ P, sc.names.lookup x = some .local ∨ sc.names.lookup x = some .cell
  nofree : ∀ y ∈ sc.names, y.2 ≠ .free

theorem bindL_out {kindOf : Str → Option NameKind} {x : Str} : ∀ {binds : List (Str × Value)} {m : Str → Option Value}, (∀ v, (x, v) ∉ binds) → bindL kindOf binds m x = m x
  | [], _, _ => rfl
  | (n, v) :: r, m, h => by
    unfold bindL
    rw [bindL_out fun w hw => h w (List.mem_cons_of_mem _ hw)]
    split
    · have : x ≠ n := by rintro rfl; exact h v List.mem_cons_self
      simp [this]
    · rfl
theorem bindC_out {kindOf : Str → Option NameKind} {x : Str} : ∀ {binds : List (Str × Value)} {m : Str → Option Value}, (∀ v, (x, v) ∉ binds) → bindC kindOf binds m x = m x
  | [], _, _ => rfl
  | (n, v) :: r, m, h => by
    unfold bindC
    rw [bindC_out fun w hw => h w (List.mem_cons_of_mem _ hw)]
    split
    · rfl
    · have : x ≠ n := by rintro rfl; exact h v List.mem_cons_self
      simp [this]
theorem bindL_get {kindOf : Str → Option NameKind} {x : Str} {v : Value} : ∀ {P : List Str} {vs : List Value} {i : Nat} {m : Str → Option Value}, P.Nodup → P[i]? = some x → vs[i]? = some v → kindOf x = some .local →
    bindL kindOf (P.zip vs) m x = some v
  | [], _, _, _, _, h, _, _ => by simp at h
  | _ :: _, [], _, _, _, _, h, _ => by simp at h
  | p :: P, w :: vs, 0, m, nd, h1, h2, hk => by
    simp at h1 h2; subst h1; subst h2
    show bindL kindOf ((p, w) :: P.zip vs) m p = _
    unfold bindL
    rw [bindL_out fun v hv => (List.nodup_cons.mp nd).1 (List.of_mem_zip hv).1, if_pos hk]
    simp
  | p :: P, w :: vs, i + 1, m, nd, h1, h2, hk => by
    show bindL kindOf ((p, w) :: P.zip vs) m x = _
    unfold bindL
    exact bindL_get (i := i) (List.nodup_cons.mp nd).2 (by simpa using h1) (by simpa using h2) hk
theorem bindC_get {kindOf : Str → Option NameKind} {x : Str} {v : Value} : ∀ {P : List Str} {vs : List Value} {i : Nat} {m : Str → Option Value}, P.Nodup → P[i]? = some x → vs[i]? = some v → kindOf x ≠ some .local →
    bindC kindOf (P.zip vs) m x = some v
  | [], _, _, _, _, h, _, _ => by simp at h
  | _ :: _, [], _, _, _, _, h, _ => by simp at h
  | p :: P, w :: vs, 0, m, nd, h1, h2, hk => by
    simp at h1 h2; subst h1; subst h2
    show bindC kindOf ((p, w) :: P.zip vs) m p = _
    unfold bindC
    rw [bindC_out fun v hv => (List.nodup_cons.mp nd).1 (List.of_mem_zip hv).1, if_neg hk]
    simp
  | p :: P, w :: vs, i + 1, m, nd, h1, h2, hk => by
    show bindC kindOf ((p, w) :: P.zip vs) m x = _
    unfold bindC
    exact bindC_get (i := i) (List.nodup_cons.mp nd).2 (by simpa using h1) (by simpa using h2) hk

/-- the names' values at the entry -/
def start (N : List Str) (vs : List V) : St := vs.map some ++ List.replicate (N.length - vs.length) none

/-- the context of a def's body, at its entry; an exception leaves the frame, then lies as CX says -/
def cxOf (CX : CXT) (P : Program) (w : World) (K : PySem.W.Frag) (mg : Str → Option Value) (base : Heap) (N : List Str) (qual : Str) (scope : Scope) (f : Addr) (cd : Value) (A : Around) (outer : List Env) (s : Shared) (H : Hp) (E : XK) : Cx where
  prog := P
  w := w
  K := K
  mg := mg
  base := base
  A := A.deeper (envOfC qual scope s.heap.objs.size f cd)
  N := N
  s₀ := s
  H₀ := H
  env := envOfC qual scope s.heap.objs.size f cd
  outer := outer
  stack := envOfC qual scope s.heap.objs.size f cd :: outer
  ex := []
  calm := true
  fn := fun _ => true
  pn := []
  xe := fun e s' => wpAny (model P w) (A.deeper (envOfC qual scope s.heap.objs.size f cd)) (leaving (envOfC qual scope s.heap.objs.size f cd) e) (fun _ s'' => CX outer H s E e s'') (fun e' s'' => CX outer H s E e' s'') s'

theorem cell_has {sc : Scope} {n : Nat} {x : Str} (h : sc.names.lookup x = some .cell) : ∃ c, (cellsFrom n sc.names []).lookup x = some c := by
  have q := PySem.W.cellsFrom_some sc.names n [] (.inl h)
  exact Option.isSome_iff_exists.mp q

theorem inv_start {CX : CXT} {P : Program} {w : World} {K : PySem.W.Frag} {mg : Str → Option Value} {base : Heap} {N ps : List Str} {qual : Str} {scope : Scope} {f : Addr} {cd : Value} {A : Around} {outer : List Env} {s s1 : Shared} {H : Hp} {E : XK} {us : List Value} {vs : List V}
    (S : FnScope N ps scope) (hd : A.handled = none) (e0 : Env0 P w K mg base A outer s H) (hl : vs.length = ps.length) (r : Vals vs us)
    (x : InCallC s s.heap.objs.size (bindL (envOfC qual scope s.heap.objs.size f cd).kindOf (ps.zip us) fun _ => none) (cellsFrom (s.heap.objs.size + 1) scope.names []) (bindC (envOfC qual scope s.heap.objs.size f cd).kindOf (ps.zip us) fun _ => none) s1) :
    Inv (cxOf CX P w K mg base N qual scope f cd A outer s H E) [] (start N vs) H s1 := by
  have hpl : ps.length ≤ N.length := by have := congrArg List.length S.pre; rw [List.length_take] at this; omega
  obtain ⟨h1, tk, rfl, hk⟩ := x.done
  have noA : ∀ b : Addr, b ∉ (cxOf CX P w K mg base N qual scope f cd A outer s H E).ex := fun b z => absurd (show b ∈ ([] : List Addr) from z) (by simp)
  refine ⟨⟨e0.mod, S.kind, rfl, rfl, Nat.le_refl _, fun y z c h1 h2 => ?_, fun y hy => ?_, fun y c _ h => ?_, fun _ => hd, Around.frames_deeper e0.frames, .inr ⟨rfl, rfl⟩, fun b z => absurd z (noA b), e0.bs, e0.bsz, fun b _ _ => noA b, fun b z => absurd z (noA b), e0.funs, e0.frf⟩,
    rfl, e0.bare, Un.kept hk, ⟨_, x.toInCall.ns, fun i y v h1 h2 h3 => ?_⟩, fun y c h => ⟨_, x.cell y c h⟩, e0.hok.fresh (Nat.le_refl _), fun y c h => ?_, fun p hp => absurd (show p ∈ ([] : List (Addr × Obj)) from hp) (by simp), e0.hok.kept hk, ?_⟩
  · exact name_of_addr x.apart (PySem.mem_of_lookup h1) (PySem.mem_of_lookup h2)
  · have hy : scope.names.lookup y = some .cell ∨ scope.names.lookup y = some .free := hy
    rcases hy with hy | hy
    · exact cell_has hy
    · exact absurd rfl (S.nofree _ (PySem.mem_of_lookup hy))
  · exact Nat.le_of_lt (x.above y c (PySem.mem_of_lookup h))
  · have hi : i < vs.length := by
      unfold start at h2
      by_cases hi : i < vs.length
      · exact hi
      · rw [List.getElem?_append_right (by simpa using hi)] at h2
        rw [List.getElem?_replicate] at h2
        split at h2 <;> cases h2
    have ha : vs[i]? = some v := by
      unfold start at h2
      rw [List.getElem?_append_left (by simpa using hi), List.getElem?_map] at h2
      cases e : vs[i]? with
      | none => rw [e] at h2; cases h2
      | some a => rw [e] at h2; cases h2; rfl
    obtain ⟨u, hu, rv⟩ := r.get ha
    have hp : ps[i]? = some y := by
      rw [← S.pre, List.getElem?_take_of_lt (by omega)]; exact h1
    have ndP : ps.Nodup := by rw [← S.pre]; exact S.nd.sublist (List.take_sublist _ _)
    refine ⟨u, rv, ?_⟩
    rcases S.par y (List.mem_of_getElem? hp) with k | k
    · exact .inl ⟨k, bindL_get ndP hp hu k⟩
    · obtain ⟨c, e⟩ := cell_has (n := s.heap.objs.size + 1) k
      refine .inr ⟨.inl k, c, e, ?_⟩
      have q := x.cell y c e
      rw [bindC_get ndP hp hu (by show scope.names.lookup y ≠ _; rw [k]; decide)] at q
      exact q
  · exact e0.hok.fresh (Nat.le_of_lt (x.above y c (PySem.mem_of_lookup h)))
  · unfold start
    show _ = N.length
    rw [List.length_append, List.length_map, List.length_replicate]
    omega

/-- THE RULE: a def (or a method) of the text, by its body. The body's reading t is chosen for each entry; it is run at the parameters' values -/
theorem fn_of {CX : CXT} {P : Program} {w : World} {K : PySem.W.Frag} {mg : Str → Option Value} {base : Heap} {k : Nat} {f : Addr} {name qual : Str} {params : Arguments} {body : List Stmt} {scope : Scope} {dV kV doc pm cdv ct oc : Value} {an od : Option Addr}
    {osl : Array (Option Value)} {N ps : List Str} {sp : Sp} (lk : K.lookup f = some ⟨oc, od, .func (PySem.W.fnOf name qual params body scope dV kV doc pm an cdv ct), osl⟩) (hcd : PySem.W.codeIn K cdv qual = true) (S : FnScope N ps scope)
    (len : ∀ vs H Q E, sp vs H Q E → vs.length = ps.length)
    (hbody : ∀ (A : Around) (outer : List Env) (s : Shared) (H : Hp) (vs : List V) (Q : VK) (E : XK), Room k (A.deeper (envOfC qual scope s.heap.objs.size f cdv)) → sp vs H Q E →
      ∃ t, PSs (cxOf CX P w K mg base N qual scope f cdv A outer s H E) body t ∧ t { nx := fun _ H' => Q .non H', rt := Q } (start N vs) H) :
    FnOk P w K mg base CX (k + 1) f (PySem.W.fnOf name qual params body scope dV kV doc pm an cdv ct) ps sp := by
  refine ⟨len, fun A outer s H args us vs Q E hr e0 hb r hsp => ?_⟩
  have hl := len _ _ _ _ hsp
  have KX : K.In s.heap := e0.mod.kin.keeps fun b o e => (e0.bs b o e).1
  have lim : s.heap.NoLimit := e0.mod.nolimit.keeps fun b o e => (e0.bs b o e).1
  have hkind : ∀ y ∈ ps.zip us, scope.names.lookup y.1 = some .local ∨ (scope.names.lookup y.1 = some .cell ∧ ((cellsFrom (s.heap.objs.size + 1) scope.names []).lookup y.1).isSome = true) := fun ⟨n, v⟩ hy => by
    rcases S.par n (List.of_mem_zip hy).1 with q | q
    · exact .inl q
    · exact .inr ⟨q, PySem.W.cellsFrom_some _ _ _ (.inl q)⟩
  refine codeAny_call_function hr.depth (KX _ _ lk) rfl S.co S.gen rfl (PySem.W.codeRec_of KX hcd) (hb _ _ _ _ ?_)
  refine wpAny_newFunctionEnv_cells S.kind hkind fun env he s1 x => ?_
  subst he
  refine ⟨lim.keeps x.toInCall.keep, codeAny_func ?_⟩
  obtain ⟨t, ht, hq⟩ := hbody A outer s H vs Q E (hr.deeper _) hsp
  have I : Inv (cxOf CX P w K mg base N qual scope f cdv A outer s H E) [] (start N vs) H s1 := inv_start S hr.hd e0 hl r x
  refine wpAny_mono (ht [] s1 (start N vs) H _ I hq) (fun fl s' hs => ?_) fun e s' hs => hs
  have fin : ∀ {σ' : St} {H' : Hp} {v : V} {u : Value}, Inv (cxOf CX P w K mg base N qual scope f cdv A outer s H E) [] σ' H' s' → RelV v u → Q v H' → CE outer P w H s Q u s' :=
    fun {σ' H' v u} J rv q => ⟨v, H', J.os, J.bare, J.base, J.hok, rv, q⟩
  cases fl with
  | ret u =>
    obtain ⟨v, σ', H', J, rv, q⟩ := hs
    exact fin J rv q
  | next =>
    obtain ⟨σ', H', J, q⟩ := hs
    exact fin (v := V.non) (u := Value.none) J rfl q
  | brk =>
    obtain ⟨_, _, _, q⟩ := hs
    exact False.elim q
  | cont =>
    obtain ⟨_, _, _, q⟩ := hs
    exact False.elim q
end L2

namespace L2
open PySem PySem.Spec PyProof.Rows
section
variable {X : Cx} {x : Str} {p pos : Pos} {e : Expr} {es : List Expr} {t : TA} {id T : String} {r : List V → Hp → VK → Prop}

def tCB (r : List V → Hp → VK → Prop) (t : TA) : TE := fun σ H Q => t σ H fun vs H1 => r vs H1 Q
/-- f(e, ..), f a built-in function -/
theorem pe_callB (hc : CallR X (.builtin id) r) (hg : Gl X x) (hm : X.mg x = none) (hv : bootBuiltins x = some (.builtin id)) (ha : PA X (e :: es) t) (hn : x ≠ "__name__" := by decide) (hdb : (x == ("__debug__" : Str)) = false := by decide)
    (he : starEach (e :: es) X.env = (false, eval e X.env) :: starEach es X.env := by rfl) (hpl : (backTo pos (starEach es X.env)).any (·.1) = false := by rfl) : PE X (.Call (.Name x p) (e :: es) [] pos) (tCB r t) := by
  intro pins s σ H Q I h
  refine wpAny_Call_Name_kw (ld_blt I hg hm hv ?_ hn hdb)
  exact PyProof.Rows.callWith_builtin1 (thn (ha pos pins s σ H _ I h) fun us s1 ⟨vs, H1, I1, r1, q1⟩ => hc pins s1 σ H1 vs us Q I1 r1 q1) he hpl
/-- T(e, ..), T a built-in type -/
theorem pe_callTy (hc : CallR X (.type T) r) (hg : Gl X x) (hm : X.mg x = none) (hv : bootBuiltins x = some (.type T)) (ha : PA X (e :: es) t) (hn : x ≠ "__name__" := by decide) (hdb : (x == ("__debug__" : Str)) = false := by decide)
    (he : starEach (e :: es) X.env = (false, eval e X.env) :: starEach es X.env := by rfl) (hpl : (backTo pos (starEach es X.env)).any (·.1) = false := by rfl) : PE X (.Call (.Name x p) (e :: es) [] pos) (tCB r t) := by
  intro pins s σ H Q I h
  refine wpAny_Call_Name_kw (ld_blt I hg hm hv ?_ hn hdb)
  exact PyProof.Rows.callWith_type1 (thn (ha pos pins s σ H _ I h) fun us s1 ⟨vs, H1, I1, r1, q1⟩ => hc pins s1 σ H1 vs us Q I1 r1 q1) he hpl
end
end L2

namespace HT
open PySem PyProof.Rows

section
open PySem.SeqAt
open PySem.AutoSeq1 (wpAny_loadPart')
open PySem.MeetsSeq PySem.MeetsSeq2 PySem.MeetsSeq3

end

section
variable {prog : Program} {w : World} {A : Around} {E : Value → Shared → Prop} {s : Shared}

/-- t + u, t not empty -/
theorem cat_tup {t b : Addr} {vs ws : List Value} {Q : Value → Shared → Prop} (ht : IsTup s.heap t vs.toArray) (hb : IsTup s.heap b ws.toArray) (hv : vs ≠ [])
    (h1 : ws = [] → Q (.ref t) s) (h2 : ws ≠ [] → Q (.ref s.heap.objs.size) { s with heap := s.heap.push { cls := .type "tuple", data := .seq (vs ++ ws).toArray } })
    (hsz : vs.length + ws.length ≤ sizeLine) : wpAny (model prog w) A (binaryOp .Add (.ref t) (.ref b)) Q E s := by
  obtain ⟨⟨cls, dd, data, sl⟩, ho, hc, n, hd⟩ := id ht
  obtain ⟨⟨cls2, dd2, data2, sl2⟩, ho2, hc2, n2, hd2⟩ := id hb
  simp only at hc hd hc2 hd2
  subst hc hd hc2 hd2
  have e : vs.toArray ++ ws.toArray = (vs ++ ws).toArray := by simp
  by_cases hw : ws = []
  · exact concat_meets ⟨_, ho, rfl⟩ ⟨_, ho2, rfl⟩ noFill_tuple_add seq_tuple_add PySem.F.slot_tuple_add PySem.F.entry_tuple_add (PySem.F.args_tuple_add_2 _ _)
      (tuple_addW1 t b vs.toArray ws.toArray n n2 dd dd2 sl sl2 (by simpa using hv) (by simp [hw])) ⟨ho, ho2, h1 hw⟩
  · refine concat_meets ⟨_, ho, rfl⟩ ⟨_, ho2, rfl⟩ noFill_tuple_add seq_tuple_add PySem.F.slot_tuple_add PySem.F.entry_tuple_add (PySem.F.args_tuple_add_2 _ _)
      (tuple_addW2 t b vs.toArray ws.toArray n n2 dd dd2 sl sl2 (by simpa using hv) (by simpa using hw) (by rw [List.size_toArray, List.size_toArray]; exact hsz)) ⟨ho, ho2, ?_⟩
    rw [e]
    exact h2 hw

/-! ### t[a:b], not the whole -/
/-- a slice's bound as a place among n (d where it is left out) -/
def sIx (n d : Nat) : Option Int → Nat
  | none => d
  | some v => if v < 0 then (v + (n : Int)).toNat else min v.toNat n
theorem sIx_none (n d : Nat) : sIx n d none = d := rfl
theorem sIx_nat (n d k : Nat) : sIx n d (some (k : Int)) = min k n := by
  show (if (k : Int) < 0 then ((k : Int) + (n : Int)).toNat else min (k : Int).toNat n) = min k n
  rw [if_neg (by omega), Int.toNat_natCast]
theorem sIx_le (n d : Nat) (hd : d ≤ n) (o : Option Int) : sIx n d o ≤ n := by
  cases o with
  | none => exact hd
  | some v =>
    show (if v < 0 then (v + (n : Int)).toNat else min v.toNat n) ≤ n
    by_cases hv : v < 0
    · rw [if_pos hv]; omega
    · rw [if_neg hv]; exact Nat.min_le_right _ _
theorem clip_eq (v : Int) (n d : Nat) : (if v < 0 then max (v + (n : Int)) 0 else min v (n : Int)) = ((sIx n d (some v) : Nat) : Int) := by
  show (if v < 0 then max (v + (n : Int)) 0 else min v (n : Int)) = (((if v < 0 then (v + (n : Int)).toNat else min v.toNat n) : Nat) : Int)
  by_cases hv : v < 0
  · simp only [if_pos hv]; omega
  · simp only [if_neg hv]; omega
theorem adjust_gen (lo hi : Option Int) (n : Nat) : Builtin.Slice.sliceAdjust lo hi 1 (n : Int) = (((sIx n 0 lo : Nat) : Int), ((sIx n n hi : Nat) : Int)) := by
  have h1 : ¬ ((1 : Int) < 0) := by omega
  unfold Builtin.Slice.sliceAdjust
  simp only [h1, if_false]
  refine Prod.ext ?_ ?_
  · cases lo with
    | none => rfl
    | some v => exact clip_eq v n 0
  · cases hi with
    | none => rfl
    | some v => exact clip_eq v n n
theorem places_gen (i j : Nat) : Builtin.Slice.slicePlaces (i : Int) (j : Int) 1 = j - i := by
  unfold Builtin.Slice.slicePlaces
  have h1 : (1 : Int) > 0 := by omega
  simp only [h1, if_true, Int.ediv_one]
  split <;> omega
theorem slicePart_ {v : Value} {o : Option Int} {Q : Option Int → Shared → Prop} (p : IsPart v o) (h : Q o s) : wpAny (model prog w) A (Builtin.Slice.slicePartIndex v) Q E s := by
  cases p with
  | none => exact slicePart_none h
  | int i t => exact slicePart_int h
theorem sliceApplied_gen {sl : Addr} {vl vu : Value} {lo hi : Option Int} {n : Nat} {Q : Int × Int × Nat → Shared → Prop} (hs : s.heap.IsSliceOf sl vl vu .none) (pl : IsPart vl lo) (pu : IsPart vu hi)
    (h : Q (((sIx n 0 lo : Nat) : Int), 1, sIx n n hi - sIx n 0 lo) s) : wpAny (model prog w) A (Builtin.Slice.sliceApplied (.ref sl) (pure (n : Int))) Q E s := by
  obtain ⟨os, hos, hcs, hds⟩ := id hs
  unfold Builtin.Slice.sliceApplied Builtin.Slice.sliceFields
  refine wpAny_bind (wpAny_bind (wpAny_field hos hds (x := vl) rfl (wpAny_bind (wpAny_field hos hds (x := vu) rfl (wpAny_bind (wpAny_field hos hds (x := .none) rfl (wpAny_pure ?_)))))))
  refine wpAny_bind (slicePart_none ?_)
  show wpAny _ _ (if ((1 : Int) == 0) = true then _ else _) _ _ s
  rw [if_neg (by decide)]
  refine wpAny_bind (slicePart_ pl (wpAny_bind (slicePart_ pu (wpAny_bind (wpAny_pure ?_)))))
  show wpAny _ _ (match Builtin.Slice.sliceAdjust lo hi 1 (n : Int) with | (lo, hi) => pure (lo, (1 : Int), Builtin.Slice.slicePlaces lo hi 1)) _ _ s
  rw [adjust_gen lo hi n]
  show wpAny _ _ (pure (((sIx n 0 lo : Nat) : Int), (1 : Int), Builtin.Slice.slicePlaces ((sIx n 0 lo : Nat) : Int) ((sIx n n hi : Nat) : Int) 1)) _ _ s
  rw [places_gen]
  exact wpAny_pure h
theorem pick_gen (xs : Array Value) (i k : Nat) : ((List.range k).filterMap fun (m : Nat) => xs[((i : Int) + (m : Int) * 1).toNat]?).toArray = ((xs.toList.drop i).take k).toArray := by
  have e : (fun (m : Nat) => xs[((i : Int) + (m : Int) * 1).toNat]?) = fun m => xs[i + m]? := by
    funext m
    have : ((i : Int) + (m : Int) * 1).toNat = i + m := by omega
    rw [this]
  rw [e]
  have := pick_run xs i k
  rw [List.filterMap_map] at this
  have e2 : ((fun x => xs[x]?) ∘ fun x => i + x) = fun m => xs[i + m]? := rfl
  rw [e2] at this
  rw [this]

theorem getItem_tuple_cut {t sl : Addr} {items : Array Value} {vl vu : Value} {lo hi : Option Int} {Q : Value → Shared → Prop} (ht : IsTup s.heap t items) (hs : s.heap.IsSliceOf sl vl vu .none) (pl : IsPart vl lo) (pu : IsPart vu hi)
    (hw : ¬ (sIx items.size 0 lo = 0 ∧ sIx items.size items.size hi = items.size))
    (h : Q (.ref s.heap.objs.size) { s with heap := s.heap.push { cls := .type "tuple", data := .seq ((items.toList.drop (sIx items.size 0 lo)).take (sIx items.size items.size hi - sIx items.size 0 lo)).toArray } })
    (hsz : items.size ≤ sizeLine) : wpAny (model prog w) A (getItem (.ref t) (.ref sl)) Q E s := by
  have htake : sizeOk (.seq ((items.toList.drop (sIx items.size 0 lo)).take (sIx items.size items.size hi - sIx items.size 0 lo)).toArray) := by
    show ((items.toList.drop (sIx items.size 0 lo)).take (sIx items.size items.size hi - sIx items.size 0 lo)).toArray.size ≤ sizeLine
    rw [List.size_toArray, List.length_take, List.length_drop, Array.length_toList]
    omega
  have hj : sIx items.size items.size hi ≤ items.size := sIx_le _ _ (Nat.le_refl _) hi
  obtain ⟨os, hos, hcs, hds⟩ := id hs
  have hTs : s.TypeIs (.ref sl) "slice" := ⟨os, hos, hcs⟩
  unfold getItem
  try with_reducible refine wpAny_holding ?_
  first | refine wpAny_bind (wpAny_pure ?_) | skip
  refine wpAny_bind (wpAny_sequenceKey ht.typeIs (by decide) ?_)
  refine wpAny_bind (wpAny_callSpecial?_slot (name := Str.ofString "__getitem__") ht.typeIs PyProof.Rows.slot_tuple_getitem
    (wpAny_call_entry PyProof.Rows.slot_tuple_getitem ht.typeIs entry_tuple_getitem ?_ (args_tuple_getitem _ _)))
  show wpAny _ _ (Builtin.Tuple.tupleItemsOf (.ref t) >>= _) _ _ s
  refine wpAny_bind (tupleItemsOf_ ht ?_)
  refine wpAny_bind (wpAny_typeOf hTs ?_)
  rw [if_pos (by decide)]
  refine wpAny_bind (sliceApplied_gen hs pl pu ?_)
  have hno : ¬ ((((sIx items.size 0 lo : Nat) : Int) == 0 && (1 : Int) == 1 && (sIx items.size items.size hi - sIx items.size 0 lo) == items.size) = true) := by
    intro q
    rw [Bool.and_eq_true, Bool.and_eq_true] at q
    have q1 : ((sIx items.size 0 lo : Nat) : Int) = 0 := eq_of_beq q.1.1
    have q2 : sIx items.size items.size hi - sIx items.size 0 lo = items.size := eq_of_beq q.2
    exact hw ⟨by omega, by omega⟩
  show wpAny _ _ (if (((sIx items.size 0 lo : Nat) : Int) == 0 && (1 : Int) == 1 && (sIx items.size items.size hi - sIx items.size 0 lo) == items.size) = true then _ else _) _ _ s
  rw [if_neg hno, pick_gen]
  first
    | exact wpAny_bind (m := Builtin.Tuple.tupleExact _) (wpAny_newObj_type (wpAny_pure ⟨_, rfl, wpAny_pure h⟩) htake)
    | exact wpAny_bind (m := Builtin.Tuple.tupleExact _) (wpAny_newObj_type (wpAny_bind (wpAny_pure (wpAny_pure ⟨_, rfl, wpAny_pure h⟩))) htake)
    | exact wpAny_bind (wpAny_bind (m := Builtin.Tuple.tupleExact _) (wpAny_newObj_type (wpAny_pure (wpAny_pure ⟨_, rfl, wpAny_pure h⟩)) htake))
    | exact wpAny_bind (wpAny_bind (m := Builtin.Tuple.tupleExact _) (wpAny_newObj_type (wpAny_pure ⟨_, rfl, wpAny_pure h⟩) htake))
end
end HT

namespace L2
open PySem PySem.Spec PyProof.Rows

/-! ### the parts of a slice -/
abbrev TO := St → Hp → (Option Int → Hp → Prop) → Prop
/-- a slice's part (left out, or an int) -/
def PO (X : Cx) (e : Option Expr) (t : TO) : Prop :=
  ∀ (pins : List (Addr × Obj)) (s : Shared) (σ : St) (H : Hp) (Q : Option Int → Hp → Prop), Inv X pins σ H s → t σ H Q →
    wpAny (model X.prog X.w) X.A (evalPart e X.env) (fun u s' => ∃ o H', Inv X pins σ H' s' ∧ IsPart u o ∧ Q o H') X.xe s
def tNoPart : TO := fun _ H Q => Q none H
def tPart (t : TE) : TO := fun σ H Q => t σ H fun x H1 => ∃ i, x = .int i ∧ Q (some i) H1

section
variable {X : Cx} {e : Expr} {te : TE} {lo hi : Option Expr} {tl th : TO} {pos p2 : Pos}

theorem po_none : PO X none tNoPart := by
  intro pins s σ H Q I h
  rw [evalPart_none]
  exact wpAny_pure ⟨none, H, I, .none, h⟩
theorem po_some (h : PE X e te) : PO X (some e) (tPart te) := by
  intro pins s σ H Q I hw
  rw [evalPart_some]
  refine thn (h pins s σ H _ I hw) fun u s1 ⟨x, H1, I1, r1, q1⟩ => ?_
  obtain ⟨i, rfl, q⟩ := q1
  obtain ⟨t, rfl⟩ := r1
  exact ⟨some i, H1, I1, .int i t, q⟩

/-- what a slice of a value is, by values: the slice object stands at sl -/
def SlR (X : Cx) (r : V → Option Int → Option Int → Hp → VK → Prop) : Prop :=
  ∀ (pins : List (Addr × Obj)) (s : Shared) (σ : St) (H : Hp) (x : V) (v vl vu : Value) (lo hi : Option Int) (sl : Addr) (Q : VK), Inv X pins σ H s → RelV x v → s.heap.IsSliceOf sl vl vu .none → IsPart vl lo → IsPart vu hi → r x lo hi H Q →
    ∃ T id, typeLookup (.type T) "__getitem__" = pure (some (.builtin id)) ∧ s.TypeIs v T ∧ wpAny (model X.prog X.w) X.A (getItem v (.ref sl)) (EP X pins σ Q) X.xe s
theorem SlR.or {r r' : V → Option Int → Option Int → Hp → VK → Prop} (h : SlR X r) (h' : SlR X r') : SlR X (fun x lo hi H Q => r x lo hi H Q ∨ r' x lo hi H Q) := by
  intro pins s σ H x v vl vu lo hi sl Q I rx hs pl pu q
  rcases q with q | q
  · exact h pins s σ H x v vl vu lo hi sl Q I rx hs pl pu q
  · exact h' pins s σ H x v vl vu lo hi sl Q I rx hs pl pu q
def tSl (r : V → Option Int → Option Int → Hp → VK → Prop) (te : TE) (tl th : TO) : TE := fun σ H Q => te σ H fun x H1 => tl σ H1 fun l H2 => th σ H2 fun u H3 => r x l u H3 Q
/-- a[lo:hi], any a -/
theorem pe_slice {r : V → Option Int → Option Int → Hp → VK → Prop} (hr : SlR X r) (he : PE X e te) (hl : PO X lo tl) (hu : PO X hi th) : PE X (.Subscript e (.Slice lo hi none p2) pos) (tSl r te tl th) := by
  intro pins s σ H Q I h
  refine Subscript_ (thn (he pins s σ H _ I h) fun v s1 ⟨x, H1, I1, r1, q1⟩ => ?_)
  refine wpAny_Slice (thn (hl pins s1 σ H1 _ I1 q1) fun vl s2 ⟨l, H2, I2, pl, q2⟩ => thn (hu pins s2 σ H2 _ I2 q2) fun vu s3 ⟨u, H3, I3, pu, q3⟩ => ?_)
  rw [evalPart_none]
  refine wpAny_pure ?_
  have I4 : Inv X pins σ H3 { s3 with heap := s3.heap.push { cls := .type "slice", data := .fields #[vl, vu, .none] } } := I3.kept (t' := s3.toks) fun b ob q => Heap.get?_push_of_some _ q
  obtain ⟨T, id, hT, ht, hg⟩ := hr pins { s3 with heap := s3.heap.push { cls := .type "slice", data := .fields #[vl, vu, .none] } } σ H3 x v vl vu l u s3.heap.objs.size Q I4 r1 (Heap.IsSliceOf.new ..) pl pu q3
  show wpAny (model X.prog X.w) X.A (subscriptTail e (.Slice lo hi none p2) v (.ref s3.heap.objs.size)) (EP X pins σ Q) X.xe { s3 with heap := s3.heap.push { cls := .type "slice", data := .fields #[vl, vu, .none] } }
  exact tail_any (ops := [.ref s3.heap.objs.size, v]) ht hT hg (by with_unfolding_all rfl)

/-- the items of xs[lo:hi] -/
def cutV (xs : List V) (lo hi : Option Int) : List V := (xs.drop (HT.sIx xs.length 0 lo)).take (HT.sIx xs.length xs.length hi - HT.sIx xs.length 0 lo)
theorem cutV_length (xs : List V) (lo hi : Option Int) : (cutV xs lo hi).length ≤ xs.length := by
  unfold cutV
  rw [List.length_take, List.length_drop]
  omega
/-- t[lo:hi], not the whole of it (the whole would be t itself) -/
def rSlT (K : PySem.W.Frag) : V → Option Int → Option Int → Hp → VK → Prop := fun x lo hi H Q => ∃ a xs, x = .ref a ∧ SqT K H a xs ∧
  ¬ (HT.sIx xs.length 0 lo = 0 ∧ HT.sIx xs.length xs.length hi = xs.length) ∧ ∀ p, H p = none → Q (.ref p) (upd H p (.tup (cutV xs lo hi)))
theorem sl_tup : SlR X (rSlT X.K) := by
  intro pins s σ H x v vl vu lo hi sl Q I rx hs pl pu h
  obtain ⟨a, xs, rfl, hx, hw, q⟩ := h
  cases rx
  obtain ⟨its, r, ht, hz⟩ := I.tuple hx
  have hlen : its.toArray.size = xs.length := by rw [List.size_toArray]; exact r.length.symm
  refine ⟨"tuple", _, PyProof.Rows.slot_tuple_getitem.lookup, ht.typeIs, ?_⟩
  refine HT.getItem_tuple_cut ht hs pl pu (by rw [hlen]; exact hw) ?_ (by rw [hlen]; exact hz)
  rw [hlen]
  refine ⟨.ref s.heap.objs.size, _, I.laid (t' := s.toks) (o := .tup (cutV xs lo hi)) (fun b ob q => Heap.get?_push_of_some _ q) (Nat.le_refl _) ?_, rfl, q _ (I.hok.fresh (Nat.le_refl _))⟩
  exact ⟨Nat.le_trans (cutV_length xs lo hi) hz, _, (r.drop (HT.sIx xs.length 0 lo)).take (HT.sIx xs.length xs.length hi - HT.sIx xs.length 0 lo), IsTup.new _ _⟩

/-! ### t < u, t + u -/
/-- t + u, t not empty: u empty gives t itself -/
def rCatT (K : PySem.W.Frag) : R2 := fun x y H Q => ∃ a b xs ys, x = .ref a ∧ y = .ref b ∧ SqT K H a xs ∧ SqT K H b ys ∧ xs ≠ [] ∧ xs.length + ys.length ≤ sizeLine ∧
  (ys = [] → Q (.ref a) H) ∧ (ys ≠ [] → ∀ p, H p = none → Q (.ref p) (upd H p (.tup (xs ++ ys))))
theorem Vals.nil_iff {xs : List V} {us : List Value} (r : Vals xs us) : us = [] ↔ xs = [] := by
  cases r with
  | nil => simp
  | cons _ _ => simp
theorem op_catT : OpR X (binaryOp .Add) (rCatT X.K) := by
  intro pins s σ H x y v u Q I rx ry h
  obtain ⟨a, b, xs, ys, rfl, rfl, ha, hb, hx, hz, q1, q2⟩ := h
  cases rx
  cases ry
  obtain ⟨its, r1, p1, _⟩ := I.tuple ha
  obtain ⟨its2, r2, p2, _⟩ := I.tuple hb
  refine HT.cat_tup p1 p2 (fun z => hx (r1.nil_iff.mp z)) (fun z => ⟨.ref a, H, I, rfl, q1 (r2.nil_iff.mp z)⟩) (fun z => ?_) (by rw [← r1.length, ← r2.length]; exact hz)
  refine ⟨.ref s.heap.objs.size, _, I.laid (t' := s.toks) (o := .tup (xs ++ ys)) (fun b ob q => Heap.get?_push_of_some _ q) (Nat.le_refl _) ?_, rfl, q2 (fun w => z (r2.nil_iff.mpr w)) _ (I.hok.fresh (Nat.le_refl _))⟩
  exact ⟨by rw [List.length_append]; exact hz, _, r1.append r2, IsTup.new _ _⟩
end
end L2

namespace L2
open PySem PySem.Spec PyProof.Rows

/-! ### places -/
/-- the place that an index of any sign means -/
def ixN (n : Nat) (i : Int) : Option Nat := if 0 ≤ i then (if i < n then some i.toNat else none) else if -(n : Int) ≤ i then some (i + n).toNat else none
def atI {α : Type} (xs : List α) (i : Int) : Option α := (ixN xs.length i).bind fun j => xs[j]?
theorem ixN_seq {n : Nat} {i : Int} {j : Nat} (h : ixN n i = some j) : seqIndex? i n = some j ∧ j < n ∧ -(n : Int) ≤ i ∧ i < n := by
  unfold ixN at h
  by_cases h0 : 0 ≤ i
  · rw [if_pos h0] at h
    by_cases h1 : i < n
    · rw [if_pos h1] at h
      have e : i.toNat = j := Option.some.inj h
      exact ⟨by rw [seqIndex_of h0 h1, e], by omega, by omega, h1⟩
    · rw [if_neg h1] at h; cases h
  · rw [if_neg h0] at h
    by_cases h1 : -(n : Int) ≤ i
    · rw [if_pos h1] at h
      have e : (i + n).toNat = j := Option.some.inj h
      exact ⟨by rw [seqIndex_neg (by omega) h1, e], by omega, h1, by omega⟩
    · rw [if_neg h1] at h; cases h
theorem atI_get {α : Type} {xs : List α} {i : Int} {v : α} (h : atI xs i = some v) : ∃ j, seqIndex? i xs.length = some j ∧ xs[j]? = some v ∧ j < xs.length ∧ -(xs.length : Int) ≤ i ∧ i < xs.length := by
  unfold atI at h
  cases e : ixN xs.length i with
  | none => rw [e] at h; cases h
  | some j =>
    rw [e] at h
    obtain ⟨h1, h2, h3, h4⟩ := ixN_seq e
    exact ⟨j, h1, h, h2, h3, h4⟩
theorem atI_nat {α : Type} {xs : List α} {j : Nat} {v : α} (h : xs[j]? = some v) : atI xs (j : Int) = some v := by
  have hj : j < xs.length := (List.getElem?_eq_some_iff.mp h).1
  have e : ixN xs.length (j : Int) = some j := by
    unfold ixN
    rw [if_pos (by omega), if_pos (by omega)]; simp
  unfold atI; rw [e]; exact h
theorem atI_last {α : Type} (xs : List α) (v : α) : atI (xs ++ [v]) (-1) = some v := by
  have hl : (xs ++ [v]).length = xs.length + 1 := by simp
  have e : ixN (xs ++ [v]).length (-1) = some xs.length := by
    unfold ixN
    rw [hl, if_neg (by decide), if_pos (by omega)]
    congr 1
    omega
  unfold atI
  rw [e]
  show (xs ++ [v])[xs.length]? = some v
  simp

/-! ### what may be subscripted -/
/-- what stands as an index of a plain subscript -/
def PlainIx (b : Expr) : Prop := ∀ o i, subscripted b false o i = operate [o, i] (getItem o i)
/-- a subscript by values -/
def IxR (X : Cx) (r : R2) : Prop :=
  ∀ (value slice : Expr) (pins : List (Addr × Obj)) (s : Shared) (σ : St) (H : Hp) (x y : V) (v u : Value) (Q : VK), Inv X pins σ H s → RelV x v → RelV y u → r x y H Q →
    subscripted slice false v u = operate [v, u] (getItem v u) → wpAny (model X.prog X.w) X.A (subscriptTail value slice v u) (EP X pins σ Q) X.xe s
/-- a call of a builtin's method by values: the receiver, the arguments -/
def MtR (X : Cx) (id : String) (r : V → List V → Hp → VK → Prop) : Prop :=
  ∀ (pins : List (Addr × Obj)) (s : Shared) (σ : St) (H : Hp) (x : V) (xs : List V) (v : Value) (us : List Value) (Q : VK), Inv X pins σ H s → RelV x v → Vals xs us → r x xs H Q →
    wpAny (model X.prog X.w) X.A (call (.builtin id) (v :: us)) (EP X pins σ Q) X.xe s
section
variable {X : Cx} {a b : Expr} {ta tb : TE} {pos : Pos}
theorem IxR.or {r r' : R2} (h : IxR X r) (h' : IxR X r') : IxR X (fun x y H Q => r x y H Q ∨ r' x y H Q) := by
  intro value slice pins s σ H x y v u Q I rx ry q hs
  rcases q with q | q
  · exact h value slice pins s σ H x y v u Q I rx ry q hs
  · exact h' value slice pins s σ H x y v u Q I rx ry q hs
theorem MtR.or {id : String} {r r' : V → List V → Hp → VK → Prop} (h : MtR X id r) (h' : MtR X id r') : MtR X id (fun x xs H Q => r x xs H Q ∨ r' x xs H Q) := by
  intro pins s σ H x xs v us Q I rx rs q
  rcases q with q | q
  · exact h pins s σ H x xs v us Q I rx rs q
  · exact h' pins s σ H x xs v us Q I rx rs q
/-- a[b] -/
theorem pe_ix {r : R2} (hr : IxR X r) (ha : PE X a ta) (hb : PE X b tb) (hs : PlainIx b) : PE X (.Subscript a b pos) (tOp r ta tb) := by
  intro pins s σ H Q I h
  exact Subscript_ (binT ha hb I h fun v u s2 x y H2 I2 rx ry q => hr a b pins s2 σ H2 x y v u Q I2 rx ry q (hs _ _))

def rIxL (K : PySem.W.Frag) : R2 := fun x y H Q => ∃ p xs i v, x = .ref p ∧ y = .int i ∧ SqL K H p xs ∧ atI xs i = some v ∧ Q v H
def rIxT (K : PySem.W.Frag) : R2 := fun x y H Q => ∃ p xs i v, x = .ref p ∧ y = .int i ∧ SqT K H p xs ∧ atI xs i = some v ∧ Q v H
def rIxS : R2 := fun x y H Q => ∃ z i c, x = .str z ∧ y = .int i ∧ z.length ≤ sizeLine ∧ atI z.cps.toList i = some c ∧ Q (.str ⟨#[c]⟩) H
theorem ix_list : IxR X (rIxL X.K) := by
  intro value slice pins s σ H x y v u Q I rx ry h hs
  obtain ⟨p, xs, i, z, rfl, rfl, hq, he, q⟩ := h
  cases rx
  obtain ⟨t, rfl⟩ := ry
  obtain ⟨its, r, pl, hz⟩ := I.list hq
  obtain ⟨j, h1, h2, h3, h4, h5⟩ := atI_get he
  obtain ⟨w, ew, rw'⟩ := r.get h2
  have hl := r.length
  have hn := line63
  have fin : EP X pins σ Q w s := ⟨z, H, I, rw', q⟩
  by_cases h0 : 0 ≤ i
  · have hj : i.toNat = j := by
      rw [seqIndex_of h0 h5] at h1
      exact Option.some.inj h1
    exact item_listR pl.isList h0 (by omega) (by rw [hj]; simpa using ew) fin hs
  · have hj : (i + (its.toArray.size : Int)).toNat = j := by
      rw [seqIndex_neg (by omega) h4] at h1
      rw [List.size_toArray, ← hl]
      exact Option.some.inj h1
    exact subscriptTail_builtinR (x := w) pl.isList.typeIs slot_list_getitem.lookup
      (wpAny_getItem_list_neg (Q := fun r s' => r = w ∧ EP X pins σ Q r s') pl.isList (by omega) (by rw [List.size_toArray] <;> omega) (by omega) (by rw [hj]; simpa using ew) ⟨rfl, fin⟩) hs
theorem ix_tup : IxR X (rIxT X.K) := by
  intro value slice pins s σ H x y v u Q I rx ry h hs
  obtain ⟨p, xs, i, z, rfl, rfl, hq, he, q⟩ := h
  cases rx
  obtain ⟨t, rfl⟩ := ry
  obtain ⟨its, r, pl, hz⟩ := I.tuple hq
  obtain ⟨j, h1, h2, h3, h4, h5⟩ := atI_get he
  obtain ⟨w, ew, rw'⟩ := r.get h2
  have hl := r.length
  have hn := line63
  have fin : EP X pins σ Q w s := ⟨z, H, I, rw', q⟩
  exact subscriptTail_builtinR (x := w) pl.typeIs slot_tuple_getitem.lookup
    (getItem_tuple (j := j) (Q := fun r s' => r = w ∧ EP X pins σ Q r s') pl (by omega) (by omega) (by rw [List.size_toArray, ← hl]; exact h1) (by simpa using ew) ⟨rfl, fin⟩) hs
theorem ix_str : IxR X rIxS := by
  intro value slice pins s σ H x y v u Q I rx ry h hs
  obtain ⟨z, i, c, rfl, rfl, hz, he, q⟩ := h
  obtain ⟨t, rfl⟩ := rx
  obtain ⟨t', rfl⟩ := ry
  obtain ⟨j, h1, h2, h3, h4, h5⟩ := atI_get he
  have hl : z.cps.toList.length = z.length := by simp [Str.length]
  rw [hl] at h1 h4 h5
  have hn := line63
  exact tail_any (typeIs_str s z t) slot_str_getitem.lookup (getItem_str (c := c) (by
    have e1 : decide (i < -(2 ^ 63 : Int)) = false := decide_eq_false (by omega)
    have e2 : decide (i ≥ 2 ^ 63) = false := decide_eq_false (by omega)
    rw [e1, e2, Bool.or_false]) (by rw [h1]; simpa using h2) ⟨.str ⟨#[c]⟩, H, I.tok _, ⟨_, rfl⟩, q⟩) hs
/-- list, tuple or str -/
def rIx (K : PySem.W.Frag) : R2 := fun x y H Q => rIxL K x y H Q ∨ rIxT K x y H Q ∨ rIxS x y H Q
theorem ix_seq : IxR X (rIx X.K) := ix_list.or (ix_tup.or ix_str)

/-! ### xs[i] = v, any sign -/
theorem Inv.lst {pins : List (Addr × Obj)} {σ : St} {H : Hp} {s : Shared} {p : Addr} {xs : List V} (I : Inv X pins σ H s) (h : H p = some (.lst xs)) :
    ∃ (its : List Value) (n : Nat), Vals xs its ∧ s.heap.get? p = some { cls := .type "list", data := .seq its.toArray n } ∧ xs.length ≤ sizeLine := by
  obtain ⟨z, its, n, r, e⟩ := I.hok p _ h
  exact ⟨its, n, r, e, z⟩
/-! ### slices -/
theorem slice_bounds (lo hi : Option Int) (n : Nat) : (sliceBounds lo hi none n).1 = ((HT.sIx n 0 lo : Nat) : Int) ∧ (sliceBounds lo hi none n).2.1 = ((HT.sIx n n hi : Nat) : Int) ∧ (sliceBounds lo hi none n).2.2 = 1 := by
  refine ⟨?_, ?_, rfl⟩
  · cases lo with
    | none => simp [sliceBounds, HT.sIx]
    | some i =>
      simp only [sliceBounds, HT.sIx, Option.getD_none, show (1 : Int) > 0 by decide, if_true]
      by_cases h : i < 0
      · simp only [h, if_true] <;> omega
      · simp only [h, if_false] <;> omega
  · cases hi with
    | none => simp [sliceBounds, HT.sIx]
    | some i =>
      simp only [sliceBounds, HT.sIx, Option.getD_none, show (1 : Int) > 0 by decide, if_true]
      by_cases h : i < 0
      · simp only [h, if_true] <;> omega
      · simp only [h, if_false] <;> omega
theorem slicePick_cut (its : List Value) (lo hi : Option Int) : slicePick its.toArray lo hi none = ((its.drop (HT.sIx its.length 0 lo)).take (HT.sIx its.length its.length hi - HT.sIx its.length 0 lo)).toArray := by
  obtain ⟨h1, h2, h3⟩ := slice_bounds lo hi its.toArray.size
  unfold slicePick
  rw [h1, h2, h3]
  simp only [sliceRange_one, pick_run, List.size_toArray] <;> rfl
/-- xs[lo:hi] of a list: a new list -/
def rSlL (K : PySem.W.Frag) : V → Option Int → Option Int → Hp → VK → Prop := fun x lo hi H Q => ∃ a xs, x = .ref a ∧ SqL K H a xs ∧ ∀ p, H p = none → Q (.ref p) (upd H p (.lst (cutV xs lo hi)))
theorem sl_list : SlR X (rSlL X.K) := by
  intro pins s σ H x v vl vu lo hi sl Q I rx hs pl pu h
  obtain ⟨a, xs, rfl, hx, q⟩ := h
  cases rx
  obtain ⟨its, r, ht, hz⟩ := I.list hx
  have hlen := r.length
  refine ⟨"list", _, slot_list_getitem.lookup, ht.isList.typeIs, ?_⟩
  refine wpAny_getItem_list_slice ht.isList hs pl pu .none (by simp) ?_ (by rw [List.size_toArray] <;> omega)
  rw [slicePick_cut, ← hlen]
  refine ⟨.ref s.heap.objs.size, _, I.laid (t' := s.toks) (o := .lst (cutV xs lo hi)) (fun b ob q => Heap.get?_push_of_some _ q) (Nat.le_refl _) ?_, rfl, q _ (I.hok.fresh (Nat.le_refl _))⟩
  exact ⟨Nat.le_trans (cutV_length xs lo hi) hz, _, 0, (r.drop (HT.sIx xs.length 0 lo)).take (HT.sIx xs.length xs.length hi - HT.sIx xs.length 0 lo), Heap.get?_push_size _ rfl⟩

/-! ### in, not in: flat items -/
def flatV : V → Bool
  | .non => true
  | .bl _ => true
  | .int _ => true
  | .str _ => true
  | _ => false
/-- == of flat values -/
def eqV : V → V → Bool
  | .non, .non => true
  | .bl a, .bl b => a == b
  | .bl a, .int b => (if a then 1 else 0) == b
  | .int a, .bl b => a == (if b then 1 else 0)
  | .int a, .int b => a == b
  | .str a, .str b => a == b
  | _, _ => false
theorem eqAt_V {A : Around} {s : Shared} {y x : V} {u v : Value} (ry : RelV y u) (rx : RelV x v) (fy : flatV y = true) (fx : flatV x = true) : SeqAt.EqAt A s u v (eqV y x) := by
  cases y with
  | non =>
    cases ry
    cases x with
    | non => cases rx; exact SeqAt.EqAt.same _
    | bl b => cases rx; exact SeqAt.EqAt.none_bool b
    | int b => obtain ⟨t, rfl⟩ := rx; exact SeqAt.EqAt.none_int b t
    | str b => obtain ⟨t, rfl⟩ := rx; exact SeqAt.EqAt.none_str b t
    | _ => exact absurd (show false = true from fx) Bool.false_ne_true
  | bl a =>
    cases ry
    cases x with
    | non => cases rx; exact SeqAt.EqAt.bool_none a
    | bl b => cases rx; exact SeqAt.EqAt.bool_bool a b
    | int b => obtain ⟨t, rfl⟩ := rx; exact SeqAt.EqAt.bool_int a b t
    | str b => obtain ⟨t, rfl⟩ := rx; exact SeqAt.EqAt.bool_str a b t
    | _ => exact absurd (show false = true from fx) Bool.false_ne_true
  | int a =>
    obtain ⟨t', rfl⟩ := ry
    cases x with
    | non => cases rx; exact SeqAt.EqAt.int_none a t'
    | bl b => cases rx; exact SeqAt.EqAt.int_bool a t' b
    | int b => obtain ⟨t, rfl⟩ := rx; exact SeqAt.EqAt.int_int a t' b t
    | str b => obtain ⟨t, rfl⟩ := rx; exact SeqAt.EqAt.int_str a t' b t
    | _ => exact absurd (show false = true from fx) Bool.false_ne_true
  | str a =>
    obtain ⟨t', rfl⟩ := ry
    cases x with
    | non => cases rx; exact SeqAt.EqAt.str_none a t'
    | bl b => cases rx; exact SeqAt.EqAt.str_bool a t' b
    | int b => obtain ⟨t, rfl⟩ := rx; exact SeqAt.EqAt.str_int a t' b t
    | str b => obtain ⟨t, rfl⟩ := rx; exact SeqAt.EqAt.str_str a t' b t
    | _ => exact absurd (show false = true from fx) Bool.false_ne_true
  | _ => exact absurd (show false = true from fy) Bool.false_ne_true
/-! ### len, list(x), tuple(x) of any list or tuple that is read -/
theorem call_len_seq : CallR X (.builtin "len") (fun xs H Q => ∃ p ys, xs = [.ref p] ∧ (SqL X.K H p ys ∨ SqT X.K H p ys) ∧ Q (.int ys.length) H) := by
  intro pins s σ H xs us Q I r h
  obtain ⟨p, ys, rfl, hq, q⟩ := h
  obtain ⟨u, rfl, rx⟩ := vals1 r
  cases rx
  have hn := line63
  rcases hq with hq | hq
  · obtain ⟨its, r', pl, hz⟩ := I.list hq
    have hlen := r'.length
    exact Calls.call_len_list pl.isList (by simp only [List.size_toArray] <;> omega) ⟨.int ys.length, H, I.tok _, ⟨s.toks + 1, by rw [List.size_toArray, hlen]⟩, q⟩
  · obtain ⟨its, r', pl, hz⟩ := I.tuple hq
    have hlen := r'.length
    exact len_tuple pl (by simp only [List.size_toArray] <;> omega) ⟨.int ys.length, H, I.tok _, ⟨s.toks + 1, by rw [List.size_toArray, hlen]⟩, q⟩
theorem call_len_str : CallR X (.builtin "len") (fun xs H Q => ∃ z, xs = [.str z] ∧ z.length ≤ sizeLine ∧ Q (.int z.length) H) := by
  intro pins s σ H xs us Q I r h
  obtain ⟨z, rfl, hz, q⟩ := h
  obtain ⟨u, rfl, t, rfl⟩ := vals1 r
  have hn := line63
  exact len_str (by omega) ⟨.int z.length, H, I.tok _, ⟨_, rfl⟩, q⟩
theorem CallR.or {f : Value} {r r' : List V → Hp → VK → Prop} (h : CallR X f r) (h' : CallR X f r') : CallR X f (fun xs H Q => r xs H Q ∨ r' xs H Q) := by
  intro pins s σ H xs us Q I rs q
  rcases q with q | q
  · exact h pins s σ H xs us Q I rs q
  · exact h' pins s σ H xs us Q I rs q
theorem call_list_of : CallR X (.type "list") (fun xs H Q => ∃ p ys, xs = [.ref p] ∧ (SqL X.K H p ys ∨ SqT X.K H p ys) ∧ ∀ l, H l = none → Q (.ref l) (upd H l (.lst ys))) := by
  intro pins s σ H xs us Q I r h
  obtain ⟨p, ys, rfl, hq, q⟩ := h
  obtain ⟨u, rfl, rx⟩ := vals1 r
  cases rx
  have fin : ∀ (its : List Value), Vals ys its → ys.length ≤ sizeLine → ∀ (h' : Heap) (c' : Nat), (∀ b o', s.heap.get? b = some o' → h'.get? b = some o') →
      h'.get? s.heap.objs.size = some { cls := .type "list", dict := none, data := .seq its.toArray c', slots := #[] } → EP X pins σ Q (.ref s.heap.objs.size) { s with heap := h' } := fun its r' hz h' c' kp e =>
    ⟨.ref s.heap.objs.size, _, I.laid (t' := s.toks) kp (Nat.le_refl _) (show ObjOk X.prog X.w _ h' _ (.lst ys) from ⟨hz, its, c', r', e⟩), rfl, q _ (I.hok.fresh (Nat.le_refl _))⟩
  rcases hq with hq | hq
  · obtain ⟨its, r', pl, hz⟩ := I.list hq
    have hlen := r'.length
    obtain ⟨o, ho, hc, n, hd⟩ := pl.isList
    exact call_list_seq p (.inl rfl) ho hc hd (fun h' c' kp e => fin its r' hz h' c' kp e) (by simp only [List.size_toArray] <;> omega)
  · obtain ⟨its, r', pl, hz⟩ := I.tuple hq
    have hlen := r'.length
    obtain ⟨o, ho, hc, n, hd⟩ := pl
    exact call_list_seq p (.inr rfl) ho hc hd (fun h' c' kp e => fin its r' hz h' c' kp e) (by simp only [List.size_toArray] <;> omega)
theorem call_tuple_of : CallR X (.type "tuple") (fun xs H Q => ∃ p ys, xs = [.ref p] ∧ ((SqL X.K H p ys ∧ ∀ l, H l = none → Q (.ref l) (upd H l (.tup ys))) ∨ (SqT X.K H p ys ∧ Q (.ref p) H))) := by
  intro pins s σ H xs us Q I r h
  obtain ⟨p, ys, rfl, h⟩ := h
  obtain ⟨u, rfl, rx⟩ := vals1 r
  cases rx
  rcases h with ⟨hq, q⟩ | ⟨hq, q⟩
  · obtain ⟨its, r', pl, hz⟩ := I.list hq
    have hlen := r'.length
    refine call_tuple_list pl.isList (fun h' kp => ?_) (by simp only [List.size_toArray] <;> omega)
    have I1 : Inv X pins σ H { s with heap := h' } := I.kept (t' := s.toks) kp
    have I2 : Inv X pins σ (upd H h'.objs.size (.tup ys)) { s with heap := h'.push { cls := .type "tuple", data := .seq its.toArray } } :=
      I1.laid (t' := s.toks) (fun b o e => Heap.get?_push_of_some _ e) (Nat.le_refl _) (show ObjOk X.prog X.w _ _ _ (.tup ys) from ⟨hz, its, r', IsTup.new _ _⟩)
    exact ⟨.ref h'.objs.size, _, I2, rfl, q _ (I1.hok.fresh (Nat.le_refl _))⟩
  · obtain ⟨its, r', pl, hz⟩ := I.tuple hq
    exact call_tuple_same pl ⟨.ref p, H, I, rfl, q⟩

/-! ### the call of a builtin's method: o.m(..) -/
/-- the value is of that builtin type -/
def tyV (K : PySem.W.Frag) (T : String) (x : V) (H : Hp) : Prop := match x with
  | .str _ => T = "str"
  | .int _ => T = "int"
  | .ref p => (T = "list" ∧ ∃ xs, SqL K H p xs) ∨ (T = "tuple" ∧ ∃ o, K.lookup p = some o ∧ o.cls = .type "tuple" ∧ o.dict = none) ∨
      (T = "dict" ∧ ((∃ kvs, H p = some (.dK kvs)) ∨ ∃ kvs, H p = some (.dT kvs))) ∨ (T = "set" ∧ ∃ S n, H p = some (.set S n))
  | _ => False
theorem tyV_is {pins : List (Addr × Obj)} {σ : St} {H : Hp} {s : Shared} {T : String} {x : V} {v : Value} (I : Inv X pins σ H s) (r : RelV x v) (ty : tyV X.K T x H) :
    s.TypeIs v T ∧ ∀ a, v = .ref a → ∃ ob, s.heap.get? a = some ob ∧ ob.dict = none := by
  cases x with
  | str z =>
    obtain ⟨t, rfl⟩ := r
    cases (show T = "str" from ty)
    exact ⟨typeIs_str s z t, fun _ e => nomatch e⟩
  | int i =>
    obtain ⟨t, rfl⟩ := r
    cases (show T = "int" from ty)
    exact ⟨typeIs_int s i t, fun _ e => nomatch e⟩
  | ref p =>
    cases r
    rcases ty with ⟨rfl, xs, hq⟩ | ⟨rfl, o, hk, hc, hd⟩ | ⟨rfl, hk⟩ | ⟨rfl, S, n, hk⟩
    · obtain ⟨its, _, pl, _⟩ := I.list hq
      refine ⟨pl.isList.typeIs, fun a e => ?_⟩
      cases e
      obtain ⟨o, n, e, c, hd, _⟩ := pl
      exact ⟨o, e, hd⟩
    · refine ⟨⟨o, I.kIn p o hk, hc⟩, fun a e => ?_⟩
      cases e
      exact ⟨o, I.kIn _ o hk, hd⟩
    · have z : ∃ o, s.heap.get? p = some o ∧ o.ExactDict := by
        rcases hk with ⟨kvs, hk⟩ | ⟨kvs, hk⟩
        · obtain ⟨_, _, _, _, o, _, _, e, ex, _⟩ := I.hok p _ hk
          exact ⟨o, e, ex⟩
        · obtain ⟨_, _, _, _, o, _, _, e, ex, _⟩ := I.hok p _ hk
          exact ⟨o, e, ex⟩
      obtain ⟨o, e, ex⟩ := z
      refine ⟨⟨o, e, ex.1⟩, fun a e2 => ?_⟩
      cases e2
      exact ⟨o, e, ex.2.1⟩
    · obtain ⟨o, _, _, _, e, ex, _⟩ := I.hok p _ hk
      refine ⟨⟨o, e, ex.1⟩, fun a e2 => ?_⟩
      cases e2
      exact ⟨o, e, ex.2.1⟩
  | _ => exact False.elim ty
def tBM0 (K : PySem.W.Frag) (T : String) (r : V → List V → Hp → VK → Prop) (to : TE) : TE := fun σ H Q => to σ H fun x H1 => tyV K T x H1 ∧ r x [] H1 Q
def tBM (K : PySem.W.Frag) (T : String) (r : V → List V → Hp → VK → Prop) (to : TE) (t : TA) : TE := fun σ H Q => to σ H fun x H1 => tyV K T x H1 ∧ t σ H1 fun xs H2 => r x xs H2 Q
variable {o e : Expr} {es : List Expr} {to : TE} {t : TA} {name : Str} {apos cpos : Pos} {T id : String} {r : V → List V → Hp → VK → Prop}
theorem pe_bm0 (pa : PlainAttrs T) (slot : Slot T name id) (hty : typeOf (.builtin id) = pure (.type "method_descriptor")) (hm : MtR X id r) (ho : PE X o to)
    (hbase : attributeBase o name X.env (eval o X.env) = eval o X.env := by rfl) (hline : (apos.endLine == cpos.line) = true := by rfl) : PE X (.Call (.Attribute o name apos) [] [] cpos) (tBM0 X.K T r to) := by
  intro pins s σ H Q I h
  refine wpAny_Call_method0_late hbase hline (thn (ho pins s σ H _ I h) fun v s1 ⟨x, H1, I1, r1, ty, q1⟩ => ?_)
  obtain ⟨h1, h2⟩ := tyV_is I1 r1 ty
  exact ⟨T, id, pa, slot, hty, h1, h2, Calls.callWith_builtin rfl (PySem.evalArgs_none (hm pins s1 σ H1 x [] v [] Q I1 r1 .nil q1))⟩
theorem pe_bm (pa : PlainAttrs T) (slot : Slot T name id) (hty : typeOf (.builtin id) = pure (.type "method_descriptor")) (hm : MtR X id r) (ho : PE X o to) (ha : PA X (e :: es) t)
    (hbase : attributeBase o name X.env (eval o X.env) = eval o X.env := by rfl)
    (hfew : ((backTo cpos (starEach (e :: es) X.env)).all (fun x => !x.1) && (backToKw cpos (keywordEach [] X.env)).all (fun x => x.1.isSome)
      && decide ((e :: es).length + ([] : List Keyword).length + (if ([] : List Keyword).isEmpty then 0 else 1) < 30)) = true := by rfl)
    (hline : (apos.endLine == cpos.line) = true := by rfl) (hs : starEach (e :: es) X.env = (false, eval e X.env) :: starEach es X.env := by rfl) (hplain : (backTo cpos (starEach es X.env)).any (·.1) = false := by rfl) :
    PE X (.Call (.Attribute o name apos) (e :: es) [] cpos) (tBM X.K T r to t) := by
  intro pins s σ H Q I h
  refine wpAny_Call_method_late hbase hfew hline rfl (thn (ho pins s σ H _ I h) fun v s1 ⟨x, H1, I1, r1, ty, q1⟩ => ?_)
  obtain ⟨h1, h2⟩ := tyV_is I1 r1 ty
  refine ⟨T, id, pa, slot, hty, h1, h2, ?_⟩
  have hA := ha cpos pins s1 σ H1 _ I1 q1
  rw [hs] at hA ⊢
  refine Calls.callWith_builtin (by show (false || (backTo cpos (starEach es X.env)).any (·.1)) = false; rw [hplain] <;> rfl) (Calls.evalArgs_plain ?_)
  exact thn hA fun us s2 ⟨vs, H2, I2, r2, q2⟩ => hm pins s2 σ H2 x vs v us Q I2 r1 r2 q2
/- xs.append(e), list.index on a module's tuple .. are MtR facts of 06m -/
end
end L2

namespace L2
open PySem PySem.Spec PyProof.Rows

def MtM (X : Cx) (id : String) (r : V → List V → Hp → VK → Prop) : Prop :=
  ∀ (pins : List (Addr × Obj)) (s : Shared) (σ : St) (H : Hp) (x : V) (xs : List V) (v : Value) (us : List Value) (Q : VK), Inv X pins σ H s → RelV x v → Vals xs us → r x xs H Q →
    wpAny (model X.prog X.w) X.A (call (.builtin id) (v :: us)) (EP X pins σ Q) X.xe s

/-! ### lists of values -/
theorem Vals.one : ∀ {x : V} {us : List Value}, Vals [x] us → ∃ u, us = [u] ∧ RelV x u
  | _, _, .cons r .nil => ⟨_, rfl, r⟩
theorem Vals.two : ∀ {x y : V} {us : List Value}, Vals [x, y] us → ∃ u v, us = [u, v] ∧ RelV x u ∧ RelV y v
  | _, _, _, .cons r (.cons q .nil) => ⟨_, _, rfl, r, q⟩
theorem Vals.zero : ∀ {us : List Value}, Vals [] us → us = []
  | _, .nil => rfl
theorem Vals.dropLast {xs : List V} {us : List Value} (h : Vals xs us) : Vals xs.dropLast us.dropLast := by
  induction h with
  | nil => exact .nil
  | cons r t ih =>
    cases t with
    | nil => exact .nil
    | cons q t' => exact .cons r ih
theorem Vals.eraseIdx : ∀ {xs : List V} {us : List Value} (i : Nat), Vals xs us → Vals (xs.eraseIdx i) (us.eraseIdx i)
  | _, _, _, .nil => .nil
  | _, _, 0, .cons _ t => t
  | _, _, i + 1, .cons r t => .cons r (Vals.eraseIdx i t)
theorem Vals.reverse {xs : List V} {us : List Value} (h : Vals xs us) : Vals xs.reverse us.reverse := by
  induction h with
  | nil => exact .nil
  | cons r t ih => rw [List.reverse_cons, List.reverse_cons]; exact Vals.append ih (.cons r .nil)
theorem Vals.rep {xs : List V} {us : List Value} (h : Vals xs us) : ∀ k : Nat, Vals (List.replicate k xs).flatten (List.replicate k us).flatten
  | 0 => .nil
  | k + 1 => by
    rw [List.replicate_succ, List.replicate_succ, List.flatten_cons, List.flatten_cons]
    exact Vals.append h (Vals.rep h k)
theorem erase_last {α : Type} (l : List α) : l.eraseIdx (l.length - 1) = l.dropLast := by
  induction l with
  | nil => rfl
  | cons a r ih =>
    cases r with
    | nil => rfl
    | cons b r =>
      have e : (a :: b :: r).length - 1 = ((b :: r).length - 1) + 1 := by
        have h1 : (a :: b :: r).length = r.length + 2 := rfl
        have h2 : (b :: r).length = r.length + 1 := rfl
        omega
      rw [e, List.eraseIdx_cons_succ, ih]
      all_goals rfl
theorem foldl_rep (its : List Value) : ∀ (k : Nat) (acc : List Value),
    List.foldl (fun x1 x2 => x1 ++ x2) acc.toArray (List.replicate k its.toArray) = (acc ++ (List.replicate k its).flatten).toArray
  | 0, acc => by simp
  | k + 1, acc => by
    have e : acc.toArray ++ its.toArray = (acc ++ its).toArray := by simp
    have e2 : (acc ++ its) ++ (List.replicate k its).flatten = acc ++ (List.replicate (k + 1) its).flatten := by
      rw [List.replicate_succ, List.flatten_cons, List.append_assoc]
    rw [← e2, ← foldl_rep its k (acc ++ its), ← e, List.replicate_succ, List.foldl_cons]

section
variable {X : Cx} {pins : List (Addr × Obj)} {σ : St} {H : Hp} {s : Shared} {l b : Addr} {xs ys zs : List V}

/-! ### the two steps: a tracked list is rewritten, a new list is laid -/
theorem Inv.lset {its its' : List Value} {n : Nat} {f : Array Value → Array Value} {t' : Nat} (I : Inv X pins σ H s) (hH : H l = some (.lst xs))
    (e : s.heap.get? l = some { cls := .type "list", data := .seq its.toArray n }) (hf : f its.toArray = its'.toArray) (hv : Vals ys its') (hz : ys.length ≤ sizeLine) :
    Inv X pins σ (upd H l (.lst ys)) { s with heap := s.heap.update l (Obj.mapSeq f), toks := t' } := by
  have q := PySem.IsL.update e f
  rw [hf] at q
  refine I.write (x := l) (e := l) (by rw [hH]; exact trivial) (.inl rfl) (fun b' u hb hu => (Heap.get?_update_other s.heap (Obj.mapSeq f) (Ne.symm hb)).trans hu) ⟨_, q⟩ ?_
  exact ⟨hz, its', _, hv, q⟩
theorem Inv.lnew {its : List Value} {t' : Nat} (I : Inv X pins σ H s) (hv : Vals ys its) (hz : ys.length ≤ sizeLine) :
    Inv X pins σ (upd H s.heap.objs.size (.lst ys)) { s with heap := s.heap.push { cls := .type "list", data := .seq its.toArray }, toks := t' } :=
  I.laid (fun _ _ q => Heap.get?_push_of_some _ q) (Nat.le_refl _) ⟨hz, its, 0, hv, Heap.get?_push_size _ rfl⟩
theorem Inv.fresh (I : Inv X pins σ H s) : H s.heap.objs.size = none := I.hok.fresh (Nat.le_refl _)
theorem Inv.lstM (I : Inv X pins σ H s) (hH : H l = some (.lst xs)) : xs.length ≤ sizeLine ∧ ∃ (its : List Value) (n : Nat), Vals xs its ∧ xs.length = its.length ∧ s.heap.get? l = some { cls := .type "list", data := .seq its.toArray n } := by
  obtain ⟨z, its, n, r, e⟩ := I.hok l _ hH
  exact ⟨z, its, n, r, r.length, e⟩

theorem notLongL {n : Nat} (h : n ≤ sizeLine) : Builtin.List.listTooLong n = false := by
  unfold Builtin.List.listTooLong
  exact decide_eq_false (by omega)
end

section
variable {X : Cx}

/-! ### methods -/
def rAppend : V → List V → Hp → VK → Prop := fun x vs H Q => ∃ l xs y, x = .ref l ∧ vs = [y] ∧ H l = some (.lst xs) ∧ xs.length < sizeLine ∧ Q .non (upd H l (.lst (xs ++ [y])))
theorem mt_append : MtM X "list.append" rAppend := by
  intro pins s σ H x vs v us Q I rx rv h
  obtain ⟨l, xs, y, rfl, rfl, hH, hz, q⟩ := h
  cases rx
  obtain ⟨u, rfl, ru⟩ := rv.one
  obtain ⟨z, its, n, r, hl, e⟩ := I.lstM hH
  refine call_meets F.slot_list_append ⟨_, e, rfl⟩ F.entry_list_append (F.args_list_append_2 _ _) (PySem.list_append l its.toArray n u (by rw [List.size_toArray]; omega)) ⟨e, ?_⟩
  refine ⟨.non, _, I.lset (its' := its ++ [u]) hH e (by simp) (r.append (.cons ru .nil)) ?_, rfl, q⟩
  rw [List.length_append, List.length_singleton]
  omega

def rPop : V → List V → Hp → VK → Prop := fun x vs H Q => ∃ l xs y, x = .ref l ∧ vs = [] ∧ H l = some (.lst xs) ∧ xs[xs.length - 1]? = some y ∧ Q y (upd H l (.lst xs.dropLast))
theorem mt_pop : MtM X "list.pop" rPop := by
  intro pins s σ H x vs v us Q I rx rv h
  obtain ⟨l, xs, y, rfl, rfl, hH, hy, q⟩ := h
  cases rx
  have hus := rv.zero
  subst hus
  obtain ⟨z, its, n, r, hl, e⟩ := I.lstM hH
  obtain ⟨u, hu, ru⟩ := r.get hy
  have hy' : its.toArray[its.toArray.size - 1]? = some u := by
    show its.toArray[its.length - 1]? = some u
    rw [← Array.getElem?_toList, ← hl]
    exact hu
  refine call_meets F.slot_list_pop ⟨_, e, rfl⟩ F.entry_list_pop (F.args_list_pop_1 _) (MeetsSeq.list_pop_last l its.toArray n u hy' (by rw [List.size_toArray]; omega)) ⟨e, ?_⟩
  refine ⟨y, _, I.lset (its' := its.dropLast) hH e ?_ r.dropLast ?_, ru, q⟩
  · show its.toArray.eraseIdxIfInBounds (its.toArray.size - 1) = its.dropLast.toArray
    rw [List.size_toArray, List.eraseIdxIfInBounds_toArray, erase_last]
  · rw [List.length_dropLast]
    omega

/-! ### list + list, list += list, list * int -/
def rCat : R2 := fun x y H Q => ∃ l b xs zs, x = .ref l ∧ y = .ref b ∧ H l = some (.lst xs) ∧ H b = some (.lst zs) ∧ xs.length + zs.length ≤ sizeLine ∧ ∀ p, H p = none → Q (.ref p) (upd H p (.lst (xs ++ zs)))
theorem op_cat : OpR X (binaryOp .Add) rCat := by
  intro pins s σ H x y v u Q I rx ry h
  obtain ⟨l, b, xs, zs, rfl, rfl, hH, hB, hz, q⟩ := h
  cases rx
  cases ry
  obtain ⟨z, its, n, r, hl, e⟩ := I.lstM hH
  obtain ⟨z2, its2, n2, r2, hl2, e2⟩ := I.lstM hB
  refine PySem.P.add_list e e2 ?_ (by rw [List.size_toArray, List.size_toArray]; omega)
  have ea : its.toArray ++ its2.toArray = (its ++ its2).toArray := by simp
  rw [ea]
  exact ⟨.ref _, _, I.lnew (t' := s.toks) (r.append r2) (by rw [List.length_append]; omega), rfl, q _ I.fresh⟩
/-- a list times an int (a negative one is nothing) -/
def rRep : R2 := fun x y H Q => ∃ l k xs, x = .ref l ∧ y = .int k ∧ H l = some (.lst xs) ∧ -(2 ^ 63) ≤ k ∧ k < 2 ^ 63 ∧ xs.length * k.toNat ≤ sizeLine ∧
  ∀ p, H p = none → Q (.ref p) (upd H p (.lst (List.replicate k.toNat xs).flatten))
theorem len_rep {α : Type} (xs : List α) (k : Nat) : (List.replicate k xs).flatten.length = k * xs.length := by
  induction k with
  | zero => simp
  | succ k ih => rw [List.replicate_succ, List.flatten_cons, List.length_append, ih, Nat.succ_mul, Nat.add_comm]
theorem op_rep : OpR X (binaryOp .Mult) rRep := by
  intro pins s σ H x y v u Q I rx ry h
  obtain ⟨l, k, xs, rfl, rfl, hH, h1, h2, hz, q⟩ := h
  cases rx
  obtain ⟨t, rfl⟩ := ry
  obtain ⟨z, its, n, r, hl, e⟩ := I.lstM hH
  have hlen : its.toArray.size * k.toNat ≤ sizeLine := by rw [List.size_toArray, ← hl]; exact hz
  have hcap : ¬ its.toArray.size * k.toNat > (2 ^ 63 - 1) / 8 := by
    have : (sizeLine : Nat) ≤ (2 ^ 63 - 1) / 8 := by decide
    omega
  have hfit : ¬ (!Builtin.List.listFitsIndex k) = true := by
    rw [fitsIndex_both h1 h2]
    exact Bool.false_ne_true
  have hlong : ¬ Builtin.List.listTooLong (its.toArray.size * k.toNat) = true := by
    rw [notLongL hlen]
    exact Bool.false_ne_true
  have hnew : List.foldl (fun x1 x2 => x1 ++ x2) #[] (List.replicate (if its.toArray.isEmpty = true then 0 else k.toNat) its.toArray) = (List.replicate k.toNat its).flatten.toArray := by
    have f0 : ∀ m : Nat, List.foldl (fun x1 x2 => x1 ++ x2) #[] (List.replicate m its.toArray) = (List.replicate m its).flatten.toArray := fun m => by
      have := foldl_rep its m []
      rw [List.nil_append] at this
      exact this
    rw [f0]
    cases its with
    | nil => simp
    | cons a r' => rw [if_neg (by simp)]
  refine wpAny_binaryOp_repeat_ref (T := "list") (U := "int") (by decide) ⟨_, e, rfl⟩ (fun s' => typeIs_int s' k t) noFill_list_mul F.fills_int_mul F.slot_int_rmul repeat_list F.slot_int_index.lookup
    (call_meets F.slot_int_rmul (typeIs_int s k t) F.entry_int_rmul (F.args_int_rmul_2 _ _) (int___rmul___int_list k t l its.toArray n)
      ⟨e, rfl, ⟨_, e, rfl⟩, call_meets F.slot_list_mul ⟨_, e, rfl⟩ F.entry_list_mul (F.args_list_mul_2 _ _) (AutoListH.list___mul___list_int_3 l its.toArray n k t hfit hcap hlong) ⟨e, ?_⟩⟩)
  rw [hnew]
  exact ⟨.ref _, _, I.lnew (t' := s.toks) (r.rep k.toNat) (by rw [len_rep, Nat.mul_comm]; exact hz), rfl, q _ I.fresh⟩

/-! ### del xs[i] -/
end

/-! ### xs[a:b] = ys -/
section
variable {prog : Program} {w : World} {A : Around} {E : Value → Shared → Prop} {s : Shared}
end

section
variable {X : Cx}
end
end L2

namespace Att
open PySem PySem.W PySem.Calls PyProof.Rows

/-! ### the script -/
theorem ints_of_wellAll {P : Params} {h : Heap} : ∀ (ns : List Int) (vs : List Value), WellAll P h vs (ns.map WData.int) → IntsAre vs ns := by
  intro ns
  induction ns with
  | nil =>
    intro vs w
    rw [List.map_nil] at w
    cases w
    exact .nil
  | cons n ns ih =>
    intro vs w
    rw [List.map_cons] at w
    cases w with
    | cons a b =>
      cases a
      exact .cons _ _ (ih _ b)

theorem script_of {l : OpenLaw} {n : Nat} (hn : l.most = some n) {P : Params} {h : Heap} {args : List WData} {vals : List Value}
    (hpre : l.row.toRowW.claim.pre args = true) (hwl : WellAll P h vals args) :
    ∃ a vs ns, vals = [Value.ref a] ∧ args = [WData.list (ns.map WData.int)] ∧ h.get? a = some { cls := .type "list", data := .seq vs.toArray } ∧ IntsAre vs ns ∧ ns.length ≤ n := by
  have hsh : WShape.hasAll [] args [.list .int] = true := (pre_splitW hpre).1
  have hc : l.pre.holds [] { args := args } = true := (pre_splitW hpre).2
  obtain ⟨d, r, rfl, h1, h2⟩ := hasAllW_cons hsh
  obtain rfl := hasAllW_nil h2
  obtain ⟨xs, rfl, h3⟩ := hasW_list h1
  obtain ⟨ns, rfl⟩ := items_int h3
  have hlen : ns.length ≤ n := by
    unfold OpenLaw.pre at hc
    have h4 : (WTm.not (.lt (.lit (.int (n : Int))) (.len (.arg 0)))).holds [] { args := [.list (ns.map .int)] } = true := by
      have h4 := (holds_andW hc).1
      rw [hn] at h4
      exact h4
    have h5 := condW_of h4 (w_not (w_lt w_lit (w_len_list (w_arg rfl))))
    rw [List.length_map] at h5
    refine Nat.le_of_not_lt fun q => ?_
    have q' : (n : Int) < ((ns.length : Nat) : Int) := by omega
    first
      | (rw [decide_eq_true q'] at h5; exact absurd h5 (by decide))
      | (simp at h5; omega)
  cases hwl with
  | cons w1 w2 =>
    cases w2
    cases w1 with
    | list ho hall => exact ⟨_, _, ns, rfl, rfl, ho, ints_of_wellAll ns _ hall, hlen⟩

theorem post_true (l : OpenLaw) (args : List WData) : l.row.toRowW.claim.post args (.bool true) args = true :=
  postW_of (r := l.row.toRowW) (X := (true == true))
    (show WShape.has [] (.bool true) .bool = true by first | rfl | decide | simp [WShape.has, WShape.arms, WShape.armsAll])
    (show (WTm.eq .res (.lit (.bool true))).value [] { args := args, res := some (.bool true), after := args } = some (.bool (true == true)) from w_eq_bool (w_res rfl) w_lit) rfl

/-! ### the attachment: holds_open's last premise (the goal 'hc' behind k_head) from a wpAny of the law's body -/
/-- the same from a codeAny of the CALL (for a layer whose function contracts speak of calls) -/
theorem attach_call {l : OpenLaw} {n : Nat} {q : Program} {loose : List Str} {XP : (Str → Option Value) → Heap → Prop} {YP : World → Heap → Prop} {d : DefRec}
    (hn : l.most = some n) (hdf : d.params.defaults = [])
    (call : ∀ (w : World) (s₀ s₁ : Shared) (mg mb : Str → Option Value) (fa : Addr) (o : Obj) (pm cd doc : Value) (a : Addr) (vs : List Value) (ns : List Int),
      Ground q loose [] XP w s₀ mg mb s₁.heap → YP w s₁.heap →
      s₁.heap.get? fa = some o → o.data = .func (docDef d.name d.params d.body d.scope pm cd doc) → s₁.heap.CodeRec cd d.name → mg d.name = some (.ref fa) →
      s₁.heap.get? a = some { cls := .type "list", data := .seq vs.toArray } → IntsAre vs ns → ns.length ≤ n → s₁.gens = #[] →
      codeAny (model l.prog w) callerA (.call (.ref fa) ⟨[.ref a], []⟩) (fun r s' => r = .ok (.ret (.bool true)) ∧ OldK s₁.heap s'.heap ∧ s'.os = s₁.os ∧ AllBare s'.gens) s₁) :
    WalkO q loose XP YP l.row.toRowW d [] (fun f vs => PySem.call f vs) := by
  intro w s₀ s₁ mg mb G Y fa o pm cd doc dV kV ho hd hcd hD hmg hg args vals as hpre hlay hrd hwl hlo
  obtain rfl : dV = .none := Dflts.none hD hdf
  obtain rfl : kV = .none := Dflts.noKw hD
  obtain ⟨a, vs, ns, rfl, rfl, hobj, hints, hlen⟩ := script_of hn hpre hwl
  refine enter_call (codeAny_mono (call w s₀ s₁ mg mb fa o pm cd doc a vs ns G Y ho (fd_plain hd) hcd hmg hobj hints hlen hg) fun r s' hq => ?_)
  obtain ⟨rfl, h2, h3, h4⟩ := hq
  exact ⟨.inl ⟨.bool true, .bool true, [], rfl, fun _ => rfl, .bool true, post_true l _, fun _ => ⟨List.Pairwise.nil, fun _ hm => (nomatch hm)⟩⟩, h2, h3, h4⟩

/-! ### rules over ANY heap (no ledger) from facts about the written part K: the library's own take a ledger (News) for what they write -/
section
variable {prog : Program} {w : World} {A : Around} {E : Value → Shared → Prop} {s : Shared} {K : Frag}

/-! the whole heap as the ledger: makes every rule that writes through a ledger a rule over any heap -/
def ledger (h : Heap) (L d : Addr) : List (Addr × Obj) := (List.range h.objs.size).filterMap fun a => if a = L ∨ a = d then none else (h.get? a).map fun o => (a, o)
end
end Att

namespace L2
open PySem PySem.Spec PyProof.Rows

theorem vals_ints : ∀ {vs : List Value} {ns : List Int}, IntsAre vs ns → Vals (ns.map V.int) vs
  | _, _, .nil => .nil
  | _, _, .cons n t h => .cons ⟨t, rfl⟩ (vals_ints h)

/-- nothing is tracked but the script, known to the object (or it is an object of the module) -/
def Only (H : Hp) : Prop := ∀ b, H b = none ∨ ∃ o xs, H b = some (.frz o (.lst xs))

/-- THE HEAD: the law's promise, at the heap behind the top. F, the promise of the law's def, may use that base is part of the heap (so K.In base, base.Ns mainGlobals mg stand in Mod) -/
theorem law_call {P : Program} {w : World} {K : PySem.W.Frag} {mg mb : Str → Option Value} {CX : CXT} {k : Nat} {fa a : Addr} {fd : FuncData} {x : Str} {sp : Sp} {s₁ : Shared} {vs : List Value} {ns : List Int}
    (KX : K.In s₁.heap) (hns : s₁.heap.Ns mainGlobals mg) (hb : s₁.heap.Ns builtinsNs mb) (hbb : ∀ x : Str, x ≠ "__name__" → mb x = bootBuiltins x) (hlim : s₁.heap.NoLimit) (hg : s₁.gens = #[])
    (ha : s₁.heap.get? a = some { cls := .type "list", data := .seq vs.toArray }) (hi : IntsAre vs ns) (hl : ns.length ≤ sizeLine) (hr : Room k callerA)
    (F : ∀ base : Heap, K.In base → base.Ns mainGlobals mg → FnOk P w K mg base CX k fa fd [x] sp) (hbind : ∀ (s : Shared) (u : Value), BindsTo s fd ⟨[u], []⟩ [(x, u)])
    (hsp : ∀ H : Hp, Only H → SqL K H a (ns.map V.int) → sp [.ref a] H (fun v _ => v = .bl true) fun _ _ _ => False)
    (hCX : ∀ H e s', CX [] H s₁ (fun _ _ _ => False) e s' → False) :
    codeAny (model P w) callerA (.call (.ref fa) ⟨[.ref a], []⟩) (fun r s' => r = .ok (.ret (.bool true)) ∧ OldK s₁.heap s'.heap ∧ s'.os = s₁.os ∧ AllBare s'.gens) s₁ := by
  have rv := vals_ints hi
  have lenV := hi.length
  -- from an abstract heap in which nothing but the script may be tracked
  have core : ∀ H : Hp, Only H → SqL K H a (ns.map V.int) → HOk P w H s₁.heap → (∀ b, H b ≠ none → b = a) → (H a ≠ none → K.lookup a = none) →
      codeAny (model P w) callerA (.call (.ref fa) ⟨[.ref a], []⟩) (fun r s' => r = .ok (.ret (.bool true)) ∧ OldK s₁.heap s'.heap ∧ s'.os = s₁.os ∧ AllBare s'.gens) s₁ := by
    intro H hO hS hok hA hK
    have base_of : ∀ {b : Addr} {o : Obj}, s₁.heap.get? b = some o → H b = none → (hidT s₁.heap H).get? b = some o := fun e n => hidT_get e n
    have noA : ∀ {b : Addr} {o : Obj} {es : Array DictEntry} {ep : Nat}, s₁.heap.get? b = some o → o.data = .dict es ep → H b = none := fun {b o es ep} e d => by
      cases q : H b with
      | none => rfl
      | some u =>
        have e' : b = a := hA b (by rw [q]; simp)
        subst e'
        rw [ha] at e; cases e
        have d' : Data.seq vs.toArray _ = Data.dict es ep := d
        cases d'
    have nsK : ∀ {b : Addr} {m : Str → Option Value}, s₁.heap.Ns b m → (hidT s₁.heap H).Ns b m := fun {b m} ⟨o, es, ep, e, d, r⟩ => ⟨o, es, ep, base_of e (noA e d), d, r⟩
    have hKb : K.In (hidT s₁.heap H) := fun b o e => base_of (KX b o e) (by
      cases q : H b with
      | none => rfl
      | some u =>
        have e' : b = a := hA b (by rw [q]; simp)
        subst e'
        rw [hK (by rw [q]; simp)] at e; cases e)
    have hM : Mod K mg (hidT s₁.heap H) := ⟨hKb, nsK hns, ⟨mb, nsK hb, hbb⟩, let ⟨mc, h1, h2⟩ := hlim; ⟨mc, nsK h1, h2⟩⟩
    have e0 : Env0 P w K mg (hidT s₁.heap H) callerA [] s₁ H := ⟨rfl, hM, fun b o e => of_hidT e, Nat.le_of_eq (hidT_size _ _), trivial, fun b hb => absurd (show b ∈ ([] : List Addr) from hb) (by simp), hok, .of_eq hg⟩
    refine codeAny_mono ((F _ hKb (nsK hns)).run callerA [] s₁ H ⟨[.ref a], []⟩ [.ref a] [.ref a] _ _ hr e0 (hbind s₁ (.ref a)) (.cons rfl .nil) (hsp H hO hS)) fun r s' h => ?_
    cases r with
    | error e => exact (hCX H e s' h).elim
    | ok fl =>
      cases fl with
      | next => exact False.elim h
      | brk => exact False.elim h
      | cont => exact False.elim h
      | ret u =>
        obtain ⟨v, H', os, bare, un, hok', r', q⟩ := h
        have q' : v = .bl true := q
        subst q'
        obtain rfl : u = Value.bool true := r'
        refine ⟨rfl, OldK.of_keep fun b o e => ?_, os, bare⟩
        cases q : H b with
        | none => exact un.keep b o e q (by intro z; exact absurd (show b ∈ ([] : List Addr) from z) (by simp)) (by simp)
        | some u =>
          rcases hO b with z | ⟨ob, xs, z⟩
          · rw [q] at z; cases z
          · have z2 := un.frzs b ob _ z
            obtain ⟨e1, _⟩ := hok b _ z
            obtain ⟨e2, _⟩ := hok' b _ z2
            rw [e] at e1; cases e1
            exact e2
  cases hk : K.lookup a with
  | some o =>
    -- the script is one of the module's own objects
    have e := KX a o hk
    rw [ha] at e
    cases e
    refine core (fun _ => none) (fun _ => .inl rfl) (.inr ⟨_, vs.toArray, _, hk, rfl, rfl, rfl, by rw [List.size_toArray, lenV]; exact hl, by simpa using rv⟩) (fun b u z => by have z' : (none : Option HO) = some u := z; cases z') (fun b z => absurd rfl z) fun z => absurd rfl z
  | none =>
    refine core (fun b => if b = a then some (.frz { cls := .type "list", data := .seq vs.toArray } (.lst (ns.map V.int))) else none) (fun b => ?_) (.inl (.inr ⟨{ cls := .type "list", data := .seq vs.toArray }, if_pos rfl⟩)) (fun b u z => ?_) (fun b z => ?_) fun _ => hk
    · by_cases hb : b = a
      · exact .inr ⟨_, _, if_pos hb⟩
      · exact .inl (if_neg hb)
    · by_cases hb : b = a
      · have z' := (if_pos hb).symm.trans z
        cases z'
        subst hb
        exact ⟨ha, by rw [List.length_map]; exact hl, vs, _, rv, ha⟩
      · have z' := (if_neg hb).symm.trans z
        cases z'
    · by_cases hb : b = a
      · exact hb
      · exact absurd (if_neg hb) z
end L2

namespace L2
open PySem PySem.Spec PyProof.Rows

abbrev KOf {K : PySem.W.Frag} {h : Heap} (_ : K.In h) : PySem.W.Frag := K

/-- the goal that k_head leaves (case hc), from the law's promise. F gives the function object fd (K's own) once, then the promise over every base -/
theorem walk_of {l : PySem.W.OpenLaw} {n k : Nat} {q : Program} {loose : List Str} {XP : (Str → Option Value) → Heap → Prop} {YP : World → Heap → Prop} {d : DefRec} {K : Params → PySem.W.Frag} {CX : World → CXT} {sp : World → Sp} {x : Str}
    (hn : l.most = some n) (hn2 : n ≤ sizeLine) (hdf : d.params.defaults = []) (hr : Room k callerA)
    (hY : ∀ (w : World) (h : Heap), YP w h → (K w.params).In h)
    (F : ∀ (w : World) (mg : Str → Option Value) (fa : Addr) (h : Heap), (K w.params).In h → h.Ns mainGlobals mg → mg d.name = some (.ref fa) →
      ∃ fd : FuncData, (∀ (s : Shared) (u : Value), BindsTo s fd ⟨[u], []⟩ [(x, u)]) ∧
        ∀ base : Heap, (K w.params).In base → base.Ns mainGlobals mg → FnOk l.prog w (K w.params) mg base (CX w) k fa fd [x] (sp w))
    (hsp : ∀ (w : World) (H : Hp) (a : Addr) (ns : List Int), ns.length ≤ n → Only H → SqL (K w.params) H a (ns.map V.int) → sp w [.ref a] H (fun v _ => v = .bl true) fun _ _ _ => False)
    (hCX : ∀ (w : World) (H : Hp) (s : Shared) (e : Value) (s' : Shared), CX w [] H s (fun _ _ _ => False) e s' → False) :
    PySem.W.WalkO q loose XP YP l.row.toRowW d [] (fun f vs => PySem.call f vs) := by
  refine Att.attach_call hn hdf fun w s₀ s₁ mg mb fa o pm cd doc a vs ns G Y ho hd hcd hmg hobj hints hlen hg => ?_
  have KX := hY w _ Y
  obtain ⟨fd, hb, hF⟩ := F w mg fa _ KX G.T.g hmg
  exact law_call KX G.T.g G.T.b G.T.builtins G.T.nolimit hg hobj hints (Nat.le_trans hlen hn2) hr hF hb (fun H hO hS => hsp w H a ns hlen hO hS) fun H e s' => hCX w H s₁ e s'
end L2

/- THE LAST THEOREM (shape; LID, My.* are yours):
   My.Adr: a structure of the addresses that your layer names (classes, functions); My.Txt K t: a structure (Prop) of the equations over K;
   My.txt_mk : {K} {implicit addresses ..} (e1 : nsIn K mainGlobals "law" = some (some (.ref f))) (e2 : K.lookup f = some ⟨oc, od, .func (fnOf "law" "law" params body scope dV kV doc pm an cdv ct), sl⟩) (e3 : codeIn K cdv "law" = true) .. : ∃ t, My.Txt K t

set_option maxRecDepth 100000 in
set_option maxHeartbeats 0 in
theorem PySem.Challenge.cw_LID_holds : PySem.Challenge.rw_LID.Holds := by
  w_on; o_law; k_head; (case hw => w_witness2)
  k_fill
  refine L2.walk_of (l := PySem.Challenge.rw_LID) (n := 63) (k := 40) (x := "script") (CX := fun w => ..) (sp := fun _ => My.sp_law) rfl (by decide) rfl ⟨rfl, by decide, by decide⟩ (fun w h Y => PySem.W.kIn_of Y) ?F ?S ?C
  case F =>
    intro w mg fa h KX G hmg
    have T : ∃ t, My.Txt (L2.KOf KX) t := by
      dsimp only [L2.KOf]                          -- K must stand as «<heap const> w.params» for k_is
      refine' My.txt_mk ?e1 ?e2 ?e3 ..
      (case e1 => PySem.W.k_is)                    -- in the order: a name -> its address -> its object -> its parts
      (case e2 => PySem.W.k_is)
      ..
    obtain ⟨t, T⟩ := T
    have e0 := hmg.symm.trans (PySem.W.mg_of KX G T.law)
    cases e0                                       -- fa is the law's own address
    exact ⟨_, fun s u => .of_eq rfl, fun base kb nb => My.law_fn T kb nb⟩     -- if «.of_eq rfl» comes too early: refine' ⟨_, ?b, fun base kb nb => My.law_fn T kb nb⟩; exact fun s u => .of_eq rfl
  case S => exact fun w H a ns hl hO hS => ..
  case C => exact ..
(the tactic k_is has no namespace: write k_is) -/

/-! SHORT WORDS over the layer: a def of the text, its body, what a loop and a test want. -/
namespace L2
open PySem PySem.Spec PyProof.Rows

/-! ### the text by places -/
def defArgs (s : Stmt) : Arguments := match s with
  | .FunctionDef _ a _ _ _ _ _ _ _ _ => a
  | _ => { posonlyargs := [], args := [], vararg := none, kwonlyargs := [], kw_defaults := [], kwarg := none, defaults := [] }
def defBody (s : Stmt) : List Stmt := match s with
  | .FunctionDef _ _ b _ _ _ _ _ _ _ => b
  | _ => []
def defScope (s : Stmt) : Scope := match s with
  | .FunctionDef _ _ _ _ _ _ sc _ _ _ => sc
  | _ => { kind := .function, names := [], isGenerator := false, isCoroutine := false }

/-! ### no exception leaves a def -/
abbrev CX0 : CXT := fun _ _ _ _ _ _ => False
abbrev E0 : XK := fun _ _ _ => False
theorem pass0 {X : Cx} : Passes CX0 X E0 := fun _ _ _ _ _ _ _ h => h.elim

/-! ### a def (or method) of the text as it stands behind the top -/
structure Fun (K : PySem.W.Frag) (x qual : Str) (st : Stmt) (f : Addr) (fd : FuncData) : Prop where
  ex : ∃ (oc : Value) (od : Option Addr) (kV doc pm : Value) (an : Option Addr) (cdv ct : Value) (osl : Array (Option Value)),
    fd = PySem.W.fnOf x qual (defArgs st) (defBody st) (defScope st) .none kV doc pm an cdv ct ∧ K.lookup f = some ⟨oc, od, .func fd, osl⟩ ∧ PySem.W.codeIn K cdv qual = true
  kp : PySem.W.keepIn K (.ref f) = true
section
variable {P : Program} {w : World} {K : PySem.W.Frag} {mg : Str → Option Value} {base : Heap}
/-- THE RULE for a def: its body as a term of rules, and the reading of that term -/
theorem Fun.ok {x qual : Str} {st : Stmt} {f : Addr} {fd : FuncData} {N ps : List Str} {k : Nat} {sp : Sp} (F : Fun K x qual st f fd) (S : FnScope N ps (defScope st)) (len : ∀ vs H Q E, sp vs H Q E → vs.length = ps.length)
    (hbody : ∀ (cdv : Value) (A : Around) (outer : List Env) (s : Shared) (H : Hp) (vs : List V) (Q : VK) (E : XK), Room k (A.deeper (envOfC qual (defScope st) s.heap.objs.size f cdv)) → sp vs H Q E →
      ∃ t, PSs (cxOf CX0 P w K mg base N qual (defScope st) f cdv A outer s H E).nox (defBody st) t ∧ t { nx := fun _ H' => Q .non H', rt := Q } (start N vs) H) : FnOk P w K mg base CX0 (k + 1) f fd ps sp := by
  obtain ⟨oc, od, kV, doc, pm, an, cdv, ct, osl, rfl, lk, hcd⟩ := F.ex
  refine fn_of lk hcd S len fun A outer s H vs Q E hr hsp => ?_
  obtain ⟨t, h, q⟩ := hbody cdv A outer s H vs Q E hr hsp
  exact ⟨t, h.nox, q⟩
/-- how its arguments bind (no defaults): h is «fun _ _ _ _ _ _ us hl => match us, hl with | [_, _], _ => rfl», one _ a parameter -/
theorem Fun.binds {x qual : Str} {st : Stmt} {f : Addr} {fd : FuncData} {ps : List Str} (F : Fun K x qual st f fd)
    (h : ∀ (kV doc pm : Value) (an : Option Addr) (cdv ct : Value) (us : List Value), us.length = ps.length → bindArgs (PySem.W.fnOf x qual (defArgs st) (defBody st) (defScope st) .none kV doc pm an cdv ct) ⟨us, []⟩ = pure (ps.zip us)) : Binds K fd ps [] := by
  obtain ⟨oc, od, kV, doc, pm, an, cdv, ct, osl, rfl, lk, hcd⟩ := F.ex
  exact .all (h kV doc pm an cdv ct)
theorem fun_mk {x qual : Str} {st : Stmt} {f : Addr} {oc : Value} {od an : Option Addr} {osl : Array (Option Value)} {kV doc pm cdv ct : Value} (l : K.lookup f = some ⟨oc, od, .func (PySem.W.fnOf x qual (defArgs st) (defBody st) (defScope st) .none kV doc pm an cdv ct), osl⟩)
    (c : PySem.W.codeIn K cdv qual = true) (k : PySem.W.keepIn K (.ref f) = true) : Fun K x qual st f (PySem.W.fnOf x qual (defArgs st) (defBody st) (defScope st) .none kV doc pm an cdv ct) := ⟨⟨oc, od, kV, doc, pm, an, cdv, ct, osl, rfl, l, c⟩, k⟩
end
theorem small1000 {n : Nat} (h : n ≤ 1000) : n < sizeLine := Nat.lt_of_le_of_lt h (by decide)

/-! ### expressions in short: the name that stands in the i-th slot -/
section
variable {X : Cx}
theorem pv (i : Nat) {x : Str} {pos : Pos} (hN : X.N[i]? = some x := by rfl) (hv : Vis X.env.scope x := by first | exact Or.inl rfl | exact Or.inr (Or.inl rfl) | exact Or.inr (Or.inr rfl)) (hd : (x == ("__debug__" : Str)) = false := by decide)
    (hcd : (x == ("__classdict__" : Str)) = false := by decide) : PE X (.Name x pos) (tVar i) := pe_var hN hv hd hcd
end

/-! ### tests -/
theorem iteF {A B : Prop} (h : B) : if false = true then A else B := by
  rw [if_neg Bool.false_ne_true]
  exact h
theorem iteT {A B : Prop} (h : A) : if true = true then A else B := by
  rw [if_pos rfl]
  exact h
theorem ite2 {c A B : Prop} [Decidable c] (h1 : c → A) (h2 : ¬ c → B) : if c then A else B := by
  by_cases h : c
  · rw [if_pos h]
    exact h1 h
  · rw [if_neg h]
    exact h2 h
theorem iteNS {c A B : Prop} [Decidable c] (hc : c) (h : B) : if (!decide c) = true then A else B := by
  rw [decide_eq_true hc]
  exact iteF h

/-! ### heaps -/
/-- all that was tracked is as it was -/
def Same (H H' : Hp) : Prop := ∀ b o, H b = some o → H' b = some o
theorem Same.refl (H : Hp) : Same H H := fun _ _ h => h
theorem Same.trans {H H1 H2 : Hp} (a : Same H H1) (b : Same H1 H2) : Same H H2 := fun c o h => b c o (a c o h)
theorem Same.free {H H' : Hp} (e : Same H H') {l : Addr} (h : H' l = Option.none) : H l = Option.none := by
  cases q : H l with
  | none => rfl
  | some o =>
    rw [e l o q] at h
    cases h
theorem Same.seq {K : PySem.W.Frag} {H H' : Hp} {a : Addr} {xs : List V} (e : Same H H') (h : SqL K H a xs) : SqL K H' a xs := by
  rcases h with (h | ⟨o, h⟩) | h
  · exact .inl (.inl (e _ _ h))
  · exact .inl (.inr ⟨o, e _ _ h⟩)
  · exact .inr h

end L2

section
set_option Elab.async false
set_option linter.all false
set_option maxRecDepth 100000
/-! A list comprehension of one clause, in the hand layer. -/
namespace L2.Bw
open PySem PySem.Spec PyProof.Rows

/-! ### the cells that a block is handed -/
def clOf (env : Env) : List (Str × NameKind) → List (Str × Addr) → List (Str × Addr)
  | [], cs => cs
  | y :: r, cs => clOf env r (if (y.2 == NameKind.free) = true then (match env.cells.lookup y.1 with | some a => (y.1, a) :: cs | none => cs) else cs)
theorem lookup_of_mem {β : Type} : ∀ {l : List (Str × β)} {p : Str × β}, p ∈ l → ∃ c, l.lookup p.1 = some c
  | [], _, h => nomatch h
  | (a, b) :: r, p, h => by
    cases e : p.1 == a with
    | true => exact ⟨b, by simp only [List.lookup_cons, e]⟩
    | false =>
      rcases List.mem_cons.mp h with q | q
      · subst q; simp at e
      · obtain ⟨c, hc⟩ := lookup_of_mem q
        exact ⟨c, by simp only [List.lookup_cons, e]; exact hc⟩
theorem clOf_sub {env : Env} : ∀ {ns : List (Str × NameKind)} {cs : List (Str × Addr)} {p : Str × Addr}, p ∈ clOf env ns cs → p ∈ cs ∨ env.cells.lookup p.1 = some p.2
  | [], _, _, h => .inl h
  | y :: r, cs, p, h => by
    rcases clOf_sub (ns := r) h with q | q
    · by_cases hk : (y.2 == NameKind.free) = true
      · rw [if_pos hk] at q
        cases e : env.cells.lookup y.1 with
        | none => rw [e] at q; exact .inl q
        | some a =>
          rw [e] at q
          rcases List.mem_cons.mp q with rfl | q
          · exact .inr e
          · exact .inl q
      · rw [if_neg hk] at q; exact .inl q
    · exact .inr q
theorem clOf_keep {env : Env} : ∀ {ns : List (Str × NameKind)} {cs : List (Str × Addr)} {p : Str × Addr}, p ∈ cs → p ∈ clOf env ns cs
  | [], _, _, h => h
  | y :: r, cs, p, h => by
    refine clOf_keep (ns := r) ?_
    by_cases hk : (y.2 == NameKind.free) = true
    · rw [if_pos hk]
      cases e : env.cells.lookup y.1 with
      | none => exact h
      | some a => exact List.mem_cons_of_mem _ h
    · rw [if_neg hk]; exact h
theorem clOf_has {env : Env} : ∀ {ns : List (Str × NameKind)} {cs : List (Str × Addr)} {y : Str × NameKind} {c : Addr}, y ∈ ns → y.2 = .free → env.cells.lookup y.1 = some c → (y.1, c) ∈ clOf env ns cs
  | z :: r, cs, y, c, h, hf, hc => by
    rcases List.mem_cons.mp h with rfl | h
    · refine clOf_keep (ns := r) ?_
      rw [if_pos (by rw [hf]; rfl), hc]
      exact List.mem_cons_self
    · exact clOf_has (ns := r) h hf hc
theorem closure_go {env : Env} {f : (Str × NameKind) → List (Str × Addr) → Sem (ForInStep (List (Str × Addr)))}
    (hf : ∀ y cs, f y cs = if (y.2 == NameKind.free) = true then (do let a ← cellOf env y.1; pure (ForInStep.yield ((y.1, a) :: cs))) else pure (ForInStep.yield cs)) :
    ∀ (ns : List (Str × NameKind)) (cs : List (Str × Addr)), (∀ y ∈ ns, y.2 = .free → ∃ c, env.cells.lookup y.1 = some c) → (forIn ns cs f : Sem _) = pure (clOf env ns cs)
  | [], cs, _ => rfl
  | y :: r, cs, h => by
    rw [List.forIn_cons, hf]
    by_cases hk : (y.2 == NameKind.free) = true
    · obtain ⟨c, hc⟩ := h y List.mem_cons_self (by simpa using hk)
      have e1 : cellOf env y.1 = pure c := by unfold cellOf; rw [hc]
      rw [if_pos hk, e1]
      have ih := closure_go hf r ((y.1, c) :: cs) fun z hz => h z (List.mem_cons_of_mem _ hz)
      show (forIn r ((y.1, c) :: cs) f : Sem _) = pure (clOf env r _)
      rw [ih, if_pos hk, hc]
    · have ih := closure_go hf r cs fun z hz => h z (List.mem_cons_of_mem _ hz)
      rw [if_neg hk]
      show (forIn r cs f : Sem _) = pure (clOf env r _)
      rw [ih, if_neg hk]
theorem closure_eq {env : Env} {sc : Scope} (h : ∀ y ∈ sc.names, y.2 = .free → ∃ c, env.cells.lookup y.1 = some c) : closureFor sc env = pure (clOf env sc.names []) := by
  simp only [closureFor]
  rw [closure_go (env := env) (fun y cs => by obtain ⟨n, kd⟩ := y; by_cases hk : (kd == NameKind.free) = true <;> simp [hk]) sc.names [] h]
  rfl

/-! ### the block's context -/
def cxC (X : Cx) (N : List Str) (sc : Scope) (C : Addr) (s : Shared) (H : Hp) (fp : List Addr) : Cx where
  prog := X.prog
  w := X.w
  K := X.K
  mg := X.mg
  base := X.base
  A := X.A
  N := N
  s₀ := s
  H₀ := H
  env := compEnvC sc (clOf X.env sc.names []) C X.env
  outer := X.stack
  stack := X.stack
  ex := fp
  fn := fun _ => false
  calm := X.calm
  pn := []
  xe := fun _ _ => False
def oldOk (sc : Scope) (env : Env) (p : Str × Str) : Bool := match (relabel sc env).names.lookup p.1 with
  | some .local => false
  | some .cell => p.1 == p.2
  | some .free => p.1 == p.2
  | _ => true
/-- what the block's names want: k own ones ahead of the def's (those that the block hides renamed) -/
structure Lc (X : Cx) (sc : Scope) (k : Nat) (N : List Str) : Prop where
  nocell : ∀ y ∈ sc.names, y.2 ≠ .cell
  kind : sc.kind = .function
  names : ∀ y ∈ sc.names, y.2 = .local → sc.names.lookup y.1 = some .local
  fr : ∀ y ∈ sc.names, y.2 = .free → X.env.kindOf y.1 = some .cell ∨ X.env.kindOf y.1 = some .free
  len : N.length = k + X.N.length
  old : ((N.drop k).zip X.N).all (oldOk sc X.env) = true
theorem lc_mk {X : Cx} {sc : Scope} {k : Nat} {N : List Str} (h1 : (sc.names.all fun y => y.2 != .cell) = true) (h2 : sc.kind = .function) (h3 : (sc.names.all fun y => y.2 != .local || sc.names.lookup y.1 == some .local) = true)
    (h4 : (sc.names.all fun y => y.2 != .free || (X.env.kindOf y.1 == some .cell || X.env.kindOf y.1 == some .free)) = true) (h5 : N.length = k + X.N.length) (h6 : ((N.drop k).zip X.N).all (oldOk sc X.env) = true) : Lc X sc k N where
  nocell := fun y hy => by have := List.all_eq_true.mp h1 y hy; simpa using this
  kind := h2
  names := fun y hy hl => by have := List.all_eq_true.mp h3 y hy; simpa [hl] using this
  fr := fun y hy hl => by have := List.all_eq_true.mp h4 y hy; simpa [hl] using this
  len := h5
  old := h6
section
variable {X : Cx} {sc : Scope} {k : Nat} {N : List Str} {pins : List (Addr × Obj)} {σ : St} {H : Hp} {s : Shared} {fp : List Addr}
theorem Lc.cells (L : Lc X sc k N) (ok : X.Ok) : ∀ y ∈ sc.names, y.2 = .free → ∃ c, X.env.cells.lookup y.1 = some c := fun y hy hf => ok.has y.1 (L.fr y hy hf)
theorem cl_in {x : Str} {c : Addr} (e : (clOf X.env sc.names []).lookup x = some c) : X.env.cells.lookup x = some c := by
  rcases clOf_sub (PySem.mem_of_lookup e) with q | q
  · exact nomatch q
  · exact q
theorem caught_free (L : Lc X sc k N) {x : Str} {kd : NameKind} (e : (relabel sc X.env).names.lookup x = some kd) (hk : kd = .cell ∨ kd = .free) : (x, NameKind.free) ∈ sc.names := by
  have hm := PySem.mem_of_lookup e
  obtain ⟨⟨n, k'⟩, hy, q⟩ := List.mem_map.mp hm
  dsimp only at q
  by_cases hc : (k' == NameKind.free && X.env.scope.kind == .function && X.env.kindOf n == some .cell) = true
  · rw [if_pos hc] at q
    have e1 : n = x := congrArg Prod.fst q
    have e2 : k' = .free := by simp at hc; exact hc.1.1
    subst e1 e2
    exact hy
  · rw [if_neg hc] at q
    have e1 : n = x := congrArg Prod.fst q
    have e2 : k' = kd := congrArg Prod.snd q
    subst e1 e2
    rcases hk with rfl | rfl
    · exact absurd rfl (L.nocell _ hy)
    · exact hy
theorem caught_at (L : Lc X sc k N) {i : Nat} {x : Str} (hi : N[i]? = some x) (hk : k ≤ i) (v : Vis (relabel sc X.env) x) : X.N[i - k]? = some x ∧ (x, NameKind.free) ∈ sc.names := by
  have hlt : i < N.length := (List.getElem?_eq_some_iff.mp hi).1
  have hl := L.len
  have h2 : i - k < X.N.length := by omega
  have e1 : (N.drop k)[i - k]? = some x := by rw [List.getElem?_drop]; rw [show k + (i - k) = i by omega]; exact hi
  have e2 : X.N[i - k]? = some X.N[i - k] := List.getElem?_eq_getElem h2
  have hz : ((N.drop k).zip X.N)[i - k]? = some (x, X.N[i - k]) := by rw [List.getElem?_zip_eq_some]; exact ⟨e1, e2⟩
  have ho := List.all_eq_true.mp L.old _ (List.mem_of_getElem? hz)
  have v' : (relabel sc X.env).names.lookup x = some .local ∨ (relabel sc X.env).names.lookup x = some .cell ∨ (relabel sc X.env).names.lookup x = some .free := v
  unfold oldOk at ho
  rcases v' with q | q | q
  · simp only [q] at ho; cases ho
  · simp only [q] at ho
    have e3 : x = X.N[i - k] := by simpa using ho
    exact ⟨by rw [e2, ← e3], caught_free L q (.inl rfl)⟩
  · simp only [q] at ho
    have e3 : x = X.N[i - k] := by simpa using ho
    exact ⟨by rw [e2, ← e3], caught_free L q (.inr rfl)⟩
/-- the context is sound -/
theorem lc_ok (L : Lc X sc k N) (I : Inv X pins σ H s) (fo : ∀ b ∈ fp, FpOk X pins H b) (ob : ∀ b ∈ fp, ∃ o, s.heap.get? b = some o) {C : Addr} (hC : s.heap.objs.size ≤ C) : (cxC X N sc C s H fp).Ok where
  mod := I.ok.mod
  kind := L.kind
  glob := I.ok.glob
  blt := I.ok.blt
  above := hC
  inj := fun x y c h1 h2 => I.ok.inj x y c (cl_in h1) (cl_in h2)
  has := fun x hx => by
    have hx' : (relabel sc X.env).names.lookup x = some .cell ∨ (relabel sc X.env).names.lookup x = some .free := hx
    have hm : (x, NameKind.free) ∈ sc.names := by
      rcases hx' with q | q
      · exact caught_free L q (.inl rfl)
      · exact caught_free L q (.inr rfl)
    obtain ⟨c, hc⟩ := L.cells I.ok _ hm rfl
    exact lookup_of_mem (clOf_has hm rfl hc)
  cab := fun x c h _ => nomatch h
  hd := I.ok.hd
  frames := I.ok.frames
  stk := .inl rfl
  exf := fun b hb => by
    obtain ⟨o, e⟩ := ob b hb
    refine ⟨Nat.ne_of_lt (Nat.lt_of_lt_of_le (Heap.lt_size e) hC), fun x c h => (fo b hb).2.2.2.2.1 x c (cl_in h)⟩
  bs := I.bs
  bsz := Nat.le_trans I.ok.bsz I.sz
  noex := fun b o e hb => by
    rcases (fo b hb).2.2.2.1 with q | q
    · exact I.ok.noex b o e q
    · exact absurd (Nat.lt_of_lt_of_le (Heap.lt_size e) (Nat.le_trans I.ok.bsz q)) (Nat.lt_irrefl _)
  exfs := fun b hb hf => by
    rcases List.mem_cons.mp (I.stkSub b hf) with q | q
    · exact (fo b hb).2.1 q
    · exact (fo b hb).2.2.1 q
  funs := I.stack
  frf := I.stkFree
/-- the state at the block's start -/
theorem lc_start (L : Lc X sc k N) (I : Inv X pins σ H s) (fo : ∀ b ∈ fp, FpOk X pins H b) (ob : ∀ b ∈ fp, ∃ o, s.heap.get? b = some o) {C : Addr} {h' : Heap} {tk n : Nat} {m : Str → Option Value} (hC : s.heap.objs.size < C)
    (kp : ∀ b o, s.heap.get? b = some o → h'.get? b = some o) (hd : h'.get? s.heap.objs.size = some { cls := .type "list", data := .seq ([] : List Value).toArray n }) (hn : h'.Ns C m) :
    Inv (cxC X N sc C s H fp) [] (List.replicate k none ++ σ) (upd H s.heap.objs.size (.lst [])) { s with heap := h', toks := tk } := by
  have hD : H s.heap.objs.size = none := I.hok.fresh (Nat.le_refl _)
  have nofr : ∀ b, H b = none → b ≠ s.heap.objs.size → upd H s.heap.objs.size (.lst []) b = none := fun b h1 h2 => by rw [upd_ne h2]; exact h1
  have clt : ∀ x c, X.env.cells.lookup x = some c → c < s.heap.objs.size := fun x c e => by obtain ⟨v, q⟩ := I.cell x c e; exact q.lt
  have ckeep : ∀ {c : Addr} {v : Option Value}, s.heap.IsCell c v → h'.IsCell c v := fun {c v} ⟨o, e, d⟩ => ⟨o, kp c o e, d⟩
  refine ⟨lc_ok L I fo ob (Nat.le_of_lt hC), rfl, I.bare, Un.laid kp (Nat.le_refl _) hD, ⟨m, hn, fun i x v h1 h2 h3 => ?_⟩, fun x c e => ?_, ?_, fun x c e => ?_, fun p hp => absurd (show p ∈ ([] : List (Addr × Obj)) from hp) (by simp), ?_, ?_⟩
  · have hki : k ≤ i := by
      by_cases q : i < k
      · rw [List.getElem?_append_left (by simpa using q), List.getElem?_replicate, if_pos q] at h2
        cases h2
      · omega
    rw [List.getElem?_append_right (by simpa using hki), List.length_replicate] at h2
    obtain ⟨hx, hm⟩ := caught_at L h1 hki h3
    have hkx := L.fr _ hm rfl
    have hvis : Vis X.env.scope x := by
      rcases hkx with q | q
      · exact .inr (.inl q)
      · exact .inr (.inr q)
    obtain ⟨m0, _, hl⟩ := I.loc
    obtain ⟨u, r, l⟩ := hl (i - k) x v hx h2 hvis
    refine ⟨u, r, ?_⟩
    rcases l with ⟨q, _⟩ | ⟨_, c, hc, hcell⟩
    · rcases hkx with z | z
      · rw [show X.env.kindOf x = some .cell from z] at q; cases q
      · rw [show X.env.kindOf x = some .free from z] at q; cases q
    · obtain ⟨c', hc'⟩ := lookup_of_mem (clOf_has hm rfl hc)
      have e := cl_in hc'
      rw [hc] at e; cases e
      refine .inr ⟨?_, c, hc', ckeep hcell⟩
      have v' : (relabel sc X.env).names.lookup x = some .local ∨ (relabel sc X.env).names.lookup x = some .cell ∨ (relabel sc X.env).names.lookup x = some .free := h3
      rcases v' with z | z | z
      · exfalso
        have hlt : i < N.length := (List.getElem?_eq_some_iff.mp h1).1
        have hl' := L.len
        have h2' : i - k < X.N.length := by omega
        have hz : ((N.drop k).zip X.N)[i - k]? = some (x, X.N[i - k]) := by
          rw [List.getElem?_zip_eq_some]
          exact ⟨by rw [List.getElem?_drop, show k + (i - k) = i by omega]; exact h1, List.getElem?_eq_getElem h2'⟩
        have ho := List.all_eq_true.mp L.old _ (List.mem_of_getElem? hz)
        unfold oldOk at ho
        simp only [z] at ho
        cases ho
      · exact .inl z
      · exact .inr z
  · obtain ⟨v, q⟩ := I.cell x c (cl_in e)
    exact ⟨v, ckeep q⟩
  · exact nofr C (I.hok.fresh (Nat.le_of_lt hC)) (Nat.ne_of_gt hC)
  · exact nofr c (I.freeC x c (cl_in e)) (Nat.ne_of_lt (clt x c (cl_in e)))
  · exact I.hok.laid kp (Nat.le_refl _) (show ObjOk X.prog X.w _ h' _ (.lst []) from ⟨Nat.zero_le _, [], n, .nil, hd⟩)
  · show (List.replicate k none ++ σ).length = N.length
    rw [List.length_append, List.length_replicate, L.len, I.len]
/-- behind the block -/
theorem lc_end (I : Inv X pins σ H s) (fo : ∀ b ∈ fp, FpOk X pins H b) {C : Addr} {σ' : St} {H' : Hp} {s' : Shared} (J : Inv (cxC X N sc C s H fp) [] σ' H' s') : Inv X pins σ H' s' :=
  I.call' (ch := fp) J.os J.base J.hok J.bare fun b hb => let ⟨_, h1, _, h3, h4, h5⟩ := fo b hb; ⟨h3, h1, h4, h5⟩
end

/-! ### tests, the loop -/
def PTs (Y : Cx) (ifs : List Expr) (t : TT) : Prop :=
  ∀ (pins : List (Addr × Obj)) (s : Shared) (σ : St) (H : Hp) (Q : Bool → Hp → Prop), Inv Y pins σ H s → t σ H Q →
    wpAny (model Y.prog Y.w) Y.A (forIn ifs true fun c r => if r = true then do let ok ← isTrue c Y.env (eval c Y.env); pure (ForInStep.yield ok) else pure (ForInStep.yield r)) (TP Y pins σ Q) Y.xe s
def tYes : TT := fun _ H Q => Q true H
theorem pts_nil {Y : Cx} : PTs Y [] tYes := fun _ _ _ H _ I h => wpAny_tests_nil ⟨H, I, h⟩
/-- one turn's wish: W by the turn, a measure -/
def TurnW (J : It) (g : TG) (tt : TT) (te : TE) (D : Addr) (W : Nat → Nat → St → Hp → Prop) (Qe : Hp → Prop) : Prop := ∀ i m σ H, W i m σ H →
  (J.stop i H ∧ Qe H) ∨ (J.go i H ∧ ∀ x H', J.yld i H x H' → g x σ H' fun σ2 H2 => tt σ2 H2 fun b H3 =>
    if b = true then te σ2 H3 fun y H4 => ∃ ys, H4 D = some (.lst ys) ∧ ys.length < sizeLine ∧ ∃ m', m' < m ∧ W (i + 1) m' σ2 (upd H4 D (.lst (ys ++ [y])))
    else ∃ m', m' < m ∧ W (i + 1) m' σ2 H3)
theorem lc_loop {Y : Cx} {elt tg iter : Expr} {ifs : List Expr} {sc : Scope} {pos : Pos} {J : It} {fp : List Addr} {it D : Addr} {tn : Nat → Heap → Prop} {g : TG} {tt : TT} {te : TE} {W : Nat → Nat → St → Hp → Prop} {Qe : Hp → Prop}
    {R : Result → Shared → Prop} (hc : Y.calm = true) (hx : ∀ e s, Y.xe e s → False) (T : Turn Y.prog Y.w Y.K tg J fp it tn) (fo : ∀ H' : Hp, (∀ b ∈ fp, H' b = none) → ∀ b ∈ fp, FpOk Y [] H' b)
    (hg : PG Y tg g) (ht : PTs Y ifs tt) (he : PE Y elt te) (turn : TurnW J g tt te D W Qe) (hR : ∀ σ' H' s', Inv Y [] σ' H' s' → Qe H' → R (.ok .next) s')
    {σ : St} {H : Hp} {s : Shared} {m0 : Nat} (I : Inv Y [] σ H s) (st : tn 0 s.heap) (fr : ∀ b ∈ fp, H b = none) (w0 : W 0 m0 σ H) :
    codeAny (model Y.prog Y.w) Y.A (.compLoop (.ListComp elt [⟨tg, iter, ifs, 0⟩] sc pos) 0 (.ref it) (.ref D) Y.env) R s := by
  refine codeAny_loop rfl (fun n s' => ∃ i σ' H', Inv Y [] σ' H' s' ∧ tn i s'.heap ∧ (∀ b ∈ fp, H' b = none) ∧ W i n σ' H') (fun n s3 hI => ?_) m0 ⟨0, σ, H, I, st, fr, w0⟩
  obtain ⟨i, σ3, H3, I3, st3, fr3, w3⟩ := hI
  show wpAny (model Y.prog Y.w) Y.A ((compTurn (.ListComp elt [⟨tg, iter, ifs, 0⟩] sc pos) 0 (.ref it) (.ref D) Y.env).onRaise (fun x => do noteFrame x Y.env; theTreesLotGoes x)) _ _ s3
  refine wpAny_noted ?_
  rw [compTurn_list]
  refine wpAny_bind (wpAny_standAt (wpAny_bind ?_))
  rcases turn i n σ3 H3 w3 with ⟨stop, qn⟩ | ⟨go, step⟩
  · refine thn (T.done Y rfl rfl rfl hc i [] s3 σ3 H3 _ I3 (fo H3 fr3) st3 stop) fun r s4 q4 => ?_
    obtain ⟨hr, I4⟩ := q4
    subst hr
    exact wpAny_pure (hR σ3 H3 s4 I4 qn)
  · refine thn (T.item Y rfl rfl rfl hc i [] s3 σ3 H3 _ I3 (fo H3 fr3) st3 go) fun r s4 q4 => ?_
    obtain ⟨u, hr, h4⟩ := q4
    subst hr
    refine wpAny_bind (thn h4 fun _ s5 q5 => ?_)
    obtain ⟨x, H5, I5, r5, y5, st5, fr5⟩ := q5
    have I5' := I5.pinned (fo H5 fr5) (T.obj _ _ st5)
    have quit : ∀ {e : Value} {s' : Shared} {Z : Prop}, Y.xe e s' → Z := fun h => (hx _ _ h).elim
    refine wpAny_bind (wpAny_mono (hg _ s5 σ3 H5 x u _ I5' r5 (step x H5 y5)) (fun _ s6 q6 => ?_) fun _ _ e => quit e)
    obtain ⟨σ6, H6, I6, q6⟩ := q6
    have fin : ∀ {σ7 : St} {H7 : Hp} {s7 : Shared}, Inv Y ([] ++ pinsAt fp s5.heap) σ7 H7 s7 → (∃ m', m' < n ∧ W (i + 1) m' σ7 H7) → ∃ m, m < n ∧ ∃ i σ' H', Inv Y [] σ' H' s7 ∧ tn i s7.heap ∧ (∀ b ∈ fp, H' b = none) ∧ W i m σ' H' := fun {σ7 H7 s7} I7 q7 => by
      obtain ⟨m', hm, w7⟩ := q7
      refine ⟨m', hm, i + 1, σ7, H7, I7.unpinned, T.keep _ _ _ st5 fun b hb o e => (I7.pin (b, o) (List.mem_append_right _ (List.mem_append_right _ (mem_pinsAt hb e)))).1, fun b hb => ?_, w7⟩
      obtain ⟨o, e, d⟩ := T.obj _ _ st5 b hb
      exact (I7.pin (b, o) (List.mem_append_right _ (List.mem_append_right _ (mem_pinsAt hb e)))).2.1
    refine wpAny_bind (wpAny_mono (ht _ s6 σ6 H6 _ I6 q6) (fun b s7 q7 => ?_) fun _ _ e => quit e)
    obtain ⟨H7, I7, q7⟩ := q7
    cases b with
    | false =>
      rw [if_neg Bool.false_ne_true] at q7
      exact wpAny_pure ⟨rfl, fin I7 q7⟩
    | true =>
      rw [if_pos rfl] at q7
      refine wpAny_bind (wpAny_bind (wpAny_mono (he _ s7 σ6 H7 _ I7 q7) (fun v s8 q8 => ?_) fun _ _ e => quit e))
      obtain ⟨y, H8, I8, r8, ys, hD, hz, q8⟩ := q8
      refine wpAny_bind (wpAny_mono (mt_append _ s8 σ6 H8 (.ref D) [y] (.ref D) [v] (fun _ H9 => ∃ m', m' < n ∧ W (i + 1) m' σ6 H9) I8 rfl (.cons r8 .nil) ⟨D, ys, y, rfl, rfl, hD, hz, q8⟩) (fun _ s9 q9 => ?_) fun _ _ e => quit e)
      obtain ⟨_, H9, I9, _, q9⟩ := q9
      exact wpAny_pure (wpAny_pure ⟨rfl, fin I9 q9⟩)

/-! ### the rule -/
/-- the block run for a comprehension, whatever is done with its list -/
theorem lc_block {X : Cx} {sc : Scope} {k : Nat} {N : List Str} {elt tg iter : Expr} {ifs : List Expr} {pos : Pos} {g : TG} {tt : TT} {te : TE} (L : Lc X sc k N) (hc : X.calm = true)
    (hg : ∀ C s H fp, PG (cxC X N sc C s H fp) tg g) (ht : ∀ C s H fp, PTs (cxC X N sc C s H fp) ifs tt) (he : ∀ C s H fp, PE (cxC X N sc C s H fp) elt te)
    {pins : List (Addr × Obj)} {σ : St} {H : Hp} {s : Shared} {it : Addr} {fp : List Addr} {tn : Nat → Heap → Prop} {J : It} {Q : V → Hp → Prop} {E : Value → Shared → Prop} {RR : Value → Addr → Result → Shared → Prop}
    (I : Inv X pins σ H s) (T : Turn X.prog X.w X.K tg J fp it tn) (st : tn 0 s.heap) (fo : ∀ b ∈ fp, FpOk X pins H b)
    (hq : ∀ D, H D = none → ∃ W, (∃ m, W 0 m (List.replicate k none ++ σ) (upd H D (.lst []))) ∧ TurnW J g tt te D W (Q (.ref D)))
    (hRR : ∀ C σ' H' s', s.heap.objs.size < C → Inv (cxC X N sc C s H fp) [] σ' H' s' → Q (.ref s.heap.objs.size) H' → RR (.ref s.heap.objs.size) C (.ok .next) s') :
    wpAny (model X.prog X.w) X.A (newList []) (fun acc s3 => wpAny (model X.prog X.w) X.A (newFunctionEnv sc X.env.globals (clOf X.env sc.names []) [] X.env.qual none .none (some X.env)) (fun cenv s4 =>
      codeAny (model X.prog X.w) X.A (.compStart (.ListComp elt [⟨tg, iter, ifs, 0⟩] sc pos) 0 (.ref it) acc { cenv with scope := relabel sc X.env }) (RR acc cenv.locals) s4) E s3) E s := by
  refine wpAny_newObj_type (wpAny_newFunctionEnv L.nocell (by intro y hy; simp at hy) (fun h1 hns hsb => ?_) L.kind)
  dsimp only at hns hsb ⊢
  generalize hG : s.heap.push { cls := .type "list", dict := none, data := .seq ([] : List Value).toArray } = G at hns hsb ⊢
  have hC : G.objs.size = s.heap.objs.size + 1 := by rw [← hG, Heap.size_push]
  have hlt : s.heap.objs.size < G.objs.size := by omega
  have ob : ∀ b ∈ fp, ∃ o, s.heap.get? b = some o := fun b hb => let ⟨o, e, _⟩ := T.obj _ _ st b hb; ⟨o, e⟩
  have up : ∀ b o, G.get? b = some o → h1.get? b = some o := fun b o e => hsb.extBut b o (Nat.ne_of_lt (Heap.lt_size e)) (Heap.get?_push_of_some _ e)
  have kp : ∀ b o, s.heap.get? b = some o → h1.get? b = some o := fun b o e => up b o (hG ▸ Heap.get?_push_of_some _ e)
  have I0 : Inv (cxC X N sc G.objs.size s H fp) [] (List.replicate k none ++ σ) (upd H s.heap.objs.size (.lst [])) { s with heap := h1, toks := s.toks + ([] : List (Str × Value)).length } :=
    lc_start L I fo ob hlt kp (up _ _ (hG ▸ Heap.get?_push_size _ rfl)) hns
  have st1 : tn 0 h1 := T.keep _ _ _ st fun b _ o e => kp b o e
  have hD : H s.heap.objs.size = none := I.hok.fresh (Nat.le_refl _)
  obtain ⟨W, ⟨m0, w0⟩, turn⟩ := hq _ hD
  have foY : ∀ H' : Hp, (∀ b ∈ fp, H' b = none) → ∀ b ∈ fp, FpOk (cxC X N sc G.objs.size s H fp) [] H' b := fun H' hn b hb =>
    ⟨hn b hb, (I0.ok.exf b hb).1, I0.ok.exfs b hb, .inl hb, (I0.ok.exf b hb).2, fun p hp => absurd (show p ∈ ([] : List (Addr × Obj)) from hp) (by simp)⟩
  have fr0 : ∀ b ∈ fp, upd H s.heap.objs.size (.lst []) b = none := fun b hb => by
    obtain ⟨o, e⟩ := ob b hb
    rw [upd_ne (Nat.ne_of_lt (Heap.lt_size e))]
    exact (fo b hb).1
  have loop : codeAny (model X.prog X.w) X.A (.compLoop (.ListComp elt [⟨tg, iter, ifs, 0⟩] sc pos) 0 (.ref it) (.ref s.heap.objs.size) (cxC X N sc G.objs.size s H fp).env) (RR (.ref s.heap.objs.size) G.objs.size) { s with heap := h1, toks := s.toks + ([] : List (Str × Value)).length } :=
    lc_loop (Y := cxC X N sc G.objs.size s H fp) (iter := iter) hc (fun _ _ h => h) T foY (hg _ _ _ _) (ht _ _ _ _) (he _ _ _ _) turn (fun σ' H' s' J' q => hRR _ σ' H' s' hlt J' q) I0 st1 fr0 w0
  exact codeAny_compStart_list loop (T.self _ 0 _ _ _ st1 loop)
def tLC (k : Nat) (wi : TI) (g : TG) (tt : TT) (te : TE) : TE := fun σ H Q => wi σ H fun J H1 => ∀ D, H1 D = none →
  ∃ W, (∃ m, W 0 m (List.replicate k none ++ σ) (upd H1 D (.lst []))) ∧ TurnW J g tt te D W (Q (.ref D))
section
variable {X : Cx} {sc : Scope} {k : Nat} {N : List Str} {elt tg iter : Expr} {ifs : List Expr} {pos : Pos} {wi : TI} {g : TG} {tt : TT} {te : TE}
theorem pe_lc (L : Lc X sc k N) (hc : X.calm = true) (hi : PI X tg iter wi) (hg : ∀ C s H fp, PG (cxC X N sc C s H fp) tg g) (ht : ∀ C s H fp, PTs (cxC X N sc C s H fp) ifs tt) (he : ∀ C s H fp, PE (cxC X N sc C s H fp) elt te)
    (hs : ∀ x, foldedSetIterable iter X.env x = pure x := by intro _; rfl) : PE X (.ListComp elt [⟨tg, iter, ifs, 0⟩] sc pos) (tLC k wi g tt te) := by
  intro pins s σ H Q I h
  rw [eval_ListComp]
  refine wpAny_comprehension_free (use := none) rfl hs (closure_eq (L.cells I.ok)) L.kind L.names (thn (hi pins s σ H _ I h) fun v s1 h1 => thn h1 fun itv s2 h2 => ?_)
  obtain ⟨it, fp, tn, J, H2, e, I2, T, st2, f2, q2⟩ := h2
  subst e
  refine lc_block (RR := fun acc C => compPost (model X.prog X.w) X.A X.xe none (EP X pins σ Q) acc C) L hc hg ht he I2 T st2 f2 q2 fun C σ' H' s' hC J' q => ?_
  have I3 := lc_end I2 f2 J'
  obtain ⟨m, hn, _⟩ := J'.loc
  refine ⟨m, hn, fun h' sb => ?_⟩
  obtain ⟨f0, f1, f2', f3, f4, f5⟩ := I2.fpOk (Nat.le_of_lt hC) (show H' C = none from J'.free)
  exact ⟨.ref s2.heap.objs.size, H', I3.turned (t' := s'.toks) (fun b o hb e => (sb.2 b hb).trans e) f0 f1 f3 f4 f5, rfl, q⟩
/-- x = [..], stored while the block's names still stand -/
theorem ps_lc {i : Nat} {x : Str} {pos' spos : Pos} (L : Lc X sc k N) (hc : X.calm = true) (hN : X.N.Nodup) (hx : X.N[i]? = some x) (hl : Loc X.env.scope x) (hi : PI X tg iter wi)
    (hg : ∀ C s H fp, PG (cxC X N sc C s H fp) tg g) (ht : ∀ C s H fp, PTs (cxC X N sc C s H fp) ifs tt) (he : ∀ C s H fp, PE (cxC X N sc C s H fp) elt te)
    (hsw : swapsWith (.ListComp elt [⟨tg, iter, ifs, 0⟩] sc pos) (some (.Name x pos')) spos.line X.env = pure true := by rfl) (hf : X.fn x = true ∨ X.env.scope.names.lookup x = some .local := by first | exact .inl rfl | exact .inr rfl | assumption)
    (hs : ∀ x, foldedSetIterable iter X.env x = pure x := by intro _; rfl) : PS X (.Assign [.Name x pos'] (.ListComp elt [⟨tg, iter, ifs, 0⟩] sc pos) spos) (tAsg (tLC k wi g tt te) (gName i)) := by
  intro pins s σ H D I h
  rw [exec_Assign_Name_used _ _ _ _ hsw]
  refine wpAny_bind (wpAny_standAt (wpAny_bind ?_))
  show wpAny _ X.A (do let _ ← comprehension (.ListComp elt [⟨tg, iter, ifs, 0⟩] sc pos) sc X.env _ (newList []) false (eval iter X.env) (some (assign (.Name x pos') X.env))) _ _ s
  refine wpAny_bind (thn (wpAny_comprehension_free (use := some (assign (.Name x pos') X.env)) (Q := fun _ s' => SP X pins D .next s') rfl hs (closure_eq (L.cells I.ok)) L.kind L.names
    (thn (hi pins s σ H _ I h) fun v s1 h1 => thn h1 fun itv s2 h2 => ?_)) fun _ s' hq => wpAny_pure (wpAny_pure hq))
  obtain ⟨it, fp, tn, J, H2, e, I2, T, st2, f2, q2⟩ := h2
  subst e
  refine lc_block (Q := fun v H1 => gName i v σ H1 D.nx) (RR := fun acc C => compPost (model X.prog X.w) X.A X.xe (some (assign (.Name x pos') X.env)) (fun _ s' => SP X pins D .next s') acc C) L hc hg ht he I2 T st2 f2 q2 fun C σ' H' s' hC J' q => ?_
  have I3 := lc_end I2 f2 J'
  obtain ⟨m, hn, _⟩ := J'.loc
  obtain ⟨f0, f1, f2', f3, f4, f5⟩ := I2.fpOk (Nat.le_of_lt hC) (show H' C = none from J'.free)
  show wpAny _ X.A (assign (.Name x pos') X.env (.ref s2.heap.objs.size)) _ _ _
  refine wpAny_assign_Name (store_ok2 I3 hN hx hl (v := .ref s2.heap.objs.size) rfl (fun s4 I4 hs4 => ?_) hf)
  obtain ⟨a, sb, ha⟩ := hs4
  have hne : C ≠ a := by
    rcases ha with rfl | ha
    · exact f1
    · exact fun e => f4 x a ha e.symm
  refine ⟨m, hn.sameBut sb hne, fun h' sb' => ?_⟩
  exact ⟨_, H', I4.turned (t' := s4.toks) (fun b o hb e => (sb'.2 b hb).trans e) f0 f1 f3 f4 f5, q⟩
end
end L2.Bw

end
section
set_option Elab.async false
set_option linter.all false
set_option maxRecDepth 100000
/-! Data made of ints, bools, texts and tuples, and how the heap bears them. -/
namespace L2.Bw
open PySem PySem.Spec PyProof.Rows

inductive Dt where
  | int (i : Int)
  | bl (b : Bool)
  | str (x : Str)
  | tup (xs : List Dt)
mutual
def Rep (H : Hp) : Dt → V → Prop
  | .int i, v => v = .int i
  | .bl b, v => v = .bl b
  | .str x, v => v = .str x
  | .tup ds, v => ∃ a vs, v = .ref a ∧ H a = some (.tup vs) ∧ Reps H ds vs
def Reps (H : Hp) : List Dt → List V → Prop
  | [], vs => vs = []
  | d :: ds, vs => ∃ v r, vs = v :: r ∧ Rep H d v ∧ Reps H ds r
end
mutual
def Dt.dp : Dt → Nat
  | .tup ds => 1 + dps ds
  | .int _ => 0
  | .bl _ => 0
  | .str _ => 0
def dps : List Dt → Nat
  | [] => 0
  | d :: ds => max d.dp (dps ds)
end
mutual
def Dt.nar : Dt → Prop
  | .tup ds => ds.length ≤ 1000 ∧ nars ds
  | .int _ => True
  | .bl _ => True
  | .str _ => True
def nars : List Dt → Prop
  | [] => True
  | d :: ds => d.nar ∧ nars ds
end
theorem Rep.s {H : Hp} (x : Str) : Rep H (.str x) (.str x) := by rw [Rep]
theorem Rep.i {H : Hp} (x : Int) : Rep H (.int x) (.int x) := by rw [Rep]
theorem Rep.b {H : Hp} (x : Bool) : Rep H (.bl x) (.bl x) := by rw [Rep]
theorem Reps.nil {H : Hp} : Reps H [] [] := rfl
theorem Reps.cons {H : Hp} {d : Dt} {ds : List Dt} {v : V} {vs : List V} (h : Rep H d v) (t : Reps H ds vs) : Reps H (d :: ds) (v :: vs) := ⟨v, vs, rfl, h, t⟩
theorem Rep.tup {H : Hp} {a : Addr} {ds : List Dt} {vs : List V} (h : H a = some (.tup vs)) (t : Reps H ds vs) : Rep H (.tup ds) (.ref a) := ⟨a, vs, rfl, h, t⟩
theorem Reps.length {H : Hp} : ∀ {ds : List Dt} {vs : List V}, Reps H ds vs → ds.length = vs.length
  | [], vs, h => by cases (show vs = [] from h); rfl
  | d :: ds, vs, ⟨v, r, e, _, t⟩ => by subst e; simp [Reps.length t]
theorem Reps.get {H : Hp} : ∀ {ds : List Dt} {vs : List V} {i : Nat} {d : Dt}, Reps H ds vs → ds[i]? = some d → ∃ v, vs[i]? = some v ∧ Rep H d v
  | [], _, _, _, _, e => by simp at e
  | d :: ds, vs, 0, d', ⟨v, r, e, h, _⟩, e' => by subst e; simp at e'; subst e'; exact ⟨v, rfl, h⟩
  | d :: ds, vs, i + 1, d', ⟨v, r, e, _, t⟩, e' => by
    subst e
    obtain ⟨u, h1, h2⟩ := Reps.get (i := i) t (by simpa using e')
    exact ⟨u, by simpa using h1, h2⟩
theorem Reps.getV {H : Hp} : ∀ {ds : List Dt} {vs : List V} {i : Nat} {v : V}, Reps H ds vs → vs[i]? = some v → ∃ d, ds[i]? = some d ∧ Rep H d v := fun {ds vs i v} h e => by
  have hl := h.length
  have hi : i < ds.length := by rw [hl]; exact (List.getElem?_eq_some_iff.mp e).1
  obtain ⟨u, h1, h2⟩ := h.get (List.getElem?_eq_getElem hi)
  rw [e] at h1; cases h1
  exact ⟨_, List.getElem?_eq_getElem hi, h2⟩
theorem Reps.append {H : Hp} : ∀ {ds es : List Dt} {vs us : List V}, Reps H ds vs → Reps H es us → Reps H (ds ++ es) (vs ++ us)
  | [], _, vs, _, h, t => by cases (show vs = [] from h); exact t
  | d :: ds, es, vs, us, ⟨v, r, e, h, t'⟩, t => by subst e; exact .cons h (Reps.append t' t)
theorem Reps.drop {H : Hp} : ∀ {ds : List Dt} {vs : List V} (n : Nat), Reps H ds vs → Reps H (ds.drop n) (vs.drop n)
  | _, _, 0, h => h
  | [], vs, n + 1, h => by cases (show vs = [] from h); exact rfl
  | d :: ds, vs, n + 1, ⟨v, r, e, h, t⟩ => by subst e; exact Reps.drop n t
theorem Reps.take {H : Hp} : ∀ {ds : List Dt} {vs : List V} (n : Nat), Reps H ds vs → Reps H (ds.take n) (vs.take n)
  | _, _, 0, _ => rfl
  | [], vs, n + 1, h => by cases (show vs = [] from h); exact rfl
  | d :: ds, vs, n + 1, ⟨v, r, e, h, t⟩ => by subst e; exact .cons h (Reps.take n t)
theorem Reps.split {H : Hp} : ∀ {ds es : List Dt} {vs : List V}, Reps H (ds ++ es) vs → ∃ us ws, vs = us ++ ws ∧ Reps H ds us ∧ Reps H es ws
  | [], _, vs, h => ⟨[], vs, rfl, rfl, h⟩
  | d :: ds, es, vs, ⟨v, r, e, h, t⟩ => by
    subst e
    obtain ⟨us, ws, e, h1, h2⟩ := Reps.split t
    subst e
    exact ⟨v :: us, ws, rfl, .cons h h1, h2⟩
/-- all that stood stays, but for what M says -/
def Gr (M : Addr → Prop) (H H' : Hp) : Prop := ∀ b o, H b = some o → ¬ M b → H' b = some o
abbrev M0 : Addr → Prop := fun _ => False
abbrev M1 (a : Addr) : Addr → Prop := fun b => b = a
abbrev M2 (a c : Addr) : Addr → Prop := fun b => b = a ∨ b = c
/-- the tuples stay -/
def Tm (H H' : Hp) : Prop := ∀ a xs, H a = some (.tup xs) → H' a = some (.tup xs)
mutual
theorem Rep.mono {H H' : Hp} (m : Tm H H') : ∀ {d : Dt} {v : V}, Rep H d v → Rep H' d v
  | .int _, _, h => h
  | .bl _, _, h => h
  | .str _, _, h => h
  | .tup _, _, ⟨a, vs, e, h, t⟩ => ⟨a, vs, e, m a vs h, Reps.mono m t⟩
theorem Reps.mono {H H' : Hp} (m : Tm H H') : ∀ {ds : List Dt} {vs : List V}, Reps H ds vs → Reps H' ds vs
  | [], _, h => h
  | _ :: _, _, ⟨v, r, e, h, t⟩ => ⟨v, r, e, Rep.mono m h, Reps.mono m t⟩
end
theorem Gr.refl {M : Addr → Prop} (H : Hp) : Gr M H H := fun _ _ h _ => h
theorem Gr.trans {M : Addr → Prop} {H H1 H2 : Hp} (a : Gr M H H1) (b : Gr M H1 H2) : Gr M H H2 := fun c o h n => b c o (a c o h n) n
theorem Gr.wide {M M' : Addr → Prop} {H H' : Hp} (a : Gr M H H') (s : ∀ b, M b → M' b) : Gr M' H H' := fun c o h n => a c o h fun q => n (s c q)
theorem Gr.new {M : Addr → Prop} {H : Hp} {p : Addr} {o : HO} (h : H p = none) : Gr M H (upd H p o) := fun b u e _ => by rw [upd_ne (ne_of_none e h)]; exact e
theorem Gr.put {M : Addr → Prop} {H : Hp} {p : Addr} {o : HO} (h : M p) : Gr M H (upd H p o) := fun b u e n => by
  rw [upd_ne (fun q => n (by rw [q]; exact h))]; exact e
theorem Gr.tm {M : Addr → Prop} {H H' : Hp} (g : Gr M H H') (h : ∀ b xs, M b → H b = some (.tup xs) → False) : Tm H H' := fun a xs e => g a _ e fun m => h a xs m e
/-- the changed ones are lists -/
theorem Gr.tm1 {H H' : Hp} {l : Addr} {xs : List V} (g : Gr (M1 l) H H') (h : H l = some (.lst xs)) : Tm H H' := g.tm fun b ys m e => by cases (show b = l from m); rw [h] at e; cases e
theorem Gr.tm2 {H H' : Hp} {l r : Addr} {xs ys : List V} (g : Gr (M2 l r) H H') (h : H l = some (.lst xs)) (h' : H r = some (.lst ys)) : Tm H H' := g.tm fun b zs m e => by
  rcases m with m | m
  · subst m; rw [h] at e; cases e
  · subst m; rw [h'] at e; cases e
theorem Gr.free {H H' : Hp} {M : Addr → Prop} (g : Gr M H H') {l : Addr} (h : H' l = none) (n : ¬ M l) : H l = none := by
  cases q : H l with
  | none => rfl
  | some o => rw [g l o q n] at h; cases h
theorem Gr.seq {K : PySem.W.Frag} {M : Addr → Prop} {H H' : Hp} {a : Addr} {xs : List V} (g : Gr M H H') (n : ¬ M a) (h : SqL K H a xs) : SqL K H' a xs := by
  rcases h with (h | ⟨o, h⟩) | h
  · exact .inl (.inl (g _ _ h n))
  · exact .inl (.inr ⟨o, g _ _ h n⟩)
  · exact .inr h
/-! ### argument lists, whatever their length -/
def isStar : Expr → Bool
  | .Starred .. => true
  | _ => false
theorem star_of {e : Expr} {es : List Expr} {env : Env} (h : isStar e = false) : starEach (e :: es) env = (false, eval e env) :: starEach es env := by
  cases e <;> first | rfl | cases h
theorem pa {X : Cx} {e : Expr} {es : List Expr} {te : TE} {t : TA} (ha : PE X e te) (hr : PA X es t) (h : isStar e = false := by rfl) : PA X (e :: es) (tCons te t) := pa_cons ha hr (star_of h)
/-! ### a def of the text, as it is called -/
structure Cal (P : Program) (w : World) (K : PySem.W.Frag) (mg : Str → Option Value) (base : Heap) (x : Str) (ps : List Str) (k : Nat) (sp : Sp) : Prop where
  ex : ∃ f fd, FnOk P w K mg base CX0 k f fd ps sp ∧ Binds K fd ps [] ∧ PySem.W.keepIn K (.ref f) = true ∧ mg x = some (.ref f)
theorem pe_cal {X : Cx} {x : Str} {ps : List Str} {k n : Nat} {sp : Sp} {p pos : Pos} {e : Expr} {es : List Expr} {t : TA} (c : Cal X.prog X.w X.K X.mg X.base x ps k sp) (hr : Room n X.A) (ha : PA X (e :: es) t) (hn : k ≤ n := by omega) (hg : Gl X x := by rfl)
    (hdb : (x == ("__debug__" : Str)) = false := by decide) (he : starEach (e :: es) X.env = (false, eval e X.env) :: starEach es X.env := by rfl)
    (hpl : (backTo pos (starEach es X.env)).any (·.1) = false := by rfl) : PE X (.Call (.Name x p) (e :: es) [] pos) (tCall sp [] E0 t) := by
  obtain ⟨f, fd, F, b, kp, m⟩ := c.ex
  exact pe_call F (hr.mono hn) hg m kp b .nil pass0 ha hdb he hpl
end L2.Bw

end
section
set_option Elab.async false
set_option linter.all false
set_option maxRecDepth 100000
/-! More rules for the hand layer: joined ones, isinstance, == of nested data, count, zip, lists of reversed lists. -/
namespace L2.Bw
open PySem PySem.Spec PyProof.Rows
section
variable {X : Cx}

/-! ### joined rules -/
def rAddA (K : PySem.W.Frag) : R2 := fun x y H Q => (∃ i j, x = .int i ∧ y = .int j ∧ Q (.int (i + j)) H) ∨ (∃ i j, x = .str i ∧ y = .str j ∧ i.length + j.length ≤ sizeLine ∧ Q (.str (i ++ j)) H) ∨ rCat x y H Q ∨ rCatT K x y H Q
theorem op_addA : OpR X (binaryOp .Add) (rAddA X.K) := fun pins s σ H x y v u Q I rx ry h => by
  rcases h with h | h | h | h
  · exact op_add pins s σ H x y v u Q I rx ry h
  · exact op_add_str pins s σ H x y v u Q I rx ry h
  · exact op_cat pins s σ H x y v u Q I rx ry h
  · exact op_catT pins s σ H x y v u Q I rx ry h
theorem addT {K : PySem.W.Frag} {x y : V} {H : Hp} {Q : VK} (h : rCatT K x y H Q) : rAddA K x y H Q := .inr (.inr (.inr h))
def rLenA (K : PySem.W.Frag) : List V → Hp → VK → Prop := fun xs H Q => (∃ p ys, xs = [.ref p] ∧ (SqL K H p ys ∨ SqT K H p ys) ∧ Q (.int ys.length) H) ∨ ∃ z, xs = [.str z] ∧ z.length ≤ sizeLine ∧ Q (.int z.length) H
theorem call_lenA : CallR X (.builtin "len") (rLenA X.K) := fun pins s σ H xs us Q I r h => by
  rcases h with h | h
  · exact call_len_seq pins s σ H xs us Q I r h
  · exact call_len_str pins s σ H xs us Q I r h
theorem pe_ty {x : Str} {T : String} {pos : Pos} (hg : Gl X x) (hm : X.mg x = none) (hv : bootBuiltins x = some (.type T)) (hn : x ≠ "__name__" := by decide) (hd : (x == ("__debug__" : Str)) = false := by decide) : PE X (.Name x pos) (tC (.ty T)) :=
  pe_bltn hg hm hv (v := .ty T) rfl hn hd
/-- a list or a tuple, walked -/
def iSeq (K : PySem.W.Frag) (tl : TE) : TI := fun σ H R => tl σ H fun x H1 => ∃ a, x = .ref a ∧ (((∃ xs, SqL K H1 a xs) ∧ R (Itl K a) H1) ∨ ((∃ xs, SqT K H1 a xs) ∧ R (Itt K a) H1))
theorem pi_seq {tg l : Expr} {tl : TE} (hl : PE X l tl) : PI X tg l (iSeq X.K tl) := by
  intro pins s σ H R I h
  refine thn (hl pins s σ H _ I h) fun v s1 q => ?_
  obtain ⟨x, H1, I1, r1, a, e, q1⟩ := q
  subst e
  cases r1
  have one : ∀ b ∈ [s1.heap.objs.size], FpOk X pins H1 b := fun b hb => by
    cases (show b = s1.heap.objs.size by simpa using hb)
    exact I1.fpOk (Nat.le_refl _) (I1.hok.fresh (Nat.le_refl _))
  rcases q1 with ⟨⟨xs, hq⟩, q⟩ | ⟨⟨xs, hq⟩, q⟩
  · obtain ⟨its, rv, p, hz⟩ := I1.list hq
    exact wpAny_pyIter_list p.isList ⟨s1.heap.objs.size, [s1.heap.objs.size], _, _, H1, rfl, I1.kept (t' := s1.toks) fun b o e => Heap.get?_push_of_some _ e, turn_list a _, ⟨_, Heap.get?_push_size _ rfl, rfl, rfl⟩, one, q⟩
  · obtain ⟨its, rv, p, hz⟩ := I1.tuple hq
    exact wpAny_pyIter_tuple (show s1.heap.IsTuple a its.toArray from p) ⟨s1.heap.objs.size, [s1.heap.objs.size], _, _, H1, rfl, I1.kept (t' := s1.toks) fun b o e => Heap.get?_push_of_some _ e, turn_tuple a _, ⟨_, Heap.get?_push_size _ rfl, rfl, rfl⟩, one, q⟩

/-! ### isinstance -/
def IsI (K : PySem.W.Frag) (H : Hp) (x : V) (n : String) (b : Bool) : Prop := ∃ t, TyOf K H x t ∧ PySem.W.kitOne K t (.type n) = some b
theorem call_isi : CallR X (.builtin "isinstance") (fun xs H Q => ∃ x n b, xs = [x, .ty n] ∧ IsI X.K H x n b ∧ Q (.bl b) H) := by
  intro pins s σ H xs us Q I r h
  obtain ⟨x, n, b, e, ⟨t, ty, k⟩, q⟩ := h
  subst e
  obtain ⟨u, w, e, ru, rw'⟩ := Vals.two r
  subst e
  cases rw'
  exact isinst_ok I ru ty k fun tk => ⟨.bl b, H, I.tok tk, rfl, q⟩

/-! ### == of data -/
/-- what == tells of two lists or tuples -/
inductive EqC (K : PySem.W.Frag) (H : Hp) : V → V → Bool → Prop where
  | lists {a c : Addr} {vs ws : List V} {ds : List Dt} (ha : SqL K H a vs) (hc : SqL K H c ws) (ta : Reps H ds vs) (tc : Reps H ds ws) (hd : dps ds ≤ 60) : EqC K H (.ref a) (.ref c) true
  | lens {a c : Addr} {vs ws : List V} (ha : SqL K H a vs) (hc : SqL K H c ws) (hl : vs.length ≠ ws.length) : EqC K H (.ref a) (.ref c) false
  | heads {a c : Addr} {h z : Str} {r : List V} (ha : SqT K H a (.str h :: r)) (hc : SqT K H c [.str z]) : EqC K H (.ref a) (.ref c) (decide (h = z) && r.isEmpty)
/-! ### list.count of texts -/
end
end L2.Bw

end
section
set_option Elab.async false
set_option linter.all false
set_option maxRecDepth 100000
/-! zip of two lists, walked by pairs. -/
namespace L2.Bw
open PySem PySem.Spec PyProof.Rows
section
variable {X : Cx} {pins : List (Addr × Obj)} {σ : St} {H : Hp} {s : Shared} {h' : Heap} {ch : List Addr}
/-- untracked records have turned, a new tuple is there -/
theorem turnedT {t' : Nat} {T : Addr} {xs : List V} (I : Inv X pins σ H s) (k : ∀ b o, b ∉ ch → s.heap.get? b = some o → h'.get? b = some o) (fo : ∀ b ∈ ch, FpOk X pins H b) (hT : s.heap.objs.size ≤ T)
    (new : ∃ its : List Value, Vals xs its ∧ IsTup h' T its.toArray) (hz : xs.length ≤ sizeLine) : Inv X pins σ (upd H T (.tup xs)) { s with heap := h', toks := t' } := by
  have hTn : H T = none := I.hok.fresh hT
  have nit : ∀ b u, H b = some u → b ∉ ch := fun b u e z => by rw [(fo b z).1] at e; cases e
  have old : ∀ b u, H b = some u → upd H T (.tup xs) b = some u := fun b u e => by rw [upd_ne (ne_of_none e hTn)]; exact e
  refine I.step (g' := s.gens) (d' := s.drawn) (ch := ch) (fun b hb => ?_) (fun b o _ _ hc e _ => k b o hc e) (fun b o _ _ hc e _ => ⟨o.slots, k b o hc e⟩) (fun b o _ e n => ?_) (fun b o hc e => ⟨o, k b o hc e⟩)
    (fun b ys e => old b _ e) (fun b o u e => old b _ e) (fun b ps e => ⟨#[], by rw [old b _ e]; simp⟩) (fun m hm => ?_) (fun b u e => ?_) I.bare
  · obtain ⟨_, h1, _, h3, h4, h5⟩ := fo b hb
    exact ⟨h3, h1, h4, h5⟩
  · rw [upd_ne (Nat.ne_of_lt (Nat.lt_of_lt_of_le (Heap.lt_size e) hT))]; exact n
  · obtain ⟨o, es, ep, ho, r⟩ := hm
    exact ⟨o, es, ep, k _ o (fun z => (fo _ z).2.1 rfl) ho, r⟩
  · by_cases hb : b = T
    · subst hb
      rw [upd_same] at e; cases e
      obtain ⟨its, r, p⟩ := new
      exact ⟨hz, its, r, p⟩
    · rw [upd_ne hb] at e
      refine (I.hok b u e).stay (fun c v hc q => k c v ?_ q) (fun c q => old c _ q) fun c ys q => old c _ q
      rcases hc with z | z
      · rw [z]; exact nit b u e
      · exact nit c _ z
theorem turnedN {t' : Nat} (I : Inv X pins σ H s) (k : ∀ b o, b ∉ ch → s.heap.get? b = some o → h'.get? b = some o) (fo : ∀ b ∈ ch, FpOk X pins H b) : Inv X pins σ H { s with heap := h', toks := t' } := by
  have nit : ∀ b u, H b = some u → b ∉ ch := fun b u e z => by rw [(fo b z).1] at e; cases e
  refine I.step (g' := s.gens) (d' := s.drawn) (ch := ch) (fun b hb => ?_) (fun b o _ _ hc e _ => k b o hc e) (fun b o _ _ hc e _ => ⟨o.slots, k b o hc e⟩) (fun b o _ e n => n) (fun b o hc e => ⟨o, k b o hc e⟩)
    (fun b ys e => e) (fun b o u e => e) (fun b ps e => ⟨#[], by rw [e]; simp⟩) (fun m hm => ?_) (fun b u e => ?_) I.bare
  · obtain ⟨_, h1, _, h3, h4, h5⟩ := fo b hb
    exact ⟨h3, h1, h4, h5⟩
  · obtain ⟨o, es, ep, ho, r⟩ := hm
    exact ⟨o, es, ep, k _ o (fun z => (fo _ z).2.1 rfl) ho, r⟩
  · refine (I.hok b u e).stay (fun c v hc q => k c v ?_ q) (fun c q => q) fun c ys q => q
    rcases hc with z | z
    · rw [z]; exact nit b u e
    · exact nit c _ z
end
theorem off_of {X : Cx} {pins : List (Addr × Obj)} {σ : St} {H : Hp} {s : Shared} (I : Inv X pins σ H s) {c l : Addr} {us : List V} (f : FpOk X pins H c) (hq : SqL X.K H l us) : l ≠ c := fun e => by
  subst e
  rcases hq with q | q
  · rcases q with q | ⟨o, q⟩
    · rw [f.1] at q; cases q
    · rw [f.1] at q; cases q
  · obtain ⟨o, its, n, q, _⟩ := q
    have bk := I.ok.mod.kin _ _ q
    rcases f.2.2.2.1 with f | f
    · exact I.ok.noex _ _ bk f
    · exact absurd (Nat.lt_of_lt_of_le (Heap.lt_size bk) (Nat.le_trans I.ok.bsz f)) (Nat.lt_irrefl _)
theorem zip_apart {z TI TO i1 i2 a b : Addr} (h : z ≠ TI ∧ z ≠ TO ∧ z ≠ i1 ∧ z ≠ i2 ∧ TI ≠ TO ∧ TI ≠ i1 ∧ TI ≠ i2 ∧ TO ≠ i1 ∧ TO ≠ i2 ∧ i1 ≠ i2) (ha : ∀ c ∈ [z, TI, TO, i1, i2], a ≠ c) (hb : ∀ c ∈ [z, TI, TO, i1, i2], b ≠ c) : ZipApart z TI TO i1 i2 a b := by
  obtain ⟨h1, h2, h3, h4, h5, h6, h7, h8, h9, h0⟩ := h
  simp only [List.mem_cons, List.not_mem_nil, or_false, forall_eq_or_imp, forall_eq] at ha hb
  obtain ⟨a1, a2, a3, a4, a5⟩ := ha
  obtain ⟨b1, b2, b3, b4, b5⟩ := hb
  constructor <;> first | assumption | exact Ne.symm (by assumption)
theorem apart5 (n : Nat) : n + 4 ≠ n + 2 ∧ n + 4 ≠ n + 3 ∧ n + 4 ≠ n ∧ n + 4 ≠ n + 1 ∧ n + 2 ≠ n + 3 ∧ n + 2 ≠ n ∧ n + 2 ≠ n + 1 ∧ n + 3 ≠ n ∧ n + 3 ≠ n + 1 ∧ n ≠ n + 1 := by omega
theorem le5 (n c : Nat) (h : c = n + 4 ∨ c = n + 2 ∨ c = n + 3 ∨ c = n ∨ c = n + 1) : n ≤ c := by omega
section
variable {X : Cx}
end
end L2.Bw

end
section
set_option Elab.async false
set_option linter.all false
set_option maxRecDepth 100000
/-! A dict of the module whose keys are texts and whose values are tuples of texts. -/
namespace L2.Bw
open PySem PySem.Spec PyProof.Rows
def strsLook : List Str → List Value → Bool
  | [], [] => true
  | x :: r, v :: q => (match v with | .str y _ => y == x | _ => false) && strsLook r q
  | _, _ => false
theorem vals_of_look : ∀ {ss : List Str} {us : List Value}, strsLook ss us = true → Vals (ss.map V.str) us
  | [], [], _ => .nil
  | x :: r, v :: q, h => by
    unfold strsLook at h
    have h' := Bool.and_eq_true_iff.mp h
    refine .cons ?_ (vals_of_look h'.2)
    have h1 := h'.1
    cases v with
    | str y t => exact ⟨t, by rw [show y = x by simpa using h1]⟩
    | _ => exact absurd h1 (by simp)
  | [], _ :: _, h => by simp [strsLook] at h
  | _ :: _, [], h => by simp [strsLook] at h
def lookT (K : PySem.W.Frag) (ss : List Str) (v : Value) : Bool := match v with
  | .ref b => (match K.lookup b with
    | some o => o.cls == .type "tuple" && (match o.data with | .seq its _ => decide (its.size ≤ 1000) && strsLook ss its.toList | _ => false)
    | none => false)
  | _ => false
def IsT (K : PySem.W.Frag) (ss : List Str) (v : Value) : Prop := ∃ b, v = .ref b ∧ ∀ H : Hp, SqT K H b (ss.map V.str)
theorem isT_of {K : PySem.W.Frag} (ss : List Str) (v : Value) (h : lookT K ss v = true) : IsT K ss v := by
  unfold lookT at h
  cases v with
  | ref b =>
    refine ⟨b, rfl, fun H => .inr ?_⟩
    cases e : K.lookup b with
    | none => simp only [e] at h; cases h
    | some o =>
      simp only [e] at h
      rw [Bool.and_eq_true_iff] at h
      cases d : o.data with
      | seq its n =>
        simp only [d] at h
        rw [Bool.and_eq_true_iff] at h
        exact ⟨o, its, n, rfl, by simpa using h.1, d, Nat.le_trans (of_decide_eq_true h.2.1) (Nat.le_of_lt (small1000 (Nat.le_refl _))), vals_of_look h.2.2⟩
      | _ => simp [d] at h
  | _ => simp at h
theorem getTab {prog : Program} {w : World} {A : Around} {E : Value → Shared → Prop} {s : Shared} {δ : Type} {R : δ → Value → Prop} {a : Addr} {D : List (Str × δ)} {z : Str} {tz : Tok} {d : δ} {Q : Option Value → Shared → Prop}
    (T : KTD.TabOf R s.heap a D) (hat : KTD.datumAt z D = some d) (h : ∀ v, R d v → Q (some v) { s with toks := s.toks + 1 }) : wpAny (model prog w) A (dictGet a (.str z tz)) Q E s := by
  obtain ⟨_, o, es, ep, ho, _, hd, hr⟩ := T
  obtain ⟨v, hv, hfl⟩ := hr.find_some hat
  have all : (es.all fun e => isExactStrKey e.key) = true := by
    obtain ⟨l⟩ := es
    simpa using hr.exact
  have hq : Q (findBy (fun k v => v.isStr k) es z) { s with toks := s.toks + 1 } := by
    rw [show findBy (fun k v => v.isStr k) es z = some v by obtain ⟨l⟩ := es; simpa [findBy] using hv]
    exact h v hfl
  rw [findBy_of_findIdx?] at hq
  unfold dictGet
  refine wpAny_holding ?_
  refine wpAny_bind (wpAny_pyHash_str (wpAny_bind (KTD.kt_dictFind_strs (s := { s with toks := s.toks + 1 }) ho hd all ?_)))
  cases hi : es.findIdx? fun e => e.key.isStr z with
  | none =>
    rw [hi] at hq
    exact wpAny_pure hq
  | some i =>
    rw [hi] at hq
    exact wpAny_bind (wpAny_dictEntries (s := { s with toks := s.toks + 1 }) ho hd (wpAny_pure hq))
section
variable {X : Cx}
def rTab (K : PySem.W.Frag) (a : Addr) (D : List (Str × List Str)) : R2 := fun x y H Q => x = .ref a ∧ ∃ z ss, y = .str z ∧ KTD.datumAt z D = some ss ∧ ∀ c, SqT K H c (ss.map V.str) → Q (.ref c) H
theorem pe_tab {x : Str} {p pos : Pos} {b : Expr} {tb : TE} {a : Addr} {D : List (Str × List Str)} (hg : Gl X x) (hm : X.mg x = some (.ref a)) (hK : KTD.tabLook (lookT X.K) (fun b => X.K.lookup b) a D = true) (hb : PE X b tb) (hs : PlainIx b)
    (hd : (x == ("__debug__" : Str)) = false := by decide) (hl : ∀ r, letTemporaryGo (.Name x p) (.ref a) r = pure () := by intro _; rfl) : PE X (.Subscript (.Name x p) b pos) (tOp (rTab X.K a D) (tC (.ref a)) tb) := by
  intro pins s σ H Q I h
  refine Subscript_ (binT (pe_glob hg hm (v := .ref a) rfl hd) hb I h fun v u s2 x' y H2 I2 rx ry q => ?_)
  obtain ⟨e, z, ss, e', hat, q⟩ := q
  subst e e'
  cases rx
  obtain ⟨tz, e⟩ := ry
  subst e
  have T : KTD.TabOf (IsT X.K) s2.heap a D := KTD.tab_of_look isT_of (fun b o e => I2.kIn b o e) hK
  have ty : s2.TypeIs (.ref a) "dict" := by obtain ⟨_, o, _, _, ho, hc, _⟩ := T; exact ⟨o, ho, hc.1⟩
  refine subscriptTail_builtin ty slot_dict_getitem.lookup ?_ (hs _ _) hl
  unfold getItem
  refine wpAny_holding ?_
  refine wpAny_bind (wpAny_sequenceKey ty (by decide) ?_)
  refine wpAny_bind (wpAny_callSpecial?_slot (name := Str.ofString "__getitem__") ty slot_dict_getitem (wpAny_call_entry slot_dict_getitem ty entry_dict_getitem ?_ (args_dict_getitem _ _)))
  show wpAny _ _ (dictGet a (.str z tz) >>= _) _ _ s2
  refine wpAny_bind (getTab T hat fun v hv => wpAny_pure ⟨v, rfl, wpAny_pure ?_⟩)
  obtain ⟨c, e, hc⟩ := hv
  subst e
  exact ⟨.ref c, H2, I2.tok _, rfl, q c (hc H2)⟩
end
end L2.Bw

end
section
set_option Elab.async false
set_option linter.all false
set_option maxRecDepth 100000
/-! enumerate(t, start=n) of a tuple, walked by pairs. -/
namespace L2.Bw
open PySem PySem.Spec PyProof.Rows
section
variable {prog : Program} {w : World} {A : Around} {E : Value → Shared → Prop} {s : Shared}
end
section
variable {X : Cx}
end
end L2.Bw

end
section
set_option Elab.async false
set_option linter.all false
set_option maxRecDepth 100000
/-! max(xs, default=d) of a list of ints. -/
namespace L2.Bw
open PySem PySem.Spec PyProof.Rows
section
variable {prog : Program} {w : World} {A : Around} {R : Result → Shared → Prop} {it : Addr} {fp wr : List Addr} {n : Nat} {f : Nat → Int} {Z : Nat → Heap → Prop}
end
section
variable {X : Cx}
end
end L2.Bw

end
section
set_option Elab.async false
set_option linter.all false
set_option maxRecDepth 100000
/-! list(reversed(xs)) of a list. -/
namespace L2.Bw
open PySem PySem.Spec PyProof.Rows
theorem rev_no_len : typeLookup (.type "list_reverseiterator") "__len__" = pure none := by rw [typeLookup_type, builtinLookup_eq_fast]; kernel_rfl
theorem rev_hint : typeLookup (.type "list_reverseiterator") "__length_hint__" = pure (some (.builtin "list_reverseiterator.__length_hint__")) := by rw [typeLookup_type, builtinLookup_eq_fast]; kernel_rfl
section
variable {prog : Program} {w : World} {A : Around} {E : Value → Shared → Prop} {s : Shared}
theorem ext_rev {R : Result → Shared → Prop} {r l S : Addr} {xs : Array Value} {c0 : Nat} {res : Value} (hh : A.handled = none) (hn : xs.size ≤ sizeLine) (g : s.heap.IsRevIter r l ((xs.size : Int) - 1)) (gl : s.heap.IsList l xs) (ne : l ≠ r)
    (hS : s.heap.get? S = some { cls := .type "list", data := .seq #[] c0 }) (n1 : S ≠ r) (n2 : S ≠ l)
    (q : ∀ h1 tk acc c1, (∀ b o, b ≠ S → b ≠ r → s.heap.get? b = some o → h1.get? b = some o) → h1.get? S = some { cls := .type "list", dict := none, data := .seq acc c1, slots := #[] } → ItemsOf (fun i v => xs[xs.size - 1 - i]? = some v) acc xs.size → R (.ok (.ret res)) { s with heap := h1, toks := tk }) :
    wpAny (model prog w) A.in1 (Builtin.List.listExtendWith (.ref S) (.ref r) res)
      (fun fin s1 => match fin with | .done f => R (.ok f) s1 | .again c1 => c1.quiet = true ∧ codeAny (model prog w) A c1 R s1) (fun e s1 => R (.error e) s1) s := by
  have ty := g.typeIs
  unfold Builtin.List.listExtendWith
  refine wpAny_bind (wpAny_typeOf ty ?_)
  have a1 : Builtin.List.listSameRef (.ref S) (.ref r) = false := by simp [Builtin.List.listSameRef, n1]
  have a2 : (Value.type "list_reverseiterator" == Value.type "list") = false := by decide
  have a3 : (Value.type "list_reverseiterator" == Value.type "tuple") = false := by decide
  simp only [a1, a2, a3, Bool.or_false, Bool.false_eq_true, if_false]
  refine wpAny_bind (wpAny_pyIter_revIter g (wpAny_bind (wpAny_holding ?_)))
  unfold Builtin.List.listLengthHint
  refine wpAny_bind (wpAny_specialOf ty rev_no_len ?_)
  show wpAny _ A.in1 (specialOf (Value.ref r) (Str.ofString "__length_hint__") >>= fun _ => _) _ _ _
  refine wpAny_bind (wpAny_specialOf ty rev_hint ?_)
  have W := (Walks.listRev (prog := prog) (w := w) (A := A.in1) hh r l ne xs).toS
  have nS : S ∉ [r, l] := by simp [n1, n2]
  have sp : splitId "list_reverseiterator.__length_hint__" = some ("list_reverseiterator", "__length_hint__") := by decide +kernel
  dsimp only
  simp only [sp]
  refine wpAny_bind (wpAny_isInstance (T := "list_reverseiterator") (b := true) ty (by rw [isSubtype_type]; kernel_rfl) ?_)
  refine wpAny_ite_split (fun z => absurd z (by decide)) fun _ => ?_
  refine wpAny_ite_split (fun _ => ?_) (fun z => absurd (by decide +kernel) z)
  refine wpAny_ite_split (fun z => absurd z (by decide +kernel)) fun _ => wpAny_pure ?_
  refine wpAny_ite_split (fun z => absurd z (by decide +kernel)) fun _ => ?_
  refine wpAny_pure ⟨plainId_quiet F.plain_extend_loop _, codeAny_extend_loopS W hn S nS res xs.size 0 _ _ _ rfl (Nat.zero_le _) ⟨Nat.zero_le _, by simpa using g, gl⟩ hS (ItemsOf.nil _) fun s1 acc c1 hm hS1 hacc => ?_⟩
  rw [Moved.eq_with hm]
  refine q s1.heap s1.toks acc c1 (fun b o z1 z2 e => hm.heap b o (fun z => ?_) e) hS1 hacc
  rcases List.mem_cons.mp z with z | z
  · exact z1 z
  · exact z2 (List.mem_singleton.mp z)
theorem call_list_rv {r l : Addr} {xs : Array Value} {Q : Value → Shared → Prop} (hh : A.handled = none) (hn : xs.size ≤ sizeLine) (g : s.heap.IsRevIter r l ((xs.size : Int) - 1)) (gl : s.heap.IsList l xs) (ne : l ≠ r)
    (q : ∀ h1 tk acc c1, (∀ b o, b ≠ r → s.heap.get? b = some o → h1.get? b = some o) → h1.get? s.heap.objs.size = some { cls := .type "list", dict := none, data := .seq acc c1, slots := #[] } → ItemsOf (fun i v => xs[xs.size - 1 - i]? = some v) acc xs.size →
      Q (.ref s.heap.objs.size) { s with heap := h1, toks := tk }) : wpAny (model prog w) A (call (.type "list") [.ref r]) Q E s := by
  refine callType_codes (Q₁ := fun obj s1 => obj = .ref s.heap.objs.size ∧ s1 = { s with heap := s.heap.push { cls := .type "list", data := .seq #[] } }) F.called_list (F.typeCall_list_1 _) F.entry_list_init (code_list_new _ ⟨rfl, rfl⟩) fun obj s1 z => ?_
  obtain ⟨e, e'⟩ := z
  subst e e'
  have hS : (s.heap.push { cls := .type "list", data := .seq #[] }).get? s.heap.objs.size = some { cls := .type "list", data := .seq #[] } := Heap.get?_push_size _ rfl
  have rlt : r < s.heap.objs.size := by obtain ⟨_, e, _⟩ := g; exact Heap.lt_size e
  have llt : l < s.heap.objs.size := by obtain ⟨_, e, _⟩ := gl; exact Heap.lt_size e
  refine ⟨⟨_, hS, rfl⟩, F.args_list_init_2 _ _, ?_⟩
  show wpAny _ _ (do let old ← Builtin.List.listItems (.ref s.heap.objs.size); Builtin.List.listUpdate (.ref s.heap.objs.size) (fun _ => #[]); letGo old.toList.reverse; Builtin.List.listExtendWith (.ref s.heap.objs.size) (.ref r) .none) _ _ _
  refine wpAny_bind ?_
  unfold Builtin.List.listItems
  refine wpAny_bind (wpAny_seqItems hS rfl (wpAny_pure ?_))
  show wpAny _ _ (updateSeq s.heap.objs.size (fun _ => #[]) >>= fun _ => letGo (#[] : Array Value).toList.reverse >>= fun _ => Builtin.List.listExtendWith (.ref s.heap.objs.size) (.ref r) .none) _ _ _
  refine wpAny_bind (wpAny_updateSeq hS rfl (wpAny_bind (wpAny_letGo ?_)))
  have oth : ∀ b o, s.heap.get? b = some o → ((s.heap.push { cls := .type "list", data := .seq #[] }).update s.heap.objs.size (Obj.mapSeq (fun _ => (#[] : Array Value)))).get? b = some o := fun b o e =>
    (Heap.get?_update_other _ _ (Nat.ne_of_gt (Heap.lt_size e))).trans (Heap.get?_push_of_some _ e)
  refine ext_rev (A := A.in1) hh hn (g.at fun o e => oth r o e) (gl.at fun o e => oth l o e) ne (Heap.get?_update_self (Obj.mapSeq (fun _ => (#[] : Array Value))) hS rfl) (Nat.ne_of_gt rlt) (Nat.ne_of_gt llt) fun h1 tk acc c1 k1 k2 k3 => ⟨rfl, ?_⟩
  exact q h1 tk acc c1 (fun b o n1 e => k1 b o (Nat.ne_of_lt (Heap.lt_size e)) n1 (oth b o e)) k2 k3
end
section
variable {X : Cx}
def tRev (K : PySem.W.Frag) (te : TE) : TE := fun σ H Q => te σ H fun x H1 => ∃ a xs, x = .ref a ∧ SqL K H1 a xs ∧ ∀ p, H1 p = none → Q (.ref p) (upd H1 p (.lst xs.reverse))
theorem items_rev {us : List Value} {acc : Array Value} (h : ItemsOf (fun i v => us.toArray[us.toArray.size - 1 - i]? = some v) acc us.toArray.size) : acc.toList = us.reverse := by
  obtain ⟨h1, h2⟩ := h
  refine List.ext_getElem (by simpa using h1) fun i l1 l2 => ?_
  have k := h2 i acc[i] (Array.getElem?_eq_getElem (by simpa using l1))
  have l3 : i < us.length := by simpa using l2
  rw [List.getElem_reverse]
  have k' : us[us.length - 1 - i]? = some acc[i] := by simpa using k
  rw [List.getElem?_eq_getElem (by omega)] at k'
  simpa using (Option.some.inj k').symm
theorem pe_listrev {p1 p2 pos pos2 : Pos} {e : Expr} {te : TE} (hc : X.calm = true) (g1 : Gl X "list") (m1 : X.mg "list" = none) (g2 : Gl X "reversed") (m2 : X.mg "reversed" = none) (he : PE X e te) (hs : starEach [e] X.env = [(false, eval e X.env)] := by rfl)
    (hs2 : starEach [.Call (.Name "reversed" p2) [e] [] pos2] X.env = [(false, eval (.Call (.Name "reversed" p2) [e] [] pos2) X.env)] := by rfl) :
    PE X (.Call (.Name "list" p1) [.Call (.Name "reversed" p2) [e] [] pos2] [] pos) (tRev X.K te) := by
  intro pins s σ H Q I h
  refine wpAny_Call_Name_kw (ld_blt I g1 m1 boot_list ?_)
  refine PyProof.Rows.callWith_type1 ?_ (by rw [hs2]; rfl) rfl
  rw [hs2]
  show wpAny _ _ (spliced ((false, eval (.Call (.Name "reversed" p2) [e] [] pos2) X.env) :: [])) _ _ s
  refine Calls.spliced_cons ?_
  refine wpAny_Call_Name_kw (ld_blt I g2 m2 boot_reversed ?_)
  refine PyProof.Rows.callWith_type1 ?_ (by rw [hs]; rfl) rfl
  have ha : PA X [e] (tCons te tNil) := pa_cons he pa_nil (by rw [hs]; rfl)
  refine thn (ha pos2 pins s σ H (fun vs H1 => match vs with | [x] => ∃ a xs, x = .ref a ∧ SqL X.K H1 a xs ∧ ∀ p, H1 p = none → Q (.ref p) (upd H1 p (.lst xs.reverse)) | _ => False) I h) fun us s1 q1 => ?_
  obtain ⟨vs, H1, I1, r1, q1⟩ := q1
  cases r1 with
  | nil => exact q1.elim
  | cons r rr =>
    cases rr with
    | cons _ _ => exact q1.elim
    | nil =>
      obtain ⟨a, xs, e, hq, q⟩ := q1
      subst e
      cases r
      obtain ⟨its, rv, pl, hz⟩ := I1.list hq
      have hlen := rv.length
      have alt : a < s1.heap.objs.size := by obtain ⟨_, e, _⟩ := pl.isList; exact Heap.lt_size e
      refine call_reversed_list pl.isList ?_
      refine Calls.spliced_nil ?_
      refine call_list_rv (I1.ok.hd hc) (by simp; omega) ⟨_, Heap.get?_push_size _ rfl, rfl, rfl⟩ (pl.isList.at fun o e => Heap.get?_push_of_some _ e) (Nat.ne_of_lt alt) fun h1 tk acc c1 k1 k2 k3 => ?_
      have sz : (s1.heap.push (revObj a ((its.toArray.size : Int) - 1))).objs.size = s1.heap.objs.size + 1 := Heap.size_push ..
      have le : s1.heap.objs.size ≤ (s1.heap.push (revObj a ((its.toArray.size : Int) - 1))).objs.size := by rw [sz]; exact Nat.le_succ _
      refine ⟨.ref _, upd H1 _ (.lst xs.reverse), I1.laid (t' := tk) (fun b o e => k1 b o (Nat.ne_of_lt (Heap.lt_size e)) (Heap.get?_push_of_some _ e)) le ?_, rfl, q _ (I1.hok.fresh le)⟩
      refine ⟨by rw [List.length_reverse]; exact hz, its.reverse, c1, rv.reverse, ?_⟩
      have z := items_rev k3
      rw [k2, ← z]
end
end L2.Bw

end
section
set_option Elab.async false
set_option linter.all false
set_option maxRecDepth 100000
namespace L2.Bw
open PySem PySem.Spec PyProof.Rows
theorem ps_setX {X : Cx} {pos pos' : Pos} {i : Nat} {x : Str} {e : Expr} {te : TE} (hN : X.N.Nodup) (hi : X.N[i]? = some x) (hx : Loc X.env.scope x) (hs : swapsWith e (some (.Name x pos')) pos.line X.env = pure false) (hf : X.fn x = true ∨ X.env.scope.names.lookup x = some .local) (he : PE X e te) :
    PS X (.Assign [.Name x pos'] e pos) (tAsg te (gName i)) := ps_set hN hi hx he hs hf
end L2.Bw
/-! The mathematics of law k11: words, forms, nodes, trees. -/
namespace L2.K11
open PySem PySem.Spec PyProof.Rows L2.Bw

def table : List (Str × List Str) := [("whole", ["number"]), ("truth", ["truth"]), ("given", ["given"]), ("name", ["name"]), ("fn", ["name", "kind", "node"]), ("self", ["name", "name", "kind", "kind", "node"]), ("call", ["node", "node"]),
  ("let", ["name", "node", "node"]), ("if", ["node", "node", "node"]), ("do", ["sign", "node", "node"]), ("row", ["kind", "nodes"]), ("at", ["node", "node"]), ("size", ["node"]), ("pair", ["node", "node"]), ("one", ["node"]), ("two", ["node"]),
  ("as", ["kind", "node"]), ("look", ["put in", "put in", "node"])]
def words : List Str := table.map (·.1)
def cnt (ys : List Str) (z : Str) : Nat := ys.countP fun y => decide (y = z)
def nf (x : Str) : Nat := if x = "whole" then 1 else if x = "truth" then 1 else if x = "given" then 1 else if x = "do" then 1 else cnt ["name", "fn", "let", "self", "self"] x
def nk (x : Str) : Nat := cnt ["fn", "self", "self", "row", "as", "look", "look"] x
def np (x : Str) : Nat := if x = "if" then 3 else if x ∈ (["call", "let", "do", "at", "pair"] : List Str) then 2 else if x ∈ (["whole", "truth", "given", "name"] : List Str) then 0 else 1
def rng (lo n : Nat) : List Int := (List.range' lo n).map fun (i : Nat) => (i : Int)
/-- a node by its things -/
def nodeD (x : Str) (p : Int) (fr ks ps : List Dt) : Dt := if x = "row" then .tup [.str x, .int p, ks.headD (.int 0), .tup ps] else .tup (.str x :: .int p :: (fr ++ ks ++ ps))
structure Nd (x : Str) (fr ks ps : List Dt) : Prop where
  w : x ∈ words
  f : fr.length = nf x
  k : ks.length = nk x
  p : x ≠ "row" → ps.length = np x
  few : ps.length ≤ 4
inductive Tr where
  | mk (x : Str) (p : Int) (fr ks : List Dt) (ps : List Tr)
mutual
def Tr.d : Tr → Dt
  | .mk x p fr ks ps => nodeD x p fr ks (Tr.ds ps)
def Tr.ds : List Tr → List Dt
  | [] => []
  | t :: r => t.d :: Tr.ds r
end
mutual
def Tr.ok : Tr → Prop
  | .mk x _ fr ks ps => x ≠ "look" ∧ Nd x fr ks (Tr.ds ps) ∧ dps fr = 0 ∧ dps ks ≤ 4 ∧ nars ks ∧ Tr.oks ps
def Tr.oks : List Tr → Prop
  | [] => True
  | t :: r => t.ok ∧ Tr.oks r
end
mutual
def Tr.pl : Tr → List Int
  | .mk _ p _ _ ps => p :: Tr.pls ps
def Tr.pls : List Tr → List Int
  | [] => []
  | t :: r => t.pl ++ Tr.pls r
end
mutual
def Tr.ns : Tr → Nat
  | .mk _ _ _ _ ps => 1 + Tr.nss ps
def Tr.nss : List Tr → Nat
  | [] => 0
  | t :: r => max t.ns (Tr.nss r)
end
theorem ds_length : ∀ (ps : List Tr), (Tr.ds ps).length = ps.length
  | [] => rfl
  | _ :: r => by show (Tr.ds r).length + 1 = r.length + 1; rw [ds_length r]
theorem ds_append : ∀ (ps qs : List Tr), Tr.ds (ps ++ qs) = Tr.ds ps ++ Tr.ds qs
  | [], _ => rfl
  | t :: r, qs => by show t.d :: Tr.ds (r ++ qs) = t.d :: (Tr.ds r ++ Tr.ds qs); rw [ds_append r qs]
end L2.K11

end
section
set_option Elab.async false
set_option linter.all false
namespace L2.Bw
open PySem PySem.Spec PyProof.Rows
/-- a fact in a box: what is in it isn't unfolded -/
structure Bx (p : Prop) : Prop where
  out : p
section
variable {P : Program} {w : World} {K : PySem.W.Frag} {mg : Str → Option Value} {base : Heap}
end
end L2.Bw

end
section
set_option Elab.async false
set_option linter.all false
set_option maxRecDepth 100000
/-! Data as in BwData, with None, and with tuples of the program's top among them. -/
namespace L2.Bk
open PySem PySem.Spec PyProof.Rows L2.Bw PyProof.Rows.LSm
/-- a tuple of the program's top -/
def Kt (K : PySem.W.Frag) (a : Addr) (xs : List V) : Prop := ∃ (o : Obj) (its : Array Value) (n : Nat), K.lookup a = some o ∧ o.cls = .type "tuple" ∧ o.data = .seq its n ∧ its.size ≤ sizeLine ∧ Vals xs its.toList
def Tp (K : PySem.W.Frag) (H : Hp) (a : Addr) (xs : List V) : Prop := H a = some (.tup xs) ∨ Kt K a xs
theorem Tp.of {K : PySem.W.Frag} {H : Hp} {a : Addr} {xs : List V} (h : H a = some (.tup xs)) : Tp K H a xs := .inl h
theorem Tp.sq {K : PySem.W.Frag} {H : Hp} {a : Addr} {xs : List V} (h : Tp K H a xs) : SqT K H a xs := by
  rcases h with h | h
  · exact SqT.of h
  · exact .inr h
theorem Tp.mono {K : PySem.W.Frag} {H H' : Hp} {a : Addr} {xs : List V} (h : Tp K H a xs) (m : Tm H H') : Tp K H' a xs := by
  rcases h with h | h
  · exact .inl (m _ _ h)
  · exact .inr h
inductive Dk where
  | non
  | int (i : Int)
  | bl (b : Bool)
  | str (x : Str)
  | tup (xs : List Dk)
mutual
def RK (K : PySem.W.Frag) (H : Hp) : Dk → V → Prop
  | .non, v => v = .non
  | .int i, v => v = .int i
  | .bl b, v => v = .bl b
  | .str x, v => v = .str x
  | .tup ds, v => ∃ a vs, v = .ref a ∧ Tp K H a vs ∧ RKs K H ds vs
def RKs (K : PySem.W.Frag) (H : Hp) : List Dk → List V → Prop
  | [], vs => vs = []
  | d :: ds, vs => ∃ v r, vs = v :: r ∧ RK K H d v ∧ RKs K H ds r
end
mutual
def Dk.dq : Dk → Nat
  | .tup ds => 1 + dqs ds
  | .non => 0
  | .int _ => 0
  | .bl _ => 0
  | .str _ => 0
def dqs : List Dk → Nat
  | [] => 0
  | d :: ds => max d.dq (dqs ds)
end
mutual
def Dk.nr : Dk → Prop
  | .tup ds => ds.length ≤ 1000 ∧ nrs ds
  | .non => True
  | .int _ => True
  | .bl _ => True
  | .str _ => True
def nrs : List Dk → Prop
  | [] => True
  | d :: ds => d.nr ∧ nrs ds
end
theorem nr_non : Dk.non.nr := by rw [Dk.nr]; trivial
theorem nr_str (x : Str) : (Dk.str x).nr := by rw [Dk.nr]; trivial
theorem nr_int (x : Int) : (Dk.int x).nr := by rw [Dk.nr]; trivial
theorem nrs_of : ∀ {ds : List Dk}, (∀ d ∈ ds, d.nr) → nrs ds
  | [], _ => by rw [nrs]; trivial
  | d :: r, h => by rw [nrs]; exact ⟨h d List.mem_cons_self, nrs_of fun e he => h e (List.mem_cons_of_mem _ he)⟩
theorem nrs_mem : ∀ {ds : List Dk}, nrs ds → ∀ d ∈ ds, d.nr
  | e :: r, h, d, hd => by
    rw [nrs] at h
    rcases List.mem_cons.mp hd with rfl | z
    · exact h.1
    · exact nrs_mem h.2 d z
theorem nr_l0 : ∀ d ∈ ([] : List Dk), d.nr := fun d h => nomatch h
theorem nr_lc {a : Dk} {r : List Dk} (h : a.nr) (t : ∀ d ∈ r, d.nr) : ∀ d ∈ a :: r, d.nr := fun d hd => by
  rcases List.mem_cons.mp hd with z | z
  · rw [z]; exact h
  · exact t d z
theorem nr_mk {ds : List Dk} (h : ds.length ≤ 1000) (hs : ∀ d ∈ ds, d.nr) : (Dk.tup ds).nr := by rw [Dk.nr]; exact ⟨h, nrs_of hs⟩
theorem nr_tup {ds : List Dk} (h : (Dk.tup ds).nr) : ds.length ≤ 1000 ∧ nrs ds := by rw [Dk.nr] at h; exact h
theorem dq_tup (ds : List Dk) : (Dk.tup ds).dq = 1 + dqs ds := by rw [Dk.dq]
theorem dq_non : Dk.non.dq = 0 := by rw [Dk.dq]
theorem dq_str (x : Str) : (Dk.str x).dq = 0 := by rw [Dk.dq]
theorem dq_int (x : Int) : (Dk.int x).dq = 0 := by rw [Dk.dq]
theorem dq_bl (x : Bool) : (Dk.bl x).dq = 0 := by rw [Dk.dq]
theorem dqs_nil : dqs [] = 0 := by rw [dqs]
theorem dqs_cons (d : Dk) (ds : List Dk) : dqs (d :: ds) = max d.dq (dqs ds) := by rw [dqs]
theorem RK.n {K : PySem.W.Frag} {H : Hp} : RK K H .non .non := by rw [RK]
theorem RK.s {K : PySem.W.Frag} {H : Hp} (x : Str) : RK K H (.str x) (.str x) := by rw [RK]
theorem RK.i {K : PySem.W.Frag} {H : Hp} (x : Int) : RK K H (.int x) (.int x) := by rw [RK]
theorem RK.b {K : PySem.W.Frag} {H : Hp} (x : Bool) : RK K H (.bl x) (.bl x) := by rw [RK]
theorem RKs.nil {K : PySem.W.Frag} {H : Hp} : RKs K H [] [] := rfl
theorem RKs.cons {K : PySem.W.Frag} {H : Hp} {d : Dk} {ds : List Dk} {v : V} {vs : List V} (h : RK K H d v) (t : RKs K H ds vs) : RKs K H (d :: ds) (v :: vs) := ⟨v, vs, rfl, h, t⟩
theorem RK.tup {K : PySem.W.Frag} {H : Hp} {a : Addr} {ds : List Dk} {vs : List V} (h : Tp K H a vs) (t : RKs K H ds vs) : RK K H (.tup ds) (.ref a) := ⟨a, vs, rfl, h, t⟩
theorem RKs.length {K : PySem.W.Frag} {H : Hp} : ∀ {ds : List Dk} {vs : List V}, RKs K H ds vs → ds.length = vs.length
  | [], vs, h => by cases (show vs = [] from h); rfl
  | d :: ds, vs, ⟨v, r, e, _, t⟩ => by subst e; simp [RKs.length t]
theorem RKs.get {K : PySem.W.Frag} {H : Hp} : ∀ {ds : List Dk} {vs : List V} {i : Nat} {d : Dk}, RKs K H ds vs → ds[i]? = some d → ∃ v, vs[i]? = some v ∧ RK K H d v
  | [], _, _, _, _, e => by simp at e
  | d :: ds, vs, 0, d', ⟨v, r, e, h, _⟩, e' => by subst e; simp at e'; subst e'; exact ⟨v, rfl, h⟩
  | d :: ds, vs, i + 1, d', ⟨v, r, e, _, t⟩, e' => by
    subst e
    obtain ⟨u, h1, h2⟩ := RKs.get (i := i) t (by simpa using e')
    exact ⟨u, by simpa using h1, h2⟩
theorem RKs.getV {K : PySem.W.Frag} {H : Hp} : ∀ {ds : List Dk} {vs : List V} {i : Nat} {v : V}, RKs K H ds vs → vs[i]? = some v → ∃ d, ds[i]? = some d ∧ RK K H d v := fun {ds vs i v} h e => by
  have hl := h.length
  have hi : i < ds.length := by rw [hl]; exact (List.getElem?_eq_some_iff.mp e).1
  obtain ⟨u, h1, h2⟩ := h.get (List.getElem?_eq_getElem hi)
  rw [e] at h1; cases h1
  exact ⟨_, List.getElem?_eq_getElem hi, h2⟩
theorem RKs.append {K : PySem.W.Frag} {H : Hp} : ∀ {ds es : List Dk} {vs us : List V}, RKs K H ds vs → RKs K H es us → RKs K H (ds ++ es) (vs ++ us)
  | [], _, vs, _, h, t => by cases (show vs = [] from h); exact t
  | d :: ds, es, vs, us, ⟨v, r, e, h, t'⟩, t => by subst e; exact .cons h (RKs.append t' t)
theorem RKs.drop {K : PySem.W.Frag} {H : Hp} : ∀ {ds : List Dk} {vs : List V} (n : Nat), RKs K H ds vs → RKs K H (ds.drop n) (vs.drop n)
  | _, _, 0, h => h
  | [], vs, n + 1, h => by cases (show vs = [] from h); exact rfl
  | d :: ds, vs, n + 1, ⟨v, r, e, h, t⟩ => by subst e; exact RKs.drop n t
theorem RKs.take {K : PySem.W.Frag} {H : Hp} : ∀ {ds : List Dk} {vs : List V} (n : Nat), RKs K H ds vs → RKs K H (ds.take n) (vs.take n)
  | _, _, 0, _ => rfl
  | [], vs, n + 1, h => by cases (show vs = [] from h); exact rfl
  | d :: ds, vs, n + 1, ⟨v, r, e, h, t⟩ => by subst e; exact .cons h (RKs.take n t)
theorem RKs.split {K : PySem.W.Frag} {H : Hp} : ∀ {ds es : List Dk} {vs : List V}, RKs K H (ds ++ es) vs → ∃ us ws, vs = us ++ ws ∧ RKs K H ds us ∧ RKs K H es ws
  | [], _, vs, h => ⟨[], vs, rfl, rfl, h⟩
  | d :: ds, es, vs, ⟨v, r, e, h, t⟩ => by
    subst e
    obtain ⟨us, ws, e, h1, h2⟩ := RKs.split t
    subst e
    exact ⟨v :: us, ws, rfl, .cons h h1, h2⟩
mutual
theorem RK.mono {K : PySem.W.Frag} {H H' : Hp} (m : Tm H H') : ∀ {d : Dk} {v : V}, RK K H d v → RK K H' d v
  | .non, _, h => h
  | .int _, _, h => h
  | .bl _, _, h => h
  | .str _, _, h => h
  | .tup _, _, ⟨a, vs, e, h, t⟩ => ⟨a, vs, e, h.mono m, RKs.mono m t⟩
theorem RKs.mono {K : PySem.W.Frag} {H H' : Hp} (m : Tm H H') : ∀ {ds : List Dk} {vs : List V}, RKs K H ds vs → RKs K H' ds vs
  | [], _, h => h
  | _ :: _, _, ⟨v, r, e, h, t⟩ => ⟨v, r, e, RK.mono m h, RKs.mono m t⟩
end
theorem dqs_mem {d : Dk} : ∀ {ds : List Dk}, d ∈ ds → d.dq ≤ dqs ds
  | e :: ds, h => by
    rcases List.mem_cons.mp h with rfl | h
    · exact Nat.le_max_left _ _
    · exact Nat.le_trans (dqs_mem h) (Nat.le_max_right _ _)
theorem _root_.L2.Room.u1 {k : Nat} {A : Around} (r : Room k A) : A.units + 1 < cLine := by have := r.un; omega
section
variable {X : Cx}
def IsJ (K : PySem.W.Frag) (H : Hp) (x : V) (n : String) (b : Bool) : Prop := IsI K H x n b ∨ ∃ a xs, x = .ref a ∧ Kt K a xs ∧ PySem.W.kitOne K (.type "tuple") (.type n) = some b
theorem call_isj : CallR X (.builtin "isinstance") (fun xs H Q => ∃ x n b, xs = [x, .ty n] ∧ IsJ X.K H x n b ∧ Q (.bl b) H) := by
  intro pins s σ H xs us Q I r h
  obtain ⟨x, n, b, e, ty, q⟩ := h
  rcases ty with ty | ⟨a, ys, e', ⟨o, its, m, hk, hc, hd, hz, rv⟩, k⟩
  · exact call_isi pins s σ H xs us Q I r ⟨x, n, b, e, ty, q⟩
  · subst e e'
    obtain ⟨u, w, e, ru, rw'⟩ := Vals.two r
    subst e
    cases rw'
    cases (show u = Value.ref a from ru)
    exact PySem.W.kia_one PySem.W.kitx_tuple I.kIn ⟨o, I.kIn a o hk, hc⟩ k (fun z => nomatch z) fun tk => ⟨.bl b, H, I.tok tk, rfl, q⟩
theorem boolsAre_of : ∀ {bs : List Bool} {us : List Value}, Vals (bs.map V.bl) us → BoolsAre us bs
  | [], _, h => by cases h; exact .nil
  | y :: ys, _, h => by
    cases h with
    | cons r t =>
      cases (show _ = Value.bool y from r)
      exact .cons _ (boolsAre_of t)
theorem range_allB (bs : List Bool) : ((List.range bs.length).all fun i => (bs[i]?).getD true) = bs.all id := by
  rw [Bool.eq_iff_iff, List.all_eq_true, List.all_eq_true]
  constructor
  · intro h b hb
    obtain ⟨i, hi, rfl⟩ := List.getElem_of_mem hb
    have := h i (List.mem_range.mpr hi)
    simp only [List.getElem?_eq_getElem hi, Option.getD_some] at this
    exact this
  · intro h i hi
    have hi' := List.mem_range.mp hi
    simp only [List.getElem?_eq_getElem hi', Option.getD_some]
    exact h _ (List.getElem_mem hi')
theorem call_all (hc : X.calm = true) : CallR X (.builtin "all") (fun xs H Q => ∃ (l : Addr) (bs : List Bool), xs = [.ref l] ∧ SqL X.K H l (bs.map V.bl) ∧ Q (.bl (bs.all id)) H) := by
  intro pins s σ H xs us Q I r h
  obtain ⟨l, bs, e, hl, q⟩ := h
  subst e
  obtain ⟨u, e, ru⟩ := Vals.one r
  subst e
  cases ru
  obtain ⟨its, rv, p, hz⟩ := I.list hl
  have hb := boolsAre_of rv
  have hi := p.isList
  have hlt : l < s.heap.objs.size := by obtain ⟨_, e, _⟩ := hi; exact Heap.lt_size e
  refine call_all_walk (wpAny_pyIter_list hi ?_)
  refine ⟨s.heap.objs.size, [s.heap.objs.size, l], [s.heap.objs.size], its.toArray.size, _, _, fun i => (bs[i]?).getD true, rfl, Walks.list (A := X.A.in1) (I.ok.hd hc) _ l (Nat.ne_of_lt hlt) its.toArray,
    ⟨⟨_, Heap.get?_push_size _ rfl, rfl, rfl⟩, hi.push _⟩, fun i v s' Q' E' hP hQ => ?_, fun h' tk hk => ?_⟩
  · obtain ⟨b, e, e'⟩ := hb.get i v (by simpa using hP)
    subst e'
    simp only [e, Option.getD_some] at hQ
    exact wpAny_truthy_bool hQ
  · have e : ((List.range its.toArray.size).all fun i => (bs[i]?).getD true) = bs.all id := by
      rw [List.size_toArray, hb.length]; exact range_allB bs
    rw [e]
    exact ⟨.bl _, H, I.kept fun b o e => hk b o (fun hm => by rw [List.mem_singleton.mp hm] at e; exact Nat.lt_irrefl _ (Heap.lt_size e)) (Heap.get?_push_of_some _ e), rfl, q⟩
theorem rk_eq {s : Shared} {pins : List (Addr × Obj)} {σ : St} {H : Hp} (I : Inv X pins σ H s) : ∀ (n : Nat) {A : Around} {d : Dk} {x y : V} {u v : Value}, d.dq ≤ n → RK X.K H d x → RK X.K H d y → RelV x u → RelV y v → A.units + n < cLine → SeqAt.EqAt A s u v true := by
  intro n
  induction n with
  | zero =>
    intro A d x y u v hn hx hy ru rv hu
    cases d with
    | non => cases (show x = .non from hx); cases (show y = .non from hy); have k := eqAt_V (A := A) (s := s) ru rv rfl rfl; simpa [eqV] using k
    | int i => cases (show x = .int i from hx); cases (show y = .int i from hy); have k := eqAt_V (A := A) (s := s) ru rv rfl rfl; simpa [eqV] using k
    | bl b => cases (show x = .bl b from hx); cases (show y = .bl b from hy); have k := eqAt_V (A := A) (s := s) ru rv rfl rfl; simpa [eqV] using k
    | str z => cases (show x = .str z from hx); cases (show y = .str z from hy); have k := eqAt_V (A := A) (s := s) ru rv rfl rfl; simpa [eqV] using k
    | tup ds => have k : 1 + dqs ds ≤ 0 := hn; omega
  | succ n ih =>
    intro A d x y u v hn hx hy ru rv hu
    cases d with
    | non => cases (show x = .non from hx); cases (show y = .non from hy); have k := eqAt_V (A := A) (s := s) ru rv rfl rfl; simpa [eqV] using k
    | int i => cases (show x = .int i from hx); cases (show y = .int i from hy); have k := eqAt_V (A := A) (s := s) ru rv rfl rfl; simpa [eqV] using k
    | bl b => cases (show x = .bl b from hx); cases (show y = .bl b from hy); have k := eqAt_V (A := A) (s := s) ru rv rfl rfl; simpa [eqV] using k
    | str z => cases (show x = .str z from hx); cases (show y = .str z from hy); have k := eqAt_V (A := A) (s := s) ru rv rfl rfl; simpa [eqV] using k
    | tup ds =>
      have hn' : 1 + dqs ds ≤ n + 1 := hn
      obtain ⟨a, vs, e, ha, ta⟩ := hx
      obtain ⟨b, ws, e', hb, tb⟩ := hy
      subst e e'
      cases ru; cases rv
      by_cases hab : a = b
      · subst hab; exact SeqAt.EqAt.same _
      · obtain ⟨i1, r1, p1, z1⟩ := I.tuple ha.sq
        obtain ⟨i2, r2, p2, z2⟩ := I.tuple hb.sq
        have l1 := r1.length
        have l2 := r2.length
        have l3 := ta.length
        have l4 := tb.length
        have key := SeqAt.RcAt.tuples (A := A) (s := s) (e := fun _ => true) p1 p2 (by omega) fun j h1 h2 => by
          have hjd : j < ds.length := by simp at h1; omega
          obtain ⟨x1, e1, q1⟩ := ta.get (List.getElem?_eq_getElem hjd)
          obtain ⟨y1, e2, q2⟩ := tb.get (List.getElem?_eq_getElem hjd)
          obtain ⟨u1, f1, w1⟩ := r1.get e1
          obtain ⟨v1, f2, w2⟩ := r2.get e2
          have g1 : i1.toArray[j] = u1 := by
            have h1' : j < i1.length := by simpa using h1
            rw [List.getElem?_eq_getElem h1'] at f1
            simpa using f1
          have g2 : i2.toArray[j] = v1 := by
            have h2' : j < i2.length := by simpa using h2
            rw [List.getElem?_eq_getElem h2'] at f2
            simpa using f2
          rw [g1, g2]
          have k := dqs_mem (List.getElem_mem hjd)
          exact ih (A := A.in1) (by omega) q1 q2 w1 w2 (by show A.units + 1 + n < cLine; omega)
        have val : ((List.range (min i1.toArray.size i2.toArray.size)).all (fun _ => true) && i1.toArray.size == i2.toArray.size) = true := by
          simp; omega
        rw [val] at key
        exact SeqAt.EqAt.of_refs hab key
/-- what == tells of two lists or tuples -/
inductive EqK (K : PySem.W.Frag) (H : Hp) : V → V → Bool → Prop where
  | lists {a c : Addr} {vs ws : List V} {ds : List Dk} (ha : SqL K H a vs) (hc : SqL K H c ws) (ta : RKs K H ds vs) (tc : RKs K H ds ws) (hd : dqs ds ≤ 60) : EqK K H (.ref a) (.ref c) true
  | lens {a c : Addr} {vs ws : List V} (ha : SqL K H a vs) (hc : SqL K H c ws) (hl : vs.length ≠ ws.length) : EqK K H (.ref a) (.ref c) false
  | data {x y : V} {ds : List Dk} (hx : RK K H (.tup ds) x) (hy : RK K H (.tup ds) y) (hd : dqs ds ≤ 60) : EqK K H x y true
  | heads {a c : Addr} {h z : Str} {r : List V} (ha : SqT K H a (.str h :: r)) (hc : SqT K H c [.str z]) : EqK K H (.ref a) (.ref c) (decide (h = z) && r.isEmpty)
theorem item_k {vs : List V} {us : List Value} {j : Nat} {x : V} (r : Vals vs us) (hx : vs[j]? = some x) (h : j < us.toArray.size) : RelV x us.toArray[j] := by
  obtain ⟨u, f, w⟩ := r.get hx
  have h' : j < us.length := by simpa using h
  rw [List.getElem?_eq_getElem h'] at f
  cases f
  simpa using w
theorem eqk_ok {k : Nat} (hr : Room k X.A) {s : Shared} {pins : List (Addr × Obj)} {σ : St} {H : Hp} (I : Inv X pins σ H s) {x y : V} {u v : Value} {b : Bool} (h : EqK X.K H x y b) (rx : RelV x u) (ry : RelV y v) : SeqAt.RcAt X.A s u v b ∧ SeqAt.RcNeAt X.A s u v (!b) := by
  have hu := hr.units
  cases h with
  | @lists a c vs ws ds ha hc ta tc hd =>
    cases rx; cases ry
    obtain ⟨i1, r1, p1, z1⟩ := I.list ha
    obtain ⟨i2, r2, p2, z2⟩ := I.list hc
    have l1 := r1.length
    have l2 := r2.length
    have l3 := ta.length
    have l4 := tc.length
    have it : ∀ j (h1 : j < i1.toArray.size) (h2 : j < i2.toArray.size), SeqAt.EqAt X.A.in1 s i1.toArray[j] i2.toArray[j] ((fun _ => true) j) := fun j h1 h2 => by
      have hjd : j < ds.length := by simp at h1; omega
      obtain ⟨x1, e1, q1⟩ := ta.get (List.getElem?_eq_getElem hjd)
      obtain ⟨y1, e2, q2⟩ := tc.get (List.getElem?_eq_getElem hjd)
      have k := dqs_mem (List.getElem_mem hjd)
      exact rk_eq I 60 (A := X.A.in1) (by omega) q1 q2 (item_k r1 e1 h1) (item_k r2 e2 h2) (by show X.A.units + 1 + 60 < cLine; omega)
    have e : (List.range i1.toArray.size).all (fun _ => true) = true := by simp
    have k1 := SeqAt.RcAt.lists (A := X.A) (s := s) p1.isList p2.isList (by simp; omega) (by omega) it
    have k2 := SeqAt.RcNeAt.lists (A := X.A) (s := s) p1.isList p2.isList (by simp; omega) (by omega) it
    rw [e] at k1 k2
    exact ⟨k1, k2⟩
  | @lens a c vs ws ha hc hl =>
    cases rx; cases ry
    obtain ⟨i1, r1, p1, z1⟩ := I.list ha
    obtain ⟨i2, r2, p2, z2⟩ := I.list hc
    have l1 := r1.length
    have l2 := r2.length
    exact ⟨SeqAt.RcAt.lists_lengths p1.isList p2.isList (by simp; omega) (by omega), SeqAt.RcNeAt.lists_lengths p1.isList p2.isList (by simp; omega) (by omega)⟩
  | @data x y ds hx hy hd =>
    obtain ⟨a, vs, e1, ha, ta⟩ := (show ∃ a vs, x = .ref a ∧ Tp X.K H a vs ∧ RKs X.K H ds vs by rw [RK] at hx; exact hx)
    obtain ⟨c, ws, e2, hc, tc⟩ := (show ∃ a vs, y = .ref a ∧ Tp X.K H a vs ∧ RKs X.K H ds vs by rw [RK] at hy; exact hy)
    subst e1 e2
    cases rx; cases ry
    obtain ⟨i1, r1, p1, z1⟩ := I.tuple ha.sq
    obtain ⟨i2, r2, p2, z2⟩ := I.tuple hc.sq
    have l1 := r1.length
    have l2 := r2.length
    have l3 := ta.length
    have l4 := tc.length
    have it : ∀ j (h1 : j < i1.toArray.size) (h2 : j < i2.toArray.size), SeqAt.EqAt X.A.in1 s i1.toArray[j] i2.toArray[j] ((fun _ => true) j) := fun j h1 h2 => by
      have hjd : j < ds.length := by simp at h1; omega
      obtain ⟨x1, e1, q1⟩ := ta.get (List.getElem?_eq_getElem hjd)
      obtain ⟨y1, e2, q2⟩ := tc.get (List.getElem?_eq_getElem hjd)
      have k := dqs_mem (List.getElem_mem hjd)
      exact rk_eq I 60 (A := X.A.in1) (by omega) q1 q2 (item_k r1 e1 h1) (item_k r2 e2 h2) (by show X.A.units + 1 + 60 < cLine; omega)
    have e : ((List.range (min i1.toArray.size i2.toArray.size)).all (fun _ => true) && i1.toArray.size == i2.toArray.size) = true := by
      simp; omega
    have k1 := SeqAt.RcAt.tuples (A := X.A) (s := s) p1 p2 (by omega) it
    have k2 := SeqAt.RcNeAt.tuples (A := X.A) (s := s) p1 p2 (by omega) it
    rw [e] at k1 k2
    exact ⟨k1, k2⟩
  | @heads a c h z r ha hc =>
    cases rx; cases ry
    obtain ⟨i1, r1, p1, z1⟩ := I.tuple ha
    obtain ⟨i2, r2, p2, z2⟩ := I.tuple hc
    have l1 := r1.length
    have l2 := r2.length
    have it : ∀ j (h1 : j < i1.toArray.size) (h2 : j < i2.toArray.size), SeqAt.EqAt X.A.in1 s i1.toArray[j] i2.toArray[j] ((fun _ => decide (h = z)) j) := fun j h1 h2 => by
      have hj : j = 0 := by simp at h2 l2; omega
      subst hj
      have k := eqAt_V (A := X.A.in1) (s := s) (item_k r1 (x := .str h) rfl h1) (item_k r2 (x := .str z) rfl h2) rfl rfl
      have e : eqV (.str h) (.str z) = decide (h = z) := by show (h == z) = _; by_cases q : h = z <;> simp [q]
      rw [e] at k
      exact k
    have e : ((List.range (min i1.toArray.size i2.toArray.size)).all (fun _ => decide (h = z)) && i1.toArray.size == i2.toArray.size) = (decide (h = z) && r.isEmpty) := by
      have m : min i1.toArray.size i2.toArray.size = 1 := by simp at l1 l2 ⊢; omega
      rw [m]
      simp at l1 l2
      cases r with
      | nil => simp at l1; simp [← l1, ← l2]
      | cons q r => simp at l1; simp [← l1, ← l2]
    have k1 := SeqAt.RcAt.tuples (A := X.A) (s := s) p1 p2 (by omega) it
    have k2 := SeqAt.RcNeAt.tuples (A := X.A) (s := s) p1 p2 (by omega) it
    rw [e] at k1 k2
    exact ⟨k1, k2⟩
def rEqK (K : PySem.W.Frag) : R2 := fun x y H Q => (scal x y = true ∧ Q (.bl (decide (x = y))) H) ∨ ∃ b, EqK K H x y b ∧ Q (.bl b) H
def rNeK (K : PySem.W.Frag) : R2 := fun x y H Q => (scal x y = true ∧ Q (.bl (!decide (x = y))) H) ∨ ∃ b, EqK K H x y b ∧ Q (.bl (!b)) H
theorem op_eqK {k : Nat} (hr : Room k X.A) : OpR X (compareOp .Eq) (rEqK X.K) := by
  intro pins s σ H x y v u Q I rx ry h
  rcases h with h | ⟨b, h, q⟩
  · exact op_eq pins s σ H x y v u Q I rx ry h
  · exact (eqk_ok hr I h rx ry).1 _ _ _ _ ⟨.bl b, H, I, rfl, q⟩
theorem op_neK {k : Nat} (hr : Room k X.A) : OpR X (compareOp .NotEq) (rNeK X.K) := by
  intro pins s σ H x y v u Q I rx ry h
  rcases h with h | ⟨b, h, q⟩
  · exact op_ne pins s σ H x y v u Q I rx ry h
  · exact (eqk_ok hr I h rx ry).2 _ _ _ _ ⟨.bl (!b), H, I, rfl, q⟩
theorem eqQK {K : PySem.W.Frag} {x y : V} {b : Bool} {H : Hp} {Q : VK} (h : EqK K H x y b) (q : Q (.bl b) H) : rEqK K x y H Q := .inr ⟨b, h, q⟩

end
end L2.Bk

end
section
set_option Elab.async false
set_option linter.all false
set_option maxRecDepth 100000
/-! t[lo:hi] of a tuple, the whole of it too. -/
namespace HT
open PySem PySem.Spec PyProof.Rows
section
variable {prog : Program} {w : World} {A : Around} {E : Value → Shared → Prop} {s : Shared}
theorem getItem_tuple_all {t sl : Addr} {items : Array Value} {vl vu : Value} {lo hi : Option Int} {Q : Value → Shared → Prop} (ht : IsTup s.heap t items) (hs : s.heap.IsSliceOf sl vl vu .none) (pl : IsPart vl lo) (pu : IsPart vu hi)
    (hw : sIx items.size 0 lo = 0 ∧ sIx items.size items.size hi = items.size) (h : Q (.ref t) s) : wpAny (model prog w) A (getItem (.ref t) (.ref sl)) Q E s := by
  obtain ⟨os, hos, hcs, hds⟩ := id hs
  have hTs : s.TypeIs (.ref sl) "slice" := ⟨os, hos, hcs⟩
  unfold getItem
  try with_reducible refine wpAny_holding ?_
  first | refine wpAny_bind (wpAny_pure ?_) | skip
  refine wpAny_bind (wpAny_sequenceKey ht.typeIs (by decide) ?_)
  refine wpAny_bind (wpAny_callSpecial?_slot (name := Str.ofString "__getitem__") ht.typeIs PyProof.Rows.slot_tuple_getitem
    (wpAny_call_entry PyProof.Rows.slot_tuple_getitem ht.typeIs entry_tuple_getitem ?_ (args_tuple_getitem _ _)))
  show wpAny _ _ (Builtin.Tuple.tupleItemsOf (.ref t) >>= _) _ _ s
  refine wpAny_bind (tupleItemsOf_ ht ?_)
  refine wpAny_bind (wpAny_typeOf hTs ?_)
  rw [if_pos (by decide)]
  refine wpAny_bind (sliceApplied_gen hs pl pu ?_)
  have hyes : (((sIx items.size 0 lo : Nat) : Int) == 0 && (1 : Int) == 1 && (sIx items.size items.size hi - sIx items.size 0 lo) == items.size) = true := by
    rw [hw.1, hw.2]
    simp
  show wpAny _ _ (if (((sIx items.size 0 lo : Nat) : Int) == 0 && (1 : Int) == 1 && (sIx items.size items.size hi - sIx items.size 0 lo) == items.size) = true then _ else _) _ _ s
  rw [if_pos hyes]
  show wpAny _ _ (Builtin.Tuple.tupleIsExact (.ref t) >>= _) _ _ s
  refine wpAny_bind ?_
  unfold Builtin.Tuple.tupleIsExact
  refine wpAny_bind (wpAny_typeOf ht.typeIs (wpAny_pure ?_))
  rw [if_pos (by decide)]
  refine wpAny_bind (wpAny_rule ?_)
  first
    | exact wpAny_pure ⟨_, rfl, wpAny_pure h⟩
    | exact wpAny_bind (wpAny_pure (wpAny_pure ⟨_, rfl, wpAny_pure h⟩))
    | exact wpAny_bind (wpAny_bind (wpAny_pure (wpAny_pure ⟨_, rfl, wpAny_pure h⟩)))
end
end HT
namespace L2.Bk
open PySem PySem.Spec PyProof.Rows L2.Bw
section
variable {X : Cx}
/-- t[lo:hi], the whole of it: t itself -/
def rSlW (K : PySem.W.Frag) : V → Option Int → Option Int → Hp → VK → Prop := fun x lo hi H Q => ∃ a xs, x = .ref a ∧ SqT K H a xs ∧ (HT.sIx xs.length 0 lo = 0 ∧ HT.sIx xs.length xs.length hi = xs.length) ∧ Q (.ref a) H
theorem sl_tupW : SlR X (rSlW X.K) := by
  intro pins s σ H x v vl vu lo hi sl Q I rx hs pl pu h
  obtain ⟨a, xs, e, hx, hw, q⟩ := h
  subst e
  cases rx
  obtain ⟨its, r, ht, hz⟩ := I.tuple hx
  have hlen : its.toArray.size = xs.length := by rw [List.size_toArray]; exact r.length.symm
  refine ⟨"tuple", _, PyProof.Rows.slot_tuple_getitem.lookup, ht.typeIs, ?_⟩
  exact HT.getItem_tuple_all ht hs pl pu (by rw [hlen]; exact hw) ⟨.ref a, H, I, rfl, q⟩
/-- a slice of a list, of a tuple -/
def rSlK (K : PySem.W.Frag) : V → Option Int → Option Int → Hp → VK → Prop := fun x lo hi H Q => rSlL K x lo hi H Q ∨ rSlT K x lo hi H Q ∨ rSlW K x lo hi H Q
theorem sl_k : SlR X (rSlK X.K) := sl_list.or (sl_tup.or sl_tupW)
/-- t[1:] -/
theorem sl_tail {K : PySem.W.Frag} {H : Hp} {a : Addr} {h : V} {r : List V} {Q : VK} (ha : SqT K H a (h :: r)) (q : ∀ p, H p = none → Q (.ref p) (upd H p (.tup r))) : rSlK K (.ref a) (some 1) none H Q := by
  refine .inr (.inl ⟨a, _, rfl, ha, ?_, fun p hp => ?_⟩)
  · intro z
    have e : HT.sIx (h :: r).length 0 (some 1) = 1 := by
      show _ = _
      simp [HT.sIx]
    omega
  · have k := q p hp
    have e : cutV (h :: r) (some 1) none = r := by
      unfold cutV
      have e : HT.sIx (h :: r).length 0 (some 1) = 1 := by simp [HT.sIx]
      have e2 : HT.sIx (h :: r).length (h :: r).length none = (h :: r).length := by simp [HT.sIx]
      rw [e, e2]
      simp
    rw [e]
    exact k
end
end L2.Bk

end
section
set_option Elab.async false
set_option linter.all false
set_option maxRecDepth 100000
namespace L2.Bw
open PySem PySem.Spec PyProof.Rows
/-- what a turn of a comprehension hands on -/
def Nx (n : Nat) (Pv : Nat → St → Hp → Prop) (i : Nat) (σ : St) (H : Hp) : Prop := ∃ m', m' < n - i ∧ (m' = n - (i + 1) ∧ i + 1 ≤ n ∧ Pv (i + 1) σ H)
theorem nx {n i : Nat} {Pv : Nat → St → Hp → Prop} {σ : St} {H : Hp} (h : i < n) (p : Pv (i + 1) σ H) : Nx n Pv i σ H := ⟨n - (i + 1), by omega, rfl, by omega, p⟩
theorem lc_by {J : It} {g : TG} {tt : TT} {te : TE} {D : Addr} {Qe : Hp → Prop} {σ : St} {H : Hp} {n : Nat} (Pv : Nat → St → Hp → Prop) (h0 : Pv 0 σ H) (hgo : ∀ i σ H, i < n → Pv i σ H → J.go i H) (hstop : ∀ σ H, Pv n σ H → J.stop n H)
    (hs : ∀ i σ H, i < n → Pv i σ H → ∀ x H', J.yld i H x H' → g x σ H' fun σ2 H2 => tt σ2 H2 fun b H3 => if b = true then te σ2 H3 fun y H4 => ∃ ys, H4 D = some (.lst ys) ∧ ys.length < sizeLine ∧ Nx n Pv i σ2 (upd H4 D (.lst (ys ++ [y]))) else Nx n Pv i σ2 H3)
    (hd : ∀ σ H, Pv n σ H → Qe H) : ∃ W, (∃ m, W 0 m σ H) ∧ TurnW J g tt te D W Qe := by
  refine ⟨fun i m σ H => m = n - i ∧ i ≤ n ∧ Pv i σ H, ⟨n, by simp, Nat.zero_le _, h0⟩, ?_⟩
  rintro i m σ H ⟨rfl, hi, p⟩
  by_cases hlt : i < n
  · exact .inr ⟨hgo i σ H hlt p, fun x H' y => hs i σ H hlt p x H' y⟩
  · have e : i = n := by omega
    subst e
    exact .inl ⟨hstop σ H p, hd σ H p⟩
theorem lc_by0 {J : It} {g : TG} {te : TE} {D : Addr} {Qe : Hp → Prop} {σ : St} {H : Hp} {n : Nat} (Pv : Nat → St → Hp → Prop) (h0 : Pv 0 σ H) (hgo : ∀ i σ H, i < n → Pv i σ H → J.go i H) (hstop : ∀ σ H, Pv n σ H → J.stop n H)
    (hs : ∀ i σ H, i < n → Pv i σ H → ∀ x H', J.yld i H x H' → g x σ H' fun σ2 H2 => te σ2 H2 fun y H4 => ∃ ys, H4 D = some (.lst ys) ∧ ys.length < sizeLine ∧ Nx n Pv i σ2 (upd H4 D (.lst (ys ++ [y]))))
    (hd : ∀ σ H, Pv n σ H → Qe H) : ∃ W, (∃ m, W 0 m σ H) ∧ TurnW J g tYes te D W Qe := by
  refine lc_by Pv h0 hgo hstop (fun i σ H hi p x H' y => ?_) hd
  exact cast (congrArg (g x σ H') (funext fun a => funext fun b => by unfold tYes; exact (if_pos rfl).symm)) (hs i σ H hi p x H' y)
end L2.Bw
namespace L2.Bk
open PySem PySem.Spec PyProof.Rows L2.Bw
theorem small {n : Nat} (h : n ≤ 1000) : n ≤ sizeLine := Nat.le_of_lt (small1000 h)
theorem smallM {n : Nat} (h : n ≤ 1000000) : n < sizeLine := Nat.lt_of_le_of_lt h (by decide)
theorem atI_in {α : Type} {xs : List α} {i : Int} (h0 : 0 ≤ i) (h1 : i < (xs.length : Int)) : ∃ c, atI xs i = some c ∧ c ∈ xs := by
  have hk : i.toNat < xs.length := by omega
  have z : atI xs ((i.toNat : Nat) : Int) = some xs[i.toNat] := atI_nat (List.getElem?_eq_getElem hk)
  rw [show ((i.toNat : Nat) : Int) = i by omega] at z
  exact ⟨_, z, List.getElem_mem hk⟩
theorem atI_strs {ss : List Str} {i : Int} (h0 : 0 ≤ i) (h1 : i < (ss.length : Int)) : ∃ c, atI (ss.map V.str) i = some (.str c) ∧ c ∈ ss := by
  obtain ⟨c, e, hc⟩ := atI_in (xs := ss.map V.str) h0 (by rw [List.length_map]; exact h1)
  obtain ⟨y, hy, rfl⟩ := List.mem_map.mp hc
  exact ⟨y, e, hy⟩
theorem at_nat {us : List V} {i : Nat} {u : V} (h : us[i]? = some u) : atI us (0 + (i : Int)) = some u := by
  have := atI_nat h
  rwa [show (0 : Int) + (i : Int) = (i : Int) by omega]
theorem dec_s {x y : Str} : decide (V.str x = V.str y) = decide (x = y) := by
  by_cases h : x = y
  · subst h; simp
  · have : ¬ V.str x = V.str y := fun q => h (by cases q; rfl)
    simp [h, this]
theorem take_snoc {α : Type} {ps : List α} {i : Nat} (h : i < ps.length) : ps.take (i + 1) = ps.take i ++ [ps[i]] := by
  rw [List.take_add_one, List.getElem?_eq_getElem h]; rfl
theorem for_by {J : It} {g : TG} {tb : TS} {D : Ends} {σ : St} {H : Hp} {n : Nat} (Pv : Nat → St → Hp → Prop) (h0 : Pv 0 σ H) (hgo : ∀ i σ H, i < n → Pv i σ H → J.go i H) (hstop : ∀ σ H, Pv n σ H → J.stop n H)
    (hs : ∀ i σ H, i < n → Pv i σ H → ∀ x H', J.yld i H x H' → g x σ H' fun σ2 H2 => tb { D with nx := Pv (i + 1), ct := Pv (i + 1), bk := D.nx } σ2 H2) (hd : ∀ σ H, Pv n σ H → D.nx σ H) :
    ∃ W : Nat → Nat → St → Hp → Prop, (∃ m, W 0 m σ H) ∧ ∀ i m σ H, W i m σ H →
      (J.stop i H ∧ D.nx σ H) ∨ (J.go i H ∧ ∃ N : St → Hp → Prop, (∀ σ' H', N σ' H' → ∃ m', m' < m ∧ W (i + 1) m' σ' H') ∧ ∀ x H', J.yld i H x H' → g x σ H' fun σ2 H2 => tb { D with nx := N, ct := N, bk := D.nx } σ2 H2) := by
  refine ⟨fun i m σ H => m = n - i ∧ i ≤ n ∧ Pv i σ H, ⟨n, by simp, Nat.zero_le _, h0⟩, ?_⟩
  rintro i m σ H ⟨rfl, hi, p⟩
  by_cases hlt : i < n
  · exact .inr ⟨hgo i σ H hlt p, Pv (i + 1), fun σ' H' p' => ⟨n - (i + 1), by omega, rfl, hlt, p'⟩, fun x H' y => hs i σ H hlt p x H' y⟩
  · have e : i = n := by omega
    subst e
    exact .inl ⟨hstop σ H p, hd σ H p⟩
abbrev Old (H H' : Hp) : Prop := ∀ b o, H b = some o → H' b = some o
theorem Old.gr {H H' : Hp} (h : Old H H') : Gr M0 H H' := fun b o e _ => h b o e
theorem Old.tm {H H' : Hp} (h : Old H H') : Tm H H' := fun a xs e => h a _ e
theorem Old.of {H H' : Hp} (h : Gr M0 H H') : Old H H' := fun b o e => h b o e (fun z => z)
theorem Old.refl (H : Hp) : Old H H := fun _ _ h => h
theorem Old.free {H H' : Hp} (o : Old H H') {a : Addr} (h : H' a = none) : H a = none := by
  cases q : H a with
  | none => rfl
  | some x => rw [o a x q] at h; cases h
theorem Old.trans {H H1 H2 : Hp} (a : Old H H1) (b : Old H1 H2) : Old H H2 := fun c o h => b c o (a c o h)
theorem Old.new {H : Hp} {p : Addr} {o : HO} (h : H p = none) : Old H (upd H p o) := fun b u e => by rw [upd_ne (ne_of_none e h)]; exact e
theorem Old.gm {H H' : Hp} {M : Addr → Prop} (h : Old H H') : Gr M H H' := fun b o e _ => h b o e
theorem RK.get {K : PySem.W.Frag} {H : Hp} {ds : List Dk} {v : V} (h : RK K H (.tup ds) v) : ∃ a vs, v = .ref a ∧ Tp K H a vs ∧ RKs K H ds vs := by rw [RK] at h; exact h
theorem RK.str {K : PySem.W.Frag} {H : Hp} {x : Str} {v : V} (h : RK K H (.str x) v) : v = .str x := by rw [RK] at h; exact h
theorem RK.kind {K : PySem.W.Frag} {H : Hp} {x : Str} {ds : List Dk} {v : V} (h : RK K H (.tup (.str x :: ds)) v) : ∃ a vs, v = .ref a ∧ Tp K H a (.str x :: vs) ∧ RKs K H ds vs := by
  obtain ⟨a, us, rfl, ha, u, r, rfl, hu, hr⟩ := RK.get h
  cases RK.str hu
  exact ⟨a, r, rfl, ha, hr⟩
/-- one more tuple laid behind a tuple -/
theorem cat_k {K : PySem.W.Frag} {H : Hp} {a b : Addr} {xs ys : List V} {ds es : List Dk} {Q : VK} (ha : Tp K H a xs) (hb : Tp K H b ys) (ra : RKs K H ds xs) (rb : RKs K H es ys) (ne : xs ≠ []) (hz : xs.length + ys.length ≤ 1000)
    (q : ∀ (c : Addr) (H' : Hp), Old H H' → RK K H' (.tup (ds ++ es)) (.ref c) → Q (.ref c) H') : rCatT K (.ref a) (.ref b) H Q := by
  refine ⟨a, b, xs, ys, rfl, rfl, ha.sq, hb.sq, ne, small hz, fun e => ?_, fun e p hp => ?_⟩
  · subst e
    cases (show es = [] from List.length_eq_zero_iff.mp rb.length)
    exact q a H (Old.refl _) (by rw [List.append_nil]; exact RK.tup ha ra)
  · have g : Old H (upd H p (.tup (xs ++ ys))) := Old.new hp
    exact q p _ g (RK.tup (.of upd_same) ((ra.append rb).mono g.tm))
theorem pe_gref {X : Cx} {x : Str} {a : Addr} {pos : Pos} (hg : Gl X x) (hm : X.mg x = some (.ref a)) (hd : (x == ("__debug__" : Str)) = false := by decide) : PE X (.Name x pos) (tC (.ref a)) := pe_glob hg hm (show RelV (.ref a) (.ref a) from rfl) hd
/-! ### kinds -/
inductive Kn where
  | mk (h : Str) (ks : List Kn)
mutual
def Kn.d : Kn → Dk
  | .mk h ks => .tup (.str h :: Kn.ds ks)
def Kn.ds : List Kn → List Dk
  | [] => []
  | t :: r => t.d :: Kn.ds r
end
mutual
def Kn.dep : Kn → Nat
  | .mk _ ks => 1 + Kn.deps ks
def Kn.deps : List Kn → Nat
  | [] => 0
  | t :: r => max t.dep (Kn.deps r)
end
mutual
def Kn.ok : Kn → Prop
  | .mk _ ks => ks.length ≤ 2 ∧ Kn.oks ks
def Kn.oks : List Kn → Prop
  | [] => True
  | t :: r => t.ok ∧ Kn.oks r
end
theorem ds_length : ∀ (ks : List Kn), (Kn.ds ks).length = ks.length
  | [] => rfl
  | _ :: r => by show (Kn.ds r).length + 1 = r.length + 1; rw [ds_length r]
theorem ds_get : ∀ {ks : List Kn} {i : Nat} (h : i < ks.length), (Kn.ds ks)[i]? = some ks[i].d
  | _ :: _, 0, _ => rfl
  | _ :: r, i + 1, h => by
    show (Kn.ds r)[i]? = _
    exact ds_get (ks := r) (by simpa using h)
theorem ds_append : ∀ (ks ls : List Kn), Kn.ds (ks ++ ls) = Kn.ds ks ++ Kn.ds ls
  | [], _ => rfl
  | t :: r, ls => by show t.d :: Kn.ds (r ++ ls) = t.d :: (Kn.ds r ++ Kn.ds ls); rw [ds_append r ls]
theorem deps_get : ∀ {ks : List Kn} {i : Nat} (h : i < ks.length), ks[i].dep ≤ Kn.deps ks
  | _ :: _, 0, _ => Nat.le_max_left _ _
  | _ :: r, i + 1, h => Nat.le_trans (deps_get (ks := r) (by simpa using h)) (Nat.le_max_right _ _)
theorem deps_snoc : ∀ (ks : List Kn) (t : Kn), Kn.deps (ks ++ [t]) = max (Kn.deps ks) t.dep
  | [], t => by show max t.dep 0 = max 0 t.dep; omega
  | u :: r, t => by show max u.dep (Kn.deps (r ++ [t])) = max (max u.dep (Kn.deps r)) t.dep; rw [deps_snoc r t]; omega
mutual
theorem dq_d : ∀ (t : Kn), t.d.dq = t.dep
  | .mk h ks => by
    show (Dk.tup (.str h :: Kn.ds ks)).dq = 1 + Kn.deps ks
    rw [dq_tup, dqs_cons, dq_str, dq_ds ks]
    omega
theorem dq_ds : ∀ (ks : List Kn), dqs (Kn.ds ks) = Kn.deps ks
  | [] => by show dqs [] = 0; rw [dqs]
  | t :: r => by
    show dqs (t.d :: Kn.ds r) = max t.dep (Kn.deps r)
    rw [dqs_cons, dq_d t, dq_ds r]
end
mutual
theorem nr_d : ∀ {t : Kn}, t.ok → t.d.nr
  | .mk h ks, ⟨hl, ho⟩ => by
    show (Dk.tup (.str h :: Kn.ds ks)).nr
    refine nr_mk (by rw [List.length_cons, ds_length]; omega) (nr_lc (nr_str _) (nr_ds ho))
theorem nr_ds : ∀ {ks : List Kn}, Kn.oks ks → ∀ d ∈ Kn.ds ks, d.nr
  | [], _ => nr_l0
  | t :: r, ⟨h, ho⟩ => nr_lc (nr_d h) (nr_ds ho)
end
end L2.Bk

end
section
set_option Elab.async false
set_option linter.all false
set_option maxRecDepth 100000
namespace L2.Bk
open PySem PySem.Spec PyProof.Rows L2.Bw
section
variable {K : PySem.W.Frag}
end
end L2.Bk

end
section
set_option Elab.async false
set_option linter.all false
set_option maxRecDepth 100000
namespace L2
open PySem PySem.Spec PyProof.Rows

/-! ### lists of pairs as tables -/
section
variable {κ : Type} [DecidableEq κ]
def valV (kvs : List (κ × V)) (k : κ) : Option V := (kvs.find? fun kv => decide (kv.1 = k)).map (·.2)
/-- in its place, or at the end -/
def putK (kvs : List (κ × V)) (k : κ) (v : V) : List (κ × V) :=
  if (kvs.any fun kv => decide (kv.1 = k)) = true then kvs.map (fun kv => if kv.1 = k then (kv.1, v) else kv) else kvs ++ [(k, v)]
def dropK (kvs : List (κ × V)) (k : κ) : List (κ × V) := kvs.filter fun kv => decide (kv.1 ≠ k)

theorem valV_pos {p : κ × V} {r : List (κ × V)} {k : κ} (e : p.1 = k) : valV (p :: r) k = some p.2 := by simp [valV, List.find?_cons, e]
theorem valV_neg {p : κ × V} {r : List (κ × V)} {k : κ} (e : ¬ p.1 = k) : valV (p :: r) k = valV r k := by simp [valV, List.find?_cons, e]
theorem valV_any (k : κ) : ∀ kvs : List (κ × V), (kvs.any fun kv => decide (kv.1 = k)) = (valV kvs k).isSome
  | [] => rfl
  | p :: r => by
    rw [List.any_cons]
    by_cases e : p.1 = k
    · simp only [valV_pos e, decide_eq_true e, Bool.true_or, Option.isSome_some]
    · rw [valV_neg e, decide_eq_false e, Bool.false_or]; exact valV_any k r
theorem RelO.isSome_eq {o : Option V} {u : Option Value} (r : RelO o u) : o.isSome = u.isSome := by
  cases o with
  | none => cases u with
    | none => rfl
    | some _ => exact (show False from r).elim
  | some _ => cases u with
    | none => exact (show False from r).elim
    | some _ => rfl
theorem RelO.getD {o : Option V} {u : Option Value} {d : V} {d' : Value} (r : RelO o u) (rd : RelV d d') : RelV (o.getD d) (u.getD d') := by
  cases o with
  | none => cases u with
    | none => exact rd
    | some _ => exact (show False from r).elim
  | some _ => cases u with
    | none => exact (show False from r).elim
    | some _ => exact r

/-- raw tables of the same keys -/
theorem KV.val {kvs : List (κ × V)} {vs : List (κ × Value)} (r : KV kvs vs) (k : κ) : RelO (valV kvs k) (valueAt vs k) := by
  unfold KV at r
  induction r with
  | nil => exact True.intro
  | @cons p q ps qs h t ih =>
    obtain ⟨h1, h2⟩ := h
    by_cases e : p.1 = k
    · have e' : q.1 = k := h1.symm.trans e
      have b : valueAt (q :: qs) k = some q.2 := by simp [valueAt, List.find?_cons, e']
      rw [valV_pos e, b]; exact h2
    · have e' : ¬ q.1 = k := fun z => e (h1.trans z)
      have b : valueAt (q :: qs) k = valueAt qs k := by simp [valueAt, List.find?_cons, e']
      rw [valV_neg e, b]; exact ih
theorem KV.any {kvs : List (κ × V)} {vs : List (κ × Value)} (r : KV kvs vs) (k : κ) : (kvs.any fun kv => decide (kv.1 = k)) = vs.any fun kv => decide (kv.1 = k) := by
  unfold KV at r
  induction r with
  | nil => rfl
  | cons h t ih => rw [List.any_cons, List.any_cons, ih, h.1]
theorem KV.repl {kvs : List (κ × V)} {vs : List (κ × Value)} (r : KV kvs vs) (k : κ) {y : V} {u : Value} (ry : RelV y u) :
    KV (kvs.map fun kv => if kv.1 = k then (kv.1, y) else kv) (vs.map fun kv => if kv.1 = k then (kv.1, u) else kv) := by
  unfold KV at r ⊢
  induction r with
  | nil => exact .nil
  | @cons p q ps qs h t ih =>
    rw [List.map_cons, List.map_cons]
    refine .cons ?_ ih
    obtain ⟨h1, h2⟩ := h
    by_cases e : p.1 = k
    · rw [if_pos e, if_pos (h1.symm.trans e)]; exact ⟨h1, ry⟩
    · rw [if_neg e, if_neg (fun z => e (h1.trans z))]; exact ⟨h1, h2⟩
theorem KV.put {kvs : List (κ × V)} {vs : List (κ × Value)} (r : KV kvs vs) (k : κ) {y : V} {u : Value} (ry : RelV y u) : KV (putK kvs k y) (stored vs k u) := by
  unfold putK stored
  rw [r.any k]
  by_cases e : (vs.any fun kv => decide (kv.1 = k)) = true
  · rw [if_pos e, if_pos e]; exact r.repl k ry
  · rw [if_neg e, if_neg e]; exact Paired.snoc r ⟨rfl, ry⟩
theorem KV.drop {kvs : List (κ × V)} {vs : List (κ × Value)} (r : KV kvs vs) (k : κ) : KV (dropK kvs k) (without vs k) := by
  unfold KV at r ⊢
  unfold dropK without
  induction r with
  | nil => exact .nil
  | @cons p q ps qs h t ih =>
    obtain ⟨h1, h2⟩ := h
    rw [List.filter_cons, List.filter_cons]
    by_cases e : p.1 = k
    · have a : ¬ decide (p.1 ≠ k) = true := by simp [e]
      have b : ¬ decide (q.1 ≠ k) = true := by simp [h1.symm.trans e]
      rw [if_neg a, if_neg b]; exact ih
    · have e' : ¬ q.1 = k := fun z => e (h1.trans z)
      have a : decide (p.1 ≠ k) = true := by simp [e]
      have b : decide (q.1 ≠ k) = true := by simp [e']
      rw [if_pos a, if_pos b]; exact .cons ⟨h1, h2⟩ ih
theorem KV.keys {kvs : List (κ × V)} {vs : List (κ × Value)} (r : KV kvs vs) : kvs.map (·.1) = vs.map (·.1) := by
  unfold KV at r
  induction r with
  | nil => rfl
  | cons h t ih => rw [List.map_cons, List.map_cons, ih, h.1]
theorem KV.length {kvs : List (κ × V)} {vs : List (κ × Value)} (r : KV kvs vs) : kvs.length = vs.length := Paired.length r
end


/-! ### a tracked dict, its keys ints and texts or tuples of these -/
/-- raw entries of a dict with tuple keys -/
abbrev KT (H : Hp) : List (List Key × V) → List (List Key × Addr × Value) → Prop := Paired fun p q => p.1 = q.1 ∧ H q.2.1 = some (.tup (p.1.map kV)) ∧ RelV p.2 q.2.2
theorem KT.val {H : Hp} {kvs : List (List Key × V)} {xs : List (List Key × Addr × Value)} (r : KT H kvs xs) (k : List Key) : RelO (valV kvs k) ((atKey xs k).map (·.2)) := by
  induction r with
  | nil => exact True.intro
  | @cons p q ps qs h t ih =>
    obtain ⟨h1, _, h2⟩ := h
    by_cases e : p.1 = k
    · have e' : q.1 = k := h1.symm.trans e
      have b : atKey (q :: qs) k = some q.2 := by simp [atKey, List.find?_cons, e']
      rw [valV_pos e, b]; exact h2
    · have e' : ¬ q.1 = k := fun z => e (h1.trans z)
      have b : atKey (q :: qs) k = atKey qs k := by simp [atKey, List.find?_cons, e']
      rw [valV_neg e, b]; exact ih
theorem KT.repl {H : Hp} {kvs : List (List Key × V)} {xs : List (List Key × Addr × Value)} (r : KT H kvs xs) (k : List Key) {y : V} {u : Value} (ry : RelV y u) :
    KT H (kvs.map fun kv => if kv.1 = k then (kv.1, y) else kv) (xs.map (putAt k u)) := by
  induction r with
  | nil => exact .nil
  | @cons p q ps qs h t ih =>
    rw [List.map_cons, List.map_cons]
    refine .cons ?_ ih
    obtain ⟨h1, h2, h3⟩ := h
    unfold putAt
    by_cases e : p.1 = k
    · rw [if_pos e, if_pos (h1.symm.trans e)]; exact ⟨h1, h2, ry⟩
    · rw [if_neg e, if_neg (fun z => e (h1.trans z))]; exact ⟨h1, h2, h3⟩
theorem KT.put {H : Hp} {kvs : List (List Key × V)} {xs : List (List Key × Addr × Value)} (r : KT H kvs xs) (k : List Key) {b : Addr} {y : V} {u : Value} (hb : H b = some (.tup (k.map kV))) (ry : RelV y u) :
    KT H (putK kvs k y) (storedH xs k b u) := by
  have e : (kvs.any fun kv => decide (kv.1 = k)) = (atKey xs k).isSome := by
    rw [valV_any, (r.val k).isSome_eq, Option.isSome_map]
  unfold putK storedH
  rw [e]
  by_cases q : (atKey xs k).isSome = true
  · rw [if_pos q, if_pos q]; exact r.repl k ry
  · rw [if_neg q, if_neg q]; exact Paired.snoc r ⟨rfl, hb, ry⟩
theorem KT.keeps {H H' : Hp} {kvs : List (List Key × V)} {xs : List (List Key × Addr × Value)} (r : KT H kvs xs) (ht : ∀ b ys, H b = some (.tup ys) → H' b = some (.tup ys)) : KT H' kvs xs :=
  Paired.mapP r fun _ _ z => ⟨z.1, ht _ _ z.2.1, z.2.2⟩

section
variable {P : Program} {w : World} {H : Hp} {h : Heap} {a : Addr}
end

/-- what the dict at a holds at the key y -/
def DGet (H : Hp) (a : Addr) (y : V) (r : Option V) : Prop :=
  (∃ kvs k, Rd H a (.dK kvs) ∧ y = kV k ∧ r = valV kvs k) ∨ ∃ kvs k b, Rd H a (.dT kvs) ∧ y = .ref b ∧ H b = some (.tup (k.map kV)) ∧ r = valV kvs k
/-- the heap behind a[y] = v -/
def DPut (H : Hp) (a : Addr) (y v : V) (H' : Hp) : Prop :=
  (∃ kvs k, H a = some (.dK kvs) ∧ y = kV k ∧ kvs.length < sizeLine ∧ H' = upd H a (.dK (putK kvs k v))) ∨
  ∃ kvs k b, H a = some (.dT kvs) ∧ y = .ref b ∧ H b = some (.tup (k.map kV)) ∧ kvs.length < sizeLine ∧ H' = upd H a (.dT (putK kvs k v))
theorem DGet.k {H : Hp} {a : Addr} {kvs : List (Key × V)} {k : Key} (e : H a = some (.dK kvs)) : DGet H a (kV k) (valV kvs k) := .inl ⟨kvs, k, .inl e, rfl, rfl⟩
theorem DGet.t {H : Hp} {a b : Addr} {kvs : List (List Key × V)} {k : List Key} (e : H a = some (.dT kvs)) (eb : H b = some (.tup (k.map kV))) : DGet H a (.ref b) (valV kvs k) := .inr ⟨kvs, k, b, .inl e, rfl, eb, rfl⟩
theorem DPut.k {H : Hp} {a : Addr} {kvs : List (Key × V)} {k : Key} {v : V} (e : H a = some (.dK kvs)) (hl : kvs.length < sizeLine) : DPut H a (kV k) v (upd H a (.dK (putK kvs k v))) := .inl ⟨kvs, k, e, rfl, hl, rfl⟩
theorem DPut.t {H : Hp} {a b : Addr} {kvs : List (List Key × V)} {k : List Key} {v : V} (e : H a = some (.dT kvs)) (eb : H b = some (.tup (k.map kV))) (hl : kvs.length < sizeLine) :
    DPut H a (.ref b) v (upd H a (.dT (putK kvs k v))) := .inr ⟨kvs, k, b, e, rfl, eb, hl, rfl⟩


section
variable {X : Cx} {pins : List (Addr × Obj)} {σ : St} {H : Hp} {s : Shared} {a : Addr} {y v : V} {u r : Value} {o : Option V} {A : Around} {E : Value → Shared → Prop}

end

section
variable {X : Cx} {pins : List (Addr × Obj)} {σ : St} {H : Hp} {s : Shared} {a : Addr} {kvs : List (Key × V)} {k : Key} {u : Value} {A : Around} {E : Value → Shared → Prop}
end


/-! ### readings and rules -/
section
variable {X : Cx} {o i e value : Expr} {pos pos' tpos : Pos} {td ty tv : TE}
end


/-! ### displays -/
section
variable {X : Cx} {pos : Pos}
end

/-! ### methods -/
/-- a method call o.m(e) of a built-in, with one argument: what must be seen of the text -/
structure DM1 (X : Cx) (o : Expr) (m : Str) (apos : Pos) (e : Expr) (cpos : Pos) : Prop where
  base : attributeBase o m X.env (eval o X.env) = eval o X.env
  few : ((backTo cpos (starEach [e] X.env)).all (fun x => !x.1) && (backToKw cpos (keywordEach [] X.env)).all (fun x => x.1.isSome)
    && decide (([e] : List Expr).length + ([] : List Keyword).length + (if ([] : List Keyword).isEmpty then 0 else 1) < 30)) = true
  line : (apos.endLine == cpos.line) = true
  trees : backTo cpos (starEach [e] X.env) = [(false, eval e X.env)]
structure DM2 (X : Cx) (o : Expr) (m : Str) (apos : Pos) (e f : Expr) (cpos : Pos) : Prop where
  base : attributeBase o m X.env (eval o X.env) = eval o X.env
  few : ((backTo cpos (starEach [e, f] X.env)).all (fun x => !x.1) && (backToKw cpos (keywordEach [] X.env)).all (fun x => x.1.isSome)
    && decide (([e, f] : List Expr).length + ([] : List Keyword).length + (if ([] : List Keyword).isEmpty then 0 else 1) < 30)) = true
  line : (apos.endLine == cpos.line) = true
  trees : backTo cpos (starEach [e, f] X.env) = [(false, eval e X.env), (false, eval f X.env)]

section
variable {X : Cx} {pins : List (Addr × Obj)} {σ : St} {H : Hp} {s : Shared} {a : Addr} {y d : V} {u r : Value} {o : Option V} {A : Around} {E : Value → Shared → Prop}
end

section
variable {X : Cx} {o e f : Expr} {apos cpos : Pos} {td ty tx : TE}
end

/-! ### dict(d): a copy -/
section
variable {X : Cx} {pins : List (Addr × Obj)} {σ : St} {H : Hp} {s : Shared} {a : Addr} {kvs : List (Key × V)} {A : Around} {E : Value → Shared → Prop}
end


section
variable {X : Cx} {pins : List (Addr × Obj)} {σ : St} {H : Hp} {s : Shared} {a : Addr} {y : V} {u : Value} {A : Around} {E : Value → Shared → Prop}
end
end L2

end
section
set_option Elab.async false
set_option linter.all false
set_option maxRecDepth 100000
/-! Kinds beside each other: join, paths, heads. -/
namespace L2.Bk
open PySem PySem.Spec PyProof.Rows L2.Bw
def Kn.h : Kn → Str
  | .mk h _ => h
def Kn.ks : Kn → List Kn
  | .mk _ ks => ks
/-- how many parts a head has -/
def arity (h : Str) : Option Nat := if h = "whole" then some 0 else if h = "truth" then some 0 else if h = "?" then some 0 else if h = "row" then some 1 else if h = "to" then some 2 else if h = "pair" then some 2 else none
mutual
def Kn.wf : Kn → Prop
  | .mk h ks => arity h = some ks.length ∧ Kn.wfs ks
def Kn.wfs : List Kn → Prop
  | [] => True
  | t :: r => t.wf ∧ Kn.wfs r
end
theorem arity_le {h : Str} {n : Nat} (e : arity h = some n) : n ≤ 2 := by
  unfold arity at e
  repeat' split at e
  all_goals first | (cases e; omega) | cases e
theorem arity_q {n : Nat} (e : arity "?" = some n) : n = 0 := by
  have : arity "?" = some 0 := by decide +kernel
  rw [this] at e
  cases e
  rfl
mutual
theorem wf_ok : ∀ {t : Kn}, t.wf → t.ok
  | .mk _ _, ⟨e, hs⟩ => ⟨arity_le e, wfs_oks hs⟩
theorem wfs_oks : ∀ {ks : List Kn}, Kn.wfs ks → Kn.oks ks
  | [], _ => trivial
  | _ :: _, ⟨h, hs⟩ => ⟨wf_ok h, wfs_oks hs⟩
end
theorem wfs_get : ∀ {ks : List Kn} {i : Nat} (h : i < ks.length), Kn.wfs ks → ks[i].wf
  | _ :: _, 0, _, q => q.1
  | _ :: r, i + 1, h, q => wfs_get (ks := r) (by simpa using h) q.2
theorem wfs_append : ∀ {ks ls : List Kn}, Kn.wfs ks → Kn.wfs ls → Kn.wfs (ks ++ ls)
  | [], _, _, h => h
  | _ :: _, _, ⟨h, t⟩, q => ⟨h, wfs_append t q⟩
def qK : Kn := .mk "?" []
theorem wf_q : qK.wf := ⟨by decide +kernel, trivial⟩
mutual
def Kn.join : Kn → Kn → Kn
  | .mk h ks, .mk g ls => if h = g then .mk h (Kn.joins ks ls) else qK
def Kn.joins : List Kn → List Kn → List Kn
  | t :: r, u :: q => t.join u :: Kn.joins r q
  | [], _ => []
  | _ :: _, [] => []
end
theorem dep_pos (t : Kn) : 1 ≤ t.dep := by
  obtain ⟨h, ks⟩ := t
  show 1 ≤ 1 + Kn.deps ks
  omega
/-! ### paths and heads -/
mutual
def Kn.paths : Kn → List (List Nat)
  | .mk _ ks => [] :: Kn.pathsL 1 ks
def Kn.pathsL (n : Nat) : List Kn → List (List Nat)
  | [] => []
  | t :: r => t.paths.map (n :: ·) ++ Kn.pathsL (n + 1) r
end
def Kn.headAt : Kn → List Nat → Str
  | t, [] => t.h
  | t, k :: p => if t.h = "?" then "?" else match t.ks[k - 1]? with
    | none => "none"
    | some u => u.headAt p
end L2.Bk

end
section
set_option Elab.async false
set_option linter.all false
namespace L2.Bk
open PySem PySem.Spec PyProof.Rows L2.Bw
end L2.Bk

end
section
set_option Elab.async false
set_option linter.all false
set_option maxRecDepth 100000
/-! zip of a tuple and two lists, walked by threes. -/
namespace PySem
namespace F
theorem z3_typeCall (a b c : Value) : checkTypeCall "zip" ⟨[a, b, c], []⟩ = pure () := by kernel_rfl
theorem z3_newCall (a b c : Value) : checkBuiltinCall "zip.__new__" ⟨[.type "zip", a, b, c], []⟩ = pure () := by kernel_rfl
theorem z3_args_init (a b c d : Value) : argsOk "object.__init__" ⟨[a, b, c, d], []⟩ := by
  unfold argsOk; rw [signature?_of (id := "object.__init__") (n := ['_', '_', 't', 'i', 'n', 'i', '_', '_']) (o := ['t', 'c', 'e', 'j', 'b', 'o']) (by kernel_rfl) owner_object]; kernel_rfl
end F
abbrev Is3 (h : Heap) (T : Addr) (a b c : Value) : Prop := h.get? T = some { cls := .type "tuple", data := .seq #[a, b, c] }
section
variable {prog : Program} {w : World} {A : Around} {E : Value → Shared → Prop} {s : Shared}
theorem z3_update {T : Addr} {a b c x : Value} {k : Nat} {Q : Unit → Shared → Prop} (hT : Is3 s.heap T a b c)
    (h : ∀ h', h'.get? T = some { cls := .type "tuple", data := .seq ((#[a, b, c] : Array Value).setIfInBounds k x) } → Heap.SameBut T s.heap h' → Q () { s with heap := h' }) : wpAny (model prog w) A (updateSeq T (·.setIfInBounds k x)) Q E s := by
  refine wpAny_updateSeq hT rfl (h _ ?_ (Heap.SameBut.update ..)); rw [Heap.get?_update_self _ hT rfl]; simp [Obj.mapSeq]
theorem tup_nextOf_item {it t : Addr} {i : Nat} {items} {x : Value} {Q : Value → Shared → Prop} (hit : s.heap.IsTupleIter it t i) (ht : s.heap.IsTuple t items) (hx : items[i]? = some x)
    (hQ : ∀ h', h'.IsTupleIter it t (i + 1) → Heap.SameBut it s.heap h' → Q x { s with heap := h' }) : wpAny (model prog w) A (Builtin.SmallTypes.nextOf (.ref it)) Q E s := by
  obtain ⟨o, ho, hc, hd⟩ := id hit
  obtain ⟨ol, hol, _, nl, hdl⟩ := ht
  unfold Builtin.SmallTypes.nextOf
  refine wpAny_bind (wpAny_callSpecial?_slot (name := Str.ofString "__next__") hit.typeIs F.slot_tuple_iterator_next (wpAny_call_entry F.slot_tuple_iterator_next hit.typeIs F.entry_tuple_iterator_next ?_ (F.args_tuple_iterator_next_1 _)))
  show wpAny _ _ (field (.ref it) 0 >>= _) _ _ s; refine wpAny_bind (wpAny_field ho hd (x := .ref t) rfl ?_)
  show wpAny _ _ (if (Value.ref t == Value.none) = true then _ else _) _ _ s; rw [if_neg (show ¬ ((Value.ref t == Value.none) = true) from Bool.false_ne_true)]
  show wpAny _ _ (field (.ref it) 1 >>= _) _ _ s; refine wpAny_bind (wpAny_field ho hd (x := .int i 0) rfl ?_)
  show wpAny _ _ (seqItems? (.ref t) >>= _) _ _ s; refine wpAny_bind (wpAny_seqItems hol hdl ?_); simp only [Int.toNat_natCast, hx]
  refine wpAny_bind (wpAny_setField ho hd (by simp) (wpAny_pure ⟨x, rfl, wpAny_pure (hQ _ ?_ (Heap.SameBut.update ..))⟩))
  exact ⟨_, Heap.get?_update_self _ ho (Obj.isFreed_of_fields (Obj.data_mapFields hd _)), (Obj.cls_mapFields ..).trans hc, by rw [Obj.data_mapFields hd]; simp [rawInt]⟩
theorem tup_nextOf_end {it t : Addr} {i : Nat} {items} {Q : Value → Shared → Prop} (hh : A.handled = none) (hit : s.heap.IsTupleIter it t i) (ht : s.heap.IsTuple t items) (hx : items[i]? = none)
    (hE : ∀ h' e, Heap.ExtBut it s.heap h' → (∃ o, h'.get? e = some o ∧ o.cls = .type "StopIteration") → E (.ref e) { s with heap := h' }) : wpAny (model prog w) A (Builtin.SmallTypes.nextOf (.ref it)) Q E s := by
  obtain ⟨o, ho, hc, hd⟩ := id hit
  obtain ⟨ol, hol, _, nl, hdl⟩ := ht
  unfold Builtin.SmallTypes.nextOf
  refine wpAny_bind (wpAny_callSpecial?_slot (name := Str.ofString "__next__") hit.typeIs F.slot_tuple_iterator_next (wpAny_call_entry F.slot_tuple_iterator_next hit.typeIs F.entry_tuple_iterator_next ?_ (F.args_tuple_iterator_next_1 _)))
  show wpAny _ _ (field (.ref it) 0 >>= _) _ _ s; refine wpAny_bind (wpAny_field ho hd (x := .ref t) rfl ?_)
  show wpAny _ _ (if (Value.ref t == Value.none) = true then _ else _) _ _ s; rw [if_neg (show ¬ ((Value.ref t == Value.none) = true) from Bool.false_ne_true)]
  show wpAny _ _ (field (.ref it) 1 >>= _) _ _ s; refine wpAny_bind (wpAny_field ho hd (x := .int i 0) rfl ?_)
  show wpAny _ _ (seqItems? (.ref t) >>= _) _ _ s; refine wpAny_bind (wpAny_seqItems hol hdl ?_); simp only [Int.toNat_natCast, hx]
  refine wpAny_bind (wpAny_rule (wpAny_bind (wpAny_setField ho hd (by simp) ?_))); show wpAny _ _ (newExc (.type "StopIteration") [] >>= _) _ _ _
  refine wpAny_bind ?_; simp only [newExc, newTuple]; refine wpAny_bind (wpAny_newObj_type ?_ (by size_fits))
  refine wpAny_bind (m := firstArgMember _ _) (wpAny_of_eq (a := Value.none) (by first | rfl | (simp only [firstArgMember]; rfl)) ?_); refine wpAny_newObj_type ?_ (by size_fits)
  simp only [raiseNew]; refine wpAny_bind (wpAny_handled ?_); first | rw [show A.in1.handled = none from hh] | rw [hh]
  refine wpAny_bind (wpAny_pure (wpAny_throw ?_)); exact hE _ _ (((Heap.SameBut.update ..).extBut.push _).push _) ⟨_, Heap.get?_push_size _ rfl, rfl⟩
structure Z3 (z TI TO i1 i2 i3 t b c : Addr) : Prop where
  TIz : TI ≠ z
  TOz : TO ≠ z
  i1z : i1 ≠ z
  i2z : i2 ≠ z
  i3z : i3 ≠ z
  TITO : TI ≠ TO
  TIi1 : TI ≠ i1
  TIi2 : TI ≠ i2
  TIi3 : TI ≠ i3
  TOi1 : TO ≠ i1
  TOi2 : TO ≠ i2
  TOi3 : TO ≠ i3
  i12 : i1 ≠ i2
  i13 : i1 ≠ i3
  i23 : i2 ≠ i3
  tz : t ≠ z
  tTO : t ≠ TO
  ti1 : t ≠ i1
  ti2 : t ≠ i2
  ti3 : t ≠ i3
  bz : b ≠ z
  bTO : b ≠ TO
  bi1 : b ≠ i1
  bi2 : b ≠ i2
  bi3 : b ≠ i3
  cz : c ≠ z
  cTO : c ≠ TO
  ci1 : c ≠ i1
  ci2 : c ≠ i2
  ci3 : c ≠ i3
theorem z3_item {z TI TO i1 i2 i3 t b c : Addr} {k : Nat} {xs ys zs : Array Value} {x y v a0 b0 c0 : Value} {Q : Value → Shared → Prop} (D : Z3 z TI TO i1 i2 i3 t b c) (hz : IsZip s.heap z TI TO .none) (hTI : Is3 s.heap TI (.ref i1) (.ref i2) (.ref i3)) (hTO : Is3 s.heap TO a0 b0 c0)
    (h1 : s.heap.IsTupleIter i1 t k) (h2 : s.heap.IsListIter i2 b k) (h3 : s.heap.IsListIter i3 c k) (hl1 : s.heap.IsTuple t xs) (hl2 : s.heap.IsList b ys) (hl3 : s.heap.IsList c zs) (hx : xs[k]? = some x) (hy : ys[k]? = some y) (hv : zs[k]? = some v)
    (hQ : ∀ h', IsZip h' z TI TO (rawInt s.heap.objs.size) → Is3 h' TO x y v → h'.IsTupleIter i1 t (k + 1) → h'.IsListIter i2 b (k + 1) → h'.IsListIter i3 c (k + 1) → Is3 h' s.heap.objs.size x y v → h'.objs.size = s.heap.objs.size + 1 →
      (∀ d o, d ≠ z → d ≠ TO → d ≠ i1 → d ≠ i2 → d ≠ i3 → s.heap.get? d = some o → h'.get? d = some o) → Q (.ref s.heap.objs.size) { s with heap := h' }) :
    wpAny (model prog w) A (Builtin.«zip.__next__» ⟨[.ref z], []⟩) (fun fin s' => ∃ v, fin = .done (.ret v) ∧ Q v s') E s := by
  show wpAny _ _ (field (.ref z) 2 >>= _) _ _ _; refine wpAny_bind (wpAny_field hz rfl (x := .bool false) rfl ?_)
  show wpAny _ _ (field (.ref z) 3 >>= _) _ _ _; refine wpAny_bind (wpAny_field hz rfl (x := .ref TI) rfl ?_)
  refine wpAny_bind (wpAny_seqItems hTI rfl ?_); show wpAny _ _ (Builtin.SmallTypes.ownedTupleIsFree (.ref z) >>= _) _ _ _
  refine wpAny_bind ?_; unfold Builtin.SmallTypes.ownedTupleIsFree; refine wpAny_bind (wpAny_field hz rfl (x := .none) rfl (wpAny_pure ?_)); simp only [if_true]
  refine wpAny_bind (wpAny_rule ?_); refine wpAny_bind (wpAny_field hz rfl (x := .ref TO) rfl ?_); refine wpAny_bind (wpAny_setField_rec hz (by simp) fun h₁ hz₁ hs₁ => ?_)
  replace hz₁ : IsZip h₁ z TI TO .ellipsis := hz₁
  refine wpAny_bind ?_; simp only [List.zipIdx_cons, List.zipIdx_nil, List.forIn_cons, List.forIn_nil]
  refine wpAny_bind (wpAny_bind (wpAny_onRaise ?_)); show wpAny _ _ (Builtin.SmallTypes.nextOf (.ref i1) >>= _) _ _ _
  refine wpAny_bind (tup_nextOf_item (h1.extBut hs₁.extBut D.i1z) (hl1.extBut hs₁.extBut D.tz) hx fun h₂ h1₂ hs₂ => wpAny_pure ?_)
  have hTO₂ : Is3 h₂ TO a0 b0 c0 := hs₂.extBut _ _ D.TOi1 (hs₁.extBut _ _ D.TOz hTO)
  refine wpAny_bind (wpAny_seqItems hTO₂ rfl ?_); refine wpAny_bind (z3_update hTO₂ fun h₃ hTO₃ hs₃ => ?_)
  replace hTO₃ : Is3 h₃ TO x b0 c0 := hTO₃
  refine wpAny_bind (wpAny_letGo (wpAny_pure ?_)); refine wpAny_bind (wpAny_bind (wpAny_onRaise ?_)); show wpAny _ _ (Builtin.SmallTypes.nextOf (.ref i2) >>= _) _ _ _
  refine wpAny_bind (wpAny_nextOf_list_item (((h2.extBut hs₁.extBut D.i2z).extBut hs₂.extBut D.i12.symm).extBut hs₃.extBut D.TOi2.symm) (((hl2.extBut hs₁.extBut D.bz).extBut hs₂.extBut D.bi1).extBut hs₃.extBut D.bTO) hy fun h₄ h2₄ hs₄ => wpAny_pure ?_)
  have hTO₄ : Is3 h₄ TO x b0 c0 := hs₄.extBut _ _ D.TOi2 hTO₃
  refine wpAny_bind (wpAny_seqItems hTO₄ rfl ?_); refine wpAny_bind (z3_update hTO₄ fun h₅ hTO₅ hs₅ => ?_)
  replace hTO₅ : Is3 h₅ TO x y c0 := hTO₅
  refine wpAny_bind (wpAny_letGo (wpAny_pure ?_)); refine wpAny_bind (wpAny_bind (wpAny_onRaise ?_)); show wpAny _ _ (Builtin.SmallTypes.nextOf (.ref i3) >>= _) _ _ _
  refine wpAny_bind (wpAny_nextOf_list_item (((((h3.extBut hs₁.extBut D.i3z).extBut hs₂.extBut D.i13.symm).extBut hs₃.extBut D.TOi3.symm).extBut hs₄.extBut D.i23.symm).extBut hs₅.extBut D.TOi3.symm)
    (((((hl3.extBut hs₁.extBut D.cz).extBut hs₂.extBut D.ci1).extBut hs₃.extBut D.cTO).extBut hs₄.extBut D.ci2).extBut hs₅.extBut D.cTO) hv fun h₆ h3₆ hs₆ => wpAny_pure ?_)
  have hTO₆ : Is3 h₆ TO x y c0 := hs₆.extBut _ _ D.TOi3 hTO₅
  refine wpAny_bind (wpAny_seqItems hTO₆ rfl ?_); refine wpAny_bind (z3_update hTO₆ fun h₇ hTO₇ hs₇ => ?_)
  replace hTO₇ : Is3 h₇ TO x y v := hTO₇
  refine wpAny_bind (wpAny_letGo (wpAny_pure (wpAny_pure ?_))); refine wpAny_bind (wpAny_seqItems hTO₇ rfl ?_); refine wpAny_bind (wpAny_newTuple ?_)
  have hsz : h₇.objs.size = s.heap.objs.size := by rw [hs₇.1, hs₆.1, hs₅.1, hs₄.1, hs₃.1, hs₂.1, hs₁.1]
  have hz₇ : IsZip h₇ z TI TO .ellipsis := hs₇.extBut _ _ D.TOz.symm (hs₆.extBut _ _ D.i3z.symm (hs₅.extBut _ _ D.TOz.symm (hs₄.extBut _ _ D.i2z.symm (hs₃.extBut _ _ D.TOz.symm (hs₂.extBut _ _ D.i1z.symm hz₁)))))
  have hk₇ : ∀ d o, d ≠ z → d ≠ TO → d ≠ i1 → d ≠ i2 → d ≠ i3 → s.heap.get? d = some o → h₇.get? d = some o := fun d o c1 c2 c3 c4 c5 e =>
    hs₇.extBut _ _ c2 (hs₆.extBut _ _ c5 (hs₅.extBut _ _ c2 (hs₄.extBut _ _ c4 (hs₃.extBut _ _ c2 (hs₂.extBut _ _ c3 (hs₁.extBut _ _ c1 e))))))
  have h1₇ : h₇.IsTupleIter i1 t (k + 1) := ((((h1₂.extBut hs₃.extBut D.TOi1.symm).extBut hs₄.extBut D.i12).extBut hs₅.extBut D.TOi1.symm).extBut hs₆.extBut D.i13).extBut hs₇.extBut D.TOi1.symm
  have h2₇ : h₇.IsListIter i2 b (k + 1) := ((h2₄.extBut hs₅.extBut D.TOi2.symm).extBut hs₆.extBut D.i23).extBut hs₇.extBut D.TOi2.symm
  have h3₇ : h₇.IsListIter i3 c (k + 1) := h3₆.extBut hs₇.extBut D.TOi3.symm
  have hzlt : z < h₇.objs.size := Heap.lt_size hz₇
  show wpAny _ _ (Builtin.SmallTypes.ownedTupleHandOut (.ref z) (.ref h₇.objs.size) >>= _) _ _ _
  refine wpAny_bind ?_; unfold Builtin.SmallTypes.ownedTupleHandOut
  have hz₈ : IsZip (h₇.push { cls := .type "tuple", data := .seq #[x, y, v] }) z TI TO .ellipsis := Heap.get?_push_of_some _ hz₇
  refine wpAny_bind (wpAny_setField_rec hz₈ (by simp) fun h₉ hz₉ hs₉ => ?_)
  replace hz₉ : IsZip h₉ z TI TO (rawInt h₇.objs.size) := hz₉
  refine wpAny_setField_rec hz₉ (by simp) fun hA hzA hsA => ?_
  replace hzA : IsZip hA z TI TO (rawInt h₇.objs.size) := hzA
  have up : ∀ d o, d ≠ z → h₇.get? d = some o → hA.get? d = some o := fun d o c1 e => hsA.extBut _ _ c1 (hs₉.extBut _ _ c1 (Heap.get?_push_of_some _ e))
  have hTA : Is3 hA h₇.objs.size x y v := hsA.extBut _ _ (Nat.ne_of_gt hzlt) (hs₉.extBut _ _ (Nat.ne_of_gt hzlt) (Heap.get?_push_size _ rfl))
  have hzA8 : hA.objs.size = h₇.objs.size + 1 := by rw [hsA.1, hs₉.1, Heap.size_push]
  rw [hsz] at hzA hTA hzA8
  refine wpAny_pure ⟨_, rfl, ?_⟩
  show Q (.ref h₇.objs.size) _
  rw [hsz]
  exact hQ hA hzA (up _ _ D.TOz hTO₇) (h1₇.at fun o e => up _ o D.i1z e) (h2₇.at fun o e => up _ o D.i2z e) (h3₇.at fun o e => up _ o D.i3z e) hTA hzA8 fun d o c1 c2 c3 c4 c5 e => up d o c1 (hk₇ d o c1 c2 c3 c4 c5 e)
/-- the tuple ends first (or all of them together) -/
theorem z3_end {z TI TO i1 i2 i3 t b c : Addr} {k : Nat} {xs : Array Value} {Q : Fin → Shared → Prop} (hh : A.handled = none) (D : Z3 z TI TO i1 i2 i3 t b c) (hz : IsZip s.heap z TI TO .none) (hTI : Is3 s.heap TI (.ref i1) (.ref i2) (.ref i3))
    (h1 : s.heap.IsTupleIter i1 t k) (hl1 : s.heap.IsTuple t xs) (hx : xs[k]? = none)
    (hE : ∀ h' e, (∀ d o, d ≠ z → d ≠ i1 → s.heap.get? d = some o → h'.get? d = some o) → (∃ o, h'.get? e = some o ∧ o.cls = .type "StopIteration") → E (.ref e) { s with heap := h' }) :
    wpAny (model prog w) A (Builtin.«zip.__next__» ⟨[.ref z], []⟩) Q E s := by
  show wpAny _ _ (field (.ref z) 2 >>= _) _ _ _; refine wpAny_bind (wpAny_field hz rfl (x := .bool false) rfl ?_)
  show wpAny _ _ (field (.ref z) 3 >>= _) _ _ _; refine wpAny_bind (wpAny_field hz rfl (x := .ref TI) rfl ?_)
  refine wpAny_bind (wpAny_seqItems hTI rfl ?_); show wpAny _ _ (Builtin.SmallTypes.ownedTupleIsFree (.ref z) >>= _) _ _ _
  refine wpAny_bind ?_; unfold Builtin.SmallTypes.ownedTupleIsFree; refine wpAny_bind (wpAny_field hz rfl (x := .none) rfl (wpAny_pure ?_)); simp only [if_true]
  refine wpAny_bind (wpAny_rule ?_); refine wpAny_bind (wpAny_field hz rfl (x := .ref TO) rfl ?_); refine wpAny_bind (wpAny_setField_rec hz (by simp) fun h₁ hz₁ hs₁ => ?_)
  replace hz₁ : IsZip h₁ z TI TO .ellipsis := hz₁
  refine wpAny_bind ?_; simp only [List.zipIdx_cons, List.zipIdx_nil, List.forIn_cons, List.forIn_nil]
  refine wpAny_bind (wpAny_bind (wpAny_onRaise ?_)); show wpAny _ _ (Builtin.SmallTypes.nextOf (.ref i1) >>= _) _ _ _
  refine wpAny_bind (tup_nextOf_end hh (h1.extBut hs₁.extBut D.i1z) (hl1.extBut hs₁.extBut D.tz) hx fun h₂ e hs₂ he => ?_)
  obtain ⟨oe, hoe, hce⟩ := he
  have hz₂ : IsZip h₂ z TI TO .ellipsis := hs₂ _ _ D.i1z.symm hz₁
  have hez : e ≠ z := fun x => by subst x; rw [hz₂] at hoe; cases hoe; simp at hce
  exact wpAny_setField_rec hz₂ (by simp) fun h₃ _ hs₃ => hE h₃ e (fun d o c1 c3 x => hs₃.extBut _ _ c1 (hs₂ _ _ c3 (hs₁.extBut _ _ c1 x))) ⟨oe, hs₃.extBut _ _ hez hoe, hce⟩
theorem z3_pyNext_item {z TI TO i1 i2 i3 t b c : Addr} {k : Nat} {xs ys zs : Array Value} {x y v a0 b0 c0 : Value} {Q : Option Value → Shared → Prop} (D : Z3 z TI TO i1 i2 i3 t b c) (hz : IsZip s.heap z TI TO .none) (hTI : Is3 s.heap TI (.ref i1) (.ref i2) (.ref i3)) (hTO : Is3 s.heap TO a0 b0 c0)
    (h1 : s.heap.IsTupleIter i1 t k) (h2 : s.heap.IsListIter i2 b k) (h3 : s.heap.IsListIter i3 c k) (hl1 : s.heap.IsTuple t xs) (hl2 : s.heap.IsList b ys) (hl3 : s.heap.IsList c zs) (hx : xs[k]? = some x) (hy : ys[k]? = some y) (hv : zs[k]? = some v)
    (hQ : ∀ h', IsZip h' z TI TO (rawInt s.heap.objs.size) → Is3 h' TO x y v → h'.IsTupleIter i1 t (k + 1) → h'.IsListIter i2 b (k + 1) → h'.IsListIter i3 c (k + 1) → Is3 h' s.heap.objs.size x y v → h'.objs.size = s.heap.objs.size + 1 →
      (∀ d o, d ≠ z → d ≠ TO → d ≠ i1 → d ≠ i2 → d ≠ i3 → s.heap.get? d = some o → h'.get? d = some o) → Q (some (.ref s.heap.objs.size)) { s with heap := h' }) : wpAny (model prog w) A (pyNext (.ref z)) Q E s := by
  have hT : s.TypeIs (.ref z) "zip" := ⟨_, hz, rfl⟩
  unfold pyNext
  exact wpAny_bind (wpAny_attempt (wpAny_callSpecial?_slot (name := Str.ofString "__next__") hT F.slot_zip_next (wpAny_call_entry F.slot_zip_next hT F.entry_zip_next
      (z3_item D hz hTI hTO h1 h2 h3 hl1 hl2 hl3 hx hy hv fun h' a1 a2 a3 a4 a5 a6 a7 a8 => wpAny_pure (hQ h' a1 a2 a3 a4 a5 a6 a7 a8)) (F.args_zip_next_1 _))))
theorem z3_pyNext_end {z TI TO i1 i2 i3 t b c : Addr} {k : Nat} {xs : Array Value} {Q : Option Value → Shared → Prop} (hh : A.handled = none) (D : Z3 z TI TO i1 i2 i3 t b c) (hz : IsZip s.heap z TI TO .none) (hTI : Is3 s.heap TI (.ref i1) (.ref i2) (.ref i3))
    (h1 : s.heap.IsTupleIter i1 t k) (hl1 : s.heap.IsTuple t xs) (hx : xs[k]? = none) (hQ : ∀ h', (∀ d o, d ≠ z → d ≠ i1 → s.heap.get? d = some o → h'.get? d = some o) → Q none { s with heap := h' }) : wpAny (model prog w) A (pyNext (.ref z)) Q E s := by
  have hT : s.TypeIs (.ref z) "zip" := ⟨_, hz, rfl⟩
  unfold pyNext
  refine wpAny_bind (wpAny_attempt (wpAny_callSpecial?_slot (name := Str.ofString "__next__") hT F.slot_zip_next (wpAny_call_entry F.slot_zip_next hT F.entry_zip_next (z3_end hh D hz hTI h1 hl1 hx fun h' e hk he => ?_) (F.args_zip_next_1 _))))
  obtain ⟨o, ho, hc⟩ := he
  refine wpAny_bind (wpAny_isInstance (T := "StopIteration") (b := true) ⟨o, ho, hc⟩ isSubtype_stop ?_)
  exact wpAny_pure (hQ _ hk)
end
end PySem

end
section
set_option Elab.async false
set_option linter.all false
set_option maxRecDepth 100000
namespace PySem
abbrev z3H1 (h : Heap) (t : Addr) : Heap := h.push { cls := .type "tuple_iterator", data := .fields #[.ref t, .int 0 0] }
abbrev z3H2 (h : Heap) (t b : Addr) : Heap := (z3H1 h t).push { cls := .type "list_iterator", data := .fields #[.ref b, .int 0 0] }
abbrev z3H3 (h : Heap) (t b c : Addr) : Heap := (z3H2 h t b).push { cls := .type "list_iterator", data := .fields #[.ref c, .int 0 0] }
abbrev z3H4 (h : Heap) (t b c : Addr) : Heap := (z3H3 h t b c).push { cls := .type "tuple", data := .seq #[.ref h.objs.size, .ref (z3H1 h t).objs.size, .ref (z3H2 h t b).objs.size] }
abbrev z3H5 (h : Heap) (t b c : Addr) : Heap := (z3H4 h t b c).push { cls := .type "tuple", data := .seq #[.none, .none, .none] }
abbrev z3H6 (h : Heap) (t b c : Addr) : Heap := (z3H5 h t b c).push { cls := .type "zip", data := .fields #[.none, .bool false, .bool false, .ref (z3H3 h t b c).objs.size, .ref (z3H4 h t b c).objs.size] }
theorem z3_new (t b c : Addr) (xs ys zs : Array Value) :
    Meets (Builtin.«zip.__new__» ⟨[.type "zip", .ref t, .ref b, .ref c], []⟩) (fun _ R s => s.heap.IsTuple t xs ∧ s.heap.IsList b ys ∧ s.heap.IsList c zs ∧ R (.ok (.ret (.ref (z3H5 s.heap t b c).objs.size))) { s with heap := z3H6 s.heap t b c }) :=
  .of_wp fun prog w A R s h => by
    obtain ⟨hp, g, d, tk, os⟩ := s; obtain ⟨hl1, hl2, hl3, h⟩ := h
    have hsub := sub_zip
    have hL1 : Heap.IsTuple (Shared.heap ⟨hp, g, d, tk, os⟩) t xs := hl1
    have hL2 : Heap.IsList (Shared.heap ⟨hp.push { cls := .type "tuple_iterator", data := .fields #[.ref t, .int 0 0] }, g, d, tk, os⟩) b ys := Heap.IsList.push hl2 _
    have hL3 : Heap.IsList (Shared.heap ⟨(hp.push { cls := .type "tuple_iterator", data := .fields #[.ref t, .int 0 0] }).push { cls := .type "list_iterator", data := .fields #[.ref b, .int 0 0] }, g, d, tk, os⟩) c zs := Heap.IsList.push (Heap.IsList.push hl3 _) _
    wp_walk using wpAny_pyIter_tuple hL1, wpAny_pyIter_list hL2, wpAny_pyIter_list hL3
    exact ⟨_, rfl, h⟩
section
variable {prog : Program} {w : World} {A : Around} {E : Value → Shared → Prop} {s : Shared}
theorem call_zip_3 {t b c : Addr} {xs ys zs : Array Value} {Q : Value → Shared → Prop} (hl1 : s.heap.IsTuple t xs) (hl2 : s.heap.IsList b ys) (hl3 : s.heap.IsList c zs)
    (h : ∀ h', IsZip h' (s.heap.objs.size + 5) (s.heap.objs.size + 3) (s.heap.objs.size + 4) .none → Is3 h' (s.heap.objs.size + 3) (.ref s.heap.objs.size) (.ref (s.heap.objs.size + 1)) (.ref (s.heap.objs.size + 2)) →
      Is3 h' (s.heap.objs.size + 4) .none .none .none → h'.IsTupleIter s.heap.objs.size t 0 → h'.IsListIter (s.heap.objs.size + 1) b 0 → h'.IsListIter (s.heap.objs.size + 2) c 0 → (∀ d o, s.heap.get? d = some o → h'.get? d = some o) → Q (.ref (s.heap.objs.size + 5)) { s with heap := h' }) :
    wpAny (model prog w) A (call (.type "zip") [.ref t, .ref b, .ref c]) Q E s := by
  refine callType_new F.called_zip (by decide) (F.z3_typeCall _ _ _) (F.z3_newCall _ _ _) (fun obj => F.z3_args_init obj _ _ _) F.entry_zip_new (z3_new t b c xs ys zs) ⟨hl1, hl2, hl3, ?_⟩
  have z1 : (z3H1 s.heap t).objs.size = s.heap.objs.size + 1 := Heap.size_push ..
  have z2 : (z3H2 s.heap t b).objs.size = s.heap.objs.size + 2 := by rw [Heap.size_push, z1]
  have z3 : (z3H3 s.heap t b c).objs.size = s.heap.objs.size + 3 := by rw [Heap.size_push, z2]
  have z4 : (z3H4 s.heap t b c).objs.size = s.heap.objs.size + 4 := by rw [Heap.size_push, z3]
  have z5 : (z3H5 s.heap t b c).objs.size = s.heap.objs.size + 5 := by rw [Heap.size_push, z4]
  have g6 : (z3H6 s.heap t b c).get? (z3H5 s.heap t b c).objs.size = some _ := Heap.get?_push_size _ rfl
  have g5 : (z3H6 s.heap t b c).get? (z3H4 s.heap t b c).objs.size = some _ := Heap.get?_push_of_some _ (Heap.get?_push_size _ rfl)
  have g4 : (z3H6 s.heap t b c).get? (z3H3 s.heap t b c).objs.size = some _ := Heap.get?_push_of_some _ (Heap.get?_push_of_some _ (Heap.get?_push_size _ rfl))
  have g3 : (z3H6 s.heap t b c).get? (z3H2 s.heap t b).objs.size = some _ := Heap.get?_push_of_some _ (Heap.get?_push_of_some _ (Heap.get?_push_of_some _ (Heap.get?_push_size _ rfl)))
  have g2 : (z3H6 s.heap t b c).get? (z3H1 s.heap t).objs.size = some _ := Heap.get?_push_of_some _ (Heap.get?_push_of_some _ (Heap.get?_push_of_some _ (Heap.get?_push_of_some _ (Heap.get?_push_size _ rfl))))
  have g1 : (z3H6 s.heap t b c).get? s.heap.objs.size = some _ := Heap.get?_push_of_some _ (Heap.get?_push_of_some _ (Heap.get?_push_of_some _ (Heap.get?_push_of_some _ (Heap.get?_push_of_some _ (Heap.get?_push_size _ rfl)))))
  show _ ∧ _
  rw [z3, z4, z5] at g6
  rw [z1, z2, z3] at g4
  rw [z4] at g5
  rw [z2] at g3
  rw [z1] at g2
  rw [z5]
  exact ⟨⟨_, g6, rfl⟩, h _ g6 g4 g5 ⟨_, g1, rfl, rfl⟩ ⟨_, g2, rfl, rfl⟩ ⟨_, g3, rfl, rfl⟩ fun d o x => Heap.get?_push_of_some _ (Heap.get?_push_of_some _ (Heap.get?_push_of_some _ (Heap.get?_push_of_some _ (Heap.get?_push_of_some _ (Heap.get?_push_of_some _ x)))))⟩
end
end PySem
namespace L2.Bk
open PySem PySem.Spec PyProof.Rows L2.Bw
theorem off_ofT {X : Cx} {pins : List (Addr × Obj)} {σ : St} {H : Hp} {s : Shared} (I : Inv X pins σ H s) {c l : Addr} {us : List V} (f : FpOk X pins H c) (hq : SqT X.K H l us) : l ≠ c := fun e => by
  subst e
  rcases hq with q | q
  · rcases q with q | ⟨o, q⟩
    · rw [f.1] at q; cases q
    · rw [f.1] at q; cases q
  · obtain ⟨o, its, n, q, _⟩ := q
    have bk := I.ok.mod.kin _ _ q
    rcases f.2.2.2.1 with f | f
    · exact I.ok.noex _ _ bk f
    · exact absurd (Nat.lt_of_lt_of_le (Heap.lt_size bk) (Nat.le_trans I.ok.bsz f)) (Nat.lt_irrefl _)
def Apart6 (z TI TO i1 i2 i3 : Addr) : Prop := z ≠ TI ∧ z ≠ TO ∧ z ≠ i1 ∧ z ≠ i2 ∧ z ≠ i3 ∧ TI ≠ TO ∧ TI ≠ i1 ∧ TI ≠ i2 ∧ TI ≠ i3 ∧ TO ≠ i1 ∧ TO ≠ i2 ∧ TO ≠ i3 ∧ i1 ≠ i2 ∧ i1 ≠ i3 ∧ i2 ≠ i3
theorem z3_apart {z TI TO i1 i2 i3 t b c : Addr} (h : Apart6 z TI TO i1 i2 i3) (ha : ∀ d ∈ [z, TI, TO, i1, i2, i3], t ≠ d) (hb : ∀ d ∈ [z, TI, TO, i1, i2, i3], b ≠ d) (hc : ∀ d ∈ [z, TI, TO, i1, i2, i3], c ≠ d) : Z3 z TI TO i1 i2 i3 t b c := by
  obtain ⟨h1, h2, h3, h4, h5, h6, h7, h8, h9, h10, h11, h12, h13, h14, h15⟩ := h
  simp only [List.mem_cons, List.not_mem_nil, or_false, forall_eq_or_imp, forall_eq] at ha hb hc
  obtain ⟨a1, a2, a3, a4, a5, a6⟩ := ha
  obtain ⟨b1, b2, b3, b4, b5, b6⟩ := hb
  obtain ⟨c1, c2, c3, c4, c5, c6⟩ := hc
  constructor <;> first | assumption | exact Ne.symm (by assumption)
def It3 (K : PySem.W.Frag) (t b c : Addr) : It where
  go := fun i H => ∃ us xs ys, SqT K H t us ∧ SqL K H b xs ∧ SqL K H c ys ∧ i < us.length ∧ i < xs.length ∧ i < ys.length
  yld := fun i H v H' => ∃ T u x y, v = .ref T ∧ H T = none ∧ H' = upd H T (.tup [u, x, y]) ∧ (∀ us, SqT K H t us → us[i]? = some u) ∧ (∀ xs, SqL K H b xs → xs[i]? = some x) ∧ ∀ ys, SqL K H c ys → ys[i]? = some y
  stop := fun i H => ∃ us xs ys, SqT K H t us ∧ SqL K H b xs ∧ SqL K H c ys ∧ i = us.length
theorem turn_zip3 {P : Program} {w : World} {K : PySem.W.Frag} {es : List Expr} {k : Nat} {tp : Pos} (t b c z TI TO i1 i2 i3 : Addr) (hap : Apart6 z TI TO i1 i2 i3) :
    Turn P w K (.Tuple es k tp) (It3 K t b c) [z, TI, TO, i1, i2, i3] z (fun i h => IsZip h z TI TO .none ∧ Is3 h TI (.ref i1) (.ref i2) (.ref i3) ∧ (∃ u v x, Is3 h TO u v x) ∧ h.IsTupleIter i1 t i ∧ h.IsListIter i2 b i ∧ h.IsListIter i3 c i) where
  mem := by simp
  obj := fun i h st d hd => by
    obtain ⟨h1, h2, ⟨u, v, x, h3⟩, ⟨o4, e4, c4, d4⟩, ⟨o5, e5, c5, d5⟩, ⟨o6, e6, c6, d6⟩⟩ := st
    have hd' : d = z ∨ d = TI ∨ d = TO ∨ d = i1 ∨ d = i2 ∨ d = i3 := by simpa using hd
    rcases hd' with rfl | rfl | rfl | rfl | rfl | rfl
    · exact ⟨_, h1, fun v q => by cases (show Data.fields _ = Data.cell v from q)⟩
    · exact ⟨_, h2, fun v q => by cases (show Data.seq _ _ = Data.cell v from q)⟩
    · exact ⟨_, h3, fun v q => by cases (show Data.seq _ _ = Data.cell v from q)⟩
    · exact ⟨o4, e4, fun v q => by rw [d4] at q; cases q⟩
    · exact ⟨o5, e5, fun v q => by rw [d5] at q; cases q⟩
    · exact ⟨o6, e6, fun v q => by rw [d6] at q; cases q⟩
  keep := fun i h h' st kp => by
    obtain ⟨h1, h2, ⟨u, v, x, h3⟩, h4, h5, h6⟩ := st
    exact ⟨kp z (by simp) _ h1, kp TI (by simp) _ h2, ⟨u, v, x, kp TO (by simp) _ h3⟩, h4.at fun o e => kp i1 (by simp) o e, h5.at fun o e => kp i2 (by simp) o e, h6.at fun o e => kp i3 (by simp) o e⟩
  item := by
    intro X hP hw hK hc i pins s σ H E I hf st hg
    subst hP hw hK
    obtain ⟨us, xs, ys, hu, hx, hy, l0, l1, l2⟩ := hg
    obtain ⟨its0, r0, p0, z0⟩ := I.tuple hu
    obtain ⟨its1, r1, p1, z1⟩ := I.list hx
    obtain ⟨its2, r2, p2, z2⟩ := I.list hy
    obtain ⟨h1, h2, h3, h4, h5, h6⟩ := st
    have D : Z3 z TI TO i1 i2 i3 t b c := z3_apart hap (fun d hd => off_ofT I (hf d hd) hu) (fun d hd => off_of I (hf d hd) hx) (fun d hd => off_of I (hf d hd) hy)
    obtain ⟨uv, euv, ru⟩ := r0.get (List.getElem?_eq_getElem l0)
    obtain ⟨xv, exv, rx⟩ := r1.get (List.getElem?_eq_getElem l1)
    obtain ⟨yv, eyv, ry⟩ := r2.get (List.getElem?_eq_getElem l2)
    obtain ⟨a0, b0, c0, h3'⟩ := h3
    refine z3_pyNext_item D h1 h2 h3' h4 h5 h6 (show s.heap.IsTuple t its0.toArray from p0) p1.isList p2.isList (x := uv) (y := xv) (v := yv) (by simpa using euv) (by simpa using exv) (by simpa using eyv) fun h' a1 a2 a3 a4 a5 a6 a7 kp => ?_
    have lt : ∀ {d o}, s.heap.get? d = some o → s.heap.objs.size ≠ d := fun e => Nat.ne_of_gt (Heap.lt_size e)
    refine ⟨_, rfl, wpAny_letOwnedTupleGo_zip a1 fun h2' hz' hs' => ?_⟩
    have n1 : s.heap.objs.size ≠ z := lt h1
    have n2 : s.heap.objs.size ≠ TO := lt h3'
    have n3 : s.heap.objs.size ≠ i1 := by obtain ⟨_, e, _⟩ := h4; exact lt e
    have n4 : s.heap.objs.size ≠ i2 := by obtain ⟨_, e, _⟩ := h5; exact lt e
    have n5 : s.heap.objs.size ≠ i3 := by obtain ⟨_, e, _⟩ := h6; exact lt e
    have n6 : s.heap.objs.size ≠ TI := lt h2
    have ht2 : IsTup h2' s.heap.objs.size #[uv, xv, yv] := ⟨_, hs'.extBut _ _ n1 a6, rfl, _, rfl⟩
    have hT : s.heap.objs.size ≤ s.heap.objs.size := Nat.le_refl _
    have I2 : Inv X pins σ (upd H s.heap.objs.size (.tup [us[i], xs[i], ys[i]])) { s with heap := h2', toks := s.toks } :=
      turnedT (ch := [z, TO, i1, i2, i3]) I (fun d o hd e => hs'.extBut _ _ (fun x => hd (by simp [x])) (kp d o (fun x => hd (by simp [x])) (fun x => hd (by simp [x])) (fun x => hd (by simp [x])) (fun x => hd (by simp [x])) (fun x => hd (by simp [x])) e))
        (fun d hd => hf d (by simp at hd ⊢; rcases hd with rfl | rfl | rfl | rfl | rfl <;> simp)) hT ⟨[uv, xv, yv], .cons ru (.cons rx (.cons ry .nil)), ht2⟩ (by show 3 ≤ sizeLine; decide)
    refine ⟨.ref s.heap.objs.size, _, I2, rfl, ⟨s.heap.objs.size, us[i], xs[i], ys[i], rfl, I.hok.fresh hT, rfl, fun vs hv => ?_, fun vs hv => ?_, fun vs hv => ?_⟩,
      ⟨hz', hs'.extBut _ _ D.TIz (kp _ _ D.TIz D.TITO D.TIi1 D.TIi2 D.TIi3 h2), ⟨_, _, _, hs'.extBut _ _ D.TOz a2⟩, a3.extBut hs'.extBut D.i1z, a4.extBut hs'.extBut D.i2z, a5.extBut hs'.extBut D.i3z⟩, fun d hd => ?_⟩
    · rw [I.tuple_inj hv hu]; exact List.getElem?_eq_getElem l0
    · rw [I.list_inj hv hx]; exact List.getElem?_eq_getElem l1
    · rw [I.list_inj hv hy]; exact List.getElem?_eq_getElem l2
    · have hd' : d = z ∨ d = TI ∨ d = TO ∨ d = i1 ∨ d = i2 ∨ d = i3 := by simpa using hd
      have hne : d ≠ s.heap.objs.size := by
        rcases hd' with rfl | rfl | rfl | rfl | rfl | rfl
        · exact n1.symm
        · exact n6.symm
        · exact n2.symm
        · exact n3.symm
        · exact n4.symm
        · exact n5.symm
      rw [upd_ne hne]
      exact (hf d hd).1
  done := by
    intro X hP hw hK hc i pins s σ H E I hf st hg
    subst hP hw hK
    obtain ⟨us, xs, ys, hu, hx, hy, hi⟩ := hg
    obtain ⟨its0, r0, p0, z0⟩ := I.tuple hu
    obtain ⟨h1, h2, h3, h4, h5, h6⟩ := st
    have len0 := r0.length
    have D : Z3 z TI TO i1 i2 i3 t b c := z3_apart hap (fun d hd => off_ofT I (hf d hd) hu) (fun d hd => off_of I (hf d hd) hx) (fun d hd => off_of I (hf d hd) hy)
    refine z3_pyNext_end (I.ok.hd hc) D h1 h2 h4 (show s.heap.IsTuple t its0.toArray from p0) (by simp; omega) fun h' kp => ⟨rfl, ?_⟩
    exact turnedN (ch := [z, i1]) (t' := s.toks) I (fun d o hd e => kp d o (fun x => hd (by simp [x])) (fun x => hd (by simp [x])) e) (fun d hd => hf d (by simp at hd ⊢; rcases hd with rfl | rfl <;> simp))
  self := fun _ _ _ _ _ st h => wpAny_pyIter_zip st.1 h
theorem apart6' (n : Nat) : (n + 5 : Nat) ≠ n + 3 ∧ (n + 5 : Nat) ≠ n + 4 ∧ (n + 5 : Nat) ≠ n ∧ (n + 5 : Nat) ≠ n + 1 ∧ (n + 5 : Nat) ≠ n + 2 ∧ (n + 3 : Nat) ≠ n + 4 ∧ (n + 3 : Nat) ≠ n ∧ (n + 3 : Nat) ≠ n + 1 ∧ (n + 3 : Nat) ≠ n + 2 ∧ (n + 4 : Nat) ≠ n ∧ (n + 4 : Nat) ≠ n + 1 ∧ (n + 4 : Nat) ≠ n + 2 ∧ (n : Nat) ≠ n + 1 ∧ (n : Nat) ≠ n + 2 ∧ (n + 1 : Nat) ≠ n + 2 := by omega
theorem apart6 (n : Nat) : Apart6 (n + 5) (n + 3) (n + 4) n (n + 1) (n + 2) := apart6' n
theorem le6 (n c : Nat) (h : c = n + 5 ∨ c = n + 3 ∨ c = n + 4 ∨ c = n ∨ c = n + 1 ∨ c = n + 2) : n ≤ c := by omega
section
variable {X : Cx}
def iZip3 (K : PySem.W.Frag) (ta : TA) : TI := fun σ H R => ta σ H fun vs H1 => ∃ t b c us xs ys, vs = [.ref t, .ref b, .ref c] ∧ SqT K H1 t us ∧ SqL K H1 b xs ∧ SqL K H1 c ys ∧ R (It3 K t b c) H1
theorem vals3 {x y z : V} {us : List Value} (r : Vals [x, y, z] us) : ∃ a b c, us = [a, b, c] ∧ RelV x a ∧ RelV y b ∧ RelV z c := by
  cases r with
  | cons r1 r => cases r with
    | cons r2 r => cases r with
      | cons r3 r => cases r; exact ⟨_, _, _, rfl, r1, r2, r3⟩
theorem pi_zip3 {es : List Expr} {k : Nat} {tp p pos : Pos} {a b c : Expr} {ta : TA} (hg : Gl X "zip") (hm : X.mg "zip" = none) (ha : PA X [a, b, c] ta) (hs : starEach [a, b, c] X.env = [(false, eval a X.env), (false, eval b X.env), (false, eval c X.env)] := by rfl) (hs2 : starEach [b, c] X.env = [(false, eval b X.env), (false, eval c X.env)] := by rfl) :
    PI X (.Tuple es k tp) (.Call (.Name "zip" p) [a, b, c] [] pos) (iZip3 X.K ta) := by
  intro pins s σ H R I h
  refine Call_ (ld_blt I hg hm boot_zip (PyProof.Rows.callWith_type1 (thn (ha pos pins s σ H _ I h) fun us s1 q1 => ?_) (by rw [hs, hs2]) (by rw [hs2]; rfl)))
  obtain ⟨vs, H1, I1, r1, t1, l1, l2, ws, xs, ys, e, hw, hx, hy, q⟩ := q1
  subst e
  obtain ⟨u0, u1, u2, e, ru0, ru1, ru2⟩ := vals3 r1
  subst e
  cases ru0; cases ru1; cases ru2
  obtain ⟨i0, v0, p0, z0⟩ := I1.tuple hw
  obtain ⟨i1, v1, p1, z1⟩ := I1.list hx
  obtain ⟨i2, v2, p2, z2⟩ := I1.list hy
  refine call_zip_3 (show s1.heap.IsTuple t1 i0.toArray from p0) p1.isList p2.isList fun h' hz hTI hTO g0 g1 g2 kp => wpAny_pyIter_zip hz ?_
  have I2 : Inv X pins σ H1 { s1 with heap := h' } := I1.kept (t' := s1.toks) kp
  refine ⟨s1.heap.objs.size + 5, [s1.heap.objs.size + 5, s1.heap.objs.size + 3, s1.heap.objs.size + 4, s1.heap.objs.size, s1.heap.objs.size + 1, s1.heap.objs.size + 2], _, It3 X.K t1 l1 l2, H1, rfl, I2, turn_zip3 t1 l1 l2 _ _ _ _ _ _ (apart6 _), ⟨hz, hTI, ⟨_, _, _, hTO⟩, g0, g1, g2⟩, fun d hd => ?_, q⟩
  have hd' : s1.heap.objs.size ≤ d := le6 _ _ (by simpa using hd)
  exact I1.fpOk hd' (I1.hok.fresh hd')
end
end L2.Bk

end
section
set_option Elab.async false
set_option linter.all false
set_option maxRecDepth 100000
/-! Where two kinds part. -/
namespace L2.Bk
open PySem PySem.Spec PyProof.Rows L2.Bw
def stepTab : List (Str × List Str) := [("whole", []), ("truth", []), ("?", []), ("to", ["arg", "res"]), ("row", ["item"]), ("pair", ["one", "two"])]
def stepsOf (h : Str) : List Str := (KTD.datumAt h stepTab).getD []
theorem heads_of {h : Str} {n : Nat} (e : arity h = some n) : h ∈ (["whole", "truth", "?", "row", "to", "pair"] : List Str) := by
  unfold arity at e
  by_cases c1 : h = "whole"
  · simp [c1]
  rw [if_neg c1] at e
  by_cases c2 : h = "truth"
  · simp [c2]
  rw [if_neg c2] at e
  by_cases c3 : h = "?"
  · simp [c3]
  rw [if_neg c3] at e
  by_cases c4 : h = "row"
  · simp [c4]
  rw [if_neg c4] at e
  by_cases c5 : h = "to"
  · simp [c5]
  rw [if_neg c5] at e
  by_cases c6 : h = "pair"
  · simp [c6]
  rw [if_neg c6] at e
  cases e
theorem steps_all : ∀ h ∈ (["whole", "truth", "?", "row", "to", "pair"] : List Str), KTD.datumAt h stepTab = some (stepsOf h) ∧ arity h = some (stepsOf h).length := by decide +kernel
theorem steps_len {h : Str} {n : Nat} (e : arity h = some n) : (stepsOf h).length = n := by
  have := (steps_all h (heads_of e)).2
  rw [e] at this
  exact (Option.some.inj this).symm
mutual
def Kn.part : Kn → Kn → Option (List Str)
  | .mk h ks, .mk g ls => if h = "?" then none else if g = "?" then none else if h = g then Kn.parts (stepsOf h) ks ls else some []
def Kn.parts : List Str → List Kn → List Kn → Option (List Str)
  | s :: ss, t :: r, u :: q => match t.part u with
    | some w => some (s :: w)
    | none => Kn.parts ss r q
  | [], _, _ => none
  | _ :: _, [], _ => none
  | _ :: _, _ :: _, [] => none
end
mutual
theorem part_comm : ∀ (a b : Kn), a.part b = b.part a
  | .mk h ks, .mk g ls => by
    show (if h = "?" then none else if g = "?" then none else if h = g then Kn.parts (stepsOf h) ks ls else some []) = (if g = "?" then none else if h = "?" then none else if g = h then Kn.parts (stepsOf g) ls ks else some [])
    by_cases c1 : h = "?"
    · rw [if_pos c1, if_pos c1]; split <;> rfl
    rw [if_neg c1, if_neg c1]
    by_cases c2 : g = "?"
    · rw [if_pos c2, if_pos c2]
    rw [if_neg c2, if_neg c2]
    by_cases c3 : h = g
    · subst c3
      rw [if_pos rfl, if_pos rfl]; exact parts_comm _ ks ls
    · rw [if_neg c3, if_neg (fun z => c3 z.symm)]
theorem parts_comm : ∀ (ss : List Str) (ks ls : List Kn), Kn.parts ss ks ls = Kn.parts ss ls ks
  | [], ks, ls => by rw [Kn.parts, Kn.parts]
  | _ :: _, [], [] => rfl
  | _ :: _, [], _ :: _ => rfl
  | _ :: _, _ :: _, [] => rfl
  | s :: ss, t :: r, u :: q => by
    show (match t.part u with | some w => some (s :: w) | none => Kn.parts ss r q) = (match u.part t with | some w => some (s :: w) | none => Kn.parts ss q r)
    rw [part_comm t u, parts_comm ss r q]
end
mutual
theorem part_self : ∀ (a : Kn), a.part a = none
  | .mk h ks => by
    show (if h = "?" then none else if h = "?" then none else if h = h then Kn.parts (stepsOf h) ks ks else some []) = none
    rw [if_pos (rfl : h = h), parts_self (stepsOf h) ks]
    split <;> rfl
theorem parts_self : ∀ (ss : List Str) (ks : List Kn), Kn.parts ss ks ks = none
  | [], ks => by rw [Kn.parts]
  | _ :: _, [] => rfl
  | s :: ss, t :: r => by
    show (match t.part t with | some w => some (s :: w) | none => Kn.parts ss r r) = none
    rw [part_self t, parts_self ss r]
end
def wd (w : List Str) : Dk := .tup (w.map Dk.str)
def od : Option (List Str) → Dk
  | none => .non
  | some w => wd w
end L2.Bk

end
section
set_option Elab.async false
set_option linter.all false
namespace L2.Bk
open PySem PySem.Spec PyProof.Rows L2.Bw
end L2.Bk

end
section
set_option Elab.async false
set_option linter.all false
set_option maxRecDepth 100000
/-! The meet of two kinds. -/
namespace L2.Bk
open PySem PySem.Spec PyProof.Rows L2.Bw
mutual
def Kn.both : Kn → Kn → Kn
  | .mk h ks, .mk g ls => if h = "?" then .mk g ls else if g = "?" then .mk h ks else .mk h (Kn.boths ks ls)
def Kn.boths : List Kn → List Kn → List Kn
  | t :: r, u :: q => t.both u :: Kn.boths r q
  | [], _ => []
  | _ :: _, [] => []
end
/-- the parts of two kinds that don't part don't part -/
def Kn.fits : List Kn → List Kn → Prop
  | t :: r, u :: q => t.part u = none ∧ Kn.fits r q
  | _, _ => True
theorem parts_none : ∀ {ss : List Str} {ks ls : List Kn}, ss.length = ks.length → ks.length = ls.length → (Kn.parts ss ks ls = none ↔ Kn.fits ks ls)
  | [], [], [], _, _ => by rw [Kn.parts]; exact ⟨fun _ => trivial, fun _ => rfl⟩
  | s :: ss, t :: r, u :: q, h1, h2 => by
    have ih := parts_none (ss := ss) (ks := r) (ls := q) (by simpa using h1) (by simpa using h2)
    show (match t.part u with | some w => some (s :: w) | none => Kn.parts ss r q) = none ↔ t.part u = none ∧ Kn.fits r q
    cases t.part u with
    | none => exact ⟨fun z => ⟨rfl, ih.mp z⟩, fun z => ih.mpr z.2⟩
    | some w => exact ⟨fun z => (nomatch z), fun z => (nomatch z.1)⟩
  | [], [], _ :: _, _, h2 => by simp at h2
  | [], _ :: _, _, h1, _ => by simp at h1
  | _ :: _, [], _, h1, _ => by simp at h1
  | _ :: _, _ :: _, [], _, h2 => by simp at h2
theorem fits_get : ∀ {ks ls : List Kn} {i : Nat} (h1 : i < ks.length) (h2 : i < ls.length), Kn.fits ks ls → ks[i].part ls[i] = none
  | _ :: _, _ :: _, 0, _, _, h => h.1
  | _ :: r, _ :: q, i + 1, h1, h2, h => fits_get (ks := r) (ls := q) (by simpa using h1) (by simpa using h2) h.2
theorem part_inv {h g : Str} {ks ls : List Kn} (wa : (Kn.mk h ks).wf) (wb : (Kn.mk g ls).wf) (e : (Kn.mk h ks).part (.mk g ls) = none) (c1 : h ≠ "?") (c2 : g ≠ "?") : h = g ∧ ks.length = ls.length ∧ Kn.fits ks ls := by
  have e' : (if h = "?" then none else if g = "?" then none else if h = g then Kn.parts (stepsOf h) ks ls else some []) = none := e
  rw [if_neg c1, if_neg c2] at e'
  by_cases c : h = g
  · subst c
    have h1 := wa.1
    have h2 := wb.1
    have el : ks.length = ls.length := by rw [h1] at h2; exact Option.some.inj h2
    rw [if_pos rfl] at e'
    exact ⟨rfl, el, (parts_none (by rw [steps_len h1]) el).mp e'⟩
  · rw [if_neg c] at e'
    cases e'
theorem part_q (b : Kn) : qK.part b = none := by
  obtain ⟨g, ls⟩ := b
  have e : qK.part (.mk g ls) = if ("?" : Str) = "?" then none else if g = "?" then none else if ("?" : Str) = g then Kn.parts (stepsOf "?") [] ls else some [] := rfl
  exact e.trans (if_pos rfl)
end L2.Bk

end
section
set_option Elab.async false
set_option linter.all false
set_option maxRecDepth 100000
/-! Looser kinds. -/
namespace L2.Bk
open PySem PySem.Spec PyProof.Rows L2.Bw
mutual
def Kn.loose : Kn → Kn → Bool
  | .mk h ks, .mk g ls => if g = "?" then true else if h = g then (Kn.looses ks ls).all id else false
def Kn.looses : List Kn → List Kn → List Bool
  | t :: r, u :: q => t.loose u :: Kn.looses r q
  | [], _ => []
  | _ :: _, [] => []
end
theorem loose_eq (h g : Str) (ks ls : List Kn) : (Kn.mk h ks).loose (.mk g ls) = if g = "?" then true else if h = g then (Kn.looses ks ls).all id else false := rfl
theorem looses_all : ∀ {ks ls : List Kn}, (Kn.looses ks ls).all id = true ↔ ∀ i (h1 : i < ks.length) (h2 : i < ls.length), ks[i].loose ls[i] = true
  | [], ls => ⟨fun _ i h1 _ => absurd h1 (Nat.not_lt_zero _), fun _ => rfl⟩
  | _ :: _, [] => ⟨fun _ i _ h2 => absurd h2 (Nat.not_lt_zero _), fun _ => rfl⟩
  | t :: r, u :: q => by
    have ih := looses_all (ks := r) (ls := q)
    show (t.loose u && (Kn.looses r q).all id) = true ↔ _
    rw [Bool.and_eq_true, ih]
    constructor
    · intro z i h1 h2
      cases i with
      | zero => exact z.1
      | succ i => exact z.2 i (by simpa using h1) (by simpa using h2)
    · intro z
      exact ⟨z 0 (by simp) (by simp), fun i h1 h2 => z (i + 1) (by simpa using h1) (by simpa using h2)⟩
mutual
theorem loose_self : ∀ (a : Kn), a.loose a = true
  | .mk h ks => by
    rw [loose_eq]
    split
    · rfl
    · rw [if_pos rfl, looses_self ks]
theorem looses_self : ∀ (ks : List Kn), (Kn.looses ks ks).all id = true
  | [] => rfl
  | t :: r => by
    show (t.loose t && (Kn.looses r r).all id) = true
    rw [loose_self t, looses_self r]; rfl
end
theorem loose_q (a : Kn) : a.loose qK = true := by obtain ⟨h, ks⟩ := a; exact (loose_eq h "?" ks []).trans (if_pos rfl)
/-- what is told there and otherwise here -/
def off (a b : Kn) (p : List Nat) : Prop := b.headAt p ≠ "?" ∧ b.headAt p ≠ a.headAt p
theorem loose_snoc : ∀ {ks ls : List Kn} {t u : Kn}, ks.length = ls.length → ((Kn.looses ks ls).all id = true) → t.loose u = true → (Kn.looses (ks ++ [t]) (ls ++ [u])).all id = true
  | [], [], t, u, _, _, h => by show (t.loose u && true) = true; rw [h]; rfl
  | a :: r, b :: q, t, u, hl, hs, h => by
    have hs' : (a.loose b && (Kn.looses r q).all id) = true := hs
    rw [Bool.and_eq_true] at hs'
    show (a.loose b && (Kn.looses (r ++ [t]) (q ++ [u])).all id) = true
    rw [hs'.1, loose_snoc (by simpa using hl) hs'.2 h]; rfl
  | [], _ :: _, _, _, hl, _, _ => by simp at hl
  | _ :: _, [], _, _, hl, _, _ => by simp at hl
end L2.Bk

end
section
set_option Elab.async false
set_option linter.all false
set_option maxRecDepth 100000
/-! == of any nested data; t + u with t empty; t * n; a dict of the module from texts to texts. -/
namespace L2.Bk
open PySem PySem.Spec PyProof.Rows L2.Bw PyProof.Rows.LSm
mutual
def Dk.eqb : Dk → Dk → Bool
  | .tup ds, y => match y with | .tup es => eqbs ds es | _ => false
  | .non, y => match y with | .non => true | _ => false
  | .bl a, y => match y with | .bl b => a == b | .int b => (if a then 1 else 0) == b | _ => false
  | .int a, y => match y with | .int b => a == b | .bl b => a == (if b then 1 else 0) | _ => false
  | .str a, y => match y with | .str b => a == b | _ => false
def eqbs : List Dk → List Dk → Bool
  | [], y => match y with | [] => true | _ :: _ => false
  | d :: ds, y => match y with | e :: es => d.eqb e && eqbs ds es | [] => false
end
mutual
theorem eqb_refl : ∀ (d : Dk), d.eqb d = true
  | .tup ds => by show eqbs ds ds = true; exact eqbs_refl ds
  | .non => rfl
  | .bl a => by show (a == a) = true; simp
  | .int a => by show (a == a) = true; simp
  | .str a => by show (a == a) = true; simp
theorem eqbs_refl : ∀ (ds : List Dk), eqbs ds ds = true
  | [] => rfl
  | d :: ds => by show (d.eqb d && eqbs ds ds) = true; rw [eqb_refl d, eqbs_refl ds]; rfl
end
mutual
def nob : Dk → Prop
  | .bl _ => False
  | .tup ds => nobs ds
  | .non => True
  | .int _ => True
  | .str _ => True
def nobs : List Dk → Prop
  | [] => True
  | d :: r => nob d ∧ nobs r
end
theorem nobs_mem : ∀ {ds : List Dk}, nobs ds → ∀ d ∈ ds, nob d
  | e :: r, h, d, hd => by
    rw [nobs] at h
    rcases List.mem_cons.mp hd with rfl | z
    · exact h.1
    · exact nobs_mem h.2 d z
mutual
theorem eqb_eq : ∀ {d e : Dk}, nob d → nob e → d.eqb e = true → d = e
  | .tup ds, e, hd, he, h => by
    cases e with
    | tup es => rw [eqbs_eq (ds := ds) (es := es) (by rw [nob] at hd; exact hd) (by rw [nob] at he; exact he) h]
    | _ => cases h
  | .non, e, _, _, h => by cases e <;> first | rfl | cases h
  | .bl a, e, hd, _, h => by rw [nob] at hd; exact hd.elim
  | .int a, e, hd, he, h => by
    cases e with
    | int b => rw [show a = b by simpa [Dk.eqb] using h]
    | bl b => rw [nob] at he; exact he.elim
    | _ => cases h
  | .str a, e, _, _, h => by
    cases e with
    | str b => rw [show a = b by simpa [Dk.eqb] using h]
    | _ => cases h
theorem eqbs_eq : ∀ {ds es : List Dk}, nobs ds → nobs es → eqbs ds es = true → ds = es
  | [], es, _, _, h => by cases es <;> first | rfl | cases h
  | d :: ds, es, hd, he, h => by
    rw [nobs] at hd
    cases es with
    | nil => cases h
    | cons e es =>
      rw [nobs] at he
      have h' : (d.eqb e && eqbs ds es) = true := h
      rw [Bool.and_eq_true_iff] at h'
      rw [eqb_eq hd.1 he.1 h'.1, eqbs_eq hd.2 he.2 h'.2]
end
mutual
theorem nob_d : ∀ (t : Kn), nob t.d
  | .mk h ks => by show nob (.tup (.str h :: Kn.ds ks)); rw [nob, nobs, nob]; exact ⟨trivial, nob_ds ks⟩
theorem nob_ds : ∀ (ks : List Kn), nobs (Kn.ds ks)
  | [] => by show nobs []; rw [nobs]; trivial
  | t :: r => by show nobs (t.d :: Kn.ds r); rw [nobs]; exact ⟨nob_d t, nob_ds r⟩
end
mutual
theorem d_inj : ∀ {t u : Kn}, t.d = u.d → t = u
  | .mk h ks, .mk g ls, e => by
    have e' : Dk.tup (.str h :: Kn.ds ks) = .tup (.str g :: Kn.ds ls) := e
    injection e' with e'
    injection e' with e1 e2
    injection e1 with e1
    rw [e1, ds_inj e2]
theorem ds_inj : ∀ {ks ls : List Kn}, Kn.ds ks = Kn.ds ls → ks = ls
  | [], [], _ => rfl
  | [], _ :: _, e => nomatch e
  | _ :: _, [], e => nomatch e
  | t :: r, u :: q, e => by
    have e' : t.d :: Kn.ds r = u.d :: Kn.ds q := e
    injection e' with e1 e2
    rw [d_inj e1, ds_inj e2]
end
theorem eqb_kn {t u : Kn} : t.d.eqb u.d = true ↔ t = u := ⟨fun h => d_inj (eqb_eq (nob_d t) (nob_d u) h), fun h => by rw [h]; exact eqb_refl _⟩
theorem eqbs_range : ∀ (ds es : List Dk), eqbs ds es = ((List.range (min ds.length es.length)).all (fun j => (ds[j]?.getD .non).eqb (es[j]?.getD .non)) && ds.length == es.length)
  | [], [] => rfl
  | [], e :: es => by simp [eqbs]
  | d :: ds, [] => by simp [eqbs]
  | d :: ds, e :: es => by
    show (d.eqb e && eqbs ds es) = _
    rw [eqbs_range ds es]
    have m : min (d :: ds).length (e :: es).length = min ds.length es.length + 1 := by simp only [List.length_cons]; omega
    rw [m, List.range_succ_eq_map, List.all_cons, List.all_map]
    have e2 : ((d :: ds).length == (e :: es).length) = (ds.length == es.length) := by simp
    rw [e2, Bool.and_assoc]
    rfl
def unV : Value → V
  | .none => .non | .bool b => .bl b | .int i _ => .int i | .str x _ => .str x | .bytes b _ => .byt b | .float b _ => .flt b | .ref a => .ref a | .type n => .ty n | _ => .non
theorem relV_un {x : V} {u : Value} (h : RelV x u) : unV u = x := by
  cases x with
  | non => cases (show u = Value.none from h); rfl
  | bl b => cases (show u = Value.bool b from h); rfl
  | int i => obtain ⟨t, e⟩ := (show ∃ t, u = Value.int i t from h); subst e; rfl
  | str i => obtain ⟨t, e⟩ := (show ∃ t, u = Value.str i t from h); subst e; rfl
  | byt i => obtain ⟨t, e⟩ := (show ∃ t, u = Value.bytes i t from h); subst e; rfl
  | flt i => obtain ⟨t, e⟩ := (show ∃ t, u = Value.float i t from h); subst e; rfl
  | ref a => cases (show u = Value.ref a from h); rfl
  | ty n => cases (show u = Value.type n from h); rfl
theorem relV_inj {x y : V} {u : Value} (hx : RelV x u) (hy : RelV y u) : x = y := (relV_un hx).symm.trans (relV_un hy)
theorem vals_inj : ∀ {xs ys : List V} {us : List Value}, Vals xs us → Vals ys us → xs = ys
  | _, _, _, .nil, h => by cases h; rfl
  | _, _, _, .cons r t, h => by
    cases h with
    | cons r' t' => rw [relV_inj r r', vals_inj t t']
section
variable {X : Cx}
theorem tp_det {s : Shared} {pins : List (Addr × Obj)} {σ : St} {H : Hp} (I : Inv X pins σ H s) {a : Addr} {xs ys : List V} (h1 : Tp X.K H a xs) (h2 : Tp X.K H a ys) : xs = ys := by
  obtain ⟨i1, r1, ⟨o1, e1, c1, n1, d1⟩, z1⟩ := I.tuple h1.sq
  obtain ⟨i2, r2, ⟨o2, e2, c2, n2, d2⟩, z2⟩ := I.tuple h2.sq
  rw [e1] at e2
  cases e2
  rw [d1] at d2
  injection d2 with d2
  have e : i1 = i2 := by simpa using d2
  subst e
  exact vals_inj r1 r2
mutual
theorem rk_det {s : Shared} {pins : List (Addr × Obj)} {σ : St} {H : Hp} (I : Inv X pins σ H s) : ∀ {d e : Dk} {x : V}, RK X.K H d x → RK X.K H e x → d = e
  | .tup ds, e, x, h, h2 => by
    obtain ⟨a, vs, rfl, ha, ta⟩ := RK.get h
    cases e with
    | tup es =>
      obtain ⟨b, ws, e, hb, tb⟩ := RK.get h2
      cases e
      cases tp_det I ha hb
      rw [rks_det I ta tb]
    | non => rw [RK] at h2; cases h2
    | int i => rw [RK] at h2; cases h2
    | bl i => rw [RK] at h2; cases h2
    | str i => rw [RK] at h2; cases h2
  | .non, e, x, h, h2 => by
    rw [RK] at h; subst h
    cases e with
    | tup es => obtain ⟨b, ws, e, hb, tb⟩ := RK.get h2; cases e
    | non => rfl
    | _ => (rw [RK] at h2) <;> cases h2
  | .int _, e, x, h, h2 => by
    rw [RK] at h; subst h
    cases e with
    | tup es => obtain ⟨b, ws, e, hb, tb⟩ := RK.get h2; cases e
    | _ => rw [RK] at h2; cases h2; try rfl
  | .bl _, e, x, h, h2 => by
    rw [RK] at h; subst h
    cases e with
    | tup es => obtain ⟨b, ws, e, hb, tb⟩ := RK.get h2; cases e
    | _ => rw [RK] at h2; cases h2; try rfl
  | .str _, e, x, h, h2 => by
    rw [RK] at h; subst h
    cases e with
    | tup es => obtain ⟨b, ws, e, hb, tb⟩ := RK.get h2; cases e
    | _ => rw [RK] at h2; cases h2; try rfl
theorem rks_det {s : Shared} {pins : List (Addr × Obj)} {σ : St} {H : Hp} (I : Inv X pins σ H s) : ∀ {ds es : List Dk} {xs : List V}, RKs X.K H ds xs → RKs X.K H es xs → ds = es
  | [], es, xs, h, h2 => by
    cases (show xs = [] from h)
    cases es with
    | nil => rfl
    | cons e es => obtain ⟨v, r, e, _⟩ := h2; cases e
  | d :: ds, es, xs, h, h2 => by
    obtain ⟨v, r, rfl, h, t⟩ := h
    cases es with
    | nil => cases (show v :: r = [] from h2)
    | cons e es =>
      obtain ⟨v', r', e, h', t'⟩ := h2
      cases e
      rw [rk_det I h h', rks_det I t t']
end
def Dk.flat : Dk → Bool
  | .tup _ => false
  | _ => true
theorem flat_tup {s : Shared} {A : Around} {x : V} {u : Value} {b : Addr} {its : Array Value} (fx : flatV x = true) (ru : RelV x u) (p : s.heap.IsTuple b its) (hu : A.units < cLine) : SeqAt.EqAt A s u (.ref b) false ∧ SeqAt.EqAt A s (.ref b) u false := by
  cases x with
  | non => cases (show u = Value.none from ru); exact ⟨SeqAt.EqAt.none_tuple p hu, SeqAt.EqAt.tuple_none p hu⟩
  | bl k => cases (show u = Value.bool k from ru); exact ⟨SeqAt.EqAt.bool_tuple k p hu, SeqAt.EqAt.tuple_bool k p hu⟩
  | int k => obtain ⟨t, e⟩ := (show ∃ t, u = Value.int k t from ru); subst e; exact ⟨SeqAt.EqAt.int_tuple k t p hu, SeqAt.EqAt.tuple_int k t p hu⟩
  | str k => obtain ⟨t, e⟩ := (show ∃ t, u = Value.str k t from ru); subst e; exact ⟨SeqAt.EqAt.str_tuple k t p hu, SeqAt.EqAt.tuple_str k t p hu⟩
  | byt k => cases fx
  | flt k => cases fx
  | ref k => cases fx
  | ty k => cases fx
theorem flat_get {K : PySem.W.Frag} {H : Hp} {d : Dk} {x : V} (h : RK K H d x) : (∃ ds, d = .tup ds) ∨ (flatV x = true ∧ (∀ es, d.eqb (.tup es) = false ∧ (Dk.tup es).eqb d = false) ∧ d.dq = 0) := by
  cases d with
  | tup ds => exact .inl ⟨ds, rfl⟩
  | non => rw [RK] at h; subst h; exact .inr ⟨rfl, fun es => ⟨rfl, rfl⟩, dq_non⟩
  | int k => rw [RK] at h; subst h; exact .inr ⟨rfl, fun es => ⟨rfl, rfl⟩, dq_int _⟩
  | bl k => rw [RK] at h; subst h; exact .inr ⟨rfl, fun es => ⟨rfl, rfl⟩, dq_bl _⟩
  | str k => rw [RK] at h; subst h; exact .inr ⟨rfl, fun es => ⟨rfl, rfl⟩, dq_str _⟩
theorem flat_eqb {K : PySem.W.Frag} {H : Hp} {d e : Dk} {x y : V} (h : RK K H d x) (h2 : RK K H e y) (fx : flatV x = true) (fy : flatV y = true) : d.eqb e = eqV x y := by
  cases d with
  | tup ds => obtain ⟨a, vs, e, _⟩ := RK.get h; subst e; cases fx
  | _ =>
    rw [RK] at h
    cases e with
    | tup es => obtain ⟨a, vs, e, _⟩ := RK.get h2; subst e; cases fy
    | _ => rw [RK] at h2; subst h h2; rfl
theorem rk_eqb {s : Shared} {pins : List (Addr × Obj)} {σ : St} {H : Hp} (I : Inv X pins σ H s) : ∀ (n : Nat) {A : Around} {d e : Dk} {x y : V} {u v : Value}, d.dq ≤ n → RK X.K H d x → RK X.K H e y → RelV x u → RelV y v → A.units + n < cLine → SeqAt.EqAt A s u v (d.eqb e) := by
  intro n
  induction n with
  | zero =>
    intro A d e x y u v hn hx hy ru rv hu
    rcases flat_get hx with ⟨ds, rfl⟩ | ⟨fx, nx, dx⟩
    · have k : 1 + dqs ds ≤ 0 := hn; omega
    rcases flat_get hy with ⟨es, rfl⟩ | ⟨fy, ny, dy⟩
    · obtain ⟨b, ws, rfl, hb, tb⟩ := RK.get hy
      obtain ⟨i2, r2, p2, z2⟩ := I.tuple hb.sq
      cases rv
      rw [(nx es).1]
      exact (flat_tup fx ru p2 (by omega)).1
    · rw [flat_eqb hx hy fx fy]
      exact eqAt_V ru rv fx fy
  | succ n ih =>
    intro A d e x y u v hn hx hy ru rv hu
    rcases flat_get hx with ⟨ds, rfl⟩ | ⟨fx, nx, dx⟩
    · have hn' : 1 + dqs ds ≤ n + 1 := hn
      obtain ⟨a, vs, rfl, ha, ta⟩ := RK.get hx
      obtain ⟨i1, r1, p1, z1⟩ := I.tuple ha.sq
      rcases flat_get hy with ⟨es, rfl⟩ | ⟨fy, ny, dy⟩
      · obtain ⟨b, ws, rfl, hb, tb⟩ := RK.get hy
        cases ru; cases rv
        by_cases hab : a = b
        · subst hab
          have e1 := tp_det I ha hb
          subst e1
          rw [rks_det I ta tb]
          have e2 : (Dk.tup es).eqb (.tup es) = true := eqb_refl _
          rw [e2]
          exact SeqAt.EqAt.same _
        · obtain ⟨i2, r2, p2, z2⟩ := I.tuple hb.sq
          have l1 := r1.length
          have l2 := r2.length
          have l3 := ta.length
          have l4 := tb.length
          have key := SeqAt.RcAt.tuples (A := A) (s := s) (e := fun j => (ds[j]?.getD .non).eqb (es[j]?.getD .non)) p1 p2 (by omega) fun j h1 h2 => by
            have hjd : j < ds.length := by simp at h1; omega
            have hje : j < es.length := by simp at h2; omega
            obtain ⟨x1, e1, q1⟩ := ta.get (List.getElem?_eq_getElem hjd)
            obtain ⟨y1, e2, q2⟩ := tb.get (List.getElem?_eq_getElem hje)
            have k := dqs_mem (List.getElem_mem hjd)
            simp only [List.getElem?_eq_getElem hjd, List.getElem?_eq_getElem hje, Option.getD_some]
            exact ih (A := A.in1) (by omega) q1 q2 (item_k r1 e1 h1) (item_k r2 e2 h2) (by show A.units + 1 + n < cLine; omega)
          have val : ((List.range (min i1.toArray.size i2.toArray.size)).all (fun j => (ds[j]?.getD .non).eqb (es[j]?.getD .non)) && i1.toArray.size == i2.toArray.size) = eqbs ds es := by
            rw [eqbs_range, List.size_toArray, List.size_toArray, ← l1, ← l2, ← l3, ← l4]
          rw [val] at key
          exact SeqAt.EqAt.of_refs hab key
      · cases ru
        rw [(ny ds).2]
        exact (flat_tup fy rv p1 (by omega)).2
    · rcases flat_get hy with ⟨es, rfl⟩ | ⟨fy, ny, dy⟩
      · obtain ⟨b, ws, rfl, hb, tb⟩ := RK.get hy
        obtain ⟨i2, r2, p2, z2⟩ := I.tuple hb.sq
        cases rv
        rw [(nx es).1]
        exact (flat_tup fx ru p2 (by omega)).1
      · rw [flat_eqb hx hy fx fy]
        exact eqAt_V ru rv fx fy
theorem eqg_ok {k : Nat} (hr : Room k X.A) {s : Shared} {pins : List (Addr × Obj)} {σ : St} {H : Hp} (I : Inv X pins σ H s) {x y : V} {u v : Value} {ds es : List Dk} (hx : RK X.K H (.tup ds) x) (hy : RK X.K H (.tup es) y) (hd : dqs ds ≤ 60) (ru : RelV x u) (rv : RelV y v) : SeqAt.RcAt X.A s u v (eqbs ds es) ∧ SeqAt.RcNeAt X.A s u v (!eqbs ds es) := by
  have hu := hr.units
  obtain ⟨a, vs, rfl, ha, ta⟩ := RK.get hx
  obtain ⟨b, ws, rfl, hb, tb⟩ := RK.get hy
  cases ru; cases rv
  obtain ⟨i1, r1, p1, z1⟩ := I.tuple ha.sq
  obtain ⟨i2, r2, p2, z2⟩ := I.tuple hb.sq
  have l1 := r1.length
  have l2 := r2.length
  have l3 := ta.length
  have l4 := tb.length
  have it : ∀ j (h1 : j < i1.toArray.size) (h2 : j < i2.toArray.size), SeqAt.EqAt X.A.in1 s i1.toArray[j] i2.toArray[j] ((fun j => (ds[j]?.getD .non).eqb (es[j]?.getD .non)) j) := fun j h1 h2 => by
    have hjd : j < ds.length := by simp at h1; omega
    have hje : j < es.length := by simp at h2; omega
    obtain ⟨x1, e1, q1⟩ := ta.get (List.getElem?_eq_getElem hjd)
    obtain ⟨y1, e2, q2⟩ := tb.get (List.getElem?_eq_getElem hje)
    have k := dqs_mem (List.getElem_mem hjd)
    simp only [List.getElem?_eq_getElem hjd, List.getElem?_eq_getElem hje, Option.getD_some]
    exact rk_eqb I 60 (A := X.A.in1) (by omega) q1 q2 (item_k r1 e1 h1) (item_k r2 e2 h2) (by show X.A.units + 1 + 60 < cLine; omega)
  have e : ((List.range (min i1.toArray.size i2.toArray.size)).all (fun j => (ds[j]?.getD .non).eqb (es[j]?.getD .non)) && i1.toArray.size == i2.toArray.size) = eqbs ds es := by
    rw [eqbs_range, List.size_toArray, List.size_toArray, ← l1, ← l2, ← l3, ← l4]
  have k1 := SeqAt.RcAt.tuples (A := X.A) (s := s) p1 p2 (by omega) it
  have k2 := SeqAt.RcNeAt.tuples (A := X.A) (s := s) p1 p2 (by omega) it
  rw [e] at k1 k2
  exact ⟨k1, k2⟩
/-- == of texts and numbers, of lists as before, of any two tuples -/
def rEqG (K : PySem.W.Frag) : R2 := fun x y H Q => (∃ ds es, RK K H (.tup ds) x ∧ RK K H (.tup es) y ∧ dqs ds ≤ 60 ∧ Q (.bl (eqbs ds es)) H) ∨ rEqK K x y H Q
def rNeG (K : PySem.W.Frag) : R2 := fun x y H Q => (∃ ds es, RK K H (.tup ds) x ∧ RK K H (.tup es) y ∧ dqs ds ≤ 60 ∧ Q (.bl (!eqbs ds es)) H) ∨ rNeK K x y H Q
theorem op_eqG {k : Nat} (hr : Room k X.A) : OpR X (compareOp .Eq) (rEqG X.K) := by
  intro pins s σ H x y v u Q I rx ry h
  rcases h with ⟨ds, es, h1, h2, hd, q⟩ | h
  · exact (eqg_ok hr I h1 h2 hd rx ry).1 _ _ _ _ ⟨.bl _, H, I, rfl, q⟩
  · exact op_eqK hr pins s σ H x y v u Q I rx ry h
theorem op_neG {k : Nat} (hr : Room k X.A) : OpR X (compareOp .NotEq) (rNeG X.K) := by
  intro pins s σ H x y v u Q I rx ry h
  rcases h with ⟨ds, es, h1, h2, hd, q⟩ | h
  · exact (eqg_ok hr I h1 h2 hd rx ry).2 _ _ _ _ ⟨.bl _, H, I, rfl, q⟩
  · exact op_neK hr pins s σ H x y v u Q I rx ry h
/-! ### t + u -/
def rCat0 (K : PySem.W.Frag) : R2 := fun x y H Q => ∃ a b ys, x = .ref a ∧ y = .ref b ∧ SqT K H a [] ∧ SqT K H b ys ∧ Q (.ref b) H
theorem op_cat0 : OpR X (binaryOp .Add) (rCat0 X.K) := by
  intro pins s σ H x y v u Q I rx ry h
  obtain ⟨a, b, ys, rfl, rfl, ha, hb, q⟩ := h
  cases rx
  cases ry
  obtain ⟨its, r1, p1, _⟩ := I.tuple ha
  obtain ⟨its2, r2, p2, _⟩ := I.tuple hb
  cases r1
  obtain ⟨⟨cls, dd, data, sl⟩, ho, hc, n, hd⟩ := id p1
  obtain ⟨⟨cls2, dd2, data2, sl2⟩, ho2, hc2, n2, hd2⟩ := id p2
  simp only at hc hd hc2 hd2
  subst hc hd hc2 hd2
  exact concat_meets ⟨_, ho, rfl⟩ ⟨_, ho2, rfl⟩ noFill_tuple_add seq_tuple_add PySem.F.slot_tuple_add PySem.F.entry_tuple_add (PySem.F.args_tuple_add_2 _ _)
      (tuple_addW0 a b #[] its2.toArray n n2 dd dd2 sl sl2 rfl) ⟨ho, ho2, ⟨.ref b, H, I, rfl, q⟩⟩
def rAddG (K : PySem.W.Frag) : R2 := fun x y H Q => rCat0 K x y H Q ∨ rAddA K x y H Q
theorem op_addG : OpR X (binaryOp .Add) (rAddG X.K) := by
  intro pins s σ H x y v u Q I rx ry h
  rcases h with h | h
  · exact op_cat0 pins s σ H x y v u Q I rx ry h
  · exact op_addA pins s σ H x y v u Q I rx ry h
theorem cat_g {K : PySem.W.Frag} {H : Hp} {x y : V} {ds es : List Dk} {Q : VK} (ha : RK K H (.tup ds) x) (hb : RK K H (.tup es) y) (hz : ds.length + es.length ≤ 1000)
    (q : ∀ (v : V) (H' : Hp), Old H H' → RK K H' (.tup (ds ++ es)) v → Q v H') : rAddG K x y H Q := by
  obtain ⟨a, xs, rfl, ta, ra⟩ := RK.get ha
  obtain ⟨b, ys, rfl, tb, rb⟩ := RK.get hb
  have l1 := ra.length
  have l2 := rb.length
  cases xs with
  | nil =>
    cases (show ds = [] from List.length_eq_zero_iff.mp l1)
    exact .inl ⟨a, b, ys, rfl, rfl, ta.sq, tb.sq, q _ H (Old.refl _) (RK.tup tb rb)⟩
  | cons x r => exact .inr (addT (cat_k ta tb ra rb (by simp) (by omega) fun c H' o r => q _ H' o r))
end
end L2.Bk
namespace PySem
open Sem (wp)
theorem noFill_tuple_mul : fillsNumberSlot (.type "tuple") "mul" = pure false :=
  fillsNumberSlot_seq (id := "tuple.__mul__") (r := some (.builtin "tuple.__rmul__")) F.slot_tuple_mul.lookup (by decide +kernel) F.slot_tuple_rmul.lookup (by decide +kernel)
theorem repeat_tuple : seqRepeat? (.type "tuple") = pure (some (.builtin "tuple.__mul__")) := by
  unfold seqRepeat?
  rw [seqSlot_of (T := "tuple") (name := "__mul__") (id := "tuple.__mul__") F.slot_tuple_mul.lookup (by decide +kernel), seqSlot_of (T := "tuple") (name := "__rmul__") (id := "tuple.__rmul__") F.slot_tuple_rmul.lookup (by decide +kernel)]
  rfl
theorem int_rmul_tuple (a : Int) (t : Tok) (l : Addr) (items : Array Value) (n : Nat) (dd : Option Addr) (sl : Array (Option Value)) :
    Meets (Builtin.«int.__rmul__» ⟨[.int a t, .ref l], []⟩) (fun _ R s => s.heap.get? l = some { cls := .type "tuple", dict := dd, data := .seq items n, slots := sl } ∧ R (.ok (.ret Value.notImplemented)) s) :=
  .of_wp fun prog w A R s h => by obtain ⟨hp, g, d, tk, os⟩ := s; obtain ⟨hl, h⟩ := h; wp_walk; exact ⟨_, rfl, h⟩
theorem tuple_mul1 (l : Addr) (v : Value) (n : Nat) (u : Tok) (dd : Option Addr) (sl : Array (Option Value)) :
    Meets (Builtin.«tuple.__mul__» ⟨[.ref l, .int 1 u], []⟩) (fun _ R s => s.heap.get? l = some { cls := .type "tuple", dict := dd, data := .seq #[v] n, slots := sl } ∧ R (.ok (.ret (.ref l))) s) :=
  .of_wp fun prog w A R s h => by obtain ⟨hp, g, d, tk, os⟩ := s; obtain ⟨hl, h⟩ := h; have f1 := AutoSeq1.idx_int; wp_walk using wpAny_loadPart' hl; exact ⟨_, rfl, h⟩
theorem tuple_mul0 (l : Addr) (v : Value) (n : Nat) (u : Tok) (dd : Option Addr) (sl : Array (Option Value)) :
    Meets (Builtin.«tuple.__mul__» ⟨[.ref l, .int 0 u], []⟩) (fun _ R s => s.heap.get? l = some { cls := .type "tuple", dict := dd, data := .seq #[v] n, slots := sl } ∧ R (.ok (.ret (.ref s.heap.objs.size))) { s with heap := s.heap.push { cls := .type "tuple", data := .seq #[] } }) :=
  .of_wp fun prog w A R s h => by obtain ⟨hp, g, d, tk, os⟩ := s; obtain ⟨hl, h⟩ := h; have f1 := AutoSeq1.idx_int; wp_walk using wpAny_loadPart' hl; exact ⟨_, rfl, h⟩
theorem tuple_mul2 (l : Addr) (v : Value) (n : Nat) (u : Tok) (dd : Option Addr) (sl : Array (Option Value)) :
    Meets (Builtin.«tuple.__mul__» ⟨[.ref l, .int 2 u], []⟩) (fun _ R s => s.heap.get? l = some { cls := .type "tuple", dict := dd, data := .seq #[v] n, slots := sl } ∧ R (.ok (.ret (.ref s.heap.objs.size))) { s with heap := s.heap.push { cls := .type "tuple", data := .seq #[v, v] } }) :=
  .of_wp fun prog w A R s h => by obtain ⟨hp, g, d, tk, os⟩ := s; obtain ⟨hl, h⟩ := h; have f1 := AutoSeq1.idx_int; wp_walk using wpAny_loadPart' hl; exact ⟨_, rfl, h⟩
end PySem
namespace L2.Bk
open PySem PySem.Spec PyProof.Rows L2.Bw
section
variable {X : Cx}
/-- (x,) * n, n at most 2 -/
def rRep (K : PySem.W.Frag) : R2 := fun x y H Q => ∃ a v i, x = .ref a ∧ y = .int i ∧ SqT K H a [v] ∧ ((i = 1 ∧ Q (.ref a) H) ∨ (i = 0 ∧ ∀ p, H p = none → Q (.ref p) (upd H p (.tup []))) ∨ (i = 2 ∧ ∀ p, H p = none → Q (.ref p) (upd H p (.tup [v, v]))))
theorem op_rep : OpR X (binaryOp .Mult) (rRep X.K) := by
  intro pins s σ H x y v u Q I rx ry h
  obtain ⟨a, v1, i, rfl, rfl, ha, h⟩ := h
  cases rx
  obtain ⟨tk, rfl⟩ := ry
  obtain ⟨its, r1, p1, _⟩ := I.tuple ha
  obtain ⟨u1, e1, ru1⟩ := Vals.one r1
  subst e1
  obtain ⟨⟨cls, dd, data, sl⟩, ho, hc, n, hd⟩ := id p1
  simp only at hc hd
  subst hc hd
  refine wpAny_binaryOp_repeat_ref (T := "tuple") (U := "int") (by decide) ⟨_, ho, rfl⟩ (fun s' => typeIs_int s' i tk) noFill_tuple_mul PySem.F.fills_int_mul PySem.F.slot_int_rmul repeat_tuple PySem.F.slot_int_index.lookup ?_
  refine call_meets PySem.F.slot_int_rmul (typeIs_int s i tk) PySem.F.entry_int_rmul (PySem.F.args_int_rmul_2 _ _) (int_rmul_tuple i tk a #[u1] n dd sl) ⟨ho, rfl, ⟨_, ho, rfl⟩, ?_⟩
  rcases h with ⟨rfl, q⟩ | ⟨rfl, q⟩ | ⟨rfl, q⟩
  · exact call_meets PySem.F.slot_tuple_mul ⟨_, ho, rfl⟩ PySem.F.entry_tuple_mul (PySem.F.args_tuple_mul_2 _ _) (tuple_mul1 a u1 n tk dd sl) ⟨ho, .ref a, H, I, rfl, q⟩
  · refine call_meets PySem.F.slot_tuple_mul ⟨_, ho, rfl⟩ PySem.F.entry_tuple_mul (PySem.F.args_tuple_mul_2 _ _) (tuple_mul0 a u1 n tk dd sl) ⟨ho, ?_⟩
    refine ⟨.ref s.heap.objs.size, _, I.laid (t' := s.toks) (o := .tup []) (fun b ob q => Heap.get?_push_of_some _ q) (Nat.le_refl _) ?_, rfl, q _ (I.hok.fresh (Nat.le_refl _))⟩
    exact ⟨by show 0 ≤ sizeLine; decide, [], .nil, IsTup.new _ _⟩
  · refine call_meets PySem.F.slot_tuple_mul ⟨_, ho, rfl⟩ PySem.F.entry_tuple_mul (PySem.F.args_tuple_mul_2 _ _) (tuple_mul2 a u1 n tk dd sl) ⟨ho, ?_⟩
    refine ⟨.ref s.heap.objs.size, _, I.laid (t' := s.toks) (o := .tup [v1, v1]) (fun b ob q => Heap.get?_push_of_some _ q) (Nat.le_refl _) ?_, rfl, q _ (I.hok.fresh (Nat.le_refl _))⟩
    exact ⟨by show 2 ≤ sizeLine; decide, [u1, u1], .cons ru1 (.cons ru1 .nil), IsTup.new _ _⟩
def rMulG (K : PySem.W.Frag) : R2 := fun x y H Q => rRep K x y H Q ∨ (rI CMul fun i j => .int (i * j)) x y H Q
theorem op_mulG : OpR X (binaryOp .Mult) (rMulG X.K) := by
  intro pins s σ H x y v u Q I rx ry h
  rcases h with h | h
  · exact op_rep pins s σ H x y v u Q I rx ry h
  · exact op_mul pins s σ H x y v u Q I rx ry h
/-! ### a dict of the module from texts to texts -/
def lookS (ss : Str) (v : Value) : Bool := match v with
  | .str y _ => y == ss
  | _ => false
def IsS (ss : Str) (v : Value) : Prop := ∃ t, v = .str ss t
theorem isS_of (ss : Str) (v : Value) (h : lookS ss v = true) : IsS ss v := by
  unfold lookS at h
  cases v with
  | str y t => exact ⟨t, by rw [show y = ss by simpa using h]⟩
  | _ => simp at h
def rTabS (a : Addr) (D : List (Str × Str)) : R2 := fun x y H Q => x = .ref a ∧ ∃ z r, y = .str z ∧ KTD.datumAt z D = some r ∧ Q (.str r) H
theorem pe_tabS {x : Str} {p pos : Pos} {b : Expr} {tb : TE} {a : Addr} {D : List (Str × Str)} (hg : Gl X x) (hm : X.mg x = some (.ref a)) (hK : KTD.tabLook lookS (fun b => X.K.lookup b) a D = true) (hb : PE X b tb) (hs : PlainIx b)
    (hd : (x == ("__debug__" : Str)) = false := by decide) (hl : ∀ r, letTemporaryGo (.Name x p) (.ref a) r = pure () := by intro _; rfl) : PE X (.Subscript (.Name x p) b pos) (tOp (rTabS a D) (tC (.ref a)) tb) := by
  intro pins s σ H Q I h
  refine Subscript_ (binT (pe_glob hg hm (v := .ref a) rfl hd) hb I h fun v u s2 x' y H2 I2 rx ry q => ?_)
  obtain ⟨e, z, ss, e', hat, q⟩ := q
  subst e e'
  cases rx
  obtain ⟨tz, e⟩ := ry
  subst e
  have T : KTD.TabOf IsS s2.heap a D := KTD.tab_of_look isS_of (fun b o e => I2.kIn b o e) hK
  have ty : s2.TypeIs (.ref a) "dict" := by obtain ⟨_, o, _, _, ho, hc, _⟩ := T; exact ⟨o, ho, hc.1⟩
  refine subscriptTail_builtin ty slot_dict_getitem.lookup ?_ (hs _ _) hl
  unfold getItem
  refine wpAny_holding ?_
  refine wpAny_bind (wpAny_sequenceKey ty (by decide) ?_)
  refine wpAny_bind (wpAny_callSpecial?_slot (name := Str.ofString "__getitem__") ty slot_dict_getitem (wpAny_call_entry slot_dict_getitem ty entry_dict_getitem ?_ (args_dict_getitem _ _)))
  show wpAny _ _ (dictGet a (.str z tz) >>= _) _ _ s2
  refine wpAny_bind (getTab T hat fun v hv => wpAny_pure ⟨v, rfl, wpAny_pure ?_⟩)
  obtain ⟨t, e⟩ := hv
  subst e
  exact ⟨.str ss, H2, I2.tok _, ⟨t, rfl⟩, q⟩
end
end L2.Bk

end
section
set_option Elab.async false
set_option linter.all false
set_option maxRecDepth 100000
/-! Looks. -/
namespace L2.Bk
open PySem PySem.Spec PyProof.Rows L2.Bw
structure Lb where
  p : Int
  s : Str
  w : List Str
def Lb.d (l : Lb) : Dk := .tup [.int l.p, .str l.s, wd l.w]
abbrev Gd := Kn × Lb
def gdd (g : Gd) : Dk := .tup [g.1.d, g.2.d]
def ogd : Option Gd → Dk
  | none => .non
  | some g => gdd g
inductive Lk where
  | mk (a : Option Gd) (h : Str) (ls : List Lk) (t : Option Gd)
  | br (a : Option Gd) (t2 a2 : Gd)
def brd (t a : Gd) : Dk := .tup [.str "broken", gdd t, gdd a]
mutual
def Lk.d : Lk → Dk
  | .mk a h ls t => .tup [ogd a, .tup (.str h :: Lk.ds ls), ogd t]
  | .br a t2 a2 => .tup [ogd a, brd t2 a2, .non]
def Lk.ds : List Lk → List Dk
  | [] => []
  | x :: r => x.d :: Lk.ds r
end
def sameD : Dk := .tup [.str "same"]
def stillD : Dk := .tup [.non, sameD, .non]
def stillL : Lk := .mk none "same" [] none
theorem lds_length : ∀ (ls : List Lk), (Lk.ds ls).length = ls.length
  | [] => rfl
  | _ :: r => by show (Lk.ds r).length + 1 = r.length + 1; rw [lds_length r]
theorem lds_get : ∀ {ls : List Lk} {i : Nat} (h : i < ls.length), (Lk.ds ls)[i]? = some ls[i].d
  | _ :: _, 0, _ => rfl
  | _ :: r, i + 1, h => by
    show (Lk.ds r)[i]? = _
    exact lds_get (ls := r) (by simpa using h)
theorem lds_append : ∀ (ks ls : List Lk), Lk.ds (ks ++ ls) = Lk.ds ks ++ Lk.ds ls
  | [], _ => rfl
  | t :: r, ls => by show t.d :: Lk.ds (r ++ ls) = t.d :: (Lk.ds r ++ Lk.ds ls); rw [lds_append r ls]
/-! ### labels -/
def other (s : Str) : Str := if s = "in" then "out" else "in"
def Lb.on (l : Lb) (s : Str) : Lb := ⟨l.p, if s = "arg" then other l.s else l.s, l.w ++ [s]⟩
def lab (p : Int) : Lb := ⟨p, "in", []⟩
def sides : List Str := ["in", "out"]
theorem other_in : ∀ s ∈ sides, other s ∈ sides := by decide +kernel
theorem on_side {l : Lb} (h : l.s ∈ sides) (s : Str) : (l.on s).s ∈ sides := by
  show (if s = "arg" then other l.s else l.s) ∈ sides
  split
  · exact other_in _ h
  · exact h
theorem on_len (l : Lb) (s : Str) : (l.on s).w.length = l.w.length + 1 := by show (l.w ++ [s]).length = _; simp
/-! ### the look from a kind to another -/
def gr (a : Kn) : Kn := .mk a.h (List.replicate a.ks.length qK)
def fillK (a b : Kn) : Kn := if a.h = "?" then gr b else a
def askOf (a b : Kn) (l : Lb) : Option Gd := if a.h = "?" then (if b.h = "?" then none else some (gr b, l)) else none
def gos (f : Kn → Kn → Lb → Lk) (l : Lb) : List Str → List Kn → List Kn → List Lk
  | s :: ss, x :: xs, y :: ys => (if s = "arg" then f y x (l.on s) else f x y (l.on s)) :: gos f l ss xs ys
  | [], _, _ => []
  | _ :: _, [], _ => []
  | _ :: _, _ :: _, [] => []
def Lk.still : Lk → Bool
  | .mk none h [] none => decide (h = "same")
  | _ => false
theorem still_iff {x : Lk} : x.still = true ↔ x = stillL := by
  constructor
  · intro h
    unfold Lk.still at h
    split at h
    · rw [of_decide_eq_true h]; rfl
    · cases h
  · intro h; rw [h]; rfl
def wrapH (h : Str) (ls : List Lk) : Str := if ls.all Lk.still then "same" else h
def wrapL (ls : List Lk) : List Lk := if ls.all Lk.still then [] else ls
def gon : Nat → Kn → Kn → Lb → Lk
  | 0, _, _, _ => stillL
  | m + 1, a, b, l => .mk (askOf a b l) (wrapH (fillK a b).h (gos (gon m) l (stepsOf (fillK a b).h) (fillK a b).ks (fillK b a).ks)) (wrapL (gos (gon m) l (stepsOf (fillK a b).h) (fillK a b).ks (fillK b a).ks)) (askOf b a l)
theorem gos_length : ∀ (f : Kn → Kn → Lb → Lk) (l : Lb) (ss : List Str) (xs ys : List Kn), (gos f l ss xs ys).length = min ss.length (min xs.length ys.length)
  | _, _, [], _, _ => by simp [gos]
  | _, _, _ :: _, [], _ => by simp [gos]
  | _, _, _ :: _, _ :: _, [] => by simp [gos]
  | f, l, s :: ss, x :: xs, y :: ys => by
    show (gos f l ss xs ys).length + 1 = min (ss.length + 1) (min (xs.length + 1) (ys.length + 1))
    rw [gos_length f l ss xs ys]
    omega
theorem gos_get : ∀ {f : Kn → Kn → Lb → Lk} {l : Lb} {ss : List Str} {xs ys : List Kn} {i : Nat} (h0 : i < ss.length) (h1 : i < xs.length) (h2 : i < ys.length), (gos f l ss xs ys)[i]? = some (if ss[i] = "arg" then f ys[i] xs[i] (l.on ss[i]) else f xs[i] ys[i] (l.on ss[i]))
  | f, l, s :: ss, x :: xs, y :: ys, 0, _, _, _ => rfl
  | f, l, s :: ss, x :: xs, y :: ys, i + 1, h0, h1, h2 => by
    show (gos f l ss xs ys)[i]? = _
    rw [gos_get (f := f) (l := l) (ss := ss) (xs := xs) (ys := ys) (i := i) (by simpa using h0) (by simpa using h1) (by simpa using h2)]
    rfl
theorem gos_take {f : Kn → Kn → Lb → Lk} {l : Lb} {ss : List Str} {xs ys : List Kn} {i : Nat} (h0 : i < ss.length) (h1 : i < xs.length) (h2 : i < ys.length) : (gos f l ss xs ys).take (i + 1) = (gos f l ss xs ys).take i ++ [if ss[i] = "arg" then f ys[i] xs[i] (l.on ss[i]) else f xs[i] ys[i] (l.on ss[i])] := by
  rw [List.take_add_one, gos_get h0 h1 h2]
  rfl
theorem gr_ks (a : Kn) : (gr a).ks = List.replicate a.ks.length qK := rfl
theorem rep_wfs : ∀ n, Kn.wfs (List.replicate n qK)
  | 0 => trivial
  | n + 1 => ⟨wf_q, rep_wfs n⟩
theorem rep_deps : ∀ n, Kn.deps (List.replicate n qK) ≤ 1
  | 0 => Nat.zero_le _
  | n + 1 => by
    have := rep_deps n
    show max qK.dep (Kn.deps (List.replicate n qK)) ≤ 1
    have e : qK.dep = 1 := rfl
    omega
theorem wf_ar {a : Kn} (h : a.wf) : arity a.h = some a.ks.length := by obtain ⟨g, ks⟩ := a; exact h.1
theorem wf_ks {a : Kn} (h : a.wf) : Kn.wfs a.ks := by obtain ⟨g, ks⟩ := a; exact h.2
theorem dep_eq (a : Kn) : a.dep = 1 + Kn.deps a.ks := by obtain ⟨g, ks⟩ := a; rfl
theorem eta (a : Kn) : Kn.mk a.h a.ks = a := by obtain ⟨g, ks⟩ := a; rfl
theorem gr_wf {a : Kn} (h : a.wf) : (gr a).wf := ⟨by rw [wf_ar h, List.length_replicate], rep_wfs _⟩
theorem gr_dep (a : Kn) : (gr a).dep ≤ a.dep := by
  rw [dep_eq, dep_eq, gr_ks]
  cases hk : a.ks with
  | nil => exact Nat.le_refl _
  | cons t r =>
    have h1 := rep_deps (t :: r).length
    have h2 := dep_pos t
    have h3 : Kn.deps (t :: r) = max t.dep (Kn.deps r) := rfl
    omega
theorem wf_q_eq {a : Kn} (h : a.wf) (e : a.h = "?") : a = qK := by
  obtain ⟨g, ks⟩ := a
  cases (show g = "?" from e)
  have := arity_q h.1
  rw [List.length_eq_zero_iff.mp this]
  rfl
theorem fill_wf {a b : Kn} (ha : a.wf) (hb : b.wf) : (fillK a b).wf := by
  unfold fillK
  split
  · exact gr_wf hb
  · exact ha
theorem fill_dep {a b : Kn} {m : Nat} (ha : a.dep ≤ m) (hb : b.dep ≤ m) : (fillK a b).dep ≤ m := by
  unfold fillK
  split
  · exact Nat.le_trans (gr_dep b) hb
  · exact ha
theorem fits_rep : ∀ (ks : List Kn), Kn.fits (List.replicate ks.length qK) ks ∧ Kn.fits ks (List.replicate ks.length qK)
  | [] => ⟨trivial, trivial⟩
  | t :: r => ⟨⟨part_q t, (fits_rep r).1⟩, ⟨by rw [part_comm]; exact part_q t, (fits_rep r).2⟩⟩
/-- what the fills of two kinds that don't part are like -/
theorem fill_both {a b : Kn} (ha : a.wf) (hb : b.wf) (e : a.part b = none) : (fillK a b).h = (fillK b a).h ∧ (fillK a b).ks.length = (fillK b a).ks.length ∧ Kn.fits (fillK a b).ks (fillK b a).ks := by
  unfold fillK
  by_cases c1 : a.h = "?"
  · rw [if_pos c1]
    by_cases c2 : b.h = "?"
    · rw [if_pos c2, wf_q_eq ha c1, wf_q_eq hb c2]
      exact ⟨rfl, rfl, trivial⟩
    · rw [if_neg c2]
      exact ⟨rfl, by rw [gr_ks, List.length_replicate], by rw [gr_ks]; exact (fits_rep _).1⟩
  · rw [if_neg c1]
    by_cases c2 : b.h = "?"
    · rw [if_pos c2]
      exact ⟨rfl, by rw [gr_ks, List.length_replicate], by rw [gr_ks]; exact (fits_rep _).2⟩
    · rw [if_neg c2]
      obtain ⟨h, ks⟩ := a
      obtain ⟨g, ls⟩ := b
      exact part_inv ha hb e c1 c2
theorem no_same {h : Str} {n : Nat} (e : arity h = some n) : h ≠ "same" ∧ h ≠ "broken" := by
  have := heads_of e
  revert this
  exact (by decide +kernel : ∀ h ∈ (["whole", "truth", "?", "row", "to", "pair"] : List Str), h ≠ "same" ∧ h ≠ "broken") h
theorem gos_all {f : Kn → Kn → Lb → Lk} {l : Lb} {ss : List Str} {xs ys : List Kn} (e1 : ss.length = xs.length) (e2 : xs.length = ys.length) : (gos f l ss xs ys).all Lk.still = true ↔ ∀ i (h0 : i < ss.length) (h1 : i < xs.length) (h2 : i < ys.length), (if ss[i] = "arg" then f ys[i] xs[i] (l.on ss[i]) else f xs[i] ys[i] (l.on ss[i])) = stillL := by
  rw [List.all_eq_true]
  constructor
  · intro h i h0 h1 h2
    refine still_iff.mp (h _ ?_)
    exact List.mem_of_getElem? (gos_get h0 h1 h2)
  · intro h x hx
    obtain ⟨i, hi, rfl⟩ := List.getElem_of_mem hx
    have hl := gos_length f l ss xs ys
    have k := gos_get (f := f) (l := l) (ss := ss) (xs := xs) (ys := ys) (i := i) (by omega) (by omega) (by omega)
    rw [List.getElem?_eq_getElem hi] at k
    rw [Option.some.inj k]
    exact still_iff.mpr (h i (by omega) (by omega) (by omega))
theorem ext_kn {xs ys : List Kn} (h : xs.length = ys.length) (e : ∀ i (h1 : i < xs.length) (h2 : i < ys.length), xs[i] = ys[i]) : xs = ys := List.ext_getElem h fun i h1 h2 => e i h1 h2
/-- a look is still just where both kinds are alike -/
theorem gon_still : ∀ (m : Nat) {a b : Kn} (l : Lb), a.wf → b.wf → a.part b = none → a.dep ≤ m → b.dep ≤ m → (gon m a b l = stillL ↔ a = b)
  | 0, a, b, l, _, _, _, h, _ => by have := dep_pos a; omega
  | m + 1, a, b, l, wa, wb, e, ha, hb => by
    obtain ⟨f1, f2, f3⟩ := fill_both wa wb e
    have wfa := fill_wf wa wb
    have wfb := fill_wf wb wa
    have fda := fill_dep ha hb
    have fdb := fill_dep hb ha
    have ar := wf_ar wfa
    have sl := steps_len ar
    have key : (gos (gon m) l (stepsOf (fillK a b).h) (fillK a b).ks (fillK b a).ks).all Lk.still = true ↔ fillK a b = fillK b a := by
      rw [gos_all sl f2]
      rw [dep_eq] at fda fdb
      have each : ∀ i (h0 : i < (stepsOf (fillK a b).h).length) (h1 : i < (fillK a b).ks.length) (h2 : i < (fillK b a).ks.length), ((if (stepsOf (fillK a b).h)[i] = "arg" then gon m (fillK b a).ks[i] (fillK a b).ks[i] (l.on (stepsOf (fillK a b).h)[i]) else gon m (fillK a b).ks[i] (fillK b a).ks[i] (l.on (stepsOf (fillK a b).h)[i])) = stillL ↔ (fillK a b).ks[i] = (fillK b a).ks[i]) := by
        intro i h0 h1 h2
        have w1 := wfs_get h1 (wf_ks wfa)
        have w2 := wfs_get h2 (wf_ks wfb)
        have d1 := deps_get h1
        have d2 := deps_get h2
        have pn := fits_get h1 h2 f3
        split
        · rw [gon_still m _ w2 w1 (by rw [part_comm]; exact pn) (by omega) (by omega)]
          exact ⟨Eq.symm, Eq.symm⟩
        · exact gon_still m _ w1 w2 pn (by omega) (by omega)
      constructor
      · intro h
        rw [← eta (fillK a b), ← eta (fillK b a), f1, ext_kn f2 fun i h1 h2 => (each i (by omega) h1 h2).mp (h i (by omega) h1 h2)]
      · intro h i h0 h1 h2
        refine (each i h0 h1 h2).mpr ?_
        simp only [h]
    constructor
    · intro h
      have h' : Lk.mk (askOf a b l) (wrapH (fillK a b).h (gos (gon m) l (stepsOf (fillK a b).h) (fillK a b).ks (fillK b a).ks)) (wrapL (gos (gon m) l (stepsOf (fillK a b).h) (fillK a b).ks (fillK b a).ks)) (askOf b a l) = .mk none "same" [] none := h
      injection h' with h1 h2 h3 h4
      have hs : (gos (gon m) l (stepsOf (fillK a b).h) (fillK a b).ks (fillK b a).ks).all Lk.still = true := by
        unfold wrapH at h2
        split at h2
        · assumption
        · exact absurd h2 (no_same ar).1
      have hf := key.mp hs
      unfold askOf at h1 h4
      by_cases c1 : a.h = "?"
      · rw [if_pos c1] at h1
        by_cases c2 : b.h = "?"
        · rw [wf_q_eq wa c1, wf_q_eq wb c2]
        · rw [if_neg c2] at h1; cases h1
      · by_cases c2 : b.h = "?"
        · rw [if_pos c2, if_neg c1] at h4; cases h4
        · unfold fillK at hf
          rw [if_neg c1, if_neg c2] at hf
          exact hf
    · intro h
      subst h
      have hs := key.mpr rfl
      show Lk.mk _ _ _ _ = _
      rw [wrapH, wrapL, if_pos hs, if_pos hs]
      have ea : askOf a a l = none := by unfold askOf; split <;> first | rfl | (split <;> first | rfl | contradiction)
      rw [ea]
      rfl
/-! ### how deep, how wide -/
def Lb.ok (l : Lb) (n : Nat) : Prop := l.s ∈ sides ∧ l.w.length ≤ n
theorem nr_wd {w : List Str} (h : w.length ≤ 1000) : (wd w).nr := nr_mk (by rw [List.length_map]; exact h) fun d hd => by
  obtain ⟨x, _, rfl⟩ := List.mem_map.mp hd
  exact nr_str x
theorem dqs_str : ∀ (w : List Str), dqs (w.map Dk.str) = 0
  | [] => by rw [List.map_nil, dqs_nil]
  | x :: r => by rw [List.map_cons, dqs_cons, dq_str, dqs_str r]; rfl
theorem lb_dq (l : Lb) : l.d.dq = 2 := by
  show (Dk.tup [.int l.p, .str l.s, .tup (l.w.map Dk.str)]).dq = 2
  simp only [dq_tup, dqs_cons, dqs_nil, dq_int, dq_str, dqs_str]
  omega
theorem lb_nr {l : Lb} (h : l.w.length ≤ 1000) : l.d.nr := nr_mk (by simp) (nr_lc (nr_int _) (nr_lc (nr_str _) (nr_lc (nr_wd h) nr_l0)))
theorem nobs_str : ∀ (w : List Str), nobs (w.map Dk.str)
  | [] => by rw [List.map_nil, nobs]; trivial
  | x :: r => by rw [List.map_cons, nobs, nob]; exact ⟨trivial, nobs_str r⟩
theorem lb_nob (l : Lb) : nob l.d := by
  show nob (Dk.tup [.int l.p, .str l.s, .tup (l.w.map Dk.str)])
  simp only [nob, nobs, true_and, and_true]
  exact nobs_str _
def Gd.ok (g : Gd) : Prop := g.1.wf ∧ g.1.dep ≤ 20 ∧ g.2.w.length ≤ 1000
theorem gd_dq {g : Gd} (h : Gd.ok g) : (gdd g).dq ≤ 21 := by
  show (Dk.tup [g.1.d, g.2.d]).dq ≤ 21
  have := h.2.1
  simp only [dq_tup, dqs_cons, dqs_nil, dq_d, lb_dq]
  omega
theorem gd_nr {g : Gd} (h : Gd.ok g) : (gdd g).nr := nr_mk (by simp) (nr_lc (nr_d (wf_ok h.1)) (nr_lc (lb_nr h.2.2) nr_l0))
theorem gd_nob (g : Gd) : nob (gdd g) := by
  show nob (Dk.tup [g.1.d, g.2.d])
  simp only [nob, nobs, and_true]
  exact ⟨nob_d _, lb_nob _⟩
end L2.Bk
namespace L2.Bk
open PySem PySem.Spec PyProof.Rows L2.Bw
def Gd.oks : Option Gd → Prop
  | none => True
  | some g => Gd.ok g
def Lk.ok : Nat → Lk → Prop
  | 0, _ => False
  | n + 1, .mk a h ls t => Gd.oks a ∧ Gd.oks t ∧ ls.length ≤ 2 ∧ (∀ x ∈ ls, Lk.ok n x) ∧ (h = "same" → ls = []) ∧ h ≠ "broken"
  | _ + 1, .br a t k => Gd.oks a ∧ Gd.ok t ∧ Gd.ok k
theorem og_dq {a : Option Gd} (h : Gd.oks a) : (ogd a).dq ≤ 21 := by
  cases a with
  | none => show Dk.non.dq ≤ 21; rw [dq_non]; omega
  | some g => exact gd_dq h
theorem og_nr {a : Option Gd} (h : Gd.oks a) : (ogd a).nr := by
  cases a with
  | none => exact nr_non
  | some g => exact gd_nr h
theorem og_nob (a : Option Gd) : nob (ogd a) := by
  cases a with
  | none => show nob .non; rw [nob]; trivial
  | some g => exact gd_nob g
theorem lds_dq {n : Nat} : ∀ {ls : List Lk}, (∀ x ∈ ls, x.d.dq ≤ n) → dqs (Lk.ds ls) ≤ n
  | [], _ => by show dqs [] ≤ n; rw [dqs_nil]; omega
  | x :: r, h => by
    show dqs (x.d :: Lk.ds r) ≤ n
    rw [dqs_cons]
    have h1 := h x List.mem_cons_self
    have h2 := lds_dq (ls := r) fun y hy => h y (List.mem_cons_of_mem _ hy)
    omega
theorem lds_nr : ∀ {ls : List Lk}, (∀ x ∈ ls, x.d.nr) → ∀ d ∈ Lk.ds ls, d.nr
  | [], _ => nr_l0
  | x :: r, h => nr_lc (h x List.mem_cons_self) (lds_nr fun y hy => h y (List.mem_cons_of_mem _ hy))
theorem lk_dq : ∀ {n : Nat} {x : Lk}, x.ok n → x.d.dq ≤ 2 * n + 22
  | 0, x, h => by cases x <;> exact h.elim
  | n + 1, .mk a h ls t, ⟨h1, h2, h3, h4, _⟩ => by
    show (Dk.tup [ogd a, .tup (.str h :: Lk.ds ls), ogd t]).dq ≤ _
    have e1 := og_dq h1
    have e2 := og_dq h2
    have e3 := lds_dq (n := 2 * n + 22) fun x hx => lk_dq (h4 x hx)
    simp only [dq_tup, dqs_cons, dqs_nil, dq_str]
    omega
  | n + 1, .br a t k, ⟨h1, h2, h3⟩ => by
    show (Dk.tup [ogd a, .tup [.str "broken", gdd t, gdd k], .non]).dq ≤ _
    have e1 := og_dq h1
    have e2 := gd_dq h2
    have e3 := gd_dq h3
    simp only [dq_tup, dqs_cons, dqs_nil, dq_str, dq_non]
    omega
theorem lk_nr : ∀ {n : Nat} {x : Lk}, x.ok n → x.d.nr
  | 0, x, h => by cases x <;> exact h.elim
  | n + 1, .mk a h ls t, ⟨h1, h2, h3, h4, _⟩ => by
    show (Dk.tup [ogd a, .tup (.str h :: Lk.ds ls), ogd t]).nr
    exact nr_mk (by simp) (nr_lc (og_nr h1) (nr_lc (nr_mk (by rw [List.length_cons, lds_length]; omega) (nr_lc (nr_str _) (lds_nr fun x hx => lk_nr (h4 x hx)))) (nr_lc (og_nr h2) nr_l0)))
  | n + 1, .br a t k, ⟨h1, h2, h3⟩ => by
    show (Dk.tup [ogd a, .tup [.str "broken", gdd t, gdd k], .non]).nr
    exact nr_mk (by simp) (nr_lc (og_nr h1) (nr_lc (nr_mk (by simp) (nr_lc (nr_str _) (nr_lc (gd_nr h2) (nr_lc (gd_nr h3) nr_l0)))) (nr_lc nr_non nr_l0)))
mutual
theorem lk_nob : ∀ (x : Lk), nob x.d
  | .mk a h ls t => by
    show nob (Dk.tup [ogd a, .tup (.str h :: Lk.ds ls), ogd t])
    simp only [nob, nobs, and_true, true_and]
    exact ⟨og_nob a, lks_nob ls, og_nob t⟩
  | .br a t k => by
    show nob (Dk.tup [ogd a, .tup [.str "broken", gdd t, gdd k], .non])
    simp only [nob, nobs, and_true, true_and]
    exact ⟨og_nob a, gd_nob t, gd_nob k⟩
theorem lks_nob : ∀ (ls : List Lk), nobs (Lk.ds ls)
  | [] => by show nobs []; rw [nobs]; trivial
  | x :: r => by show nobs (x.d :: Lk.ds r); rw [nobs]; exact ⟨lk_nob x, lks_nob r⟩
end
theorem og_non (a : Option Gd) : (ogd a).eqb .non = a.isNone := by cases a <;> rfl
theorem still_eqb (x : Lk) : x.d.eqb stillD = x.still := by
  cases x with
  | mk a h ls t =>
    show ((ogd a).eqb .non && (((h == "same") && eqbs (Lk.ds ls) []) && ((ogd t).eqb .non && true))) = _
    rw [og_non, og_non]
    cases a with
    | some g => rfl
    | none =>
      cases ls with
      | cons x r =>
        show (true && (((h == "same") && false) && _)) = false
        simp
      | nil =>
        cases t with
        | some g => show (true && ((_ && true) && (false && true))) = false; simp
        | none =>
          show (true && (((h == "same") && true) && (true && true))) = decide (h = "same")
          rw [Bool.true_and, Bool.and_true, Bool.and_true]
          by_cases c : h = "same" <;> simp [c]
  | br a t k =>
    show ((ogd a).eqb .non && ((((("broken" : Str) == "same") && eqbs [gdd t, gdd k] [])) && (Dk.non.eqb .non && true))) = false
    have e : (("broken" : Str) == "same") = false := by decide +kernel
    rw [e]
    simp
theorem gr_ok {a : Kn} {l : Lb} (h : a.wf) (hd : a.dep ≤ 20) (hl : l.w.length ≤ 1000) : Gd.ok (gr a, l) := ⟨gr_wf h, Nat.le_trans (gr_dep a) hd, hl⟩
theorem ask_ok {a b : Kn} {l : Lb} (h : b.wf) (hd : b.dep ≤ 20) (hl : l.w.length ≤ 1000) : Gd.oks (askOf a b l) := by
  unfold askOf
  split
  · split
    · trivial
    · exact gr_ok h hd hl
  · trivial
theorem wrap_same {h : Str} {ls : List Lk} (n : h ≠ "same") : wrapH h ls = "same" → wrapL ls = [] := by
  unfold wrapH wrapL
  split
  · intro _; rfl
  · intro e; exact absurd e n
theorem wrap_broken {h : Str} {ls : List Lk} (n : h ≠ "broken") : wrapH h ls ≠ "broken" := by
  unfold wrapH
  split
  · exact fun e => absurd e (by decide +kernel)
  · exact n
theorem gon_ok : ∀ (m : Nat) {a b : Kn} {l : Lb}, a.wf → b.wf → a.dep ≤ m → b.dep ≤ m → m ≤ 19 → l.w.length + m ≤ 900 → (gon m a b l).ok m
  | 0, a, b, l, _, _, h, _, _, _ => by have := dep_pos a; omega
  | m + 1, a, b, l, wa, wb, ha, hb, hm, hl => by
    have wfa := fill_wf wa wb
    have wfb := fill_wf wb wa
    have fda := fill_dep ha hb
    have fdb := fill_dep hb ha
    rw [dep_eq] at fda fdb
    refine ⟨ask_ok wb (by omega) (by omega), ask_ok wa (by omega) (by omega), ?_, ?_, wrap_same (no_same (wf_ar wfa)).1, wrap_broken (no_same (wf_ar wfa)).2⟩
    · unfold wrapL
      have := gos_length (gon m) l (stepsOf (fillK a b).h) (fillK a b).ks (fillK b a).ks
      have := arity_le (wf_ar wfa)
      split
      · exact Nat.zero_le _
      · omega
    · intro x hx
      have hx' : x ∈ gos (gon m) l (stepsOf (fillK a b).h) (fillK a b).ks (fillK b a).ks := by
        unfold wrapL at hx
        split at hx
        · cases hx
        · exact hx
      obtain ⟨i, hi, rfl⟩ := List.getElem_of_mem hx'
      have gl := gos_length (gon m) l (stepsOf (fillK a b).h) (fillK a b).ks (fillK b a).ks
      have h1 : i < (fillK a b).ks.length := by omega
      have h2 : i < (fillK b a).ks.length := by omega
      have k := gos_get (f := gon m) (l := l) (ss := stepsOf (fillK a b).h) (xs := (fillK a b).ks) (ys := (fillK b a).ks) (i := i) (by omega) h1 h2
      rw [List.getElem?_eq_getElem hi] at k
      rw [Option.some.inj k]
      have w1 := wfs_get h1 (wf_ks wfa)
      have w2 := wfs_get h2 (wf_ks wfb)
      have d1 := deps_get h1
      have d2 := deps_get h2
      have ol := on_len l (stepsOf (fillK a b).h)[i]
      split
      · exact gon_ok m w2 w1 (by omega) (by omega) (by omega) (by omega)
      · exact gon_ok m w1 w2 (by omega) (by omega) (by omega) (by omega)
theorem gos_still {m : Nat} {A B : Kn} (l : Lb) (wa : A.wf) (wb : B.wf) (eh : A.h = B.h) (el : A.ks.length = B.ks.length) (ft : Kn.fits A.ks B.ks) (da : Kn.deps A.ks ≤ m) (db : Kn.deps B.ks ≤ m) : (gos (gon m) l (stepsOf A.h) A.ks B.ks).all Lk.still = true ↔ A = B := by
  have sl := steps_len (wf_ar wa)
  rw [gos_all sl el]
  have each : ∀ i (h0 : i < (stepsOf A.h).length) (h1 : i < A.ks.length) (h2 : i < B.ks.length), ((if (stepsOf A.h)[i] = "arg" then gon m B.ks[i] A.ks[i] (l.on (stepsOf A.h)[i]) else gon m A.ks[i] B.ks[i] (l.on (stepsOf A.h)[i])) = stillL ↔ A.ks[i] = B.ks[i]) := by
    intro i h0 h1 h2
    have w1 := wfs_get h1 (wf_ks wa)
    have w2 := wfs_get h2 (wf_ks wb)
    have d1 := deps_get h1
    have d2 := deps_get h2
    have pn := fits_get h1 h2 ft
    split
    · rw [gon_still m _ w2 w1 (by rw [part_comm]; exact pn) (by omega) (by omega)]
      exact ⟨Eq.symm, Eq.symm⟩
    · exact gon_still m _ w1 w2 pn (by omega) (by omega)
  constructor
  · intro h
    rw [← eta A, ← eta B, eh, ext_kn el fun i h1 h2 => (each i (by omega) h1 h2).mp (h i (by omega) h1 h2)]
  · intro h i h0 h1 h2
    refine (each i h0 h1 h2).mpr ?_
    simp only [h]
theorem lk_get {K : PySem.W.Frag} {H : Hp} {a t : Option Gd} {d : Dk} {v : V} (r : RK K H (.tup [ogd a, d, ogd t]) v) : ∃ va v0 v1 v2, v = .ref va ∧ Tp K H va [v0, v1, v2] ∧ RK K H (ogd a) v0 ∧ RK K H d v1 ∧ RK K H (ogd t) v2 := by
  obtain ⟨va, vs, rfl, ha, v0, r0, rfl, h0, v1, r1, rfl, h1, v2, r2, rfl, h2, h3⟩ := RK.get r
  cases (show r2 = [] from h3)
  exact ⟨va, v0, v1, v2, rfl, ha, h0, h1, h2⟩
end L2.Bk

end
section
set_option Elab.async false
set_option linter.all false
set_option maxRecDepth 100000
/-! zip of two tuples, walked by pairs. -/
namespace PySem
section
variable {prog : Program} {w : World} {A : Around} {E : Value → Shared → Prop} {s : Shared}
theorem zt_item {z TI TO i1 i2 t b : Addr} {k : Nat} {xs ys : Array Value} {x y a0 b0 : Value} {Q : Value → Shared → Prop} (D : ZipApart z TI TO i1 i2 t b) (hz : IsZip s.heap z TI TO .none) (hTI : IsPair s.heap TI (.ref i1) (.ref i2)) (hTO : IsPair s.heap TO a0 b0)
    (h1 : s.heap.IsTupleIter i1 t k) (h2 : s.heap.IsTupleIter i2 b k) (hl1 : s.heap.IsTuple t xs) (hl2 : s.heap.IsTuple b ys) (hx : xs[k]? = some x) (hy : ys[k]? = some y)
    (hQ : ∀ h', IsZip h' z TI TO (rawInt s.heap.objs.size) → IsPair h' TO x y → h'.IsTupleIter i1 t (k + 1) → h'.IsTupleIter i2 b (k + 1) → IsPair h' s.heap.objs.size x y → h'.objs.size = s.heap.objs.size + 1 →
      (∀ d o, d ≠ z → d ≠ TO → d ≠ i1 → d ≠ i2 → s.heap.get? d = some o → h'.get? d = some o) → Q (.ref s.heap.objs.size) { s with heap := h' }) :
    wpAny (model prog w) A (Builtin.«zip.__next__» ⟨[.ref z], []⟩) (fun fin s' => ∃ v, fin = .done (.ret v) ∧ Q v s') E s := by
  show wpAny _ _ (field (.ref z) 2 >>= _) _ _ _; refine wpAny_bind (wpAny_field hz rfl (x := .bool false) rfl ?_)
  show wpAny _ _ (field (.ref z) 3 >>= _) _ _ _; refine wpAny_bind (wpAny_field hz rfl (x := .ref TI) rfl ?_)
  refine wpAny_bind (wpAny_seqItems hTI rfl ?_); show wpAny _ _ (Builtin.SmallTypes.ownedTupleIsFree (.ref z) >>= _) _ _ _
  refine wpAny_bind ?_; unfold Builtin.SmallTypes.ownedTupleIsFree; refine wpAny_bind (wpAny_field hz rfl (x := .none) rfl (wpAny_pure ?_)); simp only [if_true]
  refine wpAny_bind (wpAny_rule ?_); refine wpAny_bind (wpAny_field hz rfl (x := .ref TO) rfl ?_); refine wpAny_bind (wpAny_setField_rec hz (by simp) fun h₁ hz₁ hs₁ => ?_)
  replace hz₁ : IsZip h₁ z TI TO .ellipsis := hz₁
  refine wpAny_bind ?_; simp only [List.zipIdx_cons, List.zipIdx_nil, List.forIn_cons, List.forIn_nil]
  refine wpAny_bind (wpAny_bind (wpAny_onRaise ?_)); show wpAny _ _ (Builtin.SmallTypes.nextOf (.ref i1) >>= _) _ _ _
  refine wpAny_bind (tup_nextOf_item (h1.extBut hs₁.extBut D.i1z) (hl1.extBut hs₁.extBut D.l1z) hx fun h₂ h1₂ hs₂ => wpAny_pure ?_)
  have hTO₂ : IsPair h₂ TO a0 b0 := hs₂.extBut _ _ D.TOi1 (hs₁.extBut _ _ D.TOz hTO)
  refine wpAny_bind (wpAny_seqItems hTO₂ rfl ?_); refine wpAny_bind (wpAny_updateSeq_pair hTO₂ fun h₃ hTO₃ hs₃ => ?_)
  replace hTO₃ : IsPair h₃ TO x b0 := hTO₃
  refine wpAny_bind (wpAny_letGo (wpAny_pure ?_)); refine wpAny_bind (wpAny_bind (wpAny_onRaise ?_)); show wpAny _ _ (Builtin.SmallTypes.nextOf (.ref i2) >>= _) _ _ _
  refine wpAny_bind (tup_nextOf_item (((h2.extBut hs₁.extBut D.i2z).extBut hs₂.extBut D.i12.symm).extBut hs₃.extBut D.TOi2.symm) (((hl2.extBut hs₁.extBut D.l2z).extBut hs₂.extBut D.l2i1).extBut hs₃.extBut D.l2TO) hy fun h₄ h2₄ hs₄ => wpAny_pure ?_)
  have hTO₄ : IsPair h₄ TO x b0 := hs₄.extBut _ _ D.TOi2 hTO₃
  refine wpAny_bind (wpAny_seqItems hTO₄ rfl ?_); refine wpAny_bind (wpAny_updateSeq_pair hTO₄ fun h₇ hTO₇ hs₇ => ?_)
  replace hTO₇ : IsPair h₇ TO x y := hTO₇
  refine wpAny_bind (wpAny_letGo (wpAny_pure (wpAny_pure ?_))); refine wpAny_bind (wpAny_seqItems hTO₇ rfl ?_); refine wpAny_bind (wpAny_newTuple ?_)
  have hsz : h₇.objs.size = s.heap.objs.size := by rw [hs₇.1, hs₄.1, hs₃.1, hs₂.1, hs₁.1]
  have hz₇ : IsZip h₇ z TI TO .ellipsis := hs₇.extBut _ _ D.TOz.symm (hs₄.extBut _ _ D.i2z.symm (hs₃.extBut _ _ D.TOz.symm (hs₂.extBut _ _ D.i1z.symm hz₁)))
  have hk₇ : ∀ d o, d ≠ z → d ≠ TO → d ≠ i1 → d ≠ i2 → s.heap.get? d = some o → h₇.get? d = some o := fun d o c1 c2 c3 c4 e => hs₇.extBut _ _ c2 (hs₄.extBut _ _ c4 (hs₃.extBut _ _ c2 (hs₂.extBut _ _ c3 (hs₁.extBut _ _ c1 e))))
  have h1₇ : h₇.IsTupleIter i1 t (k + 1) := ((h1₂.extBut hs₃.extBut D.TOi1.symm).extBut hs₄.extBut D.i12).extBut hs₇.extBut D.TOi1.symm
  have h2₇ : h₇.IsTupleIter i2 b (k + 1) := h2₄.extBut hs₇.extBut D.TOi2.symm
  have hzlt : z < h₇.objs.size := Heap.lt_size hz₇
  show wpAny _ _ (Builtin.SmallTypes.ownedTupleHandOut (.ref z) (.ref h₇.objs.size) >>= _) _ _ _
  refine wpAny_bind ?_; unfold Builtin.SmallTypes.ownedTupleHandOut
  have hz₈ : IsZip (h₇.push { cls := .type "tuple", data := .seq #[x, y] }) z TI TO .ellipsis := Heap.get?_push_of_some _ hz₇
  refine wpAny_bind (wpAny_setField_rec hz₈ (by simp) fun h₉ hz₉ hs₉ => ?_)
  replace hz₉ : IsZip h₉ z TI TO (rawInt h₇.objs.size) := hz₉
  refine wpAny_setField_rec hz₉ (by simp) fun hA hzA hsA => ?_
  replace hzA : IsZip hA z TI TO (rawInt h₇.objs.size) := hzA
  have up : ∀ d o, d ≠ z → h₇.get? d = some o → hA.get? d = some o := fun d o c1 e => hsA.extBut _ _ c1 (hs₉.extBut _ _ c1 (Heap.get?_push_of_some _ e))
  have hTA : IsPair hA h₇.objs.size x y := hsA.extBut _ _ (Nat.ne_of_gt hzlt) (hs₉.extBut _ _ (Nat.ne_of_gt hzlt) (Heap.get?_push_size _ rfl))
  have hzA8 : hA.objs.size = h₇.objs.size + 1 := by rw [hsA.1, hs₉.1, Heap.size_push]
  rw [hsz] at hzA hTA hzA8
  refine wpAny_pure ⟨_, rfl, ?_⟩
  show Q (.ref h₇.objs.size) _
  rw [hsz]
  exact hQ hA hzA (up _ _ D.TOz hTO₇) (h1₇.at fun o e => up _ o D.i1z e) (h2₇.at fun o e => up _ o D.i2z e) hTA hzA8 fun d o c1 c2 c3 c4 e => up d o c1 (hk₇ d o c1 c2 c3 c4 e)
/-- the first one ends -/
theorem zt_end {z TI TO i1 i2 t b : Addr} {k : Nat} {xs : Array Value} {Q : Fin → Shared → Prop} (hh : A.handled = none) (D : ZipApart z TI TO i1 i2 t b) (hz : IsZip s.heap z TI TO .none) (hTI : IsPair s.heap TI (.ref i1) (.ref i2))
    (h1 : s.heap.IsTupleIter i1 t k) (hl1 : s.heap.IsTuple t xs) (hx : xs[k]? = none)
    (hE : ∀ h' e, (∀ d o, d ≠ z → d ≠ i1 → s.heap.get? d = some o → h'.get? d = some o) → (∃ o, h'.get? e = some o ∧ o.cls = .type "StopIteration") → E (.ref e) { s with heap := h' }) :
    wpAny (model prog w) A (Builtin.«zip.__next__» ⟨[.ref z], []⟩) Q E s := by
  show wpAny _ _ (field (.ref z) 2 >>= _) _ _ _; refine wpAny_bind (wpAny_field hz rfl (x := .bool false) rfl ?_)
  show wpAny _ _ (field (.ref z) 3 >>= _) _ _ _; refine wpAny_bind (wpAny_field hz rfl (x := .ref TI) rfl ?_)
  refine wpAny_bind (wpAny_seqItems hTI rfl ?_); show wpAny _ _ (Builtin.SmallTypes.ownedTupleIsFree (.ref z) >>= _) _ _ _
  refine wpAny_bind ?_; unfold Builtin.SmallTypes.ownedTupleIsFree; refine wpAny_bind (wpAny_field hz rfl (x := .none) rfl (wpAny_pure ?_)); simp only [if_true]
  refine wpAny_bind (wpAny_rule ?_); refine wpAny_bind (wpAny_field hz rfl (x := .ref TO) rfl ?_); refine wpAny_bind (wpAny_setField_rec hz (by simp) fun h₁ hz₁ hs₁ => ?_)
  replace hz₁ : IsZip h₁ z TI TO .ellipsis := hz₁
  refine wpAny_bind ?_; simp only [List.zipIdx_cons, List.zipIdx_nil, List.forIn_cons, List.forIn_nil]
  refine wpAny_bind (wpAny_bind (wpAny_onRaise ?_)); show wpAny _ _ (Builtin.SmallTypes.nextOf (.ref i1) >>= _) _ _ _
  refine wpAny_bind (tup_nextOf_end hh (h1.extBut hs₁.extBut D.i1z) (hl1.extBut hs₁.extBut D.l1z) hx fun h₂ e hs₂ he => ?_)
  obtain ⟨oe, hoe, hce⟩ := he
  have hz₂ : IsZip h₂ z TI TO .ellipsis := hs₂ _ _ D.i1z.symm hz₁
  have hez : e ≠ z := fun x => by subst x; rw [hz₂] at hoe; cases hoe; simp at hce
  exact wpAny_setField_rec hz₂ (by simp) fun h₃ _ hs₃ => hE h₃ e (fun d o c1 c3 x => hs₃.extBut _ _ c1 (hs₂ _ _ c3 (hs₁.extBut _ _ c1 x))) ⟨oe, hs₃.extBut _ _ hez hoe, hce⟩
theorem zt_pyNext_item {z TI TO i1 i2 t b : Addr} {k : Nat} {xs ys : Array Value} {x y a0 b0 : Value} {Q : Option Value → Shared → Prop} (D : ZipApart z TI TO i1 i2 t b) (hz : IsZip s.heap z TI TO .none) (hTI : IsPair s.heap TI (.ref i1) (.ref i2)) (hTO : IsPair s.heap TO a0 b0)
    (h1 : s.heap.IsTupleIter i1 t k) (h2 : s.heap.IsTupleIter i2 b k) (hl1 : s.heap.IsTuple t xs) (hl2 : s.heap.IsTuple b ys) (hx : xs[k]? = some x) (hy : ys[k]? = some y)
    (hQ : ∀ h', IsZip h' z TI TO (rawInt s.heap.objs.size) → IsPair h' TO x y → h'.IsTupleIter i1 t (k + 1) → h'.IsTupleIter i2 b (k + 1) → IsPair h' s.heap.objs.size x y → h'.objs.size = s.heap.objs.size + 1 →
      (∀ d o, d ≠ z → d ≠ TO → d ≠ i1 → d ≠ i2 → s.heap.get? d = some o → h'.get? d = some o) → Q (some (.ref s.heap.objs.size)) { s with heap := h' }) : wpAny (model prog w) A (pyNext (.ref z)) Q E s := by
  have hT : s.TypeIs (.ref z) "zip" := ⟨_, hz, rfl⟩
  unfold pyNext
  exact wpAny_bind (wpAny_attempt (wpAny_callSpecial?_slot (name := Str.ofString "__next__") hT F.slot_zip_next (wpAny_call_entry F.slot_zip_next hT F.entry_zip_next
      (zt_item D hz hTI hTO h1 h2 hl1 hl2 hx hy fun h' a1 a2 a3 a4 a5 a6 a7 => wpAny_pure (hQ h' a1 a2 a3 a4 a5 a6 a7)) (F.args_zip_next_1 _))))
theorem zt_pyNext_end {z TI TO i1 i2 t b : Addr} {k : Nat} {xs : Array Value} {Q : Option Value → Shared → Prop} (hh : A.handled = none) (D : ZipApart z TI TO i1 i2 t b) (hz : IsZip s.heap z TI TO .none) (hTI : IsPair s.heap TI (.ref i1) (.ref i2))
    (h1 : s.heap.IsTupleIter i1 t k) (hl1 : s.heap.IsTuple t xs) (hx : xs[k]? = none) (hQ : ∀ h', (∀ d o, d ≠ z → d ≠ i1 → s.heap.get? d = some o → h'.get? d = some o) → Q none { s with heap := h' }) : wpAny (model prog w) A (pyNext (.ref z)) Q E s := by
  have hT : s.TypeIs (.ref z) "zip" := ⟨_, hz, rfl⟩
  unfold pyNext
  refine wpAny_bind (wpAny_attempt (wpAny_callSpecial?_slot (name := Str.ofString "__next__") hT F.slot_zip_next (wpAny_call_entry F.slot_zip_next hT F.entry_zip_next (zt_end hh D hz hTI h1 hl1 hx fun h' e hk he => ?_) (F.args_zip_next_1 _))))
  obtain ⟨o, ho, hc⟩ := he
  refine wpAny_bind (wpAny_isInstance (T := "StopIteration") (b := true) ⟨o, ho, hc⟩ isSubtype_stop ?_)
  exact wpAny_pure (hQ _ hk)
end
abbrev ztH1 (h : Heap) (t : Addr) : Heap := h.push { cls := .type "tuple_iterator", data := .fields #[.ref t, .int 0 0] }
abbrev ztH2 (h : Heap) (t b : Addr) : Heap := (ztH1 h t).push { cls := .type "tuple_iterator", data := .fields #[.ref b, .int 0 0] }
abbrev ztH3 (h : Heap) (t b : Addr) : Heap := (ztH2 h t b).push { cls := .type "tuple", data := .seq #[.ref h.objs.size, .ref (ztH1 h t).objs.size] }
abbrev ztH4 (h : Heap) (t b : Addr) : Heap := (ztH3 h t b).push { cls := .type "tuple", data := .seq #[.none, .none] }
abbrev ztH5 (h : Heap) (t b : Addr) : Heap := (ztH4 h t b).push { cls := .type "zip", data := .fields #[.none, .bool false, .bool false, .ref (ztH2 h t b).objs.size, .ref (ztH3 h t b).objs.size] }
theorem zt_new (t b : Addr) (xs ys : Array Value) :
    Meets (Builtin.«zip.__new__» ⟨[.type "zip", .ref t, .ref b], []⟩) (fun _ R s => s.heap.IsTuple t xs ∧ s.heap.IsTuple b ys ∧ R (.ok (.ret (.ref (ztH4 s.heap t b).objs.size))) { s with heap := ztH5 s.heap t b }) :=
  .of_wp fun prog w A R s h => by
    obtain ⟨hp, g, d, tk, os⟩ := s; obtain ⟨hl1, hl2, h⟩ := h
    have hsub := sub_zip
    have hL1 : Heap.IsTuple (Shared.heap ⟨hp, g, d, tk, os⟩) t xs := hl1
    have hL2 : Heap.IsTuple (Shared.heap ⟨hp.push { cls := .type "tuple_iterator", data := .fields #[.ref t, .int 0 0] }, g, d, tk, os⟩) b ys := Heap.IsTuple.push hl2 _
    wp_walk using wpAny_pyIter_tuple hL1, wpAny_pyIter_tuple hL2
    exact ⟨_, rfl, h⟩
section
variable {prog : Program} {w : World} {A : Around} {E : Value → Shared → Prop} {s : Shared}
theorem call_zip_t {t b : Addr} {xs ys : Array Value} {Q : Value → Shared → Prop} (hl1 : s.heap.IsTuple t xs) (hl2 : s.heap.IsTuple b ys)
    (h : ∀ h', IsZip h' (s.heap.objs.size + 4) (s.heap.objs.size + 2) (s.heap.objs.size + 3) .none → IsPair h' (s.heap.objs.size + 2) (.ref s.heap.objs.size) (.ref (s.heap.objs.size + 1)) →
      IsPair h' (s.heap.objs.size + 3) .none .none → h'.IsTupleIter s.heap.objs.size t 0 → h'.IsTupleIter (s.heap.objs.size + 1) b 0 → (∀ d o, s.heap.get? d = some o → h'.get? d = some o) → Q (.ref (s.heap.objs.size + 4)) { s with heap := h' }) :
    wpAny (model prog w) A (call (.type "zip") [.ref t, .ref b]) Q E s := by
  refine callType_new F.called_zip (by decide) (F.typeCall_zip_2 _ _) (F.newCall_zip_2 _ _) (fun obj => F.args_object_init_3 obj _ _) F.entry_zip_new (zt_new t b xs ys) ⟨hl1, hl2, ?_⟩
  have z1 : (ztH1 s.heap t).objs.size = s.heap.objs.size + 1 := Heap.size_push ..
  have z2 : (ztH2 s.heap t b).objs.size = s.heap.objs.size + 2 := by rw [Heap.size_push, z1]
  have z3 : (ztH3 s.heap t b).objs.size = s.heap.objs.size + 3 := by rw [Heap.size_push, z2]
  have z4 : (ztH4 s.heap t b).objs.size = s.heap.objs.size + 4 := by rw [Heap.size_push, z3]
  have g5 : (ztH5 s.heap t b).get? (ztH4 s.heap t b).objs.size = some _ := Heap.get?_push_size _ rfl
  have g4 : (ztH5 s.heap t b).get? (ztH3 s.heap t b).objs.size = some _ := Heap.get?_push_of_some _ (Heap.get?_push_size _ rfl)
  have g3 : (ztH5 s.heap t b).get? (ztH2 s.heap t b).objs.size = some _ := Heap.get?_push_of_some _ (Heap.get?_push_of_some _ (Heap.get?_push_size _ rfl))
  have g2 : (ztH5 s.heap t b).get? (ztH1 s.heap t).objs.size = some _ := Heap.get?_push_of_some _ (Heap.get?_push_of_some _ (Heap.get?_push_of_some _ (Heap.get?_push_size _ rfl)))
  have g1 : (ztH5 s.heap t b).get? s.heap.objs.size = some _ := Heap.get?_push_of_some _ (Heap.get?_push_of_some _ (Heap.get?_push_of_some _ (Heap.get?_push_of_some _ (Heap.get?_push_size _ rfl))))
  show _ ∧ _
  rw [z2, z3, z4] at g5
  rw [z1, z2] at g3
  rw [z3] at g4
  rw [z1] at g2
  rw [z4]
  exact ⟨⟨_, g5, rfl⟩, h _ g5 g3 g4 ⟨_, g1, rfl, rfl⟩ ⟨_, g2, rfl, rfl⟩ fun d o x => Heap.get?_push_of_some _ (Heap.get?_push_of_some _ (Heap.get?_push_of_some _ (Heap.get?_push_of_some _ (Heap.get?_push_of_some _ x))))⟩
end
end PySem
namespace L2.Bk
open PySem PySem.Spec PyProof.Rows L2.Bw
def Itzt (K : PySem.W.Frag) (a b : Addr) : It where
  go := fun i H => ∃ xs ys, SqT K H a xs ∧ SqT K H b ys ∧ i < xs.length ∧ i < ys.length
  yld := fun i H v H' => ∃ T x y, v = .ref T ∧ H T = none ∧ H' = upd H T (.tup [x, y]) ∧ (∀ xs, SqT K H a xs → xs[i]? = some x) ∧ ∀ ys, SqT K H b ys → ys[i]? = some y
  stop := fun i H => ∃ xs ys, SqT K H a xs ∧ SqT K H b ys ∧ i = xs.length
theorem turn_zipt {P : Program} {w : World} {K : PySem.W.Frag} {es : List Expr} {k : Nat} {tp : Pos} (t b z TI TO i1 i2 : Addr) (hap : z ≠ TI ∧ z ≠ TO ∧ z ≠ i1 ∧ z ≠ i2 ∧ TI ≠ TO ∧ TI ≠ i1 ∧ TI ≠ i2 ∧ TO ≠ i1 ∧ TO ≠ i2 ∧ i1 ≠ i2) :
    Turn P w K (.Tuple es k tp) (Itzt K t b) [z, TI, TO, i1, i2] z (fun i h => IsZip h z TI TO .none ∧ IsPair h TI (.ref i1) (.ref i2) ∧ (∃ u v, IsPair h TO u v) ∧ h.IsTupleIter i1 t i ∧ h.IsTupleIter i2 b i) where
  mem := by simp
  obj := fun i h st d hd => by
    obtain ⟨h1, h2, ⟨u, v, h3⟩, ⟨o4, e4, c4, d4⟩, ⟨o5, e5, c5, d5⟩⟩ := st
    have hd' : d = z ∨ d = TI ∨ d = TO ∨ d = i1 ∨ d = i2 := by simpa using hd
    rcases hd' with rfl | rfl | rfl | rfl | rfl
    · exact ⟨_, h1, fun v q => by cases (show Data.fields _ = Data.cell v from q)⟩
    · exact ⟨_, h2, fun v q => by cases (show Data.seq _ _ = Data.cell v from q)⟩
    · exact ⟨_, h3, fun v q => by cases (show Data.seq _ _ = Data.cell v from q)⟩
    · exact ⟨o4, e4, fun v q => by rw [d4] at q; cases q⟩
    · exact ⟨o5, e5, fun v q => by rw [d5] at q; cases q⟩
  keep := fun i h h' st kp => by
    obtain ⟨h1, h2, ⟨u, v, h3⟩, h4, h5⟩ := st
    exact ⟨kp z (by simp) _ h1, kp TI (by simp) _ h2, ⟨u, v, kp TO (by simp) _ h3⟩, h4.at fun o e => kp i1 (by simp) o e, h5.at fun o e => kp i2 (by simp) o e⟩
  item := by
    intro X hP hw hK hc i pins s σ H E I hf st hg
    subst hP hw hK
    obtain ⟨us, xs, hu, hx, l0, l1⟩ := hg
    obtain ⟨its0, r0, p0, z0⟩ := I.tuple hu
    obtain ⟨its1, r1, p1, z1⟩ := I.tuple hx
    obtain ⟨h1, h2, h3, h4, h5⟩ := st
    have D : ZipApart z TI TO i1 i2 t b := zip_apart hap (fun d hd => off_ofT I (hf d hd) hu) (fun d hd => off_ofT I (hf d hd) hx)
    obtain ⟨uv, euv, ru⟩ := r0.get (List.getElem?_eq_getElem l0)
    obtain ⟨xv, exv, rx⟩ := r1.get (List.getElem?_eq_getElem l1)
    obtain ⟨a0, b0, h3'⟩ := h3
    refine zt_pyNext_item D h1 h2 h3' h4 h5 (show s.heap.IsTuple t its0.toArray from p0) (show s.heap.IsTuple b its1.toArray from p1) (x := uv) (y := xv) (by simpa using euv) (by simpa using exv) fun h' a1 a2 a3 a4 a6 a7 kp => ?_
    have lt : ∀ {d o}, s.heap.get? d = some o → s.heap.objs.size ≠ d := fun e => Nat.ne_of_gt (Heap.lt_size e)
    refine ⟨_, rfl, wpAny_letOwnedTupleGo_zip a1 fun h2' hz' hs' => ?_⟩
    have n1 : s.heap.objs.size ≠ z := lt h1
    have n2 : s.heap.objs.size ≠ TO := lt h3'
    have n3 : s.heap.objs.size ≠ i1 := by obtain ⟨_, e, _⟩ := h4; exact lt e
    have n4 : s.heap.objs.size ≠ i2 := by obtain ⟨_, e, _⟩ := h5; exact lt e
    have n6 : s.heap.objs.size ≠ TI := lt h2
    have ht2 : IsTup h2' s.heap.objs.size #[uv, xv] := ⟨_, hs'.extBut _ _ n1 a6, rfl, _, rfl⟩
    have hT : s.heap.objs.size ≤ s.heap.objs.size := Nat.le_refl _
    have I2 : Inv X pins σ (upd H s.heap.objs.size (.tup [us[i], xs[i]])) { s with heap := h2', toks := s.toks } :=
      turnedT (ch := [z, TO, i1, i2]) I (fun d o hd e => hs'.extBut _ _ (fun x => hd (by simp [x])) (kp d o (fun x => hd (by simp [x])) (fun x => hd (by simp [x])) (fun x => hd (by simp [x])) (fun x => hd (by simp [x])) e))
        (fun d hd => hf d (by simp at hd ⊢; rcases hd with rfl | rfl | rfl | rfl <;> simp)) hT ⟨[uv, xv], .cons ru (.cons rx .nil), ht2⟩ (by show 2 ≤ sizeLine; decide)
    refine ⟨.ref s.heap.objs.size, _, I2, rfl, ⟨s.heap.objs.size, us[i], xs[i], rfl, I.hok.fresh hT, rfl, fun vs hv => ?_, fun vs hv => ?_⟩,
      ⟨hz', hs'.extBut _ _ D.TIz (kp _ _ D.TIz D.TITO D.TIi1 D.TIi2 h2), ⟨_, _, hs'.extBut _ _ D.TOz a2⟩, a3.extBut hs'.extBut D.i1z, a4.extBut hs'.extBut D.i2z⟩, fun d hd => ?_⟩
    · rw [I.tuple_inj hv hu]; exact List.getElem?_eq_getElem l0
    · rw [I.tuple_inj hv hx]; exact List.getElem?_eq_getElem l1
    · have hd' : d = z ∨ d = TI ∨ d = TO ∨ d = i1 ∨ d = i2 := by simpa using hd
      have hne : d ≠ s.heap.objs.size := by
        rcases hd' with rfl | rfl | rfl | rfl | rfl
        · exact n1.symm
        · exact n6.symm
        · exact n2.symm
        · exact n3.symm
        · exact n4.symm
      rw [upd_ne hne]
      exact (hf d hd).1
  done := by
    intro X hP hw hK hc i pins s σ H E I hf st hg
    subst hP hw hK
    obtain ⟨us, xs, hu, hx, hi⟩ := hg
    obtain ⟨its0, r0, p0, z0⟩ := I.tuple hu
    obtain ⟨h1, h2, h3, h4, h5⟩ := st
    have len0 := r0.length
    have D : ZipApart z TI TO i1 i2 t b := zip_apart hap (fun d hd => off_ofT I (hf d hd) hu) (fun d hd => off_ofT I (hf d hd) hx)
    refine zt_pyNext_end (I.ok.hd hc) D h1 h2 h4 (show s.heap.IsTuple t its0.toArray from p0) (by simp; omega) fun h' kp => ⟨rfl, ?_⟩
    exact turnedN (ch := [z, i1]) (t' := s.toks) I (fun d o hd e => kp d o (fun x => hd (by simp [x])) (fun x => hd (by simp [x])) e) (fun d hd => hf d (by simp at hd ⊢; rcases hd with rfl | rfl <;> simp))
  self := fun _ _ _ _ _ st h => wpAny_pyIter_zip st.1 h
section
variable {X : Cx}
def iZipT (K : PySem.W.Frag) (ta : TA) : TI := fun σ H R => ta σ H fun vs H1 => ∃ a b xs ys, vs = [.ref a, .ref b] ∧ SqT K H1 a xs ∧ SqT K H1 b ys ∧ R (Itzt K a b) H1
theorem pi_zipt {es : List Expr} {k : Nat} {tp p pos : Pos} {a b : Expr} {ta : TA} (hg : Gl X "zip") (hm : X.mg "zip" = none) (ha : PA X [a, b] ta) (hs : starEach [a, b] X.env = [(false, eval a X.env), (false, eval b X.env)] := by rfl) (hs2 : starEach [b] X.env = [(false, eval b X.env)] := by rfl) :
    PI X (.Tuple es k tp) (.Call (.Name "zip" p) [a, b] [] pos) (iZipT X.K ta) := by
  intro pins s σ H R I h
  refine Call_ (ld_blt I hg hm boot_zip (PyProof.Rows.callWith_type1 (thn (ha pos pins s σ H _ I h) fun us s1 q1 => ?_) (by rw [hs, hs2]) (by rw [hs2]; rfl)))
  obtain ⟨vs, H1, I1, r1, l1, l2, xs, ys, e, hx, hy, q⟩ := q1
  subst e
  obtain ⟨u, w', e, ru, rw'⟩ := Vals.two r1
  subst e
  cases ru; cases rw'
  obtain ⟨i1, v1, p1, z1⟩ := I1.tuple hx
  obtain ⟨i2, v2, p2, z2⟩ := I1.tuple hy
  refine call_zip_t (show s1.heap.IsTuple l1 i1.toArray from p1) (show s1.heap.IsTuple l2 i2.toArray from p2) fun h' hz hTI hTO g1 g2 kp => wpAny_pyIter_zip hz ?_
  have I2 : Inv X pins σ H1 { s1 with heap := h' } := I1.kept (t' := s1.toks) kp
  refine ⟨s1.heap.objs.size + 4, [s1.heap.objs.size + 4, s1.heap.objs.size + 2, s1.heap.objs.size + 3, s1.heap.objs.size, s1.heap.objs.size + 1], _, Itzt X.K l1 l2, H1, rfl, I2, turn_zipt l1 l2 _ _ _ _ _ (apart5 _), ⟨hz, hTI, ⟨_, _, hTO⟩, g1, g2⟩, fun c hc => ?_, q⟩
  have hc' : s1.heap.objs.size ≤ c := le5 _ _ (by simpa using hc)
  exact I1.fpOk hc' (I1.hok.fresh hc')
theorem pe_gint {x : Str} {i : Int} {tk : Tok} {pos : Pos} (hg : Gl X x) (hm : X.mg x = some (.int i tk)) (hd : (x == ("__debug__" : Str)) = false := by decide) : PE X (.Name x pos) (tC (.int i)) := pe_glob hg hm (show RelV (.int i) (.int i tk) from ⟨tk, rfl⟩) hd
end
end L2.Bk

end
section
set_option Elab.async false
set_option linter.all false
set_option maxRecDepth 100000
/-! Two looks laid together. -/
namespace L2.Bk
open PySem PySem.Spec PyProof.Rows L2.Bw
def Lk.ask : Lk → Option Gd
  | .mk a _ _ _ => a
  | .br a _ _ => a
def Lk.tag : Lk → Option Gd
  | .mk _ _ _ t => t
  | .br _ _ _ => none
def Lk.bd : Lk → Dk
  | .mk _ h ls _ => .tup (.str h :: Lk.ds ls)
  | .br _ t k => brd t k
def lays (f : Lk → Lk → Lk) : List Str → List Lk → List Lk → List Lk
  | s :: ss, x :: xs, y :: ys => (if s = "arg" then f y x else f x y) :: lays f ss xs ys
  | [], _, _ => []
  | _ :: _, [], _ => []
  | _ :: _, _ :: _, [] => []
def bothL (f : Lk → Lk → Lk) (a : Option Gd) (h : Str) (ls : List Lk) : Lk → Lk
  | .br _ t k => .br a t k
  | .mk _ g ms t2 => if h = "same" then .mk a g ms t2 else if g = "same" then .mk a h ls t2 else .mk a (wrapH h (lays f (stepsOf h) ls ms)) (wrapL (lays f (stepsOf h) ls ms)) t2
def lay : Nat → Lk → Lk → Lk
  | 0, x, _ => x
  | n + 1, x, y => match x with
    | .br a t k => .br a t k
    | .mk a h ls none => match y.ask with
      | some _ => y
      | none => bothL (lay n) a h ls y
    | .mk a h ls (some t) => match y.ask with
      | none => .mk a h ls (some t)
      | some k => if t.1.d.eqb k.1.d = true then bothL (lay n) a h ls y else .br a t k
/-- the bodies of two looks are laid together -/
def meetsL : Lk → Lk → Prop
  | .mk _ _ _ none, y => y.ask = none
  | .mk _ _ _ (some t), y => ∃ k, y.ask = some k ∧ t.1.d.eqb k.1.d = true
  | .br _ _ _, _ => False
/-- what of two looks is laid together fits -/
def cmpL : Nat → Lk → Lk → Prop
  | 0, _, _ => True
  | n + 1, x, y => meetsL x y → match x, y with
    | .mk _ h ls _, .mk _ g ms _ => h ≠ "same" → g ≠ "same" → h = g ∧ arity h = some ls.length ∧ arity h = some ms.length ∧ ∀ i (h0 : i < (stepsOf h).length) (h1 : i < ls.length) (h2 : i < ms.length), if (stepsOf h)[i] = "arg" then cmpL n ms[i] ls[i] else cmpL n ls[i] ms[i]
    | .mk _ _ _ _, .br _ _ _ => True
    | .br _ _ _, _ => True
def cmpB (n : Nat) (h : Str) (ls : List Lk) : Lk → Prop
  | .mk _ g ms _ => h ≠ "same" → g ≠ "same" → h = g ∧ arity h = some ls.length ∧ arity h = some ms.length ∧ ∀ i (h0 : i < (stepsOf h).length) (h1 : i < ls.length) (h2 : i < ms.length), if (stepsOf h)[i] = "arg" then cmpL n ms[i] ls[i] else cmpL n ls[i] ms[i]
  | .br _ _ _ => True
theorem cmpL_b {n : Nat} {a : Option Gd} {h : Str} {ls : List Lk} {t : Option Gd} {b : Lk} (c : cmpL (n + 1) (.mk a h ls t) b) (m : meetsL (.mk a h ls t) b) : cmpB n h ls b := by
  cases b with
  | br _ _ _ => trivial
  | mk _ g ms _ => exact c m
theorem cmpL_of {n : Nat} {a : Option Gd} {h : Str} {ls : List Lk} {t : Option Gd} {b : Lk} (c : meetsL (.mk a h ls t) b → cmpB n h ls b) : cmpL (n + 1) (.mk a h ls t) b := by
  cases b with
  | br _ _ _ => exact fun _ => trivial
  | mk _ g ms _ => exact c
theorem lays_length : ∀ (f : Lk → Lk → Lk) (ss : List Str) (xs ys : List Lk), (lays f ss xs ys).length = min ss.length (min xs.length ys.length)
  | _, [], _, _ => by simp [lays]
  | _, _ :: _, [], _ => by simp [lays]
  | _, _ :: _, _ :: _, [] => by simp [lays]
  | f, s :: ss, x :: xs, y :: ys => by
    show (lays f ss xs ys).length + 1 = min (ss.length + 1) (min (xs.length + 1) (ys.length + 1))
    rw [lays_length f ss xs ys]
    omega
theorem lays_get : ∀ {f : Lk → Lk → Lk} {ss : List Str} {xs ys : List Lk} {i : Nat} (h0 : i < ss.length) (h1 : i < xs.length) (h2 : i < ys.length), (lays f ss xs ys)[i]? = some (if ss[i] = "arg" then f ys[i] xs[i] else f xs[i] ys[i])
  | f, s :: ss, x :: xs, y :: ys, 0, _, _, _ => rfl
  | f, s :: ss, x :: xs, y :: ys, i + 1, h0, h1, h2 => by
    show (lays f ss xs ys)[i]? = _
    rw [lays_get (f := f) (ss := ss) (xs := xs) (ys := ys) (i := i) (by simpa using h0) (by simpa using h1) (by simpa using h2)]
    rfl
theorem lays_take {f : Lk → Lk → Lk} {ss : List Str} {xs ys : List Lk} {i : Nat} (h0 : i < ss.length) (h1 : i < xs.length) (h2 : i < ys.length) : (lays f ss xs ys).take (i + 1) = (lays f ss xs ys).take i ++ [if ss[i] = "arg" then f ys[i] xs[i] else f xs[i] ys[i]] := by
  rw [List.take_add_one, lays_get h0 h1 h2]
  rfl
theorem lays_mem {f : Lk → Lk → Lk} {ss : List Str} {xs ys : List Lk} {p : Lk → Prop} (h : ∀ x ∈ xs, ∀ y ∈ ys, p (f x y) ∧ p (f y x)) : ∀ z ∈ lays f ss xs ys, p z := fun z hz => by
  obtain ⟨i, hi, rfl⟩ := List.getElem_of_mem hz
  have gl := lays_length f ss xs ys
  have h1 : i < xs.length := by omega
  have h2 : i < ys.length := by omega
  have k := lays_get (f := f) (ss := ss) (xs := xs) (ys := ys) (i := i) (by omega) h1 h2
  rw [List.getElem?_eq_getElem hi] at k
  rw [Option.some.inj k]
  have := h _ (List.getElem_mem h1) _ (List.getElem_mem h2)
  split
  · exact this.2
  · exact this.1
theorem ok_ask {n : Nat} {x : Lk} (h : x.ok n) : Gd.oks x.ask := by
  cases n with
  | zero => cases x <;> exact h.elim
  | succ n => cases x <;> exact h.1
theorem ok_set {n : Nat} {a : Option Gd} (ha : Gd.oks a) {f : Lk → Lk → Lk} (hf : ∀ x y, x.ok n → y.ok n → (f x y).ok n) {h : Str} {ls : List Lk} {t : Option Gd} (hx : (Lk.mk a h ls t).ok (n + 1)) {y : Lk} (hy : y.ok (n + 1)) : (bothL f a h ls y).ok (n + 1) := by
  obtain ⟨h1, h2, h3, h4, h5, h6⟩ := hx
  cases y with
  | br b t k => exact ⟨ha, hy.2.1, hy.2.2⟩
  | mk b g ms t2 =>
    obtain ⟨g1, g2, g3, g4, g5, g6⟩ := hy
    show Lk.ok (n + 1) (if h = "same" then Lk.mk a g ms t2 else if g = "same" then Lk.mk a h ls t2 else Lk.mk a (wrapH h (lays f (stepsOf h) ls ms)) (wrapL (lays f (stepsOf h) ls ms)) t2)
    split
    · exact ⟨ha, g2, g3, g4, g5, g6⟩
    · rename_i c
      split
      · exact ⟨ha, g2, h3, h4, h5, h6⟩
      · refine ⟨ha, g2, ?_, ?_, wrap_same c, wrap_broken h6⟩
        · unfold wrapL
          have := lays_length f (stepsOf h) ls ms
          split
          · exact Nat.zero_le _
          · omega
        · intro z hz
          have hz' : z ∈ lays f (stepsOf h) ls ms := by
            unfold wrapL at hz
            split at hz
            · cases hz
            · exact hz
          exact lays_mem (p := fun z => z.ok n) (fun x hx y hy => ⟨hf x y (h4 x hx) (g4 y hy), hf y x (g4 y hy) (h4 x hx)⟩) z hz'
theorem lay_ok : ∀ (n : Nat) (x y : Lk), x.ok n → y.ok n → (lay n x y).ok n
  | 0, x, y, h, _ => h
  | n + 1, .br a t k, y, h, _ => h
  | n + 1, .mk a h ls none, y, hx, hy => by
    show Lk.ok (n + 1) (match y.ask with | some _ => y | none => bothL (lay n) a h ls y)
    split
    · exact hy
    · exact ok_set hx.1 (lay_ok n) hx hy
  | n + 1, .mk a h ls (some t), y, hx, hy => by
    show Lk.ok (n + 1) (match y.ask with | none => .mk a h ls (some t) | some k => if t.1.d.eqb k.1.d = true then bothL (lay n) a h ls y else .br a t k)
    have := ok_ask hy
    split
    · exact hx
    · rename_i k e
      rw [e] at this
      split
      · exact ok_set hx.1 (lay_ok n) hx hy
      · exact ⟨hx.1, hx.2.1, this⟩
theorem lk_d (x : Lk) : x.d = .tup [ogd x.ask, x.bd, ogd x.tag] := by cases x <;> rfl
end L2.Bk

end
section
set_option Elab.async false
set_option linter.all false
set_option maxRecDepth 100000
namespace L2.Bk
open PySem PySem.Spec PyProof.Rows L2.Bw
theorem lay_still_l (n : Nat) (x : Lk) : lay (n + 1) stillL x = x := by
  show (match x.ask with | some _ => x | none => bothL (lay n) none "same" [] x) = x
  split
  · rfl
  · rename_i e
    cases x with
    | br a t k => cases (show a = none from e); rfl
    | mk a g ms t2 =>
      cases (show a = none from e)
      have e : bothL (lay n) none "same" [] (.mk none g ms t2) = if ("same" : Str) = "same" then .mk none g ms t2 else if g = "same" then .mk none "same" [] t2 else .mk none (wrapH "same" (lays (lay n) (stepsOf "same") [] ms)) (wrapL (lays (lay n) (stepsOf "same") [] ms)) t2 := rfl
      rw [e, if_pos rfl]
theorem lay_still_r (n : Nat) {x : Lk} (hx : ∀ a h ls t, x = .mk a h ls t → h = "same" → ls = []) : lay (n + 1) x stillL = x := by
  cases x with
  | br a t k => rfl
  | mk a h ls t =>
    cases t with
    | some t => rfl
    | none =>
      show (if h = "same" then Lk.mk a "same" [] none else if ("same" : Str) = "same" then Lk.mk a h ls none else _) = _
      by_cases c : h = "same"
      · rw [if_pos c, hx a h ls none rfl c, c]
      · rw [if_neg c, if_pos rfl]
theorem part_of_fits {h : Str} {ts ks : List Kn} (w : arity h = some ks.length) (e : ts.length = ks.length) (f : Kn.fits ts ks) : (Kn.mk h ts).part (.mk h ks) = none := by
  show (if h = "?" then none else if h = "?" then none else if h = h then Kn.parts (stepsOf h) ts ks else some []) = none
  split
  · rfl
  · rw [if_pos rfl]
    exact (parts_none (by rw [steps_len w, e]) e).mpr f
theorem fits_of : ∀ {ks ls : List Kn}, ks.length = ls.length → (∀ i (h1 : i < ks.length) (h2 : i < ls.length), ks[i].part ls[i] = none) → Kn.fits ks ls
  | [], [], _, _ => trivial
  | [], _ :: _, e, _ => nomatch e
  | _ :: _, [], e, _ => nomatch e
  | a :: ks, b :: ls, e, h => ⟨h 0 (by simp) (by simp), fits_of (by simpa using e) fun i h1 h2 => by
      have := h (i + 1) (by simpa using h1) (by simpa using h2)
      simpa using this⟩
theorem part_q' (b : Kn) (h : b = qK) (a : Kn) : a.part b = none := by rw [h, part_comm]; exact part_q a
theorem loose_h {a b : Kn} (h : a.loose b = true) (n : b.h ≠ "?") : a.h = b.h ∧ ∀ i (h1 : i < a.ks.length) (h2 : i < b.ks.length), a.ks[i].loose b.ks[i] = true := by
  obtain ⟨x, ks⟩ := a
  obtain ⟨y, ls⟩ := b
  have n' : ¬ y = "?" := n
  rw [loose_eq, if_neg n'] at h
  split at h
  · rename_i e
    exact ⟨e, looses_all.mp h⟩
  · cases h
end L2.Bk

end
section
set_option Elab.async false
set_option linter.all false
set_option maxRecDepth 100000
/-! sum of a list of numbers, list.count of truths. -/
namespace L2.Bk
open PySem PySem.Spec PyProof.Rows L2.Bw
section
variable {X : Cx}
/-! ### list.count of truths -/
end
end L2.Bk

end
section
set_option Elab.async false
set_option linter.all false
set_option maxRecDepth 100000
/-! A look from a kind to a kind; its height and weight. -/
namespace L2.Bk
open PySem PySem.Spec PyProof.Rows L2.Bw
/-- the told kind at an end of a look -/
def endK : Option Gd → Kn → Kn
  | none, a => a
  | some g, _ => g.1
/-- an ask or a tag at an end of a look -/
def endOk : Option Gd → Kn → Prop
  | none, _ => True
  | some g, a => a = qK ∧ g.1.wf ∧ g.1.h ≠ "?"
def Ty : Nat → Kn → Lk → Kn → Prop
  | 0, _, _, _ => False
  | n + 1, a, .mk k h ls t, b => endOk k a ∧ endOk t b ∧ ((h = "same" ∧ ls = [] ∧ endK k a = endK t b) ∨ (h = (endK k a).h ∧ (endK k a).h = (endK t b).h ∧ arity h = some ls.length ∧ arity h = some (endK k a).ks.length ∧ arity h = some (endK t b).ks.length ∧ h ≠ "?" ∧
      ∀ i (_ : i < (stepsOf h).length) (h1 : i < ls.length) (h2 : i < (endK k a).ks.length) (h3 : i < (endK t b).ks.length), if (stepsOf h)[i] = "arg" then Ty n (endK t b).ks[i] ls[i] (endK k a).ks[i] else Ty n (endK k a).ks[i] ls[i] (endK t b).ks[i]))
  | _ + 1, a, .br k _ _, _ => endOk k a ∧ (k = none → a.h ≠ "?")
theorem ty_still {n : Nat} {a b : Kn} (h : Ty n a stillL b) : a = b := by
  cases n with
  | zero => exact h.elim
  | succ n =>
    obtain ⟨_, _, h⟩ := h
    rcases h with h | h
    · exact h.2.2
    · exact absurd h.2.2.1 (by rw [show arity "same" = none by decide +kernel]; exact fun z => nomatch z)
theorem kn_ext {a b : Kn} (h : a.h = b.h) (l : a.ks.length = b.ks.length) (e : ∀ i (h1 : i < a.ks.length) (h2 : i < b.ks.length), a.ks[i] = b.ks[i]) : a = b := by
  rw [← eta a, ← eta b, h, ext_kn l e]
/-- two looks one behind the other fit -/
theorem ty_cmp : ∀ (n : Nat) {a b c : Kn} {x y : Lk}, Ty n a x b → Ty n b y c → cmpL n x y
  | 0, a, b, c, x, y, h, _ => h.elim
  | n + 1, a, b, c, .br k t2 a2, y, hx, hy => fun m => m.elim
  | n + 1, a, b, c, .mk k h ls t, .br k' t2 a2, hx, hy => cmpL_of fun _ => trivial
  | n + 1, a, b, c, .mk k h ls t, .mk k' g ms t', hx, hy => by
    refine cmpL_of fun mt => ?_
    intro n1 n2
    obtain ⟨x1, x2, hx⟩ := hx
    obtain ⟨y1, y2, hy⟩ := hy
    rcases hx with hx | ⟨e1, e2, e3, e4, e5, e6, e7⟩
    · exact absurd hx.1 n1
    rcases hy with hy | ⟨f1, f2, f3, f4, f5, f6, f7⟩
    · exact absurd hy.1 n2
    have mid : endK t b = endK k' b := by
      cases t with
      | none =>
        have mt' : k' = none := mt
        rw [mt']
      | some g1 =>
        obtain ⟨g2, q1, q2⟩ := mt
        have q1' : k' = some g2 := q1
        rw [q1']
        exact eqb_kn.mp q2
    have ehg : h = g := by rw [e1, e2, mid, ← f1]
    subst ehg
    refine ⟨rfl, e3, f3, ?_⟩
    intro i i0 i1 i2
    have l1 := Option.some.inj (e3.symm.trans e4)
    have l2 := Option.some.inj (e3.symm.trans e5)
    have l3 := Option.some.inj (f3.symm.trans f4)
    have l4 := Option.some.inj (f3.symm.trans f5)
    have a1 := e7 i i0 i1 (by omega) (by omega)
    have a2 := f7 i i0 i2 (by omega) (by omega)
    have em : (endK t b).ks[i]'(by omega) = (endK k' b).ks[i]'(by omega) := by simp only [mid]
    rw [em] at a1
    by_cases c1 : (stepsOf h)[i] = "arg"
    · rw [if_pos c1] at a1 a2 ⊢
      exact ty_cmp n a2 a1
    · rw [if_neg c1] at a1 a2 ⊢
      exact ty_cmp n a1 a2
theorem ty_told {n : Nat} {a b : Kn} {k t : Option Gd} {h : Str} {ls : List Lk} (hx : Ty (n + 1) a (.mk k h ls t) b) (hk : k = none) (ht : (endK t b).h ≠ "?") : a.h ≠ "?" := by
  obtain ⟨_, _, hx⟩ := hx
  subst hk
  rcases hx with ⟨_, _, e⟩ | ⟨_, e, _⟩
  · have e' : a = endK t b := e
    rw [e']; exact ht
  · have e' : a.h = (endK t b).h := e
    rw [e']; exact ht
theorem ty_lays {n : Nat} {f : Lk → Lk → Lk} (hf : ∀ {a b c : Kn} {x y : Lk}, Ty n a x b → Ty n b y c → Ty n a (f x y) c) {h : Str} {ls ms : List Lk} {A B C : Kn} (al : arity h = some ls.length) (am : arity h = some ms.length) (aA : arity h = some A.ks.length) (aB : arity h = some B.ks.length) (aC : arity h = some C.ks.length)
    (e1 : ∀ i (_ : i < (stepsOf h).length) (h1 : i < ls.length) (h2 : i < A.ks.length) (h3 : i < B.ks.length), if (stepsOf h)[i] = "arg" then Ty n B.ks[i] ls[i] A.ks[i] else Ty n A.ks[i] ls[i] B.ks[i])
    (e2 : ∀ i (_ : i < (stepsOf h).length) (h1 : i < ms.length) (h2 : i < B.ks.length) (h3 : i < C.ks.length), if (stepsOf h)[i] = "arg" then Ty n C.ks[i] ms[i] B.ks[i] else Ty n B.ks[i] ms[i] C.ks[i]) :
    arity h = some (lays f (stepsOf h) ls ms).length ∧ ∀ i (_ : i < (stepsOf h).length) (h1 : i < (lays f (stepsOf h) ls ms).length) (h2 : i < A.ks.length) (h3 : i < C.ks.length), if (stepsOf h)[i] = "arg" then Ty n C.ks[i] (lays f (stepsOf h) ls ms)[i] A.ks[i] else Ty n A.ks[i] (lays f (stepsOf h) ls ms)[i] C.ks[i] := by
  have sl := steps_len al
  have ll := lays_length f (stepsOf h) ls ms
  have l1 := Option.some.inj (al.symm.trans am)
  have l2 := Option.some.inj (al.symm.trans aA)
  have l3 := Option.some.inj (al.symm.trans aB)
  have l4 := Option.some.inj (al.symm.trans aC)
  refine ⟨by rw [al]; congr 1; omega, fun i i0 i1 i2 i3 => ?_⟩
  have a1 := e1 i i0 (by omega) i2 (by omega)
  have a2 := e2 i i0 (by omega) (by omega) i3
  have g := lays_get (f := f) (ss := stepsOf h) (xs := ls) (ys := ms) i0 (by omega) (by omega)
  rw [List.getElem?_eq_getElem i1] at g
  rw [Option.some.inj g]
  by_cases c1 : (stepsOf h)[i] = "arg"
  · rw [if_pos c1] at a1 a2 ⊢
    rw [if_pos c1]
    exact hf a2 a1
  · rw [if_neg c1] at a1 a2 ⊢
    rw [if_neg c1]
    exact hf a1 a2
/-- the bodies of two looks laid together -/
theorem ty_both {n : Nat} {f : Lk → Lk → Lk} (hf : ∀ {a b c : Kn} {x y : Lk}, Ty n a x b → Ty n b y c → Ty n a (f x y) c) {a b c : Kn} {k t : Option Gd} {h : Str} {ls : List Lk} {y : Lk} (hx : Ty (n + 1) a (.mk k h ls t) b) (hy : Ty (n + 1) b y c) (mid : endK t b = endK y.ask b) (told : y.ask = none → k = none → (∃ t2 a2, y = .br none t2 a2) → a.h ≠ "?") (told2 : k = none → (∃ g t2 a2, y = .br (some g) t2 a2) → a.h ≠ "?") :
    Ty (n + 1) a (bothL f k h ls y) c := by
  cases y with
  | br k' t2 a2 =>
    refine ⟨hx.1, fun hk => ?_⟩
    cases k' with
    | none => exact told rfl hk ⟨t2, a2, rfl⟩
    | some g => exact told2 hk ⟨g, t2, a2, rfl⟩
  | mk k' g ms t' =>
    have hx0 := hx
    obtain ⟨x1, x2, hx⟩ := hx
    obtain ⟨y1, y2, hy⟩ := hy
    have mid' : endK t b = endK k' b := mid
    show Ty (n + 1) a (if h = "same" then Lk.mk k g ms t' else if g = "same" then Lk.mk k h ls t' else Lk.mk k (wrapH h (lays f (stepsOf h) ls ms)) (wrapL (lays f (stepsOf h) ls ms)) t') c
    rcases hx with ⟨s1, s2, s3⟩ | ⟨e1, e2, e3, e4, e5, e6, e7⟩
    · rw [if_pos s1]
      have ee : endK k a = endK k' b := s3.trans mid'
      refine ⟨x1, y2, ?_⟩
      rw [ee]
      exact hy
    · rw [if_neg (no_same e3).1]
      rcases hy with ⟨s1, s2, s3⟩ | ⟨f1, f2, f3, f4, f5, f6, f7⟩
      · rw [if_pos s1]
        have ee : endK t b = endK t' c := mid'.trans s3
        refine ⟨x1, y2, .inr ⟨e1, ?_, e3, e4, ?_, e6, ?_⟩⟩
        · rw [← ee]; exact e2
        · rw [← ee]; exact e5
        · intro i i0 i1 i2 i3
          have := e7 i i0 i1 i2 (by rw [ee]; exact i3)
          simp only [ee] at this
          exact this
      · rw [if_neg (no_same f3).1]
        have ehg : h = g := by rw [e1, e2, mid', ← f1]
        subst ehg
        have f7' : ∀ i (_ : i < (stepsOf h).length) (h1 : i < ms.length) (h2 : i < (endK t b).ks.length) (h3 : i < (endK t' c).ks.length), if (stepsOf h)[i] = "arg" then Ty n (endK t' c).ks[i] ms[i] (endK t b).ks[i] else Ty n (endK t b).ks[i] ms[i] (endK t' c).ks[i] := by
          intro i i0 i1 i2 i3
          have := f7 i i0 i1 (by rw [← mid']; exact i2) i3
          simp only [← mid'] at this
          exact this
        obtain ⟨al, el⟩ := ty_lays hf e3 f3 e4 e5 f5 e7 f7'
        by_cases st : (lays f (stepsOf h) ls ms).all Lk.still = true
        · have z1 : wrapH h (lays f (stepsOf h) ls ms) = "same" := by unfold wrapH; rw [if_pos st]
          have z2 : wrapL (lays f (stepsOf h) ls ms) = [] := by unfold wrapL; rw [if_pos st]
          rw [z1, z2]
          refine ⟨x1, y2, .inl ⟨rfl, rfl, ?_⟩⟩
          have l1 := Option.some.inj (e4.symm.trans f5)
          refine kn_ext (by rw [e2, mid', f2]) l1 fun i h1 h2 => ?_
          have sl := steps_len e4
          have i0 : i < (stepsOf h).length := by omega
          have l2 := Option.some.inj (al.symm.trans e4)
          have q := el i i0 (by omega) h1 h2
          have s := still_iff.mp (List.all_eq_true.mp st _ (List.getElem_mem (show i < (lays f (stepsOf h) ls ms).length by omega)))
          rw [s] at q
          by_cases c1 : (stepsOf h)[i] = "arg"
          · rw [if_pos c1] at q
            exact (ty_still q).symm
          · rw [if_neg c1] at q
            exact ty_still q
        · have z1 : wrapH h (lays f (stepsOf h) ls ms) = h := by unfold wrapH; rw [if_neg st]
          have z2 : wrapL (lays f (stepsOf h) ls ms) = lays f (stepsOf h) ls ms := by unfold wrapL; rw [if_neg st]
          rw [z1, z2]
          exact ⟨x1, y2, .inr ⟨e1, by rw [e2, mid', f2], al, e4, f5, e6, el⟩⟩
theorem end_q {k : Option Gd} {a : Kn} (h : endOk k a) (e : endK k a = qK) : k = none ∧ a = qK := by
  cases k with
  | none => exact ⟨rfl, e⟩
  | some g =>
    have e' : g.1 = qK := e
    exact absurd (show g.1.h = "?" by rw [e']; rfl) h.2.2
theorem ty_q {n : Nat} {a : Kn} {k : Option Gd} {h : Str} {ls : List Lk} (hx : Ty (n + 1) a (.mk k h ls none) qK) : a = qK ∧ Lk.mk k h ls none = stillL := by
  obtain ⟨x1, x2, hx⟩ := hx
  rcases hx with ⟨s1, s2, s3⟩ | ⟨e1, e2, _, _, _, e6, _⟩
  · obtain ⟨k0, a0⟩ := end_q x1 s3
    exact ⟨a0, by rw [k0, s1, s2]; rfl⟩
  · exact absurd (e1.trans e2) e6
theorem ty_q' {n : Nat} {c : Kn} {h : Str} {ls : List Lk} {t : Option Gd} (hx : Ty (n + 1) qK (.mk none h ls t) c) : c = qK ∧ Lk.mk none h ls t = stillL := by
  obtain ⟨x1, x2, hx⟩ := hx
  rcases hx with ⟨s1, s2, s3⟩ | ⟨e1, e2, _, _, _, e6, _⟩
  · obtain ⟨k0, a0⟩ := end_q x2 s3.symm
    exact ⟨a0, by rw [k0, s1, s2]; rfl⟩
  · exact absurd e1 e6
/-- two looks laid together lead from the first kind to the last -/
theorem ty_lay : ∀ (n : Nat) {a b c : Kn} {x y : Lk}, Ty n a x b → Ty n b y c → Ty n a (lay n x y) c
  | 0, _, _, _, _, _, h, _ => h.elim
  | n + 1, a, b, c, .br k t2 a2, y, hx, hy => hx
  | n + 1, a, b, c, .mk k h ls none, y, hx, hy => by
    show Ty (n + 1) a (match y.ask with | some _ => y | none => bothL (lay n) k h ls y) c
    cases e : y.ask with
    | some g =>
      have hb : b = qK := by
        cases y with
        | mk k' g' ms t' => cases (show k' = some g from e); exact hy.1.1
        | br k' t2 a2 => cases (show k' = some g from e); exact hy.1.1
      rw [hb] at hx hy
      obtain ⟨ha, _⟩ := ty_q hx
      rw [ha]
      exact hy
    | none =>
      refine ty_both (fun h1 h2 => ty_lay n h1 h2) hx hy (by rw [e]) (fun _ hk hb => ?_) (fun hk hb => ?_)
      · obtain ⟨t2, a2, rfl⟩ := hb
        exact ty_told hx hk (hy.2 rfl)
      · obtain ⟨g, t2, a2, rfl⟩ := hb
        cases e
  | n + 1, a, b, c, .mk k h ls (some t), y, hx, hy => by
    have hb : b = qK := hx.2.1.1
    have ht : t.1.h ≠ "?" := hx.2.1.2.2
    show Ty (n + 1) a (match y.ask with | none => Lk.mk k h ls (some t) | some g => if t.1.d.eqb g.1.d = true then bothL (lay n) k h ls y else .br k t g) c
    cases e : y.ask with
    | none =>
      rw [hb] at hx hy
      cases y with
      | mk k' g' ms t' =>
        cases (show k' = none from e)
        obtain ⟨hc, _⟩ := ty_q' hy
        rw [hc]
        exact hx
      | br k' t2 a2 =>
        cases (show k' = none from e)
        exact absurd rfl (hy.2 rfl)
    | some g =>
      show Ty (n + 1) a (if t.1.d.eqb g.1.d = true then bothL (lay n) k h ls y else .br k t g) c
      split
      · rename_i q
        refine ty_both (fun h1 h2 => ty_lay n h1 h2) hx hy (by rw [e]; exact eqb_kn.mp q) (fun z _ _ => by rw [e] at z; cases z) (fun hk _ => ty_told hx hk ht)
      · exact ⟨hx.1, fun hk => ty_told hx hk ht⟩
theorem ask_end {a b : Kn} (wa : a.wf) (wb : b.wf) (l : Lb) : endOk (askOf a b l) a ∧ endK (askOf a b l) a = fillK a b := by
  unfold askOf fillK
  by_cases c : a.h = "?"
  · rw [if_pos c, if_pos c]
    by_cases d : b.h = "?"
    · rw [if_pos d, wf_q_eq wb d]
      exact ⟨trivial, wf_q_eq wa c⟩
    · rw [if_neg d]
      exact ⟨⟨wf_q_eq wa c, gr_wf wb, d⟩, rfl⟩
  · rw [if_neg c, if_neg c]
    exact ⟨trivial, rfl⟩
theorem ty_gon : ∀ (n : Nat) {a b : Kn} (l : Lb), a.wf → b.wf → a.part b = none → a.dep ≤ n → b.dep ≤ n → Ty n a (gon n a b l) b
  | 0, a, b, l, _, _, _, h, _ => by have := dep_pos a; omega
  | n + 1, a, b, l, wa, wb, ab, ha, hb => by
    obtain ⟨f1, f2, f3⟩ := fill_both wa wb ab
    have w1 := fill_wf wa wb
    have w2 := fill_wf wb wa
    have d1 := fill_dep ha hb
    have d2 := fill_dep hb ha
    rw [dep_eq] at d1 d2
    obtain ⟨k1, k2⟩ := ask_end wa wb l
    obtain ⟨t1, t2⟩ := ask_end wb wa l
    refine ⟨k1, t1, ?_⟩
    rw [k2, t2]
    have gs := gos_still (m := n) l w1 w2 f1 f2 f3 (by omega) (by omega)
    by_cases st : (gos (gon n) l (stepsOf (fillK a b).h) (fillK a b).ks (fillK b a).ks).all Lk.still = true
    · left
      unfold wrapH wrapL
      rw [if_pos st, if_pos st]
      exact ⟨rfl, rfl, gs.mp st⟩
    · right
      have z1 : wrapH (fillK a b).h (gos (gon n) l (stepsOf (fillK a b).h) (fillK a b).ks (fillK b a).ks) = (fillK a b).h := by unfold wrapH; rw [if_neg st]
      have z2 : wrapL (gos (gon n) l (stepsOf (fillK a b).h) (fillK a b).ks (fillK b a).ks) = gos (gon n) l (stepsOf (fillK a b).h) (fillK a b).ks (fillK b a).ks := by unfold wrapL; rw [if_neg st]
      rw [z1, z2]
      have sl := steps_len (wf_ar w1)
      have gl := gos_length (gon n) l (stepsOf (fillK a b).h) (fillK a b).ks (fillK b a).ks
      refine ⟨rfl, f1, by rw [wf_ar w1]; congr 1; omega, wf_ar w1, by rw [wf_ar w1]; congr 1, ?_, ?_⟩
      · intro z
        have e1 := wf_q_eq w1 z
        have e2 := wf_q_eq w2 (f1.symm.trans z)
        exact st (gs.mpr (e1.trans e2.symm))
      · intro i i0 i1 i2 i3
        have g := gos_get (f := gon n) (l := l) i0 i2 i3
        rw [List.getElem?_eq_getElem i1] at g
        rw [Option.some.inj g]
        have u1 := wfs_get i2 (wf_ks w1)
        have u2 := wfs_get i3 (wf_ks w2)
        have v1 := deps_get i2
        have v2 := deps_get i3
        have p := fits_get i2 i3 f3
        by_cases c1 : (stepsOf (fillK a b).h)[i] = "arg"
        · rw [if_pos c1, if_pos c1]
          exact ty_gon n _ u2 u1 (by rw [part_comm]; exact p) (by omega) (by omega)
        · rw [if_neg c1, if_neg c1]
          exact ty_gon n _ u1 u2 p (by omega) (by omega)
theorem ty_stillK (n : Nat) (a : Kn) : Ty (n + 1) a stillL a := ⟨trivial, trivial, .inl ⟨rfl, rfl, rfl⟩⟩
/-! ### height and weight -/
end L2.Bk

end
section
set_option Elab.async false
set_option linter.all false
set_option maxRecDepth 100000
/-! A value given to looks one by one, and to what they come to laid together. -/
namespace L2.Bk
open PySem PySem.Spec PyProof.Rows L2.Bw
def TyL (n : Nat) : Kn → List Lk → Kn → Prop
  | a, [], b => a = b
  | a, x :: r, c => ∃ b, Ty n a x b ∧ TyL n b r c
theorem tyL_snoc {n : Nat} : ∀ {xs : List Lk} {x : Lk} {a c : Kn}, TyL n a (xs ++ [x]) c ↔ ∃ b, TyL n a xs b ∧ Ty n b x c
  | [], x, a, c => ⟨fun ⟨b, h, e⟩ => ⟨a, rfl, by rw [← (show b = c from e)]; exact h⟩, fun ⟨b, e, h⟩ => ⟨c, by rw [(show a = b from e)]; exact h, rfl⟩⟩
  | y :: r, x, a, c => ⟨fun ⟨b, h, t⟩ => by
      obtain ⟨d, t1, t2⟩ := tyL_snoc.mp t
      exact ⟨d, ⟨b, h, t1⟩, t2⟩, fun ⟨d, ⟨b, h, t1⟩, t2⟩ => ⟨b, h, tyL_snoc.mpr ⟨d, t1, t2⟩⟩⟩
def Fl (n : Nat) (xs : List Lk) : Lk := xs.foldl (lay n) stillL
theorem Fl_snoc (n : Nat) (xs : List Lk) (x : Lk) : Fl n (xs ++ [x]) = lay n (Fl n xs) x := by unfold Fl; rw [List.foldl_append]; rfl
theorem snocI {α : Type} {p : List α → Prop} (h0 : p []) (hs : ∀ xs x, p xs → p (xs ++ [x])) (xs : List α) : p xs := by
  have : ∀ ys : List α, p ys.reverse := by
    intro ys
    induction ys with
    | nil => exact h0
    | cons y r ih => rw [List.reverse_cons]; exact hs _ _ ih
  have k := this xs.reverse
  rwa [List.reverse_reverse] at k
theorem ty_Fl {n : Nat} (xs : List Lk) : ∀ {a b : Kn}, TyL (n + 1) a xs b → Ty (n + 1) a (Fl (n + 1) xs) b := by
  refine snocI (p := fun xs => ∀ {a b : Kn}, TyL (n + 1) a xs b → Ty (n + 1) a (Fl (n + 1) xs) b) (fun {a b} h => ?_) (fun xs x ih {a c} h => ?_) xs
  · rw [← (show a = b from h)]; exact ty_stillK n a
  · obtain ⟨b, h1, h2⟩ := tyL_snoc.mp h
    rw [Fl_snoc]
    exact ty_lay (n + 1) (ih h1) h2
/-- no broken body anywhere, and no body that does nothing but the one that says so -/
def Lk.pure : Nat → Lk → Prop
  | 0, _ => False
  | n + 1, .mk k h ls t => (Lk.mk k h ls t).ok (n + 1) ∧ (∀ x ∈ ls, Lk.pure n x) ∧ (h ≠ "same" → ls.all Lk.still ≠ true)
  | _ + 1, .br _ _ _ => False
theorem gon_pure : ∀ (n : Nat) {a b : Kn} {l : Lb}, a.wf → b.wf → a.dep ≤ n → b.dep ≤ n → n ≤ 19 → l.w.length + n ≤ 900 → (gon n a b l).pure n
  | 0, a, b, l, _, _, h, _, _, _ => by have := dep_pos a; omega
  | n + 1, a, b, l, wa, wb, ha, hb, hn, hl => by
    have okk := gon_ok (n + 1) (l := l) wa wb ha hb hn hl
    have w1 := fill_wf wa wb
    have w2 := fill_wf wb wa
    have d1 := fill_dep ha hb
    have d2 := fill_dep hb ha
    rw [dep_eq] at d1 d2
    refine ⟨okk, fun x hx => ?_, fun hh => ?_⟩
    · have hx' : x ∈ gos (gon n) l (stepsOf (fillK a b).h) (fillK a b).ks (fillK b a).ks := by
        unfold wrapL at hx
        split at hx
        · cases hx
        · exact hx
      obtain ⟨i, hi, rfl⟩ := List.getElem_of_mem hx'
      have gl := gos_length (gon n) l (stepsOf (fillK a b).h) (fillK a b).ks (fillK b a).ks
      have i1 : i < (fillK a b).ks.length := by omega
      have i2 : i < (fillK b a).ks.length := by omega
      have g := gos_get (f := gon n) (l := l) (ss := stepsOf (fillK a b).h) (xs := (fillK a b).ks) (ys := (fillK b a).ks) (i := i) (by omega) i1 i2
      rw [List.getElem?_eq_getElem hi] at g
      rw [Option.some.inj g]
      have v1 := deps_get i1
      have v2 := deps_get i2
      have u1 := wfs_get i1 (wf_ks w1)
      have u2 := wfs_get i2 (wf_ks w2)
      have ol := on_len l (stepsOf (fillK a b).h)[i]
      split
      · exact gon_pure n u2 u1 (by omega) (by omega) (by omega) (by omega)
      · exact gon_pure n u1 u2 (by omega) (by omega) (by omega) (by omega)
    · unfold wrapH at hh
      unfold wrapL
      split at hh
      · exact absurd rfl hh
      · rename_i c
        rw [if_neg c]
        exact c
theorem pure_ok {n : Nat} {x : Lk} (h : x.pure n) : x.ok n := by
  cases n with
  | zero => exact h.elim
  | succ n => cases x with
    | mk k g ls t => exact h.1
    | br k t a => exact h.elim
abbrev Bd := Str × List Lk
inductive Gv where
  | blame (t : Option Gd) (k : Gd)
  | there (t : Option Gd) (gs : List Bd)
def addB (gs : List Bd) (h : Str) (ls : List Lk) : List Bd := if h = "same" then gs else gs ++ [(h, ls)]
def orT (t tag : Option Gd) : Option Gd := match t with | some g => some g | none => tag
/-- the looks of the i-th part in the bodies -/
def colB (i : Nat) (gs : List Bd) : List Lk := gs.map fun g => (g.2[i]?).getD stillL
/-- the bodies that were met, and what they come to laid together -/
structure Cols (n : Nat) (A B : Kn) (h : Str) (ls : List Lk) (gs : List Bd) : Prop where
  head : ∀ g ∈ gs, g.1 = A.h ∧ arity A.h = some g.2.length ∧ g.1 ≠ "same"
  pure : ∀ g ∈ gs, ∀ x ∈ g.2, Lk.pure n x
  none : gs = [] → A = B
  col : ∀ i (h0 : i < (stepsOf A.h).length) (h1 : i < A.ks.length) (h2 : i < B.ks.length), (stepsOf A.h)[i] ≠ "arg" → Fl n (colB i gs) = (if h = "same" then stillL else (ls[i]?).getD stillL) ∧ TyL n A.ks[i] (colB i gs) B.ks[i]
/-- how a body leads from a told kind to another -/
def BdTy (n : Nat) (A B : Kn) (h : Str) (ls : List Lk) : Prop := (h = "same" ∧ ls = [] ∧ A = B) ∨ (h = A.h ∧ A.h = B.h ∧ arity h = some ls.length ∧ arity h = some A.ks.length ∧ arity h = some B.ks.length ∧ h ≠ "?" ∧
      ∀ i (_ : i < (stepsOf h).length) (h1 : i < ls.length) (h2 : i < A.ks.length) (h3 : i < B.ks.length), if (stepsOf h)[i] = "arg" then Ty n B.ks[i] ls[i] A.ks[i] else Ty n A.ks[i] ls[i] B.ks[i])
theorem ty_pos {n : Nat} {a b : Kn} {x : Lk} (h : Ty n a x b) : ∃ m, n = m + 1 := by
  cases n with
  | zero => exact h.elim
  | succ m => exact ⟨m, rfl⟩
/-- two kinds that are looser than one don't part -/
theorem loose_cons : ∀ (n : Nat) {t k u : Kn}, k.dep ≤ n → t.wf → k.wf → u.wf → t.loose k = true → t.loose u = true → k.part u = none
  | 0, t, k, u, h, _, _, _, _, _ => by have := dep_pos k; omega
  | n + 1, t, k, u, h, wt, wk, wu, h1, h2 => by
    by_cases c1 : k.h = "?"
    · rw [wf_q_eq wk c1]; exact part_q u
    by_cases c2 : u.h = "?"
    · exact part_q' u (wf_q_eq wu c2) k
    obtain ⟨e1, s1⟩ := loose_h h1 c1
    obtain ⟨e2, s2⟩ := loose_h h2 c2
    have l1 : t.ks.length = k.ks.length := by
      have a1 := wf_ar wt
      have a2 := wf_ar wk
      rw [e1, a2] at a1
      exact (Option.some.inj a1).symm
    have l2 : t.ks.length = u.ks.length := by
      have a1 := wf_ar wt
      have a2 := wf_ar wu
      rw [e2, a2] at a1
      exact (Option.some.inj a1).symm
    rw [← eta k, ← eta u, ← e1, ← e2]
    rw [dep_eq] at h
    exact part_of_fits (by rw [e2]; exact wf_ar wu) (by omega) (fits_of (by omega) fun i h1' h2' => by
      have := deps_get h1'
      exact loose_cons n (by omega) (wfs_get (show i < t.ks.length by omega) (wf_ks wt)) (wfs_get h1' (wf_ks wk)) (wfs_get h2' (wf_ks wu)) (s1 i (by omega) h1') (s2 i (by omega) h2'))
end L2.Bk

end
section
set_option Elab.async false
set_option linter.all false
set_option maxRecDepth 100000
namespace L2.Bk
open PySem PySem.Spec PyProof.Rows L2.Bw
section
variable {X : Cx}
def CDivG (i j : Int) : Prop := (0 < j ∧ j < 1073741824) ∨ j = 10 ^ 20
theorem op_fdivG : OpR X (binaryOp .FloorDiv) (rI CDivG fun i j => .int (i / j)) := opI fun i j _ _ _ _ _ hc q => by
  rcases hc with ⟨h1, h2⟩ | h
  · exact floordiv_int (by omega) (by rw [Int.fdiv_eq_ediv_of_nonneg i (by omega)]; exact q) (.inl (PyProof.noPylong_small (by omega)))
  · subst h
    exact floordiv_int (by decide) (by rw [Int.fdiv_eq_ediv_of_nonneg i (by decide)]; exact q) (.inl (PyProof.noPylong_of_log2 (by decide +kernel)))
end
end L2.Bk

end
section
set_option Elab.async false
set_option linter.all false
set_option maxRecDepth 100000
/-! Looks laid together in whatever order. -/
namespace L2.Bk
open PySem PySem.Spec PyProof.Rows L2.Bw
/-- no body that does nothing but the one that says so -/
def Lk.nm : Nat → Lk → Prop
  | 0, _ => False
  | n + 1, .mk _ h ls _ => (∀ x ∈ ls, Lk.nm n x) ∧ (h = "same" → ls = []) ∧ (h ≠ "same" → ls.all Lk.still ≠ true)
  | _ + 1, .br _ _ _ => True
theorem pure_nm : ∀ {n : Nat} {x : Lk}, x.pure n → x.nm n
  | 0, _, h => h.elim
  | n + 1, .mk k h ls t, hp => ⟨fun x hx => pure_nm (hp.2.1 x hx), hp.1.2.2.2.2.1, hp.2.2⟩
  | n + 1, .br _ _ _, h => h.elim
/-- two bodies laid together -/
def jB (f : Lk → Lk → Lk) (u v : Bd) : Bd := if u.1 = "same" then v else if v.1 = "same" then u else (wrapH u.1 (lays f (stepsOf u.1) u.2 v.2), wrapL (lays f (stepsOf u.1) u.2 v.2))
theorem both_mk (f : Lk → Lk → Lk) (a : Option Gd) (h : Str) (ls : List Lk) (k : Option Gd) (g : Str) (ms : List Lk) (t : Option Gd) : bothL f a h ls (.mk k g ms t) = .mk a (jB f (h, ls) (g, ms)).1 (jB f (h, ls) (g, ms)).2 t := by
  show (if h = "same" then Lk.mk a g ms t else if g = "same" then .mk a h ls t else .mk a (wrapH h (lays f (stepsOf h) ls ms)) (wrapL (lays f (stepsOf h) ls ms)) t) = _
  unfold jB
  by_cases c : h = "same"
  · rw [if_pos c, if_pos c]
  · rw [if_neg c, if_neg c]
    by_cases c2 : g = "same"
    · rw [if_pos c2, if_pos c2]
    · rw [if_neg c2, if_neg c2]
def nmB (n : Nat) (u : Bd) : Prop := (∀ x ∈ u.2, Lk.nm n x) ∧ (u.1 = "same" → u.2 = []) ∧ (u.1 ≠ "same" → u.2.all Lk.still ≠ true)
abbrev AssAt (n : Nat) : Prop := ∀ {a b c d : Kn} {x y z : Lk}, Ty n a x b → Ty n b y c → Ty n c z d → x.nm n → y.nm n → z.nm n → lay n (lay n x y) z = lay n x (lay n y z)
theorem nm_r {n : Nat} {x : Lk} (h : x.nm n) : lay n x stillL = x := by
  cases n with
  | zero => exact h.elim
  | succ n => exact lay_still_r n fun a g ls t e => by subst e; exact h.2.1
theorem nm_l {n : Nat} {x : Lk} (h : x.nm n) : lay n stillL x = x := by
  cases n with
  | zero => exact h.elim
  | succ n => exact lay_still_l n x
theorem ext_lk {xs ys : List Lk} (h : xs.length = ys.length) (e : ∀ i (h1 : i < xs.length) (h2 : i < ys.length), xs[i] = ys[i]) : xs = ys := List.ext_getElem h fun i h1 h2 => e i h1 h2
theorem all_still {ls : List Lk} (h : ls.all Lk.still = true) {i : Nat} (hi : i < ls.length) : ls[i] = stillL := still_iff.mp (List.all_eq_true.mp h _ (List.getElem_mem hi))
theorem jB_assoc {n : Nat} (ih : AssAt n) {A B C D : Kn} {u v w : Bd} (tu : BdTy n A B u.1 u.2) (tv : BdTy n B C v.1 v.2) (tw : BdTy n C D w.1 w.2) (nu : nmB n u) (nv : nmB n v) (nw : nmB n w) : jB (lay n) (jB (lay n) u v) w = jB (lay n) u (jB (lay n) v w) := by
  obtain ⟨h, ls⟩ := u
  obtain ⟨g, ms⟩ := v
  obtain ⟨p, ns⟩ := w
  have j1 : ∀ (f : Lk → Lk → Lk) (x y : Bd), x.1 = "same" → jB f x y = y := fun f x y e => by unfold jB; rw [if_pos e]
  have j2 : ∀ (f : Lk → Lk → Lk) (x y : Bd), x.1 ≠ "same" → y.1 = "same" → jB f x y = x := fun f x y e e' => by unfold jB; rw [if_neg e, if_pos e']
  have j3 : ∀ (f : Lk → Lk → Lk) (x y : Bd), x.1 ≠ "same" → y.1 ≠ "same" → jB f x y = (wrapH x.1 (lays f (stepsOf x.1) x.2 y.2), wrapL (lays f (stepsOf x.1) x.2 y.2)) := fun f x y e e' => by unfold jB; rw [if_neg e, if_neg e']
  by_cases c1 : h = "same"
  · rw [j1 _ (h, ls) (g, ms) c1, j1 _ (h, ls) _ c1]
  by_cases c2 : g = "same"
  · rw [j2 _ (h, ls) (g, ms) c1 c2, j1 _ (g, ms) _ c2]
  rcases tu with ⟨e, _⟩ | ⟨u1, u2, u3, u4, u5, u6, u7⟩
  · exact absurd e c1
  rcases tv with ⟨e, _⟩ | ⟨v1, v2, v3, v4, v5, v6, v7⟩
  · exact absurd e c2
  dsimp only at u1 u2 u3 u4 u5 u6 u7 v1 v2 v3 v4 v5 v6 v7
  have hg : h = g := by rw [u1, u2, v1]
  subst hg
  rw [j3 _ (h, ls) (h, ms) c1 c1]
  dsimp only
  by_cases c3 : p = "same"
  · rw [j2 _ (h, ms) (p, ns) c1 c3, j3 _ (h, ls) (h, ms) c1 c1]
    have en : ns = [] := nw.2.1 c3
    by_cases s : (lays (lay n) (stepsOf h) ls ms).all Lk.still = true
    · have z1 : wrapH h (lays (lay n) (stepsOf h) ls ms) = "same" := by unfold wrapH; rw [if_pos s]
      have z2 : wrapL (lays (lay n) (stepsOf h) ls ms) = [] := by unfold wrapL; rw [if_pos s]
      dsimp only
      rw [z1, z2, j1 _ _ _ rfl, c3, en]
    · have z1 : wrapH h (lays (lay n) (stepsOf h) ls ms) = h := by unfold wrapH; rw [if_neg s]
      dsimp only
      exact j2 _ _ _ (by dsimp only; rw [z1]; exact c1) c3
  rcases tw with ⟨e, _⟩ | ⟨w1, w2, w3, w4, w5, w6, w7⟩
  · exact absurd e c3
  dsimp only at w1 w2 w3 w4 w5 w6 w7
  have hp : h = p := by rw [v1, v2, w1]
  subst hp
  rw [j3 _ (h, ms) (h, ns) c1 c1]
  dsimp only
  have sl := steps_len u3
  have l1 := Option.some.inj (u3.symm.trans v3)
  have l2 := Option.some.inj (u3.symm.trans w3)
  have l3 := Option.some.inj (u3.symm.trans u4)
  have l4 := Option.some.inj (u3.symm.trans u5)
  have l5 := Option.some.inj (u3.symm.trans v5)
  have l6 := Option.some.inj (u3.symm.trans w5)
  have q1 := lays_length (lay n) (stepsOf h) ls ms
  have q2 := lays_length (lay n) (stepsOf h) ms ns
  have q3 := lays_length (lay n) (stepsOf h) (lays (lay n) (stepsOf h) ls ms) ns
  have q4 := lays_length (lay n) (stepsOf h) ls (lays (lay n) (stepsOf h) ms ns)
  have get : ∀ (xs ys : List Lk) (i : Nat) (h0 : i < (stepsOf h).length) (h1 : i < xs.length) (h2 : i < ys.length) (h3 : i < (lays (lay n) (stepsOf h) xs ys).length), (lays (lay n) (stepsOf h) xs ys)[i] = if (stepsOf h)[i] = "arg" then lay n ys[i] xs[i] else lay n xs[i] ys[i] := fun xs ys i h0 h1 h2 h3 => by
    have g := lays_get (f := lay n) (ss := stepsOf h) (xs := xs) (ys := ys) h0 h1 h2
    rw [List.getElem?_eq_getElem h3] at g
    exact Option.some.inj g
  have main : lays (lay n) (stepsOf h) (lays (lay n) (stepsOf h) ls ms) ns = lays (lay n) (stepsOf h) ls (lays (lay n) (stepsOf h) ms ns) := by
    refine ext_lk (by omega) fun i i1 i2 => ?_
    have i0 : i < (stepsOf h).length := by omega
    rw [get _ _ i i0 (by omega) (by omega) i1, get _ _ i i0 (by omega) (by omega) i2, get ls ms i i0 (by omega) (by omega) (by omega), get ms ns i i0 (by omega) (by omega) (by omega)]
    have a1 := u7 i i0 (by omega) (by omega) (by omega)
    have a2 := v7 i i0 (by omega) (by omega) (by omega)
    have a3 := w7 i i0 (by omega) (by omega) (by omega)
    have m1 := nu.1 ls[i] (List.getElem_mem _)
    have m2 := nv.1 ms[i] (List.getElem_mem _)
    have m3 := nw.1 ns[i] (List.getElem_mem _)
    by_cases c : (stepsOf h)[i] = "arg"
    · rw [if_pos c] at a1 a2 a3
      rw [if_pos c, if_pos c, if_pos c, if_pos c]
      exact (ih a3 a2 a1 m3 m2 m1).symm
    · rw [if_neg c] at a1 a2 a3
      rw [if_neg c, if_neg c, if_neg c, if_neg c]
      exact ih a1 a2 a3 m1 m2 m3
  have toN : (lays (lay n) (stepsOf h) ls ms).all Lk.still = true → lays (lay n) (stepsOf h) (lays (lay n) (stepsOf h) ls ms) ns = ns := fun s => by
    refine ext_lk (by omega) fun i i1 i2 => ?_
    have i0 : i < (stepsOf h).length := by omega
    rw [get _ _ i i0 (by omega) (by omega) i1, all_still s (by omega), nm_l (nw.1 _ (List.getElem_mem i2)), nm_r (nw.1 _ (List.getElem_mem i2))]
    exact ite_self _
  have toL : (lays (lay n) (stepsOf h) ms ns).all Lk.still = true → lays (lay n) (stepsOf h) ls (lays (lay n) (stepsOf h) ms ns) = ls := fun s => by
    refine ext_lk (by omega) fun i i1 i2 => ?_
    have i0 : i < (stepsOf h).length := by omega
    rw [get _ _ i i0 (by omega) (by omega) i1, all_still s (by omega), nm_l (nu.1 _ (List.getElem_mem i2)), nm_r (nu.1 _ (List.getElem_mem i2))]
    exact ite_self _
  have wp : ∀ xs : List Lk, xs.all Lk.still = true → (wrapH h xs, wrapL xs) = (("same", []) : Bd) := fun xs s => by unfold wrapH wrapL; rw [if_pos s, if_pos s]
  have wn : ∀ xs : List Lk, xs.all Lk.still ≠ true → (wrapH h xs, wrapL xs) = ((h, xs) : Bd) := fun xs s => by unfold wrapH wrapL; rw [if_neg s, if_neg s]
  by_cases s1 : (lays (lay n) (stepsOf h) ls ms).all Lk.still = true
  · rw [wp _ s1, j1 _ _ _ rfl]
    by_cases s2 : (lays (lay n) (stepsOf h) ms ns).all Lk.still = true
    · rw [wp _ s2, j2 _ (h, ls) ("same", []) c1 rfl, ← toN s1, main, toL s2]
    · rw [wn _ s2, j3 _ (h, ls) (h, _) c1 c1]
      dsimp only
      rw [← main, toN s1, wn _ (nw.2.2 c1)]
  · rw [wn _ s1, j3 _ (h, _) (h, ns) c1 c1]
    dsimp only
    by_cases s2 : (lays (lay n) (stepsOf h) ms ns).all Lk.still = true
    · rw [wp _ s2, j2 _ (h, ls) ("same", []) c1 rfl, main, toL s2, wn _ (nu.2.2 c1)]
    · rw [wn _ s2, j3 _ (h, ls) (h, _) c1 c1]
      dsimp only
      rw [main]
theorem nmB_j {n : Nat} {u v : Bd} (hl : ∀ x y : Lk, x.nm n → y.nm n → (lay n x y).nm n) (nu : nmB n u) (nv : nmB n v) : nmB n (jB (lay n) u v) := by
  unfold jB
  by_cases c1 : u.1 = "same"
  · rw [if_pos c1]; exact nv
  rw [if_neg c1]
  by_cases c2 : v.1 = "same"
  · rw [if_pos c2]; exact nu
  rw [if_neg c2]
  by_cases s : (lays (lay n) (stepsOf u.1) u.2 v.2).all Lk.still = true
  · have z2 : wrapL (lays (lay n) (stepsOf u.1) u.2 v.2) = [] := by unfold wrapL; rw [if_pos s]
    have z1 : wrapH u.1 (lays (lay n) (stepsOf u.1) u.2 v.2) = "same" := by unfold wrapH; rw [if_pos s]
    rw [z1, z2]
    exact ⟨(fun x hx => nomatch hx), (fun _ => rfl), fun z => absurd rfl z⟩
  · have z2 : wrapL (lays (lay n) (stepsOf u.1) u.2 v.2) = lays (lay n) (stepsOf u.1) u.2 v.2 := by unfold wrapL; rw [if_neg s]
    have z1 : wrapH u.1 (lays (lay n) (stepsOf u.1) u.2 v.2) = u.1 := by unfold wrapH; rw [if_neg s]
    rw [z1, z2]
    exact ⟨lays_mem fun x hx y hy => ⟨hl _ _ (nu.1 x hx) (nv.1 y hy), hl _ _ (nv.1 y hy) (nu.1 x hx)⟩, (fun z => absurd z c1), fun _ => s⟩
theorem nm_lay : ∀ (n : Nat) (x y : Lk), x.nm n → y.nm n → (lay n x y).nm n
  | 0, _, _, h, _ => h.elim
  | n + 1, .br k t a, y, hx, hy => hx
  | n + 1, .mk k h ls t, y, hx, hy => by
    have nb : (bothL (lay n) k h ls y).nm (n + 1) := by
      cases y with
      | br _ _ _ => trivial
      | mk k' g ms t' =>
        rw [both_mk]
        exact nmB_j (u := (h, ls)) (v := (g, ms)) (nm_lay n) hx hy
    cases t with
    | none =>
      show Lk.nm (n + 1) (match y.ask with | some _ => y | none => bothL (lay n) k h ls y)
      split
      · exact hy
      · exact nb
    | some t =>
      show Lk.nm (n + 1) (match y.ask with | none => Lk.mk k h ls (some t) | some g => if t.1.d.eqb g.1.d = true then bothL (lay n) k h ls y else .br k t g)
      split
      · exact hx
      · split
        · exact nb
        · trivial
theorem ty_mk {n : Nat} {a b : Kn} {k t : Option Gd} {h : Str} {ls : List Lk} (hx : Ty (n + 1) a (.mk k h ls t) b) : BdTy n (endK k a) (endK t b) h ls := hx.2.2
theorem ask_q {n : Nat} {b c : Kn} {y : Lk} {g : Gd} (hy : Ty (n + 1) b y c) (e : y.ask = some g) : b = qK := by
  cases y with
  | mk k' g' ms t' => cases (show k' = some g from e); exact hy.1.1
  | br k' t2 a2 => cases (show k' = some g from e); exact hy.1.1
theorem none_q {n : Nat} {c : Kn} {y : Lk} (hy : Ty (n + 1) qK y c) (e : y.ask = none) : y = stillL := by
  cases y with
  | mk k' g' ms t' => cases (show k' = none from e); exact (ty_q' hy).2
  | br k' t2 a2 => cases (show k' = none from e); exact absurd rfl (hy.2 rfl)
theorem lay_none {n : Nat} {k : Option Gd} {h : Str} {ls : List Lk} {y : Lk} (e : y.ask = none) : lay (n + 1) (.mk k h ls none) y = bothL (lay n) k h ls y := by
  show (match y.ask with | some _ => y | none => bothL (lay n) k h ls y) = _
  rw [e]
theorem lay_fit {n : Nat} {k : Option Gd} {h : Str} {ls : List Lk} {y : Lk} {t g : Gd} (e : y.ask = some g) (q : t.1.d.eqb g.1.d = true) : lay (n + 1) (.mk k h ls (some t)) y = bothL (lay n) k h ls y := by
  show (match y.ask with | none => Lk.mk k h ls (some t) | some g => if t.1.d.eqb g.1.d = true then bothL (lay n) k h ls y else .br k t g) = _
  rw [e]
  exact if_pos q
theorem lay_unfit {n : Nat} {k : Option Gd} {h : Str} {ls : List Lk} {y : Lk} {t g : Gd} (e : y.ask = some g) (q : t.1.d.eqb g.1.d ≠ true) : lay (n + 1) (.mk k h ls (some t)) y = .br k t g := by
  show (match y.ask with | none => Lk.mk k h ls (some t) | some g => if t.1.d.eqb g.1.d = true then bothL (lay n) k h ls y else .br k t g) = _
  rw [e]
  exact if_neg q
theorem both_ask (f : Lk → Lk → Lk) (k : Option Gd) (h : Str) (ls : List Lk) (y : Lk) : (bothL f k h ls y).ask = k := by
  cases y with
  | br _ _ _ => rfl
  | mk k' g ms t => rw [both_mk]; rfl
/-- what comes of a body laid with a look -/
theorem core {n : Nat} (ih : AssAt n) {A b c d : Kn} {a ky ty : Option Gd} {h g : Str} {ls ms : List Lk} {z : Lk} (hx : BdTy n A (endK ky b) h ls) (hy : Ty (n + 1) b (.mk ky g ms ty) c) (hz : Ty (n + 1) c z d) (nx : nmB n (h, ls)) (ny : nmB n (g, ms)) (nz : z.nm (n + 1)) (ns : Lk.mk ky g ms ty ≠ stillL) :
    lay (n + 1) (bothL (lay n) a h ls (.mk ky g ms ty)) z = bothL (lay n) a h ls (lay (n + 1) (.mk ky g ms ty) z) := by
  rw [both_mk]
  have body : ∀ M, BdTy n M (endK z.tag d) (match z with | .mk _ p _ _ => p | .br _ _ _ => "same") (match z with | .mk _ _ ns _ => ns | .br _ _ _ => []) ∨ (∃ k t a, z = .br k t a) → endK ty c = M → bothL (lay n) a (jB (lay n) (h, ls) (g, ms)).1 (jB (lay n) (h, ls) (g, ms)).2 z = bothL (lay n) a h ls (bothL (lay n) ky g ms z) := fun M hM eM => by
    cases z with
    | br k' t2 a2 => rfl
    | mk k' p qs t' =>
      rcases hM with hM | ⟨_, _, _, z⟩
      · have hy' := ty_mk hy
        rw [eM] at hy'
        rw [both_mk, both_mk, both_mk]
        have e := jB_assoc ih (u := (h, ls)) (v := (g, ms)) (w := (p, qs)) hx hy' hM nx ny nz
        have e' : jB (lay n) ((jB (lay n) (h, ls) (g, ms)).1, (jB (lay n) (h, ls) (g, ms)).2) (p, qs) = jB (lay n) (h, ls) ((jB (lay n) (g, ms) (p, qs)).1, (jB (lay n) (g, ms) (p, qs)).2) := e
        rw [e']
      · cases z
  cases ty with
  | none =>
    cases ez : z.ask with
    | some k =>
      have hc := ask_q hz ez
      rw [hc] at hy
      exact absurd (ty_q hy).2 ns
    | none =>
      rw [lay_none ez, lay_none ez]
      refine body c ?_ rfl
      cases z with
      | br k' t2 a2 => exact .inr ⟨_, _, _, rfl⟩
      | mk k' p qs t' => cases (show k' = none from ez); exact .inl hz.2.2
  | some t =>
    cases ez : z.ask with
    | none =>
      have hc : c = qK := hy.2.1.1
      rw [hc] at hz
      have e := none_q hz ez
      rw [e]
      rw [show lay (n + 1) (Lk.mk ky g ms (some t)) stillL = .mk ky g ms (some t) from rfl, both_mk]
      rfl
    | some k =>
      by_cases q : t.1.d.eqb k.1.d = true
      · rw [lay_fit ez q, lay_fit ez q]
        refine body k.1 ?_ (eqb_kn.mp q)
        cases z with
        | br k' t2 a2 => exact .inr ⟨_, _, _, rfl⟩
        | mk k' p qs t' => cases (show k' = some k from ez); exact .inl hz.2.2
      · rw [lay_unfit ez q, lay_unfit ez q]
        rfl
/-- the ask of a look that isn't still stands in front of what is laid behind it -/
theorem lay_ask {n : Nat} {b c d : Kn} {y z : Lk} (hy : Ty (n + 1) b y c) (hz : Ty (n + 1) c z d) (ns : y ≠ stillL) : (lay (n + 1) y z).ask = y.ask := by
  cases y with
  | br _ _ _ => rfl
  | mk k g ms t =>
    cases t with
    | none =>
      cases ez : z.ask with
      | some k' =>
        have hc := ask_q hz ez
        rw [hc] at hy
        exact absurd (ty_q hy).2 ns
      | none => rw [lay_none ez, both_ask]; rfl
    | some t =>
      cases ez : z.ask with
      | none =>
        show (match z.ask with | none => Lk.mk k g ms (some t) | some g' => if t.1.d.eqb g'.1.d = true then bothL (lay n) k g ms z else .br k t g').ask = _
        rw [ez]
      | some k' =>
        by_cases q : t.1.d.eqb k'.1.d = true
        · rw [lay_fit ez q, both_ask]; rfl
        · rw [lay_unfit ez q]; rfl
theorem lay_assoc : ∀ (n : Nat), AssAt n
  | 0, _, _, _, _, _, _, _, h, _, _, _, _, _ => h.elim
  | n + 1, a, b, c, d, x, y, z, hx, hy, hz, nx, ny, nz => by
    by_cases sx : x = stillL
    · rw [sx, lay_still_l, lay_still_l]
    by_cases sy : y = stillL
    · rw [sy, lay_still_l, nm_r nx]
    cases x with
    | br _ _ _ => rfl
    | mk k h ls t =>
      have la := lay_ask hy hz sy
      cases t with
      | none =>
        cases ey : y.ask with
        | some g =>
          have hb := ask_q hy ey
          rw [hb] at hx
          exact absurd (ty_q hx).2 sx
        | none =>
          rw [lay_none ey, lay_none (la.trans ey)]
          cases y with
          | br k' t2 a2 => rfl
          | mk ky g ms ty =>
            cases (show ky = none from ey)
            exact core (lay_assoc n) (A := endK k a) hx.2.2 hy hz nx ny nz sy
      | some t =>
        have hb : b = qK := hx.2.1.1
        cases ey : y.ask with
        | none =>
          rw [hb] at hy
          exact absurd (none_q hy ey) sy
        | some g =>
          by_cases q : t.1.d.eqb g.1.d = true
          · rw [lay_fit ey q, lay_fit (la.trans ey) q]
            cases y with
            | br k' t2 a2 => rfl
            | mk ky g' ms ty =>
              cases (show ky = some g from ey)
              have e : t.1 = g.1 := eqb_kn.mp q
              exact core (lay_assoc n) (A := endK k a) (by have := ty_mk hx; rw [show endK (some t) b = endK (some g) b from e] at this; exact this) hy hz nx ny nz sy
          · rw [lay_unfit ey q, lay_unfit (la.trans ey) q]
            rfl
end L2.Bk

end
section
set_option Elab.async false
set_option linter.all false
set_option maxRecDepth 100000
/-! A chain of looks told flat, and laid in whatever order. -/
namespace L2.Bk
open PySem PySem.Spec PyProof.Rows L2.Bw
theorem ty_pos' {n : Nat} {a b : Kn} {x : Lk} (h : Ty n a x b) : 1 ≤ n := by
  obtain ⟨m, rfl⟩ := ty_pos h
  omega
theorem nm_still (n : Nat) : stillL.nm (n + 1) := ⟨(fun x hx => nomatch hx), (fun _ => rfl), fun z => absurd rfl z⟩
theorem nm_Fl {n : Nat} (hn : 1 ≤ n) (xs : List Lk) : (∀ x ∈ xs, x.nm n) → (Fl n xs).nm n := by
  refine snocI (p := fun xs => (∀ x ∈ xs, x.nm n) → (Fl n xs).nm n) (fun _ => ?_) (fun xs x ih hx => ?_) xs
  · obtain ⟨m, rfl⟩ : ∃ m, n = m + 1 := ⟨n - 1, by omega⟩
    exact nm_still m
  · rw [Fl_snoc]
    exact nm_lay n _ _ (ih fun y hy => hx y (List.mem_append_left _ hy)) (hx x (List.mem_append_right _ List.mem_cons_self))
theorem tyL_app {n : Nat} : ∀ {xs ys : List Lk} {a c : Kn}, TyL n a (xs ++ ys) c ↔ ∃ b, TyL n a xs b ∧ TyL n b ys c
  | [], ys, a, c => ⟨fun h => ⟨a, rfl, h⟩, fun ⟨b, e, h⟩ => by cases (show a = b from e); exact h⟩
  | x :: xs, ys, a, c => by
    constructor
    · rintro ⟨b, h1, h2⟩
      obtain ⟨d, h3, h4⟩ := tyL_app.mp h2
      exact ⟨d, ⟨b, h1, h3⟩, h4⟩
    · rintro ⟨d, ⟨b, h1, h3⟩, h4⟩
      exact ⟨b, h1, tyL_app.mpr ⟨d, h3, h4⟩⟩
/-- one look in front of a chain -/
theorem Fl_cons {n : Nat} {x : Lk} {a b : Kn} (hx : Ty n a x b) (nx : x.nm n) (xs : List Lk) : ∀ {c : Kn}, TyL n b xs c → (∀ y ∈ xs, y.nm n) → Fl n (x :: xs) = lay n x (Fl n xs) := by
  obtain ⟨m, rfl⟩ := ty_pos hx
  refine snocI (p := fun xs => ∀ {c : Kn}, TyL (m + 1) b xs c → (∀ y ∈ xs, y.nm (m + 1)) → Fl (m + 1) (x :: xs) = lay (m + 1) x (Fl (m + 1) xs)) (fun {c} _ _ => ?_) (fun xs y ih {c} h hn => ?_) xs
  · show lay (m + 1) stillL x = lay (m + 1) x stillL
    rw [lay_still_l, nm_r nx]
  · obtain ⟨d, h1, h2⟩ := tyL_snoc.mp h
    have n1 : ∀ z ∈ xs, z.nm (m + 1) := fun z hz => hn z (List.mem_append_left _ hz)
    have e : Fl (m + 1) (x :: (xs ++ [y])) = lay (m + 1) (Fl (m + 1) (x :: xs)) y := by rw [← List.cons_append, Fl_snoc]
    rw [e, ih h1 n1, Fl_snoc]
    exact lay_assoc (m + 1) hx (ty_Fl xs h1) h2 nx (nm_Fl (by omega) xs n1) (hn y (List.mem_append_right _ List.mem_cons_self))
/-- two neighbours laid -/
theorem Fl_two {n : Nat} {a b c d : Kn} {x y : Lk} {xs : List Lk} (hxs : TyL (n + 1) a xs b) (hx : Ty (n + 1) b x c) (hy : Ty (n + 1) c y d) (n1 : ∀ z ∈ xs, z.nm (n + 1)) (nx : x.nm (n + 1)) (ny : y.nm (n + 1)) (ys : List Lk) : Fl (n + 1) (xs ++ lay (n + 1) x y :: ys) = Fl (n + 1) (xs ++ x :: y :: ys) := by
  unfold Fl
  rw [List.foldl_append, List.foldl_append, List.foldl_cons, List.foldl_cons, List.foldl_cons]
  have e := lay_assoc (n + 1) (ty_Fl xs hxs) hx hy (nm_Fl (by omega) xs n1) nx ny
  unfold Fl at e
  rw [e]
/-! ### told flat -/
def FoldB (n : Nat) (gs : List Bd) : Bd := gs.foldl (jB (lay n)) ("same", [])
theorem FoldB_snoc (n : Nat) (gs : List Bd) (g : Bd) : FoldB n (gs ++ [g]) = jB (lay n) (FoldB n gs) g := by unfold FoldB; rw [List.foldl_append]; rfl
inductive Fs where
  | off (k : Option Gd) (t a : Gd)
  | on (first tag : Option Gd) (gs : List Bd)
def flS (first tag : Option Gd) (gs : List Bd) : List Lk → Fs
  | [] => .on first tag gs
  | .br none _ _ :: r => flS first tag gs r
  | .br (some _) _ _ :: r => flS first tag gs r
  | .mk none h ls t :: r => flS first (orT t tag) (addB gs h ls) r
  | .mk (some k) h ls t :: r => match tag with
    | none => flS (some k) t (addB gs h ls) r
    | some t0 => if t0.1.d.eqb k.1.d = true then flS first t (addB gs h ls) r else .off first t0 k
def Fs.then (s : Fs) (x : Lk) : Fs := match s with | .off k t a => .off k t a | .on f t g => flS f t g [x]
theorem flS_snoc : ∀ (xs : List Lk) (x : Lk) (first tag : Option Gd) (gs : List Bd), flS first tag gs (xs ++ [x]) = (flS first tag gs xs).then x
  | [], x, first, tag, gs => rfl
  | .br none _ _ :: r, x, first, tag, gs => flS_snoc r x first tag gs
  | .br (some _) _ _ :: r, x, first, tag, gs => flS_snoc r x first tag gs
  | .mk none h ls t :: r, x, first, tag, gs => flS_snoc r x first (orT t tag) (addB gs h ls)
  | .mk (some k) h ls t :: r, x, first, none, gs => flS_snoc r x (some k) t (addB gs h ls)
  | .mk (some k) h ls t :: r, x, first, some t0, gs => by
    show (if t0.1.d.eqb k.1.d = true then flS first t (addB gs h ls) (r ++ [x]) else Fs.off first t0 k) = (if t0.1.d.eqb k.1.d = true then flS first t (addB gs h ls) r else Fs.off first t0 k).then x
    split
    · exact flS_snoc r x first t (addB gs h ls)
    · rfl
/-- a chain of bodies, from a told kind to another -/
def BTyL (n : Nat) : Kn → List Bd → Kn → Prop
  | A, [], B => A = B
  | A, g :: r, C => ∃ B, BdTy n A B g.1 g.2 ∧ g.1 ≠ "same" ∧ BTyL n B r C
theorem bTyL_snoc {n : Nat} : ∀ {gs : List Bd} {g : Bd} {A C : Kn}, BTyL n A gs C → ∀ {D}, BdTy n C D g.1 g.2 → g.1 ≠ "same" → BTyL n A (gs ++ [g]) D
  | [], g, A, C, h, D, h2, h3 => ⟨D, by rw [show A = C from h]; exact h2, h3, rfl⟩
  | x :: r, g, A, C, ⟨B, h1, h1', h⟩, D, h2, h3 => ⟨B, h1, h1', bTyL_snoc h h2 h3⟩
theorem bTyL_q {n : Nat} : ∀ {gs : List Bd} {A : Kn}, BTyL n A gs qK → gs = []
  | [], A, _ => rfl
  | g :: r, A, ⟨B, h1, h1', h⟩ => by
    have e := bTyL_q h
    subst e
    have eB : B = qK := h
    subst eB
    rcases h1 with ⟨e, _⟩ | ⟨e1, e2, _, _, _, e6, _⟩
    · exact absurd e h1'
    · exact absurd (e1.trans e2) e6
def pureB (n : Nat) (g : Bd) : Prop := (∀ x ∈ g.2, Lk.pure n x) ∧ (g.1 ≠ "same" → g.2.all Lk.still ≠ true)
theorem FoldB_add {n : Nat} {gs : List Bd} {h : Str} {ls : List Lk} (e : h = "same" → ls = []) (hf : (FoldB n gs).1 = "same" → (FoldB n gs).2 = []) : FoldB n (addB gs h ls) = jB (lay n) (FoldB n gs) (h, ls) := by
  unfold addB
  by_cases c : h = "same"
  · rw [if_pos c]
    unfold jB
    by_cases c2 : (FoldB n gs).1 = "same"
    · rw [if_pos c2, e c, c, ← c2, ← hf c2]
    · rw [if_neg c2, if_pos c]
  · rw [if_neg c, FoldB_snoc]
/-- what the walk through a chain comes to -/
theorem flat_main (n : Nat) (xs : List Lk) : ∀ {a b : Kn}, TyL (n + 1) a xs b → (∀ x ∈ xs, x.pure (n + 1)) →
    (∃ k t a, Fl (n + 1) xs = .br k t a ∧ flS none none [] xs = .off k t a) ∨ (∃ k tag gs, Fl (n + 1) xs = .mk k (FoldB n gs).1 (FoldB n gs).2 tag ∧ flS none none [] xs = .on k tag gs ∧ (∃ A, BTyL n A gs (endK tag b)) ∧ ∀ g ∈ gs, pureB n g) := by
  refine snocI (p := fun xs => ∀ {a b : Kn}, TyL (n + 1) a xs b → (∀ x ∈ xs, x.pure (n + 1)) → (∃ k t a, Fl (n + 1) xs = .br k t a ∧ flS none none [] xs = .off k t a) ∨ (∃ k tag gs, Fl (n + 1) xs = .mk k (FoldB n gs).1 (FoldB n gs).2 tag ∧ flS none none [] xs = .on k tag gs ∧ (∃ A, BTyL n A gs (endK tag b)) ∧ ∀ g ∈ gs, pureB n g)) (fun {a b} hT hp => ?_) (fun xs x ih {a c} hT hp => ?_) xs
  · exact .inr ⟨none, none, [], rfl, rfl, ⟨b, rfl⟩, (fun g hg => nomatch hg)⟩
  · obtain ⟨b, h1, h2⟩ := tyL_snoc.mp hT
    have px := hp x (List.mem_append_right _ List.mem_cons_self)
    rw [Fl_snoc, flS_snoc]
    have p1 : ∀ y ∈ xs, y.pure (n + 1) := fun y hy => hp y (List.mem_append_left _ hy)
    rcases ih h1 p1 with ⟨k, t, a', e1, e2⟩ | ⟨k0, tag, gs, e1, e2, ⟨A, hB⟩, pg⟩
    · left
      rw [e1, e2]
      exact ⟨k, t, a', rfl, rfl⟩
    · have tF := ty_Fl xs h1
      have nF := nm_Fl (n := n + 1) (by omega) xs (fun y hy => pure_nm (p1 y hy))
      rw [e1] at tF nF ⊢
      rw [e2]
      cases x with
      | br k t2 a2 => exact px.elim
      | mk k g ms t =>
        have pX : pureB n (g, ms) := ⟨px.2.1, px.2.2⟩
        have em : g = "same" → ms = [] := px.1.2.2.2.2.1
        have fa := FoldB_add (n := n) (gs := gs) em nF.2.1
        have pg' : ∀ y ∈ addB gs g ms, pureB n y := fun y hy => by
          unfold addB at hy
          split at hy
          · exact pg y hy
          · rcases List.mem_append.mp hy with h | h
            · exact pg y h
            · rw [List.mem_singleton.mp h]; exact pX
        have bodies : ∀ M, endK tag b = M → BdTy n M (endK t c) g ms → ∃ A, BTyL n A (addB gs g ms) (endK t c) := fun M eM hM => by
          unfold addB
          by_cases c1 : g = "same"
          · rw [if_pos c1]
            rcases hM with ⟨_, _, e⟩ | ⟨_, _, h3, _⟩
            · exact ⟨A, by rw [← e, ← eM]; exact hB⟩
            · rw [c1] at h3
              exact absurd h3 (by rw [show arity "same" = none by decide +kernel]; exact fun z => nomatch z)
          · rw [if_neg c1]
            exact ⟨A, bTyL_snoc hB (by rw [eM]; exact hM) c1⟩
        cases k with
        | some g0 =>
          have hb : b = qK := h2.1.1
          cases tag with
          | none =>
            right
            have es := (by rw [hb] at tF; exact (ty_q tF).2 : Lk.mk k0 (FoldB n gs).1 (FoldB n gs).2 none = stillL)
            rw [show endK none b = b from rfl, hb] at hB
            have eg := bTyL_q hB
            subst eg
            refine ⟨some g0, t, addB [] g ms, ?_, rfl, ?_, pg'⟩
            · rw [es, lay_still_l, fa]
              rfl
            · have hM : BdTy n g0.1 (endK t c) g ms := h2.2.2
              unfold addB
              by_cases c1 : g = "same"
              · rw [if_pos c1]
                exact ⟨endK t c, rfl⟩
              · rw [if_neg c1]
                exact ⟨g0.1, _, hM, c1, rfl⟩
          | some t0 =>
            by_cases q : t0.1.d.eqb g0.1.d = true
            · right
              refine ⟨k0, t, addB gs g ms, ?_, if_pos q, bodies g0.1 (eqb_kn.mp q) h2.2.2, pg'⟩
              rw [lay_fit (y := .mk (some g0) g ms t) rfl q, both_mk, fa]
            · left
              exact ⟨k0, t0, g0, lay_unfit (y := .mk (some g0) g ms t) rfl q, if_neg q⟩
        | none =>
          right
          cases tag with
          | some t0 =>
            have hb : b = qK := tF.2.1.1
            rw [hb] at h2
            obtain ⟨hc, hs⟩ := ty_q' h2
            refine ⟨k0, some t0, gs, ?_, ?_, ⟨A, hB⟩, pg⟩
            · rw [hs]; rfl
            · injection hs with z1 z2 z3 z4
              rw [z2, z4]
              rfl
          | none =>
            refine ⟨k0, t, addB gs g ms, ?_, ?_, bodies b rfl h2.2.2, pg'⟩
            · rw [lay_none (y := .mk none g ms t) rfl, both_mk, fa]
            · show Fs.on k0 (orT t none) (addB gs g ms) = _
              cases t <;> rfl
theorem bTyL_last {n : Nat} : ∀ {gs : List Bd} {g : Bd} {A D : Kn}, BTyL n A (gs ++ [g]) D → ∃ C, BTyL n A gs C ∧ BdTy n C D g.1 g.2 ∧ g.1 ≠ "same"
  | [], g, A, D, ⟨B, h1, h2, h3⟩ => ⟨A, rfl, by rw [← (show B = D from h3)]; exact h1, h2⟩
  | x :: r, g, A, D, ⟨B, h1, h2, h3⟩ => by
    obtain ⟨C, k1, k2, k3⟩ := bTyL_last h3
    exact ⟨C, ⟨B, h1, h2, k1⟩, k2, k3⟩
/-- the looks of a part, those of an argument from the last one on -/
def colD (h : Str) (gs : List Bd) (i : Nat) : List Lk := if (stepsOf h)[i]? = some ("arg" : Str) then (colB i gs).reverse else colB i gs
def colsF (n : Nat) (h : Str) (m : Nat) (gs : List Bd) : List Lk := (List.range m).map fun i => Fl n (colD h gs i)
theorem colsF_len (n : Nat) (h : Str) (m : Nat) (gs : List Bd) : (colsF n h m gs).length = m := by unfold colsF; rw [List.length_map, List.length_range]
theorem colsF_get (n : Nat) (h : Str) (m : Nat) (gs : List Bd) (i : Nat) (hi : i < (colsF n h m gs).length) : (colsF n h m gs)[i] = Fl n (colD h gs i) := by
  have hm : i < m := by rw [colsF_len] at hi; exact hi
  have e : (colsF n h m gs)[i]? = some (Fl n (colD h gs i)) := by
    unfold colsF
    rw [List.getElem?_map, List.getElem?_range hm]
    rfl
  rw [List.getElem?_eq_getElem hi] at e
  exact Option.some.inj e
theorem colB_snoc (i : Nat) (gs : List Bd) (g : Bd) (hi : i < g.2.length) : colB i (gs ++ [g]) = colB i gs ++ [g.2[i]] := by
  unfold colB
  rw [List.map_append, List.map_cons, List.map_nil, List.getElem?_eq_getElem hi]
  rfl
structure CG (n : Nat) (A C : Kn) (h : Str) (m : Nat) (gs : List Bd) : Prop where
  ar : arity h = some m
  ns : h ≠ "same"
  hd : ∀ g ∈ gs, g.1 = h ∧ g.2.length = m
  hA : A.h = h ∧ A.ks.length = m
  hC : C.h = h ∧ C.ks.length = m
  ty : ∀ i (h1 : i < A.ks.length) (h2 : i < C.ks.length), if (stepsOf h)[i]? = some ("arg" : Str) then TyL n C.ks[i] (colD h gs i) A.ks[i] else TyL n A.ks[i] (colD h gs i) C.ks[i]
  pu : ∀ i < m, ∀ x ∈ colD h gs i, Lk.pure n x
theorem CG.tyEx {n : Nat} {A C : Kn} {h : Str} {m : Nat} {gs : List Bd} (c : CG n A C h m gs) {i : Nat} (hi : i < m) : ∃ P Q, TyL n P (colD h gs i) Q := by
  have := c.ty i (by rw [c.hA.2]; exact hi) (by rw [c.hC.2]; exact hi)
  split at this
  · exact ⟨_, _, this⟩
  · exact ⟨_, _, this⟩
theorem fold_cols {n : Nat} (gs : List Bd) : ∀ {A C : Kn}, BTyL n A gs C → (∀ g ∈ gs, pureB n g) → gs ≠ [] → ∃ h m, CG n A C h m gs ∧ FoldB n gs = (wrapH h (colsF n h m gs), wrapL (colsF n h m gs)) := by
  refine snocI (p := fun gs => ∀ {A C : Kn}, BTyL n A gs C → (∀ g ∈ gs, pureB n g) → gs ≠ [] → ∃ h m, CG n A C h m gs ∧ FoldB n gs = (wrapH h (colsF n h m gs), wrapL (colsF n h m gs))) (fun {A C} _ _ z => absurd rfl z) (fun gs g ih {A D} hT hp _ => ?_) gs
  obtain ⟨C, h1, h2, h3⟩ := bTyL_last hT
  have pg := hp g (List.mem_append_right _ List.mem_cons_self)
  rcases h2 with ⟨e, _⟩ | ⟨g1, g2, g3, g4, g5, g6, g7⟩
  · exact absurd e h3
  have sl := steps_len g3
  have l1 := Option.some.inj (g3.symm.trans g4)
  have l2 := Option.some.inj (g3.symm.trans g5)
  have still1 : ∀ x ∈ g.2, lay n stillL x = x ∧ lay n x stillL = x := fun x hx => ⟨nm_l (pure_nm (pg.1 x hx)), nm_r (pure_nm (pg.1 x hx))⟩
  have wn : ∀ (h : Str) (xs : List Lk), xs.all Lk.still ≠ true → (wrapH h xs, wrapL xs) = ((h, xs) : Bd) := fun h xs s => by unfold wrapH wrapL; rw [if_neg s, if_neg s]
  have wp : ∀ (h : Str) (xs : List Lk), xs.all Lk.still = true → (wrapH h xs, wrapL xs) = (("same", []) : Bd) := fun h xs s => by unfold wrapH wrapL; rw [if_pos s, if_pos s]
  have gsome : ∀ i (h0 : i < (stepsOf g.1).length), ((stepsOf g.1)[i]? = some ("arg" : Str) ↔ (stepsOf g.1)[i] = "arg") := fun i h0 => by
    rw [List.getElem?_eq_getElem h0]
    exact ⟨fun z => Option.some.inj z, fun z => congrArg some z⟩
  have gd : ∀ i (hi : i < g.2.length), colD g.1 (gs ++ [g]) i = if (stepsOf g.1)[i]? = some ("arg" : Str) then g.2[i] :: colD g.1 gs i else colD g.1 gs i ++ [g.2[i]] := fun i hi => by
    unfold colD
    rw [colB_snoc i gs g hi]
    split
    · rw [List.reverse_append]; rfl
    · rfl
  rw [FoldB_snoc]
  by_cases ge : gs = []
  · subst ge
    have eA : A = C := h1
    subst eA
    refine ⟨g.1, g.2.length, ⟨g3, h3, ?_, ⟨g1.symm, l1.symm⟩, ⟨(g1.trans g2).symm, l2.symm⟩, ?_, ?_⟩, ?_⟩
    · intro x hx
      rw [List.mem_singleton.mp hx]
      exact ⟨rfl, rfl⟩
    · intro i i1 i2
      have i0 : i < g.2.length := by omega
      have t := g7 i (by omega) i0 i1 i2
      rw [gd i i0]
      by_cases c : (stepsOf g.1)[i]? = some ("arg" : Str)
      · rw [if_pos ((gsome i (by omega)).mp c)] at t
        rw [if_pos c, if_pos c]
        have e0 : colD g.1 [] i = [] := by unfold colD; rw [if_pos c]; rfl
        rw [e0]
        exact ⟨_, t, rfl⟩
      · rw [if_neg (fun z => c ((gsome i (by omega)).mpr z))] at t
        rw [if_neg c, if_neg c]
        have e0 : colD g.1 [] i = [] := by unfold colD; rw [if_neg c]; rfl
        rw [e0]
        exact ⟨_, t, rfl⟩
    · intro i hi x hx
      rw [gd i hi] at hx
      have e0 : colD g.1 [] i = [] := by unfold colD; split <;> rfl
      rw [e0] at hx
      have hx' : x ∈ [g.2[i]] := by split at hx <;> exact hx
      rw [List.mem_singleton.mp hx']
      exact pg.1 _ (List.getElem_mem _)
    · have ec : colsF n g.1 g.2.length ([] ++ [g]) = g.2 := by
        refine ext_lk (colsF_len _ _ _ _) fun i i1 i2 => ?_
        rw [colsF_get, gd i i2]
        have e0 : colD g.1 [] i = [] := by unfold colD; split <;> rfl
        rw [e0]
        have : Fl n [g.2[i]] = g.2[i] := (still1 _ (List.getElem_mem i2)).1
        split <;> exact this
      rw [ec, wn _ _ (pg.2 h3)]
      show jB (lay n) ("same", []) g = _
      unfold jB
      rw [if_pos rfl]
  · obtain ⟨h, m, cg, ef⟩ := ih h1 (fun x hx => hp x (List.mem_append_left _ hx)) ge
    have eh : h = g.1 := by rw [← cg.hC.1, ← g1]
    subst eh
    have em : m = g.2.length := Option.some.inj (cg.ar.symm.trans g3)
    subst em
    have la := cg.hA.2
    have nmI : ∀ i < g.2.length, ∀ y ∈ colD g.1 gs i, y.nm n := fun i hi y hy => pure_nm (cg.pu i hi y hy)
    refine ⟨g.1, g.2.length, ⟨g3, h3, ?_, cg.hA, ⟨(g1.trans g2).symm, l2.symm⟩, ?_, ?_⟩, ?_⟩
    · intro x hx
      rcases List.mem_append.mp hx with z | z
      · exact cg.hd x z
      · rw [List.mem_singleton.mp z]; exact ⟨rfl, rfl⟩
    · intro i i1 i2
      have i0 : i < g.2.length := by omega
      have t := g7 i (by omega) i0 (by omega) i2
      have t0 := cg.ty i i1 (by omega)
      rw [gd i i0]
      by_cases c : (stepsOf g.1)[i]? = some ("arg" : Str)
      · rw [if_pos ((gsome i (by omega)).mp c)] at t
        rw [if_pos c] at t0
        rw [if_pos c, if_pos c]
        exact ⟨_, t, t0⟩
      · rw [if_neg (fun z => c ((gsome i (by omega)).mpr z))] at t
        rw [if_neg c] at t0
        rw [if_neg c, if_neg c]
        exact tyL_snoc.mpr ⟨_, t0, t⟩
    · intro i hi x hx
      rw [gd i hi] at hx
      have hx' : x ∈ colD g.1 gs i ∨ x = g.2[i] := by
        split at hx
        · rcases List.mem_cons.mp hx with z | z
          · exact .inr z
          · exact .inl z
        · rcases List.mem_append.mp hx with z | z
          · exact .inl z
          · exact .inr (List.mem_singleton.mp z)
      rcases hx' with z | z
      · exact cg.pu i hi x z
      · rw [z]; exact pg.1 _ (List.getElem_mem _)
    · have cl := colsF_len n g.1 g.2.length gs
      have ec : colsF n g.1 g.2.length (gs ++ [g]) = lays (lay n) (stepsOf g.1) (colsF n g.1 g.2.length gs) g.2 := by
        have ll := lays_length (lay n) (stepsOf g.1) (colsF n g.1 g.2.length gs) g.2
        refine ext_lk (by rw [colsF_len, ll]; omega) fun i i1 i2 => ?_
        have i0 : i < g.2.length := by rw [colsF_len] at i1; exact i1
        have gl := lays_get (f := lay n) (ss := stepsOf g.1) (xs := colsF n g.1 g.2.length gs) (ys := g.2) (i := i) (by omega) (by omega) i0
        rw [List.getElem?_eq_getElem i2] at gl
        rw [Option.some.inj gl, colsF_get, colsF_get, gd i i0]
        have t := g7 i (by omega) i0 (by omega) (by omega)
        have t0 := cg.ty i (by omega) (by omega)
        by_cases c : (stepsOf g.1)[i]? = some ("arg" : Str)
        · have c' := (gsome i (by omega)).mp c
          rw [if_pos c'] at t
          rw [if_pos c] at t0
          rw [if_pos c, if_pos c']
          exact Fl_cons t (pure_nm (pg.1 _ (List.getElem_mem i0))) _ t0 (nmI i i0)
        · have c' : ¬ ((stepsOf g.1)[i] = "arg") := fun z => c ((gsome i (by omega)).mpr z)
          rw [if_neg c, if_neg c']
          exact Fl_snoc n _ _
      rw [ef, ec]
      have h3' := h3
      by_cases s : (colsF n g.1 g.2.length gs).all Lk.still = true
      · rw [wp _ _ s]
        have e : lays (lay n) (stepsOf g.1) (colsF n g.1 g.2.length gs) g.2 = g.2 := by
          have ll := lays_length (lay n) (stepsOf g.1) (colsF n g.1 g.2.length gs) g.2
          refine ext_lk (by omega) fun i i1 i2 => ?_
          have gl := lays_get (f := lay n) (ss := stepsOf g.1) (xs := colsF n g.1 g.2.length gs) (ys := g.2) (i := i) (by omega) (by omega) i2
          rw [List.getElem?_eq_getElem i1] at gl
          rw [Option.some.inj gl, all_still s (by omega)]
          have := still1 _ (List.getElem_mem i2)
          split
          · exact this.2
          · exact this.1
        rw [e, wn _ _ (pg.2 h3)]
        show jB (lay n) ("same", []) g = _
        unfold jB
        rw [if_pos rfl]
      · rw [wn _ _ s]
        show jB (lay n) (g.1, colsF n g.1 g.2.length gs) g = _
        unfold jB
        rw [if_neg h3, if_neg h3]
end L2.Bk

end
section
set_option Elab.async false
set_option linter.all false
set_option maxRecDepth 100000
set_option maxHeartbeats 8000000
namespace L2.K55
open PySem PySem.Spec PyProof.Rows L2.Bw L2.Bk
def top (i : Nat) : Stmt := PySem.Challenge.pw_blamewise_k55_whole_many_laid.main.body.getD i (.Pass ⟨0, 0, 0, 0⟩)
structure Tx (mg : Str → Option Value) : Prop where
  len : mg "len" = none
  isinstance : mg "isinstance" = none
  list : mg "list" = none
  tuple : mg "tuple" = none
  int : mg "int" = none
  bool : mg "bool" = none
  str : mg "str" = none
  range : mg "range" = none
  zip : mg "zip" = none
  all : mg "all" = none
  reversed : mg "reversed" = none
  abs : mg "abs" = none
section
variable {P : Program} {w : World} {K : PySem.W.Frag} {mg : Str → Option Value} {base : Heap} {f : Addr} {fd : FuncData}
/-! ### cell_at -/
abbrev sCell : Stmt := top 26
theorem scCell : FnScope ["_law_script", "_law_k"] ["_law_script", "_law_k"] (defScope sCell) := ⟨rfl, rfl, rfl, by decide +kernel, rfl, by decide +kernel, by decide +kernel⟩
/-! ### kinds_in -/
abbrev sKi : Stmt := top 4
def spKi (K : PySem.W.Frag) : Sp := fun vs H Q _ => ∃ (v : V) (h : Str) (ds : List Dk), vs = [v] ∧ RK K H (.tup (.str h :: ds)) v ∧
  ∀ (r : Addr) (us : List V) (H' : Hp), Old H H' → H r = none → H' r = some (.lst us) → RKs K H' ds us → Q (.ref r) H'
theorem scKi : FnScope ["kind"] ["kind"] (defScope sKi) := ⟨rfl, rfl, rfl, by decide +kernel, rfl, by decide +kernel, by decide +kernel⟩
theorem ok_ki {n : Nat} (F : Fun K "kinds_in" "kinds_in" sKi f fd) (T : Tx mg) : FnOk P w K mg base CX0 (n + 1) f fd ["kind"] (spKi K) := by
  refine F.ok scKi (fun vs H Q E h => ?_) (fun cdv A outer s H vs Q E hr h => ?_)
  · obtain ⟨v, h, ds, rfl, _⟩ := h
    rfl
  obtain ⟨v, h, ds, rfl, rv, q⟩ := h
  obtain ⟨a, us, rfl, ha, ru⟩ := RK.kind rv
  refine' ⟨_, ?n0, ?Z⟩
  case' n0 => refine' pss_one ?n1
  case' n1 => refine' ps_ret ?n2
  case' n2 => refine' pe_callTy (call_list_of) rfl T.list boot_list ?n3
  case' n3 => refine' pa ?n4 ?n5
  case' n4 => refine' pe_slice sl_k ?n6 ?n7 po_none
  case n6 => exact pv 0
  case' n7 => refine' po_some ?n8
  case n8 => exact pe_int
  case n5 => exact pa_nil
  refine ⟨_, rfl, _, rfl, sl_tail ha.sq fun p hp => ?_⟩
  have o1 : Old H (upd H p (.tup us)) := Old.new hp
  refine ⟨p, us, rfl, .inr (SqT.of upd_same), fun l hl => ?_⟩
  have o2 : Old (upd H p (.tup us)) (upd (upd H p (.tup us)) l (.lst us)) := Old.new hl
  exact q l us _ (o1.trans o2) (o1.free hl) upd_same (ru.mono (o1.trans o2).tm)
/-! ### with_kinds -/
abbrev sWk : Stmt := top 5
def spWk (K : PySem.W.Frag) : Sp := fun vs H Q _ => ∃ (v : V) (c : Addr) (h : Str) (ds es : List Dk) (ws : List V), vs = [v, .ref c] ∧ RK K H (.tup (.str h :: ds)) v ∧ H c = some (.lst ws) ∧ RKs K H es ws ∧ es.length ≤ 900 ∧
  ∀ (v' : V) (H' : Hp), Old H H' → RK K H' (.tup (.str h :: es)) v' → Q v' H'
theorem scWk : FnScope ["kind", "some"] ["kind", "some"] (defScope sWk) := ⟨rfl, rfl, rfl, by decide +kernel, rfl, by decide +kernel, by decide +kernel⟩
theorem ok_wk {n : Nat} (F : Fun K "with_kinds" "with_kinds" sWk f fd) (T : Tx mg) : FnOk P w K mg base CX0 (n + 1) f fd ["kind", "some"] (spWk K) := by
  refine F.ok scWk (fun vs H Q E h => ?_) (fun cdv A outer s H vs Q E hr h => ?_)
  · obtain ⟨v, c, h, ds, es, ws, rfl, _⟩ := h
    rfl
  obtain ⟨v, c, h, ds, es, ws, rfl, rv, hc, rs, hz, q⟩ := h
  obtain ⟨a, us, rfl, ha, ru⟩ := RK.kind rv
  have ls := rs.length
  refine' ⟨_, ?n0, ?Z⟩
  case' n0 => refine' pss_one ?n1
  case' n1 => refine' ps_ret ?n2
  case' n2 => refine' pe_op op_addG ?n3 ?n4
  case' n3 => refine' pe_tup ?n5
  case' n5 => refine' pa ?n6 ?n7
  case' n6 => refine' pe_ix ix_seq ?n8 ?n9 (fun _ _ => rfl)
  case n8 => exact pv 0
  case n9 => exact pe_int
  case n7 => exact pa_nil
  case' n4 => refine' pe_callTy (call_tuple_of) rfl T.tuple boot_tuple ?n10
  case' n10 => refine' pa ?n11 ?n12
  case n11 => exact pv 1
  case n12 => exact pa_nil
  refine ⟨_, rfl, .inr (.inl ⟨a, _, 0, .str h, rfl, rfl, ha.sq, (by exact atI_nat (j := 0) rfl), by show 1 ≤ sizeLine; decide, fun p hp => ?_⟩)⟩
  have o1 : Old H (upd H p (.tup [.str h])) := Old.new hp
  refine ⟨_, rfl, c, ws, rfl, .inl ⟨SqL.of (o1 _ _ hc), fun p2 hp2 => ?_⟩⟩
  have o2 : Old (upd H p (.tup [.str h])) (upd (upd H p (.tup [.str h])) p2 (.tup ws)) := Old.new hp2
  refine .inr (addT (cat_k (ds := [.str h]) (es := es) (.of (o2 _ _ upd_same)) (.of upd_same) (.cons (.s _) .nil) (rs.mono (o1.trans o2).tm) (by simp) (by simp; omega) fun c' H' o3 r3 => ?_))
  exact q _ _ ((o1.trans o2).trans o3) r3
/-! ### steps -/
abbrev sSteps : Stmt := top 3
def spSteps (K : PySem.W.Frag) : Sp := fun vs H Q _ => ∃ (v : V) (h : Str) (n : Nat) (ds : List Dk), vs = [v] ∧ RK K H (.tup (.str h :: ds)) v ∧ arity h = some n ∧ ∀ c, SqT K H c ((stepsOf h).map V.str) → (∀ H', Old H H' → SqT K H' c ((stepsOf h).map V.str)) → Q (.ref c) H
theorem scSteps : FnScope ["kind"] ["kind"] (defScope sSteps) := ⟨rfl, rfl, rfl, by decide +kernel, rfl, by decide +kernel, by decide +kernel⟩
theorem seqT_old {H H' : Hp} {c : Addr} {xs : List V} (h : SqT K H c xs) (o : Old H H') : SqT K H' c xs := by
  rcases h with (h | ⟨o', h⟩) | h
  · exact .inl (.inl (o _ _ h))
  · exact .inl (.inr ⟨o', o _ _ h⟩)
  · exact .inr h
theorem ok_steps {m : Nat} {fa : Addr} (F : Fun K "steps" "steps" sSteps f fd) (m_STEPS : mg "STEPS" = some (.ref fa)) (k_STEPS : KTD.tabLook (lookT K) (fun b => K.lookup b) fa stepTab = true) : FnOk P w K mg base CX0 (m + 1) f fd ["kind"] (spSteps K) := by
  refine F.ok scSteps (fun vs H Q E h => ?_) (fun cdv A outer s H vs Q E hr h => ?_)
  · obtain ⟨v, h, n, ds, rfl, _⟩ := h
    rfl
  obtain ⟨v, h, n, ds, rfl, rv, ear, q⟩ := h
  obtain ⟨xa, us, rfl, ha, ru⟩ := RK.kind rv
  refine' ⟨_, ?n0, ?Z⟩
  case' n0 => refine' pss_one ?n1
  case' n1 => refine' ps_ret ?n2
  case' n2 => refine' pe_tab rfl m_STEPS k_STEPS ?n3 (fun _ _ => rfl)
  case' n3 => refine' pe_ix ix_seq ?n4 ?n5 (fun _ _ => rfl)
  case n4 => exact pv 0
  case n5 => exact pe_int
  exact ⟨_, rfl, .inr (.inl ⟨xa, _, 0, .str h, rfl, rfl, ha.sq, (by exact atI_nat (j := 0) rfl), rfl, h, stepsOf h, rfl, (steps_all h (heads_of ear)).1, fun c hc => q c hc fun H' o => seqT_old hc o⟩)⟩
/-! ### ground -/
abbrev sGround : Stmt := top 6
def spGround (K : PySem.W.Frag) : Sp := fun vs H Q _ => ∃ (v : V) (h : Str) (ds : List Dk), vs = [v] ∧ RK K H (.tup (.str h :: ds)) v ∧ ds.length ≤ 900 ∧
  ∀ (v' : V) (H' : Hp), Old H H' → RK K H' (.tup (.str h :: List.replicate ds.length (.tup [.str "?"]))) v' → Q v' H'
theorem scGround : FnScope ["kind"] ["kind"] (defScope sGround) := ⟨rfl, rfl, rfl, by decide +kernel, rfl, by decide +kernel, by decide +kernel⟩
theorem rks_rep {H : Hp} {d : Dk} {v : V} (h : RK K H d v) : ∀ n, RKs K H (List.replicate n d) (List.replicate n v)
  | 0 => .nil
  | n + 1 => .cons h (rks_rep h n)
theorem ok_ground {m : Nat} {ua : Addr} (F : Fun K "ground" "ground" sGround f fd) (T : Tx mg) (m_UNTOLD : mg "UNTOLD" = some (.ref ua)) (kU : Kt K ua [.str "?"]) (c_kinds_in : Cal P w K mg base "kinds_in" ["kind"] 1 (spKi K)) (c_with_kinds : Cal P w K mg base "with_kinds" ["kind", "some"] 1 (spWk K)) : FnOk P w K mg base CX0 (m + 2) f fd ["kind"] (spGround K) := by
  refine F.ok scGround (fun vs H Q E h => ?_) (fun cdv A outer s H vs Q E hr h => ?_)
  · obtain ⟨v, h, ds, rfl, _⟩ := h
    rfl
  obtain ⟨v, h, ds, rfl, rv, hz, q⟩ := h
  have nd := scGround.nd
  refine' ⟨_, ?n0, ?Z⟩
  case' n0 => refine' pss_one ?n1
  case' n1 => refine' ps_ret ?n2
  case' n2 => refine' pe_cal c_with_kinds hr ?n3
  case' n3 => refine' pa ?n4 ?n5
  case n4 => exact pv 0
  case' n5 => refine' pa ?n6 ?n7
  case' n6 => refine' pe_lc (k := 1) (N := ["inner", "kind"]) (lc_mk rfl rfl rfl rfl rfl rfl) rfl ?n8 (fun _ _ _ _ => ?n9) (fun _ _ _ _ => ?n10) (fun _ _ _ _ => ?n11)
  case' n8 => refine' pi_seq ?n12
  case' n12 => refine' pe_cal c_kinds_in hr ?n13
  case' n13 => refine' pa ?n14 ?n15
  case n14 => exact pv 0
  case n15 => exact pa_nil
  case n9 => exact pg_name (i := 0) (by show List.Nodup (["inner", "kind"] : List Str); decide +kernel) rfl (Or.inl rfl)
  case n10 => exact pts_nil
  case n11 => exact pe_gref rfl m_UNTOLD
  case n7 => exact pa_nil
  refine ⟨_, rfl, _, rfl, v, h, ds, rfl, rv, fun r us H1 o1 hr0 hr1 rus => ⟨r, rfl, .inl ⟨⟨_, SqL.of hr1⟩, fun D hD => ?_⟩⟩⟩
  have lus := rus.length
  have neD : ∀ b o, H1 b = some o → b ≠ D := fun b o e => ne_of_none e hD
  refine lc_by0 (n := us.length) (fun i σ H2 => ∃ k1 : Option V, σ = [k1, some v] ∧ Old H1 H2 ∧ H2 D = some (.lst (List.replicate i (.ref ua)))) ⟨none, rfl, Old.new hD, by rw [upd_same]; rfl⟩ ?_ ?_ ?_ ?_
  · intro i σ H2 hi hv
    obtain ⟨k1, rfl, g, hD2⟩ := hv
    exact ⟨_, _, SqL.of (g _ _ hr1), List.getElem?_eq_getElem hi⟩
  · intro σ H2 hv
    obtain ⟨k1, rfl, g, hD2⟩ := hv
    exact ⟨_, SqL.of (g _ _ hr1), Nat.le_refl _⟩
  · intro i σ H2 hi hv y H3 hy
    obtain ⟨k1, rfl, g, hD2⟩ := hv
    obtain ⟨e1, hyx⟩ := hy
    subst e1
    refine ⟨_, hD2, smallM (by rw [List.length_replicate]; omega), nx hi ⟨_, rfl, fun b o e => by rw [upd_ne (neD b o e)]; exact g b o e, ?_⟩⟩
    rw [upd_same, List.replicate_succ']
  · intro σ H2 hv
    obtain ⟨k1, rfl, g, hD2⟩ := hv
    refine ⟨v, D, h, ds, List.replicate us.length (.tup [.str "?"]), List.replicate us.length (.ref ua), rfl, (rv.mono o1.tm).mono g.tm, hD2, rks_rep (RK.tup (.inr kU) (.cons (.s _) .nil)) _, by rw [List.length_replicate]; omega, fun v' H' o2 r2 => ?_⟩
    rw [← lus] at r2
    exact q v' H' ((o1.trans g).trans o2) r2
theorem kit (a b : String) (r : Bool) (h : PySem.W.kitOne [] (.type a) (.type b) = some r) (K : PySem.W.Frag) : PySem.W.kitOne K (.type a) (.type b) = some r := h
theorem i_ib {H : Hp} (b : Int) : IsJ K H (.int b) "bool" false := .inl ⟨_, .int b, kit _ _ _ (by decide +kernel) _⟩
theorem i_ii {H : Hp} (b : Int) : IsJ K H (.int b) "int" true := .inl ⟨_, .int b, kit _ _ _ (by decide +kernel) _⟩
theorem i_si {H : Hp} (b : Str) : IsJ K H (.str b) "int" false := .inl ⟨_, .str b, kit _ _ _ (by decide +kernel) _⟩
theorem i_ss {H : Hp} (b : Str) : IsJ K H (.str b) "str" true := .inl ⟨_, .str b, kit _ _ _ (by decide +kernel) _⟩
theorem i_t {H : Hp} {a : Addr} {us : List V} {n : String} {b : Bool} (h : Tp K H a us) (k : PySem.W.kitOne [] (.type "tuple") (.type n) = some b) : IsJ K H (.ref a) n b := by
  rcases h with h | h
  · exact .inl ⟨_, .tup h, kit _ _ _ k _⟩
  · exact .inr ⟨a, us, rfl, h, kit _ _ _ k _⟩
theorem i_ti {H : Hp} {a : Addr} {us : List V} (h : Tp K H a us) : IsJ K H (.ref a) "int" false := i_t h (by decide +kernel)
theorem i_ts {H : Hp} {a : Addr} {us : List V} (h : Tp K H a us) : IsJ K H (.ref a) "str" false := i_t h (by decide +kernel)
theorem i_tt {H : Hp} {a : Addr} {us : List V} (h : Tp K H a us) : IsJ K H (.ref a) "tuple" true := i_t h (by decide +kernel)
end
end L2.K55

end
section
set_option Elab.async false
set_option linter.all false
set_option maxRecDepth 100000
set_option maxHeartbeats 8000000
namespace L2.K55
open PySem PySem.Spec PyProof.Rows L2.Bw L2.Bk
section
variable {P : Program} {w : World} {K : PySem.W.Frag} {mg : Str → Option Value} {base : Heap} {f : Addr} {fd : FuncData}
/-! ### body_with -/
abbrev sBw : Stmt := top 18
def spBw (K : PySem.W.Frag) : Sp := fun vs H Q _ => ∃ (h : Str) (c : Addr) (ls : List Lk) (ws : List V), vs = [.str h, .ref c] ∧ H c = some (.lst ws) ∧ RKs K H (Lk.ds ls) ws ∧ ls.length ≤ 900 ∧ (∀ x ∈ ls, x.d.dq ≤ 61) ∧ ∀ (v : V) (H' : Hp), Old H H' → RK K H' (.tup (.str (wrapH h ls) :: Lk.ds (wrapL ls))) v → Q v H'
theorem scBw : FnScope ["head", "some"] ["head", "some"] (defScope sBw) := ⟨rfl, rfl, rfl, by decide +kernel, rfl, by decide +kernel, by decide +kernel⟩
theorem still_eqbs {x : Lk} {ds : List Dk} (h : x.d = .tup ds) : eqbs ds [.non, sameD, .non] = x.still := by
  rw [← still_eqb, h]
  rfl
theorem lk_tup (x : Lk) : ∃ ds, x.d = .tup ds := by
  cases x with
  | mk a h ls t => exact ⟨_, rfl⟩
  | br a t k => exact ⟨_, rfl⟩
theorem ok_bw {m : Nat} {sa sb : Addr} (F : Fun K "body_with" "body_with" sBw f fd) (T : Tx mg) (m_SAME : mg "SAME" = some (.ref sa)) (kS : Kt K sa [.str "same"]) (m_STILL : mg "STILL" = some (.ref sb)) (rS : ∀ H, RK K H stillD (.ref sb)) : FnOk P w K mg base CX0 (m + 1) f fd ["head", "some"] (spBw K) := by
  refine F.ok scBw (fun vs H Q E h => ?_) (fun cdv A outer s H vs Q E hr h => ?_)
  · obtain ⟨h, c, ls, ws, rfl, _⟩ := h
    rfl
  obtain ⟨h, c, ls, ws, rfl, hc, rws, hz, hdq, q⟩ := h
  have nd := scBw.nd
  have lw := rws.length
  rw [lds_length] at lw
  refine' ⟨_, ?n0, ?Z⟩
  case' n0 => refine' pss_cons ?n1 ?n2
  case' n1 => refine' ps_if ?n3 ?n4 ?n5
  case' n3 => refine' pt_val ?n6
  case' n6 => refine' pe_callB (call_all rfl) rfl T.all boot_all ?n7
  case' n7 => refine' pa ?n8 ?n9
  case' n8 => refine' pe_lc (te := tOp (rEqG K) (tVar 0) (tC (.ref sb))) (k := 1) (N := ["look", "head", "some"]) (lc_mk rfl rfl rfl rfl rfl rfl) rfl ?n10 (fun _ _ _ _ => ?n11) (fun _ _ _ _ => ?n12) (fun _ _ _ _ => ?n13)
  case' n10 => refine' pi_seq ?n14
  case n14 => exact pv 1
  case n11 => exact pg_name (i := 0) (by show List.Nodup (["look", "head", "some"] : List Str); decide +kernel) rfl (Or.inl rfl)
  case n12 => exact pts_nil
  case n13 =>
    refine' pe_cmpR (op_eqG hr) ?n15 ?n16 (nomark _)
    case n15 => exact pv 0
    case n16 => exact pe_gref rfl m_STILL
  case n9 => exact pa_nil
  case' n4 => refine' pss_one ?n17
  case' n17 => refine' ps_ret ?n18
  case n18 => exact pe_gref rfl m_SAME
  case n5 => exact pss_nil
  case' n2 => refine' pss_one ?n19
  case' n19 => refine' ps_ret ?n20
  case' n20 => refine' pe_op op_addG ?n21 ?n22
  case' n21 => refine' pe_tup ?n23
  case' n23 => refine' pa ?n24 ?n25
  case n24 => exact pv 0
  case n25 => exact pa_nil
  case' n22 => refine' pe_callTy (call_tuple_of) rfl T.tuple boot_tuple ?n26
  case' n26 => refine' pa ?n27 ?n28
  case n27 => exact pv 1
  case n28 => exact pa_nil
  refine ⟨_, rfl, c, rfl, .inl ⟨⟨_, SqL.of hc⟩, fun D hD => ?_⟩⟩
  have neD : ∀ b o, H b = some o → b ≠ D := fun b o e => ne_of_none e hD
  refine lc_by0 (n := ws.length) (fun i σ H2 => ∃ k1 : Option V, σ = [k1, some (.str h), some (.ref c)] ∧ Old H H2 ∧ H2 D = some (.lst (((ls.take i).map Lk.still).map V.bl))) ⟨none, rfl, Old.new hD, upd_same⟩ ?_ ?_ ?_ ?_
  · intro i σ H2 hi hv
    obtain ⟨k1, rfl, o2, hD2⟩ := hv
    exact ⟨_, _, SqL.of (o2 _ _ hc), List.getElem?_eq_getElem hi⟩
  · intro σ H2 hv
    obtain ⟨k1, rfl, o2, hD2⟩ := hv
    exact ⟨_, SqL.of (o2 _ _ hc), Nat.le_refl _⟩
  · intro i σ H2 hi hv y H3 hy
    obtain ⟨k1, rfl, o2, hD2⟩ := hv
    obtain ⟨e1, hyx⟩ := hy
    subst e1
    have ey := hyx _ (SqL.of (o2 _ _ hc))
    have i1 : i < ls.length := by omega
    obtain ⟨d, ed, rd⟩ := rws.getV ey
    rw [lds_get i1] at ed
    cases ed
    obtain ⟨ds, eds⟩ := lk_tup ls[i]
    have dq := hdq ls[i] (List.getElem_mem i1)
    rw [eds, dq_tup] at dq
    refine ⟨_, rfl, .inl ⟨ds, [.non, sameD, .non], by rw [← eds]; exact rd.mono o2.tm, rS _, by omega, ?_⟩⟩
    rw [still_eqbs eds]
    refine ⟨_, hD2, smallM (by rw [List.length_map, List.length_map, List.length_take]; omega), nx hi ⟨_, rfl, fun b o e => by rw [upd_ne (neD b o e)]; exact o2 b o e, ?_⟩⟩
    rw [upd_same, take_snoc i1, List.map_append, List.map_append]
    rfl
  · intro σ H2 hv
    obtain ⟨k1, rfl, o2, hD2⟩ := hv
    rw [← lw, List.take_length] at hD2
    refine ⟨D, _, rfl, SqL.of hD2, _, rfl, ?_⟩
    have ea : (ls.map Lk.still).all id = ls.all Lk.still := by rw [List.all_map]; rfl
    rw [ea]
    cases hst : ls.all Lk.still with
    | true =>
      unfold wrapH wrapL at q
      rw [if_pos hst, if_pos hst] at q
      exact iteT (q _ _ o2 (RK.tup (.inr kS) (.cons (.s _) .nil)))
    | false =>
      unfold wrapH wrapL at q
      have hst' : ¬ (ls.all Lk.still = true) := by rw [hst]; exact Bool.false_ne_true
      rw [if_neg hst', if_neg hst'] at q
      refine iteF ?_
      refine ⟨_, rfl, by show 1 ≤ sizeLine; decide, fun p hp => ?_⟩
      have o3 : Old H2 (upd H2 p (.tup [.str h])) := Old.new hp
      refine ⟨_, rfl, c, ws, rfl, .inl ⟨SqL.of ((o2.trans o3) _ _ hc), fun p2 hp2 => ?_⟩⟩
      have o4 : Old _ (upd (upd H2 p (.tup [.str h])) p2 (.tup ws)) := Old.new hp2
      have oo := (o2.trans o3).trans o4
      refine cat_g (ds := [.str h]) (es := Lk.ds ls) (RK.tup (.of (o4 _ _ upd_same)) (.cons (.s _) .nil)) (RK.tup (.of upd_same) (rws.mono oo.tm)) (by rw [lds_length]; simp; omega) fun v H' o' rv => ?_
      exact q v H' (oo.trans o') rv
/-! ### label_beyond -/
abbrev sLb : Stmt := top 17
def spLb (K : PySem.W.Frag) : Sp := fun vs H Q _ => ∃ (x : V) (l : Lb) (s : Str), vs = [x, .str s] ∧ RK K H l.d x ∧ l.s ∈ sides ∧ l.w.length ≤ 900 ∧ ∀ (v : V) (H' : Hp), Old H H' → RK K H' (l.on s).d v → Q v H'
theorem scLb : FnScope ["label", "step", "side"] ["label", "step"] (defScope sLb) := ⟨rfl, rfl, rfl, by decide +kernel, rfl, by decide +kernel, by decide +kernel⟩
def sideTab : List (Str × Str) := [("in", "out"), ("out", "in")]
theorem side_at : ∀ s ∈ sides, KTD.datumAt s sideTab = some (other s) := by decide +kernel
theorem lb_get {H : Hp} {l : Lb} {x : V} (h : RK K H l.d x) : ∃ a v, x = .ref a ∧ Tp K H a [.int l.p, .str l.s, v] ∧ RK K H (wd l.w) v := by
  obtain ⟨a, vs, rfl, ha, v1, r1, rfl, h1, v2, r2, rfl, h2, v3, r3, rfl, h3, h4⟩ := RK.get (show RK K H (.tup [.int l.p, .str l.s, wd l.w]) x from h)
  cases (show r3 = [] from h4)
  rw [RK] at h1
  subst h1
  cases RK.str h2
  exact ⟨a, v3, rfl, ha, h3⟩
theorem ok_lb {m : Nat} {fa : Addr} (F : Fun K "label_beyond" "label_beyond" sLb f fd) (T : Tx mg) (m_OTHER_SIDE : mg "OTHER_SIDE" = some (.ref fa)) (k_OTHER_SIDE : KTD.tabLook lookS (fun b => K.lookup b) fa sideTab = true) : FnOk P w K mg base CX0 (m + 1) f fd ["label", "step"] (spLb K) := by
  refine F.ok scLb (fun vs H Q E h => ?_) (fun cdv A outer s H vs Q E hr h => ?_)
  · obtain ⟨x, l, s, rfl, _⟩ := h
    rfl
  obtain ⟨x, l, s, rfl, rx, hs, hw, q⟩ := h
  have nd := scLb.nd
  obtain ⟨a, v, rfl, ha, rv⟩ := lb_get rx
  refine' ⟨_, ?n0, ?Z⟩
  case' n0 => refine' pss_cons ?n1 ?n2
  case' n1 => refine' ps_setX (i := 2) nd rfl (Or.inl rfl) rfl (by first | exact .inl rfl | exact .inr rfl) ?n3
  case' n3 => refine' pe_ifExp ?n4 ?n5 ?n6
  case' n4 => refine' pt_cmpR (op_eqG hr) ?n7 ?n8 (nomark _)
  case n7 => exact pv 1
  case n8 => exact pe_str
  case' n5 => refine' pe_tabS rfl m_OTHER_SIDE k_OTHER_SIDE ?n9 (fun _ _ => rfl)
  case' n9 => refine' pe_ix ix_seq ?n10 ?n11 (fun _ _ => rfl)
  case n10 => exact pv 0
  case n11 => exact pe_int
  case' n6 => refine' pe_ix ix_seq ?n12 ?n13 (fun _ _ => rfl)
  case n12 => exact pv 0
  case n13 => exact pe_int
  case' n2 => refine' pss_one ?n14
  case' n14 => refine' ps_ret ?n15
  case' n15 => refine' pe_tup ?n16
  case' n16 => refine' pa ?n17 ?n18
  case' n17 => refine' pe_ix ix_seq ?n19 ?n20 (fun _ _ => rfl)
  case n19 => exact pv 0
  case n20 => exact pe_int
  case' n18 => refine' pa ?n21 ?n22
  case n21 => exact pv 2
  case' n22 => refine' pa ?n23 ?n24
  case' n23 => refine' pe_op op_addG ?n25 ?n26
  case' n25 => refine' pe_ix ix_seq ?n27 ?n28 (fun _ _ => rfl)
  case n27 => exact pv 0
  case n28 => exact pe_int
  case' n26 => refine' pe_tup ?n29
  case' n29 => refine' pa ?n30 ?n31
  case n30 => exact pv 1
  case n31 => exact pa_nil
  case n24 => exact pa_nil
  refine ⟨_, rfl, .inr (.inl ⟨rfl, _, rfl, ?_⟩)⟩
  rw [dec_s]
  by_cases c : s = "arg"
  · rw [decide_eq_true c]
    refine iteT ?_
    refine ⟨_, rfl, .inr (.inl ⟨a, _, 1, .str l.s, rfl, rfl, ha.sq, (by exact atI_nat (j := 1) rfl), rfl, l.s, other l.s, rfl, side_at _ hs, ?_⟩)⟩
    refine ⟨_, rfl, .inr (.inl ⟨a, _, 0, .int l.p, rfl, rfl, ha.sq, (by exact atI_nat (j := 0) rfl), _, rfl, _, rfl, .inr (.inl ⟨a, _, 2, v, rfl, rfl, ha.sq, (by exact atI_nat (j := 2) rfl), _, rfl, by show 1 ≤ sizeLine; decide, fun p hp => ?_⟩)⟩)⟩
    have o1 : Old H (upd H p (.tup [.str s])) := Old.new hp
    refine cat_g (ds := l.w.map Dk.str) (es := [.str s]) (rv.mono o1.tm) (RK.tup (.of upd_same) (.cons (.s _) .nil)) (by simp; omega) fun v' H2 o2 r2 => ?_
    refine ⟨by show 3 ≤ sizeLine; decide, fun p2 hp2 => ?_⟩
    have o3 := Old.new (o := .tup [.int l.p, .str (other l.s), v']) hp2
    refine q _ _ ((o1.trans o2).trans o3) ?_
    have e : l.on s = ⟨l.p, other l.s, l.w ++ [s]⟩ := by unfold Lb.on; rw [if_pos c]
    rw [e]
    refine RK.tup (.of upd_same) (.cons (.i _) (.cons (.s _) (.cons ?_ .nil)))
    show RK K _ (.tup ((l.w ++ [s]).map Dk.str)) v'
    rw [List.map_append]
    exact r2.mono o3.tm
  · rw [decide_eq_false c]
    refine iteF ?_
    refine ⟨_, rfl, .inr (.inl ⟨a, _, 1, .str l.s, rfl, rfl, ha.sq, (by exact atI_nat (j := 1) rfl), ?_⟩)⟩
    refine ⟨_, rfl, .inr (.inl ⟨a, _, 0, .int l.p, rfl, rfl, ha.sq, (by exact atI_nat (j := 0) rfl), _, rfl, _, rfl, .inr (.inl ⟨a, _, 2, v, rfl, rfl, ha.sq, (by exact atI_nat (j := 2) rfl), _, rfl, by show 1 ≤ sizeLine; decide, fun p hp => ?_⟩)⟩)⟩
    have o1 : Old H (upd H p (.tup [.str s])) := Old.new hp
    refine cat_g (ds := l.w.map Dk.str) (es := [.str s]) (rv.mono o1.tm) (RK.tup (.of upd_same) (.cons (.s _) .nil)) (by simp; omega) fun v' H2 o2 r2 => ?_
    refine ⟨by show 3 ≤ sizeLine; decide, fun p2 hp2 => ?_⟩
    have o3 := Old.new (o := .tup [.int l.p, .str l.s, v']) hp2
    refine q _ _ ((o1.trans o2).trans o3) ?_
    have e : l.on s = ⟨l.p, l.s, l.w ++ [s]⟩ := by unfold Lb.on; rw [if_neg c]
    rw [e]
    refine RK.tup (.of upd_same) (.cons (.i _) (.cons (.s _) (.cons ?_ .nil)))
    show RK K _ (.tup ((l.w ++ [s]).map Dk.str)) v'
    rw [List.map_append]
    exact r2.mono o3.tm
/-! ### body_between -/
abbrev sBb : Stmt := top 16
def spBb (K : PySem.W.Frag) (m : Nat) : Sp := fun vs H Q _ => ∃ (x y z : V) (a b : Kn) (l : Lb), vs = [x, y, z] ∧ RK K H a.d x ∧ RK K H b.d y ∧ RK K H l.d z ∧ a.wf ∧ b.wf ∧ a.ks.length = b.ks.length ∧ Kn.fits a.ks b.ks ∧ Kn.deps a.ks ≤ m ∧ Kn.deps b.ks ≤ m ∧ l.s ∈ sides ∧ l.w.length + m + 1 ≤ 900 ∧ m ≤ 18 ∧
  ∀ (v : V) (H' : Hp), Old H H' → RK K H' (.tup (.str (wrapH a.h (gos (gon m) l (stepsOf a.h) a.ks b.ks)) :: Lk.ds (wrapL (gos (gon m) l (stepsOf a.h) a.ks b.ks)))) v → Q v H'
def spGo (K : PySem.W.Frag) (m : Nat) : Sp := fun vs H Q _ => ∃ (x y z : V) (a b : Kn) (l : Lb), vs = [x, y, z] ∧ RK K H a.d x ∧ RK K H b.d y ∧ RK K H l.d z ∧ a.wf ∧ b.wf ∧ a.part b = none ∧ a.dep ≤ m ∧ b.dep ≤ m ∧ l.s ∈ sides ∧ l.w.length + m ≤ 900 ∧ m ≤ 19 ∧
  ∀ (v : V) (H' : Hp), Old H H' → RK K H' (gon m a b l).d v → Q v H'
theorem seqT_gr {H H' : Hp} {c D : Addr} {xs zs : List V} (h : SqT K H c xs) (g : Gr (M1 D) H H') (hD : H D = some (.lst zs)) : SqT K H' c xs := by
  rcases h with (h | ⟨o', h⟩) | h
  · exact .inl (.inl (g _ _ h fun z => by rw [show c = D from z, hD] at h; cases h))
  · exact .inl (.inr ⟨o', g _ _ h fun z => by rw [show c = D from z, hD] at h; cases h⟩)
  · exact .inr h
theorem scBb : FnScope ["kind", "other", "label", "found", "step", "inner", "beside", "beyond"] ["kind", "other", "label"] (defScope sBb) := ⟨rfl, rfl, rfl, by decide +kernel, rfl, by decide +kernel, by decide +kernel⟩
theorem ok_bb {m j : Nat} (F : Fun K "body_between" "body_between" sBb f fd) (T : Tx mg) (c_steps : Cal P w K mg base "steps" ["kind"] 1 (spSteps K)) (c_kinds_in : Cal P w K mg base "kinds_in" ["kind"] 1 (spKi K)) (c_label_beyond : Cal P w K mg base "label_beyond" ["label", "step"] 1 (spLb K)) (c_body_with : Cal P w K mg base "body_with" ["head", "some"] 1 (spBw K)) (c_going : Cal P w K mg base "going" ["kind", "other", "label"] (j + 1) (spGo K m)) : FnOk P w K mg base CX0 (j + 2) f fd ["kind", "other", "label"] (spBb K m) := by
  refine F.ok scBb (fun vs H Q E h => ?_) (fun cdv A outer s H vs Q E hr h => ?_)
  · obtain ⟨x, y, z, a, b, l, rfl, _⟩ := h
    rfl
  obtain ⟨x, y, z, a, b, l, rfl, rx, ry, rz0, wa, wb, el, ft, da, db, hs, hw, hm, q⟩ := h
  have nd := scBb.nd
  obtain ⟨h, ks⟩ := a
  obtain ⟨g, ls⟩ := b
  have ea : arity h = some ks.length := wa.1
  have el' : ks.length = ls.length := el
  have sl := steps_len ea
  have few := arity_le ea
  refine' ⟨_, ?n0, ?Z⟩
  case' n0 => refine' pss_cons ?n1 ?n2
  case' n1 => refine' ps_setX (i := 3) nd rfl (Or.inl rfl) rfl (by first | exact .inl rfl | exact .inr rfl) ?n3
  case' n3 => refine' pe_lst ?n4
  case n4 => exact pa_nil
  case' n2 => refine' pss_cons ?n5 ?n6
  case' n5 => refine' ps_for PassesOwn.never rfl ?n7 ?n8 ?n9
  case' n7 => refine' pi_zip3 rfl T.zip ?n10
  case' n10 => refine' pa ?n11 ?n12
  case' n11 => refine' pe_cal c_steps hr ?n13
  case' n13 => refine' pa ?n14 ?n15
  case n14 => exact pv 0
  case n15 => exact pa_nil
  case' n12 => refine' pa ?n16 ?n17
  case' n16 => refine' pe_cal c_kinds_in hr ?n18
  case' n18 => refine' pa ?n19 ?n20
  case n19 => exact pv 0
  case n20 => exact pa_nil
  case' n17 => refine' pa ?n21 ?n22
  case' n21 => refine' pe_cal c_kinds_in hr ?n23
  case' n23 => refine' pa ?n24 ?n25
  case n24 => exact pv 1
  case n25 => exact pa_nil
  case n22 => exact pa_nil
  case' n8 => refine' pg_tup rfl ?n26
  case' n26 => refine' pgs_cons ?n27 ?n28
  case n27 => exact pg_name (i := 4) nd rfl (Or.inl rfl)
  case' n28 => refine' pgs_cons ?n29 ?n30
  case n29 => exact pg_name (i := 5) nd rfl (Or.inl rfl)
  case' n30 => refine' pgs_cons ?n31 ?n32
  case n31 => exact pg_name (i := 6) nd rfl (Or.inl rfl)
  case n32 => exact pgs_nil
  case' n9 => refine' pss_cons ?n33 ?n34
  case' n33 => refine' ps_setX (i := 7) nd rfl (Or.inl rfl) rfl (by first | exact .inl rfl | exact .inr rfl) ?n35
  case' n35 => refine' pe_cal c_label_beyond hr ?n36
  case' n36 => refine' pa ?n37 ?n38
  case n37 => exact pv 2
  case' n38 => refine' pa ?n39 ?n40
  case n39 => exact pv 4
  case n40 => exact pa_nil
  case' n34 => refine' pss_one ?n41
  case' n41 => refine' ps_if ?n42 ?n43 ?n44
  case' n42 => refine' pt_cmpR (op_eqG hr) ?n45 ?n46 (nomark _)
  case n45 => exact pv 4
  case n46 => exact pe_str
  case' n43 => refine' pss_one ?n47
  case' n47 => refine' ps_expr ?n48
  case' n48 => refine' pe_bm PySem.F.plainAttrs_list PySem.F.slot_list_append PySem.F.type_list_append mt_append ?n49 ?n50
  case n49 => exact pv 3
  case' n50 => refine' pa ?n51 ?n52
  case' n51 => refine' pe_cal c_going hr ?n53
  case' n53 => refine' pa ?n54 ?n55
  case n54 => exact pv 6
  case' n55 => refine' pa ?n56 ?n57
  case n56 => exact pv 5
  case' n57 => refine' pa ?n58 ?n59
  case n58 => exact pv 7
  case n59 => exact pa_nil
  case n52 => exact pa_nil
  case' n44 => refine' pss_one ?n60
  case' n60 => refine' ps_expr ?n61
  case' n61 => refine' pe_bm PySem.F.plainAttrs_list PySem.F.slot_list_append PySem.F.type_list_append mt_append ?n62 ?n63
  case n62 => exact pv 3
  case' n63 => refine' pa ?n64 ?n65
  case' n64 => refine' pe_cal c_going hr ?n66
  case' n66 => refine' pa ?n67 ?n68
  case n67 => exact pv 5
  case' n68 => refine' pa ?n69 ?n70
  case n69 => exact pv 6
  case' n70 => refine' pa ?n71 ?n72
  case n71 => exact pv 7
  case n72 => exact pa_nil
  case n65 => exact pa_nil
  case' n6 => refine' pss_one ?n73
  case' n73 => refine' ps_ret ?n74
  case' n74 => refine' pe_cal c_body_with hr ?n75
  case' n75 => refine' pa ?n76 ?n77
  case' n76 => refine' pe_ix ix_seq ?n78 ?n79 (fun _ _ => rfl)
  case n78 => exact pv 0
  case n79 => exact pe_int
  case' n77 => refine' pa ?n80 ?n81
  case n80 => exact pv 3
  case n81 => exact pa_nil
  refine ⟨by show 0 ≤ sizeLine; decide, fun D hD => ?_⟩
  have oD : Old H (upd H D (.lst [])) := Old.new hD
  have hDD : upd H D (.lst []) D = some (.lst []) := upd_same
  have neD : ∀ b o, H b = some o → b ≠ D := fun b o e => ne_of_none e hD
  generalize upd H D (.lst []) = H0 at oD hDD ⊢
  have rx0 : RK K H0 (.tup (.str h :: Kn.ds ks)) x := rx.mono oD.tm
  have ry0 : RK K H0 (.tup (.str g :: Kn.ds ls)) y := ry.mono oD.tm
  refine ⟨_, rfl, x, h, _, Kn.ds ks, rfl, rx0, ea, fun c0 hc0 hcO => ?_⟩
  refine ⟨_, rfl, x, h, Kn.ds ks, rfl, rx0, fun r1 us1 H1 o1 hr1 hr1' rus1 => ⟨_, rfl, y, g, Kn.ds ls, rfl, ry0.mono o1.tm, fun r2 us2 H2 o2 hr2 hr2' rus2 => ⟨c0, r1, r2, _, us1, us2, rfl, hcO _ (o1.trans o2), SqL.of (o2 _ _ hr1'), SqL.of hr2', ?_⟩⟩⟩
  have o12 := o1.trans o2
  have l1 := rus1.length
  have l2 := rus2.length
  rw [ds_length] at l1 l2
  have hr1H := o2 _ _ hr1'
  have rus1H := rus1.mono o2.tm
  have nD1 : r1 ≠ D := (ne_of_none hDD hr1).symm
  have nD2 : r2 ≠ D := (ne_of_none (o1 _ _ hDD) hr2).symm
  have hD2' := o12 _ _ hDD
  have hc2 := hcO _ o12
  refine for_by (n := ks.length) (fun i σ H3 => ∃ (k1 k2 k3 k4 : Option V) (zs : List V), σ = [some x, some y, some z, some (.ref D), k1, k2, k3, k4] ∧ Gr (M1 D) H2 H3 ∧ H3 D = some (.lst zs) ∧ RKs K H3 (Lk.ds ((gos (gon m) l (stepsOf h) ks ls).take i)) zs) ⟨none, none, none, none, [], rfl, Gr.refl _, hD2', rfl⟩ ?_ ?_ ?_ ?_
  · intro i σ H3 hi hv
    obtain ⟨k1, k2, k3, k4, zs, rfl, g3, hD3, rz⟩ := hv
    exact ⟨_, _, _, seqT_gr hc2 g3 hD2', SqL.of (g3 _ _ hr1H nD1), SqL.of (g3 _ _ hr2' nD2), by rw [List.length_map]; omega, by omega, by omega⟩
  · intro σ H3 hv
    obtain ⟨k1, k2, k3, k4, zs, rfl, g3, hD3, rz⟩ := hv
    exact ⟨_, _, _, seqT_gr hc2 g3 hD2', SqL.of (g3 _ _ hr1H nD1), SqL.of (g3 _ _ hr2' nD2), by rw [List.length_map]; omega⟩
  · intro i σ H3 hi hv v H4 hy
    obtain ⟨k1, k2, k3, k4, zs, rfl, g3, hD3, rz⟩ := hv
    obtain ⟨t, u, x1, y1, rfl, ht, rfl, hu, hx, hyy⟩ := hy
    have tm3 := g3.tm1 hD2'
    have i0 : i < (stepsOf h).length := by omega
    have i2 : i < ls.length := by omega
    have eu := hu _ (seqT_gr hc2 g3 hD2')
    rw [List.getElem?_map, List.getElem?_eq_getElem i0] at eu
    cases eu
    have ex := hx _ (SqL.of (g3 _ _ hr1H nD1))
    have ey := hyy _ (SqL.of (g3 _ _ hr2' nD2))
    obtain ⟨d1, e1, rd1⟩ := rus1H.getV ex
    obtain ⟨d2, e2, rd2⟩ := rus2.getV ey
    rw [ds_get hi] at e1
    rw [ds_get i2] at e2
    cases e1
    cases e2
    have dg1 := deps_get hi
    have dg2 := deps_get i2
    have da' : Kn.deps ks ≤ m := da
    have db' : Kn.deps ls ≤ m := db
    have w1 := wfs_get hi wa.2
    have w2 := wfs_get i2 wb.2
    have pn := fits_get hi i2 ft
    have o4 : Old H3 (upd H3 t (.tup [.str (stepsOf h)[i], x1, y1])) := Old.new ht
    have lz := rz.length
    rw [lds_length, List.length_take] at lz
    have tmA : Tm H (upd H3 t (.tup [.str (stepsOf h)[i], x1, y1])) := fun b xs e => o4 _ _ (tm3 _ _ (o12 _ _ (oD _ _ e)))
    have hD4 := o4 _ _ hD3
    have rzA := rz.mono o4.tm
    have rd1A := rd1.mono fun b xs e => o4 _ _ (tm3 _ _ e)
    have rd2A := rd2.mono fun b xs e => o4 _ _ (tm3 _ _ e)
    have ht4 : upd H3 t (.tup [.str (stepsOf h)[i], x1, y1]) t = some (.tup [.str (stepsOf h)[i], x1, y1]) := upd_same
    have g4 : Gr (M1 D) H2 (upd H3 t (.tup [.str (stepsOf h)[i], x1, y1])) := g3.trans o4.gm
    generalize upd H3 t (.tup [.str (stepsOf h)[i], x1, y1]) = H4 at o4 tmA hD4 rzA rd1A rd2A ht4 g4 ⊢
    refine ⟨t, _, rfl, SqT.of ht4, rfl, _, _, rfl, _, _, rfl, _, _, rfl, rfl, ?_⟩
    refine ⟨_, rfl, _, rfl, z, l, (stepsOf h)[i], rfl, rz0.mono tmA, hs, by omega, fun v5 H5 o5 r5 => ?_⟩
    refine ⟨_, rfl, .inr (.inl ⟨rfl, _, rfl, ?_⟩)⟩
    rw [dec_s]
    have hsd := on_side hs (stepsOf h)[i]
    have hln := on_len l (stepsOf h)[i]
    have gt := gos_take (f := gon m) (l := l) i0 hi i2
    by_cases c : (stepsOf h)[i] = "arg"
    · rw [decide_eq_true c]
      rw [if_pos c] at gt
      refine iteT ?_
      refine ⟨_, rfl, .inl ⟨rfl, _, SqL.of (o5 _ _ hD4)⟩, _, rfl, _, rfl, _, rfl, y1, x1, v5, ls[i], ks[i], l.on (stepsOf h)[i], rfl, rd2A.mono o5.tm, rd1A.mono o5.tm, r5, w2, w1, by rw [part_comm]; exact pn, by omega, by omega, hsd, by omega, by omega, fun v6 H6 o6 r6 => ?_⟩
      have hD6 := (o5.trans o6) _ _ hD4
      refine ⟨D, zs, v6, rfl, rfl, hD6, smallM (by omega), ?_⟩
      have tm6 : Tm H6 (upd H6 D (.lst (zs ++ [v6]))) := fun b xs e => by
        rw [upd_ne]
        · exact e
        · intro z
          rw [z, hD6] at e
          cases e
      refine ⟨_, _, _, _, _, rfl, g4.trans ((o5.trans o6).gm.trans (Gr.put rfl)), upd_same, ?_⟩
      rw [gt, lds_append]
      exact (rzA.mono fun b xs e => tm6 _ _ ((o5.trans o6) _ _ e)).append (.cons (r6.mono tm6) .nil)
    · rw [decide_eq_false c]
      rw [if_neg c] at gt
      refine iteF ?_
      refine ⟨_, rfl, .inl ⟨rfl, _, SqL.of (o5 _ _ hD4)⟩, _, rfl, _, rfl, _, rfl, x1, y1, v5, ks[i], ls[i], l.on (stepsOf h)[i], rfl, rd1A.mono o5.tm, rd2A.mono o5.tm, r5, w1, w2, pn, by omega, by omega, hsd, by omega, by omega, fun v6 H6 o6 r6 => ?_⟩
      have hD6 := (o5.trans o6) _ _ hD4
      refine ⟨D, zs, v6, rfl, rfl, hD6, smallM (by omega), ?_⟩
      have tm6 : Tm H6 (upd H6 D (.lst (zs ++ [v6]))) := fun b xs e => by
        rw [upd_ne]
        · exact e
        · intro z
          rw [z, hD6] at e
          cases e
      refine ⟨_, _, _, _, _, rfl, g4.trans ((o5.trans o6).gm.trans (Gr.put rfl)), upd_same, ?_⟩
      rw [gt, lds_append]
      exact (rzA.mono fun b xs e => tm6 _ _ ((o5.trans o6) _ _ e)).append (.cons (r6.mono tm6) .nil)
  · intro σ H3 hv
    obtain ⟨k1, k2, k3, k4, zs, rfl, g3, hD3, rz⟩ := hv
    have tm3 := g3.tm1 hD2'
    have gl := gos_length (gon m) l (stepsOf h) ks ls
    have el2 : ks.length = (gos (gon m) l (stepsOf h) ks ls).length := by omega
    rw [el2, List.take_length] at rz
    obtain ⟨xa, us, rfl, ha, ru⟩ := RK.kind ((rx0.mono o12.tm).mono tm3)
    refine ⟨_, rfl, .inr (.inl ⟨xa, _, 0, .str h, rfl, rfl, ha.sq, (by exact atI_nat (j := 0) rfl), _, rfl, h, D, _, zs, rfl, hD3, rz, by omega, ?_, fun v H' o' rv => q v H' (fun b o e => ?_) rv⟩)⟩
    · intro x hx
      obtain ⟨i, hi, rfl⟩ := List.getElem_of_mem hx
      have h1 : i < ks.length := by omega
      have h2 : i < ls.length := by omega
      have k := gos_get (f := gon m) (l := l) (ss := stepsOf h) (xs := ks) (ys := ls) (i := i) (by omega) h1 h2
      rw [List.getElem?_eq_getElem hi] at k
      rw [Option.some.inj k]
      have w1 := wfs_get h1 wa.2
      have w2 := wfs_get h2 wb.2
      have d1 := deps_get h1
      have d2 := deps_get h2
      have da' : Kn.deps ks ≤ m := da
      have db' : Kn.deps ls ≤ m := db
      have ol := on_len l (stepsOf h)[i]
      split
      · have := lk_dq (gon_ok m (l := l.on (stepsOf h)[i]) w2 w1 (by omega) (by omega) (by omega) (by omega))
        omega
      · have := lk_dq (gon_ok m (l := l.on (stepsOf h)[i]) w1 w2 (by omega) (by omega) (by omega) (by omega))
        omega
    · exact o' _ _ (g3 _ _ (o12 _ _ (oD _ _ e)) (neD b o e))
/-! ### going -/
abbrev sGo : Stmt := top 15
theorem scGo : FnScope ["kind", "other", "label", "base"] ["kind", "other", "label"] (defScope sGo) := ⟨rfl, rfl, rfl, by decide +kernel, rfl, by decide +kernel, by decide +kernel⟩
theorem q_empty {h : Str} {ks : List Kn} {us : List V} (e : arity h = some ks.length) (l : ks.length = us.length) : (decide (h = "?") && us.isEmpty) = decide (h = "?") := by
  by_cases c : h = "?"
  · subst c
    have := arity_q e
    have : us = [] := List.length_eq_zero_iff.mp (by omega)
    subst this
    rfl
  · rw [decide_eq_false c, Bool.false_and]
theorem rep_ds : ∀ n, Kn.ds (List.replicate n qK) = List.replicate n (.tup [.str "?"])
  | 0 => rfl
  | n + 1 => by show qK.d :: Kn.ds (List.replicate n qK) = _; rw [rep_ds n, List.replicate_succ]; rfl
theorem gr_d (h : Str) (ks : List Kn) : (gr (.mk h ks)).d = .tup (.str h :: List.replicate (Kn.ds ks).length (.tup [.str "?"])) := by
  rw [ds_length, ← rep_ds]; rfl
theorem ok_go {m j : Nat} {ua sb : Addr} (F : Fun K "going" "going" sGo f fd) (T : Tx mg) (m_UNTOLD : mg "UNTOLD" = some (.ref ua)) (kU : Kt K ua [.str "?"]) (m_STILL : mg "STILL" = some (.ref sb)) (rS : ∀ H, RK K H stillD (.ref sb)) (c_ground : Cal P w K mg base "ground" ["kind"] 2 (spGround K)) (c_body_between : Cal P w K mg base "body_between" ["kind", "other", "label"] (j + 2) (spBb K m)) : FnOk P w K mg base CX0 (j + 3) f fd ["kind", "other", "label"] (spGo K (m + 1)) := by
  refine F.ok scGo (fun vs H Q E h => ?_) (fun cdv A outer s H vs Q E hr h => ?_)
  · obtain ⟨x, y, z, a, b, l, rfl, _⟩ := h
    rfl
  obtain ⟨x, y, z, a, b, l, rfl, rx, ry, rz, wa, wb, pn, da, db, hs, hw, hm, q⟩ := h
  have nd := scGo.nd
  obtain ⟨f1, f2, f3⟩ := fill_both wa wb pn
  have wfa := fill_wf wa wb
  have wfb := fill_wf wb wa
  have fda := fill_dep da db
  have fdb := fill_dep db da
  rw [dep_eq] at fda fdb
  have q' : ∀ (v : V) (H' : Hp), Old H H' → RK K H' (.tup [ogd (askOf a b l), .tup (.str (wrapH (fillK a b).h (gos (gon m) l (stepsOf (fillK a b).h) (fillK a b).ks (fillK b a).ks)) :: Lk.ds (wrapL (gos (gon m) l (stepsOf (fillK a b).h) (fillK a b).ks (fillK b a).ks))), ogd (askOf b a l)]) v → Q v H' := q
  clear q
  have fa : fillK a b = if a.h = "?" then gr b else a := rfl
  have fb : fillK b a = if b.h = "?" then gr a else b := rfl
  have ka : askOf a b l = if a.h = "?" then (if b.h = "?" then none else some (gr b, l)) else none := rfl
  have kb : askOf b a l = if b.h = "?" then (if a.h = "?" then none else some (gr a, l)) else none := rfl
  obtain ⟨h, ks⟩ := a
  obtain ⟨g, ls⟩ := b
  have rx' : RK K H (.tup (.str h :: Kn.ds ks)) x := rx
  have ry' : RK K H (.tup (.str g :: Kn.ds ls)) y := ry
  obtain ⟨xa, us, rfl, ha, ru⟩ := RK.kind rx'
  obtain ⟨xb, ws, rfl, hb, rw'⟩ := RK.kind ry'
  have lu := ru.length
  have lw := rw'.length
  rw [ds_length] at lu lw
  have ea : arity h = some ks.length := wa.1
  have eb : arity g = some ls.length := wb.1
  have fw1 := arity_le ea
  have fw2 := arity_le eb
  refine' ⟨_, ?n0, ?Z⟩
  case' n0 => refine' pss_cons ?n1 ?n2
  case' n1 => refine' ps_if ?n3 ?n4 ?n5
  case' n3 => refine' PW.pt ?n6
  case' n6 => refine' pw_and ?n7 ?n8
  case' n7 => refine' pt_cmpR (op_eqG hr) ?n9 ?n10 (nomark _)
  case n9 => exact pv 0
  case n10 => exact pe_gref rfl m_UNTOLD
  case' n8 => refine' pw_and1 ?n11
  case' n11 => refine' pt_cmpR (op_eqG hr) ?n12 ?n13 (nomark _)
  case n12 => exact pv 1
  case n13 => exact pe_gref rfl m_UNTOLD
  case' n4 => refine' pss_one ?n14
  case' n14 => refine' ps_ret ?n15
  case n15 => exact pe_gref rfl m_STILL
  case n5 => exact pss_nil
  case' n2 => refine' pss_cons ?n16 ?n17
  case' n16 => refine' ps_if ?n18 ?n19 ?n20
  case' n18 => refine' pt_cmpR (op_eqG hr) ?n21 ?n22 (nomark _)
  case n21 => exact pv 0
  case n22 => exact pe_gref rfl m_UNTOLD
  case' n19 => refine' pss_cons ?n23 ?n24
  case' n23 => refine' ps_setX (i := 3) nd rfl (Or.inl rfl) rfl (by first | exact .inl rfl | exact .inr rfl) ?n25
  case' n25 => refine' pe_cal c_ground hr ?n26
  case' n26 => refine' pa ?n27 ?n28
  case n27 => exact pv 1
  case n28 => exact pa_nil
  case' n24 => refine' pss_one ?n29
  case' n29 => refine' ps_ret ?n30
  case' n30 => refine' pe_tup ?n31
  case' n31 => refine' pa ?n32 ?n33
  case' n32 => refine' pe_tup ?n34
  case' n34 => refine' pa ?n35 ?n36
  case n35 => exact pv 3
  case' n36 => refine' pa ?n37 ?n38
  case n37 => exact pv 2
  case n38 => exact pa_nil
  case' n33 => refine' pa ?n39 ?n40
  case' n39 => refine' pe_cal c_body_between hr ?n41
  case' n41 => refine' pa ?n42 ?n43
  case n42 => exact pv 3
  case' n43 => refine' pa ?n44 ?n45
  case n44 => exact pv 1
  case' n45 => refine' pa ?n46 ?n47
  case n46 => exact pv 2
  case n47 => exact pa_nil
  case' n40 => refine' pa pe_non ?n48
  case n48 => exact pa_nil
  case n20 => exact pss_nil
  case' n17 => refine' pss_cons ?n49 ?n50
  case' n49 => refine' ps_if ?n51 ?n52 ?n53
  case' n51 => refine' pt_cmpR (op_eqG hr) ?n54 ?n55 (nomark _)
  case n54 => exact pv 1
  case n55 => exact pe_gref rfl m_UNTOLD
  case' n52 => refine' pss_cons ?n56 ?n57
  case' n56 => refine' ps_setX (i := 3) nd rfl (Or.inl rfl) rfl (by first | exact .inl rfl | exact .inr rfl) ?n58
  case' n58 => refine' pe_cal c_ground hr ?n59
  case' n59 => refine' pa ?n60 ?n61
  case n60 => exact pv 0
  case n61 => exact pa_nil
  case' n57 => refine' pss_one ?n62
  case' n62 => refine' ps_ret ?n63
  case' n63 => refine' pe_tup ?n64
  case' n64 => refine' pa pe_non ?n65
  case' n65 => refine' pa ?n66 ?n67
  case' n66 => refine' pe_cal c_body_between hr ?n68
  case' n68 => refine' pa ?n69 ?n70
  case n69 => exact pv 0
  case' n70 => refine' pa ?n71 ?n72
  case n71 => exact pv 3
  case' n72 => refine' pa ?n73 ?n74
  case n73 => exact pv 2
  case n74 => exact pa_nil
  case' n67 => refine' pa ?n75 ?n76
  case' n75 => refine' pe_tup ?n77
  case' n77 => refine' pa ?n78 ?n79
  case n78 => exact pv 3
  case' n79 => refine' pa ?n80 ?n81
  case n80 => exact pv 2
  case n81 => exact pa_nil
  case n76 => exact pa_nil
  case n53 => exact pss_nil
  case' n50 => refine' pss_one ?n82
  case' n82 => refine' ps_ret ?n83
  case' n83 => refine' pe_tup ?n84
  case' n84 => refine' pa pe_non ?n85
  case' n85 => refine' pa ?n86 ?n87
  case' n86 => refine' pe_cal c_body_between hr ?n88
  case' n88 => refine' pa ?n89 ?n90
  case n89 => exact pv 0
  case' n90 => refine' pa ?n91 ?n92
  case n91 => exact pv 1
  case' n92 => refine' pa ?n93 ?n94
  case n93 => exact pv 2
  case n94 => exact pa_nil
  case' n87 => refine' pa pe_non ?n95
  case n95 => exact pa_nil
  refine ⟨_, rfl, .inr (.inr ⟨_, .heads ha.sq (.inr kU), _, rfl, ?_⟩)⟩
  rw [q_empty ea lu]
  by_cases c1 : h = "?"
  · rw [decide_eq_true c1]
    have c1' : (Kn.mk h ks).h = "?" := c1
    rw [if_pos c1'] at fa ka
    refine iteT ?_
    refine ⟨_, rfl, .inr (.inr ⟨_, .heads hb.sq (.inr kU), _, rfl, ?_⟩)⟩
    rw [q_empty eb lw]
    by_cases c2 : g = "?"
    · rw [decide_eq_true c2]
      have c2' : (Kn.mk g ls).h = "?" := c2
      rw [if_pos c2'] at fb ka kb
      rw [if_pos c1'] at kb
      refine iteT (q' _ H (Old.refl _) ?_)
      rw [ka, kb, fa, fb, wf_q_eq wa c1', wf_q_eq wb c2']
      exact rS H
    · rw [decide_eq_false c2]
      have c2' : ¬ (Kn.mk g ls).h = "?" := c2
      rw [if_neg c2'] at fb ka kb
      refine iteF ?_
      refine ⟨_, rfl, .inr (.inr ⟨_, .heads ha.sq (.inr kU), _, rfl, ?_⟩)⟩
      rw [q_empty ea lu, decide_eq_true c1]
      refine iteT ?_
      refine ⟨_, rfl, _, g, Kn.ds ls, rfl, ry', by rw [ds_length]; omega, fun bv H1 o1 rb => ?_⟩
      rw [← gr_d] at rb
      refine ⟨_, rfl, _, rfl, by show 2 ≤ sizeLine; decide, fun p2 hp2 => ?_⟩
      have o2 : Old H1 (upd H1 p2 (.tup [bv, z])) := Old.new hp2
      have o12 := o1.trans o2
      rw [fa, fb] at f2 f3; rw [fa] at wfa fda; rw [fb] at wfb fdb
      refine ⟨_, rfl, _, rfl, _, rfl, bv, _, z, gr (.mk g ls), .mk g ls, l, rfl, rb.mono o2.tm, ry.mono o12.tm, rz.mono o12.tm, wfa, wfb, f2, f3, by omega, by omega, hs, by omega, by omega, fun v3 H3 o3 r3 => ⟨by show 3 ≤ sizeLine; decide, fun p4 hp4 => ?_⟩⟩
      have o4 := Old.new (o := .tup [.ref p2, v3, .non]) hp4
      have o34 := o3.trans o4
      refine q' _ _ (o12.trans o34) ?_
      rw [ka, kb, fa, fb]
      exact RK.tup (.of upd_same) (.cons (RK.tup (.of (o34 _ _ upd_same)) (.cons ((rb.mono o2.tm).mono o34.tm) (.cons (rz.mono (o12.trans o34).tm) .nil))) (.cons (r3.mono o4.tm) (.cons .n .nil)))
  · rw [decide_eq_false c1]
    have c1' : ¬ (Kn.mk h ks).h = "?" := c1
    rw [if_neg c1'] at fa ka
    refine iteF (iteF ?_)
    refine ⟨_, rfl, .inr (.inr ⟨_, .heads ha.sq (.inr kU), _, rfl, ?_⟩)⟩
    rw [q_empty ea lu, decide_eq_false c1]
    refine iteF ?_
    refine ⟨_, rfl, .inr (.inr ⟨_, .heads hb.sq (.inr kU), _, rfl, ?_⟩)⟩
    rw [q_empty eb lw]
    by_cases c2 : g = "?"
    · rw [decide_eq_true c2]
      have c2' : (Kn.mk g ls).h = "?" := c2
      rw [if_pos c2'] at fb kb
      rw [if_neg c1'] at kb
      refine iteT ?_
      refine ⟨_, rfl, _, h, Kn.ds ks, rfl, rx', by rw [ds_length]; omega, fun bv H1 o1 rb => ?_⟩
      rw [← gr_d] at rb
      rw [fa, fb] at f2 f3; rw [fa] at wfa fda; rw [fb] at wfb fdb
      refine ⟨_, rfl, _, rfl, _, rfl, _, bv, z, .mk h ks, gr (.mk h ks), l, rfl, rx.mono o1.tm, rb, rz.mono o1.tm, wfa, wfb, f2, f3, by omega, by omega, hs, by omega, by omega, fun v3 H3 o3 r3 => ⟨_, rfl, _, rfl, by show 2 ≤ sizeLine; decide, fun p2 hp2 => ⟨by show 3 ≤ sizeLine; decide, fun p4 hp4 => ?_⟩⟩⟩
      have o2 : Old H3 (upd H3 p2 (.tup [bv, z])) := Old.new hp2
      have o4 := Old.new (o := .tup [.non, v3, .ref p2]) hp4
      have o24 := o2.trans o4
      refine q' _ _ ((o1.trans o3).trans o24) ?_
      rw [ka, kb, fa, fb]
      exact RK.tup (.of upd_same) (.cons .n (.cons (r3.mono o24.tm) (.cons (RK.tup (.of (o4 _ _ upd_same)) (.cons (rb.mono (o3.trans o24).tm) (.cons (rz.mono ((o1.trans o3).trans o24).tm) .nil))) .nil)))
    · rw [decide_eq_false c2]
      have c2' : ¬ (Kn.mk g ls).h = "?" := c2
      rw [if_neg c2'] at fb kb
      refine iteF ?_
      rw [fa, fb] at f2 f3; rw [fa] at wfa fda; rw [fb] at wfb fdb
      refine ⟨_, rfl, _, rfl, _, rfl, _, _, z, .mk h ks, .mk g ls, l, rfl, rx, ry, rz, wfa, wfb, f2, f3, by omega, by omega, hs, by omega, by omega, fun v3 H3 o3 r3 => ⟨by show 3 ≤ sizeLine; decide, fun p4 hp4 => ?_⟩⟩
      have o4 := Old.new (o := .tup [.non, v3, .non]) hp4
      refine q' _ _ (o3.trans o4) ?_
      rw [ka, kb, fa, fb]
      exact RK.tup (.of upd_same) (.cons .n (.cons (r3.mono o4.tm) (.cons .n .nil)))
/-! ### made -/
abbrev sMade : Stmt := top 14
def spMade (K : PySem.W.Frag) (m : Nat) : Sp := fun vs H Q _ => ∃ (x y : V) (p : Int) (a b : Kn), vs = [x, y, .int p] ∧ RK K H a.d x ∧ RK K H b.d y ∧ a.wf ∧ b.wf ∧ a.part b = none ∧ a.dep ≤ m ∧ b.dep ≤ m ∧ m ≤ 19 ∧ ∀ (v : V) (H' : Hp), Old H H' → RK K H' (gon m a b (lab p)).d v → Q v H'
theorem scMade : FnScope ["kind", "other", "place"] ["kind", "other", "place"] (defScope sMade) := ⟨rfl, rfl, rfl, by decide +kernel, rfl, by decide +kernel, by decide +kernel⟩
theorem in_side : ("in" : Str) ∈ sides := by decide +kernel
theorem ok_made {m j : Nat} (F : Fun K "made" "made" sMade f fd) (T : Tx mg) (c_going : Cal P w K mg base "going" ["kind", "other", "label"] j (spGo K m)) : FnOk P w K mg base CX0 (j + 1) f fd ["kind", "other", "place"] (spMade K m) := by
  refine F.ok scMade (fun vs H Q E h => ?_) (fun cdv A outer s H vs Q E hr h => ?_)
  · obtain ⟨x, y, p, a, b, rfl, _⟩ := h
    rfl
  obtain ⟨x, y, p, a, b, rfl, rx, ry, wa, wb, pn, da, db, hm, q⟩ := h
  refine' ⟨_, ?n0, ?Z⟩
  case' n0 => refine' pss_one ?n1
  case' n1 => refine' ps_ret ?n2
  case' n2 => refine' pe_cal c_going hr ?n3
  case' n3 => refine' pa ?n4 ?n5
  case n4 => exact pv 0
  case' n5 => refine' pa ?n6 ?n7
  case n6 => exact pv 1
  case' n7 => refine' pa ?n8 ?n9
  case' n8 => refine' pe_tup ?n10
  case' n10 => refine' pa ?n11 ?n12
  case n11 => exact pv 2
  case' n12 => refine' pa ?n13 ?n14
  case n13 => exact pe_str
  case' n14 => refine' pa ?n15 ?n16
  case' n15 => refine' pe_tup ?n17
  case n17 => exact pa_nil
  case n16 => exact pa_nil
  case n9 => exact pa_nil
  refine ⟨_, rfl, _, rfl, _, rfl, by show 0 ≤ sizeLine; decide, fun p1 hp1 => ⟨by show 3 ≤ sizeLine; decide, fun p2 hp2 => ?_⟩⟩
  have o1 : Old H (upd H p1 (.tup [])) := Old.new hp1
  have o2 := Old.new (o := .tup [.int p, .str "in", .ref p1]) hp2
  have o12 := o1.trans o2
  exact ⟨x, y, .ref p2, a, b, lab p, rfl, rx.mono o12.tm, ry.mono o12.tm, RK.tup (.of upd_same) (.cons (.i _) (.cons (.s _) (.cons (RK.tup (.of (o2 _ _ upd_same)) .nil) .nil))), wa, wb, pn, da, db, in_side, by show 0 + m ≤ 900; omega, hm, fun v H' o' rv => q v H' (o12.trans o') rv⟩
end
end L2.K55

end
section
set_option Elab.async false
set_option linter.all false
set_option maxRecDepth 100000
set_option maxHeartbeats 8000000
namespace L2.K55
open PySem PySem.Spec PyProof.Rows L2.Bw L2.Bk
theorem Old.seq {K : PySem.W.Frag} {H H' : Hp} {a : Addr} {xs : List V} (o : Old H H') (h : SqL K H a xs) : SqL K H' a xs := o.gr.seq (fun z => z) h
theorem seq_by {tt : TT} {ta tb u : TS} {D : Ends} {σ : St} {H : Hp} (P : St → Hp → Prop) (h1 : ∀ R : St → Hp → Prop, (∀ σ H, P σ H → R σ H) → tIfS tt ta tb { D with nx := R } σ H) (h2 : ∀ σ H, P σ H → u D σ H) : tSeq (tIfS tt ta tb) u D σ H := h1 (u D) h2
section
variable {P : Program} {w : World} {K : PySem.W.Frag} {mg : Str → Option Value} {base : Heap} {f : Addr} {fd : FuncData}
/-! ### alike -/
abbrev sAlike : Stmt := top 27
def spAlike (K : PySem.W.Frag) (m : Nat) : Sp := fun vs H Q _ => ∃ (x y : V) (d : Dk), vs = [x, y] ∧ RK K H d x ∧ RK K H d y ∧ d.dq < m ∧ d.nr ∧ nob d ∧ ∀ H', Old H H' → Q (.bl true) H'
theorem scAlike : FnScope ["_law_found", "_law_due"] ["_law_found", "_law_due"] (defScope sAlike) := ⟨rfl, rfl, rfl, by decide +kernel, rfl, by decide +kernel, by decide +kernel⟩
theorem all_true : ∀ n, (List.replicate n true).all id = true
  | 0 => rfl
  | n + 1 => by rw [List.replicate_succ, List.all_cons, all_true n]; rfl
theorem ok_alike {m : Nat} (F : Fun K "_law_alike" "_law_alike" sAlike f fd) (T : Tx mg) (c_alike : Cal P w K mg base "_law_alike" ["_law_found", "_law_due"] m (spAlike K m)) : FnOk P w K mg base CX0 (m + 1) f fd ["_law_found", "_law_due"] (spAlike K (m + 1)) := by
  refine F.ok scAlike (fun vs H Q E h => ?_) (fun cdv A outer s H vs Q E hr h => ?_)
  · obtain ⟨x, y, d, rfl, _⟩ := h
    rfl
  obtain ⟨x, y, d, rfl, rx, ry, hd, hnr, hnb, q⟩ := h
  have nd := scAlike.nd
  have q0 := q H (Old.refl _)
  refine' ⟨_, ?n0, ?Z⟩
  case' n0 => refine' pss_cons ?n1 ?n2
  case' n1 => refine' ps_if ?n3 ?n4 ?n5
  case' n3 => refine' pt_cmpR op_isN ?n6 pe_non (nomark _)
  case n6 => exact pv 1
  case' n4 => refine' pss_one ?n7
  case' n7 => refine' ps_ret ?n8
  case' n8 => refine' pe_cmpR op_isN ?n9 pe_non (nomark _)
  case n9 => exact pv 0
  case n5 => exact pss_nil
  case' n2 => refine' pss_cons ?n10 ?n11
  case' n10 => refine' ps_if ?n12 ?n13 ?n14
  case' n12 => refine' pt_val ?n15
  case' n15 => refine' pe_callB (call_isj) rfl T.isinstance boot_isinstance ?n16
  case' n16 => refine' pa ?n17 ?n18
  case n17 => exact pv 1
  case' n18 => refine' pa ?n19 ?n20
  case n19 => exact pe_ty rfl T.int boot_int
  case n20 => exact pa_nil
  case' n13 => refine' pss_one ?n21
  case' n21 => refine' ps_ret ?n22
  case' n22 => refine' pe_and ?n23 ?n24
  case' n23 => refine' pe_callB (call_isj) rfl T.isinstance boot_isinstance ?n25
  case' n25 => refine' pa ?n26 ?n27
  case n26 => exact pv 0
  case' n27 => refine' pa ?n28 ?n29
  case n28 => exact pe_ty rfl T.int boot_int
  case n29 => exact pa_nil
  case' n24 => refine' pe_and ?n30 ?n31
  case' n30 => refine' pe_not ?n32
  case' n32 => refine' pe_callB (call_isj) rfl T.isinstance boot_isinstance ?n33
  case' n33 => refine' pa ?n34 ?n35
  case n34 => exact pv 0
  case' n35 => refine' pa ?n36 ?n37
  case n36 => exact pe_ty rfl T.bool boot_bool
  case n37 => exact pa_nil
  case' n31 => refine' pe_one ?n38
  case' n38 => refine' pe_cmpR (op_eqG hr) ?n39 ?n40 (nomark _)
  case n39 => exact pv 0
  case n40 => exact pv 1
  case n14 => exact pss_nil
  case' n11 => refine' pss_cons ?n41 ?n42
  case' n41 => refine' ps_if ?n43 ?n44 ?n45
  case' n43 => refine' pt_val ?n46
  case' n46 => refine' pe_callB (call_isj) rfl T.isinstance boot_isinstance ?n47
  case' n47 => refine' pa ?n48 ?n49
  case n48 => exact pv 1
  case' n49 => refine' pa ?n50 ?n51
  case n50 => exact pe_ty rfl T.str boot_str
  case n51 => exact pa_nil
  case' n44 => refine' pss_one ?n52
  case' n52 => refine' ps_ret ?n53
  case' n53 => refine' pe_and ?n54 ?n55
  case' n54 => refine' pe_callB (call_isj) rfl T.isinstance boot_isinstance ?n56
  case' n56 => refine' pa ?n57 ?n58
  case n57 => exact pv 0
  case' n58 => refine' pa ?n59 ?n60
  case n59 => exact pe_ty rfl T.str boot_str
  case n60 => exact pa_nil
  case' n55 => refine' pe_one ?n61
  case' n61 => refine' pe_cmpR (op_eqG hr) ?n62 ?n63 (nomark _)
  case n62 => exact pv 0
  case n63 => exact pv 1
  case n45 => exact pss_nil
  case' n42 => refine' pss_cons ?n64 ?n65
  case' n64 => refine' ps_if ?n66 ?n67 ?n68
  case' n66 => refine' PW.pt ?n69
  case' n69 => refine' pw_or ?n70 ?n71
  case' n70 => refine' pt_not ?n72
  case' n72 => refine' pt_val ?n73
  case' n73 => refine' pe_callB (call_isj) rfl T.isinstance boot_isinstance ?n74
  case' n74 => refine' pa ?n75 ?n76
  case n75 => exact pv 0
  case' n76 => refine' pa ?n77 ?n78
  case n77 => exact pe_ty rfl T.tuple boot_tuple
  case n78 => exact pa_nil
  case' n71 => refine' pw_or1 ?n79
  case' n79 => refine' pt_cmpR (op_neG hr) ?n80 ?n81 (nomark _)
  case' n80 => refine' pe_callB (call_lenA) rfl T.len boot_len ?n82
  case' n82 => refine' pa ?n83 ?n84
  case n83 => exact pv 0
  case n84 => exact pa_nil
  case' n81 => refine' pe_callB (call_lenA) rfl T.len boot_len ?n85
  case' n85 => refine' pa ?n86 ?n87
  case n86 => exact pv 1
  case n87 => exact pa_nil
  case' n67 => refine' pss_one ?n88
  case' n88 => refine' ps_ret ?n89
  case n89 => exact pe_bl
  case n68 => exact pss_nil
  case' n65 => refine' pss_one ?n90
  case' n90 => refine' ps_ret ?n91
  case' n91 => refine' pe_callB (call_all rfl) rfl T.all boot_all ?n92
  case' n92 => refine' pa ?n93 ?n94
  case' n93 => refine' pe_lc (te := tCall (spAlike K m) [] E0 (tCons (tOp (rIx K) (tVar 1) (tVar 0)) (tCons (tOp (rIx K) (tVar 2) (tVar 0)) tNil))) (k := 1) (N := ["_law_k", "_law_found", "_law_due"]) (lc_mk rfl rfl rfl rfl rfl rfl) rfl ?n95 (fun _ _ _ _ => ?n96) (fun _ _ _ _ => ?n97) (fun _ _ _ _ => ?n98)
  case' n95 => refine' pi_range1 rfl T.range ?n99
  case' n99 => refine' pa ?n100 ?n101
  case' n100 => refine' pe_callB (call_lenA) rfl T.len boot_len ?n102
  case' n102 => refine' pa ?n103 ?n104
  case n103 => exact pv 1
  case n104 => exact pa_nil
  case n101 => exact pa_nil
  case n96 => exact pg_name (i := 0) (by show List.Nodup (["_law_k", "_law_found", "_law_due"] : List Str); decide +kernel) rfl (Or.inl rfl)
  case n97 => exact pts_nil
  case n98 =>
    refine' pe_cal c_alike hr ?n105
    case' n105 => refine' pa ?n106 ?n107
    case' n106 => refine' pe_ix ix_seq ?n108 ?n109 (fun _ _ => rfl)
    case n108 => exact pv 1
    case n109 => exact pv 0
    case' n107 => refine' pa ?n110 ?n111
    case' n110 => refine' pe_ix ix_seq ?n112 ?n113 (fun _ _ => rfl)
    case n112 => exact pv 2
    case n113 => exact pv 0
    case n111 => exact pa_nil
  case n94 => exact pa_nil
  cases d with
  | non =>
    cases (show x = .non by rw [RK] at rx; exact rx)
    cases (show y = .non by rw [RK] at ry; exact ry)
    exact ⟨_, rfl, rfl, _, rfl, iteT ⟨_, rfl, rfl, q0⟩⟩
  | bl z => rw [nob] at hnb; exact hnb.elim
  | int z =>
    cases (show x = .int z by rw [RK] at rx; exact rx)
    cases (show y = .int z by rw [RK] at ry; exact ry)
    refine ⟨_, rfl, rfl, _, rfl, iteF ?_⟩
    refine ⟨_, rfl, _, _, _, rfl, i_ii _, _, rfl, iteT ?_⟩
    refine ⟨_, rfl, _, _, _, rfl, i_ii _, _, rfl, iteT ?_⟩
    refine ⟨_, rfl, _, _, _, rfl, i_ib _, _, rfl, _, rfl, iteT ?_⟩
    refine ⟨_, rfl, _, rfl, .inr (.inl ⟨rfl, ?_⟩)⟩
    rw [decide_eq_true rfl]; exact q0
  | str z =>
    cases (show x = .str z by rw [RK] at rx; exact rx)
    cases (show y = .str z by rw [RK] at ry; exact ry)
    refine ⟨_, rfl, rfl, _, rfl, iteF ?_⟩
    refine ⟨_, rfl, _, _, _, rfl, i_si _, _, rfl, iteF ?_⟩
    refine ⟨_, rfl, _, _, _, rfl, i_ss _, _, rfl, iteT ?_⟩
    refine ⟨_, rfl, _, _, _, rfl, i_ss _, _, rfl, iteT ?_⟩
    refine ⟨_, rfl, _, rfl, .inr (.inl ⟨rfl, ?_⟩)⟩
    rw [decide_eq_true rfl]; exact q0
  | tup ds =>
    obtain ⟨a, us, rfl, ha, ra⟩ := RK.get rx
    obtain ⟨b, ws, rfl, hb, rb⟩ := RK.get ry
    have l1 := ra.length
    have l2 := rb.length
    obtain ⟨hz, hns⟩ := nr_tup hnr
    rw [dq_tup] at hd
    have hnb' : nobs ds := by rw [nob] at hnb; exact hnb
    refine ⟨_, rfl, rfl, _, rfl, iteF ?_⟩
    refine ⟨_, rfl, _, _, _, rfl, i_ti hb, _, rfl, iteF ?_⟩
    refine ⟨_, rfl, _, _, _, rfl, i_ts hb, _, rfl, iteF ?_⟩
    refine ⟨_, rfl, _, _, _, rfl, i_tt ha, _, rfl, iteF ?_⟩
    refine ⟨_, rfl, .inl ⟨a, _, rfl, .inr ha.sq, _, rfl, .inl ⟨b, _, rfl, .inr hb.sq, .inr (.inl ⟨rfl, _, rfl, iteNS (by rw [← l1, ← l2]) ?_⟩)⟩⟩⟩
    refine ⟨_, rfl, .inl ⟨b, _, rfl, .inr hb.sq, _, rfl, by omega, by omega, fun D hD => ?_⟩⟩
    have neD : ∀ b o, H b = some o → b ≠ D := fun b o e => ne_of_none e hD
    refine lc_by0 (n := ws.length) (fun i σ H2 => ∃ k1 : Option V, σ = [k1, some (.ref a), some (.ref b)] ∧ Old H H2 ∧ H2 D = some (.lst ((List.replicate i true).map V.bl))) ⟨none, rfl, Old.new hD, upd_same⟩ ?_ ?_ ?_ ?_
    · intro i σ H2 hi _; exact hi
    · intro σ H2 _; exact Nat.le_refl _
    · intro i σ H2 hi hv x1 H3 hy
      obtain ⟨e1, e2⟩ := hy
      subst e1 e2
      obtain ⟨k1, rfl, o2, hD2⟩ := hv
      have hjd : i < ds.length := by omega
      obtain ⟨u, eu, q1⟩ := ra.get (List.getElem?_eq_getElem hjd)
      obtain ⟨v, ev, q2⟩ := rb.get (List.getElem?_eq_getElem hjd)
      have k := dqs_mem (List.getElem_mem hjd)
      refine ⟨_, rfl, _, rfl, .inr (.inl ⟨a, us, _, u, rfl, rfl, (ha.mono o2.tm).sq, at_nat eu, _, rfl, _, rfl, .inr (.inl ⟨b, ws, _, v, rfl, rfl, (hb.mono o2.tm).sq, at_nat ev, u, v, ds[i], rfl, q1.mono o2.tm, q2.mono o2.tm, by omega, nrs_mem hns _ (List.getElem_mem hjd), nobs_mem hnb' _ (List.getElem_mem hjd), fun H4 o4 => ?_⟩)⟩)⟩
      refine ⟨_, o4 _ _ hD2, smallM (by rw [List.length_map, List.length_replicate]; omega), nx hi ⟨_, rfl, fun b o e => by rw [upd_ne (neD b o e)]; exact o4 _ _ (o2 b o e), ?_⟩⟩
      rw [upd_same, List.replicate_succ', List.map_append]
      rfl
    · intro σ H2 hv
      obtain ⟨k1, rfl, o2, hD2⟩ := hv
      refine ⟨D, _, rfl, SqL.of hD2, ?_⟩
      rw [all_true]
      exact q H2 o2
end
end L2.K55

end
section
set_option Elab.async false
set_option linter.all false
set_option maxRecDepth 100000
set_option maxHeartbeats 8000000
namespace L2.K55
open PySem PySem.Spec PyProof.Rows L2.Bw L2.Bk
section
variable {P : Program} {w : World} {K : PySem.W.Frag} {mg : Str → Option Value} {base : Heap} {f : Addr} {fd : FuncData}
structure Ix (mg : Str → Option Value) (t0 t1 t2 : Tok) : Prop where
  ask : mg "ASK" = some (.int 0 t0)
  body : mg "BODY" = some (.int 1 t1)
  tag : mg "TAG" = some (.int 2 t2)
def isBr : Lk → Bool
  | .br _ _ _ => true
  | .mk _ _ _ _ => false
theorem lk_get' {H : Hp} {x : Lk} {v : V} (r : RK K H x.d v) : ∃ va v0 v1 v2, v = .ref va ∧ Tp K H va [v0, v1, v2] ∧ RK K H (ogd x.ask) v0 ∧ RK K H x.bd v1 ∧ RK K H (ogd x.tag) v2 := by
  rw [lk_d] at r
  exact lk_get r
/-- the head of a body -/
def Lk.bh : Lk → Str
  | .mk _ h _ _ => h
  | .br _ _ _ => "broken"
theorem bd_get {H : Hp} {x : Lk} {v : V} (r : RK K H x.bd v) : ∃ a us, v = .ref a ∧ Tp K H a (.str (Lk.bh x) :: us) := by
  cases x with
  | mk a h ls t =>
    obtain ⟨b, us, rfl, hb, _⟩ := RK.kind (show RK K H (.tup (.str h :: Lk.ds ls)) v from r)
    exact ⟨b, us, rfl, hb⟩
  | br a t k =>
    obtain ⟨b, us, rfl, hb, _⟩ := RK.kind (show RK K H (.tup (.str "broken" :: [gdd t, gdd k])) v from r)
    exact ⟨b, us, rfl, hb⟩
theorem bh_br {n : Nat} {x : Lk} (h : x.ok n) : decide (Lk.bh x = "broken") = isBr x := by
  cases n with
  | zero => cases x <;> exact h.elim
  | succ n =>
    cases x with
    | mk a g ls t => exact decide_eq_false h.2.2.2.2.2
    | br a t k => exact decide_eq_true rfl
/-! ### is_broken -/
abbrev sBrk : Stmt := top 19
def spBrk (K : PySem.W.Frag) : Sp := fun vs H Q _ => ∃ (x : V) (a : Lk) (n : Nat), vs = [x] ∧ RK K H a.d x ∧ a.ok n ∧ Q (.bl (isBr a)) H
theorem scBrk : FnScope ["look"] ["look"] (defScope sBrk) := ⟨rfl, rfl, rfl, by decide +kernel, rfl, by decide +kernel, by decide +kernel⟩
theorem ok_brk {m : Nat} {t0 t1 t2 : Tok} (F : Fun K "is_broken" "is_broken" sBrk f fd) (T : Tx mg) (I : Ix mg t0 t1 t2) : FnOk P w K mg base CX0 (m + 1) f fd ["look"] (spBrk K) := by
  refine F.ok scBrk (fun vs H Q E h => ?_) (fun cdv A outer s H vs Q E hr h => ?_)
  · obtain ⟨x, a, n, rfl, _⟩ := h
    rfl
  obtain ⟨x, a, n, rfl, rx, oka, q⟩ := h
  have m_BODY := I.body
  obtain ⟨va, v0, v1, v2, rfl, hva, r0, r1, r2⟩ := lk_get' rx
  obtain ⟨vb, us, rfl, hvb⟩ := bd_get r1
  refine' ⟨_, ?n0, ?Z⟩
  case' n0 => refine' pss_one ?n1
  case' n1 => refine' ps_ret ?n2
  case' n2 => refine' pe_cmpR (op_eqG hr) ?n3 ?n4 (nomark _)
  case' n3 => refine' pe_ix ix_seq ?n5 ?n6 (fun _ _ => rfl)
  case' n5 => refine' pe_ix ix_seq ?n7 ?n8 (fun _ _ => rfl)
  case n7 => exact pv 0
  case n8 => exact pe_gint rfl m_BODY
  case n6 => exact pe_int
  case n4 => exact pe_str
  refine ⟨_, rfl, .inr (.inl ⟨va, _, 1, .ref vb, rfl, rfl, hva.sq, (by exact atI_nat (j := 1) rfl), .inr (.inl ⟨vb, _, 0, .str (Lk.bh a), rfl, rfl, hvb.sq, (by exact atI_nat (j := 0) rfl), .inr (.inl ⟨rfl, ?_⟩)⟩)⟩)⟩
  rw [dec_s, bh_br oka]
  exact q
/-! ### laid_parts -/
abbrev sLps : Stmt := top 24
def spLps (K : PySem.W.Frag) (n : Nat) : Sp := fun vs H Q _ => ∃ (x y : V) (h : Str) (ls ms : List Lk), vs = [x, y] ∧ RK K H (.tup (.str h :: Lk.ds ls)) x ∧ RK K H (.tup (.str h :: Lk.ds ms)) y ∧ arity h = some ls.length ∧ arity h = some ms.length ∧ (∀ z ∈ ls, z.ok n) ∧ (∀ z ∈ ms, z.ok n) ∧ n ≤ 19 ∧
  (∀ i (h0 : i < (stepsOf h).length) (h1 : i < ls.length) (h2 : i < ms.length), if (stepsOf h)[i] = "arg" then cmpL n ms[i] ls[i] else cmpL n ls[i] ms[i]) ∧
  ∀ (r : Addr) (us : List V) (H' : Hp), Old H H' → H' r = some (.lst us) → RKs K H' (Lk.ds (lays (lay n) (stepsOf h) ls ms)) us → Q (.ref r) H'
def spLaid (K : PySem.W.Frag) (n : Nat) : Sp := fun vs H Q _ => ∃ (x y : V) (a b : Lk), vs = [x, y] ∧ RK K H a.d x ∧ RK K H b.d y ∧ a.ok n ∧ b.ok n ∧ cmpL n a b ∧ n ≤ 19 ∧ ∀ (v : V) (H' : Hp), Old H H' → RK K H' (lay n a b).d v → Q v H'
theorem scLps : FnScope ["body", "other"] ["body", "other"] (defScope sLps) := ⟨rfl, rfl, rfl, by decide +kernel, rfl, by decide +kernel, by decide +kernel⟩
theorem to_two : arity "to" = some 2 := by decide +kernel
theorem no_arg : ∀ h ∈ (["whole", "truth", "?", "row", "to", "pair"] : List Str), h ≠ "to" → ∀ s ∈ stepsOf h, s ≠ "arg" := by decide +kernel
theorem ok_lps {n j : Nat} (F : Fun K "laid_parts" "laid_parts" sLps f fd) (T : Tx mg) (c_laid : Cal P w K mg base "laid" ["one", "other"] j (spLaid K n)) : FnOk P w K mg base CX0 (j + 1) f fd ["body", "other"] (spLps K n) := by
  refine F.ok scLps (fun vs H Q E h => ?_) (fun cdv A outer s H vs Q E hr h => ?_)
  · obtain ⟨x, y, h, ls, ms, rfl, _⟩ := h
    rfl
  obtain ⟨x, y, h, ls, ms, rfl, rx, ry, al, am, okl, okm, hn, cm, q⟩ := h
  have nd := scLps.nd
  obtain ⟨xa, us, rfl, ha, ru⟩ := RK.kind rx
  obtain ⟨xb, ws, rfl, hb, rw'⟩ := RK.kind ry
  have lu := ru.length
  have lw := rw'.length
  rw [lds_length] at lu lw
  have sl := steps_len al
  have few := arity_le al
  have elm : ls.length = ms.length := by rw [al] at am; exact Option.some.inj am
  refine' ⟨_, ?n0, ?Z⟩
  case' n0 => refine' pss_cons ?n1 ?n2
  case' n1 => refine' ps_if ?n3 ?n4 ?n5
  case' n3 => refine' pt_cmpR (op_eqG hr) ?n6 ?n7 (nomark _)
  case' n6 => refine' pe_ix ix_seq ?n8 ?n9 (fun _ _ => rfl)
  case n8 => exact pv 0
  case n9 => exact pe_int
  case n7 => exact pe_str
  case' n4 => refine' pss_one ?n10
  case' n10 => refine' ps_ret ?n11
  case' n11 => refine' pe_lst ?n12
  case' n12 => refine' pa ?n13 ?n14
  case' n13 => refine' pe_cal c_laid hr ?n15
  case' n15 => refine' pa ?n16 ?n17
  case' n16 => refine' pe_ix ix_seq ?n18 ?n19 (fun _ _ => rfl)
  case n18 => exact pv 1
  case n19 => exact pe_int
  case' n17 => refine' pa ?n20 ?n21
  case' n20 => refine' pe_ix ix_seq ?n22 ?n23 (fun _ _ => rfl)
  case n22 => exact pv 0
  case n23 => exact pe_int
  case n21 => exact pa_nil
  case' n14 => refine' pa ?n24 ?n25
  case' n24 => refine' pe_cal c_laid hr ?n26
  case' n26 => refine' pa ?n27 ?n28
  case' n27 => refine' pe_ix ix_seq ?n29 ?n30 (fun _ _ => rfl)
  case n29 => exact pv 0
  case n30 => exact pe_int
  case' n28 => refine' pa ?n31 ?n32
  case' n31 => refine' pe_ix ix_seq ?n33 ?n34 (fun _ _ => rfl)
  case n33 => exact pv 1
  case n34 => exact pe_int
  case n32 => exact pa_nil
  case n25 => exact pa_nil
  case n5 => exact pss_nil
  case' n2 => refine' pss_one ?n35
  case' n35 => refine' ps_ret ?n36
  case' n36 => refine' pe_lc (g := gTup K 2 (gCons (gName 0) (gCons (gName 1) gNil))) (k := 2) (N := ["inner", "beside", "body", "other"]) (lc_mk rfl rfl rfl rfl rfl rfl) rfl ?n37 (fun _ _ _ _ => ?n38) (fun _ _ _ _ => ?n39) (fun _ _ _ _ => ?n40)
  case' n37 => refine' pi_zipt rfl T.zip ?n41
  case' n41 => refine' pa ?n42 ?n43
  case' n42 => refine' pe_slice sl_k ?n44 ?n45 po_none
  case n44 => exact pv 0
  case' n45 => refine' po_some ?n46
  case n46 => exact pe_int
  case' n43 => refine' pa ?n47 ?n48
  case' n47 => refine' pe_slice sl_k ?n49 ?n50 po_none
  case n49 => exact pv 1
  case' n50 => refine' po_some ?n51
  case n51 => exact pe_int
  case n48 => exact pa_nil
  case n38 =>
    refine' pg_tup rfl ?n52
    case' n52 => refine' pgs_cons ?n53 ?n54
    case n53 => exact pg_name (i := 0) (by show List.Nodup (["inner", "beside", "body", "other"] : List Str); decide +kernel) rfl (Or.inl rfl)
    case' n54 => refine' pgs_cons ?n55 ?n56
    case n55 => exact pg_name (i := 1) (by show List.Nodup (["inner", "beside", "body", "other"] : List Str); decide +kernel) rfl (Or.inl rfl)
    case n56 => exact pgs_nil
  case n39 => exact pts_nil
  case n40 =>
    refine' pe_cal c_laid hr ?n57
    case' n57 => refine' pa ?n58 ?n59
    case n58 => exact pv 0
    case' n59 => refine' pa ?n60 ?n61
    case n60 => exact pv 1
    case n61 => exact pa_nil
  refine ⟨_, rfl, .inr (.inl ⟨xa, _, 0, .str h, rfl, rfl, ha.sq, (by exact atI_nat (j := 0) rfl), .inr (.inl ⟨rfl, _, rfl, ?_⟩)⟩)⟩
  rw [dec_s]
  by_cases c : h = "to"
  · rw [decide_eq_true c]
    subst c
    have l2 : ls.length = 2 := by rw [to_two] at al; exact (Option.some.inj al).symm
    have es : stepsOf "to" = (["arg", "res"] : List Str) := by decide +kernel
    match ls, ms, l2, elm with
    | [l0, l1], [m0, m1], _, _ =>
    obtain ⟨u0, r0, rfl, hu0, u1, r1, rfl, hu1, e1⟩ := ru
    cases (show r1 = [] from e1)
    obtain ⟨w0, q0, rfl, hw0, w1, q1, rfl, hw1, e2⟩ := rw'
    cases (show q1 = [] from e2)
    rw [es] at cm q
    have cm0 := cm 0 (by decide) (by simp) (by simp)
    have cm1 := cm 1 (by decide) (by simp) (by simp)
    have ne : ¬ (("res" : Str) = "arg") := by decide +kernel
    rw [if_pos (by rfl)] at cm0
    rw [if_neg (by exact ne)] at cm1
    refine iteT ?_
    refine ⟨_, rfl, .inr (.inl ⟨xb, _, 1, w0, rfl, rfl, hb.sq, (by exact atI_nat (j := 1) rfl), _, rfl, .inr (.inl ⟨xa, _, 1, u0, rfl, rfl, ha.sq, (by exact atI_nat (j := 1) rfl), w0, u0, m0, l0, rfl, hw0, hu0, okm _ (by simp), okl _ (by simp), cm0, hn, fun v1 H1 o1 r1 => ?_⟩)⟩)⟩
    refine ⟨_, rfl, .inr (.inl ⟨xa, _, 2, u1, rfl, rfl, (ha.mono o1.tm).sq, (by exact atI_nat (j := 2) rfl), _, rfl, .inr (.inl ⟨xb, _, 2, w1, rfl, rfl, (hb.mono o1.tm).sq, (by exact atI_nat (j := 2) rfl), u1, w1, l1, m1, rfl, hu1.mono o1.tm, hw1.mono o1.tm, okl _ (by simp), okm _ (by simp), cm1, hn, fun v2 H2 o2 r2 => ?_⟩)⟩)⟩
    refine ⟨by show 2 ≤ sizeLine; decide, fun p hp => ?_⟩
    have o3 : Old H2 (upd H2 p (.lst [v1, v2])) := Old.new hp
    refine q p _ _ ((o1.trans o2).trans o3) upd_same ?_
    have e3 : lays (lay n) ["arg", "res"] [l0, l1] [m0, m1] = [lay n m0 l0, lay n l1 m1] := by
      show (if ("arg" : Str) = "arg" then lay n m0 l0 else lay n l0 m0) :: (if ("res" : Str) = "arg" then lay n m1 l1 else lay n l1 m1) :: [] = _
      rw [if_pos rfl, if_neg ne]
    rw [e3]
    exact .cons (r1.mono (o2.trans o3).tm) (.cons (r2.mono o3.tm) .nil)
  · rw [decide_eq_false c]
    refine iteF ?_
    have na := no_arg h (heads_of al) c
    refine ⟨_, rfl, _, rfl, sl_tail ha.sq fun p1 hp1 => ?_⟩
    have o1 : Old H (upd H p1 (.tup us)) := Old.new hp1
    have hp1' : upd H p1 (.tup us) p1 = some (.tup us) := upd_same
    generalize upd H p1 (.tup us) = H1 at o1 hp1' ⊢
    refine ⟨_, rfl, _, rfl, sl_tail (hb.mono o1.tm).sq fun p2 hp2 => ?_⟩
    have o2 : Old H1 (upd H1 p2 (.tup ws)) := Old.new hp2
    have hp2' : upd H1 p2 (.tup ws) p2 = some (.tup ws) := upd_same
    have hp12 := o2 _ _ hp1'
    have o12 := o1.trans o2
    generalize upd H1 p2 (.tup ws) = H2 at o2 hp2' hp12 o12 ⊢
    refine ⟨p1, p2, us, ws, rfl, SqT.of hp12, SqT.of hp2', fun D hD => ?_⟩
    have neD : ∀ b o, H2 b = some o → b ≠ D := fun b o e => ne_of_none e hD
    have ru2 := ru.mono o12.tm
    have rw2 := rw'.mono o12.tm
    refine lc_by0 (n := us.length) (fun i σ H3 => ∃ (k1 k2 : Option V) (zs : List V), σ = [k1, k2, some (.ref xa), some (.ref xb)] ∧ Old H2 H3 ∧ H3 D = some (.lst zs) ∧ RKs K H3 (Lk.ds ((lays (lay n) (stepsOf h) ls ms).take i)) zs) ⟨none, none, [], rfl, Old.new hD, upd_same, rfl⟩ ?_ ?_ ?_ ?_
    · intro i σ H3 hi hv
      obtain ⟨k1, k2, zs, rfl, o3, hD3, rz⟩ := hv
      exact ⟨_, _, SqT.of (o3 _ _ hp12), SqT.of (o3 _ _ hp2'), hi, by omega⟩
    · intro σ H3 hv
      obtain ⟨k1, k2, zs, rfl, o3, hD3, rz⟩ := hv
      exact ⟨_, _, SqT.of (o3 _ _ hp12), SqT.of (o3 _ _ hp2'), rfl⟩
    · intro i σ H3 hi hv v H4 hy
      obtain ⟨k1, k2, zs, rfl, o3, hD3, rz⟩ := hv
      obtain ⟨t, x, y, rfl, ht, rfl, hx, hyy⟩ := hy
      have ex := hx _ (SqT.of (o3 _ _ hp12))
      have ey := hyy _ (SqT.of (o3 _ _ hp2'))
      have i0 : i < (stepsOf h).length := by omega
      have i1 : i < ls.length := by omega
      have i2 : i < ms.length := by omega
      obtain ⟨d1, e1, rd1⟩ := ru2.getV ex
      obtain ⟨d2, e2, rd2⟩ := rw2.getV ey
      rw [lds_get i1] at e1
      rw [lds_get i2] at e2
      cases e1
      cases e2
      have o4 : Old H3 (upd H3 t (.tup [x, y])) := Old.new ht
      have o34 := o3.trans o4
      have lz := rz.length
      rw [lds_length, List.length_take] at lz
      have gt := lays_take (f := lay n) i0 i1 i2
      have nai := na _ (List.getElem_mem i0)
      rw [if_neg nai] at gt
      have cmi := cm i i0 i1 i2
      rw [if_neg nai] at cmi
      refine ⟨t, _, rfl, SqT.of upd_same, rfl, _, _, rfl, _, _, rfl, rfl, _, rfl, _, rfl, x, y, ls[i], ms[i], rfl, rd1.mono o34.tm, rd2.mono o34.tm, okl _ (List.getElem_mem i1), okm _ (List.getElem_mem i2), cmi, hn, fun v H5 o5 rv => ?_⟩
      have hD5 := o5 _ _ (o4 _ _ hD3)
      have tm : Tm H5 (upd H5 D (.lst (zs ++ [v]))) := fun b xs e => by
        rw [upd_ne]
        · exact e
        · intro z
          rw [z, hD5] at e
          cases e
      refine ⟨_, hD5, smallM (by omega), nx hi ⟨_, _, _, rfl, fun b o e => by rw [upd_ne (neD b o e)]; exact o5 _ _ (o34 b o e), upd_same, ?_⟩⟩
      rw [gt, lds_append]
      exact ((rz.mono (o4.trans o5).tm).mono tm).append (.cons (rv.mono tm) .nil)
    · intro σ H3 hv
      obtain ⟨k1, k2, zs, rfl, o3, hD3, rz⟩ := hv
      have gl := lays_length (lay n) (stepsOf h) ls ms
      have el2 : us.length = (lays (lay n) (stepsOf h) ls ms).length := by omega
      rw [el2, List.take_length] at rz
      exact q D zs H3 (o12.trans o3) hD3 rz
/-! ### laid_bodies -/
abbrev sLbod : Stmt := top 23
def spLbod (K : PySem.W.Frag) (n : Nat) : Sp := fun vs H Q _ => ∃ (x y : V) (a : Option Gd) (h : Str) (ls : List Lk) (t : Option Gd) (b : Lk), vs = [x, y] ∧ RK K H (.tup (.str h :: Lk.ds ls)) x ∧ RK K H b.bd y ∧ (Lk.mk a h ls t).ok (n + 1) ∧ b.ok (n + 1) ∧ n ≤ 18 ∧
  cmpB n h ls b ∧
  ∀ (v : V) (H' : Hp), Old H H' → RK K H' (bothL (lay n) a h ls b).bd v → Q v H'
theorem scLbod : FnScope ["body", "other"] ["body", "other"] (defScope sLbod) := ⟨rfl, rfl, rfl, by decide +kernel, rfl, by decide +kernel, by decide +kernel⟩
theorem same_dec {h : Str} {ls : List Lk} {us : List V} (e : h = "same" → ls = []) (l : ls.length = us.length) : (decide (h = "same") && us.isEmpty) = decide (h = "same") := by
  by_cases c : h = "same"
  · have : us = [] := List.length_eq_zero_iff.mp (by rw [← l, e c]; rfl)
    subst this
    simp
  · rw [decide_eq_false c, Bool.false_and]
theorem ok_lbod {n j : Nat} {sa : Addr} (F : Fun K "laid_bodies" "laid_bodies" sLbod f fd) (T : Tx mg) (m_SAME : mg "SAME" = some (.ref sa)) (kS : Kt K sa [.str "same"]) (c_body_with : Cal P w K mg base "body_with" ["head", "some"] 1 (spBw K)) (c_laid_parts : Cal P w K mg base "laid_parts" ["body", "other"] (j + 1) (spLps K n)) : FnOk P w K mg base CX0 (j + 2) f fd ["body", "other"] (spLbod K n) := by
  refine F.ok scLbod (fun vs H Q E h => ?_) (fun cdv A outer s H vs Q E hr h => ?_)
  · obtain ⟨x, y, a, h, ls, t, b, rfl, _⟩ := h
    rfl
  obtain ⟨x, y, a, h, ls, t, b, rfl, rx, ry, oka, okb, hn, cm, q⟩ := h
  have nd := scLbod.nd
  obtain ⟨k1, k2, k3, k4, k5, k6⟩ := oka
  obtain ⟨xa, us, rfl, ha, ru⟩ := RK.kind rx
  have lu := ru.length
  rw [lds_length] at lu
  refine' ⟨_, ?n0, ?Z⟩
  case' n0 => refine' pss_cons ?n1 ?n2
  case' n1 => refine' ps_if ?n3 ?n4 ?n5
  case' n3 => refine' pt_cmpR (op_eqG hr) ?n6 ?n7 (nomark _)
  case n6 => exact pv 0
  case n7 => exact pe_gref rfl m_SAME
  case' n4 => refine' pss_one ?n8
  case' n8 => refine' ps_ret ?n9
  case n9 => exact pv 1
  case n5 => exact pss_nil
  case' n2 => refine' pss_cons ?n10 ?n11
  case' n10 => refine' ps_if ?n12 ?n13 ?n14
  case' n12 => refine' pt_cmpR (op_eqG hr) ?n15 ?n16 (nomark _)
  case n15 => exact pv 1
  case n16 => exact pe_gref rfl m_SAME
  case' n13 => refine' pss_one ?n17
  case' n17 => refine' ps_ret ?n18
  case n18 => exact pv 0
  case n14 => exact pss_nil
  case' n11 => refine' pss_cons ?n19 ?n20
  case' n19 => refine' ps_if ?n21 ?n22 ?n23
  case' n21 => refine' pt_cmpR (op_eqG hr) ?n24 ?n25 (nomark _)
  case' n24 => refine' pe_ix ix_seq ?n26 ?n27 (fun _ _ => rfl)
  case n26 => exact pv 1
  case n27 => exact pe_int
  case n25 => exact pe_str
  case' n22 => refine' pss_one ?n28
  case' n28 => refine' ps_ret ?n29
  case n29 => exact pv 1
  case n23 => exact pss_nil
  case' n20 => refine' pss_one ?n30
  case' n30 => refine' ps_ret ?n31
  case' n31 => refine' pe_cal c_body_with hr ?n32
  case' n32 => refine' pa ?n33 ?n34
  case' n33 => refine' pe_ix ix_seq ?n35 ?n36 (fun _ _ => rfl)
  case n35 => exact pv 0
  case n36 => exact pe_int
  case' n34 => refine' pa ?n37 ?n38
  case' n37 => refine' pe_cal c_laid_parts hr ?n39
  case' n39 => refine' pa ?n40 ?n41
  case n40 => exact pv 0
  case' n41 => refine' pa ?n42 ?n43
  case n42 => exact pv 1
  case n43 => exact pa_nil
  case n38 => exact pa_nil
  refine ⟨_, rfl, .inr (.inr ⟨_, .heads ha.sq (.inr kS), _, rfl, ?_⟩)⟩
  rw [same_dec k5 lu]
  cases b with
  | br b0 bt bk =>
    obtain ⟨xb, ws, rfl, hb⟩ := bd_get ry
    have hb' : Tp K H xb (.str "broken" :: ws) := hb
    by_cases c1 : h = "same"
    · rw [decide_eq_true c1]
      exact iteT ⟨_, rfl, q _ H (Old.refl _) ry⟩
    rw [decide_eq_false c1]
    refine iteF ?_
    refine ⟨_, rfl, .inr (.inr ⟨_, .heads hb'.sq (.inr kS), _, rfl, ?_⟩)⟩
    have e : (decide (("broken" : Str) = "same") && ws.isEmpty) = false := by rw [decide_eq_false (by decide +kernel), Bool.false_and]
    rw [e]
    refine iteF ?_
    refine ⟨_, rfl, .inr (.inl ⟨xb, _, 0, .str "broken", rfl, rfl, hb'.sq, (by exact atI_nat (j := 0) rfl), .inr (.inl ⟨rfl, _, rfl, ?_⟩)⟩)⟩
    rw [dec_s, decide_eq_true rfl]
    exact iteT ⟨_, rfl, q _ H (Old.refl _) ry⟩
  | mk b0 g ms t2 =>
    obtain ⟨g1, g2, g3, g4, g5, g6⟩ := okb
    have ry' : RK K H (.tup (.str g :: Lk.ds ms)) y := ry
    obtain ⟨xb, ws, rfl, hb, rw'⟩ := RK.kind ry'
    have lw := rw'.length
    rw [lds_length] at lw
    have eb : bothL (lay n) a h ls (.mk b0 g ms t2) = if h = "same" then .mk a g ms t2 else if g = "same" then .mk a h ls t2 else .mk a (wrapH h (lays (lay n) (stepsOf h) ls ms)) (wrapL (lays (lay n) (stepsOf h) ls ms)) t2 := rfl
    by_cases c1 : h = "same"
    · rw [decide_eq_true c1]
      rw [eb, if_pos c1] at q
      exact iteT ⟨_, rfl, q _ H (Old.refl _) ry'⟩
    rw [decide_eq_false c1]
    rw [if_neg c1] at eb
    refine iteF ?_
    refine ⟨_, rfl, .inr (.inr ⟨_, .heads hb.sq (.inr kS), _, rfl, ?_⟩)⟩
    rw [same_dec g5 lw]
    by_cases c2 : g = "same"
    · rw [decide_eq_true c2]
      rw [eb, if_pos c2] at q
      exact iteT ⟨_, rfl, q _ H (Old.refl _) rx⟩
    rw [decide_eq_false c2]
    rw [eb, if_neg c2] at q
    refine iteF ?_
    refine ⟨_, rfl, .inr (.inl ⟨xb, _, 0, .str g, rfl, rfl, hb.sq, (by exact atI_nat (j := 0) rfl), .inr (.inl ⟨rfl, _, rfl, ?_⟩)⟩)⟩
    rw [dec_s, decide_eq_false g6]
    refine iteF ?_
    obtain ⟨ehg, al, am, cmi⟩ := cm c1 c2
    subst ehg
    refine ⟨_, rfl, .inr (.inl ⟨xa, _, 0, .str h, rfl, rfl, ha.sq, (by exact atI_nat (j := 0) rfl), _, rfl, _, rfl, _, _, h, ls, ms, rfl, rx, ry', al, am, k4, g4, by omega, cmi, fun r zs H1 o1 hr1 rz => ?_⟩)⟩
    refine ⟨h, r, _, zs, rfl, hr1, rz, ?_, ?_, fun v H' o' rv => q v H' (o1.trans o') rv⟩
    · have := lays_length (lay n) (stepsOf h) ls ms
      omega
    · exact lays_mem (p := fun z => z.d.dq ≤ 61) fun x hx y hy => by
        have e1 := lk_dq (lay_ok n x y (k4 x hx) (g4 y hy))
        have e2 := lk_dq (lay_ok n y x (g4 y hy) (k4 x hx))
        exact ⟨by omega, by omega⟩
/-! ### both -/
abbrev sBoth : Stmt := top 22
def spBoth (K : PySem.W.Frag) (n : Nat) : Sp := fun vs H Q _ => ∃ (x y : V) (a : Option Gd) (h : Str) (ls : List Lk) (t : Option Gd) (b : Lk), vs = [x, y] ∧ RK K H (Lk.mk a h ls t).d x ∧ RK K H b.d y ∧ (Lk.mk a h ls t).ok (n + 1) ∧ b.ok (n + 1) ∧ n ≤ 18 ∧
  cmpB n h ls b ∧
  ∀ (v : V) (H' : Hp), Old H H' → RK K H' (bothL (lay n) a h ls b).d v → Q v H'
theorem scBoth : FnScope ["one", "other", "body", "tag"] ["one", "other"] (defScope sBoth) := ⟨rfl, rfl, rfl, by decide +kernel, rfl, by decide +kernel, by decide +kernel⟩
theorem both_ask (f : Lk → Lk → Lk) (a : Option Gd) (h : Str) (ls : List Lk) (b : Lk) : (bothL f a h ls b).ask = a ∧ (bothL f a h ls b).tag = if isBr (bothL f a h ls b) = true then none else b.tag := by
  cases b with
  | br b0 t k => exact ⟨rfl, rfl⟩
  | mk b0 g ms t2 =>
    have eb : bothL f a h ls (.mk b0 g ms t2) = if h = "same" then .mk a g ms t2 else if g = "same" then .mk a h ls t2 else .mk a (wrapH h (lays f (stepsOf h) ls ms)) (wrapL (lays f (stepsOf h) ls ms)) t2 := rfl
    rw [eb]
    split
    · exact ⟨rfl, rfl⟩
    · split
      · exact ⟨rfl, rfl⟩
      · exact ⟨rfl, rfl⟩
theorem ok_both {n j : Nat} {t0 t1 t2 : Tok} (F : Fun K "both" "both" sBoth f fd) (T : Tx mg) (I : Ix mg t0 t1 t2) (c_laid_bodies : Cal P w K mg base "laid_bodies" ["body", "other"] (j + 2) (spLbod K n)) : FnOk P w K mg base CX0 (j + 3) f fd ["one", "other"] (spBoth K n) := by
  refine F.ok scBoth (fun vs H Q E h => ?_) (fun cdv A outer s H vs Q E hr h => ?_)
  · obtain ⟨x, y, a, h, ls, t, b, rfl, _⟩ := h
    rfl
  obtain ⟨x, y, a, h, ls, t, b, rfl, rx, ry, oka, okb, hn, cm, q⟩ := h
  have nd := scBoth.nd
  have m_ASK := I.ask
  have m_BODY := I.body
  have m_TAG := I.tag
  obtain ⟨va, v0, v1, v2, rfl, hva, r0, r1, r2⟩ := lk_get' rx
  obtain ⟨wa, w0, w1, w2, rfl, hwa, q0, q1, q2⟩ := lk_get' ry
  have okr : (bothL (lay n) a h ls b).ok (n + 1) := ok_set oka.1 (lay_ok n) oka okb
  obtain ⟨ea, et⟩ := both_ask (lay n) a h ls b
  refine' ⟨_, ?n0, ?Z⟩
  case' n0 => refine' pss_cons ?n1 ?n2
  case' n1 => refine' ps_setX (i := 2) nd rfl (Or.inl rfl) rfl (by first | exact .inl rfl | exact .inr rfl) ?n3
  case' n3 => refine' pe_cal c_laid_bodies hr ?n4
  case' n4 => refine' pa ?n5 ?n6
  case' n5 => refine' pe_ix ix_seq ?n7 ?n8 (fun _ _ => rfl)
  case n7 => exact pv 0
  case n8 => exact pe_gint rfl m_BODY
  case' n6 => refine' pa ?n9 ?n10
  case' n9 => refine' pe_ix ix_seq ?n11 ?n12 (fun _ _ => rfl)
  case n11 => exact pv 1
  case n12 => exact pe_gint rfl m_BODY
  case n10 => exact pa_nil
  case' n2 => refine' pss_cons ?n13 ?n14
  case' n13 => refine' ps_setX (i := 3) nd rfl (Or.inl rfl) rfl (by first | exact .inl rfl | exact .inr rfl) ?n15
  case' n15 => refine' pe_ifExp ?n16 pe_non ?n17
  case' n16 => refine' pt_cmpR (op_eqG hr) ?n18 ?n19 (nomark _)
  case' n18 => refine' pe_ix ix_seq ?n20 ?n21 (fun _ _ => rfl)
  case n20 => exact pv 2
  case n21 => exact pe_int
  case n19 => exact pe_str
  case' n17 => refine' pe_ix ix_seq ?n22 ?n23 (fun _ _ => rfl)
  case n22 => exact pv 1
  case n23 => exact pe_gint rfl m_TAG
  case' n14 => refine' pss_one ?n24
  case' n24 => refine' ps_ret ?n25
  case' n25 => refine' pe_tup ?n26
  case' n26 => refine' pa ?n27 ?n28
  case' n27 => refine' pe_ix ix_seq ?n29 ?n30 (fun _ _ => rfl)
  case n29 => exact pv 0
  case n30 => exact pe_gint rfl m_ASK
  case' n28 => refine' pa ?n31 ?n32
  case n31 => exact pv 2
  case' n32 => refine' pa ?n33 ?n34
  case n33 => exact pv 3
  case n34 => exact pa_nil
  refine ⟨_, rfl, .inr (.inl ⟨va, _, 1, v1, rfl, rfl, hva.sq, (by exact atI_nat (j := 1) rfl), _, rfl, .inr (.inl ⟨wa, _, 1, w1, rfl, rfl, hwa.sq, (by exact atI_nat (j := 1) rfl), v1, w1, a, h, ls, t, b, rfl, r1, q1, oka, okb, hn, cm, fun bv H1 o1 rb => ?_⟩)⟩)⟩
  obtain ⟨ba, bus, rfl, hba⟩ := bd_get rb
  refine ⟨_, rfl, .inr (.inl ⟨ba, _, 0, .str _, rfl, rfl, hba.sq, (by exact atI_nat (j := 0) rfl), .inr (.inl ⟨rfl, _, rfl, ?_⟩)⟩)⟩
  rw [dec_s, bh_br okr]
  have fin : ∀ (tv : V), RK K H1 (ogd (bothL (lay n) a h ls b).tag) tv → ∀ p, H1 p = none → Q (.ref p) (upd H1 p (.tup [v0, .ref ba, tv])) := fun tv rt p hp => by
    have o2 : Old H1 (upd H1 p (.tup [v0, .ref ba, tv])) := Old.new hp
    refine q _ _ (o1.trans o2) ?_
    rw [lk_d, ea]
    exact RK.tup (.of upd_same) (.cons (r0.mono (o1.trans o2).tm) (.cons (rb.mono o2.tm) (.cons (rt.mono o2.tm) .nil)))
  cases hb : isBr (bothL (lay n) a h ls b) with
  | true =>
    rw [hb, if_pos rfl] at et
    refine iteT ?_
    refine ⟨_, rfl, .inr (.inl ⟨va, _, 0, v0, rfl, rfl, (hva.mono o1.tm).sq, (by exact atI_nat (j := 0) rfl), _, rfl, _, rfl, by show 3 ≤ sizeLine; decide, fun p hp => fin _ (by rw [et]; exact .n) p hp⟩)⟩
  | false =>
    rw [hb, if_neg Bool.false_ne_true] at et
    refine iteF ?_
    refine ⟨_, rfl, .inr (.inl ⟨wa, _, 2, w2, rfl, rfl, (hwa.mono o1.tm).sq, (by exact atI_nat (j := 2) rfl), ?_⟩)⟩
    refine ⟨_, rfl, .inr (.inl ⟨va, _, 0, v0, rfl, rfl, (hva.mono o1.tm).sq, (by exact atI_nat (j := 0) rfl), _, rfl, _, rfl, by show 3 ≤ sizeLine; decide, fun p hp => fin _ (by rw [et]; exact q2.mono o1.tm) p hp⟩)⟩
/-! ### laid -/
abbrev sLaid : Stmt := top 21
theorem scLaid : FnScope ["one", "other"] ["one", "other"] (defScope sLaid) := ⟨rfl, rfl, rfl, by decide +kernel, rfl, by decide +kernel, by decide +kernel⟩
theorem gd_get {H : Hp} {g : Gd} {v : V} (r : RK K H (gdd g) v) : ∃ a v1 v2, v = .ref a ∧ Tp K H a [v1, v2] ∧ RK K H g.1.d v1 ∧ RK K H g.2.d v2 := by
  obtain ⟨va, vs, rfl, ha, v0, r0, rfl, h0, v1, r1, rfl, h1, h3⟩ := RK.get (show RK K H (.tup [g.1.d, g.2.d]) v from r)
  cases (show r1 = [] from h3)
  exact ⟨va, v0, v1, rfl, ha, h0, h1⟩
theorem ok_laid {n j : Nat} {t0 t1 t2 : Tok} (F : Fun K "laid" "laid" sLaid f fd) (T : Tx mg) (I : Ix mg t0 t1 t2) (c_is_broken : Cal P w K mg base "is_broken" ["look"] 1 (spBrk K)) (c_both : Cal P w K mg base "both" ["one", "other"] (j + 3) (spBoth K n)) : FnOk P w K mg base CX0 (j + 4) f fd ["one", "other"] (spLaid K (n + 1)) := by
  refine F.ok scLaid (fun vs H Q E h => ?_) (fun cdv A outer s H vs Q E hr h => ?_)
  · obtain ⟨x, y, a, b, rfl, _⟩ := h
    rfl
  obtain ⟨x, y, a, b, rfl, rx, ry, oka, okb, cm, hn, q⟩ := h
  have nd := scLaid.nd
  have m_ASK := I.ask
  have m_BODY := I.body
  have m_TAG := I.tag
  obtain ⟨va, v0, v1, v2, rfl, hva, r0, r1, r2⟩ := lk_get' rx
  obtain ⟨wa, w0, w1, w2, rfl, hwa, q0, q1, q2⟩ := lk_get' ry
  refine' ⟨_, ?n0, ?Z⟩
  case' n0 => refine' pss_cons ?n1 ?n2
  case' n1 => refine' ps_if ?n3 ?n4 ?n5
  case' n3 => refine' pt_val ?n6
  case' n6 => refine' pe_cal c_is_broken hr ?n7
  case' n7 => refine' pa ?n8 ?n9
  case n8 => exact pv 0
  case n9 => exact pa_nil
  case' n4 => refine' pss_one ?n10
  case' n10 => refine' ps_ret ?n11
  case n11 => exact pv 0
  case n5 => exact pss_nil
  case' n2 => refine' pss_cons ?n12 ?n13
  case' n12 => refine' ps_if ?n14 ?n15 ?n16
  case' n14 => refine' pt_cmpR op_isN ?n17 pe_non (nomark _)
  case' n17 => refine' pe_ix ix_seq ?n18 ?n19 (fun _ _ => rfl)
  case n18 => exact pv 0
  case n19 => exact pe_gint rfl m_TAG
  case' n15 => refine' pss_one ?n20
  case' n20 => refine' ps_ret ?n21
  case' n21 => refine' pe_ifExp ?n22 ?n23 ?n24
  case' n22 => refine' pt_cmpR op_isN ?n25 pe_non (nomark _)
  case' n25 => refine' pe_ix ix_seq ?n26 ?n27 (fun _ _ => rfl)
  case n26 => exact pv 1
  case n27 => exact pe_gint rfl m_ASK
  case' n23 => refine' pe_cal c_both hr ?n28
  case' n28 => refine' pa ?n29 ?n30
  case n29 => exact pv 0
  case' n30 => refine' pa ?n31 ?n32
  case n31 => exact pv 1
  case n32 => exact pa_nil
  case n24 => exact pv 1
  case n16 => exact pss_nil
  case' n13 => refine' pss_cons ?n33 ?n34
  case' n33 => refine' ps_if ?n35 ?n36 ?n37
  case' n35 => refine' pt_cmpR op_isN ?n38 pe_non (nomark _)
  case' n38 => refine' pe_ix ix_seq ?n39 ?n40 (fun _ _ => rfl)
  case n39 => exact pv 1
  case n40 => exact pe_gint rfl m_ASK
  case' n36 => refine' pss_one ?n41
  case' n41 => refine' ps_ret ?n42
  case n42 => exact pv 0
  case n37 => exact pss_nil
  case' n34 => refine' pss_cons ?n43 ?n44
  case' n43 => refine' ps_if ?n45 ?n46 ?n47
  case' n45 => refine' pt_cmpR (op_eqG hr) ?n48 ?n49 (nomark _)
  case' n48 => refine' pe_ix ix_seq ?n50 ?n51 (fun _ _ => rfl)
  case' n50 => refine' pe_ix ix_seq ?n52 ?n53 (fun _ _ => rfl)
  case n52 => exact pv 0
  case n53 => exact pe_gint rfl m_TAG
  case n51 => exact pe_int
  case' n49 => refine' pe_ix ix_seq ?n54 ?n55 (fun _ _ => rfl)
  case' n54 => refine' pe_ix ix_seq ?n56 ?n57 (fun _ _ => rfl)
  case n56 => exact pv 1
  case n57 => exact pe_gint rfl m_ASK
  case n55 => exact pe_int
  case' n46 => refine' pss_one ?n58
  case' n58 => refine' ps_ret ?n59
  case' n59 => refine' pe_cal c_both hr ?n60
  case' n60 => refine' pa ?n61 ?n62
  case n61 => exact pv 0
  case' n62 => refine' pa ?n63 ?n64
  case n63 => exact pv 1
  case n64 => exact pa_nil
  case n47 => exact pss_nil
  case' n44 => refine' pss_one ?n65
  case' n65 => refine' ps_ret ?n66
  case' n66 => refine' pe_tup ?n67
  case' n67 => refine' pa ?n68 ?n69
  case' n68 => refine' pe_ix ix_seq ?n70 ?n71 (fun _ _ => rfl)
  case n70 => exact pv 0
  case n71 => exact pe_gint rfl m_ASK
  case' n69 => refine' pa ?n72 ?n73
  case' n72 => refine' pe_tup ?n74
  case' n74 => refine' pa ?n75 ?n76
  case n75 => exact pe_str
  case' n76 => refine' pa ?n77 ?n78
  case' n77 => refine' pe_ix ix_seq ?n79 ?n80 (fun _ _ => rfl)
  case n79 => exact pv 0
  case n80 => exact pe_gint rfl m_TAG
  case' n78 => refine' pa ?n81 ?n82
  case' n81 => refine' pe_ix ix_seq ?n83 ?n84 (fun _ _ => rfl)
  case n83 => exact pv 1
  case n84 => exact pe_gint rfl m_ASK
  case n82 => exact pa_nil
  case' n73 => refine' pa pe_non ?n85
  case n85 => exact pa_nil
  refine ⟨_, rfl, _, a, n + 1, rfl, rx, oka, _, rfl, ?_⟩
  cases a with
  | br a0 t k => exact iteT ⟨_, rfl, q _ H (Old.refl _) rx⟩
  | mk a0 h ls t =>
    refine iteF ?_
    have cm' := fun mt => cmpL_b cm mt
    cases t with
    | none =>
      cases (show v2 = .non by rw [show ogd (Lk.mk a0 h ls none).tag = .non from rfl, RK] at r2; exact r2)
      refine ⟨_, rfl, .inr (.inl ⟨va, _, 2, .non, rfl, rfl, hva.sq, (by exact atI_nat (j := 2) rfl), rfl, _, rfl, iteT ?_⟩)⟩
      cases hb : b.ask with
      | none =>
        rw [hb] at q0
        cases (show w0 = .non by rw [show ogd none = .non from rfl, RK] at q0; exact q0)
        refine ⟨_, rfl, .inr (.inl ⟨wa, _, 0, .non, rfl, rfl, hwa.sq, (by exact atI_nat (j := 0) rfl), rfl, _, rfl, iteT ?_⟩)⟩
        have el : lay (n + 1) (.mk a0 h ls none) b = bothL (lay n) a0 h ls b := by
          show (match b.ask with | some _ => b | none => bothL (lay n) a0 h ls b) = _
          rw [hb]
        rw [el] at q
        exact ⟨_, rfl, _, rfl, _, _, a0, h, ls, none, b, rfl, rx, ry, oka, okb, by omega, cm' hb, q⟩
      | some k =>
        rw [hb] at q0
        obtain ⟨ka, k1, k2, rfl, hka, _⟩ := gd_get q0
        refine ⟨_, rfl, .inr (.inl ⟨wa, _, 0, .ref ka, rfl, rfl, hwa.sq, (by exact atI_nat (j := 0) rfl), rfl, _, rfl, iteF ?_⟩)⟩
        have el : lay (n + 1) (.mk a0 h ls none) b = b := by
          show (match b.ask with | some _ => b | none => bothL (lay n) a0 h ls b) = _
          rw [hb]
        rw [el] at q
        exact ⟨_, rfl, q _ H (Old.refl _) ry⟩
    | some t =>
      obtain ⟨ta, tv1, tv2, rfl, hta, rt1, rt2⟩ := gd_get (show RK K H (gdd t) v2 from r2)
      refine ⟨_, rfl, .inr (.inl ⟨va, _, 2, .ref ta, rfl, rfl, hva.sq, (by exact atI_nat (j := 2) rfl), rfl, _, rfl, iteF ?_⟩)⟩
      cases hb : b.ask with
      | none =>
        rw [hb] at q0
        cases (show w0 = .non by rw [show ogd none = .non from rfl, RK] at q0; exact q0)
        refine ⟨_, rfl, .inr (.inl ⟨wa, _, 0, .non, rfl, rfl, hwa.sq, (by exact atI_nat (j := 0) rfl), rfl, _, rfl, iteT ?_⟩)⟩
        have el : lay (n + 1) (.mk a0 h ls (some t)) b = .mk a0 h ls (some t) := by
          show (match b.ask with | none => Lk.mk a0 h ls (some t) | some k => if t.1.d.eqb k.1.d = true then bothL (lay n) a0 h ls b else .br a0 t k) = _
          rw [hb]
        rw [el] at q
        exact ⟨_, rfl, q _ H (Old.refl _) rx⟩
      | some k =>
        rw [hb] at q0
        obtain ⟨ka, k1, k2, rfl, hka, rk1, rk2⟩ := gd_get (show RK K H (gdd k) w0 from q0)
        refine ⟨_, rfl, .inr (.inl ⟨wa, _, 0, .ref ka, rfl, rfl, hwa.sq, (by exact atI_nat (j := 0) rfl), rfl, _, rfl, iteF ?_⟩)⟩
        have okt : Gd.ok t := oka.2.1
        have e1 : t.1.d = .tup (.str t.1.h :: Kn.ds t.1.ks) := by obtain ⟨⟨h, ks⟩, l⟩ := t; rfl
        have e2 : k.1.d = .tup (.str k.1.h :: Kn.ds k.1.ks) := by obtain ⟨⟨h, ks⟩, l⟩ := k; rfl
        have hd : dqs (.str t.1.h :: Kn.ds t.1.ks) ≤ 60 := by
          have := okt.2.1
          rw [dep_eq] at this
          rw [dqs_cons, dq_str, dq_ds]
          omega
        have el : lay (n + 1) (.mk a0 h ls (some t)) b = if t.1.d.eqb k.1.d = true then bothL (lay n) a0 h ls b else .br a0 t k := by
          show (match b.ask with | none => Lk.mk a0 h ls (some t) | some k => if t.1.d.eqb k.1.d = true then bothL (lay n) a0 h ls b else .br a0 t k) = _
          rw [hb]
        have e3 : t.1.d.eqb k.1.d = eqbs (.str t.1.h :: Kn.ds t.1.ks) (.str k.1.h :: Kn.ds k.1.ks) := by rw [e1, e2]; rfl
        rw [e1] at rt1
        rw [e2] at rk1
        refine ⟨_, rfl, .inr (.inl ⟨va, _, 2, .ref ta, rfl, rfl, hva.sq, (by exact atI_nat (j := 2) rfl), .inr (.inl ⟨ta, _, 0, tv1, rfl, rfl, hta.sq, (by exact atI_nat (j := 0) rfl), _, rfl, .inr (.inl ⟨wa, _, 0, .ref ka, rfl, rfl, hwa.sq, (by exact atI_nat (j := 0) rfl), .inr (.inl ⟨ka, _, 0, k1, rfl, rfl, hka.sq, (by exact atI_nat (j := 0) rfl), .inl ⟨_, _, rt1, rk1, hd, _, rfl, ?_⟩⟩)⟩)⟩)⟩)⟩
        rw [← e3]
        by_cases c : t.1.d.eqb k.1.d = true
        · rw [if_pos c] at el
          rw [el] at q
          rw [c]
          refine iteT ?_
          exact ⟨_, rfl, _, rfl, _, _, a0, h, ls, some t, b, rfl, rx, ry, oka, okb, by omega, cm' ⟨k, hb, c⟩, q⟩
        · rw [if_neg c] at el
          rw [el] at q
          rw [Bool.eq_false_iff.mpr c]
          refine iteF ?_
          refine ⟨_, rfl, .inr (.inl ⟨va, _, 0, v0, rfl, rfl, hva.sq, (by exact atI_nat (j := 0) rfl), _, rfl, .inr (.inl ⟨va, _, 2, .ref ta, rfl, rfl, hva.sq, (by exact atI_nat (j := 2) rfl), _, rfl, .inr (.inl ⟨wa, _, 0, .ref ka, rfl, rfl, hwa.sq, (by exact atI_nat (j := 0) rfl), by show 3 ≤ sizeLine; decide, fun p1 hp1 => ⟨by show 3 ≤ sizeLine; decide, fun p2 hp2 => ?_⟩⟩)⟩)⟩)⟩
          have o1 : Old H (upd H p1 (.tup [.str "broken", .ref ta, .ref ka])) := Old.new hp1
          have o2 := Old.new (o := .tup [v0, .ref p1, .non]) hp2
          have o12 := o1.trans o2
          refine q _ _ o12 ?_
          exact RK.tup (.of upd_same) (.cons (r0.mono o12.tm) (.cons (RK.tup (.of (o2 _ _ upd_same)) (.cons (.s _) (.cons (r2.mono o12.tm) (.cons (q0.mono o12.tm) .nil)))) (.cons .n .nil)))
end
end L2.K55

end
section
set_option Elab.async false
set_option linter.all false
set_option maxRecDepth 100000
set_option maxHeartbeats 8000000
namespace L2.K55
open PySem PySem.Spec PyProof.Rows L2.Bw L2.Bk
section
variable {P : Program} {w : World} {K : PySem.W.Frag} {mg : Str → Option Value} {base : Heap} {f : Addr} {fd : FuncData}
/-! ### next -/
abbrev sNext : Stmt := top 28
def spNext (K : PySem.W.Frag) : Sp := fun vs H Q _ => ∃ (l : Addr) (ns : List Int), vs = [.ref l] ∧ H l = some (.lst (ns.map V.int)) ∧
  ∀ (r : Int) (ns' : List Int) (H' : Hp), Gr (M1 l) H H' → H' l = some (.lst (ns'.map V.int)) → Q (.int r) H'
theorem scNext : FnScope ["_law_xs_here"] ["_law_xs_here"] (defScope sNext) := ⟨rfl, rfl, rfl, by decide +kernel, rfl, by decide +kernel, by decide +kernel⟩
theorem map_dropLast (ns : List Int) : (ns.map V.int).dropLast = ns.dropLast.map V.int := List.map_dropLast.symm
theorem ok_next {n : Nat} (F : Fun K "_law_next" "_law_next" sNext f fd) (T : Tx mg) : FnOk P w K mg base CX0 (n + 1) f fd ["_law_xs_here"] (spNext K) := by
  refine F.ok scNext (fun vs H Q E h => ?_) (fun cdv A outer s H vs Q E hr h => ?_)
  · obtain ⟨l, ns, rfl, _⟩ := h
    rfl
  obtain ⟨l, ns, rfl, hl, q⟩ := h
  refine' ⟨_, ?n0, ?Z⟩
  case' n0 => refine' pss_cons ?n1 ?n2
  case' n1 => refine' ps_if ?n3 ?n4 ?n5
  case' n3 => refine' pt_cmpR (op_eqG hr) ?n6 ?n7 (nomark _)
  case n6 => exact pv 0
  case' n7 => refine' pe_lst ?n8
  case n8 => exact pa_nil
  case' n4 => refine' pss_one ?n9
  case' n9 => refine' ps_ret ?n10
  case n10 => exact pe_int
  case n5 => exact pss_nil
  case' n2 => refine' pss_one ?n11
  case' n11 => refine' ps_ret ?n12
  case' n12 => refine' pe_bm0 PySem.F.plainAttrs_list PySem.F.slot_list_pop PySem.F.type_list_pop mt_pop ?n13
  case n13 => exact pv 0
  refine ⟨_, rfl, (by show 0 ≤ sizeLine; decide), fun p hp => ?_⟩
  have g1 : Gr (M1 l) H (upd H p (.lst [])) := Gr.new hp
  have nlp : l ≠ p := ne_of_none hl hp
  have hl1 : upd H p (.lst []) l = some (.lst (ns.map V.int)) := by rw [upd_ne nlp]; exact hl
  cases hns : ns with
  | nil =>
    subst hns
    refine .inr (eqQK (.lists (ds := []) (SqL.of hl1) (SqL.of upd_same) rfl rfl (Nat.zero_le _)) ⟨_, rfl, iteT ?_⟩)
    exact q 0 [] _ g1 hl1
  | cons y r =>
    have hlen : (ns.map V.int).length ≠ ([] : List V).length := by rw [hns]; simp
    refine .inr (eqQK (.lens (SqL.of hl1) (SqL.of upd_same) hlen) ⟨_, rfl, iteF ?_⟩)
    have hlast : (ns.map V.int)[(ns.map V.int).length - 1]? = some (.int (ns.getLast (by rw [hns]; simp))) := by
      rw [List.getElem?_map, List.length_map, ← List.getLast?_eq_getElem?, List.getLast?_eq_some_getLast (by rw [hns]; simp)]
      rfl
    refine ⟨_, rfl, .inl ⟨rfl, _, SqL.of hl1⟩, l, _, _, rfl, rfl, hl1, hlast, ?_⟩
    exact q _ ns.dropLast _ (g1.trans (Gr.put rfl)) (by rw [upd_same, map_dropLast])
/-! ### kind -/
abbrev sKind : Stmt := top 29
def spKind (K : PySem.W.Frag) (m : Nat) : Sp := fun vs H Q _ => ∃ (l : Addr) (ns : List Int) (room : Int), vs = [.ref l, .int room] ∧ H l = some (.lst (ns.map V.int)) ∧ 1 ≤ room ∧ room < m ∧
  ∀ (t : Kn) (v : V) (ns' : List Int) (H' : Hp), RK K H' t.d v → t.wf → (t.dep : Int) ≤ room → Gr (M1 l) H H' → H' l = some (.lst (ns'.map V.int)) → Q v H'
theorem scKind : FnScope ["_law_xs_here", "_law_room", "_law_way", "_law_head", "_law_one"] ["_law_xs_here", "_law_room"] (defScope sKind) := ⟨rfl, rfl, rfl, by decide +kernel, rfl, by decide +kernel, by decide +kernel⟩
theorem ar0 : ∀ h ∈ (["whole", "truth", "?"] : List Str), arity h = some 0 := by decide +kernel
theorem ar2 : ∀ h ∈ (["to", "row", "pair"] : List Str), h ≠ "row" → arity h = some 2 := by decide +kernel
theorem ar1 : arity "row" = some 1 := by decide +kernel
theorem flat3 {p1 p2 p3 : Addr} {i : Int} {H : Hp} (h0 : 0 ≤ i) (h1 : i < 3) (t1 : Tp K H p1 [.str "whole"]) (t2 : Tp K H p2 [.str "truth"]) (t3 : Tp K H p3 [.str "?"]) : ∃ (h : Str) (v : V), atI [V.ref p1, V.ref p2, V.ref p3] i = some v ∧ h ∈ (["whole", "truth", "?"] : List Str) ∧ RK K H (Kn.mk h []).d v := by
  have c : i = 0 ∨ i = 1 ∨ i = 2 := by omega
  rcases c with c | c | c <;> subst c
  · exact ⟨"whole", .ref p1, rfl, by decide +kernel, RK.tup t1 (.cons (.s _) .nil)⟩
  · exact ⟨"truth", .ref p2, rfl, by decide +kernel, RK.tup t2 (.cons (.s _) .nil)⟩
  · exact ⟨"?", .ref p3, rfl, by decide +kernel, RK.tup t3 (.cons (.s _) .nil)⟩
theorem ok_kind {m : Nat} (F : Fun K "_law_kind" "_law_kind" sKind f fd) (T : Tx mg) (c_next : Cal P w K mg base "_law_next" ["_law_xs_here"] 1 (spNext K)) (c_kind : Cal P w K mg base "_law_kind" ["_law_xs_here", "_law_room"] (m + 1) (spKind K m)) :
    FnOk P w K mg base CX0 (m + 2) f fd ["_law_xs_here", "_law_room"] (spKind K (m + 1)) := by
  refine F.ok scKind (fun vs H Q E h => ?_) (fun cdv A outer s H vs Q E hr h => ?_)
  · obtain ⟨l, ns, room, rfl, _⟩ := h
    rfl
  obtain ⟨l, ns, room, rfl, hl, h1, h2, q⟩ := h
  have nd := scKind.nd
  refine' ⟨_, ?n0, ?Z⟩
  case' n0 => refine' pss_cons ?n1 ?n2
  case' n1 => refine' ps_setX (i := 2) nd rfl (Or.inl rfl) rfl (by first | exact .inl rfl | exact .inr rfl) ?n3
  case' n3 => refine' pe_op op_mod ?n4 ?n5
  case' n4 => refine' pe_cal c_next hr ?n6
  case' n6 => refine' pa ?n7 ?n8
  case n7 => exact pv 0
  case n8 => exact pa_nil
  case n5 => exact pe_int
  case' n2 => refine' pss_cons ?n9 ?n10
  case' n9 => refine' ps_if ?n11 ?n12 ?n13
  case' n11 => refine' PW.pt ?n14
  case' n14 => refine' pw_or ?n15 ?n16
  case' n15 => refine' pt_cmpR op_lt ?n17 ?n18 (nomark _)
  case n17 => exact pv 1
  case n18 => exact pe_int
  case' n16 => refine' pw_or1 ?n19
  case' n19 => refine' pt_cmpR op_lt ?n20 ?n21 (nomark _)
  case n20 => exact pv 2
  case n21 => exact pe_int
  case' n12 => refine' pss_one ?n22
  case' n22 => refine' ps_ret ?n23
  case' n23 => refine' pe_ix ix_seq ?n24 ?n25 (fun _ _ => rfl)
  case' n24 => refine' pe_lst ?n26
  case' n26 => refine' pa ?n27 ?n28
  case' n27 => refine' pe_tup ?n29
  case' n29 => refine' pa ?n30 ?n31
  case n30 => exact pe_str
  case n31 => exact pa_nil
  case' n28 => refine' pa ?n32 ?n33
  case' n32 => refine' pe_tup ?n34
  case' n34 => refine' pa ?n35 ?n36
  case n35 => exact pe_str
  case n36 => exact pa_nil
  case' n33 => refine' pa ?n37 ?n38
  case' n37 => refine' pe_tup ?n39
  case' n39 => refine' pa ?n40 ?n41
  case n40 => exact pe_str
  case n41 => exact pa_nil
  case n38 => exact pa_nil
  case' n25 => refine' pe_op op_mod ?n42 ?n43
  case n42 => exact pv 2
  case n43 => exact pe_int
  case n13 => exact pss_nil
  case' n10 => refine' pss_cons ?n44 ?n45
  case' n44 => refine' ps_setX (i := 3) nd rfl (Or.inl rfl) rfl (by first | exact .inl rfl | exact .inr rfl) ?n46
  case' n46 => refine' pe_ix ix_seq ?n47 ?n48 (fun _ _ => rfl)
  case' n47 => refine' pe_lst ?n49
  case' n49 => refine' pa ?n50 ?n51
  case n50 => exact pe_str
  case' n51 => refine' pa ?n52 ?n53
  case n52 => exact pe_str
  case' n53 => refine' pa ?n54 ?n55
  case n54 => exact pe_str
  case n55 => exact pa_nil
  case' n48 => refine' pe_op op_mod ?n56 ?n57
  case n56 => exact pv 2
  case n57 => exact pe_int
  case' n45 => refine' pss_cons ?n58 ?n59
  case' n58 => refine' ps_setX (i := 4) nd rfl (Or.inl rfl) rfl (by first | exact .inl rfl | exact .inr rfl) ?n60
  case' n60 => refine' pe_cal c_kind hr ?n61
  case' n61 => refine' pa ?n62 ?n63
  case n62 => exact pv 0
  case' n63 => refine' pa ?n64 ?n65
  case' n64 => refine' pe_op op_sub ?n66 ?n67
  case n66 => exact pv 1
  case n67 => exact pe_int
  case n65 => exact pa_nil
  case' n59 => refine' pss_cons ?n68 ?n69
  case' n68 => refine' ps_if ?n70 ?n71 ?n72
  case' n70 => refine' pt_cmpR (op_eqG hr) ?n73 ?n74 (nomark _)
  case n73 => exact pv 3
  case n74 => exact pe_str
  case' n71 => refine' pss_one ?n75
  case' n75 => refine' ps_ret ?n76
  case' n76 => refine' pe_tup ?n77
  case' n77 => refine' pa ?n78 ?n79
  case n78 => exact pv 3
  case' n79 => refine' pa ?n80 ?n81
  case n80 => exact pv 4
  case n81 => exact pa_nil
  case n72 => exact pss_nil
  case' n69 => refine' pss_one ?n82
  case' n82 => refine' ps_ret ?n83
  case' n83 => refine' pe_tup ?n84
  case' n84 => refine' pa ?n85 ?n86
  case n85 => exact pv 3
  case' n86 => refine' pa ?n87 ?n88
  case n87 => exact pv 4
  case' n88 => refine' pa ?n89 ?n90
  case' n89 => refine' pe_cal c_kind hr ?n91
  case' n91 => refine' pa ?n92 ?n93
  case n92 => exact pv 0
  case' n93 => refine' pa ?n94 ?n95
  case' n94 => refine' pe_op op_sub ?n96 ?n97
  case n96 => exact pv 1
  case n97 => exact pe_int
  case n95 => exact pa_nil
  case n90 => exact pa_nil
  refine ⟨_, rfl, l, ns, rfl, hl, fun way ns1 H1 g1 hl1 => ⟨_, _, rfl, rfl, (by show (0 : Int) < 9; decide), ?_⟩⟩
  refine ⟨_, rfl, _, _, rfl, rfl, _, rfl, ?_⟩
  refine ite2 (fun c => iteT ?_) (fun c => ?_)
  · refine ⟨by show 1 ≤ sizeLine; decide, fun p1 hp1 => ⟨by show 1 ≤ sizeLine; decide, fun p2 hp2 => ⟨by show 1 ≤ sizeLine; decide, fun p3 hp3 => ⟨by show 3 ≤ sizeLine; decide, fun p4 hp4 => ?_⟩⟩⟩⟩
    have o1 : Old H1 (upd H1 p1 (.tup [.str "whole"])) := Old.new hp1
    have o2 := Old.new (o := .tup [.str "truth"]) hp2
    have o3 := Old.new (o := .tup [.str "?"]) hp3
    have o4 := Old.new (o := .lst [.ref p1, .ref p2, .ref p3]) hp4
    have m0 : 0 ≤ way % 9 % 3 := Int.emod_nonneg _ (by decide)
    have m1 : way % 9 % 3 < 3 := Int.emod_lt_of_pos _ (by decide)
    obtain ⟨h, v, ev, hm, rv⟩ := flat3 (K := K) m0 m1 (.of (o4 _ _ (o3 _ _ (o2 _ _ upd_same)))) (.of (o4 _ _ (o3 _ _ upd_same))) (.of (o4 _ _ upd_same))
    refine ⟨_, rfl, _, _, rfl, rfl, (by show (0 : Int) < 3; decide), .inl ⟨p4, _, _, v, rfl, rfl, SqL.of upd_same, ev, ?_⟩⟩
    have oo := ((o1.trans o2).trans o3).trans o4
    exact q (.mk h []) v ns1 _ rv ⟨ar0 h hm, trivial⟩ (by show ((1 + Kn.deps [] : Nat) : Int) ≤ room; exact h1) (g1.trans oo.gm) (oo _ _ hl1)
  have hroom : 2 ≤ room := by
    have c' : ¬ (room < 2) := of_decide_eq_false (Bool.eq_false_iff.mpr c)
    omega
  refine ⟨_, rfl, _, _, rfl, rfl, _, rfl, ?_⟩
  refine ite2 (fun c => ?_) (fun c => ?_)
  · refine ⟨by show 1 ≤ sizeLine; decide, fun p1 hp1 => ⟨by show 1 ≤ sizeLine; decide, fun p2 hp2 => ⟨by show 1 ≤ sizeLine; decide, fun p3 hp3 => ⟨by show 3 ≤ sizeLine; decide, fun p4 hp4 => ?_⟩⟩⟩⟩
    have o1 : Old H1 (upd H1 p1 (.tup [.str "whole"])) := Old.new hp1
    have o2 := Old.new (o := .tup [.str "truth"]) hp2
    have o3 := Old.new (o := .tup [.str "?"]) hp3
    have o4 := Old.new (o := .lst [.ref p1, .ref p2, .ref p3]) hp4
    have m0 : 0 ≤ way % 9 % 3 := Int.emod_nonneg _ (by decide)
    have m1 : way % 9 % 3 < 3 := Int.emod_lt_of_pos _ (by decide)
    obtain ⟨h, v, ev, hm, rv⟩ := flat3 (K := K) m0 m1 (.of (o4 _ _ (o3 _ _ (o2 _ _ upd_same)))) (.of (o4 _ _ (o3 _ _ upd_same))) (.of (o4 _ _ upd_same))
    refine ⟨_, rfl, _, _, rfl, rfl, (by show (0 : Int) < 3; decide), .inl ⟨p4, _, _, v, rfl, rfl, SqL.of upd_same, ev, ?_⟩⟩
    have oo := ((o1.trans o2).trans o3).trans o4
    exact q (.mk h []) v ns1 _ rv ⟨ar0 h hm, trivial⟩ (by show ((1 + Kn.deps [] : Nat) : Int) ≤ room; exact h1) (g1.trans oo.gm) (oo _ _ hl1)
  refine ⟨by show 3 ≤ sizeLine; decide, fun p0 hp0 => ?_⟩
  have m0 : 0 ≤ way % 9 % 3 := Int.emod_nonneg _ (by decide)
  have m1 : way % 9 % 3 < 3 := Int.emod_lt_of_pos _ (by decide)
  obtain ⟨h, eh, hm⟩ := atI_strs (ss := ["to", "row", "pair"]) m0 (by exact m1)
  refine ⟨_, rfl, _, _, rfl, rfl, (by show (0 : Int) < 3; decide), .inl ⟨p0, _, _, .str h, rfl, rfl, SqL.of upd_same, eh, ?_⟩⟩
  have o0 : Old H1 (upd H1 p0 (.lst [.str "to", .str "row", .str "pair"])) := Old.new hp0
  have hl0 := o0 _ _ hl1
  refine ⟨_, rfl, _, rfl, _, _, rfl, rfl, l, ns1, _, rfl, hl0, by omega, by omega, fun t v ns2 H2 rp tk hd g2 hl2 => ?_⟩
  refine ⟨_, rfl, .inr (.inl ⟨rfl, _, rfl, ?_⟩)⟩
  rw [dec_s]
  by_cases c : h = "row"
  · rw [decide_eq_true c]
    refine iteT ?_
    refine ⟨_, rfl, _, rfl, by show 2 ≤ sizeLine; decide, fun p hp => ?_⟩
    have o1 : Old H2 (upd H2 p (.tup [.str h, v])) := Old.new hp
    have ed : Kn.dep (.mk h [t]) = t.dep + 1 := by show 1 + max t.dep 0 = _; omega
    exact q (.mk h [t]) (.ref p) ns2 _ (RK.tup (.of upd_same) (.cons (.s _) (.cons (rp.mono o1.tm) .nil))) ⟨by rw [c]; exact ar1, tk, trivial⟩ (by rw [ed]; omega) (g1.trans (o0.gm.trans (g2.trans o1.gm))) (o1 _ _ hl2)
  · rw [decide_eq_false c]
    refine iteF ?_
    refine ⟨_, rfl, _, rfl, _, rfl, _, rfl, _, _, rfl, rfl, l, ns2, _, rfl, hl2, by omega, by omega, fun t' v' ns3 H3 rp' tk' hd' g3 hl3 => ⟨by show 3 ≤ sizeLine; decide, fun p hp => ?_⟩⟩
    have o1 : Old H3 (upd H3 p (.tup [.str h, v, v'])) := Old.new hp
    have ed : Kn.dep (.mk h [t, t']) = 1 + max t.dep (max t'.dep 0) := rfl
    have rp3 := rp.mono (g3.tm1 hl2)
    exact q (.mk h [t, t']) (.ref p) ns3 _ (RK.tup (.of upd_same) (.cons (.s _) (.cons (rp3.mono o1.tm) (.cons (rp'.mono o1.tm) .nil)))) ⟨ar2 h hm c, tk, tk', trivial⟩ (by rw [ed]; omega) (g1.trans (o0.gm.trans (g2.trans (g3.trans o1.gm)))) (o1 _ _ hl3)
/-! ### turned -/
abbrev sTurned : Stmt := top 30
def spTurned (K : PySem.W.Frag) (m : Nat) : Sp := fun vs H Q _ => ∃ (l : Addr) (v : V) (t : Kn) (ns : List Int) (room : Int), vs = [.ref l, v, .int room] ∧ H l = some (.lst (ns.map V.int)) ∧ RK K H t.d v ∧ t.wf ∧ (t.dep : Int) ≤ room ∧ room < m ∧ room < 7 ∧
  ∀ (t' : Kn) (v' : V) (ns' : List Int) (H' : Hp), RK K H' t'.d v' → t'.wf → (t'.dep : Int) ≤ room → t'.part t = none → Gr (M1 l) H H' → H' l = some (.lst (ns'.map V.int)) → Q v' H'
theorem scTurned : FnScope ["_law_xs_here", "_law_kind_here", "_law_room", "_law_way"] ["_law_xs_here", "_law_kind_here", "_law_room"] (defScope sTurned) := ⟨rfl, rfl, rfl, by decide +kernel, rfl, by decide +kernel, by decide +kernel⟩
theorem fits_snoc : ∀ {ts ks : List Kn} {t k : Kn}, ts.length = ks.length → Kn.fits ts ks → t.part k = none → Kn.fits (ts ++ [t]) (ks ++ [k])
  | [], [], t, k, _, _, h => ⟨h, trivial⟩
  | [], _ :: _, _, _, e, _, _ => nomatch e
  | _ :: _, [], _, _, e, _, _ => nomatch e
  | a :: ts, b :: ks, t, k, e, ⟨h1, h2⟩, h => ⟨h1, fits_snoc (by simpa using e) h2 h⟩
theorem ok_turned {m : Nat} (F : Fun K "_law_turned" "_law_turned" sTurned f fd) (T : Tx mg) (c_next : Cal P w K mg base "_law_next" ["_law_xs_here"] 1 (spNext K)) (c_kind : Cal P w K mg base "_law_kind" ["_law_xs_here", "_law_room"] 8 (spKind K 7)) (c_turned : Cal P w K mg base "_law_turned" ["_law_xs_here", "_law_kind_here", "_law_room"] (m + 8) (spTurned K m)) :
    FnOk P w K mg base CX0 (m + 9) f fd ["_law_xs_here", "_law_kind_here", "_law_room"] (spTurned K (m + 1)) := by
  refine F.ok scTurned (fun vs H Q E h => ?_) (fun cdv A outer s H vs Q E hr h => ?_)
  · obtain ⟨l, v, t, ns, room, rfl, _⟩ := h
    rfl
  obtain ⟨l, v, t, ns, room, rfl, hl, rv, wft, hdep, hm, h7, q⟩ := h
  have nd := scTurned.nd
  have d1 := dep_pos t
  refine' ⟨_, ?n0, ?Z⟩
  case' n0 => refine' pss_cons ?n1 ?n2
  case' n1 => refine' ps_setX (i := 3) nd rfl (Or.inl rfl) rfl (by first | exact .inl rfl | exact .inr rfl) ?n3
  case' n3 => refine' pe_op op_mod ?n4 ?n5
  case' n4 => refine' pe_cal c_next hr ?n6
  case' n6 => refine' pa ?n7 ?n8
  case n7 => exact pv 0
  case n8 => exact pa_nil
  case n5 => exact pe_int
  case' n2 => refine' pss_cons ?n9 ?n10
  case' n9 => refine' ps_if ?n11 ?n12 ?n13
  case' n11 => refine' pt_cmpR (op_eqG hr) ?n14 ?n15 (nomark _)
  case n14 => exact pv 3
  case n15 => exact pe_int
  case' n12 => refine' pss_one ?n16
  case' n16 => refine' ps_ret ?n17
  case' n17 => refine' pe_tup ?n18
  case' n18 => refine' pa ?n19 ?n20
  case n19 => exact pe_str
  case n20 => exact pa_nil
  case n13 => exact pss_nil
  case' n10 => refine' pss_cons ?n21 ?n22
  case' n21 => refine' ps_if ?n23 ?n24 ?n25
  case' n23 => refine' pt_cmpR (op_eqG hr) ?n26 ?n27 (nomark _)
  case' n26 => refine' pe_ix ix_seq ?n28 ?n29 (fun _ _ => rfl)
  case n28 => exact pv 1
  case n29 => exact pe_int
  case n27 => exact pe_str
  case' n24 => refine' pss_cons ?n30 ?n31
  case' n30 => refine' ps_if ?n32 ?n33 ?n34
  case' n32 => refine' pt_cmpR op_lt ?n35 ?n36 (nomark _)
  case n35 => exact pv 3
  case n36 => exact pe_int
  case' n33 => refine' pss_one ?n37
  case' n37 => refine' ps_ret ?n38
  case n38 => exact pv 1
  case n34 => exact pss_nil
  case' n31 => refine' pss_one ?n39
  case' n39 => refine' ps_ret ?n40
  case' n40 => refine' pe_cal c_kind hr ?n41
  case' n41 => refine' pa ?n42 ?n43
  case n42 => exact pv 0
  case' n43 => refine' pa ?n44 ?n45
  case n44 => exact pv 2
  case n45 => exact pa_nil
  case n25 => exact pss_nil
  case' n22 => refine' pss_one ?n46
  case' n46 => refine' ps_ret ?n47
  case' n47 => refine' pe_op op_addG ?n48 ?n49
  case' n48 => refine' pe_tup ?n50
  case' n50 => refine' pa ?n51 ?n52
  case' n51 => refine' pe_ix ix_seq ?n53 ?n54 (fun _ _ => rfl)
  case n53 => exact pv 1
  case n54 => exact pe_int
  case n52 => exact pa_nil
  case' n49 => refine' pe_callTy (call_tuple_of) rfl T.tuple boot_tuple ?n55
  case' n55 => refine' pa ?n56 ?n57
  case' n56 => refine' pe_lc (k := 1) (N := ["_law_one", "_law_xs_here", "_law_kind_here", "_law_room", "_law_way"]) (lc_mk rfl rfl rfl rfl rfl rfl) rfl ?n58 (fun _ _ _ _ => ?n59) (fun _ _ _ _ => ?n60) (fun _ _ _ _ => ?n61)
  case' n58 => refine' pi_seq ?n62
  case' n62 => refine' pe_slice sl_k ?n63 ?n64 po_none
  case n63 => exact pv 1
  case' n64 => refine' po_some ?n65
  case n65 => exact pe_int
  case n59 => exact pg_name (i := 0) (by show List.Nodup (["_law_one", "_law_xs_here", "_law_kind_here", "_law_room", "_law_way"] : List Str); decide +kernel) rfl (Or.inl rfl)
  case n60 => exact pts_nil
  case n61 =>
    refine' pe_cal c_turned hr ?n66
    case' n66 => refine' pa ?n67 ?n68
    case n67 => exact pv 1
    case' n68 => refine' pa ?n69 ?n70
    case n69 => exact pv 0
    case' n70 => refine' pa ?n71 ?n72
    case' n71 => refine' pe_op op_sub ?n73 ?n74
    case n73 => exact pv 3
    case n74 => exact pe_int
    case n72 => exact pa_nil
  case n57 => exact pa_nil
  refine ⟨_, rfl, l, ns, rfl, hl, fun way ns1 H1 g1 hl1 => ⟨_, _, rfl, rfl, (by show (0 : Int) < 6; decide), ?_⟩⟩
  have rv1 := rv.mono (g1.tm1 hl)
  refine ⟨_, rfl, .inr (.inl ⟨rfl, _, rfl, ?_⟩)⟩
  refine ite2 (fun c => ?_) (fun c => ?_)
  · refine ⟨by show 1 ≤ sizeLine; decide, fun p hp => ?_⟩
    have o1 : Old H1 (upd H1 p (.tup [.str "?"])) := Old.new hp
    exact q qK (.ref p) ns1 _ (RK.tup (.of upd_same) (.cons (.s _) .nil)) wf_q (by show ((1 + 0 : Nat) : Int) ≤ room; omega) (part_q t) (g1.trans o1.gm) (o1 _ _ hl1)
  have q' := q
  obtain ⟨h, ks⟩ := t
  have wft' := wft
  obtain ⟨ear, wks⟩ := wft
  have rv' : RK K H1 (.tup (.str h :: Kn.ds ks)) v := rv1
  have hdep' : ((1 + Kn.deps ks : Nat) : Int) ≤ room := hdep
  have few := arity_le ear
  obtain ⟨xa, us, rfl, ha, ru⟩ := RK.kind rv'
  have lus := ru.length
  rw [ds_length] at lus
  refine ⟨_, rfl, .inr (.inl ⟨xa, _, 0, .str h, rfl, rfl, ha.sq, (by exact atI_nat (j := 0) rfl), .inr (.inl ⟨rfl, _, rfl, ?_⟩)⟩)⟩
  rw [dec_s]
  by_cases cq : h = "?"
  · rw [decide_eq_true cq]
    refine iteT ?_
    refine ⟨_, rfl, _, _, rfl, rfl, _, rfl, ?_⟩
    refine ite2 (fun c => ?_) (fun c => ?_)
    · exact ⟨_, rfl, q' (.mk h ks) _ ns1 H1 rv1 wft' hdep (part_self _) g1 hl1⟩
    · refine ⟨_, rfl, _, rfl, l, ns1, room, rfl, hl1, by omega, by omega, fun t' v' ns2 H2 rp tk hd g2 hl2 => ?_⟩
      refine q' t' v' ns2 H2 rp tk hd ?_ (g1.trans g2) hl2
      have e := wf_q_eq wft' cq
      rw [part_comm, e]
      exact part_q t'
  rw [decide_eq_false cq]
  refine iteF ?_
  refine ⟨_, rfl, .inr (.inl ⟨xa, _, 0, .str h, rfl, rfl, ha.sq, (by exact atI_nat (j := 0) rfl), by show 1 ≤ sizeLine; decide, fun p4 hp4 => ?_⟩)⟩
  have o4 : Old H1 (upd H1 p4 (.tup [.str h])) := Old.new hp4
  have hp4' : upd H1 p4 (.tup [.str h]) p4 = some (.tup [.str h]) := upd_same
  generalize upd H1 p4 (.tup [.str h]) = H4 at o4 hp4' ⊢
  refine ⟨_, rfl, _, rfl, sl_tail (ha.mono o4.tm).sq fun p5 hp5 => ?_⟩
  have o5 : Old H4 (upd H4 p5 (.tup us)) := Old.new hp5
  have hp5' : upd H4 p5 (.tup us) p5 = some (.tup us) := upd_same
  have o15 := o4.trans o5
  have hl5 := o15 _ _ hl1
  have ru5 := ru.mono o15.tm
  have hp45 := o5 _ _ hp4'
  generalize upd H4 p5 (.tup us) = H5 at o5 hp5' o15 hl5 ru5 hp45 ⊢
  refine ⟨p5, rfl, .inr ⟨⟨_, SqT.of hp5'⟩, fun D hD => ?_⟩⟩
  have nlD : l ≠ D := ne_of_none hl5 hD
  have oD : Old H5 (upd H5 D (.lst [])) := Old.new hD
  have hDD : upd H5 D (.lst []) D = some (.lst []) := upd_same
  have hDH : ∀ b o, H b = some o → b ≠ l → b ≠ D := fun b o e n z => by
    have e2 := o15 _ _ (g1 _ _ e n)
    rw [z, hD] at e2
    cases e2
  have hl6 := oD _ _ hl5
  have hp6 := oD _ _ hp5'
  have ru6 := ru5.mono oD.tm
  have hp46 := oD _ _ hp45
  have o16 := o15.trans oD
  generalize upd H5 D (.lst []) = H6 at oD hDD hl6 hp6 ru6 hp46 o16 ⊢
  refine lc_by0 (n := us.length) (fun i σ H7 => ∃ (k1 : Option V) (ts : List Kn) (ws : List V) (nn : List Int), σ = [k1, some (.ref l), some (.ref xa), some (.int room), some (.int (way % 6))] ∧ ts.length = i ∧ Kn.wfs ts ∧ Kn.deps ts ≤ Kn.deps ks + (room.toNat - 1 - Kn.deps ks) ∧ Kn.fits ts (ks.take i) ∧ RKs K H7 (Kn.ds ts) ws ∧ H7 D = some (.lst ws) ∧ Gr (M2 l D) H6 H7 ∧ H7 l = some (.lst (nn.map V.int)))
    ⟨none, [], [], ns1, rfl, rfl, trivial, Nat.zero_le _, trivial, rfl, hDD, Gr.refl _, hl6⟩ ?_ ?_ ?_ ?_
  · intro i σ H7 hi hv
    obtain ⟨k1, ts, ws, nn, rfl, lt, wts, dts, fts, rws, hD7, g7, hl7⟩ := hv
    exact ⟨_, _, SqT.of ((g7.tm2 hl6 hDD) _ _ hp6), List.getElem?_eq_getElem hi⟩
  · intro σ H7 hv
    obtain ⟨k1, ts, ws, nn, rfl, lt, wts, dts, fts, rws, hD7, g7, hl7⟩ := hv
    exact ⟨_, SqT.of ((g7.tm2 hl6 hDD) _ _ hp6), Nat.le_refl _⟩
  · intro i σ H7 hi hv y H8 hy
    obtain ⟨k1, ts, ws, nn, rfl, lt, wts, dts, fts, rws, hD7, g7, hl7⟩ := hv
    obtain ⟨e1, hyx⟩ := hy
    subst e1
    have tm7 := g7.tm2 hl6 hDD
    have eu : us[i]? = some y := hyx _ (SqT.of (tm7 _ _ hp6))
    have i1 : i < ks.length := by omega
    obtain ⟨d, ed, rd⟩ := ru6.getV eu
    rw [ds_get i1] at ed
    cases ed
    have dg := deps_get i1
    have lws := rws.length
    rw [ds_length] at lws
    refine ⟨_, rfl, _, rfl, _, rfl, _, _, rfl, rfl, l, y, ks[i], nn, room - 1, rfl, hl7, rd.mono tm7, wfs_get i1 wks, by omega, by omega, by omega, fun t' v' nn' H9 rp tk hd pn g9 hl9 => ?_⟩
    have hD9 := g9 _ _ hD7 (Ne.symm nlD)
    have tm9 := g9.tm1 hl7
    have tmD : Tm H9 (upd H9 D (.lst (ws ++ [v']))) := fun b xs e => by
      rw [upd_ne]
      · exact e
      · intro z
        rw [z, hD9] at e
        cases e
    refine ⟨ws, hD9, smallM (by omega), nx hi ⟨_, ts ++ [t'], ws ++ [v'], nn', rfl, by simp; omega, wfs_append wts ⟨tk, trivial⟩, by rw [deps_snoc]; omega, ?_, ?_, upd_same, g7.trans ((g9.wide fun b z => .inl z).trans (Gr.put (.inr rfl))), by rw [upd_ne nlD]; exact hl9⟩⟩
    · rw [take_snoc i1]
      exact fits_snoc (by rw [List.length_take]; omega) fts pn
    · rw [ds_append]
      exact ((rws.mono tm9).mono tmD).append (.cons (rp.mono tmD) .nil)
  · intro σ H7 hv
    obtain ⟨k1, ts, ws, nn, rfl, lt, wts, dts, fts, rws, hD7, g7, hl7⟩ := hv
    have lws := rws.length
    rw [ds_length] at lws
    rw [← lus, List.take_length] at fts
    refine ⟨D, ws, rfl, .inl ⟨SqL.of hD7, fun p8 hp8 => ?_⟩⟩
    have o8 : Old H7 (upd H7 p8 (.tup ws)) := Old.new hp8
    refine cat_g (ds := [.str h]) (es := Kn.ds ts) (RK.tup (.of (o8 _ _ ((g7.tm2 hl6 hDD) _ _ hp46))) (.cons (.s _) .nil)) (RK.tup (.of upd_same) (rws.mono o8.tm)) (by rw [ds_length]; simp; omega) fun v9 H9 o9 r9 => ?_
    refine q' (.mk h ts) v9 nn H9 r9 ⟨by rw [ear]; congr 1; omega, wts⟩ (by show ((1 + Kn.deps ts : Nat) : Int) ≤ room; omega) (part_of_fits ear (by omega) fts) (fun b o e n => ?_) (o9 _ _ (o8 _ _ hl7))
    refine o9 _ _ (o8 _ _ (g7 _ _ (o16 _ _ (g1 _ _ e n)) fun z => ?_))
    rcases z with z | z
    · exact n z
    · exact hDH b o e n z
/-! ### xs -/
abbrev sXs : Stmt := top 34
def spXs (K : PySem.W.Frag) : Sp := fun vs H Q _ => ∃ (c : Int) (b : Bool), vs = [.int c, .bl b] ∧ ∀ (l : Addr) (ns : List Int) (H' : Hp), Old H H' → H l = none → H' l = some (.lst (ns.map V.int)) → Q (.ref l) H'
theorem scXs : FnScope ["_law_cell", "_law_mixed", "_law_number", "_law_some", "_law_k"] ["_law_cell", "_law_mixed"] (defScope sXs) := ⟨rfl, rfl, rfl, by decide +kernel, rfl, by decide +kernel, by decide +kernel⟩
theorem ok_xs {n : Nat} (F : Fun K "_law_xs" "_law_xs" sXs f fd) (T : Tx mg) : FnOk P w K mg base CX0 (n + 1) f fd ["_law_cell", "_law_mixed"] (spXs K) := by
  refine F.ok scXs (fun vs H Q E h => ?_) (fun cdv A outer s H vs Q E hr h => ?_)
  · obtain ⟨c, b, rfl, _⟩ := h
    rfl
  obtain ⟨c, b, rfl, q⟩ := h
  have nd := scXs.nd
  refine' ⟨_, ?n0, ?Z⟩
  case' n0 => refine' pss_cons ?n1 ?n2
  case' n1 => refine' ps_setX (i := 2) nd rfl (Or.inl rfl) rfl (by first | exact .inl rfl | exact .inr rfl) ?n3
  case' n3 => refine' pe_callB (call_abs) rfl T.abs boot_abs ?n4
  case' n4 => refine' pa ?n5 ?n6
  case n5 => exact pv 0
  case n6 => exact pa_nil
  case' n2 => refine' pss_cons ?n7 ?n8
  case' n7 => refine' ps_if ?n9 ?n10 ?n11
  case' n9 => refine' pt_val ?n12
  case n12 => exact pv 1
  case' n10 => refine' pss_one ?n13
  case' n13 => refine' ps_setX (i := 2) nd rfl (Or.inl rfl) rfl (by first | exact .inl rfl | exact .inr rfl) ?n14
  case' n14 => refine' pe_op op_fdivG ?n15 ?n16
  case' n15 => refine' pe_op op_pow ?n17 ?n18
  case' n17 => refine' pe_op op_addG ?n19 ?n20
  case n19 => exact pe_int
  case' n20 => refine' pe_op op_mod ?n21 ?n22
  case' n21 => refine' pe_op op_addG ?n23 ?n24
  case' n23 => refine' pe_op op_mulG ?n25 ?n26
  case' n25 => refine' pe_op op_mod ?n27 ?n28
  case n27 => exact pv 2
  case n28 => exact pe_int
  case n26 => exact pe_int
  case n24 => exact pe_int
  case n22 => exact pe_int
  case n18 => exact pe_int
  case' n16 => refine' pe_op op_pow ?n29 ?n30
  case n29 => exact pe_int
  case n30 => exact pe_int
  case n11 => exact pss_nil
  case' n8 => refine' pss_cons ?n31 ?n32
  case' n31 => refine' ps_setX (i := 3) nd rfl (Or.inl rfl) rfl (by first | exact .inl rfl | exact .inr rfl) ?n33
  case' n33 => refine' pe_lst ?n34
  case n34 => exact pa_nil
  case' n32 => refine' pss_cons ?n35 ?n36
  case' n35 => refine' ps_for PassesOwn.never rfl ?n37 ?n38 ?n39
  case' n37 => refine' pi_range1 rfl T.range ?n40
  case' n40 => refine' pa ?n41 ?n42
  case n41 => exact pe_int
  case n42 => exact pa_nil
  case n38 => exact pg_name (i := 4) nd rfl (Or.inl rfl)
  case' n39 => refine' pss_cons ?n43 ?n44
  case' n43 => refine' ps_expr ?n45
  case' n45 => refine' pe_bm PySem.F.plainAttrs_list PySem.F.slot_list_append PySem.F.type_list_append mt_append ?n46 ?n47
  case n46 => exact pv 3
  case' n47 => refine' pa ?n48 ?n49
  case' n48 => refine' pe_op op_mod ?n50 ?n51
  case n50 => exact pv 2
  case n51 => exact pe_int
  case n49 => exact pa_nil
  case' n44 => refine' pss_one ?n52
  case' n52 => refine' ps_setX (i := 2) nd rfl (Or.inl rfl) rfl (by first | exact .inl rfl | exact .inr rfl) ?n53
  case' n53 => refine' pe_op op_fdivG ?n54 ?n55
  case n54 => exact pv 2
  case n55 => exact pe_int
  case' n36 => refine' pss_one ?n56
  case' n56 => refine' ps_ret ?n57
  case n57 => exact pv 3
  refine ⟨_, rfl, _, rfl, ?_⟩
  dsimp only [gName]
  with_reducible refine seq_by (fun σ H1 => (∃ i : Int, σ = [some (.int c), some (.bl b), some (.int i), none, none]) ∧ H1 = H) (fun R hR => ?_) (fun σ H1 hP => ?_)
  · refine ⟨_, rfl, _, rfl, ?_⟩
    cases b with
    | false => exact iteF (hR _ _ ⟨⟨_, rfl⟩, rfl⟩)
    | true =>
      refine iteT ?_
      generalize hz : (if c < 0 then -c else c) = z
      have b0 : 0 ≤ z % 2147483647 := Int.emod_nonneg _ (by decide)
      have b1 : z % 2147483647 < 2147483647 := Int.emod_lt_of_pos _ (by decide)
      have d0 : 0 ≤ (z % 2147483647 * 48271 + 11) % 2147483647 := Int.emod_nonneg _ (by decide)
      have d1 : (z % 2147483647 * 48271 + 11) % 2147483647 < 2147483647 := Int.emod_lt_of_pos _ (by decide)
      refine ⟨_, rfl, _, _, rfl, rfl, (by show (0 : Int) < 2147483647; decide), .inr ⟨_, _, rfl, rfl, .inr ⟨by decide, by decide⟩, .inr (.inl ⟨_, _, rfl, rfl, _, _, rfl, rfl, (by show (0 : Int) < 2147483647; decide), .inr (.inl ⟨_, _, rfl, rfl, _, _, rfl, rfl, ⟨by decide, by decide, ?_⟩, _, _, rfl, rfl, ⟨by decide, by decide, by decide⟩, _, _, rfl, rfl, .inr (by decide), ?_⟩)⟩)⟩⟩
      · omega
      · exact hR _ _ ⟨⟨_, rfl⟩, rfl⟩
  obtain ⟨⟨i, rfl⟩, rfl⟩ := hP
  refine ⟨by show 0 ≤ sizeLine; decide, fun D hD => ?_⟩
  have neD : ∀ b o, H1 b = some o → b ≠ D := fun b o e => ne_of_none e hD
  refine ⟨_, rfl, by decide, by decide, for_range (n := 64) (fun k σ H2 => ∃ (k1 : Option V) (i : Int) (ns : List Int), σ = [some (.int c), some (.bl b), some (.int i), some (.ref D), k1] ∧ ns.length = k ∧ H2 D = some (.lst (ns.map V.int)) ∧ Old H1 H2) ⟨none, i, [], rfl, rfl, upd_same, Old.new hD⟩ ?_ ?_⟩
  · intro k σ H2 hk hv
    obtain ⟨k1, i, ns, rfl, ln, hD2, o2⟩ := hv
    refine ⟨_, rfl, .inl ⟨rfl, _, SqL.of hD2⟩, _, rfl, _, _, rfl, rfl, (by show (0 : Int) < 180; decide), D, _, _, rfl, rfl, hD2, smallM (by rw [List.length_map]; omega), ?_⟩
    refine ⟨_, rfl, _, _, rfl, rfl, .inl ⟨by decide, by decide⟩, ?_⟩
    refine ⟨_, _, ns ++ [i % 180], rfl, by simp; omega, ?_, fun b o e => by rw [upd_ne (neD b o e)]; exact o2 b o e⟩
    rw [upd_same, List.map_append]
    rfl
  · intro σ H2 hv
    obtain ⟨k1, i, ns, rfl, ln, hD2, o2⟩ := hv
    exact ⟨_, rfl, q D ns H2 o2 hD hD2⟩
/-! ### loosened -/
abbrev sLoos : Stmt := top 31
def spLoos (K : PySem.W.Frag) (m : Nat) : Sp := fun vs H Q _ => ∃ (l : Addr) (v : V) (t : Kn) (ns : List Int), vs = [.ref l, v] ∧ H l = some (.lst (ns.map V.int)) ∧ RK K H t.d v ∧ t.wf ∧ t.dep < m ∧ t.dep ≤ 7 ∧
  ∀ (t' : Kn) (v' : V) (ns' : List Int) (H' : Hp), RK K H' t'.d v' → t'.wf → t'.dep ≤ t.dep → t.loose t' = true → Gr (M1 l) H H' → H' l = some (.lst (ns'.map V.int)) → Q v' H'
theorem scLoos : FnScope ["_law_xs_here", "_law_kind_here"] ["_law_xs_here", "_law_kind_here"] (defScope sLoos) := ⟨rfl, rfl, rfl, by decide +kernel, rfl, by decide +kernel, by decide +kernel⟩
theorem ok_loosened {m : Nat} (F : Fun K "_law_loosened" "_law_loosened" sLoos f fd) (T : Tx mg) (c_next : Cal P w K mg base "_law_next" ["_law_xs_here"] 1 (spNext K)) (c_loosened : Cal P w K mg base "_law_loosened" ["_law_xs_here", "_law_kind_here"] (m + 1) (spLoos K m)) :
    FnOk P w K mg base CX0 (m + 2) f fd ["_law_xs_here", "_law_kind_here"] (spLoos K (m + 1)) := by
  refine F.ok scLoos (fun vs H Q E h => ?_) (fun cdv A outer s H vs Q E hr h => ?_)
  · obtain ⟨l, v, t, ns, rfl, _⟩ := h
    rfl
  obtain ⟨l, v, t, ns, rfl, hl, rv, wft, hm, h7, q⟩ := h
  have nd := scLoos.nd
  have d1 := dep_pos t
  refine' ⟨_, ?n0, ?Z⟩
  case' n0 => refine' pss_cons ?n1 ?n2
  case' n1 => refine' ps_if ?n3 ?n4 ?n5
  case' n3 => refine' pt_cmpR (op_eqG hr) ?n6 ?n7 (nomark _)
  case' n6 => refine' pe_op op_mod ?n8 ?n9
  case' n8 => refine' pe_cal c_next hr ?n10
  case' n10 => refine' pa ?n11 ?n12
  case n11 => exact pv 0
  case n12 => exact pa_nil
  case n9 => exact pe_int
  case n7 => exact pe_int
  case' n4 => refine' pss_one ?n13
  case' n13 => refine' ps_ret ?n14
  case' n14 => refine' pe_tup ?n15
  case' n15 => refine' pa ?n16 ?n17
  case n16 => exact pe_str
  case n17 => exact pa_nil
  case n5 => exact pss_nil
  case' n2 => refine' pss_one ?n18
  case' n18 => refine' ps_ret ?n19
  case' n19 => refine' pe_op op_addG ?n20 ?n21
  case' n20 => refine' pe_tup ?n22
  case' n22 => refine' pa ?n23 ?n24
  case' n23 => refine' pe_ix ix_seq ?n25 ?n26 (fun _ _ => rfl)
  case n25 => exact pv 1
  case n26 => exact pe_int
  case n24 => exact pa_nil
  case' n21 => refine' pe_callTy (call_tuple_of) rfl T.tuple boot_tuple ?n27
  case' n27 => refine' pa ?n28 ?n29
  case' n28 => refine' pe_lc (k := 1) (N := ["_law_one", "_law_xs_here", "_law_kind_here"]) (lc_mk rfl rfl rfl rfl rfl rfl) rfl ?n30 (fun _ _ _ _ => ?n31) (fun _ _ _ _ => ?n32) (fun _ _ _ _ => ?n33)
  case' n30 => refine' pi_seq ?n34
  case' n34 => refine' pe_slice sl_k ?n35 ?n36 po_none
  case n35 => exact pv 1
  case' n36 => refine' po_some ?n37
  case n37 => exact pe_int
  case n31 => exact pg_name (i := 0) (by show List.Nodup (["_law_one", "_law_xs_here", "_law_kind_here"] : List Str); decide +kernel) rfl (Or.inl rfl)
  case n32 => exact pts_nil
  case n33 =>
    refine' pe_cal c_loosened hr ?n38
    case' n38 => refine' pa ?n39 ?n40
    case n39 => exact pv 1
    case' n40 => refine' pa ?n41 ?n42
    case n41 => exact pv 0
    case n42 => exact pa_nil
  case n29 => exact pa_nil
  refine ⟨_, rfl, l, ns, rfl, hl, fun way ns1 H1 g1 hl1 => ⟨_, _, rfl, rfl, (by show (0 : Int) < 5; decide), .inr (.inl ⟨rfl, _, rfl, ?_⟩)⟩⟩
  have rv1 := rv.mono (g1.tm1 hl)
  refine ite2 (fun c => ?_) (fun c => ?_)
  · refine ⟨by show 1 ≤ sizeLine; decide, fun p hp => ?_⟩
    have o1 : Old H1 (upd H1 p (.tup [.str "?"])) := Old.new hp
    exact q qK (.ref p) ns1 _ (RK.tup (.of upd_same) (.cons (.s _) .nil)) wf_q d1 (loose_q t) (g1.trans o1.gm) (o1 _ _ hl1)
  obtain ⟨h, ks⟩ := t
  obtain ⟨ear, wks⟩ := wft
  have rv' : RK K H1 (.tup (.str h :: Kn.ds ks)) v := rv1
  have hm' : 1 + Kn.deps ks < m + 1 := hm
  have h7' : 1 + Kn.deps ks ≤ 7 := h7
  have few := arity_le ear
  obtain ⟨xa, us, rfl, ha, ru⟩ := RK.kind rv'
  have lus := ru.length
  rw [ds_length] at lus
  refine ⟨_, rfl, .inr (.inl ⟨xa, _, 0, .str h, rfl, rfl, ha.sq, (by exact atI_nat (j := 0) rfl), by show 1 ≤ sizeLine; decide, fun p4 hp4 => ?_⟩)⟩
  have o4 : Old H1 (upd H1 p4 (.tup [.str h])) := Old.new hp4
  have hp4' : upd H1 p4 (.tup [.str h]) p4 = some (.tup [.str h]) := upd_same
  generalize upd H1 p4 (.tup [.str h]) = H4 at o4 hp4' ⊢
  refine ⟨_, rfl, _, rfl, sl_tail (ha.mono o4.tm).sq fun p5 hp5 => ?_⟩
  have o5 : Old H4 (upd H4 p5 (.tup us)) := Old.new hp5
  have hp5' : upd H4 p5 (.tup us) p5 = some (.tup us) := upd_same
  have o15 := o4.trans o5
  have hl5 := o15 _ _ hl1
  have ru5 := ru.mono o15.tm
  have hp45 := o5 _ _ hp4'
  generalize upd H4 p5 (.tup us) = H5 at o5 hp5' o15 hl5 ru5 hp45 ⊢
  refine ⟨p5, rfl, .inr ⟨⟨_, SqT.of hp5'⟩, fun D hD => ?_⟩⟩
  have nlD : l ≠ D := ne_of_none hl5 hD
  have oD : Old H5 (upd H5 D (.lst [])) := Old.new hD
  have hDD : upd H5 D (.lst []) D = some (.lst []) := upd_same
  have hDH : ∀ b o, H b = some o → b ≠ l → b ≠ D := fun b o e n z => by
    have e2 := o15 _ _ (g1 _ _ e n)
    rw [z, hD] at e2
    cases e2
  have hl6 := oD _ _ hl5
  have hp6 := oD _ _ hp5'
  have ru6 := ru5.mono oD.tm
  have hp46 := oD _ _ hp45
  have o16 := o15.trans oD
  generalize upd H5 D (.lst []) = H6 at oD hDD hl6 hp6 ru6 hp46 o16 ⊢
  refine lc_by0 (n := us.length) (fun i σ H7 => ∃ (k1 : Option V) (ts : List Kn) (ws : List V) (nn : List Int), σ = [k1, some (.ref l), some (.ref xa)] ∧ ts.length = i ∧ Kn.wfs ts ∧ Kn.deps ts ≤ Kn.deps ks ∧ (Kn.looses (ks.take i) ts).all id = true ∧ RKs K H7 (Kn.ds ts) ws ∧ H7 D = some (.lst ws) ∧ Gr (M2 l D) H6 H7 ∧ H7 l = some (.lst (nn.map V.int)))
    ⟨none, [], [], ns1, rfl, rfl, trivial, Nat.zero_le _, rfl, rfl, hDD, Gr.refl _, hl6⟩ ?_ ?_ ?_ ?_
  · intro i σ H7 hi hv
    obtain ⟨k1, ts, ws, nn, rfl, lt, wts, dts, fts, rws, hD7, g7, hl7⟩ := hv
    exact ⟨_, _, SqT.of ((g7.tm2 hl6 hDD) _ _ hp6), List.getElem?_eq_getElem hi⟩
  · intro σ H7 hv
    obtain ⟨k1, ts, ws, nn, rfl, lt, wts, dts, fts, rws, hD7, g7, hl7⟩ := hv
    exact ⟨_, SqT.of ((g7.tm2 hl6 hDD) _ _ hp6), Nat.le_refl _⟩
  · intro i σ H7 hi hv y H8 hy
    obtain ⟨k1, ts, ws, nn, rfl, lt, wts, dts, fts, rws, hD7, g7, hl7⟩ := hv
    obtain ⟨e1, hyx⟩ := hy
    subst e1
    have tm7 := g7.tm2 hl6 hDD
    have eu : us[i]? = some y := hyx _ (SqT.of (tm7 _ _ hp6))
    have i1 : i < ks.length := by omega
    obtain ⟨d, ed, rd⟩ := ru6.getV eu
    rw [ds_get i1] at ed
    cases ed
    have dg := deps_get i1
    have lws := rws.length
    rw [ds_length] at lws
    refine ⟨_, rfl, _, rfl, l, y, ks[i], nn, rfl, hl7, rd.mono tm7, wfs_get i1 wks, by omega, by omega, fun t' v' nn' H9 rp tk hd pn g9 hl9 => ?_⟩
    have hD9 := g9 _ _ hD7 (Ne.symm nlD)
    have tm9 := g9.tm1 hl7
    have tmD : Tm H9 (upd H9 D (.lst (ws ++ [v']))) := fun b xs e => by
      rw [upd_ne]
      · exact e
      · intro z
        rw [z, hD9] at e
        cases e
    refine ⟨ws, hD9, smallM (by omega), nx hi ⟨_, ts ++ [t'], ws ++ [v'], nn', rfl, by simp; omega, wfs_append wts ⟨tk, trivial⟩, by rw [deps_snoc]; omega, ?_, ?_, upd_same, g7.trans ((g9.wide fun b z => .inl z).trans (Gr.put (.inr rfl))), by rw [upd_ne nlD]; exact hl9⟩⟩
    · rw [take_snoc i1]
      exact loose_snoc (by rw [List.length_take]; omega) fts pn
    · rw [ds_append]
      exact ((rws.mono tm9).mono tmD).append (.cons (rp.mono tmD) .nil)
  · intro σ H7 hv
    obtain ⟨k1, ts, ws, nn, rfl, lt, wts, dts, fts, rws, hD7, g7, hl7⟩ := hv
    have lws := rws.length
    rw [ds_length] at lws
    rw [← lus, List.take_length] at fts
    refine ⟨D, ws, rfl, .inl ⟨SqL.of hD7, fun p8 hp8 => ?_⟩⟩
    have o8 : Old H7 (upd H7 p8 (.tup ws)) := Old.new hp8
    refine cat_g (ds := [.str h]) (es := Kn.ds ts) (RK.tup (.of (o8 _ _ ((g7.tm2 hl6 hDD) _ _ hp46))) (.cons (.s _) .nil)) (RK.tup (.of upd_same) (rws.mono o8.tm)) (by rw [ds_length]; simp; omega) fun v9 H9 o9 r9 => ?_
    refine q (.mk h ts) v9 nn H9 r9 ⟨by rw [ear]; congr 1; omega, wts⟩ (by show 1 + Kn.deps ts ≤ 1 + Kn.deps ks; omega) ?_ (fun b o e n => ?_) (o9 _ _ (o8 _ _ hl7))
    · rw [loose_eq]
      split
      · rfl
      · rw [if_pos rfl]; exact fts
    refine o9 _ _ (o8 _ _ (g7 _ _ (o16 _ _ (g1 _ _ e n)) fun z => ?_))
    rcases z with z | z
    · exact n z
    · exact hDH b o e n z
end
end L2.K55

end
section
set_option Elab.async false
set_option linter.all false
set_option maxRecDepth 100000
set_option maxHeartbeats 8000000
namespace L2.K55
open PySem PySem.Spec PyProof.Rows L2.Bw L2.Bk
section
variable {P : Program} {w : World} {K : PySem.W.Frag} {mg : Str → Option Value} {base : Heap} {f : Addr} {fd : FuncData}
def bdD (g : Bd) : Dk := .tup (.str g.1 :: Lk.ds g.2)
def spBody (K : PySem.W.Frag) (n : Nat) : Sp := fun vs H Q _ => ∃ (l : Addr) (bs : List V) (gs : List Bd), vs = [.ref l] ∧ H l = some (.lst bs) ∧ RKs K H (gs.map bdD) bs ∧ gs.length ≤ 100 ∧ n ≤ 19 ∧ (∃ A C, BTyL n A gs C) ∧ (∀ g ∈ gs, pureB n g) ∧
  ∀ (v : V) (H' : Hp), Old H H' → RK K H' (bdD (FoldB n gs)) v → Q v H'
/-! ### flat -/
abbrev sFlat : Stmt := top 33
def spFlat (K : PySem.W.Frag) (n : Nat) : Sp := fun vs H Q _ => ∃ (l : Addr) (ws : List V) (xs : List Lk), vs = [.ref l] ∧ H l = some (.lst ws) ∧ RKs K H (Lk.ds xs) ws ∧ xs.length ≤ 100 ∧ 1 ≤ n ∧ n ≤ 19 ∧ (∃ a b, TyL n a xs b) ∧ (∀ x ∈ xs, x.pure n) ∧
  ∀ (v : V) (H' : Hp), Old H H' → RK K H' (Fl n xs).d v → Q v H'
theorem scFlat : FnScope ["_law_looks", "_law_first", "_law_tag", "_law_bodies", "_law_ask", "_law_body_here", "_law_later"] ["_law_looks"] (defScope sFlat) := ⟨rfl, rfl, rfl, by decide +kernel, rfl, by decide +kernel, by decide +kernel⟩
/-- behind the ask -/
def fl2 (first tag : Option Gd) (gs : List Bd) (x : Lk) (r : List Lk) : Fs := match x with
  | .br _ _ _ => flS first tag gs r
  | .mk _ h ls t => flS first (orT t tag) (addB gs h ls) r
theorem fl_none {first tag : Option Gd} {gs : List Bd} {x : Lk} {r : List Lk} (h : x.ask = none) : flS first tag gs (x :: r) = fl2 first tag gs x r := by
  cases x with
  | br k t a => cases (show k = none from h); rfl
  | mk k g ls t => cases (show k = none from h); rfl
theorem fl_ns {g : Gd} {first : Option Gd} {gs : List Bd} {k : Option Gd} {h : Str} {ls : List Lk} {t : Option Gd} {r : List Lk} (e : k = some g) : flS first none gs (.mk k h ls t :: r) = fl2 (some g) none gs (.mk k h ls t) r := by
  subst e
  show flS (some g) t (addB gs h ls) r = flS (some g) (orT t none) (addB gs h ls) r
  rw [show orT t none = t by cases t <;> rfl]
theorem fl_some {t0 g : Gd} {first : Option Gd} {gs : List Bd} {k : Option Gd} {h : Str} {ls : List Lk} {t : Option Gd} {r : List Lk} (e : k = some g) : flS first (some t0) gs (.mk k h ls t :: r) = if t0.1.d.eqb g.1.d = true then fl2 first none gs (.mk k h ls t) r else .off first t0 g := by
  subst e
  show (if t0.1.d.eqb g.1.d = true then flS first t (addB gs h ls) r else .off first t0 g) = (if t0.1.d.eqb g.1.d = true then flS first (orT t none) (addB gs h ls) r else .off first t0 g)
  rw [show orT t none = t by cases t <;> rfl]
theorem og_nonB {H : Hp} {a : Option Gd} {v : V} (h : RK K H (ogd a) v) : decide (v = .non) = a.isNone := by
  cases a with
  | none => rw [show v = .non by rw [show ogd none = .non from rfl, RK] at h; exact h]; rfl
  | some g => obtain ⟨b, v1, v2, rfl, _⟩ := gd_get (show RK K H (gdd g) v from h); rfl
theorem kn_tup (t : Kn) : t.d = .tup (.str t.h :: Kn.ds t.ks) := by obtain ⟨h, ks⟩ := t; rfl
theorem ok_flat {n j : Nat} (F : Fun K "_law_flat" "_law_flat" sFlat f fd) (T : Tx mg) (c_body : Cal P w K mg base "_law_body" ["_law_bodies"] j (spBody K n)) : FnOk P w K mg base CX0 (j + 1) f fd ["_law_looks"] (spFlat K (n + 1)) := by
  refine F.ok scFlat (fun vs H Q E h => ?_) (fun cdv A outer s H vs Q E hr h => ?_)
  · obtain ⟨l, ws, xs, rfl, _⟩ := h
    rfl
  obtain ⟨l, ws, xs, rfl, hl, rws, hlen, _, hn19, ⟨ka, kb, tyx⟩, px, q⟩ := h
  have nd := scFlat.nd
  have fm := flat_main n xs tyx px
  have lw := rws.length
  rw [lds_length] at lw
  refine' ⟨_, ?n0, ?Z⟩
  case' n0 => refine' pss_cons ?n1 ?n2
  case n1 => exact ps_setX (i := 1) nd rfl (Or.inl rfl) rfl (by first | exact .inl rfl | exact .inr rfl) pe_non
  case' n2 => refine' pss_cons ?n3 ?n4
  case n3 => exact ps_setX (i := 2) nd rfl (Or.inl rfl) rfl (by first | exact .inl rfl | exact .inr rfl) pe_non
  case' n4 => refine' pss_cons ?n5 ?n6
  case' n5 => refine' ps_setX (i := 3) nd rfl (Or.inl rfl) rfl (by first | exact .inl rfl | exact .inr rfl) ?n7
  case' n7 => refine' pe_lst ?n8
  case n8 => exact pa_nil
  case' n6 => refine' pss_cons ?n9 ?n10
  case' n9 => refine' ps_for PassesOwn.never rfl ?n11 ?n12 ?n13
  case' n11 => refine' pi_seq ?n14
  case n14 => exact pv 0
  case' n12 => refine' pg_tup rfl ?n15
  case' n15 => refine' pgs_cons ?n16 ?n17
  case n16 => exact pg_name (i := 4) nd rfl (Or.inl rfl)
  case' n17 => refine' pgs_cons ?n18 ?n19
  case n18 => exact pg_name (i := 5) nd rfl (Or.inl rfl)
  case' n19 => refine' pgs_cons ?n20 ?n21
  case n20 => exact pg_name (i := 6) nd rfl (Or.inl rfl)
  case n21 => exact pgs_nil
  case' n13 => refine' pss_cons ?n22 ?n23
  case' n22 => refine' ps_if ?n24 ?n25 ?n26
  case' n24 => refine' pt_cmpR op_notN ?n27 pe_non (nomark _)
  case n27 => exact pv 4
  case' n25 => refine' pss_cons ?n28 ?n29
  case' n28 => refine' ps_if ?n30 ?n31 ?n32
  case' n30 => refine' pt_cmpR op_isN ?n33 pe_non (nomark _)
  case n33 => exact pv 2
  case' n31 => refine' pss_one ?n34
  case' n34 => refine' ps_setX (i := 1) nd rfl (Or.inl rfl) rfl (by first | exact .inl rfl | exact .inr rfl) ?n35
  case n35 => exact pv 4
  case' n32 => refine' pss_one ?n36
  case' n36 => refine' ps_if ?n37 ?n38 ?n39
  case' n37 => refine' pt_cmpR (op_neG hr) ?n40 ?n41 (nomark _)
  case' n40 => refine' pe_ix ix_seq ?n42 ?n43 (fun _ _ => rfl)
  case n42 => exact pv 2
  case n43 => exact pe_int
  case' n41 => refine' pe_ix ix_seq ?n44 ?n45 (fun _ _ => rfl)
  case n44 => exact pv 4
  case n45 => exact pe_int
  case' n38 => refine' pss_one ?n46
  case' n46 => refine' ps_ret ?n47
  case' n47 => refine' pe_tup ?n48
  case' n48 => refine' pa ?n49 ?n50
  case n49 => exact pv 1
  case' n50 => refine' pa ?n51 ?n52
  case' n51 => refine' pe_tup ?n53
  case' n53 => refine' pa ?n54 ?n55
  case n54 => exact pe_str
  case' n55 => refine' pa ?n56 ?n57
  case n56 => exact pv 2
  case' n57 => refine' pa ?n58 ?n59
  case n58 => exact pv 4
  case n59 => exact pa_nil
  case' n52 => refine' pa pe_non ?n60
  case n60 => exact pa_nil
  case n39 => exact pss_nil
  case' n29 => refine' pss_one ?n61
  case n61 => exact ps_setX (i := 2) nd rfl (Or.inl rfl) rfl (by first | exact .inl rfl | exact .inr rfl) pe_non
  case n26 => exact pss_nil
  case' n23 => refine' pss_cons ?n62 ?n63
  case' n62 => refine' ps_if ?n64 ?n65 ?n66
  case' n64 => refine' pt_cmpR (op_neG hr) ?n67 ?n68 (nomark _)
  case' n67 => refine' pe_ix ix_seq ?n69 ?n70 (fun _ _ => rfl)
  case n69 => exact pv 5
  case n70 => exact pe_int
  case n68 => exact pe_str
  case' n65 => refine' pss_one ?n71
  case' n71 => refine' ps_expr ?n72
  case' n72 => refine' pe_bm PySem.F.plainAttrs_list PySem.F.slot_list_append PySem.F.type_list_append mt_append ?n73 ?n74
  case n73 => exact pv 3
  case' n74 => refine' pa ?n75 ?n76
  case n75 => exact pv 5
  case n76 => exact pa_nil
  case n66 => exact pss_nil
  case' n63 => refine' pss_one ?n77
  case' n77 => refine' ps_if ?n78 ?n79 ?n80
  case' n78 => refine' pt_cmpR op_notN ?n81 pe_non (nomark _)
  case n81 => exact pv 6
  case' n79 => refine' pss_one ?n82
  case' n82 => refine' ps_setX (i := 2) nd rfl (Or.inl rfl) rfl (by first | exact .inl rfl | exact .inr rfl) ?n83
  case n83 => exact pv 6
  case n80 => exact pss_nil
  case' n10 => refine' pss_one ?n84
  case' n84 => refine' ps_ret ?n85
  case' n85 => refine' pe_tup ?n86
  case' n86 => refine' pa ?n87 ?n88
  case n87 => exact pv 1
  case' n88 => refine' pa ?n89 ?n90
  case' n89 => refine' pe_cal c_body hr ?n91
  case' n91 => refine' pa ?n92 ?n93
  case n92 => exact pv 3
  case n93 => exact pa_nil
  case' n90 => refine' pa ?n94 ?n95
  case n94 => exact pv 2
  case n95 => exact pa_nil
  refine ⟨by show 0 ≤ sizeLine; decide, fun D hD => ?_⟩
  have oD : Old H (upd H D (.lst [])) := Old.new hD
  have hDD : upd H D (.lst []) D = some (.lst []) := upd_same
  have neD : ∀ b o, H b = some o → b ≠ D := fun b o e => ne_of_none e hD
  have nlD : l ≠ D := neD _ _ hl
  generalize upd H D (.lst []) = H0 at oD hDD ⊢
  have hl0 := oD _ _ hl
  have rws0 := rws.mono oD.tm
  have back : ∀ {H2 : Hp}, Gr (M1 D) H0 H2 → Old H H2 := fun g b o e => g _ _ (oD _ _ e) (neD b o e)
  refine ⟨_, rfl, l, rfl, .inl ⟨⟨_, SqL.of hl0⟩, ?_⟩⟩
  refine for_by (n := ws.length) (fun i σ H2 => ∃ (k1 k2 k3 : Option V) (first tag : Option Gd) (gs : List Bd) (fv tv : V) (bs : List V), σ = [some (.ref l), some fv, some tv, some (.ref D), k1, k2, k3] ∧ Gr (M1 D) H0 H2 ∧ RK K H2 (ogd first) fv ∧ RK K H2 (ogd tag) tv ∧ Gd.oks tag ∧ H2 D = some (.lst bs) ∧ RKs K H2 (gs.map bdD) bs ∧ flS none none [] xs = flS first tag gs (xs.drop i) ∧ bs.length ≤ i)
    ⟨none, none, none, none, none, [], .non, .non, [], rfl, Gr.refl _, .n, .n, trivial, hDD, rfl, rfl, Nat.le_refl _⟩ ?_ ?_ ?_ ?_
  · intro i σ H2 hi hv
    obtain ⟨k1, k2, k3, first, tag, gs, fv, tv, bs, rfl, g2, rfv, rtv, okt, hD2, rbs, eg, lb⟩ := hv
    exact ⟨_, _, SqL.of (g2 _ _ hl0 nlD), List.getElem?_eq_getElem hi⟩
  · intro σ H2 hv
    obtain ⟨k1, k2, k3, first, tag, gs, fv, tv, bs, rfl, g2, rfv, rtv, okt, hD2, rbs, eg, lb⟩ := hv
    exact ⟨_, SqL.of (g2 _ _ hl0 nlD), Nat.le_refl _⟩
  · intro i σ H2 hi hv y H3 hy
    obtain ⟨k1, k2, k3, first, tag, gs, fv, tv, bs, rfl, g2, rfv, rtv, okt, hD2, rbs, eg, lb⟩ := hv
    obtain ⟨e1, hyx⟩ := hy
    subst e1
    have ey := hyx _ (SqL.of (g2 _ _ hl0 nlD))
    have ix : i < xs.length := by omega
    obtain ⟨d, ed, rd⟩ := rws0.getV ey
    rw [lds_get ix] at ed
    cases ed
    have rx := rd.mono (g2.tm1 hDD)
    rw [List.drop_eq_getElem_cons ix] at eg
    have okX := px _ (List.getElem_mem ix)
    generalize xs[i] = X at rx eg okX
    cases X with
    | br k t a => exact okX.elim
    | mk k h ls t =>
    have ok' := pure_ok okX
    obtain ⟨va, v0, v1, v2, rfl, hva, r0, r1, r2⟩ := lk_get' rx
    refine ⟨va, _, rfl, hva.sq, rfl, _, _, rfl, _, _, rfl, _, _, rfl, rfl, ?_⟩
    have oks : Gd.oks t := ok'.2.1
    have oka : Gd.oks k := ok'.1
    with_reducible refine seq_by (fun σ H4 => ∃ (first' tag' : Option Gd) (fv' tv' : V), σ = [some (.ref l), some fv', some tv', some (.ref D), some v0, some v1, some v2] ∧ H4 = H3 ∧ RK K H3 (ogd first') fv' ∧ RK K H3 (ogd tag') tv' ∧ Gd.oks tag' ∧ flS none none [] xs = fl2 first' tag' gs (.mk k h ls t) (xs.drop (i + 1))) (fun R hR => ?_) (fun σ H4 hP => ?_)
    · refine ⟨_, rfl, rfl, _, rfl, ?_⟩
      rw [og_nonB (show RK K H3 (ogd k) v0 from r0)]
      cases k with
      | none =>
        refine iteF (hR _ _ ⟨first, tag, fv, tv, rfl, rfl, rfv, rtv, okt, ?_⟩)
        rw [eg, fl_none rfl]
      | some g =>
        refine iteT ?_
        obtain ⟨ka, kv1, kv2, rfl, hka, rk1, rk2⟩ := gd_get (show RK K H3 (gdd g) v0 from r0)
        dsimp only [tNext]
        with_reducible refine seq_by (fun σ H4 => ∃ (first' : Option Gd) (fv' : V), σ = [some (.ref l), some fv', some tv, some (.ref D), some (.ref ka), some v1, some v2] ∧ H4 = H3 ∧ RK K H3 (ogd first') fv' ∧ flS none none [] xs = fl2 first' none gs (.mk (some g) h ls t) (xs.drop (i + 1))) (fun R2 hR2 => ?_) (fun σ H4 hP => ?_)
        · refine ⟨_, rfl, rfl, _, rfl, ?_⟩
          rw [og_nonB rtv]
          cases tag with
          | none =>
            refine iteT ?_
            exact ⟨_, rfl, hR2 _ _ ⟨some g, .ref ka, rfl, rfl, r0, by rw [eg, fl_ns rfl]⟩⟩
          | some t0 =>
            refine iteF ?_
            obtain ⟨ta, tv1, tv2, rfl, hta, rt1, rt2⟩ := gd_get (show RK K H3 (gdd t0) tv from rtv)
            rw [kn_tup] at rt1 rk1
            have hd : dqs (.str t0.1.h :: Kn.ds t0.1.ks) ≤ 60 := by
              have := okt.2.1
              rw [dep_eq] at this
              rw [dqs_cons, dq_str, dq_ds]
              omega
            have e3 : t0.1.d.eqb g.1.d = eqbs (.str t0.1.h :: Kn.ds t0.1.ks) (.str g.1.h :: Kn.ds g.1.ks) := by rw [kn_tup t0.1, kn_tup g.1]; rfl
            refine ⟨_, rfl, .inr (.inl ⟨ta, _, 0, tv1, rfl, rfl, hta.sq, (by exact atI_nat (j := 0) rfl), _, rfl, .inr (.inl ⟨ka, _, 0, kv1, rfl, rfl, hka.sq, (by exact atI_nat (j := 0) rfl), .inl ⟨_, _, rt1, rk1, hd, _, rfl, ?_⟩⟩)⟩)⟩
            rw [← e3]
            have egs := fl_some (t0 := t0) (g := g) (first := first) (gs := gs) (h := h) (ls := ls) (t := t) (r := xs.drop (i + 1)) (k := some g) rfl
            by_cases c : t0.1.d.eqb g.1.d = true
            · rw [if_pos c] at egs
              rw [c]
              refine iteF ?_
              exact hR2 _ _ ⟨first, fv, rfl, rfl, rfv, by rw [eg, egs]⟩
            · rw [if_neg c] at egs
              rw [Bool.eq_false_iff.mpr c]
              refine iteT ?_
              refine ⟨_, rfl, _, rfl, _, rfl, by show 3 ≤ sizeLine; decide, fun p hp => ⟨by show 3 ≤ sizeLine; decide, fun p2 hp2 => ?_⟩⟩
              have o1 : Old H3 (upd H3 p (.tup [.str "broken", .ref ta, .ref ka])) := Old.new hp
              have o2 := Old.new (o := .tup [fv, .ref p, .non]) hp2
              have o12 := o1.trans o2
              refine q (.ref p2) _ ((back g2).trans o12) ?_
              rw [egs] at eg
              rcases fm with ⟨k', t', a', e1, e2⟩ | ⟨k', tag', gs', e1, e2, _⟩
              · rw [eg] at e2
                cases e2
                rw [e1]
                exact RK.tup (.of upd_same) (.cons (rfv.mono o12.tm) (.cons (RK.tup (.of (o2 _ _ upd_same)) (.cons (.s _) (.cons (rtv.mono o12.tm) (.cons (RK.mono o12.tm r0) .nil)))) (.cons .n .nil)))
              · rw [eg] at e2; cases e2
        obtain ⟨first', fv', rfl, rfl, rfv', eg'⟩ := hP
        exact hR _ _ ⟨first', none, fv', .non, rfl, rfl, rfv', .n, trivial, eg'⟩
    clear eg rtv okt rfv
    obtain ⟨first', tag', fv', tv', rfl, rfl, rfv, rtv, okt, eg⟩ := hP
    obtain ⟨vb, us, rfl, hvb⟩ := bd_get r1
    dsimp only [tNext]
    with_reducible refine seq_by (fun σ H5 => ∃ (bs' : List V), σ = [some (.ref l), some fv', some tv', some (.ref D), some v0, some (.ref vb), some v2] ∧ Gr (M1 D) H4 H5 ∧ H5 D = some (.lst bs') ∧ RKs K H5 ((addB gs h ls).map bdD) bs' ∧ bs'.length ≤ i + 1) (fun R hR => ?_) (fun σ H5 hP => ?_)
    · refine ⟨_, rfl, .inr (.inl ⟨vb, _, 0, .str h, rfl, rfl, hvb.sq, (by exact atI_nat (j := 0) rfl), .inr (.inl ⟨rfl, _, rfl, ?_⟩)⟩)⟩
      rw [dec_s]
      by_cases c : h = "same"
      · rw [decide_eq_true c]
        refine iteF (hR _ _ ⟨bs, rfl, Gr.refl _, hD2, ?_, by omega⟩)
        unfold addB
        rw [if_pos c]
        exact rbs
      · rw [decide_eq_false c]
        refine iteT ?_
        refine ⟨_, rfl, .inl ⟨rfl, _, SqL.of hD2⟩, _, rfl, D, bs, _, rfl, rfl, hD2, smallM (by omega), ?_⟩
        have tm : Tm H4 (upd H4 D (.lst (bs ++ [.ref vb]))) := fun b xs e => by
          rw [upd_ne]
          · exact e
          · intro z
            rw [z, hD2] at e
            cases e
        refine hR _ _ ⟨bs ++ [.ref vb], rfl, Gr.put rfl, upd_same, ?_, by simp; omega⟩
        unfold addB
        rw [if_neg c, List.map_append]
        exact (rbs.mono tm).append (.cons (RK.mono tm (show RK K H4 (bdD (h, ls)) (.ref vb) from r1)) .nil)
    obtain ⟨bs', rfl, g5, hD5, rbs5, lb5⟩ := hP
    have tm5 := g5.tm1 hD2
    refine ⟨_, rfl, rfl, _, rfl, ?_⟩
    rw [og_nonB (show RK K H4 (ogd t) v2 from r2)]
    have eg' : flS none none [] xs = flS first' (orT t tag') (addB gs h ls) (xs.drop (i + 1)) := eg
    cases t with
    | none =>
      refine iteF ?_
      exact ⟨_, _, _, first', tag', addB gs h ls, fv', tv', bs', rfl, g2.trans g5, rfv.mono tm5, rtv.mono tm5, okt, hD5, rbs5, eg', lb5⟩
    | some t =>
      refine iteT ?_
      exact ⟨_, rfl, _, _, _, first', some t, addB gs h ls, fv', v2, bs', rfl, g2.trans g5, rfv.mono tm5, RK.mono tm5 r2, oks, hD5, rbs5, eg', lb5⟩
  · intro σ H2 hv
    obtain ⟨k1, k2, k3, first, tag, gs, fv, tv, bs, rfl, g2, rfv, rtv, okt, hD2, rbs, eg, lb⟩ := hv
    have ed : xs.drop ws.length = [] := by rw [← lw]; exact List.drop_length
    rw [ed] at eg
    have lg := rbs.length
    rw [List.length_map] at lg
    rcases fm with ⟨k', t', a', e1, e2⟩ | ⟨k', tag', gs', e1, e2, tyB, pB⟩
    · rw [eg] at e2; cases e2
    rw [eg] at e2
    cases e2
    refine ⟨_, rfl, _, rfl, D, bs, gs, rfl, hD2, rbs, by omega, by omega, (by obtain ⟨A, hA⟩ := tyB; exact ⟨A, _, hA⟩), pB, fun bv H3 o3 rb => ⟨_, rfl, by show 3 ≤ sizeLine; decide, fun p hp => ?_⟩⟩
    have o1 : Old H3 (upd H3 p (.tup [fv, bv, tv])) := Old.new hp
    refine q (.ref p) _ (((back g2).trans o3).trans o1) ?_
    rw [e1]
    exact RK.tup (.of upd_same) (.cons ((rfv.mono o3.tm).mono o1.tm) (.cons (rb.mono o1.tm) (.cons ((rtv.mono o3.tm).mono o1.tm) .nil)))
end
end L2.K55

end
section
set_option Elab.async false
set_option linter.all false
set_option maxRecDepth 100000
set_option maxHeartbeats 8000000
namespace L2.K55
open PySem PySem.Spec PyProof.Rows L2.Bw L2.Bk
section
variable {P : Program} {w : World} {K : PySem.W.Frag} {mg : Str → Option Value} {base : Heap} {f : Addr} {fd : FuncData}
theorem okS {n : Nat} (h : 1 ≤ n) : stillL.ok n := by
  obtain ⟨m, rfl⟩ : ∃ m, n = m + 1 := ⟨n - 1, by omega⟩
  exact ⟨trivial, trivial, Nat.zero_le _, (fun x hx => nomatch hx), (fun _ => rfl), by decide +kernel⟩
theorem Fl_ok {n : Nat} (h : 1 ≤ n) (xs : List Lk) : (∀ x ∈ xs, x.ok n) → (Fl n xs).ok n := by
  refine snocI (p := fun xs => (∀ x ∈ xs, x.ok n) → (Fl n xs).ok n) (fun _ => okS h) (fun xs x ih hx => ?_) xs
  rw [Fl_snoc]
  exact lay_ok n _ _ (ih fun y hy => hx y (List.mem_append_left _ hy)) (hx x (List.mem_append_right _ List.mem_cons_self))
theorem arg_all : ∀ h ∈ (["whole", "truth", "?", "row", "to", "pair"] : List Str), ∀ i < 2, i < (arity h).getD 0 → decide ((stepsOf h)[i]? = some ("arg" : Str)) = (decide (h = "to") && decide (i = 0)) := by decide +kernel
theorem arg_at {h : Str} {m i : Nat} (e : arity h = some m) (hi : i < m) : decide ((stepsOf h)[i]? = some ("arg" : Str)) = (decide (h = "to") && decide (i = 0)) :=
  arg_all h (heads_of e) i (by have := arity_le e; omega) (by rw [e]; exact hi)
theorem col_get {i : Nat} {gs : List Bd} {j : Nat} (h : j < gs.length) (hi : i < gs[j].2.length) : (colB i gs)[j]? = some gs[j].2[i] := by
  unfold colB
  rw [List.getElem?_map, List.getElem?_eq_getElem h, Option.map_some, List.getElem?_eq_getElem hi]
  rfl
theorem col_len (i : Nat) (gs : List Bd) : (colB i gs).length = gs.length := by unfold colB; rw [List.length_map]
theorem RKs.rev {H : Hp} : ∀ {xs : List Lk} {vs : List V}, RKs K H (Lk.ds xs) vs → RKs K H (Lk.ds xs.reverse) vs.reverse
  | [], vs, h => by cases (show vs = [] from h); rfl
  | x :: xs, vs, h => by
    obtain ⟨v, r, rfl, h1, h2⟩ := h
    rw [List.reverse_cons, List.reverse_cons, lds_append]
    exact (RKs.rev h2).append (.cons h1 .nil)
theorem if_by {tt : TT} {ta tb : TS} {D : Ends} {σ : St} {H : Hp} (P : St → Hp → Prop) (h1 : ∀ R : St → Hp → Prop, (∀ σ H, P σ H → R σ H) → tIfS tt ta tb { D with nx := R } σ H) (h2 : ∀ σ H, P σ H → D.nx σ H) : tIfS tt ta tb D σ H := h1 D.nx h2
/-! ### body -/
abbrev sBody : Stmt := top 32
theorem scBody : FnScope ["_law_bodies", "_law_some", "_law_k", "_law_column"] ["_law_bodies"] (defScope sBody) := ⟨rfl, rfl, rfl, by decide +kernel, rfl, by decide +kernel, by decide +kernel⟩
theorem ok_body {n j : Nat} (F : Fun K "_law_body" "_law_body" sBody f fd) (T : Tx mg) (c_flat : Cal P w K mg base "_law_flat" ["_law_looks"] j (spFlat K n)) : FnOk P w K mg base CX0 (j + 1) f fd ["_law_bodies"] (spBody K n) := by
  refine F.ok scBody (fun vs H Q E h => ?_) (fun cdv A outer s H vs Q E hr h => ?_)
  · obtain ⟨l, bs, gs, rfl, _⟩ := h
    rfl
  obtain ⟨l, bs, gs, rfl, hl, rbs, hlen, hn19, ⟨ka, kb, tyB⟩, pB, q⟩ := h
  have nd := scBody.nd
  have lb := rbs.length
  rw [List.length_map] at lb
  refine' ⟨_, ?n0, ?Z⟩
  case' n0 => refine' pss_cons ?n1 ?n2
  case' n1 => refine' ps_if ?n3 ?n4 ?n5
  case' n3 => refine' pt_cmpR (op_eqG hr) ?n6 ?n7 (nomark _)
  case n6 => exact pv 0
  case' n7 => refine' pe_lst ?n8
  case n8 => exact pa_nil
  case' n4 => refine' pss_one ?n9
  case' n9 => refine' ps_ret ?n10
  case' n10 => refine' pe_tup ?n11
  case' n11 => refine' pa ?n12 ?n13
  case n12 => exact pe_str
  case n13 => exact pa_nil
  case n5 => exact pss_nil
  case' n2 => refine' pss_cons ?n14 ?n15
  case' n14 => refine' ps_setX (i := 1) nd rfl (Or.inl rfl) rfl (by first | exact .inl rfl | exact .inr rfl) ?n16
  case' n16 => refine' pe_lst ?n17
  case n17 => exact pa_nil
  case' n15 => refine' pss_cons ?n18 ?n19
  case' n18 => refine' ps_for PassesOwn.never rfl ?n20 ?n21 ?n22
  case' n20 => refine' pi_range2 rfl T.range ?n23
  case' n23 => refine' pa ?n24 ?n25
  case n24 => exact pe_int
  case' n25 => refine' pa ?n26 ?n27
  case' n26 => refine' pe_callB (call_lenA) rfl T.len boot_len ?n28
  case' n28 => refine' pa ?n29 ?n30
  case' n29 => refine' pe_ix ix_seq ?n31 ?n32 (fun _ _ => rfl)
  case n31 => exact pv 0
  case n32 => exact pe_int
  case n30 => exact pa_nil
  case n27 => exact pa_nil
  case n21 => exact pg_name (i := 2) nd rfl (Or.inr rfl)
  case' n22 => refine' pss_cons ?n33 ?n34
  case' n33 => refine' ps_lc (te := tOp (rIx K) (tVar 0) (tVar 3)) (i := 3) (k := 1) (N := ["_law_body_here", "_law_bodies", "_law_some", "_law_k", "_law_column"]) (lc_mk rfl rfl rfl rfl rfl rfl) rfl nd rfl (Or.inl rfl) ?n35 (fun _ _ _ _ => ?n36) (fun _ _ _ _ => ?n37) (fun _ _ _ _ => ?n38)
  case' n35 => refine' pi_seq ?n39
  case n39 => exact pv 0
  case n36 => exact pg_name (i := 0) (by show List.Nodup (["_law_body_here", "_law_bodies", "_law_some", "_law_k", "_law_column"] : List Str); decide +kernel) rfl (Or.inl rfl)
  case n37 => exact pts_nil
  case n38 =>
    refine' pe_ix ix_seq ?n40 ?n41 (fun _ _ => rfl)
    case n40 => exact pv 0
    case n41 => exact pv 3
  case' n34 => refine' pss_cons ?n42 ?n43
  case' n42 => refine' ps_if ?n44 ?n45 ?n46
  case' n44 => refine' PW.pt ?n47
  case' n47 => refine' pw_and ?n48 ?n49
  case' n48 => refine' pt_cmpR (op_eqG hr) ?n50 ?n51 (nomark _)
  case' n50 => refine' pe_ix ix_seq ?n52 ?n53 (fun _ _ => rfl)
  case' n52 => refine' pe_ix ix_seq ?n54 ?n55 (fun _ _ => rfl)
  case n54 => exact pv 0
  case n55 => exact pe_int
  case n53 => exact pe_int
  case n51 => exact pe_str
  case' n49 => refine' pw_and1 ?n56
  case' n56 => refine' pt_cmpR (op_eqG hr) ?n57 ?n58 (nomark _)
  case n57 => exact pv 2
  case n58 => exact pe_int
  case' n45 => refine' pss_one ?n59
  case' n59 => refine' ps_setX (i := 3) nd rfl (Or.inl rfl) rfl (by first | exact .inl rfl | exact .inr rfl) ?n60
  case' n60 => refine' pe_listrev rfl rfl T.list rfl T.reversed ?n61
  case n61 => exact pv 3
  case n46 => exact pss_nil
  case' n43 => refine' pss_one ?n62
  case' n62 => refine' ps_expr ?n63
  case' n63 => refine' pe_bm PySem.F.plainAttrs_list PySem.F.slot_list_append PySem.F.type_list_append mt_append ?n64 ?n65
  case n64 => exact pv 1
  case' n65 => refine' pa ?n66 ?n67
  case' n66 => refine' pe_cal c_flat hr ?n68
  case' n68 => refine' pa ?n69 ?n70
  case n69 => exact pv 3
  case n70 => exact pa_nil
  case n67 => exact pa_nil
  case' n19 => refine' pss_cons ?n71 ?n72
  case' n71 => refine' ps_if ?n73 ?n74 ?n75
  case' n73 => refine' pt_val ?n76
  case' n76 => refine' pe_callB (call_all rfl) rfl T.all boot_all ?n77
  case' n77 => refine' pa ?n78 ?n79
  case' n78 => refine' pe_lc (te := tOp (rEqG K) (tVar 0) (tTup (tCons (tC .non) (tCons (tTup (tCons (tC (.str "same")) tNil)) (tCons (tC .non) tNil))))) (k := 1) (N := ["_law_one", "_law_bodies", "_law_some", "_law_k", "_law_column"]) (lc_mk rfl rfl rfl rfl rfl rfl) rfl ?n80 (fun _ _ _ _ => ?n81) (fun _ _ _ _ => ?n82) (fun _ _ _ _ => ?n83)
  case' n80 => refine' pi_seq ?n84
  case n84 => exact pv 1
  case n81 => exact pg_name (i := 0) (by show List.Nodup (["_law_one", "_law_bodies", "_law_some", "_law_k", "_law_column"] : List Str); decide +kernel) rfl (Or.inl rfl)
  case n82 => exact pts_nil
  case n83 =>
    refine' pe_cmpR (op_eqG hr) ?n85 ?n86 (nomark _)
    case n85 => exact pv 0
    case' n86 => refine' pe_tup ?n87
    first | case' n87 => refine' pa pe_non ?n88 | case' n86 => refine' pa pe_non ?n88
    first | case' n88 => refine' pa ?n89 ?n90 | case' n87 => refine' pa ?n89 ?n90 | case' n86 => refine' pa ?n89 ?n90
    case' n89 => refine' pe_tup ?n91
    first | case' n91 => refine' pa ?n92 ?n93 | case' n89 => refine' pa ?n92 ?n93
    case n92 => exact pe_str
    case n93 => exact pa_nil
    case' n90 => refine' pa pe_non ?n94
    first | case n94 => exact pa_nil | case n90 => exact pa_nil
  case n79 => exact pa_nil
  case' n74 => refine' pss_one ?n95
  case' n95 => refine' ps_ret ?n96
  case' n96 => refine' pe_tup ?n97
  case' n97 => refine' pa ?n98 ?n99
  case n98 => exact pe_str
  case n99 => exact pa_nil
  case n75 => exact pss_nil
  case' n72 => refine' pss_one ?n100
  case' n100 => refine' ps_ret ?n101
  case' n101 => refine' pe_op op_addG ?n102 ?n103
  case' n102 => refine' pe_tup ?n104
  case' n104 => refine' pa ?n105 ?n106
  case' n105 => refine' pe_ix ix_seq ?n107 ?n108 (fun _ _ => rfl)
  case' n107 => refine' pe_ix ix_seq ?n109 ?n110 (fun _ _ => rfl)
  case n109 => exact pv 0
  case n110 => exact pe_int
  case n108 => exact pe_int
  case n106 => exact pa_nil
  case' n103 => refine' pe_callTy (call_tuple_of) rfl T.tuple boot_tuple ?n111
  case' n111 => refine' pa ?n112 ?n113
  case n112 => exact pv 1
  case n113 => exact pa_nil
  refine ⟨_, rfl, (by show 0 ≤ sizeLine; decide), fun p hp => ?_⟩
  have o0 : Old H (upd H p (.lst [])) := Old.new hp
  by_cases ge : gs = []
  · subst ge
    cases bs with
    | cons _ _ => simp at lb
    | nil =>
    refine .inr (eqQK (.lists (ds := []) (SqL.of (o0 _ _ hl)) (SqL.of upd_same) rfl rfl (Nat.zero_le _)) ⟨_, rfl, iteT ?_⟩)
    refine ⟨by show 1 ≤ sizeLine; decide, fun p2 hp2 => ?_⟩
    have o1 := Old.new (o := .tup [.str "same"]) hp2
    exact q (.ref p2) _ (o0.trans o1) (RK.tup (.of upd_same) (.cons (.s _) .nil))
  have gp : 0 < gs.length := by
    rcases gs with _ | ⟨_, _⟩
    · exact absurd rfl ge
    · simp
  refine .inr (eqQK (.lens (SqL.of (o0 _ _ hl)) (SqL.of upd_same) (by show bs.length ≠ 0; omega)) ⟨_, rfl, iteF ?_⟩)
  obtain ⟨h, m, cg, ef⟩ := fold_cols gs tyB pB ge
  have m2 := arity_le cg.ar
  rw [ef] at q
  dsimp only [tNext]
  refine ⟨by show 0 ≤ sizeLine; decide, fun D hD => ?_⟩
  have oD : Old H (upd (upd H p (.lst [])) D (.lst [])) := o0.trans (Old.new hD)
  have hDD : upd (upd H p (.lst [])) D (.lst []) D = some (.lst []) := upd_same
  have nlD : l ≠ D := ne_of_none (o0 _ _ hl) hD
  have neD : ∀ b o, H b = some o → b ≠ D := fun b o e => ne_of_none (o0 _ _ e) hD
  generalize upd (upd H p (.lst [])) D (.lst []) = H0 at oD hDD ⊢
  clear hD hp o0
  have hl0 := oD _ _ hl
  have rb0 := rbs.mono oD.tm
  have back : ∀ {H2 : Hp}, Gr (M1 D) H0 H2 → Old H H2 := fun g b o e => g _ _ (oD _ _ e) (neD b o e)
  obtain ⟨u0, hu0, ru0⟩ := rb0.get (show (gs.map bdD)[0]? = some (bdD gs[0]) by rw [List.getElem?_map, List.getElem?_eq_getElem gp]; rfl)
  have hd0 := cg.hd _ (List.getElem_mem gp)
  obtain ⟨b0, us0, rfl, hb0, rus0⟩ := RK.kind (show RK K H0 (.tup (.str gs[0].1 :: Lk.ds gs[0].2)) u0 from ru0)
  have lus := rus0.length
  rw [lds_length, hd0.2] at lus
  rw [hd0.1] at hb0
  have hlA : atI bs 0 = some (.ref b0) := atI_nat (j := 0) hu0
  refine ⟨_, rfl, .inl ⟨l, _, 0, .ref b0, rfl, rfl, SqL.of hl0, hlA, .inl ⟨b0, _, rfl, .inr hb0.sq, _, _, rfl, ⟨by decide, by decide, ?_, ?_⟩, ?_⟩⟩⟩
  · show -(2 ^ 62) ≤ ((us0.length + 1 : Nat) : Int)
    omega
  · show ((us0.length + 1 : Nat) : Int) < 2 ^ 62
    omega
  rw [show ((((V.str h :: us0).length : Nat) : Int) - 1).toNat = m by rw [List.length_cons, ← lus]; omega]
  refine for_by (n := m) (fun i σ H2 => ∃ (k1 k3 : Option V) (zs : List V), σ = [some (.ref l), some (.ref D), k1, k3] ∧ Gr (M1 D) H0 H2 ∧ H2 D = some (.lst zs) ∧ RKs K H2 (Lk.ds ((colsF n h m gs).take i)) zs)
    ⟨none, none, [], rfl, Gr.refl _, hDD, rfl⟩ ?_ ?_ ?_ ?_
  · intro i σ H2 hi hv
    exact hi
  · intro σ H2 hv
    exact Nat.le_refl _
  · intro i σ H2 hi hv y H3 hy
    obtain ⟨k1, k3, zs, rfl, g2, hD2, rz⟩ := hv
    obtain ⟨e1, e2⟩ := hy
    subst e1 e2
    have lz := rz.length
    rw [lds_length, List.length_take, colsF_len] at lz
    have hl2 := g2 _ _ hl0 nlD
    have rb2 := rb0.mono (g2.tm1 hDD)
    have hb2 := hb0.mono (g2.tm1 hDD)
    have n1 : 1 ≤ n := by
      obtain ⟨P', Q', tt⟩ := cg.tyEx hi
      cases hc : colD h gs i with
      | nil =>
        have : (colD h gs i).length = gs.length := by unfold colD; split <;> simp [col_len]
        rw [hc] at this
        simp at this
        omega
      | cons x r =>
        rw [hc] at tt
        obtain ⟨b, t1, _⟩ := tt
        exact ty_pos' t1
    dsimp only [gName, List.set]
    unfold tSeq tAsg
    dsimp only
    refine ⟨_, rfl, l, rfl, .inl ⟨⟨_, SqL.of hl2⟩, fun D2 hD2' => ?_⟩⟩
    have neD2 : ∀ b o, H3 b = some o → b ≠ D2 := fun b o e => ne_of_none e hD2'
    refine lc_by0 (n := gs.length) (fun jj σ H4 => ∃ (x1 : Option V) (ys : List V), σ = [x1, some (.ref l), some (.ref D), some (.int (1 + (i : Int))), k3] ∧ Old H3 H4 ∧ H4 D2 = some (.lst ys) ∧ RKs K H4 (Lk.ds ((colB i gs).take jj)) ys) ⟨none, [], rfl, Old.new hD2', upd_same, rfl⟩ ?_ ?_ ?_ ?_
    · intro jj σ H4 hj hv
      obtain ⟨x1, ys, rfl, o4, hD4, ry⟩ := hv
      exact ⟨_, _, SqL.of (o4 _ _ hl2), List.getElem?_eq_getElem (by omega)⟩
    · intro σ H4 hv
      obtain ⟨x1, ys, rfl, o4, hD4, ry⟩ := hv
      exact ⟨_, SqL.of (o4 _ _ hl2), by omega⟩
    · intro jj σ H4 hj hv y H5 hy
      obtain ⟨x1, ys, rfl, o4, hD4, ry⟩ := hv
      obtain ⟨e1, hyx⟩ := hy
      subst e1
      have eu := hyx _ (SqL.of (o4 _ _ hl2))
      obtain ⟨d, ed, rd⟩ := rb2.getV eu
      rw [List.getElem?_map, List.getElem?_eq_getElem hj] at ed
      cases ed
      obtain ⟨ya, us, rfl, hya, rus⟩ := RK.kind (show RK K H3 (.tup (.str gs[jj].1 :: Lk.ds gs[jj].2)) y from rd)
      have hij : i < gs[jj].2.length := by rw [(cg.hd _ (List.getElem_mem hj)).2]; exact hi
      obtain ⟨u, hu, ru⟩ := rus.get (lds_get hij)
      have ly := ry.length
      rw [lds_length, List.length_take, col_len] at ly
      refine ⟨_, rfl, _, rfl, .inr (.inl ⟨ya, _, _, u, rfl, rfl, (hya.mono o4.tm).sq, ?_, ?_⟩)⟩
      · rw [show (1 + (i : Int)) = ((i + 1 : Nat) : Int) by omega]
        exact atI_nat (j := i + 1) (by rw [List.getElem?_cons_succ]; exact hu)
      have tm : Tm H5 (upd H5 D2 (.lst (ys ++ [u]))) := fun b xs e => by
        rw [upd_ne]
        · exact e
        · intro z
          rw [z, hD4] at e
          cases e
      refine ⟨_, hD4, smallM (by omega), nx hj ⟨_, _, rfl, fun b o' e => by rw [upd_ne (neD2 b o' e)]; exact o4 b o' e, upd_same, ?_⟩⟩
      have hc : jj < (colB i gs).length := by rw [col_len]; exact hj
      have ec := col_get (i := i) hj hij
      rw [List.getElem?_eq_getElem hc] at ec
      rw [take_snoc hc, lds_append, Option.some.inj ec]
      exact (ry.mono tm).append (.cons ((ru.mono o4.tm).mono tm) .nil)
    · intro σ H4 hv
      obtain ⟨x1, ys, hσ, o4, hD4, ry⟩ := hv
      rw [List.take_of_length_le (by rw [col_len]; exact Nat.le_refl _)] at ry
      cases hσ
      dsimp only [gName, List.set]
      have hl4 := o4 _ _ hl2
      have hb4 := hb2.mono o4.tm
      have aa := arg_at cg.ar hi
      with_reducible refine if_by (fun σ H5 => ∃ (D3 : Addr) (ws : List V), σ = [some (.ref l), some (.ref D), some (.int (1 + (i : Int))), some (.ref D3)] ∧ Old H3 H5 ∧ H5 D3 = some (.lst ws) ∧ RKs K H5 (Lk.ds (colD h gs i)) ws) (fun R hR => ?_) (fun σ H5 hP => ?_)
      · refine ⟨_, rfl, .inl ⟨l, _, 0, .ref b0, rfl, rfl, SqL.of hl4, hlA, .inr (.inl ⟨b0, _, 0, .str h, rfl, rfl, hb4.sq, (by exact atI_nat (j := 0) rfl), .inr (.inl ⟨rfl, _, rfl, ?_⟩)⟩)⟩⟩
        rw [dec_s]
        by_cases ct : h = "to"
        · rw [decide_eq_true ct]
          refine iteT ?_
          refine ⟨_, rfl, .inr (.inl ⟨rfl, _, rfl, ?_⟩)⟩
          by_cases ci : i = 0
          · rw [decide_eq_true (show V.int (1 + (i : Int)) = V.int 1 by rw [ci]; rfl)]
            refine iteT ?_
            rw [decide_eq_true ct, decide_eq_true ci] at aa
            refine ⟨_, rfl, D2, _, rfl, SqL.of hD4, fun p5 hp5 => hR _ _ ⟨p5, ys.reverse, rfl, o4.trans (Old.new hp5), upd_same, ?_⟩⟩
            have o5 : Old H4 (upd H4 p5 (.lst ys.reverse)) := Old.new hp5
            unfold colD
            rw [if_pos (of_decide_eq_true aa)]
            exact RKs.rev (ry.mono o5.tm)
          · rw [decide_eq_false (show ¬ (V.int (1 + (i : Int)) = V.int 1) from fun z => by injection z with z; omega)]
            rw [decide_eq_true ct, decide_eq_false ci] at aa
            refine iteF (hR _ _ ⟨D2, ys, rfl, o4, hD4, ?_⟩)
            unfold colD
            rw [if_neg (of_decide_eq_false aa)]
            exact ry
        · rw [decide_eq_false ct]
          rw [decide_eq_false ct] at aa
          refine iteF (iteF (hR _ _ ⟨D2, ys, rfl, o4, hD4, ?_⟩))
          unfold colD
          rw [if_neg (of_decide_eq_false aa)]
          exact ry
      obtain ⟨D3, cs, rfl, o5, hD3, rc⟩ := hP
      have hD5 := o5 _ _ hD2
      refine ⟨_, rfl, .inl ⟨rfl, _, SqL.of hD5⟩, _, rfl, D3, cs, colD h gs i, rfl, hD3, rc, ?_, n1, hn19, cg.tyEx hi, cg.pu i hi, fun v H6 o6 rv => ?_⟩
      · have : (colD h gs i).length = gs.length := by unfold colD; split <;> simp [col_len]
        omega
      have hD6 := o6 _ _ hD5
      refine ⟨D, zs, v, rfl, rfl, hD6, smallM (by omega), ?_⟩
      have tm : Tm H6 (upd H6 D (.lst (zs ++ [v]))) := fun b xs e => by
        rw [upd_ne]
        · exact e
        · intro z
          rw [z, hD6] at e
          cases e
      refine ⟨_, _, zs ++ [v], rfl, g2.trans ((o5.trans o6).gm.trans (fun b o e n => by rw [upd_ne n]; exact e)), upd_same, ?_⟩
      have hc : i < (colsF n h m gs).length := by rw [colsF_len]; exact hi
      rw [take_snoc hc, lds_append, colsF_get]
      exact ((rz.mono (o5.trans o6).tm).mono tm).append (.cons (rv.mono tm) .nil)
  · intro σ H2 hv
    obtain ⟨k1, k3, zs, rfl, g2, hD2, rz⟩ := hv
    rw [List.take_of_length_le (by rw [colsF_len]; exact Nat.le_refl _)] at rz
    have lz := rz.length
    rw [lds_length, colsF_len] at lz
    have hl2 := g2 _ _ hl0 nlD
    have hb2 := hb0.mono (g2.tm1 hDD)
    have o2 := back g2
    have hdq : ∀ x ∈ colsF n h m gs, x.d.dq ≤ 61 := fun x hx => by
      obtain ⟨i, hi, rfl⟩ := List.getElem_of_mem hx
      rw [colsF_get]
      rw [colsF_len] at hi
      have n1 : 1 ≤ n := by
        obtain ⟨P', Q', tt⟩ := cg.tyEx hi
        cases hc : colD h gs i with
        | nil =>
          have : (colD h gs i).length = gs.length := by unfold colD; split <;> simp [col_len]
          rw [hc] at this
          simp at this
          omega
        | cons x r =>
          rw [hc] at tt
          obtain ⟨b, t1, _⟩ := tt
          exact ty_pos' t1
      have := lk_dq (Fl_ok n1 (colD h gs i) (fun x hx => pure_ok (cg.pu i hi x hx)))
      omega
    generalize colsF n h m gs = ls at rz hdq q
    have lw : ls.length = zs.length := by have := rz.length; rw [lds_length] at this; exact this
    refine ⟨_, rfl, D, rfl, .inl ⟨⟨_, SqL.of hD2⟩, fun B hB => ?_⟩⟩
    have neB : ∀ b o, H2 b = some o → b ≠ B := fun b o e => ne_of_none e hB
    refine lc_by0 (n := zs.length) (fun i σ H3 => ∃ x1 : Option V, σ = [x1, some (.ref l), some (.ref D), k1, k3] ∧ Old H2 H3 ∧ H3 B = some (.lst (((ls.take i).map Lk.still).map V.bl))) ⟨none, rfl, Old.new hB, upd_same⟩ ?_ ?_ ?_ ?_
    · intro i σ H3 hi hv
      obtain ⟨x1, rfl, o3, hB3⟩ := hv
      exact ⟨_, _, SqL.of (o3 _ _ hD2), List.getElem?_eq_getElem hi⟩
    · intro σ H3 hv
      obtain ⟨x1, rfl, o3, hB3⟩ := hv
      exact ⟨_, SqL.of (o3 _ _ hD2), Nat.le_refl _⟩
    · intro i σ H3 hi hv y H4 hy
      obtain ⟨x1, rfl, o3, hB3⟩ := hv
      obtain ⟨e1, hyx⟩ := hy
      subst e1
      have ey := hyx _ (SqL.of (o3 _ _ hD2))
      have i1 : i < ls.length := by omega
      obtain ⟨d, ed, rd⟩ := rz.getV ey
      rw [lds_get i1] at ed
      cases ed
      obtain ⟨ds, eds⟩ := lk_tup ls[i]
      have dq := hdq ls[i] (List.getElem_mem i1)
      rw [eds, dq_tup] at dq
      refine ⟨_, rfl, by show 1 ≤ sizeLine; decide, fun p1 hp1 => ⟨by show 3 ≤ sizeLine; decide, fun p2 hp2 => ?_⟩⟩
      have o5 : Old H4 (upd H4 p1 (.tup [.str "same"])) := Old.new hp1
      have o6 := Old.new (o := .tup [.non, .ref p1, .non]) hp2
      have rS : RK K (upd (upd H4 p1 (.tup [.str "same"])) p2 (.tup [.non, .ref p1, .non])) (.tup [.non, sameD, .non]) (.ref p2) := RK.tup (.of upd_same) (.cons .n (.cons (RK.tup (.of (o6 _ _ upd_same)) (.cons (.s _) .nil)) (.cons .n .nil)))
      have o56 := o5.trans o6
      generalize upd (upd H4 p1 (.tup [.str "same"])) p2 (.tup [.non, .ref p1, .non]) = H5 at o56 rS ⊢
      refine .inl ⟨ds, [.non, sameD, .non], by rw [← eds]; exact rd.mono (o3.trans o56).tm, rS, by omega, ?_⟩
      rw [still_eqbs eds]
      refine ⟨_, o56 _ _ hB3, smallM (by rw [List.length_map, List.length_map, List.length_take]; omega), nx hi ⟨_, rfl, fun b o e => by rw [upd_ne (neB b o e)]; exact (o3.trans o56) b o e, ?_⟩⟩
      rw [upd_same, take_snoc i1, List.map_append, List.map_append]
      rfl
    · intro σ H3 hv
      obtain ⟨x1, hσ, o3, hB3⟩ := hv
      cases hσ
      rw [← lw, List.take_length] at hB3
      refine ⟨B, _, rfl, SqL.of hB3, _, rfl, ?_⟩
      have ea : (ls.map Lk.still).all id = ls.all Lk.still := by rw [List.all_map]; rfl
      rw [ea]
      cases hst : ls.all Lk.still with
      | true =>
        unfold wrapH wrapL at q
        rw [if_pos hst, if_pos hst] at q
        refine iteT ?_
        refine ⟨by show 1 ≤ sizeLine; decide, fun p2 hp2 => ?_⟩
        exact q (.ref p2) _ ((o2.trans o3).trans (Old.new hp2)) (RK.tup (.of upd_same) (.cons (.s _) .nil))
      | false =>
        unfold wrapH wrapL at q
        have hst' : ¬ (ls.all Lk.still = true) := by rw [hst]; exact Bool.false_ne_true
        rw [if_neg hst', if_neg hst'] at q
        refine iteF ?_
        dsimp only [tNext]
        refine ⟨_, rfl, .inl ⟨l, _, 0, .ref b0, rfl, rfl, SqL.of (o3 _ _ hl2), hlA, .inr (.inl ⟨b0, _, 0, .str h, rfl, rfl, (hb2.mono o3.tm).sq, (by exact atI_nat (j := 0) rfl), by show 1 ≤ sizeLine; decide, fun p hp => ?_⟩)⟩⟩
        have o4 : Old H3 (upd H3 p (.tup [.str h])) := Old.new hp
        refine ⟨_, rfl, D, zs, rfl, .inl ⟨SqL.of ((o3.trans o4) _ _ hD2), fun p2 hp2 => ?_⟩⟩
        have o5 : Old _ (upd (upd H3 p (.tup [.str h])) p2 (.tup zs)) := Old.new hp2
        have oo := (o3.trans o4).trans o5
        refine cat_g (ds := [.str h]) (es := Lk.ds ls) (RK.tup (.of (o5 _ _ upd_same)) (.cons (.s _) .nil)) (RK.tup (.of upd_same) (rz.mono oo.tm)) (by rw [lds_length]; simp; omega) fun v H' o' rv => ?_
        exact q v H' (o2.trans (oo.trans o')) rv
end
end L2.K55

end
section
set_option Elab.async false
set_option linter.all false
set_option maxRecDepth 100000
set_option maxHeartbeats 8000000
namespace L2.K55
open PySem PySem.Spec PyProof.Rows L2.Bw L2.Bk
section
variable {P : Program} {w : World} {K : PySem.W.Frag} {mg : Str → Option Value} {base : Heap} {f : Addr} {fd : FuncData}
/-! ### cell_at, told exactly -/
def spCellD (K : PySem.W.Frag) : Sp := fun vs H Q _ => ∃ (a : Addr) (ns : List Int) (k : Int), vs = [.ref a, .int k] ∧ SqL K H a (ns.map V.int) ∧ 0 ≤ k ∧ Q (.int ((ns[k.toNat]?).getD 0)) H
theorem ok_cellD {n : Nat} (F : Fun K "_law_cell_at" "_law_cell_at" sCell f fd) (T : Tx mg) : FnOk P w K mg base CX0 (n + 1) f fd ["_law_script", "_law_k"] (spCellD K) := by
  refine F.ok scCell (fun vs H Q E h => ?_) (fun cdv A outer s H vs Q E hr h => ?_)
  · obtain ⟨a, ns, k, rfl, _⟩ := h
    rfl
  obtain ⟨a, ns, k, rfl, hS, h0, q⟩ := h
  refine' ⟨_, ?n0, ?Z⟩
  case' n0 => refine' pss_cons ?n1 ?n2
  case' n1 => refine' ps_if ?n3 ?n4 ?n5
  case' n3 => refine' pt_cmpR op_lt ?n6 ?n7 (nomark _)
  case n6 => exact pv 1
  case' n7 => refine' pe_callB (call_lenA) rfl T.len boot_len ?n8
  case' n8 => refine' pa ?n9 ?n10
  case n9 => exact pv 0
  case n10 => exact pa_nil
  case' n4 => refine' pss_one ?n11
  case' n11 => refine' ps_ret ?n12
  case' n12 => refine' pe_ix ix_seq ?n13 ?n14 (fun _ _ => rfl)
  case n13 => exact pv 0
  case n14 => exact pv 1
  case n5 => exact pss_nil
  case' n2 => refine' pss_one ?n15
  case' n15 => refine' ps_ret ?n16
  case n16 => exact pe_int
  refine ⟨_, rfl, _, rfl, .inl ⟨a, _, rfl, .inl hS, _, _, rfl, rfl, _, rfl, ?_⟩⟩
  refine ite2 (fun c => ?_) (fun c => ?_)
  · have c' : k < (((ns.map V.int).length : Nat) : Int) := of_decide_eq_true c
    rw [List.length_map] at c'
    have hk : k.toNat < ns.length := by omega
    rw [List.getElem?_eq_getElem hk] at q
    have e : atI (ns.map V.int) k = some (.int ns[k.toNat]) := by
      have z : atI (ns.map V.int) ((k.toNat : Nat) : Int) = some (.int ns[k.toNat]) := atI_nat (by rw [List.getElem?_map, List.getElem?_eq_getElem hk]; rfl)
      rwa [show ((k.toNat : Nat) : Int) = k by omega] at z
    exact ⟨_, rfl, _, rfl, .inl ⟨a, _, k, _, rfl, rfl, hS, e, q⟩⟩
  · have c' : ¬ (k < (((ns.map V.int).length : Nat) : Int)) := of_decide_eq_false (Bool.eq_false_iff.mpr c)
    rw [List.length_map] at c'
    have hk : ns.length ≤ k.toNat := by omega
    rw [List.getElem?_eq_none hk] at q
    exact q
/-! ### chain -/
theorem cut_ints (ns : List Int) (lo hi : Option Int) : ∃ ms : List Int, cutV (ns.map V.int) lo hi = ms.map V.int ∧ ms.length ≤ ns.length := by
  unfold cutV
  rw [← List.map_drop, ← List.map_take]
  exact ⟨_, rfl, by rw [List.length_take, List.length_drop]; omega⟩
theorem old_gr {H H1 H2 : Hp} {l : Addr} (o : Old H H1) (hl : H l = none) (g : Gr (M1 l) H1 H2) : Old H H2 := fun b u e => g _ _ (o _ _ e) (ne_of_none e hl)
theorem room8 {i : Int} (h0 : 0 ≤ i) (h1 : i < 8) : ∃ r : Int, atI [V.int 1, V.int 2, V.int 3, V.int 2, V.int 3, V.int 4, V.int 3, V.int 6] i = some (.int r) ∧ 1 ≤ r ∧ r ≤ 6 := by
  have c : i = 0 ∨ i = 1 ∨ i = 2 ∨ i = 3 ∨ i = 4 ∨ i = 5 ∨ i = 6 ∨ i = 7 := by omega
  rcases c with c | c | c | c | c | c | c | c <;> subst c <;> exact ⟨_, rfl, by decide, by decide⟩
/-- each fits the next one -/
def Con (ts : List Kn) : Prop := ∀ (i : Nat) (a b : Kn), ts[i]? = some a → ts[i + 1]? = some b → a.part b = none
theorem con_snoc {xs : List Kn} {k u : Kn} (h : Con (xs ++ [k])) (e : k.part u = none) : Con ((xs ++ [k]) ++ [u]) := by
  intro i a b ha hb
  have l1 : (xs ++ [k]).length = xs.length + 1 := by simp
  by_cases c : i + 1 < (xs ++ [k]).length
  · rw [List.getElem?_append_left (by omega)] at ha
    rw [List.getElem?_append_left c] at hb
    exact h i a b ha hb
  · have lb : i + 1 < ((xs ++ [k]) ++ [u]).length := (List.getElem?_eq_some_iff.mp hb).1
    have l2 : ((xs ++ [k]) ++ [u]).length = xs.length + 2 := by simp
    have ei : i = xs.length := by omega
    subst ei
    rw [List.getElem?_append_left (by omega), List.getElem?_append_right (Nat.le_refl _), Nat.sub_self] at ha
    rw [List.getElem?_append_right (by omega), show xs.length + 1 - (xs ++ [k]).length = 0 by omega] at hb
    cases ha
    cases hb
    exact e
abbrev sChain : Stmt := top 35
def spChain (K : PySem.W.Frag) : Sp := fun vs H Q _ => ∃ (a : Addr) (ns : List Int), vs = [.ref a] ∧ SqL K H a (ns.map V.int) ∧ ns.length ≤ 63 ∧
  ∀ (D : Addr) (ts : List Kn) (us : List V) (H' : Hp), Old H H' → H' D = some (.lst us) → RKs K H' (Kn.ds ts) us → 1 ≤ ts.length → ts.length ≤ 64 → (∀ t ∈ ts, t.wf ∧ t.dep ≤ 6) → Con ts → Q (.ref D) H'
theorem scChain : FnScope ["_law_script", "_law_room", "_law_mixed", "_law_cells", "_law_kind_here", "_law_chain_here", "_law_cell", "_law_some"] ["_law_script"] (defScope sChain) := ⟨rfl, rfl, rfl, by decide +kernel, rfl, by decide +kernel, by decide +kernel⟩
theorem ok_chain {m : Nat} (F : Fun K "_law_chain" "_law_chain" sChain f fd) (T : Tx mg) (c_cell_at : Cal P w K mg base "_law_cell_at" ["_law_script", "_law_k"] 1 (spCellD K)) (c_xs : Cal P w K mg base "_law_xs" ["_law_cell", "_law_mixed"] 1 (spXs K)) (c_kind : Cal P w K mg base "_law_kind" ["_law_xs_here", "_law_room"] 8 (spKind K 7)) (c_turned : Cal P w K mg base "_law_turned" ["_law_xs_here", "_law_kind_here", "_law_room"] 15 (spTurned K 7)) (c_loosened : Cal P w K mg base "_law_loosened" ["_law_xs_here", "_law_kind_here"] 8 (spLoos K 7)) : FnOk P w K mg base CX0 (m + 16) f fd ["_law_script"] (spChain K) := by
  refine F.ok scChain (fun vs H Q E h => ?_) (fun cdv A outer s H vs Q E hr h => ?_)
  · obtain ⟨a, ns, rfl, _⟩ := h
    rfl
  obtain ⟨a, ns, rfl, hS, h63, q⟩ := h
  have nd := scChain.nd
  refine' ⟨_, ?n0, ?Z⟩
  case' n0 => refine' pss_cons ?n1 ?n2
  case' n1 => refine' ps_setX (i := 1) nd rfl (Or.inl rfl) rfl (by first | exact .inl rfl | exact .inr rfl) ?n3
  case' n3 => refine' pe_ix ix_seq ?n4 ?n5 (fun _ _ => rfl)
  case' n4 => refine' pe_lst ?n6
  case' n6 => refine' pa ?n7 ?n8
  case n7 => exact pe_int
  case' n8 => refine' pa ?n9 ?n10
  case n9 => exact pe_int
  case' n10 => refine' pa ?n11 ?n12
  case n11 => exact pe_int
  case' n12 => refine' pa ?n13 ?n14
  case n13 => exact pe_int
  case' n14 => refine' pa ?n15 ?n16
  case n15 => exact pe_int
  case' n16 => refine' pa ?n17 ?n18
  case n17 => exact pe_int
  case' n18 => refine' pa ?n19 ?n20
  case n19 => exact pe_int
  case' n20 => refine' pa ?n21 ?n22
  case n21 => exact pe_int
  case n22 => exact pa_nil
  case' n5 => refine' pe_op op_mod ?n23 ?n24
  case' n23 => refine' pe_cal c_cell_at hr ?n25
  case' n25 => refine' pa ?n26 ?n27
  case n26 => exact pv 0
  case' n27 => refine' pa ?n28 ?n29
  case n28 => exact pe_int
  case n29 => exact pa_nil
  case n24 => exact pe_int
  case' n2 => refine' pss_cons ?n30 ?n31
  case' n30 => refine' ps_setX (i := 2) nd rfl (Or.inl rfl) rfl (by first | exact .inl rfl | exact .inr rfl) ?n32
  case' n32 => refine' pe_cmpR (op_eqG hr) ?n33 ?n34 (nomark _)
  case' n33 => refine' pe_op op_mod ?n35 ?n36
  case' n35 => refine' pe_cal c_cell_at hr ?n37
  case' n37 => refine' pa ?n38 ?n39
  case n38 => exact pv 0
  case' n39 => refine' pa ?n40 ?n41
  case n40 => exact pe_int
  case n41 => exact pa_nil
  case n36 => exact pe_int
  case n34 => exact pe_int
  case' n31 => refine' pss_cons ?n42 ?n43
  case' n42 => refine' ps_setX (i := 3) nd rfl (Or.inl rfl) rfl (by first | exact .inl rfl | exact .inr rfl) ?n44
  case' n44 => refine' pe_slice sl_k ?n45 ?n46 ?n47
  case n45 => exact pv 0
  case' n46 => refine' po_some ?n48
  case n48 => exact pe_int
  case' n47 => refine' po_some ?n49
  case n49 => exact pe_int
  case' n43 => refine' pss_cons ?n50 ?n51
  case' n50 => refine' ps_if ?n52 ?n53 ?n54
  case' n52 => refine' pt_cmpR (op_eqG hr) ?n55 ?n56 (nomark _)
  case n55 => exact pv 1
  case n56 => exact pe_int
  case' n53 => refine' pss_one ?n57
  case' n57 => refine' ps_setX (i := 3) nd rfl (Or.inl rfl) rfl (by first | exact .inl rfl | exact .inr rfl) ?n58
  case' n58 => refine' pe_slice sl_k ?n59 ?n60 ?n61
  case n59 => exact pv 0
  case' n60 => refine' po_some ?n62
  case n62 => exact pe_int
  case' n61 => refine' po_some ?n63
  case n63 => exact pe_int
  case n54 => exact pss_nil
  case' n51 => refine' pss_cons ?n64 ?n65
  case' n64 => refine' ps_setX (i := 4) nd rfl (Or.inl rfl) rfl (by first | exact .inl rfl | exact .inr rfl) ?n66
  case' n66 => refine' pe_cal c_kind hr ?n67
  case' n67 => refine' pa ?n68 ?n69
  case' n68 => refine' pe_cal c_xs hr ?n70
  case' n70 => refine' pa ?n71 ?n72
  case' n71 => refine' pe_cal c_cell_at hr ?n73
  case' n73 => refine' pa ?n74 ?n75
  case n74 => exact pv 0
  case' n75 => refine' pa ?n76 ?n77
  case n76 => exact pe_int
  case n77 => exact pa_nil
  case' n72 => refine' pa ?n78 ?n79
  case n78 => exact pv 2
  case n79 => exact pa_nil
  case' n69 => refine' pa ?n80 ?n81
  case n80 => exact pv 1
  case n81 => exact pa_nil
  case' n65 => refine' pss_cons ?n82 ?n83
  case' n82 => refine' ps_setX (i := 5) nd rfl (Or.inl rfl) rfl (by first | exact .inl rfl | exact .inr rfl) ?n84
  case' n84 => refine' pe_lst ?n85
  case' n85 => refine' pa ?n86 ?n87
  case n86 => exact pv 4
  case n87 => exact pa_nil
  case' n83 => refine' pss_cons ?n88 ?n89
  case' n88 => refine' ps_for PassesOwn.never rfl ?n90 ?n91 ?n92
  case' n90 => refine' pi_seq ?n93
  case n93 => exact pv 3
  case n91 => exact pg_name (i := 6) nd rfl (Or.inl rfl)
  case' n92 => refine' pss_cons ?n94 ?n95
  case' n94 => refine' ps_setX (i := 7) nd rfl (Or.inl rfl) rfl (by first | exact .inl rfl | exact .inr rfl) ?n96
  case' n96 => refine' pe_cal c_xs hr ?n97
  case' n97 => refine' pa ?n98 ?n99
  case n98 => exact pv 6
  case' n99 => refine' pa ?n100 ?n101
  case n100 => exact pv 2
  case n101 => exact pa_nil
  case' n95 => refine' pss_one ?n102
  case' n102 => refine' ps_if ?n103 ?n104 ?n105
  case' n103 => refine' pt_cmpR (op_eqG hr) ?n106 ?n107 (nomark _)
  case' n106 => refine' pe_op op_mod ?n108 ?n109
  case' n108 => refine' pe_cal c_cell_at hr ?n110
  case' n110 => refine' pa ?n111 ?n112
  case n111 => exact pv 0
  case' n112 => refine' pa ?n113 ?n114
  case n113 => exact pe_int
  case n114 => exact pa_nil
  case n109 => exact pe_int
  case n107 => exact pe_int
  case' n104 => refine' pss_one ?n115
  case' n115 => refine' ps_expr ?n116
  case' n116 => refine' pe_bm PySem.F.plainAttrs_list PySem.F.slot_list_append PySem.F.type_list_append mt_append ?n117 ?n118
  case n117 => exact pv 5
  case' n118 => refine' pa ?n119 ?n120
  case' n119 => refine' pe_cal c_loosened hr ?n121
  case' n121 => refine' pa ?n122 ?n123
  case n122 => exact pv 7
  case' n123 => refine' pa ?n124 ?n125
  case n124 => exact pv 4
  case n125 => exact pa_nil
  case n120 => exact pa_nil
  case' n105 => refine' pss_one ?n126
  case' n126 => refine' ps_expr ?n127
  case' n127 => refine' pe_bm PySem.F.plainAttrs_list PySem.F.slot_list_append PySem.F.type_list_append mt_append ?n128 ?n129
  case n128 => exact pv 5
  case' n129 => refine' pa ?n130 ?n131
  case' n130 => refine' pe_cal c_turned hr ?n132
  case' n132 => refine' pa ?n133 ?n134
  case n133 => exact pv 7
  case' n134 => refine' pa ?n135 ?n136
  case' n135 => refine' pe_ix ix_seq ?n137 ?n138 (fun _ _ => rfl)
  case n137 => exact pv 5
  case' n138 => refine' pe_un un_neg ?n139
  case n139 => exact pe_int
  case' n136 => refine' pa ?n140 ?n141
  case n140 => exact pv 1
  case n141 => exact pa_nil
  case n131 => exact pa_nil
  case' n89 => refine' pss_one ?n142
  case' n142 => refine' ps_ret ?n143
  case n143 => exact pv 5
  refine ⟨by show 8 ≤ sizeLine; decide, fun p0 hp0 => ?_⟩
  have o0 : Old H (upd H p0 (.lst [V.int 1, V.int 2, V.int 3, V.int 2, V.int 3, V.int 4, V.int 3, V.int 6])) := Old.new hp0
  have hp0' : upd H p0 (.lst [V.int 1, V.int 2, V.int 3, V.int 2, V.int 3, V.int 4, V.int 3, V.int 6]) p0 = some (.lst [V.int 1, V.int 2, V.int 3, V.int 2, V.int 3, V.int 4, V.int 3, V.int 6]) := upd_same
  generalize upd H p0 (.lst [V.int 1, V.int 2, V.int 3, V.int 2, V.int 3, V.int 4, V.int 3, V.int 6]) = H0 at o0 hp0' ⊢
  have hS0 := Old.seq o0 hS
  have m0 : 0 ≤ (ns[(0 : Int).toNat]?).getD 0 % 8 := Int.emod_nonneg _ (by decide)
  have m1 : (ns[(0 : Int).toNat]?).getD 0 % 8 < 8 := Int.emod_lt_of_pos _ (by decide)
  obtain ⟨room, er, r0, r1⟩ := room8 m0 m1
  refine ⟨_, rfl, a, ns, 0, rfl, hS0, by decide, _, _, rfl, rfl, (by show (0 : Int) < 8; decide), .inl ⟨p0, _, _, .int room, rfl, rfl, SqL.of hp0', er, ?_⟩⟩
  clear er m0 m1 hp0'
  refine ⟨_, rfl, a, ns, 3, rfl, hS0, by decide, ?_⟩
  refine ⟨_, _, rfl, rfl, (by show (0 : Int) < 2; decide), .inr (.inl ⟨rfl, ?_⟩)⟩
  generalize (decide (V.int ((ns[(3 : Int).toNat]?).getD 0 % 2) = V.int 1)) = mixed
  refine ⟨_, rfl, _, rfl, _, rfl, .inl ⟨a, _, rfl, hS0, fun p2 hp2 => ?_⟩⟩
  obtain ⟨ms2, hms2, lms2⟩ := cut_ints ns (some 4) (some 64)
  have o2 : Old H0 (upd H0 p2 (.lst (cutV (ns.map V.int) (some 4) (some 64)))) := Old.new hp2
  have hp2' : upd H0 p2 (.lst (cutV (ns.map V.int) (some 4) (some 64))) p2 = some (.lst (ms2.map V.int)) := by rw [upd_same, hms2]
  generalize upd H0 p2 (.lst (cutV (ns.map V.int) (some 4) (some 64))) = H2 at o2 hp2' ⊢
  have o02 := o0.trans o2
  have hS2 := Old.seq o02 hS
  dsimp only [gName]
  with_reducible refine seq_by (fun σ H3 => ∃ (p : Addr) (ms : List Int), σ = [some (.ref a), some (.int room), some (.bl mixed), some (.ref p), none, none, none, none] ∧ Old H2 H3 ∧ H3 p = some (.lst (ms.map V.int)) ∧ ms.length ≤ 63) (fun R hR => ?_) (fun σ H3 hP => ?_)
  · refine ⟨_, rfl, .inr (.inl ⟨rfl, _, rfl, ?_⟩)⟩
    refine ite2 (fun c => ?_) (fun c => ?_)
    · refine ⟨_, rfl, _, rfl, _, rfl, .inl ⟨a, _, rfl, hS2, fun p3 hp3 => ?_⟩⟩
      obtain ⟨ms3, hms3, lms3⟩ := cut_ints ns (some 4) (some 12)
      exact hR _ _ ⟨p3, ms3, rfl, Old.new hp3, by rw [upd_same, hms3], by omega⟩
    · exact hR _ _ ⟨p2, ms2, rfl, Old.refl _, hp2', by omega⟩
  obtain ⟨p, ms, rfl, o3, hp3, lms⟩ := hP
  have o03 := o02.trans o3
  have hS3 := Old.seq o03 hS
  clear hS0 hS2 hp2' hp2 o2 o02 lms2 hms2 hp0 o0
  refine ⟨_, rfl, a, ns, 1, rfl, hS3, by decide, _, rfl, _, mixed, rfl, fun l ms1 H4 o4 hf hl4 => ⟨_, rfl, l, ms1, room, rfl, hl4, r0, by omega, fun t sv ns' H5 rt wt dt g5 hl5 => ?_⟩⟩
  have o35 : Old H3 H5 := old_gr o4 hf g5
  clear hl4 hl5 g5 hf o4
  refine ⟨_, rfl, by show 1 ≤ sizeLine; decide, fun D hD => ?_⟩
  have oD : Old H5 (upd H5 D (.lst [sv])) := Old.new hD
  have hDD : upd H5 D (.lst [sv]) D = some (.lst [sv]) := upd_same
  have neD : ∀ b o, H5 b = some o → b ≠ D := fun b o e => ne_of_none e hD
  have npD : p ≠ D := neD _ _ (o35 _ _ hp3)
  generalize upd H5 D (.lst [sv]) = H6 at oD hDD ⊢
  have rt6 := rt.mono oD.tm
  have o06 := (o03.trans o35).trans oD
  have hp6 := oD _ _ (o35 _ _ hp3)
  have back : ∀ {H' : Hp}, Gr (M1 D) H6 H' → Old H H' := fun g b o e => g _ _ (o06 _ _ e) (neD b o ((o03.trans o35) _ _ e))
  refine ⟨_, rfl, p, rfl, .inl ⟨⟨_, SqL.of hp6⟩, ?_⟩⟩
  refine for_by (n := (ms.map V.int).length) (fun i σ H7 => ∃ (k1 k2 : Option V) (k : Kn) (xs : List Kn) (bs : List V), σ = [some (.ref a), some (.int room), some (.bl mixed), some (.ref p), some sv, some (.ref D), k1, k2] ∧ Gr (M1 D) H6 H7 ∧ H7 D = some (.lst bs) ∧ RKs K H7 (Kn.ds (xs ++ [k])) bs ∧ Con (xs ++ [k]) ∧ (∀ x ∈ xs ++ [k], x.wf ∧ (x.dep : Int) ≤ room) ∧ ((decide (V.int ((ns[(2 : Int).toNat]?).getD 0 % 2) = V.int 0)) = true → t.loose k = true) ∧ xs.length = i)
    ⟨none, none, t, [], [sv], rfl, Gr.refl _, hDD, .cons rt6 .nil, ?_, ?_, (fun _ => loose_self t), rfl⟩ ?_ ?_ ?_ ?_
  · intro i a b ha hb
    cases hb
  · intro x hx
    rw [List.nil_append, List.mem_singleton] at hx
    rw [hx]
    exact ⟨wt, dt⟩
  · intro i σ H7 hi hv
    obtain ⟨k1, k2, k, xs, bs, rfl, g7, _⟩ := hv
    exact ⟨_, _, SqL.of (g7 _ _ hp6 npD), List.getElem?_eq_getElem hi⟩
  · intro σ H7 hv
    obtain ⟨k1, k2, k, xs, bs, rfl, g7, _⟩ := hv
    exact ⟨_, SqL.of (g7 _ _ hp6 npD), Nat.le_refl _⟩
  · intro i σ H7 hi hv y H8 hy
    obtain ⟨k1, k2, k, xs, bs, rfl, g7, hD7, rbs, con, wd, lo, lx⟩ := hv
    obtain ⟨e1, hyx⟩ := hy
    subst e1
    have ey := hyx _ (SqL.of (g7 _ _ hp6 npD))
    rw [List.length_map] at hi
    rw [List.getElem?_map, List.getElem?_eq_getElem hi] at ey
    cases ey
    generalize ms[i] = cell
    have hS7 := Old.seq (back g7) hS
    have rt7 := rt6.mono (g7.tm1 hDD)
    have lbs := rbs.length
    rw [ds_length, List.length_append] at lbs
    have lb1 : xs.length + 1 = bs.length := lbs
    obtain ⟨wk, dk⟩ := wd k (List.mem_append_right _ List.mem_cons_self)
    dsimp only [gName, List.set]
    refine ⟨_, rfl, _, rfl, cell, mixed, rfl, fun l ms6 H9 o9 hf hl9 => ?_⟩
    have hD9 := o9 _ _ hD7
    refine ⟨_, rfl, a, ns, 2, rfl, Old.seq o9 hS7, by decide, _, _, rfl, rfl, (by show (0 : Int) < 2; decide), .inr (.inl ⟨rfl, _, rfl, ?_⟩)⟩
    have fin : ∀ (u : Kn) (uv : V) (H10 : Hp), Old H8 H10 → RK K H10 u.d uv → u.wf → (u.dep : Int) ≤ room → k.part u = none → ((decide (V.int ((ns[(2 : Int).toNat]?).getD 0 % 2) = V.int 0)) = true → t.loose u = true) →
        H10 D = some (.lst bs) ∧ bs.length + 1 ≤ sizeLine ∧ ∃ (k1 k2 : Option V) (k' : Kn) (xs' : List Kn) (bs' : List V), [some (.ref a), some (.int room), some (.bl mixed), some (.ref p), some sv, some (.ref D), some (.int cell), some (.ref l)] = [some (.ref a), some (.int room), some (.bl mixed), some (.ref p), some sv, some (.ref D), k1, k2] ∧ Gr (M1 D) H6 (upd H10 D (.lst (bs ++ [uv]))) ∧ upd H10 D (.lst (bs ++ [uv])) D = some (.lst bs') ∧ RKs K (upd H10 D (.lst (bs ++ [uv]))) (Kn.ds (xs' ++ [k'])) bs' ∧ Con (xs' ++ [k']) ∧ (∀ x ∈ xs' ++ [k'], x.wf ∧ (x.dep : Int) ≤ room) ∧ ((decide (V.int ((ns[(2 : Int).toNat]?).getD 0 % 2) = V.int 0)) = true → t.loose k' = true) ∧ xs'.length = i + 1 := by
      intro u uv H10 o10 ru wu du pn lu
      have hD10 := o10 _ _ hD7
      have tm : Tm H10 (upd H10 D (.lst (bs ++ [uv]))) := fun b xs e => by
        rw [upd_ne]
        · exact e
        · intro z
          rw [z, hD10] at e
          cases e
      refine ⟨hD10, ?_, _, _, u, xs ++ [k], bs ++ [uv], rfl, g7.trans (o10.gm.trans (fun b o e n => by rw [upd_ne n]; exact e)), upd_same, ?_, con_snoc con pn, ?_, lu, by rw [List.length_append, lx]; rfl⟩
      · exact Nat.le_trans (show bs.length + 1 ≤ 100 by omega) (by decide)
      · rw [ds_append]
        exact ((rbs.mono o10.tm).mono tm).append (.cons (ru.mono tm) .nil)
      · intro x hx
        rcases List.mem_append.mp hx with h | h
        · exact wd x h
        · rw [List.mem_singleton.mp h]; exact ⟨wu, du⟩
    refine ite2 (fun c => ?_) (fun c => ?_)
    · refine ⟨_, rfl, .inl ⟨rfl, _, SqL.of hD9⟩, _, rfl, _, rfl, l, sv, t, ms6, rfl, hl9, rt7.mono o9.tm, wt, by omega, by omega, fun u uv ns8 H10 ru wu du lu g10 hl10 => ?_⟩
      obtain ⟨z1, z2, z3⟩ := fin u uv H10 (old_gr o9 hf g10) ru wu (by omega) (loose_cons k.dep (Nat.le_refl _) wt wk wu (lo c) lu) (fun _ => lu)
      exact ⟨D, bs, uv, rfl, rfl, z1, z2, z3⟩
    · obtain ⟨kv, ekv, rkv⟩ := rbs.get (show (Kn.ds (xs ++ [k]))[xs.length]? = some k.d by rw [ds_get (by simp)]; simp)
      have hlast : atI bs (-1) = some kv := by
        rcases List.eq_nil_or_concat bs with z | ⟨b', v', z⟩
        · rw [z] at lb1; simp at lb1
        · rw [z] at ekv lb1 ⊢
          rw [List.concat_eq_append] at ekv lb1 ⊢
          rw [List.length_append] at lb1
          have : xs.length = b'.length := by simpa using lb1
          rw [this, List.getElem?_append_right (Nat.le_refl _), Nat.sub_self] at ekv
          cases ekv
          exact atI_last _ _
      refine ⟨_, rfl, .inl ⟨rfl, _, SqL.of hD9⟩, _, rfl, _, rfl, _, rfl, .inl ⟨D, _, _, kv, rfl, rfl, SqL.of hD9, hlast, _, rfl, l, kv, k, ms6, room, rfl, hl9, rkv.mono o9.tm, wk, dk, by omega, by omega, fun u uv ns8 H10 ru wu du pu g10 hl10 => ?_⟩⟩
      obtain ⟨z1, z2, z3⟩ := fin u uv H10 (old_gr o9 hf g10) ru wu du (by rw [part_comm]; exact pu) (fun z => absurd z c)
      exact ⟨D, bs, uv, rfl, rfl, z1, z2, z3⟩
  · intro σ H7 hv
    obtain ⟨k1, k2, k, xs, bs, rfl, g7, hD7, rbs, con, wd, lo, lx⟩ := hv
    rw [List.length_map] at lx
    refine ⟨_, rfl, q D (xs ++ [k]) bs H7 (back g7) hD7 rbs (by simp) (by simp; omega) (fun x hx => ⟨(wd x hx).1, by have := (wd x hx).2; omega⟩) con⟩
end
end L2.K55

end
section
set_option Elab.async false
set_option linter.all false
set_option maxRecDepth 100000
set_option maxHeartbeats 8000000
namespace L2.K55
open PySem PySem.Spec PyProof.Rows L2.Bw L2.Bk
section
variable {P : Program} {w : World} {K : PySem.W.Frag} {mg : Str → Option Value} {base : Heap} {f : Addr} {fd : FuncData}
theorem RKs.unapp {H : Hp} : ∀ {ds es : List Dk} {vs : List V}, RKs K H (ds ++ es) vs → ∃ us ws, vs = us ++ ws ∧ RKs K H ds us ∧ RKs K H es ws
  | [], es, vs, h => ⟨[], vs, rfl, rfl, h⟩
  | d :: ds, es, vs, h => by
    obtain ⟨v, r, rfl, h1, h2⟩ := h
    obtain ⟨us, ws, rfl, h3, h4⟩ := RKs.unapp h2
    exact ⟨v :: us, ws, rfl, .cons h1 h3, h4⟩
theorem cut_l (A B : List V) : cutV (A ++ B) none (some ((A.length : Nat) : Int)) = A := by
  unfold cutV
  rw [HT.sIx_none, HT.sIx_nat, List.length_append, List.drop_zero, Nat.sub_zero, Nat.min_eq_left (by omega), List.take_left']
  rfl
theorem cut_r (A B : List V) : cutV (A ++ B) (some ((A.length : Nat) : Int)) none = B := by
  unfold cutV
  rw [HT.sIx_none, HT.sIx_nat, List.length_append, Nat.min_eq_left (by omega), List.drop_left', List.take_of_length_le (by omega)]
  rfl
/-! ### laid_by -/
theorem two_at {α : Type} {zs : List α} {i : Nat} (h : i + 1 < zs.length) : ∃ A x y B, zs = A ++ x :: y :: B ∧ A.length = i := by
  refine ⟨zs.take i, zs[i], zs[i + 1], zs.drop (i + 2), ?_, by rw [List.length_take]; omega⟩
  rw [← List.drop_eq_getElem_cons, ← List.drop_eq_getElem_cons, List.take_append_drop]
abbrev sLaidBy : Stmt := top 36
def spLaidBy (K : PySem.W.Frag) : Sp := fun vs H Q _ => ∃ (l a : Addr) (ws : List V) (xs : List Lk) (ns : List Int), vs = [.ref l, .ref a] ∧ H l = some (.lst ws) ∧ RKs K H (Lk.ds xs) ws ∧ SqL K H a (ns.map V.int) ∧ 1 ≤ xs.length ∧ xs.length ≤ 100 ∧ (∃ p q, TyL 6 p xs q) ∧ (∀ x ∈ xs, x.pure 6) ∧
  ∀ (v : V) (H' : Hp), Old H H' → RK K H' (Fl 6 xs).d v → Q v H'
theorem scLaidBy : FnScope ["_law_looks", "_law_script", "_law_left", "_law_k", "_law_at"] ["_law_looks", "_law_script"] (defScope sLaidBy) := ⟨rfl, rfl, rfl, by decide +kernel, rfl, by decide +kernel, by decide +kernel⟩
def WB (K : PySem.W.Frag) (H0 : Hp) (l a : Addr) (X : Lk) (n : Nat) (σ : St) (H : Hp) : Prop := ∃ (L : Addr) (ws : List V) (zs : List Lk) (k : Nat) (c4 : Option V), σ = [some (.ref l), some (.ref a), some (.ref L), some (.int (k : Nat)), c4] ∧ Old H0 H ∧ H L = some (.lst ws) ∧ RKs K H (Lk.ds zs) ws ∧ zs.length = n ∧ 1 ≤ n ∧ n ≤ 100 ∧ (∃ p q, TyL 6 p zs q) ∧ (∀ z ∈ zs, z.nm 6 ∧ z.ok 6) ∧ Fl 6 zs = X
theorem ok_laid_by {m : Nat} (F : Fun K "_law_laid_by" "_law_laid_by" sLaidBy f fd) (T : Tx mg) (c_cell_at : Cal P w K mg base "_law_cell_at" ["_law_script", "_law_k"] 1 (spCellD K)) (c_laid : Cal P w K mg base "laid" ["one", "other"] 27 (spLaid K 6)) : FnOk P w K mg base CX0 (m + 28) f fd ["_law_looks", "_law_script"] (spLaidBy K) := by
  refine F.ok scLaidBy (fun vs H Q E h => ?_) (fun cdv A outer s H vs Q E hr h => ?_)
  · obtain ⟨l, a, ws, xs, ns, rfl, _⟩ := h
    rfl
  obtain ⟨l, a, ws, xs, ns, rfl, hl, rws, hS, h1, h100, tyx, px, q⟩ := h
  have nd := scLaidBy.nd
  refine' ⟨_, ?n0, ?Z⟩
  case' n0 => refine' pss_cons ?n1 ?n2
  case' n1 => refine' ps_setX (i := 2) nd rfl (Or.inl rfl) rfl (by first | exact .inl rfl | exact .inr rfl) ?n3
  case' n3 => refine' pe_callTy (call_list_of) rfl T.list boot_list ?n4
  case' n4 => refine' pa ?n5 ?n6
  case n5 => exact pv 0
  case n6 => exact pa_nil
  case' n2 => refine' pss_cons ?n7 ?n8
  case' n7 => refine' ps_setX (i := 3) nd rfl (Or.inl rfl) rfl (by first | exact .inl rfl | exact .inr rfl) ?n9
  case n9 => exact pe_int
  case' n8 => refine' pss_cons ?n10 ?n11
  case' n10 => refine' ps_while PassesOwn.never ?n12 ?n13
  case' n12 => refine' pt_cmpR op_gt ?n14 ?n15 (nomark _)
  case' n14 => refine' pe_callB (call_lenA) rfl T.len boot_len ?n16
  case' n16 => refine' pa ?n17 ?n18
  case n17 => exact pv 2
  case n18 => exact pa_nil
  case n15 => exact pe_int
  case' n13 => refine' pss_cons ?n19 ?n20
  case' n19 => refine' ps_setX (i := 4) nd rfl (Or.inl rfl) rfl (by first | exact .inl rfl | exact .inr rfl) ?n21
  case' n21 => refine' pe_op op_mod ?n22 ?n23
  case' n22 => refine' pe_op op_fdivG ?n24 ?n25
  case' n24 => refine' pe_cal c_cell_at hr ?n26
  case' n26 => refine' pa ?n27 ?n28
  case n27 => exact pv 1
  case' n28 => refine' pa ?n29 ?n30
  case' n29 => refine' pe_op op_addG ?n31 ?n32
  case n31 => exact pe_int
  case n32 => exact pv 3
  case n30 => exact pa_nil
  case n25 => exact pe_int
  case' n23 => refine' pe_op op_sub ?n33 ?n34
  case' n33 => refine' pe_callB (call_lenA) rfl T.len boot_len ?n35
  case' n35 => refine' pa ?n36 ?n37
  case n36 => exact pv 2
  case n37 => exact pa_nil
  case n34 => exact pe_int
  case' n20 => refine' pss_cons ?n38 ?n39
  case' n38 => refine' ps_setX (i := 2) nd rfl (Or.inl rfl) rfl (by first | exact .inl rfl | exact .inr rfl) ?n40
  case' n40 => refine' pe_op op_addG ?n41 ?n42
  case' n41 => refine' pe_op op_addG ?n43 ?n44
  case' n43 => refine' pe_slice sl_k ?n45 po_none ?n46
  case n45 => exact pv 2
  case' n46 => refine' po_some ?n47
  case n47 => exact pv 4
  case' n44 => refine' pe_lst ?n48
  case' n48 => refine' pa ?n49 ?n50
  case' n49 => refine' pe_cal c_laid hr ?n51
  case' n51 => refine' pa ?n52 ?n53
  case' n52 => refine' pe_ix ix_seq ?n54 ?n55 (fun _ _ => rfl)
  case n54 => exact pv 2
  case n55 => exact pv 4
  case' n53 => refine' pa ?n56 ?n57
  case' n56 => refine' pe_ix ix_seq ?n58 ?n59 (fun _ _ => rfl)
  case n58 => exact pv 2
  case' n59 => refine' pe_op op_addG ?n60 ?n61
  case n60 => exact pv 4
  case n61 => exact pe_int
  case n57 => exact pa_nil
  case n50 => exact pa_nil
  case' n42 => refine' pe_slice sl_k ?n62 ?n63 po_none
  case n62 => exact pv 2
  case' n63 => refine' po_some ?n64
  case' n64 => refine' pe_op op_addG ?n65 ?n66
  case n65 => exact pv 4
  case n66 => exact pe_int
  case' n39 => refine' pss_one ?n67
  case' n67 => refine' ps_setX (i := 3) nd rfl (Or.inl rfl) rfl (by first | exact .inl rfl | exact .inr rfl) ?n68
  case' n68 => refine' pe_op op_addG ?n69 ?n70
  case n69 => exact pv 3
  case n70 => exact pe_int
  case' n11 => refine' pss_one ?n71
  case' n71 => refine' ps_ret ?n72
  case' n72 => refine' pe_ix ix_seq ?n73 ?n74 (fun _ _ => rfl)
  case n73 => exact pv 2
  case n74 => exact pe_int
  refine ⟨_, rfl, l, _, rfl, .inl (SqL.of hl), fun L0 hL0 => ?_⟩
  have o0 : Old H (upd H L0 (.lst ws)) := Old.new hL0
  have hL : upd H L0 (.lst ws) L0 = some (.lst ws) := upd_same
  generalize upd H L0 (.lst ws) = H1 at o0 hL ⊢
  refine ⟨WB K H l a (Fl 6 xs), ⟨xs.length, L0, ws, xs, 0, none, rfl, o0, hL, rws.mono o0.tm, rfl, h1, h100, tyx, (fun z hz => ⟨pure_nm (px z hz), pure_ok (px z hz)⟩), rfl⟩, ?_⟩
  clear hL o0 hL0 rws hl tyx px h1 h100
  intro n σ H2 hW
  obtain ⟨L, ws, zs, k, c4, rfl, o2, hL, rws, ln, h1, h100, ⟨pk, qk, tyz⟩, nz, ef⟩ := hW
  have hS2 := Old.seq o2 hS
  have lw := rws.length
  rw [lds_length] at lw
  refine ⟨_, rfl, .inl ⟨L, ws, rfl, .inl (SqL.of hL), _, _, rfl, rfl, _, rfl, ?_⟩⟩
  refine ite2 (fun c => ?_) (fun c => ?_)
  · have c' : ((ws.length : Nat) : Int) > 1 := of_decide_eq_true c
    refine ⟨_, fun σ' H' h => h, ?_⟩
    refine ⟨_, rfl, _, rfl, .inr (.inl ⟨_, _, rfl, rfl, a, ns, _, rfl, hS2, by omega, _, _, rfl, rfl, .inl ⟨by decide, by decide⟩, _, rfl, .inl ⟨L, ws, rfl, .inl (SqL.of hL), _, _, rfl, rfl, _, _, rfl, rfl, (by show (0 : Int) < ((ws.length : Nat) : Int) - 1; omega), ?_⟩⟩)⟩
    have a0 : 0 ≤ (ns[(4 + (k : Int)).toNat]?).getD 0 / 3 % (((ws.length : Nat) : Int) - 1) := Int.emod_nonneg _ (by omega)
    have a1 : (ns[(4 + (k : Int)).toNat]?).getD 0 / 3 % (((ws.length : Nat) : Int) - 1) < ((ws.length : Nat) : Int) - 1 := Int.emod_lt_of_pos _ (by omega)
    dsimp only [gName, List.set]
    generalize (ns[(4 + (k : Int)).toNat]?).getD 0 / 3 % (((ws.length : Nat) : Int) - 1) = at0 at a0 a1 ⊢
    obtain ⟨i, rfl⟩ : ∃ i : Nat, at0 = (i : Int) := ⟨at0.toNat, by omega⟩
    obtain ⟨A, x, y, B, ez, lA⟩ := two_at (zs := zs) (i := i) (by omega)
    rw [ez] at rws tyz nz ef
    rw [lds_append] at rws
    obtain ⟨wa, wr, rfl, ra, rr⟩ := RKs.unapp rws
    obtain ⟨wx, wr', rfl, rx, rr'⟩ := rr
    obtain ⟨wy, wb, rfl, ry, rb⟩ := rr'
    have lwa := ra.length
    rw [lds_length] at lwa
    have e1 : cutV (wa ++ wx :: wy :: wb) none (some (i : Int)) = wa := by rw [← lA, lwa]; exact cut_l _ _
    have e2 : cutV (wa ++ wx :: wy :: wb) (some ((i : Int) + 2)) none = wb := by
      have z := cut_r (wa ++ [wx, wy]) wb
      rw [List.append_assoc] at z
      rw [← lA, lwa, show ((wa.length : Nat) : Int) + 2 = (((wa ++ [wx, wy]).length : Nat) : Int) by simp]
      exact z
    have gx : atI (wa ++ wx :: wy :: wb) (i : Int) = some wx := atI_nat (j := i) (by rw [← lA, lwa, List.getElem?_append_right (Nat.le_refl _), Nat.sub_self]; rfl)
    have gy : atI (wa ++ wx :: wy :: wb) ((i : Int) + 1) = some wy := by
      rw [show (i : Int) + 1 = ((i + 1 : Nat) : Int) by omega]
      exact atI_nat (j := i + 1) (by rw [← lA, lwa, List.getElem?_append_right (by omega), show wa.length + 1 - wa.length = 1 by omega]; rfl)
    obtain ⟨b, tA, c, tx, d, ty, tB⟩ := tyL_app.mp tyz
    have nx := nz x (List.mem_append_right _ List.mem_cons_self)
    have ny := nz y (List.mem_append_right _ (List.mem_cons_of_mem _ List.mem_cons_self))
    have lall : (wa ++ wx :: wy :: wb).length = wa.length + wb.length + 2 := by simp; omega
    refine ⟨_, rfl, _, rfl, _, rfl, .inl ⟨L, _, rfl, SqL.of hL, fun p1 hp1 => ?_⟩⟩
    rw [e1]
    have o21 : Old H2 (upd H2 p1 (.lst wa)) := Old.new hp1
    have hp1' : upd H2 p1 (.lst wa) p1 = some (.lst wa) := upd_same
    generalize upd H2 p1 (.lst wa) = H3 at o21 hp1' ⊢
    refine ⟨_, rfl, _, rfl, .inl ⟨L, _, _, wx, rfl, rfl, SqL.of (o21 _ _ hL), gx, _, rfl, _, rfl, .inr (.inl ⟨_, _, rfl, rfl, .inl ⟨L, _, _, wy, rfl, rfl, SqL.of (o21 _ _ hL), gy, wx, wy, x, y, rfl, rx.mono o21.tm, ry.mono o21.tm, nx.2, ny.2, ty_cmp 6 tx ty, by decide, fun lv H4 o4 rl => ⟨by show 1 ≤ sizeLine; decide, fun p2 hp2 => ?_⟩⟩⟩)⟩⟩
    have o42 : Old H4 (upd H4 p2 (.lst [lv])) := Old.new hp2
    have hp2' : upd H4 p2 (.lst [lv]) p2 = some (.lst [lv]) := upd_same
    generalize upd H4 p2 (.lst [lv]) = H5 at o42 hp2' ⊢
    have o35 := o4.trans o42
    have hL5 := (o21.trans o35) _ _ hL
    refine .inr (.inr (.inr (.inl ⟨p1, p2, _, _, rfl, rfl, o35 _ _ hp1', hp2', Nat.le_trans (show wa.length + 1 ≤ 1000 by omega) (by decide), fun p3 hp3 => ?_⟩)))
    have o53 : Old H5 (upd H5 p3 (.lst (wa ++ [lv]))) := Old.new hp3
    have hp3' : upd H5 p3 (.lst (wa ++ [lv])) p3 = some (.lst (wa ++ [lv])) := upd_same
    generalize upd H5 p3 (.lst (wa ++ [lv])) = H6 at o53 hp3' ⊢
    refine ⟨_, rfl, _, rfl, .inr (.inl ⟨_, _, rfl, rfl, _, rfl, .inl ⟨L, _, rfl, SqL.of (o53 _ _ hL5), fun p4 hp4 => ?_⟩⟩)⟩
    rw [e2]
    have o64 : Old H6 (upd H6 p4 (.lst wb)) := Old.new hp4
    have hp4' : upd H6 p4 (.lst wb) p4 = some (.lst wb) := upd_same
    generalize upd H6 p4 (.lst wb) = H7 at o64 hp4' ⊢
    refine .inr (.inr (.inr (.inl ⟨p3, p4, _, _, rfl, rfl, o64 _ _ hp3', hp4', Nat.le_trans (show (wa ++ [lv]).length + wb.length ≤ 1000 by simp; omega) (by decide), fun p5 hp5 => ?_⟩)))
    have o75 : Old H7 (upd H7 p5 (.lst ((wa ++ [lv]) ++ wb))) := Old.new hp5
    have hp5' : upd H7 p5 (.lst ((wa ++ [lv]) ++ wb)) p5 = some (.lst ((wa ++ [lv]) ++ wb)) := upd_same
    generalize upd H7 p5 (.lst ((wa ++ [lv]) ++ wb)) = H8 at o75 hp5' ⊢
    have o48 := (o42.trans o53).trans (o64.trans o75)
    have o28 := (o21.trans o4).trans o48
    refine ⟨_, rfl, .inr (.inl ⟨_, _, rfl, rfl, ?_⟩)⟩
    refine ⟨n - 1, by omega, p5, (wa ++ [lv]) ++ wb, (A ++ [lay 6 x y]) ++ B, k + 1, _, rfl, o2.trans o28, hp5', ?_, ?_, by omega, by omega, ⟨pk, qk, ?_⟩, ?_, ?_⟩
    · rw [lds_append, lds_append]
      exact ((ra.mono o28.tm).append (.cons (rl.mono o48.tm) .nil)).append (rb.mono o28.tm)
    · rw [← ln, ez]
      simp
    · rw [List.append_assoc]
      exact tyL_app.mpr ⟨b, tA, d, ty_lay 6 tx ty, tB⟩
    · intro z hz
      rw [List.append_assoc] at hz
      rcases List.mem_append.mp hz with h | h
      · exact nz z (List.mem_append_left _ h)
      · rcases List.mem_cons.mp h with h | h
        · rw [h]
          exact ⟨nm_lay 6 x y nx.1 ny.1, lay_ok 6 x y nx.2 ny.2⟩
        · exact nz z (List.mem_append_right _ (List.mem_cons_of_mem _ (List.mem_cons_of_mem _ h)))
    · rw [List.append_assoc, ← ef]
      exact Fl_two tA tx ty (fun z hz => (nz z (List.mem_append_left _ hz)).1) nx.1 ny.1 B
  · have c' : ¬ (((ws.length : Nat) : Int) > 1) := of_decide_eq_false (Bool.eq_false_iff.mpr c)
    have l1 : zs.length = 1 := by omega
    match zs, l1, ws, rws with
    | [z], _, ws, rws =>
    obtain ⟨v, r, rfl, rv, _⟩ := rws
    have n1 := nz z List.mem_cons_self
    have ez : Fl 6 [z] = z := nm_l n1.1
    refine ⟨_, rfl, .inl ⟨L, _, 0, v, rfl, rfl, SqL.of hL, (by exact atI_nat (j := 0) rfl), ?_⟩⟩
    refine q v H2 o2 ?_
    rw [← ef, ez]
    exact rv
end
end L2.K55

end
section
set_option Elab.async false
set_option linter.all false
set_option maxRecDepth 100000
set_option maxHeartbeats 8000000
namespace L2.K55
open PySem PySem.Spec PyProof.Rows L2.Bw L2.Bk
section
variable {P : Program} {w : World} {K : PySem.W.Frag} {mg : Str → Option Value} {base : Heap} {f : Addr} {fd : FuncData}
theorem pureS (n : Nat) : stillL.pure (n + 1) := ⟨okS (by omega), (fun x hx => nomatch hx), fun z => absurd rfl z⟩
theorem Fl_still (n : Nat) (xs : List Lk) : Fl (n + 1) (stillL :: xs) = Fl (n + 1) xs := by
  unfold Fl
  rw [List.foldl_cons, nm_l (nm_still n)]
theorem cut_1 (v : V) (B : List V) : cutV (v :: B) (some 1) none = B := cut_r [v] B
abbrev sLaw : Stmt := top 37
def spLaw (K : PySem.W.Frag) : Sp := fun vs H Q _ => ∃ (a : Addr) (ns : List Int), vs = [.ref a] ∧ SqL K H a (ns.map V.int) ∧ ns.length ≤ 63 ∧ ∀ H' : Hp, Q (.bl true) H'
theorem scLaw : FnScope ["_law_script", "_law_chain_here", "_law_looks", "_law_k", "_law_due", "_law_found", "_law_look"] ["_law_script"] (defScope sLaw) := ⟨rfl, rfl, rfl, by decide +kernel, rfl, by decide +kernel, by decide +kernel⟩
theorem ok_law {m : Nat} {us : Addr} (F : Fun K "law" "law" sLaw f fd) (T : Tx mg) (m_STILL : mg "STILL" = some (.ref us)) (rS : ∀ H, RK K H stillD (.ref us)) (c_cell_at : Cal P w K mg base "_law_cell_at" ["_law_script", "_law_k"] 1 (spCellD K)) (c_chain : Cal P w K mg base "_law_chain" ["_law_script"] 16 (spChain K)) (c_flat : Cal P w K mg base "_law_flat" ["_law_looks"] 13 (spFlat K 6)) (c_laid_by : Cal P w K mg base "_law_laid_by" ["_law_looks", "_law_script"] 28 (spLaidBy K)) (c_alike : Cal P w K mg base "_law_alike" ["_law_found", "_law_due"] 40 (spAlike K 40)) (c_made : Cal P w K mg base "made" ["kind", "other", "place"] 16 (spMade K 6)) (c_laid : Cal P w K mg base "laid" ["one", "other"] 27 (spLaid K 6)) : FnOk P w K mg base CX0 (m + 45) f fd ["_law_script"] (spLaw K) := by
  refine F.ok scLaw (fun vs H Q E h => ?_) (fun cdv A outer s H vs Q E hr h => ?_)
  · obtain ⟨a, ns, rfl, _⟩ := h
    rfl
  obtain ⟨a, ns, rfl, hS, h63, q⟩ := h
  have nd := scLaw.nd
  refine' ⟨_, ?n0, ?Z⟩
  case' n0 => refine' pss_cons ?n1 ?n2
  case' n1 => refine' ps_setX (i := 1) nd rfl (Or.inl rfl) rfl (by first | exact .inl rfl | exact .inr rfl) ?n3
  case' n3 => refine' pe_cal c_chain hr ?n4
  case' n4 => refine' pa ?n5 ?n6
  case n5 => exact pv 0
  case n6 => exact pa_nil
  case' n2 => refine' pss_cons ?n7 ?n8
  case' n7 => refine' ps_setX (i := 2) nd rfl (Or.inl rfl) rfl (by first | exact .inl rfl | exact .inr rfl) ?n9
  case' n9 => refine' pe_lst ?n10
  case' n10 => refine' pa ?n11 ?n12
  case n11 => exact pe_gref rfl m_STILL
  case n12 => exact pa_nil
  case' n8 => refine' pss_cons ?n13 ?n14
  case' n13 => refine' ps_for PassesOwn.never rfl ?n15 ?n16 ?n17
  case' n15 => refine' pi_range1 rfl T.range ?n18
  case' n18 => refine' pa ?n19 ?n20
  case' n19 => refine' pe_op op_sub ?n21 ?n22
  case' n21 => refine' pe_callB (call_lenA) rfl T.len boot_len ?n23
  case' n23 => refine' pa ?n24 ?n25
  case n24 => exact pv 1
  case n25 => exact pa_nil
  case n22 => exact pe_int
  case n20 => exact pa_nil
  case n16 => exact pg_name (i := 3) nd rfl (Or.inl rfl)
  case' n17 => refine' pss_one ?n26
  case' n26 => refine' ps_expr ?n27
  case' n27 => refine' pe_bm PySem.F.plainAttrs_list PySem.F.slot_list_append PySem.F.type_list_append mt_append ?n28 ?n29
  case n28 => exact pv 2
  case' n29 => refine' pa ?n30 ?n31
  case' n30 => refine' pe_cal c_made hr ?n32
  case' n32 => refine' pa ?n33 ?n34
  case' n33 => refine' pe_ix ix_seq ?n35 ?n36 (fun _ _ => rfl)
  case n35 => exact pv 1
  case n36 => exact pv 3
  case' n34 => refine' pa ?n37 ?n38
  case' n37 => refine' pe_ix ix_seq ?n39 ?n40 (fun _ _ => rfl)
  case n39 => exact pv 1
  case' n40 => refine' pe_op op_addG ?n41 ?n42
  case n41 => exact pv 3
  case n42 => exact pe_int
  case' n38 => refine' pa ?n43 ?n44
  case' n43 => refine' pe_op op_mod ?n45 ?n46
  case' n45 => refine' pe_op op_fdivG ?n47 ?n48
  case' n47 => refine' pe_cal c_cell_at hr ?n49
  case' n49 => refine' pa ?n50 ?n51
  case n50 => exact pv 0
  case' n51 => refine' pa ?n52 ?n53
  case' n52 => refine' pe_op op_addG ?n54 ?n55
  case n54 => exact pe_int
  case n55 => exact pv 3
  case n53 => exact pa_nil
  case n48 => exact pe_int
  case n46 => exact pe_int
  case n44 => exact pa_nil
  case n31 => exact pa_nil
  case' n14 => refine' pss_cons ?n56 ?n57
  case' n56 => refine' ps_setX (i := 4) nd rfl (Or.inl rfl) rfl (by first | exact .inl rfl | exact .inr rfl) ?n58
  case' n58 => refine' pe_cal c_flat hr ?n59
  case' n59 => refine' pa ?n60 ?n61
  case n60 => exact pv 2
  case n61 => exact pa_nil
  case' n57 => refine' pss_cons ?n62 ?n63
  case' n62 => refine' ps_setX (i := 5) nd rfl (Or.inl rfl) rfl (by first | exact .inl rfl | exact .inr rfl) ?n64
  case' n64 => refine' pe_ix ix_seq ?n65 ?n66 (fun _ _ => rfl)
  case n65 => exact pv 2
  case n66 => exact pe_int
  case' n63 => refine' pss_cons ?n67 ?n68
  case' n67 => refine' ps_for PassesOwn.never rfl ?n69 ?n70 ?n71
  case' n69 => refine' pi_seq ?n72
  case' n72 => refine' pe_slice sl_k ?n73 ?n74 po_none
  case n73 => exact pv 2
  case' n74 => refine' po_some ?n75
  case n75 => exact pe_int
  case n70 => exact pg_name (i := 6) nd rfl (Or.inl rfl)
  case' n71 => refine' pss_one ?n76
  case' n76 => refine' ps_setX (i := 5) nd rfl (Or.inl rfl) rfl (by first | exact .inl rfl | exact .inr rfl) ?n77
  case' n77 => refine' pe_cal c_laid hr ?n78
  case' n78 => refine' pa ?n79 ?n80
  case n79 => exact pv 5
  case' n80 => refine' pa ?n81 ?n82
  case n81 => exact pv 6
  case n82 => exact pa_nil
  case' n68 => refine' pss_one ?n83
  case' n83 => refine' ps_ret ?n84
  case' n84 => refine' pe_and ?n85 ?n86
  case' n85 => refine' pe_cal c_alike hr ?n87
  case' n87 => refine' pa ?n88 ?n89
  case n88 => exact pv 5
  case' n89 => refine' pa ?n90 ?n91
  case n90 => exact pv 4
  case n91 => exact pa_nil
  case' n86 => refine' pe_one ?n92
  case' n92 => refine' pe_cal c_alike hr ?n93
  case' n93 => refine' pa ?n94 ?n95
  case' n94 => refine' pe_cal c_laid_by hr ?n96
  case' n96 => refine' pa ?n97 ?n98
  case n97 => exact pv 2
  case' n98 => refine' pa ?n99 ?n100
  case n99 => exact pv 0
  case n100 => exact pa_nil
  case' n95 => refine' pa ?n101 ?n102
  case n101 => exact pv 4
  case n102 => exact pa_nil
  refine ⟨_, rfl, a, ns, rfl, hS, h63, fun C ts vs H1 o1 hC rts l1 l2 wts con => ?_⟩
  refine ⟨by show 1 ≤ sizeLine; decide, fun D hD => ?_⟩
  have oD : Old H1 (upd H1 D (.lst [.ref us])) := Old.new hD
  have hDD : upd H1 D (.lst [.ref us]) D = some (.lst [.ref us]) := upd_same
  have neD : ∀ b o, H1 b = some o → b ≠ D := fun b o e => ne_of_none e hD
  have nCD := neD _ _ hC
  generalize upd H1 D (.lst [.ref us]) = H2 at oD hDD ⊢
  have hC2 := oD _ _ hC
  have rts2 := rts.mono oD.tm
  have back : ∀ {H' : Hp}, Gr (M1 D) H2 H' → Old H H' := fun g b o e => g _ _ (oD _ _ (o1 _ _ e)) (neD b o (o1 _ _ e))
  have lts := rts.length
  rw [ds_length] at lts
  obtain ⟨t0, e0⟩ : ∃ t0, ts[0]? = some t0 := ⟨_, List.getElem?_eq_getElem (by omega)⟩
  refine ⟨_, rfl, .inl ⟨C, _, rfl, .inl (SqL.of hC2), _, _, rfl, rfl, ?_⟩⟩
  refine ⟨_, rfl, (by show -(2 ^ 62) ≤ ((vs.length : Nat) : Int) - 1; omega), (by show ((vs.length : Nat) : Int) - 1 < 2 ^ 62; omega), ?_⟩
  rw [show (((vs.length : Nat) : Int) - 1).toNat = vs.length - 1 by omega]
  refine for_by (n := vs.length - 1) (fun i σ H3 => ∃ (k3 : Option V) (xs : List Lk) (bs : List V), σ = [some (.ref a), some (.ref C), some (.ref D), k3, none, none, none] ∧ Gr (M1 D) H2 H3 ∧ H3 D = some (.lst bs) ∧ RKs K H3 (Lk.ds (stillL :: xs)) bs ∧ (∃ c, ts[i]? = some c ∧ TyL 6 t0 xs c) ∧ (∀ x ∈ xs, x.pure 6) ∧ xs.length = i)
    ⟨none, [], [.ref us], rfl, Gr.refl _, hDD, .cons (rS H2) .nil, ⟨t0, e0, rfl⟩, (fun x hx => nomatch hx), rfl⟩ ?_ ?_ ?_ ?_
  · intro i σ H3 hi _; exact hi
  · intro σ H3 _; exact Nat.le_refl _
  · intro i σ H3 hi hv y H4 hy
    obtain ⟨k3, xs, bs, rfl, g3, hD3, rbs, ⟨c, ec, tyx⟩, px, lx⟩ := hv
    obtain ⟨e1, e2⟩ := hy
    subst e1 e2
    have hC3 := g3 _ _ hC2 nCD
    have hS3 := Old.seq (back g3) hS
    have rts3 := rts2.mono (g3.tm1 hDD)
    have lbs := rbs.length
    rw [lds_length, List.length_cons] at lbs
    have i1 : i + 1 < ts.length := by omega
    have ed : ts[i + 1]? = some ts[i + 1] := List.getElem?_eq_getElem i1
    have ei : ts[i]? = some ts[i] := List.getElem?_eq_getElem (by omega)
    have eci : c = ts[i] := by rw [ei] at ec; exact (Option.some.inj ec).symm
    subst eci
    obtain ⟨va, ga, rva⟩ := rts3.get (ds_get (show i < ts.length by omega))
    obtain ⟨vb, gb, rvb⟩ := rts3.get (ds_get i1)
    have pn := con i _ _ ei ed
    obtain ⟨wa, da⟩ := wts _ (List.getElem_mem (show i < ts.length by omega))
    obtain ⟨wb, db⟩ := wts _ (List.getElem_mem i1)
    generalize ts[i] = ka at ec tyx rva pn wa da ei
    generalize ts[i + 1] = kb at rvb pn wb db ed
    dsimp only [gName, List.set]
    have ga' : atI vs (0 + (i : Int)) = some va := by rw [Int.zero_add]; exact atI_nat ga
    have gb' : atI vs (0 + (i : Int) + 1) = some vb := by rw [show 0 + (i : Int) + 1 = ((i + 1 : Nat) : Int) by omega]; exact atI_nat gb
    refine ⟨_, rfl, .inl ⟨rfl, _, SqL.of hD3⟩, _, rfl, _, rfl, .inl ⟨C, _, _, va, rfl, rfl, SqL.of hC3, ga', _, rfl, _, rfl, .inr (.inl ⟨_, _, rfl, rfl, .inl ⟨C, _, _, vb, rfl, rfl, SqL.of hC3, gb', _, rfl, _, rfl, .inr (.inl ⟨_, _, rfl, rfl, a, ns, _, rfl, hS3, by omega, _, _, rfl, rfl, .inl ⟨by decide, by decide⟩, _, _, rfl, rfl, (by show (0 : Int) < 10000; decide), va, vb, _, ka, kb, rfl, rva, rvb, wa, wb, pn, da, db, by decide, fun mv H4 o4 rm => ?_⟩)⟩⟩)⟩⟩
    obtain ⟨G, rG, tyG, pG⟩ : ∃ G : Lk, RK K H4 G.d mv ∧ Ty 6 ka G kb ∧ G.pure 6 := ⟨_, rm, ty_gon 6 _ wa wb pn da db, gon_pure 6 wa wb da db (by decide) (by show 0 + 6 ≤ 900; decide)⟩
    have hD4 := o4 _ _ hD3
    refine ⟨D, bs, mv, rfl, rfl, hD4, smallM (by omega), ?_⟩
    have tm : Tm H4 (upd H4 D (.lst (bs ++ [mv]))) := fun b xs e => by
      rw [upd_ne]
      · exact e
      · intro z
        rw [z, hD4] at e
        cases e
    refine ⟨_, xs ++ [G], bs ++ [mv], rfl, g3.trans (o4.gm.trans (fun b o e n => by rw [upd_ne n]; exact e)), upd_same, ?_, ⟨kb, ed, tyL_snoc.mpr ⟨ka, tyx, tyG⟩⟩, ?_, by rw [List.length_append, lx]; rfl⟩
    · rw [← List.cons_append, lds_append]
      exact ((rbs.mono o4.tm).mono tm).append (.cons (rG.mono tm) .nil)
    · intro x hx
      rcases List.mem_append.mp hx with h | h
      · exact px x h
      · rw [List.mem_singleton.mp h]; exact pG
  · intro σ H3 hv
    obtain ⟨k3, xs, bs, rfl, g3, hD3, rbs, ⟨c, ec, tyx⟩, px, lx⟩ := hv
    have hS3 := Old.seq (back g3) hS
    clear g3 hC2 rts2 back hDD oD
    have pS : ∀ x ∈ stillL :: xs, x.pure 6 := fun x hx => by
      rcases List.mem_cons.mp hx with h | h
      · rw [h]; exact pureS 5
      · exact px x h
    have tyS : TyL 6 t0 (stillL :: xs) c := ⟨t0, ty_stillK 5 t0, tyx⟩
    have okF := Fl_ok (n := 6) (by decide) xs (fun x hx => pure_ok (px x hx))
    have dF : (Fl 6 xs).d.dq < 40 := Nat.lt_of_le_of_lt (lk_dq okF) (by decide)
    refine ⟨_, rfl, D, bs, stillL :: xs, rfl, hD3, rbs, by rw [List.length_cons]; omega, by decide, by decide, ⟨t0, c, tyS⟩, pS, fun dv H4 o4 rd => ?_⟩
    rw [Fl_still 5] at rd
    obtain ⟨sv, bs', rfl, rs, rbs'⟩ := rbs
    have lb' := rbs'.length
    rw [lds_length] at lb'
    have hD4 := o4 _ _ hD3
    refine ⟨_, rfl, .inl ⟨D, _, 0, sv, rfl, rfl, SqL.of hD4, (by exact atI_nat (j := 0) rfl), ?_⟩⟩
    refine ⟨_, rfl, _, rfl, .inl ⟨D, _, rfl, SqL.of hD4, fun p hp => ?_⟩⟩
    rw [cut_1]
    have op : Old H4 (upd H4 p (.lst bs')) := Old.new hp
    have hp' : upd H4 p (.lst bs') p = some (.lst bs') := upd_same
    generalize upd H4 p (.lst bs') = H5 at op hp' ⊢
    have o35 := o4.trans op
    have rb5 := rbs'.mono o35.tm
    have rs5 := rs.mono o35.tm
    have rd5 := rd.mono op.tm
    refine ⟨p, rfl, .inl ⟨⟨_, SqL.of hp'⟩, ?_⟩⟩
    refine for_by (n := bs'.length) (fun i σ H6 => ∃ (k6 : Option V) (fv : V), σ = [some (.ref a), some (.ref C), some (.ref D), k3, some dv, some fv, k6] ∧ Old H5 H6 ∧ RK K H6 (Fl 6 (xs.take i)).d fv) ⟨none, sv, rfl, Old.refl _, rs5⟩ ?_ ?_ ?_ ?_
    · intro i σ H6 hi hv
      obtain ⟨k6, fv, rfl, o6, rf⟩ := hv
      exact ⟨_, _, SqL.of (o6 _ _ hp'), List.getElem?_eq_getElem hi⟩
    · intro σ H6 hv
      obtain ⟨k6, fv, rfl, o6, rf⟩ := hv
      exact ⟨_, SqL.of (o6 _ _ hp'), Nat.le_refl _⟩
    · intro i σ H6 hi hv y H7 hy
      obtain ⟨k6, fv, rfl, o6, rf⟩ := hv
      obtain ⟨e1, hyx⟩ := hy
      subst e1
      have ey := hyx _ (SqL.of (o6 _ _ hp'))
      have i1 : i < xs.length := by omega
      obtain ⟨d, ed, ry⟩ := rb5.getV ey
      rw [lds_get i1] at ed
      cases ed
      have okT := Fl_ok (n := 6) (by decide) (xs.take i) (fun x hx => pure_ok (px x (List.mem_of_mem_take hx)))
      have ht : xs = xs.take i ++ xs[i] :: xs.drop (i + 1) := by rw [← List.drop_eq_getElem_cons, List.take_append_drop]
      obtain ⟨b, tA, c2, tx, tB⟩ := tyL_app.mp (show TyL 6 t0 (xs.take i ++ xs[i] :: xs.drop (i + 1)) c by rw [← ht]; exact tyx)
      refine ⟨_, rfl, _, rfl, fv, y, Fl 6 (xs.take i), xs[i], rfl, rf, ry.mono o6.tm, okT, pure_ok (px _ (List.getElem_mem i1)), ty_cmp 6 (ty_Fl _ tA) tx, by decide, fun fv' H8 o8 rf' => ?_⟩
      refine ⟨_, fv', rfl, o6.trans o8, ?_⟩
      rw [take_snoc i1, Fl_snoc]
      exact rf'
    · intro σ H6 hv
      obtain ⟨k6, fv, rfl, o6, rf⟩ := hv
      rw [← lb', List.take_length] at rf
      refine ⟨_, rfl, _, rfl, fv, dv, (Fl 6 xs).d, rfl, rf, rd5.mono o6.tm, dF, lk_nr okF, lk_nob _, fun H7 o7 => ⟨_, rfl, iteT ?_⟩⟩
      have o37 := (o35.trans o6).trans o7
      refine ⟨_, rfl, _, rfl, D, a, _, stillL :: xs, ns, rfl, o37 _ _ hD3, .cons (rs.mono o37.tm) (rbs'.mono o37.tm), Old.seq o37 hS3, by simp, by rw [List.length_cons]; omega, ⟨t0, c, tyS⟩, pS, fun lv H8 o8 rl => ?_⟩
      rw [Fl_still 5] at rl
      refine ⟨_, rfl, lv, dv, (Fl 6 xs).d, rfl, rl, rd5.mono ((o6.trans o7).trans o8).tm, dF, lk_nr okF, lk_nob _, fun H9 o9 => ?_⟩
      exact q H9
end
end L2.K55

end
section
set_option Elab.async false
set_option linter.all false
set_option maxRecDepth 100000
set_option maxHeartbeats 4000000
namespace L2.K55
open PySem PySem.Spec PyProof.Rows L2.Bw L2.Bk
section
variable {P : Program} {w : World} {K : PySem.W.Frag} {mg : Str → Option Value} {base : Heap} {f : Addr} {fd : FuncData}
theorem none_of {k : Nat} {ps : List Str} {sp : Sp} (no : ∀ vs H Q E, ¬ sp vs H Q E) : FnOk P w K mg base CX0 k f fd ps sp := ⟨fun vs H Q E h => absurd h (no vs H Q E), fun A outer s H args us vs Q E _ _ _ _ h => absurd h (no vs H Q E)⟩
theorem no_alike : ∀ vs H Q E, ¬ spAlike K 0 vs H Q E := fun vs H Q E h => by
  obtain ⟨x, y, d, _, _, _, h, _⟩ := h
  omega
theorem no_go : ∀ vs H Q E, ¬ spGo K 0 vs H Q E := fun vs H Q E h => by
  obtain ⟨x, y, z, a, b, l, _, _, _, _, _, _, _, h1, _⟩ := h
  have := dep_pos a
  omega
theorem no_laid : ∀ vs H Q E, ¬ spLaid K 0 vs H Q E := fun vs H Q E h => by
  obtain ⟨x, y, a, b, _, _, _, h, _⟩ := h
  cases a <;> exact h.elim
theorem no_kind : ∀ vs H Q E, ¬ spKind K 0 vs H Q E := fun vs H Q E h => by
  obtain ⟨l, ns, room, _, _, h1, h2, _⟩ := h
  omega
theorem no_turned : ∀ vs H Q E, ¬ spTurned K 0 vs H Q E := fun vs H Q E h => by
  obtain ⟨l, v, t, ns, room, _, _, _, _, h1, h2, _⟩ := h
  have := dep_pos t
  omega
theorem no_loosened : ∀ vs H Q E, ¬ spLoos K 0 vs H Q E := fun vs H Q E h => by
  obtain ⟨l, v, t, ns, _, _, _, _, h1, _⟩ := h
  omega
theorem no_flat : ∀ vs H Q E, ¬ spFlat K 0 vs H Q E := fun vs H Q E h => by
  obtain ⟨l, ws, xs, _, _, _, _, h1, _⟩ := h
  omega
/-- a def that calls itself, by the number of calls -/
theorem cal_recL {x : Str} {ps : List Str} {sp : Nat → Sp} (lv : Nat → Nat) (b : Binds K fd ps []) (kp : PySem.W.keepIn K (.ref f) = true) (m : mg x = some (.ref f)) (no : ∀ vs H Q E, ¬ sp 0 vs H Q E)
    (step : ∀ n, Cal P w K mg base x ps (lv n) (sp n) → FnOk P w K mg base CX0 (lv (n + 1)) f fd ps (sp (n + 1))) : ∀ n, Cal P w K mg base x ps (lv n) (sp n)
  | 0 => ⟨⟨f, fd, none_of no, b, kp, m⟩⟩
  | n + 1 => ⟨⟨f, fd, step n (cal_recL lv b kp m no step n), b, kp, m⟩⟩
end
/-- a def stands at the program's top -/
def Here (K : PySem.W.Frag) (x : Str) (st : Stmt) : Prop := ∃ f fd, Fun K x x st f fd ∧ PySem.W.nsIn K mainGlobals x = some (some (.ref f))
theorem here_mk {K : PySem.W.Frag} {x : Str} {st : Stmt} {f : Addr} {od an : Option Addr} {sl : Array (Option Value)} {oc kV dc pm cd ct : Value} (a : PySem.W.nsIn K mainGlobals x = some (some (.ref f)))
    (l : K.lookup f = some ⟨oc, od, .func (PySem.W.fnOf x x (defArgs st) (defBody st) (defScope st) .none kV dc pm an cd ct), sl⟩) (c : PySem.W.codeIn K cd x = true) (k : PySem.W.keepIn K (.ref f) = true) : Here K x st := ⟨f, _, fun_mk l c k, a⟩
def T_UNTOLD (K : PySem.W.Frag) : Prop := ∃ ua, PySem.W.nsIn K mainGlobals "UNTOLD" = some (some (.ref ua)) ∧ Kt K ua [.str "?"]
theorem tup_UNTOLD {K : PySem.W.Frag} {ua : Addr} {od : Option Addr} {n : Nat} {tk : Tok} {sl : Array (Option Value)} (a : PySem.W.nsIn K mainGlobals "UNTOLD" = some (some (.ref ua))) (l : K.lookup ua = some ⟨.type "tuple", od, .seq #[.str "?" tk] n, sl⟩) : T_UNTOLD K :=
  ⟨ua, a, _, _, n, l, rfl, rfl, by show 1 ≤ sizeLine; decide, .cons ⟨tk, rfl⟩ .nil⟩
def T_SAME (K : PySem.W.Frag) : Prop := ∃ ua, PySem.W.nsIn K mainGlobals "SAME" = some (some (.ref ua)) ∧ Kt K ua [.str "same"]
theorem tup_SAME {K : PySem.W.Frag} {ua : Addr} {od : Option Addr} {n : Nat} {tk : Tok} {sl : Array (Option Value)} (a : PySem.W.nsIn K mainGlobals "SAME" = some (some (.ref ua))) (l : K.lookup ua = some ⟨.type "tuple", od, .seq #[.str "same" tk] n, sl⟩) : T_SAME K :=
  ⟨ua, a, _, _, n, l, rfl, rfl, by show 1 ≤ sizeLine; decide, .cons ⟨tk, rfl⟩ .nil⟩
def B_STEPS (K : PySem.W.Frag) : Prop := ∃ fa, PySem.W.nsIn K mainGlobals "STEPS" = some (some (.ref fa)) ∧ KTD.tabLook (lookT K) (fun b => K.lookup b) fa stepTab = true
theorem tab_STEPS {K : PySem.W.Frag} {fa : Addr} (a : PySem.W.nsIn K mainGlobals "STEPS" = some (some (.ref fa))) (h : KTD.tabLook (lookT K) (fun b => K.lookup b) fa stepTab = true) : B_STEPS K := ⟨fa, a, h⟩
def B_OTHER_SIDE (K : PySem.W.Frag) : Prop := ∃ fa, PySem.W.nsIn K mainGlobals "OTHER_SIDE" = some (some (.ref fa)) ∧ KTD.tabLook lookS (fun b => K.lookup b) fa sideTab = true
theorem tab_OTHER_SIDE {K : PySem.W.Frag} {fa : Addr} (a : PySem.W.nsIn K mainGlobals "OTHER_SIDE" = some (some (.ref fa))) (h : KTD.tabLook lookS (fun b => K.lookup b) fa sideTab = true) : B_OTHER_SIDE K := ⟨fa, a, h⟩
def I_ASK (K : PySem.W.Frag) : Prop := ∃ tk, PySem.W.nsIn K mainGlobals "ASK" = some (some (.int 0 tk))
theorem int_ASK {K : PySem.W.Frag} {tk : Tok} (a : PySem.W.nsIn K mainGlobals "ASK" = some (some (.int 0 tk))) : I_ASK K := ⟨tk, a⟩
def I_BODY (K : PySem.W.Frag) : Prop := ∃ tk, PySem.W.nsIn K mainGlobals "BODY" = some (some (.int 1 tk))
theorem int_BODY {K : PySem.W.Frag} {tk : Tok} (a : PySem.W.nsIn K mainGlobals "BODY" = some (some (.int 1 tk))) : I_BODY K := ⟨tk, a⟩
def I_TAG (K : PySem.W.Frag) : Prop := ∃ tk, PySem.W.nsIn K mainGlobals "TAG" = some (some (.int 2 tk))
theorem int_TAG {K : PySem.W.Frag} {tk : Tok} (a : PySem.W.nsIn K mainGlobals "TAG" = some (some (.int 2 tk))) : I_TAG K := ⟨tk, a⟩
def T_STILL (K : PySem.W.Frag) : Prop := ∃ sb sc, PySem.W.nsIn K mainGlobals "STILL" = some (some (.ref sb)) ∧ Kt K sb [.non, .ref sc, .non] ∧ Kt K sc [.str "same"]
theorem tup_STILL {K : PySem.W.Frag} {sb sc : Addr} {od od2 : Option Addr} {n n2 : Nat} {tk : Tok} {sl sl2 : Array (Option Value)} (a : PySem.W.nsIn K mainGlobals "STILL" = some (some (.ref sb))) (l : K.lookup sb = some ⟨.type "tuple", od, .seq #[.none, .ref sc, .none] n, sl⟩) (l2 : K.lookup sc = some ⟨.type "tuple", od2, .seq #[.str "same" tk] n2, sl2⟩) : T_STILL K :=
  ⟨sb, sc, a, ⟨_, _, n, l, rfl, rfl, by show 3 ≤ sizeLine; decide, .cons rfl (.cons rfl (.cons rfl .nil))⟩, ⟨_, _, n2, l2, rfl, rfl, by show 1 ≤ sizeLine; decide, .cons ⟨tk, rfl⟩ .nil⟩⟩
structure Txt (K : PySem.W.Frag) : Prop where
  t_STILL : T_STILL K
  d_steps : Here K "steps" sSteps
  d_kinds_in : Here K "kinds_in" sKi
  d_with_kinds : Here K "with_kinds" sWk
  d_ground : Here K "ground" sGround
  d_label_beyond : Here K "label_beyond" sLb
  d_body_with : Here K "body_with" sBw
  d_body_between : Here K "body_between" sBb
  d_going : Here K "going" sGo
  d_made : Here K "made" sMade
  d_is_broken : Here K "is_broken" sBrk
  d_laid : Here K "laid" sLaid
  d_both : Here K "both" sBoth
  d_laid_bodies : Here K "laid_bodies" sLbod
  d_laid_parts : Here K "laid_parts" sLps
  d__law_cell_at : Here K "_law_cell_at" sCell
  d__law_alike : Here K "_law_alike" sAlike
  d__law_next : Here K "_law_next" sNext
  d__law_kind : Here K "_law_kind" sKind
  d__law_turned : Here K "_law_turned" sTurned
  d__law_loosened : Here K "_law_loosened" sLoos
  d__law_body : Here K "_law_body" sBody
  d__law_flat : Here K "_law_flat" sFlat
  d__law_xs : Here K "_law_xs" sXs
  d__law_chain : Here K "_law_chain" sChain
  d__law_laid_by : Here K "_law_laid_by" sLaidBy
  d_law : Here K "law" sLaw
  t_UNTOLD : T_UNTOLD K
  t_SAME : T_SAME K
  b_STEPS : B_STEPS K
  b_OTHER_SIDE : B_OTHER_SIDE K
  i_ASK : I_ASK K
  i_BODY : I_BODY K
  i_TAG : I_TAG K
  z_len : PySem.W.nsIn K mainGlobals "len" = some none
  z_isinstance : PySem.W.nsIn K mainGlobals "isinstance" = some none
  z_list : PySem.W.nsIn K mainGlobals "list" = some none
  z_tuple : PySem.W.nsIn K mainGlobals "tuple" = some none
  z_int : PySem.W.nsIn K mainGlobals "int" = some none
  z_bool : PySem.W.nsIn K mainGlobals "bool" = some none
  z_str : PySem.W.nsIn K mainGlobals "str" = some none
  z_range : PySem.W.nsIn K mainGlobals "range" = some none
  z_zip : PySem.W.nsIn K mainGlobals "zip" = some none
  z_all : PySem.W.nsIn K mainGlobals "all" = some none
  z_reversed : PySem.W.nsIn K mainGlobals "reversed" = some none
  z_abs : PySem.W.nsIn K mainGlobals "abs" = some none
theorem all_mk {l : PySem.W.OpenLaw} {w : World} {K : PySem.W.Frag} {h : Heap} {mg : Str → Option Value} {fa : Addr} (Y : K.In h) (G : h.Ns mainGlobals mg) (hfa : mg "law" = some (.ref fa)) (T : Txt K) :
    ∃ fd : FuncData, (∀ (s : Shared) (v : Value), BindsTo s fd ⟨[v], []⟩ [("_law_script", v)]) ∧ ∀ base : Heap, K.In base → base.Ns mainGlobals mg → FnOk l.prog w K mg base CX0 45 fa fd ["_law_script"] (spLaw K) := by
  have X : Tx mg := ⟨PySem.W.mg_none_of Y G T.z_len, PySem.W.mg_none_of Y G T.z_isinstance, PySem.W.mg_none_of Y G T.z_list, PySem.W.mg_none_of Y G T.z_tuple, PySem.W.mg_none_of Y G T.z_int, PySem.W.mg_none_of Y G T.z_bool, PySem.W.mg_none_of Y G T.z_str, PySem.W.mg_none_of Y G T.z_range, PySem.W.mg_none_of Y G T.z_zip, PySem.W.mg_none_of Y G T.z_all, PySem.W.mg_none_of Y G T.z_reversed, PySem.W.mg_none_of Y G T.z_abs⟩
  obtain ⟨fL, fdL, FL, aL⟩ := T.d_law
  have e := hfa.symm.trans (PySem.W.mg_of Y G aL)
  cases e
  obtain ⟨u_STILL, u_SC, aU_STILL, k_S1, k_S2⟩ := T.t_STILL
  have m_STILL := PySem.W.mg_of Y G aU_STILL
  have rS : ∀ H, RK K H stillD (.ref u_STILL) := fun H => RK.tup (.inr k_S1) (.cons .n (.cons (RK.tup (.inr k_S2) (.cons (.s _) .nil)) (.cons .n .nil)))
  obtain ⟨u_UNTOLD, aU_UNTOLD, k_UNTOLD⟩ := T.t_UNTOLD
  have m_UNTOLD := PySem.W.mg_of Y G aU_UNTOLD
  obtain ⟨u_SAME, aU_SAME, k_SAME⟩ := T.t_SAME
  have m_SAME := PySem.W.mg_of Y G aU_SAME
  obtain ⟨u_STEPS, aU_STEPS, k_STEPS⟩ := T.b_STEPS
  have m_STEPS := PySem.W.mg_of Y G aU_STEPS
  obtain ⟨u_OTHER_SIDE, aU_OTHER_SIDE, k_OTHER_SIDE⟩ := T.b_OTHER_SIDE
  have m_OTHER_SIDE := PySem.W.mg_of Y G aU_OTHER_SIDE
  obtain ⟨u_ASK, aU_ASK⟩ := T.i_ASK
  have m_ASK := PySem.W.mg_of Y G aU_ASK
  obtain ⟨u_BODY, aU_BODY⟩ := T.i_BODY
  have m_BODY := PySem.W.mg_of Y G aU_BODY
  obtain ⟨u_TAG, aU_TAG⟩ := T.i_TAG
  have m_TAG := PySem.W.mg_of Y G aU_TAG
  obtain ⟨f_steps, fd_steps, F_steps, a_steps⟩ := T.d_steps
  have m_steps := PySem.W.mg_of Y G a_steps
  have b_steps : Binds K fd_steps ["kind"] [] := by
    obtain ⟨oc, od, kV, doc, pm, an, cdv, ct, osl, rfl, lk, hc⟩ := F_steps.ex
    exact F_steps.binds (ps := ["kind"]) fun _ _ _ _ _ _ us hl => match us, hl with | [_], _ => rfl
  obtain ⟨f_kinds_in, fd_kinds_in, F_kinds_in, a_kinds_in⟩ := T.d_kinds_in
  have m_kinds_in := PySem.W.mg_of Y G a_kinds_in
  have b_kinds_in : Binds K fd_kinds_in ["kind"] [] := by
    obtain ⟨oc, od, kV, doc, pm, an, cdv, ct, osl, rfl, lk, hc⟩ := F_kinds_in.ex
    exact F_kinds_in.binds (ps := ["kind"]) fun _ _ _ _ _ _ us hl => match us, hl with | [_], _ => rfl
  obtain ⟨f_with_kinds, fd_with_kinds, F_with_kinds, a_with_kinds⟩ := T.d_with_kinds
  have m_with_kinds := PySem.W.mg_of Y G a_with_kinds
  have b_with_kinds : Binds K fd_with_kinds ["kind", "some"] [] := by
    obtain ⟨oc, od, kV, doc, pm, an, cdv, ct, osl, rfl, lk, hc⟩ := F_with_kinds.ex
    exact F_with_kinds.binds (ps := ["kind", "some"]) fun _ _ _ _ _ _ us hl => match us, hl with | [_, _], _ => rfl
  obtain ⟨f_ground, fd_ground, F_ground, a_ground⟩ := T.d_ground
  have m_ground := PySem.W.mg_of Y G a_ground
  have b_ground : Binds K fd_ground ["kind"] [] := by
    obtain ⟨oc, od, kV, doc, pm, an, cdv, ct, osl, rfl, lk, hc⟩ := F_ground.ex
    exact F_ground.binds (ps := ["kind"]) fun _ _ _ _ _ _ us hl => match us, hl with | [_], _ => rfl
  obtain ⟨f_label_beyond, fd_label_beyond, F_label_beyond, a_label_beyond⟩ := T.d_label_beyond
  have m_label_beyond := PySem.W.mg_of Y G a_label_beyond
  have b_label_beyond : Binds K fd_label_beyond ["label", "step"] [] := by
    obtain ⟨oc, od, kV, doc, pm, an, cdv, ct, osl, rfl, lk, hc⟩ := F_label_beyond.ex
    exact F_label_beyond.binds (ps := ["label", "step"]) fun _ _ _ _ _ _ us hl => match us, hl with | [_, _], _ => rfl
  obtain ⟨f_body_with, fd_body_with, F_body_with, a_body_with⟩ := T.d_body_with
  have m_body_with := PySem.W.mg_of Y G a_body_with
  have b_body_with : Binds K fd_body_with ["head", "some"] [] := by
    obtain ⟨oc, od, kV, doc, pm, an, cdv, ct, osl, rfl, lk, hc⟩ := F_body_with.ex
    exact F_body_with.binds (ps := ["head", "some"]) fun _ _ _ _ _ _ us hl => match us, hl with | [_, _], _ => rfl
  obtain ⟨f_body_between, fd_body_between, F_body_between, a_body_between⟩ := T.d_body_between
  have m_body_between := PySem.W.mg_of Y G a_body_between
  have b_body_between : Binds K fd_body_between ["kind", "other", "label"] [] := by
    obtain ⟨oc, od, kV, doc, pm, an, cdv, ct, osl, rfl, lk, hc⟩ := F_body_between.ex
    exact F_body_between.binds (ps := ["kind", "other", "label"]) fun _ _ _ _ _ _ us hl => match us, hl with | [_, _, _], _ => rfl
  obtain ⟨f_going, fd_going, F_going, a_going⟩ := T.d_going
  have m_going := PySem.W.mg_of Y G a_going
  have b_going : Binds K fd_going ["kind", "other", "label"] [] := by
    obtain ⟨oc, od, kV, doc, pm, an, cdv, ct, osl, rfl, lk, hc⟩ := F_going.ex
    exact F_going.binds (ps := ["kind", "other", "label"]) fun _ _ _ _ _ _ us hl => match us, hl with | [_, _, _], _ => rfl
  obtain ⟨f_made, fd_made, F_made, a_made⟩ := T.d_made
  have m_made := PySem.W.mg_of Y G a_made
  have b_made : Binds K fd_made ["kind", "other", "place"] [] := by
    obtain ⟨oc, od, kV, doc, pm, an, cdv, ct, osl, rfl, lk, hc⟩ := F_made.ex
    exact F_made.binds (ps := ["kind", "other", "place"]) fun _ _ _ _ _ _ us hl => match us, hl with | [_, _, _], _ => rfl
  obtain ⟨f_is_broken, fd_is_broken, F_is_broken, a_is_broken⟩ := T.d_is_broken
  have m_is_broken := PySem.W.mg_of Y G a_is_broken
  have b_is_broken : Binds K fd_is_broken ["look"] [] := by
    obtain ⟨oc, od, kV, doc, pm, an, cdv, ct, osl, rfl, lk, hc⟩ := F_is_broken.ex
    exact F_is_broken.binds (ps := ["look"]) fun _ _ _ _ _ _ us hl => match us, hl with | [_], _ => rfl
  obtain ⟨f_laid, fd_laid, F_laid, a_laid⟩ := T.d_laid
  have m_laid := PySem.W.mg_of Y G a_laid
  have b_laid : Binds K fd_laid ["one", "other"] [] := by
    obtain ⟨oc, od, kV, doc, pm, an, cdv, ct, osl, rfl, lk, hc⟩ := F_laid.ex
    exact F_laid.binds (ps := ["one", "other"]) fun _ _ _ _ _ _ us hl => match us, hl with | [_, _], _ => rfl
  obtain ⟨f_both, fd_both, F_both, a_both⟩ := T.d_both
  have m_both := PySem.W.mg_of Y G a_both
  have b_both : Binds K fd_both ["one", "other"] [] := by
    obtain ⟨oc, od, kV, doc, pm, an, cdv, ct, osl, rfl, lk, hc⟩ := F_both.ex
    exact F_both.binds (ps := ["one", "other"]) fun _ _ _ _ _ _ us hl => match us, hl with | [_, _], _ => rfl
  obtain ⟨f_laid_bodies, fd_laid_bodies, F_laid_bodies, a_laid_bodies⟩ := T.d_laid_bodies
  have m_laid_bodies := PySem.W.mg_of Y G a_laid_bodies
  have b_laid_bodies : Binds K fd_laid_bodies ["body", "other"] [] := by
    obtain ⟨oc, od, kV, doc, pm, an, cdv, ct, osl, rfl, lk, hc⟩ := F_laid_bodies.ex
    exact F_laid_bodies.binds (ps := ["body", "other"]) fun _ _ _ _ _ _ us hl => match us, hl with | [_, _], _ => rfl
  obtain ⟨f_laid_parts, fd_laid_parts, F_laid_parts, a_laid_parts⟩ := T.d_laid_parts
  have m_laid_parts := PySem.W.mg_of Y G a_laid_parts
  have b_laid_parts : Binds K fd_laid_parts ["body", "other"] [] := by
    obtain ⟨oc, od, kV, doc, pm, an, cdv, ct, osl, rfl, lk, hc⟩ := F_laid_parts.ex
    exact F_laid_parts.binds (ps := ["body", "other"]) fun _ _ _ _ _ _ us hl => match us, hl with | [_, _], _ => rfl
  obtain ⟨f__law_cell_at, fd__law_cell_at, F__law_cell_at, a__law_cell_at⟩ := T.d__law_cell_at
  have m__law_cell_at := PySem.W.mg_of Y G a__law_cell_at
  have b__law_cell_at : Binds K fd__law_cell_at ["_law_script", "_law_k"] [] := by
    obtain ⟨oc, od, kV, doc, pm, an, cdv, ct, osl, rfl, lk, hc⟩ := F__law_cell_at.ex
    exact F__law_cell_at.binds (ps := ["_law_script", "_law_k"]) fun _ _ _ _ _ _ us hl => match us, hl with | [_, _], _ => rfl
  obtain ⟨f__law_alike, fd__law_alike, F__law_alike, a__law_alike⟩ := T.d__law_alike
  have m__law_alike := PySem.W.mg_of Y G a__law_alike
  have b__law_alike : Binds K fd__law_alike ["_law_found", "_law_due"] [] := by
    obtain ⟨oc, od, kV, doc, pm, an, cdv, ct, osl, rfl, lk, hc⟩ := F__law_alike.ex
    exact F__law_alike.binds (ps := ["_law_found", "_law_due"]) fun _ _ _ _ _ _ us hl => match us, hl with | [_, _], _ => rfl
  obtain ⟨f__law_next, fd__law_next, F__law_next, a__law_next⟩ := T.d__law_next
  have m__law_next := PySem.W.mg_of Y G a__law_next
  have b__law_next : Binds K fd__law_next ["_law_xs_here"] [] := by
    obtain ⟨oc, od, kV, doc, pm, an, cdv, ct, osl, rfl, lk, hc⟩ := F__law_next.ex
    exact F__law_next.binds (ps := ["_law_xs_here"]) fun _ _ _ _ _ _ us hl => match us, hl with | [_], _ => rfl
  obtain ⟨f__law_kind, fd__law_kind, F__law_kind, a__law_kind⟩ := T.d__law_kind
  have m__law_kind := PySem.W.mg_of Y G a__law_kind
  have b__law_kind : Binds K fd__law_kind ["_law_xs_here", "_law_room"] [] := by
    obtain ⟨oc, od, kV, doc, pm, an, cdv, ct, osl, rfl, lk, hc⟩ := F__law_kind.ex
    exact F__law_kind.binds (ps := ["_law_xs_here", "_law_room"]) fun _ _ _ _ _ _ us hl => match us, hl with | [_, _], _ => rfl
  obtain ⟨f__law_turned, fd__law_turned, F__law_turned, a__law_turned⟩ := T.d__law_turned
  have m__law_turned := PySem.W.mg_of Y G a__law_turned
  have b__law_turned : Binds K fd__law_turned ["_law_xs_here", "_law_kind_here", "_law_room"] [] := by
    obtain ⟨oc, od, kV, doc, pm, an, cdv, ct, osl, rfl, lk, hc⟩ := F__law_turned.ex
    exact F__law_turned.binds (ps := ["_law_xs_here", "_law_kind_here", "_law_room"]) fun _ _ _ _ _ _ us hl => match us, hl with | [_, _, _], _ => rfl
  obtain ⟨f__law_loosened, fd__law_loosened, F__law_loosened, a__law_loosened⟩ := T.d__law_loosened
  have m__law_loosened := PySem.W.mg_of Y G a__law_loosened
  have b__law_loosened : Binds K fd__law_loosened ["_law_xs_here", "_law_kind_here"] [] := by
    obtain ⟨oc, od, kV, doc, pm, an, cdv, ct, osl, rfl, lk, hc⟩ := F__law_loosened.ex
    exact F__law_loosened.binds (ps := ["_law_xs_here", "_law_kind_here"]) fun _ _ _ _ _ _ us hl => match us, hl with | [_, _], _ => rfl
  obtain ⟨f__law_body, fd__law_body, F__law_body, a__law_body⟩ := T.d__law_body
  have m__law_body := PySem.W.mg_of Y G a__law_body
  have b__law_body : Binds K fd__law_body ["_law_bodies"] [] := by
    obtain ⟨oc, od, kV, doc, pm, an, cdv, ct, osl, rfl, lk, hc⟩ := F__law_body.ex
    exact F__law_body.binds (ps := ["_law_bodies"]) fun _ _ _ _ _ _ us hl => match us, hl with | [_], _ => rfl
  obtain ⟨f__law_flat, fd__law_flat, F__law_flat, a__law_flat⟩ := T.d__law_flat
  have m__law_flat := PySem.W.mg_of Y G a__law_flat
  have b__law_flat : Binds K fd__law_flat ["_law_looks"] [] := by
    obtain ⟨oc, od, kV, doc, pm, an, cdv, ct, osl, rfl, lk, hc⟩ := F__law_flat.ex
    exact F__law_flat.binds (ps := ["_law_looks"]) fun _ _ _ _ _ _ us hl => match us, hl with | [_], _ => rfl
  obtain ⟨f__law_xs, fd__law_xs, F__law_xs, a__law_xs⟩ := T.d__law_xs
  have m__law_xs := PySem.W.mg_of Y G a__law_xs
  have b__law_xs : Binds K fd__law_xs ["_law_cell", "_law_mixed"] [] := by
    obtain ⟨oc, od, kV, doc, pm, an, cdv, ct, osl, rfl, lk, hc⟩ := F__law_xs.ex
    exact F__law_xs.binds (ps := ["_law_cell", "_law_mixed"]) fun _ _ _ _ _ _ us hl => match us, hl with | [_, _], _ => rfl
  obtain ⟨f__law_chain, fd__law_chain, F__law_chain, a__law_chain⟩ := T.d__law_chain
  have m__law_chain := PySem.W.mg_of Y G a__law_chain
  have b__law_chain : Binds K fd__law_chain ["_law_script"] [] := by
    obtain ⟨oc, od, kV, doc, pm, an, cdv, ct, osl, rfl, lk, hc⟩ := F__law_chain.ex
    exact F__law_chain.binds (ps := ["_law_script"]) fun _ _ _ _ _ _ us hl => match us, hl with | [_], _ => rfl
  obtain ⟨f__law_laid_by, fd__law_laid_by, F__law_laid_by, a__law_laid_by⟩ := T.d__law_laid_by
  have m__law_laid_by := PySem.W.mg_of Y G a__law_laid_by
  have b__law_laid_by : Binds K fd__law_laid_by ["_law_looks", "_law_script"] [] := by
    obtain ⟨oc, od, kV, doc, pm, an, cdv, ct, osl, rfl, lk, hc⟩ := F__law_laid_by.ex
    exact F__law_laid_by.binds (ps := ["_law_looks", "_law_script"]) fun _ _ _ _ _ _ us hl => match us, hl with | [_, _], _ => rfl
  refine ⟨fdL, ?_, fun base _ _ => ?_⟩
  · obtain ⟨oc, od, kV, doc, pm, an, cdv, ct, osl, rfl, lk, hc⟩ := FL.ex
    exact fun s v => .of_eq rfl
  have c_steps : Cal l.prog w K mg base "steps" ["kind"] 1 (spSteps K) := ⟨⟨f_steps, fd_steps, ok_steps F_steps m_STEPS k_STEPS, b_steps, F_steps.kp, m_steps⟩⟩
  have c_kinds_in : Cal l.prog w K mg base "kinds_in" ["kind"] 1 (spKi K) := ⟨⟨f_kinds_in, fd_kinds_in, ok_ki F_kinds_in X, b_kinds_in, F_kinds_in.kp, m_kinds_in⟩⟩
  have c_with_kinds : Cal l.prog w K mg base "with_kinds" ["kind", "some"] 1 (spWk K) := ⟨⟨f_with_kinds, fd_with_kinds, ok_wk F_with_kinds X, b_with_kinds, F_with_kinds.kp, m_with_kinds⟩⟩
  have c_ground : Cal l.prog w K mg base "ground" ["kind"] 2 (spGround K) := ⟨⟨f_ground, fd_ground, ok_ground F_ground X m_UNTOLD k_UNTOLD c_kinds_in c_with_kinds, b_ground, F_ground.kp, m_ground⟩⟩
  have c_label_beyond : Cal l.prog w K mg base "label_beyond" ["label", "step"] 1 (spLb K) := ⟨⟨f_label_beyond, fd_label_beyond, ok_lb F_label_beyond X m_OTHER_SIDE k_OTHER_SIDE, b_label_beyond, F_label_beyond.kp, m_label_beyond⟩⟩
  have c_body_with : Cal l.prog w K mg base "body_with" ["head", "some"] 1 (spBw K) := ⟨⟨f_body_with, fd_body_with, ok_bw F_body_with X m_SAME k_SAME m_STILL rS, b_body_with, F_body_with.kp, m_body_with⟩⟩
  have c_goings : ∀ n, Cal l.prog w K mg base "going" ["kind", "other", "label"] (2 * n + 3) (spGo K n) := cal_recL (sp := spGo K) (fun n => 2 * n + 3) b_going F_going.kp m_going no_go (fun n ih => by
    have c_bb : Cal l.prog w K mg base "body_between" ["kind", "other", "label"] (2 * n + 2 + 2) (spBb K n) := ⟨⟨f_body_between, fd_body_between, ok_bb (j := 2 * n + 2) F_body_between X c_steps c_kinds_in c_label_beyond c_body_with ih, b_body_between, F_body_between.kp, m_body_between⟩⟩
    exact ok_go (j := 2 * n + 2) F_going X m_UNTOLD k_UNTOLD m_STILL rS c_ground c_bb)
  have c_made : Cal l.prog w K mg base "made" ["kind", "other", "place"] 16 (spMade K 6) := ⟨⟨f_made, fd_made, ok_made (j := 15) F_made X (c_goings 6), b_made, F_made.kp, m_made⟩⟩
  have c_is_broken : Cal l.prog w K mg base "is_broken" ["look"] 1 (spBrk K) := ⟨⟨f_is_broken, fd_is_broken, ok_brk F_is_broken X ⟨m_ASK, m_BODY, m_TAG⟩, b_is_broken, F_is_broken.kp, m_is_broken⟩⟩
  have c_laids : ∀ n, Cal l.prog w K mg base "laid" ["one", "other"] (4 * n + 3) (spLaid K n) := cal_recL (sp := spLaid K) (fun n => 4 * n + 3) b_laid F_laid.kp m_laid no_laid (fun n ih => by
    have c_lps : Cal l.prog w K mg base "laid_parts" ["body", "other"] (4 * n + 3 + 1) (spLps K n) := ⟨⟨f_laid_parts, fd_laid_parts, ok_lps (j := 4 * n + 3) F_laid_parts X ih, b_laid_parts, F_laid_parts.kp, m_laid_parts⟩⟩
    have c_lbod : Cal l.prog w K mg base "laid_bodies" ["body", "other"] (4 * n + 3 + 2) (spLbod K n) := ⟨⟨f_laid_bodies, fd_laid_bodies, ok_lbod (j := 4 * n + 3) F_laid_bodies X m_SAME k_SAME c_body_with c_lps, b_laid_bodies, F_laid_bodies.kp, m_laid_bodies⟩⟩
    have c_both : Cal l.prog w K mg base "both" ["one", "other"] (4 * n + 3 + 3) (spBoth K n) := ⟨⟨f_both, fd_both, ok_both (j := 4 * n + 3) F_both X ⟨m_ASK, m_BODY, m_TAG⟩ c_lbod, b_both, F_both.kp, m_both⟩⟩
    exact ok_laid (j := 4 * n + 3) F_laid X ⟨m_ASK, m_BODY, m_TAG⟩ c_is_broken c_both)
  have c__law_cell_at : Cal l.prog w K mg base "_law_cell_at" ["_law_script", "_law_k"] 1 (spCellD K) := ⟨⟨f__law_cell_at, fd__law_cell_at, ok_cellD F__law_cell_at X, b__law_cell_at, F__law_cell_at.kp, m__law_cell_at⟩⟩
  have c__law_alike : Cal l.prog w K mg base "_law_alike" ["_law_found", "_law_due"] 40 (spAlike K 40) := cal_recL (sp := spAlike K) (fun n => n + 0) b__law_alike F__law_alike.kp m__law_alike no_alike (fun n ih => ok_alike F__law_alike X  ih) 40
  have c__law_next : Cal l.prog w K mg base "_law_next" ["_law_xs_here"] 1 (spNext K) := ⟨⟨f__law_next, fd__law_next, ok_next F__law_next X, b__law_next, F__law_next.kp, m__law_next⟩⟩
  have c__law_kind : Cal l.prog w K mg base "_law_kind" ["_law_xs_here", "_law_room"] 8 (spKind K 7) := cal_recL (sp := spKind K) (fun n => n + 1) b__law_kind F__law_kind.kp m__law_kind no_kind (fun n ih => ok_kind F__law_kind X c__law_next ih) 7
  have c__law_turned : Cal l.prog w K mg base "_law_turned" ["_law_xs_here", "_law_kind_here", "_law_room"] 15 (spTurned K 7) := cal_recL (sp := spTurned K) (fun n => n + 8) b__law_turned F__law_turned.kp m__law_turned no_turned (fun n ih => ok_turned F__law_turned X c__law_next c__law_kind ih) 7
  have c__law_loosened : Cal l.prog w K mg base "_law_loosened" ["_law_xs_here", "_law_kind_here"] 8 (spLoos K 7) := cal_recL (sp := spLoos K) (fun n => n + 1) b__law_loosened F__law_loosened.kp m__law_loosened no_loosened (fun n ih => ok_loosened F__law_loosened X c__law_next ih) 7
  have c_flats : ∀ n, Cal l.prog w K mg base "_law_flat" ["_law_looks"] (2 * n + 1) (spFlat K n) := cal_recL (sp := spFlat K) (fun n => 2 * n + 1) b__law_flat F__law_flat.kp m__law_flat no_flat (fun n ih => by
    have c_body : Cal l.prog w K mg base "_law_body" ["_law_bodies"] (2 * n + 1 + 1) (spBody K n) := ⟨⟨f__law_body, fd__law_body, ok_body (j := 2 * n + 1) F__law_body X ih, b__law_body, F__law_body.kp, m__law_body⟩⟩
    exact ok_flat (j := 2 * n + 2) F__law_flat X c_body)
  have c__law_xs : Cal l.prog w K mg base "_law_xs" ["_law_cell", "_law_mixed"] 1 (spXs K) := ⟨⟨f__law_xs, fd__law_xs, ok_xs F__law_xs X, b__law_xs, F__law_xs.kp, m__law_xs⟩⟩
  have c__law_chain : Cal l.prog w K mg base "_law_chain" ["_law_script"] 16 (spChain K) := ⟨⟨f__law_chain, fd__law_chain, ok_chain (m := 0) F__law_chain X c__law_cell_at c__law_xs c__law_kind c__law_turned c__law_loosened, b__law_chain, F__law_chain.kp, m__law_chain⟩⟩
  have c__law_laid_by : Cal l.prog w K mg base "_law_laid_by" ["_law_looks", "_law_script"] 28 (spLaidBy K) := ⟨⟨f__law_laid_by, fd__law_laid_by, ok_laid_by (m := 0) F__law_laid_by X c__law_cell_at (c_laids 6), b__law_laid_by, F__law_laid_by.kp, m__law_laid_by⟩⟩
  exact ok_law (m := 0) FL X m_STILL rS c__law_cell_at c__law_chain (c_flats 6) c__law_laid_by c__law_alike c_made (c_laids 6)
theorem walk {l : PySem.W.OpenLaw} {q : Program} {loose : List Str} {XP : (Str → Option Value) → Heap → Prop} {YP : World → Heap → Prop} {d : DefRec} {K : Params → PySem.W.Frag} (hn : l.most = some 63) (hdf : d.params.defaults = [])
    (hY : ∀ (w : World) (h : Heap), YP w h → (K w.params).In h)
    (F : ∀ (w : World) (mg : Str → Option Value) (fa : Addr) (h : Heap), (K w.params).In h → h.Ns mainGlobals mg → mg d.name = some (.ref fa) →
      ∃ fd : FuncData, (∀ (s : Shared) (u : Value), BindsTo s fd ⟨[u], []⟩ [("_law_script", u)]) ∧ ∀ base : Heap, (K w.params).In base → base.Ns mainGlobals mg → FnOk l.prog w (K w.params) mg base CX0 45 fa fd ["_law_script"] (spLaw (K w.params))) :
    PySem.W.WalkO q loose XP YP l.row.toRowW d [] (fun f vs => PySem.call f vs) :=
  L2.walk_of (n := 63) (k := 45) (x := "_law_script") (CX := fun _ => CX0) (sp := fun w => spLaw (K w.params)) hn (by decide) hdf ⟨rfl, by decide, by decide⟩ hY F (fun _ _ a ns hl _ hS => ⟨a, ns, rfl, hS, hl, fun _ => rfl⟩) fun _ _ _ _ _ z => z
end L2.K55

end
section
set_option Elab.async false
set_option linter.all false
set_option maxRecDepth 100000
open PySem PySem.W PyProof.Rows
set_option maxRecDepth 100000 in
set_option maxHeartbeats 0 in
theorem PySem.Challenge.cw_blamewise_k55_whole_many_laid_holds : PySem.Challenge.rw_blamewise_k55_whole_many_laid.Holds := by
  w_on; o_law; k_head; (case hw => w_witness2)
  k_fill
  refine L2.K55.walk (l := PySem.Challenge.rw_blamewise_k55_whole_many_laid) rfl rfl (fun w h Y => PySem.W.kIn_of Y) ?F
  case F =>
    intro w mg fa h KX G hmg
    have T : L2.K55.Txt (L2.KOf KX) := by
      dsimp only [L2.KOf]
      refine' L2.K55.Txt.mk ?t_STILL ?_ ?_ ?_ ?_ ?_ ?_ ?_ ?_ ?_ ?_ ?_ ?_ ?_ ?_ ?_ ?_ ?_ ?_ ?_ ?_ ?_ ?_ ?_ ?_ ?_ ?_ ?t_UNTOLD ?t_SAME ?b_STEPS ?b_OTHER_SIDE ?i_ASK ?i_BODY ?i_TAG ?_ ?_ ?_ ?_ ?_ ?_ ?_ ?_ ?_ ?_ ?_ ?_
      (case t_STILL => refine' L2.K55.tup_STILL ?a ?l ?l2; (case a => k_is); (case l => k_is); (case l2 => k_is))
      (case t_UNTOLD => refine' L2.K55.tup_UNTOLD ?a ?l; (case a => k_is); (case l => k_is))
      (case t_SAME => refine' L2.K55.tup_SAME ?a ?l; (case a => k_is); (case l => k_is))
      (case b_STEPS => refine' L2.K55.tab_STEPS ?a ?t; (case a => k_is); (case t => kernel_rfl))
      (case b_OTHER_SIDE => refine' L2.K55.tab_OTHER_SIDE ?a ?t; (case a => k_is); (case t => kernel_rfl))
      (case i_ASK => refine' L2.K55.int_ASK ?a; (case a => k_is))
      (case i_BODY => refine' L2.K55.int_BODY ?a; (case a => k_is))
      (case i_TAG => refine' L2.K55.int_TAG ?a; (case a => k_is))
      all_goals first | (refine' L2.K55.here_mk ?a ?l ?c ?k; (case a => k_is); (case l => k_is); (case c => k_is); (case k => k_is)) | k_is
    exact L2.K55.all_mk KX G hmg T

end
