import PyProof.Rows.All
import Wide.All
import OpenK.AllK
import Wide.FinOn
import Lean
import PyProof.EqAt
import PyProof.EqKinds
import PyProof.TupleCall
import KE.KTabLook
import KE.LcSums
import PyProof.ListMulRoad
import KE.KEqDict
import PySem.Challenge.RW_blamewise_k81_looser_joined_met
-- CHANGE: your row's module here, as the last of these rows
set_option Elab.async false
set_option linter.all false
set_option maxRecDepth 100000
/-! THE HAND LAYER, for ints, bools, texts, own classes, LISTS and tuples (index, slices, in, append, pop ..), calls, loops. Paste it whole ahead of your own text; what your proof does not reach may be deleted. -/
namespace L2
open PySem PySem.Spec PyProof.Rows

/-- a key: an int or a str -/
noncomputable abbrev Key := Sum Int Str
noncomputable def keyIs : Key → Value → Bool
  | .inl k, v => Value.isInt k v
  | .inr x, v => Value.isStrOf x v
noncomputable def keyH (w : World) : Key → Int
  | .inl k => hashInt k
  | .inr x => hashStr w x
theorem keyIs_shape : ∀ {k : Key} {v : Value}, keyIs k v = true → (∃ i t, k = Sum.inl i ∧ v = Value.int i t) ∨ (∃ x t, k = Sum.inr x ∧ v = Value.str x t)
  | .inl i, v, h => by
    obtain ⟨t, e⟩ := Value.isInt_shape (k := i) (v := v) h
    exact .inl ⟨i, t, rfl, e⟩
  | .inr x, v, h => by
    obtain ⟨t, e⟩ := Value.isStrOf_shape (x := x) (v := v) h
    exact .inr ⟨x, t, rfl, e⟩
theorem keyIs_int (i : Int) (t : Tok) : keyIs (.inl i) (.int i t) = true := by simp [keyIs, Value.isInt]
theorem keyIs_str (x : Str) (t : Tok) : keyIs (.inr x) (.str x t) = true := by simp [keyIs, Value.isStrOf]
theorem key_ll (a b : Int) : decide ((Sum.inl a : Key) = Sum.inl b) = (a == b) := by
  by_cases e : a = b
  · subst e; simp
  · have h : ¬ (Sum.inl a : Key) = Sum.inl b := fun q => e (Sum.inl.inj q)
    rw [decide_eq_false h]
    exact (beq_eq_false_iff_ne.mpr e).symm
theorem key_rr (a b : Str) : decide ((Sum.inr a : Key) = Sum.inr b) = decide (a = b) := by
  by_cases e : a = b
  · subst e; simp
  · have h : ¬ (Sum.inr a : Key) = Sum.inr b := fun q => e (Sum.inr.inj q)
    rw [decide_eq_false h, decide_eq_false e]
theorem key_lr (a : Int) (b : Str) : decide ((Sum.inl a : Key) = Sum.inr b) = false := decide_eq_false (fun q => nomatch q)
theorem key_rl (a : Str) (b : Int) : decide ((Sum.inr a : Key) = Sum.inl b) = false := decide_eq_false (fun q => nomatch q)

noncomputable def mixKind (prog : Program) (w : World) : PySem.KeyKind prog w Key where
  is := keyIs
  hash := keyH w
  inj := fun v a b ha hb => by
    rcases keyIs_shape ha with ⟨i, t, rfl, rfl⟩ | ⟨x, t, rfl, rfl⟩
    · rcases keyIs_shape hb with ⟨j, u, rfl, e⟩ | ⟨y, u, rfl, e⟩
      · injection e with e1 _; rw [e1]
      · exact nomatch e
    · rcases keyIs_shape hb with ⟨j, u, rfl, e⟩ | ⟨y, u, rfl, e⟩
      · exact nomatch e
      · injection e with e1 _; rw [e1]
  byValue := fun k v h => by
    rcases keyIs_shape h with ⟨i, t, rfl, rfl⟩ | ⟨x, t, rfl, rfl⟩ <;> rfl
  pyHash := fun hv h => by
    rcases keyIs_shape hv with ⟨i, t, rfl, rfl⟩ | ⟨x, t, rfl, rfl⟩
    · exact wpAny_pyHash_int h
    · exact wpAny_pyHash_str h
  eqBool := fun hu hv h => by
    rcases keyIs_shape hu with ⟨i, t, rfl, rfl⟩ | ⟨x, t, rfl, rfl⟩
    · rcases keyIs_shape hv with ⟨j, u, rfl, rfl⟩ | ⟨y, u, rfl, rfl⟩
      · rw [key_ll] at h; exact wpAny_eqBool_int h
      · rw [key_lr] at h; exact SeqAt.EqAt.int_str i t y u _ _ _ _ h
    · rcases keyIs_shape hv with ⟨j, u, rfl, rfl⟩ | ⟨y, u, rfl, rfl⟩
      · rw [key_rl] at h; exact SeqAt.EqAt.str_int x t j u _ _ _ _ h
      · rw [key_rr] at h; exact wpAny_eqBool_str h
  «strs» := fun k x t v h => by
    rcases keyIs_shape h with ⟨i, u, rfl, e⟩ | ⟨y, u, rfl, e⟩
    · exact nomatch e
    · injection e with e1 _
      subst e1
      cases v <;> rfl

theorem mixKind_int (prog : Program) (w : World) (i : Int) (t : Tok) : (mixKind prog w).is (.inl i) (.int i t) = true := keyIs_int i t
theorem mixKind_str (prog : Program) (w : World) (x : Str) (t : Tok) : (mixKind prog w).is (.inr x) (.str x t) = true := keyIs_str x t
end L2

namespace L2
open PySem PySem.Spec PyProof.Rows

/-- a value, without the heap -/
inductive V where
  | non | bl (b : Bool) | int (i : Int) | str (x : Str) | byt (b : Array UInt8) | flt (b : UInt64) | ref (a : Addr) | ty (n : String)
  deriving DecidableEq

noncomputable def RelV : V → Value → Prop
  | .non, u => u = Value.none
  | .bl b, u => u = Value.bool b
  | .int i, u => ∃ t, u = Value.int i t
  | .str x, u => ∃ t, u = Value.str x t
  | .byt b, u => ∃ t, u = Value.bytes b t
  | .flt b, u => ∃ t, u = Value.float b t
  | .ref a, u => u = Value.ref a
  | .ty n, u => u = Value.type n

noncomputable abbrev Vals : List V → List Value → Prop := Paired RelV
theorem Vals.length {xs : List V} {us : List Value} (r : Vals xs us) : xs.length = us.length := Paired.length r
theorem Vals.get : ∀ {xs : List V} {us : List Value} {i : Nat} {x : V}, Vals xs us → xs[i]? = some x → ∃ u, us[i]? = some u ∧ RelV x u
  | _, _, _, _, .nil, e => by simp at e
  | _, _, 0, _, .cons r _, e => by simp at e; subst e; exact ⟨_, rfl, r⟩
  | _, _, i + 1, x, .cons _ t, e => by
    obtain ⟨u, h1, h2⟩ := Vals.get (i := i) (x := x) t (by simpa using e)
    exact ⟨u, by simpa using h1, h2⟩
theorem Vals.set {x : V} {u : Value} (r : RelV x u) : ∀ {xs : List V} {us : List Value} (i : Nat), Vals xs us → Vals (xs.set i x) (us.set i u)
  | _, _, _, .nil => .nil
  | _, _, 0, .cons _ t => .cons r t
  | _, _, i + 1, .cons q t => .cons q (Vals.set r i t)
theorem Vals.append : ∀ {xs ys : List V} {us ws : List Value}, Vals xs us → Vals ys ws → Vals (xs ++ ys) (us ++ ws)
  | _, _, _, _, .nil, s => s
  | _, _, _, _, .cons r t, s => .cons r (Vals.append t s)
theorem Vals.take : ∀ {xs : List V} {us : List Value} (n : Nat), Vals xs us → Vals (xs.take n) (us.take n)
  | _, _, 0, _ => .nil
  | _, _, _ + 1, .nil => .nil
  | _, _, n + 1, .cons r t => .cons r (Vals.take n t)
theorem Vals.drop : ∀ {xs : List V} {us : List Value} (n : Nat), Vals xs us → Vals (xs.drop n) (us.drop n)
  | _, _, 0, r => r
  | _, _, _ + 1, .nil => .nil
  | _, _, n + 1, .cons _ t => Vals.drop n t
noncomputable def RelO : Option V → Option Value → Prop
  | some v, some u => RelV v u
  | none, none => True
  | _, _ => False
noncomputable def KV {κ : Type} : List (κ × V) → List (κ × Value) → Prop := Paired fun (p : κ × V) (q : κ × Value) => p.1 = q.1 ∧ RelV p.2 q.2

/-- a key of a dict (00_mix): an int or a text -/
noncomputable def kV : Key → V
  | .inl i => .int i
  | .inr x => .str x

/-- what stands at a tracked address -/
inductive HO where
  /-- a list -/
  | lst (xs : List V)
  /-- a tuple (never changes) -/
  | tup (xs : List V)
  /-- a dict whose keys are ints and texts; one whose keys are tuples of ints and texts (the empty one is both) -/
  | dK (kvs : List (Key × V)) | dT (kvs : List (List Key × V))
  /-- a set of ints: its members, its size -/
  | set (S : Int → Bool) (n : Nat)
  /-- an instance of the class at C, its dict at dx, its attributes -/
  | ins (C dx : Addr) (fs : List (Str × V))
  /-- the dict of the instance at x -/
  | own (x : Addr)
  /-- the dict of an exception -/
  | xd (fs : List (Str × V))
  /-- a bound method, f of x -/
  | met (f x : Addr)
  /-- a range object lo, lo + 1, .. below hi -/
  | rng (lo hi : Int)
  /-- a thing that is known to the object (the script; a dict while a loop walks it): read, never written while it is so -/
  | frz (o : Obj) (u : HO)
  /-- a code object's table -/
  | tbl (ps : Array Value)
  /-- any other thing, by what is true of its one object (a def of one's own: SetO a S n := HO.ext fun h => ..) -/
  | ext (φ : Heap → Prop)

noncomputable abbrev Hp := Addr → Option HO
noncomputable def upd (H : Hp) (a : Addr) (o : HO) : Hp := fun b => if b = a then some o else H b
theorem upd_same {H : Hp} {a : Addr} {o : HO} : upd H a o a = some o := by unfold upd; rw [if_pos rfl]
theorem upd_ne {H : Hp} {a b : Addr} {o : HO} (h : b ≠ a) : upd H a o b = H b := by unfold upd; rw [if_neg h]
/-- two objects of different content stand apart -/
theorem ne_of {H : Hp} {a b : Addr} {o u : HO} (h : H a = some o) (h' : H b = some u) (d : o ≠ u) : a ≠ b := by
  intro e; subst e; rw [h] at h'; exact d (Option.some.inj h')
theorem ne_of_none {H : Hp} {a b : Addr} {o : HO} (h : H a = some o) (h' : H b = none) : a ≠ b := by
  intro e; subst e; rw [h] at h'; cases h'

section
variable (P : Program) (w : World)
noncomputable def ObjOk (H : Hp) (h : Heap) (a : Addr) : HO → Prop
  | .lst xs => xs.length ≤ sizeLine ∧ ∃ (its : List Value) (n : Nat), Vals xs its ∧ h.get? a = some { cls := .type "list", data := .seq its.toArray n }
  | .tup xs => xs.length ≤ sizeLine ∧ ∃ its : List Value, Vals xs its ∧ IsTup h a its.toArray
  | .dK kvs => kvs.length ≤ sizeLine ∧ (a == sysModules) = false ∧ ∃ vs, KV kvs vs ∧ h.DictOf (mixKind P w) a vs
  | .dT kvs => kvs.length ≤ sizeLine ∧ (a == sysModules) = false ∧ ∃ xs : List (List Key × Addr × Value),
      Paired (fun (p : List Key × V) (q : List Key × Addr × Value) => p.1 = q.1 ∧ H q.2.1 = some (.tup (p.1.map kV)) ∧ RelV p.2 q.2.2) kvs xs ∧
      ∃ o es ep, h.get? a = some o ∧ o.ExactDict ∧ o.data = .dict es ep ∧ es.toList = xs.map (entryOfKey (tupleKind (mixKind P w))) ∧ (xs.map (·.1)).Nodup
  | .set S n => h.SetOf (intKind P w) a S n
  | .ins C dx fs => H dx = some (.own a) ∧ fs.length ≤ 1000 ∧ dx ≠ a ∧ h.get? a = some (PySem.W.instObj C dx) ∧
      ∃ mA, h.Ns1 dx mA ∧ (∀ f, RelO (fs.lookup f) (mA f)) ∧ PySem.Within mA (fs.map (·.1))
  | .own _ => ∃ o, h.get? a = some o
  | .xd fs => ∃ mA, h.Ns1 a mA ∧ ∀ f, RelO (fs.lookup f) (mA f)
  | .rng lo hi => ∃ t u v, h.get? a = some { cls := .type "range", data := .fields #[.int lo t, .int hi u, .int 1 v] }
  | .frz o u => h.get? a = some o ∧ ObjOk H h a u
  | .tbl ps => h.get? a = some { cls := .none, data := .fields ps }
  | .met f x => h.get? a = some (PySem.W.methodObj (.ref f) (.ref x))
  | .ext φ => φ h ∧ (∃ o, h.get? a = some o) ∧ ∀ h1 h2 : Heap, φ h1 → (∀ o, h1.get? a = some o → h2.get? a = some o) → φ h2
/-- the abstract heap is held -/
noncomputable def HOk (H : Hp) (h : Heap) : Prop := ∀ a o, H a = some o → ObjOk P w H h a o
end

section
variable {P : Program} {w : World} {H H' : Hp} {h h' : Heap} {a : Addr} {o : HO}
theorem ObjOk.lt (x : ObjOk P w H h a o) : a < h.objs.size := by
  cases o with
  | lst xs => obtain ⟨_, _, _, _, e⟩ := x; exact Heap.lt_size e
  | tup xs => obtain ⟨_, _, _, p⟩ := x; exact p.lt
  | dK kvs => obtain ⟨_, _, _, _, o, _, _, e, _⟩ := x; exact Heap.lt_size e
  | dT kvs => obtain ⟨_, _, _, _, o, _, _, e, _⟩ := x; exact Heap.lt_size e
  | set S n => obtain ⟨o, _, _, _, e, _⟩ := x; exact Heap.lt_size e
  | ins C dx fs => obtain ⟨_, _, _, e, _⟩ := x; exact Heap.lt_size e
  | own y => obtain ⟨_, e⟩ := x; exact Heap.lt_size e
  | xd fs => obtain ⟨_, ⟨_, _, _, e, _⟩, _⟩ := x; exact Heap.lt_size e
  | rng lo hi => obtain ⟨_, _, _, e⟩ := x; exact Heap.lt_size e
  | frz ob u => obtain ⟨e, _⟩ := x; exact Heap.lt_size e
  | tbl ps => exact Heap.lt_size (show h.get? a = some _ from x)
  | met f y => exact Heap.lt_size (show h.get? a = some _ from x)
  | ext φ => obtain ⟨_, ⟨_, e⟩, _⟩ := x; exact Heap.lt_size e
theorem Paired.mapP {α β : Type} {F G : α → β → Prop} : ∀ {l₁ : List α} {l₂ : List β}, Paired F l₁ l₂ → (∀ a b, F a b → G a b) → Paired G l₁ l₂
  | _, _, .nil, _ => .nil
  | _, _, .cons r t, f => .cons (f _ _ r) (Paired.mapP t f)
/-- what an object's description leans on: its own object, its own dict, the tuples -/
theorem ObjOk.stay (x : ObjOk P w H h a o) (k : ∀ b u, (b = a ∨ H b = some (.own a)) → h.get? b = some u → h'.get? b = some u)
    (ho : ∀ b, H b = some (.own a) → H' b = some (.own a)) (ht : ∀ b xs, H b = some (.tup xs) → H' b = some (.tup xs)) : ObjOk P w H' h' a o := by
  induction o with
  | lst xs => obtain ⟨z, its, n, r, e⟩ := x; exact ⟨z, its, n, r, k _ _ (.inl rfl) e⟩
  | tup xs => obtain ⟨z, its, r, ob, e, c⟩ := x; exact ⟨z, its, r, ob, k _ _ (.inl rfl) e, c⟩
  | dK kvs => obtain ⟨z, y, vs, r, ob, es, ep, e, c⟩ := x; exact ⟨z, y, vs, r, ob, es, ep, k _ _ (.inl rfl) e, c⟩
  | dT kvs =>
    obtain ⟨z, y, xs, r, ob, es, ep, e, c⟩ := x
    exact ⟨z, y, xs, Paired.mapP r fun p q z => ⟨z.1, ht _ _ z.2.1, z.2.2⟩, ob, es, ep, k _ _ (.inl rfl) e, c⟩
  | set S n => obtain ⟨ob, es, ep, t, e, c⟩ := x; exact ⟨ob, es, ep, t, k _ _ (.inl rfl) e, c⟩
  | ins C dx fs =>
    obtain ⟨d, z, ne, e, mA, ⟨od, es, ep, e2, c⟩, r⟩ := x
    exact ⟨ho _ d, z, ne, k _ _ (.inl rfl) e, mA, ⟨od, es, ep, k _ _ (.inr d) e2, c⟩, r⟩
  | own y => obtain ⟨ob, e⟩ := x; exact ⟨ob, k _ _ (.inl rfl) e⟩
  | xd fs => obtain ⟨mA, ⟨od, es, ep, e, c⟩, r⟩ := x; exact ⟨mA, ⟨od, es, ep, k _ _ (.inl rfl) e, c⟩, r⟩
  | rng lo hi => obtain ⟨t, u, v, e⟩ := x; exact ⟨t, u, v, k _ _ (.inl rfl) e⟩
  | frz ob u ih => obtain ⟨e, q⟩ := x; exact ⟨k _ _ (.inl rfl) e, ih q⟩
  | tbl ps =>
    have e : h.get? a = some { cls := .none, data := .fields ps } := x
    show h'.get? a = some { cls := .none, data := .fields ps }
    exact k a _ (.inl rfl) e
  | met f y =>
    have e : h.get? a = some (PySem.W.methodObj (.ref f) (.ref y)) := x
    show h'.get? a = some (PySem.W.methodObj (.ref f) (.ref y))
    exact k a _ (.inl rfl) e
  | ext φ => obtain ⟨p, ⟨o, e⟩, st⟩ := x; exact ⟨st _ _ p fun o q => k _ _ (.inl rfl) q, ⟨o, k _ _ (.inl rfl) e⟩, st⟩
theorem HOk.lt (x : HOk P w H h) (e : H a = some o) : a < h.objs.size := (x a o e).lt
theorem HOk.fresh (x : HOk P w H h) (e : h.objs.size ≤ a) : H a = none := by
  cases q : H a with
  | none => rfl
  | some u => exact absurd (Nat.lt_of_lt_of_le (x.lt q) e) (Nat.lt_irrefl _)
/-- every object of the heap is kept -/
theorem HOk.kept (x : HOk P w H h) (k : ∀ b u, h.get? b = some u → h'.get? b = some u) : HOk P w H h' := fun a o e =>
  (x a o e).stay (fun b u _ q => k b u q) (fun _ q => q) fun _ _ q => q
/-- a new object is laid and tracked -/
theorem HOk.laid (x : HOk P w H h) (k : ∀ b u, h.get? b = some u → h'.get? b = some u) (hp : h.objs.size ≤ a) (new : ObjOk P w (upd H a o) h' a o) : HOk P w (upd H a o) h' := fun b u e => by
  have hn := x.fresh hp
  by_cases hb : b = a
  · subst hb; rw [upd_same] at e; cases e; exact new
  · rw [upd_ne hb] at e
    exact (x b u e).stay (fun c v _ q => k c v q) (fun c q => by rw [upd_ne (ne_of_none q hn)]; exact q) fun c xs q => by rw [upd_ne (ne_of_none q hn)]; exact q
end

/-- what may be read as u: it is u, or a known u -/
noncomputable def Rd (H : Hp) (a : Addr) (u : HO) : Prop := H a = some u ∨ ∃ o, H a = some (.frz o u)
theorem Rd.ok {P : Program} {w : World} {H : Hp} {h : Heap} {a : Addr} {u : HO} (r : Rd H a u) (x : HOk P w H h) : ObjOk P w H h a u := by
  rcases r with r | ⟨o, r⟩
  · exact x a u r
  · obtain ⟨_, q⟩ := x a _ r
    exact q
/-- what may be written -/
noncomputable def Mut : Option HO → Prop
  | some (.lst _) => True
  | some (.dK _) => True
  | some (.dT _) => True
  | some (.set _ _) => True
  | some (.ins _ _ _) => True
  | some (.ext _) => True
  | _ => False
section
variable {P : Program} {w : World} {H : Hp} {h h' : Heap} {x e : Addr} {o' : HO}
/-- the object at e is changed: x itself, or the dict of the instance x -/
theorem HOk.write (ok : HOk P w H h) (mu : Mut (H x)) (he : e = x ∨ H e = some (.own x)) (k : ∀ b u, b ≠ e → h.get? b = some u → h'.get? b = some u) (heo : ∃ u, h'.get? e = some u)
    (new : ObjOk P w (upd H x o') h' x o') : HOk P w (upd H x o') h' := fun b u q => by
  have nown : ∀ c y, H c = some (.own y) → c ≠ x := fun c y r z => by subst z; rw [r] at mu; exact mu
  have ntup : ∀ c xs, H c = some (.tup xs) → c ≠ x := fun c xs r z => by subst z; rw [r] at mu; exact mu
  by_cases hb : b = x
  · subst hb; rw [upd_same] at q; cases q; exact new
  · rw [upd_ne hb] at q
    by_cases hbe : b = e
    · have q' : H b = some (.own x) := by
        rcases he with z | z
        · exact absurd (hbe.trans z) hb
        · rw [hbe]; exact z
      rw [q] at q'; cases q'
      obtain ⟨v, hv⟩ := heo
      exact ⟨v, by rw [hbe]; exact hv⟩
    · refine (ok b u q).stay (fun c v hc r => k c v ?_ r) (fun c r => by rw [upd_ne (nown c b r)]; exact r) fun c xs r => by rw [upd_ne (ntup c xs r)]; exact r
      rcases hc with rfl | hc
      · exact hbe
      · rintro rfl
        rcases he with z | z
        · exact nown c b hc z
        · rw [hc] at z; cases z; exact hb rfl
end

/-! ### kept unless tracked; of the frames at fs (the callers') the slots may change (an exception that passes writes there); of the records at ex (iterators) nothing is said -/
structure Un (fs ex : List Addr) (H H' : Hp) (h h' : Heap) : Prop where
  keep : ∀ b o, h.get? b = some o → H b = none → b ∉ fs → b ∉ ex → h'.get? b = some o
  slot : ∀ b o, h.get? b = some o → H b = none → b ∈ fs → b ∉ ex → ∃ sl, h'.get? b = some { o with slots := sl }
  free : ∀ b o, h.get? b = some o → H b = none → b ∉ ex → H' b = none
  there : ∀ b o, h.get? b = some o → b ∉ ex → ∃ o', h'.get? b = some o'
  tups : ∀ b xs, H b = some (.tup xs) → H' b = some (.tup xs)
  frzs : ∀ b o u, H b = some (.frz o u) → H' b = some (.frz o u)
  tbls : ∀ b ps, H b = some (.tbl ps) → ∃ more, H' b = some (.tbl (ps ++ more))
section
variable {fs fs' ex ex' : List Addr} {H H1 H2 : Hp} {h h1 h2 h' : Heap} {a x e : Addr} {o : HO}
theorem Un.any (u : Un fs ex H H1 h h1) {b : Addr} {ob : Obj} (q : h.get? b = some ob) (n : H b = none) (hx : b ∉ ex) : ∃ sl, h1.get? b = some { ob with slots := sl } := by
  by_cases hb : b ∈ fs
  · exact u.slot b ob q n hb hx
  · exact ⟨ob.slots, u.keep b ob q n hb hx⟩
theorem Un.kept (k : ∀ b u, h.get? b = some u → h'.get? b = some u) : Un fs ex H H h h' :=
  ⟨fun b ob q _ _ _ => k b ob q, fun b ob q _ _ _ => ⟨ob.slots, k b ob q⟩, fun _ _ _ n _ => n, fun b ob q _ => ⟨ob, k b ob q⟩, fun _ _ q => q, fun _ _ _ q => q, fun _ ps q => ⟨#[], by rw [q]; simp⟩⟩
theorem Un.refl : Un fs ex H H h h := Un.kept fun _ _ q => q
theorem Un.laid (k : ∀ b u, h.get? b = some u → h'.get? b = some u) (hp : h.objs.size ≤ a) (hn : H a = none) : Un fs ex H (upd H a o) h h' where
  keep := fun b u q _ _ _ => k b u q
  slot := fun b u q _ _ _ => ⟨u.slots, k b u q⟩
  free := fun b u q n _ => by rw [upd_ne (Nat.ne_of_lt (Nat.lt_of_lt_of_le (Heap.lt_size q) hp))]; exact n
  there := fun b u q _ => ⟨u, k b u q⟩
  tups := fun b xs q => by rw [upd_ne (ne_of_none q hn)]; exact q
  frzs := fun b u xs q => by rw [upd_ne (ne_of_none q hn)]; exact q
  tbls := fun b ps q => ⟨#[], by rw [upd_ne (ne_of_none q hn), q]; simp⟩
theorem Un.write (mu : Mut (H x)) (he : e = x ∨ H e = some (.own x)) (k : ∀ b u, b ≠ e → h.get? b = some u → h'.get? b = some u) (heo : ∃ u, h'.get? e = some u) : Un fs ex H (upd H x o) h h' := by
  have hx : ∀ b, H b = none → b ≠ x := fun b n z => by subst z; rw [n] at mu; exact mu
  have hb : ∀ b, H b = none → b ≠ e := fun b n z => by
    subst z
    rcases he with r | r
    · exact hx b n r
    · rw [n] at r; cases r
  have hm : ∀ b u, H b = some u → ¬ Mut (some u) → b ≠ x := fun b u q nm z => by subst z; rw [q] at mu; exact nm mu
  refine ⟨fun b u q n _ _ => k b u (hb b n) q, fun b u q n _ _ => ⟨u.slots, k b u (hb b n) q⟩, fun b u q n _ => by rw [upd_ne (hx b n)]; exact n, fun b u q _ => ?_,
    fun b xs q => by rw [upd_ne (hm b _ q fun z => z)]; exact q, fun b u xs q => by rw [upd_ne (hm b _ q fun z => z)]; exact q, fun b ps q => ⟨#[], by rw [upd_ne (hm b _ q fun z => z), q]; simp⟩⟩
  by_cases hbe : b = e
  · subst hbe; exact heo
  · exact ⟨u, k b u hbe q⟩
end

/-! ### the heap without what is tracked -/
noncomputable def trk (h : Heap) (H : Hp) : List Addr := (List.range h.objs.size).filter fun a => (H a).isSome
noncomputable def hidT (h : Heap) (H : Hp) : Heap := PySem.W.hideAll h (trk h H)
theorem hidT_size (h : Heap) (H : Hp) : (hidT h H).objs.size = h.objs.size := PySem.W.hideAll_size _ _
theorem hidT_get {h : Heap} {H : Hp} {b : Addr} {o : Obj} (e : h.get? b = some o) (n : H b = none) : (hidT h H).get? b = some o :=
  PySem.W.hideAll_get _ e fun hm => by
    have q : (H b).isSome = true := (List.mem_filter.mp hm).2
    rw [n] at q; simp at q
theorem of_hidT {h : Heap} {H : Hp} {b : Addr} {o : Obj} (e : (hidT h H).get? b = some o) : h.get? b = some o ∧ H b = none := by
  have e' : h.get? b = some o := PySem.W.of_hideAll (trk h H) e
  refine ⟨e', ?_⟩
  cases q : H b with
  | none => rfl
  | some x =>
    have hm : b ∈ trk h H := List.mem_filter.mpr ⟨List.mem_range.mpr (Heap.lt_size e'), by simp [q]⟩
    have z : (hidT h H).get? b = none := PySem.W.hideAll_none (trk h H) hm
    rw [z] at e; cases e

/-! ### OpenK's ledger, filled with every new object but one -/
noncomputable def allNews (g h : Heap) (L : Addr) : List (Addr × Obj) := (List.range h.objs.size).filterMap fun a => if a = L ∨ (g.get? a).isSome = true then none else (h.get? a).map fun o => (a, o)
noncomputable def rest (g h : Heap) (L d : Addr) : List (Addr × Obj) := (allNews g h L).filter fun p => decide (p.1 ≠ d)
end L2

namespace L2
open PySem PySem.Spec PyProof.Rows

/-- the module's facts, over the base: the heap at the law's entry without what is tracked there -/
structure Mod (K : PySem.W.Frag) (mg : Str → Option Value) (base : Heap) : Prop where
  kin : K.In base
  glob : base.Ns mainGlobals mg
  blt : ∃ mb, base.Ns builtinsNs mb ∧ ∀ x : Str, x ≠ "__name__" → mb x = bootBuiltins x
  nolimit : base.NoLimit

/-- the context: a def's body (or a comprehension's block) running. base: fixed through the whole law; s₀, H₀: the entry; outer: the frames whose slots others may change (a def's callers); stack: all frames that run;
   ex: iterators that were made ahead of the entry and are walked here (a comprehension's); fn: the names whose cells were made at the entry (a def: all; a comprehension's block: its own); calm: not within an except suite; pn: pins that every state bears; xe: what is wanted of an exception that leaves the code -/
structure Cx where
  prog : Program
  w : World
  K : PySem.W.Frag
  mg : Str → Option Value
  base : Heap
  A : Around
  N : List Str
  s₀ : Shared
  H₀ : Hp
  env : Env
  outer : List Env
  stack : List Env
  ex : List Addr
  fn : Str → Bool
  calm : Bool
  pn : List (Addr × Obj)
  xe : Value → Shared → Prop
/-- the callers' frames -/
noncomputable def frs (l : List Env) : List Addr := l.filterMap (·.frame)
noncomputable abbrev Cx.fs (X : Cx) : List Addr := frs X.outer

noncomputable def Vis (sc : Scope) (x : Str) : Prop := sc.names.lookup x = some .local ∨ sc.names.lookup x = some .cell ∨ sc.names.lookup x = some .free
noncomputable def Loc (sc : Scope) (x : Str) : Prop := sc.names.lookup x = some .local ∨ sc.names.lookup x = some .cell
noncomputable def Look (env : Env) (h : Heap) (m : Str → Option Value) (x : Str) (u : Value) : Prop :=
  (env.kindOf x = some .local ∧ m x = some u) ∨ ((env.kindOf x = some .cell ∨ env.kindOf x = some .free) ∧ ∃ c, env.cells.lookup x = some c ∧ h.IsCell c (some u))

structure Cx.Ok (X : Cx) : Prop where
  mod : Mod X.K X.mg X.base
  kind : X.env.scope.kind = .function
  glob : X.env.globals = mainGlobals
  blt : X.env.builtins = builtinsNs
  above : X.s₀.heap.objs.size ≤ X.env.locals
  inj : ∀ x y c, X.env.cells.lookup x = some c → X.env.cells.lookup y = some c → x = y
  has : ∀ x, (X.env.kindOf x = some .cell ∨ X.env.kindOf x = some .free) → ∃ c, X.env.cells.lookup x = some c
  cab : ∀ x c, X.fn x = true → X.env.cells.lookup x = some c → X.s₀.heap.objs.size ≤ c
  hd : X.calm = true → X.A.handled = none
  frames : X.A.frames = some X.stack
  stk : X.stack = X.outer ∨ (X.stack = X.env :: X.outer ∧ X.env.frame = some X.env.locals)
  exf : ∀ b ∈ X.ex, b ≠ X.env.locals ∧ ∀ x c, X.env.cells.lookup x = some c → c ≠ b
  bs : ∀ b o, X.base.get? b = some o → X.s₀.heap.get? b = some o ∧ X.H₀ b = none
  bsz : X.base.objs.size ≤ X.s₀.heap.objs.size
  noex : ∀ b o, X.base.get? b = some o → b ∉ X.ex
  exfs : ∀ b ∈ X.ex, b ∉ X.fs
  funs : X.s₀.heap.FunFrames X.base X.outer
  frf : ∀ b ∈ X.fs, X.H₀ b = none

structure Inv (X : Cx) (pins : List (Addr × Obj)) (σ : List (Option V)) (H : Hp) (s : Shared) : Prop where
  ok : X.Ok
  os : s.os = X.s₀.os
  bare : AllBare s.gens
  base : Un X.fs X.ex X.H₀ H X.s₀.heap s.heap
  loc : ∃ m, s.heap.Ns X.env.locals m ∧ ∀ (i : Nat) (x : Str) (v : V), X.N[i]? = some x → σ[i]? = some (some v) → Vis X.env.scope x → ∃ u, RelV v u ∧ Look X.env s.heap m x u
  cell : ∀ x c, X.env.cells.lookup x = some c → ∃ v, s.heap.IsCell c v
  free : H X.env.locals = none
  freeC : ∀ x c, X.env.cells.lookup x = some c → H c = none
  pin : ∀ p ∈ X.pn ++ pins, s.heap.get? p.1 = some p.2 ∧ H p.1 = none ∧ p.1 ≠ X.env.locals ∧ p.1 ∉ X.fs ∧ ∀ v, p.2.data ≠ .cell v
  hok : HOk X.prog X.w H s.heap
  len : σ.length = X.N.length

section
variable {X : Cx} {pins : List (Addr × Obj)} {σ : List (Option V)} {H H' : Hp} {s : Shared} {h' : Heap}

theorem Cx.Ok.nofr (ok : X.Ok) {b : Addr} {o : Obj} (e : X.base.get? b = some o) : b ∉ X.fs := fun hb => by
  have := (ok.funs.mem hb).1
  rw [e] at this; cases this
theorem Inv.bs (I : Inv X pins σ H s) : ∀ b o, X.base.get? b = some o → s.heap.get? b = some o ∧ H b = none := fun b o e =>
  ⟨I.base.keep b o (I.ok.bs b o e).1 (I.ok.bs b o e).2 (I.ok.nofr e) (I.ok.noex b o e), I.base.free b o (I.ok.bs b o e).1 (I.ok.bs b o e).2 (I.ok.noex b o e)⟩
theorem Inv.bk (I : Inv X pins σ H s) : ∀ b o, X.base.get? b = some o → s.heap.get? b = some o := fun b o e => (I.bs b o e).1
theorem Inv.mod (I : Inv X pins σ H s) : Mod X.K X.mg X.base := I.ok.mod
theorem Inv.kIn (I : Inv X pins σ H s) : X.K.In s.heap := I.ok.mod.kin.keeps I.bk
theorem Inv.lt (I : Inv X pins σ H s) : X.env.locals < s.heap.objs.size := let ⟨_, hn, _⟩ := I.loc; hn.lt
theorem Inv.sz (I : Inv X pins σ H s) : X.s₀.heap.objs.size ≤ s.heap.objs.size := Nat.le_trans I.ok.above (Nat.le_of_lt I.lt)
theorem Inv.nofs (I : Inv X pins σ H s) {a : Addr} (h : s.heap.objs.size ≤ a) : a ∉ X.fs := fun hb => by
  obtain ⟨_, o, ho, _⟩ := I.ok.funs.mem hb
  exact absurd (Nat.lt_of_lt_of_le (Heap.lt_size ho) (Nat.le_trans I.sz h)) (Nat.lt_irrefl _)
theorem Inv.cne (I : Inv X pins σ H s) : ∀ x c, X.env.cells.lookup x = some c → c ≠ X.env.locals := fun x c e z => by
  obtain ⟨v, o, ho, hd⟩ := I.cell x c e
  obtain ⟨m, ⟨o', es, ep, ho', hd', _⟩, _⟩ := I.loc
  rw [z, ho'] at ho; cases ho; rw [hd'] at hd; cases hd
theorem Inv.funs (I : Inv X pins σ H s) : s.heap.FunFrames X.base X.outer := by
  have all : ∀ (l : List Env), (∀ b ∈ frs l, b ∈ X.fs) → X.s₀.heap.FunFrames X.base l → s.heap.FunFrames X.base l := by
    intro l
    induction l with
    | nil => intro _ _; trivial
    | cons env r ih =>
      intro hs hl
      obtain ⟨hk, ⟨L, o, hf, hn, ho, hd⟩, hr⟩ := hl
      have hL : L ∈ X.fs := hs L (by unfold frs; rw [List.filterMap_cons, hf]; exact List.mem_cons_self)
      obtain ⟨sl, e⟩ := I.base.slot L o ho (I.ok.frf L hL) hL fun z => I.ok.exfs L z hL
      exact ⟨hk, ⟨L, _, hf, hn, e, hd⟩, ih (fun b hb => hs b (by unfold frs; rw [List.filterMap_cons, hf]; exact List.mem_cons_of_mem _ hb)) hr⟩
  exact all X.outer (fun _ hb => hb) I.ok.funs

/-- the frames that run, for a call -/
theorem Inv.stack (I : Inv X pins σ H s) : s.heap.FunFrames X.base X.stack := by
  rcases I.ok.stk with e | ⟨e, hf⟩
  · rw [e]; exact I.funs
  · rw [e]
    obtain ⟨m, hn, _⟩ := I.loc
    refine .cons (by rw [I.ok.kind]; decide) hf hn ?_ I.funs
    exact Heap.get?_none_of_le (Nat.le_trans I.ok.bsz I.ok.above)
theorem Inv.stkSub (I : Inv X pins σ H s) : ∀ b ∈ frs X.stack, b ∈ X.env.locals :: X.fs := fun b hb => by
  rcases I.ok.stk with e | ⟨e, hf⟩
  · rw [e] at hb; exact List.mem_cons_of_mem _ hb
  · rw [e] at hb
    unfold frs at hb
    rw [List.filterMap_cons, hf] at hb
    exact hb
theorem Inv.stkFree (I : Inv X pins σ H s) : ∀ b ∈ frs X.stack, H b = none := fun b hb => by
  rcases List.mem_cons.mp (I.stkSub b hb) with e | hb
  · rw [e]; exact I.free
  · obtain ⟨_, o, ho, _⟩ := I.ok.funs.mem hb
    exact I.base.free b o ho (I.ok.frf b hb) fun z => I.ok.exfs b z hb

/-- THE STEP: the untracked objects but the frame and the records at ch are kept (the callers' frames up to slots), the frame's map is kept, the new abstract heap is held -/
theorem Inv.step {g' : Array GenState} {t' : Nat} {d' : Drawn} {ch : List Addr} (I : Inv X pins σ H s)
    (hch : ∀ b ∈ ch, (b ∈ X.ex ∨ X.s₀.heap.objs.size ≤ b) ∧ b ≠ X.env.locals ∧ (∀ x c, X.env.cells.lookup x = some c → c ≠ b) ∧ ∀ p ∈ X.pn ++ pins, p.1 ≠ b)
    (keep : ∀ b o, b ≠ X.env.locals → b ∉ X.fs → b ∉ ch → s.heap.get? b = some o → H b = none → h'.get? b = some o)
    (slot : ∀ b o, b ≠ X.env.locals → b ∈ X.fs → b ∉ ch → s.heap.get? b = some o → H b = none → ∃ sl, h'.get? b = some { o with slots := sl }) (free : ∀ b o, b ∉ ch → s.heap.get? b = some o → H b = none → H' b = none)
    (there : ∀ b o, b ∉ ch → s.heap.get? b = some o → ∃ o', h'.get? b = some o')
    (tups : ∀ b xs, H b = some (.tup xs) → H' b = some (.tup xs)) (frzs : ∀ b o u, H b = some (.frz o u) → H' b = some (.frz o u)) (tbls : ∀ b ps, H b = some (.tbl ps) → ∃ more, H' b = some (.tbl (ps ++ more)))
    (ns : ∀ m, s.heap.Ns X.env.locals m → h'.Ns X.env.locals m) (hok : HOk X.prog X.w H' h') (hg : AllBare g') :
    Inv X pins σ H' { s with heap := h', gens := g', drawn := d', toks := t' } := by
  have neL : ∀ b o, X.s₀.heap.get? b = some o → b ≠ X.env.locals := fun b o e => Nat.ne_of_lt (Nat.lt_of_lt_of_le (Heap.lt_size e) I.ok.above)
  have neC : ∀ b o, X.s₀.heap.get? b = some o → b ∉ X.ex → b ∉ ch := fun b o e hx hb => by
    rcases (hch b hb).1 with z | z
    · exact hx z
    · exact absurd (Nat.lt_of_lt_of_le (Heap.lt_size e) z) (Nat.lt_irrefl _)
  have cellK : ∀ x c, X.env.cells.lookup x = some c → ∀ v, s.heap.IsCell c v → h'.IsCell c v := fun x c e v ⟨o, ho, hd⟩ => by
    have nch : c ∉ ch := fun z => (hch c z).2.2.1 x c e rfl
    by_cases hc : c ∈ X.fs
    · obtain ⟨sl, q⟩ := slot c o (I.cne x c e) hc nch ho (I.freeC x c e)
      exact ⟨_, q, hd⟩
    · exact ⟨o, keep c o (I.cne x c e) hc nch ho (I.freeC x c e), hd⟩
  refine ⟨I.ok, I.os, hg, ⟨fun b o e n hb hx => ?_, fun b o e n hb hx => ?_, fun b o e n hx => ?_, fun b o e hx => ?_, fun b xs e => tups b xs (I.base.tups b xs e), fun b o xs e => frzs b o xs (I.base.frzs b o xs e), fun b ps e => ?_⟩, ?_, fun x c e => ?_, ?_, fun x c e => ?_, fun p hp => ?_, hok, I.len⟩
  · exact keep b o (neL b o e) hb (neC b o e hx) (I.base.keep b o e n hb hx) (I.base.free b o e n hx)
  · obtain ⟨sl, e1⟩ := I.base.slot b o e n hb hx
    obtain ⟨sl', e2⟩ := slot b _ (neL b o e) hb (neC b o e hx) e1 (I.base.free b o e n hx)
    exact ⟨sl', e2⟩
  · obtain ⟨o', e1⟩ := I.base.there b o e hx
    exact free b o' (neC b o e hx) e1 (I.base.free b o e n hx)
  · obtain ⟨o', e1⟩ := I.base.there b o e hx
    exact there b o' (neC b o e hx) e1
  · obtain ⟨m1, e1⟩ := I.base.tbls b ps e
    obtain ⟨m2, e2⟩ := tbls b _ e1
    exact ⟨m1 ++ m2, by rw [e2, Array.append_assoc]⟩
  · obtain ⟨m, hn, hl⟩ := I.loc
    refine ⟨m, ns m hn, fun i x v e1 e2 e3 => ?_⟩
    obtain ⟨u, r, l⟩ := hl i x v e1 e2 e3
    refine ⟨u, r, ?_⟩
    rcases l with l | ⟨k, c, e, z⟩
    · exact .inl l
    · exact .inr ⟨k, c, e, cellK x c e _ z⟩
  · obtain ⟨v, z⟩ := I.cell x c e
    exact ⟨v, cellK x c e v z⟩
  · obtain ⟨m, ⟨o, _, _, ho, _⟩, _⟩ := I.loc
    exact free _ o (fun z => (hch _ z).2.1 rfl) ho I.free
  · obtain ⟨v, o, ho, hd⟩ := I.cell x c e
    exact free c o (fun z => (hch c z).2.2.1 x c e rfl) ho (I.freeC x c e)
  · obtain ⟨e, n, ne, nf, d⟩ := I.pin p hp
    have nch : p.1 ∉ ch := fun z => (hch p.1 z).2.2.2 p hp rfl
    exact ⟨keep p.1 p.2 ne nf nch e n, free p.1 p.2 nch e n, ne, nf, d⟩
/-- .. where the frame's own object is kept too -/
theorem Inv.un {t' : Nat} (I : Inv X pins σ H s) (u : Un X.fs [] H H' s.heap h') (hok : HOk X.prog X.w H' h') : Inv X pins σ H' { s with heap := h', toks := t' } := by
  obtain ⟨m, ⟨o, es, ep, ho, r⟩, _⟩ := id I.loc
  obtain ⟨sl, hL⟩ := u.any ho I.free (by simp)
  exact I.step (g' := s.gens) (d' := s.drawn) (ch := []) (fun _ z => nomatch z) (fun b o _ hb _ e n => u.keep b o e n hb (by simp)) (fun b o _ hb _ e n => u.slot b o e n hb (by simp)) (fun b o _ e n => u.free b o e n (by simp)) (fun b o _ e => u.there b o e (by simp)) u.tups u.frzs u.tbls (fun m' hm => by
    obtain ⟨o', es', ep', ho', r'⟩ := hm
    rw [ho] at ho'; cases ho'
    exact ⟨_, es', ep', hL, r'⟩) hok I.bare
/-- behind a call (or a comprehension's block): the slots of this frame may have changed too, the records at ch may have turned -/
theorem Inv.call {g' : Array GenState} {t' : Nat} {d' : Drawn} {ch : List Addr} (I : Inv X pins σ H s) (u : Un (frs X.stack) ch H H' s.heap h') (hok : HOk X.prog X.w H' h') (hg : AllBare g')
    (hch : ∀ b ∈ ch, (b ∈ X.ex ∨ X.s₀.heap.objs.size ≤ b) ∧ b ≠ X.env.locals ∧ (∀ x c, X.env.cells.lookup x = some c → c ≠ b) ∧ ∀ p ∈ X.pn ++ pins, p.1 ≠ b) :
    Inv X pins σ H' { s with heap := h', gens := g', drawn := d', toks := t' } := by
  obtain ⟨m, ⟨o, es, ep, ho, r⟩, _⟩ := id I.loc
  obtain ⟨sl, hL⟩ := u.any ho I.free fun z => (hch _ z).2.1 rfl
  exact I.step (ch := ch) hch (fun b o hL hb hc e n => u.keep b o e n (fun z => (List.mem_cons.mp (I.stkSub b z)).elim hL hb) hc) (fun b o _ _ hc e n => u.any e n hc) (fun b o hc e n => u.free b o e n hc) (fun b o hc e => u.there b o e hc) u.tups u.frzs u.tbls (fun m' hm => by
    obtain ⟨o', es', ep', ho', r'⟩ := hm
    rw [ho] at ho'; cases ho'
    exact ⟨_, es', ep', hL, r'⟩) hok hg
/-- an untracked record of ours (an iterator) has turned -/
theorem Inv.turned {t' : Nat} {it : Addr} (I : Inv X pins σ H s) (k : ∀ b o, b ≠ it → s.heap.get? b = some o → h'.get? b = some o) (hn : H it = none) (hL : it ≠ X.env.locals)
    (h1 : it ∈ X.ex ∨ X.s₀.heap.objs.size ≤ it) (h2 : ∀ x c, X.env.cells.lookup x = some c → c ≠ it) (h3 : ∀ p ∈ X.pn ++ pins, p.1 ≠ it) : Inv X pins σ H { s with heap := h', toks := t' } := by
  have nit : ∀ b u, H b = some u → b ≠ it := fun b u e z => by rw [z, hn] at e; cases e
  refine I.step (g' := s.gens) (d' := s.drawn) (ch := [it]) (fun b hb => ?_) (fun b o _ _ hc e _ => k b o (fun z => hc (by simp [z])) e) (fun b o _ _ hc e _ => ⟨o.slots, k b o (fun z => hc (by simp [z])) e⟩) (fun _ _ _ _ n => n)
    (fun b o hc e => ⟨o, k b o (fun z => hc (by simp [z])) e⟩) (fun _ _ e => e) (fun _ _ _ e => e) (fun b ps e => ⟨#[], by rw [e]; simp⟩) (fun m hm => ?_) (fun b u e => ?_) I.bare
  · have e : b = it := by simpa using hb
    subst e
    exact ⟨h1, hL, h2, h3⟩
  · obtain ⟨o, es, ep, ho, r⟩ := hm
    exact ⟨o, es, ep, k _ o (Ne.symm hL) ho, r⟩
  · refine (I.hok b u e).stay (fun c v hc q => k c v ?_ q) (fun _ q => q) fun _ _ q => q
    rcases hc with z | z
    · rw [z]; exact nit b u e
    · exact nit c _ z
theorem Inv.tok (I : Inv X pins σ H s) (t : Nat) : Inv X pins σ H { s with toks := t } := I.un (h' := s.heap) (t' := t) Un.refl I.hok
/-- all objects kept -/
theorem Inv.kept {t' : Nat} (I : Inv X pins σ H s) (k : ∀ b u, s.heap.get? b = some u → h'.get? b = some u) : Inv X pins σ H { s with heap := h', toks := t' } := I.un (Un.kept k) (I.hok.kept k)
/-- a new object laid and tracked -/
theorem Inv.laid {a : Addr} {o : HO} {t' : Nat} (I : Inv X pins σ H s) (k : ∀ b u, s.heap.get? b = some u → h'.get? b = some u) (hp : s.heap.objs.size ≤ a) (new : ObjOk X.prog X.w (upd H a o) h' a o) :
    Inv X pins σ (upd H a o) { s with heap := h', toks := t' } := I.un (Un.laid k hp (I.hok.fresh hp)) (I.hok.laid k hp new)
/-- an object written -/
theorem Inv.write {x e : Addr} {o : HO} {t' : Nat} (I : Inv X pins σ H s) (mu : Mut (H x)) (he : e = x ∨ H e = some (.own x)) (k : ∀ b u, b ≠ e → s.heap.get? b = some u → h'.get? b = some u) (heo : ∃ u, h'.get? e = some u)
    (new : ObjOk X.prog X.w (upd H x o) h' x o) : Inv X pins σ (upd H x o) { s with heap := h', toks := t' } := I.un (Un.write mu he k heo) (I.hok.write mu he k heo new)
theorem Inv.pins_of {pins' : List (Addr × Obj)} (I : Inv X pins σ H s) (h : ∀ p ∈ pins', s.heap.get? p.1 = some p.2 ∧ H p.1 = none ∧ p.1 ≠ X.env.locals ∧ p.1 ∉ X.fs ∧ ∀ v, p.2.data ≠ .cell v) : Inv X pins' σ H s :=
  ⟨I.ok, I.os, I.bare, I.base, I.loc, I.cell, I.free, I.freeC, fun p hp => (List.mem_append.mp hp).elim (fun z => I.pin p (List.mem_append_left _ z)) (h p), I.hok, I.len⟩

theorem nodup_ix {N : List Str} (hN : N.Nodup) {i j : Nat} {x : Str} (a : N[i]? = some x) (b : N[j]? = some x) : i = j := by
  obtain ⟨h1, e1⟩ := List.getElem?_eq_some_iff.mp a
  obtain ⟨h2, e2⟩ := List.getElem?_eq_some_iff.mp b
  exact (List.getElem_inj hN).mp (e1.trans e2.symm)

/-- a name is stored; what changed -/
theorem store_ok2 {M : Model} {A : Around} {E : Value → Shared → Prop} {i : Nat} {x : Str} {v : V} {u : Value} {Q : Unit → Shared → Prop} (I : Inv X pins σ H s) (hN : X.N.Nodup) (hi : X.N[i]? = some x) (hx : Loc X.env.scope x) (r : RelV v u)
    (h : ∀ s', Inv X pins (σ.set i (some v)) H s' → (∃ a, Heap.SameBut a s.heap s'.heap ∧ (a = X.env.locals ∨ X.env.cells.lookup x = some a)) → Q () s') (hf : X.fn x = true ∨ X.env.scope.names.lookup x = some .local := by first | exact .inl rfl | exact .inr rfl | assumption) : wpAny M A (storeName X.env x u) Q E s := by
  obtain ⟨m, hn, hl⟩ := id I.loc
  have hcls : (X.env.scope.kind == .class || (X.env.scope.kind == .module && X.env.locals != X.env.globals)) = false := by rw [I.ok.kind]; rfl
  have hiσ : i < σ.length := by rw [I.len]; exact (List.getElem?_eq_some_iff.mp hi).1
  have cne := I.cne
  have tracked : ∀ {a : Addr} {h' : Heap}, (∃ o, s.heap.get? a = some o ∧ H a = none) → Heap.SameBut a s.heap h' → HOk X.prog X.w H h' := fun {a h'} ha hs b ob e => by
    obtain ⟨_, _, hfree⟩ := ha
    refine (I.hok b ob e).stay (fun c w' hc q => (hs.2 c ?_).trans q) (fun _ q => q) fun _ _ q => q
    rintro rfl
    rcases hc with rfl | hc
    · rw [hfree] at e; cases e
    · rw [hfree] at hc; cases hc
  rcases hx with hk | hk
  · refine wpAny_storeName_local hk hn (fun h' hn' hs => ?_) hcls
    obtain ⟨oL, _, _, hoL, _⟩ := id hn
    refine h _ ⟨I.ok, I.os, I.bare, ⟨fun b o e n hb hx => ?_, fun b o e n hb hx => ?_, I.base.free, fun b o e hx => ?_, I.base.tups, I.base.frzs, I.base.tbls⟩, ⟨_, hn', fun j y v' e1 e2 e3 => ?_⟩, fun y c e => ?_, I.free, I.freeC, fun p hp => ?_, tracked ⟨oL, hoL, I.free⟩ hs, by simpa using I.len⟩ ⟨_, hs, .inl rfl⟩
    · exact (hs.2 b (Nat.ne_of_lt (Nat.lt_of_lt_of_le (Heap.lt_size e) I.ok.above))).trans (I.base.keep b o e n hb hx)
    · obtain ⟨sl, e1⟩ := I.base.slot b o e n hb hx
      exact ⟨sl, (hs.2 b (Nat.ne_of_lt (Nat.lt_of_lt_of_le (Heap.lt_size e) I.ok.above))).trans e1⟩
    · obtain ⟨o', e1⟩ := I.base.there b o e hx
      exact ⟨o', (hs.2 b (Nat.ne_of_lt (Nat.lt_of_lt_of_le (Heap.lt_size e) I.ok.above))).trans e1⟩
    · by_cases hj : j = i
      · subst hj
        rw [hi] at e1; cases e1
        rw [List.getElem?_set_self hiσ] at e2
        cases e2
        exact ⟨u, r, .inl ⟨hk, by simp⟩⟩
      · rw [List.getElem?_set_ne (Ne.symm hj)] at e2
        obtain ⟨u', r', q⟩ := hl j y v' e1 e2 e3
        refine ⟨u', r', ?_⟩
        rcases q with ⟨k, e⟩ | ⟨k, c, e, z⟩
        · refine .inl ⟨k, ?_⟩
          have : y ≠ x := fun e => hj (nodup_ix hN e1 (e ▸ hi))
          simp [this, e]
        · exact .inr ⟨k, c, e, z.sameBut hs (cne y c e)⟩
    · obtain ⟨w', z⟩ := I.cell y c e
      exact ⟨w', z.sameBut hs (cne y c e)⟩
    · obtain ⟨e, n, ne, nf, d⟩ := I.pin p hp
      exact ⟨(hs.2 p.1 ne).trans e, n, ne, nf, d⟩
  · have hfn : X.fn x = true := by
      rcases hf with z | z
      · exact z
      · rw [z] at hk; cases hk
    obtain ⟨c, hc⟩ := I.ok.has x (.inl hk)
    obtain ⟨w', z⟩ := I.cell x c hc
    refine wpAny_storeName_cell I.ok.kind hk hc z (fun h' hc' hs => ?_)
    obtain ⟨oc, hoc, hocd⟩ := id z
    refine h { s with heap := h' } ⟨I.ok, I.os, I.bare, ⟨fun b o e n hb hx => ?_, fun b o e n hb hx => ?_, I.base.free, fun b o e hx => ?_, I.base.tups, I.base.frzs, I.base.tbls⟩, ⟨m, hn.sameBut hs (Ne.symm (cne x c hc)), fun j y v' e1 e2 e3 => ?_⟩, fun y c' e => ?_, I.free, I.freeC, fun p hp => ?_, tracked ⟨oc, hoc, I.freeC x c hc⟩ hs, by simpa using I.len⟩ ⟨c, hs, .inr hc⟩
    · exact (hs.2 b (Nat.ne_of_lt (Nat.lt_of_lt_of_le (Heap.lt_size e) (I.ok.cab x c hfn hc)))).trans (I.base.keep b o e n hb hx)
    · obtain ⟨sl, e1⟩ := I.base.slot b o e n hb hx
      exact ⟨sl, (hs.2 b (Nat.ne_of_lt (Nat.lt_of_lt_of_le (Heap.lt_size e) (I.ok.cab x c hfn hc)))).trans e1⟩
    · obtain ⟨o', e1⟩ := I.base.there b o e hx
      exact ⟨o', (hs.2 b (Nat.ne_of_lt (Nat.lt_of_lt_of_le (Heap.lt_size e) (I.ok.cab x c hfn hc)))).trans e1⟩
    · by_cases hj : j = i
      · subst hj
        rw [hi] at e1; cases e1
        rw [List.getElem?_set_self hiσ] at e2
        cases e2
        exact ⟨u, r, .inr ⟨.inl hk, c, hc, hc'⟩⟩
      · rw [List.getElem?_set_ne (Ne.symm hj)] at e2
        obtain ⟨u', r', q⟩ := hl j y v' e1 e2 e3
        refine ⟨u', r', ?_⟩
        rcases q with q | ⟨k, c', e, z'⟩
        · exact .inl q
        · refine .inr ⟨k, c', e, z'.sameBut hs ?_⟩
          rintro rfl
          exact hj (nodup_ix hN e1 (I.ok.inj _ _ _ e hc ▸ hi))
    · by_cases hcc : c' = c
      · subst hcc; exact ⟨_, hc'⟩
      · obtain ⟨w2, z2⟩ := I.cell y c' e
        exact ⟨w2, z2.sameBut hs hcc⟩
    · obtain ⟨e, n, ne, nf, d⟩ := I.pin p hp
      refine ⟨(hs.2 p.1 ?_).trans e, n, ne, nf, d⟩
      intro q
      rw [q, hoc] at e
      have q' : oc = p.2 := Option.some.inj e
      exact d w' (by rw [← q']; exact hocd)
theorem store_ok {M : Model} {A : Around} {E : Value → Shared → Prop} {i : Nat} {x : Str} {v : V} {u : Value} {Q : Unit → Shared → Prop} (I : Inv X pins σ H s) (hN : X.N.Nodup) (hi : X.N[i]? = some x) (hx : Loc X.env.scope x) (r : RelV v u)
    (h : ∀ s', Inv X pins (σ.set i (some v)) H s' → Q () s') (hf : X.fn x = true ∨ X.env.scope.names.lookup x = some .local := by first | exact .inl rfl | exact .inr rfl | assumption) : wpAny M A (storeName X.env x u) Q E s :=
  store_ok2 I hN hi hx r (fun s' I' _ => h s' I') hf
/-- behind a call or a block, the state as it is -/
theorem Inv.call' {s' : Shared} {ch : List Addr} (I : Inv X pins σ H s) (ho : s'.os = s.os) (u : Un (frs X.stack) ch H H' s.heap s'.heap) (hok : HOk X.prog X.w H' s'.heap) (hg : AllBare s'.gens)
    (hch : ∀ b ∈ ch, (b ∈ X.ex ∨ X.s₀.heap.objs.size ≤ b) ∧ b ≠ X.env.locals ∧ (∀ x c, X.env.cells.lookup x = some c → c ≠ b) ∧ ∀ p ∈ X.pn ++ pins, p.1 ≠ b) : Inv X pins σ H' s' := by
  obtain ⟨h', g', d', t', o'⟩ := s'
  have e : o' = s.os := ho
  subst e
  exact I.call (g' := g') (t' := t') (d' := d') u hok hg hch
end

/-! ### the judgements -/
/-- an exception: its class, its own dict's address (where it has one), the abstract heap behind it -/
noncomputable abbrev XK := Value → Option Addr → Hp → Prop
noncomputable abbrev St := List (Option V)
noncomputable abbrev VK := V → Hp → Prop
/-- an expression's reading; a test's; an argument list's -/
noncomputable abbrev TE := St → Hp → VK → Prop
noncomputable abbrev TT := St → Hp → (Bool → Hp → Prop) → Prop
noncomputable abbrev TA := St → Hp → (List V → Hp → Prop) → Prop
/-- what is wanted behind a statement -/
structure Ends where
  nx : St → Hp → Prop
  rt : VK
  bk : St → Hp → Prop := fun _ _ => False
  ct : St → Hp → Prop := fun _ _ => False
noncomputable abbrev TS := Ends → St → Hp → Prop

noncomputable def EP (X : Cx) (pins : List (Addr × Obj)) (σ : St) (Q : VK) (u : Value) (s' : Shared) : Prop := ∃ v H', Inv X pins σ H' s' ∧ RelV v u ∧ Q v H'
noncomputable def TP (X : Cx) (pins : List (Addr × Obj)) (σ : St) (Q : Bool → Hp → Prop) (b : Bool) (s' : Shared) : Prop := ∃ H', Inv X pins σ H' s' ∧ Q b H'
noncomputable def AP (X : Cx) (pins : List (Addr × Obj)) (σ : St) (Q : List V → Hp → Prop) (us : List Value) (s' : Shared) : Prop := ∃ vs H', Inv X pins σ H' s' ∧ Vals vs us ∧ Q vs H'
noncomputable def SP (X : Cx) (pins : List (Addr × Obj)) (D : Ends) (f : Flow) (s' : Shared) : Prop :=
  match f with
  | .next => ∃ σ' H', Inv X pins σ' H' s' ∧ D.nx σ' H'
  | .brk => ∃ σ' H', Inv X pins σ' H' s' ∧ D.bk σ' H'
  | .cont => ∃ σ' H', Inv X pins σ' H' s' ∧ D.ct σ' H'
  | .ret u => ∃ v σ' H', Inv X pins σ' H' s' ∧ RelV v u ∧ D.rt v H'

noncomputable def PE (X : Cx) (e : Expr) (t : TE) : Prop :=
  ∀ (pins : List (Addr × Obj)) (s : Shared) (σ : St) (H : Hp) (Q : VK), Inv X pins σ H s → t σ H Q → wpAny (model X.prog X.w) X.A (eval e X.env) (EP X pins σ Q) X.xe s
noncomputable def PT (X : Cx) (e : Expr) (t : TT) : Prop :=
  ∀ (pins : List (Addr × Obj)) (s : Shared) (σ : St) (H : Hp) (Q : Bool → Hp → Prop), Inv X pins σ H s → t σ H Q → wpAny (model X.prog X.w) X.A (isTrue e X.env (eval e X.env)) (TP X pins σ Q) X.xe s
/-- a test whatever its 'whole' is (and, or) -/
noncomputable def PW (X : Cx) (e : Expr) (t : TT) : Prop :=
  ∀ (whole : Sem Value) (pins : List (Addr × Obj)) (s : Shared) (σ : St) (H : Hp) (Q : Bool → Hp → Prop), Inv X pins σ H s → t σ H Q → wpAny (model X.prog X.w) X.A (isTrue e X.env whole) (TP X pins σ Q) X.xe s
theorem PW.pt {X : Cx} {e : Expr} {t : TT} (h : PW X e t) : PT X e t := h _
/-- an argument list (no star), from the left -/
noncomputable def PA (X : Cx) (es : List Expr) (t : TA) : Prop :=
  ∀ (pos : Pos) (pins : List (Addr × Obj)) (s : Shared) (σ : St) (H : Hp) (Q : List V → Hp → Prop), Inv X pins σ H s → t σ H Q → wpAny (model X.prog X.w) X.A (spliced (backTo pos (starEach es X.env))) (AP X pins σ Q) X.xe s
noncomputable def PS (X : Cx) (st : Stmt) (t : TS) : Prop :=
  ∀ (pins : List (Addr × Obj)) (s : Shared) (σ : St) (H : Hp) (D : Ends), Inv X pins σ H s → t D σ H → wpAny (model X.prog X.w) X.A (exec st X.env) (SP X pins D) X.xe s
noncomputable def PSs (X : Cx) (st : List Stmt) (t : TS) : Prop :=
  ∀ (pins : List (Addr × Obj)) (s : Shared) (σ : St) (H : Hp) (D : Ends), Inv X pins σ H s → t D σ H → wpAny (model X.prog X.w) X.A (execs st X.env) (SP X pins D) X.xe s
/-- weaken the end -/
theorem thn {α : Type} {t : Sem α} {Q Q' : α → Shared → Prop} {M : Model} {A : Around} {E : Value → Shared → Prop} {s : Shared} (h : wpAny M A t Q E s) (hQ : ∀ a s, Q a s → Q' a s) : wpAny M A t Q' E s := wpAny_mono h hQ fun _ _ x => x
end L2

namespace L2
open PySem PySem.Spec PyProof.Rows
section
variable {X : Cx}

/-! ### names and constants -/
noncomputable def tVar (i : Nat) : TE := fun σ H Q => ∃ v, σ[i]? = some (some v) ∧ Q v H
noncomputable def tC (v : V) : TE := fun _ H Q => Q v H
theorem pe_var {i : Nat} {x : Str} {pos : Pos} (hN : X.N[i]? = some x) (hv : Vis X.env.scope x) (hd : (x == ("__debug__" : Str)) = false := by decide) (hcd : (x == ("__classdict__" : Str)) = false := by decide) : PE X (.Name x pos) (tVar i) := by
  intro pins s σ H Q I h
  obtain ⟨v, e, h⟩ := h
  obtain ⟨m, hn, hl⟩ := I.loc
  obtain ⟨u, r, l⟩ := hl i x v hN e hv
  have fin : EP X pins σ Q u s := ⟨v, H, I, r, h⟩
  rcases l with ⟨hk, hm⟩ | ⟨hk, c, hc, hcell⟩
  · exact wpAny_Name (wpAny_loadName_local I.ok.kind hk hn hm fin) hd
  · rcases hk with hk | hk
    · exact wpAny_Name (wpAny_loadName_cell I.ok.kind hk hc hcell fin) hd
    · exact wpAny_Name (wpAny_loadName_free I.ok.kind hk hc hcell fin hcd) hd
theorem pe_int {i j pos} : PE X (.Constant (.int i) j pos) (tC (.int i)) := fun _ _ _ H _ I h => wpAny_Constant_int ⟨.int i, H, I.tok _, ⟨_, rfl⟩, h⟩
theorem pe_bl {b j pos} : PE X (.Constant (.bool b) j pos) (tC (.bl b)) := fun _ _ _ H _ I h => Constant_bool ⟨.bl b, H, I, rfl, h⟩
theorem pe_non {j pos} : PE X (.Constant .none j pos) (tC .non) := fun _ _ _ H _ I h => Constant_none ⟨.non, H, I, rfl, h⟩
theorem pe_str {x j pos} : PE X (.Constant (.str x) j pos) (tC (.str x)) := fun _ _ _ H _ I h => Calls.Constant_str ⟨.str x, H, I.tok _, ⟨_, rfl⟩, h⟩

/-- a global name of the def -/
noncomputable def Gl (X : Cx) (x : Str) : Prop := X.env.kindOf x = some .globalImplicit
theorem ld_glob {E : Value → Shared → Prop} {pins : List (Addr × Obj)} {s : Shared} {σ : St} {H : Hp} {x : Str} {u : Value} {pos : Pos} {Q : Value → Shared → Prop} (I : Inv X pins σ H s) (hg : Gl X x) (hm : X.mg x = some u) (h : Q u s)
    (hd : (x == ("__debug__" : Str)) = false := by decide) : wpAny (model X.prog X.w) X.A (eval (.Name x pos) X.env) Q E s :=
  Calls.Name_function_global I.ok.kind hg (Calls.loadGlobal_global (by rw [I.ok.glob]; exact I.mod.glob.keeps I.bk) hm h) hd
theorem ld_blt {E : Value → Shared → Prop} {pins : List (Addr × Obj)} {s : Shared} {σ : St} {H : Hp} {x : Str} {u : Value} {pos : Pos} {Q : Value → Shared → Prop} (I : Inv X pins σ H s) (hg : Gl X x) (hm : X.mg x = none) (hv : bootBuiltins x = some u) (h : Q u s)
    (hn : x ≠ "__name__" := by decide) (hd : (x == ("__debug__" : Str)) = false := by decide) : wpAny (model X.prog X.w) X.A (eval (.Name x pos) X.env) Q E s := by
  obtain ⟨mb, h1, h2⟩ := I.mod.blt
  exact Calls.Name_function_global I.ok.kind hg (Calls.loadGlobal_builtin (by rw [I.ok.glob]; exact I.mod.glob.keeps I.bk) hm (by rw [I.ok.blt]; exact h1.keeps I.bk) ((h2 x hn).trans hv) h) hd
/-- a module's constant, a class, a function, as a value -/
theorem pe_glob {x : Str} {v : V} {u : Value} {pos : Pos} (hg : Gl X x) (hm : X.mg x = some u) (r : RelV v u) (hd : (x == ("__debug__" : Str)) = false := by decide) : PE X (.Name x pos) (tC v) :=
  fun _ _ _ H _ I h => ld_glob I hg hm ⟨v, H, I, r, h⟩ hd
theorem pe_bltn {x : Str} {v : V} {u : Value} {pos : Pos} (hg : Gl X x) (hm : X.mg x = none) (hv : bootBuiltins x = some u) (r : RelV v u) (hn : x ≠ "__name__" := by decide) (hd : (x == ("__debug__" : Str)) = false := by decide) : PE X (.Name x pos) (tC v) :=
  fun _ _ _ H _ I h => ld_blt I hg hm hv ⟨v, H, I, r, h⟩ hn hd

/-! ### arithmetic -/
variable {a b : Expr} {ta tb : TE} {pos : Pos}
/-! ### comparisons -/
noncomputable def PC (X : Cx) (op : CmpOp) (a b : Expr) (t : TE) : Prop :=
  ∀ (pins : List (Addr × Obj)) (s : Shared) (σ : St) (H : Hp) (Q : VK), Inv X pins σ H s → t σ H Q →
    wpAny (model X.prog X.w) X.A (eval a X.env) (fun v s₁ => wpAny (model X.prog X.w) X.A (eval b X.env) (fun u s₂ => wpAny (model X.prog X.w) X.A (compareOp op v u) (EP X pins σ Q) X.xe s₂) X.xe s₁) X.xe s
/-- a comparison as a value, as a test -/
noncomputable def tB (t : TE) : TT := fun σ H Q => t σ H fun x H1 => ∃ c, x = .bl c ∧ Q c H1
theorem pe_cmp {op : CmpOp} {t : TE} (h : PC X op a b t) (h1 : behindInMarks op b = false := by first | exact nobehind _ (by decide) (by decide) | rfl) : PE X (.Compare a [op] [b] pos) t := fun pins s σ H Q I hw => wpAny_Compare1 (h pins s σ H Q I hw) h1
theorem pt_cmp {op : CmpOp} {t : TE} (h : PC X op a b t) (h1 : behindInMarks op b = false := by first | exact nobehind _ (by decide) (by decide) | rfl) : PT X (.Compare a [op] [b] pos) (tB t) := by
  intro pins s σ H Q I hw
  refine wpAny_isTrue_Compare1 (thn (h pins s σ H _ I hw) fun v s1 h1 => thn h1 fun u s2 h2 => thn h2 fun c s3 ⟨x, H1, I1, r1, q1⟩ => ?_) h1
  obtain ⟨d, rfl, q⟩ := q1
  cases r1
  exact wpAny_truthy_bool ⟨H1, I1, q⟩
/-- an expression whose value is a bool, as a test -/
theorem pt_val {e : Expr} {t : TE} (h : PE X e t) (he : ∀ whole, isTrue e X.env whole = (do let v ← whole; standAt e.pos; holding [v] (truthy v)) := by intro _; rfl) : PT X e (tB t) := by
  intro pins s σ H Q I hw
  refine isTrue_plain (thn (h pins s σ H _ I hw) fun v s1 ⟨x, H1, I1, r1, q1⟩ => ?_) (he _)
  obtain ⟨d, rfl, q⟩ := q1
  cases r1
  exact wpAny_truthy_bool ⟨H1, I1, q⟩

/-! ### and, or, not -/
variable {tA tB' : TT} {rest : List Expr}
noncomputable def tAnd (t u : TT) : TT := fun σ H Q => t σ H fun c H1 => if c = true then u σ H1 Q else Q false H1
noncomputable def tOr (t u : TT) : TT := fun σ H Q => t σ H fun c H1 => if c = true then Q true H1 else u σ H1 Q
noncomputable def tNot (t : TT) : TT := fun σ H Q => t σ H fun c H1 => Q (!c) H1
theorem pw_and1 (ha : PT X a tA) : PW X (.BoolOp .And [a] pos) tA := by
  intro wh pins s σ H Q I h
  refine isTrue_and (thn (ha pins s σ H Q I h) fun c s1 e => ?_)
  cases c with
  | true => exact isTrue_and_nil e
  | false => exact e
theorem pw_or1 (ha : PT X a tA) : PW X (.BoolOp .Or [a] pos) tA := by
  intro wh pins s σ H Q I h
  refine isTrue_or (thn (ha pins s σ H Q I h) fun c s1 e => ?_)
  cases c with
  | false => exact isTrue_or_nil e
  | true => exact e
theorem pw_and (ha : PT X a tA) (hb : PW X (.BoolOp .And (b :: rest) pos) tB') : PW X (.BoolOp .And (a :: b :: rest) pos) (tAnd tA tB') := by
  intro wh pins s σ H Q I h
  refine isTrue_and (thn (ha pins s σ H _ I h) fun c s1 ⟨H1, I1, q1⟩ => ?_)
  cases c with
  | true => exact hb wh pins s1 σ H1 Q I1 q1
  | false => exact ⟨H1, I1, q1⟩
theorem pw_or (ha : PT X a tA) (hb : PW X (.BoolOp .Or (b :: rest) pos) tB') : PW X (.BoolOp .Or (a :: b :: rest) pos) (tOr tA tB') := by
  intro wh pins s σ H Q I h
  refine isTrue_or (thn (ha pins s σ H _ I h) fun c s1 ⟨H1, I1, q1⟩ => ?_)
  cases c with
  | true => exact ⟨H1, I1, q1⟩
  | false => exact hb wh pins s1 σ H1 Q I1 q1
theorem pt_not (ha : PT X a tA) : PT X (.UnaryOp .Not a pos) (tNot tA) := by
  intro pins s σ H Q I h
  exact isTrue_not (ha pins s σ H (fun c H1 => Q (!c) H1) I h)
/-- .. as values (bools) -/
noncomputable def tAndV (ta tb : TE) : TE := fun σ H Q => ta σ H fun x H1 => ∃ c, x = .bl c ∧ if c = true then tb σ H1 Q else Q (.bl false) H1
noncomputable def tOrV (ta tb : TE) : TE := fun σ H Q => ta σ H fun x H1 => ∃ c, x = .bl c ∧ if c = true then Q (.bl true) H1 else tb σ H1 Q
theorem pe_one {op} {t : TE} (h : PE X a t) : PE X (.BoolOp op [a] pos) t := fun pins s σ H Q I hw => BoolOp_one (h pins s σ H Q I hw)
theorem pe_and (ha : PE X a ta) (hb : PE X (.BoolOp .And (b :: rest) pos) tb) : PE X (.BoolOp .And (a :: b :: rest) pos) (tAndV ta tb) := by
  intro pins s σ H Q I h
  refine BoolOp_and (thn (ha pins s σ H _ I h) fun v s1 ⟨x, H1, I1, r1, q1⟩ => ?_)
  obtain ⟨c, rfl, q1⟩ := q1
  cases r1
  refine wpAny_truthy_bool ?_
  cases c with
  | true => exact hb pins s1 σ H1 Q I1 q1
  | false => exact ⟨.bl false, H1, I1, rfl, q1⟩
theorem pe_or (ha : PE X a ta) (hb : PE X (.BoolOp .Or (b :: rest) pos) tb) : PE X (.BoolOp .Or (a :: b :: rest) pos) (tOrV ta tb) := by
  intro pins s σ H Q I h
  refine BoolOp_or (thn (ha pins s σ H _ I h) fun v s1 ⟨x, H1, I1, r1, q1⟩ => ?_)
  obtain ⟨c, rfl, q1⟩ := q1
  cases r1
  refine wpAny_truthy_bool ?_
  cases c with
  | false => exact hb pins s1 σ H1 Q I1 q1
  | true => exact ⟨.bl true, H1, I1, rfl, q1⟩
end
end L2

namespace L2
open PySem PySem.Spec PyProof.Rows

/-! ### a list, a tuple that is read: tracked, frozen, or an object of the module -/
noncomputable def SqL (K : PySem.W.Frag) (H : Hp) (a : Addr) (xs : List V) : Prop :=
  Rd H a (.lst xs) ∨
    ∃ (o : Obj) (its : Array Value) (n : Nat), K.lookup a = some o ∧ o.cls = .type "list" ∧ o.dict = none ∧ o.data = .seq its n ∧ its.size ≤ sizeLine ∧ Vals xs its.toList
noncomputable def SqT (K : PySem.W.Frag) (H : Hp) (a : Addr) (xs : List V) : Prop :=
  Rd H a (.tup xs) ∨
    ∃ (o : Obj) (its : Array Value) (n : Nat), K.lookup a = some o ∧ o.cls = .type "tuple" ∧ o.data = .seq its n ∧ its.size ≤ sizeLine ∧ Vals xs its.toList
noncomputable def absV : Value → Option V
  | .none => some .non
  | .bool b => some (.bl b)
  | .int i _ => some (.int i)
  | .str x _ => some (.str x)
  | .bytes b _ => some (.byt b)
  | .float b _ => some (.flt b)
  | .ref a => some (.ref a)
  | .type n => some (.ty n)
  | _ => none
theorem RelV.abs {x : V} {u : Value} (r : RelV x u) : absV u = some x := by
  cases x with
  | non => cases r; rfl
  | bl _ => cases r; rfl
  | int _ => obtain ⟨t, rfl⟩ := r; rfl
  | str _ => obtain ⟨t, rfl⟩ := r; rfl
  | byt _ => obtain ⟨t, rfl⟩ := r; rfl
  | flt _ => obtain ⟨t, rfl⟩ := r; rfl
  | ref _ => cases r; rfl
  | ty _ => cases r; rfl
theorem RelV.inj {x y : V} {u : Value} (r : RelV x u) (q : RelV y u) : x = y := Option.some.inj (r.abs.symm.trans q.abs)
theorem Vals.inj : ∀ {xs ys : List V} {us : List Value}, Vals xs us → Vals ys us → xs = ys
  | _, _, _, .nil, .nil => rfl
  | _, _, _, .cons r t, .cons r' t' => by rw [r.inj r', Vals.inj t t']
section
variable {X : Cx} {pins : List (Addr × Obj)} {σ : St} {H : Hp} {s : Shared} {a : Addr} {xs ys : List V}
theorem SqL.of {K : PySem.W.Frag} (h : H a = some (.lst xs)) : SqL K H a xs := .inl (.inl h)
theorem SqT.of {K : PySem.W.Frag} (h : H a = some (.tup xs)) : SqT K H a xs := .inl (.inl h)
theorem Inv.list (I : Inv X pins σ H s) (h : SqL X.K H a xs) : ∃ its : List Value, Vals xs its ∧ PlainL s.heap a its.toArray ∧ xs.length ≤ sizeLine := by
  rcases h with h | ⟨o, its, n, hk, hc, hd, hs, hz, r⟩
  · obtain ⟨z, its, n, r, e⟩ := h.ok I.hok
    exact ⟨its, r, ⟨_, n, e, rfl, rfl, rfl⟩, z⟩
  · refine ⟨its.toList, r, ⟨o, n, I.kIn a o hk, hc, hd, by simpa using hs⟩, ?_⟩
    have e := r.length
    simp only [Array.length_toList] at e
    omega
theorem Inv.tuple (I : Inv X pins σ H s) (h : SqT X.K H a xs) : ∃ its : List Value, Vals xs its ∧ IsTup s.heap a its.toArray ∧ xs.length ≤ sizeLine := by
  rcases h with h | ⟨o, its, n, hk, hc, hs, hz, r⟩
  · obtain ⟨z, its, r, p⟩ := h.ok I.hok
    exact ⟨its, r, p, z⟩
  · refine ⟨its.toList, r, ⟨o, I.kIn a o hk, hc, n, by simpa using hs⟩, ?_⟩
    have e := r.length
    simp only [Array.length_toList] at e
    omega
theorem Inv.list_inj (I : Inv X pins σ H s) (h : SqL X.K H a xs) (h' : SqL X.K H a ys) : xs = ys := by
  obtain ⟨its, r, ⟨o, n, e, _, _, d⟩, _⟩ := I.list h
  obtain ⟨its', r', ⟨o', n', e', _, _, d'⟩, _⟩ := I.list h'
  rw [e] at e'; cases e'
  rw [d] at d'
  injection d' with d1 _
  have : its = its' := by simpa using congrArg Array.toList d1
  subst this
  exact r.inj r'
theorem Inv.tuple_inj (I : Inv X pins σ H s) (h : SqT X.K H a xs) (h' : SqT X.K H a ys) : xs = ys := by
  obtain ⟨its, r, ⟨o, e, _, n, d⟩, _⟩ := I.tuple h
  obtain ⟨its', r', ⟨o', e', _, n', d'⟩, _⟩ := I.tuple h'
  rw [e] at e'; cases e'
  rw [d] at d'
  injection d' with d1 _
  have : its = its' := by simpa using congrArg Array.toList d1
  subst this
  exact r.inj r'
end

/-! ### another wish about exceptions -/
noncomputable abbrev Cx.wish (X : Cx) (E : Value → Shared → Prop) : Cx := { X with xe := E }
/-- no exception leaves -/
noncomputable abbrev Cx.nox (X : Cx) : Cx := X.wish fun _ _ => False
theorem Cx.Ok.wish {X : Cx} (ok : X.Ok) (E : Value → Shared → Prop) : (X.wish E).Ok :=
  ⟨ok.mod, ok.kind, ok.glob, ok.blt, ok.above, ok.inj, ok.has, ok.cab, ok.hd, ok.frames, ok.stk, ok.exf, ok.bs, ok.bsz, ok.noex, ok.exfs, ok.funs, ok.frf⟩
theorem Cx.Ok.unwish {X : Cx} {E : Value → Shared → Prop} (ok : (X.wish E).Ok) : X.Ok :=
  ⟨ok.mod, ok.kind, ok.glob, ok.blt, ok.above, ok.inj, ok.has, ok.cab, ok.hd, ok.frames, ok.stk, ok.exf, ok.bs, ok.bsz, ok.noex, ok.exfs, ok.funs, ok.frf⟩
section
variable {X : Cx} {pins : List (Addr × Obj)} {σ : St} {H : Hp} {s : Shared} {E : Value → Shared → Prop}
theorem Inv.wish (I : Inv X pins σ H s) (E : Value → Shared → Prop) : Inv (X.wish E) pins σ H s := ⟨I.ok.wish E, I.os, I.bare, I.base, I.loc, I.cell, I.free, I.freeC, I.pin, I.hok, I.len⟩
theorem Inv.unwish (I : Inv (X.wish E) pins σ H s) : Inv X pins σ H s := ⟨I.ok.unwish, I.os, I.bare, I.base, I.loc, I.cell, I.free, I.freeC, I.pin, I.hok, I.len⟩
theorem SP.unwish {D : Ends} {f : Flow} {s' : Shared} (h : SP (X.wish E) pins D f s') : SP X pins D f s' := by
  cases f with
  | next => obtain ⟨σ', H', I, q⟩ := h; exact ⟨σ', H', I.unwish, q⟩
  | brk => obtain ⟨σ', H', I, q⟩ := h; exact ⟨σ', H', I.unwish, q⟩
  | cont => obtain ⟨σ', H', I, q⟩ := h; exact ⟨σ', H', I.unwish, q⟩
  | ret u => obtain ⟨v, σ', H', I, r, q⟩ := h; exact ⟨v, σ', H', I.unwish, r, q⟩
theorem PSs.nox {st : List Stmt} {t : TS} (h : PSs X.nox st t) : PSs X st t := fun pins s σ H D I hw =>
  wpAny_mono (h pins s σ H D (I.wish _) hw) (fun _ _ q => q.unwish) fun _ _ z => False.elim z
end

/-! ### blocks and small statements -/
section
variable {X : Cx} {st : Stmt} {rest : List Stmt} {t u : TS} {e : Expr} {te : TE} {pos : Pos}
noncomputable def tNext : TS := fun D σ H => D.nx σ H
noncomputable def tSeq (t u : TS) : TS := fun D σ H => t { D with nx := u D } σ H
theorem pss_nil : PSs X [] tNext := fun _ _ σ H _ I h => wpAny_execs_nil ⟨σ, H, I, h⟩
theorem pss_cons (h1 : PS X st t) (h2 : PSs X rest u) : PSs X (st :: rest) (tSeq t u) := by
  intro pins s σ H D I h
  refine wpAny_execs_cons (thn (h1 pins s σ H { D with nx := u D } I h) fun f s1 q => ?_)
  cases f with
  | next =>
    obtain ⟨σ', H', I', q⟩ := q
    exact h2 pins s1 σ' H' D I' q
  | ret v => exact q
  | brk => exact q
  | cont => exact q
theorem pss_one (h1 : PS X st t) : PSs X [st] t := by
  intro pins s σ H D I h
  refine wpAny_execs_cons (thn (h1 pins s σ H D I h) fun f s1 q => ?_)
  cases f with
  | next => exact wpAny_execs_nil q
  | ret v => exact q
  | brk => exact q
  | cont => exact q
/-- in a def's body nothing is shown -/
theorem Inv.quiet {pins : List (Addr × Obj)} {σ : St} {H : Hp} {s : Shared} (I : Inv X pins σ H s) : interactive X.env = false := by simp [interactive, I.ok.kind]
/-- an expression whose value is dropped -/
noncomputable def tDrop (te : TE) : TS := fun D σ H => te σ H fun _ H1 => D.nx σ H1
theorem ps_expr (he : PE X e te) (hs : swapsWith e none pos.line X.env = pure false := by rfl) : PS X (.Expr e pos) (tDrop te) := by
  intro pins s σ H D I h
  exact wpAny_Expr_any (thn (he pins s σ H _ I h) fun v s1 ⟨x, H1, I1, r1, q1⟩ => ⟨σ, H1, I1, q1⟩) I.quiet hs
noncomputable def tRet (te : TE) : TS := fun D σ H => te σ H D.rt
theorem ps_ret (he : PE X e te) : PS X (.Return (some e) pos) (tRet te) := by
  intro pins s σ H D I h
  exact wpAny_Return_some (thn (he pins s σ H _ I h) fun v s1 ⟨x, H1, I1, r1, q1⟩ => ⟨x, σ, H1, I1, r1, q1⟩)
noncomputable def tIfS (c : TT) (t u : TS) : TS := fun D σ H => c σ H fun b H1 => if b = true then t D σ H1 else u D σ H1
theorem ps_if {c : Expr} {a b : List Stmt} {tc : TT} (hc : PT X c tc) (ha : PSs X a t) (hb : PSs X b u) : PS X (.If c a b pos) (tIfS tc t u) := by
  intro pins s σ H D I h
  refine wpAny_If (thn (hc pins s σ H _ I h) fun d s1 ⟨H1, I1, q1⟩ => ?_)
  cases d with
  | true => exact ha pins s1 σ H1 D I1 q1
  | false => exact hb pins s1 σ H1 D I1 q1
/-- code that the proof never comes to -/
noncomputable def tNever : TS := fun _ _ _ => False
theorem pss_never {sts : List Stmt} : PSs X sts tNever := fun _ _ _ _ _ _ h => h.elim
end

/-! ### targets -/
noncomputable abbrev TG := V → St → Hp → (St → Hp → Prop) → Prop
noncomputable abbrev TGs := List V → St → Hp → (St → Hp → Prop) → Prop
noncomputable def PG (X : Cx) (target : Expr) (t : TG) : Prop :=
  ∀ (pins : List (Addr × Obj)) (s : Shared) (σ : St) (H : Hp) (v : V) (u : Value) (Q : St → Hp → Prop), Inv X pins σ H s → RelV v u → t v σ H Q →
    wpAny (model X.prog X.w) X.A (assign target X.env u) (fun _ s' => ∃ σ' H', Inv X pins σ' H' s' ∧ Q σ' H') X.xe s
/-- several targets, one after another -/
noncomputable def PGs (X : Cx) (ts : List Expr) (t : TGs) : Prop :=
  ∀ (pins : List (Addr × Obj)) (s : Shared) (σ : St) (H : Hp) (vs : List V) (us : List Value) (Q : St → Hp → Prop), Inv X pins σ H s → Vals vs us → t vs σ H Q →
    wpAny (model X.prog X.w) X.A (assignInOrder ((assignEach ts X.env).map (·.2)) us) (fun _ s' => ∃ σ' H', Inv X pins σ' H' s' ∧ Q σ' H') X.xe s
/-- o[i] = v, by values -/
noncomputable abbrev TSet := V → V → V → Hp → (Hp → Prop) → Prop
noncomputable def PSet (X : Cx) (t : TSet) : Prop :=
  ∀ (pins : List (Addr × Obj)) (s : Shared) (σ : St) (H : Hp) (o i v : V) (ov iv u : Value) (Q : Hp → Prop), Inv X pins σ H s → RelV o ov → RelV i iv → RelV v u → t o i v H Q →
    wpAny (model X.prog X.w) X.A (setItem ov iv u) (fun _ s' => ∃ H', Inv X pins σ H' s' ∧ Q H') X.xe s
section
variable {X : Cx} {pos : Pos}
noncomputable def gName (i : Nat) : TG := fun v σ H Q => Q (σ.set i (some v)) H
theorem pg_name {i : Nat} {x : Str} (hN : X.N.Nodup) (hi : X.N[i]? = some x) (hx : Loc X.env.scope x) (hf : X.fn x = true ∨ X.env.scope.names.lookup x = some .local := by first | exact .inl rfl | exact .inr rfl | assumption) : PG X (.Name x pos) (gName i) := by
  intro pins s σ H v u Q I r h
  exact wpAny_assign_Name (store_ok I hN hi hx r (fun s' I' => ⟨_, H, I', h⟩) hf)
noncomputable def gNil : TGs := fun vs σ H Q => vs = [] ∧ Q σ H
noncomputable def gCons (t : TG) (u : TGs) : TGs := fun vs σ H Q => ∃ v r, vs = v :: r ∧ t v σ H fun σ' H' => u r σ' H' Q
theorem pgs_nil : PGs X [] gNil := by
  intro pins s σ H vs us Q I r h
  obtain ⟨e, h⟩ := h
  subst e
  cases r
  exact assignInOrder_nil ⟨σ, H, I, h⟩
theorem pgs_cons {e : Expr} {es : List Expr} {t : TG} {u : TGs} (h1 : PG X e t) (h2 : PGs X es u)
    (hs : (assignEach (e :: es) X.env).map (·.2) = assign e X.env :: (assignEach es X.env).map (·.2) := by rfl) : PGs X (e :: es) (gCons t u) := by
  intro pins s σ H vs us Q I r h
  obtain ⟨v, vr, e1, h⟩ := h
  subst e1
  cases r with
  | cons r rr =>
    rw [hs]
    refine assignInOrder_cons (thn (h1 pins s σ H _ _ _ I r h) fun _ s1 ⟨σ1, H1, I1, q1⟩ => ?_)
    exact h2 pins s1 σ1 H1 _ _ Q I1 rr q1
/-- (a, b, ..) = a tuple of that length -/
noncomputable def gTup (K : PySem.W.Frag) (n : Nat) (t : TGs) : TG := fun v σ H Q => ∃ a xs, v = .ref a ∧ SqT K H a xs ∧ xs.length = n ∧ t xs σ H Q
theorem pg_tup {es : List Expr} {k : Nat} {t : TGs} {n : Nat} (hc : X.calm = true) (h : PGs X es t)
    (hn : (assignEach es X.env).length = n := by rfl) (hst : (assignEach es X.env).findIdx? (·.1) = none := by rfl) : PG X (.Tuple es k pos) (gTup X.K n t) := by
  intro pins s σ H v u Q I r hw
  obtain ⟨a, xs, e1, hq, hl, hw⟩ := hw
  subst e1
  cases r
  obtain ⟨its, rv, ht, hz⟩ := I.tuple hq
  refine assign_Tuple_tuple (I.ok.hd hc) ht (by simp [hn, ← hl, rv.length]) hst fun h' hx => ?_
  have I1 : Inv X pins σ H { s with heap := h' } := I.kept (t' := s.toks) fun b o e => hx b o (Nat.ne_of_lt (Heap.lt_size e)) e
  exact h pins _ σ H xs _ Q I1 (by simpa using rv) hw
/-- o[i] = .. -/
noncomputable def gSub (to ti : TE) (t : TSet) : TG := fun v σ H Q => to σ H fun o H1 => ti σ H1 fun i H2 => t o i v H2 fun H3 => Q σ H3
theorem pg_sub {o i : Expr} {to ti : TE} {t : TSet} (ho : PE X o to) (hi : PE X i ti) (hs : PSet X t)
    (ha : ∀ v, assign (.Subscript o i pos) X.env v = (do
      let ov ← holding [v] (eval o X.env)
      let iv ← holding [v, ov] (eval i X.env)
      standAt pos
      holding [v, ov, iv] (setItem ov iv v)
      release [v, ov, iv] []) := by intro _; rfl) : PG X (.Subscript o i pos) (gSub to ti t) := by
  intro pins s σ H v u Q I r h
  rw [ha]
  refine wpAny_bind (wpAny_holding (thn (ho pins s σ H _ I h) fun ov s1 ⟨x, H1, I1, r1, q1⟩ => ?_))
  refine wpAny_bind (wpAny_holding (thn (hi pins s1 σ H1 _ I1 q1) fun iv s2 ⟨y, H2, I2, r2, q2⟩ => ?_))
  refine wpAny_bind (wpAny_standAt (wpAny_bind (wpAny_holding (thn (hs pins s2 σ H2 x y v ov iv u _ I2 r1 r2 r q2) fun _ s3 ⟨H3, I3, q3⟩ => ?_))))
  exact wpAny_release ⟨σ, H3, I3, q3⟩
/-- target = value -/
noncomputable def tAsg (te : TE) (g : TG) : TS := fun D σ H => te σ H fun x H1 => g x σ H1 D.nx
theorem ps_asg {tg e : Expr} {te : TE} {g : TG} (he : PE X e te) (hg : PG X tg g) (hs : swapsWithSole [tg] e pos.line X.env = pure false := by rfl) (hw : swappedStores [tg] e X.env = pure none := by rfl)
    (h1 : (assignEach [tg] X.env).map (·.2) = [assign tg X.env] := by rfl) : PS X (.Assign [tg] e pos) (tAsg te g) := by
  intro pins s σ H D I h
  refine wpAny_Assign_stores (thn (he pins s σ H _ I h) fun v s1 ⟨x, H1, I1, r1, q1⟩ => ?_) hs hw
  rw [h1]
  exact thn (hg pins s1 σ H1 x v _ I1 r1 q1) fun _ s2 q => q
/-- name = value -/
theorem ps_set {i : Nat} {x : Str} {e : Expr} {te : TE} {pos' : Pos} (hN : X.N.Nodup) (hi : X.N[i]? = some x) (hx : Loc X.env.scope x) (he : PE X e te) (hs : swapsWith e (some (.Name x pos')) pos.line X.env = pure false := by rfl) (hf : X.fn x = true ∨ X.env.scope.names.lookup x = some .local := by first | exact .inl rfl | exact .inr rfl | assumption) :
    PS X (.Assign [.Name x pos'] e pos) (tAsg te (gName i)) := by
  intro pins s σ H D I h
  refine wpAny_Assign_Name (thn (he pins s σ H _ I h) fun v s1 ⟨y, H1, I1, r1, q1⟩ => ?_) hs
  exact store_ok I1 hN hi hx r1 (fun s2 I2 => ⟨_, H1, I2, q1⟩) hf
end

/-! ### while -/
section
variable {X : Cx} {pos : Pos}
end

/-! ### what a loop or a comprehension walks -/
/-- at turn i: it yields x (the heap may grow), or it stops -/
structure It where
  go : Nat → Hp → Prop
  yld : Nat → Hp → V → Hp → Prop
  stop : Nat → Hp → Prop
/-- the iterator's own objects may turn: they are not the frame's, not pinned, younger than the entry (or a comprehension's own) -/
noncomputable def FpOk (X : Cx) (pins : List (Addr × Obj)) (H : Hp) (b : Addr) : Prop :=
  H b = none ∧ b ≠ X.env.locals ∧ b ∉ X.fs ∧ (b ∈ X.ex ∨ X.s₀.heap.objs.size ≤ b) ∧ (∀ x c, X.env.cells.lookup x = some c → c ≠ b) ∧ ∀ p ∈ X.pn ++ pins, p.1 ≠ b
theorem Inv.fpOk {X : Cx} {pins : List (Addr × Obj)} {σ : St} {H H' : Hp} {s : Shared} {b : Addr} (I : Inv X pins σ H s) (hb : s.heap.objs.size ≤ b) (hn : H' b = none) : FpOk X pins H' b := by
  refine ⟨hn, Nat.ne_of_gt (Nat.lt_of_lt_of_le I.lt hb), I.nofs hb, .inr (Nat.le_trans I.sz hb), fun x c e z => ?_, fun p hp z => ?_⟩
  · obtain ⟨v, q⟩ := I.cell x c e
    exact absurd (Nat.lt_of_lt_of_le q.lt (by rw [z]; exact hb)) (Nat.lt_irrefl _)
  · exact absurd (Nat.lt_of_lt_of_le (Heap.lt_size (I.pin p hp).1) (by rw [z]; exact hb)) (Nat.lt_irrefl _)
structure Turn (P : Program) (w : World) (K : PySem.W.Frag) (tg : Expr) (J : It) (fp : List Addr) (it : Addr) (tn : Nat → Heap → Prop) : Prop where
  mem : it ∈ fp
  obj : ∀ i h, tn i h → ∀ b ∈ fp, ∃ o, h.get? b = some o ∧ ∀ v, o.data ≠ .cell v
  keep : ∀ i h h', tn i h → (∀ b ∈ fp, ∀ o, h.get? b = some o → h'.get? b = some o) → tn i h'
  item : ∀ (X : Cx), X.prog = P → X.w = w → X.K = K → X.calm = true → ∀ (i : Nat) (pins : List (Addr × Obj)) (s : Shared) (σ : St) (H : Hp) (E : Value → Shared → Prop), Inv X pins σ H s → (∀ b ∈ fp, FpOk X pins H b) → tn i s.heap → J.go i H →
    wpAny (model P w) X.A (pyNext (.ref it)) (fun r s1 => ∃ u, r = some u ∧
      wpAny (model P w) X.A (letOwnedTupleGo tg (.ref it) u) (fun _ s2 => ∃ x H', Inv X pins σ H' s2 ∧ RelV x u ∧ J.yld i H x H' ∧ tn (i + 1) s2.heap ∧ ∀ b ∈ fp, H' b = none) E s1) E s
  done : ∀ (X : Cx), X.prog = P → X.w = w → X.K = K → X.calm = true → ∀ (i : Nat) (pins : List (Addr × Obj)) (s : Shared) (σ : St) (H : Hp) (E : Value → Shared → Prop), Inv X pins σ H s → (∀ b ∈ fp, FpOk X pins H b) → tn i s.heap → J.stop i H →
    wpAny (model P w) X.A (pyNext (.ref it)) (fun r s1 => r = none ∧ Inv X pins σ H s1) E s
  self : ∀ (A : Around) (i : Nat) (s : Shared) (Q : Value → Shared → Prop) (E : Value → Shared → Prop), tn i s.heap → Q (.ref it) s → wpAny (model P w) A (pyIter (.ref it)) Q E s
noncomputable abbrev TI := St → Hp → (It → Hp → Prop) → Prop
/-- an iterator has come -/
noncomputable def PIE (X : Cx) (pins : List (Addr × Obj)) (σ : St) (tg : Expr) (R : It → Hp → Prop) (itv : Value) (s2 : Shared) : Prop :=
  ∃ (it : Addr) (fp : List Addr) (tn : Nat → Heap → Prop) (J : It) (H' : Hp), itv = .ref it ∧ Inv X pins σ H' s2 ∧ Turn X.prog X.w X.K tg J fp it tn ∧ tn 0 s2.heap ∧ (∀ b ∈ fp, FpOk X pins H' b) ∧ R J H'
noncomputable def PI (X : Cx) (tg iter : Expr) (wi : TI) : Prop :=
  ∀ (pins : List (Addr × Obj)) (s : Shared) (σ : St) (H : Hp) (R : It → Hp → Prop), Inv X pins σ H s → wi σ H R →
    wpAny (model X.prog X.w) X.A (eval iter X.env) (fun v s1 => wpAny (model X.prog X.w) X.A (pyIter v) (PIE X pins σ tg R) X.xe s1) X.xe s

/-- the step ahead of the store is nothing for an iterator that keeps no tuple -/
theorem go_of {M : Model} {A : Around} {E : Value → Shared → Prop} {s : Shared} {tg : Expr} {it : Addr} {u : Value} {o : Obj} {n : String} {vs : Array Value} {Q : Unit → Shared → Prop} (ho : s.heap.get? it = some o) (hc : o.cls = .type n) (hd : o.data = .fields vs)
    (hn : ["enumerate", "zip", "dict_itemiterator", "dict_reverseitemiterator", "odict_iterator", "itertools.zip_longest", "itertools.pairwise"].contains n = false) (hQ : Q () s) : wpAny M A (letOwnedTupleGo tg (.ref it) u) Q E s := by
  unfold letOwnedTupleGo
  cases tg <;> first
    | exact wpAny_pure hQ
    | (cases u <;> first
        | exact wpAny_pure hQ
        | (refine wpAny_bind (wpAny_load ho ?_)
           rw [hc, hd]
           show wpAny M A (if (["enumerate", "zip", "dict_itemiterator", "dict_reverseitemiterator", "odict_iterator", "itertools.zip_longest", "itertools.pairwise"].contains n && vs[0]? == some (rawInt _)) = true then _ else _) Q E s
           rw [if_neg (by intro h; rw [hn, Bool.false_and] at h; cases h)]
           exact wpAny_pure hQ))

/-- the list at a, as it stands at each turn (a loop may append to it) -/
noncomputable def Itl (K : PySem.W.Frag) (a : Addr) : It :=
  ⟨fun i H => ∃ xs x, SqL K H a xs ∧ xs[i]? = some x, fun i H x H' => H' = H ∧ ∀ xs, SqL K H a xs → xs[i]? = some x, fun i H => ∃ xs, SqL K H a xs ∧ xs.length ≤ i⟩
noncomputable def Itt (K : PySem.W.Frag) (a : Addr) : It :=
  ⟨fun i H => ∃ xs x, SqT K H a xs ∧ xs[i]? = some x, fun i H x H' => H' = H ∧ ∀ xs, SqT K H a xs → xs[i]? = some x, fun i H => ∃ xs, SqT K H a xs ∧ xs.length ≤ i⟩
/-- lo, lo + 1, .. (n of them) -/
noncomputable def Itr (lo : Int) (n : Nat) : It := ⟨fun i _ => i < n, fun i H x H' => H' = H ∧ x = .int (lo + i), fun i _ => n ≤ i⟩
theorem turn_list {P : Program} {w : World} {K : PySem.W.Frag} {tg : Expr} (a it : Addr) : Turn P w K tg (Itl K a) [it] it (fun i h => h.IsListIter it a i) where
  mem := by simp
  obj := fun i h st b hb => by
    have e : b = it := by simpa using hb
    subst e
    obtain ⟨o, e, c, d⟩ := st
    exact ⟨o, e, fun v z => by rw [d] at z; cases z⟩
  keep := fun i h h' st k => st.at fun o e => k it (by simp) o e
  item := by
    intro X hP hw hK hc i pins s σ H E I hf st hg
    subst hP hw hK
    obtain ⟨xs, x, hq, hx⟩ := hg
    obtain ⟨its, rv, p, hz⟩ := I.list hq
    obtain ⟨u, hu, ru⟩ := rv.get hx
    obtain ⟨f0, f1, f2, f3, f4, f5⟩ := hf it (by simp)
    refine wpAny_pyNext_list_item st p.isList (x := u) (by simpa using hu) fun h' st' sb => ?_
    have I1 : Inv X pins σ H { s with heap := h' } := I.turned (t' := s.toks) (fun b o hb e => (sb.2 b hb).trans e) f0 f1 f3 f4 f5
    obtain ⟨o, e, c, d⟩ := id st'
    exact ⟨u, rfl, go_of (s := { s with heap := h' }) e c d (by decide) ⟨x, H, I1, ru, ⟨rfl, fun ys hy => by rw [I.list_inj hy hq]; exact hx⟩, st', fun b hb => (hf b hb).1⟩⟩
  done := by
    intro X hP hw hK hc i pins s σ H E I hf st hg
    subst hP hw hK
    obtain ⟨xs, hq, hx⟩ := hg
    obtain ⟨its, rv, p, hz⟩ := I.list hq
    obtain ⟨f0, f1, f2, f3, f4, f5⟩ := hf it (by simp)
    have hl := rv.length
    exact wpAny_pyNext_list_end (I.ok.hd hc) st p.isList (by simp; omega) fun h' eb => ⟨rfl, I.turned (t' := s.toks) (fun b o hb e => eb b o hb e) f0 f1 f3 f4 f5⟩
  self := fun _ _ _ _ _ st h => wpAny_pyIter_listiter st h
theorem turn_tuple {P : Program} {w : World} {K : PySem.W.Frag} {tg : Expr} (a it : Addr) : Turn P w K tg (Itt K a) [it] it (fun i h => h.IsTupleIter it a i) where
  mem := by simp
  obj := fun i h st b hb => by
    have e : b = it := by simpa using hb
    subst e
    obtain ⟨o, e, c, d⟩ := st
    exact ⟨o, e, fun v z => by rw [d] at z; cases z⟩
  keep := fun i h h' st k => st.at fun o e => k it (by simp) o e
  item := by
    intro X hP hw hK hc i pins s σ H E I hf st hg
    subst hP hw hK
    obtain ⟨xs, x, hq, hx⟩ := hg
    obtain ⟨its, rv, p, hz⟩ := I.tuple hq
    obtain ⟨u, hu, ru⟩ := rv.get hx
    obtain ⟨f0, f1, f2, f3, f4, f5⟩ := hf it (by simp)
    refine wpAny_pyNext_tuple_item st (show s.heap.IsTuple a its.toArray from p) (x := u) (by simpa using hu) fun h' st' sb => ?_
    have I1 : Inv X pins σ H { s with heap := h' } := I.turned (t' := s.toks) (fun b o hb e => (sb.2 b hb).trans e) f0 f1 f3 f4 f5
    obtain ⟨o, e, c, d⟩ := id st'
    exact ⟨u, rfl, go_of (s := { s with heap := h' }) e c d (by decide) ⟨x, H, I1, ru, ⟨rfl, fun ys hy => by rw [I.tuple_inj hy hq]; exact hx⟩, st', fun b hb => (hf b hb).1⟩⟩
  done := by
    intro X hP hw hK hc i pins s σ H E I hf st hg
    subst hP hw hK
    obtain ⟨xs, hq, hx⟩ := hg
    obtain ⟨its, rv, p, hz⟩ := I.tuple hq
    obtain ⟨f0, f1, f2, f3, f4, f5⟩ := hf it (by simp)
    have hl := rv.length
    exact wpAny_pyNext_tuple_end (I.ok.hd hc) st (show s.heap.IsTuple a its.toArray from p) (by simp; omega) fun h' eb => ⟨rfl, I.turned (t' := s.toks) (fun b o hb e => eb b o hb e) f0 f1 f3 f4 f5⟩
  self := fun _ _ _ _ _ st h => wpAny_pyIter_tupleiter st h
theorem turn_range {P : Program} {w : World} {K : PySem.W.Frag} {tg : Expr} (it : Addr) (lo : Int) (n : Nat) : Turn P w K tg (Itr lo n) [it] it (fun i h => IsRangeIter h it (lo + (i : Nat) * 1) ((n : Int) - (i : Nat)) 1) where
  mem := by simp
  obj := fun i h st b hb => by
    have e : b = it := by simpa using hb
    subst e
    exact ⟨_, st, fun v z => by
      have z' : Data.fields _ = Data.cell v := z
      cases z'⟩
  keep := fun i h h' st k => k it (by simp) _ st
  item := by
    intro X hP hw hK hc i pins s σ H E I hf st hg
    subst hP hw hK
    obtain ⟨f0, f1, f2, f3, f4, f5⟩ := hf it (by simp)
    have W := Walks.range (prog := X.prog) (w := X.w) (I.ok.hd hc) it lo 1 n
    refine W.item i s _ _ hg st fun v h' tk hv st' kk => ?_
    obtain ⟨t, rfl⟩ := hv
    have I1 : Inv X pins σ H { s with heap := h', toks := tk } := I.turned (fun b o hb e => kk b o (by simpa using hb) e) f0 f1 f3 f4 f5
    refine ⟨_, rfl, go_of (s := { s with heap := h', toks := tk }) (n := "range_iterator") st' rfl rfl (by decide) ⟨.int (lo + i), H, I1, ⟨t, ?_⟩, ⟨rfl, rfl⟩, st', fun b hb => (hf b hb).1⟩⟩
    rw [Int.mul_one]
  done := by
    intro X hP hw hK hc i pins s σ H E I hf st hg
    subst hP hw hK
    obtain ⟨f0, f1, f2, f3, f4, f5⟩ := hf it (by simp)
    exact wpAny_pyNext_range_end (I.ok.hd hc) st (by have : n ≤ i := hg; omega) fun h' eb => ⟨rfl, I.turned (t' := s.toks) (fun b o hb e => eb b o hb e) f0 f1 f3 f4 f5⟩
  self := fun _ _ _ _ _ st h => wpAny_pyIter_rangeiter st h
end L2

namespace L2
open PySem PySem.Spec PyProof.Rows
section
variable {X : Cx} {tg : Expr}
/-- a range object just made, walked -/
theorem range_it {pins : List (Addr × Obj)} {σ : St} {H : Hp} {s : Shared} {R : It → Hp → Prop} {E : Value → Shared → Prop} {lo hi : Int} {t u v : Tok} {tk : Nat} (I : Inv X pins σ H s) (h1 : -(2 ^ 62) ≤ lo) (h2 : lo < 2 ^ 62) (h3 : -(2 ^ 62) ≤ hi) (h4 : hi < 2 ^ 62)
    (q : R (Itr lo (hi - lo).toNat) H) : wpAny (model X.prog X.w) X.A (pyIter (.ref s.heap.objs.size)) (PIE X pins σ tg R) E { s with heap := s.heap.push { cls := .type "range", data := .fields #[.int lo t, .int hi u, .int 1 v] }, toks := tk } := by
  refine wpAny_pyIter_range (IsRange.new ..) (small_one h1 h2 h3 h4) ?_
  have I1 : Inv X pins σ H { s with heap := s.heap.push { cls := .type "range", data := .fields #[.int lo t, .int hi u, .int 1 v] }, toks := tk } := I.kept fun b o e => Heap.get?_push_of_some _ e
  refine ⟨(s.heap.push { cls := .type "range", data := .fields #[.int lo t, .int hi u, .int 1 v] }).objs.size, [(s.heap.push { cls := .type "range", data := .fields #[.int lo t, .int hi u, .int 1 v] }).objs.size], _, _, H, rfl,
    I1.kept (t' := tk) fun b o e => Heap.get?_push_of_some _ e, turn_range _ lo (hi - lo).toNat, ?_, fun b hb => ?_, q⟩
  · have e1 : lo + ((0 : Nat) : Int) * 1 = lo := by simp
    have e2 : (((hi - lo).toNat : Nat) : Int) - ((0 : Nat) : Int) = Builtin.Range.rangeSize lo hi 1 := by rw [rangeSize_one]; split <;> omega
    show IsRangeIter _ _ (lo + ((0 : Nat) : Int) * 1) ((((hi - lo).toNat : Nat) : Int) - ((0 : Nat) : Int)) 1
    rw [e1, e2]
    exact Heap.get?_push_size _ rfl
  · have e : b = (s.heap.push { cls := .type "range", data := .fields #[.int lo t, .int hi u, .int 1 v] }).objs.size := by simpa using hb
    subst e
    exact I1.fpOk (Nat.le_refl _) (I1.hok.fresh (Nat.le_refl _))
noncomputable def iRng1 (ta : TA) : TI := fun σ H R => ta σ H fun vs H1 => ∃ j : Int, vs = [.int j] ∧ -(2 ^ 62) ≤ j ∧ j < 2 ^ 62 ∧ R (Itr 0 j.toNat) H1
theorem pi_range1 {a : Expr} {ta : TA} {p pos : Pos} (hg : Gl X "range") (hm : X.mg "range" = none) (ha : PA X [a] ta) (hs : starEach [a] X.env = [(false, eval a X.env)] := by rfl) : PI X tg (.Call (.Name "range" p) [a] [] pos) (iRng1 ta) := by
  intro pins s σ H R I h
  refine Call_ (ld_blt I hg hm boot_range (PyProof.Rows.callWith_type1 (thn (ha pos pins s σ H _ I h) fun us s1 ⟨vs, H1, I1, r1, q1⟩ => ?_) hs rfl))
  obtain ⟨j, e, q1, q2, q⟩ := q1
  subst e
  cases r1 with
  | cons r rr =>
    cases rr
    obtain ⟨t, rfl⟩ := r
    exact call_range_1 (range_it I1 (by omega) (by omega) q1 q2 (by simpa using q))
/-! ### for -/
/-- W: the invariant by the turn and a measure; N: what the body is to reach -/
noncomputable def tFor (wi : TI) (g : TG) (tb : TS) : TS := fun D σ H => wi σ H fun J H1 => ∃ W : Nat → Nat → St → Hp → Prop, (∃ m, W 0 m σ H1) ∧ ∀ i m σ H, W i m σ H →
  (J.stop i H ∧ D.nx σ H) ∨ (J.go i H ∧ ∃ N : St → Hp → Prop, (∀ σ' H', N σ' H' → ∃ m', m' < m ∧ W (i + 1) m' σ' H') ∧ ∀ x H', J.yld i H x H' → g x σ H' fun σ2 H2 => tb { D with nx := N, ct := N, bk := D.nx } σ2 H2)
/-- the records at fp as they stand -/
noncomputable def pinsAt (fp : List Addr) (h : Heap) : List (Addr × Obj) := fp.filterMap fun b => (h.get? b).map fun o => (b, o)
theorem mem_pinsAt {fp : List Addr} {h : Heap} {b : Addr} {o : Obj} (hb : b ∈ fp) (e : h.get? b = some o) : (b, o) ∈ pinsAt fp h := List.mem_filterMap.mpr ⟨b, hb, by rw [e]; rfl⟩
theorem of_pinsAt {fp : List Addr} {h : Heap} {p : Addr × Obj} (hp : p ∈ pinsAt fp h) : p.1 ∈ fp ∧ h.get? p.1 = some p.2 := by
  obtain ⟨b, hb, e⟩ := List.mem_filterMap.mp hp
  cases q : h.get? b with
  | none => rw [q] at e; cases e
  | some o =>
    rw [q] at e
    have e' : (b, o) = p := Option.some.inj e
    subst e'
    exact ⟨hb, q⟩
theorem Inv.pinned {pins : List (Addr × Obj)} {σ : St} {H : Hp} {s : Shared} {fp : List Addr} (I : Inv X pins σ H s) (hf : ∀ b ∈ fp, FpOk X pins H b) (ho : ∀ b ∈ fp, ∃ o, s.heap.get? b = some o ∧ ∀ v, o.data ≠ .cell v) : Inv X (pins ++ pinsAt fp s.heap) σ H s :=
  I.pins_of fun p hp => (List.mem_append.mp hp).elim (fun z => I.pin p (List.mem_append_right _ z)) fun z => by
    obtain ⟨hb, e⟩ := of_pinsAt z
    obtain ⟨f0, f1, f2, _⟩ := hf p.1 hb
    obtain ⟨o, e', d⟩ := ho p.1 hb
    rw [e] at e'; cases e'
    exact ⟨e, f0, f1, f2, d⟩
theorem Inv.unpinned {pins pl : List (Addr × Obj)} {σ : St} {H : Hp} {s : Shared} (I : Inv X (pins ++ pl) σ H s) : Inv X pins σ H s := I.pins_of fun p hp => I.pin p (List.mem_append_right _ (List.mem_append_left _ hp))
theorem ps_for {iter : Expr} {body : List Stmt} {wi : TI} {g : TG} {tb : TS} {pos : Pos} (hp : PassesOwn (model X.prog X.w) X.A X.env X.xe) (hc : X.calm = true) (hi : PI X tg iter wi) (hg : PG X tg g) (hb : PSs X body tb)
    (hs : ∀ x, foldedSetIterable iter X.env x = pure x := by intro _; rfl) : PS X (.For tg iter body [] pos) (tFor wi g tb) := by
  intro pins s σ H D I h
  refine wpAny_For (thn (hi pins s σ H _ I h) fun v s1 h1 => thn h1 fun itv s2 h2 => ?_) hs
  obtain ⟨it, fp, tn, J, H2, e, I2, T, st2, f2, W, ⟨m0, w0⟩, turn⟩ := h2
  subst e
  -- what stays true of the iterator's objects through the loop
  have stat : ∀ {H' : Hp}, (∀ b ∈ fp, H' b = none) → ∀ b ∈ fp, FpOk X pins H' b := fun hn b hb => ⟨hn b hb, (f2 b hb).2⟩
  refine codeAny_forLoop_any (fun n s' => ∃ i σ' H', Inv X pins σ' H' s' ∧ tn i s'.heap ∧ (∀ b ∈ fp, H' b = none) ∧ W i n σ' H') ?_ m0 ⟨0, σ, H2, I2, st2, fun b hb => (f2 b hb).1, w0⟩
  rintro n s3 ⟨i, σ3, H3, I3, st3, fr3, w3⟩
  rcases turn i n σ3 H3 w3 with ⟨stop, qn⟩ | ⟨go, N, hN, step⟩
  · refine wpAny_passesOwn hp (thn (T.done X rfl rfl rfl hc i pins s3 σ3 H3 X.xe I3 (stat fr3) st3 stop) fun r s4 ⟨hr, I4⟩ => ?_)
    subst hr
    exact wpAny_execs_nil ⟨σ3, H3, I4, qn⟩
  · refine wpAny_passesOwn hp (thn (T.item X rfl rfl rfl hc i pins s3 σ3 H3 X.xe I3 (stat fr3) st3 go) fun r s4 ⟨u, hr, h4⟩ => ?_)
    subst hr
    refine wpAny_passesOwn hp (thn h4 fun _ s5 ⟨x, H5, I5, r5, y5, st5, fr5⟩ => ?_)
    have I5' := I5.pinned (stat fr5) (T.obj _ _ st5)
    refine wpAny_passesOwn hp (thn (hg _ s5 σ3 H5 x u _ I5' r5 (step x H5 y5)) fun _ s6 ⟨σ6, H6, I6, q6⟩ => ?_)
    refine wpAny_passesOwn hp (thn (hb _ s6 σ6 H6 _ I6 q6) fun f s7 q7 => ?_)
    have again : ∀ {σ7 : St} {H7 : Hp}, Inv X (pins ++ pinsAt fp s5.heap) σ7 H7 s7 → N σ7 H7 → ∃ m, m < n ∧ ∃ i σ' H', Inv X pins σ' H' s7 ∧ tn i s7.heap ∧ (∀ b ∈ fp, H' b = none) ∧ W i m σ' H' := fun {σ7 H7} I7 n7 => by
      obtain ⟨m', hm, w7⟩ := hN σ7 H7 n7
      refine ⟨m', hm, i + 1, σ7, H7, I7.unpinned, T.keep _ _ _ st5 fun b hb o e => (I7.pin (b, o) (List.mem_append_right _ (List.mem_append_right _ (mem_pinsAt hb e)))).1, fun b hb => ?_, w7⟩
      obtain ⟨o, e, d⟩ := T.obj _ _ st5 b hb
      exact (I7.pin (b, o) (List.mem_append_right _ (List.mem_append_right _ (mem_pinsAt hb e)))).2.1
    cases f with
    | next => obtain ⟨σ7, H7, I7, n7⟩ := q7; exact again I7 n7
    | cont => obtain ⟨σ7, H7, I7, n7⟩ := q7; exact again I7 n7
    | brk => obtain ⟨σ7, H7, I7, q7⟩ := q7; exact ⟨σ7, H7, I7.unpinned, q7⟩
    | ret v => obtain ⟨x7, σ7, H7, I7, r7, q7⟩ := q7; exact ⟨x7, σ7, H7, I7.unpinned, r7, q7⟩
end

/-! ### the forms one uses -/
theorem for_range {lo : Int} {n : Nat} {g : TG} {tb : TS} {D : Ends} {σ : St} {H : Hp} (Pv : Nat → St → Hp → Prop) (h0 : Pv 0 σ H)
    (hs : ∀ i σ H, i < n → Pv i σ H → g (.int (lo + i)) σ H fun σ2 H2 => tb { D with nx := Pv (i + 1), ct := Pv (i + 1), bk := D.nx } σ2 H2) (hd : ∀ σ H, Pv n σ H → D.nx σ H) :
    ∃ W : Nat → Nat → St → Hp → Prop, (∃ m, W 0 m σ H) ∧ ∀ i m σ H, W i m σ H →
      ((Itr lo n).stop i H ∧ D.nx σ H) ∨ ((Itr lo n).go i H ∧ ∃ N : St → Hp → Prop, (∀ σ' H', N σ' H' → ∃ m', m' < m ∧ W (i + 1) m' σ' H') ∧ ∀ x H', (Itr lo n).yld i H x H' → g x σ H' fun σ2 H2 => tb { D with nx := N, ct := N, bk := D.nx } σ2 H2) := by
  refine ⟨fun i m σ H => m = n - i ∧ i ≤ n ∧ Pv i σ H, ⟨n, by simp, Nat.zero_le _, h0⟩, ?_⟩
  rintro i m σ H ⟨rfl, hi, p⟩
  by_cases hlt : i < n
  · refine .inr ⟨hlt, Pv (i + 1), fun σ' H' p' => ⟨n - (i + 1), by omega, rfl, hlt, p'⟩, fun x H' y => ?_⟩
    obtain ⟨e, y⟩ := y
    subst e y
    exact hs i σ _ hlt p
  · have e : i = n := by omega
    subst e
    exact .inl ⟨Nat.le_refl _, hd σ H p⟩
end L2

namespace L2
open PySem PySem.Spec PyProof.Rows

noncomputable abbrev R2 := V → V → Hp → VK → Prop
/-- a two-place operation on values: f is binaryOp op, inplaceOp op or compareOp op -/
noncomputable def OpR (X : Cx) (f : Value → Value → Sem Value) (r : R2) : Prop :=
  ∀ (pins : List (Addr × Obj)) (s : Shared) (σ : St) (H : Hp) (x y : V) (v u : Value) (Q : VK), Inv X pins σ H s → RelV x v → RelV y u → r x y H Q →
    wpAny (model X.prog X.w) X.A (f v u) (EP X pins σ Q) X.xe s
/-- a call of a value that is known (a builtin, a type) with values -/
noncomputable def CallR (X : Cx) (f : Value) (r : List V → Hp → VK → Prop) : Prop :=
  ∀ (pins : List (Addr × Obj)) (s : Shared) (σ : St) (H : Hp) (xs : List V) (us : List Value) (Q : VK), Inv X pins σ H s → Vals xs us → r xs H Q →
    wpAny (model X.prog X.w) X.A (call f us) (EP X pins σ Q) X.xe s
noncomputable def tOp (r : R2) (ta tb : TE) : TE := fun σ H Q => ta σ H fun x H1 => tb σ H1 fun y H2 => r x y H2 Q
/-- ints in, under C, and a value out -/
noncomputable def rI (C : Int → Int → Prop) (g : Int → Int → V) : R2 := fun x y H Q => ∃ i j, x = .int i ∧ y = .int j ∧ C i j ∧ Q (g i j) H
noncomputable def rI0 (g : Int → Int → V) : R2 := fun x y H Q => ∃ i j, x = .int i ∧ y = .int j ∧ Q (g i j) H
section
variable {X : Cx} {a b c : Expr} {ta tb tc : TE} {pos : Pos}

theorem binT (ha : PE X a ta) (hb : PE X b tb) {pins : List (Addr × Obj)} {s : Shared} {σ : St} {H : Hp} {R : V → V → Hp → Prop} (I : Inv X pins σ H s)
    (h : ta σ H fun x H1 => tb σ H1 fun y H2 => R x y H2) {Q : Value → Shared → Prop} {f : Value → Value → Sem Value}
    (hf : ∀ v u s2 x y H2, Inv X pins σ H2 s2 → RelV x v → RelV y u → R x y H2 → wpAny (model X.prog X.w) X.A (f v u) Q X.xe s2) :
    wpAny (model X.prog X.w) X.A (eval a X.env) (fun v s₁ => wpAny (model X.prog X.w) X.A (eval b X.env) (fun u s₂ => wpAny (model X.prog X.w) X.A (f v u) Q X.xe s₂) X.xe s₁) X.xe s := by
  refine thn (ha pins s σ H _ I h) fun v s1 ⟨x, H1, I1, r1, q1⟩ => ?_
  refine thn (hb pins s1 σ H1 _ I1 q1) fun u s2 ⟨y, H2, I2, r2, q2⟩ => ?_
  exact hf v u s2 x y H2 I2 r1 r2 q2

theorem pe_op {op : Operator} {r : R2} (ho : OpR X (binaryOp op) r) (ha : PE X a ta) (hb : PE X b tb) : PE X (.BinOp a op b pos) (tOp r ta tb) := by
  intro pins s σ H Q I h
  exact wpAny_BinOp (binT ha hb I h fun v u s2 x y H2 I2 rx ry q => ho pins s2 σ H2 x y v u Q I2 rx ry q)
/-! ### ints -/
theorem opI {f : Value → Value → Sem Value} {C : Int → Int → Prop} {g : Int → Int → Int}
    (rule : ∀ (i j : Int) (t u : Tok) (s : Shared) (Q : Value → Shared → Prop) (E : Value → Shared → Prop), C i j → Q (.int (g i j) s.toks) { s with toks := s.toks + 1 } → wpAny (model X.prog X.w) X.A (f (.int i t) (.int j u)) Q E s) :
    OpR X f (rI C fun i j => .int (g i j)) := by
  intro pins s σ H x y v u Q I rx ry h
  obtain ⟨i, j, rfl, rfl, hc, q⟩ := h
  obtain ⟨t, rfl⟩ := rx
  obtain ⟨t', rfl⟩ := ry
  exact rule i j t t' s _ _ hc ⟨.int (g i j), H, I.tok _, ⟨_, rfl⟩, q⟩
theorem opI0 {f : Value → Value → Sem Value} {g : Int → Int → Int}
    (rule : ∀ (i j : Int) (t u : Tok) (s : Shared) (Q : Value → Shared → Prop) (E : Value → Shared → Prop), Q (.int (g i j) s.toks) { s with toks := s.toks + 1 } → wpAny (model X.prog X.w) X.A (f (.int i t) (.int j u)) Q E s) :
    OpR X f (rI0 fun i j => .int (g i j)) := by
  intro pins s σ H x y v u Q I rx ry h
  obtain ⟨i, j, rfl, rfl, q⟩ := h
  obtain ⟨t, rfl⟩ := rx
  obtain ⟨t', rfl⟩ := ry
  exact rule i j t t' s _ _ ⟨.int (g i j), H, I.tok _, ⟨_, rfl⟩, q⟩
theorem opB0 {f : Value → Value → Sem Value} {g : Int → Int → Bool}
    (rule : ∀ (i j : Int) (t u : Tok) (s : Shared) (Q : Value → Shared → Prop) (E : Value → Shared → Prop), Q (.bool (g i j)) s → wpAny (model X.prog X.w) X.A (f (.int i t) (.int j u)) Q E s) :
    OpR X f (rI0 fun i j => .bl (g i j)) := by
  intro pins s σ H x y v u Q I rx ry h
  obtain ⟨i, j, rfl, rfl, q⟩ := h
  obtain ⟨t, rfl⟩ := rx
  obtain ⟨t', rfl⟩ := ry
  exact rule i j t t' s _ _ ⟨.bl (g i j), H, I, rfl, q⟩

noncomputable def CMul (i j : Int) : Prop := (-(2 ^ 64) < i ∧ i < 2 ^ 64) ∨ (-(2 ^ 64) < j ∧ j < 2 ^ 64)
theorem CMul.ok {i j : Int} (h : CMul i j) : IntMulOk i j := by
  rcases h with ⟨h1, h2⟩ | ⟨h1, h2⟩
  · exact .of_left (intBits_le_64 h1 h2)
  · exact .of_right (intBits_le_64 h1 h2)
theorem op_add : OpR X (binaryOp .Add) (rI0 fun i j => .int (i + j)) := opI0 fun _ _ _ _ _ _ _ q => add_int q
theorem op_sub : OpR X (binaryOp .Sub) (rI0 fun i j => .int (i - j)) := opI0 fun _ _ _ _ _ _ _ q => sub_int q
theorem op_mul : OpR X (binaryOp .Mult) (rI CMul fun i j => .int (i * j)) := opI fun _ _ _ _ _ _ _ hc q => mul_int q hc.ok
/-- % by a positive divisor of any size -/
theorem op_mod : OpR X (binaryOp .Mod) (rI (fun _ j => 0 < j) fun i j => .int (i % j)) := opI fun i j _ _ _ _ _ hc q => by
  have h1 : (0 : Int) < j := hc
  exact mod_int' (by omega) (by rw [Int.fmod_eq_emod_of_nonneg i (by omega)]; exact q)
/-! ### bools among ints: n += (a < b) -/
end

/-! ### comparisons -/
/-- the scalars that == tells apart as data does -/
noncomputable def scal : V → V → Bool
  | .non, .non => true | .non, .int _ => true | .int _, .non => true | .non, .bl _ => true | .bl _, .non => true | .non, .str _ => true | .str _, .non => true
  | .int _, .int _ => true | .bl _, .bl _ => true | .str _, .str _ => true | .byt _, .byt _ => true
  | .int _, .str _ => true | .str _, .int _ => true | .bl _, .str _ => true | .str _, .bl _ => true
  | _, _ => false
noncomputable def rEq : R2 := fun x y H Q => scal x y = true ∧ Q (.bl (decide (x = y))) H
noncomputable def rNe : R2 := fun x y H Q => scal x y = true ∧ Q (.bl (!decide (x = y))) H

theorem dec_int {i j : Int} : decide (V.int i = V.int j) = (i == j) := by
  rw [Bool.eq_iff_iff]
  simp
theorem dec_bl {i j : Bool} : decide (V.bl i = V.bl j) = (i == j) := by
  rw [Bool.eq_iff_iff]
  simp
theorem dec_str {i j : Str} : decide (V.str i = V.str j) = (i == j) := by
  rw [Bool.eq_iff_iff]
  simp
theorem dec_byt {i j : Array UInt8} : decide (V.byt i = V.byt j) = (i.toList == j.toList) := by
  rw [Bool.eq_iff_iff]
  cases i
  cases j
  simp

section
variable {X : Cx} {a b c : Expr} {ta tb tc : TE} {pos : Pos}
theorem fin_bl {pins : List (Addr × Obj)} {σ : St} {H : Hp} {s : Shared} {Q : VK} {k k' : Bool} (I : Inv X pins σ H s) (q : Q (.bl k) H) (e : k = k') : EP X pins σ Q (.bool k') s := by
  subst e
  exact ⟨.bl k, H, I, rfl, q⟩
theorem op_eq : OpR X (compareOp .Eq) rEq := by
  intro pins s σ H x y v u Q I rx ry h
  obtain ⟨hs, q⟩ := h
  cases x with
  | non =>
    cases rx
    cases y with
    | non => cases ry; exact PySem.EqNone.eq_none_none (fin_bl I q (by simp))
    | bl j => cases ry; exact PySem.EqNone.eq_none_bool (fin_bl I q (by simp))
    | int j => obtain ⟨t', rfl⟩ := ry; exact PySem.EqNone.eq_none_int (fin_bl I q (by simp))
    | str j => obtain ⟨t', rfl⟩ := ry; exact PySem.EqNone.eq_none_str (fin_bl I q (by simp))
    | _ => exact absurd (show false = true from hs) Bool.false_ne_true
  | bl i =>
    cases rx
    cases y with
    | non => cases ry; exact PySem.EqNone.eq_bool_none (fin_bl I q (by simp))
    | bl j => cases ry; exact eq_bool (fin_bl I q dec_bl)
    | str j => obtain ⟨t', rfl⟩ := ry; exact PySem.EqMixed.eq_bool_str (fin_bl I q (by simp))
    | _ => exact absurd (show false = true from hs) Bool.false_ne_true
  | int i =>
    obtain ⟨t, rfl⟩ := rx
    cases y with
    | non => cases ry; exact PySem.EqNone.eq_int_none (fin_bl I q (by simp))
    | int j => obtain ⟨t', rfl⟩ := ry; exact eq_int (fin_bl I q dec_int)
    | str j => obtain ⟨t', rfl⟩ := ry; exact PySem.EqMixed.eq_int_str (fin_bl I q (by simp))
    | _ => exact absurd (show false = true from hs) Bool.false_ne_true
  | str i =>
    obtain ⟨t, rfl⟩ := rx
    cases y with
    | non => cases ry; exact PySem.EqNone.eq_str_none (fin_bl I q (by simp))
    | bl j => cases ry; exact PySem.EqMixed.eq_str_bool (fin_bl I q (by simp))
    | int j => obtain ⟨t', rfl⟩ := ry; exact PySem.EqMixed.eq_str_int (fin_bl I q (by simp))
    | str j => obtain ⟨t', rfl⟩ := ry; exact eq_str (fin_bl I q dec_str)
    | _ => exact absurd (show false = true from hs) Bool.false_ne_true
  | byt i =>
    obtain ⟨t, rfl⟩ := rx
    cases y with
    | byt j => obtain ⟨t', rfl⟩ := ry; exact PySem.W.eq_bytes (fin_bl I q dec_byt)
    | _ => exact absurd (show false = true from hs) Bool.false_ne_true
  | _ => cases y <;> exact absurd (show false = true from hs) Bool.false_ne_true
theorem op_ne : OpR X (compareOp .NotEq) rNe := by
  intro pins s σ H x y v u Q I rx ry h
  obtain ⟨hs, q⟩ := h
  cases x with
  | non =>
    cases rx
    cases y with
    | non => cases ry; exact PySem.EqNone.ne_none_none (fin_bl I q (by simp))
    | bl j => cases ry; exact PySem.EqNone.ne_none_bool (fin_bl I q (by simp))
    | int j => obtain ⟨t', rfl⟩ := ry; exact PySem.EqNone.ne_none_int (fin_bl I q (by simp))
    | str j => obtain ⟨t', rfl⟩ := ry; exact PySem.EqNone.ne_none_str (fin_bl I q (by simp))
    | _ => exact absurd (show false = true from hs) Bool.false_ne_true
  | bl i =>
    cases rx
    cases y with
    | non => cases ry; exact PySem.EqNone.ne_bool_none (fin_bl I q (by simp))
    | bl j => cases ry; exact ne_bool (fin_bl I q (congrArg not dec_bl))
    | str j => obtain ⟨t', rfl⟩ := ry; exact PySem.EqMixed.ne_bool_str (fin_bl I q (by simp))
    | _ => exact absurd (show false = true from hs) Bool.false_ne_true
  | int i =>
    obtain ⟨t, rfl⟩ := rx
    cases y with
    | non => cases ry; exact PySem.EqNone.ne_int_none (fin_bl I q (by simp))
    | int j => obtain ⟨t', rfl⟩ := ry; exact ne_int (fin_bl I q (congrArg not dec_int))
    | str j => obtain ⟨t', rfl⟩ := ry; exact PySem.EqMixed.ne_int_str (fin_bl I q (by simp))
    | _ => exact absurd (show false = true from hs) Bool.false_ne_true
  | str i =>
    obtain ⟨t, rfl⟩ := rx
    cases y with
    | non => cases ry; exact PySem.EqNone.ne_str_none (fin_bl I q (by simp))
    | bl j => cases ry; exact PySem.EqMixed.ne_str_bool (fin_bl I q (by simp))
    | int j => obtain ⟨t', rfl⟩ := ry; exact PySem.EqMixed.ne_str_int (fin_bl I q (by simp))
    | str j => obtain ⟨t', rfl⟩ := ry; exact ne_str (fin_bl I q (congrArg not dec_str))
    | _ => exact absurd (show false = true from hs) Bool.false_ne_true
  | byt i =>
    obtain ⟨t, rfl⟩ := rx
    cases y with
    | byt j => obtain ⟨t', rfl⟩ := ry; exact PySem.W.ne_bytes (fin_bl I q (congrArg not dec_byt))
    | _ => exact absurd (show false = true from hs) Bool.false_ne_true
  | _ => cases y <;> exact absurd (show false = true from hs) Bool.false_ne_true

theorem op_lt : OpR X (compareOp .Lt) (rI0 fun i j => .bl (decide (i < j))) := opB0 fun _ _ _ _ _ _ _ q => lt_int q
theorem op_gt : OpR X (compareOp .Gt) (rI0 fun i j => .bl (decide (j < i))) := opB0 fun _ _ _ _ _ _ _ q => gt_int q
theorem op_ge : OpR X (compareOp .GtE) (rI0 fun i j => .bl (decide (j ≤ i))) := opB0 fun _ _ _ _ _ _ _ q => ge_int q
/-- is None, is not None: the right side a value none -/
theorem op_isN : OpR X (compareOp .Is) (fun x y H Q => y = .non ∧ Q (.bl (decide (x = .non))) H) := by
  intro pins s σ H x y v u Q I rx ry h
  obtain ⟨rfl, q⟩ := h
  cases ry
  refine is_none_gen (fin_bl I q ?_)
  cases x <;> first
    | (cases rx; rfl)
    | (obtain ⟨t, rfl⟩ := rx; rfl)
theorem op_notN : OpR X (compareOp .IsNot) (fun x y H Q => y = .non ∧ Q (.bl (!decide (x = .non))) H) := by
  intro pins s σ H x y v u Q I rx ry h
  obtain ⟨rfl, q⟩ := h
  cases ry
  refine isnot_none_gen (fin_bl I q ?_)
  cases x <;> first
    | (cases rx; rfl)
    | (obtain ⟨t, rfl⟩ := rx; rfl)

theorem nomark (b : Expr) {op : CmpOp} (h : op ≠ .In := by decide) (h2 : op ≠ .NotIn := by decide) : behindInMarks op b = false := by
  have e1 : (op == CmpOp.In) = false := by cases op <;> first | rfl | exact absurd rfl h
  have e2 : (op == CmpOp.NotIn) = false := by cases op <;> first | rfl | exact absurd rfl h2
  cases b <;> simp [behindInMarks, e1, e2]
/-- a comparison as a value; hm: nomark b, or (for in, not in) by with_unfolding_all rfl -/
theorem pe_cmpR {op : CmpOp} {r : R2} (ho : OpR X (compareOp op) r) (ha : PE X a ta) (hb : PE X b tb) (hm : behindInMarks op b = false) : PE X (.Compare a [op] [b] pos) (tOp r ta tb) := by
  intro pins s σ H Q I h
  exact wpAny_Compare1 (binT ha hb I h fun v u s2 x y H2 I2 rx ry q => ho pins s2 σ H2 x y v u Q I2 rx ry q) hm
/-- a reading of a value as a test -/
noncomputable def tTest (t : TE) : TT := fun σ H Q => t σ H fun x H' => ∃ k, x = .bl k ∧ Q k H'
theorem pt_cmpR {op : CmpOp} {r : R2} (ho : OpR X (compareOp op) r) (ha : PE X a ta) (hb : PE X b tb) (hm : behindInMarks op b = false) : PT X (.Compare a [op] [b] pos) (tTest (tOp r ta tb)) := by
  intro pins s σ H Q I h
  refine wpAny_isTrue_Compare1 (thn (ha pins s σ H _ I h) fun v s1 ⟨x, H1, I1, r1, q1⟩ => thn (hb pins s1 σ H1 _ I1 q1) fun u s2 ⟨y, H2, I2, r2, q2⟩ =>
    thn (ho pins s2 σ H2 x y v u _ I2 r1 r2 q2) fun c s3 ⟨z, H3, I3, r3, k, e, q3⟩ => ?_) hm
  subst e
  cases r3
  exact wpAny_truthy_bool ⟨H3, I3, q3⟩
/-! ### truth -/
theorem line63 : (sizeLine : Nat) < 2 ^ 63 := by rw [sizeLine_eq]; decide
/-! ### strs and bytes -/
theorem op_add_str : OpR X (binaryOp .Add) (fun x y H Q => ∃ i j, x = .str i ∧ y = .str j ∧ i.length + j.length ≤ sizeLine ∧ Q (.str (i ++ j)) H) := by
  intro pins s σ H x y v u Q I rx ry h
  obtain ⟨i, j, rfl, rfl, hz, q⟩ := h
  obtain ⟨t, rfl⟩ := rx
  obtain ⟨t', rfl⟩ := ry
  exact add_str (fun t' tk => ⟨.str (i ++ j), H, I.tok _, ⟨_, rfl⟩, q⟩) hz
/-! ### scalar builtins, by CallR -/
theorem vals1 {x : V} {us : List Value} (r : Vals [x] us) : ∃ u, us = [u] ∧ RelV x u := by
  cases r with
  | cons r1 r2 => cases r2; exact ⟨_, rfl, r1⟩
theorem call_int1 : CallR X (.type "int") (fun xs H Q => (∃ i, xs = [.int i] ∧ Q (.int i) H) ∨ ∃ k, xs = [.bl k] ∧ Q (.int (if k then 1 else 0)) H) := by
  intro pins s σ H xs us Q I r h
  rcases h with ⟨i, rfl, q⟩ | ⟨k, rfl, q⟩
  · obtain ⟨u, rfl, t, rfl⟩ := vals1 r
    exact call_int_int ⟨.int i, H, I, ⟨_, rfl⟩, q⟩
  · obtain ⟨u, rfl, r1⟩ := vals1 r
    cases r1
    exact call_int_bool ⟨.int (if k then 1 else 0), H, I.tok _, ⟨_, rfl⟩, q⟩
end
end L2

namespace L2
open PySem PySem.Spec PyProof.Rows

/-! ### an instance, its attributes a map -/
structure ObjM (h : Heap) (x dx C : Addr) (mA : Str → Option Value) : Prop where
  obj : h.get? x = some (PySem.W.instObj C dx)
  ns : h.Ns1 dx mA
  ne : dx ≠ x

theorem lookIn_ns {h : Heap} {dx : Addr} {mA : Str → Option Value} (n : h.Ns1 dx mA) : ∃ od, h.get? dx = some od ∧ ∀ name, PySem.W.lookIn name od = some (mA name) := by
  obtain ⟨o, es, ep, ho, hd, hk, _, hm⟩ := n
  refine ⟨o, ho, fun name => ?_⟩
  have e := hm name
  unfold nsFind findBy at e
  rw [← Array.find?_toList] at e
  unfold PySem.W.lookIn
  rw [hd]
  dsimp only
  split
  · rename_i y q
    rw [q] at e
    exact congrArg some e
  · rename_i q
    rw [q] at e
    have a : es.toList.any (·.refKey) = false := by
      rw [List.any_eq_false]
      intro y hy
      obtain ⟨z, t, hkey⟩ := hk y (Array.mem_toList_iff.mp hy)
      simp [DictEntry.refKey, hkey]
    have a' : ¬ es.toList.any (·.refKey) = true := by rw [a]; exact Bool.false_ne_true
    rw [if_neg a']
    exact congrArg some e

theorem ObjM.look {h : Heap} {x dx C : Addr} {mA : Str → Option Value} (I : ObjM h x dx C mA) : ∃ od, PySem.W.InstAt h x (PySem.W.instObj C dx) C (some od) ∧ ∀ name, PySem.W.lookIn name od = some (mA name) :=
  let ⟨od, ho, hl⟩ := lookIn_ns I.ns
  ⟨od, ⟨I.obj, rfl, rfl, ho⟩, hl⟩

section
variable {prog : Program} {w : World} {A : Around} {E : Value → Shared → Prop} {s : Shared} {K : PySem.W.Frag} {x dx C f : Addr} {mA : Str → Option Value} {name : Str} {v : Value}

end

/-! ### the attributes as a list of pairs -/
section
variable {P : Program} {w : World} {H H' : Hp} {h h' : Heap} {a C dx : Addr} {fs fs' : List (Str × V)}
theorem ins_get (hok : HOk P w H h) (e : H a = some (.ins C dx fs)) : ∃ mA, ObjM h a dx C mA ∧ (∀ f, RelO (fs.lookup f) (mA f)) ∧ PySem.Within mA (fs.map (·.1)) ∧ fs.length ≤ 1000 ∧ H dx = some (.own a) := by
  obtain ⟨d, z, ne, ob, mA, n, r, q⟩ := (show ObjOk P w H h a (.ins C dx fs) from hok a _ e)
  exact ⟨mA, ⟨ob, n, ne⟩, r, q, z, d⟩
end

/-! ### what of the text a class must have -/
structure Cls (K : PySem.W.Frag) (C : Addr) : Prop where
  pg : PySem.W.plainGet K C Str.empty = true
  hd : PySem.W.hasDictIn K C = true
  po : PySem.W.plainOver K C = true
  sa : PySem.W.findIn K (.ref C) "__setattr__" = some (some (.builtin "object.__setattr__"))
theorem Cls.get {K : PySem.W.Frag} {C : Addr} (c : Cls K C) (f : Str) : PySem.W.plainGet K C f = true := c.pg
/-- a constant of the class -/
structure Con (K : PySem.W.Frag) (C : Addr) (f : Str) (v : V) (u : Value) : Prop where
  at_ : PySem.W.findIn K (.ref C) f = some (some u)
  rel : RelV v u
  get : PySem.W.specialIn K u "__get__" = some none
  cp : PySem.W.copiedNames.contains f = false
/-- a method: a plain def of the class or of one above it -/
structure Meth (K : PySem.W.Frag) (C : Addr) (m : Str) (f : Addr) : Prop where
  at_ : PySem.W.findIn K (.ref C) m = some (some (.ref f))
  fn : PySem.W.isFn K (.ref f) = true
  kp : PySem.W.keepIn K (.ref f) = true

section
variable {X : Cx} {pins : List (Addr × Obj)} {σ : St} {H : Hp} {s : Shared} {a C dx : Addr} {fs : List (Str × V)} {f : Str} {v : V} {A : Around} {E : Value → Shared → Prop}

end

/-! ### readings and rules -/
section
variable {X : Cx} {o e value : Expr} {f : Str} {pos pos' tpos : Pos} {ta tv : TE}
end

/-! ### isinstance -/
section
variable {X : Cx} {pins : List (Addr × Obj)} {σ : St} {H : Hp} {s : Shared} {A : Around} {E : Value → Shared → Prop} {Q : Value → Shared → Prop} {c : Value} {b : Bool}
/-- the type of a value, as the fragment's deciders take it; for an instance its class -/
inductive TyOf (K : PySem.W.Frag) (H : Hp) : V → Value → Prop where
  | non : TyOf K H .non (.type "NoneType")
  | bl (x : Bool) : TyOf K H (.bl x) (.type "bool")
  | int (i : Int) : TyOf K H (.int i) (.type "int")
  | str (x : Str) : TyOf K H (.str x) (.type "str")
  | flt (x : UInt64) : TyOf K H (.flt x) (.type "float")
  | lst {a : Addr} {xs : List V} (e : H a = some (.lst xs)) : TyOf K H (.ref a) (.type "list")
  | frz {a : Addr} {o : Obj} {xs : List V} (e : H a = some (.frz o (.lst xs))) : TyOf K H (.ref a) (.type "list")
  | tup {a : Addr} {xs : List V} (e : H a = some (.tup xs)) : TyOf K H (.ref a) (.type "tuple")
  | dK {a : Addr} {kvs : List (Key × V)} (e : H a = some (.dK kvs)) : TyOf K H (.ref a) (.type "dict")
  | dT {a : Addr} {kvs : List (List Key × V)} (e : H a = some (.dT kvs)) : TyOf K H (.ref a) (.type "dict")
  | ins {a C dx : Addr} {fs : List (Str × V)} (e : H a = some (.ins C dx fs)) (cl : Cls K C) (ha : PySem.W.findIn K (.ref C) "__class__" = some (some (.builtin "object.__class__")))
      (hn : PySem.W.specialIn K (.builtin "object.__class__") "__get__" = some (some (.builtin "getset_descriptor.__get__"))) (htk : PySem.W.takesIn K (.builtin "object.__class__") = some true)
      (hm : PySem.W.mroIn K C (.type "object") = some true) : TyOf K H (.ref a) (.ref C)
/-- isinstance(x, c) for one class c, a built-in or an own one: kitOne's answer -/
theorem isinst_ok {x : V} {u t : Value} (I : Inv X pins σ H s) (rx : RelV x u) (ty : TyOf X.K H x t) (e : PySem.W.kitOne X.K t c = some b) (h : ∀ tk, Q (.bool b) { s with toks := tk }) :
    wpAny (model X.prog X.w) A (call (.builtin "isinstance") [u, c]) Q E s := by
  cases ty with
  | non => cases (show u = Value.none from rx); exact PySem.W.kia_one PySem.W.kitx_none I.kIn True.intro e (fun z => nomatch z) h
  | bl y => cases (show u = Value.bool y from rx); exact PySem.W.kia_one PySem.W.kitx_bool I.kIn True.intro e (fun z => nomatch z) h
  | int i => obtain ⟨t, q⟩ := (show ∃ t, u = Value.int i t from rx); cases q; exact PySem.W.kia_one PySem.W.kitx_int I.kIn True.intro e (fun z => nomatch z) h
  | str y => obtain ⟨t, q⟩ := (show ∃ t, u = Value.str y t from rx); cases q; exact PySem.W.kia_one PySem.W.kitx_str I.kIn True.intro e (fun z => nomatch z) h
  | flt y => obtain ⟨t, q⟩ := (show ∃ t, u = Value.float y t from rx); cases q; exact PySem.W.kia_one PySem.W.kitx_float I.kIn True.intro e (fun z => nomatch z) h
  | @lst a xs ea =>
    cases (show u = Value.ref a from rx)
    obtain ⟨_, _, n, _, h1⟩ := (show ObjOk X.prog X.w H s.heap a (.lst xs) from I.hok a _ ea)
    exact PySem.W.kia_one PySem.W.kitx_list I.kIn ⟨_, h1, rfl⟩ e (fun z => nomatch z) h
  | @frz a ob xs ea =>
    cases (show u = Value.ref a from rx)
    obtain ⟨_, _, _, n, _, h1⟩ := (show ObjOk X.prog X.w H s.heap a (.frz ob (.lst xs)) from I.hok a _ ea)
    exact PySem.W.kia_one PySem.W.kitx_list I.kIn ⟨_, h1, rfl⟩ e (fun z => nomatch z) h
  | @tup a xs ea =>
    cases (show u = Value.ref a from rx)
    obtain ⟨_, _, _, p⟩ := (show ObjOk X.prog X.w H s.heap a (.tup xs) from I.hok a _ ea)
    obtain ⟨o, h1, h2, _⟩ := p
    exact PySem.W.kia_one PySem.W.kitx_tuple I.kIn ⟨o, h1, h2⟩ e (fun z => nomatch z) h
  | @dK a kvs ea =>
    cases (show u = Value.ref a from rx)
    obtain ⟨_, _, vs, _, p⟩ := (show ObjOk X.prog X.w H s.heap a (.dK kvs) from I.hok a _ ea)
    obtain ⟨o, es, ep, h1, h2, _⟩ := p
    exact PySem.W.kia_one PySem.W.kitx_dict I.kIn ⟨o, h1, h2.1⟩ e (fun z => nomatch z) h
  | @dT a kvs ea =>
    cases (show u = Value.ref a from rx)
    obtain ⟨_, _, xs, _, o, es, ep, h1, h2, _⟩ := (show ObjOk X.prog X.w H s.heap a (.dT kvs) from I.hok a _ ea)
    exact PySem.W.kia_one PySem.W.kitx_dict I.kIn ⟨o, h1, h2.1⟩ e (fun z => nomatch z) h
  | @ins a C dx fs ea cl ha hn htk hm =>
    cases (show u = Value.ref a from rx)
    obtain ⟨mA, O, _⟩ := ins_get I.hok ea
    obtain ⟨od, J, _⟩ := O.look
    exact PySem.W.kia_one (PySem.W.kitx_own (cl.get _) cl.hd ha hn htk hm) I.kIn J e (fun z => nomatch z) h
end
end L2

namespace L2
open PySem PySem.Spec PyProof.Rows

/-! ### room -/
structure Room (k : Nat) (A : Around) : Prop where
  hd : A.handled = none
  dp : A.depth + 3 * k + 5 < recursionLimit
  un : A.units + 16 * k + 200 < cLine
theorem Room.mono {j k : Nat} {A : Around} (r : Room k A) (h : j ≤ k) : Room j A := ⟨r.hd, by have := r.dp; omega, by have := r.un; omega⟩
theorem Room.deeper {k : Nat} {A : Around} (r : Room (k + 1) A) (env : Env) : Room k (A.deeper env) :=
  ⟨r.hd, by have := r.dp; show A.depth + 1 + 3 * k + 5 < _; omega, by have := r.un; show A.units + 3 + 16 * k + 200 < _; omega⟩
theorem Room.depth {k : Nat} {A : Around} (r : Room k A) : A.depth < recursionLimit := by have := r.dp; omega
theorem Room.units {k : Nat} {A : Around} (r : Room k A) : A.units + 64 < cLine := by have := r.un; omega
/-! ### argument lists and displays -/
noncomputable def tNil : TA := fun _ H Q => Q [] H
noncomputable def tCons (ta : TE) (tr : TA) : TA := fun σ H Q => ta σ H fun x H1 => tr σ H1 fun xs H2 => Q (x :: xs) H2
section
variable {X : Cx} {e : Expr} {es : List Expr} {te : TE} {t : TA} {pos : Pos}
theorem pa_nil : PA X [] tNil := fun _ _ _ _ H Q I h => Calls.spliced_nil ⟨[], H, I, .nil, h⟩
theorem pa_cons (ha : PE X e te) (hr : PA X es t) (hs : starEach (e :: es) X.env = (false, eval e X.env) :: starEach es X.env := by rfl) : PA X (e :: es) (tCons te t) := by
  intro pos pins s σ H Q I h
  rw [hs]
  show wpAny _ _ (spliced ((false, eval e X.env) :: backTo pos (starEach es X.env))) _ _ s
  refine Calls.spliced_cons (thn (ha pins s σ H _ I h) fun u s1 ⟨x, H1, I1, r1, q1⟩ => ?_)
  exact thn (hr pos pins s1 σ H1 _ I1 q1) fun us s2 ⟨xs, H2, I2, r2, q2⟩ => ⟨x :: xs, H2, I2, .cons r1 r2, q2⟩

/-- a tuple, a list of written items -/
noncomputable def tTup (t : TA) : TE := fun σ H Q => t σ H fun xs H1 => xs.length ≤ sizeLine ∧ ∀ p, H1 p = none → Q (.ref p) (upd H1 p (.tup xs))
noncomputable def tLst (t : TA) : TE := fun σ H Q => t σ H fun xs H1 => xs.length ≤ sizeLine ∧ ∀ p, H1 p = none → Q (.ref p) (upd H1 p (.lst xs))
theorem pe_tup {x1} (h : PA X es t) : PE X (.Tuple es x1 pos) (tTup t) := by
  intro pins s σ H Q I hq
  refine wpAny_Tuple_spliced (thn (h pos pins s σ H _ I hq) fun us s1 ⟨xs, H1, I1, r, z, q⟩ => ⟨by rw [← r.length]; exact z, ?_⟩)
  have hf : H1 s1.heap.objs.size = none := I1.hok.fresh (Nat.le_refl _)
  refine ⟨.ref s1.heap.objs.size, upd H1 s1.heap.objs.size (.tup xs), I1.laid (t' := s1.toks) (fun b u e => Heap.get?_push_of_some _ e) (Nat.le_refl _) ?_, rfl, q _ hf⟩
  exact ⟨z, us, r, ⟨_, Heap.get?_push_size _ rfl, rfl, _, rfl⟩⟩
theorem pe_lst (h : PA X es t) : PE X (.List es pos) (tLst t) := by
  intro pins s σ H Q I hq
  refine wpAny_List_spliced (thn (h pos pins s σ H _ I hq) fun us s1 ⟨xs, H1, I1, r, z, q⟩ => ⟨by rw [← r.length]; exact z, ?_⟩)
  have hf : H1 s1.heap.objs.size = none := I1.hok.fresh (Nat.le_refl _)
  refine ⟨.ref s1.heap.objs.size, upd H1 s1.heap.objs.size (.lst xs), I1.laid (t' := s1.toks) (fun b u e => Heap.get?_push_of_some _ e) (Nat.le_refl _) ?_, rfl, q _ hf⟩
  exact ⟨z, us, 0, r, Heap.get?_push_size _ rfl⟩
end

/-! ### what a def promises -/
/-- a def's promise: the bound arguments in the parameters' order, the heap, the wanted end, the wanted exception -/
noncomputable abbrev Sp := List V → Hp → VK → XK → Prop
/-- how an exception lies behind a call (file 08 gives it): the callers' frames, abstract heap and state ahead of the call, the wish, the exception, the state -/
noncomputable abbrev CXT := List Env → Hp → Shared → XK → Value → Shared → Prop

/-- the state at a call -/
structure Env0 (P : Program) (w : World) (K : PySem.W.Frag) (mg : Str → Option Value) (base : Heap) (A : Around) (outer : List Env) (s : Shared) (H : Hp) : Prop where
  frames : A.frames = some outer
  mod : Mod K mg base
  bs : ∀ b o, base.get? b = some o → s.heap.get? b = some o ∧ H b = none
  bsz : base.objs.size ≤ s.heap.objs.size
  funs : s.heap.FunFrames base outer
  frf : ∀ b ∈ frs outer, H b = none
  hok : HOk P w H s.heap
  bare : AllBare s.gens
/-- a call's end -/
noncomputable def CE (outer : List Env) (P : Program) (w : World) (H : Hp) (s : Shared) (Q : VK) (u : Value) (s' : Shared) : Prop :=
  ∃ v H', s'.os = s.os ∧ AllBare s'.gens ∧ Un (frs outer) [] H H' s.heap s'.heap ∧ HOk P w H' s'.heap ∧ RelV v u ∧ Q v H'
noncomputable def CR (CX : CXT) (outer : List Env) (P : Program) (w : World) (H : Hp) (s : Shared) (Q : VK) (E : XK) (r : Result) (s' : Shared) : Prop :=
  match r with
  | .ok (.ret u) => CE outer P w H s Q u s'
  | .ok _ => False
  | .error e => CX outer H s E e s'
structure FnOk (P : Program) (w : World) (K : PySem.W.Frag) (mg : Str → Option Value) (base : Heap) (CX : CXT) (k : Nat) (f : Addr) (fd : FuncData) (ps : List Str) (sp : Sp) : Prop where
  len : ∀ vs H Q E, sp vs H Q E → vs.length = ps.length
  run : ∀ (A : Around) (outer : List Env) (s : Shared) (H : Hp) (args : Args) (us : List Value) (vs : List V) (Q : VK) (E : XK), Room k A → Env0 P w K mg base A outer s H → BindsTo s fd args (ps.zip us) → Vals vs us → sp vs H Q E →
    codeAny (model P w) A (.call (.ref f) args) (CR CX outer P w H s Q E) s
theorem FnOk.mono {P : Program} {w : World} {K : PySem.W.Frag} {mg : Str → Option Value} {base : Heap} {CX : CXT} {j k : Nat} {f : Addr} {fd : FuncData} {ps : List Str} {sp : Sp} (F : FnOk P w K mg base CX j f fd ps sp) (h : j ≤ k) :
    FnOk P w K mg base CX k f fd ps sp := ⟨F.len, fun A outer s H args us vs Q E hr => F.run A outer s H args us vs Q E (hr.mono h)⟩
/-- a weaker promise -/
theorem FnOk.imp {P : Program} {w : World} {K : PySem.W.Frag} {mg : Str → Option Value} {base : Heap} {CX : CXT} {k : Nat} {f : Addr} {fd : FuncData} {ps : List Str} {sp sp' : Sp} (F : FnOk P w K mg base CX k f fd ps sp)
    (h : ∀ vs H Q E, sp' vs H Q E → sp vs H Q E) : FnOk P w K mg base CX k f fd ps sp' :=
  ⟨fun vs H Q E q => F.len vs H Q E (h _ _ _ _ q), fun A outer s H args us vs Q E hr he hb hv hs => F.run A outer s H args us vs Q E hr he hb hv (h _ _ _ _ hs)⟩

section
variable {X : Cx} {pins : List (Addr × Obj)} {σ : St} {H : Hp} {s s' : Shared}
/-- from a body: what a callee wants -/
theorem Inv.env0 (I : Inv X pins σ H s) : Env0 X.prog X.w X.K X.mg X.base X.A X.stack s H :=
  ⟨I.ok.frames, I.ok.mod, I.bs, Nat.le_trans I.ok.bsz I.sz, I.stack, I.stkFree, I.hok, I.bare⟩
/-- behind a call -/
theorem Inv.after {Q : VK} {u : Value} (I : Inv X pins σ H s) (h : CE X.stack X.prog X.w H s Q u s') : EP X pins σ Q u s' := by
  obtain ⟨v, H', os, bare, un, hok, r, q⟩ := h
  obtain ⟨hh, g, d, t, os'⟩ := s'
  obtain rfl : os' = s.os := os
  exact ⟨v, H', I.call (h' := hh) (g' := g) (d' := d) (t' := t) (ch := []) un hok bare (fun b z => absurd z (by simp)), r, q⟩
end

/-! ### calls -/
/-- f(..): the written arguments, then the defaults dvs; E: what is wanted of an exception -/
noncomputable def tCall (sp : Sp) (dvs : List V) (E : XK) (t : TA) : TE := fun σ H Q => t σ H fun vs H1 => sp (vs ++ dvs) H1 Q E
/-- how the parameters are bound: us the positional arguments, kw the keywords' values by name, ds the defaults that fill up -/
noncomputable def Binds (K : PySem.W.Frag) (fd : FuncData) (ps : List Str) (ds : List Value) : Prop :=
  ∀ (s : Shared) (us : List Value), K.In s.heap → (us ++ ds).length = ps.length → BindsTo s fd ⟨us, []⟩ (ps.zip (us ++ ds))
/-- every parameter is given -/
theorem Binds.all {K : PySem.W.Frag} {fd : FuncData} {ps : List Str} (h : ∀ us : List Value, us.length = ps.length → bindArgs fd ⟨us, []⟩ = pure (ps.zip us)) : Binds K fd ps [] := fun s us _ hl => by
  rw [List.append_nil] at hl ⊢
  exact .of_eq (h us hl)

/-- an exception of a callee reaches what this body wants of exceptions -/
noncomputable def Passes (CX : CXT) (X : Cx) (E : XK) : Prop := ∀ (pins : List (Addr × Obj)) (σ : St) (H : Hp) (s : Shared) (e : Value) (s' : Shared), Inv X pins σ H s → CX X.stack H s E e s' → X.xe e s'

section
variable {X : Cx} {CX : CXT} {k : Nat} {f C : Addr} {fd : FuncData} {ps : List Str} {sp : Sp} {dvs : List V} {ds : List Value} {E : XK} {x m : Str} {p pos apos : Pos} {e o : Expr} {es : List Expr} {ta : TE} {t : TA}

/-- the callee runs -/
theorem run_fn {pins : List (Addr × Obj)} {σ : St} {H : Hp} {s : Shared} {Q : VK} {us : List Value} {vs : List V} (F : FnOk X.prog X.w X.K X.mg X.base CX k f fd ps sp) (hr : Room k X.A) (hb : Binds X.K fd ps ds) (hd : Vals dvs ds) (hx : Passes CX X E)
    (I : Inv X pins σ H s) (r : Vals vs us) (h : sp (vs ++ dvs) H Q E) : wpAny (model X.prog X.w) X.A (call (.ref f) us) (EP X pins σ Q) X.xe s := by
  have r2 : Vals (vs ++ dvs) (us ++ ds) := r.append hd
  have hl : (us ++ ds).length = ps.length := by rw [← r2.length]; exact F.len _ _ _ _ h
  refine wpAny_call (codeAny_mono (F.run X.A X.stack s H ⟨us, []⟩ (us ++ ds) (vs ++ dvs) Q E hr I.env0 (hb s us I.kIn hl) r2 h) fun r s' hq => ?_)
  cases r with
  | error e => exact hx pins σ H s e s' I hq
  | ok fl =>
    cases fl with
    | ret u => exact I.after hq
    | next => exact False.elim hq
    | brk => exact False.elim hq
    | cont => exact False.elim hq

theorem pe_call (F : FnOk X.prog X.w X.K X.mg X.base CX k f fd ps sp) (hr : Room k X.A) (hg : Gl X x) (hm : X.mg x = some (.ref f)) (hk : PySem.W.keepIn X.K (.ref f) = true) (hb : Binds X.K fd ps ds) (hd : Vals dvs ds) (hx : Passes CX X E)
    (ha : PA X (e :: es) t) (hdb : (x == ("__debug__" : Str)) = false := by decide) (he : starEach (e :: es) X.env = (false, eval e X.env) :: starEach es X.env := by rfl) (hpl : (backTo pos (starEach es X.env)).any (·.1) = false := by rfl) :
    PE X (.Call (.Name x p) (e :: es) [] pos) (tCall sp dvs E t) := by
  intro pins s σ H Q I h
  refine wpAny_Call_Name_kw (ld_glob I hg hm ?_ hdb)
  refine PySem.W.callWith_K (h₀ := X.base) I.ok.mod.kin hk (thn (ha pos pins s σ H _ I h) fun us s1 ⟨vs, H1, I1, r, q⟩ => ⟨I1.kIn, ?_⟩) he hpl
  exact run_fn F hr hb hd hx I1 r q
/-- what a class must have to be made -/
structure Mk (K : PySem.W.Frag) (C f : Addr) : Prop where
  makes : PySem.W.makesIn K C = true
  init : PySem.W.findIn K (.ref C) "__init__" = some (some (.ref f))
  fn : PySem.W.isFn K (.ref f) = true
  kp : PySem.W.keepIn K (.ref C) = true

end

/-! ### keywords -/
/-- the values of the keywords, from the left -/
noncomputable def PK (X : Cx) (kws : List Keyword) (t : TA) : Prop :=
  ∀ (pos : Pos) (pins : List (Addr × Obj)) (s : Shared) (σ : St) (H : Hp) (Q : List V → Hp → Prop), Inv X pins σ H s → t σ H Q → wpAny (model X.prog X.w) X.A (evalAll ((backToKw pos (keywordEach kws X.env)).map (·.2))) (AP X pins σ Q) X.xe s
section
variable {X : Cx} {CX : CXT} {k : Nat} {f C : Addr} {fd : FuncData} {ps ks : List Str} {sp : Sp} {E : XK} {x m : Str} {p pos apos kpos : Pos} {e o : Expr} {es : List Expr} {kws : List Keyword} {te ta : TE} {t tk : TA} {nm : Option Str}
theorem pk_nil : PK X [] tNil := fun _ _ _ _ H Q I h => wpAny_evalAll_nil ⟨[], H, I, .nil, h⟩
theorem pk_cons (ha : PE X e te) (hr : PK X kws t) : PK X (⟨nm, e, kpos⟩ :: kws) (tCons te t) := by
  intro pos pins s σ H Q I h
  show wpAny _ _ (evalAll ((do let v ← eval e X.env; standAt pos; pure v) :: (backToKw pos (keywordEach kws X.env)).map (·.2))) _ _ s
  refine wpAny_evalAll_cons (wpAny_bind (thn (ha pins s σ H _ I h) fun u s1 ⟨x, H1, I1, r1, q1⟩ => wpAny_bind (wpAny_standAt (wpAny_pure ?_))))
  exact thn (hr pos pins s1 σ H1 _ I1 q1) fun us s2 ⟨xs, H2, I2, r2, q2⟩ => ⟨x :: xs, H2, I2, .cons r1 r2, q2⟩

/-- how a call with keywords binds: g puts the positional values us and the keywords' values ws (names ks) in the parameters' order, defaults among them -/
structure KBinds (K : PySem.W.Frag) (fd : FuncData) (ps ks : List Str) (g : List Value → List Value → List Value) (gV : List V → List V → List V) : Prop where
  to : ∀ (s : Shared) (us ws : List Value), K.In s.heap → (g us ws).length = ps.length → BindsTo s fd ⟨us, ks.zip ws⟩ (ps.zip (g us ws))
  rel : ∀ {vs : List V} {us : List Value} {zs : List V} {ws : List Value}, Vals vs us → Vals zs ws → Vals (gV vs zs) (g us ws)
variable {g : List Value → List Value → List Value} {gV : List V → List V → List V}
end

/-! ### a def's body keeps its promise -/
/-- names: the parameters first -/
structure FnScope (N P : List Str) (sc : Scope) : Prop where
  kind : sc.kind = .function
  co : sc.isCoroutine = false
  gen : sc.isGenerator = false
  nd : N.Nodup
  pre : N.take P.length = P
  par : ∀ x ∈ P, sc.names.lookup x = some .local ∨ sc.names.lookup x = some .cell
  nofree : ∀ y ∈ sc.names, y.2 ≠ .free

theorem bindL_out {kindOf : Str → Option NameKind} {x : Str} : ∀ {binds : List (Str × Value)} {m : Str → Option Value}, (∀ v, (x, v) ∉ binds) → bindL kindOf binds m x = m x
  | [], _, _ => rfl
  | (n, v) :: r, m, h => by
    unfold bindL
    rw [bindL_out fun w hw => h w (List.mem_cons_of_mem _ hw)]
    split
    · have : x ≠ n := by rintro rfl; exact h v List.mem_cons_self
      simp [this]
    · rfl
theorem bindC_out {kindOf : Str → Option NameKind} {x : Str} : ∀ {binds : List (Str × Value)} {m : Str → Option Value}, (∀ v, (x, v) ∉ binds) → bindC kindOf binds m x = m x
  | [], _, _ => rfl
  | (n, v) :: r, m, h => by
    unfold bindC
    rw [bindC_out fun w hw => h w (List.mem_cons_of_mem _ hw)]
    split
    · rfl
    · have : x ≠ n := by rintro rfl; exact h v List.mem_cons_self
      simp [this]
theorem bindL_get {kindOf : Str → Option NameKind} {x : Str} {v : Value} : ∀ {P : List Str} {vs : List Value} {i : Nat} {m : Str → Option Value}, P.Nodup → P[i]? = some x → vs[i]? = some v → kindOf x = some .local →
    bindL kindOf (P.zip vs) m x = some v
  | [], _, _, _, _, h, _, _ => by simp at h
  | _ :: _, [], _, _, _, _, h, _ => by simp at h
  | p :: P, w :: vs, 0, m, nd, h1, h2, hk => by
    simp at h1 h2; subst h1; subst h2
    show bindL kindOf ((p, w) :: P.zip vs) m p = _
    unfold bindL
    rw [bindL_out fun v hv => (List.nodup_cons.mp nd).1 (List.of_mem_zip hv).1, if_pos hk]
    simp
  | p :: P, w :: vs, i + 1, m, nd, h1, h2, hk => by
    show bindL kindOf ((p, w) :: P.zip vs) m x = _
    unfold bindL
    exact bindL_get (i := i) (List.nodup_cons.mp nd).2 (by simpa using h1) (by simpa using h2) hk
theorem bindC_get {kindOf : Str → Option NameKind} {x : Str} {v : Value} : ∀ {P : List Str} {vs : List Value} {i : Nat} {m : Str → Option Value}, P.Nodup → P[i]? = some x → vs[i]? = some v → kindOf x ≠ some .local →
    bindC kindOf (P.zip vs) m x = some v
  | [], _, _, _, _, h, _, _ => by simp at h
  | _ :: _, [], _, _, _, _, h, _ => by simp at h
  | p :: P, w :: vs, 0, m, nd, h1, h2, hk => by
    simp at h1 h2; subst h1; subst h2
    show bindC kindOf ((p, w) :: P.zip vs) m p = _
    unfold bindC
    rw [bindC_out fun v hv => (List.nodup_cons.mp nd).1 (List.of_mem_zip hv).1, if_neg hk]
    simp
  | p :: P, w :: vs, i + 1, m, nd, h1, h2, hk => by
    show bindC kindOf ((p, w) :: P.zip vs) m x = _
    unfold bindC
    exact bindC_get (i := i) (List.nodup_cons.mp nd).2 (by simpa using h1) (by simpa using h2) hk

/-- the names' values at the entry -/
noncomputable def start (N : List Str) (vs : List V) : St := vs.map some ++ List.replicate (N.length - vs.length) none

/-- the context of a def's body, at its entry; an exception leaves the frame, then lies as CX says -/
noncomputable def cxOf (CX : CXT) (P : Program) (w : World) (K : PySem.W.Frag) (mg : Str → Option Value) (base : Heap) (N : List Str) (qual : Str) (scope : Scope) (f : Addr) (cd : Value) (A : Around) (outer : List Env) (s : Shared) (H : Hp) (E : XK) : Cx where
  prog := P
  w := w
  K := K
  mg := mg
  base := base
  A := A.deeper (envOfC qual scope s.heap.objs.size f cd)
  N := N
  s₀ := s
  H₀ := H
  env := envOfC qual scope s.heap.objs.size f cd
  outer := outer
  stack := envOfC qual scope s.heap.objs.size f cd :: outer
  ex := []
  calm := true
  fn := fun _ => true
  pn := []
  xe := fun e s' => wpAny (model P w) (A.deeper (envOfC qual scope s.heap.objs.size f cd)) (leaving (envOfC qual scope s.heap.objs.size f cd) e) (fun _ s'' => CX outer H s E e s'') (fun e' s'' => CX outer H s E e' s'') s'

theorem cell_has {sc : Scope} {n : Nat} {x : Str} (h : sc.names.lookup x = some .cell) : ∃ c, (cellsFrom n sc.names []).lookup x = some c := by
  have q := PySem.W.cellsFrom_some sc.names n [] (.inl h)
  exact Option.isSome_iff_exists.mp q

theorem inv_start {CX : CXT} {P : Program} {w : World} {K : PySem.W.Frag} {mg : Str → Option Value} {base : Heap} {N ps : List Str} {qual : Str} {scope : Scope} {f : Addr} {cd : Value} {A : Around} {outer : List Env} {s s1 : Shared} {H : Hp} {E : XK} {us : List Value} {vs : List V}
    (S : FnScope N ps scope) (hd : A.handled = none) (e0 : Env0 P w K mg base A outer s H) (hl : vs.length = ps.length) (r : Vals vs us)
    (x : InCallC s s.heap.objs.size (bindL (envOfC qual scope s.heap.objs.size f cd).kindOf (ps.zip us) fun _ => none) (cellsFrom (s.heap.objs.size + 1) scope.names []) (bindC (envOfC qual scope s.heap.objs.size f cd).kindOf (ps.zip us) fun _ => none) s1) :
    Inv (cxOf CX P w K mg base N qual scope f cd A outer s H E) [] (start N vs) H s1 := by
  have hpl : ps.length ≤ N.length := by have := congrArg List.length S.pre; rw [List.length_take] at this; omega
  obtain ⟨h1, tk, rfl, hk⟩ := x.done
  have noA : ∀ b : Addr, b ∉ (cxOf CX P w K mg base N qual scope f cd A outer s H E).ex := fun b z => absurd (show b ∈ ([] : List Addr) from z) (by simp)
  refine ⟨⟨e0.mod, S.kind, rfl, rfl, Nat.le_refl _, fun y z c h1 h2 => ?_, fun y hy => ?_, fun y c _ h => ?_, fun _ => hd, Around.frames_deeper e0.frames, .inr ⟨rfl, rfl⟩, fun b z => absurd z (noA b), e0.bs, e0.bsz, fun b _ _ => noA b, fun b z => absurd z (noA b), e0.funs, e0.frf⟩,
    rfl, e0.bare, Un.kept hk, ⟨_, x.toInCall.ns, fun i y v h1 h2 h3 => ?_⟩, fun y c h => ⟨_, x.cell y c h⟩, e0.hok.fresh (Nat.le_refl _), fun y c h => ?_, fun p hp => absurd (show p ∈ ([] : List (Addr × Obj)) from hp) (by simp), e0.hok.kept hk, ?_⟩
  · exact name_of_addr x.apart (PySem.mem_of_lookup h1) (PySem.mem_of_lookup h2)
  · have hy : scope.names.lookup y = some .cell ∨ scope.names.lookup y = some .free := hy
    rcases hy with hy | hy
    · exact cell_has hy
    · exact absurd rfl (S.nofree _ (PySem.mem_of_lookup hy))
  · exact Nat.le_of_lt (x.above y c (PySem.mem_of_lookup h))
  · have hi : i < vs.length := by
      unfold start at h2
      by_cases hi : i < vs.length
      · exact hi
      · rw [List.getElem?_append_right (by simpa using hi)] at h2
        rw [List.getElem?_replicate] at h2
        split at h2 <;> cases h2
    have ha : vs[i]? = some v := by
      unfold start at h2
      rw [List.getElem?_append_left (by simpa using hi), List.getElem?_map] at h2
      cases e : vs[i]? with
      | none => rw [e] at h2; cases h2
      | some a => rw [e] at h2; cases h2; rfl
    obtain ⟨u, hu, rv⟩ := r.get ha
    have hp : ps[i]? = some y := by
      rw [← S.pre, List.getElem?_take_of_lt (by omega)]; exact h1
    have ndP : ps.Nodup := by rw [← S.pre]; exact S.nd.sublist (List.take_sublist _ _)
    refine ⟨u, rv, ?_⟩
    rcases S.par y (List.mem_of_getElem? hp) with k | k
    · exact .inl ⟨k, bindL_get ndP hp hu k⟩
    · obtain ⟨c, e⟩ := cell_has (n := s.heap.objs.size + 1) k
      refine .inr ⟨.inl k, c, e, ?_⟩
      have q := x.cell y c e
      rw [bindC_get ndP hp hu (by show scope.names.lookup y ≠ _; rw [k]; decide)] at q
      exact q
  · exact e0.hok.fresh (Nat.le_of_lt (x.above y c (PySem.mem_of_lookup h)))
  · unfold start
    show _ = N.length
    rw [List.length_append, List.length_map, List.length_replicate]
    omega

/-- THE RULE: a def (or a method) of the text, by its body. The body's reading t is chosen for each entry; it is run at the parameters' values -/
theorem fn_of {CX : CXT} {P : Program} {w : World} {K : PySem.W.Frag} {mg : Str → Option Value} {base : Heap} {k : Nat} {f : Addr} {name qual : Str} {params : Arguments} {body : List Stmt} {scope : Scope} {dV kV doc pm cdv ct oc : Value} {an od : Option Addr}
    {osl : Array (Option Value)} {N ps : List Str} {sp : Sp} (lk : K.lookup f = some ⟨oc, od, .func (PySem.W.fnOf name qual params body scope dV kV doc pm an cdv ct), osl⟩) (hcd : PySem.W.codeIn K cdv qual = true) (S : FnScope N ps scope)
    (len : ∀ vs H Q E, sp vs H Q E → vs.length = ps.length)
    (hbody : ∀ (A : Around) (outer : List Env) (s : Shared) (H : Hp) (vs : List V) (Q : VK) (E : XK), Room k (A.deeper (envOfC qual scope s.heap.objs.size f cdv)) → sp vs H Q E →
      ∃ t, PSs (cxOf CX P w K mg base N qual scope f cdv A outer s H E) body t ∧ t { nx := fun _ H' => Q .non H', rt := Q } (start N vs) H) :
    FnOk P w K mg base CX (k + 1) f (PySem.W.fnOf name qual params body scope dV kV doc pm an cdv ct) ps sp := by
  refine ⟨len, fun A outer s H args us vs Q E hr e0 hb r hsp => ?_⟩
  have hl := len _ _ _ _ hsp
  have KX : K.In s.heap := e0.mod.kin.keeps fun b o e => (e0.bs b o e).1
  have lim : s.heap.NoLimit := e0.mod.nolimit.keeps fun b o e => (e0.bs b o e).1
  have hkind : ∀ y ∈ ps.zip us, scope.names.lookup y.1 = some .local ∨ (scope.names.lookup y.1 = some .cell ∧ ((cellsFrom (s.heap.objs.size + 1) scope.names []).lookup y.1).isSome = true) := fun ⟨n, v⟩ hy => by
    rcases S.par n (List.of_mem_zip hy).1 with q | q
    · exact .inl q
    · exact .inr ⟨q, PySem.W.cellsFrom_some _ _ _ (.inl q)⟩
  refine codeAny_call_function hr.depth (KX _ _ lk) rfl S.co S.gen rfl (PySem.W.codeRec_of KX hcd) (hb _ _ _ _ ?_)
  refine wpAny_newFunctionEnv_cells S.kind hkind fun env he s1 x => ?_
  subst he
  refine ⟨lim.keeps x.toInCall.keep, codeAny_func ?_⟩
  obtain ⟨t, ht, hq⟩ := hbody A outer s H vs Q E (hr.deeper _) hsp
  have I : Inv (cxOf CX P w K mg base N qual scope f cdv A outer s H E) [] (start N vs) H s1 := inv_start S hr.hd e0 hl r x
  refine wpAny_mono (ht [] s1 (start N vs) H _ I hq) (fun fl s' hs => ?_) fun e s' hs => hs
  have fin : ∀ {σ' : St} {H' : Hp} {v : V} {u : Value}, Inv (cxOf CX P w K mg base N qual scope f cdv A outer s H E) [] σ' H' s' → RelV v u → Q v H' → CE outer P w H s Q u s' :=
    fun {σ' H' v u} J rv q => ⟨v, H', J.os, J.bare, J.base, J.hok, rv, q⟩
  cases fl with
  | ret u =>
    obtain ⟨v, σ', H', J, rv, q⟩ := hs
    exact fin J rv q
  | next =>
    obtain ⟨σ', H', J, q⟩ := hs
    exact fin (v := V.non) (u := Value.none) J rfl q
  | brk =>
    obtain ⟨_, _, _, q⟩ := hs
    exact False.elim q
  | cont =>
    obtain ⟨_, _, _, q⟩ := hs
    exact False.elim q
end L2

namespace L2
open PySem PySem.Spec PyProof.Rows
section
variable {X : Cx} {x : Str} {p pos : Pos} {e : Expr} {es : List Expr} {t : TA} {id T : String} {r : List V → Hp → VK → Prop}

noncomputable def tCB (r : List V → Hp → VK → Prop) (t : TA) : TE := fun σ H Q => t σ H fun vs H1 => r vs H1 Q
/-- f(e, ..), f a built-in function -/
theorem pe_callB (hc : CallR X (.builtin id) r) (hg : Gl X x) (hm : X.mg x = none) (hv : bootBuiltins x = some (.builtin id)) (ha : PA X (e :: es) t) (hn : x ≠ "__name__" := by decide) (hdb : (x == ("__debug__" : Str)) = false := by decide)
    (he : starEach (e :: es) X.env = (false, eval e X.env) :: starEach es X.env := by rfl) (hpl : (backTo pos (starEach es X.env)).any (·.1) = false := by rfl) : PE X (.Call (.Name x p) (e :: es) [] pos) (tCB r t) := by
  intro pins s σ H Q I h
  refine wpAny_Call_Name_kw (ld_blt I hg hm hv ?_ hn hdb)
  exact PyProof.Rows.callWith_builtin1 (thn (ha pos pins s σ H _ I h) fun us s1 ⟨vs, H1, I1, r1, q1⟩ => hc pins s1 σ H1 vs us Q I1 r1 q1) he hpl
/-- T(e, ..), T a built-in type -/
theorem pe_callTy (hc : CallR X (.type T) r) (hg : Gl X x) (hm : X.mg x = none) (hv : bootBuiltins x = some (.type T)) (ha : PA X (e :: es) t) (hn : x ≠ "__name__" := by decide) (hdb : (x == ("__debug__" : Str)) = false := by decide)
    (he : starEach (e :: es) X.env = (false, eval e X.env) :: starEach es X.env := by rfl) (hpl : (backTo pos (starEach es X.env)).any (·.1) = false := by rfl) : PE X (.Call (.Name x p) (e :: es) [] pos) (tCB r t) := by
  intro pins s σ H Q I h
  refine wpAny_Call_Name_kw (ld_blt I hg hm hv ?_ hn hdb)
  exact PyProof.Rows.callWith_type1 (thn (ha pos pins s σ H _ I h) fun us s1 ⟨vs, H1, I1, r1, q1⟩ => hc pins s1 σ H1 vs us Q I1 r1 q1) he hpl
end
end L2

namespace HT
open PySem PyProof.Rows

section
open PySem.SeqAt
open PySem.AutoSeq1 (wpAny_loadPart')
open PySem.MeetsSeq PySem.MeetsSeq2 PySem.MeetsSeq3

end

section
variable {prog : Program} {w : World} {A : Around} {E : Value → Shared → Prop} {s : Shared}

/-- t + u, t not empty -/
theorem cat_tup {t b : Addr} {vs ws : List Value} {Q : Value → Shared → Prop} (ht : IsTup s.heap t vs.toArray) (hb : IsTup s.heap b ws.toArray) (hv : vs ≠ [])
    (h1 : ws = [] → Q (.ref t) s) (h2 : ws ≠ [] → Q (.ref s.heap.objs.size) { s with heap := s.heap.push { cls := .type "tuple", data := .seq (vs ++ ws).toArray } })
    (hsz : vs.length + ws.length ≤ sizeLine) : wpAny (model prog w) A (binaryOp .Add (.ref t) (.ref b)) Q E s := by
  obtain ⟨⟨cls, dd, data, sl⟩, ho, hc, n, hd⟩ := id ht
  obtain ⟨⟨cls2, dd2, data2, sl2⟩, ho2, hc2, n2, hd2⟩ := id hb
  simp only at hc hd hc2 hd2
  subst hc hd hc2 hd2
  have e : vs.toArray ++ ws.toArray = (vs ++ ws).toArray := by simp
  by_cases hw : ws = []
  · exact concat_meets ⟨_, ho, rfl⟩ ⟨_, ho2, rfl⟩ noFill_tuple_add seq_tuple_add PySem.F.slot_tuple_add PySem.F.entry_tuple_add (PySem.F.args_tuple_add_2 _ _)
      (tuple_addW1 t b vs.toArray ws.toArray n n2 dd dd2 sl sl2 (by simpa using hv) (by simp [hw])) ⟨ho, ho2, h1 hw⟩
  · refine concat_meets ⟨_, ho, rfl⟩ ⟨_, ho2, rfl⟩ noFill_tuple_add seq_tuple_add PySem.F.slot_tuple_add PySem.F.entry_tuple_add (PySem.F.args_tuple_add_2 _ _)
      (tuple_addW2 t b vs.toArray ws.toArray n n2 dd dd2 sl sl2 (by simpa using hv) (by simpa using hw) (by rw [List.size_toArray, List.size_toArray]; exact hsz)) ⟨ho, ho2, ?_⟩
    rw [e]
    exact h2 hw

/-! ### t[a:b], not the whole -/
/-- a slice's bound as a place among n (d where it is left out) -/
noncomputable def sIx (n d : Nat) : Option Int → Nat
  | none => d
  | some v => if v < 0 then (v + (n : Int)).toNat else min v.toNat n
theorem sIx_le (n d : Nat) (hd : d ≤ n) (o : Option Int) : sIx n d o ≤ n := by
  cases o with
  | none => exact hd
  | some v =>
    show (if v < 0 then (v + (n : Int)).toNat else min v.toNat n) ≤ n
    by_cases hv : v < 0
    · rw [if_pos hv]; omega
    · rw [if_neg hv]; exact Nat.min_le_right _ _
theorem clip_eq (v : Int) (n d : Nat) : (if v < 0 then max (v + (n : Int)) 0 else min v (n : Int)) = ((sIx n d (some v) : Nat) : Int) := by
  show (if v < 0 then max (v + (n : Int)) 0 else min v (n : Int)) = (((if v < 0 then (v + (n : Int)).toNat else min v.toNat n) : Nat) : Int)
  by_cases hv : v < 0
  · simp only [if_pos hv]; omega
  · simp only [if_neg hv]; omega
theorem adjust_gen (lo hi : Option Int) (n : Nat) : Builtin.Slice.sliceAdjust lo hi 1 (n : Int) = (((sIx n 0 lo : Nat) : Int), ((sIx n n hi : Nat) : Int)) := by
  have h1 : ¬ ((1 : Int) < 0) := by omega
  unfold Builtin.Slice.sliceAdjust
  simp only [h1, if_false]
  refine Prod.ext ?_ ?_
  · cases lo with
    | none => rfl
    | some v => exact clip_eq v n 0
  · cases hi with
    | none => rfl
    | some v => exact clip_eq v n n
theorem places_gen (i j : Nat) : Builtin.Slice.slicePlaces (i : Int) (j : Int) 1 = j - i := by
  unfold Builtin.Slice.slicePlaces
  have h1 : (1 : Int) > 0 := by omega
  simp only [h1, if_true, Int.ediv_one]
  split <;> omega
theorem slicePart_ {v : Value} {o : Option Int} {Q : Option Int → Shared → Prop} (p : IsPart v o) (h : Q o s) : wpAny (model prog w) A (Builtin.Slice.slicePartIndex v) Q E s := by
  cases p with
  | none => exact slicePart_none h
  | int i t => exact slicePart_int h
theorem sliceApplied_gen {sl : Addr} {vl vu : Value} {lo hi : Option Int} {n : Nat} {Q : Int × Int × Nat → Shared → Prop} (hs : s.heap.IsSliceOf sl vl vu .none) (pl : IsPart vl lo) (pu : IsPart vu hi)
    (h : Q (((sIx n 0 lo : Nat) : Int), 1, sIx n n hi - sIx n 0 lo) s) : wpAny (model prog w) A (Builtin.Slice.sliceApplied (.ref sl) (pure (n : Int))) Q E s := by
  obtain ⟨os, hos, hcs, hds⟩ := id hs
  unfold Builtin.Slice.sliceApplied Builtin.Slice.sliceFields
  refine wpAny_bind (wpAny_bind (wpAny_field hos hds (x := vl) rfl (wpAny_bind (wpAny_field hos hds (x := vu) rfl (wpAny_bind (wpAny_field hos hds (x := .none) rfl (wpAny_pure ?_)))))))
  refine wpAny_bind (slicePart_none ?_)
  show wpAny _ _ (if ((1 : Int) == 0) = true then _ else _) _ _ s
  rw [if_neg (by decide)]
  refine wpAny_bind (slicePart_ pl (wpAny_bind (slicePart_ pu (wpAny_bind (wpAny_pure ?_)))))
  show wpAny _ _ (match Builtin.Slice.sliceAdjust lo hi 1 (n : Int) with | (lo, hi) => pure (lo, (1 : Int), Builtin.Slice.slicePlaces lo hi 1)) _ _ s
  rw [adjust_gen lo hi n]
  show wpAny _ _ (pure (((sIx n 0 lo : Nat) : Int), (1 : Int), Builtin.Slice.slicePlaces ((sIx n 0 lo : Nat) : Int) ((sIx n n hi : Nat) : Int) 1)) _ _ s
  rw [places_gen]
  exact wpAny_pure h
theorem pick_gen (xs : Array Value) (i k : Nat) : ((List.range k).filterMap fun (m : Nat) => xs[((i : Int) + (m : Int) * 1).toNat]?).toArray = ((xs.toList.drop i).take k).toArray := by
  have e : (fun (m : Nat) => xs[((i : Int) + (m : Int) * 1).toNat]?) = fun m => xs[i + m]? := by
    funext m
    have : ((i : Int) + (m : Int) * 1).toNat = i + m := by omega
    rw [this]
  rw [e]
  have := pick_run xs i k
  rw [List.filterMap_map] at this
  have e2 : ((fun x => xs[x]?) ∘ fun x => i + x) = fun m => xs[i + m]? := rfl
  rw [e2] at this
  rw [this]

theorem getItem_tuple_cut {t sl : Addr} {items : Array Value} {vl vu : Value} {lo hi : Option Int} {Q : Value → Shared → Prop} (ht : IsTup s.heap t items) (hs : s.heap.IsSliceOf sl vl vu .none) (pl : IsPart vl lo) (pu : IsPart vu hi)
    (hw : ¬ (sIx items.size 0 lo = 0 ∧ sIx items.size items.size hi = items.size))
    (h : Q (.ref s.heap.objs.size) { s with heap := s.heap.push { cls := .type "tuple", data := .seq ((items.toList.drop (sIx items.size 0 lo)).take (sIx items.size items.size hi - sIx items.size 0 lo)).toArray } })
    (hsz : items.size ≤ sizeLine) : wpAny (model prog w) A (getItem (.ref t) (.ref sl)) Q E s := by
  have htake : sizeOk (.seq ((items.toList.drop (sIx items.size 0 lo)).take (sIx items.size items.size hi - sIx items.size 0 lo)).toArray) := by
    show ((items.toList.drop (sIx items.size 0 lo)).take (sIx items.size items.size hi - sIx items.size 0 lo)).toArray.size ≤ sizeLine
    rw [List.size_toArray, List.length_take, List.length_drop, Array.length_toList]
    omega
  have hj : sIx items.size items.size hi ≤ items.size := sIx_le _ _ (Nat.le_refl _) hi
  obtain ⟨os, hos, hcs, hds⟩ := id hs
  have hTs : s.TypeIs (.ref sl) "slice" := ⟨os, hos, hcs⟩
  unfold getItem
  try with_reducible refine wpAny_holding ?_
  first | refine wpAny_bind (wpAny_pure ?_) | skip
  refine wpAny_bind (wpAny_sequenceKey ht.typeIs (by decide) ?_)
  refine wpAny_bind (wpAny_callSpecial?_slot (name := Str.ofString "__getitem__") ht.typeIs PyProof.Rows.slot_tuple_getitem
    (wpAny_call_entry PyProof.Rows.slot_tuple_getitem ht.typeIs entry_tuple_getitem ?_ (args_tuple_getitem _ _)))
  show wpAny _ _ (Builtin.Tuple.tupleItemsOf (.ref t) >>= _) _ _ s
  refine wpAny_bind (tupleItemsOf_ ht ?_)
  refine wpAny_bind (wpAny_typeOf hTs ?_)
  rw [if_pos (by decide)]
  refine wpAny_bind (sliceApplied_gen hs pl pu ?_)
  have hno : ¬ ((((sIx items.size 0 lo : Nat) : Int) == 0 && (1 : Int) == 1 && (sIx items.size items.size hi - sIx items.size 0 lo) == items.size) = true) := by
    intro q
    rw [Bool.and_eq_true, Bool.and_eq_true] at q
    have q1 : ((sIx items.size 0 lo : Nat) : Int) = 0 := eq_of_beq q.1.1
    have q2 : sIx items.size items.size hi - sIx items.size 0 lo = items.size := eq_of_beq q.2
    exact hw ⟨by omega, by omega⟩
  show wpAny _ _ (if (((sIx items.size 0 lo : Nat) : Int) == 0 && (1 : Int) == 1 && (sIx items.size items.size hi - sIx items.size 0 lo) == items.size) = true then _ else _) _ _ s
  rw [if_neg hno, pick_gen]
  first
    | exact wpAny_bind (m := Builtin.Tuple.tupleExact _) (wpAny_newObj_type (wpAny_pure ⟨_, rfl, wpAny_pure h⟩) htake)
    | exact wpAny_bind (m := Builtin.Tuple.tupleExact _) (wpAny_newObj_type (wpAny_bind (wpAny_pure (wpAny_pure ⟨_, rfl, wpAny_pure h⟩))) htake)
    | exact wpAny_bind (wpAny_bind (m := Builtin.Tuple.tupleExact _) (wpAny_newObj_type (wpAny_pure (wpAny_pure ⟨_, rfl, wpAny_pure h⟩)) htake))
    | exact wpAny_bind (wpAny_bind (m := Builtin.Tuple.tupleExact _) (wpAny_newObj_type (wpAny_pure ⟨_, rfl, wpAny_pure h⟩) htake))
end
end HT

namespace L2
open PySem PySem.Spec PyProof.Rows

/-! ### the parts of a slice -/
noncomputable abbrev TO := St → Hp → (Option Int → Hp → Prop) → Prop
/-- a slice's part (left out, or an int) -/
noncomputable def PO (X : Cx) (e : Option Expr) (t : TO) : Prop :=
  ∀ (pins : List (Addr × Obj)) (s : Shared) (σ : St) (H : Hp) (Q : Option Int → Hp → Prop), Inv X pins σ H s → t σ H Q →
    wpAny (model X.prog X.w) X.A (evalPart e X.env) (fun u s' => ∃ o H', Inv X pins σ H' s' ∧ IsPart u o ∧ Q o H') X.xe s
noncomputable def tNoPart : TO := fun _ H Q => Q none H
noncomputable def tPart (t : TE) : TO := fun σ H Q => t σ H fun x H1 => ∃ i, x = .int i ∧ Q (some i) H1

section
variable {X : Cx} {e : Expr} {te : TE} {lo hi : Option Expr} {tl th : TO} {pos p2 : Pos}

theorem po_none : PO X none tNoPart := by
  intro pins s σ H Q I h
  rw [evalPart_none]
  exact wpAny_pure ⟨none, H, I, .none, h⟩
theorem po_some (h : PE X e te) : PO X (some e) (tPart te) := by
  intro pins s σ H Q I hw
  rw [evalPart_some]
  refine thn (h pins s σ H _ I hw) fun u s1 ⟨x, H1, I1, r1, q1⟩ => ?_
  obtain ⟨i, rfl, q⟩ := q1
  obtain ⟨t, rfl⟩ := r1
  exact ⟨some i, H1, I1, .int i t, q⟩

/-- what a slice of a value is, by values: the slice object stands at sl -/
noncomputable def SlR (X : Cx) (r : V → Option Int → Option Int → Hp → VK → Prop) : Prop :=
  ∀ (pins : List (Addr × Obj)) (s : Shared) (σ : St) (H : Hp) (x : V) (v vl vu : Value) (lo hi : Option Int) (sl : Addr) (Q : VK), Inv X pins σ H s → RelV x v → s.heap.IsSliceOf sl vl vu .none → IsPart vl lo → IsPart vu hi → r x lo hi H Q →
    ∃ T id, typeLookup (.type T) "__getitem__" = pure (some (.builtin id)) ∧ s.TypeIs v T ∧ wpAny (model X.prog X.w) X.A (getItem v (.ref sl)) (EP X pins σ Q) X.xe s
theorem SlR.or {r r' : V → Option Int → Option Int → Hp → VK → Prop} (h : SlR X r) (h' : SlR X r') : SlR X (fun x lo hi H Q => r x lo hi H Q ∨ r' x lo hi H Q) := by
  intro pins s σ H x v vl vu lo hi sl Q I rx hs pl pu q
  rcases q with q | q
  · exact h pins s σ H x v vl vu lo hi sl Q I rx hs pl pu q
  · exact h' pins s σ H x v vl vu lo hi sl Q I rx hs pl pu q
noncomputable def tSl (r : V → Option Int → Option Int → Hp → VK → Prop) (te : TE) (tl th : TO) : TE := fun σ H Q => te σ H fun x H1 => tl σ H1 fun l H2 => th σ H2 fun u H3 => r x l u H3 Q
/-- a[lo:hi], any a -/
theorem pe_slice {r : V → Option Int → Option Int → Hp → VK → Prop} (hr : SlR X r) (he : PE X e te) (hl : PO X lo tl) (hu : PO X hi th) : PE X (.Subscript e (.Slice lo hi none p2) pos) (tSl r te tl th) := by
  intro pins s σ H Q I h
  refine Subscript_ (thn (he pins s σ H _ I h) fun v s1 ⟨x, H1, I1, r1, q1⟩ => ?_)
  refine wpAny_Slice (thn (hl pins s1 σ H1 _ I1 q1) fun vl s2 ⟨l, H2, I2, pl, q2⟩ => thn (hu pins s2 σ H2 _ I2 q2) fun vu s3 ⟨u, H3, I3, pu, q3⟩ => ?_)
  rw [evalPart_none]
  refine wpAny_pure ?_
  have I4 : Inv X pins σ H3 { s3 with heap := s3.heap.push { cls := .type "slice", data := .fields #[vl, vu, .none] } } := I3.kept (t' := s3.toks) fun b ob q => Heap.get?_push_of_some _ q
  obtain ⟨T, id, hT, ht, hg⟩ := hr pins { s3 with heap := s3.heap.push { cls := .type "slice", data := .fields #[vl, vu, .none] } } σ H3 x v vl vu l u s3.heap.objs.size Q I4 r1 (Heap.IsSliceOf.new ..) pl pu q3
  show wpAny (model X.prog X.w) X.A (subscriptTail e (.Slice lo hi none p2) v (.ref s3.heap.objs.size)) (EP X pins σ Q) X.xe { s3 with heap := s3.heap.push { cls := .type "slice", data := .fields #[vl, vu, .none] } }
  exact tail_any (ops := [.ref s3.heap.objs.size, v]) ht hT hg (by with_unfolding_all rfl)

/-- the items of xs[lo:hi] -/
noncomputable def cutV (xs : List V) (lo hi : Option Int) : List V := (xs.drop (HT.sIx xs.length 0 lo)).take (HT.sIx xs.length xs.length hi - HT.sIx xs.length 0 lo)
theorem cutV_length (xs : List V) (lo hi : Option Int) : (cutV xs lo hi).length ≤ xs.length := by
  unfold cutV
  rw [List.length_take, List.length_drop]
  omega
/-- t[lo:hi], not the whole of it (the whole would be t itself) -/
noncomputable def rSlT (K : PySem.W.Frag) : V → Option Int → Option Int → Hp → VK → Prop := fun x lo hi H Q => ∃ a xs, x = .ref a ∧ SqT K H a xs ∧
  ¬ (HT.sIx xs.length 0 lo = 0 ∧ HT.sIx xs.length xs.length hi = xs.length) ∧ ∀ p, H p = none → Q (.ref p) (upd H p (.tup (cutV xs lo hi)))
theorem sl_tup : SlR X (rSlT X.K) := by
  intro pins s σ H x v vl vu lo hi sl Q I rx hs pl pu h
  obtain ⟨a, xs, rfl, hx, hw, q⟩ := h
  cases rx
  obtain ⟨its, r, ht, hz⟩ := I.tuple hx
  have hlen : its.toArray.size = xs.length := by rw [List.size_toArray]; exact r.length.symm
  refine ⟨"tuple", _, PyProof.Rows.slot_tuple_getitem.lookup, ht.typeIs, ?_⟩
  refine HT.getItem_tuple_cut ht hs pl pu (by rw [hlen]; exact hw) ?_ (by rw [hlen]; exact hz)
  rw [hlen]
  refine ⟨.ref s.heap.objs.size, _, I.laid (t' := s.toks) (o := .tup (cutV xs lo hi)) (fun b ob q => Heap.get?_push_of_some _ q) (Nat.le_refl _) ?_, rfl, q _ (I.hok.fresh (Nat.le_refl _))⟩
  exact ⟨Nat.le_trans (cutV_length xs lo hi) hz, _, (r.drop (HT.sIx xs.length 0 lo)).take (HT.sIx xs.length xs.length hi - HT.sIx xs.length 0 lo), IsTup.new _ _⟩

/-! ### t < u, t + u -/
/-- t + u, t not empty: u empty gives t itself -/
noncomputable def rCatT (K : PySem.W.Frag) : R2 := fun x y H Q => ∃ a b xs ys, x = .ref a ∧ y = .ref b ∧ SqT K H a xs ∧ SqT K H b ys ∧ xs ≠ [] ∧ xs.length + ys.length ≤ sizeLine ∧
  (ys = [] → Q (.ref a) H) ∧ (ys ≠ [] → ∀ p, H p = none → Q (.ref p) (upd H p (.tup (xs ++ ys))))
theorem Vals.nil_iff {xs : List V} {us : List Value} (r : Vals xs us) : us = [] ↔ xs = [] := by
  cases r with
  | nil => simp
  | cons _ _ => simp
theorem op_catT : OpR X (binaryOp .Add) (rCatT X.K) := by
  intro pins s σ H x y v u Q I rx ry h
  obtain ⟨a, b, xs, ys, rfl, rfl, ha, hb, hx, hz, q1, q2⟩ := h
  cases rx
  cases ry
  obtain ⟨its, r1, p1, _⟩ := I.tuple ha
  obtain ⟨its2, r2, p2, _⟩ := I.tuple hb
  refine HT.cat_tup p1 p2 (fun z => hx (r1.nil_iff.mp z)) (fun z => ⟨.ref a, H, I, rfl, q1 (r2.nil_iff.mp z)⟩) (fun z => ?_) (by rw [← r1.length, ← r2.length]; exact hz)
  refine ⟨.ref s.heap.objs.size, _, I.laid (t' := s.toks) (o := .tup (xs ++ ys)) (fun b ob q => Heap.get?_push_of_some _ q) (Nat.le_refl _) ?_, rfl, q2 (fun w => z (r2.nil_iff.mpr w)) _ (I.hok.fresh (Nat.le_refl _))⟩
  exact ⟨by rw [List.length_append]; exact hz, _, r1.append r2, IsTup.new _ _⟩
end
end L2

namespace L2
open PySem PySem.Spec PyProof.Rows

/-! ### places -/
/-- the place that an index of any sign means -/
noncomputable def ixN (n : Nat) (i : Int) : Option Nat := if 0 ≤ i then (if i < n then some i.toNat else none) else if -(n : Int) ≤ i then some (i + n).toNat else none
noncomputable def atI {α : Type} (xs : List α) (i : Int) : Option α := (ixN xs.length i).bind fun j => xs[j]?
theorem ixN_seq {n : Nat} {i : Int} {j : Nat} (h : ixN n i = some j) : seqIndex? i n = some j ∧ j < n ∧ -(n : Int) ≤ i ∧ i < n := by
  unfold ixN at h
  by_cases h0 : 0 ≤ i
  · rw [if_pos h0] at h
    by_cases h1 : i < n
    · rw [if_pos h1] at h
      have e : i.toNat = j := Option.some.inj h
      exact ⟨by rw [seqIndex_of h0 h1, e], by omega, by omega, h1⟩
    · rw [if_neg h1] at h; cases h
  · rw [if_neg h0] at h
    by_cases h1 : -(n : Int) ≤ i
    · rw [if_pos h1] at h
      have e : (i + n).toNat = j := Option.some.inj h
      exact ⟨by rw [seqIndex_neg (by omega) h1, e], by omega, h1, by omega⟩
    · rw [if_neg h1] at h; cases h
theorem atI_get {α : Type} {xs : List α} {i : Int} {v : α} (h : atI xs i = some v) : ∃ j, seqIndex? i xs.length = some j ∧ xs[j]? = some v ∧ j < xs.length ∧ -(xs.length : Int) ≤ i ∧ i < xs.length := by
  unfold atI at h
  cases e : ixN xs.length i with
  | none => rw [e] at h; cases h
  | some j =>
    rw [e] at h
    obtain ⟨h1, h2, h3, h4⟩ := ixN_seq e
    exact ⟨j, h1, h, h2, h3, h4⟩
theorem atI_nat {α : Type} {xs : List α} {j : Nat} {v : α} (h : xs[j]? = some v) : atI xs (j : Int) = some v := by
  have hj : j < xs.length := (List.getElem?_eq_some_iff.mp h).1
  have e : ixN xs.length (j : Int) = some j := by
    unfold ixN
    rw [if_pos (by omega), if_pos (by omega)]; simp
  unfold atI; rw [e]; exact h
/-! ### what may be subscripted -/
/-- what stands as an index of a plain subscript -/
noncomputable def PlainIx (b : Expr) : Prop := ∀ o i, subscripted b false o i = operate [o, i] (getItem o i)
/-- a subscript by values -/
noncomputable def IxR (X : Cx) (r : R2) : Prop :=
  ∀ (value slice : Expr) (pins : List (Addr × Obj)) (s : Shared) (σ : St) (H : Hp) (x y : V) (v u : Value) (Q : VK), Inv X pins σ H s → RelV x v → RelV y u → r x y H Q →
    subscripted slice false v u = operate [v, u] (getItem v u) → wpAny (model X.prog X.w) X.A (subscriptTail value slice v u) (EP X pins σ Q) X.xe s
/-- a call of a builtin's method by values: the receiver, the arguments -/
noncomputable def MtR (X : Cx) (id : String) (r : V → List V → Hp → VK → Prop) : Prop :=
  ∀ (pins : List (Addr × Obj)) (s : Shared) (σ : St) (H : Hp) (x : V) (xs : List V) (v : Value) (us : List Value) (Q : VK), Inv X pins σ H s → RelV x v → Vals xs us → r x xs H Q →
    wpAny (model X.prog X.w) X.A (call (.builtin id) (v :: us)) (EP X pins σ Q) X.xe s
section
variable {X : Cx} {a b : Expr} {ta tb : TE} {pos : Pos}
theorem IxR.or {r r' : R2} (h : IxR X r) (h' : IxR X r') : IxR X (fun x y H Q => r x y H Q ∨ r' x y H Q) := by
  intro value slice pins s σ H x y v u Q I rx ry q hs
  rcases q with q | q
  · exact h value slice pins s σ H x y v u Q I rx ry q hs
  · exact h' value slice pins s σ H x y v u Q I rx ry q hs
/-- a[b] -/
theorem pe_ix {r : R2} (hr : IxR X r) (ha : PE X a ta) (hb : PE X b tb) (hs : PlainIx b) : PE X (.Subscript a b pos) (tOp r ta tb) := by
  intro pins s σ H Q I h
  exact Subscript_ (binT ha hb I h fun v u s2 x y H2 I2 rx ry q => hr a b pins s2 σ H2 x y v u Q I2 rx ry q (hs _ _))

noncomputable def rIxL (K : PySem.W.Frag) : R2 := fun x y H Q => ∃ p xs i v, x = .ref p ∧ y = .int i ∧ SqL K H p xs ∧ atI xs i = some v ∧ Q v H
noncomputable def rIxT (K : PySem.W.Frag) : R2 := fun x y H Q => ∃ p xs i v, x = .ref p ∧ y = .int i ∧ SqT K H p xs ∧ atI xs i = some v ∧ Q v H
noncomputable def rIxS : R2 := fun x y H Q => ∃ z i c, x = .str z ∧ y = .int i ∧ z.length ≤ sizeLine ∧ atI z.cps.toList i = some c ∧ Q (.str ⟨#[c]⟩) H
theorem ix_list : IxR X (rIxL X.K) := by
  intro value slice pins s σ H x y v u Q I rx ry h hs
  obtain ⟨p, xs, i, z, rfl, rfl, hq, he, q⟩ := h
  cases rx
  obtain ⟨t, rfl⟩ := ry
  obtain ⟨its, r, pl, hz⟩ := I.list hq
  obtain ⟨j, h1, h2, h3, h4, h5⟩ := atI_get he
  obtain ⟨w, ew, rw'⟩ := r.get h2
  have hl := r.length
  have hn := line63
  have fin : EP X pins σ Q w s := ⟨z, H, I, rw', q⟩
  by_cases h0 : 0 ≤ i
  · have hj : i.toNat = j := by
      rw [seqIndex_of h0 h5] at h1
      exact Option.some.inj h1
    exact item_listR pl.isList h0 (by omega) (by rw [hj]; simpa using ew) fin hs
  · have hj : (i + (its.toArray.size : Int)).toNat = j := by
      rw [seqIndex_neg (by omega) h4] at h1
      rw [List.size_toArray, ← hl]
      exact Option.some.inj h1
    exact subscriptTail_builtinR (x := w) pl.isList.typeIs slot_list_getitem.lookup
      (wpAny_getItem_list_neg (Q := fun r s' => r = w ∧ EP X pins σ Q r s') pl.isList (by omega) (by rw [List.size_toArray] <;> omega) (by omega) (by rw [hj]; simpa using ew) ⟨rfl, fin⟩) hs
theorem ix_tup : IxR X (rIxT X.K) := by
  intro value slice pins s σ H x y v u Q I rx ry h hs
  obtain ⟨p, xs, i, z, rfl, rfl, hq, he, q⟩ := h
  cases rx
  obtain ⟨t, rfl⟩ := ry
  obtain ⟨its, r, pl, hz⟩ := I.tuple hq
  obtain ⟨j, h1, h2, h3, h4, h5⟩ := atI_get he
  obtain ⟨w, ew, rw'⟩ := r.get h2
  have hl := r.length
  have hn := line63
  have fin : EP X pins σ Q w s := ⟨z, H, I, rw', q⟩
  exact subscriptTail_builtinR (x := w) pl.typeIs slot_tuple_getitem.lookup
    (getItem_tuple (j := j) (Q := fun r s' => r = w ∧ EP X pins σ Q r s') pl (by omega) (by omega) (by rw [List.size_toArray, ← hl]; exact h1) (by simpa using ew) ⟨rfl, fin⟩) hs
theorem ix_str : IxR X rIxS := by
  intro value slice pins s σ H x y v u Q I rx ry h hs
  obtain ⟨z, i, c, rfl, rfl, hz, he, q⟩ := h
  obtain ⟨t, rfl⟩ := rx
  obtain ⟨t', rfl⟩ := ry
  obtain ⟨j, h1, h2, h3, h4, h5⟩ := atI_get he
  have hl : z.cps.toList.length = z.length := by simp [Str.length]
  rw [hl] at h1 h4 h5
  have hn := line63
  exact tail_any (typeIs_str s z t) slot_str_getitem.lookup (getItem_str (c := c) (by
    have e1 : decide (i < -(2 ^ 63 : Int)) = false := decide_eq_false (by omega)
    have e2 : decide (i ≥ 2 ^ 63) = false := decide_eq_false (by omega)
    rw [e1, e2, Bool.or_false]) (by rw [h1]; simpa using h2) ⟨.str ⟨#[c]⟩, H, I.tok _, ⟨_, rfl⟩, q⟩) hs
/-- list, tuple or str -/
noncomputable def rIx (K : PySem.W.Frag) : R2 := fun x y H Q => rIxL K x y H Q ∨ rIxT K x y H Q ∨ rIxS x y H Q
theorem ix_seq : IxR X (rIx X.K) := ix_list.or (ix_tup.or ix_str)

/-! ### xs[i] = v, any sign -/
/-- the list's object behind a store -/
theorem mapSeq_set (its : List Value) (n j : Nat) (u : Value) : Obj.mapSeq (·.setIfInBounds j u) { cls := .type "list", data := .seq its.toArray n } = { cls := .type "list", data := .seq (its.set j u).toArray n } := by
  simp [Obj.mapSeq]
theorem Inv.lst {pins : List (Addr × Obj)} {σ : St} {H : Hp} {s : Shared} {p : Addr} {xs : List V} (I : Inv X pins σ H s) (h : H p = some (.lst xs)) :
    ∃ (its : List Value) (n : Nat), Vals xs its ∧ s.heap.get? p = some { cls := .type "list", data := .seq its.toArray n } ∧ xs.length ≤ sizeLine := by
  obtain ⟨z, its, n, r, e⟩ := I.hok p _ h
  exact ⟨its, n, r, e, z⟩
/-- the list at p is written by an update of its object -/
theorem Inv.lstUpd {pins : List (Addr × Obj)} {σ : St} {H : Hp} {s : Shared} {p : Addr} {xs ys : List V} {its its' : List Value} {n n' : Nat} {f : Obj → Obj} (I : Inv X pins σ H s) (h : H p = some (.lst xs))
    (ho : s.heap.get? p = some { cls := .type "list", data := .seq its.toArray n }) (hf : f { cls := .type "list", data := .seq its.toArray n } = { cls := .type "list", data := .seq its'.toArray n' }) (r : Vals ys its') (hz : ys.length ≤ sizeLine) (t : Nat) :
    Inv X pins σ (upd H p (.lst ys)) { s with heap := s.heap.update p f, toks := t } := by
  have e : (s.heap.update p f).get? p = some { cls := .type "list", data := .seq its'.toArray n' } := by
    rw [Heap.get?_update_self f ho (by rw [hf] <;> rfl), hf]
  refine I.write (x := p) (e := p) (by rw [h]; trivial) (.inl rfl) (fun b u hb q => (Heap.get?_update_other _ _ (Ne.symm hb)).trans q) ⟨_, e⟩ ?_
  exact ⟨hz, its', n', r, e⟩
noncomputable def rSetL : V → V → V → Hp → (Hp → Prop) → Prop := fun o i v H Q => ∃ p xs k j, o = .ref p ∧ i = .int k ∧ H p = some (.lst xs) ∧ ixN xs.length k = some j ∧ Q (upd H p (.lst (xs.set j v)))
theorem set_list : PSet X rSetL := by
  intro pins s σ H o i v ov iv u Q I ro ri rv h
  obtain ⟨p, xs, k, j, rfl, rfl, hp, hj, q⟩ := h
  cases ro
  obtain ⟨t, rfl⟩ := ri
  obtain ⟨its, n, r, ho, hz⟩ := I.lst hp
  obtain ⟨h1, h2, h3, h4⟩ := ixN_seq hj
  have hl := r.length
  have hn := line63
  have I' : Inv X pins σ (upd H p (.lst (xs.set j v))) { s with heap := s.heap.update p (Obj.mapSeq (·.setIfInBounds j u)) } :=
    I.lstUpd hp ho (mapSeq_set its n j u) (r.set rv j) (by rw [List.length_set]; exact hz) s.toks
  by_cases h0 : 0 ≤ k
  · have hk : k.toNat = j := by
      rw [seqIndex_of h0 h4] at h1
      exact Option.some.inj h1
    exact PySem.W.ki_setAt ho h0 (by omega) (by rw [List.size_toArray, ← hl]; exact h4) (by rw [hk]; exact ⟨_, I', q⟩)
  · have hk : (k + (its.toArray.size : Int)).toNat = j := by
      rw [seqIndex_neg (by omega) h3] at h1
      rw [List.size_toArray, ← hl]
      exact Option.some.inj h1
    exact PySem.W.ki_setBack ho (by omega) (by rw [List.size_toArray, ← hl]; exact h3) (by omega) (by rw [hk]; exact ⟨_, I', q⟩)

/-! ### slices -/
theorem slice_bounds (lo hi : Option Int) (n : Nat) : (sliceBounds lo hi none n).1 = ((HT.sIx n 0 lo : Nat) : Int) ∧ (sliceBounds lo hi none n).2.1 = ((HT.sIx n n hi : Nat) : Int) ∧ (sliceBounds lo hi none n).2.2 = 1 := by
  refine ⟨?_, ?_, rfl⟩
  · cases lo with
    | none => simp [sliceBounds, HT.sIx]
    | some i =>
      simp only [sliceBounds, HT.sIx, Option.getD_none, show (1 : Int) > 0 by decide, if_true]
      by_cases h : i < 0
      · simp only [h, if_true] <;> omega
      · simp only [h, if_false] <;> omega
  · cases hi with
    | none => simp [sliceBounds, HT.sIx]
    | some i =>
      simp only [sliceBounds, HT.sIx, Option.getD_none, show (1 : Int) > 0 by decide, if_true]
      by_cases h : i < 0
      · simp only [h, if_true] <;> omega
      · simp only [h, if_false] <;> omega
theorem slicePick_cut (its : List Value) (lo hi : Option Int) : slicePick its.toArray lo hi none = ((its.drop (HT.sIx its.length 0 lo)).take (HT.sIx its.length its.length hi - HT.sIx its.length 0 lo)).toArray := by
  obtain ⟨h1, h2, h3⟩ := slice_bounds lo hi its.toArray.size
  unfold slicePick
  rw [h1, h2, h3]
  simp only [sliceRange_one, pick_run, List.size_toArray] <;> rfl
/-- xs[lo:hi] of a list: a new list -/
noncomputable def rSlL (K : PySem.W.Frag) : V → Option Int → Option Int → Hp → VK → Prop := fun x lo hi H Q => ∃ a xs, x = .ref a ∧ SqL K H a xs ∧ ∀ p, H p = none → Q (.ref p) (upd H p (.lst (cutV xs lo hi)))
theorem sl_list : SlR X (rSlL X.K) := by
  intro pins s σ H x v vl vu lo hi sl Q I rx hs pl pu h
  obtain ⟨a, xs, rfl, hx, q⟩ := h
  cases rx
  obtain ⟨its, r, ht, hz⟩ := I.list hx
  have hlen := r.length
  refine ⟨"list", _, slot_list_getitem.lookup, ht.isList.typeIs, ?_⟩
  refine wpAny_getItem_list_slice ht.isList hs pl pu .none (by simp) ?_ (by rw [List.size_toArray] <;> omega)
  rw [slicePick_cut, ← hlen]
  refine ⟨.ref s.heap.objs.size, _, I.laid (t' := s.toks) (o := .lst (cutV xs lo hi)) (fun b ob q => Heap.get?_push_of_some _ q) (Nat.le_refl _) ?_, rfl, q _ (I.hok.fresh (Nat.le_refl _))⟩
  exact ⟨Nat.le_trans (cutV_length xs lo hi) hz, _, 0, (r.drop (HT.sIx xs.length 0 lo)).take (HT.sIx xs.length xs.length hi - HT.sIx xs.length 0 lo), Heap.get?_push_size _ rfl⟩

/-! ### in, not in: flat items -/
noncomputable def flatV : V → Bool
  | .non => true
  | .bl _ => true
  | .int _ => true
  | .str _ => true
  | _ => false
/-- == of flat values -/
noncomputable def eqV : V → V → Bool
  | .non, .non => true
  | .bl a, .bl b => a == b
  | .bl a, .int b => (if a then 1 else 0) == b
  | .int a, .bl b => a == (if b then 1 else 0)
  | .int a, .int b => a == b
  | .str a, .str b => a == b
  | _, _ => false
theorem eqAt_V {A : Around} {s : Shared} {y x : V} {u v : Value} (ry : RelV y u) (rx : RelV x v) (fy : flatV y = true) (fx : flatV x = true) : SeqAt.EqAt A s u v (eqV y x) := by
  cases y with
  | non =>
    cases ry
    cases x with
    | non => cases rx; exact SeqAt.EqAt.same _
    | bl b => cases rx; exact SeqAt.EqAt.none_bool b
    | int b => obtain ⟨t, rfl⟩ := rx; exact SeqAt.EqAt.none_int b t
    | str b => obtain ⟨t, rfl⟩ := rx; exact SeqAt.EqAt.none_str b t
    | _ => exact absurd (show false = true from fx) Bool.false_ne_true
  | bl a =>
    cases ry
    cases x with
    | non => cases rx; exact SeqAt.EqAt.bool_none a
    | bl b => cases rx; exact SeqAt.EqAt.bool_bool a b
    | int b => obtain ⟨t, rfl⟩ := rx; exact SeqAt.EqAt.bool_int a b t
    | str b => obtain ⟨t, rfl⟩ := rx; exact SeqAt.EqAt.bool_str a b t
    | _ => exact absurd (show false = true from fx) Bool.false_ne_true
  | int a =>
    obtain ⟨t', rfl⟩ := ry
    cases x with
    | non => cases rx; exact SeqAt.EqAt.int_none a t'
    | bl b => cases rx; exact SeqAt.EqAt.int_bool a t' b
    | int b => obtain ⟨t, rfl⟩ := rx; exact SeqAt.EqAt.int_int a t' b t
    | str b => obtain ⟨t, rfl⟩ := rx; exact SeqAt.EqAt.int_str a t' b t
    | _ => exact absurd (show false = true from fx) Bool.false_ne_true
  | str a =>
    obtain ⟨t', rfl⟩ := ry
    cases x with
    | non => cases rx; exact SeqAt.EqAt.str_none a t'
    | bl b => cases rx; exact SeqAt.EqAt.str_bool a t' b
    | int b => obtain ⟨t, rfl⟩ := rx; exact SeqAt.EqAt.str_int a t' b t
    | str b => obtain ⟨t, rfl⟩ := rx; exact SeqAt.EqAt.str_str a t' b t
    | _ => exact absurd (show false = true from fx) Bool.false_ne_true
  | _ => exact absurd (show false = true from fy) Bool.false_ne_true
/-- the items' answers, read off the values (a value's own answer does not lean on its token) -/
noncomputable def eqU (x : V) (u : Value) : Bool := match u with
  | .none => eqV .non x
  | .bool b => eqV (.bl b) x
  | .int i _ => eqV (.int i) x
  | .str z _ => eqV (.str z) x
  | _ => false
theorem eqU_of {x y : V} {u : Value} (r : RelV y u) (f : flatV y = true) : eqU x u = eqV y x := by
  cases y with
  | non => cases r; rfl
  | bl b => cases r; rfl
  | int i => obtain ⟨t, rfl⟩ := r; rfl
  | str z => obtain ⟨t, rfl⟩ := r; rfl
  | _ => exact absurd (show false = true from f) Bool.false_ne_true
theorem any_eqU {x : V} : ∀ {xs : List V} {us : List Value}, Vals xs us → xs.all flatV = true → us.any (eqU x) = xs.any fun y => eqV y x
  | _, _, .nil, _ => rfl
  | y :: xs, u :: us, .cons r t, f => by
    rw [List.all_cons, Bool.and_eq_true] at f
    rw [List.any_cons, List.any_cons, eqU_of r f.1, any_eqU t f.2]
theorem mem_eqAt {A : Around} {s : Shared} {x : V} {v : Value} (rx : RelV x v) (fx : flatV x = true) : ∀ {xs : List V} {us : List Value}, Vals xs us → xs.all flatV = true → ∀ u ∈ us, SeqAt.EqAt A s u v (eqU x u)
  | _, _, .nil, _ => fun u hu => by cases hu
  | y :: xs, u :: us, .cons r t, f => fun u' hu => by
    rw [List.all_cons, Bool.and_eq_true] at f
    rcases List.mem_cons.mp hu with rfl | hu
    · rw [eqU_of r f.1]; exact eqAt_V r rx f.1 fx
    · exact mem_eqAt rx fx t f.2 u' hu
noncomputable def inV (x : V) (xs : List V) : Bool := xs.any fun y => eqV y x
/-- x in a list or tuple of flat items -/
noncomputable def rIn (K : PySem.W.Frag) (neg : Bool) : R2 := fun x y H Q => ∃ p xs, y = .ref p ∧ (SqL K H p xs ∨ SqT K H p xs) ∧ flatV x = true ∧ xs.all flatV = true ∧ Q (.bl (if neg then !inV x xs else inV x xs)) H
theorem op_in_seq : OpR X (compareOp .In) (rIn X.K false) := by
  intro pins s σ H x y v u Q I rx ry h
  obtain ⟨p, xs, rfl, hq, fx, fs, q⟩ := h
  cases ry
  rcases hq with hq | hq
  · obtain ⟨its, r, pl, hz⟩ := I.list hq
    refine SeqAt.in_listAt (eqU x) pl.isList (fun w hw => mem_eqAt rx fx r fs w (by simpa using hw)) ⟨.bl _, H, I, rfl, ?_⟩
    rw [show its.toArray.any (eqU x) = its.any (eqU x) by simp, any_eqU r fs]
    exact q
  · obtain ⟨its, r, pl, hz⟩ := I.tuple hq
    refine SeqAt.in_tupleAt (eqU x) pl (fun w hw => mem_eqAt rx fx r fs w (by simpa using hw)) ⟨.bl _, H, I, rfl, ?_⟩
    rw [show its.toArray.any (eqU x) = its.any (eqU x) by simp, any_eqU r fs]
    exact q
/-! ### len, list(x), tuple(x) of any list or tuple that is read -/
theorem call_len_seq : CallR X (.builtin "len") (fun xs H Q => ∃ p ys, xs = [.ref p] ∧ (SqL X.K H p ys ∨ SqT X.K H p ys) ∧ Q (.int ys.length) H) := by
  intro pins s σ H xs us Q I r h
  obtain ⟨p, ys, rfl, hq, q⟩ := h
  obtain ⟨u, rfl, rx⟩ := vals1 r
  cases rx
  have hn := line63
  rcases hq with hq | hq
  · obtain ⟨its, r', pl, hz⟩ := I.list hq
    have hlen := r'.length
    exact Calls.call_len_list pl.isList (by simp only [List.size_toArray] <;> omega) ⟨.int ys.length, H, I.tok _, ⟨s.toks + 1, by rw [List.size_toArray, hlen]⟩, q⟩
  · obtain ⟨its, r', pl, hz⟩ := I.tuple hq
    have hlen := r'.length
    exact len_tuple pl (by simp only [List.size_toArray] <;> omega) ⟨.int ys.length, H, I.tok _, ⟨s.toks + 1, by rw [List.size_toArray, hlen]⟩, q⟩
theorem call_len_str : CallR X (.builtin "len") (fun xs H Q => ∃ z, xs = [.str z] ∧ z.length ≤ sizeLine ∧ Q (.int z.length) H) := by
  intro pins s σ H xs us Q I r h
  obtain ⟨z, rfl, hz, q⟩ := h
  obtain ⟨u, rfl, t, rfl⟩ := vals1 r
  have hn := line63
  exact len_str (by omega) ⟨.int z.length, H, I.tok _, ⟨_, rfl⟩, q⟩
theorem call_list_of : CallR X (.type "list") (fun xs H Q => ∃ p ys, xs = [.ref p] ∧ (SqL X.K H p ys ∨ SqT X.K H p ys) ∧ ∀ l, H l = none → Q (.ref l) (upd H l (.lst ys))) := by
  intro pins s σ H xs us Q I r h
  obtain ⟨p, ys, rfl, hq, q⟩ := h
  obtain ⟨u, rfl, rx⟩ := vals1 r
  cases rx
  have fin : ∀ (its : List Value), Vals ys its → ys.length ≤ sizeLine → ∀ (h' : Heap) (c' : Nat), (∀ b o', s.heap.get? b = some o' → h'.get? b = some o') →
      h'.get? s.heap.objs.size = some { cls := .type "list", dict := none, data := .seq its.toArray c', slots := #[] } → EP X pins σ Q (.ref s.heap.objs.size) { s with heap := h' } := fun its r' hz h' c' kp e =>
    ⟨.ref s.heap.objs.size, _, I.laid (t' := s.toks) kp (Nat.le_refl _) (show ObjOk X.prog X.w _ h' _ (.lst ys) from ⟨hz, its, c', r', e⟩), rfl, q _ (I.hok.fresh (Nat.le_refl _))⟩
  rcases hq with hq | hq
  · obtain ⟨its, r', pl, hz⟩ := I.list hq
    have hlen := r'.length
    obtain ⟨o, ho, hc, n, hd⟩ := pl.isList
    exact call_list_seq p (.inl rfl) ho hc hd (fun h' c' kp e => fin its r' hz h' c' kp e) (by simp only [List.size_toArray] <;> omega)
  · obtain ⟨its, r', pl, hz⟩ := I.tuple hq
    have hlen := r'.length
    obtain ⟨o, ho, hc, n, hd⟩ := pl
    exact call_list_seq p (.inr rfl) ho hc hd (fun h' c' kp e => fin its r' hz h' c' kp e) (by simp only [List.size_toArray] <;> omega)
theorem call_tuple_of : CallR X (.type "tuple") (fun xs H Q => ∃ p ys, xs = [.ref p] ∧ ((SqL X.K H p ys ∧ ∀ l, H l = none → Q (.ref l) (upd H l (.tup ys))) ∨ (SqT X.K H p ys ∧ Q (.ref p) H))) := by
  intro pins s σ H xs us Q I r h
  obtain ⟨p, ys, rfl, h⟩ := h
  obtain ⟨u, rfl, rx⟩ := vals1 r
  cases rx
  rcases h with ⟨hq, q⟩ | ⟨hq, q⟩
  · obtain ⟨its, r', pl, hz⟩ := I.list hq
    have hlen := r'.length
    refine call_tuple_list pl.isList (fun h' kp => ?_) (by simp only [List.size_toArray] <;> omega)
    have I1 : Inv X pins σ H { s with heap := h' } := I.kept (t' := s.toks) kp
    have I2 : Inv X pins σ (upd H h'.objs.size (.tup ys)) { s with heap := h'.push { cls := .type "tuple", data := .seq its.toArray } } :=
      I1.laid (t' := s.toks) (fun b o e => Heap.get?_push_of_some _ e) (Nat.le_refl _) (show ObjOk X.prog X.w _ _ _ (.tup ys) from ⟨hz, its, r', IsTup.new _ _⟩)
    exact ⟨.ref h'.objs.size, _, I2, rfl, q _ (I1.hok.fresh (Nat.le_refl _))⟩
  · obtain ⟨its, r', pl, hz⟩ := I.tuple hq
    exact call_tuple_same pl ⟨.ref p, H, I, rfl, q⟩

/-! ### the call of a builtin's method: o.m(..) -/
/-- the value is of that builtin type -/
noncomputable def tyV (K : PySem.W.Frag) (T : String) (x : V) (H : Hp) : Prop := match x with
  | .str _ => T = "str"
  | .int _ => T = "int"
  | .ref p => (T = "list" ∧ ∃ xs, SqL K H p xs) ∨ (T = "tuple" ∧ ∃ o, K.lookup p = some o ∧ o.cls = .type "tuple" ∧ o.dict = none) ∨
      (T = "dict" ∧ ((∃ kvs, H p = some (.dK kvs)) ∨ ∃ kvs, H p = some (.dT kvs))) ∨ (T = "set" ∧ ∃ S n, H p = some (.set S n))
  | _ => False
theorem tyV_is {pins : List (Addr × Obj)} {σ : St} {H : Hp} {s : Shared} {T : String} {x : V} {v : Value} (I : Inv X pins σ H s) (r : RelV x v) (ty : tyV X.K T x H) :
    s.TypeIs v T ∧ ∀ a, v = .ref a → ∃ ob, s.heap.get? a = some ob ∧ ob.dict = none := by
  cases x with
  | str z =>
    obtain ⟨t, rfl⟩ := r
    cases (show T = "str" from ty)
    exact ⟨typeIs_str s z t, fun _ e => nomatch e⟩
  | int i =>
    obtain ⟨t, rfl⟩ := r
    cases (show T = "int" from ty)
    exact ⟨typeIs_int s i t, fun _ e => nomatch e⟩
  | ref p =>
    cases r
    rcases ty with ⟨rfl, xs, hq⟩ | ⟨rfl, o, hk, hc, hd⟩ | ⟨rfl, hk⟩ | ⟨rfl, S, n, hk⟩
    · obtain ⟨its, _, pl, _⟩ := I.list hq
      refine ⟨pl.isList.typeIs, fun a e => ?_⟩
      cases e
      obtain ⟨o, n, e, c, hd, _⟩ := pl
      exact ⟨o, e, hd⟩
    · refine ⟨⟨o, I.kIn p o hk, hc⟩, fun a e => ?_⟩
      cases e
      exact ⟨o, I.kIn _ o hk, hd⟩
    · have z : ∃ o, s.heap.get? p = some o ∧ o.ExactDict := by
        rcases hk with ⟨kvs, hk⟩ | ⟨kvs, hk⟩
        · obtain ⟨_, _, _, _, o, _, _, e, ex, _⟩ := I.hok p _ hk
          exact ⟨o, e, ex⟩
        · obtain ⟨_, _, _, _, o, _, _, e, ex, _⟩ := I.hok p _ hk
          exact ⟨o, e, ex⟩
      obtain ⟨o, e, ex⟩ := z
      refine ⟨⟨o, e, ex.1⟩, fun a e2 => ?_⟩
      cases e2
      exact ⟨o, e, ex.2.1⟩
    · obtain ⟨o, _, _, _, e, ex, _⟩ := I.hok p _ hk
      refine ⟨⟨o, e, ex.1⟩, fun a e2 => ?_⟩
      cases e2
      exact ⟨o, e, ex.2.1⟩
  | _ => exact False.elim ty
noncomputable def tBM (K : PySem.W.Frag) (T : String) (r : V → List V → Hp → VK → Prop) (to : TE) (t : TA) : TE := fun σ H Q => to σ H fun x H1 => tyV K T x H1 ∧ t σ H1 fun xs H2 => r x xs H2 Q
variable {o e : Expr} {es : List Expr} {to : TE} {t : TA} {name : Str} {apos cpos : Pos} {T id : String} {r : V → List V → Hp → VK → Prop}
theorem pe_bm (pa : PlainAttrs T) (slot : Slot T name id) (hty : typeOf (.builtin id) = pure (.type "method_descriptor")) (hm : MtR X id r) (ho : PE X o to) (ha : PA X (e :: es) t)
    (hbase : attributeBase o name X.env (eval o X.env) = eval o X.env := by rfl)
    (hfew : ((backTo cpos (starEach (e :: es) X.env)).all (fun x => !x.1) && (backToKw cpos (keywordEach [] X.env)).all (fun x => x.1.isSome)
      && decide ((e :: es).length + ([] : List Keyword).length + (if ([] : List Keyword).isEmpty then 0 else 1) < 30)) = true := by rfl)
    (hline : (apos.endLine == cpos.line) = true := by rfl) (hs : starEach (e :: es) X.env = (false, eval e X.env) :: starEach es X.env := by rfl) (hplain : (backTo cpos (starEach es X.env)).any (·.1) = false := by rfl) :
    PE X (.Call (.Attribute o name apos) (e :: es) [] cpos) (tBM X.K T r to t) := by
  intro pins s σ H Q I h
  refine wpAny_Call_method_late hbase hfew hline rfl (thn (ho pins s σ H _ I h) fun v s1 ⟨x, H1, I1, r1, ty, q1⟩ => ?_)
  obtain ⟨h1, h2⟩ := tyV_is I1 r1 ty
  refine ⟨T, id, pa, slot, hty, h1, h2, ?_⟩
  have hA := ha cpos pins s1 σ H1 _ I1 q1
  rw [hs] at hA ⊢
  refine Calls.callWith_builtin (by show (false || (backTo cpos (starEach es X.env)).any (·.1)) = false; rw [hplain] <;> rfl) (Calls.evalArgs_plain ?_)
  exact thn hA fun us s2 ⟨vs, H2, I2, r2, q2⟩ => hm pins s2 σ H2 x vs v us Q I2 r1 r2 q2
/- xs.append(e), list.index on a module's tuple .. are MtR facts of 06m -/
end
end L2

namespace L2
open PySem PySem.Spec PyProof.Rows

noncomputable def MtM (X : Cx) (id : String) (r : V → List V → Hp → VK → Prop) : Prop :=
  ∀ (pins : List (Addr × Obj)) (s : Shared) (σ : St) (H : Hp) (x : V) (xs : List V) (v : Value) (us : List Value) (Q : VK), Inv X pins σ H s → RelV x v → Vals xs us → r x xs H Q →
    wpAny (model X.prog X.w) X.A (call (.builtin id) (v :: us)) (EP X pins σ Q) X.xe s

/-! ### lists of values -/
theorem Vals.one : ∀ {x : V} {us : List Value}, Vals [x] us → ∃ u, us = [u] ∧ RelV x u
  | _, _, .cons r .nil => ⟨_, rfl, r⟩
theorem Vals.two : ∀ {x y : V} {us : List Value}, Vals [x, y] us → ∃ u v, us = [u, v] ∧ RelV x u ∧ RelV y v
  | _, _, _, .cons r (.cons q .nil) => ⟨_, _, rfl, r, q⟩
section
variable {X : Cx} {pins : List (Addr × Obj)} {σ : St} {H : Hp} {s : Shared} {l b : Addr} {xs ys zs : List V}

/-! ### the two steps: a tracked list is rewritten, a new list is laid -/
theorem Inv.lset {its its' : List Value} {n : Nat} {f : Array Value → Array Value} {t' : Nat} (I : Inv X pins σ H s) (hH : H l = some (.lst xs))
    (e : s.heap.get? l = some { cls := .type "list", data := .seq its.toArray n }) (hf : f its.toArray = its'.toArray) (hv : Vals ys its') (hz : ys.length ≤ sizeLine) :
    Inv X pins σ (upd H l (.lst ys)) { s with heap := s.heap.update l (Obj.mapSeq f), toks := t' } := by
  have q := PySem.IsL.update e f
  rw [hf] at q
  refine I.write (x := l) (e := l) (by rw [hH]; exact trivial) (.inl rfl) (fun b' u hb hu => (Heap.get?_update_other s.heap (Obj.mapSeq f) (Ne.symm hb)).trans hu) ⟨_, q⟩ ?_
  exact ⟨hz, its', _, hv, q⟩
theorem Inv.lnew {its : List Value} {t' : Nat} (I : Inv X pins σ H s) (hv : Vals ys its) (hz : ys.length ≤ sizeLine) :
    Inv X pins σ (upd H s.heap.objs.size (.lst ys)) { s with heap := s.heap.push { cls := .type "list", data := .seq its.toArray }, toks := t' } :=
  I.laid (fun _ _ q => Heap.get?_push_of_some _ q) (Nat.le_refl _) ⟨hz, its, 0, hv, Heap.get?_push_size _ rfl⟩
theorem Inv.fresh (I : Inv X pins σ H s) : H s.heap.objs.size = none := I.hok.fresh (Nat.le_refl _)
theorem Inv.lstM (I : Inv X pins σ H s) (hH : H l = some (.lst xs)) : xs.length ≤ sizeLine ∧ ∃ (its : List Value) (n : Nat), Vals xs its ∧ xs.length = its.length ∧ s.heap.get? l = some { cls := .type "list", data := .seq its.toArray n } := by
  obtain ⟨z, its, n, r, e⟩ := I.hok l _ hH
  exact ⟨z, its, n, r, r.length, e⟩

end

section
variable {X : Cx}

/-! ### methods -/
noncomputable def rAppend : V → List V → Hp → VK → Prop := fun x vs H Q => ∃ l xs y, x = .ref l ∧ vs = [y] ∧ H l = some (.lst xs) ∧ xs.length < sizeLine ∧ Q .non (upd H l (.lst (xs ++ [y])))
theorem mt_append : MtM X "list.append" rAppend := by
  intro pins s σ H x vs v us Q I rx rv h
  obtain ⟨l, xs, y, rfl, rfl, hH, hz, q⟩ := h
  cases rx
  obtain ⟨u, rfl, ru⟩ := rv.one
  obtain ⟨z, its, n, r, hl, e⟩ := I.lstM hH
  refine call_meets F.slot_list_append ⟨_, e, rfl⟩ F.entry_list_append (F.args_list_append_2 _ _) (PySem.list_append l its.toArray n u (by rw [List.size_toArray]; omega)) ⟨e, ?_⟩
  refine ⟨.non, _, I.lset (its' := its ++ [u]) hH e (by simp) (r.append (.cons ru .nil)) ?_, rfl, q⟩
  rw [List.length_append, List.length_singleton]
  omega

/-! ### list + list, list += list, list * int -/
noncomputable def rCat : R2 := fun x y H Q => ∃ l b xs zs, x = .ref l ∧ y = .ref b ∧ H l = some (.lst xs) ∧ H b = some (.lst zs) ∧ xs.length + zs.length ≤ sizeLine ∧ ∀ p, H p = none → Q (.ref p) (upd H p (.lst (xs ++ zs)))
theorem op_cat : OpR X (binaryOp .Add) rCat := by
  intro pins s σ H x y v u Q I rx ry h
  obtain ⟨l, b, xs, zs, rfl, rfl, hH, hB, hz, q⟩ := h
  cases rx
  cases ry
  obtain ⟨z, its, n, r, hl, e⟩ := I.lstM hH
  obtain ⟨z2, its2, n2, r2, hl2, e2⟩ := I.lstM hB
  refine PySem.P.add_list e e2 ?_ (by rw [List.size_toArray, List.size_toArray]; omega)
  have ea : its.toArray ++ its2.toArray = (its ++ its2).toArray := by simp
  rw [ea]
  exact ⟨.ref _, _, I.lnew (t' := s.toks) (r.append r2) (by rw [List.length_append]; omega), rfl, q _ I.fresh⟩
/-- a list times an int (a negative one is nothing) -/
noncomputable def rRep : R2 := fun x y H Q => ∃ l k xs, x = .ref l ∧ y = .int k ∧ H l = some (.lst xs) ∧ -(2 ^ 63) ≤ k ∧ k < 2 ^ 63 ∧ xs.length * k.toNat ≤ sizeLine ∧
  ∀ p, H p = none → Q (.ref p) (upd H p (.lst (List.replicate k.toNat xs).flatten))
/-! ### del xs[i] -/
end

/-! ### xs[a:b] = ys -/
section
variable {prog : Program} {w : World} {A : Around} {E : Value → Shared → Prop} {s : Shared}
end

section
variable {X : Cx}
end
end L2

namespace Att
open PySem PySem.W PySem.Calls PyProof.Rows

/-! ### the script -/
theorem ints_of_wellAll {P : Params} {h : Heap} : ∀ (ns : List Int) (vs : List Value), WellAll P h vs (ns.map WData.int) → IntsAre vs ns := by
  intro ns
  induction ns with
  | nil =>
    intro vs w
    rw [List.map_nil] at w
    cases w
    exact .nil
  | cons n ns ih =>
    intro vs w
    rw [List.map_cons] at w
    cases w with
    | cons a b =>
      cases a
      exact .cons _ _ (ih _ b)

theorem script_of {l : OpenLaw} {n : Nat} (hn : l.most = some n) {P : Params} {h : Heap} {args : List WData} {vals : List Value}
    (hpre : l.row.toRowW.claim.pre args = true) (hwl : WellAll P h vals args) :
    ∃ a vs ns, vals = [Value.ref a] ∧ args = [WData.list (ns.map WData.int)] ∧ h.get? a = some { cls := .type "list", data := .seq vs.toArray } ∧ IntsAre vs ns ∧ ns.length ≤ n := by
  have hsh : WShape.hasAll [] args [.list .int] = true := (pre_splitW hpre).1
  have hc : l.pre.holds [] { args := args } = true := (pre_splitW hpre).2
  obtain ⟨d, r, rfl, h1, h2⟩ := hasAllW_cons hsh
  obtain rfl := hasAllW_nil h2
  obtain ⟨xs, rfl, h3⟩ := hasW_list h1
  obtain ⟨ns, rfl⟩ := items_int h3
  have hlen : ns.length ≤ n := by
    unfold OpenLaw.pre at hc
    have h4 : (WTm.not (.lt (.lit (.int (n : Int))) (.len (.arg 0)))).holds [] { args := [.list (ns.map .int)] } = true := by
      have h4 := (holds_andW hc).1
      rw [hn] at h4
      exact h4
    have h5 := condW_of h4 (w_not (w_lt w_lit (w_len_list (w_arg rfl))))
    rw [List.length_map] at h5
    refine Nat.le_of_not_lt fun q => ?_
    have q' : (n : Int) < ((ns.length : Nat) : Int) := by omega
    first
      | (rw [decide_eq_true q'] at h5; exact absurd h5 (by decide))
      | (simp at h5; omega)
  cases hwl with
  | cons w1 w2 =>
    cases w2
    cases w1 with
    | list ho hall => exact ⟨_, _, ns, rfl, rfl, ho, ints_of_wellAll ns _ hall, hlen⟩

theorem post_true (l : OpenLaw) (args : List WData) : l.row.toRowW.claim.post args (.bool true) args = true :=
  postW_of (r := l.row.toRowW) (X := (true == true))
    (show WShape.has [] (.bool true) .bool = true by first | rfl | decide | simp [WShape.has, WShape.arms, WShape.armsAll])
    (show (WTm.eq .res (.lit (.bool true))).value [] { args := args, res := some (.bool true), after := args } = some (.bool (true == true)) from w_eq_bool (w_res rfl) w_lit) rfl

/-! ### the attachment: holds_open's last premise (the goal 'hc' behind k_head) from a wpAny of the law's body -/
/-- the same from a codeAny of the CALL (for a layer whose function contracts speak of calls) -/
theorem attach_call {l : OpenLaw} {n : Nat} {q : Program} {loose : List Str} {XP : (Str → Option Value) → Heap → Prop} {YP : World → Heap → Prop} {d : DefRec}
    (hn : l.most = some n) (hdf : d.params.defaults = [])
    (call : ∀ (w : World) (s₀ s₁ : Shared) (mg mb : Str → Option Value) (fa : Addr) (o : Obj) (pm cd doc : Value) (a : Addr) (vs : List Value) (ns : List Int),
      Ground q loose [] XP w s₀ mg mb s₁.heap → YP w s₁.heap →
      s₁.heap.get? fa = some o → o.data = .func (docDef d.name d.params d.body d.scope pm cd doc) → s₁.heap.CodeRec cd d.name → mg d.name = some (.ref fa) →
      s₁.heap.get? a = some { cls := .type "list", data := .seq vs.toArray } → IntsAre vs ns → ns.length ≤ n → s₁.gens = #[] →
      codeAny (model l.prog w) callerA (.call (.ref fa) ⟨[.ref a], []⟩) (fun r s' => r = .ok (.ret (.bool true)) ∧ OldK s₁.heap s'.heap ∧ s'.os = s₁.os ∧ AllBare s'.gens) s₁) :
    WalkO q loose XP YP l.row.toRowW d [] (fun f vs => PySem.call f vs) := by
  intro w s₀ s₁ mg mb G Y fa o pm cd doc dV kV ho hd hcd hD hmg hg args vals as hpre hlay hrd hwl hlo
  obtain rfl : dV = .none := Dflts.none hD hdf
  obtain rfl : kV = .none := Dflts.noKw hD
  obtain ⟨a, vs, ns, rfl, rfl, hobj, hints, hlen⟩ := script_of hn hpre hwl
  refine enter_call (codeAny_mono (call w s₀ s₁ mg mb fa o pm cd doc a vs ns G Y ho (fd_plain hd) hcd hmg hobj hints hlen hg) fun r s' hq => ?_)
  obtain ⟨rfl, h2, h3, h4⟩ := hq
  exact ⟨.inl ⟨.bool true, .bool true, [], rfl, fun _ => rfl, .bool true, post_true l _, fun _ => ⟨List.Pairwise.nil, fun _ hm => (nomatch hm)⟩⟩, h2, h3, h4⟩

/-! ### rules over ANY heap (no ledger) from facts about the written part K: the library's own take a ledger (News) for what they write -/
section
variable {prog : Program} {w : World} {A : Around} {E : Value → Shared → Prop} {s : Shared} {K : Frag}

/-! the whole heap as the ledger: makes every rule that writes through a ledger a rule over any heap -/
noncomputable def ledger (h : Heap) (L d : Addr) : List (Addr × Obj) := (List.range h.objs.size).filterMap fun a => if a = L ∨ a = d then none else (h.get? a).map fun o => (a, o)
end
end Att

namespace L2
open PySem PySem.Spec PyProof.Rows

theorem vals_ints : ∀ {vs : List Value} {ns : List Int}, IntsAre vs ns → Vals (ns.map V.int) vs
  | _, _, .nil => .nil
  | _, _, .cons n t h => .cons ⟨t, rfl⟩ (vals_ints h)

/-- nothing is tracked but the script, known to the object (or it is an object of the module) -/
noncomputable def Only (H : Hp) : Prop := ∀ b, H b = none ∨ ∃ o xs, H b = some (.frz o (.lst xs))

/-- THE HEAD: the law's promise, at the heap behind the top. F, the promise of the law's def, may use that base is part of the heap (so K.In base, base.Ns mainGlobals mg stand in Mod) -/
theorem law_call {P : Program} {w : World} {K : PySem.W.Frag} {mg mb : Str → Option Value} {CX : CXT} {k : Nat} {fa a : Addr} {fd : FuncData} {x : Str} {sp : Sp} {s₁ : Shared} {vs : List Value} {ns : List Int}
    (KX : K.In s₁.heap) (hns : s₁.heap.Ns mainGlobals mg) (hb : s₁.heap.Ns builtinsNs mb) (hbb : ∀ x : Str, x ≠ "__name__" → mb x = bootBuiltins x) (hlim : s₁.heap.NoLimit) (hg : s₁.gens = #[])
    (ha : s₁.heap.get? a = some { cls := .type "list", data := .seq vs.toArray }) (hi : IntsAre vs ns) (hl : ns.length ≤ sizeLine) (hr : Room k callerA)
    (F : ∀ base : Heap, K.In base → base.Ns mainGlobals mg → FnOk P w K mg base CX k fa fd [x] sp) (hbind : ∀ (s : Shared) (u : Value), BindsTo s fd ⟨[u], []⟩ [(x, u)])
    (hsp : ∀ H : Hp, Only H → SqL K H a (ns.map V.int) → sp [.ref a] H (fun v _ => v = .bl true) fun _ _ _ => False)
    (hCX : ∀ H e s', CX [] H s₁ (fun _ _ _ => False) e s' → False) :
    codeAny (model P w) callerA (.call (.ref fa) ⟨[.ref a], []⟩) (fun r s' => r = .ok (.ret (.bool true)) ∧ OldK s₁.heap s'.heap ∧ s'.os = s₁.os ∧ AllBare s'.gens) s₁ := by
  have rv := vals_ints hi
  have lenV := hi.length
  -- from an abstract heap in which nothing but the script may be tracked
  have core : ∀ H : Hp, Only H → SqL K H a (ns.map V.int) → HOk P w H s₁.heap → (∀ b, H b ≠ none → b = a) → (H a ≠ none → K.lookup a = none) →
      codeAny (model P w) callerA (.call (.ref fa) ⟨[.ref a], []⟩) (fun r s' => r = .ok (.ret (.bool true)) ∧ OldK s₁.heap s'.heap ∧ s'.os = s₁.os ∧ AllBare s'.gens) s₁ := by
    intro H hO hS hok hA hK
    have base_of : ∀ {b : Addr} {o : Obj}, s₁.heap.get? b = some o → H b = none → (hidT s₁.heap H).get? b = some o := fun e n => hidT_get e n
    have noA : ∀ {b : Addr} {o : Obj} {es : Array DictEntry} {ep : Nat}, s₁.heap.get? b = some o → o.data = .dict es ep → H b = none := fun {b o es ep} e d => by
      cases q : H b with
      | none => rfl
      | some u =>
        have e' : b = a := hA b (by rw [q]; simp)
        subst e'
        rw [ha] at e; cases e
        have d' : Data.seq vs.toArray _ = Data.dict es ep := d
        cases d'
    have nsK : ∀ {b : Addr} {m : Str → Option Value}, s₁.heap.Ns b m → (hidT s₁.heap H).Ns b m := fun {b m} ⟨o, es, ep, e, d, r⟩ => ⟨o, es, ep, base_of e (noA e d), d, r⟩
    have hKb : K.In (hidT s₁.heap H) := fun b o e => base_of (KX b o e) (by
      cases q : H b with
      | none => rfl
      | some u =>
        have e' : b = a := hA b (by rw [q]; simp)
        subst e'
        rw [hK (by rw [q]; simp)] at e; cases e)
    have hM : Mod K mg (hidT s₁.heap H) := ⟨hKb, nsK hns, ⟨mb, nsK hb, hbb⟩, let ⟨mc, h1, h2⟩ := hlim; ⟨mc, nsK h1, h2⟩⟩
    have e0 : Env0 P w K mg (hidT s₁.heap H) callerA [] s₁ H := ⟨rfl, hM, fun b o e => of_hidT e, Nat.le_of_eq (hidT_size _ _), trivial, fun b hb => absurd (show b ∈ ([] : List Addr) from hb) (by simp), hok, .of_eq hg⟩
    refine codeAny_mono ((F _ hKb (nsK hns)).run callerA [] s₁ H ⟨[.ref a], []⟩ [.ref a] [.ref a] _ _ hr e0 (hbind s₁ (.ref a)) (.cons rfl .nil) (hsp H hO hS)) fun r s' h => ?_
    cases r with
    | error e => exact (hCX H e s' h).elim
    | ok fl =>
      cases fl with
      | next => exact False.elim h
      | brk => exact False.elim h
      | cont => exact False.elim h
      | ret u =>
        obtain ⟨v, H', os, bare, un, hok', r', q⟩ := h
        have q' : v = .bl true := q
        subst q'
        obtain rfl : u = Value.bool true := r'
        refine ⟨rfl, OldK.of_keep fun b o e => ?_, os, bare⟩
        cases q : H b with
        | none => exact un.keep b o e q (by intro z; exact absurd (show b ∈ ([] : List Addr) from z) (by simp)) (by simp)
        | some u =>
          rcases hO b with z | ⟨ob, xs, z⟩
          · rw [q] at z; cases z
          · have z2 := un.frzs b ob _ z
            obtain ⟨e1, _⟩ := hok b _ z
            obtain ⟨e2, _⟩ := hok' b _ z2
            rw [e] at e1; cases e1
            exact e2
  cases hk : K.lookup a with
  | some o =>
    -- the script is one of the module's own objects
    have e := KX a o hk
    rw [ha] at e
    cases e
    refine core (fun _ => none) (fun _ => .inl rfl) (.inr ⟨_, vs.toArray, _, hk, rfl, rfl, rfl, by rw [List.size_toArray, lenV]; exact hl, by simpa using rv⟩) (fun b u z => by have z' : (none : Option HO) = some u := z; cases z') (fun b z => absurd rfl z) fun z => absurd rfl z
  | none =>
    refine core (fun b => if b = a then some (.frz { cls := .type "list", data := .seq vs.toArray } (.lst (ns.map V.int))) else none) (fun b => ?_) (.inl (.inr ⟨{ cls := .type "list", data := .seq vs.toArray }, if_pos rfl⟩)) (fun b u z => ?_) (fun b z => ?_) fun _ => hk
    · by_cases hb : b = a
      · exact .inr ⟨_, _, if_pos hb⟩
      · exact .inl (if_neg hb)
    · by_cases hb : b = a
      · have z' := (if_pos hb).symm.trans z
        cases z'
        subst hb
        exact ⟨ha, by rw [List.length_map]; exact hl, vs, _, rv, ha⟩
      · have z' := (if_neg hb).symm.trans z
        cases z'
    · by_cases hb : b = a
      · exact hb
      · exact absurd (if_neg hb) z
end L2

namespace L2
open PySem PySem.Spec PyProof.Rows

noncomputable abbrev KOf {K : PySem.W.Frag} {h : Heap} (_ : K.In h) : PySem.W.Frag := K

/-- the goal that k_head leaves (case hc), from the law's promise. F gives the function object fd (K's own) once, then the promise over every base -/
theorem walk_of {l : PySem.W.OpenLaw} {n k : Nat} {q : Program} {loose : List Str} {XP : (Str → Option Value) → Heap → Prop} {YP : World → Heap → Prop} {d : DefRec} {K : Params → PySem.W.Frag} {CX : World → CXT} {sp : World → Sp} {x : Str}
    (hn : l.most = some n) (hn2 : n ≤ sizeLine) (hdf : d.params.defaults = []) (hr : Room k callerA)
    (hY : ∀ (w : World) (h : Heap), YP w h → (K w.params).In h)
    (F : ∀ (w : World) (mg : Str → Option Value) (fa : Addr) (h : Heap), (K w.params).In h → h.Ns mainGlobals mg → mg d.name = some (.ref fa) →
      ∃ fd : FuncData, (∀ (s : Shared) (u : Value), BindsTo s fd ⟨[u], []⟩ [(x, u)]) ∧
        ∀ base : Heap, (K w.params).In base → base.Ns mainGlobals mg → FnOk l.prog w (K w.params) mg base (CX w) k fa fd [x] (sp w))
    (hsp : ∀ (w : World) (H : Hp) (a : Addr) (ns : List Int), ns.length ≤ n → Only H → SqL (K w.params) H a (ns.map V.int) → sp w [.ref a] H (fun v _ => v = .bl true) fun _ _ _ => False)
    (hCX : ∀ (w : World) (H : Hp) (s : Shared) (e : Value) (s' : Shared), CX w [] H s (fun _ _ _ => False) e s' → False) :
    PySem.W.WalkO q loose XP YP l.row.toRowW d [] (fun f vs => PySem.call f vs) := by
  refine Att.attach_call hn hdf fun w s₀ s₁ mg mb fa o pm cd doc a vs ns G Y ho hd hcd hmg hobj hints hlen hg => ?_
  have KX := hY w _ Y
  obtain ⟨fd, hb, hF⟩ := F w mg fa _ KX G.T.g hmg
  exact law_call KX G.T.g G.T.b G.T.builtins G.T.nolimit hg hobj hints (Nat.le_trans hlen hn2) hr hF hb (fun H hO hS => hsp w H a ns hlen hO hS) fun H e s' => hCX w H s₁ e s'
end L2

/- THE LAST THEOREM (shape; LID, My.* are yours):
   My.Adr: a structure of the addresses that your layer names (classes, functions); My.Txt K t: a structure (Prop) of the equations over K;
   My.txt_mk : {K} {implicit addresses ..} (e1 : nsIn K mainGlobals "law" = some (some (.ref f))) (e2 : K.lookup f = some ⟨oc, od, .func (fnOf "law" "law" params body scope dV kV doc pm an cdv ct), sl⟩) (e3 : codeIn K cdv "law" = true) .. : ∃ t, My.Txt K t

set_option maxRecDepth 100000 in
set_option maxHeartbeats 0 in
theorem PySem.Challenge.cw_LID_holds : PySem.Challenge.rw_LID.Holds := by
  w_on; o_law; k_head; (case hw => w_witness2)
  k_fill
  refine L2.walk_of (l := PySem.Challenge.rw_LID) (n := 63) (k := 40) (x := "script") (CX := fun w => ..) (sp := fun _ => My.sp_law) rfl (by decide) rfl ⟨rfl, by decide, by decide⟩ (fun w h Y => PySem.W.kIn_of Y) ?F ?S ?C
  case F =>
    intro w mg fa h KX G hmg
    have T : ∃ t, My.Txt (L2.KOf KX) t := by
      dsimp only [L2.KOf]                          -- K must stand as «<heap const> w.params» for k_is
      refine' My.txt_mk ?e1 ?e2 ?e3 ..
      (case e1 => PySem.W.k_is)                    -- in the order: a name -> its address -> its object -> its parts
      (case e2 => PySem.W.k_is)
      ..
    obtain ⟨t, T⟩ := T
    have e0 := hmg.symm.trans (PySem.W.mg_of KX G T.law)
    cases e0                                       -- fa is the law's own address
    exact ⟨_, fun s u => .of_eq rfl, fun base kb nb => My.law_fn T kb nb⟩     -- if «.of_eq rfl» comes too early: refine' ⟨_, ?b, fun base kb nb => My.law_fn T kb nb⟩; exact fun s u => .of_eq rfl
  case S => exact fun w H a ns hl hO hS => ..
  case C => exact ..
(the tactic k_is has no namespace: write k_is) -/

/-! SHORT WORDS over the layer: a def of the text, its body, what a loop and a test want. -/
namespace L2
open PySem PySem.Spec PyProof.Rows

/-! ### the text by places -/
noncomputable def defArgs (s : Stmt) : Arguments := match s with
  | .FunctionDef _ a _ _ _ _ _ _ _ _ => a
  | _ => { posonlyargs := [], args := [], vararg := none, kwonlyargs := [], kw_defaults := [], kwarg := none, defaults := [] }
noncomputable def defBody (s : Stmt) : List Stmt := match s with
  | .FunctionDef _ _ b _ _ _ _ _ _ _ => b
  | _ => []
noncomputable def defScope (s : Stmt) : Scope := match s with
  | .FunctionDef _ _ _ _ _ _ sc _ _ _ => sc
  | _ => { kind := .function, names := [], isGenerator := false, isCoroutine := false }

/-! ### no exception leaves a def -/
noncomputable abbrev CX0 : CXT := fun _ _ _ _ _ _ => False
noncomputable abbrev E0 : XK := fun _ _ _ => False
theorem pass0 {X : Cx} : Passes CX0 X E0 := fun _ _ _ _ _ _ _ h => h.elim

/-! ### a def (or method) of the text as it stands behind the top -/
structure Fun (K : PySem.W.Frag) (x qual : Str) (st : Stmt) (f : Addr) (fd : FuncData) : Prop where
  ex : ∃ (oc : Value) (od : Option Addr) (kV doc pm : Value) (an : Option Addr) (cdv ct : Value) (osl : Array (Option Value)),
    fd = PySem.W.fnOf x qual (defArgs st) (defBody st) (defScope st) .none kV doc pm an cdv ct ∧ K.lookup f = some ⟨oc, od, .func fd, osl⟩ ∧ PySem.W.codeIn K cdv qual = true
  kp : PySem.W.keepIn K (.ref f) = true
section
variable {P : Program} {w : World} {K : PySem.W.Frag} {mg : Str → Option Value} {base : Heap}
/-- THE RULE for a def: its body as a term of rules, and the reading of that term -/
theorem Fun.ok {x qual : Str} {st : Stmt} {f : Addr} {fd : FuncData} {N ps : List Str} {k : Nat} {sp : Sp} (F : Fun K x qual st f fd) (S : FnScope N ps (defScope st)) (len : ∀ vs H Q E, sp vs H Q E → vs.length = ps.length)
    (hbody : ∀ (cdv : Value) (A : Around) (outer : List Env) (s : Shared) (H : Hp) (vs : List V) (Q : VK) (E : XK), Room k (A.deeper (envOfC qual (defScope st) s.heap.objs.size f cdv)) → sp vs H Q E →
      ∃ t, PSs (cxOf CX0 P w K mg base N qual (defScope st) f cdv A outer s H E).nox (defBody st) t ∧ t { nx := fun _ H' => Q .non H', rt := Q } (start N vs) H) : FnOk P w K mg base CX0 (k + 1) f fd ps sp := by
  obtain ⟨oc, od, kV, doc, pm, an, cdv, ct, osl, rfl, lk, hcd⟩ := F.ex
  refine fn_of lk hcd S len fun A outer s H vs Q E hr hsp => ?_
  obtain ⟨t, h, q⟩ := hbody cdv A outer s H vs Q E hr hsp
  exact ⟨t, h.nox, q⟩
/-- how its arguments bind (no defaults): h is «fun _ _ _ _ _ _ us hl => match us, hl with | [_, _], _ => rfl», one _ a parameter -/
theorem Fun.binds {x qual : Str} {st : Stmt} {f : Addr} {fd : FuncData} {ps : List Str} (F : Fun K x qual st f fd)
    (h : ∀ (kV doc pm : Value) (an : Option Addr) (cdv ct : Value) (us : List Value), us.length = ps.length → bindArgs (PySem.W.fnOf x qual (defArgs st) (defBody st) (defScope st) .none kV doc pm an cdv ct) ⟨us, []⟩ = pure (ps.zip us)) : Binds K fd ps [] := by
  obtain ⟨oc, od, kV, doc, pm, an, cdv, ct, osl, rfl, lk, hcd⟩ := F.ex
  exact .all (h kV doc pm an cdv ct)
theorem fun_mk {x qual : Str} {st : Stmt} {f : Addr} {oc : Value} {od an : Option Addr} {osl : Array (Option Value)} {kV doc pm cdv ct : Value} (l : K.lookup f = some ⟨oc, od, .func (PySem.W.fnOf x qual (defArgs st) (defBody st) (defScope st) .none kV doc pm an cdv ct), osl⟩)
    (c : PySem.W.codeIn K cdv qual = true) (k : PySem.W.keepIn K (.ref f) = true) : Fun K x qual st f (PySem.W.fnOf x qual (defArgs st) (defBody st) (defScope st) .none kV doc pm an cdv ct) := ⟨⟨oc, od, kV, doc, pm, an, cdv, ct, osl, rfl, l, c⟩, k⟩
end
theorem small1000 {n : Nat} (h : n ≤ 1000) : n < sizeLine := Nat.lt_of_le_of_lt h (by decide)

/-! ### expressions in short: the name that stands in the i-th slot -/
section
variable {X : Cx}
theorem pv (i : Nat) {x : Str} {pos : Pos} (hN : X.N[i]? = some x := by rfl) (hv : Vis X.env.scope x := by first | exact Or.inl rfl | exact Or.inr (Or.inl rfl) | exact Or.inr (Or.inr rfl)) (hd : (x == ("__debug__" : Str)) = false := by decide)
    (hcd : (x == ("__classdict__" : Str)) = false := by decide) : PE X (.Name x pos) (tVar i) := pe_var hN hv hd hcd
end

/-! ### tests -/
theorem iteF {A B : Prop} (h : B) : if false = true then A else B := by
  rw [if_neg Bool.false_ne_true]
  exact h
theorem iteT {A B : Prop} (h : A) : if true = true then A else B := by
  rw [if_pos rfl]
  exact h
theorem ite2 {c A B : Prop} [Decidable c] (h1 : c → A) (h2 : ¬ c → B) : if c then A else B := by
  by_cases h : c
  · rw [if_pos h]
    exact h1 h
  · rw [if_neg h]
    exact h2 h
/-! ### heaps -/
/-- all that was tracked is as it was -/
noncomputable def Same (H H' : Hp) : Prop := ∀ b o, H b = some o → H' b = some o
end L2

section
set_option Elab.async false
set_option linter.all false
set_option maxRecDepth 100000
/-! A list comprehension of one clause, in the hand layer. -/
namespace L2.Bw
open PySem PySem.Spec PyProof.Rows

/-! ### the cells that a block is handed -/
noncomputable def clOf (env : Env) : List (Str × NameKind) → List (Str × Addr) → List (Str × Addr)
  | [], cs => cs
  | y :: r, cs => clOf env r (if (y.2 == NameKind.free) = true then (match env.cells.lookup y.1 with | some a => (y.1, a) :: cs | none => cs) else cs)
theorem lookup_of_mem {β : Type} : ∀ {l : List (Str × β)} {p : Str × β}, p ∈ l → ∃ c, l.lookup p.1 = some c
  | [], _, h => nomatch h
  | (a, b) :: r, p, h => by
    cases e : p.1 == a with
    | true => exact ⟨b, by simp only [List.lookup_cons, e]⟩
    | false =>
      rcases List.mem_cons.mp h with q | q
      · subst q; simp at e
      · obtain ⟨c, hc⟩ := lookup_of_mem q
        exact ⟨c, by simp only [List.lookup_cons, e]; exact hc⟩
theorem clOf_sub {env : Env} : ∀ {ns : List (Str × NameKind)} {cs : List (Str × Addr)} {p : Str × Addr}, p ∈ clOf env ns cs → p ∈ cs ∨ env.cells.lookup p.1 = some p.2
  | [], _, _, h => .inl h
  | y :: r, cs, p, h => by
    rcases clOf_sub (ns := r) h with q | q
    · by_cases hk : (y.2 == NameKind.free) = true
      · rw [if_pos hk] at q
        cases e : env.cells.lookup y.1 with
        | none => rw [e] at q; exact .inl q
        | some a =>
          rw [e] at q
          rcases List.mem_cons.mp q with rfl | q
          · exact .inr e
          · exact .inl q
      · rw [if_neg hk] at q; exact .inl q
    · exact .inr q
theorem clOf_keep {env : Env} : ∀ {ns : List (Str × NameKind)} {cs : List (Str × Addr)} {p : Str × Addr}, p ∈ cs → p ∈ clOf env ns cs
  | [], _, _, h => h
  | y :: r, cs, p, h => by
    refine clOf_keep (ns := r) ?_
    by_cases hk : (y.2 == NameKind.free) = true
    · rw [if_pos hk]
      cases e : env.cells.lookup y.1 with
      | none => exact h
      | some a => exact List.mem_cons_of_mem _ h
    · rw [if_neg hk]; exact h
theorem clOf_has {env : Env} : ∀ {ns : List (Str × NameKind)} {cs : List (Str × Addr)} {y : Str × NameKind} {c : Addr}, y ∈ ns → y.2 = .free → env.cells.lookup y.1 = some c → (y.1, c) ∈ clOf env ns cs
  | z :: r, cs, y, c, h, hf, hc => by
    rcases List.mem_cons.mp h with rfl | h
    · refine clOf_keep (ns := r) ?_
      rw [if_pos (by rw [hf]; rfl), hc]
      exact List.mem_cons_self
    · exact clOf_has (ns := r) h hf hc
theorem closure_go {env : Env} {f : (Str × NameKind) → List (Str × Addr) → Sem (ForInStep (List (Str × Addr)))}
    (hf : ∀ y cs, f y cs = if (y.2 == NameKind.free) = true then (do let a ← cellOf env y.1; pure (ForInStep.yield ((y.1, a) :: cs))) else pure (ForInStep.yield cs)) :
    ∀ (ns : List (Str × NameKind)) (cs : List (Str × Addr)), (∀ y ∈ ns, y.2 = .free → ∃ c, env.cells.lookup y.1 = some c) → (forIn ns cs f : Sem _) = pure (clOf env ns cs)
  | [], cs, _ => rfl
  | y :: r, cs, h => by
    rw [List.forIn_cons, hf]
    by_cases hk : (y.2 == NameKind.free) = true
    · obtain ⟨c, hc⟩ := h y List.mem_cons_self (by simpa using hk)
      have e1 : cellOf env y.1 = pure c := by unfold cellOf; rw [hc]
      rw [if_pos hk, e1]
      have ih := closure_go hf r ((y.1, c) :: cs) fun z hz => h z (List.mem_cons_of_mem _ hz)
      show (forIn r ((y.1, c) :: cs) f : Sem _) = pure (clOf env r _)
      rw [ih, if_pos hk, hc]
    · have ih := closure_go hf r cs fun z hz => h z (List.mem_cons_of_mem _ hz)
      rw [if_neg hk]
      show (forIn r cs f : Sem _) = pure (clOf env r _)
      rw [ih, if_neg hk]
theorem closure_eq {env : Env} {sc : Scope} (h : ∀ y ∈ sc.names, y.2 = .free → ∃ c, env.cells.lookup y.1 = some c) : closureFor sc env = pure (clOf env sc.names []) := by
  simp only [closureFor]
  rw [closure_go (env := env) (fun y cs => by obtain ⟨n, kd⟩ := y; by_cases hk : (kd == NameKind.free) = true <;> simp [hk]) sc.names [] h]
  rfl

/-! ### the block's context -/
noncomputable def cxC (X : Cx) (N : List Str) (sc : Scope) (C : Addr) (s : Shared) (H : Hp) (fp : List Addr) : Cx where
  prog := X.prog
  w := X.w
  K := X.K
  mg := X.mg
  base := X.base
  A := X.A
  N := N
  s₀ := s
  H₀ := H
  env := compEnvC sc (clOf X.env sc.names []) C X.env
  outer := X.stack
  stack := X.stack
  ex := fp
  fn := fun _ => false
  calm := X.calm
  pn := []
  xe := fun _ _ => False
noncomputable def oldOk (sc : Scope) (env : Env) (p : Str × Str) : Bool := match (relabel sc env).names.lookup p.1 with
  | some .local => false
  | some .cell => p.1 == p.2
  | some .free => p.1 == p.2
  | _ => true
/-- what the block's names want: k own ones ahead of the def's (those that the block hides renamed) -/
structure Lc (X : Cx) (sc : Scope) (k : Nat) (N : List Str) : Prop where
  nocell : ∀ y ∈ sc.names, y.2 ≠ .cell
  kind : sc.kind = .function
  names : ∀ y ∈ sc.names, y.2 = .local → sc.names.lookup y.1 = some .local
  fr : ∀ y ∈ sc.names, y.2 = .free → X.env.kindOf y.1 = some .cell ∨ X.env.kindOf y.1 = some .free
  len : N.length = k + X.N.length
  old : ((N.drop k).zip X.N).all (oldOk sc X.env) = true
theorem lc_mk {X : Cx} {sc : Scope} {k : Nat} {N : List Str} (h1 : (sc.names.all fun y => y.2 != .cell) = true) (h2 : sc.kind = .function) (h3 : (sc.names.all fun y => y.2 != .local || sc.names.lookup y.1 == some .local) = true)
    (h4 : (sc.names.all fun y => y.2 != .free || (X.env.kindOf y.1 == some .cell || X.env.kindOf y.1 == some .free)) = true) (h5 : N.length = k + X.N.length) (h6 : ((N.drop k).zip X.N).all (oldOk sc X.env) = true) : Lc X sc k N where
  nocell := fun y hy => by have := List.all_eq_true.mp h1 y hy; simpa using this
  kind := h2
  names := fun y hy hl => by have := List.all_eq_true.mp h3 y hy; simpa [hl] using this
  fr := fun y hy hl => by have := List.all_eq_true.mp h4 y hy; simpa [hl] using this
  len := h5
  old := h6
section
variable {X : Cx} {sc : Scope} {k : Nat} {N : List Str} {pins : List (Addr × Obj)} {σ : St} {H : Hp} {s : Shared} {fp : List Addr}
theorem Lc.cells (L : Lc X sc k N) (ok : X.Ok) : ∀ y ∈ sc.names, y.2 = .free → ∃ c, X.env.cells.lookup y.1 = some c := fun y hy hf => ok.has y.1 (L.fr y hy hf)
theorem cl_in {x : Str} {c : Addr} (e : (clOf X.env sc.names []).lookup x = some c) : X.env.cells.lookup x = some c := by
  rcases clOf_sub (PySem.mem_of_lookup e) with q | q
  · exact nomatch q
  · exact q
theorem caught_free (L : Lc X sc k N) {x : Str} {kd : NameKind} (e : (relabel sc X.env).names.lookup x = some kd) (hk : kd = .cell ∨ kd = .free) : (x, NameKind.free) ∈ sc.names := by
  have hm := PySem.mem_of_lookup e
  obtain ⟨⟨n, k'⟩, hy, q⟩ := List.mem_map.mp hm
  dsimp only at q
  by_cases hc : (k' == NameKind.free && X.env.scope.kind == .function && X.env.kindOf n == some .cell) = true
  · rw [if_pos hc] at q
    have e1 : n = x := congrArg Prod.fst q
    have e2 : k' = .free := by simp at hc; exact hc.1.1
    subst e1 e2
    exact hy
  · rw [if_neg hc] at q
    have e1 : n = x := congrArg Prod.fst q
    have e2 : k' = kd := congrArg Prod.snd q
    subst e1 e2
    rcases hk with rfl | rfl
    · exact absurd rfl (L.nocell _ hy)
    · exact hy
theorem caught_at (L : Lc X sc k N) {i : Nat} {x : Str} (hi : N[i]? = some x) (hk : k ≤ i) (v : Vis (relabel sc X.env) x) : X.N[i - k]? = some x ∧ (x, NameKind.free) ∈ sc.names := by
  have hlt : i < N.length := (List.getElem?_eq_some_iff.mp hi).1
  have hl := L.len
  have h2 : i - k < X.N.length := by omega
  have e1 : (N.drop k)[i - k]? = some x := by rw [List.getElem?_drop]; rw [show k + (i - k) = i by omega]; exact hi
  have e2 : X.N[i - k]? = some X.N[i - k] := List.getElem?_eq_getElem h2
  have hz : ((N.drop k).zip X.N)[i - k]? = some (x, X.N[i - k]) := by rw [List.getElem?_zip_eq_some]; exact ⟨e1, e2⟩
  have ho := List.all_eq_true.mp L.old _ (List.mem_of_getElem? hz)
  have v' : (relabel sc X.env).names.lookup x = some .local ∨ (relabel sc X.env).names.lookup x = some .cell ∨ (relabel sc X.env).names.lookup x = some .free := v
  unfold oldOk at ho
  rcases v' with q | q | q
  · simp only [q] at ho; cases ho
  · simp only [q] at ho
    have e3 : x = X.N[i - k] := by simpa using ho
    exact ⟨by rw [e2, ← e3], caught_free L q (.inl rfl)⟩
  · simp only [q] at ho
    have e3 : x = X.N[i - k] := by simpa using ho
    exact ⟨by rw [e2, ← e3], caught_free L q (.inr rfl)⟩
/-- the context is sound -/
theorem lc_ok (L : Lc X sc k N) (I : Inv X pins σ H s) (fo : ∀ b ∈ fp, FpOk X pins H b) (ob : ∀ b ∈ fp, ∃ o, s.heap.get? b = some o) {C : Addr} (hC : s.heap.objs.size ≤ C) : (cxC X N sc C s H fp).Ok where
  mod := I.ok.mod
  kind := L.kind
  glob := I.ok.glob
  blt := I.ok.blt
  above := hC
  inj := fun x y c h1 h2 => I.ok.inj x y c (cl_in h1) (cl_in h2)
  has := fun x hx => by
    have hx' : (relabel sc X.env).names.lookup x = some .cell ∨ (relabel sc X.env).names.lookup x = some .free := hx
    have hm : (x, NameKind.free) ∈ sc.names := by
      rcases hx' with q | q
      · exact caught_free L q (.inl rfl)
      · exact caught_free L q (.inr rfl)
    obtain ⟨c, hc⟩ := L.cells I.ok _ hm rfl
    exact lookup_of_mem (clOf_has hm rfl hc)
  cab := fun x c h _ => nomatch h
  hd := I.ok.hd
  frames := I.ok.frames
  stk := .inl rfl
  exf := fun b hb => by
    obtain ⟨o, e⟩ := ob b hb
    refine ⟨Nat.ne_of_lt (Nat.lt_of_lt_of_le (Heap.lt_size e) hC), fun x c h => (fo b hb).2.2.2.2.1 x c (cl_in h)⟩
  bs := I.bs
  bsz := Nat.le_trans I.ok.bsz I.sz
  noex := fun b o e hb => by
    rcases (fo b hb).2.2.2.1 with q | q
    · exact I.ok.noex b o e q
    · exact absurd (Nat.lt_of_lt_of_le (Heap.lt_size e) (Nat.le_trans I.ok.bsz q)) (Nat.lt_irrefl _)
  exfs := fun b hb hf => by
    rcases List.mem_cons.mp (I.stkSub b hf) with q | q
    · exact (fo b hb).2.1 q
    · exact (fo b hb).2.2.1 q
  funs := I.stack
  frf := I.stkFree
/-- the state at the block's start -/
theorem lc_start (L : Lc X sc k N) (I : Inv X pins σ H s) (fo : ∀ b ∈ fp, FpOk X pins H b) (ob : ∀ b ∈ fp, ∃ o, s.heap.get? b = some o) {C : Addr} {h' : Heap} {tk n : Nat} {m : Str → Option Value} (hC : s.heap.objs.size < C)
    (kp : ∀ b o, s.heap.get? b = some o → h'.get? b = some o) (hd : h'.get? s.heap.objs.size = some { cls := .type "list", data := .seq ([] : List Value).toArray n }) (hn : h'.Ns C m) :
    Inv (cxC X N sc C s H fp) [] (List.replicate k none ++ σ) (upd H s.heap.objs.size (.lst [])) { s with heap := h', toks := tk } := by
  have hD : H s.heap.objs.size = none := I.hok.fresh (Nat.le_refl _)
  have nofr : ∀ b, H b = none → b ≠ s.heap.objs.size → upd H s.heap.objs.size (.lst []) b = none := fun b h1 h2 => by rw [upd_ne h2]; exact h1
  have clt : ∀ x c, X.env.cells.lookup x = some c → c < s.heap.objs.size := fun x c e => by obtain ⟨v, q⟩ := I.cell x c e; exact q.lt
  have ckeep : ∀ {c : Addr} {v : Option Value}, s.heap.IsCell c v → h'.IsCell c v := fun {c v} ⟨o, e, d⟩ => ⟨o, kp c o e, d⟩
  refine ⟨lc_ok L I fo ob (Nat.le_of_lt hC), rfl, I.bare, Un.laid kp (Nat.le_refl _) hD, ⟨m, hn, fun i x v h1 h2 h3 => ?_⟩, fun x c e => ?_, ?_, fun x c e => ?_, fun p hp => absurd (show p ∈ ([] : List (Addr × Obj)) from hp) (by simp), ?_, ?_⟩
  · have hki : k ≤ i := by
      by_cases q : i < k
      · rw [List.getElem?_append_left (by simpa using q), List.getElem?_replicate, if_pos q] at h2
        cases h2
      · omega
    rw [List.getElem?_append_right (by simpa using hki), List.length_replicate] at h2
    obtain ⟨hx, hm⟩ := caught_at L h1 hki h3
    have hkx := L.fr _ hm rfl
    have hvis : Vis X.env.scope x := by
      rcases hkx with q | q
      · exact .inr (.inl q)
      · exact .inr (.inr q)
    obtain ⟨m0, _, hl⟩ := I.loc
    obtain ⟨u, r, l⟩ := hl (i - k) x v hx h2 hvis
    refine ⟨u, r, ?_⟩
    rcases l with ⟨q, _⟩ | ⟨_, c, hc, hcell⟩
    · rcases hkx with z | z
      · rw [show X.env.kindOf x = some .cell from z] at q; cases q
      · rw [show X.env.kindOf x = some .free from z] at q; cases q
    · obtain ⟨c', hc'⟩ := lookup_of_mem (clOf_has hm rfl hc)
      have e := cl_in hc'
      rw [hc] at e; cases e
      refine .inr ⟨?_, c, hc', ckeep hcell⟩
      have v' : (relabel sc X.env).names.lookup x = some .local ∨ (relabel sc X.env).names.lookup x = some .cell ∨ (relabel sc X.env).names.lookup x = some .free := h3
      rcases v' with z | z | z
      · exfalso
        have hlt : i < N.length := (List.getElem?_eq_some_iff.mp h1).1
        have hl' := L.len
        have h2' : i - k < X.N.length := by omega
        have hz : ((N.drop k).zip X.N)[i - k]? = some (x, X.N[i - k]) := by
          rw [List.getElem?_zip_eq_some]
          exact ⟨by rw [List.getElem?_drop, show k + (i - k) = i by omega]; exact h1, List.getElem?_eq_getElem h2'⟩
        have ho := List.all_eq_true.mp L.old _ (List.mem_of_getElem? hz)
        unfold oldOk at ho
        simp only [z] at ho
        cases ho
      · exact .inl z
      · exact .inr z
  · obtain ⟨v, q⟩ := I.cell x c (cl_in e)
    exact ⟨v, ckeep q⟩
  · exact nofr C (I.hok.fresh (Nat.le_of_lt hC)) (Nat.ne_of_gt hC)
  · exact nofr c (I.freeC x c (cl_in e)) (Nat.ne_of_lt (clt x c (cl_in e)))
  · exact I.hok.laid kp (Nat.le_refl _) (show ObjOk X.prog X.w _ h' _ (.lst []) from ⟨Nat.zero_le _, [], n, .nil, hd⟩)
  · show (List.replicate k none ++ σ).length = N.length
    rw [List.length_append, List.length_replicate, L.len, I.len]
/-- behind the block -/
theorem lc_end (I : Inv X pins σ H s) (fo : ∀ b ∈ fp, FpOk X pins H b) {C : Addr} {σ' : St} {H' : Hp} {s' : Shared} (J : Inv (cxC X N sc C s H fp) [] σ' H' s') : Inv X pins σ H' s' :=
  I.call' (ch := fp) J.os J.base J.hok J.bare fun b hb => let ⟨_, h1, _, h3, h4, h5⟩ := fo b hb; ⟨h3, h1, h4, h5⟩
end

/-! ### tests, the loop -/
noncomputable def PTs (Y : Cx) (ifs : List Expr) (t : TT) : Prop :=
  ∀ (pins : List (Addr × Obj)) (s : Shared) (σ : St) (H : Hp) (Q : Bool → Hp → Prop), Inv Y pins σ H s → t σ H Q →
    wpAny (model Y.prog Y.w) Y.A (forIn ifs true fun c r => if r = true then do let ok ← isTrue c Y.env (eval c Y.env); pure (ForInStep.yield ok) else pure (ForInStep.yield r)) (TP Y pins σ Q) Y.xe s
noncomputable def tYes : TT := fun _ H Q => Q true H
theorem pts_nil {Y : Cx} : PTs Y [] tYes := fun _ _ _ H _ I h => wpAny_tests_nil ⟨H, I, h⟩
theorem pts_one {Y : Cx} {c : Expr} {t : TT} (h : PT Y c t) : PTs Y [c] t := fun pins s σ H Q I q => wpAny_tests_one (h pins s σ H Q I q)

/-- one turn's wish: W by the turn, a measure -/
noncomputable def TurnW (J : It) (g : TG) (tt : TT) (te : TE) (D : Addr) (W : Nat → Nat → St → Hp → Prop) (Qe : Hp → Prop) : Prop := ∀ i m σ H, W i m σ H →
  (J.stop i H ∧ Qe H) ∨ (J.go i H ∧ ∀ x H', J.yld i H x H' → g x σ H' fun σ2 H2 => tt σ2 H2 fun b H3 =>
    if b = true then te σ2 H3 fun y H4 => ∃ ys, H4 D = some (.lst ys) ∧ ys.length < sizeLine ∧ ∃ m', m' < m ∧ W (i + 1) m' σ2 (upd H4 D (.lst (ys ++ [y])))
    else ∃ m', m' < m ∧ W (i + 1) m' σ2 H3)
theorem lc_loop {Y : Cx} {elt tg iter : Expr} {ifs : List Expr} {sc : Scope} {pos : Pos} {J : It} {fp : List Addr} {it D : Addr} {tn : Nat → Heap → Prop} {g : TG} {tt : TT} {te : TE} {W : Nat → Nat → St → Hp → Prop} {Qe : Hp → Prop}
    {R : Result → Shared → Prop} (hc : Y.calm = true) (hx : ∀ e s, Y.xe e s → False) (T : Turn Y.prog Y.w Y.K tg J fp it tn) (fo : ∀ H' : Hp, (∀ b ∈ fp, H' b = none) → ∀ b ∈ fp, FpOk Y [] H' b)
    (hg : PG Y tg g) (ht : PTs Y ifs tt) (he : PE Y elt te) (turn : TurnW J g tt te D W Qe) (hR : ∀ σ' H' s', Inv Y [] σ' H' s' → Qe H' → R (.ok .next) s')
    {σ : St} {H : Hp} {s : Shared} {m0 : Nat} (I : Inv Y [] σ H s) (st : tn 0 s.heap) (fr : ∀ b ∈ fp, H b = none) (w0 : W 0 m0 σ H) :
    codeAny (model Y.prog Y.w) Y.A (.compLoop (.ListComp elt [⟨tg, iter, ifs, 0⟩] sc pos) 0 (.ref it) (.ref D) Y.env) R s := by
  refine codeAny_loop rfl (fun n s' => ∃ i σ' H', Inv Y [] σ' H' s' ∧ tn i s'.heap ∧ (∀ b ∈ fp, H' b = none) ∧ W i n σ' H') (fun n s3 hI => ?_) m0 ⟨0, σ, H, I, st, fr, w0⟩
  obtain ⟨i, σ3, H3, I3, st3, fr3, w3⟩ := hI
  show wpAny (model Y.prog Y.w) Y.A ((compTurn (.ListComp elt [⟨tg, iter, ifs, 0⟩] sc pos) 0 (.ref it) (.ref D) Y.env).onRaise (fun x => do noteFrame x Y.env; theTreesLotGoes x)) _ _ s3
  refine wpAny_noted ?_
  rw [compTurn_list]
  refine wpAny_bind (wpAny_standAt (wpAny_bind ?_))
  rcases turn i n σ3 H3 w3 with ⟨stop, qn⟩ | ⟨go, step⟩
  · refine thn (T.done Y rfl rfl rfl hc i [] s3 σ3 H3 _ I3 (fo H3 fr3) st3 stop) fun r s4 q4 => ?_
    obtain ⟨hr, I4⟩ := q4
    subst hr
    exact wpAny_pure (hR σ3 H3 s4 I4 qn)
  · refine thn (T.item Y rfl rfl rfl hc i [] s3 σ3 H3 _ I3 (fo H3 fr3) st3 go) fun r s4 q4 => ?_
    obtain ⟨u, hr, h4⟩ := q4
    subst hr
    refine wpAny_bind (thn h4 fun _ s5 q5 => ?_)
    obtain ⟨x, H5, I5, r5, y5, st5, fr5⟩ := q5
    have I5' := I5.pinned (fo H5 fr5) (T.obj _ _ st5)
    have quit : ∀ {e : Value} {s' : Shared} {Z : Prop}, Y.xe e s' → Z := fun h => (hx _ _ h).elim
    refine wpAny_bind (wpAny_mono (hg _ s5 σ3 H5 x u _ I5' r5 (step x H5 y5)) (fun _ s6 q6 => ?_) fun _ _ e => quit e)
    obtain ⟨σ6, H6, I6, q6⟩ := q6
    have fin : ∀ {σ7 : St} {H7 : Hp} {s7 : Shared}, Inv Y ([] ++ pinsAt fp s5.heap) σ7 H7 s7 → (∃ m', m' < n ∧ W (i + 1) m' σ7 H7) → ∃ m, m < n ∧ ∃ i σ' H', Inv Y [] σ' H' s7 ∧ tn i s7.heap ∧ (∀ b ∈ fp, H' b = none) ∧ W i m σ' H' := fun {σ7 H7 s7} I7 q7 => by
      obtain ⟨m', hm, w7⟩ := q7
      refine ⟨m', hm, i + 1, σ7, H7, I7.unpinned, T.keep _ _ _ st5 fun b hb o e => (I7.pin (b, o) (List.mem_append_right _ (List.mem_append_right _ (mem_pinsAt hb e)))).1, fun b hb => ?_, w7⟩
      obtain ⟨o, e, d⟩ := T.obj _ _ st5 b hb
      exact (I7.pin (b, o) (List.mem_append_right _ (List.mem_append_right _ (mem_pinsAt hb e)))).2.1
    refine wpAny_bind (wpAny_mono (ht _ s6 σ6 H6 _ I6 q6) (fun b s7 q7 => ?_) fun _ _ e => quit e)
    obtain ⟨H7, I7, q7⟩ := q7
    cases b with
    | false =>
      rw [if_neg Bool.false_ne_true] at q7
      exact wpAny_pure ⟨rfl, fin I7 q7⟩
    | true =>
      rw [if_pos rfl] at q7
      refine wpAny_bind (wpAny_bind (wpAny_mono (he _ s7 σ6 H7 _ I7 q7) (fun v s8 q8 => ?_) fun _ _ e => quit e))
      obtain ⟨y, H8, I8, r8, ys, hD, hz, q8⟩ := q8
      refine wpAny_bind (wpAny_mono (mt_append _ s8 σ6 H8 (.ref D) [y] (.ref D) [v] (fun _ H9 => ∃ m', m' < n ∧ W (i + 1) m' σ6 H9) I8 rfl (.cons r8 .nil) ⟨D, ys, y, rfl, rfl, hD, hz, q8⟩) (fun _ s9 q9 => ?_) fun _ _ e => quit e)
      obtain ⟨_, H9, I9, _, q9⟩ := q9
      exact wpAny_pure (wpAny_pure ⟨rfl, fin I9 q9⟩)

/-! ### the rule -/
/-- the block run for a comprehension, whatever is done with its list -/
theorem lc_block {X : Cx} {sc : Scope} {k : Nat} {N : List Str} {elt tg iter : Expr} {ifs : List Expr} {pos : Pos} {g : TG} {tt : TT} {te : TE} (L : Lc X sc k N) (hc : X.calm = true)
    (hg : ∀ C s H fp, PG (cxC X N sc C s H fp) tg g) (ht : ∀ C s H fp, PTs (cxC X N sc C s H fp) ifs tt) (he : ∀ C s H fp, PE (cxC X N sc C s H fp) elt te)
    {pins : List (Addr × Obj)} {σ : St} {H : Hp} {s : Shared} {it : Addr} {fp : List Addr} {tn : Nat → Heap → Prop} {J : It} {Q : V → Hp → Prop} {E : Value → Shared → Prop} {RR : Value → Addr → Result → Shared → Prop}
    (I : Inv X pins σ H s) (T : Turn X.prog X.w X.K tg J fp it tn) (st : tn 0 s.heap) (fo : ∀ b ∈ fp, FpOk X pins H b)
    (hq : ∀ D, H D = none → ∃ W, (∃ m, W 0 m (List.replicate k none ++ σ) (upd H D (.lst []))) ∧ TurnW J g tt te D W (Q (.ref D)))
    (hRR : ∀ C σ' H' s', s.heap.objs.size < C → Inv (cxC X N sc C s H fp) [] σ' H' s' → Q (.ref s.heap.objs.size) H' → RR (.ref s.heap.objs.size) C (.ok .next) s') :
    wpAny (model X.prog X.w) X.A (newList []) (fun acc s3 => wpAny (model X.prog X.w) X.A (newFunctionEnv sc X.env.globals (clOf X.env sc.names []) [] X.env.qual none .none (some X.env)) (fun cenv s4 =>
      codeAny (model X.prog X.w) X.A (.compStart (.ListComp elt [⟨tg, iter, ifs, 0⟩] sc pos) 0 (.ref it) acc { cenv with scope := relabel sc X.env }) (RR acc cenv.locals) s4) E s3) E s := by
  refine wpAny_newObj_type (wpAny_newFunctionEnv L.nocell (by intro y hy; simp at hy) (fun h1 hns hsb => ?_) L.kind)
  dsimp only at hns hsb ⊢
  generalize hG : s.heap.push { cls := .type "list", dict := none, data := .seq ([] : List Value).toArray } = G at hns hsb ⊢
  have hC : G.objs.size = s.heap.objs.size + 1 := by rw [← hG, Heap.size_push]
  have hlt : s.heap.objs.size < G.objs.size := by omega
  have ob : ∀ b ∈ fp, ∃ o, s.heap.get? b = some o := fun b hb => let ⟨o, e, _⟩ := T.obj _ _ st b hb; ⟨o, e⟩
  have up : ∀ b o, G.get? b = some o → h1.get? b = some o := fun b o e => hsb.extBut b o (Nat.ne_of_lt (Heap.lt_size e)) (Heap.get?_push_of_some _ e)
  have kp : ∀ b o, s.heap.get? b = some o → h1.get? b = some o := fun b o e => up b o (hG ▸ Heap.get?_push_of_some _ e)
  have I0 : Inv (cxC X N sc G.objs.size s H fp) [] (List.replicate k none ++ σ) (upd H s.heap.objs.size (.lst [])) { s with heap := h1, toks := s.toks + ([] : List (Str × Value)).length } :=
    lc_start L I fo ob hlt kp (up _ _ (hG ▸ Heap.get?_push_size _ rfl)) hns
  have st1 : tn 0 h1 := T.keep _ _ _ st fun b _ o e => kp b o e
  have hD : H s.heap.objs.size = none := I.hok.fresh (Nat.le_refl _)
  obtain ⟨W, ⟨m0, w0⟩, turn⟩ := hq _ hD
  have foY : ∀ H' : Hp, (∀ b ∈ fp, H' b = none) → ∀ b ∈ fp, FpOk (cxC X N sc G.objs.size s H fp) [] H' b := fun H' hn b hb =>
    ⟨hn b hb, (I0.ok.exf b hb).1, I0.ok.exfs b hb, .inl hb, (I0.ok.exf b hb).2, fun p hp => absurd (show p ∈ ([] : List (Addr × Obj)) from hp) (by simp)⟩
  have fr0 : ∀ b ∈ fp, upd H s.heap.objs.size (.lst []) b = none := fun b hb => by
    obtain ⟨o, e⟩ := ob b hb
    rw [upd_ne (Nat.ne_of_lt (Heap.lt_size e))]
    exact (fo b hb).1
  have loop : codeAny (model X.prog X.w) X.A (.compLoop (.ListComp elt [⟨tg, iter, ifs, 0⟩] sc pos) 0 (.ref it) (.ref s.heap.objs.size) (cxC X N sc G.objs.size s H fp).env) (RR (.ref s.heap.objs.size) G.objs.size) { s with heap := h1, toks := s.toks + ([] : List (Str × Value)).length } :=
    lc_loop (Y := cxC X N sc G.objs.size s H fp) (iter := iter) hc (fun _ _ h => h) T foY (hg _ _ _ _) (ht _ _ _ _) (he _ _ _ _) turn (fun σ' H' s' J' q => hRR _ σ' H' s' hlt J' q) I0 st1 fr0 w0
  exact codeAny_compStart_list loop (T.self _ 0 _ _ _ st1 loop)
noncomputable def tLC (k : Nat) (wi : TI) (g : TG) (tt : TT) (te : TE) : TE := fun σ H Q => wi σ H fun J H1 => ∀ D, H1 D = none →
  ∃ W, (∃ m, W 0 m (List.replicate k none ++ σ) (upd H1 D (.lst []))) ∧ TurnW J g tt te D W (Q (.ref D))
section
variable {X : Cx} {sc : Scope} {k : Nat} {N : List Str} {elt tg iter : Expr} {ifs : List Expr} {pos : Pos} {wi : TI} {g : TG} {tt : TT} {te : TE}
theorem pe_lc (L : Lc X sc k N) (hc : X.calm = true) (hi : PI X tg iter wi) (hg : ∀ C s H fp, PG (cxC X N sc C s H fp) tg g) (ht : ∀ C s H fp, PTs (cxC X N sc C s H fp) ifs tt) (he : ∀ C s H fp, PE (cxC X N sc C s H fp) elt te)
    (hs : ∀ x, foldedSetIterable iter X.env x = pure x := by intro _; rfl) : PE X (.ListComp elt [⟨tg, iter, ifs, 0⟩] sc pos) (tLC k wi g tt te) := by
  intro pins s σ H Q I h
  rw [eval_ListComp]
  refine wpAny_comprehension_free (use := none) rfl hs (closure_eq (L.cells I.ok)) L.kind L.names (thn (hi pins s σ H _ I h) fun v s1 h1 => thn h1 fun itv s2 h2 => ?_)
  obtain ⟨it, fp, tn, J, H2, e, I2, T, st2, f2, q2⟩ := h2
  subst e
  refine lc_block (RR := fun acc C => compPost (model X.prog X.w) X.A X.xe none (EP X pins σ Q) acc C) L hc hg ht he I2 T st2 f2 q2 fun C σ' H' s' hC J' q => ?_
  have I3 := lc_end I2 f2 J'
  obtain ⟨m, hn, _⟩ := J'.loc
  refine ⟨m, hn, fun h' sb => ?_⟩
  obtain ⟨f0, f1, f2', f3, f4, f5⟩ := I2.fpOk (Nat.le_of_lt hC) (show H' C = none from J'.free)
  exact ⟨.ref s2.heap.objs.size, H', I3.turned (t' := s'.toks) (fun b o hb e => (sb.2 b hb).trans e) f0 f1 f3 f4 f5, rfl, q⟩
/-- x = [..], stored while the block's names still stand -/
theorem ps_lc {i : Nat} {x : Str} {pos' spos : Pos} (L : Lc X sc k N) (hc : X.calm = true) (hN : X.N.Nodup) (hx : X.N[i]? = some x) (hl : Loc X.env.scope x) (hi : PI X tg iter wi)
    (hg : ∀ C s H fp, PG (cxC X N sc C s H fp) tg g) (ht : ∀ C s H fp, PTs (cxC X N sc C s H fp) ifs tt) (he : ∀ C s H fp, PE (cxC X N sc C s H fp) elt te)
    (hsw : swapsWith (.ListComp elt [⟨tg, iter, ifs, 0⟩] sc pos) (some (.Name x pos')) spos.line X.env = pure true := by rfl) (hf : X.fn x = true ∨ X.env.scope.names.lookup x = some .local := by first | exact .inl rfl | exact .inr rfl | assumption)
    (hs : ∀ x, foldedSetIterable iter X.env x = pure x := by intro _; rfl) : PS X (.Assign [.Name x pos'] (.ListComp elt [⟨tg, iter, ifs, 0⟩] sc pos) spos) (tAsg (tLC k wi g tt te) (gName i)) := by
  intro pins s σ H D I h
  rw [exec_Assign_Name_used _ _ _ _ hsw]
  refine wpAny_bind (wpAny_standAt (wpAny_bind ?_))
  show wpAny _ X.A (do let _ ← comprehension (.ListComp elt [⟨tg, iter, ifs, 0⟩] sc pos) sc X.env _ (newList []) false (eval iter X.env) (some (assign (.Name x pos') X.env))) _ _ s
  refine wpAny_bind (thn (wpAny_comprehension_free (use := some (assign (.Name x pos') X.env)) (Q := fun _ s' => SP X pins D .next s') rfl hs (closure_eq (L.cells I.ok)) L.kind L.names
    (thn (hi pins s σ H _ I h) fun v s1 h1 => thn h1 fun itv s2 h2 => ?_)) fun _ s' hq => wpAny_pure (wpAny_pure hq))
  obtain ⟨it, fp, tn, J, H2, e, I2, T, st2, f2, q2⟩ := h2
  subst e
  refine lc_block (Q := fun v H1 => gName i v σ H1 D.nx) (RR := fun acc C => compPost (model X.prog X.w) X.A X.xe (some (assign (.Name x pos') X.env)) (fun _ s' => SP X pins D .next s') acc C) L hc hg ht he I2 T st2 f2 q2 fun C σ' H' s' hC J' q => ?_
  have I3 := lc_end I2 f2 J'
  obtain ⟨m, hn, _⟩ := J'.loc
  obtain ⟨f0, f1, f2', f3, f4, f5⟩ := I2.fpOk (Nat.le_of_lt hC) (show H' C = none from J'.free)
  show wpAny _ X.A (assign (.Name x pos') X.env (.ref s2.heap.objs.size)) _ _ _
  refine wpAny_assign_Name (store_ok2 I3 hN hx hl (v := .ref s2.heap.objs.size) rfl (fun s4 I4 hs4 => ?_) hf)
  obtain ⟨a, sb, ha⟩ := hs4
  have hne : C ≠ a := by
    rcases ha with rfl | ha
    · exact f1
    · exact fun e => f4 x a ha e.symm
  refine ⟨m, hn.sameBut sb hne, fun h' sb' => ?_⟩
  exact ⟨_, H', I4.turned (t' := s4.toks) (fun b o hb e => (sb'.2 b hb).trans e) f0 f1 f3 f4 f5, q⟩
end
end L2.Bw

end
section
set_option Elab.async false
set_option linter.all false
set_option maxRecDepth 100000
/-! Data made of ints, bools, texts and tuples, and how the heap bears them. -/
namespace L2.Bw
open PySem PySem.Spec PyProof.Rows

inductive Dt where
  | int (i : Int)
  | bl (b : Bool)
  | str (x : Str)
  | tup (xs : List Dt)
mutual
noncomputable def Rep (H : Hp) : Dt → V → Prop
  | .int i, v => v = .int i
  | .bl b, v => v = .bl b
  | .str x, v => v = .str x
  | .tup ds, v => ∃ a vs, v = .ref a ∧ H a = some (.tup vs) ∧ Reps H ds vs
noncomputable def Reps (H : Hp) : List Dt → List V → Prop
  | [], vs => vs = []
  | d :: ds, vs => ∃ v r, vs = v :: r ∧ Rep H d v ∧ Reps H ds r
end
mutual
noncomputable def Dt.dp : Dt → Nat
  | .tup ds => 1 + dps ds
  | .int _ => 0
  | .bl _ => 0
  | .str _ => 0
noncomputable def dps : List Dt → Nat
  | [] => 0
  | d :: ds => max d.dp (dps ds)
end
mutual
noncomputable def Dt.nar : Dt → Prop
  | .tup ds => ds.length ≤ 1000 ∧ nars ds
  | .int _ => True
  | .bl _ => True
  | .str _ => True
noncomputable def nars : List Dt → Prop
  | [] => True
  | d :: ds => d.nar ∧ nars ds
end
/-- all that stood stays, but for what M says -/
noncomputable def Gr (M : Addr → Prop) (H H' : Hp) : Prop := ∀ b o, H b = some o → ¬ M b → H' b = some o
noncomputable abbrev M0 : Addr → Prop := fun _ => False
noncomputable abbrev M1 (a : Addr) : Addr → Prop := fun b => b = a
noncomputable abbrev M2 (a c : Addr) : Addr → Prop := fun b => b = a ∨ b = c
/-- the tuples stay -/
noncomputable def Tm (H H' : Hp) : Prop := ∀ a xs, H a = some (.tup xs) → H' a = some (.tup xs)
mutual
theorem Rep.mono {H H' : Hp} (m : Tm H H') : ∀ {d : Dt} {v : V}, Rep H d v → Rep H' d v
  | .int _, _, h => h
  | .bl _, _, h => h
  | .str _, _, h => h
  | .tup _, _, ⟨a, vs, e, h, t⟩ => ⟨a, vs, e, m a vs h, Reps.mono m t⟩
theorem Reps.mono {H H' : Hp} (m : Tm H H') : ∀ {ds : List Dt} {vs : List V}, Reps H ds vs → Reps H' ds vs
  | [], _, h => h
  | _ :: _, _, ⟨v, r, e, h, t⟩ => ⟨v, r, e, Rep.mono m h, Reps.mono m t⟩
end
theorem Gr.refl {M : Addr → Prop} (H : Hp) : Gr M H H := fun _ _ h _ => h
theorem Gr.trans {M : Addr → Prop} {H H1 H2 : Hp} (a : Gr M H H1) (b : Gr M H1 H2) : Gr M H H2 := fun c o h n => b c o (a c o h n) n
theorem Gr.new {M : Addr → Prop} {H : Hp} {p : Addr} {o : HO} (h : H p = none) : Gr M H (upd H p o) := fun b u e _ => by rw [upd_ne (ne_of_none e h)]; exact e
theorem Gr.put {M : Addr → Prop} {H : Hp} {p : Addr} {o : HO} (h : M p) : Gr M H (upd H p o) := fun b u e n => by
  rw [upd_ne (fun q => n (by rw [q]; exact h))]; exact e
theorem Gr.tm {M : Addr → Prop} {H H' : Hp} (g : Gr M H H') (h : ∀ b xs, M b → H b = some (.tup xs) → False) : Tm H H' := fun a xs e => g a _ e fun m => h a xs m e
/-- the changed ones are lists -/
theorem Gr.tm1 {H H' : Hp} {l : Addr} {xs : List V} (g : Gr (M1 l) H H') (h : H l = some (.lst xs)) : Tm H H' := g.tm fun b ys m e => by cases (show b = l from m); rw [h] at e; cases e
theorem Gr.seq {K : PySem.W.Frag} {M : Addr → Prop} {H H' : Hp} {a : Addr} {xs : List V} (g : Gr M H H') (n : ¬ M a) (h : SqL K H a xs) : SqL K H' a xs := by
  rcases h with (h | ⟨o, h⟩) | h
  · exact .inl (.inl (g _ _ h n))
  · exact .inl (.inr ⟨o, g _ _ h n⟩)
  · exact .inr h
/-! ### argument lists, whatever their length -/
noncomputable def isStar : Expr → Bool
  | .Starred .. => true
  | _ => false
theorem star_of {e : Expr} {es : List Expr} {env : Env} (h : isStar e = false) : starEach (e :: es) env = (false, eval e env) :: starEach es env := by
  cases e <;> first | rfl | cases h
theorem pa {X : Cx} {e : Expr} {es : List Expr} {te : TE} {t : TA} (ha : PE X e te) (hr : PA X es t) (h : isStar e = false := by rfl) : PA X (e :: es) (tCons te t) := pa_cons ha hr (star_of h)
/-! ### a def of the text, as it is called -/
structure Cal (P : Program) (w : World) (K : PySem.W.Frag) (mg : Str → Option Value) (base : Heap) (x : Str) (ps : List Str) (k : Nat) (sp : Sp) : Prop where
  ex : ∃ f fd, FnOk P w K mg base CX0 k f fd ps sp ∧ Binds K fd ps [] ∧ PySem.W.keepIn K (.ref f) = true ∧ mg x = some (.ref f)
theorem pe_cal {X : Cx} {x : Str} {ps : List Str} {k n : Nat} {sp : Sp} {p pos : Pos} {e : Expr} {es : List Expr} {t : TA} (c : Cal X.prog X.w X.K X.mg X.base x ps k sp) (hr : Room n X.A) (ha : PA X (e :: es) t) (hn : k ≤ n := by omega) (hg : Gl X x := by rfl)
    (hdb : (x == ("__debug__" : Str)) = false := by decide) (he : starEach (e :: es) X.env = (false, eval e X.env) :: starEach es X.env := by rfl)
    (hpl : (backTo pos (starEach es X.env)).any (·.1) = false := by rfl) : PE X (.Call (.Name x p) (e :: es) [] pos) (tCall sp [] E0 t) := by
  obtain ⟨f, fd, F, b, kp, m⟩ := c.ex
  exact pe_call F (hr.mono hn) hg m kp b .nil pass0 ha hdb he hpl
end L2.Bw

end
section
set_option Elab.async false
set_option linter.all false
set_option maxRecDepth 100000
/-! More rules for the hand layer: joined ones, isinstance, == of nested data, count, zip, lists of reversed lists. -/
namespace L2.Bw
open PySem PySem.Spec PyProof.Rows
section
variable {X : Cx}

/-! ### joined rules -/
noncomputable def rAddA (K : PySem.W.Frag) : R2 := fun x y H Q => (∃ i j, x = .int i ∧ y = .int j ∧ Q (.int (i + j)) H) ∨ (∃ i j, x = .str i ∧ y = .str j ∧ i.length + j.length ≤ sizeLine ∧ Q (.str (i ++ j)) H) ∨ rCat x y H Q ∨ rCatT K x y H Q
theorem op_addA : OpR X (binaryOp .Add) (rAddA X.K) := fun pins s σ H x y v u Q I rx ry h => by
  rcases h with h | h | h | h
  · exact op_add pins s σ H x y v u Q I rx ry h
  · exact op_add_str pins s σ H x y v u Q I rx ry h
  · exact op_cat pins s σ H x y v u Q I rx ry h
  · exact op_catT pins s σ H x y v u Q I rx ry h
theorem addL {K : PySem.W.Frag} {x y : V} {H : Hp} {Q : VK} (h : rCat x y H Q) : rAddA K x y H Q := .inr (.inr (.inl h))
theorem addT {K : PySem.W.Frag} {x y : V} {H : Hp} {Q : VK} (h : rCatT K x y H Q) : rAddA K x y H Q := .inr (.inr (.inr h))
noncomputable def rLenA (K : PySem.W.Frag) : List V → Hp → VK → Prop := fun xs H Q => (∃ p ys, xs = [.ref p] ∧ (SqL K H p ys ∨ SqT K H p ys) ∧ Q (.int ys.length) H) ∨ ∃ z, xs = [.str z] ∧ z.length ≤ sizeLine ∧ Q (.int z.length) H
theorem call_lenA : CallR X (.builtin "len") (rLenA X.K) := fun pins s σ H xs us Q I r h => by
  rcases h with h | h
  · exact call_len_seq pins s σ H xs us Q I r h
  · exact call_len_str pins s σ H xs us Q I r h
theorem pe_ty {x : Str} {T : String} {pos : Pos} (hg : Gl X x) (hm : X.mg x = none) (hv : bootBuiltins x = some (.type T)) (hn : x ≠ "__name__" := by decide) (hd : (x == ("__debug__" : Str)) = false := by decide) : PE X (.Name x pos) (tC (.ty T)) :=
  pe_bltn hg hm hv (v := .ty T) rfl hn hd
/-- a list or a tuple, walked -/
noncomputable def iSeq (K : PySem.W.Frag) (tl : TE) : TI := fun σ H R => tl σ H fun x H1 => ∃ a, x = .ref a ∧ (((∃ xs, SqL K H1 a xs) ∧ R (Itl K a) H1) ∨ ((∃ xs, SqT K H1 a xs) ∧ R (Itt K a) H1))
theorem pi_seq {tg l : Expr} {tl : TE} (hl : PE X l tl) : PI X tg l (iSeq X.K tl) := by
  intro pins s σ H R I h
  refine thn (hl pins s σ H _ I h) fun v s1 q => ?_
  obtain ⟨x, H1, I1, r1, a, e, q1⟩ := q
  subst e
  cases r1
  have one : ∀ b ∈ [s1.heap.objs.size], FpOk X pins H1 b := fun b hb => by
    cases (show b = s1.heap.objs.size by simpa using hb)
    exact I1.fpOk (Nat.le_refl _) (I1.hok.fresh (Nat.le_refl _))
  rcases q1 with ⟨⟨xs, hq⟩, q⟩ | ⟨⟨xs, hq⟩, q⟩
  · obtain ⟨its, rv, p, hz⟩ := I1.list hq
    exact wpAny_pyIter_list p.isList ⟨s1.heap.objs.size, [s1.heap.objs.size], _, _, H1, rfl, I1.kept (t' := s1.toks) fun b o e => Heap.get?_push_of_some _ e, turn_list a _, ⟨_, Heap.get?_push_size _ rfl, rfl, rfl⟩, one, q⟩
  · obtain ⟨its, rv, p, hz⟩ := I1.tuple hq
    exact wpAny_pyIter_tuple (show s1.heap.IsTuple a its.toArray from p) ⟨s1.heap.objs.size, [s1.heap.objs.size], _, _, H1, rfl, I1.kept (t' := s1.toks) fun b o e => Heap.get?_push_of_some _ e, turn_tuple a _, ⟨_, Heap.get?_push_size _ rfl, rfl, rfl⟩, one, q⟩

/-! ### isinstance -/
noncomputable def IsI (K : PySem.W.Frag) (H : Hp) (x : V) (n : String) (b : Bool) : Prop := ∃ t, TyOf K H x t ∧ PySem.W.kitOne K t (.type n) = some b
theorem call_isi : CallR X (.builtin "isinstance") (fun xs H Q => ∃ x n b, xs = [x, .ty n] ∧ IsI X.K H x n b ∧ Q (.bl b) H) := by
  intro pins s σ H xs us Q I r h
  obtain ⟨x, n, b, e, ⟨t, ty, k⟩, q⟩ := h
  subst e
  obtain ⟨u, w, e, ru, rw'⟩ := Vals.two r
  subst e
  cases rw'
  exact isinst_ok I ru ty k fun tk => ⟨.bl b, H, I.tok tk, rfl, q⟩

/-! ### == of data -/
/-- what == tells of two lists or tuples -/
inductive EqC (K : PySem.W.Frag) (H : Hp) : V → V → Bool → Prop where
  | lists {a c : Addr} {vs ws : List V} {ds : List Dt} (ha : SqL K H a vs) (hc : SqL K H c ws) (ta : Reps H ds vs) (tc : Reps H ds ws) (hd : dps ds ≤ 60) : EqC K H (.ref a) (.ref c) true
  | lens {a c : Addr} {vs ws : List V} (ha : SqL K H a vs) (hc : SqL K H c ws) (hl : vs.length ≠ ws.length) : EqC K H (.ref a) (.ref c) false
  | heads {a c : Addr} {h z : Str} {r : List V} (ha : SqT K H a (.str h :: r)) (hc : SqT K H c [.str z]) : EqC K H (.ref a) (.ref c) (decide (h = z) && r.isEmpty)
/-! ### list.count of texts -/
end
end L2.Bw

end
section
set_option Elab.async false
set_option linter.all false
set_option maxRecDepth 100000
/-! zip of two lists, walked by pairs. -/
namespace L2.Bw
open PySem PySem.Spec PyProof.Rows
section
variable {X : Cx} {pins : List (Addr × Obj)} {σ : St} {H : Hp} {s : Shared} {h' : Heap} {ch : List Addr}
/-- untracked records have turned, a new tuple is there -/
theorem turnedT {t' : Nat} {T : Addr} {xs : List V} (I : Inv X pins σ H s) (k : ∀ b o, b ∉ ch → s.heap.get? b = some o → h'.get? b = some o) (fo : ∀ b ∈ ch, FpOk X pins H b) (hT : s.heap.objs.size ≤ T)
    (new : ∃ its : List Value, Vals xs its ∧ IsTup h' T its.toArray) (hz : xs.length ≤ sizeLine) : Inv X pins σ (upd H T (.tup xs)) { s with heap := h', toks := t' } := by
  have hTn : H T = none := I.hok.fresh hT
  have nit : ∀ b u, H b = some u → b ∉ ch := fun b u e z => by rw [(fo b z).1] at e; cases e
  have old : ∀ b u, H b = some u → upd H T (.tup xs) b = some u := fun b u e => by rw [upd_ne (ne_of_none e hTn)]; exact e
  refine I.step (g' := s.gens) (d' := s.drawn) (ch := ch) (fun b hb => ?_) (fun b o _ _ hc e _ => k b o hc e) (fun b o _ _ hc e _ => ⟨o.slots, k b o hc e⟩) (fun b o _ e n => ?_) (fun b o hc e => ⟨o, k b o hc e⟩)
    (fun b ys e => old b _ e) (fun b o u e => old b _ e) (fun b ps e => ⟨#[], by rw [old b _ e]; simp⟩) (fun m hm => ?_) (fun b u e => ?_) I.bare
  · obtain ⟨_, h1, _, h3, h4, h5⟩ := fo b hb
    exact ⟨h3, h1, h4, h5⟩
  · rw [upd_ne (Nat.ne_of_lt (Nat.lt_of_lt_of_le (Heap.lt_size e) hT))]; exact n
  · obtain ⟨o, es, ep, ho, r⟩ := hm
    exact ⟨o, es, ep, k _ o (fun z => (fo _ z).2.1 rfl) ho, r⟩
  · by_cases hb : b = T
    · subst hb
      rw [upd_same] at e; cases e
      obtain ⟨its, r, p⟩ := new
      exact ⟨hz, its, r, p⟩
    · rw [upd_ne hb] at e
      refine (I.hok b u e).stay (fun c v hc q => k c v ?_ q) (fun c q => old c _ q) fun c ys q => old c _ q
      rcases hc with z | z
      · rw [z]; exact nit b u e
      · exact nit c _ z
theorem turnedN {t' : Nat} (I : Inv X pins σ H s) (k : ∀ b o, b ∉ ch → s.heap.get? b = some o → h'.get? b = some o) (fo : ∀ b ∈ ch, FpOk X pins H b) : Inv X pins σ H { s with heap := h', toks := t' } := by
  have nit : ∀ b u, H b = some u → b ∉ ch := fun b u e z => by rw [(fo b z).1] at e; cases e
  refine I.step (g' := s.gens) (d' := s.drawn) (ch := ch) (fun b hb => ?_) (fun b o _ _ hc e _ => k b o hc e) (fun b o _ _ hc e _ => ⟨o.slots, k b o hc e⟩) (fun b o _ e n => n) (fun b o hc e => ⟨o, k b o hc e⟩)
    (fun b ys e => e) (fun b o u e => e) (fun b ps e => ⟨#[], by rw [e]; simp⟩) (fun m hm => ?_) (fun b u e => ?_) I.bare
  · obtain ⟨_, h1, _, h3, h4, h5⟩ := fo b hb
    exact ⟨h3, h1, h4, h5⟩
  · obtain ⟨o, es, ep, ho, r⟩ := hm
    exact ⟨o, es, ep, k _ o (fun z => (fo _ z).2.1 rfl) ho, r⟩
  · refine (I.hok b u e).stay (fun c v hc q => k c v ?_ q) (fun c q => q) fun c ys q => q
    rcases hc with z | z
    · rw [z]; exact nit b u e
    · exact nit c _ z
end
theorem off_of {X : Cx} {pins : List (Addr × Obj)} {σ : St} {H : Hp} {s : Shared} (I : Inv X pins σ H s) {c l : Addr} {us : List V} (f : FpOk X pins H c) (hq : SqL X.K H l us) : l ≠ c := fun e => by
  subst e
  rcases hq with q | q
  · rcases q with q | ⟨o, q⟩
    · rw [f.1] at q; cases q
    · rw [f.1] at q; cases q
  · obtain ⟨o, its, n, q, _⟩ := q
    have bk := I.ok.mod.kin _ _ q
    rcases f.2.2.2.1 with f | f
    · exact I.ok.noex _ _ bk f
    · exact absurd (Nat.lt_of_lt_of_le (Heap.lt_size bk) (Nat.le_trans I.ok.bsz f)) (Nat.lt_irrefl _)
theorem zip_apart {z TI TO i1 i2 a b : Addr} (h : z ≠ TI ∧ z ≠ TO ∧ z ≠ i1 ∧ z ≠ i2 ∧ TI ≠ TO ∧ TI ≠ i1 ∧ TI ≠ i2 ∧ TO ≠ i1 ∧ TO ≠ i2 ∧ i1 ≠ i2) (ha : ∀ c ∈ [z, TI, TO, i1, i2], a ≠ c) (hb : ∀ c ∈ [z, TI, TO, i1, i2], b ≠ c) : ZipApart z TI TO i1 i2 a b := by
  obtain ⟨h1, h2, h3, h4, h5, h6, h7, h8, h9, h0⟩ := h
  simp only [List.mem_cons, List.not_mem_nil, or_false, forall_eq_or_imp, forall_eq] at ha hb
  obtain ⟨a1, a2, a3, a4, a5⟩ := ha
  obtain ⟨b1, b2, b3, b4, b5⟩ := hb
  constructor <;> first | assumption | exact Ne.symm (by assumption)
noncomputable def Itz (K : PySem.W.Frag) (a b : Addr) : It where
  go := fun i H => ∃ xs ys, SqL K H a xs ∧ SqL K H b ys ∧ i < xs.length ∧ i < ys.length
  yld := fun i H v H' => ∃ T x y, v = .ref T ∧ H T = none ∧ H' = upd H T (.tup [x, y]) ∧ (∀ xs, SqL K H a xs → xs[i]? = some x) ∧ ∀ ys, SqL K H b ys → ys[i]? = some y
  stop := fun i H => ∃ xs ys, SqL K H a xs ∧ SqL K H b ys ∧ i = min xs.length ys.length
theorem turn_zip {P : Program} {w : World} {K : PySem.W.Frag} {es : List Expr} {k : Nat} {tp : Pos} (a b z TI TO i1 i2 : Addr) (hap : z ≠ TI ∧ z ≠ TO ∧ z ≠ i1 ∧ z ≠ i2 ∧ TI ≠ TO ∧ TI ≠ i1 ∧ TI ≠ i2 ∧ TO ≠ i1 ∧ TO ≠ i2 ∧ i1 ≠ i2) :
    Turn P w K (.Tuple es k tp) (Itz K a b) [z, TI, TO, i1, i2] z (fun i h => IsZip h z TI TO .none ∧ IsPair h TI (.ref i1) (.ref i2) ∧ (∃ u v, IsPair h TO u v) ∧ h.IsListIter i1 a i ∧ h.IsListIter i2 b i) where
  mem := by simp
  obj := fun i h st c hc => by
    obtain ⟨h1, h2, ⟨u, v, h3⟩, ⟨o4, e4, c4, d4⟩, ⟨o5, e5, c5, d5⟩⟩ := st
    have hc' : c = z ∨ c = TI ∨ c = TO ∨ c = i1 ∨ c = i2 := by simpa using hc
    rcases hc' with rfl | rfl | rfl | rfl | rfl
    · exact ⟨_, h1, fun v q => by cases (show Data.fields _ = Data.cell v from q)⟩
    · exact ⟨_, h2, fun v q => by cases (show Data.seq _ _ = Data.cell v from q)⟩
    · exact ⟨_, h3, fun v q => by cases (show Data.seq _ _ = Data.cell v from q)⟩
    · exact ⟨o4, e4, fun v q => by rw [d4] at q; cases q⟩
    · exact ⟨o5, e5, fun v q => by rw [d5] at q; cases q⟩
  keep := fun i h h' st kp => by
    obtain ⟨h1, h2, ⟨u, v, h3⟩, h4, h5⟩ := st
    exact ⟨kp z (by simp) _ h1, kp TI (by simp) _ h2, ⟨u, v, kp TO (by simp) _ h3⟩, h4.at fun o e => kp i1 (by simp) o e, h5.at fun o e => kp i2 (by simp) o e⟩
  item := by
    intro X hP hw hK hc i pins s σ H E I hf st hg
    subst hP hw hK
    obtain ⟨xs, ys, hx, hy, l1, l2⟩ := hg
    obtain ⟨its1, r1, p1, z1⟩ := I.list hx
    obtain ⟨its2, r2, p2, z2⟩ := I.list hy
    obtain ⟨h1, h2, h3, h4, h5⟩ := st
    have len1 := r1.length
    have len2 := r2.length
    have D : ZipApart z TI TO i1 i2 a b := zip_apart hap (fun c hc => off_of I (hf c hc) hx) (fun c hc => off_of I (hf c hc) hy)
    have W := WalksT.zip2 (prog := X.prog) (w := X.w) (A := X.A) (I.ok.hd hc) z TI TO i1 i2 a b D its1.toArray its2.toArray
    refine W.item i s _ _ (by simp; omega) ⟨h1, h2, h3, h4, h5, p1.isList, p2.isList⟩ fun T vals h' tk hv hT ht hm kp => ?_
    obtain ⟨x, y, ex, ey, rfl⟩ := hv
    refine ⟨_, rfl, W.go es k tp i T _ _ _ hm fun h2' st2 kp2 => ?_⟩
    obtain ⟨g1, g2, g3, g4, g5, _, _⟩ := st2
    obtain ⟨xv, ev, rx⟩ : ∃ xv, xs[i]? = some xv ∧ RelV xv x := by
      have hi : xs[i]? = some xs[i] := List.getElem?_eq_getElem l1
      obtain ⟨u, hu, ru⟩ := r1.get hi
      have e2 : its1[i]? = some x := by simpa using ex
      rw [e2] at hu; cases hu
      exact ⟨_, hi, ru⟩
    obtain ⟨yv, eyv, ry⟩ : ∃ yv, ys[i]? = some yv ∧ RelV yv y := by
      have hi : ys[i]? = some ys[i] := List.getElem?_eq_getElem l2
      obtain ⟨u, hu, ru⟩ := r2.get hi
      have e2 : its2[i]? = some y := by simpa using ey
      rw [e2] at hu; cases hu
      exact ⟨_, hi, ru⟩
    have Tw : T ∉ [z, TO, i1, i2] := W.apart _ _ _ hm
    have ht2 : IsTup h2' T #[x, y] := by
      obtain ⟨o, e, r⟩ := ht
      exact ⟨o, kp2 T o Tw e, r⟩
    have I2 : Inv X pins σ (upd H T (.tup [xv, yv])) { s with heap := h2', toks := tk } :=
      turnedT (ch := [z, TO, i1, i2]) I (fun b o hb e => kp2 b o hb (kp b o hb e)) (fun b hb => hf b (by simp at hb ⊢; rcases hb with rfl | rfl | rfl | rfl <;> simp)) hT ⟨[x, y], .cons rx (.cons ry .nil), ht2⟩ (by show 2 ≤ sizeLine; decide)
    refine ⟨.ref T, _, I2, rfl, ⟨T, xv, yv, rfl, I.hok.fresh hT, rfl, fun us hu => ?_, fun us hu => ?_⟩, ⟨g1, g2, g3, g4, g5⟩, fun b hb => ?_⟩
    · rw [I.list_inj hu hx]; exact ev
    · rw [I.list_inj hu hy]; exact eyv
    · have hbT : b ≠ T := by
        obtain ⟨o, e, _⟩ : ∃ o, s.heap.get? b = some o ∧ True := by
          have hc' : b = z ∨ b = TI ∨ b = TO ∨ b = i1 ∨ b = i2 := by simpa using hb
          obtain ⟨u3, v3, h3⟩ := h3
          obtain ⟨o4, e4, _⟩ := h4
          obtain ⟨o5, e5, _⟩ := h5
          rcases hc' with rfl | rfl | rfl | rfl | rfl
          · exact ⟨_, h1, trivial⟩
          · exact ⟨_, h2, trivial⟩
          · exact ⟨_, h3, trivial⟩
          · exact ⟨_, e4, trivial⟩
          · exact ⟨_, e5, trivial⟩
        exact Nat.ne_of_lt (Nat.lt_of_lt_of_le (Heap.lt_size e) hT)
      rw [upd_ne hbT]
      exact (hf b hb).1
  done := by
    intro X hP hw hK hc i pins s σ H E I hf st hg
    subst hP hw hK
    obtain ⟨xs, ys, hx, hy, hi⟩ := hg
    obtain ⟨its1, r1, p1, z1⟩ := I.list hx
    obtain ⟨its2, r2, p2, z2⟩ := I.list hy
    obtain ⟨h1, h2, h3, h4, h5⟩ := st
    have len1 := r1.length
    have len2 := r2.length
    have D : ZipApart z TI TO i1 i2 a b := zip_apart hap (fun c hc => off_of I (hf c hc) hx) (fun c hc => off_of I (hf c hc) hy)
    have W := WalksT.zip2 (prog := X.prog) (w := X.w) (A := X.A) (I.ok.hd hc) z TI TO i1 i2 a b D its1.toArray its2.toArray
    have hn : i = min its1.toArray.size its2.toArray.size := by simp; omega
    refine W.done s _ _ (by rw [← hn]; exact ⟨h1, h2, h3, h4, h5, p1.isList, p2.isList⟩) fun h' tk kp => ⟨rfl, ?_⟩
    exact turnedN (ch := [z, TO, i1, i2]) I kp (fun b hb => hf b (by simp at hb ⊢; rcases hb with rfl | rfl | rfl | rfl <;> simp))
  self := fun _ _ _ _ _ st h => wpAny_pyIter_zip st.1 h
theorem apart5 (n : Nat) : n + 4 ≠ n + 2 ∧ n + 4 ≠ n + 3 ∧ n + 4 ≠ n ∧ n + 4 ≠ n + 1 ∧ n + 2 ≠ n + 3 ∧ n + 2 ≠ n ∧ n + 2 ≠ n + 1 ∧ n + 3 ≠ n ∧ n + 3 ≠ n + 1 ∧ n ≠ n + 1 := by omega
theorem le5 (n c : Nat) (h : c = n + 4 ∨ c = n + 2 ∨ c = n + 3 ∨ c = n ∨ c = n + 1) : n ≤ c := by omega
section
variable {X : Cx}
noncomputable def iZip (K : PySem.W.Frag) (ta : TA) : TI := fun σ H R => ta σ H fun vs H1 => ∃ a b xs ys, vs = [.ref a, .ref b] ∧ SqL K H1 a xs ∧ SqL K H1 b ys ∧ R (Itz K a b) H1
theorem pi_zip {es : List Expr} {k : Nat} {tp p pos : Pos} {a b : Expr} {ta : TA} (hg : Gl X "zip") (hm : X.mg "zip" = none) (ha : PA X [a, b] ta) (hs : starEach [a, b] X.env = [(false, eval a X.env), (false, eval b X.env)] := by rfl) (hs2 : starEach [b] X.env = [(false, eval b X.env)] := by rfl) :
    PI X (.Tuple es k tp) (.Call (.Name "zip" p) [a, b] [] pos) (iZip X.K ta) := by
  intro pins s σ H R I h
  refine Call_ (ld_blt I hg hm boot_zip (PyProof.Rows.callWith_type1 (thn (ha pos pins s σ H _ I h) fun us s1 q1 => ?_) (by rw [hs, hs2]) (by rw [hs2]; rfl)))
  obtain ⟨vs, H1, I1, r1, l1, l2, xs, ys, e, hx, hy, q⟩ := q1
  subst e
  obtain ⟨u, w', e, ru, rw'⟩ := Vals.two r1
  subst e
  cases ru; cases rw'
  obtain ⟨i1, v1, p1, z1⟩ := I1.list hx
  obtain ⟨i2, v2, p2, z2⟩ := I1.list hy
  refine call_zip_2 p1.isList p2.isList fun h' hz hTI hTO g1 g2 hsz kp => wpAny_pyIter_zip hz ?_
  have I2 : Inv X pins σ H1 { s1 with heap := h' } := I1.kept (t' := s1.toks) kp
  refine ⟨s1.heap.objs.size + 4, [s1.heap.objs.size + 4, s1.heap.objs.size + 2, s1.heap.objs.size + 3, s1.heap.objs.size, s1.heap.objs.size + 1], _, Itz X.K l1 l2, H1, rfl, I2, turn_zip l1 l2 _ _ _ _ _ (apart5 _), ⟨hz, hTI, ⟨_, _, hTO⟩, g1, g2⟩, fun c hc => ?_, q⟩
  have hc' : s1.heap.objs.size ≤ c := le5 _ _ (by simpa using hc)
  exact I1.fpOk hc' (I1.hok.fresh hc')
end
end L2.Bw

end
section
set_option Elab.async false
set_option linter.all false
set_option maxRecDepth 100000
/-! A dict of the module whose keys are texts and whose values are tuples of texts. -/
namespace L2.Bw
open PySem PySem.Spec PyProof.Rows
noncomputable def strsLook : List Str → List Value → Bool
  | [], [] => true
  | x :: r, v :: q => (match v with | .str y _ => y == x | _ => false) && strsLook r q
  | _, _ => false
theorem vals_of_look : ∀ {ss : List Str} {us : List Value}, strsLook ss us = true → Vals (ss.map V.str) us
  | [], [], _ => .nil
  | x :: r, v :: q, h => by
    unfold strsLook at h
    have h' := Bool.and_eq_true_iff.mp h
    refine .cons ?_ (vals_of_look h'.2)
    have h1 := h'.1
    cases v with
    | str y t => exact ⟨t, by rw [show y = x by simpa using h1]⟩
    | _ => exact absurd h1 (by simp)
  | [], _ :: _, h => by simp [strsLook] at h
  | _ :: _, [], h => by simp [strsLook] at h
noncomputable def lookT (K : PySem.W.Frag) (ss : List Str) (v : Value) : Bool := match v with
  | .ref b => (match K.lookup b with
    | some o => o.cls == .type "tuple" && (match o.data with | .seq its _ => decide (its.size ≤ 1000) && strsLook ss its.toList | _ => false)
    | none => false)
  | _ => false
noncomputable def IsT (K : PySem.W.Frag) (ss : List Str) (v : Value) : Prop := ∃ b, v = .ref b ∧ ∀ H : Hp, SqT K H b (ss.map V.str)
theorem isT_of {K : PySem.W.Frag} (ss : List Str) (v : Value) (h : lookT K ss v = true) : IsT K ss v := by
  unfold lookT at h
  cases v with
  | ref b =>
    refine ⟨b, rfl, fun H => .inr ?_⟩
    cases e : K.lookup b with
    | none => simp only [e] at h; cases h
    | some o =>
      simp only [e] at h
      rw [Bool.and_eq_true_iff] at h
      cases d : o.data with
      | seq its n =>
        simp only [d] at h
        rw [Bool.and_eq_true_iff] at h
        exact ⟨o, its, n, rfl, by simpa using h.1, d, Nat.le_trans (of_decide_eq_true h.2.1) (Nat.le_of_lt (small1000 (Nat.le_refl _))), vals_of_look h.2.2⟩
      | _ => simp [d] at h
  | _ => simp at h
theorem getTab {prog : Program} {w : World} {A : Around} {E : Value → Shared → Prop} {s : Shared} {δ : Type} {R : δ → Value → Prop} {a : Addr} {D : List (Str × δ)} {z : Str} {tz : Tok} {d : δ} {Q : Option Value → Shared → Prop}
    (T : KTD.TabOf R s.heap a D) (hat : KTD.datumAt z D = some d) (h : ∀ v, R d v → Q (some v) { s with toks := s.toks + 1 }) : wpAny (model prog w) A (dictGet a (.str z tz)) Q E s := by
  obtain ⟨_, o, es, ep, ho, _, hd, hr⟩ := T
  obtain ⟨v, hv, hfl⟩ := hr.find_some hat
  have all : (es.all fun e => isExactStrKey e.key) = true := by
    obtain ⟨l⟩ := es
    simpa using hr.exact
  have hq : Q (findBy (fun k v => v.isStr k) es z) { s with toks := s.toks + 1 } := by
    rw [show findBy (fun k v => v.isStr k) es z = some v by obtain ⟨l⟩ := es; simpa [findBy] using hv]
    exact h v hfl
  rw [findBy_of_findIdx?] at hq
  unfold dictGet
  refine wpAny_holding ?_
  refine wpAny_bind (wpAny_pyHash_str (wpAny_bind (KTD.kt_dictFind_strs (s := { s with toks := s.toks + 1 }) ho hd all ?_)))
  cases hi : es.findIdx? fun e => e.key.isStr z with
  | none =>
    rw [hi] at hq
    exact wpAny_pure hq
  | some i =>
    rw [hi] at hq
    exact wpAny_bind (wpAny_dictEntries (s := { s with toks := s.toks + 1 }) ho hd (wpAny_pure hq))
section
variable {X : Cx}
noncomputable def rTab (K : PySem.W.Frag) (a : Addr) (D : List (Str × List Str)) : R2 := fun x y H Q => x = .ref a ∧ ∃ z ss, y = .str z ∧ KTD.datumAt z D = some ss ∧ ∀ c, SqT K H c (ss.map V.str) → Q (.ref c) H
theorem pe_tab {x : Str} {p pos : Pos} {b : Expr} {tb : TE} {a : Addr} {D : List (Str × List Str)} (hg : Gl X x) (hm : X.mg x = some (.ref a)) (hK : KTD.tabLook (lookT X.K) (fun b => X.K.lookup b) a D = true) (hb : PE X b tb) (hs : PlainIx b)
    (hd : (x == ("__debug__" : Str)) = false := by decide) (hl : ∀ r, letTemporaryGo (.Name x p) (.ref a) r = pure () := by intro _; rfl) : PE X (.Subscript (.Name x p) b pos) (tOp (rTab X.K a D) (tC (.ref a)) tb) := by
  intro pins s σ H Q I h
  refine Subscript_ (binT (pe_glob hg hm (v := .ref a) rfl hd) hb I h fun v u s2 x' y H2 I2 rx ry q => ?_)
  obtain ⟨e, z, ss, e', hat, q⟩ := q
  subst e e'
  cases rx
  obtain ⟨tz, e⟩ := ry
  subst e
  have T : KTD.TabOf (IsT X.K) s2.heap a D := KTD.tab_of_look isT_of (fun b o e => I2.kIn b o e) hK
  have ty : s2.TypeIs (.ref a) "dict" := by obtain ⟨_, o, _, _, ho, hc, _⟩ := T; exact ⟨o, ho, hc.1⟩
  refine subscriptTail_builtin ty slot_dict_getitem.lookup ?_ (hs _ _) hl
  unfold getItem
  refine wpAny_holding ?_
  refine wpAny_bind (wpAny_sequenceKey ty (by decide) ?_)
  refine wpAny_bind (wpAny_callSpecial?_slot (name := Str.ofString "__getitem__") ty slot_dict_getitem (wpAny_call_entry slot_dict_getitem ty entry_dict_getitem ?_ (args_dict_getitem _ _)))
  show wpAny _ _ (dictGet a (.str z tz) >>= _) _ _ s2
  refine wpAny_bind (getTab T hat fun v hv => wpAny_pure ⟨v, rfl, wpAny_pure ?_⟩)
  obtain ⟨c, e, hc⟩ := hv
  subst e
  exact ⟨.ref c, H2, I2.tok _, rfl, q c (hc H2)⟩
end
end L2.Bw

end
section
set_option Elab.async false
set_option linter.all false
set_option maxRecDepth 100000
/-! enumerate(t, start=n) of a tuple, walked by pairs. -/
namespace L2.Bw
open PySem PySem.Spec PyProof.Rows
theorem init_kw {T newId : String} {me : Value} {more : List Value} {kws : List (Str × Value)} (a1 : typeLookup (.type T) "__init__" = pure (some (.builtin "object.__init__"))) (a2 : Bind.madeBy (.type T) = pure (some newId))
    (a3 : (some newId != some "object.__new__") = true) (a4 : more ≠ []) : Meets (Builtin.«object.__init__» ⟨me :: more, kws⟩) (fun _ R s => s.TypeIs me T ∧ R (.ok (.ret .none)) s) := by
  refine Meets.of_wp fun prog w A R s q => ?_
  obtain ⟨ty, q⟩ := q
  cases more with
  | nil => exact absurd rfl a4
  | cons b more =>
    repeat (any_goals (first | assumption | wp_step))
    exact ⟨_, rfl, q⟩
section
variable {prog : Program} {w : World} {A : Around} {E : Value → Shared → Prop} {s : Shared}
theorem callType_kw {T newId : String} {Bn : Builtin} {args : List Value} {kws : List (Str × Value)} {S : PySem.Spec} {Q Q1 : Value → Shared → Prop} (ft : TypeCalled T newId "object.__init__") (ne : (some newId != some "object.__new__") = true) (na : args ≠ [])
    (c1 : checkTypeCall T ⟨args, kws⟩ = pure ()) (c2 : checkBuiltinCall newId ⟨.type T :: args, kws⟩ = pure ()) (e1 : entryFor table newId = some Bn) (g : Meets (Bn ⟨.type T :: args, kws⟩) S) (h : S A.in1 (wants Q1 E) s)
    (hn : ∀ obj s1, Q1 obj s1 → s1.TypeIs obj T ∧ argsOk "object.__init__" ⟨obj :: args, kws⟩ ∧ Q obj s1) : wpAny (model prog w) A (call (.type T) args kws) Q E s := by
  obtain ⟨c, tl, m1⟩ := ft.mro
  have m2 := ft.made
  have m3 := ft.sub
  refine wpAny_call (codeAny_of_tree ?_)
  show wpAny _ _ (callAny (.type T) _) _ _ _
  refine wpAny_pure ⟨Code.quiet_builtin _ (by decide +kernel), codeAny_builtin F.entry_type_call ?_⟩
  rw [Around.under_plain (weight_type_call_type T args kws) (units_type_call_type T args kws)]
  have m4 := ft.notType
  have m5 := ft.canCreate
  repeat (any_goals (first | assumption | wp_step))
  refine codeAny_mono (codeAny_call_builtin ft.plain e1 (wpAny_of_eq c2 (g prog w A.in1 _ s h))) fun r s1 q1 => ?_
  cases r with
  | error e => exact q1
  | ok fl =>
    cases fl with
    | ret obj =>
      obtain ⟨ty, ok, qq⟩ := hn _ _ q1
      have m6 := ft.init.lookup
      have m7 := ft.init.bind obj
      repeat (any_goals (first | assumption | wp_step))
      refine codeAny_mono (codeAny_call_builtin ft.init.plain F.entry_object_init (ft.init.check _ _ _ _ _ _ _ _ ty ok (init_kw m6 m2 ne na prog w A.in1 (wants (fun r s2 => r = .none ∧ Q obj s2) E) s1 ⟨ty, rfl, qq⟩))) fun r2 s2 q2 => ?_
      cases r2 with
      | error e => exact q2
      | ok f2 =>
        cases f2 with
        | ret r =>
          obtain ⟨e, q3⟩ := q2
          subst e
          repeat (any_goals (first | assumption | wp_step))
        | _ => exact q2.elim
    | _ => exact q1.elim
theorem enum_new (t : Addr) (n : Int) (tk : Tok) (hn : Builtin.SmallTypes.fitsIndex n = true) (items : Array Value) :
    Meets (Builtin.«enumerate.__new__» ⟨[.type "enumerate", .ref t], [("start", .int n tk)]⟩) (fun _ R s => s.heap.IsTuple t items ∧
      R (.ok (.ret (.ref (s.heap.push { cls := .type "tuple_iterator", data := .fields #[.ref t, .int 0 0] }).objs.size)))
        { s with heap := (s.heap.push { cls := .type "tuple_iterator", data := .fields #[.ref t, .int 0 0] }).push { cls := .type "enumerate", data := .fields #[.none, .bool false, .ref s.heap.objs.size, rawInt n, .none, .none] } }) :=
  .of_wp fun prog w A R s h => by
    obtain ⟨hp, g, d, tk', os⟩ := s
    obtain ⟨ht, h⟩ := h
    have sub := sub_enumerate
    wp_walk
    refine wpAny_stack_any fun st => wpAny_pure ?_
    split
    · rename_i c _ _ _ _ _
      cases (c == Value.type "enumerate")
      · wp_walk using wpAny_pyIter_tuple ht
        exact ⟨_, rfl, h⟩
      · wp_walk using wpAny_pyIter_tuple ht
        exact ⟨_, rfl, h⟩
    · wp_walk using wpAny_pyIter_tuple ht
      exact ⟨_, rfl, h⟩
/-- the tuple's iterator, asked by enumerate -/
theorem next_tup {it t : Addr} {i : Nat} {xs : Array Value} {x : Value} {Q : Value → Shared → Prop} (g : s.heap.IsTupleIter it t i) (gt : s.heap.IsTuple t xs) (gx : xs[i]? = some x)
    (q : ∀ h1, h1.IsTupleIter it t (i + 1) → Heap.SameBut it s.heap h1 → Q x { s with heap := h1 }) : wpAny (model prog w) A (Builtin.SmallTypes.nextOf (.ref it)) Q E s := by
  obtain ⟨o, eo, co, dd⟩ := id g
  obtain ⟨ot, et, _, nt, dt⟩ := gt
  unfold Builtin.SmallTypes.nextOf
  refine wpAny_bind (wpAny_callSpecial?_slot (name := Str.ofString "__next__") g.typeIs F.slot_tuple_iterator_next (wpAny_call_entry F.slot_tuple_iterator_next g.typeIs F.entry_tuple_iterator_next ?_ (F.args_tuple_iterator_next_1 _)))
  show wpAny _ _ (field (.ref it) 0 >>= fun _ => _) _ _ s
  refine wpAny_bind (wpAny_field eo dd (x := .ref t) rfl ?_)
  show wpAny _ _ (if (Value.ref t == Value.none) = true then _ else _) _ _ s
  have nn : ¬ ((Value.ref t == Value.none) = true) := Bool.false_ne_true
  rw [if_neg nn]
  show wpAny _ _ (field (.ref it) 1 >>= fun _ => _) _ _ s
  refine wpAny_bind (wpAny_field eo dd (x := .int i 0) rfl ?_)
  show wpAny _ _ (seqItems? (.ref t) >>= fun _ => _) _ _ s
  refine wpAny_bind (wpAny_seqItems et dt ?_)
  simp only [Int.toNat_natCast, gx]
  refine wpAny_bind (wpAny_setField eo dd (by simp) (wpAny_pure ⟨x, rfl, wpAny_pure (q _ ⟨_, Heap.get?_update_self _ eo (Obj.isFreed_of_fields (Obj.data_mapFields dd _)), (Obj.cls_mapFields ..).trans co, ?_⟩ (Heap.SameBut.update ..))⟩))
  rw [Obj.data_mapFields dd]
  simp [rawInt]
theorem enum_item {e it t : Addr} {i : Nat} {j : Int} {xs : Array Value} {x old : Value} {Q : Option Value → Shared → Prop} (ge : IsEnum s.heap e it j old) (g : s.heap.IsTupleIter it t i) (gt : s.heap.IsTuple t xs) (gx : xs[i]? = some x) (ne : e ≠ it)
    (q : ∀ h1 tk, IsEnumOut h1 e it (j + 1) x s.heap.objs.size → h1.IsTupleIter it t (i + 1) → h1.get? s.heap.objs.size = some { cls := .type "tuple", data := .seq #[.int j tk, x] } →
      (∀ b o, b ≠ e → b ≠ it → s.heap.get? b = some o → h1.get? b = some o) → Q (some (.ref s.heap.objs.size)) { s with heap := h1, toks := tk + 1 }) : wpAny (model prog w) A (pyNext (.ref e)) Q E s := by
  have ty : s.TypeIs (.ref e) "enumerate" := ⟨_, ge, rfl⟩
  unfold pyNext
  refine wpAny_bind (wpAny_attempt (wpAny_callSpecial?_slot (name := Str.ofString "__next__") ty F.slot_enumerate_next (wpAny_call_entry F.slot_enumerate_next ty F.entry_enumerate_next ?_ (F.args_enumerate_next_1 _))))
  obtain ⟨hp, gs, d, tk0, os⟩ := s
  show wpAny _ _ (field (.ref e) 2 >>= fun _ => _) _ _ _
  refine wpAny_bind (wpAny_field ge rfl (x := .ref it) rfl ?_)
  refine wpAny_bind (next_tup g gt gx fun h1 g1 s1 => ?_)
  replace s1 : Heap.SameBut it hp h1 := s1
  have e1 : IsEnum h1 e it j old := (s1.2 e ne).trans ge
  show wpAny _ _ (field (.ref e) 3 >>= fun _ => _) _ _ ⟨h1, gs, d, tk0, os⟩
  refine wpAny_bind (wpAny_field e1 rfl (x := rawInt j) rfl ?_)
  show wpAny _ _ (field (.ref e) 4 >>= fun _ => _) _ _ ⟨h1, gs, d, tk0, os⟩
  refine wpAny_bind (wpAny_field e1 rfl (x := .none) rfl ?_)
  show wpAny _ _ (mkInt j >>= fun _ => _) _ _ ⟨h1, gs, d, tk0, os⟩
  refine wpAny_bind (wpAny_mkInt ?_)
  show wpAny _ _ (setField (.ref e) 3 (rawInt (j + 1)) >>= fun _ => _) _ _ ⟨h1, gs, d, tk0 + 1, os⟩
  refine wpAny_bind (wpAny_setField_rec e1 (by simp) fun h2 e2 s2 => ?_)
  replace s2 : Heap.SameBut e h1 h2 := s2
  replace e2 : IsEnum h2 e it (j + 1) old := e2
  show wpAny _ _ (setField (.ref e) 4 .none >>= fun _ => _) _ _ ⟨h2, gs, d, tk0 + 1, os⟩
  refine wpAny_bind (wpAny_setField_rec e2 (by simp) fun h3 e3 s3 => ?_)
  replace s3 : Heap.SameBut e h2 h3 := s3
  replace e3 : IsEnum h3 e it (j + 1) old := e3
  show wpAny _ _ (newTuple [.int j tk0, x] >>= fun _ => _) _ _ ⟨h3, gs, d, tk0 + 1, os⟩
  refine wpAny_bind (wpAny_newTuple ?_)
  have e4 : IsEnum (h3.push { cls := .type "tuple", data := .seq #[.int j tk0, x] }) e it (j + 1) old := Heap.get?_push_of_some _ e3
  generalize hh4 : h3.push { cls := .type "tuple", data := .seq #[.int j tk0, x] } = h4 at e4
  have sz : h3.objs.size = hp.objs.size := by rw [s3.1, s2.1, s1.1]
  have lt : e < hp.objs.size := Heap.lt_size ge
  have t4 : h4.get? hp.objs.size = some { cls := .type "tuple", data := .seq #[.int j tk0, x] } := by rw [← hh4, ← sz]; exact Heap.get?_push_size _ rfl
  have k4 : ∀ b o, b ≠ e → b ≠ it → hp.get? b = some o → h4.get? b = some o := fun b o n1 n2 hb => by
    rw [← hh4]; exact Heap.get?_push_of_some _ (s3.extBut b o n1 (s2.extBut b o n1 (s1.extBut b o n2 hb)))
  have g4 : h4.IsTupleIter it t (i + 1) := g1.at fun o y => by
    rw [← hh4]; exact Heap.get?_push_of_some _ (s3.extBut it o (Ne.symm ne) (s2.extBut it o (Ne.symm ne) y))
  show wpAny _ _ (Builtin.SmallTypes.ownedTupleIsFree (.ref e) >>= fun _ => _) _ _ ⟨h4, gs, d, tk0 + 1, os⟩
  rw [sz]
  clear hh4 e3 s3 e2 s2 e1 s1 g1 sz h3 h2 h1
  refine wpAny_bind ?_
  unfold Builtin.SmallTypes.ownedTupleIsFree
  refine wpAny_bind (wpAny_field e4 rfl (x := .none) rfl (wpAny_pure ?_))
  simp only [if_true]
  refine wpAny_bind (wpAny_rule (wpAny_bind (wpAny_field e4 rfl (x := old) rfl ?_)))
  refine wpAny_bind (wpAny_setField_rec e4 (by simp) fun h5 e5 s5 => ?_)
  replace s5 : Heap.SameBut e h4 h5 := s5
  replace e5 : IsEnum h5 e it (j + 1) x := e5
  show wpAny _ _ (Builtin.SmallTypes.ownedTupleHandOut (.ref e) (.ref hp.objs.size) >>= fun _ => _) _ _ ⟨h5, gs, d, tk0 + 1, os⟩
  refine wpAny_bind ?_
  unfold Builtin.SmallTypes.ownedTupleHandOut
  refine wpAny_bind (wpAny_setField_rec e5 (by simp) fun h6 e6 s6 => ?_)
  replace s6 : Heap.SameBut e h5 h6 := s6
  replace e6 : IsEnumOut h6 e it (j + 1) x hp.objs.size := e6
  refine wpAny_setField_rec e6 (by simp) fun h7 e7 s7 => ?_
  replace s7 : Heap.SameBut e h6 h7 := s7
  replace e7 : IsEnumOut h7 e it (j + 1) x hp.objs.size := e7
  have up : ∀ b o, b ≠ e → h4.get? b = some o → h7.get? b = some o := fun b o n1 y => s7.extBut b o n1 (s6.extBut b o n1 (s5.extBut b o n1 y))
  refine wpAny_bind (wpAny_letGo (wpAny_pure ⟨_, rfl, wpAny_pure ?_⟩))
  exact q h7 tk0 e7 (g4.at fun o y => up it o (Ne.symm ne) y) (up _ _ (Nat.ne_of_gt lt) t4) fun b o n1 n2 y => up b o n1 (k4 b o n1 n2 y)
theorem next_tup_end {it t : Addr} {i : Nat} {xs : Array Value} {Q : Value → Shared → Prop} (hh : A.handled = none) (g : s.heap.IsTupleIter it t i) (gt : s.heap.IsTuple t xs) (gx : xs[i]? = none)
    (q : ∀ h1 x, Heap.ExtBut it s.heap h1 → (∃ o, h1.get? x = some o ∧ o.cls = .type "StopIteration") → E (.ref x) { s with heap := h1 }) : wpAny (model prog w) A (Builtin.SmallTypes.nextOf (.ref it)) Q E s := by
  obtain ⟨o, eo, co, dd⟩ := id g
  obtain ⟨ot, et, _, nt, dt⟩ := gt
  unfold Builtin.SmallTypes.nextOf
  refine wpAny_bind (wpAny_callSpecial?_slot (name := Str.ofString "__next__") g.typeIs F.slot_tuple_iterator_next (wpAny_call_entry F.slot_tuple_iterator_next g.typeIs F.entry_tuple_iterator_next ?_ (F.args_tuple_iterator_next_1 _)))
  show wpAny _ _ (field (.ref it) 0 >>= fun _ => _) _ _ s
  refine wpAny_bind (wpAny_field eo dd (x := .ref t) rfl ?_)
  show wpAny _ _ (if (Value.ref t == Value.none) = true then _ else _) _ _ s
  have nn : ¬ ((Value.ref t == Value.none) = true) := Bool.false_ne_true
  rw [if_neg nn]
  show wpAny _ _ (field (.ref it) 1 >>= fun _ => _) _ _ s
  refine wpAny_bind (wpAny_field eo dd (x := .int i 0) rfl ?_)
  show wpAny _ _ (seqItems? (.ref t) >>= fun _ => _) _ _ s
  refine wpAny_bind (wpAny_seqItems et dt ?_)
  simp only [Int.toNat_natCast, gx]
  refine wpAny_bind (wpAny_rule (wpAny_bind (wpAny_setField eo dd (by simp) ?_)))
  show wpAny _ _ (newExc (.type "StopIteration") [] >>= fun _ => _) _ _ _
  refine wpAny_bind ?_
  simp only [newExc, newTuple]
  refine wpAny_bind (wpAny_newObj_type ?_ (by size_fits))
  refine wpAny_bind (m := firstArgMember _ _) (wpAny_of_eq (a := Value.none) (by first | rfl | (simp only [firstArgMember]; rfl)) (wpAny_newObj_type ?_ (by size_fits)))
  simp only [raiseNew]
  refine wpAny_bind (wpAny_handled ?_)
  first | rw [show A.in1.handled = none from hh] | rw [hh]
  exact wpAny_bind (wpAny_pure (wpAny_throw (q _ _ (((Heap.SameBut.update ..).extBut.push _).push _) ⟨_, Heap.get?_push_size _ rfl, rfl⟩)))
theorem enum_end {e it t : Addr} {i : Nat} {j : Int} {xs : Array Value} {old : Value} {Q : Option Value → Shared → Prop} (hh : A.handled = none) (ge : IsEnum s.heap e it j old) (g : s.heap.IsTupleIter it t i) (gt : s.heap.IsTuple t xs) (gx : xs[i]? = none)
    (q : ∀ h1, Heap.ExtBut it s.heap h1 → Q none { s with heap := h1 }) : wpAny (model prog w) A (pyNext (.ref e)) Q E s := by
  have ty : s.TypeIs (.ref e) "enumerate" := ⟨_, ge, rfl⟩
  unfold pyNext
  refine wpAny_bind (wpAny_attempt (wpAny_callSpecial?_slot (name := Str.ofString "__next__") ty F.slot_enumerate_next (wpAny_call_entry F.slot_enumerate_next ty F.entry_enumerate_next ?_ (F.args_enumerate_next_1 _))))
  show wpAny _ _ (field (.ref e) 2 >>= fun _ => _) _ _ _
  refine wpAny_bind (wpAny_field ge rfl (x := .ref it) rfl ?_)
  refine wpAny_bind (next_tup_end hh g gt gx fun h1 x k1 k2 => ?_)
  obtain ⟨o, ho, hc⟩ := k2
  exact wpAny_bind (wpAny_isInstance (T := "StopIteration") (b := true) ⟨o, ho, hc⟩ isSubtype_stop (wpAny_pure (q _ k1)))
end
/-- pairs (lo + i, the tuple's item at i) -/
noncomputable def Ite (K : PySem.W.Frag) (a : Addr) (lo : Int) : It where
  go := fun i H => ∃ xs x, SqT K H a xs ∧ xs[i]? = some x
  yld := fun i H v H' => ∃ T x, v = .ref T ∧ H T = none ∧ H' = upd H T (.tup [.int (lo + i), x]) ∧ ∀ xs, SqT K H a xs → xs[i]? = some x
  stop := fun i H => ∃ xs, SqT K H a xs ∧ xs.length ≤ i
theorem turn_enum {P : Program} {w : World} {K : PySem.W.Frag} {es : List Expr} {k : Nat} {tp : Pos} (a e it : Addr) (lo : Int) (ne : e ≠ it) :
    Turn P w K (.Tuple es k tp) (Ite K a lo) [e, it] e (fun i h => (∃ old, IsEnum h e it (lo + i) old) ∧ h.IsTupleIter it a i) where
  mem := by simp
  obj := fun i h st c hc => by
    obtain ⟨⟨old, h1⟩, ⟨o2, e2, c2, d2⟩⟩ := st
    have hc' : c = e ∨ c = it := by simpa using hc
    rcases hc' with rfl | rfl
    · exact ⟨_, h1, fun v q => by cases (show Data.fields _ = Data.cell v from q)⟩
    · exact ⟨o2, e2, fun v q => by rw [d2] at q; cases q⟩
  keep := fun i h h' st kp => by
    obtain ⟨⟨old, h1⟩, h2⟩ := st
    exact ⟨⟨old, kp e (by simp) _ h1⟩, h2.at fun o q => kp it (by simp) o q⟩
  item := by
    intro X hP hw hK hc i pins s σ H E I hf st hg
    subst hP hw hK
    obtain ⟨xs, x, hq, hx⟩ := hg
    obtain ⟨its, rv, p, hz⟩ := I.tuple hq
    obtain ⟨u, hu, ru⟩ := rv.get hx
    obtain ⟨⟨old, h1⟩, h2⟩ := st
    refine enum_item h1 h2 (show s.heap.IsTuple a its.toArray from p) (x := u) (by simpa using hu) ne fun h' tk ho hi ht kp => ⟨_, rfl, ?_⟩
    refine wpAny_letOwnedTupleGo_enum ho fun h'' he' hs' => ?_
    replace hs' : Heap.SameBut e h' h'' := hs'
    replace he' : IsEnum h'' e it (lo + i + 1) u := he'
    have zT := (hs'.2 s.heap.objs.size (Nat.ne_of_gt (Heap.lt_size h1))).trans ht
    have kp' : ∀ b o, b ∉ [e, it] → s.heap.get? b = some o → h''.get? b = some o := fun b o hb q => (hs'.2 b (fun z => hb (z ▸ List.mem_cons_self))).trans (kp b o (fun z => hb (z ▸ List.mem_cons_self)) (fun z => hb (z ▸ List.mem_cons_of_mem _ List.mem_cons_self)) q)
    have hsz : e < s.heap.objs.size := Heap.lt_size h1
    have hiz : it < s.heap.objs.size := by obtain ⟨o, q, _⟩ := h2; exact Heap.lt_size q
    have htT : IsTup h'' s.heap.objs.size #[.int (lo + i) tk, u] := ⟨_, zT, rfl, 0, rfl⟩
    have hTn : H s.heap.objs.size = none := I.hok.fresh (Nat.le_refl _)
    have I2 : Inv X pins σ (upd H s.heap.objs.size (.tup [.int (lo + i), x])) { s with heap := h'', toks := tk + 1 } :=
      turnedT (ch := [e, it]) I kp' hf (Nat.le_refl _) ⟨[.int (lo + i) tk, u], .cons ⟨tk, rfl⟩ (.cons ru .nil), htT⟩ (by show 2 ≤ sizeLine; decide)
    refine ⟨.ref s.heap.objs.size, _, I2, rfl, ⟨_, x, rfl, hTn, rfl, fun ys hy => by rw [I.tuple_inj hy hq]; exact hx⟩, ⟨⟨u, ?_⟩, hi.at fun o q => (hs'.2 it (Ne.symm ne)).trans q⟩, fun b hb => ?_⟩
    · have z : lo + ((i + 1 : Nat) : Int) = lo + (i : Int) + 1 := by omega
      rw [z]; exact he'
    · have hb' : b = e ∨ b = it := by simpa using hb
      have hne : b ≠ s.heap.objs.size := by
        rcases hb' with z | z
        · rw [z]; exact Nat.ne_of_lt hsz
        · rw [z]; exact Nat.ne_of_lt hiz
      rw [upd_ne hne]
      exact (hf b hb).1
  done := by
    intro X hP hw hK hc i pins s σ H E I hf st hg
    subst hP hw hK
    obtain ⟨xs, hq, hx⟩ := hg
    obtain ⟨its, rv, p, hz⟩ := I.tuple hq
    obtain ⟨⟨old, h1⟩, h2⟩ := st
    have hl := rv.length
    refine enum_end (I.ok.hd hc) h1 h2 (show s.heap.IsTuple a its.toArray from p) (by simp; omega) fun h' kp => ⟨rfl, ?_⟩
    exact turnedN (ch := [e, it]) (t' := s.toks) I (fun b o hb q => kp b o (fun z => hb (z ▸ List.mem_cons_of_mem _ List.mem_cons_self)) q) hf
  self := fun _ _ _ _ _ st h => by
    obtain ⟨⟨old, h1⟩, _⟩ := st
    exact wpAny_pyIter_enum h1 h
section
variable {X : Cx}
noncomputable def iEnum (K : PySem.W.Frag) (ta tk : TA) : TI := fun σ H R => ta σ H fun vs H1 => tk σ H1 fun zs H2 => ∃ a xs n, vs = [.ref a] ∧ zs = [.int n] ∧ Builtin.SmallTypes.fitsIndex n = true ∧ SqT K H2 a xs ∧ R (Ite K a n) H2
theorem callTy_kw {M : Model} {A : Around} {E : Value → Shared → Prop} {s : Shared} {env : Env} {pos : Pos} {T : String} {e : Expr} {rest : List Expr} {kws : List Keyword} {Q : Value → Shared → Prop}
    (h : wpAny M A (spliced (backTo pos (starEach (e :: rest) env))) (fun vs s1 => wpAny M A (evalAll ((backToKw pos (keywordEach kws env)).map (·.2))) (fun ks s2 => wpAny M A (call (.type T) vs (((backToKw pos (keywordEach kws env)).filterMap (·.1)).zip ks)) Q E s2) E s1) E s)
    (he : starEach (e :: rest) env = (false, eval e env) :: starEach rest env) (h1 : (backTo pos (starEach (e :: rest) env)).any (·.1) = false) (h2 : (backToKw pos (keywordEach kws env)).all (·.1.isSome) = true) (h3 : (backToKw pos (keywordEach kws env)).any (·.1.isNone) = false) :
    wpAny M A (callWith pos (.type T) [] (backTo pos (starEach (e :: rest) env)) (backToKw pos (keywordEach kws env))) Q E s := by
  have k : wpAny M A (evalArgs (.type T) true (backTo pos (starEach (e :: rest) env)) (backToKw pos (keywordEach kws env))) (fun a s1 => wpAny M A (call (.type T) ([] ++ a.pos) a.kw) Q E s1) E s := by
    rw [he] at h ⊢
    exact evalArgs_kwB h2 h
  unfold callWith
  refine wpAny_bind (wpAny_holding (thn k fun a s1 q => wpAny_bind (wpAny_standAt ?_)))
  simp only [h1, h3, Bool.or_false]
  exact wpAny_bind (wpAny_pure (wpAny_bind (thn q fun r s2 q2 => wpAny_bind (wpAny_holding (wpAny_point (wpAny_pure q2))))))
theorem enum_call {prog : Program} {w : World} {A : Around} {E : Value → Shared → Prop} {s : Shared} {t : Addr} {xs : Array Value} {n : Int} {tk : Tok} {Q : Value → Shared → Prop} (hn : Builtin.SmallTypes.fitsIndex n = true) (ht : s.heap.IsTuple t xs)
    (h : Q (.ref (s.heap.push { cls := .type "tuple_iterator", data := .fields #[.ref t, .int 0 0] }).objs.size)
      { s with heap := (s.heap.push { cls := .type "tuple_iterator", data := .fields #[.ref t, .int 0 0] }).push { cls := .type "enumerate", data := .fields #[.none, .bool false, .ref s.heap.objs.size, rawInt n, .none, .none] } }) :
    wpAny (model prog w) A (call (.type "enumerate") [.ref t] [("start", .int n tk)]) Q E s := by
  refine callType_kw (Q1 := fun obj s1 => obj = .ref (s.heap.push { cls := .type "tuple_iterator", data := .fields #[.ref t, .int 0 0] }).objs.size ∧ s1 = { s with heap := (s.heap.push { cls := .type "tuple_iterator", data := .fields #[.ref t, .int 0 0] }).push { cls := .type "enumerate", data := .fields #[.none, .bool false, .ref s.heap.objs.size, rawInt n, .none, .none] } })
    F.called_enumerate (by decide) (by simp) (by kernel_rfl) (by kernel_rfl) F.entry_enumerate_new (enum_new t n tk hn xs) ⟨ht, rfl, rfl⟩ fun obj s1 q => ?_
  obtain ⟨e, e'⟩ := q
  subst e e'
  exact ⟨⟨_, Heap.get?_push_size _ rfl, rfl⟩, by first | (simp [argsOk]; done) | (unfold argsOk; kernel_rfl) | (unfold argsOk; decide +kernel) | kernel_rfl, h⟩
theorem pi_enum {es : List Expr} {k : Nat} {tp p pos kp : Pos} {a b : Expr} {ta tk : TA} (hg : Gl X "enumerate") (hm : X.mg "enumerate" = none) (ha : PA X [a] ta) (hk : PK X [⟨some "start", b, kp⟩] tk) (hs : starEach [a] X.env = [(false, eval a X.env)] := by rfl) :
    PI X (.Tuple es k tp) (.Call (.Name "enumerate" p) [a] [⟨some "start", b, kp⟩] pos) (iEnum X.K ta tk) := by
  intro pins s σ H R I h
  refine wpAny_Call_Name_kw (ld_blt I hg hm boot_enumerate ?_)
  refine callTy_kw (thn (ha pos pins s σ H _ I h) fun us s1 q1 => ?_) (by rw [hs]; rfl) (by rw [hs]; rfl) rfl rfl
  obtain ⟨vs, H1, I1, r1, q1⟩ := q1
  refine thn (hk pos pins s1 σ H1 _ I1 q1) fun ws s2 q2 => ?_
  obtain ⟨zs, H2, I2, r2, l, xs, n, e, e', hn, hx, q⟩ := q2
  subst e e'
  obtain ⟨u, e, ru⟩ := Vals.one r1
  obtain ⟨u2, e', ru2⟩ := Vals.one r2
  subst e e'
  cases ru
  obtain ⟨tz, e⟩ := ru2
  subst e
  obtain ⟨its, rv, p1, z1⟩ := I2.tuple hx
  refine enum_call hn (show s2.heap.IsTuple l its.toArray from p1) (wpAny_pyIter_enum (Heap.get?_push_size _ rfl) ?_)
  have hsz : (s2.heap.push { cls := .type "tuple_iterator", data := .fields #[.ref l, .int 0 0] }).objs.size = s2.heap.objs.size + 1 := Heap.size_push ..
  rw [hsz]
  refine ⟨s2.heap.objs.size + 1, [s2.heap.objs.size + 1, s2.heap.objs.size], _, Ite X.K l n, H2, rfl, I2.kept (t' := s2.toks) fun b o e => Heap.get?_push_of_some _ (Heap.get?_push_of_some _ e), turn_enum l _ _ n (Nat.succ_ne_self _), ⟨⟨.none, ?_⟩, ⟨_, Heap.get?_push_of_some _ (Heap.get?_push_size _ rfl), rfl, rfl⟩⟩, fun c hc => ?_, q⟩
  · have z : n + ((0 : Nat) : Int) = n := by omega
    rw [z, ← hsz]
    exact Heap.get?_push_size _ rfl
  · have hc' : s2.heap.objs.size ≤ c := by
      rcases List.mem_cons.mp hc with z | z
      · rw [z]; exact Nat.le_succ _
      · rw [List.mem_singleton.mp z]; exact Nat.le_refl _
    exact I2.fpOk hc' (I2.hok.fresh hc')
end
end L2.Bw

end
section
set_option Elab.async false
set_option linter.all false
set_option maxRecDepth 100000
/-! max(xs, default=d) of a list of ints. -/
namespace L2.Bw
open PySem PySem.Spec PyProof.Rows
section
variable {prog : Program} {w : World} {A : Around} {R : Result → Shared → Prop} {it : Addr} {fp wr : List Addr} {n : Nat} {f : Nat → Int} {Z : Nat → Heap → Prop}
end
section
variable {X : Cx}
end
end L2.Bw

end
section
set_option Elab.async false
set_option linter.all false
set_option maxRecDepth 100000
/-! list(reversed(xs)) of a list. -/
namespace L2.Bw
open PySem PySem.Spec PyProof.Rows
section
variable {prog : Program} {w : World} {A : Around} {E : Value → Shared → Prop} {s : Shared}
end
section
variable {X : Cx}
end
end L2.Bw

end
section
set_option Elab.async false
set_option linter.all false
set_option maxRecDepth 100000
namespace L2.Bw
open PySem PySem.Spec PyProof.Rows
theorem ps_setX {X : Cx} {pos pos' : Pos} {i : Nat} {x : Str} {e : Expr} {te : TE} (hN : X.N.Nodup) (hi : X.N[i]? = some x) (hx : Loc X.env.scope x) (hs : swapsWith e (some (.Name x pos')) pos.line X.env = pure false) (hf : X.fn x = true ∨ X.env.scope.names.lookup x = some .local) (he : PE X e te) :
    PS X (.Assign [.Name x pos'] e pos) (tAsg te (gName i)) := ps_set hN hi hx he hs hf
end L2.Bw
/-! The mathematics of law k11: words, forms, nodes, trees. -/
namespace L2.K11
open PySem PySem.Spec PyProof.Rows L2.Bw

noncomputable def table : List (Str × List Str) := [("whole", ["number"]), ("truth", ["truth"]), ("given", ["given"]), ("name", ["name"]), ("fn", ["name", "kind", "node"]), ("self", ["name", "name", "kind", "kind", "node"]), ("call", ["node", "node"]),
  ("let", ["name", "node", "node"]), ("if", ["node", "node", "node"]), ("do", ["sign", "node", "node"]), ("row", ["kind", "nodes"]), ("at", ["node", "node"]), ("size", ["node"]), ("pair", ["node", "node"]), ("one", ["node"]), ("two", ["node"]),
  ("as", ["kind", "node"]), ("look", ["put in", "put in", "node"])]
noncomputable def words : List Str := table.map (·.1)
noncomputable def cnt (ys : List Str) (z : Str) : Nat := ys.countP fun y => decide (y = z)
noncomputable def nf (x : Str) : Nat := if x = "whole" then 1 else if x = "truth" then 1 else if x = "given" then 1 else if x = "do" then 1 else cnt ["name", "fn", "let", "self", "self"] x
noncomputable def nk (x : Str) : Nat := cnt ["fn", "self", "self", "row", "as", "look", "look"] x
noncomputable def np (x : Str) : Nat := if x = "if" then 3 else if x ∈ (["call", "let", "do", "at", "pair"] : List Str) then 2 else if x ∈ (["whole", "truth", "given", "name"] : List Str) then 0 else 1
noncomputable def ixs (sort : Str) (k : Nat) : List Str → List Int
  | [] => []
  | y :: r => if y = sort then (k : Int) :: ixs sort (k + 1) r else ixs sort (k + 1) r
noncomputable def rng (lo n : Nat) : List Int := (List.range' lo n).map fun (i : Nat) => (i : Int)
noncomputable def form (x : Str) : List Str := (KTD.datumAt x table).getD []
theorem form_of : ∀ x ∈ words, KTD.datumAt x table = some (form x) ∧ (form x).length ≤ 5 ∧ (x ≠ "row" → ixs "node" 2 (form x) = rng (2 + nf x + nk x) (np x)) ∧ (x ≠ "look" → ixs "kind" 2 (form x) = rng (2 + nf x) (nk x)) ∧ (x = "look" → ixs "kind" 2 (form x) = []) := by
  decide +kernel
/-- a node by its things -/
noncomputable def nodeD (x : Str) (p : Int) (fr ks ps : List Dt) : Dt := if x = "row" then .tup [.str x, .int p, ks.headD (.int 0), .tup ps] else .tup (.str x :: .int p :: (fr ++ ks ++ ps))
structure Nd (x : Str) (fr ks ps : List Dt) : Prop where
  w : x ∈ words
  f : fr.length = nf x
  k : ks.length = nk x
  p : x ≠ "row" → ps.length = np x
  few : ps.length ≤ 4
inductive Tr where
  | mk (x : Str) (p : Int) (fr ks : List Dt) (ps : List Tr)
mutual
noncomputable def Tr.d : Tr → Dt
  | .mk x p fr ks ps => nodeD x p fr ks (Tr.ds ps)
noncomputable def Tr.ds : List Tr → List Dt
  | [] => []
  | t :: r => t.d :: Tr.ds r
end
mutual
noncomputable def Tr.ok : Tr → Prop
  | .mk x _ fr ks ps => x ≠ "look" ∧ Nd x fr ks (Tr.ds ps) ∧ dps fr = 0 ∧ dps ks ≤ 4 ∧ nars ks ∧ Tr.oks ps
noncomputable def Tr.oks : List Tr → Prop
  | [] => True
  | t :: r => t.ok ∧ Tr.oks r
end
mutual
noncomputable def Tr.pl : Tr → List Int
  | .mk _ p _ _ ps => p :: Tr.pls ps
noncomputable def Tr.pls : List Tr → List Int
  | [] => []
  | t :: r => t.pl ++ Tr.pls r
end
mutual
noncomputable def Tr.ns : Tr → Nat
  | .mk _ _ _ _ ps => 1 + Tr.nss ps
noncomputable def Tr.nss : List Tr → Nat
  | [] => 0
  | t :: r => max t.ns (Tr.nss r)
end
theorem ds_length : ∀ (ps : List Tr), (Tr.ds ps).length = ps.length
  | [] => rfl
  | _ :: r => by show (Tr.ds r).length + 1 = r.length + 1; rw [ds_length r]
theorem ds_append : ∀ (ps qs : List Tr), Tr.ds (ps ++ qs) = Tr.ds ps ++ Tr.ds qs
  | [], _ => rfl
  | t :: r, qs => by show t.d :: Tr.ds (r ++ qs) = t.d :: (Tr.ds r ++ Tr.ds qs); rw [ds_append r qs]
end L2.K11

end
section
set_option Elab.async false
set_option linter.all false
namespace L2.Bw
open PySem PySem.Spec PyProof.Rows
/-- a fact in a box: what is in it isn't unfolded -/
structure Bx (p : Prop) : Prop where
  out : p
theorem bx0 {A : Prop} (a : A) : Bx A := ⟨a⟩
theorem bx1 {A B : Prop} (r : A → B) (a : Bx A) : Bx B := ⟨r a.out⟩
theorem bxnil {X : Cx} : Bx (PA X [] tNil) := ⟨pa_nil⟩
theorem bxs {X : Cx} {es : List Expr} {t : TA} {x j pos} (r : Bx (PA X es t)) : Bx (PA X (.Constant (.str x) j pos :: es) (tCons (tC (.str x)) t)) := ⟨pa pe_str r.out rfl⟩
theorem bxlst {X : Cx} {es : List Expr} {t : TA} {pos} (r : Bx (PA X es t)) : Bx (PE X (.List es pos) (tLst t)) := ⟨pe_lst r.out⟩
section
variable {P : Program} {w : World} {K : PySem.W.Frag} {mg : Str → Option Value} {base : Heap}
end
end L2.Bw

end
section
set_option Elab.async false
set_option linter.all false
set_option maxRecDepth 100000
/-! Data as in BwData, with None, and with tuples of the program's top among them. -/
namespace L2.Bk
open PySem PySem.Spec PyProof.Rows L2.Bw PyProof.Rows.LSm
/-- a tuple of the program's top -/
noncomputable def Kt (K : PySem.W.Frag) (a : Addr) (xs : List V) : Prop := ∃ (o : Obj) (its : Array Value) (n : Nat), K.lookup a = some o ∧ o.cls = .type "tuple" ∧ o.data = .seq its n ∧ its.size ≤ sizeLine ∧ Vals xs its.toList
noncomputable def Tp (K : PySem.W.Frag) (H : Hp) (a : Addr) (xs : List V) : Prop := H a = some (.tup xs) ∨ Kt K a xs
theorem Tp.of {K : PySem.W.Frag} {H : Hp} {a : Addr} {xs : List V} (h : H a = some (.tup xs)) : Tp K H a xs := .inl h
theorem Tp.sq {K : PySem.W.Frag} {H : Hp} {a : Addr} {xs : List V} (h : Tp K H a xs) : SqT K H a xs := by
  rcases h with h | h
  · exact SqT.of h
  · exact .inr h
theorem Tp.mono {K : PySem.W.Frag} {H H' : Hp} {a : Addr} {xs : List V} (h : Tp K H a xs) (m : Tm H H') : Tp K H' a xs := by
  rcases h with h | h
  · exact .inl (m _ _ h)
  · exact .inr h
inductive Dk where
  | non
  | int (i : Int)
  | bl (b : Bool)
  | str (x : Str)
  | tup (xs : List Dk)
mutual
noncomputable def RK (K : PySem.W.Frag) (H : Hp) : Dk → V → Prop
  | .non, v => v = .non
  | .int i, v => v = .int i
  | .bl b, v => v = .bl b
  | .str x, v => v = .str x
  | .tup ds, v => ∃ a vs, v = .ref a ∧ Tp K H a vs ∧ RKs K H ds vs
noncomputable def RKs (K : PySem.W.Frag) (H : Hp) : List Dk → List V → Prop
  | [], vs => vs = []
  | d :: ds, vs => ∃ v r, vs = v :: r ∧ RK K H d v ∧ RKs K H ds r
end
mutual
noncomputable def Dk.dq : Dk → Nat
  | .tup ds => 1 + dqs ds
  | .non => 0
  | .int _ => 0
  | .bl _ => 0
  | .str _ => 0
noncomputable def dqs : List Dk → Nat
  | [] => 0
  | d :: ds => max d.dq (dqs ds)
end
mutual
noncomputable def Dk.nr : Dk → Prop
  | .tup ds => ds.length ≤ 1000 ∧ nrs ds
  | .non => True
  | .int _ => True
  | .bl _ => True
  | .str _ => True
noncomputable def nrs : List Dk → Prop
  | [] => True
  | d :: ds => d.nr ∧ nrs ds
end
theorem nr_non : Dk.non.nr := by rw [Dk.nr]; trivial
theorem nr_str (x : Str) : (Dk.str x).nr := by rw [Dk.nr]; trivial
theorem nr_int (x : Int) : (Dk.int x).nr := by rw [Dk.nr]; trivial
theorem nr_bl (x : Bool) : (Dk.bl x).nr := by rw [Dk.nr]; trivial
theorem nrs_of : ∀ {ds : List Dk}, (∀ d ∈ ds, d.nr) → nrs ds
  | [], _ => by rw [nrs]; trivial
  | d :: r, h => by rw [nrs]; exact ⟨h d List.mem_cons_self, nrs_of fun e he => h e (List.mem_cons_of_mem _ he)⟩
theorem nrs_mem : ∀ {ds : List Dk}, nrs ds → ∀ d ∈ ds, d.nr
  | e :: r, h, d, hd => by
    rw [nrs] at h
    rcases List.mem_cons.mp hd with rfl | z
    · exact h.1
    · exact nrs_mem h.2 d z
theorem nr_mk {ds : List Dk} (h : ds.length ≤ 1000) (hs : ∀ d ∈ ds, d.nr) : (Dk.tup ds).nr := by rw [Dk.nr]; exact ⟨h, nrs_of hs⟩
theorem nr_tup {ds : List Dk} (h : (Dk.tup ds).nr) : ds.length ≤ 1000 ∧ nrs ds := by rw [Dk.nr] at h; exact h
theorem dq_tup (ds : List Dk) : (Dk.tup ds).dq = 1 + dqs ds := by rw [Dk.dq]
theorem dq_non : Dk.non.dq = 0 := by rw [Dk.dq]
theorem dq_str (x : Str) : (Dk.str x).dq = 0 := by rw [Dk.dq]
theorem dq_int (x : Int) : (Dk.int x).dq = 0 := by rw [Dk.dq]
theorem dq_bl (x : Bool) : (Dk.bl x).dq = 0 := by rw [Dk.dq]
theorem dqs_nil : dqs [] = 0 := by rw [dqs]
theorem dqs_cons (d : Dk) (ds : List Dk) : dqs (d :: ds) = max d.dq (dqs ds) := by rw [dqs]
theorem RK.n {K : PySem.W.Frag} {H : Hp} : RK K H .non .non := by rw [RK]
theorem RK.s {K : PySem.W.Frag} {H : Hp} (x : Str) : RK K H (.str x) (.str x) := by rw [RK]
theorem RK.i {K : PySem.W.Frag} {H : Hp} (x : Int) : RK K H (.int x) (.int x) := by rw [RK]
theorem RK.b {K : PySem.W.Frag} {H : Hp} (x : Bool) : RK K H (.bl x) (.bl x) := by rw [RK]
theorem RKs.nil {K : PySem.W.Frag} {H : Hp} : RKs K H [] [] := rfl
theorem RKs.cons {K : PySem.W.Frag} {H : Hp} {d : Dk} {ds : List Dk} {v : V} {vs : List V} (h : RK K H d v) (t : RKs K H ds vs) : RKs K H (d :: ds) (v :: vs) := ⟨v, vs, rfl, h, t⟩
theorem RK.tup {K : PySem.W.Frag} {H : Hp} {a : Addr} {ds : List Dk} {vs : List V} (h : Tp K H a vs) (t : RKs K H ds vs) : RK K H (.tup ds) (.ref a) := ⟨a, vs, rfl, h, t⟩
theorem RKs.length {K : PySem.W.Frag} {H : Hp} : ∀ {ds : List Dk} {vs : List V}, RKs K H ds vs → ds.length = vs.length
  | [], vs, h => by cases (show vs = [] from h); rfl
  | d :: ds, vs, ⟨v, r, e, _, t⟩ => by subst e; simp [RKs.length t]
theorem RKs.get {K : PySem.W.Frag} {H : Hp} : ∀ {ds : List Dk} {vs : List V} {i : Nat} {d : Dk}, RKs K H ds vs → ds[i]? = some d → ∃ v, vs[i]? = some v ∧ RK K H d v
  | [], _, _, _, _, e => by simp at e
  | d :: ds, vs, 0, d', ⟨v, r, e, h, _⟩, e' => by subst e; simp at e'; subst e'; exact ⟨v, rfl, h⟩
  | d :: ds, vs, i + 1, d', ⟨v, r, e, _, t⟩, e' => by
    subst e
    obtain ⟨u, h1, h2⟩ := RKs.get (i := i) t (by simpa using e')
    exact ⟨u, by simpa using h1, h2⟩
theorem RKs.getV {K : PySem.W.Frag} {H : Hp} : ∀ {ds : List Dk} {vs : List V} {i : Nat} {v : V}, RKs K H ds vs → vs[i]? = some v → ∃ d, ds[i]? = some d ∧ RK K H d v := fun {ds vs i v} h e => by
  have hl := h.length
  have hi : i < ds.length := by rw [hl]; exact (List.getElem?_eq_some_iff.mp e).1
  obtain ⟨u, h1, h2⟩ := h.get (List.getElem?_eq_getElem hi)
  rw [e] at h1; cases h1
  exact ⟨_, List.getElem?_eq_getElem hi, h2⟩
theorem RKs.append {K : PySem.W.Frag} {H : Hp} : ∀ {ds es : List Dk} {vs us : List V}, RKs K H ds vs → RKs K H es us → RKs K H (ds ++ es) (vs ++ us)
  | [], _, vs, _, h, t => by cases (show vs = [] from h); exact t
  | d :: ds, es, vs, us, ⟨v, r, e, h, t'⟩, t => by subst e; exact .cons h (RKs.append t' t)
theorem RKs.split {K : PySem.W.Frag} {H : Hp} : ∀ {ds es : List Dk} {vs : List V}, RKs K H (ds ++ es) vs → ∃ us ws, vs = us ++ ws ∧ RKs K H ds us ∧ RKs K H es ws
  | [], _, vs, h => ⟨[], vs, rfl, rfl, h⟩
  | d :: ds, es, vs, ⟨v, r, e, h, t⟩ => by
    subst e
    obtain ⟨us, ws, e, h1, h2⟩ := RKs.split t
    subst e
    exact ⟨v :: us, ws, rfl, .cons h h1, h2⟩
mutual
theorem RK.mono {K : PySem.W.Frag} {H H' : Hp} (m : Tm H H') : ∀ {d : Dk} {v : V}, RK K H d v → RK K H' d v
  | .non, _, h => h
  | .int _, _, h => h
  | .bl _, _, h => h
  | .str _, _, h => h
  | .tup _, _, ⟨a, vs, e, h, t⟩ => ⟨a, vs, e, h.mono m, RKs.mono m t⟩
theorem RKs.mono {K : PySem.W.Frag} {H H' : Hp} (m : Tm H H') : ∀ {ds : List Dk} {vs : List V}, RKs K H ds vs → RKs K H' ds vs
  | [], _, h => h
  | _ :: _, _, ⟨v, r, e, h, t⟩ => ⟨v, r, e, RK.mono m h, RKs.mono m t⟩
end
theorem dqs_mem {d : Dk} : ∀ {ds : List Dk}, d ∈ ds → d.dq ≤ dqs ds
  | e :: ds, h => by
    rcases List.mem_cons.mp h with rfl | h
    · exact Nat.le_max_left _ _
    · exact Nat.le_trans (dqs_mem h) (Nat.le_max_right _ _)
theorem dqs_le {n : Nat} : ∀ {ds : List Dk}, (∀ d ∈ ds, d.dq ≤ n) → dqs ds ≤ n
  | [], _ => Nat.zero_le _
  | e :: ds, h => Nat.max_le.mpr ⟨h e List.mem_cons_self, dqs_le fun d hd => h d (List.mem_cons_of_mem _ hd)⟩


theorem _root_.L2.Room.u1 {k : Nat} {A : Around} (r : Room k A) : A.units + 1 < cLine := by have := r.un; omega
section
variable {X : Cx}
noncomputable def IsJ (K : PySem.W.Frag) (H : Hp) (x : V) (n : String) (b : Bool) : Prop := IsI K H x n b ∨ ∃ a xs, x = .ref a ∧ Kt K a xs ∧ PySem.W.kitOne K (.type "tuple") (.type n) = some b
theorem call_isj : CallR X (.builtin "isinstance") (fun xs H Q => ∃ x n b, xs = [x, .ty n] ∧ IsJ X.K H x n b ∧ Q (.bl b) H) := by
  intro pins s σ H xs us Q I r h
  obtain ⟨x, n, b, e, ty, q⟩ := h
  rcases ty with ty | ⟨a, ys, e', ⟨o, its, m, hk, hc, hd, hz, rv⟩, k⟩
  · exact call_isi pins s σ H xs us Q I r ⟨x, n, b, e, ty, q⟩
  · subst e e'
    obtain ⟨u, w, e, ru, rw'⟩ := Vals.two r
    subst e
    cases rw'
    cases (show u = Value.ref a from ru)
    exact PySem.W.kia_one PySem.W.kitx_tuple I.kIn ⟨o, I.kIn a o hk, hc⟩ k (fun z => nomatch z) fun tk => ⟨.bl b, H, I.tok tk, rfl, q⟩
theorem boolsAre_of : ∀ {bs : List Bool} {us : List Value}, Vals (bs.map V.bl) us → BoolsAre us bs
  | [], _, h => by cases h; exact .nil
  | y :: ys, _, h => by
    cases h with
    | cons r t =>
      cases (show _ = Value.bool y from r)
      exact .cons _ (boolsAre_of t)
theorem range_allB (bs : List Bool) : ((List.range bs.length).all fun i => (bs[i]?).getD true) = bs.all id := by
  rw [Bool.eq_iff_iff, List.all_eq_true, List.all_eq_true]
  constructor
  · intro h b hb
    obtain ⟨i, hi, rfl⟩ := List.getElem_of_mem hb
    have := h i (List.mem_range.mpr hi)
    simp only [List.getElem?_eq_getElem hi, Option.getD_some] at this
    exact this
  · intro h i hi
    have hi' := List.mem_range.mp hi
    simp only [List.getElem?_eq_getElem hi', Option.getD_some]
    exact h _ (List.getElem_mem hi')
theorem call_all (hc : X.calm = true) : CallR X (.builtin "all") (fun xs H Q => ∃ (l : Addr) (bs : List Bool), xs = [.ref l] ∧ SqL X.K H l (bs.map V.bl) ∧ Q (.bl (bs.all id)) H) := by
  intro pins s σ H xs us Q I r h
  obtain ⟨l, bs, e, hl, q⟩ := h
  subst e
  obtain ⟨u, e, ru⟩ := Vals.one r
  subst e
  cases ru
  obtain ⟨its, rv, p, hz⟩ := I.list hl
  have hb := boolsAre_of rv
  have hi := p.isList
  have hlt : l < s.heap.objs.size := by obtain ⟨_, e, _⟩ := hi; exact Heap.lt_size e
  refine call_all_walk (wpAny_pyIter_list hi ?_)
  refine ⟨s.heap.objs.size, [s.heap.objs.size, l], [s.heap.objs.size], its.toArray.size, _, _, fun i => (bs[i]?).getD true, rfl, Walks.list (A := X.A.in1) (I.ok.hd hc) _ l (Nat.ne_of_lt hlt) its.toArray,
    ⟨⟨_, Heap.get?_push_size _ rfl, rfl, rfl⟩, hi.push _⟩, fun i v s' Q' E' hP hQ => ?_, fun h' tk hk => ?_⟩
  · obtain ⟨b, e, e'⟩ := hb.get i v (by simpa using hP)
    subst e'
    simp only [e, Option.getD_some] at hQ
    exact wpAny_truthy_bool hQ
  · have e : ((List.range its.toArray.size).all fun i => (bs[i]?).getD true) = bs.all id := by
      rw [List.size_toArray, hb.length]; exact range_allB bs
    rw [e]
    exact ⟨.bl _, H, I.kept fun b o e => hk b o (fun hm => by rw [List.mem_singleton.mp hm] at e; exact Nat.lt_irrefl _ (Heap.lt_size e)) (Heap.get?_push_of_some _ e), rfl, q⟩
theorem rk_eq {s : Shared} {pins : List (Addr × Obj)} {σ : St} {H : Hp} (I : Inv X pins σ H s) : ∀ (n : Nat) {A : Around} {d : Dk} {x y : V} {u v : Value}, d.dq ≤ n → RK X.K H d x → RK X.K H d y → RelV x u → RelV y v → A.units + n < cLine → SeqAt.EqAt A s u v true := by
  intro n
  induction n with
  | zero =>
    intro A d x y u v hn hx hy ru rv hu
    cases d with
    | non => cases (show x = .non from hx); cases (show y = .non from hy); have k := eqAt_V (A := A) (s := s) ru rv rfl rfl; simpa [eqV] using k
    | int i => cases (show x = .int i from hx); cases (show y = .int i from hy); have k := eqAt_V (A := A) (s := s) ru rv rfl rfl; simpa [eqV] using k
    | bl b => cases (show x = .bl b from hx); cases (show y = .bl b from hy); have k := eqAt_V (A := A) (s := s) ru rv rfl rfl; simpa [eqV] using k
    | str z => cases (show x = .str z from hx); cases (show y = .str z from hy); have k := eqAt_V (A := A) (s := s) ru rv rfl rfl; simpa [eqV] using k
    | tup ds => have k : 1 + dqs ds ≤ 0 := hn; omega
  | succ n ih =>
    intro A d x y u v hn hx hy ru rv hu
    cases d with
    | non => cases (show x = .non from hx); cases (show y = .non from hy); have k := eqAt_V (A := A) (s := s) ru rv rfl rfl; simpa [eqV] using k
    | int i => cases (show x = .int i from hx); cases (show y = .int i from hy); have k := eqAt_V (A := A) (s := s) ru rv rfl rfl; simpa [eqV] using k
    | bl b => cases (show x = .bl b from hx); cases (show y = .bl b from hy); have k := eqAt_V (A := A) (s := s) ru rv rfl rfl; simpa [eqV] using k
    | str z => cases (show x = .str z from hx); cases (show y = .str z from hy); have k := eqAt_V (A := A) (s := s) ru rv rfl rfl; simpa [eqV] using k
    | tup ds =>
      have hn' : 1 + dqs ds ≤ n + 1 := hn
      obtain ⟨a, vs, e, ha, ta⟩ := hx
      obtain ⟨b, ws, e', hb, tb⟩ := hy
      subst e e'
      cases ru; cases rv
      by_cases hab : a = b
      · subst hab; exact SeqAt.EqAt.same _
      · obtain ⟨i1, r1, p1, z1⟩ := I.tuple ha.sq
        obtain ⟨i2, r2, p2, z2⟩ := I.tuple hb.sq
        have l1 := r1.length
        have l2 := r2.length
        have l3 := ta.length
        have l4 := tb.length
        have key := SeqAt.RcAt.tuples (A := A) (s := s) (e := fun _ => true) p1 p2 (by omega) fun j h1 h2 => by
          have hjd : j < ds.length := by simp at h1; omega
          obtain ⟨x1, e1, q1⟩ := ta.get (List.getElem?_eq_getElem hjd)
          obtain ⟨y1, e2, q2⟩ := tb.get (List.getElem?_eq_getElem hjd)
          obtain ⟨u1, f1, w1⟩ := r1.get e1
          obtain ⟨v1, f2, w2⟩ := r2.get e2
          have g1 : i1.toArray[j] = u1 := by
            have h1' : j < i1.length := by simpa using h1
            rw [List.getElem?_eq_getElem h1'] at f1
            simpa using f1
          have g2 : i2.toArray[j] = v1 := by
            have h2' : j < i2.length := by simpa using h2
            rw [List.getElem?_eq_getElem h2'] at f2
            simpa using f2
          rw [g1, g2]
          have k := dqs_mem (List.getElem_mem hjd)
          exact ih (A := A.in1) (by omega) q1 q2 w1 w2 (by show A.units + 1 + n < cLine; omega)
        have val : ((List.range (min i1.toArray.size i2.toArray.size)).all (fun _ => true) && i1.toArray.size == i2.toArray.size) = true := by
          simp; omega
        rw [val] at key
        exact SeqAt.EqAt.of_refs hab key
/-- what == tells of two lists or tuples -/
inductive EqK (K : PySem.W.Frag) (H : Hp) : V → V → Bool → Prop where
  | lists {a c : Addr} {vs ws : List V} {ds : List Dk} (ha : SqL K H a vs) (hc : SqL K H c ws) (ta : RKs K H ds vs) (tc : RKs K H ds ws) (hd : dqs ds ≤ 60) : EqK K H (.ref a) (.ref c) true
  | lens {a c : Addr} {vs ws : List V} (ha : SqL K H a vs) (hc : SqL K H c ws) (hl : vs.length ≠ ws.length) : EqK K H (.ref a) (.ref c) false
  | data {x y : V} {ds : List Dk} (hx : RK K H (.tup ds) x) (hy : RK K H (.tup ds) y) (hd : dqs ds ≤ 60) : EqK K H x y true
  | heads {a c : Addr} {h z : Str} {r : List V} (ha : SqT K H a (.str h :: r)) (hc : SqT K H c [.str z]) : EqK K H (.ref a) (.ref c) (decide (h = z) && r.isEmpty)
theorem item_k {vs : List V} {us : List Value} {j : Nat} {x : V} (r : Vals vs us) (hx : vs[j]? = some x) (h : j < us.toArray.size) : RelV x us.toArray[j] := by
  obtain ⟨u, f, w⟩ := r.get hx
  have h' : j < us.length := by simpa using h
  rw [List.getElem?_eq_getElem h'] at f
  cases f
  simpa using w
theorem eqk_ok {k : Nat} (hr : Room k X.A) {s : Shared} {pins : List (Addr × Obj)} {σ : St} {H : Hp} (I : Inv X pins σ H s) {x y : V} {u v : Value} {b : Bool} (h : EqK X.K H x y b) (rx : RelV x u) (ry : RelV y v) : SeqAt.RcAt X.A s u v b ∧ SeqAt.RcNeAt X.A s u v (!b) := by
  have hu := hr.units
  cases h with
  | @lists a c vs ws ds ha hc ta tc hd =>
    cases rx; cases ry
    obtain ⟨i1, r1, p1, z1⟩ := I.list ha
    obtain ⟨i2, r2, p2, z2⟩ := I.list hc
    have l1 := r1.length
    have l2 := r2.length
    have l3 := ta.length
    have l4 := tc.length
    have it : ∀ j (h1 : j < i1.toArray.size) (h2 : j < i2.toArray.size), SeqAt.EqAt X.A.in1 s i1.toArray[j] i2.toArray[j] ((fun _ => true) j) := fun j h1 h2 => by
      have hjd : j < ds.length := by simp at h1; omega
      obtain ⟨x1, e1, q1⟩ := ta.get (List.getElem?_eq_getElem hjd)
      obtain ⟨y1, e2, q2⟩ := tc.get (List.getElem?_eq_getElem hjd)
      have k := dqs_mem (List.getElem_mem hjd)
      exact rk_eq I 60 (A := X.A.in1) (by omega) q1 q2 (item_k r1 e1 h1) (item_k r2 e2 h2) (by show X.A.units + 1 + 60 < cLine; omega)
    have e : (List.range i1.toArray.size).all (fun _ => true) = true := by simp
    have k1 := SeqAt.RcAt.lists (A := X.A) (s := s) p1.isList p2.isList (by simp; omega) (by omega) it
    have k2 := SeqAt.RcNeAt.lists (A := X.A) (s := s) p1.isList p2.isList (by simp; omega) (by omega) it
    rw [e] at k1 k2
    exact ⟨k1, k2⟩
  | @lens a c vs ws ha hc hl =>
    cases rx; cases ry
    obtain ⟨i1, r1, p1, z1⟩ := I.list ha
    obtain ⟨i2, r2, p2, z2⟩ := I.list hc
    have l1 := r1.length
    have l2 := r2.length
    exact ⟨SeqAt.RcAt.lists_lengths p1.isList p2.isList (by simp; omega) (by omega), SeqAt.RcNeAt.lists_lengths p1.isList p2.isList (by simp; omega) (by omega)⟩
  | @data x y ds hx hy hd =>
    obtain ⟨a, vs, e1, ha, ta⟩ := (show ∃ a vs, x = .ref a ∧ Tp X.K H a vs ∧ RKs X.K H ds vs by rw [RK] at hx; exact hx)
    obtain ⟨c, ws, e2, hc, tc⟩ := (show ∃ a vs, y = .ref a ∧ Tp X.K H a vs ∧ RKs X.K H ds vs by rw [RK] at hy; exact hy)
    subst e1 e2
    cases rx; cases ry
    obtain ⟨i1, r1, p1, z1⟩ := I.tuple ha.sq
    obtain ⟨i2, r2, p2, z2⟩ := I.tuple hc.sq
    have l1 := r1.length
    have l2 := r2.length
    have l3 := ta.length
    have l4 := tc.length
    have it : ∀ j (h1 : j < i1.toArray.size) (h2 : j < i2.toArray.size), SeqAt.EqAt X.A.in1 s i1.toArray[j] i2.toArray[j] ((fun _ => true) j) := fun j h1 h2 => by
      have hjd : j < ds.length := by simp at h1; omega
      obtain ⟨x1, e1, q1⟩ := ta.get (List.getElem?_eq_getElem hjd)
      obtain ⟨y1, e2, q2⟩ := tc.get (List.getElem?_eq_getElem hjd)
      have k := dqs_mem (List.getElem_mem hjd)
      exact rk_eq I 60 (A := X.A.in1) (by omega) q1 q2 (item_k r1 e1 h1) (item_k r2 e2 h2) (by show X.A.units + 1 + 60 < cLine; omega)
    have e : ((List.range (min i1.toArray.size i2.toArray.size)).all (fun _ => true) && i1.toArray.size == i2.toArray.size) = true := by
      simp; omega
    have k1 := SeqAt.RcAt.tuples (A := X.A) (s := s) p1 p2 (by omega) it
    have k2 := SeqAt.RcNeAt.tuples (A := X.A) (s := s) p1 p2 (by omega) it
    rw [e] at k1 k2
    exact ⟨k1, k2⟩
  | @heads a c h z r ha hc =>
    cases rx; cases ry
    obtain ⟨i1, r1, p1, z1⟩ := I.tuple ha
    obtain ⟨i2, r2, p2, z2⟩ := I.tuple hc
    have l1 := r1.length
    have l2 := r2.length
    have it : ∀ j (h1 : j < i1.toArray.size) (h2 : j < i2.toArray.size), SeqAt.EqAt X.A.in1 s i1.toArray[j] i2.toArray[j] ((fun _ => decide (h = z)) j) := fun j h1 h2 => by
      have hj : j = 0 := by simp at h2 l2; omega
      subst hj
      have k := eqAt_V (A := X.A.in1) (s := s) (item_k r1 (x := .str h) rfl h1) (item_k r2 (x := .str z) rfl h2) rfl rfl
      have e : eqV (.str h) (.str z) = decide (h = z) := by show (h == z) = _; by_cases q : h = z <;> simp [q]
      rw [e] at k
      exact k
    have e : ((List.range (min i1.toArray.size i2.toArray.size)).all (fun _ => decide (h = z)) && i1.toArray.size == i2.toArray.size) = (decide (h = z) && r.isEmpty) := by
      have m : min i1.toArray.size i2.toArray.size = 1 := by simp at l1 l2 ⊢; omega
      rw [m]
      simp at l1 l2
      cases r with
      | nil => simp at l1; simp [← l1, ← l2]
      | cons q r => simp at l1; simp [← l1, ← l2]
    have k1 := SeqAt.RcAt.tuples (A := X.A) (s := s) p1 p2 (by omega) it
    have k2 := SeqAt.RcNeAt.tuples (A := X.A) (s := s) p1 p2 (by omega) it
    rw [e] at k1 k2
    exact ⟨k1, k2⟩
noncomputable def rEqK (K : PySem.W.Frag) : R2 := fun x y H Q => (scal x y = true ∧ Q (.bl (decide (x = y))) H) ∨ ∃ b, EqK K H x y b ∧ Q (.bl b) H
noncomputable def rNeK (K : PySem.W.Frag) : R2 := fun x y H Q => (scal x y = true ∧ Q (.bl (!decide (x = y))) H) ∨ ∃ b, EqK K H x y b ∧ Q (.bl (!b)) H
theorem op_eqK {k : Nat} (hr : Room k X.A) : OpR X (compareOp .Eq) (rEqK X.K) := by
  intro pins s σ H x y v u Q I rx ry h
  rcases h with h | ⟨b, h, q⟩
  · exact op_eq pins s σ H x y v u Q I rx ry h
  · exact (eqk_ok hr I h rx ry).1 _ _ _ _ ⟨.bl b, H, I, rfl, q⟩
theorem op_neK {k : Nat} (hr : Room k X.A) : OpR X (compareOp .NotEq) (rNeK X.K) := by
  intro pins s σ H x y v u Q I rx ry h
  rcases h with h | ⟨b, h, q⟩
  · exact op_ne pins s σ H x y v u Q I rx ry h
  · exact (eqk_ok hr I h rx ry).2 _ _ _ _ ⟨.bl (!b), H, I, rfl, q⟩
end
end L2.Bk

end
section
set_option Elab.async false
set_option linter.all false
set_option maxRecDepth 100000
/-! t[lo:hi] of a tuple, the whole of it too. -/
namespace HT
open PySem PySem.Spec PyProof.Rows
section
variable {prog : Program} {w : World} {A : Around} {E : Value → Shared → Prop} {s : Shared}
theorem getItem_tuple_all {t sl : Addr} {items : Array Value} {vl vu : Value} {lo hi : Option Int} {Q : Value → Shared → Prop} (ht : IsTup s.heap t items) (hs : s.heap.IsSliceOf sl vl vu .none) (pl : IsPart vl lo) (pu : IsPart vu hi)
    (hw : sIx items.size 0 lo = 0 ∧ sIx items.size items.size hi = items.size) (h : Q (.ref t) s) : wpAny (model prog w) A (getItem (.ref t) (.ref sl)) Q E s := by
  obtain ⟨os, hos, hcs, hds⟩ := id hs
  have hTs : s.TypeIs (.ref sl) "slice" := ⟨os, hos, hcs⟩
  unfold getItem
  try with_reducible refine wpAny_holding ?_
  first | refine wpAny_bind (wpAny_pure ?_) | skip
  refine wpAny_bind (wpAny_sequenceKey ht.typeIs (by decide) ?_)
  refine wpAny_bind (wpAny_callSpecial?_slot (name := Str.ofString "__getitem__") ht.typeIs PyProof.Rows.slot_tuple_getitem
    (wpAny_call_entry PyProof.Rows.slot_tuple_getitem ht.typeIs entry_tuple_getitem ?_ (args_tuple_getitem _ _)))
  show wpAny _ _ (Builtin.Tuple.tupleItemsOf (.ref t) >>= _) _ _ s
  refine wpAny_bind (tupleItemsOf_ ht ?_)
  refine wpAny_bind (wpAny_typeOf hTs ?_)
  rw [if_pos (by decide)]
  refine wpAny_bind (sliceApplied_gen hs pl pu ?_)
  have hyes : (((sIx items.size 0 lo : Nat) : Int) == 0 && (1 : Int) == 1 && (sIx items.size items.size hi - sIx items.size 0 lo) == items.size) = true := by
    rw [hw.1, hw.2]
    simp
  show wpAny _ _ (if (((sIx items.size 0 lo : Nat) : Int) == 0 && (1 : Int) == 1 && (sIx items.size items.size hi - sIx items.size 0 lo) == items.size) = true then _ else _) _ _ s
  rw [if_pos hyes]
  show wpAny _ _ (Builtin.Tuple.tupleIsExact (.ref t) >>= _) _ _ s
  refine wpAny_bind ?_
  unfold Builtin.Tuple.tupleIsExact
  refine wpAny_bind (wpAny_typeOf ht.typeIs (wpAny_pure ?_))
  rw [if_pos (by decide)]
  refine wpAny_bind (wpAny_rule ?_)
  first
    | exact wpAny_pure ⟨_, rfl, wpAny_pure h⟩
    | exact wpAny_bind (wpAny_pure (wpAny_pure ⟨_, rfl, wpAny_pure h⟩))
    | exact wpAny_bind (wpAny_bind (wpAny_pure (wpAny_pure ⟨_, rfl, wpAny_pure h⟩)))
end
end HT
namespace L2.Bk
open PySem PySem.Spec PyProof.Rows L2.Bw
section
variable {X : Cx}
/-- t[lo:hi], the whole of it: t itself -/
noncomputable def rSlW (K : PySem.W.Frag) : V → Option Int → Option Int → Hp → VK → Prop := fun x lo hi H Q => ∃ a xs, x = .ref a ∧ SqT K H a xs ∧ (HT.sIx xs.length 0 lo = 0 ∧ HT.sIx xs.length xs.length hi = xs.length) ∧ Q (.ref a) H
theorem sl_tupW : SlR X (rSlW X.K) := by
  intro pins s σ H x v vl vu lo hi sl Q I rx hs pl pu h
  obtain ⟨a, xs, e, hx, hw, q⟩ := h
  subst e
  cases rx
  obtain ⟨its, r, ht, hz⟩ := I.tuple hx
  have hlen : its.toArray.size = xs.length := by rw [List.size_toArray]; exact r.length.symm
  refine ⟨"tuple", _, PyProof.Rows.slot_tuple_getitem.lookup, ht.typeIs, ?_⟩
  exact HT.getItem_tuple_all ht hs pl pu (by rw [hlen]; exact hw) ⟨.ref a, H, I, rfl, q⟩
/-- a slice of a list, of a tuple -/
noncomputable def rSlK (K : PySem.W.Frag) : V → Option Int → Option Int → Hp → VK → Prop := fun x lo hi H Q => rSlL K x lo hi H Q ∨ rSlT K x lo hi H Q ∨ rSlW K x lo hi H Q
theorem sl_k : SlR X (rSlK X.K) := sl_list.or (sl_tup.or sl_tupW)
/-- t[1:] -/
theorem sl_tail {K : PySem.W.Frag} {H : Hp} {a : Addr} {h : V} {r : List V} {Q : VK} (ha : SqT K H a (h :: r)) (q : ∀ p, H p = none → Q (.ref p) (upd H p (.tup r))) : rSlK K (.ref a) (some 1) none H Q := by
  refine .inr (.inl ⟨a, _, rfl, ha, ?_, fun p hp => ?_⟩)
  · intro z
    have e : HT.sIx (h :: r).length 0 (some 1) = 1 := by
      show _ = _
      simp [HT.sIx]
    omega
  · have k := q p hp
    have e : cutV (h :: r) (some 1) none = r := by
      unfold cutV
      have e : HT.sIx (h :: r).length 0 (some 1) = 1 := by simp [HT.sIx]
      have e2 : HT.sIx (h :: r).length (h :: r).length none = (h :: r).length := by simp [HT.sIx]
      rw [e, e2]
      simp
    rw [e]
    exact k
end
end L2.Bk

end
section
set_option Elab.async false
set_option linter.all false
set_option maxRecDepth 100000
namespace L2.Bw
open PySem PySem.Spec PyProof.Rows
/-- what a turn of a comprehension hands on -/
noncomputable def Nx (n : Nat) (Pv : Nat → St → Hp → Prop) (i : Nat) (σ : St) (H : Hp) : Prop := ∃ m', m' < n - i ∧ (m' = n - (i + 1) ∧ i + 1 ≤ n ∧ Pv (i + 1) σ H)
theorem nx {n i : Nat} {Pv : Nat → St → Hp → Prop} {σ : St} {H : Hp} (h : i < n) (p : Pv (i + 1) σ H) : Nx n Pv i σ H := ⟨n - (i + 1), by omega, rfl, by omega, p⟩
theorem lc_by {J : It} {g : TG} {tt : TT} {te : TE} {D : Addr} {Qe : Hp → Prop} {σ : St} {H : Hp} {n : Nat} (Pv : Nat → St → Hp → Prop) (h0 : Pv 0 σ H) (hgo : ∀ i σ H, i < n → Pv i σ H → J.go i H) (hstop : ∀ σ H, Pv n σ H → J.stop n H)
    (hs : ∀ i σ H, i < n → Pv i σ H → ∀ x H', J.yld i H x H' → g x σ H' fun σ2 H2 => tt σ2 H2 fun b H3 => if b = true then te σ2 H3 fun y H4 => ∃ ys, H4 D = some (.lst ys) ∧ ys.length < sizeLine ∧ Nx n Pv i σ2 (upd H4 D (.lst (ys ++ [y]))) else Nx n Pv i σ2 H3)
    (hd : ∀ σ H, Pv n σ H → Qe H) : ∃ W, (∃ m, W 0 m σ H) ∧ TurnW J g tt te D W Qe := by
  refine ⟨fun i m σ H => m = n - i ∧ i ≤ n ∧ Pv i σ H, ⟨n, by simp, Nat.zero_le _, h0⟩, ?_⟩
  rintro i m σ H ⟨rfl, hi, p⟩
  by_cases hlt : i < n
  · exact .inr ⟨hgo i σ H hlt p, fun x H' y => hs i σ H hlt p x H' y⟩
  · have e : i = n := by omega
    subst e
    exact .inl ⟨hstop σ H p, hd σ H p⟩
theorem lc_by0 {J : It} {g : TG} {te : TE} {D : Addr} {Qe : Hp → Prop} {σ : St} {H : Hp} {n : Nat} (Pv : Nat → St → Hp → Prop) (h0 : Pv 0 σ H) (hgo : ∀ i σ H, i < n → Pv i σ H → J.go i H) (hstop : ∀ σ H, Pv n σ H → J.stop n H)
    (hs : ∀ i σ H, i < n → Pv i σ H → ∀ x H', J.yld i H x H' → g x σ H' fun σ2 H2 => te σ2 H2 fun y H4 => ∃ ys, H4 D = some (.lst ys) ∧ ys.length < sizeLine ∧ Nx n Pv i σ2 (upd H4 D (.lst (ys ++ [y]))))
    (hd : ∀ σ H, Pv n σ H → Qe H) : ∃ W, (∃ m, W 0 m σ H) ∧ TurnW J g tYes te D W Qe := by
  refine lc_by Pv h0 hgo hstop (fun i σ H hi p x H' y => ?_) hd
  exact cast (congrArg (g x σ H') (funext fun a => funext fun b => by unfold tYes; exact (if_pos rfl).symm)) (hs i σ H hi p x H' y)
theorem inV_strs (x : Str) (ss : List Str) : inV (.str x) (ss.map V.str) = decide (x ∈ ss) := by
  unfold inV
  induction ss with
  | nil => rfl
  | cons y r ih =>
    rw [List.map_cons, List.any_cons, ih]
    have e : eqV (.str y) (.str x) = decide (x = y) := by
      show (y == x) = _
      by_cases q : x = y
      · subst q; simp
      · have q' : ¬ y = x := fun z => q z.symm
        simp [q, q']
    rw [e]
    by_cases q : x = y <;> simp [q]
theorem flat_strs : ∀ ss : List Str, (ss.map V.str).all flatV = true
  | [] => rfl
  | _ :: r => by rw [List.map_cons, List.all_cons, flat_strs r]; rfl
end L2.Bw
namespace L2.Bk
open PySem PySem.Spec PyProof.Rows L2.Bw
theorem small {n : Nat} (h : n ≤ 1000) : n ≤ sizeLine := Nat.le_of_lt (small1000 h)
theorem smallM {n : Nat} (h : n ≤ 1000000) : n < sizeLine := Nat.lt_of_le_of_lt h (by decide)
theorem atI_in {α : Type} {xs : List α} {i : Int} (h0 : 0 ≤ i) (h1 : i < (xs.length : Int)) : ∃ c, atI xs i = some c ∧ c ∈ xs := by
  have hk : i.toNat < xs.length := by omega
  have z : atI xs ((i.toNat : Nat) : Int) = some xs[i.toNat] := atI_nat (List.getElem?_eq_getElem hk)
  rw [show ((i.toNat : Nat) : Int) = i by omega] at z
  exact ⟨_, z, List.getElem_mem hk⟩
theorem atI_strs {ss : List Str} {i : Int} (h0 : 0 ≤ i) (h1 : i < (ss.length : Int)) : ∃ c, atI (ss.map V.str) i = some (.str c) ∧ c ∈ ss := by
  obtain ⟨c, e, hc⟩ := atI_in (xs := ss.map V.str) h0 (by rw [List.length_map]; exact h1)
  obtain ⟨y, hy, rfl⟩ := List.mem_map.mp hc
  exact ⟨y, e, hy⟩
theorem dec_s {x y : Str} : decide (V.str x = V.str y) = decide (x = y) := by
  by_cases h : x = y
  · subst h; simp
  · have : ¬ V.str x = V.str y := fun q => h (by cases q; rfl)
    simp [h, this]
theorem take_snoc {α : Type} {ps : List α} {i : Nat} (h : i < ps.length) : ps.take (i + 1) = ps.take i ++ [ps[i]] := by
  rw [List.take_add_one, List.getElem?_eq_getElem h]; rfl
theorem for_by {J : It} {g : TG} {tb : TS} {D : Ends} {σ : St} {H : Hp} {n : Nat} (Pv : Nat → St → Hp → Prop) (h0 : Pv 0 σ H) (hgo : ∀ i σ H, i < n → Pv i σ H → J.go i H) (hstop : ∀ σ H, Pv n σ H → J.stop n H)
    (hs : ∀ i σ H, i < n → Pv i σ H → ∀ x H', J.yld i H x H' → g x σ H' fun σ2 H2 => tb { D with nx := Pv (i + 1), ct := Pv (i + 1), bk := D.nx } σ2 H2) (hd : ∀ σ H, Pv n σ H → D.nx σ H) :
    ∃ W : Nat → Nat → St → Hp → Prop, (∃ m, W 0 m σ H) ∧ ∀ i m σ H, W i m σ H →
      (J.stop i H ∧ D.nx σ H) ∨ (J.go i H ∧ ∃ N : St → Hp → Prop, (∀ σ' H', N σ' H' → ∃ m', m' < m ∧ W (i + 1) m' σ' H') ∧ ∀ x H', J.yld i H x H' → g x σ H' fun σ2 H2 => tb { D with nx := N, ct := N, bk := D.nx } σ2 H2) := by
  refine ⟨fun i m σ H => m = n - i ∧ i ≤ n ∧ Pv i σ H, ⟨n, by simp, Nat.zero_le _, h0⟩, ?_⟩
  rintro i m σ H ⟨rfl, hi, p⟩
  by_cases hlt : i < n
  · exact .inr ⟨hgo i σ H hlt p, Pv (i + 1), fun σ' H' p' => ⟨n - (i + 1), by omega, rfl, hlt, p'⟩, fun x H' y => hs i σ H hlt p x H' y⟩
  · have e : i = n := by omega
    subst e
    exact .inl ⟨hstop σ H p, hd σ H p⟩
theorem ixN_nat {n j : Nat} (h : j < n) : ixN n (j : Int) = some j := by
  unfold ixN
  rw [if_pos (by omega), if_pos (by omega)]
  simp
noncomputable abbrev Old (H H' : Hp) : Prop := ∀ b o, H b = some o → H' b = some o
theorem Old.gr {H H' : Hp} (h : Old H H') : Gr M0 H H' := fun b o e _ => h b o e
theorem Old.tm {H H' : Hp} (h : Old H H') : Tm H H' := fun a xs e => h a _ e
theorem Old.refl (H : Hp) : Old H H := fun _ _ h => h
theorem Old.free {H H' : Hp} (o : Old H H') {a : Addr} (h : H' a = none) : H a = none := by
  cases q : H a with
  | none => rfl
  | some x => rw [o a x q] at h; cases h
theorem Old.trans {H H1 H2 : Hp} (a : Old H H1) (b : Old H1 H2) : Old H H2 := fun c o h => b c o (a c o h)
theorem Old.new {H : Hp} {p : Addr} {o : HO} (h : H p = none) : Old H (upd H p o) := fun b u e => by rw [upd_ne (ne_of_none e h)]; exact e
theorem Old.gm {H H' : Hp} {M : Addr → Prop} (h : Old H H') : Gr M H H' := fun b o e _ => h b o e
theorem RK.get {K : PySem.W.Frag} {H : Hp} {ds : List Dk} {v : V} (h : RK K H (.tup ds) v) : ∃ a vs, v = .ref a ∧ Tp K H a vs ∧ RKs K H ds vs := by rw [RK] at h; exact h
theorem RK.str {K : PySem.W.Frag} {H : Hp} {x : Str} {v : V} (h : RK K H (.str x) v) : v = .str x := by rw [RK] at h; exact h
theorem RK.kind {K : PySem.W.Frag} {H : Hp} {x : Str} {ds : List Dk} {v : V} (h : RK K H (.tup (.str x :: ds)) v) : ∃ a vs, v = .ref a ∧ Tp K H a (.str x :: vs) ∧ RKs K H ds vs := by
  obtain ⟨a, us, rfl, ha, u, r, rfl, hu, hr⟩ := RK.get h
  cases RK.str hu
  exact ⟨a, r, rfl, ha, hr⟩
/-- one more tuple laid behind a tuple -/
theorem cat_k {K : PySem.W.Frag} {H : Hp} {a b : Addr} {xs ys : List V} {ds es : List Dk} {Q : VK} (ha : Tp K H a xs) (hb : Tp K H b ys) (ra : RKs K H ds xs) (rb : RKs K H es ys) (ne : xs ≠ []) (hz : xs.length + ys.length ≤ 1000)
    (q : ∀ (c : Addr) (H' : Hp), Old H H' → RK K H' (.tup (ds ++ es)) (.ref c) → Q (.ref c) H') : rCatT K (.ref a) (.ref b) H Q := by
  refine ⟨a, b, xs, ys, rfl, rfl, ha.sq, hb.sq, ne, small hz, fun e => ?_, fun e p hp => ?_⟩
  · subst e
    cases (show es = [] from List.length_eq_zero_iff.mp rb.length)
    exact q a H (Old.refl _) (by rw [List.append_nil]; exact RK.tup ha ra)
  · have g : Old H (upd H p (.tup (xs ++ ys))) := Old.new hp
    exact q p _ g (RK.tup (.of upd_same) ((ra.append rb).mono g.tm))
theorem pe_gref {X : Cx} {x : Str} {a : Addr} {pos : Pos} (hg : Gl X x) (hm : X.mg x = some (.ref a)) (hd : (x == ("__debug__" : Str)) = false := by decide) : PE X (.Name x pos) (tC (.ref a)) := pe_glob hg hm (show RelV (.ref a) (.ref a) from rfl) hd
/-! ### kinds -/
inductive Kn where
  | mk (h : Str) (ks : List Kn)
mutual
noncomputable def Kn.d : Kn → Dk
  | .mk h ks => .tup (.str h :: Kn.ds ks)
noncomputable def Kn.ds : List Kn → List Dk
  | [] => []
  | t :: r => t.d :: Kn.ds r
end
mutual
noncomputable def Kn.dep : Kn → Nat
  | .mk _ ks => 1 + Kn.deps ks
noncomputable def Kn.deps : List Kn → Nat
  | [] => 0
  | t :: r => max t.dep (Kn.deps r)
end
mutual
noncomputable def Kn.ok : Kn → Prop
  | .mk _ ks => ks.length ≤ 2 ∧ Kn.oks ks
noncomputable def Kn.oks : List Kn → Prop
  | [] => True
  | t :: r => t.ok ∧ Kn.oks r
end
theorem ds_length : ∀ (ks : List Kn), (Kn.ds ks).length = ks.length
  | [] => rfl
  | _ :: r => by show (Kn.ds r).length + 1 = r.length + 1; rw [ds_length r]
theorem ds_get : ∀ {ks : List Kn} {i : Nat} (h : i < ks.length), (Kn.ds ks)[i]? = some ks[i].d
  | _ :: _, 0, _ => rfl
  | _ :: r, i + 1, h => by
    show (Kn.ds r)[i]? = _
    exact ds_get (ks := r) (by simpa using h)
theorem ds_append : ∀ (ks ls : List Kn), Kn.ds (ks ++ ls) = Kn.ds ks ++ Kn.ds ls
  | [], _ => rfl
  | t :: r, ls => by show t.d :: Kn.ds (r ++ ls) = t.d :: (Kn.ds r ++ Kn.ds ls); rw [ds_append r ls]
theorem oks_get : ∀ {ks : List Kn} {i : Nat} (h : i < ks.length), Kn.oks ks → ks[i].ok
  | _ :: _, 0, _, q => q.1
  | _ :: r, i + 1, h, q => oks_get (ks := r) (by simpa using h) q.2
theorem deps_get : ∀ {ks : List Kn} {i : Nat} (h : i < ks.length), ks[i].dep ≤ Kn.deps ks
  | _ :: _, 0, _ => Nat.le_max_left _ _
  | _ :: r, i + 1, h => Nat.le_trans (deps_get (ks := r) (by simpa using h)) (Nat.le_max_right _ _)
mutual
theorem dq_d : ∀ (t : Kn), t.d.dq = t.dep
  | .mk h ks => by
    show (Dk.tup (.str h :: Kn.ds ks)).dq = 1 + Kn.deps ks
    rw [dq_tup, dqs_cons, dq_str, dq_ds ks]
    omega
theorem dq_ds : ∀ (ks : List Kn), dqs (Kn.ds ks) = Kn.deps ks
  | [] => by show dqs [] = 0; rw [dqs]
  | t :: r => by
    show dqs (t.d :: Kn.ds r) = max t.dep (Kn.deps r)
    rw [dqs_cons, dq_d t, dq_ds r]
end
end L2.Bk

end
section
set_option Elab.async false
set_option linter.all false
set_option maxRecDepth 100000
namespace L2.Bk
open PySem PySem.Spec PyProof.Rows L2.Bw
section
variable {K : PySem.W.Frag}
end
end L2.Bk

end
section
set_option Elab.async false
set_option linter.all false
set_option maxRecDepth 100000
namespace L2
open PySem PySem.Spec PyProof.Rows

/-! ### lists of pairs as tables -/
section
variable {κ : Type} [DecidableEq κ]
noncomputable def valV (kvs : List (κ × V)) (k : κ) : Option V := (kvs.find? fun kv => decide (kv.1 = k)).map (·.2)
/-- in its place, or at the end -/
noncomputable def putK (kvs : List (κ × V)) (k : κ) (v : V) : List (κ × V) :=
  if (kvs.any fun kv => decide (kv.1 = k)) = true then kvs.map (fun kv => if kv.1 = k then (kv.1, v) else kv) else kvs ++ [(k, v)]
noncomputable def dropK (kvs : List (κ × V)) (k : κ) : List (κ × V) := kvs.filter fun kv => decide (kv.1 ≠ k)

theorem valV_pos {p : κ × V} {r : List (κ × V)} {k : κ} (e : p.1 = k) : valV (p :: r) k = some p.2 := by simp [valV, List.find?_cons, e]
theorem valV_neg {p : κ × V} {r : List (κ × V)} {k : κ} (e : ¬ p.1 = k) : valV (p :: r) k = valV r k := by simp [valV, List.find?_cons, e]
theorem valV_any (k : κ) : ∀ kvs : List (κ × V), (kvs.any fun kv => decide (kv.1 = k)) = (valV kvs k).isSome
  | [] => rfl
  | p :: r => by
    rw [List.any_cons]
    by_cases e : p.1 = k
    · simp only [valV_pos e, decide_eq_true e, Bool.true_or, Option.isSome_some]
    · rw [valV_neg e, decide_eq_false e, Bool.false_or]; exact valV_any k r
theorem length_putK (kvs : List (κ × V)) (k : κ) (v : V) : (putK kvs k v).length ≤ kvs.length + 1 := by
  unfold putK
  split
  · rw [List.length_map]; omega
  · rw [List.length_append, List.length_cons, List.length_nil]; omega
theorem putK_new {kvs : List (κ × V)} {k : κ} (v : V) (h : valV kvs k = none) : putK kvs k v = kvs ++ [(k, v)] := by
  unfold putK
  rw [valV_any, h]
  exact if_neg (by decide)

theorem RelO.isSome_eq {o : Option V} {u : Option Value} (r : RelO o u) : o.isSome = u.isSome := by
  cases o with
  | none => cases u with
    | none => rfl
    | some _ => exact (show False from r).elim
  | some _ => cases u with
    | none => exact (show False from r).elim
    | some _ => rfl
theorem RelO.getD {o : Option V} {u : Option Value} {d : V} {d' : Value} (r : RelO o u) (rd : RelV d d') : RelV (o.getD d) (u.getD d') := by
  cases o with
  | none => cases u with
    | none => exact rd
    | some _ => exact (show False from r).elim
  | some _ => cases u with
    | none => exact (show False from r).elim
    | some _ => exact r

/-- raw tables of the same keys -/
theorem KV.val {kvs : List (κ × V)} {vs : List (κ × Value)} (r : KV kvs vs) (k : κ) : RelO (valV kvs k) (valueAt vs k) := by
  unfold KV at r
  induction r with
  | nil => exact True.intro
  | @cons p q ps qs h t ih =>
    obtain ⟨h1, h2⟩ := h
    by_cases e : p.1 = k
    · have e' : q.1 = k := h1.symm.trans e
      have b : valueAt (q :: qs) k = some q.2 := by simp [valueAt, List.find?_cons, e']
      rw [valV_pos e, b]; exact h2
    · have e' : ¬ q.1 = k := fun z => e (h1.trans z)
      have b : valueAt (q :: qs) k = valueAt qs k := by simp [valueAt, List.find?_cons, e']
      rw [valV_neg e, b]; exact ih
theorem KV.any {kvs : List (κ × V)} {vs : List (κ × Value)} (r : KV kvs vs) (k : κ) : (kvs.any fun kv => decide (kv.1 = k)) = vs.any fun kv => decide (kv.1 = k) := by
  unfold KV at r
  induction r with
  | nil => rfl
  | cons h t ih => rw [List.any_cons, List.any_cons, ih, h.1]
theorem KV.repl {kvs : List (κ × V)} {vs : List (κ × Value)} (r : KV kvs vs) (k : κ) {y : V} {u : Value} (ry : RelV y u) :
    KV (kvs.map fun kv => if kv.1 = k then (kv.1, y) else kv) (vs.map fun kv => if kv.1 = k then (kv.1, u) else kv) := by
  unfold KV at r ⊢
  induction r with
  | nil => exact .nil
  | @cons p q ps qs h t ih =>
    rw [List.map_cons, List.map_cons]
    refine .cons ?_ ih
    obtain ⟨h1, h2⟩ := h
    by_cases e : p.1 = k
    · rw [if_pos e, if_pos (h1.symm.trans e)]; exact ⟨h1, ry⟩
    · rw [if_neg e, if_neg (fun z => e (h1.trans z))]; exact ⟨h1, h2⟩
theorem KV.put {kvs : List (κ × V)} {vs : List (κ × Value)} (r : KV kvs vs) (k : κ) {y : V} {u : Value} (ry : RelV y u) : KV (putK kvs k y) (stored vs k u) := by
  unfold putK stored
  rw [r.any k]
  by_cases e : (vs.any fun kv => decide (kv.1 = k)) = true
  · rw [if_pos e, if_pos e]; exact r.repl k ry
  · rw [if_neg e, if_neg e]; exact Paired.snoc r ⟨rfl, ry⟩
theorem KV.length {kvs : List (κ × V)} {vs : List (κ × Value)} (r : KV kvs vs) : kvs.length = vs.length := Paired.length r
end


/-! ### a tracked dict, its keys ints and texts or tuples of these -/
theorem kV_is {P : Program} {w : World} {k : Key} {u : Value} (r : RelV (kV k) u) : (mixKind P w).is k u = true := by
  cases k with
  | inl i => obtain ⟨t, e⟩ := (show ∃ t, u = Value.int i t from r); subst e; exact mixKind_int P w i t
  | inr x => obtain ⟨t, e⟩ := (show ∃ t, u = Value.str x t from r); subst e; exact mixKind_str P w x t
theorem items_are {P : Program} {w : World} : ∀ {ks : List Key} {us : List Value}, Vals (ks.map kV) us → ItemsAre (mixKind P w) ks us
  | [], _, r => by rw [List.map_nil] at r; cases r; exact .nil
  | k :: ks, _, r => by
    rw [List.map_cons] at r
    cases r with
    | cons h t => exact .cons (kV_is h) (items_are t)

/-- raw entries of a dict with tuple keys -/
noncomputable abbrev KT (H : Hp) : List (List Key × V) → List (List Key × Addr × Value) → Prop := Paired fun p q => p.1 = q.1 ∧ H q.2.1 = some (.tup (p.1.map kV)) ∧ RelV p.2 q.2.2
theorem KT.val {H : Hp} {kvs : List (List Key × V)} {xs : List (List Key × Addr × Value)} (r : KT H kvs xs) (k : List Key) : RelO (valV kvs k) ((atKey xs k).map (·.2)) := by
  induction r with
  | nil => exact True.intro
  | @cons p q ps qs h t ih =>
    obtain ⟨h1, _, h2⟩ := h
    by_cases e : p.1 = k
    · have e' : q.1 = k := h1.symm.trans e
      have b : atKey (q :: qs) k = some q.2 := by simp [atKey, List.find?_cons, e']
      rw [valV_pos e, b]; exact h2
    · have e' : ¬ q.1 = k := fun z => e (h1.trans z)
      have b : atKey (q :: qs) k = atKey qs k := by simp [atKey, List.find?_cons, e']
      rw [valV_neg e, b]; exact ih
theorem KT.repl {H : Hp} {kvs : List (List Key × V)} {xs : List (List Key × Addr × Value)} (r : KT H kvs xs) (k : List Key) {y : V} {u : Value} (ry : RelV y u) :
    KT H (kvs.map fun kv => if kv.1 = k then (kv.1, y) else kv) (xs.map (putAt k u)) := by
  induction r with
  | nil => exact .nil
  | @cons p q ps qs h t ih =>
    rw [List.map_cons, List.map_cons]
    refine .cons ?_ ih
    obtain ⟨h1, h2, h3⟩ := h
    unfold putAt
    by_cases e : p.1 = k
    · rw [if_pos e, if_pos (h1.symm.trans e)]; exact ⟨h1, h2, ry⟩
    · rw [if_neg e, if_neg (fun z => e (h1.trans z))]; exact ⟨h1, h2, h3⟩
theorem KT.put {H : Hp} {kvs : List (List Key × V)} {xs : List (List Key × Addr × Value)} (r : KT H kvs xs) (k : List Key) {b : Addr} {y : V} {u : Value} (hb : H b = some (.tup (k.map kV))) (ry : RelV y u) :
    KT H (putK kvs k y) (storedH xs k b u) := by
  have e : (kvs.any fun kv => decide (kv.1 = k)) = (atKey xs k).isSome := by
    rw [valV_any, (r.val k).isSome_eq, Option.isSome_map]
  unfold putK storedH
  rw [e]
  by_cases q : (atKey xs k).isSome = true
  · rw [if_pos q, if_pos q]; exact r.repl k ry
  · rw [if_neg q, if_neg q]; exact Paired.snoc r ⟨rfl, hb, ry⟩
theorem KT.keeps {H H' : Hp} {kvs : List (List Key × V)} {xs : List (List Key × Addr × Value)} (r : KT H kvs xs) (ht : ∀ b ys, H b = some (.tup ys) → H' b = some (.tup ys)) : KT H' kvs xs :=
  Paired.mapP r fun _ _ z => ⟨z.1, ht _ _ z.2.1, z.2.2⟩

section
variable {P : Program} {w : World} {H : Hp} {h : Heap} {a : Addr}
theorem rd_of {u : HO} (ok : HOk P w H h) (e : Rd H a u) : ObjOk P w H h a u := e.ok ok
theorem dk_rd {kvs : List (Key × V)} (ok : HOk P w H h) (e : Rd H a (.dK kvs)) : kvs.length ≤ sizeLine ∧ (a == sysModules) = false ∧ ∃ vs, KV kvs vs ∧ h.DictOf (mixKind P w) a vs :=
  show ObjOk P w H h a (.dK kvs) from rd_of ok e
theorem dk_of {kvs : List (Key × V)} (ok : HOk P w H h) (e : H a = some (.dK kvs)) : kvs.length ≤ sizeLine ∧ (a == sysModules) = false ∧ ∃ vs, KV kvs vs ∧ h.DictOf (mixKind P w) a vs := dk_rd ok (.inl e)
/-- a tracked tuple of ints and texts is a key -/
theorem key_of {ks : List Key} (ok : HOk P w H h) (e : H a = some (.tup (ks.map kV))) : (tupleKind (mixKind P w)).is h ks a := by
  obtain ⟨_, its, r, o, h1, h2, n, h3⟩ := (show ObjOk P w H h a (.tup (ks.map kV)) from ok a _ e)
  exact ⟨o, its.toArray, n, h1, h2, h3, by simpa using items_are r⟩
theorem dt_rd {kvs : List (List Key × V)} (ok : HOk P w H h) (e : Rd H a (.dT kvs)) : kvs.length ≤ sizeLine ∧ (a == sysModules) = false ∧
    ∃ xs, KT H kvs xs ∧ h.DictOfH (tupleKind (mixKind P w)) a xs := by
  obtain ⟨z, y, xs, r, o, es, ep, h1, h2, h3, h4, h5⟩ := (show ObjOk P w H h a (.dT kvs) from rd_of ok e)
  refine ⟨z, y, xs, r, o, es, ep, h1, h2, h3, h4, fun x hx => ?_, h5⟩
  have all : ∀ {l : List (List Key × V)} {m : List (List Key × Addr × Value)}, KT H l m → ∀ x ∈ m, (tupleKind (mixKind P w)).is h x.1 x.2.1 := by
    intro l m q
    induction q with
    | nil => intro x hx; exact nomatch hx
    | @cons p q ps qs hq t ih =>
      intro x hx
      rcases List.mem_cons.mp hx with e | hx
      · subst e
        exact key_of ok (by rw [← hq.1]; exact hq.2.1)
      · exact ih x hx
  exact all r x hx
theorem dt_of {kvs : List (List Key × V)} (ok : HOk P w H h) (e : H a = some (.dT kvs)) : kvs.length ≤ sizeLine ∧ (a == sysModules) = false ∧
    ∃ xs, KT H kvs xs ∧ h.DictOfH (tupleKind (mixKind P w)) a xs := dt_rd ok (.inl e)
end

/-- what the dict at a holds at the key y -/
noncomputable def DGet (H : Hp) (a : Addr) (y : V) (r : Option V) : Prop :=
  (∃ kvs k, Rd H a (.dK kvs) ∧ y = kV k ∧ r = valV kvs k) ∨ ∃ kvs k b, Rd H a (.dT kvs) ∧ y = .ref b ∧ H b = some (.tup (k.map kV)) ∧ r = valV kvs k
/-- the heap behind a[y] = v -/
noncomputable def DPut (H : Hp) (a : Addr) (y v : V) (H' : Hp) : Prop :=
  (∃ kvs k, H a = some (.dK kvs) ∧ y = kV k ∧ kvs.length < sizeLine ∧ H' = upd H a (.dK (putK kvs k v))) ∨
  ∃ kvs k b, H a = some (.dT kvs) ∧ y = .ref b ∧ H b = some (.tup (k.map kV)) ∧ kvs.length < sizeLine ∧ H' = upd H a (.dT (putK kvs k v))
theorem DGet.k {H : Hp} {a : Addr} {kvs : List (Key × V)} {k : Key} (e : H a = some (.dK kvs)) : DGet H a (kV k) (valV kvs k) := .inl ⟨kvs, k, .inl e, rfl, rfl⟩
theorem DPut.k {H : Hp} {a : Addr} {kvs : List (Key × V)} {k : Key} {v : V} (e : H a = some (.dK kvs)) (hl : kvs.length < sizeLine) : DPut H a (kV k) v (upd H a (.dK (putK kvs k v))) := .inl ⟨kvs, k, e, rfl, hl, rfl⟩
section
variable {X : Cx} {pins : List (Addr × Obj)} {σ : St} {H : Hp} {s : Shared} {a : Addr} {y v : V} {u r : Value} {o : Option V} {A : Around} {E : Value → Shared → Prop}

theorem Inv.big (I : Inv X pins σ H s) : sysModules < s.heap.objs.size := by
  have h : mainGlobals < s.heap.objs.size := (I.mod.glob.keeps I.bk).lt
  exact Nat.lt_trans (by decide) h

/-- y in d -/
theorem d_in {Q : Value → Shared → Prop} (hu : A.units + 1 < cLine) (I : Inv X pins σ H s) (g : DGet H a y o) (ry : RelV y u) (h : ∀ s', Inv X pins σ H s' → Q (.bool o.isSome) s') :
    wpAny (model X.prog X.w) A (compareOp .In u (.ref a)) Q E s := by
  rcases g with ⟨kvs, k, e, ey, l⟩ | ⟨kvs, k, b, e, ey, eb, l⟩
  · subst ey
    obtain ⟨z, hd, vs, rel, dd⟩ := dk_rd I.hok e
    refine wpAny_in_of (kV_is ry) hd dd.mapOf ?_
    rw [← (rel.val k).isSome_eq, ← l]
    exact h _ (I.tok _)
  · subst ey
    cases (show u = Value.ref b from ry)
    obtain ⟨z, hd, xs, rel, dd⟩ := dt_rd I.hok e
    refine wpAny_in_heap (tupleKind_room_in1 hu) (key_of I.hok eb) hd dd ?_
    have q := (rel.val k).isSome_eq
    rw [Option.isSome_map] at q
    rw [← q, ← l]
    exact h _ (I.tok _)
theorem d_notIn {Q : Value → Shared → Prop} (hu : A.units + 1 < cLine) (I : Inv X pins σ H s) (g : DGet H a y o) (ry : RelV y u) (h : ∀ s', Inv X pins σ H s' → Q (.bool (!o.isSome)) s') :
    wpAny (model X.prog X.w) A (compareOp .NotIn u (.ref a)) Q E s := by
  rcases g with ⟨kvs, k, e, ey, l⟩ | ⟨kvs, k, b, e, ey, eb, l⟩
  · subst ey
    obtain ⟨z, hd, vs, rel, dd⟩ := dk_rd I.hok e
    refine wpAny_notIn_of (kV_is ry) hd dd.mapOf ?_
    rw [← (rel.val k).isSome_eq, ← l]
    exact h _ (I.tok _)
  · subst ey
    cases (show u = Value.ref b from ry)
    obtain ⟨z, hd, xs, rel, dd⟩ := dt_rd I.hok e
    refine wpAny_notIn_heap (tupleKind_room_in1 hu) (key_of I.hok eb) hd dd ?_
    have q := (rel.val k).isSome_eq
    rw [Option.isSome_map] at q
    rw [← q, ← l]
    exact h _ (I.tok _)
/-- a dict's object is replaced -/
theorem d_write {h' : Heap} {t' : Nat} {ob : HO} (I : Inv X pins σ H s) (mu : Mut (H a)) (hs : Heap.SameBut a s.heap h') (he : ∃ q, h'.get? a = some q) (new : ObjOk X.prog X.w (upd H a ob) h' a ob) :
    Inv X pins σ (upd H a ob) { s with heap := h', toks := t' } :=
  I.write (x := a) (e := a) mu (.inl rfl) (fun b q hb z => (hs.2 b hb).trans z) he new
theorem dk_new {P : Program} {w : World} {H' : Hp} {h' : Heap} {kvs : List (Key × V)} {vs : List (Key × Value)} (z : kvs.length ≤ sizeLine) (hd : (a == sysModules) = false) (rel : KV kvs vs) (dd : h'.DictOf (mixKind P w) a vs) :
    ObjOk P w H' h' a (.dK kvs) := ⟨z, hd, vs, rel, dd⟩
/-- d[y] = v -/
theorem d_setItem {H' : Hp} {Q : Unit → Shared → Prop} (hu : A.units + 1 < cLine) (I : Inv X pins σ H s) (g : DPut H a y v H') (ry : RelV y u) (rv : RelV v r) (h : ∀ s', Inv X pins σ H' s' → Q () s') :
    wpAny (model X.prog X.w) A (setItem (.ref a) u r) Q E s := by
  rcases g with ⟨kvs, k, e, ey, l, eH⟩ | ⟨kvs, k, b, e, ey, eb, l, eH⟩
  · subst ey eH
    obtain ⟨z, hd, vs, rel, dd⟩ := dk_of I.hok e
    have hz : vs.length ≤ sizeLine := by rw [← rel.length]; exact z
    have hl : (putK kvs k v).length ≤ sizeLine := by have := length_putK kvs k v; omega
    refine wpAny_setItem_pairs (hsz := hz) (kV_is ry) dd fun h' dd' hs => h _ ?_
    have he : ∃ q, h'.get? a = some q := let ⟨q, _, _, hq, _⟩ := dd'; ⟨q, hq⟩
    exact d_write I (by rw [e]; exact True.intro) hs he (dk_new hl hd (rel.put k rv) dd')
  · subst ey eH
    cases (show u = Value.ref b from ry)
    obtain ⟨z, hd, xs, rel, dd⟩ := dt_of I.hok e
    have hz : xs.length ≤ sizeLine := by rw [← Paired.length rel]; exact z
    have hl : (putK kvs k v).length ≤ sizeLine := by have := length_putK kvs k v; omega
    refine wpAny_setItem_heap (hsz := hz) (tupleKind_room_in1 hu) (key_of I.hok eb) dd fun h' dd' hs => h _ ?_
    obtain ⟨q, es, ep, hq, h2, h3, h4, _, h5⟩ := dd'
    refine d_write I (by rw [e]; exact True.intro) hs ⟨q, hq⟩ ⟨hl, hd, _, (rel.put k eb rv).keeps fun c ys ec => ?_, q, es, ep, hq, h2, h3, h4, h5⟩
    rw [upd_ne (ne_of ec e (fun z => nomatch z))]
    exact ec
end

section
variable {X : Cx} {pins : List (Addr × Obj)} {σ : St} {H : Hp} {s : Shared} {a : Addr} {kvs : List (Key × V)} {k : Key} {u : Value} {A : Around} {E : Value → Shared → Prop}
end


/-! ### readings and rules -/
/-- y in d, y not in d -/
noncomputable def tDIn (ty td : TE) : TE := fun σ H Q => ty σ H fun y H1 => td σ H1 fun x H2 => ∃ a o, x = .ref a ∧ DGet H2 a y o ∧ Q (.bl o.isSome) H2
noncomputable def tDNotIn (ty td : TE) : TE := fun σ H Q => ty σ H fun y H1 => td σ H1 fun x H2 => ∃ a o, x = .ref a ∧ DGet H2 a y o ∧ Q (.bl (!o.isSome)) H2
/-- d[y] = v -/
noncomputable def sDPut (td ty tv : TE) : TS := fun D σ H => tv σ H fun v H1 => td σ H1 fun x H2 => ty σ H2 fun y H3 => ∃ a H4, x = .ref a ∧ DPut H3 a y v H4 ∧ D.nx σ H4
section
variable {X : Cx} {o i e value : Expr} {pos pos' tpos : Pos} {td ty tv : TE}
theorem pc_din (hu : X.A.units + 1 < cLine) (hi : PE X i ty) (ho : PE X o td) : PC X .In i o (tDIn ty td) := by
  intro pins s σ H Q I h
  refine thn (hi pins s σ H _ I h) fun iv s1 ⟨y, H1, I1, ry, q1⟩ => thn (ho pins s1 σ H1 _ I1 q1) fun u s2 ⟨x, H2, I2, rx, a, ov, ex, g, q2⟩ => ?_
  subst ex
  obtain rfl : u = Value.ref a := rx
  exact d_in hu I2 g ry fun s3 I3 => ⟨.bl ov.isSome, H2, I3, rfl, q2⟩
theorem pc_dnotin (hu : X.A.units + 1 < cLine) (hi : PE X i ty) (ho : PE X o td) : PC X .NotIn i o (tDNotIn ty td) := by
  intro pins s σ H Q I h
  refine thn (hi pins s σ H _ I h) fun iv s1 ⟨y, H1, I1, ry, q1⟩ => thn (ho pins s1 σ H1 _ I1 q1) fun u s2 ⟨x, H2, I2, rx, a, ov, ex, g, q2⟩ => ?_
  subst ex
  obtain rfl : u = Value.ref a := rx
  exact d_notIn hu I2 g ry fun s3 I3 => ⟨.bl (!ov.isSome), H2, I3, rfl, q2⟩
theorem ps_dput (hu : X.A.units + 1 < cLine) (ho : PE X o td) (hi : PE X i ty) (hv : PE X value tv) (hs : swapsWith value (some (.Subscript o i pos')) pos.line X.env = pure false) :
    PS X (.Assign [.Subscript o i pos'] value pos) (sDPut td ty tv) := by
  intro pins s σ H D I h
  refine wpAny_Assign_Subscript (thn (hv pins s σ H _ I h) fun r s1 ⟨v, H1, I1, rv, q1⟩ => thn (ho pins s1 σ H1 _ I1 q1) fun u s2 ⟨x, H2, I2, rx, q2⟩ => thn (hi pins s2 σ H2 _ I2 q2) fun iv s3 ⟨y, H3, I3, ry, a, H4, ex, g, q3⟩ => ?_) hs
  subst ex
  obtain rfl : u = Value.ref a := rx
  exact d_setItem hu I3 g ry rv fun s4 I4 => ⟨σ, H4, I4, q3⟩
end


/-! ### displays -/
theorem dk_empty {P : Program} {w : World} {H : Hp} (h : Heap) (hb : sysModules < h.objs.size) : ObjOk P w H (h.push { cls := .type "dict", data := .dict #[] }) h.objs.size (.dK []) :=
  ⟨Nat.zero_le _, beq_eq_false_iff_ne.mpr (Ne.symm (Nat.ne_of_lt hb)), [], .nil, Heap.DictOf.new h⟩
/-- {}, to be a dict of the kind that is wanted -/
noncomputable def tDNewK : TE := fun _ H Q => ∀ p, H p = none → Q (.ref p) (upd H p (.dK []))
section
variable {X : Cx} {pos : Pos}
theorem pe_dnewK : PE X (.Dict [] [] pos) tDNewK := fun pins s σ H Q I h =>
  wpAny_Dict_empty ⟨.ref s.heap.objs.size, _, I.laid (a := s.heap.objs.size) (o := .dK []) (t' := s.toks) (fun _ _ q => Heap.get?_push_of_some _ q) (Nat.le_refl _) (dk_empty s.heap I.big), rfl, h _ (I.hok.fresh (Nat.le_refl _))⟩
end

/-- the pairs of a display, from the left -/
noncomputable def tPairs : List (TE × TE) → St → Hp → (List (V × V) → Hp → Prop) → Prop
  | [], _, H, Q => Q [] H
  | (tk, tv) :: r, σ, H, Q => tk σ H fun x H1 => tv σ H1 fun y H2 => tPairs r σ H2 fun ps H3 => Q ((x, y) :: ps) H3
noncomputable abbrev VV : List (V × V) → List (Value × Value) → Prop := Paired fun p q => RelV p.1 q.1 ∧ RelV p.2 q.2
noncomputable def PPs (X : Cx) (pos : Pos) (keys : List (Option Expr)) (values : List Expr) (trs : List (TE × TE)) : Prop :=
  ∀ (pins : List (Addr × Obj)) (s : Shared) (σ : St) (H : Hp) (Q : List (V × V) → Hp → Prop), Inv X pins σ H s → tPairs trs σ H Q →
    wpAny (model X.prog X.w) X.A (evalPairs (pairTrees keys values X.env pos)) (fun vs s' => ∃ ps H', Inv X pins σ H' s' ∧ VV ps vs ∧ Q ps H') X.xe s
theorem pps_nil {X : Cx} {pos : Pos} : PPs X pos [] [] [] := fun pins s σ H Q I h => pairTrees_nil_walk ⟨[], H, I, .nil, h⟩
theorem pps_cons {X : Cx} {pos : Pos} {k v : Expr} {ks : List (Option Expr)} {vs : List Expr} {tk tv : TE} {trs : List (TE × TE)} (hk : PE X k tk) (hv : PE X v tv) (hr : PPs X pos ks vs trs) :
    PPs X pos (some k :: ks) (v :: vs) ((tk, tv) :: trs) := fun pins s σ H Q I h =>
  pairTrees_cons_walk (thn (hk pins s σ H _ I h) fun u s1 ⟨x, H1, I1, rx, q1⟩ => thn (hv pins s1 σ H1 _ I1 q1) fun w2 s2 ⟨y, H2, I2, ry, q2⟩ =>
    thn (hr pins s2 σ H2 _ I2 q2) fun ws s3 ⟨ps, H3, I3, rel, q3⟩ => ⟨(x, y) :: ps, H3, I3, .cons ⟨rx, ry⟩ rel, q3⟩)

noncomputable def mergeK (kvs more : List (Key × V)) : List (Key × V) := more.foldl (fun acc kv => putK acc kv.1 kv.2) kvs
theorem KV.merge : ∀ {more : List (Key × V)} {rs : List (Key × Value)} {kvs : List (Key × V)} {vs : List (Key × Value)}, KV more rs → KV kvs vs → KV (mergeK kvs more) (merged vs rs) := by
  intro more rs kvs vs r
  unfold KV at r
  induction r generalizing kvs vs with
  | nil => intro q; exact q
  | @cons p q ps qs h t ih =>
    intro r0
    have e : KV (putK kvs p.1 p.2) (stored vs q.1 q.2) := by
      have := r0.put p.1 h.2
      rw [← h.1]; exact this
    exact ih e
theorem length_mergeK : ∀ (more kvs : List (Key × V)), (mergeK kvs more).length ≤ kvs.length + more.length
  | [], kvs => by show kvs.length ≤ kvs.length + 0; omega
  | p :: r, kvs => by
    have h1 := length_mergeK r (putK kvs p.1 p.2)
    have h2 := length_putK kvs p.1 p.2
    show (mergeK (putK kvs p.1 p.2) r).length ≤ _
    rw [List.length_cons]; omega
theorem carries_of {P : Program} {w : World} : ∀ {kvs : List (Key × V)} {ws : List (Value × Value)}, VV (kvs.map fun kv => (kV kv.1, kv.2)) ws → ∃ rs, Carries (mixKind P w) ws rs ∧ KV kvs rs
  | [], _, r => by rw [List.map_nil] at r; cases r; exact ⟨[], True.intro, .nil⟩
  | p :: kvs, _, r => by
    rw [List.map_cons] at r
    cases r with
    | @cons a b as bs h t =>
      obtain ⟨rs, c, q⟩ := carries_of (P := P) (w := w) t
      obtain ⟨b1, b2⟩ := b
      exact ⟨(p.1, b2) :: rs, ⟨kV_is h.1, rfl, c⟩, .cons ⟨rfl, h.2⟩ q⟩
/-- {k: v, ..} with keys ints and texts; the new dict stands empty while the pairs are made -/
noncomputable def tDisp (trs : List (TE × TE)) : TE := fun σ H Q => ∀ p, H p = none → tPairs trs σ (upd H p (.dK [])) fun ps H2 => H2 p = some (.dK []) ∧ ∃ kvs : List (Key × V), ps = kvs.map (fun kv => (kV kv.1, kv.2)) ∧ kvs.length ≤ 15 ∧ Q (.ref p) (upd H2 p (.dK (mergeK [] kvs)))
theorem pe_disp {X : Cx} {pos : Pos} {keys : List (Option Expr)} {values : List Expr} {trs : List (TE × TE)} (h : PPs X pos keys values trs) (hall : keys.all (·.isSome) = true) (hl : keys.length = values.length) (h0 : keys ≠ [])
    (h15 : keys.length ≤ 15) : PE X (.Dict keys values pos) (tDisp trs) := by
  intro pins s σ H Q I q
  have hn := I.hok.fresh (Nat.le_refl s.heap.objs.size)
  have I1 := I.laid (a := s.heap.objs.size) (o := .dK []) (h' := s.heap.push { cls := .type "dict", data := .dict #[] }) (t' := s.toks) (fun _ _ q => Heap.get?_push_of_some _ q) (Nat.le_refl _) (dk_empty s.heap I.big)
  refine wpAny_Dict_walk (knd := mixKind X.prog X.w) hall hl h0 h15 (thn (h pins _ σ _ _ I1 (q _ hn)) fun ws s2 ⟨ps, H2, I2, rel, e, kvs, ep, lk, q2⟩ => ?_)
  subst ep
  obtain ⟨rs, c, rk⟩ := carries_of (P := X.prog) (w := X.w) rel
  obtain ⟨z, hd, vs0, r0, dd⟩ := dk_of I2.hok e
  cases r0
  refine ⟨rs, c, dd, fun h' dd' hs => ⟨.ref s.heap.objs.size, _, ?_, rfl, q2⟩⟩
  have hz : (mergeK [] kvs).length ≤ sizeLine := by
    have h1 := length_mergeK kvs []
    rw [List.length_nil] at h1
    rw [sizeLine_eq]; omega
  have he : ∃ q, h'.get? s.heap.objs.size = some q := let ⟨q, _, _, hq, _⟩ := dd'; ⟨q, hq⟩
  exact d_write I2 (by rw [e]; exact True.intro) hs he (dk_new hz hd (rk.merge .nil) dd')


/-! ### methods -/
/-- a method call o.m(e) of a built-in, with one argument: what must be seen of the text -/
structure DM1 (X : Cx) (o : Expr) (m : Str) (apos : Pos) (e : Expr) (cpos : Pos) : Prop where
  base : attributeBase o m X.env (eval o X.env) = eval o X.env
  few : ((backTo cpos (starEach [e] X.env)).all (fun x => !x.1) && (backToKw cpos (keywordEach [] X.env)).all (fun x => x.1.isSome)
    && decide (([e] : List Expr).length + ([] : List Keyword).length + (if ([] : List Keyword).isEmpty then 0 else 1) < 30)) = true
  line : (apos.endLine == cpos.line) = true
  trees : backTo cpos (starEach [e] X.env) = [(false, eval e X.env)]
structure DM2 (X : Cx) (o : Expr) (m : Str) (apos : Pos) (e f : Expr) (cpos : Pos) : Prop where
  base : attributeBase o m X.env (eval o X.env) = eval o X.env
  few : ((backTo cpos (starEach [e, f] X.env)).all (fun x => !x.1) && (backToKw cpos (keywordEach [] X.env)).all (fun x => x.1.isSome)
    && decide (([e, f] : List Expr).length + ([] : List Keyword).length + (if ([] : List Keyword).isEmpty then 0 else 1) < 30)) = true
  line : (apos.endLine == cpos.line) = true
  trees : backTo cpos (starEach [e, f] X.env) = [(false, eval e X.env), (false, eval f X.env)]

/-- a is a dict, whatever its keys -/
noncomputable def IsD (H : Hp) (a : Addr) : Prop := (∃ kvs, Rd H a (.dK kvs)) ∨ ∃ kvs, Rd H a (.dT kvs)
theorem isD_at {X : Cx} {pins : List (Addr × Obj)} {σ : St} {H : Hp} {s : Shared} {a : Addr} (I : Inv X pins σ H s) (d : IsD H a) :
    s.TypeIs (.ref a) "dict" ∧ (∀ b, Value.ref a = .ref b → ∃ ob, s.heap.get? b = some ob ∧ ob.dict = none) ∧ (a == sysModules) = false := by
  rcases d with ⟨kvs, e⟩ | ⟨kvs, e⟩
  · obtain ⟨_, hd, vs, _, dd⟩ := dk_rd I.hok e
    refine ⟨dd.typeIs, fun b q => ?_, hd⟩
    cases q
    obtain ⟨ob, _, _, h1, h2, _⟩ := dd
    exact ⟨ob, h1, h2.2.1⟩
  · obtain ⟨_, hd, xs, _, dd⟩ := dt_rd I.hok e
    refine ⟨dd.typeIs, fun b q => ?_, hd⟩
    cases q
    obtain ⟨ob, _, _, h1, h2, _⟩ := dd
    exact ⟨ob, h1, h2.2.1⟩

section
variable {X : Cx} {pins : List (Addr × Obj)} {σ : St} {H : Hp} {s : Shared} {a : Addr} {y d : V} {u r : Value} {o : Option V} {A : Around} {E : Value → Shared → Prop}
/-- d.get(y, x) -/
theorem d_get2 {Q : Value → Shared → Prop} (hu : A.units + 1 < cLine) (I : Inv X pins σ H s) (g : DGet H a y o) (ry : RelV y u) (rd : RelV d r) (h : ∀ w' s', Inv X pins σ H s' → RelV (o.getD d) w' → Q w' s') :
    wpAny (model X.prog X.w) A (call (.builtin "dict.get") [.ref a, u, r]) Q E s := by
  rcases g with ⟨kvs, k, e, ey, l⟩ | ⟨kvs, k, b, e, ey, eb, l⟩
  · subst ey
    obtain ⟨z, hd, vs, rel, dd⟩ := dk_rd I.hok e
    refine call_meetsIn PySem.F.slot_dict_get dd.typeIs PySem.F.entry_dict_get (PySem.F.args_dict_get_3 _ _ _) (meets_dict_get_default (mixKind X.prog X.w) a (kV_is ry) hd r) ⟨_, dd.mapOf, h _ _ (I.tok _) ?_⟩
    rw [l]
    exact (rel.val k).getD rd
  · subst ey
    cases (show u = Value.ref b from ry)
    obtain ⟨z, hd, xs, rel, dd⟩ := dt_rd I.hok e
    refine call_meetsIn PySem.F.slot_dict_get dd.typeIs PySem.F.entry_dict_get (PySem.F.args_dict_get_3 _ _ _) (meetsH_dict_get_default (tupleKind (mixKind X.prog X.w)) a b hd r) ⟨tupleKind_room_in1 hu, k, xs, key_of I.hok eb, dd, h _ _ (I.tok _) ?_⟩
    rw [l]
    exact (rel.val k).getD rd
end

noncomputable def tDGet2 (td ty tx : TE) : TE := fun σ H Q => td σ H fun x H1 => ∃ a, x = .ref a ∧ IsD H1 a ∧ ty σ H1 fun y H2 => tx σ H2 fun z H3 => ∃ o, DGet H3 a y o ∧ Q (o.getD z) H3
section
variable {X : Cx} {o e f : Expr} {apos cpos : Pos} {td ty tx : TE}
theorem pe_dget2 (hu : X.A.units + 1 < cLine) (ho : PE X o td) (he : PE X e ty) (hf : PE X f tx) (m : DM2 X o "get" apos e f cpos) : PE X (.Call (.Attribute o "get" apos) [e, f] [] cpos) (tDGet2 td ty tx) := by
  intro pins s σ H Q I h
  refine wpAny_Call_method m.base m.few m.line PySem.F.plainAttrs_dict PySem.F.slot_dict_get PySem.F.type_dict_get (thn (ho pins s σ H _ I h) fun u s1 ⟨x, H1, I1, rx, a, ex, d, q1⟩ => ?_)
  subst ex
  obtain rfl : u = Value.ref a := rx
  obtain ⟨t1, t2, _⟩ := isD_at I1 d
  refine ⟨t1, t2, ?_⟩
  rw [m.trees]
  refine Calls.callWith_builtin rfl (Calls.evalArgs_plain (Calls.spliced_cons (thn (he pins s1 σ H1 _ I1 q1) fun iv s2 ⟨y, H2, I2, ry, q2⟩ =>
    Calls.spliced_cons (thn (hf pins s2 σ H2 _ I2 q2) fun fv s3 ⟨z, H3, I3, rz, ov, g, q3⟩ => Calls.spliced_nil ?_))))
  exact d_get2 hu I3 g ry rz fun w' s4 I4 rw' => ⟨_, H3, I4, rw', q3⟩
end

/-! ### dict(d): a copy -/
section
variable {X : Cx} {pins : List (Addr × Obj)} {σ : St} {H : Hp} {s : Shared} {a : Addr} {kvs : List (Key × V)} {A : Around} {E : Value → Shared → Prop}
end


section
variable {X : Cx} {pins : List (Addr × Obj)} {σ : St} {H : Hp} {s : Shared} {a : Addr} {y : V} {u : Value} {A : Around} {E : Value → Shared → Prop}
end
end L2

end
section
set_option Elab.async false
set_option linter.all false
set_option maxRecDepth 100000
/-! Kinds beside each other: join, paths, heads. -/
namespace L2.Bk
open PySem PySem.Spec PyProof.Rows L2.Bw
noncomputable def Kn.h : Kn → Str
  | .mk h _ => h
noncomputable def Kn.ks : Kn → List Kn
  | .mk _ ks => ks
/-- how many parts a head has -/
noncomputable def arity (h : Str) : Option Nat := if h = "whole" then some 0 else if h = "truth" then some 0 else if h = "?" then some 0 else if h = "row" then some 1 else if h = "to" then some 2 else if h = "pair" then some 2 else none
mutual
noncomputable def Kn.wf : Kn → Prop
  | .mk h ks => arity h = some ks.length ∧ Kn.wfs ks
noncomputable def Kn.wfs : List Kn → Prop
  | [] => True
  | t :: r => t.wf ∧ Kn.wfs r
end
theorem arity_le {h : Str} {n : Nat} (e : arity h = some n) : n ≤ 2 := by
  unfold arity at e
  repeat' split at e
  all_goals first | (cases e; omega) | cases e
theorem arity_q {n : Nat} (e : arity "?" = some n) : n = 0 := by
  have : arity "?" = some 0 := by decide +kernel
  rw [this] at e
  cases e
  rfl
mutual
theorem wf_ok : ∀ {t : Kn}, t.wf → t.ok
  | .mk _ _, ⟨e, hs⟩ => ⟨arity_le e, wfs_oks hs⟩
theorem wfs_oks : ∀ {ks : List Kn}, Kn.wfs ks → Kn.oks ks
  | [], _ => trivial
  | _ :: _, ⟨h, hs⟩ => ⟨wf_ok h, wfs_oks hs⟩
end
theorem wfs_get : ∀ {ks : List Kn} {i : Nat} (h : i < ks.length), Kn.wfs ks → ks[i].wf
  | _ :: _, 0, _, q => q.1
  | _ :: r, i + 1, h, q => wfs_get (ks := r) (by simpa using h) q.2
noncomputable def qK : Kn := .mk "?" []
mutual
noncomputable def Kn.join : Kn → Kn → Kn
  | .mk h ks, .mk g ls => if h = g then .mk h (Kn.joins ks ls) else qK
noncomputable def Kn.joins : List Kn → List Kn → List Kn
  | t :: r, u :: q => t.join u :: Kn.joins r q
  | [], _ => []
  | _ :: _, [] => []
end
theorem joins_length : ∀ (ks ls : List Kn), (Kn.joins ks ls).length = min ks.length ls.length
  | [], ls => by show 0 = _; simp
  | _ :: _, [] => by show 0 = _; simp
  | _ :: r, _ :: q => by show (Kn.joins r q).length + 1 = _; rw [joins_length r q]; simp
theorem joins_get : ∀ {ks ls : List Kn} {i : Nat} (h1 : i < ks.length) (h2 : i < ls.length), (Kn.joins ks ls)[i]? = some (ks[i].join ls[i])
  | _ :: _, _ :: _, 0, _, _ => rfl
  | _ :: r, _ :: q, i + 1, h1, h2 => by
    show (Kn.joins r q)[i]? = _
    exact joins_get (ks := r) (ls := q) (by simpa using h1) (by simpa using h2)
theorem joins_take : ∀ {ks ls : List Kn} {i : Nat} (h1 : i < ks.length) (h2 : i < ls.length), (Kn.joins ks ls).take (i + 1) = (Kn.joins ks ls).take i ++ [ks[i].join ls[i]] := fun {ks ls i} h1 h2 => by
  have hl : i < (Kn.joins ks ls).length := by rw [joins_length]; omega
  rw [take_snoc hl]
  have e := joins_get h1 h2
  rw [List.getElem?_eq_getElem hl] at e
  rw [Option.some.inj e]
theorem join_q (b : Kn) : qK.join b = qK := by
  obtain ⟨g, ls⟩ := b
  show (if ("?" : Str) = g then Kn.mk "?" (Kn.joins [] ls) else qK) = qK
  by_cases c : ("?" : Str) = g
  · rw [if_pos c]; rfl
  · rw [if_neg c]
/-! ### paths and heads -/
mutual
noncomputable def Kn.paths : Kn → List (List Nat)
  | .mk _ ks => [] :: Kn.pathsL 1 ks
noncomputable def Kn.pathsL (n : Nat) : List Kn → List (List Nat)
  | [] => []
  | t :: r => t.paths.map (n :: ·) ++ Kn.pathsL (n + 1) r
end
noncomputable def Kn.headAt : Kn → List Nat → Str
  | t, [] => t.h
  | t, k :: p => if t.h = "?" then "?" else match t.ks[k - 1]? with
    | none => "none"
    | some u => u.headAt p
end L2.Bk

end
section
set_option Elab.async false
set_option linter.all false
namespace L2.Bk
open PySem PySem.Spec PyProof.Rows L2.Bw
theorem bxpnil {X : Cx} {pos : Pos} : Bx (PPs X pos [] [] []) := ⟨pps_nil⟩
theorem bxdisp {X : Cx} {pos : Pos} {keys : List (Option Expr)} {values : List Expr} {trs : List (TE × TE)} (h : Bx (PPs X pos keys values trs)) (hall : keys.all (·.isSome) = true) (hl : keys.length = values.length) (h0 : keys ≠ [])
    (h15 : keys.length ≤ 15) : Bx (PE X (.Dict keys values pos) (tDisp trs)) := ⟨pe_disp h.out hall hl h0 h15⟩
end L2.Bk

end
section
set_option Elab.async false
set_option linter.all false
set_option maxRecDepth 100000
/-! zip of a tuple and two lists, walked by threes. -/
namespace PySem
namespace F
theorem z3_typeCall (a b c : Value) : checkTypeCall "zip" ⟨[a, b, c], []⟩ = pure () := by kernel_rfl
theorem z3_newCall (a b c : Value) : checkBuiltinCall "zip.__new__" ⟨[.type "zip", a, b, c], []⟩ = pure () := by kernel_rfl
theorem z3_args_init (a b c d : Value) : argsOk "object.__init__" ⟨[a, b, c, d], []⟩ := by
  unfold argsOk; rw [signature?_of (id := "object.__init__") (n := ['_', '_', 't', 'i', 'n', 'i', '_', '_']) (o := ['t', 'c', 'e', 'j', 'b', 'o']) (by kernel_rfl) owner_object]; kernel_rfl
end F
noncomputable abbrev Is3 (h : Heap) (T : Addr) (a b c : Value) : Prop := h.get? T = some { cls := .type "tuple", data := .seq #[a, b, c] }
section
variable {prog : Program} {w : World} {A : Around} {E : Value → Shared → Prop} {s : Shared}
theorem z3_update {T : Addr} {a b c x : Value} {k : Nat} {Q : Unit → Shared → Prop} (hT : Is3 s.heap T a b c)
    (h : ∀ h', h'.get? T = some { cls := .type "tuple", data := .seq ((#[a, b, c] : Array Value).setIfInBounds k x) } → Heap.SameBut T s.heap h' → Q () { s with heap := h' }) : wpAny (model prog w) A (updateSeq T (·.setIfInBounds k x)) Q E s := by
  refine wpAny_updateSeq hT rfl (h _ ?_ (Heap.SameBut.update ..)); rw [Heap.get?_update_self _ hT rfl]; simp [Obj.mapSeq]
theorem tup_nextOf_item {it t : Addr} {i : Nat} {items} {x : Value} {Q : Value → Shared → Prop} (hit : s.heap.IsTupleIter it t i) (ht : s.heap.IsTuple t items) (hx : items[i]? = some x)
    (hQ : ∀ h', h'.IsTupleIter it t (i + 1) → Heap.SameBut it s.heap h' → Q x { s with heap := h' }) : wpAny (model prog w) A (Builtin.SmallTypes.nextOf (.ref it)) Q E s := by
  obtain ⟨o, ho, hc, hd⟩ := id hit
  obtain ⟨ol, hol, _, nl, hdl⟩ := ht
  unfold Builtin.SmallTypes.nextOf
  refine wpAny_bind (wpAny_callSpecial?_slot (name := Str.ofString "__next__") hit.typeIs F.slot_tuple_iterator_next (wpAny_call_entry F.slot_tuple_iterator_next hit.typeIs F.entry_tuple_iterator_next ?_ (F.args_tuple_iterator_next_1 _)))
  show wpAny _ _ (field (.ref it) 0 >>= _) _ _ s; refine wpAny_bind (wpAny_field ho hd (x := .ref t) rfl ?_)
  show wpAny _ _ (if (Value.ref t == Value.none) = true then _ else _) _ _ s; rw [if_neg (show ¬ ((Value.ref t == Value.none) = true) from Bool.false_ne_true)]
  show wpAny _ _ (field (.ref it) 1 >>= _) _ _ s; refine wpAny_bind (wpAny_field ho hd (x := .int i 0) rfl ?_)
  show wpAny _ _ (seqItems? (.ref t) >>= _) _ _ s; refine wpAny_bind (wpAny_seqItems hol hdl ?_); simp only [Int.toNat_natCast, hx]
  refine wpAny_bind (wpAny_setField ho hd (by simp) (wpAny_pure ⟨x, rfl, wpAny_pure (hQ _ ?_ (Heap.SameBut.update ..))⟩))
  exact ⟨_, Heap.get?_update_self _ ho (Obj.isFreed_of_fields (Obj.data_mapFields hd _)), (Obj.cls_mapFields ..).trans hc, by rw [Obj.data_mapFields hd]; simp [rawInt]⟩
theorem tup_nextOf_end {it t : Addr} {i : Nat} {items} {Q : Value → Shared → Prop} (hh : A.handled = none) (hit : s.heap.IsTupleIter it t i) (ht : s.heap.IsTuple t items) (hx : items[i]? = none)
    (hE : ∀ h' e, Heap.ExtBut it s.heap h' → (∃ o, h'.get? e = some o ∧ o.cls = .type "StopIteration") → E (.ref e) { s with heap := h' }) : wpAny (model prog w) A (Builtin.SmallTypes.nextOf (.ref it)) Q E s := by
  obtain ⟨o, ho, hc, hd⟩ := id hit
  obtain ⟨ol, hol, _, nl, hdl⟩ := ht
  unfold Builtin.SmallTypes.nextOf
  refine wpAny_bind (wpAny_callSpecial?_slot (name := Str.ofString "__next__") hit.typeIs F.slot_tuple_iterator_next (wpAny_call_entry F.slot_tuple_iterator_next hit.typeIs F.entry_tuple_iterator_next ?_ (F.args_tuple_iterator_next_1 _)))
  show wpAny _ _ (field (.ref it) 0 >>= _) _ _ s; refine wpAny_bind (wpAny_field ho hd (x := .ref t) rfl ?_)
  show wpAny _ _ (if (Value.ref t == Value.none) = true then _ else _) _ _ s; rw [if_neg (show ¬ ((Value.ref t == Value.none) = true) from Bool.false_ne_true)]
  show wpAny _ _ (field (.ref it) 1 >>= _) _ _ s; refine wpAny_bind (wpAny_field ho hd (x := .int i 0) rfl ?_)
  show wpAny _ _ (seqItems? (.ref t) >>= _) _ _ s; refine wpAny_bind (wpAny_seqItems hol hdl ?_); simp only [Int.toNat_natCast, hx]
  refine wpAny_bind (wpAny_rule (wpAny_bind (wpAny_setField ho hd (by simp) ?_))); show wpAny _ _ (newExc (.type "StopIteration") [] >>= _) _ _ _
  refine wpAny_bind ?_; simp only [newExc, newTuple]; refine wpAny_bind (wpAny_newObj_type ?_ (by size_fits))
  refine wpAny_bind (m := firstArgMember _ _) (wpAny_of_eq (a := Value.none) (by first | rfl | (simp only [firstArgMember]; rfl)) ?_); refine wpAny_newObj_type ?_ (by size_fits)
  simp only [raiseNew]; refine wpAny_bind (wpAny_handled ?_); first | rw [show A.in1.handled = none from hh] | rw [hh]
  refine wpAny_bind (wpAny_pure (wpAny_throw ?_)); exact hE _ _ (((Heap.SameBut.update ..).extBut.push _).push _) ⟨_, Heap.get?_push_size _ rfl, rfl⟩
structure Z3 (z TI TO i1 i2 i3 t b c : Addr) : Prop where
  TIz : TI ≠ z
  TOz : TO ≠ z
  i1z : i1 ≠ z
  i2z : i2 ≠ z
  i3z : i3 ≠ z
  TITO : TI ≠ TO
  TIi1 : TI ≠ i1
  TIi2 : TI ≠ i2
  TIi3 : TI ≠ i3
  TOi1 : TO ≠ i1
  TOi2 : TO ≠ i2
  TOi3 : TO ≠ i3
  i12 : i1 ≠ i2
  i13 : i1 ≠ i3
  i23 : i2 ≠ i3
  tz : t ≠ z
  tTO : t ≠ TO
  ti1 : t ≠ i1
  ti2 : t ≠ i2
  ti3 : t ≠ i3
  bz : b ≠ z
  bTO : b ≠ TO
  bi1 : b ≠ i1
  bi2 : b ≠ i2
  bi3 : b ≠ i3
  cz : c ≠ z
  cTO : c ≠ TO
  ci1 : c ≠ i1
  ci2 : c ≠ i2
  ci3 : c ≠ i3
theorem z3_item {z TI TO i1 i2 i3 t b c : Addr} {k : Nat} {xs ys zs : Array Value} {x y v a0 b0 c0 : Value} {Q : Value → Shared → Prop} (D : Z3 z TI TO i1 i2 i3 t b c) (hz : IsZip s.heap z TI TO .none) (hTI : Is3 s.heap TI (.ref i1) (.ref i2) (.ref i3)) (hTO : Is3 s.heap TO a0 b0 c0)
    (h1 : s.heap.IsTupleIter i1 t k) (h2 : s.heap.IsListIter i2 b k) (h3 : s.heap.IsListIter i3 c k) (hl1 : s.heap.IsTuple t xs) (hl2 : s.heap.IsList b ys) (hl3 : s.heap.IsList c zs) (hx : xs[k]? = some x) (hy : ys[k]? = some y) (hv : zs[k]? = some v)
    (hQ : ∀ h', IsZip h' z TI TO (rawInt s.heap.objs.size) → Is3 h' TO x y v → h'.IsTupleIter i1 t (k + 1) → h'.IsListIter i2 b (k + 1) → h'.IsListIter i3 c (k + 1) → Is3 h' s.heap.objs.size x y v → h'.objs.size = s.heap.objs.size + 1 →
      (∀ d o, d ≠ z → d ≠ TO → d ≠ i1 → d ≠ i2 → d ≠ i3 → s.heap.get? d = some o → h'.get? d = some o) → Q (.ref s.heap.objs.size) { s with heap := h' }) :
    wpAny (model prog w) A (Builtin.«zip.__next__» ⟨[.ref z], []⟩) (fun fin s' => ∃ v, fin = .done (.ret v) ∧ Q v s') E s := by
  show wpAny _ _ (field (.ref z) 2 >>= _) _ _ _; refine wpAny_bind (wpAny_field hz rfl (x := .bool false) rfl ?_)
  show wpAny _ _ (field (.ref z) 3 >>= _) _ _ _; refine wpAny_bind (wpAny_field hz rfl (x := .ref TI) rfl ?_)
  refine wpAny_bind (wpAny_seqItems hTI rfl ?_); show wpAny _ _ (Builtin.SmallTypes.ownedTupleIsFree (.ref z) >>= _) _ _ _
  refine wpAny_bind ?_; unfold Builtin.SmallTypes.ownedTupleIsFree; refine wpAny_bind (wpAny_field hz rfl (x := .none) rfl (wpAny_pure ?_)); simp only [if_true]
  refine wpAny_bind (wpAny_rule ?_); refine wpAny_bind (wpAny_field hz rfl (x := .ref TO) rfl ?_); refine wpAny_bind (wpAny_setField_rec hz (by simp) fun h₁ hz₁ hs₁ => ?_)
  replace hz₁ : IsZip h₁ z TI TO .ellipsis := hz₁
  refine wpAny_bind ?_; simp only [List.zipIdx_cons, List.zipIdx_nil, List.forIn_cons, List.forIn_nil]
  refine wpAny_bind (wpAny_bind (wpAny_onRaise ?_)); show wpAny _ _ (Builtin.SmallTypes.nextOf (.ref i1) >>= _) _ _ _
  refine wpAny_bind (tup_nextOf_item (h1.extBut hs₁.extBut D.i1z) (hl1.extBut hs₁.extBut D.tz) hx fun h₂ h1₂ hs₂ => wpAny_pure ?_)
  have hTO₂ : Is3 h₂ TO a0 b0 c0 := hs₂.extBut _ _ D.TOi1 (hs₁.extBut _ _ D.TOz hTO)
  refine wpAny_bind (wpAny_seqItems hTO₂ rfl ?_); refine wpAny_bind (z3_update hTO₂ fun h₃ hTO₃ hs₃ => ?_)
  replace hTO₃ : Is3 h₃ TO x b0 c0 := hTO₃
  refine wpAny_bind (wpAny_letGo (wpAny_pure ?_)); refine wpAny_bind (wpAny_bind (wpAny_onRaise ?_)); show wpAny _ _ (Builtin.SmallTypes.nextOf (.ref i2) >>= _) _ _ _
  refine wpAny_bind (wpAny_nextOf_list_item (((h2.extBut hs₁.extBut D.i2z).extBut hs₂.extBut D.i12.symm).extBut hs₃.extBut D.TOi2.symm) (((hl2.extBut hs₁.extBut D.bz).extBut hs₂.extBut D.bi1).extBut hs₃.extBut D.bTO) hy fun h₄ h2₄ hs₄ => wpAny_pure ?_)
  have hTO₄ : Is3 h₄ TO x b0 c0 := hs₄.extBut _ _ D.TOi2 hTO₃
  refine wpAny_bind (wpAny_seqItems hTO₄ rfl ?_); refine wpAny_bind (z3_update hTO₄ fun h₅ hTO₅ hs₅ => ?_)
  replace hTO₅ : Is3 h₅ TO x y c0 := hTO₅
  refine wpAny_bind (wpAny_letGo (wpAny_pure ?_)); refine wpAny_bind (wpAny_bind (wpAny_onRaise ?_)); show wpAny _ _ (Builtin.SmallTypes.nextOf (.ref i3) >>= _) _ _ _
  refine wpAny_bind (wpAny_nextOf_list_item (((((h3.extBut hs₁.extBut D.i3z).extBut hs₂.extBut D.i13.symm).extBut hs₃.extBut D.TOi3.symm).extBut hs₄.extBut D.i23.symm).extBut hs₅.extBut D.TOi3.symm)
    (((((hl3.extBut hs₁.extBut D.cz).extBut hs₂.extBut D.ci1).extBut hs₃.extBut D.cTO).extBut hs₄.extBut D.ci2).extBut hs₅.extBut D.cTO) hv fun h₆ h3₆ hs₆ => wpAny_pure ?_)
  have hTO₆ : Is3 h₆ TO x y c0 := hs₆.extBut _ _ D.TOi3 hTO₅
  refine wpAny_bind (wpAny_seqItems hTO₆ rfl ?_); refine wpAny_bind (z3_update hTO₆ fun h₇ hTO₇ hs₇ => ?_)
  replace hTO₇ : Is3 h₇ TO x y v := hTO₇
  refine wpAny_bind (wpAny_letGo (wpAny_pure (wpAny_pure ?_))); refine wpAny_bind (wpAny_seqItems hTO₇ rfl ?_); refine wpAny_bind (wpAny_newTuple ?_)
  have hsz : h₇.objs.size = s.heap.objs.size := by rw [hs₇.1, hs₆.1, hs₅.1, hs₄.1, hs₃.1, hs₂.1, hs₁.1]
  have hz₇ : IsZip h₇ z TI TO .ellipsis := hs₇.extBut _ _ D.TOz.symm (hs₆.extBut _ _ D.i3z.symm (hs₅.extBut _ _ D.TOz.symm (hs₄.extBut _ _ D.i2z.symm (hs₃.extBut _ _ D.TOz.symm (hs₂.extBut _ _ D.i1z.symm hz₁)))))
  have hk₇ : ∀ d o, d ≠ z → d ≠ TO → d ≠ i1 → d ≠ i2 → d ≠ i3 → s.heap.get? d = some o → h₇.get? d = some o := fun d o c1 c2 c3 c4 c5 e =>
    hs₇.extBut _ _ c2 (hs₆.extBut _ _ c5 (hs₅.extBut _ _ c2 (hs₄.extBut _ _ c4 (hs₃.extBut _ _ c2 (hs₂.extBut _ _ c3 (hs₁.extBut _ _ c1 e))))))
  have h1₇ : h₇.IsTupleIter i1 t (k + 1) := ((((h1₂.extBut hs₃.extBut D.TOi1.symm).extBut hs₄.extBut D.i12).extBut hs₅.extBut D.TOi1.symm).extBut hs₆.extBut D.i13).extBut hs₇.extBut D.TOi1.symm
  have h2₇ : h₇.IsListIter i2 b (k + 1) := ((h2₄.extBut hs₅.extBut D.TOi2.symm).extBut hs₆.extBut D.i23).extBut hs₇.extBut D.TOi2.symm
  have h3₇ : h₇.IsListIter i3 c (k + 1) := h3₆.extBut hs₇.extBut D.TOi3.symm
  have hzlt : z < h₇.objs.size := Heap.lt_size hz₇
  show wpAny _ _ (Builtin.SmallTypes.ownedTupleHandOut (.ref z) (.ref h₇.objs.size) >>= _) _ _ _
  refine wpAny_bind ?_; unfold Builtin.SmallTypes.ownedTupleHandOut
  have hz₈ : IsZip (h₇.push { cls := .type "tuple", data := .seq #[x, y, v] }) z TI TO .ellipsis := Heap.get?_push_of_some _ hz₇
  refine wpAny_bind (wpAny_setField_rec hz₈ (by simp) fun h₉ hz₉ hs₉ => ?_)
  replace hz₉ : IsZip h₉ z TI TO (rawInt h₇.objs.size) := hz₉
  refine wpAny_setField_rec hz₉ (by simp) fun hA hzA hsA => ?_
  replace hzA : IsZip hA z TI TO (rawInt h₇.objs.size) := hzA
  have up : ∀ d o, d ≠ z → h₇.get? d = some o → hA.get? d = some o := fun d o c1 e => hsA.extBut _ _ c1 (hs₉.extBut _ _ c1 (Heap.get?_push_of_some _ e))
  have hTA : Is3 hA h₇.objs.size x y v := hsA.extBut _ _ (Nat.ne_of_gt hzlt) (hs₉.extBut _ _ (Nat.ne_of_gt hzlt) (Heap.get?_push_size _ rfl))
  have hzA8 : hA.objs.size = h₇.objs.size + 1 := by rw [hsA.1, hs₉.1, Heap.size_push]
  rw [hsz] at hzA hTA hzA8
  refine wpAny_pure ⟨_, rfl, ?_⟩
  show Q (.ref h₇.objs.size) _
  rw [hsz]
  exact hQ hA hzA (up _ _ D.TOz hTO₇) (h1₇.at fun o e => up _ o D.i1z e) (h2₇.at fun o e => up _ o D.i2z e) (h3₇.at fun o e => up _ o D.i3z e) hTA hzA8 fun d o c1 c2 c3 c4 c5 e => up d o c1 (hk₇ d o c1 c2 c3 c4 c5 e)
/-- the tuple ends first (or all of them together) -/
theorem z3_end {z TI TO i1 i2 i3 t b c : Addr} {k : Nat} {xs : Array Value} {Q : Fin → Shared → Prop} (hh : A.handled = none) (D : Z3 z TI TO i1 i2 i3 t b c) (hz : IsZip s.heap z TI TO .none) (hTI : Is3 s.heap TI (.ref i1) (.ref i2) (.ref i3))
    (h1 : s.heap.IsTupleIter i1 t k) (hl1 : s.heap.IsTuple t xs) (hx : xs[k]? = none)
    (hE : ∀ h' e, (∀ d o, d ≠ z → d ≠ i1 → s.heap.get? d = some o → h'.get? d = some o) → (∃ o, h'.get? e = some o ∧ o.cls = .type "StopIteration") → E (.ref e) { s with heap := h' }) :
    wpAny (model prog w) A (Builtin.«zip.__next__» ⟨[.ref z], []⟩) Q E s := by
  show wpAny _ _ (field (.ref z) 2 >>= _) _ _ _; refine wpAny_bind (wpAny_field hz rfl (x := .bool false) rfl ?_)
  show wpAny _ _ (field (.ref z) 3 >>= _) _ _ _; refine wpAny_bind (wpAny_field hz rfl (x := .ref TI) rfl ?_)
  refine wpAny_bind (wpAny_seqItems hTI rfl ?_); show wpAny _ _ (Builtin.SmallTypes.ownedTupleIsFree (.ref z) >>= _) _ _ _
  refine wpAny_bind ?_; unfold Builtin.SmallTypes.ownedTupleIsFree; refine wpAny_bind (wpAny_field hz rfl (x := .none) rfl (wpAny_pure ?_)); simp only [if_true]
  refine wpAny_bind (wpAny_rule ?_); refine wpAny_bind (wpAny_field hz rfl (x := .ref TO) rfl ?_); refine wpAny_bind (wpAny_setField_rec hz (by simp) fun h₁ hz₁ hs₁ => ?_)
  replace hz₁ : IsZip h₁ z TI TO .ellipsis := hz₁
  refine wpAny_bind ?_; simp only [List.zipIdx_cons, List.zipIdx_nil, List.forIn_cons, List.forIn_nil]
  refine wpAny_bind (wpAny_bind (wpAny_onRaise ?_)); show wpAny _ _ (Builtin.SmallTypes.nextOf (.ref i1) >>= _) _ _ _
  refine wpAny_bind (tup_nextOf_end hh (h1.extBut hs₁.extBut D.i1z) (hl1.extBut hs₁.extBut D.tz) hx fun h₂ e hs₂ he => ?_)
  obtain ⟨oe, hoe, hce⟩ := he
  have hz₂ : IsZip h₂ z TI TO .ellipsis := hs₂ _ _ D.i1z.symm hz₁
  have hez : e ≠ z := fun x => by subst x; rw [hz₂] at hoe; cases hoe; simp at hce
  exact wpAny_setField_rec hz₂ (by simp) fun h₃ _ hs₃ => hE h₃ e (fun d o c1 c3 x => hs₃.extBut _ _ c1 (hs₂ _ _ c3 (hs₁.extBut _ _ c1 x))) ⟨oe, hs₃.extBut _ _ hez hoe, hce⟩
theorem z3_pyNext_item {z TI TO i1 i2 i3 t b c : Addr} {k : Nat} {xs ys zs : Array Value} {x y v a0 b0 c0 : Value} {Q : Option Value → Shared → Prop} (D : Z3 z TI TO i1 i2 i3 t b c) (hz : IsZip s.heap z TI TO .none) (hTI : Is3 s.heap TI (.ref i1) (.ref i2) (.ref i3)) (hTO : Is3 s.heap TO a0 b0 c0)
    (h1 : s.heap.IsTupleIter i1 t k) (h2 : s.heap.IsListIter i2 b k) (h3 : s.heap.IsListIter i3 c k) (hl1 : s.heap.IsTuple t xs) (hl2 : s.heap.IsList b ys) (hl3 : s.heap.IsList c zs) (hx : xs[k]? = some x) (hy : ys[k]? = some y) (hv : zs[k]? = some v)
    (hQ : ∀ h', IsZip h' z TI TO (rawInt s.heap.objs.size) → Is3 h' TO x y v → h'.IsTupleIter i1 t (k + 1) → h'.IsListIter i2 b (k + 1) → h'.IsListIter i3 c (k + 1) → Is3 h' s.heap.objs.size x y v → h'.objs.size = s.heap.objs.size + 1 →
      (∀ d o, d ≠ z → d ≠ TO → d ≠ i1 → d ≠ i2 → d ≠ i3 → s.heap.get? d = some o → h'.get? d = some o) → Q (some (.ref s.heap.objs.size)) { s with heap := h' }) : wpAny (model prog w) A (pyNext (.ref z)) Q E s := by
  have hT : s.TypeIs (.ref z) "zip" := ⟨_, hz, rfl⟩
  unfold pyNext
  exact wpAny_bind (wpAny_attempt (wpAny_callSpecial?_slot (name := Str.ofString "__next__") hT F.slot_zip_next (wpAny_call_entry F.slot_zip_next hT F.entry_zip_next
      (z3_item D hz hTI hTO h1 h2 h3 hl1 hl2 hl3 hx hy hv fun h' a1 a2 a3 a4 a5 a6 a7 a8 => wpAny_pure (hQ h' a1 a2 a3 a4 a5 a6 a7 a8)) (F.args_zip_next_1 _))))
theorem z3_pyNext_end {z TI TO i1 i2 i3 t b c : Addr} {k : Nat} {xs : Array Value} {Q : Option Value → Shared → Prop} (hh : A.handled = none) (D : Z3 z TI TO i1 i2 i3 t b c) (hz : IsZip s.heap z TI TO .none) (hTI : Is3 s.heap TI (.ref i1) (.ref i2) (.ref i3))
    (h1 : s.heap.IsTupleIter i1 t k) (hl1 : s.heap.IsTuple t xs) (hx : xs[k]? = none) (hQ : ∀ h', (∀ d o, d ≠ z → d ≠ i1 → s.heap.get? d = some o → h'.get? d = some o) → Q none { s with heap := h' }) : wpAny (model prog w) A (pyNext (.ref z)) Q E s := by
  have hT : s.TypeIs (.ref z) "zip" := ⟨_, hz, rfl⟩
  unfold pyNext
  refine wpAny_bind (wpAny_attempt (wpAny_callSpecial?_slot (name := Str.ofString "__next__") hT F.slot_zip_next (wpAny_call_entry F.slot_zip_next hT F.entry_zip_next (z3_end hh D hz hTI h1 hl1 hx fun h' e hk he => ?_) (F.args_zip_next_1 _))))
  obtain ⟨o, ho, hc⟩ := he
  refine wpAny_bind (wpAny_isInstance (T := "StopIteration") (b := true) ⟨o, ho, hc⟩ isSubtype_stop ?_)
  exact wpAny_pure (hQ _ hk)
end
end PySem

end
section
set_option Elab.async false
set_option linter.all false
set_option maxRecDepth 100000
namespace PySem
noncomputable abbrev z3H1 (h : Heap) (t : Addr) : Heap := h.push { cls := .type "tuple_iterator", data := .fields #[.ref t, .int 0 0] }
noncomputable abbrev z3H2 (h : Heap) (t b : Addr) : Heap := (z3H1 h t).push { cls := .type "list_iterator", data := .fields #[.ref b, .int 0 0] }
noncomputable abbrev z3H3 (h : Heap) (t b c : Addr) : Heap := (z3H2 h t b).push { cls := .type "list_iterator", data := .fields #[.ref c, .int 0 0] }
noncomputable abbrev z3H4 (h : Heap) (t b c : Addr) : Heap := (z3H3 h t b c).push { cls := .type "tuple", data := .seq #[.ref h.objs.size, .ref (z3H1 h t).objs.size, .ref (z3H2 h t b).objs.size] }
noncomputable abbrev z3H5 (h : Heap) (t b c : Addr) : Heap := (z3H4 h t b c).push { cls := .type "tuple", data := .seq #[.none, .none, .none] }
noncomputable abbrev z3H6 (h : Heap) (t b c : Addr) : Heap := (z3H5 h t b c).push { cls := .type "zip", data := .fields #[.none, .bool false, .bool false, .ref (z3H3 h t b c).objs.size, .ref (z3H4 h t b c).objs.size] }
theorem z3_new (t b c : Addr) (xs ys zs : Array Value) :
    Meets (Builtin.«zip.__new__» ⟨[.type "zip", .ref t, .ref b, .ref c], []⟩) (fun _ R s => s.heap.IsTuple t xs ∧ s.heap.IsList b ys ∧ s.heap.IsList c zs ∧ R (.ok (.ret (.ref (z3H5 s.heap t b c).objs.size))) { s with heap := z3H6 s.heap t b c }) :=
  .of_wp fun prog w A R s h => by
    obtain ⟨hp, g, d, tk, os⟩ := s; obtain ⟨hl1, hl2, hl3, h⟩ := h
    have hsub := sub_zip
    have hL1 : Heap.IsTuple (Shared.heap ⟨hp, g, d, tk, os⟩) t xs := hl1
    have hL2 : Heap.IsList (Shared.heap ⟨hp.push { cls := .type "tuple_iterator", data := .fields #[.ref t, .int 0 0] }, g, d, tk, os⟩) b ys := Heap.IsList.push hl2 _
    have hL3 : Heap.IsList (Shared.heap ⟨(hp.push { cls := .type "tuple_iterator", data := .fields #[.ref t, .int 0 0] }).push { cls := .type "list_iterator", data := .fields #[.ref b, .int 0 0] }, g, d, tk, os⟩) c zs := Heap.IsList.push (Heap.IsList.push hl3 _) _
    wp_walk using wpAny_pyIter_tuple hL1, wpAny_pyIter_list hL2, wpAny_pyIter_list hL3
    exact ⟨_, rfl, h⟩
section
variable {prog : Program} {w : World} {A : Around} {E : Value → Shared → Prop} {s : Shared}
theorem call_zip_3 {t b c : Addr} {xs ys zs : Array Value} {Q : Value → Shared → Prop} (hl1 : s.heap.IsTuple t xs) (hl2 : s.heap.IsList b ys) (hl3 : s.heap.IsList c zs)
    (h : ∀ h', IsZip h' (s.heap.objs.size + 5) (s.heap.objs.size + 3) (s.heap.objs.size + 4) .none → Is3 h' (s.heap.objs.size + 3) (.ref s.heap.objs.size) (.ref (s.heap.objs.size + 1)) (.ref (s.heap.objs.size + 2)) →
      Is3 h' (s.heap.objs.size + 4) .none .none .none → h'.IsTupleIter s.heap.objs.size t 0 → h'.IsListIter (s.heap.objs.size + 1) b 0 → h'.IsListIter (s.heap.objs.size + 2) c 0 → (∀ d o, s.heap.get? d = some o → h'.get? d = some o) → Q (.ref (s.heap.objs.size + 5)) { s with heap := h' }) :
    wpAny (model prog w) A (call (.type "zip") [.ref t, .ref b, .ref c]) Q E s := by
  refine callType_new F.called_zip (by decide) (F.z3_typeCall _ _ _) (F.z3_newCall _ _ _) (fun obj => F.z3_args_init obj _ _ _) F.entry_zip_new (z3_new t b c xs ys zs) ⟨hl1, hl2, hl3, ?_⟩
  have z1 : (z3H1 s.heap t).objs.size = s.heap.objs.size + 1 := Heap.size_push ..
  have z2 : (z3H2 s.heap t b).objs.size = s.heap.objs.size + 2 := by rw [Heap.size_push, z1]
  have z3 : (z3H3 s.heap t b c).objs.size = s.heap.objs.size + 3 := by rw [Heap.size_push, z2]
  have z4 : (z3H4 s.heap t b c).objs.size = s.heap.objs.size + 4 := by rw [Heap.size_push, z3]
  have z5 : (z3H5 s.heap t b c).objs.size = s.heap.objs.size + 5 := by rw [Heap.size_push, z4]
  have g6 : (z3H6 s.heap t b c).get? (z3H5 s.heap t b c).objs.size = some _ := Heap.get?_push_size _ rfl
  have g5 : (z3H6 s.heap t b c).get? (z3H4 s.heap t b c).objs.size = some _ := Heap.get?_push_of_some _ (Heap.get?_push_size _ rfl)
  have g4 : (z3H6 s.heap t b c).get? (z3H3 s.heap t b c).objs.size = some _ := Heap.get?_push_of_some _ (Heap.get?_push_of_some _ (Heap.get?_push_size _ rfl))
  have g3 : (z3H6 s.heap t b c).get? (z3H2 s.heap t b).objs.size = some _ := Heap.get?_push_of_some _ (Heap.get?_push_of_some _ (Heap.get?_push_of_some _ (Heap.get?_push_size _ rfl)))
  have g2 : (z3H6 s.heap t b c).get? (z3H1 s.heap t).objs.size = some _ := Heap.get?_push_of_some _ (Heap.get?_push_of_some _ (Heap.get?_push_of_some _ (Heap.get?_push_of_some _ (Heap.get?_push_size _ rfl))))
  have g1 : (z3H6 s.heap t b c).get? s.heap.objs.size = some _ := Heap.get?_push_of_some _ (Heap.get?_push_of_some _ (Heap.get?_push_of_some _ (Heap.get?_push_of_some _ (Heap.get?_push_of_some _ (Heap.get?_push_size _ rfl)))))
  show _ ∧ _
  rw [z3, z4, z5] at g6
  rw [z1, z2, z3] at g4
  rw [z4] at g5
  rw [z2] at g3
  rw [z1] at g2
  rw [z5]
  exact ⟨⟨_, g6, rfl⟩, h _ g6 g4 g5 ⟨_, g1, rfl, rfl⟩ ⟨_, g2, rfl, rfl⟩ ⟨_, g3, rfl, rfl⟩ fun d o x => Heap.get?_push_of_some _ (Heap.get?_push_of_some _ (Heap.get?_push_of_some _ (Heap.get?_push_of_some _ (Heap.get?_push_of_some _ (Heap.get?_push_of_some _ x)))))⟩
end
end PySem
namespace L2.Bk
open PySem PySem.Spec PyProof.Rows L2.Bw
theorem off_ofT {X : Cx} {pins : List (Addr × Obj)} {σ : St} {H : Hp} {s : Shared} (I : Inv X pins σ H s) {c l : Addr} {us : List V} (f : FpOk X pins H c) (hq : SqT X.K H l us) : l ≠ c := fun e => by
  subst e
  rcases hq with q | q
  · rcases q with q | ⟨o, q⟩
    · rw [f.1] at q; cases q
    · rw [f.1] at q; cases q
  · obtain ⟨o, its, n, q, _⟩ := q
    have bk := I.ok.mod.kin _ _ q
    rcases f.2.2.2.1 with f | f
    · exact I.ok.noex _ _ bk f
    · exact absurd (Nat.lt_of_lt_of_le (Heap.lt_size bk) (Nat.le_trans I.ok.bsz f)) (Nat.lt_irrefl _)
noncomputable def Apart6 (z TI TO i1 i2 i3 : Addr) : Prop := z ≠ TI ∧ z ≠ TO ∧ z ≠ i1 ∧ z ≠ i2 ∧ z ≠ i3 ∧ TI ≠ TO ∧ TI ≠ i1 ∧ TI ≠ i2 ∧ TI ≠ i3 ∧ TO ≠ i1 ∧ TO ≠ i2 ∧ TO ≠ i3 ∧ i1 ≠ i2 ∧ i1 ≠ i3 ∧ i2 ≠ i3
theorem z3_apart {z TI TO i1 i2 i3 t b c : Addr} (h : Apart6 z TI TO i1 i2 i3) (ha : ∀ d ∈ [z, TI, TO, i1, i2, i3], t ≠ d) (hb : ∀ d ∈ [z, TI, TO, i1, i2, i3], b ≠ d) (hc : ∀ d ∈ [z, TI, TO, i1, i2, i3], c ≠ d) : Z3 z TI TO i1 i2 i3 t b c := by
  obtain ⟨h1, h2, h3, h4, h5, h6, h7, h8, h9, h10, h11, h12, h13, h14, h15⟩ := h
  simp only [List.mem_cons, List.not_mem_nil, or_false, forall_eq_or_imp, forall_eq] at ha hb hc
  obtain ⟨a1, a2, a3, a4, a5, a6⟩ := ha
  obtain ⟨b1, b2, b3, b4, b5, b6⟩ := hb
  obtain ⟨c1, c2, c3, c4, c5, c6⟩ := hc
  constructor <;> first | assumption | exact Ne.symm (by assumption)
noncomputable def It3 (K : PySem.W.Frag) (t b c : Addr) : It where
  go := fun i H => ∃ us xs ys, SqT K H t us ∧ SqL K H b xs ∧ SqL K H c ys ∧ i < us.length ∧ i < xs.length ∧ i < ys.length
  yld := fun i H v H' => ∃ T u x y, v = .ref T ∧ H T = none ∧ H' = upd H T (.tup [u, x, y]) ∧ (∀ us, SqT K H t us → us[i]? = some u) ∧ (∀ xs, SqL K H b xs → xs[i]? = some x) ∧ ∀ ys, SqL K H c ys → ys[i]? = some y
  stop := fun i H => ∃ us xs ys, SqT K H t us ∧ SqL K H b xs ∧ SqL K H c ys ∧ i = us.length
theorem turn_zip3 {P : Program} {w : World} {K : PySem.W.Frag} {es : List Expr} {k : Nat} {tp : Pos} (t b c z TI TO i1 i2 i3 : Addr) (hap : Apart6 z TI TO i1 i2 i3) :
    Turn P w K (.Tuple es k tp) (It3 K t b c) [z, TI, TO, i1, i2, i3] z (fun i h => IsZip h z TI TO .none ∧ Is3 h TI (.ref i1) (.ref i2) (.ref i3) ∧ (∃ u v x, Is3 h TO u v x) ∧ h.IsTupleIter i1 t i ∧ h.IsListIter i2 b i ∧ h.IsListIter i3 c i) where
  mem := by simp
  obj := fun i h st d hd => by
    obtain ⟨h1, h2, ⟨u, v, x, h3⟩, ⟨o4, e4, c4, d4⟩, ⟨o5, e5, c5, d5⟩, ⟨o6, e6, c6, d6⟩⟩ := st
    have hd' : d = z ∨ d = TI ∨ d = TO ∨ d = i1 ∨ d = i2 ∨ d = i3 := by simpa using hd
    rcases hd' with rfl | rfl | rfl | rfl | rfl | rfl
    · exact ⟨_, h1, fun v q => by cases (show Data.fields _ = Data.cell v from q)⟩
    · exact ⟨_, h2, fun v q => by cases (show Data.seq _ _ = Data.cell v from q)⟩
    · exact ⟨_, h3, fun v q => by cases (show Data.seq _ _ = Data.cell v from q)⟩
    · exact ⟨o4, e4, fun v q => by rw [d4] at q; cases q⟩
    · exact ⟨o5, e5, fun v q => by rw [d5] at q; cases q⟩
    · exact ⟨o6, e6, fun v q => by rw [d6] at q; cases q⟩
  keep := fun i h h' st kp => by
    obtain ⟨h1, h2, ⟨u, v, x, h3⟩, h4, h5, h6⟩ := st
    exact ⟨kp z (by simp) _ h1, kp TI (by simp) _ h2, ⟨u, v, x, kp TO (by simp) _ h3⟩, h4.at fun o e => kp i1 (by simp) o e, h5.at fun o e => kp i2 (by simp) o e, h6.at fun o e => kp i3 (by simp) o e⟩
  item := by
    intro X hP hw hK hc i pins s σ H E I hf st hg
    subst hP hw hK
    obtain ⟨us, xs, ys, hu, hx, hy, l0, l1, l2⟩ := hg
    obtain ⟨its0, r0, p0, z0⟩ := I.tuple hu
    obtain ⟨its1, r1, p1, z1⟩ := I.list hx
    obtain ⟨its2, r2, p2, z2⟩ := I.list hy
    obtain ⟨h1, h2, h3, h4, h5, h6⟩ := st
    have D : Z3 z TI TO i1 i2 i3 t b c := z3_apart hap (fun d hd => off_ofT I (hf d hd) hu) (fun d hd => off_of I (hf d hd) hx) (fun d hd => off_of I (hf d hd) hy)
    obtain ⟨uv, euv, ru⟩ := r0.get (List.getElem?_eq_getElem l0)
    obtain ⟨xv, exv, rx⟩ := r1.get (List.getElem?_eq_getElem l1)
    obtain ⟨yv, eyv, ry⟩ := r2.get (List.getElem?_eq_getElem l2)
    obtain ⟨a0, b0, c0, h3'⟩ := h3
    refine z3_pyNext_item D h1 h2 h3' h4 h5 h6 (show s.heap.IsTuple t its0.toArray from p0) p1.isList p2.isList (x := uv) (y := xv) (v := yv) (by simpa using euv) (by simpa using exv) (by simpa using eyv) fun h' a1 a2 a3 a4 a5 a6 a7 kp => ?_
    have lt : ∀ {d o}, s.heap.get? d = some o → s.heap.objs.size ≠ d := fun e => Nat.ne_of_gt (Heap.lt_size e)
    refine ⟨_, rfl, wpAny_letOwnedTupleGo_zip a1 fun h2' hz' hs' => ?_⟩
    have n1 : s.heap.objs.size ≠ z := lt h1
    have n2 : s.heap.objs.size ≠ TO := lt h3'
    have n3 : s.heap.objs.size ≠ i1 := by obtain ⟨_, e, _⟩ := h4; exact lt e
    have n4 : s.heap.objs.size ≠ i2 := by obtain ⟨_, e, _⟩ := h5; exact lt e
    have n5 : s.heap.objs.size ≠ i3 := by obtain ⟨_, e, _⟩ := h6; exact lt e
    have n6 : s.heap.objs.size ≠ TI := lt h2
    have ht2 : IsTup h2' s.heap.objs.size #[uv, xv, yv] := ⟨_, hs'.extBut _ _ n1 a6, rfl, _, rfl⟩
    have hT : s.heap.objs.size ≤ s.heap.objs.size := Nat.le_refl _
    have I2 : Inv X pins σ (upd H s.heap.objs.size (.tup [us[i], xs[i], ys[i]])) { s with heap := h2', toks := s.toks } :=
      turnedT (ch := [z, TO, i1, i2, i3]) I (fun d o hd e => hs'.extBut _ _ (fun x => hd (by simp [x])) (kp d o (fun x => hd (by simp [x])) (fun x => hd (by simp [x])) (fun x => hd (by simp [x])) (fun x => hd (by simp [x])) (fun x => hd (by simp [x])) e))
        (fun d hd => hf d (by simp at hd ⊢; rcases hd with rfl | rfl | rfl | rfl | rfl <;> simp)) hT ⟨[uv, xv, yv], .cons ru (.cons rx (.cons ry .nil)), ht2⟩ (by show 3 ≤ sizeLine; decide)
    refine ⟨.ref s.heap.objs.size, _, I2, rfl, ⟨s.heap.objs.size, us[i], xs[i], ys[i], rfl, I.hok.fresh hT, rfl, fun vs hv => ?_, fun vs hv => ?_, fun vs hv => ?_⟩,
      ⟨hz', hs'.extBut _ _ D.TIz (kp _ _ D.TIz D.TITO D.TIi1 D.TIi2 D.TIi3 h2), ⟨_, _, _, hs'.extBut _ _ D.TOz a2⟩, a3.extBut hs'.extBut D.i1z, a4.extBut hs'.extBut D.i2z, a5.extBut hs'.extBut D.i3z⟩, fun d hd => ?_⟩
    · rw [I.tuple_inj hv hu]; exact List.getElem?_eq_getElem l0
    · rw [I.list_inj hv hx]; exact List.getElem?_eq_getElem l1
    · rw [I.list_inj hv hy]; exact List.getElem?_eq_getElem l2
    · have hd' : d = z ∨ d = TI ∨ d = TO ∨ d = i1 ∨ d = i2 ∨ d = i3 := by simpa using hd
      have hne : d ≠ s.heap.objs.size := by
        rcases hd' with rfl | rfl | rfl | rfl | rfl | rfl
        · exact n1.symm
        · exact n6.symm
        · exact n2.symm
        · exact n3.symm
        · exact n4.symm
        · exact n5.symm
      rw [upd_ne hne]
      exact (hf d hd).1
  done := by
    intro X hP hw hK hc i pins s σ H E I hf st hg
    subst hP hw hK
    obtain ⟨us, xs, ys, hu, hx, hy, hi⟩ := hg
    obtain ⟨its0, r0, p0, z0⟩ := I.tuple hu
    obtain ⟨h1, h2, h3, h4, h5, h6⟩ := st
    have len0 := r0.length
    have D : Z3 z TI TO i1 i2 i3 t b c := z3_apart hap (fun d hd => off_ofT I (hf d hd) hu) (fun d hd => off_of I (hf d hd) hx) (fun d hd => off_of I (hf d hd) hy)
    refine z3_pyNext_end (I.ok.hd hc) D h1 h2 h4 (show s.heap.IsTuple t its0.toArray from p0) (by simp; omega) fun h' kp => ⟨rfl, ?_⟩
    exact turnedN (ch := [z, i1]) (t' := s.toks) I (fun d o hd e => kp d o (fun x => hd (by simp [x])) (fun x => hd (by simp [x])) e) (fun d hd => hf d (by simp at hd ⊢; rcases hd with rfl | rfl <;> simp))
  self := fun _ _ _ _ _ st h => wpAny_pyIter_zip st.1 h
theorem apart6' (n : Nat) : (n + 5 : Nat) ≠ n + 3 ∧ (n + 5 : Nat) ≠ n + 4 ∧ (n + 5 : Nat) ≠ n ∧ (n + 5 : Nat) ≠ n + 1 ∧ (n + 5 : Nat) ≠ n + 2 ∧ (n + 3 : Nat) ≠ n + 4 ∧ (n + 3 : Nat) ≠ n ∧ (n + 3 : Nat) ≠ n + 1 ∧ (n + 3 : Nat) ≠ n + 2 ∧ (n + 4 : Nat) ≠ n ∧ (n + 4 : Nat) ≠ n + 1 ∧ (n + 4 : Nat) ≠ n + 2 ∧ (n : Nat) ≠ n + 1 ∧ (n : Nat) ≠ n + 2 ∧ (n + 1 : Nat) ≠ n + 2 := by omega
theorem apart6 (n : Nat) : Apart6 (n + 5) (n + 3) (n + 4) n (n + 1) (n + 2) := apart6' n
theorem le6 (n c : Nat) (h : c = n + 5 ∨ c = n + 3 ∨ c = n + 4 ∨ c = n ∨ c = n + 1 ∨ c = n + 2) : n ≤ c := by omega
section
variable {X : Cx}
noncomputable def iZip3 (K : PySem.W.Frag) (ta : TA) : TI := fun σ H R => ta σ H fun vs H1 => ∃ t b c us xs ys, vs = [.ref t, .ref b, .ref c] ∧ SqT K H1 t us ∧ SqL K H1 b xs ∧ SqL K H1 c ys ∧ R (It3 K t b c) H1
theorem vals3 {x y z : V} {us : List Value} (r : Vals [x, y, z] us) : ∃ a b c, us = [a, b, c] ∧ RelV x a ∧ RelV y b ∧ RelV z c := by
  cases r with
  | cons r1 r => cases r with
    | cons r2 r => cases r with
      | cons r3 r => cases r; exact ⟨_, _, _, rfl, r1, r2, r3⟩
theorem pi_zip3 {es : List Expr} {k : Nat} {tp p pos : Pos} {a b c : Expr} {ta : TA} (hg : Gl X "zip") (hm : X.mg "zip" = none) (ha : PA X [a, b, c] ta) (hs : starEach [a, b, c] X.env = [(false, eval a X.env), (false, eval b X.env), (false, eval c X.env)] := by rfl) (hs2 : starEach [b, c] X.env = [(false, eval b X.env), (false, eval c X.env)] := by rfl) :
    PI X (.Tuple es k tp) (.Call (.Name "zip" p) [a, b, c] [] pos) (iZip3 X.K ta) := by
  intro pins s σ H R I h
  refine Call_ (ld_blt I hg hm boot_zip (PyProof.Rows.callWith_type1 (thn (ha pos pins s σ H _ I h) fun us s1 q1 => ?_) (by rw [hs, hs2]) (by rw [hs2]; rfl)))
  obtain ⟨vs, H1, I1, r1, t1, l1, l2, ws, xs, ys, e, hw, hx, hy, q⟩ := q1
  subst e
  obtain ⟨u0, u1, u2, e, ru0, ru1, ru2⟩ := vals3 r1
  subst e
  cases ru0; cases ru1; cases ru2
  obtain ⟨i0, v0, p0, z0⟩ := I1.tuple hw
  obtain ⟨i1, v1, p1, z1⟩ := I1.list hx
  obtain ⟨i2, v2, p2, z2⟩ := I1.list hy
  refine call_zip_3 (show s1.heap.IsTuple t1 i0.toArray from p0) p1.isList p2.isList fun h' hz hTI hTO g0 g1 g2 kp => wpAny_pyIter_zip hz ?_
  have I2 : Inv X pins σ H1 { s1 with heap := h' } := I1.kept (t' := s1.toks) kp
  refine ⟨s1.heap.objs.size + 5, [s1.heap.objs.size + 5, s1.heap.objs.size + 3, s1.heap.objs.size + 4, s1.heap.objs.size, s1.heap.objs.size + 1, s1.heap.objs.size + 2], _, It3 X.K t1 l1 l2, H1, rfl, I2, turn_zip3 t1 l1 l2 _ _ _ _ _ _ (apart6 _), ⟨hz, hTI, ⟨_, _, _, hTO⟩, g0, g1, g2⟩, fun d hd => ?_, q⟩
  have hd' : s1.heap.objs.size ≤ d := le6 _ _ (by simpa using hd)
  exact I1.fpOk hd' (I1.hok.fresh hd')
end
end L2.Bk

end
section
set_option Elab.async false
set_option linter.all false
set_option maxRecDepth 100000
/-! Where two kinds part. -/
namespace L2.Bk
open PySem PySem.Spec PyProof.Rows L2.Bw
noncomputable def stepTab : List (Str × List Str) := [("whole", []), ("truth", []), ("?", []), ("to", ["arg", "res"]), ("row", ["item"]), ("pair", ["one", "two"])]
noncomputable def stepsOf (h : Str) : List Str := (KTD.datumAt h stepTab).getD []
theorem heads_of {h : Str} {n : Nat} (e : arity h = some n) : h ∈ (["whole", "truth", "?", "row", "to", "pair"] : List Str) := by
  unfold arity at e
  by_cases c1 : h = "whole"
  · simp [c1]
  rw [if_neg c1] at e
  by_cases c2 : h = "truth"
  · simp [c2]
  rw [if_neg c2] at e
  by_cases c3 : h = "?"
  · simp [c3]
  rw [if_neg c3] at e
  by_cases c4 : h = "row"
  · simp [c4]
  rw [if_neg c4] at e
  by_cases c5 : h = "to"
  · simp [c5]
  rw [if_neg c5] at e
  by_cases c6 : h = "pair"
  · simp [c6]
  rw [if_neg c6] at e
  cases e
theorem steps_all : ∀ h ∈ (["whole", "truth", "?", "row", "to", "pair"] : List Str), KTD.datumAt h stepTab = some (stepsOf h) ∧ arity h = some (stepsOf h).length := by decide +kernel
theorem steps_len {h : Str} {n : Nat} (e : arity h = some n) : (stepsOf h).length = n := by
  have := (steps_all h (heads_of e)).2
  rw [e] at this
  exact (Option.some.inj this).symm
mutual
noncomputable def Kn.part : Kn → Kn → Option (List Str)
  | .mk h ks, .mk g ls => if h = "?" then none else if g = "?" then none else if h = g then Kn.parts (stepsOf h) ks ls else some []
noncomputable def Kn.parts : List Str → List Kn → List Kn → Option (List Str)
  | s :: ss, t :: r, u :: q => match t.part u with
    | some w => some (s :: w)
    | none => Kn.parts ss r q
  | [], _, _ => none
  | _ :: _, [], _ => none
  | _ :: _, _ :: _, [] => none
end
mutual
noncomputable def Kn.ways : Kn → Kn → List (List Str)
  | .mk h ks, .mk g ls => if h = "?" then [] else if g = "?" then [] else if h = g then Kn.wayss (stepsOf h) ks ls else [[]]
noncomputable def Kn.wayss : List Str → List Kn → List Kn → List (List Str)
  | s :: ss, t :: r, u :: q => (t.ways u).map (s :: ·) ++ Kn.wayss ss r q
  | [], _, _ => []
  | _ :: _, [], _ => []
  | _ :: _, _ :: _, [] => []
end
mutual
theorem part_ways : ∀ (a b : Kn), a.part b = (a.ways b).head?
  | .mk h ks, .mk g ls => by
    show (if h = "?" then none else if g = "?" then none else if h = g then Kn.parts (stepsOf h) ks ls else some []) = (if h = "?" then [] else if g = "?" then [] else if h = g then Kn.wayss (stepsOf h) ks ls else [[]]).head?
    by_cases c1 : h = "?"
    · rw [if_pos c1, if_pos c1]; rfl
    rw [if_neg c1, if_neg c1]
    by_cases c2 : g = "?"
    · rw [if_pos c2, if_pos c2]; rfl
    rw [if_neg c2, if_neg c2]
    by_cases c3 : h = g
    · rw [if_pos c3, if_pos c3]; exact parts_wayss _ ks ls
    · rw [if_neg c3, if_neg c3]; rfl
theorem parts_wayss : ∀ (ss : List Str) (ks ls : List Kn), Kn.parts ss ks ls = (Kn.wayss ss ks ls).head?
  | [], _, _ => by rw [Kn.parts, Kn.wayss]; rfl
  | _ :: _, [], _ => rfl
  | _ :: _, _ :: _, [] => rfl
  | s :: ss, t :: r, u :: q => by
    show (match t.part u with | some w => some (s :: w) | none => Kn.parts ss r q) = ((t.ways u).map (s :: ·) ++ Kn.wayss ss r q).head?
    rw [part_ways t u, parts_wayss ss r q]
    cases t.ways u with
    | nil => rfl
    | cons w ws => rfl
end
mutual
theorem part_comm : ∀ (a b : Kn), a.part b = b.part a
  | .mk h ks, .mk g ls => by
    show (if h = "?" then none else if g = "?" then none else if h = g then Kn.parts (stepsOf h) ks ls else some []) = (if g = "?" then none else if h = "?" then none else if g = h then Kn.parts (stepsOf g) ls ks else some [])
    by_cases c1 : h = "?"
    · rw [if_pos c1, if_pos c1]; split <;> rfl
    rw [if_neg c1, if_neg c1]
    by_cases c2 : g = "?"
    · rw [if_pos c2, if_pos c2]
    rw [if_neg c2, if_neg c2]
    by_cases c3 : h = g
    · subst c3
      rw [if_pos rfl, if_pos rfl]; exact parts_comm _ ks ls
    · rw [if_neg c3, if_neg (fun z => c3 z.symm)]
theorem parts_comm : ∀ (ss : List Str) (ks ls : List Kn), Kn.parts ss ks ls = Kn.parts ss ls ks
  | [], ks, ls => by rw [Kn.parts, Kn.parts]
  | _ :: _, [], [] => rfl
  | _ :: _, [], _ :: _ => rfl
  | _ :: _, _ :: _, [] => rfl
  | s :: ss, t :: r, u :: q => by
    show (match t.part u with | some w => some (s :: w) | none => Kn.parts ss r q) = (match u.part t with | some w => some (s :: w) | none => Kn.parts ss q r)
    rw [part_comm t u, parts_comm ss r q]
end
mutual
theorem part_self : ∀ (a : Kn), a.part a = none
  | .mk h ks => by
    show (if h = "?" then none else if h = "?" then none else if h = h then Kn.parts (stepsOf h) ks ks else some []) = none
    rw [if_pos (rfl : h = h), parts_self (stepsOf h) ks]
    split <;> rfl
theorem parts_self : ∀ (ss : List Str) (ks : List Kn), Kn.parts ss ks ks = none
  | [], ks => by rw [Kn.parts]
  | _ :: _, [] => rfl
  | s :: ss, t :: r => by
    show (match t.part t with | some w => some (s :: w) | none => Kn.parts ss r r) = none
    rw [part_self t, parts_self ss r]
end
theorem parts_drop {ss : List Str} {ks ls : List Kn} {i : Nat} (h0 : i < ss.length) (h1 : i < ks.length) (h2 : i < ls.length) :
    Kn.parts (ss.drop i) (ks.drop i) (ls.drop i) = match ks[i].part ls[i] with | some w => some (ss[i] :: w) | none => Kn.parts (ss.drop (i + 1)) (ks.drop (i + 1)) (ls.drop (i + 1)) := by
  rw [List.drop_eq_getElem_cons h0, List.drop_eq_getElem_cons h1, List.drop_eq_getElem_cons h2]
  rfl
mutual
theorem way_short : ∀ (a b : Kn), ∀ w ∈ a.ways b, w.length < a.dep
  | .mk h ks, .mk g ls, w, hw => by
    have hw' : w ∈ (if h = "?" then [] else if g = "?" then [] else if h = g then Kn.wayss (stepsOf h) ks ls else [[]]) := hw
    have hd : (Kn.mk h ks).dep = 1 + Kn.deps ks := rfl
    split at hw'
    · cases hw'
    · split at hw'
      · cases hw'
      · split at hw'
        · have := wayss_short (stepsOf h) ks ls w hw'
          omega
        · rw [List.mem_singleton.mp hw', List.length_nil]
          omega
theorem wayss_short : ∀ (ss : List Str) (ks ls : List Kn), ∀ w ∈ Kn.wayss ss ks ls, w.length ≤ Kn.deps ks
  | [], _, _, _, hw => by rw [Kn.wayss] at hw; cases hw
  | _ :: _, [], _, _, hw => nomatch hw
  | _ :: _, _ :: _, [], _, hw => nomatch hw
  | s :: ss, t :: r, u :: q, w, hw => by
    have hd : Kn.deps (t :: r) = max t.dep (Kn.deps r) := rfl
    rcases List.mem_append.mp hw with z | z
    · obtain ⟨v, hv, e⟩ := List.mem_map.mp z
      subst e
      have := way_short t u v hv
      rw [List.length_cons]
      omega
    · have := wayss_short ss r q w z
      omega
end
noncomputable def wd (w : List Str) : Dk := .tup (w.map Dk.str)
noncomputable def od : Option (List Str) → Dk
  | none => .non
  | some w => wd w
end L2.Bk

end
section
set_option Elab.async false
set_option linter.all false
namespace L2.Bk
open PySem PySem.Spec PyProof.Rows L2.Bw
theorem bxpv {X : Cx} {pos : Pos} {x : Str} {v : Expr} {tv : TE} {j1 p1} {ks : List (Option Expr)} {vs : List Expr} {trs : List (TE × TE)} (hv : Bx (PE X v tv)) (r : Bx (PPs X pos ks vs trs)) : Bx (PPs X pos (some (.Constant (.str x) j1 p1) :: ks) (v :: vs) ((tC (.str x), tv) :: trs)) := ⟨pps_cons pe_str hv.out r.out⟩
theorem bxdget2 {X : Cx} {o e f : Expr} {apos cpos : Pos} {td ty tx : TE} (hu : X.A.units + 1 < cLine) (ho : Bx (PE X o td)) (he : Bx (PE X e ty)) (hf : Bx (PE X f tx)) (m : DM2 X o "get" apos e f cpos) : Bx (PE X (.Call (.Attribute o "get" apos) [e, f] [] cpos) (tDGet2 td ty tx)) := ⟨pe_dget2 hu ho.out he.out hf.out m⟩
end L2.Bk

end
section
set_option Elab.async false
set_option linter.all false
set_option maxRecDepth 100000
/-! The meet of two kinds. -/
namespace L2.Bk
open PySem PySem.Spec PyProof.Rows L2.Bw
mutual
noncomputable def Kn.both : Kn → Kn → Kn
  | .mk h ks, .mk g ls => if h = "?" then .mk g ls else if g = "?" then .mk h ks else .mk h (Kn.boths ks ls)
noncomputable def Kn.boths : List Kn → List Kn → List Kn
  | t :: r, u :: q => t.both u :: Kn.boths r q
  | [], _ => []
  | _ :: _, [] => []
end
theorem both_eq (h g : Str) (ks ls : List Kn) : (Kn.mk h ks).both (.mk g ls) = if h = "?" then .mk g ls else if g = "?" then .mk h ks else .mk h (Kn.boths ks ls) := rfl
theorem boths_length : ∀ (ks ls : List Kn), (Kn.boths ks ls).length = min ks.length ls.length
  | [], ls => by show 0 = _; simp
  | _ :: _, [] => by show 0 = _; simp
  | _ :: r, _ :: q => by show (Kn.boths r q).length + 1 = _; rw [boths_length r q]; simp
theorem boths_get : ∀ {ks ls : List Kn} {i : Nat} (h1 : i < ks.length) (h2 : i < ls.length), (Kn.boths ks ls)[i]? = some (ks[i].both ls[i])
  | _ :: _, _ :: _, 0, _, _ => rfl
  | _ :: r, _ :: q, i + 1, h1, h2 => by
    show (Kn.boths r q)[i]? = _
    exact boths_get (ks := r) (ls := q) (by simpa using h1) (by simpa using h2)
theorem boths_take : ∀ {ks ls : List Kn} {i : Nat} (h1 : i < ks.length) (h2 : i < ls.length), (Kn.boths ks ls).take (i + 1) = (Kn.boths ks ls).take i ++ [ks[i].both ls[i]] := fun {ks ls i} h1 h2 => by
  have hl : i < (Kn.boths ks ls).length := by rw [boths_length]; omega
  rw [take_snoc hl]
  have e := boths_get h1 h2
  rw [List.getElem?_eq_getElem hl] at e
  rw [Option.some.inj e]
/-- the parts of two kinds that don't part don't part -/
noncomputable def Kn.fits : List Kn → List Kn → Prop
  | t :: r, u :: q => t.part u = none ∧ Kn.fits r q
  | _, _ => True
theorem parts_none : ∀ {ss : List Str} {ks ls : List Kn}, ss.length = ks.length → ks.length = ls.length → (Kn.parts ss ks ls = none ↔ Kn.fits ks ls)
  | [], [], [], _, _ => by rw [Kn.parts]; exact ⟨fun _ => trivial, fun _ => rfl⟩
  | s :: ss, t :: r, u :: q, h1, h2 => by
    have ih := parts_none (ss := ss) (ks := r) (ls := q) (by simpa using h1) (by simpa using h2)
    show (match t.part u with | some w => some (s :: w) | none => Kn.parts ss r q) = none ↔ t.part u = none ∧ Kn.fits r q
    cases t.part u with
    | none => exact ⟨fun z => ⟨rfl, ih.mp z⟩, fun z => ih.mpr z.2⟩
    | some w => exact ⟨fun z => (nomatch z), fun z => (nomatch z.1)⟩
  | [], [], _ :: _, _, h2 => by simp at h2
  | [], _ :: _, _, h1, _ => by simp at h1
  | _ :: _, [], _, h1, _ => by simp at h1
  | _ :: _, _ :: _, [], _, h2 => by simp at h2
theorem fits_get : ∀ {ks ls : List Kn} {i : Nat} (h1 : i < ks.length) (h2 : i < ls.length), Kn.fits ks ls → ks[i].part ls[i] = none
  | _ :: _, _ :: _, 0, _, _, h => h.1
  | _ :: r, _ :: q, i + 1, h1, h2, h => fits_get (ks := r) (ls := q) (by simpa using h1) (by simpa using h2) h.2
theorem part_inv {h g : Str} {ks ls : List Kn} (wa : (Kn.mk h ks).wf) (wb : (Kn.mk g ls).wf) (e : (Kn.mk h ks).part (.mk g ls) = none) (c1 : h ≠ "?") (c2 : g ≠ "?") : h = g ∧ ks.length = ls.length ∧ Kn.fits ks ls := by
  have e' : (if h = "?" then none else if g = "?" then none else if h = g then Kn.parts (stepsOf h) ks ls else some []) = none := e
  rw [if_neg c1, if_neg c2] at e'
  by_cases c : h = g
  · subst c
    have h1 := wa.1
    have h2 := wb.1
    have el : ks.length = ls.length := by rw [h1] at h2; exact Option.some.inj h2
    rw [if_pos rfl] at e'
    exact ⟨rfl, el, (parts_none (by rw [steps_len h1]) el).mp e'⟩
  · rw [if_neg c] at e'
    cases e'
mutual
theorem both_self : ∀ (a : Kn), a.both a = a
  | .mk h ks => by
    rw [both_eq, boths_self ks]
    split
    · rfl
    · rfl
theorem boths_self : ∀ (ks : List Kn), Kn.boths ks ks = ks
  | [] => rfl
  | t :: r => by show t.both t :: Kn.boths r r = _; rw [both_self t, boths_self r]
end
theorem both_q (b : Kn) : qK.both b = b := by
  obtain ⟨g, ls⟩ := b
  exact (both_eq "?" g [] ls).trans (if_pos rfl)
theorem q_both {b : Kn} (w : b.wf) : b.both qK = b := by
  obtain ⟨g, ls⟩ := b
  show (if g = "?" then qK else if ("?" : Str) = "?" then .mk g ls else _) = _
  by_cases c : g = "?"
  · rw [if_pos c]
    have h := w.1
    rw [c] at h
    rw [List.length_eq_zero_iff.mp (arity_q h), c]
    rfl
  · rw [if_neg c, if_pos rfl]
theorem part_q (b : Kn) : qK.part b = none := by
  obtain ⟨g, ls⟩ := b
  have e : qK.part (.mk g ls) = if ("?" : Str) = "?" then none else if g = "?" then none else if ("?" : Str) = g then Kn.parts (stepsOf "?") [] ls else some [] := rfl
  exact e.trans (if_pos rfl)
end L2.Bk

end
section
set_option Elab.async false
set_option linter.all false
set_option maxRecDepth 100000
/-! Looser kinds. -/
namespace L2.Bk
open PySem PySem.Spec PyProof.Rows L2.Bw
mutual
noncomputable def Kn.loose : Kn → Kn → Bool
  | .mk h ks, .mk g ls => if g = "?" then true else if h = g then (Kn.looses ks ls).all id else false
noncomputable def Kn.looses : List Kn → List Kn → List Bool
  | t :: r, u :: q => t.loose u :: Kn.looses r q
  | [], _ => []
  | _ :: _, [] => []
end
theorem loose_eq (h g : Str) (ks ls : List Kn) : (Kn.mk h ks).loose (.mk g ls) = if g = "?" then true else if h = g then (Kn.looses ks ls).all id else false := rfl
theorem looses_length : ∀ (ks ls : List Kn), (Kn.looses ks ls).length = min ks.length ls.length
  | [], ls => by show 0 = _; simp
  | _ :: _, [] => by show 0 = _; simp
  | _ :: r, _ :: q => by show (Kn.looses r q).length + 1 = _; rw [looses_length r q]; simp
theorem looses_get : ∀ {ks ls : List Kn} {i : Nat} (h1 : i < ks.length) (h2 : i < ls.length), (Kn.looses ks ls)[i]? = some (ks[i].loose ls[i])
  | _ :: _, _ :: _, 0, _, _ => rfl
  | _ :: r, _ :: q, i + 1, h1, h2 => by
    show (Kn.looses r q)[i]? = _
    exact looses_get (ks := r) (ls := q) (by simpa using h1) (by simpa using h2)
theorem looses_take : ∀ {ks ls : List Kn} {i : Nat} (h1 : i < ks.length) (h2 : i < ls.length), (Kn.looses ks ls).take (i + 1) = (Kn.looses ks ls).take i ++ [ks[i].loose ls[i]] := fun {ks ls i} h1 h2 => by
  have hl : i < (Kn.looses ks ls).length := by rw [looses_length]; omega
  rw [take_snoc hl]
  have e := looses_get h1 h2
  rw [List.getElem?_eq_getElem hl] at e
  rw [Option.some.inj e]
mutual
theorem loose_self : ∀ (a : Kn), a.loose a = true
  | .mk h ks => by
    rw [loose_eq]
    split
    · rfl
    · rw [if_pos rfl, looses_self ks]
theorem looses_self : ∀ (ks : List Kn), (Kn.looses ks ks).all id = true
  | [] => rfl
  | t :: r => by
    show (t.loose t && (Kn.looses r r).all id) = true
    rw [loose_self t, looses_self r]; rfl
end
theorem loose_q (a : Kn) : a.loose qK = true := by obtain ⟨h, ks⟩ := a; exact (loose_eq h "?" ks []).trans (if_pos rfl)
/-- what is told there and otherwise here -/
noncomputable def off (a b : Kn) (p : List Nat) : Prop := b.headAt p ≠ "?" ∧ b.headAt p ≠ a.headAt p
end L2.Bk

end
section
set_option Elab.async false
set_option linter.all false
set_option maxRecDepth 100000
/-! == of any nested data; t + u with t empty; t * n; a dict of the module from texts to texts. -/
namespace L2.Bk
open PySem PySem.Spec PyProof.Rows L2.Bw PyProof.Rows.LSm
mutual
noncomputable def Dk.eqb : Dk → Dk → Bool
  | .tup ds, y => match y with | .tup es => eqbs ds es | _ => false
  | .non, y => match y with | .non => true | _ => false
  | .bl a, y => match y with | .bl b => a == b | .int b => (if a then 1 else 0) == b | _ => false
  | .int a, y => match y with | .int b => a == b | .bl b => a == (if b then 1 else 0) | _ => false
  | .str a, y => match y with | .str b => a == b | _ => false
noncomputable def eqbs : List Dk → List Dk → Bool
  | [], y => match y with | [] => true | _ :: _ => false
  | d :: ds, y => match y with | e :: es => d.eqb e && eqbs ds es | [] => false
end
mutual
theorem eqb_refl : ∀ (d : Dk), d.eqb d = true
  | .tup ds => by show eqbs ds ds = true; exact eqbs_refl ds
  | .non => rfl
  | .bl a => by show (a == a) = true; simp
  | .int a => by show (a == a) = true; simp
  | .str a => by show (a == a) = true; simp
theorem eqbs_refl : ∀ (ds : List Dk), eqbs ds ds = true
  | [] => rfl
  | d :: ds => by show (d.eqb d && eqbs ds ds) = true; rw [eqb_refl d, eqbs_refl ds]; rfl
end
theorem eqbs_range : ∀ (ds es : List Dk), eqbs ds es = ((List.range (min ds.length es.length)).all (fun j => (ds[j]?.getD .non).eqb (es[j]?.getD .non)) && ds.length == es.length)
  | [], [] => rfl
  | [], e :: es => by simp [eqbs]
  | d :: ds, [] => by simp [eqbs]
  | d :: ds, e :: es => by
    show (d.eqb e && eqbs ds es) = _
    rw [eqbs_range ds es]
    have m : min (d :: ds).length (e :: es).length = min ds.length es.length + 1 := by simp only [List.length_cons]; omega
    rw [m, List.range_succ_eq_map, List.all_cons, List.all_map]
    have e2 : ((d :: ds).length == (e :: es).length) = (ds.length == es.length) := by simp
    rw [e2, Bool.and_assoc]
    rfl
noncomputable def unV : Value → V
  | .none => .non | .bool b => .bl b | .int i _ => .int i | .str x _ => .str x | .bytes b _ => .byt b | .float b _ => .flt b | .ref a => .ref a | .type n => .ty n | _ => .non
theorem relV_un {x : V} {u : Value} (h : RelV x u) : unV u = x := by
  cases x with
  | non => cases (show u = Value.none from h); rfl
  | bl b => cases (show u = Value.bool b from h); rfl
  | int i => obtain ⟨t, e⟩ := (show ∃ t, u = Value.int i t from h); subst e; rfl
  | str i => obtain ⟨t, e⟩ := (show ∃ t, u = Value.str i t from h); subst e; rfl
  | byt i => obtain ⟨t, e⟩ := (show ∃ t, u = Value.bytes i t from h); subst e; rfl
  | flt i => obtain ⟨t, e⟩ := (show ∃ t, u = Value.float i t from h); subst e; rfl
  | ref a => cases (show u = Value.ref a from h); rfl
  | ty n => cases (show u = Value.type n from h); rfl
theorem relV_inj {x y : V} {u : Value} (hx : RelV x u) (hy : RelV y u) : x = y := (relV_un hx).symm.trans (relV_un hy)
theorem vals_inj : ∀ {xs ys : List V} {us : List Value}, Vals xs us → Vals ys us → xs = ys
  | _, _, _, .nil, h => by cases h; rfl
  | _, _, _, .cons r t, h => by
    cases h with
    | cons r' t' => rw [relV_inj r r', vals_inj t t']
section
variable {X : Cx}
theorem tp_det {s : Shared} {pins : List (Addr × Obj)} {σ : St} {H : Hp} (I : Inv X pins σ H s) {a : Addr} {xs ys : List V} (h1 : Tp X.K H a xs) (h2 : Tp X.K H a ys) : xs = ys := by
  obtain ⟨i1, r1, ⟨o1, e1, c1, n1, d1⟩, z1⟩ := I.tuple h1.sq
  obtain ⟨i2, r2, ⟨o2, e2, c2, n2, d2⟩, z2⟩ := I.tuple h2.sq
  rw [e1] at e2
  cases e2
  rw [d1] at d2
  injection d2 with d2
  have e : i1 = i2 := by simpa using d2
  subst e
  exact vals_inj r1 r2
mutual
theorem rk_det {s : Shared} {pins : List (Addr × Obj)} {σ : St} {H : Hp} (I : Inv X pins σ H s) : ∀ {d e : Dk} {x : V}, RK X.K H d x → RK X.K H e x → d = e
  | .tup ds, e, x, h, h2 => by
    obtain ⟨a, vs, rfl, ha, ta⟩ := RK.get h
    cases e with
    | tup es =>
      obtain ⟨b, ws, e, hb, tb⟩ := RK.get h2
      cases e
      cases tp_det I ha hb
      rw [rks_det I ta tb]
    | non => rw [RK] at h2; cases h2
    | int i => rw [RK] at h2; cases h2
    | bl i => rw [RK] at h2; cases h2
    | str i => rw [RK] at h2; cases h2
  | .non, e, x, h, h2 => by
    rw [RK] at h; subst h
    cases e with
    | tup es => obtain ⟨b, ws, e, hb, tb⟩ := RK.get h2; cases e
    | non => rfl
    | _ => (rw [RK] at h2) <;> cases h2
  | .int _, e, x, h, h2 => by
    rw [RK] at h; subst h
    cases e with
    | tup es => obtain ⟨b, ws, e, hb, tb⟩ := RK.get h2; cases e
    | _ => rw [RK] at h2; cases h2; try rfl
  | .bl _, e, x, h, h2 => by
    rw [RK] at h; subst h
    cases e with
    | tup es => obtain ⟨b, ws, e, hb, tb⟩ := RK.get h2; cases e
    | _ => rw [RK] at h2; cases h2; try rfl
  | .str _, e, x, h, h2 => by
    rw [RK] at h; subst h
    cases e with
    | tup es => obtain ⟨b, ws, e, hb, tb⟩ := RK.get h2; cases e
    | _ => rw [RK] at h2; cases h2; try rfl
theorem rks_det {s : Shared} {pins : List (Addr × Obj)} {σ : St} {H : Hp} (I : Inv X pins σ H s) : ∀ {ds es : List Dk} {xs : List V}, RKs X.K H ds xs → RKs X.K H es xs → ds = es
  | [], es, xs, h, h2 => by
    cases (show xs = [] from h)
    cases es with
    | nil => rfl
    | cons e es => obtain ⟨v, r, e, _⟩ := h2; cases e
  | d :: ds, es, xs, h, h2 => by
    obtain ⟨v, r, rfl, h, t⟩ := h
    cases es with
    | nil => cases (show v :: r = [] from h2)
    | cons e es =>
      obtain ⟨v', r', e, h', t'⟩ := h2
      cases e
      rw [rk_det I h h', rks_det I t t']
end
noncomputable def Dk.flat : Dk → Bool
  | .tup _ => false
  | _ => true
theorem flat_tup {s : Shared} {A : Around} {x : V} {u : Value} {b : Addr} {its : Array Value} (fx : flatV x = true) (ru : RelV x u) (p : s.heap.IsTuple b its) (hu : A.units < cLine) : SeqAt.EqAt A s u (.ref b) false ∧ SeqAt.EqAt A s (.ref b) u false := by
  cases x with
  | non => cases (show u = Value.none from ru); exact ⟨SeqAt.EqAt.none_tuple p hu, SeqAt.EqAt.tuple_none p hu⟩
  | bl k => cases (show u = Value.bool k from ru); exact ⟨SeqAt.EqAt.bool_tuple k p hu, SeqAt.EqAt.tuple_bool k p hu⟩
  | int k => obtain ⟨t, e⟩ := (show ∃ t, u = Value.int k t from ru); subst e; exact ⟨SeqAt.EqAt.int_tuple k t p hu, SeqAt.EqAt.tuple_int k t p hu⟩
  | str k => obtain ⟨t, e⟩ := (show ∃ t, u = Value.str k t from ru); subst e; exact ⟨SeqAt.EqAt.str_tuple k t p hu, SeqAt.EqAt.tuple_str k t p hu⟩
  | byt k => cases fx
  | flt k => cases fx
  | ref k => cases fx
  | ty k => cases fx
theorem flat_get {K : PySem.W.Frag} {H : Hp} {d : Dk} {x : V} (h : RK K H d x) : (∃ ds, d = .tup ds) ∨ (flatV x = true ∧ (∀ es, d.eqb (.tup es) = false ∧ (Dk.tup es).eqb d = false) ∧ d.dq = 0) := by
  cases d with
  | tup ds => exact .inl ⟨ds, rfl⟩
  | non => rw [RK] at h; subst h; exact .inr ⟨rfl, fun es => ⟨rfl, rfl⟩, dq_non⟩
  | int k => rw [RK] at h; subst h; exact .inr ⟨rfl, fun es => ⟨rfl, rfl⟩, dq_int _⟩
  | bl k => rw [RK] at h; subst h; exact .inr ⟨rfl, fun es => ⟨rfl, rfl⟩, dq_bl _⟩
  | str k => rw [RK] at h; subst h; exact .inr ⟨rfl, fun es => ⟨rfl, rfl⟩, dq_str _⟩
theorem flat_eqb {K : PySem.W.Frag} {H : Hp} {d e : Dk} {x y : V} (h : RK K H d x) (h2 : RK K H e y) (fx : flatV x = true) (fy : flatV y = true) : d.eqb e = eqV x y := by
  cases d with
  | tup ds => obtain ⟨a, vs, e, _⟩ := RK.get h; subst e; cases fx
  | _ =>
    rw [RK] at h
    cases e with
    | tup es => obtain ⟨a, vs, e, _⟩ := RK.get h2; subst e; cases fy
    | _ => rw [RK] at h2; subst h h2; rfl
theorem rk_eqb {s : Shared} {pins : List (Addr × Obj)} {σ : St} {H : Hp} (I : Inv X pins σ H s) : ∀ (n : Nat) {A : Around} {d e : Dk} {x y : V} {u v : Value}, d.dq ≤ n → RK X.K H d x → RK X.K H e y → RelV x u → RelV y v → A.units + n < cLine → SeqAt.EqAt A s u v (d.eqb e) := by
  intro n
  induction n with
  | zero =>
    intro A d e x y u v hn hx hy ru rv hu
    rcases flat_get hx with ⟨ds, rfl⟩ | ⟨fx, nx, dx⟩
    · have k : 1 + dqs ds ≤ 0 := hn; omega
    rcases flat_get hy with ⟨es, rfl⟩ | ⟨fy, ny, dy⟩
    · obtain ⟨b, ws, rfl, hb, tb⟩ := RK.get hy
      obtain ⟨i2, r2, p2, z2⟩ := I.tuple hb.sq
      cases rv
      rw [(nx es).1]
      exact (flat_tup fx ru p2 (by omega)).1
    · rw [flat_eqb hx hy fx fy]
      exact eqAt_V ru rv fx fy
  | succ n ih =>
    intro A d e x y u v hn hx hy ru rv hu
    rcases flat_get hx with ⟨ds, rfl⟩ | ⟨fx, nx, dx⟩
    · have hn' : 1 + dqs ds ≤ n + 1 := hn
      obtain ⟨a, vs, rfl, ha, ta⟩ := RK.get hx
      obtain ⟨i1, r1, p1, z1⟩ := I.tuple ha.sq
      rcases flat_get hy with ⟨es, rfl⟩ | ⟨fy, ny, dy⟩
      · obtain ⟨b, ws, rfl, hb, tb⟩ := RK.get hy
        cases ru; cases rv
        by_cases hab : a = b
        · subst hab
          have e1 := tp_det I ha hb
          subst e1
          rw [rks_det I ta tb]
          have e2 : (Dk.tup es).eqb (.tup es) = true := eqb_refl _
          rw [e2]
          exact SeqAt.EqAt.same _
        · obtain ⟨i2, r2, p2, z2⟩ := I.tuple hb.sq
          have l1 := r1.length
          have l2 := r2.length
          have l3 := ta.length
          have l4 := tb.length
          have key := SeqAt.RcAt.tuples (A := A) (s := s) (e := fun j => (ds[j]?.getD .non).eqb (es[j]?.getD .non)) p1 p2 (by omega) fun j h1 h2 => by
            have hjd : j < ds.length := by simp at h1; omega
            have hje : j < es.length := by simp at h2; omega
            obtain ⟨x1, e1, q1⟩ := ta.get (List.getElem?_eq_getElem hjd)
            obtain ⟨y1, e2, q2⟩ := tb.get (List.getElem?_eq_getElem hje)
            have k := dqs_mem (List.getElem_mem hjd)
            simp only [List.getElem?_eq_getElem hjd, List.getElem?_eq_getElem hje, Option.getD_some]
            exact ih (A := A.in1) (by omega) q1 q2 (item_k r1 e1 h1) (item_k r2 e2 h2) (by show A.units + 1 + n < cLine; omega)
          have val : ((List.range (min i1.toArray.size i2.toArray.size)).all (fun j => (ds[j]?.getD .non).eqb (es[j]?.getD .non)) && i1.toArray.size == i2.toArray.size) = eqbs ds es := by
            rw [eqbs_range, List.size_toArray, List.size_toArray, ← l1, ← l2, ← l3, ← l4]
          rw [val] at key
          exact SeqAt.EqAt.of_refs hab key
      · cases ru
        rw [(ny ds).2]
        exact (flat_tup fy rv p1 (by omega)).2
    · rcases flat_get hy with ⟨es, rfl⟩ | ⟨fy, ny, dy⟩
      · obtain ⟨b, ws, rfl, hb, tb⟩ := RK.get hy
        obtain ⟨i2, r2, p2, z2⟩ := I.tuple hb.sq
        cases rv
        rw [(nx es).1]
        exact (flat_tup fx ru p2 (by omega)).1
      · rw [flat_eqb hx hy fx fy]
        exact eqAt_V ru rv fx fy
theorem eqg_ok {k : Nat} (hr : Room k X.A) {s : Shared} {pins : List (Addr × Obj)} {σ : St} {H : Hp} (I : Inv X pins σ H s) {x y : V} {u v : Value} {ds es : List Dk} (hx : RK X.K H (.tup ds) x) (hy : RK X.K H (.tup es) y) (hd : dqs ds ≤ 60) (ru : RelV x u) (rv : RelV y v) : SeqAt.RcAt X.A s u v (eqbs ds es) ∧ SeqAt.RcNeAt X.A s u v (!eqbs ds es) := by
  have hu := hr.units
  obtain ⟨a, vs, rfl, ha, ta⟩ := RK.get hx
  obtain ⟨b, ws, rfl, hb, tb⟩ := RK.get hy
  cases ru; cases rv
  obtain ⟨i1, r1, p1, z1⟩ := I.tuple ha.sq
  obtain ⟨i2, r2, p2, z2⟩ := I.tuple hb.sq
  have l1 := r1.length
  have l2 := r2.length
  have l3 := ta.length
  have l4 := tb.length
  have it : ∀ j (h1 : j < i1.toArray.size) (h2 : j < i2.toArray.size), SeqAt.EqAt X.A.in1 s i1.toArray[j] i2.toArray[j] ((fun j => (ds[j]?.getD .non).eqb (es[j]?.getD .non)) j) := fun j h1 h2 => by
    have hjd : j < ds.length := by simp at h1; omega
    have hje : j < es.length := by simp at h2; omega
    obtain ⟨x1, e1, q1⟩ := ta.get (List.getElem?_eq_getElem hjd)
    obtain ⟨y1, e2, q2⟩ := tb.get (List.getElem?_eq_getElem hje)
    have k := dqs_mem (List.getElem_mem hjd)
    simp only [List.getElem?_eq_getElem hjd, List.getElem?_eq_getElem hje, Option.getD_some]
    exact rk_eqb I 60 (A := X.A.in1) (by omega) q1 q2 (item_k r1 e1 h1) (item_k r2 e2 h2) (by show X.A.units + 1 + 60 < cLine; omega)
  have e : ((List.range (min i1.toArray.size i2.toArray.size)).all (fun j => (ds[j]?.getD .non).eqb (es[j]?.getD .non)) && i1.toArray.size == i2.toArray.size) = eqbs ds es := by
    rw [eqbs_range, List.size_toArray, List.size_toArray, ← l1, ← l2, ← l3, ← l4]
  have k1 := SeqAt.RcAt.tuples (A := X.A) (s := s) p1 p2 (by omega) it
  have k2 := SeqAt.RcNeAt.tuples (A := X.A) (s := s) p1 p2 (by omega) it
  rw [e] at k1 k2
  exact ⟨k1, k2⟩
/-- == of texts and numbers, of lists as before, of any two tuples -/
noncomputable def rEqG (K : PySem.W.Frag) : R2 := fun x y H Q => (∃ ds es, RK K H (.tup ds) x ∧ RK K H (.tup es) y ∧ dqs ds ≤ 60 ∧ Q (.bl (eqbs ds es)) H) ∨ rEqK K x y H Q
noncomputable def rNeG (K : PySem.W.Frag) : R2 := fun x y H Q => (∃ ds es, RK K H (.tup ds) x ∧ RK K H (.tup es) y ∧ dqs ds ≤ 60 ∧ Q (.bl (!eqbs ds es)) H) ∨ rNeK K x y H Q
theorem op_eqG {k : Nat} (hr : Room k X.A) : OpR X (compareOp .Eq) (rEqG X.K) := by
  intro pins s σ H x y v u Q I rx ry h
  rcases h with ⟨ds, es, h1, h2, hd, q⟩ | h
  · exact (eqg_ok hr I h1 h2 hd rx ry).1 _ _ _ _ ⟨.bl _, H, I, rfl, q⟩
  · exact op_eqK hr pins s σ H x y v u Q I rx ry h
theorem op_neG {k : Nat} (hr : Room k X.A) : OpR X (compareOp .NotEq) (rNeG X.K) := by
  intro pins s σ H x y v u Q I rx ry h
  rcases h with ⟨ds, es, h1, h2, hd, q⟩ | h
  · exact (eqg_ok hr I h1 h2 hd rx ry).2 _ _ _ _ ⟨.bl _, H, I, rfl, q⟩
  · exact op_neK hr pins s σ H x y v u Q I rx ry h
/-! ### t + u -/
noncomputable def rCat0 (K : PySem.W.Frag) : R2 := fun x y H Q => ∃ a b ys, x = .ref a ∧ y = .ref b ∧ SqT K H a [] ∧ SqT K H b ys ∧ Q (.ref b) H
theorem op_cat0 : OpR X (binaryOp .Add) (rCat0 X.K) := by
  intro pins s σ H x y v u Q I rx ry h
  obtain ⟨a, b, ys, rfl, rfl, ha, hb, q⟩ := h
  cases rx
  cases ry
  obtain ⟨its, r1, p1, _⟩ := I.tuple ha
  obtain ⟨its2, r2, p2, _⟩ := I.tuple hb
  cases r1
  obtain ⟨⟨cls, dd, data, sl⟩, ho, hc, n, hd⟩ := id p1
  obtain ⟨⟨cls2, dd2, data2, sl2⟩, ho2, hc2, n2, hd2⟩ := id p2
  simp only at hc hd hc2 hd2
  subst hc hd hc2 hd2
  exact concat_meets ⟨_, ho, rfl⟩ ⟨_, ho2, rfl⟩ noFill_tuple_add seq_tuple_add PySem.F.slot_tuple_add PySem.F.entry_tuple_add (PySem.F.args_tuple_add_2 _ _)
      (tuple_addW0 a b #[] its2.toArray n n2 dd dd2 sl sl2 rfl) ⟨ho, ho2, ⟨.ref b, H, I, rfl, q⟩⟩
noncomputable def rAddG (K : PySem.W.Frag) : R2 := fun x y H Q => rCat0 K x y H Q ∨ rAddA K x y H Q
theorem op_addG : OpR X (binaryOp .Add) (rAddG X.K) := by
  intro pins s σ H x y v u Q I rx ry h
  rcases h with h | h
  · exact op_cat0 pins s σ H x y v u Q I rx ry h
  · exact op_addA pins s σ H x y v u Q I rx ry h
theorem cat_g {K : PySem.W.Frag} {H : Hp} {x y : V} {ds es : List Dk} {Q : VK} (ha : RK K H (.tup ds) x) (hb : RK K H (.tup es) y) (hz : ds.length + es.length ≤ 1000)
    (q : ∀ (v : V) (H' : Hp), Old H H' → RK K H' (.tup (ds ++ es)) v → Q v H') : rAddG K x y H Q := by
  obtain ⟨a, xs, rfl, ta, ra⟩ := RK.get ha
  obtain ⟨b, ys, rfl, tb, rb⟩ := RK.get hb
  have l1 := ra.length
  have l2 := rb.length
  cases xs with
  | nil =>
    cases (show ds = [] from List.length_eq_zero_iff.mp l1)
    exact .inl ⟨a, b, ys, rfl, rfl, ta.sq, tb.sq, q _ H (Old.refl _) (RK.tup tb rb)⟩
  | cons x r => exact .inr (addT (cat_k ta tb ra rb (by simp) (by omega) fun c H' o r => q _ H' o r))
end
end L2.Bk
namespace PySem
open Sem (wp)
theorem noFill_tuple_mul : fillsNumberSlot (.type "tuple") "mul" = pure false :=
  fillsNumberSlot_seq (id := "tuple.__mul__") (r := some (.builtin "tuple.__rmul__")) F.slot_tuple_mul.lookup (by decide +kernel) F.slot_tuple_rmul.lookup (by decide +kernel)
theorem repeat_tuple : seqRepeat? (.type "tuple") = pure (some (.builtin "tuple.__mul__")) := by
  unfold seqRepeat?
  rw [seqSlot_of (T := "tuple") (name := "__mul__") (id := "tuple.__mul__") F.slot_tuple_mul.lookup (by decide +kernel), seqSlot_of (T := "tuple") (name := "__rmul__") (id := "tuple.__rmul__") F.slot_tuple_rmul.lookup (by decide +kernel)]
  rfl
theorem int_rmul_tuple (a : Int) (t : Tok) (l : Addr) (items : Array Value) (n : Nat) (dd : Option Addr) (sl : Array (Option Value)) :
    Meets (Builtin.«int.__rmul__» ⟨[.int a t, .ref l], []⟩) (fun _ R s => s.heap.get? l = some { cls := .type "tuple", dict := dd, data := .seq items n, slots := sl } ∧ R (.ok (.ret Value.notImplemented)) s) :=
  .of_wp fun prog w A R s h => by obtain ⟨hp, g, d, tk, os⟩ := s; obtain ⟨hl, h⟩ := h; wp_walk; exact ⟨_, rfl, h⟩
theorem tuple_mul1 (l : Addr) (v : Value) (n : Nat) (u : Tok) (dd : Option Addr) (sl : Array (Option Value)) :
    Meets (Builtin.«tuple.__mul__» ⟨[.ref l, .int 1 u], []⟩) (fun _ R s => s.heap.get? l = some { cls := .type "tuple", dict := dd, data := .seq #[v] n, slots := sl } ∧ R (.ok (.ret (.ref l))) s) :=
  .of_wp fun prog w A R s h => by obtain ⟨hp, g, d, tk, os⟩ := s; obtain ⟨hl, h⟩ := h; have f1 := AutoSeq1.idx_int; wp_walk using wpAny_loadPart' hl; exact ⟨_, rfl, h⟩
theorem tuple_mul0 (l : Addr) (v : Value) (n : Nat) (u : Tok) (dd : Option Addr) (sl : Array (Option Value)) :
    Meets (Builtin.«tuple.__mul__» ⟨[.ref l, .int 0 u], []⟩) (fun _ R s => s.heap.get? l = some { cls := .type "tuple", dict := dd, data := .seq #[v] n, slots := sl } ∧ R (.ok (.ret (.ref s.heap.objs.size))) { s with heap := s.heap.push { cls := .type "tuple", data := .seq #[] } }) :=
  .of_wp fun prog w A R s h => by obtain ⟨hp, g, d, tk, os⟩ := s; obtain ⟨hl, h⟩ := h; have f1 := AutoSeq1.idx_int; wp_walk using wpAny_loadPart' hl; exact ⟨_, rfl, h⟩
theorem tuple_mul2 (l : Addr) (v : Value) (n : Nat) (u : Tok) (dd : Option Addr) (sl : Array (Option Value)) :
    Meets (Builtin.«tuple.__mul__» ⟨[.ref l, .int 2 u], []⟩) (fun _ R s => s.heap.get? l = some { cls := .type "tuple", dict := dd, data := .seq #[v] n, slots := sl } ∧ R (.ok (.ret (.ref s.heap.objs.size))) { s with heap := s.heap.push { cls := .type "tuple", data := .seq #[v, v] } }) :=
  .of_wp fun prog w A R s h => by obtain ⟨hp, g, d, tk, os⟩ := s; obtain ⟨hl, h⟩ := h; have f1 := AutoSeq1.idx_int; wp_walk using wpAny_loadPart' hl; exact ⟨_, rfl, h⟩
end PySem
namespace L2.Bk
open PySem PySem.Spec PyProof.Rows L2.Bw
section
variable {X : Cx}
/-- (x,) * n, n at most 2 -/
noncomputable def rRep (K : PySem.W.Frag) : R2 := fun x y H Q => ∃ a v i, x = .ref a ∧ y = .int i ∧ SqT K H a [v] ∧ ((i = 1 ∧ Q (.ref a) H) ∨ (i = 0 ∧ ∀ p, H p = none → Q (.ref p) (upd H p (.tup []))) ∨ (i = 2 ∧ ∀ p, H p = none → Q (.ref p) (upd H p (.tup [v, v]))))
theorem op_rep : OpR X (binaryOp .Mult) (rRep X.K) := by
  intro pins s σ H x y v u Q I rx ry h
  obtain ⟨a, v1, i, rfl, rfl, ha, h⟩ := h
  cases rx
  obtain ⟨tk, rfl⟩ := ry
  obtain ⟨its, r1, p1, _⟩ := I.tuple ha
  obtain ⟨u1, e1, ru1⟩ := Vals.one r1
  subst e1
  obtain ⟨⟨cls, dd, data, sl⟩, ho, hc, n, hd⟩ := id p1
  simp only at hc hd
  subst hc hd
  refine wpAny_binaryOp_repeat_ref (T := "tuple") (U := "int") (by decide) ⟨_, ho, rfl⟩ (fun s' => typeIs_int s' i tk) noFill_tuple_mul PySem.F.fills_int_mul PySem.F.slot_int_rmul repeat_tuple PySem.F.slot_int_index.lookup ?_
  refine call_meets PySem.F.slot_int_rmul (typeIs_int s i tk) PySem.F.entry_int_rmul (PySem.F.args_int_rmul_2 _ _) (int_rmul_tuple i tk a #[u1] n dd sl) ⟨ho, rfl, ⟨_, ho, rfl⟩, ?_⟩
  rcases h with ⟨rfl, q⟩ | ⟨rfl, q⟩ | ⟨rfl, q⟩
  · exact call_meets PySem.F.slot_tuple_mul ⟨_, ho, rfl⟩ PySem.F.entry_tuple_mul (PySem.F.args_tuple_mul_2 _ _) (tuple_mul1 a u1 n tk dd sl) ⟨ho, .ref a, H, I, rfl, q⟩
  · refine call_meets PySem.F.slot_tuple_mul ⟨_, ho, rfl⟩ PySem.F.entry_tuple_mul (PySem.F.args_tuple_mul_2 _ _) (tuple_mul0 a u1 n tk dd sl) ⟨ho, ?_⟩
    refine ⟨.ref s.heap.objs.size, _, I.laid (t' := s.toks) (o := .tup []) (fun b ob q => Heap.get?_push_of_some _ q) (Nat.le_refl _) ?_, rfl, q _ (I.hok.fresh (Nat.le_refl _))⟩
    exact ⟨by show 0 ≤ sizeLine; decide, [], .nil, IsTup.new _ _⟩
  · refine call_meets PySem.F.slot_tuple_mul ⟨_, ho, rfl⟩ PySem.F.entry_tuple_mul (PySem.F.args_tuple_mul_2 _ _) (tuple_mul2 a u1 n tk dd sl) ⟨ho, ?_⟩
    refine ⟨.ref s.heap.objs.size, _, I.laid (t' := s.toks) (o := .tup [v1, v1]) (fun b ob q => Heap.get?_push_of_some _ q) (Nat.le_refl _) ?_, rfl, q _ (I.hok.fresh (Nat.le_refl _))⟩
    exact ⟨by show 2 ≤ sizeLine; decide, [u1, u1], .cons ru1 (.cons ru1 .nil), IsTup.new _ _⟩
noncomputable def rMulG (K : PySem.W.Frag) : R2 := fun x y H Q => rRep K x y H Q ∨ (rI CMul fun i j => .int (i * j)) x y H Q
theorem op_mulG : OpR X (binaryOp .Mult) (rMulG X.K) := by
  intro pins s σ H x y v u Q I rx ry h
  rcases h with h | h
  · exact op_rep pins s σ H x y v u Q I rx ry h
  · exact op_mul pins s σ H x y v u Q I rx ry h
/-! ### a dict of the module from texts to texts -/
end
end L2.Bk

end
section
set_option Elab.async false
set_option linter.all false
set_option maxRecDepth 100000
/-! Looks. -/
namespace L2.Bk
open PySem PySem.Spec PyProof.Rows L2.Bw
structure Lb where
  p : Int
  s : Str
  w : List Str
noncomputable def Lb.d (l : Lb) : Dk := .tup [.int l.p, .str l.s, wd l.w]
noncomputable abbrev Gd := Kn × Lb
noncomputable def gdd (g : Gd) : Dk := .tup [g.1.d, g.2.d]
noncomputable def ogd : Option Gd → Dk
  | none => .non
  | some g => gdd g
inductive Lk where
  | mk (a : Option Gd) (h : Str) (ls : List Lk) (t : Option Gd)
  | br (a : Option Gd) (t2 a2 : Gd)
noncomputable def brd (t a : Gd) : Dk := .tup [.str "broken", gdd t, gdd a]
mutual
noncomputable def Lk.d : Lk → Dk
  | .mk a h ls t => .tup [ogd a, .tup (.str h :: Lk.ds ls), ogd t]
  | .br a t2 a2 => .tup [ogd a, brd t2 a2, .non]
noncomputable def Lk.ds : List Lk → List Dk
  | [] => []
  | x :: r => x.d :: Lk.ds r
end
noncomputable def stillL : Lk := .mk none "same" [] none
/-! ### labels -/
noncomputable def other (s : Str) : Str := if s = "in" then "out" else "in"
noncomputable def Lb.on (l : Lb) (s : Str) : Lb := ⟨l.p, if s = "arg" then other l.s else l.s, l.w ++ [s]⟩
noncomputable def sides : List Str := ["in", "out"]
/-! ### the look from a kind to another -/
noncomputable def gr (a : Kn) : Kn := .mk a.h (List.replicate a.ks.length qK)
noncomputable def Lk.still : Lk → Bool
  | .mk none h [] none => decide (h = "same")
  | _ => false
noncomputable def wrapH (h : Str) (ls : List Lk) : Str := if ls.all Lk.still then "same" else h
noncomputable def wrapL (ls : List Lk) : List Lk := if ls.all Lk.still then [] else ls
/-! ### how deep, how wide -/
noncomputable def Lb.ok (l : Lb) (n : Nat) : Prop := l.s ∈ sides ∧ l.w.length ≤ n
noncomputable def Gd.ok (g : Gd) : Prop := g.1.wf ∧ g.1.dep ≤ 20 ∧ g.2.w.length ≤ 1000
end L2.Bk
namespace L2.Bk
open PySem PySem.Spec PyProof.Rows L2.Bw
noncomputable def Gd.oks : Option Gd → Prop
  | none => True
  | some g => Gd.ok g
noncomputable def Lk.ok : Nat → Lk → Prop
  | 0, _ => False
  | n + 1, .mk a h ls t => Gd.oks a ∧ Gd.oks t ∧ ls.length ≤ 2 ∧ (∀ x ∈ ls, Lk.ok n x) ∧ (h = "same" → ls = []) ∧ h ≠ "broken"
  | _ + 1, .br a t k => Gd.oks a ∧ Gd.ok t ∧ Gd.ok k
end L2.Bk

end
section
set_option Elab.async false
set_option linter.all false
set_option maxRecDepth 100000
/-! zip of two tuples, walked by pairs. -/
namespace PySem
section
variable {prog : Program} {w : World} {A : Around} {E : Value → Shared → Prop} {s : Shared}
theorem zt_item {z TI TO i1 i2 t b : Addr} {k : Nat} {xs ys : Array Value} {x y a0 b0 : Value} {Q : Value → Shared → Prop} (D : ZipApart z TI TO i1 i2 t b) (hz : IsZip s.heap z TI TO .none) (hTI : IsPair s.heap TI (.ref i1) (.ref i2)) (hTO : IsPair s.heap TO a0 b0)
    (h1 : s.heap.IsTupleIter i1 t k) (h2 : s.heap.IsTupleIter i2 b k) (hl1 : s.heap.IsTuple t xs) (hl2 : s.heap.IsTuple b ys) (hx : xs[k]? = some x) (hy : ys[k]? = some y)
    (hQ : ∀ h', IsZip h' z TI TO (rawInt s.heap.objs.size) → IsPair h' TO x y → h'.IsTupleIter i1 t (k + 1) → h'.IsTupleIter i2 b (k + 1) → IsPair h' s.heap.objs.size x y → h'.objs.size = s.heap.objs.size + 1 →
      (∀ d o, d ≠ z → d ≠ TO → d ≠ i1 → d ≠ i2 → s.heap.get? d = some o → h'.get? d = some o) → Q (.ref s.heap.objs.size) { s with heap := h' }) :
    wpAny (model prog w) A (Builtin.«zip.__next__» ⟨[.ref z], []⟩) (fun fin s' => ∃ v, fin = .done (.ret v) ∧ Q v s') E s := by
  show wpAny _ _ (field (.ref z) 2 >>= _) _ _ _; refine wpAny_bind (wpAny_field hz rfl (x := .bool false) rfl ?_)
  show wpAny _ _ (field (.ref z) 3 >>= _) _ _ _; refine wpAny_bind (wpAny_field hz rfl (x := .ref TI) rfl ?_)
  refine wpAny_bind (wpAny_seqItems hTI rfl ?_); show wpAny _ _ (Builtin.SmallTypes.ownedTupleIsFree (.ref z) >>= _) _ _ _
  refine wpAny_bind ?_; unfold Builtin.SmallTypes.ownedTupleIsFree; refine wpAny_bind (wpAny_field hz rfl (x := .none) rfl (wpAny_pure ?_)); simp only [if_true]
  refine wpAny_bind (wpAny_rule ?_); refine wpAny_bind (wpAny_field hz rfl (x := .ref TO) rfl ?_); refine wpAny_bind (wpAny_setField_rec hz (by simp) fun h₁ hz₁ hs₁ => ?_)
  replace hz₁ : IsZip h₁ z TI TO .ellipsis := hz₁
  refine wpAny_bind ?_; simp only [List.zipIdx_cons, List.zipIdx_nil, List.forIn_cons, List.forIn_nil]
  refine wpAny_bind (wpAny_bind (wpAny_onRaise ?_)); show wpAny _ _ (Builtin.SmallTypes.nextOf (.ref i1) >>= _) _ _ _
  refine wpAny_bind (tup_nextOf_item (h1.extBut hs₁.extBut D.i1z) (hl1.extBut hs₁.extBut D.l1z) hx fun h₂ h1₂ hs₂ => wpAny_pure ?_)
  have hTO₂ : IsPair h₂ TO a0 b0 := hs₂.extBut _ _ D.TOi1 (hs₁.extBut _ _ D.TOz hTO)
  refine wpAny_bind (wpAny_seqItems hTO₂ rfl ?_); refine wpAny_bind (wpAny_updateSeq_pair hTO₂ fun h₃ hTO₃ hs₃ => ?_)
  replace hTO₃ : IsPair h₃ TO x b0 := hTO₃
  refine wpAny_bind (wpAny_letGo (wpAny_pure ?_)); refine wpAny_bind (wpAny_bind (wpAny_onRaise ?_)); show wpAny _ _ (Builtin.SmallTypes.nextOf (.ref i2) >>= _) _ _ _
  refine wpAny_bind (tup_nextOf_item (((h2.extBut hs₁.extBut D.i2z).extBut hs₂.extBut D.i12.symm).extBut hs₃.extBut D.TOi2.symm) (((hl2.extBut hs₁.extBut D.l2z).extBut hs₂.extBut D.l2i1).extBut hs₃.extBut D.l2TO) hy fun h₄ h2₄ hs₄ => wpAny_pure ?_)
  have hTO₄ : IsPair h₄ TO x b0 := hs₄.extBut _ _ D.TOi2 hTO₃
  refine wpAny_bind (wpAny_seqItems hTO₄ rfl ?_); refine wpAny_bind (wpAny_updateSeq_pair hTO₄ fun h₇ hTO₇ hs₇ => ?_)
  replace hTO₇ : IsPair h₇ TO x y := hTO₇
  refine wpAny_bind (wpAny_letGo (wpAny_pure (wpAny_pure ?_))); refine wpAny_bind (wpAny_seqItems hTO₇ rfl ?_); refine wpAny_bind (wpAny_newTuple ?_)
  have hsz : h₇.objs.size = s.heap.objs.size := by rw [hs₇.1, hs₄.1, hs₃.1, hs₂.1, hs₁.1]
  have hz₇ : IsZip h₇ z TI TO .ellipsis := hs₇.extBut _ _ D.TOz.symm (hs₄.extBut _ _ D.i2z.symm (hs₃.extBut _ _ D.TOz.symm (hs₂.extBut _ _ D.i1z.symm hz₁)))
  have hk₇ : ∀ d o, d ≠ z → d ≠ TO → d ≠ i1 → d ≠ i2 → s.heap.get? d = some o → h₇.get? d = some o := fun d o c1 c2 c3 c4 e => hs₇.extBut _ _ c2 (hs₄.extBut _ _ c4 (hs₃.extBut _ _ c2 (hs₂.extBut _ _ c3 (hs₁.extBut _ _ c1 e))))
  have h1₇ : h₇.IsTupleIter i1 t (k + 1) := ((h1₂.extBut hs₃.extBut D.TOi1.symm).extBut hs₄.extBut D.i12).extBut hs₇.extBut D.TOi1.symm
  have h2₇ : h₇.IsTupleIter i2 b (k + 1) := h2₄.extBut hs₇.extBut D.TOi2.symm
  have hzlt : z < h₇.objs.size := Heap.lt_size hz₇
  show wpAny _ _ (Builtin.SmallTypes.ownedTupleHandOut (.ref z) (.ref h₇.objs.size) >>= _) _ _ _
  refine wpAny_bind ?_; unfold Builtin.SmallTypes.ownedTupleHandOut
  have hz₈ : IsZip (h₇.push { cls := .type "tuple", data := .seq #[x, y] }) z TI TO .ellipsis := Heap.get?_push_of_some _ hz₇
  refine wpAny_bind (wpAny_setField_rec hz₈ (by simp) fun h₉ hz₉ hs₉ => ?_)
  replace hz₉ : IsZip h₉ z TI TO (rawInt h₇.objs.size) := hz₉
  refine wpAny_setField_rec hz₉ (by simp) fun hA hzA hsA => ?_
  replace hzA : IsZip hA z TI TO (rawInt h₇.objs.size) := hzA
  have up : ∀ d o, d ≠ z → h₇.get? d = some o → hA.get? d = some o := fun d o c1 e => hsA.extBut _ _ c1 (hs₉.extBut _ _ c1 (Heap.get?_push_of_some _ e))
  have hTA : IsPair hA h₇.objs.size x y := hsA.extBut _ _ (Nat.ne_of_gt hzlt) (hs₉.extBut _ _ (Nat.ne_of_gt hzlt) (Heap.get?_push_size _ rfl))
  have hzA8 : hA.objs.size = h₇.objs.size + 1 := by rw [hsA.1, hs₉.1, Heap.size_push]
  rw [hsz] at hzA hTA hzA8
  refine wpAny_pure ⟨_, rfl, ?_⟩
  show Q (.ref h₇.objs.size) _
  rw [hsz]
  exact hQ hA hzA (up _ _ D.TOz hTO₇) (h1₇.at fun o e => up _ o D.i1z e) (h2₇.at fun o e => up _ o D.i2z e) hTA hzA8 fun d o c1 c2 c3 c4 e => up d o c1 (hk₇ d o c1 c2 c3 c4 e)
/-- the first one ends -/
theorem zt_end {z TI TO i1 i2 t b : Addr} {k : Nat} {xs : Array Value} {Q : Fin → Shared → Prop} (hh : A.handled = none) (D : ZipApart z TI TO i1 i2 t b) (hz : IsZip s.heap z TI TO .none) (hTI : IsPair s.heap TI (.ref i1) (.ref i2))
    (h1 : s.heap.IsTupleIter i1 t k) (hl1 : s.heap.IsTuple t xs) (hx : xs[k]? = none)
    (hE : ∀ h' e, (∀ d o, d ≠ z → d ≠ i1 → s.heap.get? d = some o → h'.get? d = some o) → (∃ o, h'.get? e = some o ∧ o.cls = .type "StopIteration") → E (.ref e) { s with heap := h' }) :
    wpAny (model prog w) A (Builtin.«zip.__next__» ⟨[.ref z], []⟩) Q E s := by
  show wpAny _ _ (field (.ref z) 2 >>= _) _ _ _; refine wpAny_bind (wpAny_field hz rfl (x := .bool false) rfl ?_)
  show wpAny _ _ (field (.ref z) 3 >>= _) _ _ _; refine wpAny_bind (wpAny_field hz rfl (x := .ref TI) rfl ?_)
  refine wpAny_bind (wpAny_seqItems hTI rfl ?_); show wpAny _ _ (Builtin.SmallTypes.ownedTupleIsFree (.ref z) >>= _) _ _ _
  refine wpAny_bind ?_; unfold Builtin.SmallTypes.ownedTupleIsFree; refine wpAny_bind (wpAny_field hz rfl (x := .none) rfl (wpAny_pure ?_)); simp only [if_true]
  refine wpAny_bind (wpAny_rule ?_); refine wpAny_bind (wpAny_field hz rfl (x := .ref TO) rfl ?_); refine wpAny_bind (wpAny_setField_rec hz (by simp) fun h₁ hz₁ hs₁ => ?_)
  replace hz₁ : IsZip h₁ z TI TO .ellipsis := hz₁
  refine wpAny_bind ?_; simp only [List.zipIdx_cons, List.zipIdx_nil, List.forIn_cons, List.forIn_nil]
  refine wpAny_bind (wpAny_bind (wpAny_onRaise ?_)); show wpAny _ _ (Builtin.SmallTypes.nextOf (.ref i1) >>= _) _ _ _
  refine wpAny_bind (tup_nextOf_end hh (h1.extBut hs₁.extBut D.i1z) (hl1.extBut hs₁.extBut D.l1z) hx fun h₂ e hs₂ he => ?_)
  obtain ⟨oe, hoe, hce⟩ := he
  have hz₂ : IsZip h₂ z TI TO .ellipsis := hs₂ _ _ D.i1z.symm hz₁
  have hez : e ≠ z := fun x => by subst x; rw [hz₂] at hoe; cases hoe; simp at hce
  exact wpAny_setField_rec hz₂ (by simp) fun h₃ _ hs₃ => hE h₃ e (fun d o c1 c3 x => hs₃.extBut _ _ c1 (hs₂ _ _ c3 (hs₁.extBut _ _ c1 x))) ⟨oe, hs₃.extBut _ _ hez hoe, hce⟩
theorem zt_pyNext_item {z TI TO i1 i2 t b : Addr} {k : Nat} {xs ys : Array Value} {x y a0 b0 : Value} {Q : Option Value → Shared → Prop} (D : ZipApart z TI TO i1 i2 t b) (hz : IsZip s.heap z TI TO .none) (hTI : IsPair s.heap TI (.ref i1) (.ref i2)) (hTO : IsPair s.heap TO a0 b0)
    (h1 : s.heap.IsTupleIter i1 t k) (h2 : s.heap.IsTupleIter i2 b k) (hl1 : s.heap.IsTuple t xs) (hl2 : s.heap.IsTuple b ys) (hx : xs[k]? = some x) (hy : ys[k]? = some y)
    (hQ : ∀ h', IsZip h' z TI TO (rawInt s.heap.objs.size) → IsPair h' TO x y → h'.IsTupleIter i1 t (k + 1) → h'.IsTupleIter i2 b (k + 1) → IsPair h' s.heap.objs.size x y → h'.objs.size = s.heap.objs.size + 1 →
      (∀ d o, d ≠ z → d ≠ TO → d ≠ i1 → d ≠ i2 → s.heap.get? d = some o → h'.get? d = some o) → Q (some (.ref s.heap.objs.size)) { s with heap := h' }) : wpAny (model prog w) A (pyNext (.ref z)) Q E s := by
  have hT : s.TypeIs (.ref z) "zip" := ⟨_, hz, rfl⟩
  unfold pyNext
  exact wpAny_bind (wpAny_attempt (wpAny_callSpecial?_slot (name := Str.ofString "__next__") hT F.slot_zip_next (wpAny_call_entry F.slot_zip_next hT F.entry_zip_next
      (zt_item D hz hTI hTO h1 h2 hl1 hl2 hx hy fun h' a1 a2 a3 a4 a5 a6 a7 => wpAny_pure (hQ h' a1 a2 a3 a4 a5 a6 a7)) (F.args_zip_next_1 _))))
theorem zt_pyNext_end {z TI TO i1 i2 t b : Addr} {k : Nat} {xs : Array Value} {Q : Option Value → Shared → Prop} (hh : A.handled = none) (D : ZipApart z TI TO i1 i2 t b) (hz : IsZip s.heap z TI TO .none) (hTI : IsPair s.heap TI (.ref i1) (.ref i2))
    (h1 : s.heap.IsTupleIter i1 t k) (hl1 : s.heap.IsTuple t xs) (hx : xs[k]? = none) (hQ : ∀ h', (∀ d o, d ≠ z → d ≠ i1 → s.heap.get? d = some o → h'.get? d = some o) → Q none { s with heap := h' }) : wpAny (model prog w) A (pyNext (.ref z)) Q E s := by
  have hT : s.TypeIs (.ref z) "zip" := ⟨_, hz, rfl⟩
  unfold pyNext
  refine wpAny_bind (wpAny_attempt (wpAny_callSpecial?_slot (name := Str.ofString "__next__") hT F.slot_zip_next (wpAny_call_entry F.slot_zip_next hT F.entry_zip_next (zt_end hh D hz hTI h1 hl1 hx fun h' e hk he => ?_) (F.args_zip_next_1 _))))
  obtain ⟨o, ho, hc⟩ := he
  refine wpAny_bind (wpAny_isInstance (T := "StopIteration") (b := true) ⟨o, ho, hc⟩ isSubtype_stop ?_)
  exact wpAny_pure (hQ _ hk)
end
noncomputable abbrev ztH1 (h : Heap) (t : Addr) : Heap := h.push { cls := .type "tuple_iterator", data := .fields #[.ref t, .int 0 0] }
noncomputable abbrev ztH2 (h : Heap) (t b : Addr) : Heap := (ztH1 h t).push { cls := .type "tuple_iterator", data := .fields #[.ref b, .int 0 0] }
noncomputable abbrev ztH3 (h : Heap) (t b : Addr) : Heap := (ztH2 h t b).push { cls := .type "tuple", data := .seq #[.ref h.objs.size, .ref (ztH1 h t).objs.size] }
noncomputable abbrev ztH4 (h : Heap) (t b : Addr) : Heap := (ztH3 h t b).push { cls := .type "tuple", data := .seq #[.none, .none] }
noncomputable abbrev ztH5 (h : Heap) (t b : Addr) : Heap := (ztH4 h t b).push { cls := .type "zip", data := .fields #[.none, .bool false, .bool false, .ref (ztH2 h t b).objs.size, .ref (ztH3 h t b).objs.size] }
theorem zt_new (t b : Addr) (xs ys : Array Value) :
    Meets (Builtin.«zip.__new__» ⟨[.type "zip", .ref t, .ref b], []⟩) (fun _ R s => s.heap.IsTuple t xs ∧ s.heap.IsTuple b ys ∧ R (.ok (.ret (.ref (ztH4 s.heap t b).objs.size))) { s with heap := ztH5 s.heap t b }) :=
  .of_wp fun prog w A R s h => by
    obtain ⟨hp, g, d, tk, os⟩ := s; obtain ⟨hl1, hl2, h⟩ := h
    have hsub := sub_zip
    have hL1 : Heap.IsTuple (Shared.heap ⟨hp, g, d, tk, os⟩) t xs := hl1
    have hL2 : Heap.IsTuple (Shared.heap ⟨hp.push { cls := .type "tuple_iterator", data := .fields #[.ref t, .int 0 0] }, g, d, tk, os⟩) b ys := Heap.IsTuple.push hl2 _
    wp_walk using wpAny_pyIter_tuple hL1, wpAny_pyIter_tuple hL2
    exact ⟨_, rfl, h⟩
section
variable {prog : Program} {w : World} {A : Around} {E : Value → Shared → Prop} {s : Shared}
theorem call_zip_t {t b : Addr} {xs ys : Array Value} {Q : Value → Shared → Prop} (hl1 : s.heap.IsTuple t xs) (hl2 : s.heap.IsTuple b ys)
    (h : ∀ h', IsZip h' (s.heap.objs.size + 4) (s.heap.objs.size + 2) (s.heap.objs.size + 3) .none → IsPair h' (s.heap.objs.size + 2) (.ref s.heap.objs.size) (.ref (s.heap.objs.size + 1)) →
      IsPair h' (s.heap.objs.size + 3) .none .none → h'.IsTupleIter s.heap.objs.size t 0 → h'.IsTupleIter (s.heap.objs.size + 1) b 0 → (∀ d o, s.heap.get? d = some o → h'.get? d = some o) → Q (.ref (s.heap.objs.size + 4)) { s with heap := h' }) :
    wpAny (model prog w) A (call (.type "zip") [.ref t, .ref b]) Q E s := by
  refine callType_new F.called_zip (by decide) (F.typeCall_zip_2 _ _) (F.newCall_zip_2 _ _) (fun obj => F.args_object_init_3 obj _ _) F.entry_zip_new (zt_new t b xs ys) ⟨hl1, hl2, ?_⟩
  have z1 : (ztH1 s.heap t).objs.size = s.heap.objs.size + 1 := Heap.size_push ..
  have z2 : (ztH2 s.heap t b).objs.size = s.heap.objs.size + 2 := by rw [Heap.size_push, z1]
  have z3 : (ztH3 s.heap t b).objs.size = s.heap.objs.size + 3 := by rw [Heap.size_push, z2]
  have z4 : (ztH4 s.heap t b).objs.size = s.heap.objs.size + 4 := by rw [Heap.size_push, z3]
  have g5 : (ztH5 s.heap t b).get? (ztH4 s.heap t b).objs.size = some _ := Heap.get?_push_size _ rfl
  have g4 : (ztH5 s.heap t b).get? (ztH3 s.heap t b).objs.size = some _ := Heap.get?_push_of_some _ (Heap.get?_push_size _ rfl)
  have g3 : (ztH5 s.heap t b).get? (ztH2 s.heap t b).objs.size = some _ := Heap.get?_push_of_some _ (Heap.get?_push_of_some _ (Heap.get?_push_size _ rfl))
  have g2 : (ztH5 s.heap t b).get? (ztH1 s.heap t).objs.size = some _ := Heap.get?_push_of_some _ (Heap.get?_push_of_some _ (Heap.get?_push_of_some _ (Heap.get?_push_size _ rfl)))
  have g1 : (ztH5 s.heap t b).get? s.heap.objs.size = some _ := Heap.get?_push_of_some _ (Heap.get?_push_of_some _ (Heap.get?_push_of_some _ (Heap.get?_push_of_some _ (Heap.get?_push_size _ rfl))))
  show _ ∧ _
  rw [z2, z3, z4] at g5
  rw [z1, z2] at g3
  rw [z3] at g4
  rw [z1] at g2
  rw [z4]
  exact ⟨⟨_, g5, rfl⟩, h _ g5 g3 g4 ⟨_, g1, rfl, rfl⟩ ⟨_, g2, rfl, rfl⟩ fun d o x => Heap.get?_push_of_some _ (Heap.get?_push_of_some _ (Heap.get?_push_of_some _ (Heap.get?_push_of_some _ (Heap.get?_push_of_some _ x))))⟩
end
end PySem
namespace L2.Bk
open PySem PySem.Spec PyProof.Rows L2.Bw
noncomputable def Itzt (K : PySem.W.Frag) (a b : Addr) : It where
  go := fun i H => ∃ xs ys, SqT K H a xs ∧ SqT K H b ys ∧ i < xs.length ∧ i < ys.length
  yld := fun i H v H' => ∃ T x y, v = .ref T ∧ H T = none ∧ H' = upd H T (.tup [x, y]) ∧ (∀ xs, SqT K H a xs → xs[i]? = some x) ∧ ∀ ys, SqT K H b ys → ys[i]? = some y
  stop := fun i H => ∃ xs ys, SqT K H a xs ∧ SqT K H b ys ∧ i = xs.length
theorem turn_zipt {P : Program} {w : World} {K : PySem.W.Frag} {es : List Expr} {k : Nat} {tp : Pos} (t b z TI TO i1 i2 : Addr) (hap : z ≠ TI ∧ z ≠ TO ∧ z ≠ i1 ∧ z ≠ i2 ∧ TI ≠ TO ∧ TI ≠ i1 ∧ TI ≠ i2 ∧ TO ≠ i1 ∧ TO ≠ i2 ∧ i1 ≠ i2) :
    Turn P w K (.Tuple es k tp) (Itzt K t b) [z, TI, TO, i1, i2] z (fun i h => IsZip h z TI TO .none ∧ IsPair h TI (.ref i1) (.ref i2) ∧ (∃ u v, IsPair h TO u v) ∧ h.IsTupleIter i1 t i ∧ h.IsTupleIter i2 b i) where
  mem := by simp
  obj := fun i h st d hd => by
    obtain ⟨h1, h2, ⟨u, v, h3⟩, ⟨o4, e4, c4, d4⟩, ⟨o5, e5, c5, d5⟩⟩ := st
    have hd' : d = z ∨ d = TI ∨ d = TO ∨ d = i1 ∨ d = i2 := by simpa using hd
    rcases hd' with rfl | rfl | rfl | rfl | rfl
    · exact ⟨_, h1, fun v q => by cases (show Data.fields _ = Data.cell v from q)⟩
    · exact ⟨_, h2, fun v q => by cases (show Data.seq _ _ = Data.cell v from q)⟩
    · exact ⟨_, h3, fun v q => by cases (show Data.seq _ _ = Data.cell v from q)⟩
    · exact ⟨o4, e4, fun v q => by rw [d4] at q; cases q⟩
    · exact ⟨o5, e5, fun v q => by rw [d5] at q; cases q⟩
  keep := fun i h h' st kp => by
    obtain ⟨h1, h2, ⟨u, v, h3⟩, h4, h5⟩ := st
    exact ⟨kp z (by simp) _ h1, kp TI (by simp) _ h2, ⟨u, v, kp TO (by simp) _ h3⟩, h4.at fun o e => kp i1 (by simp) o e, h5.at fun o e => kp i2 (by simp) o e⟩
  item := by
    intro X hP hw hK hc i pins s σ H E I hf st hg
    subst hP hw hK
    obtain ⟨us, xs, hu, hx, l0, l1⟩ := hg
    obtain ⟨its0, r0, p0, z0⟩ := I.tuple hu
    obtain ⟨its1, r1, p1, z1⟩ := I.tuple hx
    obtain ⟨h1, h2, h3, h4, h5⟩ := st
    have D : ZipApart z TI TO i1 i2 t b := zip_apart hap (fun d hd => off_ofT I (hf d hd) hu) (fun d hd => off_ofT I (hf d hd) hx)
    obtain ⟨uv, euv, ru⟩ := r0.get (List.getElem?_eq_getElem l0)
    obtain ⟨xv, exv, rx⟩ := r1.get (List.getElem?_eq_getElem l1)
    obtain ⟨a0, b0, h3'⟩ := h3
    refine zt_pyNext_item D h1 h2 h3' h4 h5 (show s.heap.IsTuple t its0.toArray from p0) (show s.heap.IsTuple b its1.toArray from p1) (x := uv) (y := xv) (by simpa using euv) (by simpa using exv) fun h' a1 a2 a3 a4 a6 a7 kp => ?_
    have lt : ∀ {d o}, s.heap.get? d = some o → s.heap.objs.size ≠ d := fun e => Nat.ne_of_gt (Heap.lt_size e)
    refine ⟨_, rfl, wpAny_letOwnedTupleGo_zip a1 fun h2' hz' hs' => ?_⟩
    have n1 : s.heap.objs.size ≠ z := lt h1
    have n2 : s.heap.objs.size ≠ TO := lt h3'
    have n3 : s.heap.objs.size ≠ i1 := by obtain ⟨_, e, _⟩ := h4; exact lt e
    have n4 : s.heap.objs.size ≠ i2 := by obtain ⟨_, e, _⟩ := h5; exact lt e
    have n6 : s.heap.objs.size ≠ TI := lt h2
    have ht2 : IsTup h2' s.heap.objs.size #[uv, xv] := ⟨_, hs'.extBut _ _ n1 a6, rfl, _, rfl⟩
    have hT : s.heap.objs.size ≤ s.heap.objs.size := Nat.le_refl _
    have I2 : Inv X pins σ (upd H s.heap.objs.size (.tup [us[i], xs[i]])) { s with heap := h2', toks := s.toks } :=
      turnedT (ch := [z, TO, i1, i2]) I (fun d o hd e => hs'.extBut _ _ (fun x => hd (by simp [x])) (kp d o (fun x => hd (by simp [x])) (fun x => hd (by simp [x])) (fun x => hd (by simp [x])) (fun x => hd (by simp [x])) e))
        (fun d hd => hf d (by simp at hd ⊢; rcases hd with rfl | rfl | rfl | rfl <;> simp)) hT ⟨[uv, xv], .cons ru (.cons rx .nil), ht2⟩ (by show 2 ≤ sizeLine; decide)
    refine ⟨.ref s.heap.objs.size, _, I2, rfl, ⟨s.heap.objs.size, us[i], xs[i], rfl, I.hok.fresh hT, rfl, fun vs hv => ?_, fun vs hv => ?_⟩,
      ⟨hz', hs'.extBut _ _ D.TIz (kp _ _ D.TIz D.TITO D.TIi1 D.TIi2 h2), ⟨_, _, hs'.extBut _ _ D.TOz a2⟩, a3.extBut hs'.extBut D.i1z, a4.extBut hs'.extBut D.i2z⟩, fun d hd => ?_⟩
    · rw [I.tuple_inj hv hu]; exact List.getElem?_eq_getElem l0
    · rw [I.tuple_inj hv hx]; exact List.getElem?_eq_getElem l1
    · have hd' : d = z ∨ d = TI ∨ d = TO ∨ d = i1 ∨ d = i2 := by simpa using hd
      have hne : d ≠ s.heap.objs.size := by
        rcases hd' with rfl | rfl | rfl | rfl | rfl
        · exact n1.symm
        · exact n6.symm
        · exact n2.symm
        · exact n3.symm
        · exact n4.symm
      rw [upd_ne hne]
      exact (hf d hd).1
  done := by
    intro X hP hw hK hc i pins s σ H E I hf st hg
    subst hP hw hK
    obtain ⟨us, xs, hu, hx, hi⟩ := hg
    obtain ⟨its0, r0, p0, z0⟩ := I.tuple hu
    obtain ⟨h1, h2, h3, h4, h5⟩ := st
    have len0 := r0.length
    have D : ZipApart z TI TO i1 i2 t b := zip_apart hap (fun d hd => off_ofT I (hf d hd) hu) (fun d hd => off_ofT I (hf d hd) hx)
    refine zt_pyNext_end (I.ok.hd hc) D h1 h2 h4 (show s.heap.IsTuple t its0.toArray from p0) (by simp; omega) fun h' kp => ⟨rfl, ?_⟩
    exact turnedN (ch := [z, i1]) (t' := s.toks) I (fun d o hd e => kp d o (fun x => hd (by simp [x])) (fun x => hd (by simp [x])) e) (fun d hd => hf d (by simp at hd ⊢; rcases hd with rfl | rfl <;> simp))
  self := fun _ _ _ _ _ st h => wpAny_pyIter_zip st.1 h
section
variable {X : Cx}
noncomputable def iZipT (K : PySem.W.Frag) (ta : TA) : TI := fun σ H R => ta σ H fun vs H1 => ∃ a b xs ys, vs = [.ref a, .ref b] ∧ SqT K H1 a xs ∧ SqT K H1 b ys ∧ R (Itzt K a b) H1
theorem pi_zipt {es : List Expr} {k : Nat} {tp p pos : Pos} {a b : Expr} {ta : TA} (hg : Gl X "zip") (hm : X.mg "zip" = none) (ha : PA X [a, b] ta) (hs : starEach [a, b] X.env = [(false, eval a X.env), (false, eval b X.env)] := by rfl) (hs2 : starEach [b] X.env = [(false, eval b X.env)] := by rfl) :
    PI X (.Tuple es k tp) (.Call (.Name "zip" p) [a, b] [] pos) (iZipT X.K ta) := by
  intro pins s σ H R I h
  refine Call_ (ld_blt I hg hm boot_zip (PyProof.Rows.callWith_type1 (thn (ha pos pins s σ H _ I h) fun us s1 q1 => ?_) (by rw [hs, hs2]) (by rw [hs2]; rfl)))
  obtain ⟨vs, H1, I1, r1, l1, l2, xs, ys, e, hx, hy, q⟩ := q1
  subst e
  obtain ⟨u, w', e, ru, rw'⟩ := Vals.two r1
  subst e
  cases ru; cases rw'
  obtain ⟨i1, v1, p1, z1⟩ := I1.tuple hx
  obtain ⟨i2, v2, p2, z2⟩ := I1.tuple hy
  refine call_zip_t (show s1.heap.IsTuple l1 i1.toArray from p1) (show s1.heap.IsTuple l2 i2.toArray from p2) fun h' hz hTI hTO g1 g2 kp => wpAny_pyIter_zip hz ?_
  have I2 : Inv X pins σ H1 { s1 with heap := h' } := I1.kept (t' := s1.toks) kp
  refine ⟨s1.heap.objs.size + 4, [s1.heap.objs.size + 4, s1.heap.objs.size + 2, s1.heap.objs.size + 3, s1.heap.objs.size, s1.heap.objs.size + 1], _, Itzt X.K l1 l2, H1, rfl, I2, turn_zipt l1 l2 _ _ _ _ _ (apart5 _), ⟨hz, hTI, ⟨_, _, hTO⟩, g1, g2⟩, fun c hc => ?_, q⟩
  have hc' : s1.heap.objs.size ≤ c := le5 _ _ (by simpa using hc)
  exact I1.fpOk hc' (I1.hok.fresh hc')
end
end L2.Bk

end
section
set_option Elab.async false
set_option linter.all false
set_option maxRecDepth 100000
/-! Two looks laid together. -/
namespace L2.Bk
open PySem PySem.Spec PyProof.Rows L2.Bw
noncomputable def Lk.ask : Lk → Option Gd
  | .mk a _ _ _ => a
  | .br a _ _ => a
noncomputable def Lk.tag : Lk → Option Gd
  | .mk _ _ _ t => t
  | .br _ _ _ => none
noncomputable def lays (f : Lk → Lk → Lk) : List Str → List Lk → List Lk → List Lk
  | s :: ss, x :: xs, y :: ys => (if s = "arg" then f y x else f x y) :: lays f ss xs ys
  | [], _, _ => []
  | _ :: _, [], _ => []
  | _ :: _, _ :: _, [] => []
noncomputable def bothL (f : Lk → Lk → Lk) (a : Option Gd) (h : Str) (ls : List Lk) : Lk → Lk
  | .br _ t k => .br a t k
  | .mk _ g ms t2 => if h = "same" then .mk a g ms t2 else if g = "same" then .mk a h ls t2 else .mk a (wrapH h (lays f (stepsOf h) ls ms)) (wrapL (lays f (stepsOf h) ls ms)) t2
noncomputable def lay : Nat → Lk → Lk → Lk
  | 0, x, _ => x
  | n + 1, x, y => match x with
    | .br a t k => .br a t k
    | .mk a h ls none => match y.ask with
      | some _ => y
      | none => bothL (lay n) a h ls y
    | .mk a h ls (some t) => match y.ask with
      | none => .mk a h ls (some t)
      | some k => if t.1.d.eqb k.1.d = true then bothL (lay n) a h ls y else .br a t k
end L2.Bk

end
section
set_option Elab.async false
set_option linter.all false
set_option maxRecDepth 100000
namespace L2.Bk
open PySem PySem.Spec PyProof.Rows L2.Bw
end L2.Bk

end
section
set_option Elab.async false
set_option linter.all false
set_option maxRecDepth 100000
namespace L2.Bk
open PySem PySem.Spec PyProof.Rows L2.Bw
end L2.Bk

end
section
set_option Elab.async false
set_option linter.all false
set_option maxRecDepth 100000
/-! sum of a list of numbers, list.count of truths. -/
namespace L2.Bk
open PySem PySem.Spec PyProof.Rows L2.Bw
section
variable {X : Cx}
/-! ### list.count of truths -/
noncomputable def isT : Value → Bool
  | .bool b => b
  | _ => false
end
end L2.Bk

end
section
set_option Elab.async false
set_option linter.all false
set_option maxRecDepth 100000
/-! A look from a kind to a kind; its height and weight. -/
namespace L2.Bk
open PySem PySem.Spec PyProof.Rows L2.Bw
/-- the told kind at an end of a look -/
noncomputable def endK : Option Gd → Kn → Kn
  | none, a => a
  | some g, _ => g.1
/-- an ask or a tag at an end of a look -/
noncomputable def endOk : Option Gd → Kn → Prop
  | none, _ => True
  | some g, a => a = qK ∧ g.1.wf ∧ g.1.h ≠ "?"
noncomputable def Ty : Nat → Kn → Lk → Kn → Prop
  | 0, _, _, _ => False
  | n + 1, a, .mk k h ls t, b => endOk k a ∧ endOk t b ∧ ((h = "same" ∧ ls = [] ∧ endK k a = endK t b) ∨ (h = (endK k a).h ∧ (endK k a).h = (endK t b).h ∧ arity h = some ls.length ∧ arity h = some (endK k a).ks.length ∧ arity h = some (endK t b).ks.length ∧ h ≠ "?" ∧
      ∀ i (_ : i < (stepsOf h).length) (h1 : i < ls.length) (h2 : i < (endK k a).ks.length) (h3 : i < (endK t b).ks.length), if (stepsOf h)[i] = "arg" then Ty n (endK t b).ks[i] ls[i] (endK k a).ks[i] else Ty n (endK k a).ks[i] ls[i] (endK t b).ks[i]))
  | _ + 1, a, .br k _ _, _ => endOk k a ∧ (k = none → a.h ≠ "?")
/-! ### height and weight -/
end L2.Bk

end
section
set_option Elab.async false
set_option linter.all false
set_option maxRecDepth 100000
/-! A value given to looks one by one, and to what they come to laid together. -/
namespace L2.Bk
open PySem PySem.Spec PyProof.Rows L2.Bw
noncomputable def TyL (n : Nat) : Kn → List Lk → Kn → Prop
  | a, [], b => a = b
  | a, x :: r, c => ∃ b, Ty n a x b ∧ TyL n b r c
noncomputable def Fl (n : Nat) (xs : List Lk) : Lk := xs.foldl (lay n) stillL
/-- no broken body anywhere, and no body that does nothing but the one that says so -/
noncomputable def Lk.pure : Nat → Lk → Prop
  | 0, _ => False
  | n + 1, .mk k h ls t => (Lk.mk k h ls t).ok (n + 1) ∧ (∀ x ∈ ls, Lk.pure n x) ∧ (h ≠ "same" → ls.all Lk.still ≠ true)
  | _ + 1, .br _ _ _ => False
noncomputable abbrev Bd := Str × List Lk
inductive Gv where
  | blame (t : Option Gd) (k : Gd)
  | there (t : Option Gd) (gs : List Bd)
/-- the looks of the i-th part in the bodies -/
noncomputable def colB (i : Nat) (gs : List Bd) : List Lk := gs.map fun g => (g.2[i]?).getD stillL
/-- the bodies that were met, and what they come to laid together -/
structure Cols (n : Nat) (A B : Kn) (h : Str) (ls : List Lk) (gs : List Bd) : Prop where
  head : ∀ g ∈ gs, g.1 = A.h ∧ arity A.h = some g.2.length ∧ g.1 ≠ "same"
  pure : ∀ g ∈ gs, ∀ x ∈ g.2, Lk.pure n x
  none : gs = [] → A = B
  col : ∀ i (h0 : i < (stepsOf A.h).length) (h1 : i < A.ks.length) (h2 : i < B.ks.length), (stepsOf A.h)[i] ≠ "arg" → Fl n (colB i gs) = (if h = "same" then stillL else (ls[i]?).getD stillL) ∧ TyL n A.ks[i] (colB i gs) B.ks[i]
end L2.Bk

end
section
set_option Elab.async false
set_option linter.all false
set_option maxRecDepth 100000
namespace L2.Bk
open PySem PySem.Spec PyProof.Rows L2.Bw
section
variable {X : Cx}
noncomputable def CDivG (i j : Int) : Prop := (0 < j ∧ j < 1073741824) ∨ j = 10 ^ 20
theorem op_fdivG : OpR X (binaryOp .FloorDiv) (rI CDivG fun i j => .int (i / j)) := opI fun i j _ _ _ _ _ hc q => by
  rcases hc with ⟨h1, h2⟩ | h
  · exact floordiv_int (by omega) (by rw [Int.fdiv_eq_ediv_of_nonneg i (by omega)]; exact q) (.inl (PyProof.noPylong_small (by omega)))
  · subst h
    exact floordiv_int (by decide) (by rw [Int.fdiv_eq_ediv_of_nonneg i (by decide)]; exact q) (.inl (PyProof.noPylong_of_log2 (by decide +kernel)))
end
end L2.Bk

end
section
set_option Elab.async false
set_option linter.all false
set_option maxRecDepth 100000
set_option maxHeartbeats 4000000
/-! An exception on its way: what it writes, and how it lies behind a call. -/
namespace L2.Ex
open PySem PySem.Spec PyProof.Rows
/-- what was written: the things at ch, the slots of the frames at S -/
structure Wr (S ch : List Addr) (h h' : Heap) : Prop where
  keep : ∀ b o, h.get? b = some o → b ∉ S → b ∉ ch → h'.get? b = some o
  slot : ∀ b o, h.get? b = some o → b ∉ ch → ∃ sl, h'.get? b = some { o with slots := sl }
  there : ∀ b o, h.get? b = some o → ∃ o', h'.get? b = some o'
section
variable {S ch ch' : List Addr} {h h1 h2 h' : Heap}
end
/-- the exception at a, its trace begins at T, in flight at fl -/
noncomputable def Tr (h : Heap) (a : Addr) (cls : Value) (dx : Option Addr) (T : Addr) (fl : Value) : Prop :=
  ∃ oe vs oT ts, h.get? a = some oe ∧ (oe.cls = cls ∧ oe.dict = dx) ∧ oe.data = .fields vs ∧ vs[1]? = some (.ref T) ∧ T ≠ a ∧ h.get? T = some oT ∧ oT.data = .fields ts ∧ ts[3]? = some fl
/-- the exception at a, that has no trace yet -/
noncomputable def Rw (h : Heap) (a : Addr) (cls : Value) (dx : Option Addr) : Prop := ∃ oe vs, h.get? a = some oe ∧ (oe.cls = cls ∧ oe.dict = dx) ∧ oe.data = .fields vs ∧ vs[1]? = some .none
section
variable {M : Model} {A : Around} {E : Value → Shared → Prop} {s : Shared} {a T L : Addr} {cls fl : Value} {dx : Option Addr} {Q : Unit → Shared → Prop} {base : Heap} {env : Env} {outer : List Env} {S : List Addr}
end
end L2.Ex

end
section
set_option Elab.async false
set_option linter.all false
set_option maxRecDepth 100000
set_option maxHeartbeats 4000000
namespace L2.Ex
open PySem PySem.Spec PyProof.Rows
/-- how an exception lies behind a call -/
noncomputable def CXF (P : Program) (w : World) : CXT := fun outer H s E e s' => ∃ (a T : Addr) (cls : Value) (dx : Option Addr) (H' : Hp), e = .ref a ∧ Tr s'.heap a cls dx T .none ∧ s.heap.get? a = none ∧ s.heap.get? T = none ∧ H' a = none ∧ H' T = none ∧
  s'.os = s.os ∧ AllBare s'.gens ∧ Un (frs outer) [] H H' s.heap s'.heap ∧ HOk P w H' s'.heap ∧ E cls dx H'
/-- an exception within a def's body -/
structure XB (X : Cx) (E : XK) (a : Addr) (cls : Value) (dx : Option Addr) (H' : Hp) (s' : Shared) : Prop where
  na : X.s₀.heap.get? a = none
  ua : H' a = none
  os : s'.os = X.s₀.os
  bare : AllBare s'.gens
  un : Un (frs X.outer) [] X.H₀ H' X.s₀.heap s'.heap
  hok : HOk X.prog X.w H' s'.heap
  funs : s'.heap.FunFrames X.base (X.env :: X.outer)
  frf : ∀ b ∈ frs (X.env :: X.outer), H' b = none
  nl : X.s₀.heap.get? X.env.locals = none
  fr : X.env.frame = some X.env.locals
  af : X.A.frames = some (X.env :: X.outer)
  e : E cls dx H'
section
variable {P : Program} {w : World} {H H0 : Hp} {h h0 h' : Heap} {S ch fs : List Addr} {L : Addr}
end
section
variable {X : Cx} {E : XK} {a : Addr} {cls : Value} {dx : Option Addr} {H' : Hp} {s' : Shared} {M : Model} {Z : Value → Shared → Prop} {Q : Unit → Shared → Prop}
end
end L2.Ex

end
section
set_option Elab.async false
set_option linter.all false
set_option maxRecDepth 100000
set_option maxHeartbeats 4000000
namespace L2.Ex
open PySem PySem.Spec PyProof.Rows
/-- a call of a def that may raise -/
structure CalX (P : Program) (w : World) (K : PySem.W.Frag) (mg : Str → Option Value) (base : Heap) (x : Str) (ps : List Str) (k : Nat) (sp : Sp) : Prop where
  ex : ∃ f fd, FnOk P w K mg base (CXF P w) k f fd ps sp ∧ Binds K fd ps [] ∧ PySem.W.keepIn K (.ref f) = true ∧ mg x = some (.ref f)
end L2.Ex

end
section
set_option Elab.async false
set_option linter.all false
set_option maxRecDepth 100000
set_option maxHeartbeats 4000000
namespace L2.Ex
open PySem PySem.Spec PyProof.Rows PySem.W
/-- what the class at C, below BaseException, finds for its instances -/
structure ExFind (K : Frag) (C : Addr) : Prop where
  ga : findIn K (.ref C) "__getattribute__" = some (some (.builtin "BaseException.__getattribute__"))
  gn : findIn K (.ref C) "__getattr__" = some none
  cl : findIn K (.ref C) "__class__" = some (some (.builtin "object.__class__"))
  sg : specialIn K (.builtin "object.__class__") "__get__" = some (some (.builtin "getset_descriptor.__get__"))
  tk : takesIn K (.builtin "object.__class__") = some true
  ob : mroIn K C (.type "object") = some true
  be : mroIn K C (.type "BaseException") = some true
  is : (clsIn K C).isSome = true
section
variable {prog : Program} {w : World} {A : Around} {E : Value → Shared → Prop} {K : Frag} {C a : Addr} {o : Obj} {od : Option Obj} {h : Heap} {g : Array GenState} {d : Drawn} {t : Nat} {os : OsState}
end
section
variable {X : Cx}
end
end L2.Ex

end
section
set_option Elab.async false
set_option linter.all false
set_option maxRecDepth 100000
set_option maxHeartbeats 4000000
namespace L2.Ex
open PySem PySem.Spec PyProof.Rows PySem.W
section
variable {X : Cx} {pins : List (Addr × Obj)} {σ : St} {H : Hp} {s : Shared}
/-- what a thing new to the state is not -/
structure Strange (X : Cx) (pins : List (Addr × Obj)) (H : Hp) (b : Addr) : Prop where
  s0 : X.s₀.heap.get? b = none
  un : H b = none
  nl : b ≠ X.env.locals
  nc : ∀ x c, X.env.cells.lookup x = some c → c ≠ b
  np : ∀ p ∈ X.pn ++ pins, p.1 ≠ b
end
end L2.Ex

end
section
set_option Elab.async false
set_option linter.all false
set_option maxRecDepth 100000
set_option maxHeartbeats 4000000
namespace L2.Ex
open PySem PySem.Spec PyProof.Rows PySem.W
/-- what an except clause asks of the class it names -/
structure ExCls (K : Frag) (B : Addr) : Prop where
  ty : typeIn K (.ref B) = some (.type "type")
  is : (clsIn K B).isSome = true
  be : mroIn K B (.type "BaseException") = some true
end L2.Ex

end
section
set_option Elab.async false
set_option linter.all false
set_option maxRecDepth 100000
set_option maxHeartbeats 4000000
namespace L2.Ex
open PySem PySem.Spec PyProof.Rows PySem.W
section
variable {X : Cx}
end
end L2.Ex

end
section
set_option Elab.async false
set_option linter.all false
set_option maxRecDepth 100000
set_option maxHeartbeats 4000000
namespace L2.Ex
open PySem PySem.Spec PyProof.Rows PySem.W
section
variable {X : Cx}
end
end L2.Ex

end
section
set_option Elab.async false
set_option linter.all false
set_option maxRecDepth 100000
set_option maxHeartbeats 4000000
/-! Ways into kinds. -/
namespace L2.Bk
open PySem PySem.Spec PyProof.Rows L2.Bw
end L2.Bk

end
section
set_option Elab.async false
set_option linter.all false
set_option maxRecDepth 100000
set_option maxHeartbeats 4000000
/-! A module's table of tuples that have no dict. -/
namespace L2.Ex
open PySem PySem.Spec PyProof.Rows
end L2.Ex
namespace L2.Bw
open PySem PySem.Spec PyProof.Rows
noncomputable def lookN (K : PySem.W.Frag) (ss : List Str) (v : Value) : Bool := lookT K ss v && (match v with | .ref b => (match K.lookup b with | some o => o.dict.isNone | none => false) | _ => false)
noncomputable def IsN (K : PySem.W.Frag) (ss : List Str) (v : Value) : Prop := ∃ b, v = .ref b ∧ (∀ H : Hp, SqT K H b (ss.map V.str)) ∧ ∃ o, K.lookup b = some o ∧ o.cls = .type "tuple" ∧ o.dict = none
theorem isN_of {K : PySem.W.Frag} (ss : List Str) (v : Value) (h : lookN K ss v = true) : IsN K ss v := by
  unfold lookN at h
  rw [Bool.and_eq_true_iff] at h
  obtain ⟨b, rfl, hq⟩ := isT_of ss v h.1
  refine ⟨b, rfl, hq, ?_⟩
  have h1 := h.1
  unfold lookT at h1
  have h2 := h.2
  cases e : K.lookup b with
  | none => simp only [e] at h2; cases h2
  | some o =>
    simp only [e] at h2 h1
    rw [Bool.and_eq_true_iff] at h1
    exact ⟨o, rfl, by simpa using h1.1, by simpa using h2⟩
section
variable {X : Cx}
noncomputable def rTabN (K : PySem.W.Frag) (a : Addr) (D : List (Str × List Str)) : R2 := fun x y H Q => x = .ref a ∧ ∃ z ss, y = .str z ∧ KTD.datumAt z D = some ss ∧ ∀ c, (∀ H' : Hp, SqT K H' c (ss.map V.str)) → (∃ o, K.lookup c = some o ∧ o.cls = .type "tuple" ∧ o.dict = none) → Q (.ref c) H
theorem pe_tabN {x : Str} {p pos : Pos} {b : Expr} {tb : TE} {a : Addr} {D : List (Str × List Str)} (hg : Gl X x) (hm : X.mg x = some (.ref a)) (hK : KTD.tabLook (lookN X.K) (fun b => X.K.lookup b) a D = true) (hb : PE X b tb) (hs : PlainIx b)
    (hd : (x == ("__debug__" : Str)) = false := by decide) (hl : ∀ r, letTemporaryGo (.Name x p) (.ref a) r = pure () := by intro _; rfl) : PE X (.Subscript (.Name x p) b pos) (tOp (rTabN X.K a D) (tC (.ref a)) tb) := by
  intro pins s σ H Q I h
  refine Subscript_ (binT (pe_glob hg hm (v := .ref a) rfl hd) hb I h fun v u s2 x' y H2 I2 rx ry q => ?_)
  obtain ⟨e, z, ss, e', hat, q⟩ := q
  subst e e'
  cases rx
  obtain ⟨tz, e⟩ := ry
  subst e
  have T : KTD.TabOf (IsN X.K) s2.heap a D := KTD.tab_of_look isN_of (fun b o e => I2.kIn b o e) hK
  have ty : s2.TypeIs (.ref a) "dict" := by obtain ⟨_, o, _, _, ho, hc, _⟩ := T; exact ⟨o, ho, hc.1⟩
  refine subscriptTail_builtin ty slot_dict_getitem.lookup ?_ (hs _ _) hl
  unfold getItem
  refine wpAny_holding ?_
  refine wpAny_bind (wpAny_sequenceKey ty (by decide) ?_)
  refine wpAny_bind (wpAny_callSpecial?_slot (name := Str.ofString "__getitem__") ty slot_dict_getitem (wpAny_call_entry slot_dict_getitem ty entry_dict_getitem ?_ (args_dict_getitem _ _)))
  show wpAny _ _ (dictGet a (.str z tz) >>= _) _ _ s2
  refine wpAny_bind (getTab T hat fun v hv => wpAny_pure ⟨v, rfl, wpAny_pure ?_⟩)
  obtain ⟨c, e, hc, ho⟩ := hv
  subst e
  exact ⟨.ref c, H2, I2.tok _, rfl, q c hc ho⟩
end
end L2.Bw

end
section
set_option Elab.async false
set_option linter.all false
set_option maxRecDepth 100000
set_option maxHeartbeats 4000000
/-! Exceptions of classes with an __init__ of their own: made, their attributes. -/
namespace L2.Ex
open PySem PySem.Spec PyProof.Rows PySem.W
/-- own classes, then the base's -/
noncomputable def overB (bmB : List Value) : List Value → Bool
  | [] => false
  | v :: r => (v :: r) == bmB || match v with | .ref _ => overB bmB r | _ => false
noncomputable abbrev veB : List Value := [.type "ValueError", .type "Exception", .type "BaseException", .type "object"]
/-- what an exception class asks for its instances' attributes to be stored -/
structure ExSet (K : Frag) (C : Addr) : Prop where
  sa : findIn K (.ref C) "__setattr__" = some (some (.builtin "object.__setattr__"))
  over : ((clsIn K C).any fun cd => overB veB cd.mro) = true
  hd : ((clsIn K C).any fun cd => cd.hasDict) = true
  ob : mroIn K C (.type "object") = some true
section
variable {prog : Program} {w : World} {A : Around} {E : Value → Shared → Prop} {s : Shared} {K : Frag} {x C : Addr} {o : Obj} {vs : Array Value} {mA : Str → Option Value} {name : Str} {v : Value} {ns : List Str}
end
/-- the facts of an exception class with an __init__ of its own -/
structure OwnI (K : Frag) (C fI : Addr) (bmB : List Value) (newId : String) : Prop where
  at_ : ∃ (nm q : Str) (N : Addr) (bs bm : List Value) (hdct : Bool) (sn : List Str) (sub : List Value) (ab : Bool) (col : Option Bool) (dd : Option Addr) (k0 k1 k2 k3 k5 : Option Value),
    K.lookup C = some (excClassObj nm q C N bs bm hdct sn sub ab col dd k0 k1 k2 k3 k5 newId) ∧ tailIn K bmB bm = true
  init : findIn K (.ref C) "__init__" = some (some (.ref fI))
  fn : isFn K (.ref fI) = true
section
variable {prog : Program} {w : World} {A : Around} {E : Value → Shared → Prop} {K : Frag} {C fI : Addr} {rest bmB : List Value} {B newId initId : String} {h : Heap} {g : Array GenState} {d : Drawn} {t : Nat} {os : OsState}
end
end L2.Ex

end
section
set_option Elab.async false
set_option linter.all false
set_option maxRecDepth 100000
set_option maxHeartbeats 4000000
namespace L2.Ex
open PySem PySem.Spec PyProof.Rows PySem.W
/-- an exception of the class at C at p, its dict (if it has one) at dx; fr: it has no trace yet -/
noncomputable def XP (fr : Bool) (p C : Addr) (dx : Option Addr) (h : Heap) : Prop := ∃ o vs, h.get? p = some o ∧ o.cls = .ref C ∧ o.data = .fields vs ∧ (0 < vs.size ∧ (fr = true → vs[1]? = some .none)) ∧ o.dict = dx ∧ ∀ d, dx = some d → d ≠ p
section
variable {P : Program} {w : World} {H : Hp} {h h' : Heap} {p C d : Addr} {dx : Option Addr} {fs : List (Str × V)} {fr : Bool}
end
section
variable {X : Cx}
end
end L2.Ex

end
section
set_option Elab.async false
set_option linter.all false
set_option maxRecDepth 100000
set_option maxHeartbeats 4000000
namespace L2.Ex
open PySem PySem.Spec PyProof.Rows PySem.W
section
variable {X : Cx}
/-- what `B.__init__(self, ..)` asks of the class at B -/
structure BInit (K : Frag) (B : Addr) : Prop where
  ga : specialIn K (.ref B) "__getattribute__" = some (some (.builtin "type.__getattribute__"))
  rd : readsIn K B (.type "type") = true
  at_ : findCls K (.ref B) (.type "type") "__init__" = some (.val (.builtin "ValueError.__init__"))
end
end L2.Ex

end
section
set_option Elab.async false
set_option linter.all false
set_option maxRecDepth 100000
set_option maxHeartbeats 4000000
namespace L2.Ex
open PySem PySem.Spec PyProof.Rows PySem.W
/-- what stands at a is tracked no more -/
noncomputable def del (H : Hp) (a : Addr) : Hp := fun b => if b = a then none else H b
section
variable {X : Cx}
end
end L2.Ex

end
section
set_option Elab.async false
set_option linter.all false
set_option maxRecDepth 100000
set_option maxHeartbeats 4000000
namespace L2.Ex
open PySem PySem.Spec PyProof.Rows PySem.W
section
variable {X : Cx}
end
end L2.Ex

end
section
set_option Elab.async false
set_option linter.all false
set_option maxRecDepth 100000
set_option maxHeartbeats 4000000
namespace L2.Bw
open PySem PySem.Spec PyProof.Rows
section
variable {X : Cx}
end
end L2.Bw

end
section
set_option Elab.async false
set_option linter.all false
set_option maxRecDepth 100000
set_option maxHeartbeats 4000000
/-! Slices of texts, numbers in texts. -/
namespace L2.Bk
open PySem PySem.Spec PyProof.Rows L2.Bw L2.Ex
section
variable {X : Cx}
/-- s[lo:hi] of a text -/
noncomputable def rSlS : V → Option Int → Option Int → Hp → VK → Prop := fun x lo hi H Q => ∃ z : Str, x = .str z ∧ z.length ≤ sizeLine ∧ Q (.str (Txt.slice z lo hi)) H
theorem sl_str : SlR X rSlS := by
  intro pins s σ H x v vl vu lo hi sl Q I rx hs pl pu h
  obtain ⟨z, rfl, hz, q⟩ := h
  obtain ⟨tk, rfl⟩ := rx
  have fin : Nat.le (Txt.slice z lo hi).length sizeLine ∧ ∀ t' k, EP X pins σ Q (.str (Txt.slice z lo hi) t') { s with toks := k } := ⟨Nat.le_trans (Txt.slice_le z _ _) hz, fun t' k => ⟨.str _, H, I.tok k, ⟨t', rfl⟩, q⟩⟩
  refine ⟨"str", _, PySem.F.slot_str_getitem.lookup, typeIs_str _ _ _, ?_⟩
  cases pl <;> cases pu
  · exact wpAny_getItem_str_slice (l := none) (u := none) (st := none) hs rfl (post_val_or_str fin)
  · exact wpAny_getItem_str_slice (l := none) (u := some (_, _)) (st := none) hs rfl (post_val_or_str fin)
  · exact wpAny_getItem_str_slice (l := some (_, _)) (u := none) (st := none) hs rfl (post_val_or_str fin)
  · exact wpAny_getItem_str_slice (l := some (_, _)) (u := some (_, _)) (st := none) hs rfl (post_val_or_str fin)
/-- a slice of a list, of a tuple, of a text -/
noncomputable def rSlA (K : PySem.W.Frag) : V → Option Int → Option Int → Hp → VK → Prop := fun x lo hi H Q => rSlK K x lo hi H Q ∨ rSlS x lo hi H Q
theorem sl_a : SlR X (rSlA X.K) := sl_k.or sl_str
end
end L2.Bk

end
section
set_option Elab.async false
set_option linter.all false
set_option maxRecDepth 100000
set_option maxHeartbeats 4000000
/-! Programs as trees of data, their names. -/
namespace L2.Bk
open PySem PySem.Spec PyProof.Rows L2.Bw L2.Ex
/-- a node: its word, its place, what stands ahead of its kinds, its kinds, its parts -/
inductive Tn where
  | mk (w : Str) (p : Int) (fr mid : List Dk) (ps : List Tn)
mutual
noncomputable def Tn.d : Tn → Dk
  | .mk w p fr mid ps => .tup (.str w :: .int p :: (fr ++ mid ++ (if w = "row" then [.tup (Tn.ds ps)] else Tn.ds ps)))
noncomputable def Tn.ds : List Tn → List Dk
  | [] => []
  | t :: r => t.d :: Tn.ds r
end
noncomputable def Tn.w : Tn → Str | .mk w _ _ _ _ => w
noncomputable def Tn.p : Tn → Int | .mk _ p _ _ _ => p
noncomputable def Tn.fr : Tn → List Dk | .mk _ _ fr _ _ => fr
noncomputable def Tn.ps : Tn → List Tn | .mk _ _ _ _ ps => ps
mutual
noncomputable def Tn.dep : Tn → Nat
  | .mk _ _ _ _ ps => 1 + Tn.deps ps
noncomputable def Tn.deps : List Tn → Nat
  | [] => 0
  | t :: r => max t.dep (Tn.deps r)
end
/-- words whose things ahead are names -/
noncomputable def named : List Str := ["name", "fn", "let", "self"]
mutual
noncomputable def Tn.wf : Tn → Prop
  | .mk w p fr mid ps => (w ∈ K11.words ∧ fr.length = K11.nf w ∧ mid.length = K11.nk w ∧ (w ≠ "row" → ps.length = K11.np w) ∧ ps.length ≤ 5 ∧ (w ∈ named → ∃ ns : List Str, fr = ns.map Dk.str) ∧ 0 ≤ p ∧ p < 100000) ∧ Tn.wfs ps
noncomputable def Tn.wfs : List Tn → Prop
  | [] => True
  | t :: r => t.wf ∧ Tn.wfs r
end
theorem tds_length : ∀ (ks : List Tn), (Tn.ds ks).length = ks.length
  | [] => rfl
  | _ :: r => by show (Tn.ds r).length + 1 = r.length + 1; rw [tds_length r]
theorem tds_append : ∀ (ks ls : List Tn), Tn.ds (ks ++ ls) = Tn.ds ks ++ Tn.ds ls
  | [], _ => rfl
  | t :: r, ls => by show t.d :: Tn.ds (r ++ ls) = t.d :: (Tn.ds r ++ Tn.ds ls); rw [tds_append r ls]
/-- a node's tuple, by its things -/
theorem RK.node {K : PySem.W.Frag} {H : Hp} {w : Str} {p : Int} {fr mid : List Dk} {ps : List Tn} {v : V} (r : RK K H (Tn.mk w p fr mid ps).d v) : ∃ (a : Addr) (uf um up : List V), v = .ref a ∧ Tp K H a (.str w :: .int p :: (uf ++ um ++ up)) ∧ RKs K H fr uf ∧ RKs K H mid um ∧ RKs K H (if w = "row" then [.tup (Tn.ds ps)] else Tn.ds ps) up := by
  obtain ⟨a, us, rfl, ha, ru⟩ := RK.get (show RK K H (.tup (.str w :: .int p :: (fr ++ mid ++ (if w = "row" then [.tup (Tn.ds ps)] else Tn.ds ps)))) v from r)
  obtain ⟨v1, r1, rfl, h1, v2, r2, rfl, h2, ru⟩ := ru
  obtain ⟨x1, up, rfl, x2, hup⟩ := ru.split
  obtain ⟨uf, um, rfl, hf, hm⟩ := x2.split
  rw [RK.str h1, show v2 = .int p by rw [RK] at h2; exact h2] at ha
  exact ⟨a, uf, um, up, rfl, ha, hf, hm, hup⟩
end L2.Bk

end
section
set_option Elab.async false
set_option linter.all false
namespace L2.Bw
open PySem PySem.Spec PyProof.Rows
theorem bxint {X : Cx} {n j pos} : Bx (PE X (.Constant (.int n) j pos) (tC (.int n))) := ⟨pe_int⟩
end L2.Bw

end
section
set_option Elab.async false
set_option linter.all false
set_option maxRecDepth 100000
set_option maxHeartbeats 4000000
namespace L2.Bk
open PySem PySem.Spec PyProof.Rows L2.Bw L2.Ex
section
variable {X : Cx}
end
end L2.Bk

end
section
set_option Elab.async false
set_option linter.all false
set_option maxRecDepth 100000
set_option maxHeartbeats 4000000
/-! Tables of the module whose values are data; x in such a table. -/
namespace L2.Bk
open PySem PySem.Spec PyProof.Rows L2.Bw L2.Ex
noncomputable def IsD (K : PySem.W.Frag) (d : Dk) (v : Value) : Prop := ∃ x : V, RelV x v ∧ ∀ H : Hp, RK K H d x
section
variable {X : Cx}
end
end L2.Bk

end
section
set_option Elab.async false
set_option linter.all false
set_option maxRecDepth 100000
set_option maxHeartbeats 4000000
/-! Methods of own classes; what is never run. -/
namespace L2.Ex
open PySem PySem.Spec PyProof.Rows L2.Bw L2.Bk
theorem pss_never {X : Cx} {st : List Stmt} : PSs X st (fun _ _ _ => False) := fun _ _ _ _ _ _ h => h.elim
/-- a method that doesn't raise -/
structure CalM (P : Program) (w : World) (K : PySem.W.Frag) (mg : Str → Option Value) (base : Heap) (C : Addr) (m : Str) (ps : List Str) (k : Nat) (sp : Sp) : Prop where
  ex : ∃ f fd, FnOk P w K mg base CX0 k f fd ps sp ∧ Binds K fd ps [] ∧ Meth K C m f
/-- a method that may raise -/
structure CalMX (P : Program) (w : World) (K : PySem.W.Frag) (mg : Str → Option Value) (base : Heap) (C : Addr) (m : Str) (ps : List Str) (k : Nat) (sp : Sp) : Prop where
  ex : ∃ f fd, FnOk P w K mg base (CXF P w) k f fd ps sp ∧ Binds K fd ps [] ∧ Meth K C m f
/-- a class that is made with no arguments -/
structure CalN (P : Program) (w : World) (K : PySem.W.Frag) (mg : Str → Option Value) (base : Heap) (x : Str) (C : Addr) (k : Nat) (sp : Sp) : Prop where
  ex : ∃ f fd, FnOk P w K mg base CX0 k f fd ["self"] sp ∧ Binds K fd ["self"] [] ∧ Mk K C f ∧ mg x = some (.ref C)
end L2.Ex

end
section
set_option Elab.async false
set_option linter.all false
set_option maxRecDepth 100000
set_option maxHeartbeats 4000000
/-! == of dicts whose values are data. -/
namespace L2.Bk
open PySem PySem.Spec PyProof.Rows L2.Bw L2.Ex
inductive DHit (K : PySem.W.Frag) (H : Hp) (lvs : List (Key × V)) : List (Key × V) → Bool → Prop
  | nil : DHit K H lvs [] true
  | miss {k : Key} {v : V} {r : List (Key × V)} : valV lvs k = none → DHit K H lvs ((k, v) :: r) false
  | hit {k : Key} {v y : V} {d e : Dk} {r : List (Key × V)} {b : Bool} : valV lvs k = some y → RK K H d v → RK K H e y → d.dq ≤ 60 → DHit K H lvs r b → DHit K H lvs ((k, v) :: r) (d.eqb e && b)
noncomputable def rEqD (K : PySem.W.Frag) : R2 := fun x y H Q => ∃ a b kvs lvs r, x = .ref a ∧ y = .ref b ∧ H a = some (.dK kvs) ∧ H b = some (.dK lvs) ∧ DHit K H lvs kvs r ∧ Q (.bl (kvs.length == lvs.length && r)) H
section
variable {X : Cx}
theorem dhit_keq {s : Shared} {pins : List (Addr × Obj)} {σ : St} {H : Hp} (I : Inv X pins σ H s) {A : Around} (hu : A.units + 60 < cLine) {lvs : List (Key × V)} {ls : List (Key × Value)} (rl : KV lvs ls) :
    ∀ {kvs : List (Key × V)} {ks : List (Key × Value)} {r : Bool}, DHit X.K H lvs kvs r → KV kvs ks → PySem.W.KeqHits A s ls ks r := by
  intro kvs ks r h
  induction h generalizing ks with
  | nil =>
    intro rk
    have := rk.length
    obtain rfl : ks = [] := List.length_eq_zero_iff.mp this.symm
    exact .nil
  | @miss k v r hn =>
    intro rk
    unfold KV at rk
    cases rk with
    | @cons _ q _ qs h t =>
      obtain ⟨k', u⟩ := q
      obtain rfl : k = k' := h.1
      have x := rl.val k
      rw [hn] at x
      cases e : valueAt ls k with
      | none => exact .miss e
      | some z => rw [e] at x; exact x.elim
  | @hit k v y d e r b hy hd he hq _ ih =>
    intro rk
    unfold KV at rk
    cases rk with
    | @cons _ q _ qs h t =>
      obtain ⟨k', u⟩ := q
      obtain rfl : k = k' := h.1
      have x := rl.val k
      rw [hy] at x
      cases ez : valueAt ls k with
      | none => rw [ez] at x; exact x.elim
      | some z =>
        rw [ez] at x
        exact .hit ez (rk_eqb I 60 (A := A) hq hd he h.2 x hu) (ih t)
theorem op_eqD {k : Nat} (hr : Room k X.A) : OpR X (compareOp .Eq) (rEqD X.K) := by
  intro pins s σ H x y v u Q I rx ry h
  obtain ⟨a, b, kvs, lvs, r, rfl, rfl, ha, hb, hh, q⟩ := h
  cases rx; cases ry
  have hu := hr.units
  obtain ⟨z1, y1, vs, r1, d1⟩ := (show ObjOk X.prog X.w H s.heap a (.dK kvs) from I.hok a _ ha)
  obtain ⟨z2, y2, ws, r2, d2⟩ := (show ObjOk X.prog X.w H s.heap b (.dK lvs) from I.hok b _ hb)
  refine PySem.W.keq_eq (knd := mixKind X.prog X.w) (r := r) y1 y2 d1 d2 (by omega) (fun _ => dhit_keq I (A := X.A.in1) (by show X.A.units + 1 + 60 < cLine; omega) r2 hh r1) ⟨.bl (kvs.length == lvs.length && r), H, I, ?_, q⟩
  rw [r1.length, r2.length]
  rfl
end
end L2.Bk

end
section
set_option Elab.async false
set_option linter.all false
set_option maxRecDepth 100000
set_option maxHeartbeats 4000000
namespace L2.Ex
open PySem PySem.Spec PyProof.Rows L2.Bw L2.Bk PySem.W
end L2.Ex

end
section
set_option Elab.async false
set_option linter.all false
set_option maxRecDepth 100000
set_option maxHeartbeats 4000000
/-! A def that may raise, where it doesn't. -/
namespace L2.Ex
open PySem PySem.Spec PyProof.Rows L2.Bw L2.Bk PySem.W
end L2.Ex

end
section
set_option Elab.async false
set_option linter.all false
set_option maxRecDepth 100000
set_option maxHeartbeats 4000000
/-! Told parts of kinds (spots) and what is left when some are taken away; programs with their kinds as trees. -/
namespace L2.Bk
open PySem PySem.Spec PyProof.Rows L2.Bw L2.Ex
mutual
noncomputable def Kn.sp : Kn → Nat
  | .mk h ks => if h = "?" then 0 else 1 + Kn.sps ks
noncomputable def Kn.sps : List Kn → Nat
  | [] => 0
  | t :: r => t.sp + Kn.sps r
end
mutual
noncomputable def Kn.lo (f : Nat → Bool) : Kn → Nat → Kn
  | .mk h ks, n => if h = "?" then .mk h ks else if f n then qK else .mk h (Kn.los f ks (n + 1))
noncomputable def Kn.los (f : Nat → Bool) : List Kn → Nat → List Kn
  | [], _ => []
  | t :: r, n => t.lo f n :: Kn.los f r (n + t.sp)
end
theorem sp_eq (h : Str) (ks : List Kn) : (Kn.mk h ks).sp = if h = "?" then 0 else 1 + Kn.sps ks := rfl
theorem lo_eq (f : Nat → Bool) (h : Str) (ks : List Kn) (n : Nat) : (Kn.mk h ks).lo f n = if h = "?" then .mk h ks else if f n then qK else .mk h (Kn.los f ks (n + 1)) := rfl
theorem los_length (f : Nat → Bool) : ∀ (ks : List Kn) (n : Nat), (Kn.los f ks n).length = ks.length
  | [], _ => rfl
  | t :: r, n => by show (Kn.los f r (n + t.sp)).length + 1 = r.length + 1; rw [los_length f r]
theorem wf_head {h : Str} {ks : List Kn} (w : (Kn.mk h ks).wf) (e : h = "?") : ks = [] := by
  have a := w.1
  subst e
  have a0 : arity "?" = some 0 := by decide +kernel
  rw [a0] at a
  exact List.length_eq_zero_iff.mp (Option.some.inj a).symm
theorem wf_qK : qK.wf := ⟨by decide +kernel, trivial⟩
mutual
theorem lo_wf (f : Nat → Bool) : ∀ {k : Kn} (n : Nat), k.wf → (k.lo f n).wf
  | .mk h ks, n, w => by
    rw [lo_eq]
    split
    · exact w
    split
    · exact wf_qK
    · exact ⟨by rw [los_length]; exact w.1, los_wf f (n + 1) w.2⟩
theorem los_wf (f : Nat → Bool) : ∀ {ks : List Kn} (n : Nat), Kn.wfs ks → Kn.wfs (Kn.los f ks n)
  | [], _, _ => trivial
  | t :: r, n, w => ⟨lo_wf f n w.1, los_wf f (n + t.sp) w.2⟩
end
mutual
theorem lo_dep (f : Nat → Bool) : ∀ (k : Kn) (n : Nat), (k.lo f n).dep ≤ k.dep
  | .mk h ks, n => by
    rw [lo_eq]
    split
    · exact Nat.le_refl _
    split
    · show 1 + 0 ≤ 1 + Kn.deps ks; omega
    · show 1 + Kn.deps (Kn.los f ks (n + 1)) ≤ 1 + Kn.deps ks
      have := los_dep f ks (n + 1); omega
theorem los_dep (f : Nat → Bool) : ∀ (ks : List Kn) (n : Nat), Kn.deps (Kn.los f ks n) ≤ Kn.deps ks
  | [], _ => Nat.le_refl _
  | t :: r, n => by
    show max (t.lo f n).dep (Kn.deps (Kn.los f r (n + t.sp))) ≤ max t.dep (Kn.deps r)
    have := lo_dep f t n; have := los_dep f r (n + t.sp); omega
end
mutual
theorem lo_congr {f g : Nat → Bool} : ∀ (k : Kn) (n : Nat), (∀ i, n ≤ i → i < n + k.sp → f i = g i) → k.lo f n = k.lo g n
  | .mk h ks, n, e => by
    rw [lo_eq, lo_eq]
    rw [sp_eq] at e
    by_cases c : h = "?"
    · rw [if_pos c, if_pos c]
    · rw [if_neg c] at e
      rw [if_neg c, if_neg c, e n (Nat.le_refl _) (by omega), los_congr ks (n + 1) fun i h1 h2 => e i (by omega) (by omega)]
theorem los_congr {f g : Nat → Bool} : ∀ (ks : List Kn) (n : Nat), (∀ i, n ≤ i → i < n + Kn.sps ks → f i = g i) → Kn.los f ks n = Kn.los g ks n
  | [], _, _ => rfl
  | t :: r, n, e => by
    have e' : ∀ i, n ≤ i → i < n + (t.sp + Kn.sps r) → f i = g i := e
    show t.lo f n :: Kn.los f r (n + t.sp) = t.lo g n :: Kn.los g r (n + t.sp)
    rw [lo_congr t n fun i h1 h2 => e' i h1 (by omega), los_congr r (n + t.sp) fun i h1 h2 => e' i (by omega) (by omega)]
end
/-- a program with its kinds -/
inductive Tk where
  | mk (w : Str) (p : Int) (fr : List Dk) (ks : List Kn) (ps : List Tk)
mutual
noncomputable def Tk.tn : Tk → Tn
  | .mk w p fr ks ps => .mk w p fr (Kn.ds ks) (Tk.tns ps)
noncomputable def Tk.tns : List Tk → List Tn
  | [] => []
  | t :: r => t.tn :: Tk.tns r
end
noncomputable def Tk.w : Tk → Str | .mk w _ _ _ _ => w
noncomputable def Tk.p : Tk → Int | .mk _ p _ _ _ => p
noncomputable def Tk.fr : Tk → List Dk | .mk _ _ fr _ _ => fr
noncomputable def Tk.ks : Tk → List Kn | .mk _ _ _ ks _ => ks
noncomputable def Tk.ps : Tk → List Tk | .mk _ _ _ _ ps => ps
mutual
noncomputable def Tk.sp : Tk → Nat
  | .mk _ _ _ ks ps => Kn.sps ks + Tk.sps ps
noncomputable def Tk.sps : List Tk → Nat
  | [] => 0
  | t :: r => t.sp + Tk.sps r
end
mutual
noncomputable def Tk.lo (f : Nat → Bool) : Tk → Nat → Tk
  | .mk w p fr ks ps, n => .mk w p fr (Kn.los f ks n) (Tk.los f ps (n + Kn.sps ks))
noncomputable def Tk.los (f : Nat → Bool) : List Tk → Nat → List Tk
  | [], _ => []
  | t :: r, n => t.lo f n :: Tk.los f r (n + t.sp)
end
mutual
/-- what the node itself must be -/
noncomputable def Tk.ok : Tk → Prop
  | .mk w _ fr ks ps => (Kn.wfs ks ∧ Kn.deps ks ≤ 7 ∧ (∀ d ∈ fr, d.flat = true) ∧ w ≠ "look") ∧ Tk.oks ps
noncomputable def Tk.oks : List Tk → Prop
  | [] => True
  | t :: r => t.ok ∧ Tk.oks r
end
theorem tns_length : ∀ (ps : List Tk), (Tk.tns ps).length = ps.length
  | [] => rfl
  | t :: r => by show (Tk.tns r).length + 1 = r.length + 1; rw [tns_length r]
theorem tns_append : ∀ (a b : List Tk), Tk.tns (a ++ b) = Tk.tns a ++ Tk.tns b
  | [], _ => rfl
  | t :: r, b => by show t.tn :: Tk.tns (r ++ b) = t.tn :: (Tk.tns r ++ Tk.tns b); rw [tns_append r b]
theorem koks_get : ∀ {ps : List Tk} {i : Nat} (h : i < ps.length), Tk.oks ps → ps[i].ok
  | t :: r, 0, _, z => z.1
  | t :: r, i + 1, h, z => koks_get (ps := r) (by simpa using h) z.2
theorem koks_append : ∀ {a b : List Tk}, Tk.oks a → Tk.oks b → Tk.oks (a ++ b)
  | [], _, _, h => h
  | _ :: r, _, h, h' => ⟨h.1, koks_append h.2 h'⟩
theorem ksps_append : ∀ (a b : List Tk), Tk.sps (a ++ b) = Tk.sps a + Tk.sps b
  | [], b => by show Tk.sps b = 0 + Tk.sps b; omega
  | t :: r, b => by show t.sp + Tk.sps (r ++ b) = t.sp + Tk.sps r + Tk.sps b; rw [ksps_append r b]; omega
theorem klos_length (f : Nat → Bool) : ∀ (ps : List Tk) (n : Nat), (Tk.los f ps n).length = ps.length
  | [], _ => rfl
  | t :: r, n => by show (Tk.los f r (n + t.sp)).length + 1 = r.length + 1; rw [klos_length f r]
mutual
theorem klo_ok (f : Nat → Bool) : ∀ {t : Tk} (n : Nat), t.ok → (t.lo f n).ok
  | .mk w p fr ks ps, n, h => ⟨⟨los_wf f n h.1.1, Nat.le_trans (los_dep f ks n) h.1.2.1, h.1.2.2.1, h.1.2.2.2⟩, klos_ok f (n + Kn.sps ks) h.2⟩
theorem klos_ok (f : Nat → Bool) : ∀ {ps : List Tk} (n : Nat), Tk.oks ps → Tk.oks (Tk.los f ps n)
  | [], _, _ => trivial
  | t :: r, n, h => ⟨klo_ok f n h.1, klos_ok f (n + t.sp) h.2⟩
end
mutual
theorem klo_wf (f : Nat → Bool) : ∀ {t : Tk} (n : Nat), t.tn.wf → (t.lo f n).tn.wf
  | .mk w p fr ks ps, n, h => by
    obtain ⟨⟨h1, h2, h3, h4, h5, h6⟩, h7⟩ := h
    refine ⟨⟨h1, h2, ?_, ?_, ?_, h6⟩, klos_wf f _ h7⟩
    · rw [ds_length] at h3 ⊢
      rw [los_length]; exact h3
    · intro z
      have := h4 z
      rw [tns_length] at this ⊢
      rw [klos_length]; exact this
    · rw [tns_length] at h5 ⊢
      rw [klos_length]; exact h5
theorem klos_wf (f : Nat → Bool) : ∀ {ps : List Tk} (n : Nat), Tn.wfs (Tk.tns ps) → Tn.wfs (Tk.tns (Tk.los f ps n))
  | [], _, _ => trivial
  | t :: r, n, h => ⟨klo_wf f n h.1, klos_wf f (n + t.sp) h.2⟩
end
mutual
theorem klo_dep (f : Nat → Bool) : ∀ (t : Tk) (n : Nat), (t.lo f n).tn.dep = t.tn.dep
  | .mk w p fr ks ps, n => by
    show 1 + Tn.deps (Tk.tns (Tk.los f ps (n + Kn.sps ks))) = 1 + Tn.deps (Tk.tns ps)
    rw [klos_dep f ps]
theorem klos_dep (f : Nat → Bool) : ∀ (ps : List Tk) (n : Nat), Tn.deps (Tk.tns (Tk.los f ps n)) = Tn.deps (Tk.tns ps)
  | [], _ => rfl
  | t :: r, n => by
    show max (t.lo f n).tn.dep (Tn.deps (Tk.tns (Tk.los f r (n + t.sp)))) = max t.tn.dep (Tn.deps (Tk.tns r))
    rw [klo_dep f t n, klos_dep f r]
end
mutual
theorem klo_congr {f g : Nat → Bool} : ∀ (t : Tk) (n : Nat), (∀ i, n ≤ i → i < n + t.sp → f i = g i) → t.lo f n = t.lo g n
  | .mk w p fr ks ps, n, e => by
    have e' : ∀ i, n ≤ i → i < n + (Kn.sps ks + Tk.sps ps) → f i = g i := e
    show Tk.mk w p fr (Kn.los f ks n) (Tk.los f ps (n + Kn.sps ks)) = Tk.mk w p fr (Kn.los g ks n) (Tk.los g ps (n + Kn.sps ks))
    rw [los_congr ks n fun i h1 h2 => e' i h1 (by omega), klos_congr ps _ fun i h1 h2 => e' i (by omega) (by omega)]
theorem klos_congr {f g : Nat → Bool} : ∀ (ps : List Tk) (n : Nat), (∀ i, n ≤ i → i < n + Tk.sps ps → f i = g i) → Tk.los f ps n = Tk.los g ps n
  | [], _, _ => rfl
  | t :: r, n, e => by
    have e' : ∀ i, n ≤ i → i < n + (t.sp + Tk.sps r) → f i = g i := e
    show t.lo f n :: Tk.los f r (n + t.sp) = t.lo g n :: Tk.los g r (n + t.sp)
    rw [klo_congr t n fun i h1 h2 => e' i h1 (by omega), klos_congr r (n + t.sp) fun i h1 h2 => e' i (by omega) (by omega)]
end
mutual
/-- whether the second one is looser, of alike ones -/
noncomputable def Tk.lsr : Tk → Tk → Bool
  | .mk _ _ _ ks ps, .mk _ _ _ ls qs => (Kn.looses ks ls ++ Tk.lsrs ps qs).all id
noncomputable def Tk.lsrs : List Tk → List Tk → List Bool
  | t :: r, u :: q => t.lsr u :: Tk.lsrs r q
  | [], _ => []
  | _ :: _, [] => []
end
theorem lsrs_length : ∀ (ks ls : List Tk), (Tk.lsrs ks ls).length = min ks.length ls.length
  | [], ls => by show 0 = _; simp
  | _ :: _, [] => by show 0 = _; simp
  | _ :: r, _ :: q => by show (Tk.lsrs r q).length + 1 = _; rw [lsrs_length r q]; simp
theorem lsrs_get : ∀ {ks ls : List Tk} {i : Nat} (h1 : i < ks.length) (h2 : i < ls.length), (Tk.lsrs ks ls)[i]? = some (ks[i].lsr ls[i])
  | _ :: _, _ :: _, 0, _, _ => rfl
  | _ :: r, _ :: q, i + 1, h1, h2 => by
    show (Tk.lsrs r q)[i]? = _
    exact lsrs_get (ks := r) (ls := q) (by simpa using h1) (by simpa using h2)
theorem lsrs_take : ∀ {ks ls : List Tk} {i : Nat} (h1 : i < ks.length) (h2 : i < ls.length), (Tk.lsrs ks ls).take (i + 1) = (Tk.lsrs ks ls).take i ++ [ks[i].lsr ls[i]] := fun {ks ls i} h1 h2 => by
  have hl : i < (Tk.lsrs ks ls).length := by rw [lsrs_length]; omega
  rw [take_snoc hl]
  have e := lsrs_get h1 h2
  rw [List.getElem?_eq_getElem hl] at e
  rw [Option.some.inj e]
mutual
theorem klsr_self : ∀ (t : Tk), t.lsr t = true
  | .mk w p fr ks ps => by
    show (Kn.looses ks ks ++ Tk.lsrs ps ps).all id = true
    rw [List.all_append, looses_self ks, klsrs_self ps]; rfl
theorem klsrs_self : ∀ (ps : List Tk), (Tk.lsrs ps ps).all id = true
  | [] => rfl
  | t :: r => by
    show (t.lsr t && (Tk.lsrs r r).all id) = true
    rw [klsr_self t, klsrs_self r]; rfl
end
/-! ### the law's own walk over data -/
noncomputable def isSpot : List Dk → Bool
  | .str _ :: r => (match r with | [] => true | .tup _ :: _ => true | _ => false)
  | _ => false
mutual
noncomputable def Dk.lz (f : Nat → Bool) : Dk → Nat → Dk × Nat
  | .tup ds, n => if eqbs ds [.str "?"] then (.tup ds, n) else
      if isSpot ds && f n then (.tup [.str "?"], (lzs f ds (n + (isSpot ds).toNat)).2) else (.tup (lzs f ds (n + (isSpot ds).toNat)).1, (lzs f ds (n + (isSpot ds).toNat)).2)
  | .non, n => (.non, n)
  | .int i, n => (.int i, n)
  | .bl i, n => (.bl i, n)
  | .str i, n => (.str i, n)
noncomputable def lzs (f : Nat → Bool) : List Dk → Nat → List Dk × Nat
  | [], n => ([], n)
  | d :: r, n => ((d.lz f n).1 :: (lzs f r (d.lz f n).2).1, (lzs f r (d.lz f n).2).2)
end
theorem lz_tup (f : Nat → Bool) (ds : List Dk) (n : Nat) : (Dk.tup ds).lz f n = if eqbs ds [.str "?"] then (.tup ds, n) else
      if isSpot ds && f n then (.tup [.str "?"], (lzs f ds (n + (isSpot ds).toNat)).2) else (.tup (lzs f ds (n + (isSpot ds).toNat)).1, (lzs f ds (n + (isSpot ds).toNat)).2) := by rw [Dk.lz]
theorem lzs_nil (f : Nat → Bool) (n : Nat) : lzs f [] n = ([], n) := by rw [lzs]
theorem lzs_cons (f : Nat → Bool) (d : Dk) (r : List Dk) (n : Nat) : lzs f (d :: r) n = ((d.lz f n).1 :: (lzs f r (d.lz f n).2).1, (lzs f r (d.lz f n).2).2) := by rw [lzs]
theorem lz_flat (f : Nat → Bool) {d : Dk} (h : d.flat = true) (n : Nat) : d.lz f n = (d, n) := by
  cases d with
  | tup ds => cases h
  | _ => rw [Dk.lz]
theorem lzs_flat (f : Nat → Bool) : ∀ {fr : List Dk}, (∀ d ∈ fr, d.flat = true) → ∀ n, lzs f fr n = (fr, n)
  | [], _, n => lzs_nil f n
  | d :: r, h, n => by rw [lzs_cons, lz_flat f (h d List.mem_cons_self), lzs_flat f (fun e he => h e (List.mem_cons_of_mem _ he))]
theorem lzs_append (f : Nat → Bool) : ∀ (a b : List Dk) (n : Nat), lzs f (a ++ b) n = ((lzs f a n).1 ++ (lzs f b (lzs f a n).2).1, (lzs f b (lzs f a n).2).2)
  | [], b, n => by rw [lzs_nil]; rfl
  | d :: r, b, n => by
    show lzs f (d :: (r ++ b)) n = _
    rw [lzs_cons, lzs_cons, lzs_append f r b]; rfl
theorem eqb_q1 (h : Str) (r : List Dk) : eqbs (.str h :: r) [.str "?"] = (h == "?" && eqbs r []) := by rw [eqbs]; rfl
theorem eqbs_nil (r : List Dk) : eqbs r [] = r.isEmpty := by cases r <;> rfl
theorem spot_kind (h : Str) : ∀ (ks : List Kn), isSpot (.str h :: Kn.ds ks) = true
  | [] => rfl
  | .mk g ls :: r => rfl
mutual
theorem lz_kind (f : Nat → Bool) : ∀ {k : Kn} (n : Nat), k.wf → k.d.lz f n = ((k.lo f n).d, n + k.sp)
  | .mk h ks, n, w => by
    show (Dk.tup (.str h :: Kn.ds ks)).lz f n = _
    rw [lz_tup, eqb_q1, eqbs_nil, lo_eq, sp_eq]
    by_cases c : h = "?"
    · have e := wf_head w c
      subst e c
      rfl
    · have e : (h == "?" && (Kn.ds ks).isEmpty) = false := by
        have : (h == "?") = false := by simpa using c
        rw [this]; rfl
      have e2 : lzs f (.str h :: Kn.ds ks) (n + 1) = (.str h :: Kn.ds (Kn.los f ks (n + 1)), n + 1 + Kn.sps ks) := by
        rw [lzs_cons, lz_flat f (by rfl : (Dk.str h).flat = true), lz_kinds f (n + 1) w.2]
      rw [e, spot_kind, if_neg c, if_neg c, show n + true.toNat = n + 1 from rfl, e2, if_neg (by decide), Bool.true_and]
      by_cases c2 : f n = true
      · rw [if_pos c2, if_pos c2]
        show (_, n + 1 + Kn.sps ks) = (qK.d, n + (1 + Kn.sps ks))
        rw [Nat.add_assoc]; rfl
      · rw [if_neg c2, if_neg c2]
        show (_, n + 1 + Kn.sps ks) = ((Kn.mk h _).d, n + (1 + Kn.sps ks))
        rw [Nat.add_assoc]; rfl
theorem lz_kinds (f : Nat → Bool) : ∀ {ks : List Kn} (n : Nat), Kn.wfs ks → lzs f (Kn.ds ks) n = (Kn.ds (Kn.los f ks n), n + Kn.sps ks)
  | [], n, _ => by show lzs f [] n = _; rw [lzs_nil]; rfl
  | t :: r, n, w => by
    show lzs f (t.d :: Kn.ds r) n = _
    rw [lzs_cons, lz_kind f n w.1, lz_kinds f (n + t.sp) w.2]
    show (_, n + t.sp + Kn.sps r) = (_, n + (t.sp + Kn.sps r))
    rw [Nat.add_assoc]; rfl
end
theorem spot_row : ∀ (ps : List Tk), isSpot (Tn.ds (Tk.tns ps)) = false
  | [] => rfl
  | .mk w p fr ks ps :: r => rfl
theorem eqb_row : ∀ (ps : List Tk), eqbs (Tn.ds (Tk.tns ps)) [.str "?"] = false
  | [] => rfl
  | .mk w p fr ks ps :: r => rfl
mutual
theorem lz_tree (f : Nat → Bool) : ∀ {t : Tk} (n : Nat), t.ok → t.tn.d.lz f n = ((t.lo f n).tn.d, n + t.sp)
  | .mk w p fr ks ps, n, o => by
    show (Dk.tup (.str w :: .int p :: (fr ++ Kn.ds ks ++ (if w = "row" then [.tup (Tn.ds (Tk.tns ps))] else Tn.ds (Tk.tns ps))))).lz f n = (Dk.tup (.str w :: .int p :: (fr ++ Kn.ds (Kn.los f ks n) ++ (if w = "row" then [.tup (Tn.ds (Tk.tns (Tk.los f ps (n + Kn.sps ks))))] else Tn.ds (Tk.tns (Tk.los f ps (n + Kn.sps ks)))))), n + (Kn.sps ks + Tk.sps ps))
    have e : lzs f (if w = "row" then [.tup (Tn.ds (Tk.tns ps))] else Tn.ds (Tk.tns ps)) (n + Kn.sps ks) = (if w = "row" then [.tup (Tn.ds (Tk.tns (Tk.los f ps (n + Kn.sps ks))))] else Tn.ds (Tk.tns (Tk.los f ps (n + Kn.sps ks))), n + Kn.sps ks + Tk.sps ps) := by
      by_cases c : w = "row"
      · rw [if_pos c, if_pos c, lzs_cons, lzs_nil, lz_tup, eqb_row, spot_row, if_neg (by decide)]
        rw [show n + Kn.sps ks + false.toNat = n + Kn.sps ks from rfl, Bool.false_and, if_neg (by decide), lz_trees f (n + Kn.sps ks) o.2]
      · rw [if_neg c, if_neg c, lz_trees f (n + Kn.sps ks) o.2]
    rw [lz_tup, eqb_q1, eqbs_nil, lzs_cons, lzs_cons, lz_flat f (by rfl : (Dk.str w).flat = true), lz_flat f (by rfl : (Dk.int p).flat = true)]
    show (if (w == "?" && false) = true then _ else if false = true then _ else (Dk.tup (_ :: _ :: (lzs f _ n).1), (lzs f _ n).2)) = _
    rw [Bool.and_false, if_neg (by decide), if_neg (by decide), lzs_append, lzs_append, lzs_flat f o.1.2.2.1, lz_kinds f n o.1.1, e, ← Nat.add_assoc]
theorem lz_trees (f : Nat → Bool) : ∀ {ps : List Tk} (n : Nat), Tk.oks ps → lzs f (Tn.ds (Tk.tns ps)) n = (Tn.ds (Tk.tns (Tk.los f ps n)), n + Tk.sps ps)
  | [], n, _ => by show lzs f [] n = _; rw [lzs_nil]; rfl
  | t :: r, n, w => by
    show lzs f (t.tn.d :: Tn.ds (Tk.tns r)) n = _
    rw [lzs_cons, lz_tree f n w.1, lz_trees f (n + t.sp) w.2]
    show (_, n + t.sp + Tk.sps r) = (_, n + (t.sp + Tk.sps r))
    rw [Nat.add_assoc]; rfl
end
/-! ### == of a program and what is left of it -/
end L2.Bk

end
section
set_option Elab.async false
set_option linter.all false
set_option maxRecDepth 100000
set_option maxHeartbeats 4000000
/-! Bits of whole numbers; != of two tuples of a text, a number, a list of data and a number. -/
namespace L2.Bk
open PySem PySem.Spec PyProof.Rows L2.Bw L2.Ex
mutual
theorem sp_le : ∀ {k : Kn}, k.wf → k.sp + 1 ≤ 2 ^ k.dep
  | .mk h ks, w => by
    rw [sp_eq]
    have e : (Kn.mk h ks).dep = 1 + Kn.deps ks := rfl
    have p : 1 ≤ 2 ^ Kn.deps ks := Nat.one_le_two_pow
    rw [e, Nat.pow_add, Nat.pow_one]
    split
    · omega
    · have l := arity_le w.1
      have z := sps_le w.2
      generalize 2 ^ Kn.deps ks = x at *
      have c : ks.length = 0 ∨ ks.length = 1 ∨ ks.length = 2 := by omega
      rcases c with c | c | c <;> rw [c] at z <;> omega
theorem sps_le : ∀ {ks : List Kn}, Kn.wfs ks → Kn.sps ks + ks.length ≤ ks.length * 2 ^ Kn.deps ks
  | [], _ => Nat.zero_le _
  | t :: r, w => by
    have h1 := sp_le w.1
    have h2 := sps_le w.2
    show t.sp + Kn.sps r + (r.length + 1) ≤ (r.length + 1) * 2 ^ max t.dep (Kn.deps r)
    have m1 : 2 ^ t.dep ≤ 2 ^ max t.dep (Kn.deps r) := Nat.pow_le_pow_right (by decide) (Nat.le_max_left _ _)
    have m2 : r.length * 2 ^ Kn.deps r ≤ r.length * 2 ^ max t.dep (Kn.deps r) := Nat.mul_le_mul_left _ (Nat.pow_le_pow_right (by decide) (Nat.le_max_right _ _))
    rw [Nat.add_mul, Nat.one_mul]
    omega
end
theorem ktd_get : ∀ {ps : List Tk} {i : Nat} (h : i < ps.length), (Tn.ds (Tk.tns ps))[i]? = some ps[i].tn.d
  | _ :: _, 0, _ => rfl
  | _ :: r, i + 1, h => by
    show (Tn.ds (Tk.tns r))[i]? = _
    exact ktd_get (ps := r) (by simpa using h)
theorem ktd_len (ps : List Tk) : (Tn.ds (Tk.tns ps)).length = ps.length := by rw [tds_length, tns_length]
theorem ktdeps_get : ∀ {ps : List Tk} {i : Nat} (h : i < ps.length), ps[i].tn.dep ≤ Tn.deps (Tk.tns ps)
  | t :: r, 0, _ => Nat.le_max_left _ _
  | t :: r, i + 1, h => Nat.le_trans (ktdeps_get (ps := r) (by simpa using h)) (Nat.le_max_right _ _)
theorem ktwfs_get : ∀ {ps : List Tk} {i : Nat} (h : i < ps.length), Tn.wfs (Tk.tns ps) → ps[i].tn.wf
  | t :: r, 0, _, z => z.1
  | t :: r, i + 1, h, z => ktwfs_get (ps := r) (by simpa using h) z.2
theorem ktd_append (a b : List Tk) : Tn.ds (Tk.tns (a ++ b)) = Tn.ds (Tk.tns a) ++ Tn.ds (Tk.tns b) := by rw [tns_append, tds_append]
mutual
/-- the place of the first node that is unlike -/
noncomputable def Tk.unl : Tk → Tk → Option Int
  | .mk w p fr _ ps, .mk w' p' fr' _ qs => if (w == w' && (p == p' && (eqbs fr fr' && (ps.length : Int) == (qs.length : Int)))) = true then Tk.unls ps qs else some p
noncomputable def Tk.unls : List Tk → List Tk → Option Int
  | t :: r, u :: q => match t.unl u with
    | some x => some x
    | none => Tk.unls r q
  | [], _ => none
  | _ :: _, [] => none
end
theorem unl_eq (w w' : Str) (p p' : Int) (fr fr' : List Dk) (ks ks' : List Kn) (ps qs : List Tk) : (Tk.mk w p fr ks ps).unl (.mk w' p' fr' ks' qs) = if (w == w' && (p == p' && (eqbs fr fr' && (ps.length : Int) == (qs.length : Int)))) = true then Tk.unls ps qs else some p := by rw [Tk.unl]
theorem unls_nil (qs : List Tk) : Tk.unls [] qs = none := by rw [Tk.unls]
theorem unls_cons (t u : Tk) (r q : List Tk) : Tk.unls (t :: r) (u :: q) = match t.unl u with | some x => some x | none => Tk.unls r q := by rw [Tk.unls]
theorem unls_drop {ps qs : List Tk} {i : Nat} (h1 : i < ps.length) (h2 : i < qs.length) : Tk.unls (ps.drop i) (qs.drop i) = match ps[i].unl qs[i] with | some x => some x | none => Tk.unls (ps.drop (i + 1)) (qs.drop (i + 1)) := by
  rw [List.drop_eq_getElem_cons h1, List.drop_eq_getElem_cons h2, unls_cons]
mutual
theorem unl_lo (f g : Nat → Bool) : ∀ (t : Tk) (n m : Nat), (t.lo f n).unl (t.lo g m) = none
  | .mk w p fr ks ps, n, m => by
    show (Tk.mk w p fr _ (Tk.los f ps _)).unl (Tk.mk w p fr _ (Tk.los g ps _)) = none
    rw [unl_eq, klos_length, klos_length, eqbs_refl, beq_self_eq_true, beq_self_eq_true, beq_self_eq_true, if_pos (by decide)]
    exact unls_lo f g ps _ _
theorem unls_lo (f g : Nat → Bool) : ∀ (ps : List Tk) (n m : Nat), Tk.unls (Tk.los f ps n) (Tk.los g ps m) = none
  | [], _, _ => unls_nil _
  | t :: r, n, m => by
    show Tk.unls (t.lo f n :: _) (t.lo g m :: _) = none
    rw [unls_cons, unl_lo f g t n m]
    exact unls_lo f g r _ _
end
noncomputable def oi : Option Int → V
  | none => .non
  | some i => .int i
mutual
/-- truths are truths -/
noncomputable def Tk.tru : Tk → Prop
  | .mk w _ fr _ ps => (w = "truth" → ∃ b, fr = [.bl b]) ∧ Tk.trus ps
noncomputable def Tk.trus : List Tk → Prop
  | [] => True
  | t :: r => t.tru ∧ Tk.trus r
end
theorem ktrus_append : ∀ {a b : List Tk}, Tk.trus a → Tk.trus b → Tk.trus (a ++ b)
  | [], _, _, h => h
  | _ :: r, _, h, h' => ⟨h.1, ktrus_append h.2 h'⟩
theorem kwfs_append : ∀ {a b : List Tk}, Tn.wfs (Tk.tns a) → Tn.wfs (Tk.tns b) → Tn.wfs (Tk.tns (a ++ b))
  | [], _, _, h => h
  | _ :: r, _, h, h' => ⟨h.1, kwfs_append h.2 h'⟩
theorem kdeps_append : ∀ (a b : List Tk), Tn.deps (Tk.tns (a ++ b)) = max (Tn.deps (Tk.tns a)) (Tn.deps (Tk.tns b))
  | [], b => by show Tn.deps (Tk.tns b) = max 0 _; omega
  | t :: r, b => by show max t.tn.dep (Tn.deps (Tk.tns (r ++ b))) = max (max t.tn.dep (Tn.deps (Tk.tns r))) (Tn.deps (Tk.tns b)); rw [kdeps_append r b]; omega
/-- whether data is a tuple, a text -/
noncomputable def Dk.isT : Dk → Bool
  | .tup _ => true
  | _ => false
noncomputable def Dk.isS : Dk → Bool
  | .str _ => true
  | _ => false
theorem isj_t {K : PySem.W.Frag} {H : Hp} {d : Dk} {v : V} (r : RK K H d v) : IsJ K H v "tuple" d.isT := by
  cases d with
  | tup ds =>
    obtain ⟨a, vs, rfl, ha, _⟩ := RK.get r
    rcases ha with h | h
    · exact .inl ⟨_, .tup h, show PySem.W.kitOne K (.type "tuple") (.type "tuple") = some true from (by decide +kernel : PySem.W.kitOne [] (.type "tuple") (.type "tuple") = some true)⟩
    · exact .inr ⟨a, vs, rfl, h, show PySem.W.kitOne K (.type "tuple") (.type "tuple") = some true from (by decide +kernel : PySem.W.kitOne [] (.type "tuple") (.type "tuple") = some true)⟩
  | non => rw [RK] at r; subst r; exact .inl ⟨_, .non, show PySem.W.kitOne K (.type "NoneType") (.type "tuple") = some false from (by decide +kernel : PySem.W.kitOne [] (.type "NoneType") (.type "tuple") = some false)⟩
  | int i => rw [RK] at r; subst r; exact .inl ⟨_, .int i, show PySem.W.kitOne K (.type "int") (.type "tuple") = some false from (by decide +kernel : PySem.W.kitOne [] (.type "int") (.type "tuple") = some false)⟩
  | bl i => rw [RK] at r; subst r; exact .inl ⟨_, .bl i, show PySem.W.kitOne K (.type "bool") (.type "tuple") = some false from (by decide +kernel : PySem.W.kitOne [] (.type "bool") (.type "tuple") = some false)⟩
  | str i => rw [RK] at r; subst r; exact .inl ⟨_, .str i, show PySem.W.kitOne K (.type "str") (.type "tuple") = some false from (by decide +kernel : PySem.W.kitOne [] (.type "str") (.type "tuple") = some false)⟩
theorem isj_s {K : PySem.W.Frag} {H : Hp} {d : Dk} {v : V} (r : RK K H d v) : IsJ K H v "str" d.isS := by
  cases d with
  | tup ds =>
    obtain ⟨a, vs, rfl, ha, _⟩ := RK.get r
    rcases ha with h | h
    · exact .inl ⟨_, .tup h, show PySem.W.kitOne K (.type "tuple") (.type "str") = some false from (by decide +kernel : PySem.W.kitOne [] (.type "tuple") (.type "str") = some false)⟩
    · exact .inr ⟨a, vs, rfl, h, show PySem.W.kitOne K (.type "tuple") (.type "str") = some false from (by decide +kernel : PySem.W.kitOne [] (.type "tuple") (.type "str") = some false)⟩
  | non => rw [RK] at r; subst r; exact .inl ⟨_, .non, show PySem.W.kitOne K (.type "NoneType") (.type "str") = some false from (by decide +kernel : PySem.W.kitOne [] (.type "NoneType") (.type "str") = some false)⟩
  | int i => rw [RK] at r; subst r; exact .inl ⟨_, .int i, show PySem.W.kitOne K (.type "int") (.type "str") = some false from (by decide +kernel : PySem.W.kitOne [] (.type "int") (.type "str") = some false)⟩
  | bl i => rw [RK] at r; subst r; exact .inl ⟨_, .bl i, show PySem.W.kitOne K (.type "bool") (.type "str") = some false from (by decide +kernel : PySem.W.kitOne [] (.type "bool") (.type "str") = some false)⟩
  | str i => rw [RK] at r; subst r; exact .inl ⟨_, .str i, show PySem.W.kitOne K (.type "str") (.type "str") = some true from (by decide +kernel : PySem.W.kitOne [] (.type "str") (.type "str") = some true)⟩
theorem lzs_take (f : Nat → Bool) {ds : List Dk} {i : Nat} (h : i < ds.length) (n : Nat) : lzs f (ds.take (i + 1)) n = ((lzs f (ds.take i) n).1 ++ [(ds[i].lz f (lzs f (ds.take i) n).2).1], (ds[i].lz f (lzs f (ds.take i) n).2).2) := by
  rw [take_snoc h, lzs_append, lzs_cons, lzs_nil]
theorem lzs_length (f : Nat → Bool) : ∀ (ds : List Dk) (n : Nat), (lzs f ds n).1.length = ds.length
  | [], n => by rw [lzs_nil]
  | d :: r, n => by rw [lzs_cons]; show (lzs f r _).1.length + 1 = r.length + 1; rw [lzs_length f r]
mutual
theorem dq_tn : ∀ {t : Tk}, t.ok → t.tn.d.dq ≤ 2 * t.tn.dep + 8
  | .mk w p fr ks ps, o => by
    show (Dk.tup (.str w :: .int p :: (fr ++ Kn.ds ks ++ (if w = "row" then [.tup (Tn.ds (Tk.tns ps))] else Tn.ds (Tk.tns ps))))).dq ≤ 2 * (1 + Tn.deps (Tk.tns ps)) + 8
    rw [dq_tup]
    have h := dqs_tns o.2
    have hk : dqs (Kn.ds ks) ≤ 7 := by rw [dq_ds]; exact o.1.2.1
    have z : dqs (.str w :: .int p :: (fr ++ Kn.ds ks ++ (if w = "row" then [.tup (Tn.ds (Tk.tns ps))] else Tn.ds (Tk.tns ps)))) ≤ 2 * Tn.deps (Tk.tns ps) + 9 := dqs_le fun d hd => by
      rcases List.mem_cons.mp hd with rfl | hd
      · rw [dq_str]; omega
      rcases List.mem_cons.mp hd with rfl | hd
      · rw [dq_int]; omega
      rcases List.mem_append.mp hd with hd | hd
      · rcases List.mem_append.mp hd with hd | hd
        · have := o.1.2.2.1 d hd
          cases d with
          | tup _ => cases this
          | non => rw [dq_non]; omega
          | int _ => rw [dq_int]; omega
          | bl _ => rw [dq_bl]; omega
          | str _ => rw [dq_str]; omega
        · have := dqs_mem hd
          omega
      · split at hd
        · rw [List.mem_singleton.mp hd, dq_tup]
          omega
        · have := dqs_mem hd
          omega
    omega
theorem dqs_tns : ∀ {ps : List Tk}, Tk.oks ps → dqs (Tn.ds (Tk.tns ps)) ≤ 2 * Tn.deps (Tk.tns ps) + 8
  | [], _ => by show dqs [] ≤ _; rw [dqs_nil]; omega
  | t :: r, o => by
    show dqs (t.tn.d :: Tn.ds (Tk.tns r)) ≤ 2 * max t.tn.dep (Tn.deps (Tk.tns r)) + 8
    rw [dqs_cons]
    have h1 := dq_tn o.1
    have h2 := dqs_tns o.2
    omega
end
theorem oks_of_wfs : ∀ {ks : List Kn}, Kn.wfs ks → ∀ d ∈ Kn.ds ks, d.nr
  | [], _, d, hd => nomatch hd
  | .mk h ls :: r, w, d, hd => by
    rcases List.mem_cons.mp hd with rfl | hd
    · have l := arity_le w.1.1
      refine nr_mk (by rw [List.length_cons, ds_length]; omega) fun e he => ?_
      rcases List.mem_cons.mp he with rfl | he
      · exact nr_str _
      · exact oks_of_wfs w.1.2 e he
    · exact oks_of_wfs w.2 d hd
mutual
theorem nr_tn : ∀ {t : Tk}, t.tn.wf → t.ok → t.tn.d.nr
  | .mk w p fr ks ps, wt, o => by
    obtain ⟨⟨h1, h2, h3, h4, h5, h6⟩, h7⟩ := wt
    have zf : K11.nf w ≤ 5 := (show ∀ x ∈ K11.words, K11.nf x ≤ 5 by decide +kernel) w h1
    have zk : K11.nk w ≤ 5 := (show ∀ x ∈ K11.words, K11.nk x ≤ 5 by decide +kernel) w h1
    have hp := nr_tns h7 o.2
    show (Dk.tup (.str w :: .int p :: (fr ++ Kn.ds ks ++ (if w = "row" then [.tup (Tn.ds (Tk.tns ps))] else Tn.ds (Tk.tns ps))))).nr
    refine nr_mk ?_ fun d hd => ?_
    · have l5 : (if w = "row" then [Dk.tup (Tn.ds (Tk.tns ps))] else Tn.ds (Tk.tns ps)).length ≤ 5 := by
        split
        · show 1 ≤ 5; decide
        · rw [tds_length]; exact h5
      rw [List.length_cons, List.length_cons, List.length_append, List.length_append]
      omega
    rcases List.mem_cons.mp hd with rfl | hd
    · exact nr_str _
    rcases List.mem_cons.mp hd with rfl | hd
    · exact nr_int _
    rcases List.mem_append.mp hd with hd | hd
    · rcases List.mem_append.mp hd with hd | hd
      · have := o.1.2.2.1 d hd
        cases d with
        | tup _ => cases this
        | non => exact nr_non
        | int _ => exact nr_int _
        | bl _ => exact nr_bl _
        | str _ => exact nr_str _
      · exact oks_of_wfs o.1.1 d hd
    · split at hd
      · rw [List.mem_singleton.mp hd]
        exact nr_mk (by rw [tds_length]; omega) hp
      · exact hp d hd
theorem nr_tns : ∀ {ps : List Tk}, Tn.wfs (Tk.tns ps) → Tk.oks ps → ∀ d ∈ Tn.ds (Tk.tns ps), d.nr
  | [], _, _, d, hd => nomatch hd
  | t :: r, w, o, d, hd => by
    rcases List.mem_cons.mp hd with rfl | hd
    · exact nr_tn w.1 o.1
    · exact nr_tns w.2 o.2 d hd
end
theorem gr_old {H H1 H2 : Hp} {l : Addr} (o : Old H H1) (hl : H l = none) (g : Gr (M1 l) H1 H2) : Old H H2 := fun b x e => g b x (o b x e) fun z => by
  cases (show b = l from z)
  rw [hl] at e
  cases e
section
variable {X : Cx}
noncomputable def Ot (K : PySem.W.Frag) (H : Hp) (v : V) (w : Str) (p : Int) (ds : List Dk) (n : Int) : Prop := ∃ a l us, v = .ref a ∧ H a = some (.tup [.str w, .int p, .ref l, .int n]) ∧ H l = some (.lst us) ∧ RKs K H ds us
noncomputable def rNeO (K : PySem.W.Frag) : R2 := fun x y H Q => ∃ w p ds n w' p' ds' n', Ot K H x w p ds n ∧ Ot K H y w' p' ds' n' ∧ dqs ds ≤ 20 ∧ Q (.bl (!(w == w' && (p == p' && (eqbs ds ds' && n == n'))))) H
theorem lst_eqb {s : Shared} {pins : List (Addr × Obj)} {σ : St} {H : Hp} (I : Inv X pins σ H s) {A : Around} {l b : Addr} {us ws : List V} {ds es : List Dk} (hl : H l = some (.lst us)) (hb : H b = some (.lst ws)) (rl : RKs X.K H ds us) (rb : RKs X.K H es ws) (hd : dqs ds ≤ 20) (hu : A.units + 30 < cLine) : SeqAt.EqAt A s (.ref l) (.ref b) (eqbs ds es) := by
  by_cases hab : l = b
  · subst hab
    rw [hl] at hb
    cases hb
    rw [rks_det I rl rb, eqbs_refl]
    exact SeqAt.EqAt.same _
  obtain ⟨i1, r1, p1, z1⟩ := I.list (SqL.of hl)
  obtain ⟨i2, r2, p2, z2⟩ := I.list (SqL.of hb)
  have h1 := p1.isList
  have h2 := p2.isList
  have l1 := r1.length
  have l2 := r2.length
  have l3 := rl.length
  have l4 := rb.length
  by_cases hsz : i1.toArray.size = i2.toArray.size
  · have key := SeqAt.RcAt.lists (A := A) (s := s) (e := fun j => (ds[j]?.getD .non).eqb (es[j]?.getD .non)) h1 h2 hsz (by omega) fun j h1 h2 => by
      have hjd : j < ds.length := by simp at h1; omega
      have hje : j < es.length := by simp at h2; omega
      obtain ⟨x1, e1, q1⟩ := rl.get (List.getElem?_eq_getElem hjd)
      obtain ⟨y1, e2, q2⟩ := rb.get (List.getElem?_eq_getElem hje)
      have k := dqs_mem (List.getElem_mem hjd)
      simp only [List.getElem?_eq_getElem hjd, List.getElem?_eq_getElem hje, Option.getD_some]
      exact rk_eqb I 20 (A := A.in1) (by omega) q1 q2 (item_k r1 e1 h1) (item_k r2 e2 h2) (by show A.units + 1 + 20 < cLine; omega)
    have val : (List.range i1.toArray.size).all (fun j => (ds[j]?.getD .non).eqb (es[j]?.getD .non)) = eqbs ds es := by
      rw [List.size_toArray, List.size_toArray] at hsz
      have e0 : ds.length = es.length := by omega
      rw [eqbs_range, List.size_toArray, ← e0, Nat.min_self, beq_self_eq_true, Bool.and_true, show i1.length = ds.length by omega]
    rw [val] at key
    exact SeqAt.EqAt.of_refs hab key
  · have key := SeqAt.RcAt.lists_lengths (A := A) (s := s) h1 h2 (by simpa using hsz) (by omega)
    rw [List.size_toArray, List.size_toArray] at hsz
    have e0 : (ds.length == es.length) = false := by
      have : ds.length ≠ es.length := by omega
      simpa using this
    rw [eqbs_range, e0, Bool.and_false]
    exact SeqAt.EqAt.of_refs hab key
theorem op_neO {k : Nat} (hr : Room k X.A) : OpR X (compareOp .NotEq) (rNeO X.K) := by
  intro pins s σ H x y v u Q I rx ry h
  obtain ⟨w, p, ds, n, w', p', ds', n', ⟨a, l, us, rfl, ha, hl, rl⟩, ⟨a', l', us', rfl, ha', hl', rl'⟩, hd, q⟩ := h
  have hu := hr.units
  cases rx
  cases ry
  obtain ⟨i1, r1, p1, z1⟩ := I.tuple (SqT.of ha)
  obtain ⟨i2, r2, p2, z2⟩ := I.tuple (SqT.of ha')
  obtain ⟨c0, r1, rfl, f0, ⟨c1, r1', rfl, f1, ⟨c2, r1'', rfl, f2, ⟨c3, r1''', rfl, f3, g⟩⟩⟩⟩ : ∃ c0 r, i1 = c0 :: r ∧ RelV (.str w) c0 ∧ (∃ c1 r', r = c1 :: r' ∧ RelV (.int p) c1 ∧ (∃ c2 r'', r' = c2 :: r'' ∧ RelV (.ref l) c2 ∧ ∃ c3 r''', r'' = c3 :: r''' ∧ RelV (.int n) c3 ∧ Vals [] r''')) := by
    cases r1 with | cons f0 r1 => cases r1 with | cons f1 r1 => cases r1 with | cons f2 r1 => cases r1 with | cons f3 r1 => exact ⟨_, _, rfl, f0, _, _, rfl, f1, _, _, rfl, f2, _, _, rfl, f3, r1⟩
  cases g
  obtain ⟨d0, r2, rfl, g0, ⟨d1, r2', rfl, g1, ⟨d2, r2'', rfl, g2, ⟨d3, r2''', rfl, g3, g⟩⟩⟩⟩ : ∃ c0 r, i2 = c0 :: r ∧ RelV (.str w') c0 ∧ (∃ c1 r', r = c1 :: r' ∧ RelV (.int p') c1 ∧ (∃ c2 r'', r' = c2 :: r'' ∧ RelV (.ref l') c2 ∧ ∃ c3 r''', r'' = c3 :: r''' ∧ RelV (.int n') c3 ∧ Vals [] r''')) := by
    cases r2 with | cons f0 r1 => cases r1 with | cons f1 r1 => cases r1 with | cons f2 r1 => cases r1 with | cons f3 r1 => exact ⟨_, _, rfl, f0, _, _, rfl, f1, _, _, rfl, f2, _, _, rfl, f3, r1⟩
  cases g
  have e0 := eqAt_V (A := X.A.in1) (s := s) f0 g0 rfl rfl
  have e1 := eqAt_V (A := X.A.in1) (s := s) f1 g1 rfl rfl
  have e3 := eqAt_V (A := X.A.in1) (s := s) f3 g3 rfl rfl
  cases f2
  cases g2
  have e2 := lst_eqb I (A := X.A.in1) hl hl' rl rl' hd (by show X.A.units + 1 + 30 < cLine; omega)
  have key := SeqAt.RcNeAt.tuples (A := X.A) (s := s) (e := fun j => match j with | 0 => eqV (.str w) (.str w') | 1 => eqV (.int p) (.int p') | 2 => eqbs ds ds' | _ => eqV (.int n) (.int n')) p1 p2 (by omega) fun j h1 h2 => by
    match j, h1, h2 with
    | 0, _, _ => exact e0
    | 1, _, _ => exact e1
    | 2, _, _ => exact e2
    | 3, _, _ => exact e3
    | j + 4, h1, _ => exact absurd h1 (by show ¬ j + 4 < 4; omega)
  refine key _ _ _ _ ⟨.bl _, H, I, rfl, ?_⟩
  have val : (!((List.range (min 4 4)).all (fun j => match j with | 0 => eqV (.str w) (.str w') | 1 => eqV (.int p) (.int p') | 2 => eqbs ds ds' | _ => eqV (.int n) (.int n')) && (4 == 4))) = !(w == w' && (p == p' && (eqbs ds ds' && n == n'))) := by
    have a1 : eqV (.str w) (.str w') = (w == w') := rfl
    have a2 : eqV (.int p) (.int p') = (p == p') := rfl
    have a3 : eqV (.int n) (.int n') = (n == n') := rfl
    rw [a1, a2, a3]
    show (!((w == w' && (p == p' && (eqbs ds ds' && (n == n' && true)))) && true)) = _
    rw [Bool.and_true, Bool.and_true]
  exact val ▸ q
end
end L2.Bk

end
section
set_option Elab.async false
set_option linter.all false
set_option maxRecDepth 100000
set_option maxHeartbeats 4000000
/-! Data in which truths are truths; bits. -/
namespace L2.Bk
open PySem PySem.Spec PyProof.Rows L2.Bw L2.Ex
mutual
noncomputable def Dk.gt : Dk → Prop
  | .tup ds => (∃ y b, ds = [.str "truth", y, .bl b]) ∨ ((ds.length = 3 → (∃ z r, ds = .str z :: r ∧ z ≠ "truth") ∨ ∃ es r, ds = .tup es :: r) ∧ gts ds)
  | .non => True
  | .int _ => True
  | .bl _ => True
  | .str _ => True
noncomputable def gts : List Dk → Prop
  | [] => True
  | d :: r => d.gt ∧ gts r
end
end L2.Bk

end
section
set_option Elab.async false
set_option linter.all false
set_option maxRecDepth 100000
set_option maxHeartbeats 4000000
/-! Kinds and programs with parts taken away, joined and met. -/
namespace L2.Bk
open PySem PySem.Spec PyProof.Rows L2.Bw L2.Ex
mutual
theorem join_lo (f g : Nat → Bool) : ∀ {k : Kn} (n : Nat), k.wf → (k.lo f n).join (k.lo g n) = k.lo (fun i => f i || g i) n
  | .mk h ks, n, w => by
    rw [lo_eq, lo_eq, lo_eq]
    by_cases c : h = "?"
    · rw [if_pos c, if_pos c, if_pos c]
      have e := wf_head w c
      subst e
      show (if h = h then Kn.mk h (Kn.joins [] []) else qK) = _
      rw [if_pos rfl]; rfl
    rw [if_neg c, if_neg c, if_neg c]
    by_cases c1 : f n = true
    · rw [if_pos c1, if_pos (show (f n || g n) = true by rw [c1]; rfl)]
      exact join_q _
    · have c1' : f n = false := by simpa using c1
      rw [if_neg c1]
      by_cases c2 : g n = true
      · rw [if_pos c2, if_pos (show (f n || g n) = true by rw [c1', c2]; rfl)]
        show (if h = "?" then _ else qK) = qK
        rw [if_neg c]
      · have c2' : g n = false := by simpa using c2
        rw [if_neg c2, if_neg (show ¬ (f n || g n) = true by rw [c1', c2']; decide)]
        show (if h = h then Kn.mk h (Kn.joins _ _) else qK) = _
        rw [if_pos rfl, joins_lo f g (n + 1) w.2]
theorem joins_lo (f g : Nat → Bool) : ∀ {ks : List Kn} (n : Nat), Kn.wfs ks → Kn.joins (Kn.los f ks n) (Kn.los g ks n) = Kn.los (fun i => f i || g i) ks n
  | [], _, _ => rfl
  | t :: r, n, w => by
    show (t.lo f n).join (t.lo g n) :: Kn.joins (Kn.los f r (n + t.sp)) (Kn.los g r (n + t.sp)) = t.lo _ n :: Kn.los _ r (n + t.sp)
    rw [join_lo f g n w.1, joins_lo f g (n + t.sp) w.2]
end
theorem zjoin_lo (f g : Nat → Bool) : ∀ {ks : List Kn} (n : Nat), Kn.wfs ks → List.zipWith Kn.join (Kn.los f ks n) (Kn.los g ks n) = Kn.los (fun i => f i || g i) ks n
  | [], _, _ => rfl
  | t :: r, n, w => by
    show (t.lo f n).join (t.lo g n) :: List.zipWith Kn.join (Kn.los f r (n + t.sp)) (Kn.los g r (n + t.sp)) = t.lo _ n :: Kn.los _ r (n + t.sp)
    rw [join_lo f g n w.1, zjoin_lo f g (n + t.sp) w.2]
mutual
theorem part_lo (f g : Nat → Bool) : ∀ {k : Kn} (n : Nat), k.wf → (k.lo f n).part (k.lo g n) = none
  | .mk h ks, n, w => by
    rw [lo_eq, lo_eq]
    by_cases c : h = "?"
    · rw [if_pos c, if_pos c]; exact part_self _
    rw [if_neg c, if_neg c]
    by_cases c1 : f n = true
    · rw [if_pos c1]; exact part_q _
    rw [if_neg c1]
    by_cases c2 : g n = true
    · rw [if_pos c2, part_comm]; exact part_q _
    rw [if_neg c2]
    have e : (Kn.mk h (Kn.los f ks (n + 1))).part (.mk h (Kn.los g ks (n + 1))) = if h = "?" then none else if h = "?" then none else if h = h then Kn.parts (stepsOf h) (Kn.los f ks (n + 1)) (Kn.los g ks (n + 1)) else some [] := rfl
    rw [e, if_neg c, if_neg c, if_pos rfl]
    exact (parts_none (by rw [steps_len w.1, los_length]) (by rw [los_length, los_length])).mpr (fits_lo f g (n + 1) w.2)
theorem fits_lo (f g : Nat → Bool) : ∀ {ks : List Kn} (n : Nat), Kn.wfs ks → Kn.fits (Kn.los f ks n) (Kn.los g ks n)
  | [], _, _ => trivial
  | t :: r, n, w => ⟨part_lo f g n w.1, fits_lo f g (n + t.sp) w.2⟩
end
mutual
/-- what is taken away is taken away with all that is in it -/
noncomputable def Kn.cl (f : Nat → Bool) : Kn → Nat → Prop
  | .mk h ks, n => h = "?" ∨ ((f n = true → ∀ i, n ≤ i → i < n + (1 + Kn.sps ks) → f i = true) ∧ Kn.cls f ks (n + 1))
noncomputable def Kn.cls (f : Nat → Bool) : List Kn → Nat → Prop
  | [], _ => True
  | t :: r, n => t.cl f n ∧ Kn.cls f r (n + t.sp)
end
mutual
theorem both_lo (f g : Nat → Bool) : ∀ {k : Kn} (n : Nat), k.wf → k.cl f n → k.cl g n → (k.lo f n).both (k.lo g n) = k.lo (fun i => f i && g i) n
  | .mk h ks, n, w, cf, cg => by
    by_cases c : h = "?"
    · rw [lo_eq, lo_eq, lo_eq, if_pos c, if_pos c, if_pos c]
      exact both_self _
    have sp := sp_eq h ks
    rw [if_neg c] at sp
    obtain ⟨cf1, cf2⟩ := cf.resolve_left c
    obtain ⟨cg1, cg2⟩ := cg.resolve_left c
    by_cases c1 : f n = true
    · have e : (Kn.mk h ks).lo f n = qK := by rw [lo_eq, if_neg c, if_pos c1]
      rw [e, both_q]
      exact lo_congr _ n fun i h1 h2 => by rw [cf1 c1 i h1 (by omega), Bool.true_and]
    by_cases c2 : g n = true
    · have e : (Kn.mk h ks).lo g n = qK := by rw [lo_eq, if_neg c, if_pos c2]
      rw [e, q_both (lo_wf f n w)]
      exact lo_congr _ n fun i h1 h2 => by rw [cg1 c2 i h1 (by omega), Bool.and_true]
    have c1' : f n = false := by simpa using c1
    rw [lo_eq, lo_eq, lo_eq, if_neg c, if_neg c, if_neg c, if_neg c1, if_neg c2, if_neg (show ¬ (f n && g n) = true by rw [c1']; simp), both_eq, if_neg c, if_neg c, boths_lo f g (n + 1) w.2 cf2 cg2]
theorem boths_lo (f g : Nat → Bool) : ∀ {ks : List Kn} (n : Nat), Kn.wfs ks → Kn.cls f ks n → Kn.cls g ks n → Kn.boths (Kn.los f ks n) (Kn.los g ks n) = Kn.los (fun i => f i && g i) ks n
  | [], _, _, _, _ => rfl
  | t :: r, n, w, cf, cg => by
    show (t.lo f n).both (t.lo g n) :: Kn.boths (Kn.los f r (n + t.sp)) (Kn.los g r (n + t.sp)) = t.lo _ n :: Kn.los _ r (n + t.sp)
    rw [both_lo f g n w.1 cf.1 cg.1, boths_lo f g (n + t.sp) w.2 cf.2 cg.2]
end
theorem zboth_lo (f g : Nat → Bool) : ∀ {ks : List Kn} (n : Nat), Kn.wfs ks → Kn.cls f ks n → Kn.cls g ks n → List.zipWith Kn.both (Kn.los f ks n) (Kn.los g ks n) = Kn.los (fun i => f i && g i) ks n
  | [], _, _, _, _ => rfl
  | t :: r, n, w, cf, cg => by
    show (t.lo f n).both (t.lo g n) :: List.zipWith Kn.both (Kn.los f r (n + t.sp)) (Kn.los g r (n + t.sp)) = t.lo _ n :: Kn.los _ r (n + t.sp)
    rw [both_lo f g n w.1 cf.1 cg.1, zboth_lo f g (n + t.sp) w.2 cf.2 cg.2]
mutual
theorem loose_of (f g : Nat → Bool) : ∀ (k : Kn) (n : Nat), (∀ i, n ≤ i → i < n + k.sp → f i = true → g i = true) → (k.lo f n).loose (k.lo g n) = true
  | .mk h ks, n, e => by
    rw [sp_eq] at e
    rw [lo_eq, lo_eq]
    by_cases c : h = "?"
    · rw [if_pos c, if_pos c]; exact loose_self _
    rw [if_neg c] at e
    rw [if_neg c, if_neg c]
    by_cases c2 : g n = true
    · rw [if_pos c2]; exact loose_q _
    have c1 : ¬ f n = true := fun z => c2 (e n (Nat.le_refl _) (by omega) z)
    rw [if_neg c1, if_neg c2, loose_eq, if_neg c, if_pos rfl]
    exact looses_of f g ks (n + 1) fun i h1 h2 => e i (by omega) (by omega)
theorem looses_of (f g : Nat → Bool) : ∀ (ks : List Kn) (n : Nat), (∀ i, n ≤ i → i < n + Kn.sps ks → f i = true → g i = true) → (Kn.looses (Kn.los f ks n) (Kn.los g ks n)).all id = true
  | [], _, _ => rfl
  | t :: r, n, e => by
    have e' : ∀ i, n ≤ i → i < n + (t.sp + Kn.sps r) → f i = true → g i = true := e
    show ((t.lo f n).loose (t.lo g n) && (Kn.looses (Kn.los f r (n + t.sp)) (Kn.los g r (n + t.sp))).all id) = true
    rw [loose_of f g t n fun i h1 h2 => e' i h1 (by omega), looses_of f g r (n + t.sp) fun i h1 h2 => e' i (by omega) (by omega)]
    rfl
end
mutual
theorem of_loose (f g : Nat → Bool) : ∀ {k : Kn} (n : Nat), k.cl g n → (k.lo f n).loose (k.lo g n) = true → ∀ i, n ≤ i → i < n + k.sp → f i = true → g i = true
  | .mk h ks, n, cg, e, i, h1, h2, hf => by
    rw [sp_eq] at h2
    by_cases c : h = "?"
    · rw [if_pos c] at h2; omega
    rw [if_neg c] at h2
    obtain ⟨cg1, cg2⟩ := cg.resolve_left c
    by_cases c2 : g n = true
    · exact cg1 c2 i h1 (by omega)
    rw [lo_eq, lo_eq, if_neg c, if_neg c, if_neg c2] at e
    by_cases c1 : f n = true
    · rw [if_pos c1] at e
      have e' : (Kn.mk "?" []).loose (.mk h (Kn.los g ks (n + 1))) = true := e
      rw [loose_eq, if_neg c, if_neg (fun z => c z.symm)] at e'
      cases e'
    rw [if_neg c1, loose_eq, if_neg c, if_pos rfl] at e
    have ne : i ≠ n := fun z => c1 (by rw [← z]; exact hf)
    exact of_looses f g (n + 1) cg2 e i (by omega) (by omega) hf
theorem of_looses (f g : Nat → Bool) : ∀ {ks : List Kn} (n : Nat), Kn.cls g ks n → (Kn.looses (Kn.los f ks n) (Kn.los g ks n)).all id = true → ∀ i, n ≤ i → i < n + Kn.sps ks → f i = true → g i = true
  | [], n, _, _, i, h1, h2, _ => by
    have : i < n + 0 := h2
    omega
  | t :: r, n, cg, e, i, h1, h2, hf => by
    have h2' : i < n + (t.sp + Kn.sps r) := h2
    have e' : ((t.lo f n).loose (t.lo g n) && (Kn.looses (Kn.los f r (n + t.sp)) (Kn.los g r (n + t.sp))).all id) = true := e
    rw [Bool.and_eq_true] at e'
    by_cases c : i < n + t.sp
    · exact of_loose f g n cg.1 e'.1 i h1 c hf
    · exact of_looses f g (n + t.sp) cg.2 e'.2 i (by omega) (by omega) hf
end
/-! ### of programs -/
mutual
noncomputable def Tk.cl (f : Nat → Bool) : Tk → Nat → Prop
  | .mk _ _ _ ks ps, n => Kn.cls f ks n ∧ Tk.cls f ps (n + Kn.sps ks)
noncomputable def Tk.cls (f : Nat → Bool) : List Tk → Nat → Prop
  | [], _ => True
  | t :: r, n => t.cl f n ∧ Tk.cls f r (n + t.sp)
end
mutual
/-- both, kind by kind -/
noncomputable def Tk.wb (op : Kn → Kn → Kn) : Tk → Tk → Tk
  | .mk w p fr ks ps, .mk _ _ _ ls qs => .mk w p fr (List.zipWith op ks ls) (Tk.wbs op ps qs)
noncomputable def Tk.wbs (op : Kn → Kn → Kn) : List Tk → List Tk → List Tk
  | t :: r, u :: q => t.wb op u :: Tk.wbs op r q
  | [], _ => []
  | _ :: _, [] => []
end
mutual
/-- alike but for what is untold -/
noncomputable def Tk.al : Tk → Tk → Prop
  | .mk _ _ _ ks ps, .mk _ _ _ ls qs => (ks.length = ls.length ∧ Kn.fits ks ls ∧ ps.length = qs.length) ∧ Tk.als ps qs
noncomputable def Tk.als : List Tk → List Tk → Prop
  | t :: r, u :: q => t.al u ∧ Tk.als r q
  | [], _ => True
  | _ :: _, [] => True
end
mutual
theorem al_lo (f g : Nat → Bool) : ∀ {t : Tk} (n : Nat), t.ok → (t.lo f n).al (t.lo g n)
  | .mk w p fr ks ps, n, o => by
    show (Tk.mk w p fr (Kn.los f ks n) (Tk.los f ps _)).al (Tk.mk w p fr (Kn.los g ks n) (Tk.los g ps _))
    exact ⟨⟨by rw [los_length, los_length], fits_lo f g n o.1.1, by rw [klos_length, klos_length]⟩, als_lo f g _ o.2⟩
theorem als_lo (f g : Nat → Bool) : ∀ {ps : List Tk} (n : Nat), Tk.oks ps → Tk.als (Tk.los f ps n) (Tk.los g ps n)
  | [], _, _ => trivial
  | t :: r, n, o => ⟨al_lo f g n o.1, als_lo f g (n + t.sp) o.2⟩
end
theorem als_get : ∀ {ps qs : List Tk} {i : Nat} (h1 : i < ps.length) (h2 : i < qs.length), Tk.als ps qs → ps[i].al qs[i]
  | _ :: _, _ :: _, 0, _, _, z => z.1
  | _ :: r, _ :: q, i + 1, h1, h2, z => als_get (ps := r) (qs := q) (by simpa using h1) (by simpa using h2) z.2
theorem wbs_length (op : Kn → Kn → Kn) : ∀ (ks ls : List Tk), (Tk.wbs op ks ls).length = min ks.length ls.length
  | [], ls => by show 0 = _; simp
  | _ :: _, [] => by show 0 = _; simp
  | _ :: r, _ :: q => by show (Tk.wbs op r q).length + 1 = _; rw [wbs_length op r q]; simp
theorem wbs_get (op : Kn → Kn → Kn) : ∀ {ks ls : List Tk} {i : Nat} (h1 : i < ks.length) (h2 : i < ls.length), (Tk.wbs op ks ls)[i]? = some (ks[i].wb op ls[i])
  | _ :: _, _ :: _, 0, _, _ => rfl
  | _ :: r, _ :: q, i + 1, h1, h2 => by
    show (Tk.wbs op r q)[i]? = _
    exact wbs_get op (ks := r) (ls := q) (by simpa using h1) (by simpa using h2)
theorem wbs_take (op : Kn → Kn → Kn) : ∀ {ks ls : List Tk} {i : Nat} (h1 : i < ks.length) (h2 : i < ls.length), (Tk.wbs op ks ls).take (i + 1) = (Tk.wbs op ks ls).take i ++ [ks[i].wb op ls[i]] := fun {ks ls i} h1 h2 => by
  have hl : i < (Tk.wbs op ks ls).length := by rw [wbs_length]; omega
  rw [take_snoc hl]
  have e := wbs_get op h1 h2
  rw [List.getElem?_eq_getElem hl] at e
  rw [Option.some.inj e]
theorem zip_take (op : Kn → Kn → Kn) {ks ls : List Kn} {i : Nat} (h1 : i < ks.length) (h2 : i < ls.length) : (List.zipWith op ks ls).take (i + 1) = (List.zipWith op ks ls).take i ++ [op ks[i] ls[i]] := by
  have hl : i < (List.zipWith op ks ls).length := by rw [List.length_zipWith]; omega
  rw [take_snoc hl, List.getElem_zipWith]
mutual
theorem wb_join (f g : Nat → Bool) : ∀ {t : Tk} (n : Nat), t.ok → (t.lo f n).wb Kn.join (t.lo g n) = t.lo (fun i => f i || g i) n
  | .mk w p fr ks ps, n, o => by
    show Tk.mk w p fr (List.zipWith Kn.join (Kn.los f ks n) (Kn.los g ks n)) (Tk.wbs Kn.join (Tk.los f ps _) (Tk.los g ps _)) = Tk.mk w p fr (Kn.los _ ks n) (Tk.los _ ps _)
    rw [zjoin_lo f g n o.1.1, wbs_join f g _ o.2]
theorem wbs_join (f g : Nat → Bool) : ∀ {ps : List Tk} (n : Nat), Tk.oks ps → Tk.wbs Kn.join (Tk.los f ps n) (Tk.los g ps n) = Tk.los (fun i => f i || g i) ps n
  | [], _, _ => rfl
  | t :: r, n, o => by
    show (t.lo f n).wb Kn.join (t.lo g n) :: Tk.wbs Kn.join (Tk.los f r (n + t.sp)) (Tk.los g r (n + t.sp)) = t.lo _ n :: Tk.los _ r (n + t.sp)
    rw [wb_join f g n o.1, wbs_join f g (n + t.sp) o.2]
end
mutual
theorem wb_both (f g : Nat → Bool) : ∀ {t : Tk} (n : Nat), t.ok → t.cl f n → t.cl g n → (t.lo f n).wb Kn.both (t.lo g n) = t.lo (fun i => f i && g i) n
  | .mk w p fr ks ps, n, o, cf, cg => by
    show Tk.mk w p fr (List.zipWith Kn.both (Kn.los f ks n) (Kn.los g ks n)) (Tk.wbs Kn.both (Tk.los f ps _) (Tk.los g ps _)) = Tk.mk w p fr (Kn.los _ ks n) (Tk.los _ ps _)
    rw [zboth_lo f g n o.1.1 cf.1 cg.1, wbs_both f g _ o.2 cf.2 cg.2]
theorem wbs_both (f g : Nat → Bool) : ∀ {ps : List Tk} (n : Nat), Tk.oks ps → Tk.cls f ps n → Tk.cls g ps n → Tk.wbs Kn.both (Tk.los f ps n) (Tk.los g ps n) = Tk.los (fun i => f i && g i) ps n
  | [], _, _, _, _ => rfl
  | t :: r, n, o, cf, cg => by
    show (t.lo f n).wb Kn.both (t.lo g n) :: Tk.wbs Kn.both (Tk.los f r (n + t.sp)) (Tk.los g r (n + t.sp)) = t.lo _ n :: Tk.los _ r (n + t.sp)
    rw [wb_both f g n o.1 cf.1 cg.1, wbs_both f g (n + t.sp) o.2 cf.2 cg.2]
end
mutual
theorem lsr_of (f g : Nat → Bool) : ∀ (t : Tk) (n : Nat), (∀ i, n ≤ i → i < n + t.sp → f i = true → g i = true) → (t.lo f n).lsr (t.lo g n) = true
  | .mk w p fr ks ps, n, e => by
    have e' : ∀ i, n ≤ i → i < n + (Kn.sps ks + Tk.sps ps) → f i = true → g i = true := e
    show (Kn.looses (Kn.los f ks n) (Kn.los g ks n) ++ Tk.lsrs (Tk.los f ps _) (Tk.los g ps _)).all id = true
    rw [List.all_append, looses_of f g ks n fun i h1 h2 => e' i h1 (by omega), lsrs_of f g ps _ fun i h1 h2 => e' i (by omega) (by omega)]
    rfl
theorem lsrs_of (f g : Nat → Bool) : ∀ (ps : List Tk) (n : Nat), (∀ i, n ≤ i → i < n + Tk.sps ps → f i = true → g i = true) → (Tk.lsrs (Tk.los f ps n) (Tk.los g ps n)).all id = true
  | [], _, _ => rfl
  | t :: r, n, e => by
    have e' : ∀ i, n ≤ i → i < n + (t.sp + Tk.sps r) → f i = true → g i = true := e
    show ((t.lo f n).lsr (t.lo g n) && (Tk.lsrs (Tk.los f r (n + t.sp)) (Tk.los g r (n + t.sp))).all id) = true
    rw [lsr_of f g t n fun i h1 h2 => e' i h1 (by omega), lsrs_of f g r (n + t.sp) fun i h1 h2 => e' i (by omega) (by omega)]
    rfl
end
mutual
theorem of_lsr (f g : Nat → Bool) : ∀ {t : Tk} (n : Nat), t.cl g n → (t.lo f n).lsr (t.lo g n) = true → ∀ i, n ≤ i → i < n + t.sp → f i = true → g i = true
  | .mk w p fr ks ps, n, cg, e, i, h1, h2, hf => by
    have h2' : i < n + (Kn.sps ks + Tk.sps ps) := h2
    have e' : (Kn.looses (Kn.los f ks n) (Kn.los g ks n) ++ Tk.lsrs (Tk.los f ps (n + Kn.sps ks)) (Tk.los g ps (n + Kn.sps ks))).all id = true := e
    rw [List.all_append, Bool.and_eq_true] at e'
    by_cases c : i < n + Kn.sps ks
    · exact of_looses f g n cg.1 e'.1 i h1 c hf
    · exact of_lsrs f g _ cg.2 e'.2 i (by omega) (by omega) hf
theorem of_lsrs (f g : Nat → Bool) : ∀ {ps : List Tk} (n : Nat), Tk.cls g ps n → (Tk.lsrs (Tk.los f ps n) (Tk.los g ps n)).all id = true → ∀ i, n ≤ i → i < n + Tk.sps ps → f i = true → g i = true
  | [], n, _, _, i, h1, h2, _ => by
    have : i < n + 0 := h2
    omega
  | t :: r, n, cg, e, i, h1, h2, hf => by
    have h2' : i < n + (t.sp + Tk.sps r) := h2
    have e' : ((t.lo f n).lsr (t.lo g n) && (Tk.lsrs (Tk.los f r (n + t.sp)) (Tk.los g r (n + t.sp))).all id) = true := e
    rw [Bool.and_eq_true] at e'
    by_cases c : i < n + t.sp
    · exact of_lsr f g n cg.1 e'.1 i h1 c hf
    · exact of_lsrs f g (n + t.sp) cg.2 e'.2 i (by omega) (by omega) hf
end
end L2.Bk

end
section
set_option Elab.async false
set_option linter.all false
set_option maxRecDepth 100000
set_option maxHeartbeats 4000000
/-! Which told parts stand open: not within one that is taken away. -/
namespace L2.Bk
open PySem PySem.Spec PyProof.Rows L2.Bw L2.Ex
mutual
noncomputable def Kn.mp (f : Nat → Bool) : Kn → Bool → Nat → Nat → Bool
  | .mk h ks, fr, n, i => if h = "?" then false else if i = n then fr && f n else Kn.mps f ks (fr && f n) (n + 1) i
noncomputable def Kn.mps (f : Nat → Bool) : List Kn → Bool → Nat → Nat → Bool
  | [], _, _, _ => false
  | t :: r, fr, n, i => if i < n + t.sp then t.mp f fr n i else Kn.mps f r fr (n + t.sp) i
end
mutual
noncomputable def Kn.mar (f : Nat → Bool) : Kn → Bool → Nat → List Nat
  | .mk h ks, fr, n => if h = "?" then [] else (if (fr && f n) = true then [n] else []) ++ Kn.mars f ks (fr && f n) (n + 1)
noncomputable def Kn.mars (f : Nat → Bool) : List Kn → Bool → Nat → List Nat
  | [], _, _ => []
  | t :: r, fr, n => t.mar f fr n ++ Kn.mars f r fr (n + t.sp)
end
mutual
theorem mar_eq (f : Nat → Bool) : ∀ (k : Kn) (fr : Bool) (n : Nat), k.mar f fr n = (List.range' n k.sp).filter (k.mp f fr n)
  | .mk h ks, fr, n => by
    rw [sp_eq]
    by_cases c : h = "?"
    · have e : (Kn.mk h ks).mar f fr n = [] := by rw [Kn.mar, if_pos c]
      rw [e, if_pos c]; rfl
    · have e : (Kn.mk h ks).mar f fr n = (if (fr && f n) = true then [n] else []) ++ Kn.mars f ks (fr && f n) (n + 1) := by rw [Kn.mar, if_neg c]
      have m : ∀ i, (Kn.mk h ks).mp f fr n i = if i = n then fr && f n else Kn.mps f ks (fr && f n) (n + 1) i := fun i => by rw [Kn.mp, if_neg c]
      rw [e, if_neg c, Nat.add_comm 1, List.range'_succ, List.filter_cons, m n, if_pos rfl, mars_eq f ks _ (n + 1)]
      have t : (List.range' (n + 1) (Kn.sps ks)).filter ((Kn.mk h ks).mp f fr n) = (List.range' (n + 1) (Kn.sps ks)).filter (Kn.mps f ks (fr && f n) (n + 1)) := List.filter_congr fun i hi => by
        have := (List.mem_range'_1.mp hi).1
        rw [m i, if_neg (by omega)]
      rw [t]
      split <;> rfl
theorem mars_eq (f : Nat → Bool) : ∀ (ks : List Kn) (fr : Bool) (n : Nat), Kn.mars f ks fr n = (List.range' n (Kn.sps ks)).filter (Kn.mps f ks fr n)
  | [], _, _ => rfl
  | t :: r, fr, n => by
    have e : Kn.mars f (t :: r) fr n = t.mar f fr n ++ Kn.mars f r fr (n + t.sp) := by rw [Kn.mars]
    have m : ∀ i, Kn.mps f (t :: r) fr n i = if i < n + t.sp then t.mp f fr n i else Kn.mps f r fr (n + t.sp) i := fun i => by rw [Kn.mps]
    have s : List.range' n (Kn.sps (t :: r)) = List.range' n t.sp ++ List.range' (n + t.sp) (Kn.sps r) := by
      show List.range' n (t.sp + Kn.sps r) = _
      rw [List.range'_append_1]
    rw [e, s, List.filter_append, mar_eq f t fr n, mars_eq f r fr (n + t.sp)]
    congr 1
    · exact List.filter_congr fun i hi => by
        have := (List.mem_range'_1.mp hi).2
        rw [m i, if_pos (by omega)]
    · exact List.filter_congr fun i hi => by
        have := (List.mem_range'_1.mp hi).1
        rw [m i, if_neg (by omega)]
end
mutual
theorem mp_no (f : Nat → Bool) : ∀ (k : Kn) (n i : Nat), k.mp f false n i = false
  | .mk h ks, n, i => by
    rw [Kn.mp, Bool.false_and, mps_no f ks]
    split
    · rfl
    · split <;> rfl
theorem mps_no (f : Nat → Bool) : ∀ (ks : List Kn) (n i : Nat), Kn.mps f ks false n i = false
  | [], _, _ => by rw [Kn.mps]
  | t :: r, n, i => by
    rw [Kn.mps, mp_no f t, mps_no f r]
    split <;> rfl
end
mutual
theorem cl_congr {f g : Nat → Bool} : ∀ {k : Kn} (n : Nat), (∀ i, n ≤ i → i < n + k.sp → f i = g i) → k.cl f n → k.cl g n
  | .mk h ks, n, e, c => by
    rw [sp_eq] at e
    by_cases z : h = "?"
    · exact .inl z
    rw [if_neg z] at e
    obtain ⟨c1, c2⟩ := c.resolve_left z
    refine .inr ⟨fun hg i h1 h2 => ?_, cls_congr (n + 1) (fun i h1 h2 => e i (by omega) (by omega)) c2⟩
    rw [← e i h1 h2]
    exact c1 (by rw [e n (Nat.le_refl _) (by omega)]; exact hg) i h1 h2
theorem cls_congr {f g : Nat → Bool} : ∀ {ks : List Kn} (n : Nat), (∀ i, n ≤ i → i < n + Kn.sps ks → f i = g i) → Kn.cls f ks n → Kn.cls g ks n
  | [], _, _, _ => trivial
  | t :: r, n, e, c => by
    have e' : ∀ i, n ≤ i → i < n + (t.sp + Kn.sps r) → f i = g i := e
    exact ⟨cl_congr n (fun i h1 h2 => e' i h1 (by omega)) c.1, cls_congr (n + t.sp) (fun i h1 h2 => e' i (by omega) (by omega)) c.2⟩
end
mutual
theorem cl_mp (f : Nat → Bool) : ∀ (k : Kn) (fr : Bool) (n : Nat), k.cl (fun i => !k.mp f fr n i) n
  | .mk h ks, fr, n => by
    by_cases c : h = "?"
    · exact .inl c
    have m : ∀ i, (Kn.mk h ks).mp f fr n i = if i = n then fr && f n else Kn.mps f ks (fr && f n) (n + 1) i := fun i => by rw [Kn.mp, if_neg c]
    refine .inr ⟨fun hq i h1 h2 => ?_, cls_congr (n + 1) (fun i h1 h2 => ?_) (cls_mp f ks (fr && f n) (n + 1))⟩
    · have hq' : (!(Kn.mk h ks).mp f fr n n) = true := hq
      rw [m n, if_pos rfl] at hq'
      have z : (fr && f n) = false := by
        cases h : (fr && f n)
        · rfl
        · rw [h] at hq'; cases hq'
      show (!(Kn.mk h ks).mp f fr n i) = true
      rw [m i, z, mps_no]
      split <;> rfl
    · show (!Kn.mps f ks (fr && f n) (n + 1) i) = !(Kn.mk h ks).mp f fr n i
      rw [m i, if_neg (by omega)]
theorem cls_mp (f : Nat → Bool) : ∀ (ks : List Kn) (fr : Bool) (n : Nat), Kn.cls (fun i => !Kn.mps f ks fr n i) ks n
  | [], _, _ => trivial
  | t :: r, fr, n => by
    have m : ∀ i, Kn.mps f (t :: r) fr n i = if i < n + t.sp then t.mp f fr n i else Kn.mps f r fr (n + t.sp) i := fun i => by rw [Kn.mps]
    refine ⟨cl_congr n (fun i h1 h2 => ?_) (cl_mp f t fr n), cls_congr (n + t.sp) (fun i h1 h2 => ?_) (cls_mp f r fr (n + t.sp))⟩
    · show (!t.mp f fr n i) = !Kn.mps f (t :: r) fr n i
      rw [m i, if_pos h2]
    · show (!Kn.mps f r fr (n + t.sp) i) = !Kn.mps f (t :: r) fr n i
      rw [m i, if_neg (by omega)]
end
mutual
noncomputable def Tk.mp (f : Nat → Bool) : Tk → Nat → Nat → Bool
  | .mk _ _ _ ks ps, n, i => if i < n + Kn.sps ks then Kn.mps f ks true n i else Tk.mps f ps (n + Kn.sps ks) i
noncomputable def Tk.mps (f : Nat → Bool) : List Tk → Nat → Nat → Bool
  | [], _, _ => false
  | t :: r, n, i => if i < n + t.sp then t.mp f n i else Tk.mps f r (n + t.sp) i
end
mutual
noncomputable def Tk.mar (f : Nat → Bool) : Tk → Nat → List Nat
  | .mk _ _ _ ks ps, n => Kn.mars f ks true n ++ Tk.mars f ps (n + Kn.sps ks)
noncomputable def Tk.mars (f : Nat → Bool) : List Tk → Nat → List Nat
  | [], _ => []
  | t :: r, n => t.mar f n ++ Tk.mars f r (n + t.sp)
end
mutual
theorem kmar_eq (f : Nat → Bool) : ∀ (t : Tk) (n : Nat), t.mar f n = (List.range' n t.sp).filter (t.mp f n)
  | .mk w p fr ks ps, n => by
    have e : (Tk.mk w p fr ks ps).mar f n = Kn.mars f ks true n ++ Tk.mars f ps (n + Kn.sps ks) := by rw [Tk.mar]
    have m : ∀ i, (Tk.mk w p fr ks ps).mp f n i = if i < n + Kn.sps ks then Kn.mps f ks true n i else Tk.mps f ps (n + Kn.sps ks) i := fun i => by rw [Tk.mp]
    have s : List.range' n (Tk.mk w p fr ks ps).sp = List.range' n (Kn.sps ks) ++ List.range' (n + Kn.sps ks) (Tk.sps ps) := by
      show List.range' n (Kn.sps ks + Tk.sps ps) = _
      rw [List.range'_append_1]
    rw [e, s, List.filter_append, mars_eq f ks true n, kmars_eq f ps (n + Kn.sps ks)]
    congr 1
    · exact List.filter_congr fun i hi => by
        have := (List.mem_range'_1.mp hi).2
        rw [m i, if_pos (by omega)]
    · exact List.filter_congr fun i hi => by
        have := (List.mem_range'_1.mp hi).1
        rw [m i, if_neg (by omega)]
theorem kmars_eq (f : Nat → Bool) : ∀ (ps : List Tk) (n : Nat), Tk.mars f ps n = (List.range' n (Tk.sps ps)).filter (Tk.mps f ps n)
  | [], _ => rfl
  | t :: r, n => by
    have e : Tk.mars f (t :: r) n = t.mar f n ++ Tk.mars f r (n + t.sp) := by rw [Tk.mars]
    have m : ∀ i, Tk.mps f (t :: r) n i = if i < n + t.sp then t.mp f n i else Tk.mps f r (n + t.sp) i := fun i => by rw [Tk.mps]
    have s : List.range' n (Tk.sps (t :: r)) = List.range' n t.sp ++ List.range' (n + t.sp) (Tk.sps r) := by
      show List.range' n (t.sp + Tk.sps r) = _
      rw [List.range'_append_1]
    rw [e, s, List.filter_append, kmar_eq f t n, kmars_eq f r (n + t.sp)]
    congr 1
    · exact List.filter_congr fun i hi => by
        have := (List.mem_range'_1.mp hi).2
        rw [m i, if_pos (by omega)]
    · exact List.filter_congr fun i hi => by
        have := (List.mem_range'_1.mp hi).1
        rw [m i, if_neg (by omega)]
end
mutual
theorem kcl_congr {f g : Nat → Bool} : ∀ {t : Tk} (n : Nat), (∀ i, n ≤ i → i < n + t.sp → f i = g i) → t.cl f n → t.cl g n
  | .mk w p fr ks ps, n, e, c => by
    have e' : ∀ i, n ≤ i → i < n + (Kn.sps ks + Tk.sps ps) → f i = g i := e
    exact ⟨cls_congr n (fun i h1 h2 => e' i h1 (by omega)) c.1, kcls_congr _ (fun i h1 h2 => e' i (by omega) (by omega)) c.2⟩
theorem kcls_congr {f g : Nat → Bool} : ∀ {ps : List Tk} (n : Nat), (∀ i, n ≤ i → i < n + Tk.sps ps → f i = g i) → Tk.cls f ps n → Tk.cls g ps n
  | [], _, _, _ => trivial
  | t :: r, n, e, c => by
    have e' : ∀ i, n ≤ i → i < n + (t.sp + Tk.sps r) → f i = g i := e
    exact ⟨kcl_congr n (fun i h1 h2 => e' i h1 (by omega)) c.1, kcls_congr (n + t.sp) (fun i h1 h2 => e' i (by omega) (by omega)) c.2⟩
end
mutual
theorem kcl_mp (f : Nat → Bool) : ∀ (t : Tk) (n : Nat), t.cl (fun i => !t.mp f n i) n
  | .mk w p fr ks ps, n => by
    have m : ∀ i, (Tk.mk w p fr ks ps).mp f n i = if i < n + Kn.sps ks then Kn.mps f ks true n i else Tk.mps f ps (n + Kn.sps ks) i := fun i => by rw [Tk.mp]
    refine ⟨cls_congr n (fun i h1 h2 => ?_) (cls_mp f ks true n), kcls_congr _ (fun i h1 h2 => ?_) (kcls_mp f ps (n + Kn.sps ks))⟩
    · show (!Kn.mps f ks true n i) = !(Tk.mk w p fr ks ps).mp f n i
      rw [m i, if_pos h2]
    · show (!Tk.mps f ps (n + Kn.sps ks) i) = !(Tk.mk w p fr ks ps).mp f n i
      rw [m i, if_neg (by omega)]
theorem kcls_mp (f : Nat → Bool) : ∀ (ps : List Tk) (n : Nat), Tk.cls (fun i => !Tk.mps f ps n i) ps n
  | [], _ => trivial
  | t :: r, n => by
    have m : ∀ i, Tk.mps f (t :: r) n i = if i < n + t.sp then t.mp f n i else Tk.mps f r (n + t.sp) i := fun i => by rw [Tk.mps]
    refine ⟨kcl_congr n (fun i h1 h2 => ?_) (kcl_mp f t n), kcls_congr (n + t.sp) (fun i h1 h2 => ?_) (kcls_mp f r (n + t.sp))⟩
    · show (!t.mp f n i) = !Tk.mps f (t :: r) n i
      rw [m i, if_pos h2]
    · show (!Tk.mps f r (n + t.sp) i) = !Tk.mps f (t :: r) n i
      rw [m i, if_neg (by omega)]
end
/-! ### the law's own walk -/
mutual
noncomputable def Dk.om (f : Nat → Bool) : Dk → Bool → Nat → List Nat × Nat
  | .tup ds, fr, n => if eqbs ds [.str "?"] = true then ([], n) else
      if isSpot ds = true then ((if (fr && f n) = true then [n] else []) ++ (oms f ds (fr && f n) (n + 1)).1, (oms f ds (fr && f n) (n + 1)).2) else oms f ds fr n
  | .non, _, n => ([], n)
  | .int _, _, n => ([], n)
  | .bl _, _, n => ([], n)
  | .str _, _, n => ([], n)
noncomputable def oms (f : Nat → Bool) : List Dk → Bool → Nat → List Nat × Nat
  | [], _, n => ([], n)
  | d :: r, fr, n => ((d.om f fr n).1 ++ (oms f r fr (d.om f fr n).2).1, (oms f r fr (d.om f fr n).2).2)
end
theorem om_tup (f : Nat → Bool) (ds : List Dk) (fr : Bool) (n : Nat) : (Dk.tup ds).om f fr n = if eqbs ds [.str "?"] = true then ([], n) else
      if isSpot ds = true then ((if (fr && f n) = true then [n] else []) ++ (oms f ds (fr && f n) (n + 1)).1, (oms f ds (fr && f n) (n + 1)).2) else oms f ds fr n := by rw [Dk.om]
theorem oms_nil (f : Nat → Bool) (fr : Bool) (n : Nat) : oms f [] fr n = ([], n) := by rw [oms]
theorem oms_cons (f : Nat → Bool) (d : Dk) (r : List Dk) (fr : Bool) (n : Nat) : oms f (d :: r) fr n = ((d.om f fr n).1 ++ (oms f r fr (d.om f fr n).2).1, (oms f r fr (d.om f fr n).2).2) := by rw [oms]
theorem om_flat (f : Nat → Bool) {d : Dk} (h : d.flat = true) (fr : Bool) (n : Nat) : d.om f fr n = ([], n) := by
  cases d with
  | tup ds => cases h
  | _ => rw [Dk.om]
theorem oms_flat (f : Nat → Bool) : ∀ {ds : List Dk}, (∀ d ∈ ds, d.flat = true) → ∀ fr n, oms f ds fr n = ([], n)
  | [], _, fr, n => oms_nil f fr n
  | d :: r, h, fr, n => by rw [oms_cons, om_flat f (h d List.mem_cons_self), oms_flat f (fun e he => h e (List.mem_cons_of_mem _ he))]; rfl
theorem oms_append (f : Nat → Bool) : ∀ (a b : List Dk) (fr : Bool) (n : Nat), oms f (a ++ b) fr n = ((oms f a fr n).1 ++ (oms f b fr (oms f a fr n).2).1, (oms f b fr (oms f a fr n).2).2)
  | [], b, fr, n => by rw [oms_nil]; rfl
  | d :: r, b, fr, n => by
    show oms f (d :: (r ++ b)) fr n = _
    rw [oms_cons, oms_cons, oms_append f r b, List.append_assoc]
theorem oms_take (f : Nat → Bool) {ds : List Dk} {i : Nat} (h : i < ds.length) (fr : Bool) (n : Nat) : oms f (ds.take (i + 1)) fr n = ((oms f (ds.take i) fr n).1 ++ (ds[i].om f fr (oms f (ds.take i) fr n).2).1, (ds[i].om f fr (oms f (ds.take i) fr n).2).2) := by
  rw [take_snoc h, oms_append, oms_cons, oms_nil, List.append_nil]
mutual
theorem om_kind (f : Nat → Bool) : ∀ {k : Kn} (fr : Bool) (n : Nat), k.wf → k.d.om f fr n = (k.mar f fr n, n + k.sp)
  | .mk h ks, fr, n, w => by
    show (Dk.tup (.str h :: Kn.ds ks)).om f fr n = _
    rw [om_tup, eqb_q1, eqbs_nil, sp_eq, Kn.mar]
    by_cases c : h = "?"
    · have e := wf_head w c
      subst e c
      rfl
    · have e : (h == "?" && (Kn.ds ks).isEmpty) = false := by
        have : (h == "?") = false := by simpa using c
        rw [this]; rfl
      have e2 : oms f (.str h :: Kn.ds ks) (fr && f n) (n + 1) = (Kn.mars f ks (fr && f n) (n + 1), n + 1 + Kn.sps ks) := by
        rw [oms_cons, om_flat f (by rfl : (Dk.str h).flat = true), om_kinds f _ (n + 1) w.2]; rfl
      rw [e, spot_kind, if_neg c, if_neg c, e2, if_neg (by decide), if_pos rfl, Nat.add_assoc]
theorem om_kinds (f : Nat → Bool) : ∀ {ks : List Kn} (fr : Bool) (n : Nat), Kn.wfs ks → oms f (Kn.ds ks) fr n = (Kn.mars f ks fr n, n + Kn.sps ks)
  | [], fr, n, _ => by show oms f [] fr n = _; rw [oms_nil]; rfl
  | t :: r, fr, n, w => by
    show oms f (t.d :: Kn.ds r) fr n = _
    rw [oms_cons, om_kind f fr n w.1, om_kinds f fr (n + t.sp) w.2, Kn.mars]
    show (_, n + t.sp + Kn.sps r) = (_, n + (t.sp + Kn.sps r))
    rw [Nat.add_assoc]
end
mutual
theorem om_tree (f : Nat → Bool) : ∀ {t : Tk} (n : Nat), t.ok → t.tn.d.om f true n = (t.mar f n, n + t.sp)
  | .mk w p fr ks ps, n, o => by
    show (Dk.tup (.str w :: .int p :: (fr ++ Kn.ds ks ++ (if w = "row" then [.tup (Tn.ds (Tk.tns ps))] else Tn.ds (Tk.tns ps))))).om f true n = ((Tk.mk w p fr ks ps).mar f n, n + (Kn.sps ks + Tk.sps ps))
    have e : oms f (if w = "row" then [.tup (Tn.ds (Tk.tns ps))] else Tn.ds (Tk.tns ps)) true (n + Kn.sps ks) = (Tk.mars f ps (n + Kn.sps ks), n + Kn.sps ks + Tk.sps ps) := by
      by_cases c : w = "row"
      · rw [if_pos c, oms_cons, oms_nil, om_tup, eqb_row, spot_row, if_neg (by decide), if_neg (by decide), om_trees f (n + Kn.sps ks) o.2, List.append_nil]
      · rw [if_neg c, om_trees f (n + Kn.sps ks) o.2]
    have s : isSpot (.str w :: .int p :: (fr ++ Kn.ds ks ++ (if w = "row" then [.tup (Tn.ds (Tk.tns ps))] else Tn.ds (Tk.tns ps)))) = false := rfl
    rw [om_tup, eqb_q1, eqbs_nil, s]
    show (if (w == "?" && false) = true then _ else if false = true then _ else oms f (.str w :: .int p :: (fr ++ Kn.ds ks ++ (if w = "row" then [.tup (Tn.ds (Tk.tns ps))] else Tn.ds (Tk.tns ps)))) true n) = _
    rw [Bool.and_false, if_neg (by decide), if_neg (by decide), oms_cons, oms_cons, om_flat f (by rfl : (Dk.str w).flat = true), om_flat f (by rfl : (Dk.int p).flat = true), oms_append, oms_append, oms_flat f o.1.2.2.1, om_kinds f true n o.1.1, e, Tk.mar]
    show (_, n + Kn.sps ks + Tk.sps ps) = _
    rw [Nat.add_assoc]
    rfl
theorem om_trees (f : Nat → Bool) : ∀ {ps : List Tk} (n : Nat), Tk.oks ps → oms f (Tn.ds (Tk.tns ps)) true n = (Tk.mars f ps n, n + Tk.sps ps)
  | [], n, _ => by show oms f [] true n = _; rw [oms_nil]; rfl
  | t :: r, n, w => by
    show oms f (t.tn.d :: Tn.ds (Tk.tns r)) true n = _
    rw [oms_cons, om_tree f n w.1, om_trees f (n + t.sp) w.2, Tk.mars]
    show (_, n + t.sp + Tk.sps r) = (_, n + (t.sp + Tk.sps r))
    rw [Nat.add_assoc]
end
/-! ### dicts from numbers to True, put in one by one -/
noncomputable def dOf (l : List Nat) : List (Key × V) := l.map fun (i : Nat) => ((Sum.inl (i : Int) : Key), V.bl true)
theorem dOf_val : ∀ (l : List Nat) (j : Nat), valV (dOf l) (.inl (j : Int)) = if j ∈ l then some (.bl true) else none
  | [], j => rfl
  | i :: r, j => by
    show valV ((.inl (i : Int), .bl true) :: dOf r) _ = _
    by_cases c : i = j
    · rw [valV_pos (by rw [c]), if_pos (by rw [c]; exact List.mem_cons_self)]
    · rw [valV_neg (fun z => c (by have := Sum.inl.inj z; omega)), dOf_val r j]
      by_cases c2 : j ∈ r
      · rw [if_pos c2, if_pos (List.mem_cons_of_mem _ c2)]
      · rw [if_neg c2, if_neg (fun z => (List.mem_cons.mp z).elim (fun e => c e.symm) c2)]
theorem dOf_put {l : List Nat} {j : Nat} (h : j ∉ l) : putK (dOf l) (.inl (j : Int)) (.bl true) = dOf (l ++ [j]) := by
  rw [putK_new _ (by rw [dOf_val, if_neg h]), dOf, dOf, List.map_append]
  rfl
theorem dOf_len (l : List Nat) : (dOf l).length = l.length := List.length_map _
theorem filter_len (p q : Nat → Bool) : ∀ l : List Nat, ((l.filter fun i => p i && q i).length == (l.filter q).length) = true ↔ ∀ i ∈ l, q i = true → p i = true := fun l => by
  have le : ∀ l : List Nat, (l.filter fun i => p i && q i).length ≤ (l.filter q).length := fun l => by
    induction l with
    | nil => exact Nat.le_refl _
    | cons x r ih =>
      rw [List.filter_cons, List.filter_cons]
      by_cases c : q x = true
      · rw [c, Bool.and_true, if_pos rfl]
        split
        · simp only [List.length_cons]; omega
        · simp only [List.length_cons]; omega
      · have c' : q x = false := by simpa using c
        rw [c', Bool.and_false, if_neg (by decide), if_neg (by decide)]
        exact ih
  induction l with
  | nil => exact ⟨fun _ => (fun i hi => nomatch hi), fun _ => rfl⟩
  | cons x r ih =>
    have ih1 : (r.filter fun i => p i && q i).length = (r.filter q).length ↔ ∀ i ∈ r, q i = true → p i = true := ⟨fun z => ih.mp (beq_iff_eq.mpr z), fun z => beq_iff_eq.mp (ih.mpr z)⟩
    rw [beq_iff_eq, List.filter_cons, List.filter_cons]
    by_cases c : q x = true
    · rw [c, Bool.and_true, if_pos rfl]
      by_cases d : p x = true
      · rw [if_pos d, List.length_cons, List.length_cons]
        constructor
        · intro z i hi hq
          rcases List.mem_cons.mp hi with e | hi
          · rw [e]; exact d
          · exact ih1.mp (by omega) i hi hq
        · intro z
          have := ih1.mpr fun i hi => z i (List.mem_cons_of_mem _ hi)
          omega
      · rw [if_neg d, List.length_cons]
        have := le r
        exact ⟨fun z => absurd z (by omega), fun z => absurd (z x List.mem_cons_self c) d⟩
    · have c' : q x = false := by simpa using c
      rw [c', Bool.and_false, if_neg (by decide), if_neg (by decide)]
      constructor
      · intro z i hi hq
        rcases List.mem_cons.mp hi with e | hi
        · rw [e, c'] at hq; cases hq
        · exact ih1.mp z i hi hq
      · intro z
        exact ih1.mpr fun i hi => z i (List.mem_cons_of_mem _ hi)
end L2.Bk

end
section
set_option Elab.async false
set_option linter.all false
set_option maxRecDepth 100000
set_option maxHeartbeats 4000000
/-! A def that is handed on as a value, and called; None in a list of tuples. -/
namespace L2.Bk
open PySem PySem.Spec PyProof.Rows L2.Bw L2.Ex
/-! ### bounds of the walk -/
mutual
theorem om_le (f : Nat → Bool) : ∀ (d : Dk) (fr : Bool) (n : Nat), n + (d.om f fr n).1.length ≤ (d.om f fr n).2 ∧ ∀ i ∈ (d.om f fr n).1, n ≤ i ∧ i < (d.om f fr n).2
  | .tup ds, fr, n => by
    rw [om_tup]
    split
    · exact ⟨Nat.le_refl _, fun i hi => nomatch hi⟩
    split
    · obtain ⟨h1, h2⟩ := oms_le f ds (fr && f n) (n + 1)
      refine ⟨?_, fun i hi => ?_⟩
      · show n + ((if (fr && f n) = true then [n] else []) ++ (oms f ds (fr && f n) (n + 1)).1).length ≤ _
        rw [List.length_append]
        have : (if (fr && f n) = true then [n] else []).length ≤ 1 := by split <;> simp
        show n + _ ≤ (oms f ds (fr && f n) (n + 1)).2
        omega
      · rcases List.mem_append.mp hi with hi | hi
        · split at hi
          · rw [List.mem_singleton.mp hi]
            exact ⟨Nat.le_refl _, by show n < (oms f ds (fr && f n) (n + 1)).2; omega⟩
          · exact nomatch hi
        · have := h2 i hi
          exact ⟨by omega, this.2⟩
    · exact oms_le f ds fr n
  | .non, fr, n => by rw [Dk.om]; exact ⟨Nat.le_refl _, fun i hi => nomatch hi⟩
  | .int _, fr, n => by rw [Dk.om]; exact ⟨Nat.le_refl _, fun i hi => nomatch hi⟩
  | .bl _, fr, n => by rw [Dk.om]; exact ⟨Nat.le_refl _, fun i hi => nomatch hi⟩
  | .str _, fr, n => by rw [Dk.om]; exact ⟨Nat.le_refl _, fun i hi => nomatch hi⟩
theorem oms_le (f : Nat → Bool) : ∀ (ds : List Dk) (fr : Bool) (n : Nat), n + (oms f ds fr n).1.length ≤ (oms f ds fr n).2 ∧ ∀ i ∈ (oms f ds fr n).1, n ≤ i ∧ i < (oms f ds fr n).2
  | [], fr, n => by rw [oms_nil]; exact ⟨Nat.le_refl _, fun i hi => nomatch hi⟩
  | d :: r, fr, n => by
    rw [oms_cons]
    obtain ⟨h1, h2⟩ := om_le f d fr n
    obtain ⟨h3, h4⟩ := oms_le f r fr (d.om f fr n).2
    refine ⟨?_, fun i hi => ?_⟩
    · show n + ((d.om f fr n).1 ++ (oms f r fr (d.om f fr n).2).1).length ≤ (oms f r fr (d.om f fr n).2).2
      rw [List.length_append]
      omega
    · show n ≤ i ∧ i < (oms f r fr (d.om f fr n).2).2
      rcases List.mem_append.mp hi with hi | hi
      · have := h2 i hi
        omega
      · have := h4 i hi
        omega
end
theorem oms_part (f : Nat → Bool) (ds : List Dk) (i : Nat) (fr : Bool) (n : Nat) : (oms f (ds.take i) fr n).2 ≤ (oms f ds fr n).2 := by
  have e := oms_append f (ds.take i) (ds.drop i) fr n
  rw [List.take_append_drop] at e
  rw [e]
  have := (oms_le f (ds.drop i) fr (oms f (ds.take i) fr n).2).1
  show _ ≤ (oms f (ds.drop i) fr (oms f (ds.take i) fr n).2).2
  omega
/-- a def at an address -/
structure CalA (P : Program) (w : World) (K : PySem.W.Frag) (mg : Str → Option Value) (base : Heap) (f : Addr) (ps : List Str) (k : Nat) (sp : Sp) : Prop where
  ex : ∃ fd, FnOk P w K mg base CX0 k f fd ps sp ∧ Binds K fd ps [] ∧ PySem.W.keepIn K (.ref f) = true
/-- x(e, ..), x a name of the def's own -/
noncomputable def tCallV (i : Nat) (C : Addr → Sp → Prop) (t : TA) : TE := fun σ H Q => ∃ f sp, σ[i]? = some (some (.ref f)) ∧ C f sp ∧ t σ H fun vs H1 => sp vs H1 Q E0
section
variable {X : Cx}
theorem pe_calV {i : Nat} {C : Addr → Sp → Prop} {x : Str} {ps : List Str} {k n : Nat} {p pos : Pos} {e : Expr} {es : List Expr} {t : TA} (c : ∀ f sp, C f sp → CalA X.prog X.w X.K X.mg X.base f ps k sp) (hr : Room n X.A) (hv : PE X (.Name x p) (tVar i)) (ha : PA X (e :: es) t) (hn : k ≤ n := by omega)
    (he : starEach (e :: es) X.env = (false, eval e X.env) :: starEach es X.env := by rfl) (hpl : (backTo pos (starEach es X.env)).any (·.1) = false := by rfl) : PE X (.Call (.Name x p) (e :: es) [] pos) (tCallV i C t) := by
  intro pins s σ H Q I h
  obtain ⟨f, sp, hσ, hC, h⟩ := h
  obtain ⟨fd, F, b, kp⟩ := (c f sp hC).ex
  refine wpAny_Call_Name_kw (thn (hv pins s σ H (fun v H' => v = .ref f ∧ H' = H) I ⟨.ref f, hσ, rfl, rfl⟩) fun fv s1 ⟨v, H1, I1, rv, q⟩ => ?_)
  obtain ⟨rfl, rfl⟩ := q
  cases rv
  refine PySem.W.callWith_K (h₀ := X.base) I1.ok.mod.kin kp (thn (ha pos pins s1 σ H1 _ I1 h) fun us s2 ⟨vs, H2, I2, r, q⟩ => ⟨I2.kIn, ?_⟩) he hpl
  have q' : sp (vs ++ []) H2 Q E0 := by rw [List.append_nil]; exact q
  exact run_fn F (hr.mono hn) b .nil pass0 I2 r q'
/-- None in a list of tuples -/
noncomputable def rInN (K : PySem.W.Frag) : R2 := fun x y H Q => ∃ p xs, x = .non ∧ y = .ref p ∧ SqL K H p xs ∧ (∀ v ∈ xs, ∃ a ys, v = .ref a ∧ SqT K H a ys) ∧ Q (.bl false) H
theorem vals_mem : ∀ {xs : List V} {us : List Value}, Vals xs us → ∀ u ∈ us, ∃ v ∈ xs, RelV v u
  | _, _, .nil, u, hu => nomatch hu
  | x :: xs, _ :: us, .cons r t, u, hu => by
    rcases List.mem_cons.mp hu with rfl | hu
    · exact ⟨x, List.mem_cons_self, r⟩
    · obtain ⟨v, hv, rv⟩ := vals_mem t u hu
      exact ⟨v, List.mem_cons_of_mem _ hv, rv⟩
theorem op_inN {k : Nat} (hr : Room k X.A) : OpR X (compareOp .In) (rInN X.K) := by
  intro pins s σ H x y v u Q I rx ry h
  obtain ⟨p, xs, rfl, rfl, hq, ht, q⟩ := h
  cases rx
  cases ry
  have hu := hr.units
  obtain ⟨its, r, pl, hz⟩ := I.list hq
  refine SeqAt.in_listAt (fun _ => false) pl.isList (fun w hw => ?_) ⟨.bl _, H, I, rfl, ?_⟩
  · obtain ⟨v, hv, rv⟩ := vals_mem r w (by simpa using hw)
    obtain ⟨a, ys, rfl, ha⟩ := ht v hv
    cases rv
    obtain ⟨i1, r1, p1, z1⟩ := I.tuple ha
    exact SeqAt.EqAt.tuple_none p1 (by show X.A.units + 1 < cLine; omega)
  · have e : (its.toArray.any fun _ => false) = false := by simp
    rw [e]
    exact q
end
end L2.Bk

end
section
set_option Elab.async false
set_option linter.all false
set_option maxRecDepth 100000
set_option maxHeartbeats 8000000
namespace L2.K81
open PySem PySem.Spec PyProof.Rows L2.Bw L2.Bk L2.Ex
noncomputable def top (i : Nat) : Stmt := PySem.Challenge.pw_blamewise_k81_looser_joined_met.main.body.getD i (.Pass ⟨0, 0, 0, 0⟩)
structure Tx (mg : Str → Option Value) : Prop where
  len : mg "len" = none
  isinstance : mg "isinstance" = none
  list : mg "list" = none
  tuple : mg "tuple" = none
  int : mg "int" = none
  bool : mg "bool" = none
  str : mg "str" = none
  range : mg "range" = none
  zip : mg "zip" = none
  all : mg "all" = none
  enumerate : mg "enumerate" = none
theorem at0 {v : V} {us : List V} : atI (v :: us) 0 = some v := atI_nat (j := 0) rfl
theorem at1 {u v : V} {us : List V} : atI (u :: v :: us) 1 = some v := atI_nat (j := 1) rfl
theorem at3 {a b c v : V} {us : List V} : atI (a :: b :: c :: v :: us) 3 = some v := atI_nat (j := 3) rfl
section
variable {P : Program} {w : World} {K : PySem.W.Frag} {mg : Str → Option Value} {base : Heap} {f : Addr} {fd : FuncData}
/-! ### kinds_in -/
noncomputable abbrev sKi : Stmt := top 7
noncomputable def spKi (K : PySem.W.Frag) : Sp := fun vs H Q _ => ∃ (v : V) (h : Str) (ds : List Dk), vs = [v] ∧ RK K H (.tup (.str h :: ds)) v ∧
  ∀ (r : Addr) (us : List V) (H' : Hp), Old H H' → H r = none → H' r = some (.lst us) → RKs K H' ds us → Q (.ref r) H'
theorem scKi : FnScope ["kind"] ["kind"] (defScope sKi) := ⟨rfl, rfl, rfl, by decide +kernel, rfl, by decide +kernel, by decide +kernel⟩
theorem ok_ki {n : Nat} (F : Fun K "kinds_in" "kinds_in" sKi f fd) (T : Tx mg) : FnOk P w K mg base CX0 (n + 1) f fd ["kind"] (spKi K) := by
  refine F.ok scKi (fun vs H Q E h => ?_) (fun cdv A outer s H vs Q E hr h => ?_)
  · obtain ⟨v, h, ds, rfl, _⟩ := h
    rfl
  obtain ⟨v, h, ds, rfl, rv, q⟩ := h
  obtain ⟨a, us, rfl, ha, ru⟩ := RK.kind rv
  refine' ⟨_, ?n0, ?Z⟩
  case' n0 => refine' pss_one ?n1
  case' n1 => refine' ps_ret ?n2
  case' n2 => refine' pe_callTy (call_list_of) rfl T.list boot_list ?n3
  case' n3 => refine' pa ?n4 ?n5
  case' n4 => refine' pe_slice sl_k ?n6 ?n7 po_none
  case n6 => exact pv 0
  case' n7 => refine' po_some ?n8
  case n8 => exact pe_int
  case n5 => exact pa_nil
  refine ⟨_, rfl, _, rfl, sl_tail ha.sq fun p hp => ?_⟩
  have o1 : Old H (upd H p (.tup us)) := Old.new hp
  refine ⟨p, us, rfl, .inr (SqT.of upd_same), fun l hl => ?_⟩
  have o2 : Old (upd H p (.tup us)) (upd (upd H p (.tup us)) l (.lst us)) := Old.new hl
  exact q l us _ (o1.trans o2) (o1.free hl) upd_same (ru.mono (o1.trans o2).tm)
/-! ### with_kinds -/
noncomputable abbrev sWk : Stmt := top 8
noncomputable def spWk (K : PySem.W.Frag) : Sp := fun vs H Q _ => ∃ (v : V) (c : Addr) (h : Str) (ds es : List Dk) (ws : List V), vs = [v, .ref c] ∧ RK K H (.tup (.str h :: ds)) v ∧ H c = some (.lst ws) ∧ RKs K H es ws ∧ es.length ≤ 900 ∧
  ∀ (v' : V) (H' : Hp), Old H H' → RK K H' (.tup (.str h :: es)) v' → Q v' H'
theorem scWk : FnScope ["kind", "some"] ["kind", "some"] (defScope sWk) := ⟨rfl, rfl, rfl, by decide +kernel, rfl, by decide +kernel, by decide +kernel⟩
theorem ok_wk {n : Nat} (F : Fun K "with_kinds" "with_kinds" sWk f fd) (T : Tx mg) : FnOk P w K mg base CX0 (n + 1) f fd ["kind", "some"] (spWk K) := by
  refine F.ok scWk (fun vs H Q E h => ?_) (fun cdv A outer s H vs Q E hr h => ?_)
  · obtain ⟨v, c, h, ds, es, ws, rfl, _⟩ := h
    rfl
  obtain ⟨v, c, h, ds, es, ws, rfl, rv, hc, rs, hz, q⟩ := h
  obtain ⟨a, us, rfl, ha, ru⟩ := RK.kind rv
  have ls := rs.length
  refine' ⟨_, ?n0, ?Z⟩
  case' n0 => refine' pss_one ?n1
  case' n1 => refine' ps_ret ?n2
  case' n2 => refine' pe_op op_addG ?n3 ?n4
  case' n3 => refine' pe_tup ?n5
  case' n5 => refine' pa ?n6 ?n7
  case' n6 => refine' pe_ix ix_seq ?n8 ?n9 (fun _ _ => rfl)
  case n8 => exact pv 0
  case n9 => exact pe_int
  case n7 => exact pa_nil
  case' n4 => refine' pe_callTy (call_tuple_of) rfl T.tuple boot_tuple ?n10
  case' n10 => refine' pa ?n11 ?n12
  case n11 => exact pv 1
  case n12 => exact pa_nil
  refine ⟨_, rfl, .inr (.inl ⟨a, _, 0, .str h, rfl, rfl, ha.sq, (by exact atI_nat (j := 0) rfl), by show 1 ≤ sizeLine; decide, fun p hp => ?_⟩)⟩
  have o1 : Old H (upd H p (.tup [.str h])) := Old.new hp
  refine ⟨_, rfl, c, ws, rfl, .inl ⟨SqL.of (o1 _ _ hc), fun p2 hp2 => ?_⟩⟩
  have o2 : Old (upd H p (.tup [.str h])) (upd (upd H p (.tup [.str h])) p2 (.tup ws)) := Old.new hp2
  refine .inr (addT (cat_k (ds := [.str h]) (es := es) (.of (o2 _ _ upd_same)) (.of upd_same) (.cons (.s _) .nil) (rs.mono (o1.trans o2).tm) (by simp) (by simp; omega) fun c' H' o3 r3 => ?_))
  exact q _ _ ((o1.trans o2).trans o3) r3
/-! ### form -/
noncomputable abbrev sForm : Stmt := top 18
noncomputable def spForm (K : PySem.W.Frag) : Sp := fun vs H Q _ => ∃ (x : Str), vs = [.str x] ∧ x ∈ K11.words ∧ ∀ c, SqT K H c ((K11.form x).map V.str) → Q (.ref c) H
theorem scForm : FnScope ["word"] ["word"] (defScope sForm) := ⟨rfl, rfl, rfl, by decide +kernel, rfl, by decide +kernel, by decide +kernel⟩
theorem ok_form {m : Nat} {fa : Addr} (F : Fun K "form" "form" sForm f fd) (m_FORMS : mg "FORMS" = some (.ref fa)) (k_FORMS : KTD.tabLook (lookT K) (fun b => K.lookup b) fa K11.table = true) : FnOk P w K mg base CX0 (m + 1) f fd ["word"] (spForm K) := by
  refine F.ok scForm (fun vs H Q E h => ?_) (fun cdv A outer s H vs Q E hr h => ?_)
  · obtain ⟨x, rfl, _⟩ := h
    rfl
  obtain ⟨x, rfl, hx, q⟩ := h
  refine' ⟨_, ?n0, ?Z⟩
  case' n0 => refine' pss_one ?n1
  case' n1 => refine' ps_ret ?n2
  case' n2 => refine' pe_tab rfl m_FORMS k_FORMS ?n3 (fun _ _ => rfl)
  case n3 => exact pv 0
  exact ⟨_, rfl, rfl, x, K11.form x, rfl, (K11.form_of x hx).1, q⟩
/-! ### indexes -/
noncomputable abbrev sIndexes : Stmt := top 19
noncomputable def spIndexes (K : PySem.W.Frag) : Sp := fun vs H Q _ => ∃ (a : Addr) (x : Str) (us : List V) (so : Str), vs = [.ref a, .str so] ∧ Tp K H a (.str x :: us) ∧ x ∈ K11.words ∧
  ∀ (r : Addr) (H' : Hp), Old H H' → H r = none → H' r = some (.lst ((K11.ixs so 2 (K11.form x)).map V.int)) → Q (.ref r) H'
theorem scIndexes : FnScope ["tree", "sort"] ["tree", "sort"] (defScope sIndexes) := ⟨rfl, rfl, rfl, by decide +kernel, rfl, by decide +kernel, by decide +kernel⟩
theorem ixs_snoc (so : Str) : ∀ (ss : List Str) (k : Nat) (y : Str), K11.ixs so k (ss ++ [y]) = K11.ixs so k ss ++ (if y = so then [((k + ss.length : Nat) : Int)] else [])
  | [], k, y => by show (if y = so then _ else _) = _; split <;> rfl
  | z :: r, k, y => by
    show (if z = so then (k : Int) :: K11.ixs so (k + 1) (r ++ [y]) else K11.ixs so (k + 1) (r ++ [y])) = (if z = so then (k : Int) :: K11.ixs so (k + 1) r else K11.ixs so (k + 1) r) ++ _
    rw [ixs_snoc so r (k + 1) y]
    have e : k + 1 + r.length = k + (z :: r).length := by simp; omega
    rw [e]
    split <;> rfl
theorem ixs_len (so : Str) : ∀ (ss : List Str) (k : Nat), (K11.ixs so k ss).length ≤ ss.length
  | [], _ => Nat.le_refl _
  | z :: r, k => by
    have := ixs_len so r (k + 1)
    show (if z = so then (k : Int) :: K11.ixs so (k + 1) r else K11.ixs so (k + 1) r).length ≤ r.length + 1
    split
    · simp; omega
    · omega
theorem ok_indexes {m : Nat} (F : Fun K "indexes" "indexes" sIndexes f fd) (T : Tx mg) (c_form : Cal P w K mg base "form" ["word"] 1 (spForm K)) : FnOk P w K mg base CX0 (m + 2) f fd ["tree", "sort"] (spIndexes K) := by
  refine F.ok scIndexes (fun vs H Q E h => ?_) (fun cdv A outer s H vs Q E hr h => ?_)
  · obtain ⟨a, x, us, so, rfl, _⟩ := h
    rfl
  obtain ⟨a, x, us, so, rfl, ha, hx, q⟩ := h
  have nd := scIndexes.nd
  obtain ⟨f1, f2, _⟩ := K11.form_of x hx
  refine' ⟨_, ?n0, ?Z⟩
  case' n0 => refine' pss_one ?n1
  case' n1 => refine' ps_ret ?n2
  case' n2 => refine' pe_lc (g := gTup K 2 (gCons (gName 0) (gCons (gName 1) gNil))) (tt := tTest (tOp (rEqG K) (tVar 1) (tVar 3))) (te := tVar 0) (k := 2) (N := ["index", "found", "tree", "sort"]) (lc_mk rfl rfl rfl rfl rfl rfl) rfl ?n3 (fun _ _ _ _ => ?n4) (fun _ _ _ _ => ?n5) (fun _ _ _ _ => ?n6)
  case' n3 => refine' pi_enum rfl T.enumerate ?n7 ?n8
  case' n7 => refine' pa ?n9 ?n10
  case' n9 => refine' pe_cal c_form hr ?n11
  case' n11 => refine' pa ?n12 ?n13
  case' n12 => refine' pe_ix ix_seq ?n14 ?n15 (fun _ _ => rfl)
  case n14 => exact pv 0
  case n15 => exact pe_int
  case n13 => exact pa_nil
  case n10 => exact pa_nil
  case' n8 => refine' pk_cons ?n16 ?n17
  case n16 => exact pe_int
  case n17 => exact pk_nil
  case n4 =>
    refine' pg_tup rfl ?n18
    case' n18 => refine' pgs_cons ?n19 ?n20
    case n19 => exact pg_name (i := 0) (by show List.Nodup (["index", "found", "tree", "sort"] : List Str); decide +kernel) rfl (Or.inl rfl)
    case' n20 => refine' pgs_cons ?n21 ?n22
    case n21 => exact pg_name (i := 1) (by show List.Nodup (["index", "found", "tree", "sort"] : List Str); decide +kernel) rfl (Or.inl rfl)
    case n22 => exact pgs_nil
  case n5 =>
    refine' pts_one ?n23
    case' n23 => refine' pt_cmpR (op_eqG hr) ?n24 ?n25 (nomark _)
    case n24 => exact pv 1
    case n25 => exact pv 3
  case n6 => exact pv 0
  refine ⟨_, rfl, .inr (.inl ⟨a, _, 0, .str x, rfl, rfl, ha.sq, at0, x, rfl, hx, fun c hc => ⟨c, _, 2, rfl, rfl, by decide +kernel, hc, fun D hD => ?_⟩⟩)⟩
  have same2 : ∀ {H' : Hp}, Old H H' → SqT K H' c ((K11.form x).map V.str) := fun {H'} g => by
    rcases hc with (h | ⟨o, h⟩) | h
    · exact .inl (.inl (g _ _ h))
    · exact .inl (.inr ⟨o, g _ _ h⟩)
    · exact .inr h
  have lenf : ((K11.form x).map V.str).length = (K11.form x).length := List.length_map _
  have neD : ∀ b o, H b = some o → b ≠ D := fun b o e => ne_of_none e hD
  refine lc_by (n := (K11.form x).length) (fun i σ H2 => ∃ (k1 k2 : Option V), σ = [k1, k2, some (.ref a), some (.str so)] ∧ Old H H2 ∧ H2 D = some (.lst ((K11.ixs so 2 ((K11.form x).take i)).map V.int))) ⟨none, none, rfl, fun b o e => by rw [upd_ne (neD b o e)]; exact e, upd_same⟩ ?_ ?_ ?_ ?_
  · intro i σ H2 hi hv
    obtain ⟨k1, k2, rfl, g, hD2⟩ := hv
    exact ⟨_, .str (K11.form x)[i], same2 g, by rw [List.getElem?_map, List.getElem?_eq_getElem hi]; rfl⟩
  · intro σ H2 hv
    obtain ⟨k1, k2, rfl, g, hD2⟩ := hv
    exact ⟨_, same2 g, by rw [lenf]; exact Nat.le_refl _⟩
  · intro i σ H2 hi hv v H3 hy
    obtain ⟨k1, k2, rfl, g, hD2⟩ := hv
    obtain ⟨t, y, rfl, ht, rfl, hyx⟩ := hy
    have ey : y = .str (K11.form x)[i] := by
      have := hyx _ (same2 g)
      rw [List.getElem?_map, List.getElem?_eq_getElem hi] at this
      exact (Option.some.inj this).symm
    subst ey
    have ntD : D ≠ t := ne_of_none hD2 ht
    refine ⟨t, _, rfl, SqT.of upd_same, rfl, _, _, rfl, _, _, rfl, rfl, ?_⟩
    refine ⟨_, rfl, _, rfl, .inr (.inl ⟨rfl, _, rfl, ?_⟩)⟩
    rw [dec_s]
    have g3 : ∀ b o, H b = some o → upd H2 t (.tup [.int (2 + (i : Int)), .str (K11.form x)[i]]) b = some o := fun b o e => by rw [upd_ne (ne_of_none (g b o e) ht)]; exact g b o e
    have hD3 : upd H2 t (.tup [.int (2 + (i : Int)), .str (K11.form x)[i]]) D = some (.lst ((K11.ixs so 2 ((K11.form x).take i)).map V.int)) := by rw [upd_ne ntD]; exact hD2
    have tk : (K11.form x).take (i + 1) = (K11.form x).take i ++ [(K11.form x)[i]] := take_snoc hi
    have lt : ((K11.form x).take i).length = i := by rw [List.length_take]; omega
    refine ite2 (fun cc => ?_) (fun cc => ?_)
    · have c' : (K11.form x)[i] = so := of_decide_eq_true cc
      refine ⟨_, rfl, _, hD3, ?_, nx hi ⟨_, _, rfl, fun b o e => by rw [upd_ne (neD b o e)]; exact g3 b o e, ?_⟩⟩
      · have := ixs_len so ((K11.form x).take i) 2
        rw [List.length_map]
        exact smallM (by rw [List.length_take] at this; omega)
      · rw [upd_same, tk, ixs_snoc, if_pos c', List.map_append, lt]
        have e2 : (2 : Int) + (i : Int) = ((2 + i : Nat) : Int) := by omega
        rw [e2]
        rfl
    · have c' : ¬ (K11.form x)[i] = so := of_decide_eq_false (Bool.eq_false_iff.mpr cc)
      refine nx hi ⟨_, _, rfl, g3, ?_⟩
      rw [hD3, tk, ixs_snoc, if_neg c', List.append_nil]
  · intro σ H2 hv
    obtain ⟨k1, k2, rfl, g, hD2⟩ := hv
    rw [List.take_length] at hD2
    exact q D H2 g hD hD2
/-! ### parts -/
noncomputable abbrev sParts : Stmt := top 21
noncomputable def spParts (K : PySem.W.Frag) : Sp := fun vs H Q _ => ∃ (v : V) (t : Tn), vs = [v] ∧ RK K H t.d v ∧ t.wf ∧
  ∀ (r : Addr) (us : List V) (H' : Hp), Old H H' → H r = none → H' r = some (.lst us) → RKs K H' (Tn.ds t.ps) us → Q (.ref r) H'
theorem scParts : FnScope ["tree"] ["tree"] (defScope sParts) := ⟨rfl, rfl, rfl, by decide +kernel, rfl, by decide +kernel, by decide +kernel⟩
theorem rng_get {lo n i : Nat} (h : i < n) : (K11.rng lo n)[i]? = some ((lo + i : Nat) : Int) := by
  unfold K11.rng
  rw [List.getElem?_map, List.getElem?_range' h]
  simp
theorem rng_len (lo n : Nat) : (K11.rng lo n).length = n := by unfold K11.rng; simp
theorem nf_row : K11.nf "row" = 0 := by decide +kernel
theorem nk_row : K11.nk "row" = 1 := by decide +kernel
theorem ok_parts {m : Nat} (F : Fun K "parts" "parts" sParts f fd) (T : Tx mg) (c_indexes : Cal P w K mg base "indexes" ["tree", "sort"] 2 (spIndexes K)) : FnOk P w K mg base CX0 (m + 3) f fd ["tree"] (spParts K) := by
  refine F.ok scParts (fun vs H Q E h => ?_) (fun cdv A outer s H vs Q E hr h => ?_)
  · obtain ⟨v, t, rfl, _⟩ := h
    rfl
  obtain ⟨v, t, rfl, rv, wt, q⟩ := h
  have nd := scParts.nd
  obtain ⟨x, p, fr, mid, ps⟩ := t
  obtain ⟨⟨hx, lf, lm, lp, few, _⟩, _⟩ := wt
  obtain ⟨a, uf, um, up, rfl, ha, rf, rm, rp⟩ := RK.node rv
  have l1 := rf.length
  have l2 := rm.length
  refine' ⟨_, ?n0, ?Z⟩
  case' n0 => refine' pss_cons ?n1 ?n2
  case' n1 => refine' ps_if ?n3 ?n4 ?n5
  case' n3 => refine' pt_cmpR (op_eqG hr) ?n6 ?n7 (nomark _)
  case' n6 => refine' pe_ix ix_seq ?n8 ?n9 (fun _ _ => rfl)
  case n8 => exact pv 0
  case n9 => exact pe_int
  case n7 => exact pe_str
  case' n4 => refine' pss_one ?n10
  case' n10 => refine' ps_ret ?n11
  case' n11 => refine' pe_callTy (call_list_of) rfl T.list boot_list ?n12
  case' n12 => refine' pa ?n13 ?n14
  case' n13 => refine' pe_ix ix_seq ?n15 ?n16 (fun _ _ => rfl)
  case n15 => exact pv 0
  case n16 => exact pe_int
  case n14 => exact pa_nil
  case n5 => exact pss_nil
  case' n2 => refine' pss_one ?n17
  case' n17 => refine' ps_ret ?n18
  case' n18 => refine' pe_lc (te := tOp (rIx K) (tVar 1) (tVar 0)) (k := 1) (N := ["index", "tree"]) (lc_mk rfl rfl rfl rfl rfl rfl) rfl ?n19 (fun _ _ _ _ => ?n20) (fun _ _ _ _ => ?n21) (fun _ _ _ _ => ?n22)
  case' n19 => refine' pi_seq ?n23
  case' n23 => refine' pe_cal c_indexes hr ?n24
  case' n24 => refine' pa ?n25 ?n26
  case n25 => exact pv 0
  case' n26 => refine' pa ?n27 ?n28
  case n27 => exact pe_str
  case n28 => exact pa_nil
  case n20 => exact pg_name (i := 0) (by show List.Nodup (["index", "tree"] : List Str); decide +kernel) rfl (Or.inl rfl)
  case n21 => exact pts_nil
  case n22 =>
    refine' pe_ix ix_seq ?n29 ?n30 (fun _ _ => rfl)
    case n29 => exact pv 1
    case n30 => exact pv 0
  refine ⟨_, rfl, .inr (.inl ⟨a, _, 0, .str x, rfl, rfl, ha.sq, at0, .inr (.inl ⟨rfl, _, rfl, ?_⟩)⟩)⟩
  rw [dec_s]
  by_cases cr : x = "row"
  · rw [decide_eq_true cr]
    refine iteT ?_
    rw [if_pos cr] at rp
    rw [cr, nf_row] at lf
    rw [cr, nk_row] at lm
    obtain ⟨pv, e0, rfl, rpv, e1⟩ := rp
    have e1' : e0 = [] := e1
    subst e1'
    obtain rfl : uf = [] := List.length_eq_zero_iff.mp (l1.symm.trans lf)
    obtain ⟨k0, rfl⟩ : ∃ k0, um = [k0] := List.length_eq_one_iff.mp (l2.symm.trans lm)
    obtain ⟨b, us, rfl, hb, rus⟩ := RK.get rpv
    refine ⟨_, rfl, .inr (.inl ⟨a, _, 3, .ref b, rfl, rfl, ha.sq, at3, b, us, rfl, .inr hb.sq, fun l hl => ?_⟩)⟩
    have o : Old H (upd H l (.lst us)) := Old.new hl
    exact q l us _ o hl upd_same (rus.mono o.tm)
  · rw [decide_eq_false cr]
    refine iteF ?_
    rw [if_neg cr] at rp
    have l3 := rp.length
    rw [tds_length] at l3
    have lp' := lp cr
    refine ⟨_, rfl, a, x, _, "node", rfl, ha, hx, fun r H1 o1 hr0 hr1 => ⟨r, rfl, .inl ⟨⟨_, SqL.of hr1⟩, fun D hD => ?_⟩⟩⟩
    rw [(K11.form_of x hx).2.2.1 cr] at hr1
    have lo0 : ([V.str x, V.int p] ++ uf ++ um).length = 2 + K11.nf x + K11.nk x := by
      rw [List.length_append, List.length_append, ← l1, ← l2, lf, lm]
      rfl
    have ln : up.length = K11.np x := by rw [← l3]; exact lp'
    have e1 : V.str x :: V.int p :: (uf ++ um ++ up) = ([V.str x, V.int p] ++ uf ++ um) ++ up := by simp
    have lu5 : up.length ≤ 5 := by rw [← l3]; exact few
    clear lp' l3 lf lm l1 l2 lp
    generalize 2 + K11.nf x + K11.nk x = lo at hr1 lo0
    generalize K11.np x = n at hr1 ln
    rw [e1] at ha
    generalize [V.str x, V.int p] ++ uf ++ um = pre at ha lo0
    have neD : ∀ b o, H1 b = some o → b ≠ D := fun b o e => ne_of_none e hD
    have lr : ((K11.rng lo n).map V.int).length = n := by rw [List.length_map, rng_len]
    refine lc_by0 (n := n) (fun i σ H2 => ∃ (k1 : Option V), σ = [k1, some (.ref a)] ∧ Old H1 H2 ∧ H2 D = some (.lst (up.take i))) ⟨none, rfl, Old.new hD, upd_same⟩ ?_ ?_ ?_ ?_
    · intro i σ H2 hi hv
      obtain ⟨k1, rfl, o2, hD2⟩ := hv
      exact ⟨_, _, SqL.of (o2 _ _ hr1), by rw [List.getElem?_map, rng_get hi]; rfl⟩
    · intro σ H2 hv
      obtain ⟨k1, rfl, o2, hD2⟩ := hv
      exact ⟨_, SqL.of (o2 _ _ hr1), by rw [lr]; exact Nat.le_refl _⟩
    · intro i σ H2 hi hv y H3 hy
      obtain ⟨k1, rfl, o2, hD2⟩ := hv
      obtain ⟨e1, hyx⟩ := hy
      subst e1
      have ey := hyx _ (SqL.of (o2 _ _ hr1))
      rw [List.getElem?_map, rng_get hi] at ey
      cases ey
      have iu : i < up.length := by omega
      have eu : (pre ++ up)[lo + i]? = some up[i] := by
        rw [List.getElem?_append_right (by omega), lo0, show lo + i - lo = i by omega, List.getElem?_eq_getElem iu]
      have ha3 := (ha.mono (o1.trans o2).tm).sq
      refine ⟨_, rfl, _, rfl, .inr (.inl ⟨a, _, _, up[i], rfl, rfl, ha3, atI_nat eu, ?_⟩)⟩
      refine ⟨_, hD2, smallM (by rw [List.length_take]; omega), nx hi ⟨_, rfl, fun b o e => by rw [upd_ne (neD b o e)]; exact o2 b o e, ?_⟩⟩
      rw [upd_same, take_snoc iu]
    · intro σ H2 hv
      obtain ⟨k1, rfl, o2, hD2⟩ := hv
      rw [List.take_of_length_le (by omega)] at hD2
      exact q D up H2 (o1.trans o2) (o1.free hD) hD2 (rp.mono (o1.trans o2).tm)
/-! ### written -/
noncomputable abbrev sWr : Stmt := top 23
noncomputable def tmid : Tn → List Dk | .mk _ _ _ mid _ => mid
noncomputable def spWr (K : PySem.W.Frag) : Sp := fun vs H Q _ => ∃ (v : V) (t : Tn), vs = [v] ∧ RK K H t.d v ∧ t.wf ∧ t.w ≠ "look" ∧
  ∀ (r : Addr) (us : List V) (H' : Hp), Old H H' → H r = none → H' r = some (.lst us) → RKs K H' (tmid t) us → Q (.ref r) H'
theorem scWr : FnScope ["tree"] ["tree"] (defScope sWr) := ⟨rfl, rfl, rfl, by decide +kernel, rfl, by decide +kernel, by decide +kernel⟩
theorem nk_le : ∀ x ∈ K11.words, K11.nk x ≤ 5 := by decide +kernel
theorem ok_Wr {m : Nat} (F : Fun K "written" "written" sWr f fd) (T : Tx mg) (c_indexes : Cal P w K mg base "indexes" ["tree", "sort"] 2 (spIndexes K)) : FnOk P w K mg base CX0 (m + 3) f fd ["tree"] (spWr K) := by
  refine F.ok scWr (fun vs H Q E h => ?_) (fun cdv A outer s H vs Q E hr h => ?_)
  · obtain ⟨v, t, rfl, _⟩ := h
    rfl
  obtain ⟨v, t, rfl, rv, wt, nl, q⟩ := h
  have nd := scWr.nd
  obtain ⟨x, p, fr, mid, ps⟩ := t
  obtain ⟨⟨hx, lf, lm, _⟩, _⟩ := wt
  obtain ⟨a, uf, um, up, rfl, ha, rf, rm, rp⟩ := RK.node rv
  have l1 := rf.length
  have l2 := rm.length
  refine' ⟨_, ?n0, ?Z⟩
  case' n0 => refine' pss_one ?n1
  case' n1 => refine' ps_ret ?n2
  case' n2 => refine' pe_lc (te := tOp (rIx K) (tVar 1) (tVar 0)) (k := 1) (N := ["index", "tree"]) (lc_mk rfl rfl rfl rfl rfl rfl) rfl ?n3 (fun _ _ _ _ => ?n4) (fun _ _ _ _ => ?n5) (fun _ _ _ _ => ?n6)
  case' n3 => refine' pi_seq ?n7
  case' n7 => refine' pe_cal c_indexes hr ?n8
  case' n8 => refine' pa ?n9 ?n10
  case n9 => exact pv 0
  case' n10 => refine' pa ?n11 ?n12
  case n11 => exact pe_str
  case n12 => exact pa_nil
  case n4 => exact pg_name (i := 0) (by show List.Nodup (["index", "tree"] : List Str); decide +kernel) rfl (Or.inl rfl)
  case n5 => exact pts_nil
  case n6 =>
    refine' pe_ix ix_seq ?n13 ?n14 (fun _ _ => rfl)
    case n13 => exact pv 1
    case n14 => exact pv 0
  refine ⟨_, rfl, a, x, _, "kind", rfl, ha, hx, fun r H1 o1 hr0 hr1 => ⟨r, rfl, .inl ⟨⟨_, SqL.of hr1⟩, fun D hD => ?_⟩⟩⟩
  rw [(K11.form_of x hx).2.2.2.1 nl] at hr1
  have lo0 : ([V.str x, V.int p] ++ uf).length = 2 + K11.nf x := by
    rw [List.length_append, ← l1, lf]
    rfl
  have ln : um.length = K11.nk x := by rw [← l2]; exact lm
  have lu5 : um.length ≤ 5 := by rw [ln]; exact nk_le x hx
  have e1 : V.str x :: V.int p :: (uf ++ um ++ up) = ([V.str x, V.int p] ++ uf) ++ (um ++ up) := by simp
  clear l1 l2
  generalize 2 + K11.nf x = lo at hr1 lo0
  generalize K11.nk x = n at hr1 ln
  rw [e1] at ha
  generalize [V.str x, V.int p] ++ uf = pre at ha lo0
  have neD : ∀ b o, H1 b = some o → b ≠ D := fun b o e => ne_of_none e hD
  have lr : ((K11.rng lo n).map V.int).length = n := by rw [List.length_map, rng_len]
  refine lc_by0 (n := n) (fun i σ H2 => ∃ (k1 : Option V), σ = [k1, some (.ref a)] ∧ Old H1 H2 ∧ H2 D = some (.lst (um.take i))) ⟨none, rfl, Old.new hD, upd_same⟩ ?_ ?_ ?_ ?_
  · intro i σ H2 hi hv
    obtain ⟨k1, rfl, o2, hD2⟩ := hv
    exact ⟨_, _, SqL.of (o2 _ _ hr1), by rw [List.getElem?_map, rng_get hi]; rfl⟩
  · intro σ H2 hv
    obtain ⟨k1, rfl, o2, hD2⟩ := hv
    exact ⟨_, SqL.of (o2 _ _ hr1), by rw [lr]; exact Nat.le_refl _⟩
  · intro i σ H2 hi hv y H3 hy
    obtain ⟨k1, rfl, o2, hD2⟩ := hv
    obtain ⟨e1, hyx⟩ := hy
    subst e1
    have ey := hyx _ (SqL.of (o2 _ _ hr1))
    rw [List.getElem?_map, rng_get hi] at ey
    cases ey
    have iu : i < um.length := by omega
    have eu : (pre ++ (um ++ up))[lo + i]? = some um[i] := by
      rw [List.getElem?_append_right (by omega), lo0, show lo + i - lo = i by omega, List.getElem?_append_left iu, List.getElem?_eq_getElem iu]
    have ha3 := (ha.mono (o1.trans o2).tm).sq
    refine ⟨_, rfl, _, rfl, .inr (.inl ⟨a, _, _, um[i], rfl, rfl, ha3, atI_nat eu, ?_⟩)⟩
    refine ⟨_, hD2, smallM (by rw [List.length_take]; omega), nx hi ⟨_, rfl, fun b o e => by rw [upd_ne (neD b o e)]; exact o2 b o e, ?_⟩⟩
    rw [upd_same, take_snoc iu]
  · intro σ H2 hv
    obtain ⟨k1, rfl, o2, hD2⟩ := hv
    rw [List.take_of_length_le (by omega)] at hD2
    exact q D um H2 (o1.trans o2) (o1.free hD) hD2 (rm.mono (o1.trans o2).tm)
theorem q_empty {h : Str} {ks : List Kn} {us : List V} (e : arity h = some ks.length) (l : ks.length = us.length) : (decide (h = "?") && us.isEmpty) = decide (h = "?") := by
  by_cases c : h = "?"
  · subst c
    have := arity_q e
    have : us = [] := List.length_eq_zero_iff.mp (by omega)
    subst this
    rfl
  · rw [decide_eq_false c, Bool.false_and]
/-! ### looser -/
noncomputable abbrev sLooser : Stmt := top 12
noncomputable def spLooser (K : PySem.W.Frag) (m : Nat) : Sp := fun vs H Q _ => ∃ (x y : V) (a b : Kn), vs = [x, y] ∧ RK K H a.d x ∧ RK K H b.d y ∧ a.wf ∧ b.wf ∧ a.dep < m ∧ ∀ (H' : Hp), Old H H' → Q (.bl (a.loose b)) H'
theorem scLooser : FnScope ["kind", "other"] ["kind", "other"] (defScope sLooser) := ⟨rfl, rfl, rfl, by decide +kernel, rfl, by decide +kernel, by decide +kernel⟩
theorem ok_looser {m : Nat} {ua : Addr} (F : Fun K "looser" "looser" sLooser f fd) (T : Tx mg) (m_UNTOLD : mg "UNTOLD" = some (.ref ua)) (k_UNTOLD : Kt K ua [.str "?"]) (c_kinds_in : Cal P w K mg base "kinds_in" ["kind"] 1 (spKi K)) (c_looser : Cal P w K mg base "looser" ["kind", "other"] (m + 1) (spLooser K m)) :
    FnOk P w K mg base CX0 (m + 2) f fd ["kind", "other"] (spLooser K (m + 1)) := by
  refine F.ok scLooser (fun vs H Q E h => ?_) (fun cdv A outer s H vs Q E hr h => ?_)
  · obtain ⟨x, y, a, b, rfl, _⟩ := h
    rfl
  obtain ⟨x, y, a, b, rfl, rx, ry, wa, wb, hm, q⟩ := h
  have nd := scLooser.nd
  obtain ⟨h, ks⟩ := a
  obtain ⟨g, ls⟩ := b
  have rx' : RK K H (.tup (.str h :: Kn.ds ks)) x := rx
  have ry' : RK K H (.tup (.str g :: Kn.ds ls)) y := ry
  obtain ⟨xa, us, rfl, ha, ru⟩ := RK.kind rx'
  obtain ⟨xb, ws, rfl, hb, rw'⟩ := RK.kind ry'
  have hm' : 1 + Kn.deps ks < m + 1 := hm
  have lu := ru.length
  have lw := rw'.length
  rw [ds_length] at lu lw
  have fa := arity_le wa.1
  have ep := loose_eq h g ks ls
  refine' ⟨_, ?n0, ?Z⟩
  case' n0 => refine' pss_cons ?n1 ?n2
  case' n1 => refine' ps_if ?n3 ?n4 ?n5
  case' n3 => refine' pt_cmpR (op_eqG hr) ?n6 ?n7 (nomark _)
  case n6 => exact pv 1
  case n7 => exact pe_gref rfl m_UNTOLD
  case' n4 => refine' pss_one ?n8
  case' n8 => refine' ps_ret ?n9
  case n9 => exact pe_bl
  case n5 => exact pss_nil
  case' n2 => refine' pss_cons ?n10 ?n11
  case' n10 => refine' ps_if ?n12 ?n13 ?n14
  case' n12 => refine' pt_cmpR (op_neG hr) ?n15 ?n16 (nomark _)
  case' n15 => refine' pe_ix ix_seq ?n17 ?n18 (fun _ _ => rfl)
  case n17 => exact pv 0
  case n18 => exact pe_int
  case' n16 => refine' pe_ix ix_seq ?n19 ?n20 (fun _ _ => rfl)
  case n19 => exact pv 1
  case n20 => exact pe_int
  case' n13 => refine' pss_one ?n21
  case' n21 => refine' ps_ret ?n22
  case n22 => exact pe_bl
  case n14 => exact pss_nil
  case' n11 => refine' pss_one ?n23
  case' n23 => refine' ps_ret ?n24
  case' n24 => refine' pe_callB (call_all rfl) rfl T.all boot_all ?n25
  case' n25 => refine' pa ?n26 ?n27
  case' n26 => refine' pe_lc (g := gTup K 2 (gCons (gName 0) (gCons (gName 1) gNil))) (k := 2) (N := ["inner", "beside", "kind", "other"]) (lc_mk rfl rfl rfl rfl rfl rfl) rfl ?n28 (fun _ _ _ _ => ?n29) (fun _ _ _ _ => ?n30) (fun _ _ _ _ => ?n31)
  case' n28 => refine' pi_zip rfl T.zip ?n32
  case' n32 => refine' pa ?n33 ?n34
  case' n33 => refine' pe_cal c_kinds_in hr ?n35
  case' n35 => refine' pa ?n36 ?n37
  case n36 => exact pv 0
  case n37 => exact pa_nil
  case' n34 => refine' pa ?n38 ?n39
  case' n38 => refine' pe_cal c_kinds_in hr ?n40
  case' n40 => refine' pa ?n41 ?n42
  case n41 => exact pv 1
  case n42 => exact pa_nil
  case n39 => exact pa_nil
  case n29 =>
    refine' pg_tup rfl ?n43
    case' n43 => refine' pgs_cons ?n44 ?n45
    case n44 => exact pg_name (i := 0) (by show List.Nodup (["inner", "beside", "kind", "other"] : List Str); decide +kernel) rfl (Or.inl rfl)
    case' n45 => refine' pgs_cons ?n46 ?n47
    case n46 => exact pg_name (i := 1) (by show List.Nodup (["inner", "beside", "kind", "other"] : List Str); decide +kernel) rfl (Or.inl rfl)
    case n47 => exact pgs_nil
  case n30 => exact pts_nil
  case n31 =>
    refine' pe_cal c_looser hr ?n48
    case' n48 => refine' pa ?n49 ?n50
    case n49 => exact pv 0
    case' n50 => refine' pa ?n51 ?n52
    case n51 => exact pv 1
    case n52 => exact pa_nil
  case n27 => exact pa_nil
  refine ⟨_, rfl, .inr (.inr ⟨_, .heads hb.sq (.inr k_UNTOLD), _, rfl, ?_⟩)⟩
  rw [q_empty wb.1 lw]
  by_cases c2 : g = "?"
  · rw [decide_eq_true c2]
    rw [ep, if_pos c2] at q
    exact iteT (q H (Old.refl _))
  rw [decide_eq_false c2]
  rw [if_neg c2] at ep
  refine iteF ?_
  refine ⟨_, rfl, .inr (.inl ⟨xa, _, 0, .str h, rfl, rfl, ha.sq, (by exact atI_nat (j := 0) rfl), _, rfl, .inr (.inl ⟨xb, _, 0, .str g, rfl, rfl, hb.sq, (by exact atI_nat (j := 0) rfl), .inr (.inl ⟨rfl, _, rfl, ?_⟩)⟩)⟩)⟩
  rw [dec_s]
  by_cases c : h = g
  · subst c
    rw [decide_eq_true rfl]
    refine iteF ?_
    rw [if_pos rfl] at ep
    rw [ep] at q
    obtain ⟨ea, wks⟩ := wa
    obtain ⟨eb, wls⟩ := wb
    refine ⟨_, rfl, _, h, Kn.ds ks, rfl, rx', fun r1 us1 H1 o1 hr1 hr1' rus1 => ⟨_, rfl, _, h, Kn.ds ls, rfl, ry'.mono o1.tm, fun r2 us2 H2 o2 hr2 hr2' rus2 => ⟨r1, r2, us1, us2, rfl, SqL.of (o2 _ _ hr1'), SqL.of hr2', fun D hD => ?_⟩⟩⟩
    have l1 := rus1.length
    have l2 := rus2.length
    rw [ds_length] at l1 l2
    have hr1H := o2 _ _ hr1'
    have rus1H := rus1.mono o2.tm
    have neD : ∀ b o, H2 b = some o → b ≠ D := fun b o e => ne_of_none e hD
    have lj := looses_length ks ls
    refine lc_by0 (n := (Kn.looses ks ls).length) (fun i σ H3 => ∃ (k1 k2 : Option V), σ = [k1, k2, some (.ref xa), some (.ref xb)] ∧ Old H2 H3 ∧ H3 D = some (.lst (((Kn.looses ks ls).take i).map V.bl))) ⟨none, none, rfl, Old.new hD, upd_same⟩ ?_ ?_ ?_ ?_
    · intro i σ H3 hi hv
      obtain ⟨k1, k2, rfl, o3, hD3⟩ := hv
      exact ⟨_, _, SqL.of (o3 _ _ hr1H), SqL.of (o3 _ _ hr2'), by omega, by omega⟩
    · intro σ H3 hv
      obtain ⟨k1, k2, rfl, o3, hD3⟩ := hv
      exact ⟨_, _, SqL.of (o3 _ _ hr1H), SqL.of (o3 _ _ hr2'), by omega⟩
    · intro i σ H3 hi hv v H4 hy
      obtain ⟨k1, k2, rfl, o3, hD3⟩ := hv
      obtain ⟨t, x, y, rfl, ht, rfl, hx, hyy⟩ := hy
      have ex := hx _ (SqL.of (o3 _ _ hr1H))
      have ey := hyy _ (SqL.of (o3 _ _ hr2'))
      have i1 : i < ks.length := by omega
      have i2 : i < ls.length := by omega
      obtain ⟨d1, e1, rd1⟩ := rus1H.getV ex
      obtain ⟨d2, e2, rd2⟩ := rus2.getV ey
      rw [ds_get i1] at e1
      rw [ds_get i2] at e2
      cases e1
      cases e2
      have o4 : Old H3 (upd H3 t (.tup [x, y])) := Old.new ht
      have o34 := o3.trans o4
      refine ⟨t, _, rfl, SqT.of upd_same, rfl, _, _, rfl, _, _, rfl, rfl, _, rfl, _, rfl, x, y, ks[i], ls[i], rfl, rd1.mono o34.tm, rd2.mono o34.tm, wfs_get i1 wks, wfs_get i2 wls, Nat.lt_of_le_of_lt (deps_get i1) (by omega), fun H5 o5 => ?_⟩
      have hD5 := o5 _ _ (o4 _ _ hD3)
      refine ⟨_, hD5, smallM (by rw [List.length_map, List.length_take]; omega), nx hi ⟨_, _, rfl, fun b o e => by rw [upd_ne (neD b o e)]; exact o5 _ _ (o34 b o e), ?_⟩⟩
      rw [upd_same, looses_take i1 i2, List.map_append]
      rfl
    · intro σ H3 hv
      obtain ⟨k1, k2, rfl, o3, hD3⟩ := hv
      rw [List.take_length] at hD3
      refine ⟨D, _, rfl, SqL.of hD3, ?_⟩
      exact q H3 ((o1.trans o2).trans o3)
  · rw [decide_eq_false c]
    rw [if_neg c] at ep
    rw [ep] at q
    exact iteT (q H (Old.refl _))
end
end L2.K81

end
section
set_option Elab.async false
set_option linter.all false
set_option maxRecDepth 100000
set_option maxHeartbeats 8000000
namespace L2.K81
open PySem PySem.Spec PyProof.Rows L2.Bw L2.Bk L2.Ex
section
variable {P : Program} {w : World} {K : PySem.W.Frag} {mg : Str → Option Value} {base : Heap} {f : Addr} {fd : FuncData}
/-! ### steps -/
noncomputable abbrev sSteps : Stmt := top 6
noncomputable def spSteps (K : PySem.W.Frag) : Sp := fun vs H Q _ => ∃ (v : V) (h : Str) (n : Nat) (ds : List Dk), vs = [v] ∧ RK K H (.tup (.str h :: ds)) v ∧ arity h = some n ∧ ∀ c, (∀ H' : Hp, SqT K H' c ((stepsOf h).map V.str)) → (∃ o, K.lookup c = some o ∧ o.cls = .type "tuple" ∧ o.dict = none) → Q (.ref c) H
theorem scSteps : FnScope ["kind"] ["kind"] (defScope sSteps) := ⟨rfl, rfl, rfl, by decide +kernel, rfl, by decide +kernel, by decide +kernel⟩
theorem ok_steps {m : Nat} {fa : Addr} (F : Fun K "steps" "steps" sSteps f fd) (m_STEPS : mg "STEPS" = some (.ref fa)) (k_STEPS : KTD.tabLook (lookN K) (fun b => K.lookup b) fa stepTab = true) : FnOk P w K mg base CX0 (m + 1) f fd ["kind"] (spSteps K) := by
  refine F.ok scSteps (fun vs H Q E h => ?_) (fun cdv A outer s H vs Q E hr h => ?_)
  · obtain ⟨v, h, n, ds, rfl, _⟩ := h
    rfl
  obtain ⟨v, h, n, ds, rfl, rv, ear, q⟩ := h
  obtain ⟨xa, us, rfl, ha, ru⟩ := RK.kind rv
  refine' ⟨_, ?n0, ?Z⟩
  case' n0 => refine' pss_one ?n1
  case' n1 => refine' ps_ret ?n2
  case' n2 => refine' pe_tabN rfl m_STEPS k_STEPS ?n3 (fun _ _ => rfl)
  case' n3 => refine' pe_ix ix_seq ?n4 ?n5 (fun _ _ => rfl)
  case n4 => exact pv 0
  case n5 => exact pe_int
  exact ⟨_, rfl, .inr (.inl ⟨xa, _, 0, .str h, rfl, rfl, ha.sq, (by exact atI_nat (j := 0) rfl), rfl, h, stepsOf h, rfl, (steps_all h (heads_of ear)).1, fun c hc ho => q c hc ho⟩)⟩
/-! ### join -/
noncomputable abbrev sJoin : Stmt := top 15
noncomputable def spJoin (K : PySem.W.Frag) (m : Nat) : Sp := fun vs H Q _ => ∃ (x y : V) (a b : Kn), vs = [x, y] ∧ RK K H a.d x ∧ RK K H b.d y ∧ a.ok ∧ b.ok ∧ a.dep < m ∧ ∀ (v : V) (H' : Hp), Old H H' → RK K H' (a.join b).d v → Q v H'
theorem scJoin : FnScope ["kind", "other"] ["kind", "other"] (defScope sJoin) := ⟨rfl, rfl, rfl, by decide +kernel, rfl, by decide +kernel, by decide +kernel⟩
theorem ok_join {m : Nat} {ua : Addr} (F : Fun K "join" "join" sJoin f fd) (T : Tx mg) (m_UNTOLD : mg "UNTOLD" = some (.ref ua)) (k_UNTOLD : Kt K ua [.str "?"]) (c_kinds_in : Cal P w K mg base "kinds_in" ["kind"] 1 (spKi K)) (c_with_kinds : Cal P w K mg base "with_kinds" ["kind", "some"] 1 (spWk K)) (c_join : Cal P w K mg base "join" ["kind", "other"] (m + 1) (spJoin K m)) :
    FnOk P w K mg base CX0 (m + 2) f fd ["kind", "other"] (spJoin K (m + 1)) := by
  refine F.ok scJoin (fun vs H Q E h => ?_) (fun cdv A outer s H vs Q E hr h => ?_)
  · obtain ⟨x, y, a, b, rfl, _⟩ := h
    rfl
  obtain ⟨x, y, a, b, rfl, rx, ry, oka, okb, hm, q⟩ := h
  have nd := scJoin.nd
  obtain ⟨h, ks⟩ := a
  obtain ⟨g, ls⟩ := b
  have rx' : RK K H (.tup (.str h :: Kn.ds ks)) x := rx
  have ry' : RK K H (.tup (.str g :: Kn.ds ls)) y := ry
  obtain ⟨xa, us, rfl, ha, ru⟩ := RK.kind rx'
  obtain ⟨xb, ws, rfl, hb, rw'⟩ := RK.kind ry'
  have hm' : 1 + Kn.deps ks < m + 1 := hm
  obtain ⟨fa, okas⟩ := oka
  obtain ⟨fb, okbs⟩ := okb
  refine' ⟨_, ?n0, ?Z⟩
  case' n0 => refine' pss_cons ?n1 ?n2
  case' n1 => refine' ps_if ?n3 ?n4 ?n5
  case' n3 => refine' pt_cmpR (op_neG hr) ?n6 ?n7 (nomark _)
  case' n6 => refine' pe_ix ix_seq ?n8 ?n9 (fun _ _ => rfl)
  case n8 => exact pv 0
  case n9 => exact pe_int
  case' n7 => refine' pe_ix ix_seq ?n10 ?n11 (fun _ _ => rfl)
  case n10 => exact pv 1
  case n11 => exact pe_int
  case' n4 => refine' pss_one ?n12
  case' n12 => refine' ps_ret ?n13
  case n13 => exact pe_gref rfl m_UNTOLD
  case n5 => exact pss_nil
  case' n2 => refine' pss_one ?n14
  case' n14 => refine' ps_ret ?n15
  case' n15 => refine' pe_cal c_with_kinds hr ?n16
  case' n16 => refine' pa ?n17 ?n18
  case n17 => exact pv 0
  case' n18 => refine' pa ?n19 ?n20
  case' n19 => refine' pe_lc (g := gTup K 2 (gCons (gName 0) (gCons (gName 1) gNil))) (k := 2) (N := ["inner", "beside", "kind", "other"]) (lc_mk rfl rfl rfl rfl rfl rfl) rfl ?n21 (fun _ _ _ _ => ?n22) (fun _ _ _ _ => ?n23) (fun _ _ _ _ => ?n24)
  case' n21 => refine' pi_zip rfl T.zip ?n25
  case' n25 => refine' pa ?n26 ?n27
  case' n26 => refine' pe_cal c_kinds_in hr ?n28
  case' n28 => refine' pa ?n29 ?n30
  case n29 => exact pv 0
  case n30 => exact pa_nil
  case' n27 => refine' pa ?n31 ?n32
  case' n31 => refine' pe_cal c_kinds_in hr ?n33
  case' n33 => refine' pa ?n34 ?n35
  case n34 => exact pv 1
  case n35 => exact pa_nil
  case n32 => exact pa_nil
  case n22 =>
    refine' pg_tup rfl ?n36
    case' n36 => refine' pgs_cons ?n37 ?n38
    case n37 => exact pg_name (i := 0) (by show List.Nodup (["inner", "beside", "kind", "other"] : List Str); decide +kernel) rfl (Or.inl rfl)
    case' n38 => refine' pgs_cons ?n39 ?n40
    case n39 => exact pg_name (i := 1) (by show List.Nodup (["inner", "beside", "kind", "other"] : List Str); decide +kernel) rfl (Or.inl rfl)
    case n40 => exact pgs_nil
  case n23 => exact pts_nil
  case n24 =>
    refine' pe_cal c_join hr ?n41
    case' n41 => refine' pa ?n42 ?n43
    case n42 => exact pv 0
    case' n43 => refine' pa ?n44 ?n45
    case n44 => exact pv 1
    case n45 => exact pa_nil
  case n20 => exact pa_nil
  refine ⟨_, rfl, .inr (.inl ⟨xa, _, 0, .str h, rfl, rfl, ha.sq, (by exact atI_nat (j := 0) rfl), _, rfl, .inr (.inl ⟨xb, _, 0, .str g, rfl, rfl, hb.sq, (by exact atI_nat (j := 0) rfl), .inr (.inl ⟨rfl, _, rfl, ?_⟩)⟩)⟩)⟩
  rw [dec_s]
  by_cases c : h = g
  · subst c
    rw [decide_eq_true rfl]
    refine iteF ?_
    have ej : (Kn.mk h ks).join (.mk h ls) = .mk h (Kn.joins ks ls) := if_pos rfl
    rw [ej] at q
    refine ⟨_, rfl, _, rfl, _, h, Kn.ds ks, rfl, rx', fun r1 us1 H1 o1 hr1 hr1' rus1 => ⟨_, rfl, _, h, Kn.ds ls, rfl, ry'.mono o1.tm, fun r2 us2 H2 o2 hr2 hr2' rus2 => ⟨r1, r2, us1, us2, rfl, SqL.of (o2 _ _ hr1'), SqL.of hr2', fun D hD => ?_⟩⟩⟩
    have l1 := rus1.length
    have l2 := rus2.length
    rw [ds_length] at l1 l2
    have hr1H := o2 _ _ hr1'
    have rus1H := rus1.mono o2.tm
    have neD : ∀ b o, H2 b = some o → b ≠ D := fun b o e => ne_of_none e hD
    have lj := joins_length ks ls
    refine lc_by0 (n := (Kn.joins ks ls).length) (fun i σ H3 => ∃ (k1 k2 : Option V) (zs : List V), σ = [k1, k2, some (.ref xa), some (.ref xb)] ∧ Old H2 H3 ∧ H3 D = some (.lst zs) ∧ RKs K H3 (Kn.ds ((Kn.joins ks ls).take i)) zs) ⟨none, none, [], rfl, Old.new hD, upd_same, rfl⟩ ?_ ?_ ?_ ?_
    · intro i σ H3 hi hv
      obtain ⟨k1, k2, zs, rfl, o3, hD3, rz⟩ := hv
      exact ⟨_, _, SqL.of (o3 _ _ hr1H), SqL.of (o3 _ _ hr2'), by omega, by omega⟩
    · intro σ H3 hv
      obtain ⟨k1, k2, zs, rfl, o3, hD3, rz⟩ := hv
      exact ⟨_, _, SqL.of (o3 _ _ hr1H), SqL.of (o3 _ _ hr2'), by omega⟩
    · intro i σ H3 hi hv v H4 hy
      obtain ⟨k1, k2, zs, rfl, o3, hD3, rz⟩ := hv
      obtain ⟨t, x, y, rfl, ht, rfl, hx, hyy⟩ := hy
      have ex := hx _ (SqL.of (o3 _ _ hr1H))
      have ey := hyy _ (SqL.of (o3 _ _ hr2'))
      have i1 : i < ks.length := by omega
      have i2 : i < ls.length := by omega
      obtain ⟨d1, e1, rd1⟩ := rus1H.getV ex
      obtain ⟨d2, e2, rd2⟩ := rus2.getV ey
      rw [ds_get i1] at e1
      rw [ds_get i2] at e2
      cases e1
      cases e2
      have o4 : Old H3 (upd H3 t (.tup [x, y])) := Old.new ht
      have o34 := o3.trans o4
      have lz := rz.length
      rw [ds_length, List.length_take] at lz
      refine ⟨t, _, rfl, SqT.of upd_same, rfl, _, _, rfl, _, _, rfl, rfl, _, rfl, _, rfl, x, y, ks[i], ls[i], rfl, rd1.mono o34.tm, rd2.mono o34.tm, oks_get i1 okas, oks_get i2 okbs, Nat.lt_of_le_of_lt (deps_get i1) (by omega), fun v H5 o5 rv => ?_⟩
      have hD5 := o5 _ _ (o4 _ _ hD3)
      have tm : Tm H5 (upd H5 D (.lst (zs ++ [v]))) := fun b xs e => by
        rw [upd_ne]
        · exact e
        · intro z
          rw [z, hD5] at e
          cases e
      refine ⟨_, hD5, smallM (by omega), nx hi ⟨_, _, _, rfl, fun b o e => by rw [upd_ne (neD b o e)]; exact o5 _ _ (o34 b o e), upd_same, ?_⟩⟩
      rw [joins_take i1 i2, ds_append]
      exact ((rz.mono (o4.trans o5).tm).mono tm).append (.cons (rv.mono tm) .nil)
    · intro σ H3 hv
      obtain ⟨k1, k2, zs, rfl, o3, hD3, rz⟩ := hv
      rw [List.take_length] at rz
      refine ⟨_, D, h, Kn.ds ks, Kn.ds (Kn.joins ks ls), zs, rfl, rx'.mono ((o1.trans o2).trans o3).tm, hD3, rz, by rw [ds_length]; omega, fun v' H' o' r' => ?_⟩
      exact q v' H' (((o1.trans o2).trans o3).trans o') r'
  · rw [decide_eq_false c]
    refine iteT ?_
    have ej : (Kn.mk h ks).join (.mk g ls) = qK := if_neg c
    rw [ej] at q
    exact q (.ref ua) H (Old.refl _) (RK.tup (.inr k_UNTOLD) (.cons (.s _) .nil))
/-! ### parting -/
noncomputable abbrev sParting : Stmt := top 11
noncomputable def spParting (K : PySem.W.Frag) (m : Nat) : Sp := fun vs H Q _ => ∃ (x y : V) (a b : Kn), vs = [x, y] ∧ RK K H a.d x ∧ RK K H b.d y ∧ a.wf ∧ b.wf ∧ a.dep < m ∧ a.dep ≤ 8 ∧ ∀ (v : V) (H' : Hp), Old H H' → RK K H' (od (a.part b)) v → Q v H'
theorem scParting : FnScope ["kind", "other", "step", "inner", "beside", "way"] ["kind", "other"] (defScope sParting) := ⟨rfl, rfl, rfl, by decide +kernel, rfl, by decide +kernel, by decide +kernel⟩
theorem ok_parting {m : Nat} {ua : Addr} (F : Fun K "parting" "parting" sParting f fd) (T : Tx mg) (m_UNTOLD : mg "UNTOLD" = some (.ref ua)) (k_UNTOLD : Kt K ua [.str "?"]) (c_steps : Cal P w K mg base "steps" ["kind"] 1 (spSteps K)) (c_kinds_in : Cal P w K mg base "kinds_in" ["kind"] 1 (spKi K)) (c_parting : Cal P w K mg base "parting" ["kind", "other"] (m + 1) (spParting K m)) :
    FnOk P w K mg base CX0 (m + 2) f fd ["kind", "other"] (spParting K (m + 1)) := by
  refine F.ok scParting (fun vs H Q E h => ?_) (fun cdv A outer s H vs Q E hr h => ?_)
  · obtain ⟨x, y, a, b, rfl, _⟩ := h
    rfl
  obtain ⟨x, y, a, b, rfl, rx, ry, wa, wb, hm, h8, q⟩ := h
  have nd := scParting.nd
  obtain ⟨h, ks⟩ := a
  obtain ⟨g, ls⟩ := b
  have rx' : RK K H (.tup (.str h :: Kn.ds ks)) x := rx
  have ry' : RK K H (.tup (.str g :: Kn.ds ls)) y := ry
  obtain ⟨xa, us, rfl, ha, ru⟩ := RK.kind rx'
  obtain ⟨xb, ws, rfl, hb, rw'⟩ := RK.kind ry'
  have hm' : 1 + Kn.deps ks < m + 1 := hm
  have h8' : 1 + Kn.deps ks ≤ 8 := h8
  obtain ⟨ea, wks⟩ := wa
  obtain ⟨eb, wls⟩ := wb
  have lu := ru.length
  have lw := rw'.length
  rw [ds_length] at lu lw
  have ep : (Kn.mk h ks).part (.mk g ls) = if h = "?" then none else if g = "?" then none else if h = g then Kn.parts (stepsOf h) ks ls else some [] := rfl
  refine' ⟨_, ?n0, ?Z⟩
  case' n0 => refine' pss_cons ?n1 ?n2
  case' n1 => refine' ps_if ?n3 ?n4 ?n5
  case' n3 => refine' PW.pt ?n6
  case' n6 => refine' pw_or ?n7 ?n8
  case' n7 => refine' pt_cmpR (op_eqG hr) ?n9 ?n10 (nomark _)
  case n9 => exact pv 0
  case n10 => exact pe_gref rfl m_UNTOLD
  case' n8 => refine' pw_or1 ?n11
  case' n11 => refine' pt_cmpR (op_eqG hr) ?n12 ?n13 (nomark _)
  case n12 => exact pv 1
  case n13 => exact pe_gref rfl m_UNTOLD
  case' n4 => refine' pss_one ?n14
  case' n14 => refine' ps_ret ?n15
  case n15 => exact pe_non
  case n5 => exact pss_nil
  case' n2 => refine' pss_cons ?n16 ?n17
  case' n16 => refine' ps_if ?n18 ?n19 ?n20
  case' n18 => refine' pt_cmpR (op_neG hr) ?n21 ?n22 (nomark _)
  case' n21 => refine' pe_ix ix_seq ?n23 ?n24 (fun _ _ => rfl)
  case n23 => exact pv 0
  case n24 => exact pe_int
  case' n22 => refine' pe_ix ix_seq ?n25 ?n26 (fun _ _ => rfl)
  case n25 => exact pv 1
  case n26 => exact pe_int
  case' n19 => refine' pss_one ?n27
  case' n27 => refine' ps_ret ?n28
  case' n28 => refine' pe_tup ?n29
  case n29 => exact pa_nil
  case n20 => exact pss_nil
  case' n17 => refine' pss_cons ?n30 ?n31
  case' n30 => refine' ps_for PassesOwn.never rfl ?n32 ?n33 ?n34
  case' n32 => refine' pi_zip3 rfl T.zip ?n35
  case' n35 => refine' pa ?n36 ?n37
  case' n36 => refine' pe_cal c_steps hr ?n38
  case' n38 => refine' pa ?n39 ?n40
  case n39 => exact pv 0
  case n40 => exact pa_nil
  case' n37 => refine' pa ?n41 ?n42
  case' n41 => refine' pe_cal c_kinds_in hr ?n43
  case' n43 => refine' pa ?n44 ?n45
  case n44 => exact pv 0
  case n45 => exact pa_nil
  case' n42 => refine' pa ?n46 ?n47
  case' n46 => refine' pe_cal c_kinds_in hr ?n48
  case' n48 => refine' pa ?n49 ?n50
  case n49 => exact pv 1
  case n50 => exact pa_nil
  case n47 => exact pa_nil
  case' n33 => refine' pg_tup rfl ?n51
  case' n51 => refine' pgs_cons ?n52 ?n53
  case n52 => exact pg_name (i := 2) nd rfl (Or.inl rfl)
  case' n53 => refine' pgs_cons ?n54 ?n55
  case n54 => exact pg_name (i := 3) nd rfl (Or.inl rfl)
  case' n55 => refine' pgs_cons ?n56 ?n57
  case n56 => exact pg_name (i := 4) nd rfl (Or.inl rfl)
  case n57 => exact pgs_nil
  case' n34 => refine' pss_cons ?n58 ?n59
  case' n58 => refine' ps_setX (i := 5) nd rfl (Or.inl rfl) rfl (by first | exact .inl rfl | exact .inr rfl) ?n60
  case' n60 => refine' pe_cal c_parting hr ?n61
  case' n61 => refine' pa ?n62 ?n63
  case n62 => exact pv 3
  case' n63 => refine' pa ?n64 ?n65
  case n64 => exact pv 4
  case n65 => exact pa_nil
  case' n59 => refine' pss_one ?n66
  case' n66 => refine' ps_if ?n67 ?n68 ?n69
  case' n67 => refine' pt_cmpR op_notN ?n70 ?n71 (nomark _)
  case n70 => exact pv 5
  case n71 => exact pe_non
  case' n68 => refine' pss_one ?n72
  case' n72 => refine' ps_ret ?n73
  case' n73 => refine' pe_op op_addG ?n74 ?n75
  case' n74 => refine' pe_tup ?n76
  case' n76 => refine' pa ?n77 ?n78
  case n77 => exact pv 2
  case n78 => exact pa_nil
  case n75 => exact pv 5
  case n69 => exact pss_nil
  case' n31 => refine' pss_one ?n79
  case' n79 => refine' ps_ret ?n80
  case n80 => exact pe_non
  refine ⟨_, rfl, .inr (.inr ⟨_, .heads ha.sq (Tp.sq (.inr k_UNTOLD)), _, rfl, ?_⟩)⟩
  rw [q_empty ea lu]
  by_cases c1 : h = "?"
  · rw [decide_eq_true c1]
    rw [ep, if_pos c1] at q
    exact iteT (iteT (q .non H (Old.refl _) .n))
  rw [decide_eq_false c1]
  rw [if_neg c1] at ep
  refine iteF ?_
  refine ⟨_, rfl, .inr (.inr ⟨_, .heads hb.sq (Tp.sq (.inr k_UNTOLD)), _, rfl, ?_⟩)⟩
  rw [q_empty eb lw]
  by_cases c2 : g = "?"
  · rw [decide_eq_true c2]
    rw [ep, if_pos c2] at q
    exact iteT (q .non H (Old.refl _) .n)
  rw [decide_eq_false c2]
  rw [if_neg c2] at ep
  refine iteF ?_
  refine ⟨_, rfl, .inr (.inl ⟨xa, _, 0, .str h, rfl, rfl, ha.sq, (by exact atI_nat (j := 0) rfl), _, rfl, .inr (.inl ⟨xb, _, 0, .str g, rfl, rfl, hb.sq, (by exact atI_nat (j := 0) rfl), .inr (.inl ⟨rfl, _, rfl, ?_⟩)⟩)⟩)⟩
  rw [dec_s]
  by_cases c : h = g
  · subst c
    rw [decide_eq_true rfl]
    refine iteF ?_
    rw [if_pos rfl] at ep
    rw [ep] at q
    have el : ks.length = ls.length := by rw [ea] at eb; exact Option.some.inj eb
    have es := steps_len ea
    refine ⟨_, rfl, _, h, _, Kn.ds ks, rfl, rx', ea, fun c0 hcO hcT => ?_⟩
    refine ⟨_, rfl, _, h, Kn.ds ks, rfl, rx', fun r1 us1 H1 o1 hr1 hr1' rus1 => ⟨_, rfl, _, h, Kn.ds ls, rfl, ry'.mono o1.tm, fun r2 us2 H2 o2 hr2 hr2' rus2 => ⟨c0, r1, r2, _, us1, us2, rfl, hcO _, SqL.of (o2 _ _ hr1'), SqL.of hr2', ?_⟩⟩⟩
    have l1 := rus1.length
    have l2 := rus2.length
    rw [ds_length] at l1 l2
    have hr1H := o2 _ _ hr1'
    have rus1H := rus1.mono o2.tm
    have o12 := o1.trans o2
    refine for_by (n := ks.length) (fun i σ H3 => ∃ (k1 k2 k3 k4 : Option V), σ = [some (.ref xa), some (.ref xb), k1, k2, k3, k4] ∧ Old H2 H3 ∧ Kn.parts (stepsOf h) ks ls = Kn.parts ((stepsOf h).drop i) (ks.drop i) (ls.drop i)) ⟨none, none, none, none, rfl, Old.refl _, rfl⟩ ?_ ?_ ?_ ?_
    · intro i σ H3 hi hv
      obtain ⟨k1, k2, k3, k4, rfl, o3, e3⟩ := hv
      exact ⟨_, _, _, hcO _, SqL.of (o3 _ _ hr1H), SqL.of (o3 _ _ hr2'), by rw [List.length_map]; omega, by omega, by omega⟩
    · intro σ H3 hv
      obtain ⟨k1, k2, k3, k4, rfl, o3, e3⟩ := hv
      exact ⟨_, _, _, hcO _, SqL.of (o3 _ _ hr1H), SqL.of (o3 _ _ hr2'), by rw [List.length_map]; omega⟩
    · intro i σ H3 hi hv v H4 hy
      obtain ⟨k1, k2, k3, k4, rfl, o3, e3⟩ := hv
      obtain ⟨t, u, x, y, rfl, ht, rfl, hu, hx, hyy⟩ := hy
      have i0 : i < (stepsOf h).length := by omega
      have i2 : i < ls.length := by omega
      have eu := hu _ (hcO _)
      rw [List.getElem?_map, List.getElem?_eq_getElem i0] at eu
      cases eu
      have ex := hx _ (SqL.of (o3 _ _ hr1H))
      have ey := hyy _ (SqL.of (o3 _ _ hr2'))
      obtain ⟨d1, e1, rd1⟩ := rus1H.getV ex
      obtain ⟨d2, e2, rd2⟩ := rus2.getV ey
      rw [ds_get hi] at e1
      rw [ds_get i2] at e2
      cases e1
      cases e2
      have o4 := Old.new (o := .tup [.str (stepsOf h)[i], x, y]) ht
      have o34 := o3.trans o4
      have dg := deps_get hi
      refine ⟨t, _, rfl, SqT.of upd_same, rfl, _, _, rfl, _, _, rfl, _, _, rfl, rfl, ?_⟩
      refine ⟨_, rfl, _, rfl, x, y, ks[i], ls[i], rfl, rd1.mono o34.tm, rd2.mono o34.tm, wfs_get hi wks, wfs_get i2 wls, by omega, by omega, fun wv H5 o5 rv => ?_⟩
      have pd' := parts_drop i0 hi i2
      rw [← e3] at pd'
      refine ⟨_, rfl, rfl, _, rfl, ?_⟩
      cases hp : ks[i].part ls[i] with
      | none =>
        rw [hp] at rv pd'
        cases (show wv = .non by rw [od, RK] at rv; exact rv)
        exact iteF ⟨_, _, _, _, rfl, o34.trans o5, pd'⟩
      | some w0 =>
        rw [hp] at rv pd'
        obtain ⟨wa', wvs, rfl, hwa, rws⟩ := RK.get (show RK K H5 (.tup (w0.map Dk.str)) wv from rv)
        refine iteT ?_
        have lw0 := rws.length
        rw [List.length_map] at lw0
        have hmem : w0 ∈ ks[i].ways ls[i] := by
          have e := part_ways ks[i] ls[i]
          rw [hp] at e
          cases hw : ks[i].ways ls[i] with
          | nil => rw [hw] at e; cases e
          | cons w1 r1 => rw [hw] at e; cases e; exact List.mem_cons_self
        have sh := way_short _ _ _ hmem
        refine ⟨_, rfl, by show 1 ≤ sizeLine; decide, fun p6 hp6 => ⟨_, rfl, ?_⟩⟩
        have o6 := Old.new (o := .tup [.str (stepsOf h)[i]]) hp6
        refine .inr (addT (cat_k (ds := [.str (stepsOf h)[i]]) (.of upd_same) (hwa.mono o6.tm) (.cons (.s _) .nil) (rws.mono o6.tm) (by simp) (by simp; omega) fun c7 H7 o7 r7 => ?_))
        refine q (.ref c7) H7 ((((o12.trans o34).trans o5).trans o6).trans o7) ?_
        rw [pd']
        exact r7
    · intro σ H3 hv
      obtain ⟨k1, k2, k3, k4, rfl, o3, e3⟩ := hv
      refine q .non H3 (o12.trans o3) ?_
      rw [e3, ← es, List.drop_length, Kn.parts]
      exact .n
  · rw [decide_eq_false c]
    refine iteT ?_
    rw [if_neg c] at ep
    rw [ep] at q
    refine ⟨by show 0 ≤ sizeLine; decide, fun p hp => ?_⟩
    exact q (.ref p) _ (Old.new hp) (RK.tup (.of upd_same) .nil)
/-! ### same -/
noncomputable abbrev sSame : Stmt := top 10
noncomputable def spSame (K : PySem.W.Frag) : Sp := fun vs H Q _ => ∃ (x y : V) (a b : Kn), vs = [x, y] ∧ RK K H a.d x ∧ RK K H b.d y ∧ a.wf ∧ b.wf ∧ a.dep ≤ 7 ∧ ∀ (H' : Hp), Old H H' → Q (.bl (a.part b).isNone) H'
theorem scSame : FnScope ["kind", "other"] ["kind", "other"] (defScope sSame) := ⟨rfl, rfl, rfl, by decide +kernel, rfl, by decide +kernel, by decide +kernel⟩
theorem od_none {H : Hp} {o : Option (List Str)} {v : V} (h : RK K H (od o) v) : decide (v = .non) = o.isNone := by
  cases o with
  | none => cases (show v = .non by rw [od, RK] at h; exact h); rfl
  | some w0 =>
    obtain ⟨a, us, rfl, _⟩ := RK.get (show RK K H (.tup (w0.map Dk.str)) v from h)
    rfl
theorem ok_same {m : Nat} (F : Fun K "same" "same" sSame f fd) (T : Tx mg) (c_parting : Cal P w K mg base "parting" ["kind", "other"] 9 (spParting K 8)) : FnOk P w K mg base CX0 (m + 10) f fd ["kind", "other"] (spSame K) := by
  refine F.ok scSame (fun vs H Q E h => ?_) (fun cdv A outer s H vs Q E hr h => ?_)
  · obtain ⟨x, y, a, b, rfl, _⟩ := h
    rfl
  obtain ⟨x, y, a, b, rfl, rx, ry, wa, wb, h7, q⟩ := h
  refine' ⟨_, ?n0, ?Z⟩
  case' n0 => refine' pss_one ?n1
  case' n1 => refine' ps_ret ?n2
  case' n2 => refine' pe_cmpR op_isN ?n3 ?n4 (nomark _)
  case' n3 => refine' pe_cal c_parting hr ?n5
  case' n5 => refine' pa ?n6 ?n7
  case n6 => exact pv 0
  case' n7 => refine' pa ?n8 ?n9
  case n8 => exact pv 1
  case n9 => exact pa_nil
  case n4 => exact pe_non
  refine ⟨_, rfl, _, rfl, x, y, a, b, rfl, rx, ry, wa, wb, by omega, by omega, fun v H1 o1 rv => ⟨rfl, ?_⟩⟩
  rw [od_none rv]
  exact q H1 o1
/-! ### both_told -/
noncomputable abbrev sBoth : Stmt := top 14
noncomputable def spBoth (K : PySem.W.Frag) (m : Nat) : Sp := fun vs H Q _ => ∃ (x y : V) (a b : Kn), vs = [x, y] ∧ RK K H a.d x ∧ RK K H b.d y ∧ a.wf ∧ b.wf ∧ a.part b = none ∧ a.dep < m ∧ ∀ (v : V) (H' : Hp), Old H H' → RK K H' (a.both b).d v → Q v H'
theorem scBoth : FnScope ["kind", "other"] ["kind", "other"] (defScope sBoth) := ⟨rfl, rfl, rfl, by decide +kernel, rfl, by decide +kernel, by decide +kernel⟩
theorem ok_both {m : Nat} {ua : Addr} (F : Fun K "both_told" "both_told" sBoth f fd) (T : Tx mg) (m_UNTOLD : mg "UNTOLD" = some (.ref ua)) (k_UNTOLD : Kt K ua [.str "?"]) (c_kinds_in : Cal P w K mg base "kinds_in" ["kind"] 1 (spKi K)) (c_with_kinds : Cal P w K mg base "with_kinds" ["kind", "some"] 1 (spWk K)) (c_both_told : Cal P w K mg base "both_told" ["kind", "other"] (m + 1) (spBoth K m)) :
    FnOk P w K mg base CX0 (m + 2) f fd ["kind", "other"] (spBoth K (m + 1)) := by
  refine F.ok scBoth (fun vs H Q E h => ?_) (fun cdv A outer s H vs Q E hr h => ?_)
  · obtain ⟨x, y, a, b, rfl, _⟩ := h
    rfl
  obtain ⟨x, y, a, b, rfl, rx, ry, wa, wb, hpn, hm, q⟩ := h
  have nd := scBoth.nd
  obtain ⟨h, ks⟩ := a
  obtain ⟨g, ls⟩ := b
  have rx' : RK K H (.tup (.str h :: Kn.ds ks)) x := rx
  have ry' : RK K H (.tup (.str g :: Kn.ds ls)) y := ry
  obtain ⟨xa, us, rfl, ha, ru⟩ := RK.kind rx'
  obtain ⟨xb, ws, rfl, hb, rw'⟩ := RK.kind ry'
  have hm' : 1 + Kn.deps ks < m + 1 := hm
  have lu := ru.length
  have lw := rw'.length
  rw [ds_length] at lu lw
  have ep := both_eq h g ks ls
  refine' ⟨_, ?n0, ?Z⟩
  case' n0 => refine' pss_cons ?n1 ?n2
  case' n1 => refine' ps_if ?n3 ?n4 ?n5
  case' n3 => refine' pt_cmpR (op_eqG hr) ?n6 ?n7 (nomark _)
  case n6 => exact pv 0
  case n7 => exact pe_gref rfl m_UNTOLD
  case' n4 => refine' pss_one ?n8
  case' n8 => refine' ps_ret ?n9
  case n9 => exact pv 1
  case n5 => exact pss_nil
  case' n2 => refine' pss_cons ?n10 ?n11
  case' n10 => refine' ps_if ?n12 ?n13 ?n14
  case' n12 => refine' pt_cmpR (op_eqG hr) ?n15 ?n16 (nomark _)
  case n15 => exact pv 1
  case n16 => exact pe_gref rfl m_UNTOLD
  case' n13 => refine' pss_one ?n17
  case' n17 => refine' ps_ret ?n18
  case n18 => exact pv 0
  case n14 => exact pss_nil
  case' n11 => refine' pss_one ?n19
  case' n19 => refine' ps_ret ?n20
  case' n20 => refine' pe_cal c_with_kinds hr ?n21
  case' n21 => refine' pa ?n22 ?n23
  case n22 => exact pv 0
  case' n23 => refine' pa ?n24 ?n25
  case' n24 => refine' pe_lc (g := gTup K 2 (gCons (gName 0) (gCons (gName 1) gNil))) (k := 2) (N := ["inner", "beside", "kind", "other"]) (lc_mk rfl rfl rfl rfl rfl rfl) rfl ?n26 (fun _ _ _ _ => ?n27) (fun _ _ _ _ => ?n28) (fun _ _ _ _ => ?n29)
  case' n26 => refine' pi_zip rfl T.zip ?n30
  case' n30 => refine' pa ?n31 ?n32
  case' n31 => refine' pe_cal c_kinds_in hr ?n33
  case' n33 => refine' pa ?n34 ?n35
  case n34 => exact pv 0
  case n35 => exact pa_nil
  case' n32 => refine' pa ?n36 ?n37
  case' n36 => refine' pe_cal c_kinds_in hr ?n38
  case' n38 => refine' pa ?n39 ?n40
  case n39 => exact pv 1
  case n40 => exact pa_nil
  case n37 => exact pa_nil
  case n27 =>
    refine' pg_tup rfl ?n41
    case' n41 => refine' pgs_cons ?n42 ?n43
    case n42 => exact pg_name (i := 0) (by show List.Nodup (["inner", "beside", "kind", "other"] : List Str); decide +kernel) rfl (Or.inl rfl)
    case' n43 => refine' pgs_cons ?n44 ?n45
    case n44 => exact pg_name (i := 1) (by show List.Nodup (["inner", "beside", "kind", "other"] : List Str); decide +kernel) rfl (Or.inl rfl)
    case n45 => exact pgs_nil
  case n28 => exact pts_nil
  case n29 =>
    refine' pe_cal c_both_told hr ?n46
    case' n46 => refine' pa ?n47 ?n48
    case n47 => exact pv 0
    case' n48 => refine' pa ?n49 ?n50
    case n49 => exact pv 1
    case n50 => exact pa_nil
  case n25 => exact pa_nil
  refine ⟨_, rfl, .inr (.inr ⟨_, .heads ha.sq (.inr k_UNTOLD), _, rfl, ?_⟩)⟩
  rw [q_empty wa.1 lu]
  by_cases c1 : h = "?"
  · rw [decide_eq_true c1]
    rw [ep, if_pos c1] at q
    exact iteT ⟨_, rfl, q _ H (Old.refl _) ry⟩
  rw [decide_eq_false c1]
  refine iteF ?_
  refine ⟨_, rfl, .inr (.inr ⟨_, .heads hb.sq (.inr k_UNTOLD), _, rfl, ?_⟩)⟩
  rw [q_empty wb.1 lw]
  by_cases c2 : g = "?"
  · rw [decide_eq_true c2]
    rw [ep, if_neg c1, if_pos c2] at q
    exact iteT ⟨_, rfl, q _ H (Old.refl _) rx⟩
  rw [decide_eq_false c2]
  refine iteF ?_
  rw [ep, if_neg c1, if_neg c2] at q
  obtain ⟨eh, el, ft⟩ := part_inv wa wb hpn c1 c2
  subst eh
  obtain ⟨ea, wks⟩ := wa
  obtain ⟨eb, wls⟩ := wb
  have fa := arity_le ea
  refine ⟨_, rfl, _, rfl, _, h, Kn.ds ks, rfl, rx', fun r1 us1 H1 o1 hr1 hr1' rus1 => ⟨_, rfl, _, h, Kn.ds ls, rfl, ry'.mono o1.tm, fun r2 us2 H2 o2 hr2 hr2' rus2 => ⟨r1, r2, us1, us2, rfl, SqL.of (o2 _ _ hr1'), SqL.of hr2', fun D hD => ?_⟩⟩⟩
  have l1 := rus1.length
  have l2 := rus2.length
  rw [ds_length] at l1 l2
  have hr1H := o2 _ _ hr1'
  have rus1H := rus1.mono o2.tm
  have neD : ∀ b o, H2 b = some o → b ≠ D := fun b o e => ne_of_none e hD
  have lj := boths_length ks ls
  refine lc_by0 (n := (Kn.boths ks ls).length) (fun i σ H3 => ∃ (k1 k2 : Option V) (zs : List V), σ = [k1, k2, some (.ref xa), some (.ref xb)] ∧ Old H2 H3 ∧ H3 D = some (.lst zs) ∧ RKs K H3 (Kn.ds ((Kn.boths ks ls).take i)) zs) ⟨none, none, [], rfl, Old.new hD, upd_same, rfl⟩ ?_ ?_ ?_ ?_
  · intro i σ H3 hi hv
    obtain ⟨k1, k2, zs, rfl, o3, hD3, rz⟩ := hv
    exact ⟨_, _, SqL.of (o3 _ _ hr1H), SqL.of (o3 _ _ hr2'), by omega, by omega⟩
  · intro σ H3 hv
    obtain ⟨k1, k2, zs, rfl, o3, hD3, rz⟩ := hv
    exact ⟨_, _, SqL.of (o3 _ _ hr1H), SqL.of (o3 _ _ hr2'), by omega⟩
  · intro i σ H3 hi hv v H4 hy
    obtain ⟨k1, k2, zs, rfl, o3, hD3, rz⟩ := hv
    obtain ⟨t, x, y, rfl, ht, rfl, hx, hyy⟩ := hy
    have ex := hx _ (SqL.of (o3 _ _ hr1H))
    have ey := hyy _ (SqL.of (o3 _ _ hr2'))
    have i1 : i < ks.length := by omega
    have i2 : i < ls.length := by omega
    obtain ⟨d1, e1, rd1⟩ := rus1H.getV ex
    obtain ⟨d2, e2, rd2⟩ := rus2.getV ey
    rw [ds_get i1] at e1
    rw [ds_get i2] at e2
    cases e1
    cases e2
    have o4 : Old H3 (upd H3 t (.tup [x, y])) := Old.new ht
    have o34 := o3.trans o4
    have lz := rz.length
    rw [ds_length, List.length_take] at lz
    refine ⟨t, _, rfl, SqT.of upd_same, rfl, _, _, rfl, _, _, rfl, rfl, _, rfl, _, rfl, x, y, ks[i], ls[i], rfl, rd1.mono o34.tm, rd2.mono o34.tm, wfs_get i1 wks, wfs_get i2 wls, fits_get i1 i2 ft, Nat.lt_of_le_of_lt (deps_get i1) (by omega), fun v H5 o5 rv => ?_⟩
    have hD5 := o5 _ _ (o4 _ _ hD3)
    have tm : Tm H5 (upd H5 D (.lst (zs ++ [v]))) := fun b xs e => by
      rw [upd_ne]
      · exact e
      · intro z
        rw [z, hD5] at e
        cases e
    refine ⟨_, hD5, smallM (by omega), nx hi ⟨_, _, _, rfl, fun b o e => by rw [upd_ne (neD b o e)]; exact o5 _ _ (o34 b o e), upd_same, ?_⟩⟩
    rw [boths_take i1 i2, ds_append]
    exact ((rz.mono (o4.trans o5).tm).mono tm).append (.cons (rv.mono tm) .nil)
  · intro σ H3 hv
    obtain ⟨k1, k2, zs, rfl, o3, hD3, rz⟩ := hv
    rw [List.take_length] at rz
    refine ⟨_, D, h, Kn.ds ks, Kn.ds (Kn.boths ks ls), zs, rfl, rx'.mono ((o1.trans o2).trans o3).tm, hD3, rz, by rw [ds_length]; omega, fun v' H' o' r' => ?_⟩
    exact q v' H' (((o1.trans o2).trans o3).trans o') r'
/-! ### meet -/
noncomputable def omd : Option Kn → Dk
  | none => .non
  | some t => t.d
noncomputable def Kn.meet (a b : Kn) : Option Kn := if (a.part b).isNone = true then some (a.both b) else none
noncomputable abbrev sMeet : Stmt := top 13
noncomputable def spMeet (K : PySem.W.Frag) : Sp := fun vs H Q _ => ∃ (x y : V) (a b : Kn), vs = [x, y] ∧ RK K H a.d x ∧ RK K H b.d y ∧ a.wf ∧ b.wf ∧ a.dep ≤ 7 ∧ ∀ (v : V) (H' : Hp), Old H H' → RK K H' (omd (Kn.meet a b)) v → Q v H'
theorem scMeet : FnScope ["kind", "other"] ["kind", "other"] (defScope sMeet) := ⟨rfl, rfl, rfl, by decide +kernel, rfl, by decide +kernel, by decide +kernel⟩
theorem ok_meet {m : Nat} (F : Fun K "meet" "meet" sMeet f fd) (T : Tx mg) (c_same : Cal P w K mg base "same" ["kind", "other"] 10 (spSame K)) (c_both_told : Cal P w K mg base "both_told" ["kind", "other"] 9 (spBoth K 8)) : FnOk P w K mg base CX0 (m + 11) f fd ["kind", "other"] (spMeet K) := by
  refine F.ok scMeet (fun vs H Q E h => ?_) (fun cdv A outer s H vs Q E hr h => ?_)
  · obtain ⟨x, y, a, b, rfl, _⟩ := h
    rfl
  obtain ⟨x, y, a, b, rfl, rx, ry, wa, wb, h7, q⟩ := h
  refine' ⟨_, ?n0, ?Z⟩
  case' n0 => refine' pss_cons ?n1 ?n2
  case' n1 => refine' ps_if ?n3 ?n4 ?n5
  case' n3 => refine' pt_not ?n6
  case' n6 => refine' pt_val ?n7
  case' n7 => refine' pe_cal c_same hr ?n8
  case' n8 => refine' pa ?n9 ?n10
  case n9 => exact pv 0
  case' n10 => refine' pa ?n11 ?n12
  case n11 => exact pv 1
  case n12 => exact pa_nil
  case' n4 => refine' pss_one ?n13
  case' n13 => refine' ps_ret ?n14
  case n14 => exact pe_non
  case n5 => exact pss_nil
  case' n2 => refine' pss_one ?n15
  case' n15 => refine' ps_ret ?n16
  case' n16 => refine' pe_cal c_both_told hr ?n17
  case' n17 => refine' pa ?n18 ?n19
  case n18 => exact pv 0
  case' n19 => refine' pa ?n20 ?n21
  case n20 => exact pv 1
  case n21 => exact pa_nil
  refine ⟨_, rfl, _, rfl, x, y, a, b, rfl, rx, ry, wa, wb, h7, fun H1 o1 => ⟨_, rfl, ?_⟩⟩
  cases hp : a.part b with
  | none =>
    have em : Kn.meet a b = some (a.both b) := by unfold Kn.meet; rw [hp]; rfl
    rw [em] at q
    exact iteF ⟨_, rfl, _, rfl, x, y, a, b, rfl, rx.mono o1.tm, ry.mono o1.tm, wa, wb, hp, by omega, fun v H2 o2 rv => q v H2 (o1.trans o2) rv⟩
  | some w0 =>
    have em : Kn.meet a b = none := by unfold Kn.meet; rw [hp]; rfl
    rw [em] at q
    exact iteT (q .non H1 o1 .n)
end
end L2.K81

end
section
set_option Elab.async false
set_option linter.all false
set_option maxRecDepth 100000
set_option maxHeartbeats 8000000
namespace L2.K81
open PySem PySem.Spec PyProof.Rows L2.Bw L2.Bk L2.Ex
theorem rngV {lo n i : Nat} (h : i < n) : ((K11.rng lo n).map V.int)[i]? = some (.int ((lo + i : Nat) : Int)) := by rw [List.getElem?_map, rng_get h]; rfl
theorem nf_le : ∀ x ∈ K11.words, K11.nf x ≤ 5 := by decide +kernel
theorem set_mid {α : Type} (us ws : List α) {lo n i : Nat} {y : α} (hl : lo + n ≤ us.length) (hw : ws.length = n) (hi : i < n) (hy : ws[i]? = some y) :
    (us.take lo ++ ws.take i ++ us.drop (lo + i)).set (lo + i) y = us.take lo ++ ws.take (i + 1) ++ us.drop (lo + (i + 1)) := by
  have l1 : (us.take lo ++ ws.take i).length = lo + i := by rw [List.length_append, List.length_take, List.length_take]; omega
  rw [List.set_append_right _ _ (by omega), l1, Nat.sub_self, List.take_add_one, hy]
  rw [show us.drop (lo + i) = us[lo + i] :: us.drop (lo + i + 1) from List.drop_eq_getElem_cons (by omega)]
  simp [Nat.add_assoc]
section
variable {P : Program} {w : World} {K : PySem.W.Frag} {mg : Str → Option Value} {base : Heap} {f : Addr} {fd : FuncData}
/-! ### exchanged -/
noncomputable abbrev sEx : Stmt := top 20
noncomputable def spEx (K : PySem.W.Frag) : Sp := fun vs H Q _ => ∃ (a b c : Addr) (us ws : List V) (lo n : Nat), vs = [.ref a, .ref b, .ref c] ∧ Tp K H a us ∧ H b = some (.lst ((K11.rng lo n).map V.int)) ∧ H c = some (.lst ws) ∧ ws.length = n ∧ lo + n ≤ us.length ∧ us.length ≤ 1000 ∧
  ∀ (t : Addr) (H' : Hp), Old H H' → H' t = some (.tup (us.take lo ++ ws ++ us.drop (lo + n))) → Q (.ref t) H'
theorem scEx : FnScope ["tree", "spots", "some", "things", "index", "thing"] ["tree", "spots", "some"] (defScope sEx) := ⟨rfl, rfl, rfl, by decide +kernel, rfl, by decide +kernel, by decide +kernel⟩
theorem ok_ex {m : Nat} (F : Fun K "exchanged" "exchanged" sEx f fd) (T : Tx mg) : FnOk P w K mg base CX0 (m + 1) f fd ["tree", "spots", "some"] (spEx K) := by
  refine F.ok scEx (fun vs H Q E h => ?_) (fun cdv A outer s H vs Q E hr h => ?_)
  · obtain ⟨a, b, c, us, ws, lo, n, rfl, _⟩ := h
    rfl
  obtain ⟨a, b, c, us, ws, lo, n, rfl, ha, hb, hc, hw, hl, hz, q⟩ := h
  have nd := scEx.nd
  refine' ⟨_, ?n0, ?Z⟩
  case' n0 => refine' pss_cons ?n1 ?n2
  case' n1 => refine' ps_setX (i := 3) nd rfl (Or.inl rfl) rfl (by first | exact .inl rfl | exact .inr rfl) ?n3
  case' n3 => refine' pe_callTy (call_list_of) rfl T.list boot_list ?n4
  case' n4 => refine' pa ?n5 ?n6
  case n5 => exact pv 0
  case n6 => exact pa_nil
  case' n2 => refine' pss_cons ?n7 ?n8
  case' n7 => refine' ps_for PassesOwn.never rfl ?n9 ?n10 ?n11
  case' n9 => refine' pi_zip rfl T.zip ?n12
  case' n12 => refine' pa ?n13 ?n14
  case n13 => exact pv 1
  case' n14 => refine' pa ?n15 ?n16
  case n15 => exact pv 2
  case n16 => exact pa_nil
  case' n10 => refine' pg_tup rfl ?n17
  case' n17 => refine' pgs_cons ?n18 ?n19
  case n18 => exact pg_name (i := 4) nd rfl (Or.inl rfl)
  case' n19 => refine' pgs_cons ?n20 ?n21
  case n20 => exact pg_name (i := 5) nd rfl (Or.inl rfl)
  case n21 => exact pgs_nil
  case' n11 => refine' pss_one ?n22
  case' n22 => refine' ps_asg ?n23 ?n24
  case n23 => exact pv 5
  case' n24 => refine' pg_sub ?n25 ?n26 set_list
  case n25 => exact pv 3
  case n26 => exact pv 4
  case' n8 => refine' pss_one ?n27
  case' n27 => refine' ps_ret ?n28
  case' n28 => refine' pe_callTy (call_tuple_of) rfl T.tuple boot_tuple ?n29
  case' n29 => refine' pa ?n30 ?n31
  case n30 => exact pv 3
  case n31 => exact pa_nil
  refine ⟨_, rfl, a, us, rfl, .inr ha.sq, fun l hln => ?_⟩
  have old1 : Old H (upd H l (.lst us)) := fun x o e => by rw [upd_ne (ne_of_none e hln)]; exact e
  refine ⟨_, rfl, _, rfl, b, c, _, _, rfl, SqL.of (old1 _ _ hb), SqL.of (old1 _ _ hc), ?_⟩
  refine for_by (n := n) (fun i σ H2 => ∃ (k1 k2 : Option V), σ = [some (.ref a), some (.ref b), some (.ref c), some (.ref l), k1, k2] ∧ Old H H2 ∧ H2 l = some (.lst (us.take lo ++ ws.take i ++ us.drop (lo + i)))) ⟨none, none, rfl, old1, by rw [upd_same]; simp⟩ ?_ ?_ ?_ ?_
  · intro i σ H2 hi hv
    obtain ⟨k1, k2, rfl, g, hl2⟩ := hv
    exact ⟨_, _, SqL.of (g _ _ hb), SqL.of (g _ _ hc), by rw [List.length_map, rng_len]; exact hi, by omega⟩
  · intro σ H2 hv
    obtain ⟨k1, k2, rfl, g, hl2⟩ := hv
    exact ⟨_, _, SqL.of (g _ _ hb), SqL.of (g _ _ hc), by rw [List.length_map, rng_len]; omega⟩
  · intro i σ H2 hi hv v H3 hy
    obtain ⟨k1, k2, rfl, g, hl2⟩ := hv
    obtain ⟨t, x, y, rfl, ht, rfl, hx, hyy⟩ := hy
    have ex : x = .int ((lo + i : Nat) : Int) := by
      have := hx _ (SqL.of (g _ _ hb))
      rw [rngV hi] at this
      exact (Option.some.inj this).symm
    subst ex
    have ey := hyy _ (SqL.of (g _ _ hc))
    have nlt : l ≠ t := ne_of_none hl2 ht
    have hl3 : upd H2 t (.tup [.int ((lo + i : Nat) : Int), y]) l = some (.lst (us.take lo ++ ws.take i ++ us.drop (lo + i))) := by rw [upd_ne nlt]; exact hl2
    have len : (us.take lo ++ ws.take i ++ us.drop (lo + i)).length = us.length := by simp; omega
    refine ⟨t, _, rfl, SqT.of upd_same, rfl, _, _, rfl, _, _, rfl, rfl, ?_⟩
    refine ⟨_, rfl, _, rfl, _, rfl, l, _, _, lo + i, rfl, rfl, hl3, ixN_nat (by rw [len]; omega), ?_⟩
    refine ⟨_, _, rfl, fun x o e => ?_, ?_⟩
    · have nx : x ≠ l := ne_of_none e hln
      rw [upd_ne nx, upd_ne (ne_of_none (g x o e) ht)]
      exact g x o e
    · rw [upd_same, set_mid us ws hl hw hi ey]
  · intro σ H2 hv
    obtain ⟨k1, k2, rfl, g, hl2⟩ := hv
    refine ⟨_, rfl, l, _, rfl, .inl ⟨SqL.of hl2, fun t ht => ?_⟩⟩
    have wt : ws.take n = ws := by rw [← hw]; exact List.take_length
    refine q t _ (fun x o e => by rw [upd_ne (ne_of_none (g x o e) ht)]; exact g x o e) ?_
    rw [upd_same, wt]
/-! ### with_parts -/
noncomputable abbrev sWp : Stmt := top 22
noncomputable def spWp (K : PySem.W.Frag) : Sp := fun vs H Q _ => ∃ (v : V) (c : Addr) (x : Str) (p : Int) (fr mid : List Dk) (ps qs : List Tn) (ws : List V), vs = [v, .ref c] ∧ RK K H (Tn.mk x p fr mid ps).d v ∧ (Tn.mk x p fr mid ps).wf ∧ H c = some (.lst ws) ∧ RKs K H (Tn.ds qs) ws ∧ qs.length = ps.length ∧
  ∀ (v' : V) (H' : Hp), Old H H' → RK K H' (Tn.mk x p fr mid qs).d v' → Q v' H'
theorem scWp : FnScope ["tree", "some"] ["tree", "some"] (defScope sWp) := ⟨rfl, rfl, rfl, by decide +kernel, rfl, by decide +kernel, by decide +kernel⟩
theorem ok_Wp {m : Nat} (F : Fun K "with_parts" "with_parts" sWp f fd) (T : Tx mg) (c_indexes : Cal P w K mg base "indexes" ["tree", "sort"] 2 (spIndexes K)) (c_exchanged : Cal P w K mg base "exchanged" ["tree", "spots", "some"] 1 (spEx K)) : FnOk P w K mg base CX0 (m + 3) f fd ["tree", "some"] (spWp K) := by
  refine F.ok scWp (fun vs H Q E h => ?_) (fun cdv A outer s H vs Q E hr h => ?_)
  · obtain ⟨v, c, x, p, fr, mid, ps, qs, ws, rfl, _⟩ := h
    rfl
  obtain ⟨v, c, x, p, fr, mid, ps, qs, ws, rfl, rv, wt, hc, rq, lq, q⟩ := h
  have nd := scWp.nd
  obtain ⟨⟨hx, lf, lm, lp, few, _⟩, _⟩ := wt
  obtain ⟨a, uf, um, up, rfl, ha, rf, rm, rp⟩ := RK.node rv
  have l1 := rf.length
  have l2 := rm.length
  have lw := rq.length
  rw [tds_length] at lw
  refine' ⟨_, ?n0, ?Z⟩
  case' n0 => refine' pss_cons ?n1 ?n2
  case' n1 => refine' ps_if ?n3 ?n4 ?n5
  case' n3 => refine' pt_cmpR (op_eqG hr) ?n6 ?n7 (nomark _)
  case' n6 => refine' pe_ix ix_seq ?n8 ?n9 (fun _ _ => rfl)
  case n8 => exact pv 0
  case n9 => exact pe_int
  case n7 => exact pe_str
  case' n4 => refine' pss_one ?n10
  case' n10 => refine' ps_ret ?n11
  case' n11 => refine' pe_cal c_exchanged hr ?n12
  case' n12 => refine' pa ?n13 ?n14
  case n13 => exact pv 0
  case' n14 => refine' pa ?n15 ?n16
  case' n15 => refine' pe_lst ?n17
  case' n17 => refine' pa ?n18 ?n19
  case n18 => exact pe_int
  case n19 => exact pa_nil
  case' n16 => refine' pa ?n20 ?n21
  case' n20 => refine' pe_lst ?n22
  case' n22 => refine' pa ?n23 ?n24
  case' n23 => refine' pe_callTy (call_tuple_of) rfl T.tuple boot_tuple ?n25
  case' n25 => refine' pa ?n26 ?n27
  case n26 => exact pv 1
  case n27 => exact pa_nil
  case n24 => exact pa_nil
  case n21 => exact pa_nil
  case n5 => exact pss_nil
  case' n2 => refine' pss_one ?n28
  case' n28 => refine' ps_ret ?n29
  case' n29 => refine' pe_cal c_exchanged hr ?n30
  case' n30 => refine' pa ?n31 ?n32
  case n31 => exact pv 0
  case' n32 => refine' pa ?n33 ?n34
  case' n33 => refine' pe_cal c_indexes hr ?n35
  case' n35 => refine' pa ?n36 ?n37
  case n36 => exact pv 0
  case' n37 => refine' pa ?n38 ?n39
  case n38 => exact pe_str
  case n39 => exact pa_nil
  case' n34 => refine' pa ?n40 ?n41
  case n40 => exact pv 1
  case n41 => exact pa_nil
  refine ⟨_, rfl, .inr (.inl ⟨a, _, 0, .str x, rfl, rfl, ha.sq, at0, .inr (.inl ⟨rfl, _, rfl, ?_⟩)⟩)⟩
  rw [dec_s]
  by_cases cr : x = "row"
  · rw [decide_eq_true cr]
    refine iteT ?_
    rw [if_pos cr] at rp
    rw [cr, nf_row] at lf
    rw [cr, nk_row] at lm
    obtain ⟨pv, e0, rfl, rpv, e1⟩ := rp
    have e1' : e0 = [] := e1
    subst e1'
    obtain rfl : uf = [] := List.length_eq_zero_iff.mp (l1.symm.trans lf)
    obtain rfl : fr = [] := List.length_eq_zero_iff.mp lf
    obtain ⟨k0, rfl⟩ : ∃ k0, um = [k0] := List.length_eq_one_iff.mp (l2.symm.trans lm)
    refine ⟨_, rfl, by show 1 ≤ sizeLine; decide, fun l1 hl1 => ?_⟩
    have o1 : Old H (upd H l1 (.lst [.int 3])) := Old.new hl1
    refine ⟨_, rfl, c, ws, rfl, .inl ⟨SqL.of (o1 _ _ hc), fun t ht => ⟨by show 1 ≤ sizeLine; decide, fun l2 hl2 => ?_⟩⟩⟩
    have o2 : Old _ (upd (upd H l1 (.lst [.int 3])) t (.tup ws)) := Old.new ht
    have o3 : Old _ (upd (upd (upd H l1 (.lst [.int 3])) t (.tup ws)) l2 (.lst [.ref t])) := Old.new hl2
    refine ⟨a, l1, l2, _, [.ref t], 3, 1, rfl, ha.mono (o1.trans (o2.trans o3)).tm, o3 _ _ (o2 _ _ upd_same), upd_same, rfl, by show 4 ≤ 4; decide, by show 4 ≤ 1000; decide, fun r H' o hr' => ?_⟩
    have oo : Old H H' := o1.trans (o2.trans (o3.trans o))
    refine q _ _ oo ?_
    have e : (Tn.mk x p [] mid qs).d = .tup (.str x :: .int p :: (([] : List Dk) ++ mid ++ [.tup (Tn.ds qs)])) := by
      show Dk.tup (.str x :: .int p :: (([] : List Dk) ++ mid ++ (if x = "row" then [.tup (Tn.ds qs)] else Tn.ds qs))) = _
      rw [if_pos cr]
    rw [e]
    refine RK.tup (.of hr') (.cons (.s _) (.cons (.i _) ?_))
    exact (rm.mono oo.tm).append (.cons (RK.tup (.of (o _ _ (o3 _ _ upd_same))) (rq.mono oo.tm)) .nil)
  · rw [decide_eq_false cr]
    refine iteF ?_
    rw [if_neg cr] at rp
    have l3 := rp.length
    rw [tds_length] at l3
    have lp' := lp cr
    have zf := nf_le x hx
    have zk := nk_le x hx
    refine ⟨_, rfl, _, rfl, a, x, _, "node", rfl, ha, hx, fun r H1 o1 hr0 hr1 => ?_⟩
    rw [(K11.form_of x hx).2.2.1 cr] at hr1
    refine ⟨_, rfl, a, r, c, _, ws, 2 + K11.nf x + K11.nk x, K11.np x, rfl, ha.mono o1.tm, hr1, o1 _ _ hc, by omega, by simp; omega, by simp; omega, fun t H' o ht => ?_⟩
    have oo : Old H H' := o1.trans o
    refine q _ _ oo ?_
    have e : (Tn.mk x p fr mid qs).d = .tup (.str x :: .int p :: (fr ++ mid ++ Tn.ds qs)) := by
      show Dk.tup (.str x :: .int p :: (fr ++ mid ++ (if x = "row" then [.tup (Tn.ds qs)] else Tn.ds qs))) = _
      rw [if_neg cr]
    rw [e]
    have e1 : V.str x :: V.int p :: (uf ++ um ++ up) = ([V.str x, V.int p] ++ uf ++ um) ++ up := by simp
    have e2 : (V.str x :: V.int p :: (uf ++ um ++ up)).take (2 + K11.nf x + K11.nk x) = V.str x :: V.int p :: (uf ++ um) := by
      rw [e1, List.take_append_of_le_length (by simp; omega), List.take_of_length_le (by simp; omega)]; simp
    have e3 : (V.str x :: V.int p :: (uf ++ um ++ up)).drop (2 + K11.nf x + K11.nk x + K11.np x) = [] := List.drop_of_length_le (by simp; omega)
    rw [e2, e3, List.append_nil] at ht
    refine RK.tup (.of ht) (.cons (.s _) (.cons (.i _) ?_))
    exact ((rf.append rm).append rq).mono oo.tm
/-! ### with_written -/
noncomputable abbrev sWw : Stmt := top 24
noncomputable def spWw (K : PySem.W.Frag) : Sp := fun vs H Q _ => ∃ (v : V) (c : Addr) (x : Str) (p : Int) (fr mid mid' : List Dk) (ps : List Tn) (ws : List V), vs = [v, .ref c] ∧ RK K H (Tn.mk x p fr mid ps).d v ∧ (Tn.mk x p fr mid ps).wf ∧ x ≠ "look" ∧ H c = some (.lst ws) ∧ RKs K H mid' ws ∧ mid'.length = mid.length ∧
  ∀ (v' : V) (H' : Hp), Old H H' → RK K H' (Tn.mk x p fr mid' ps).d v' → Q v' H'
theorem scWw : FnScope ["tree", "some"] ["tree", "some"] (defScope sWw) := ⟨rfl, rfl, rfl, by decide +kernel, rfl, by decide +kernel, by decide +kernel⟩
theorem ok_Ww {m : Nat} (F : Fun K "with_written" "with_written" sWw f fd) (T : Tx mg) (c_indexes : Cal P w K mg base "indexes" ["tree", "sort"] 2 (spIndexes K)) (c_exchanged : Cal P w K mg base "exchanged" ["tree", "spots", "some"] 1 (spEx K)) : FnOk P w K mg base CX0 (m + 3) f fd ["tree", "some"] (spWw K) := by
  refine F.ok scWw (fun vs H Q E h => ?_) (fun cdv A outer s H vs Q E hr h => ?_)
  · obtain ⟨v, c, x, p, fr, mid, mid', ps, ws, rfl, _⟩ := h
    rfl
  obtain ⟨v, c, x, p, fr, mid, mid', ps, ws, rfl, rv, wt, nl, hc, rq, lq, q⟩ := h
  have nd := scWw.nd
  obtain ⟨⟨hx, lf, lm, lp, few, _⟩, _⟩ := wt
  obtain ⟨a, uf, um, up, rfl, ha, rf, rm, rp⟩ := RK.node rv
  have l1 := rf.length
  have l2 := rm.length
  have l3 := rp.length
  have lw := rq.length
  have l3' : up.length ≤ 5 := by
    rw [← l3]
    split
    · show 1 ≤ 5; decide
    · rw [tds_length]; exact few
  have zf := nf_le x hx
  have zk := nk_le x hx
  refine' ⟨_, ?n0, ?Z⟩
  case' n0 => refine' pss_one ?n1
  case' n1 => refine' ps_ret ?n2
  case' n2 => refine' pe_cal c_exchanged hr ?n3
  case' n3 => refine' pa ?n4 ?n5
  case n4 => exact pv 0
  case' n5 => refine' pa ?n6 ?n7
  case' n6 => refine' pe_cal c_indexes hr ?n8
  case' n8 => refine' pa ?n9 ?n10
  case n9 => exact pv 0
  case' n10 => refine' pa ?n11 ?n12
  case n11 => exact pe_str
  case n12 => exact pa_nil
  case' n7 => refine' pa ?n13 ?n14
  case n13 => exact pv 1
  case n14 => exact pa_nil
  refine ⟨_, rfl, _, rfl, a, x, _, "kind", rfl, ha, hx, fun r H1 o1 hr0 hr1 => ?_⟩
  rw [(K11.form_of x hx).2.2.2.1 nl] at hr1
  refine ⟨_, rfl, a, r, c, _, ws, 2 + K11.nf x, K11.nk x, rfl, ha.mono o1.tm, hr1, o1 _ _ hc, by omega, by simp; omega, by simp; omega, fun t H' o ht => ?_⟩
  have oo : Old H H' := o1.trans o
  refine q _ _ oo ?_
  have e1 : V.str x :: V.int p :: (uf ++ um ++ up) = ([V.str x, V.int p] ++ uf) ++ (um ++ up) := by simp
  have e2 : (V.str x :: V.int p :: (uf ++ um ++ up)).take (2 + K11.nf x) = V.str x :: V.int p :: uf := by
    rw [e1, List.take_append_of_le_length (by simp; omega), List.take_of_length_le (by simp; omega)]; simp
  have e3 : (V.str x :: V.int p :: (uf ++ um ++ up)).drop (2 + K11.nf x + K11.nk x) = up := by
    have e4 : V.str x :: V.int p :: (uf ++ um ++ up) = ([V.str x, V.int p] ++ uf ++ um) ++ up := by simp
    rw [e4, List.drop_append_of_le_length (by simp; omega), List.drop_of_length_le (by simp; omega)]; simp
  rw [e2, e3] at ht
  refine RK.tup (.of ht) (.cons (.s _) (.cons (.i _) ?_))
  exact ((rf.mono oo.tm).append (rq.mono oo.tm)).append (rp.mono oo.tm)
end
end L2.K81

end
section
set_option Elab.async false
set_option linter.all false
set_option maxRecDepth 100000
set_option maxHeartbeats 8000000
namespace L2.K81
open PySem PySem.Spec PyProof.Rows L2.Bw L2.Bk L2.Ex
noncomputable def ownS : List Str := ["number", "truth", "given", "name", "sign"]
theorem form_own : ∀ x ∈ K11.words, x ≠ "look" → (K11.form x).length = K11.nf x + K11.nk x + (if x = "row" then 1 else K11.np x) ∧ (∀ z ∈ (K11.form x).take (K11.nf x), z ∈ ownS) ∧ (∀ z ∈ (K11.form x).drop (K11.nf x), z ∉ ownS) := by decide +kernel
theorem in_strs (z : Str) (ss : List Str) : inV (.str z) (ss.map V.str) = decide (z ∈ ss) := inV_strs z ss
theorem sl_tl2 {K : PySem.W.Frag} {H : Hp} {a : Addr} {h g : V} {r : List V} {Q : VK} (ha : SqT K H a (h :: g :: r)) (q : ∀ p, H p = none → Q (.ref p) (upd H p (.tup r))) : rSlK K (.ref a) (some 2) none H Q := by
  have e0 : HT.sIx (h :: g :: r).length 0 (some 2) = 2 := by
    simp [HT.sIx]
    try omega
  have e1 : HT.sIx (h :: g :: r).length (h :: g :: r).length none = (h :: g :: r).length := by simp [HT.sIx]
  refine .inr (.inl ⟨a, _, rfl, ha, ?_, fun p hp => ?_⟩)
  · intro z
    rw [e0] at z
    exact absurd z.1 (by decide)
  · have e : cutV (h :: g :: r) (some 2) none = r := by
      unfold cutV
      rw [e0, e1]
      simp
    rw [e]
    exact q p hp
section
variable {P : Program} {w : World} {K : PySem.W.Frag} {mg : Str → Option Value} {base : Heap} {f : Addr} {fd : FuncData}
/-! ### own_things -/
noncomputable abbrev sOt : Stmt := top 34
noncomputable def spOt (K : PySem.W.Frag) : Sp := fun vs H Q _ => ∃ (v : V) (x : Str) (p : Int) (fr mid : List Dk) (ps : List Tn), vs = [v] ∧ RK K H (Tn.mk x p fr mid ps).d v ∧ (Tn.mk x p fr mid ps).wf ∧ x ≠ "look" ∧ ∀ (v' : V) (H' : Hp), Old H H' → Ot K H' v' x p fr (ps.length : Int) → Q v' H'
theorem scOt : FnScope ["tree", "things"] ["tree"] (defScope sOt) := ⟨rfl, rfl, rfl, by decide +kernel, rfl, by decide +kernel, by decide +kernel⟩
theorem ok_Ot {m : Nat} {oa : Addr} (F : Fun K "own_things" "own_things" sOt f fd) (T : Tx mg) (m_OWN_SORTS : mg "OWN_SORTS" = some (.ref oa)) (k_OWN_SORTS : Kt K oa (ownS.map V.str)) (c_form : Cal P w K mg base "form" ["word"] 1 (spForm K)) (c_parts : Cal P w K mg base "parts" ["tree"] 3 (spParts K)) : FnOk P w K mg base CX0 (m + 4) f fd ["tree"] (spOt K) := by
  refine F.ok scOt (fun vs H Q E h => ?_) (fun cdv A outer s H vs Q E hr h => ?_)
  · obtain ⟨v, x, p, fr, mid, ps, rfl, _⟩ := h
    rfl
  obtain ⟨v, x, p, fr, mid, ps, rfl, rv, wt, nl, q⟩ := h
  have nd := scOt.nd
  obtain ⟨⟨hx, lf, lm, lp, few5, _⟩, _⟩ := id wt
  obtain ⟨a, uf, um, up, rfl, ha, rf, rm, rp⟩ := RK.node rv
  have l1 := rf.length
  have l2 := rm.length
  have l3 := rp.length
  obtain ⟨fl, fo, fn⟩ := form_own x hx nl
  have f5 := (K11.form_of x hx).2.1
  have l3' : up.length = (if x = "row" then 1 else K11.np x) := by
    rw [← l3]
    split
    · rfl
    · rename_i c
      rw [tds_length]; exact lp c
  refine' ⟨_, ?n0, ?Z⟩
  case' n0 => refine' pss_cons ?n1 ?n2
  case' n1 => refine' ps_lc (g := gTup K 2 (gCons (gName 0) (gCons (gName 1) gNil))) (tt := tTest (tOp (rIn K false) (tVar 0) (tC (.ref oa)))) (te := tVar 1) (i := 1) (k := 2) (N := ["sort", "thing", "tree", "things"]) (lc_mk rfl rfl rfl rfl rfl rfl) rfl nd rfl (Or.inl rfl) ?n3 (fun _ _ _ _ => ?n4) (fun _ _ _ _ => ?n5) (fun _ _ _ _ => ?n6)
  case' n3 => refine' pi_zipt rfl T.zip ?n7
  case' n7 => refine' pa ?n8 ?n9
  case' n8 => refine' pe_cal c_form hr ?n10
  case' n10 => refine' pa ?n11 ?n12
  case' n11 => refine' pe_ix ix_seq ?n13 ?n14 (fun _ _ => rfl)
  case n13 => exact pv 0
  case n14 => exact pe_int
  case n12 => exact pa_nil
  case' n9 => refine' pa ?n15 ?n16
  case' n15 => refine' pe_slice sl_k ?n17 ?n18 po_none
  case n17 => exact pv 0
  case' n18 => refine' po_some ?n19
  case n19 => exact pe_int
  case n16 => exact pa_nil
  case n4 =>
    refine' pg_tup rfl ?n20
    case' n20 => refine' pgs_cons ?n21 ?n22
    case n21 => exact pg_name (i := 0) (by show List.Nodup (["sort", "thing", "tree", "things"] : List Str); decide +kernel) rfl (Or.inl rfl)
    case' n22 => refine' pgs_cons ?n23 ?n24
    case n23 => exact pg_name (i := 1) (by show List.Nodup (["sort", "thing", "tree", "things"] : List Str); decide +kernel) rfl (Or.inl rfl)
    case n24 => exact pgs_nil
  case n5 =>
    refine' pts_one ?n25
    case' n25 => refine' pt_cmpR op_in_seq ?n26 ?n27 rfl
    case n26 => exact pv 0
    case n27 => exact pe_gref rfl m_OWN_SORTS
  case n6 => exact pv 1
  case' n2 => refine' pss_one ?n28
  case' n28 => refine' ps_ret ?n29
  case' n29 => refine' pe_tup ?n30
  case' n30 => refine' pa ?n31 ?n32
  case' n31 => refine' pe_ix ix_seq ?n33 ?n34 (fun _ _ => rfl)
  case n33 => exact pv 0
  case n34 => exact pe_int
  case' n32 => refine' pa ?n35 ?n36
  case' n35 => refine' pe_ix ix_seq ?n37 ?n38 (fun _ _ => rfl)
  case n37 => exact pv 0
  case n38 => exact pe_int
  case' n36 => refine' pa ?n39 ?n40
  case n39 => exact pv 1
  case' n40 => refine' pa ?n41 ?n42
  case' n41 => refine' pe_callB (call_lenA) rfl T.len boot_len ?n43
  case' n43 => refine' pa ?n44 ?n45
  case' n44 => refine' pe_cal c_parts hr ?n46
  case' n46 => refine' pa ?n47 ?n48
  case n47 => exact pv 0
  case n48 => exact pa_nil
  case n45 => exact pa_nil
  case n42 => exact pa_nil
  refine ⟨_, rfl, .inr (.inl ⟨a, _, 0, .str x, rfl, rfl, ha.sq, at0, x, rfl, hx, fun c hc => ⟨_, rfl, _, rfl, sl_tl2 ha.sq fun b hb => ⟨c, b, (K11.form x).map V.str, _, rfl, ?_, SqT.of upd_same, fun D hD => ?_⟩⟩⟩)⟩
  · rcases hc with (h | ⟨o, h⟩) | h
    · exact .inl (.inl (Old.new hb _ _ h))
    · exact .inl (.inr ⟨o, Old.new hb _ _ h⟩)
    · exact .inr h
  have o1 := Old.new (o := .tup (uf ++ um ++ up)) hb
  have hb1 : upd H b (.tup (uf ++ um ++ up)) b = some (.tup (uf ++ um ++ up)) := upd_same
  generalize upd H b (.tup (uf ++ um ++ up)) = H1 at o1 hb1 hD ⊢
  have same2 : ∀ {H' : Hp}, Old H H' → SqT K H' c ((K11.form x).map V.str) := fun {H'} g => by
    rcases hc with (h | ⟨o, h⟩) | h
    · exact .inl (.inl (g _ _ h))
    · exact .inl (.inr ⟨o, g _ _ h⟩)
    · exact .inr h
  have lenf : ((K11.form x).map V.str).length = (K11.form x).length := List.length_map _
  have neD : ∀ b o, H1 b = some o → b ≠ D := fun b o e => ne_of_none e hD
  have lall : (uf ++ um ++ up).length = (K11.form x).length := by rw [List.length_append, List.length_append, l3', fl, ← l1, ← l2, lf, lm]
  refine lc_by (n := (K11.form x).length) (fun i σ H2 => ∃ (k1 k2 : Option V), σ = [k1, k2, some (.ref a), none] ∧ Old H1 H2 ∧ H2 D = some (.lst (uf.take i))) ⟨none, none, rfl, Old.new hD, upd_same⟩ ?_ ?_ ?_ ?_
  · intro i σ H2 hi hv
    obtain ⟨k1, k2, rfl, g, hD2⟩ := hv
    exact ⟨_, _, same2 (o1.trans g), SqT.of (g _ _ hb1), by rw [lenf]; exact hi, by rw [lall]; exact hi⟩
  · intro σ H2 hv
    obtain ⟨k1, k2, rfl, g, hD2⟩ := hv
    exact ⟨_, _, same2 (o1.trans g), SqT.of (g _ _ hb1), by rw [lenf]⟩
  · intro i σ H2 hi hv v H3 hy
    obtain ⟨k1, k2, rfl, g, hD2⟩ := hv
    obtain ⟨t, y1, y2, rfl, ht, rfl, hy1, hy2⟩ := hy
    have ey : y1 = .str (K11.form x)[i] := by
      have := hy1 _ (same2 (o1.trans g))
      rw [List.getElem?_map, List.getElem?_eq_getElem hi] at this
      exact (Option.some.inj this).symm
    subst ey
    have ey2 := hy2 _ (SqT.of (g _ _ hb1))
    have o3 := Old.new (o := .tup [.str (K11.form x)[i], y2]) ht
    have ntD : D ≠ t := ne_of_none hD2 ht
    refine ⟨t, _, rfl, SqT.of upd_same, rfl, _, _, rfl, _, _, rfl, rfl, ?_⟩
    refine ⟨_, rfl, oa, _, rfl, .inr (Tp.sq (.inr k_OWN_SORTS)), rfl, flat_strs _, _, rfl, ?_⟩
    rw [if_neg (by decide), in_strs]
    have hD3 := o3 _ _ hD2
    have g3 := g.trans o3
    by_cases c1 : i < K11.nf x
    · have im : (K11.form x)[i] ∈ (K11.form x).take (K11.nf x) := by
        rw [List.mem_take_iff_getElem]
        exact ⟨i, by omega, rfl⟩
      rw [decide_eq_true (fo _ im)]
      have iu : i < uf.length := by omega
      have e2 : y2 = uf[i] := by
        rw [List.append_assoc, List.getElem?_append_left iu, List.getElem?_eq_getElem iu] at ey2
        exact (Option.some.inj ey2).symm
      refine iteT ⟨_, rfl, _, hD3, smallM (by rw [List.length_take]; omega), nx hi ⟨_, _, rfl, fun b o e => by rw [upd_ne (neD b o e)]; exact g3 b o e, ?_⟩⟩
      rw [upd_same, take_snoc iu, e2]
    · have im : (K11.form x)[i] ∈ (K11.form x).drop (K11.nf x) := by
        rw [List.mem_drop_iff_getElem]
        exact ⟨i - K11.nf x, by omega, by congr 1; omega⟩
      rw [decide_eq_false (fn _ im)]
      refine iteF (nx hi ⟨_, _, rfl, g3, ?_⟩)
      rw [hD3, List.take_of_length_le (by omega), List.take_of_length_le (by omega)]
  intro σ H2 hv
  obtain ⟨k1, k2, rfl, g, hD2⟩ := hv
  rw [List.take_of_length_le (by omega)] at hD2
  have o2 := o1.trans g
  refine ⟨_, rfl, .inr (.inl ⟨a, _, 0, .str x, rfl, rfl, (ha.mono o2.tm).sq, at0, _, rfl, .inr (.inl ⟨a, _, 1, .int p, rfl, rfl, (ha.mono o2.tm).sq, at1, _, rfl, _, rfl, .ref a, _, rfl, rv.mono o2.tm, wt, fun r us H3 o3 hr3 hr4 rus => ?_⟩)⟩)⟩
  have lus := rus.length
  rw [tds_length] at lus
  refine .inl ⟨r, us, rfl, .inl (SqL.of hr4), by show 4 ≤ sizeLine; decide, fun ta hta => ?_⟩
  have o4 := Old.new (o := .tup [.str x, .int p, .ref D, .int (us.length : Int)]) hta
  have e4 : (ps.length : Int) = (us.length : Int) := by
    have : (Tn.mk x p fr mid ps).ps = ps := rfl
    rw [this] at lus
    omega
  refine q _ _ (o2.trans (o3.trans o4)) ⟨ta, D, uf, rfl, ?_, o4 _ _ (o3 _ _ hD2), (rf.mono o2.tm).mono (o3.trans o4).tm⟩
  rw [upd_same, e4]
/-! ### first_unlike -/
noncomputable abbrev sFu : Stmt := top 33
noncomputable def spFu (K : PySem.W.Frag) (m : Nat) : Sp := fun vs H Q _ => ∃ (v u : V) (t t' : Tk), vs = [v, u] ∧ RK K H t.tn.d v ∧ RK K H t'.tn.d u ∧ t.tn.wf ∧ t'.tn.wf ∧ t.ok ∧ t'.ok ∧ t.tn.dep < m ∧ ∀ (H' : Hp), Old H H' → Q (oi (t.unl t')) H'
theorem scFu : FnScope ["tree", "other", "node", "beside", "place"] ["tree", "other"] (defScope sFu) := ⟨rfl, rfl, rfl, by decide +kernel, rfl, by decide +kernel, by decide +kernel⟩
theorem dqs_flat : ∀ {ds : List Dk}, (∀ d ∈ ds, d.flat = true) → dqs ds ≤ 20 := fun h => dqs_le fun d hd => by
  have := h d hd
  cases d with
  | tup _ => cases this
  | non => rw [dq_non]; omega
  | int _ => rw [dq_int]; omega
  | bl _ => rw [dq_bl]; omega
  | str _ => rw [dq_str]; omega
theorem ok_Fu {m : Nat} (F : Fun K "first_unlike" "first_unlike" sFu f fd) (T : Tx mg) (c_own_things : Cal P w K mg base "own_things" ["tree"] 4 (spOt K)) (c_parts : Cal P w K mg base "parts" ["tree"] 3 (spParts K)) (c_first_unlike : Cal P w K mg base "first_unlike" ["tree", "other"] (m + 4) (spFu K m)) : FnOk P w K mg base CX0 (m + 5) f fd ["tree", "other"] (spFu K (m + 1)) := by
  refine F.ok scFu (fun vs H Q E h => ?_) (fun cdv A outer s H vs Q E hr h => ?_)
  · obtain ⟨v, u, t, t', rfl, _⟩ := h
    rfl
  obtain ⟨v, u, t, t', rfl, rv, ru, wt, wt', ot, ot', hd, q⟩ := h
  have nd := scFu.nd
  obtain ⟨x, p, fr, ks, ps⟩ := t
  obtain ⟨x', p', fr', ks', qs⟩ := t'
  have rv' : RK K H (Tn.mk x p fr (Kn.ds ks) (Tk.tns ps)).d v := rv
  have ru' : RK K H (Tn.mk x' p' fr' (Kn.ds ks') (Tk.tns qs)).d u := ru
  have w1 : (Tn.mk x p fr (Kn.ds ks) (Tk.tns ps)).wf := wt
  have w2 : (Tn.mk x' p' fr' (Kn.ds ks') (Tk.tns qs)).wf := wt'
  have hd' : 1 + Tn.deps (Tk.tns ps) < m + 1 := hd
  rw [unl_eq] at q
  obtain ⟨a, uf, um, up, rfl, ha, _⟩ := RK.node rv'
  refine' ⟨_, ?n0, ?Z⟩
  case' n0 => refine' pss_cons ?n1 ?n2
  case' n1 => refine' ps_if ?n3 ?n4 ?n5
  case' n3 => refine' pt_cmpR (op_neO hr) ?n6 ?n7 (nomark _)
  case' n6 => refine' pe_cal c_own_things hr ?n8
  case' n8 => refine' pa ?n9 ?n10
  case n9 => exact pv 0
  case n10 => exact pa_nil
  case' n7 => refine' pe_cal c_own_things hr ?n11
  case' n11 => refine' pa ?n12 ?n13
  case n12 => exact pv 1
  case n13 => exact pa_nil
  case' n4 => refine' pss_one ?n14
  case' n14 => refine' ps_ret ?n15
  case' n15 => refine' pe_ix ix_seq ?n16 ?n17 (fun _ _ => rfl)
  case n16 => exact pv 0
  case n17 => exact pe_int
  case n5 => exact pss_nil
  case' n2 => refine' pss_cons ?n18 ?n19
  case' n18 => refine' ps_for PassesOwn.never rfl ?n20 ?n21 ?n22
  case' n20 => refine' pi_zip rfl T.zip ?n23
  case' n23 => refine' pa ?n24 ?n25
  case' n24 => refine' pe_cal c_parts hr ?n26
  case' n26 => refine' pa ?n27 ?n28
  case n27 => exact pv 0
  case n28 => exact pa_nil
  case' n25 => refine' pa ?n29 ?n30
  case' n29 => refine' pe_cal c_parts hr ?n31
  case' n31 => refine' pa ?n32 ?n33
  case n32 => exact pv 1
  case n33 => exact pa_nil
  case n30 => exact pa_nil
  case' n21 => refine' pg_tup rfl ?n34
  case' n34 => refine' pgs_cons ?n35 ?n36
  case n35 => exact pg_name (i := 2) nd rfl (Or.inl rfl)
  case' n36 => refine' pgs_cons ?n37 ?n38
  case n37 => exact pg_name (i := 3) nd rfl (Or.inl rfl)
  case n38 => exact pgs_nil
  case' n22 => refine' pss_cons ?n39 ?n40
  case' n39 => refine' ps_setX (i := 4) nd rfl (Or.inl rfl) rfl (by first | exact .inl rfl | exact .inr rfl) ?n41
  case' n41 => refine' pe_cal c_first_unlike hr ?n42
  case' n42 => refine' pa ?n43 ?n44
  case n43 => exact pv 2
  case' n44 => refine' pa ?n45 ?n46
  case n45 => exact pv 3
  case n46 => exact pa_nil
  case' n40 => refine' pss_one ?n47
  case' n47 => refine' ps_if ?n48 ?n49 ?n50
  case' n48 => refine' pt_cmpR op_notN ?n51 ?n52 (nomark _)
  case n51 => exact pv 4
  case n52 => exact pe_non
  case' n49 => refine' pss_one ?n53
  case' n53 => refine' ps_ret ?n54
  case n54 => exact pv 4
  case n50 => exact pss_nil
  case' n19 => refine' pss_one ?n55
  case' n55 => refine' ps_ret ?n56
  case n56 => exact pe_non
  refine ⟨_, rfl, .ref a, x, p, fr, Kn.ds ks, Tk.tns ps, rfl, rv', w1, ot.1.2.2.2, fun v1 H1 o1 t1 => ⟨_, rfl, u, x', p', fr', Kn.ds ks', Tk.tns qs, rfl, ru'.mono o1.tm, w2, ot'.1.2.2.2, fun v2 H2 o2 t2 => ?_⟩⟩
  have t1' : Ot K H2 v1 x p fr ((Tk.tns ps).length : Int) := by
    obtain ⟨a1, l1, us1, e1, h1, h2, h3⟩ := t1
    exact ⟨a1, l1, us1, e1, o2 _ _ h1, o2 _ _ h2, h3.mono o2.tm⟩
  have o12 := o1.trans o2
  refine ⟨x, p, fr, _, x', p', fr', _, t1', t2, dqs_flat ot.1.2.2.1, _, rfl, ?_⟩
  rw [tns_length, tns_length]
  by_cases c : (x == x' && (p == p' && (eqbs fr fr' && (ps.length : Int) == (qs.length : Int)))) = true
  · rw [if_pos c] at q
    rw [c]
    refine iteF ?_
    have el : ps.length = qs.length := by
      rw [Bool.and_eq_true, Bool.and_eq_true, Bool.and_eq_true] at c
      have z : (ps.length : Int) = (qs.length : Int) := by simpa using c.2.2.2
      omega
    refine ⟨_, rfl, .ref a, _, rfl, rv'.mono o12.tm, w1, fun r1 us1 H3 o3 hr1 hr1' rus1 => ⟨_, rfl, u, _, rfl, (ru'.mono o12.tm).mono o3.tm, w2, fun r2 us2 H4 o4 hr2 hr2' rus2 => ⟨r1, r2, us1, us2, rfl, SqL.of (o4 _ _ hr1'), SqL.of hr2', ?_⟩⟩⟩
    have rus1' : RKs K H4 (Tn.ds (Tk.tns ps)) us1 := rus1.mono o4.tm
    have rus2' : RKs K H4 (Tn.ds (Tk.tns qs)) us2 := rus2
    have l1 := rus1'.length
    have l2 := rus2'.length
    rw [ktd_len] at l1 l2
    have hr1H := o4 _ _ hr1'
    have o04 := o12.trans (o3.trans o4)
    refine for_by (n := ps.length) (fun i σ H5 => ∃ (k1 k2 k3 : Option V), σ = [some (.ref a), some u, k1, k2, k3] ∧ Old H4 H5 ∧ Tk.unls ps qs = Tk.unls (ps.drop i) (qs.drop i)) ⟨none, none, none, rfl, Old.refl _, rfl⟩ ?_ ?_ ?_ ?_
    · intro i σ H5 hi hv
      obtain ⟨k1, k2, k3, rfl, o5, e5⟩ := hv
      exact ⟨_, _, SqL.of (o5 _ _ hr1H), SqL.of (o5 _ _ hr2'), by omega, by omega⟩
    · intro σ H5 hv
      obtain ⟨k1, k2, k3, rfl, o5, e5⟩ := hv
      exact ⟨_, _, SqL.of (o5 _ _ hr1H), SqL.of (o5 _ _ hr2'), by omega⟩
    · intro i σ H5 hi hv v5 H6 hy
      obtain ⟨k1, k2, k3, rfl, o5, e5⟩ := hv
      obtain ⟨ta, y1, y2, rfl, ht, rfl, hy1, hy2⟩ := hy
      have i2 : i < qs.length := by omega
      obtain ⟨d1, e1, rd1⟩ := rus1'.getV (hy1 _ (SqL.of (o5 _ _ hr1H)))
      obtain ⟨d2, e2, rd2⟩ := rus2'.getV (hy2 _ (SqL.of (o5 _ _ hr2')))
      rw [ktd_get hi] at e1
      rw [ktd_get i2] at e2
      cases e1
      cases e2
      have o6 := Old.new (o := .tup [y1, y2]) ht
      have o56 := o5.trans o6
      have dg := ktdeps_get hi
      refine ⟨ta, _, rfl, SqT.of upd_same, rfl, _, _, rfl, _, _, rfl, rfl, ?_⟩
      refine ⟨_, rfl, _, rfl, y1, y2, ps[i], qs[i], rfl, rd1.mono o56.tm, rd2.mono o56.tm, ktwfs_get hi w1.2, ktwfs_get i2 w2.2, koks_get hi ot.2, koks_get i2 ot'.2, by omega, fun H7 o7 => ?_⟩
      have ud := unls_drop hi i2
      rw [← e5] at ud
      refine ⟨_, rfl, rfl, _, rfl, ?_⟩
      cases hp : ps[i].unl qs[i] with
      | none =>
        rw [hp] at ud
        exact iteF ⟨_, _, _, rfl, o56.trans o7, ud⟩
      | some x0 =>
        rw [hp] at ud
        rw [ud] at q
        refine iteT ⟨_, rfl, ?_⟩
        exact q H7 (o04.trans (o56.trans o7))
    · intro σ H5 hv
      obtain ⟨k1, k2, k3, rfl, o5, e5⟩ := hv
      rw [e5, List.drop_of_length_le (Nat.le_refl _), unls_nil] at q
      exact q H5 (o04.trans o5)
  · rw [if_neg c] at q
    have c' : (x == x' && (p == p' && (eqbs fr fr' && (ps.length : Int) == (qs.length : Int)))) = false := by simpa using c
    rw [c']
    exact iteT ⟨_, rfl, .inr (.inl ⟨a, _, 1, .int p, rfl, rfl, (ha.mono o12.tm).sq, at1, q H2 o12⟩)⟩
/-! ### all_looser -/
noncomputable abbrev sAl : Stmt := top 28
noncomputable def spAl (K : PySem.W.Frag) (m : Nat) : Sp := fun vs H Q _ => ∃ (v u : V) (t t' : Tk), vs = [v, u] ∧ RK K H t.tn.d v ∧ RK K H t'.tn.d u ∧ t.tn.wf ∧ t'.tn.wf ∧ t.ok ∧ t'.ok ∧ t.tn.dep < m ∧ ∀ (H' : Hp), Old H H' → Q (.bl (t.lsr t')) H'
theorem scAl : FnScope ["tree", "other", "kinds", "nodes"] ["tree", "other"] (defScope sAl) := ⟨rfl, rfl, rfl, by decide +kernel, rfl, by decide +kernel, by decide +kernel⟩
theorem ok_Al {m : Nat} (F : Fun K "all_looser" "all_looser" sAl f fd) (T : Tx mg) (c_written : Cal P w K mg base "written" ["tree"] 3 (spWr K)) (c_parts : Cal P w K mg base "parts" ["tree"] 3 (spParts K)) (c_looser : Cal P w K mg base "looser" ["kind", "other"] 10 (spLooser K 9)) (c_all_looser : Cal P w K mg base "all_looser" ["tree", "other"] (m + 10) (spAl K m)) : FnOk P w K mg base CX0 (m + 11) f fd ["tree", "other"] (spAl K (m + 1)) := by
  refine F.ok scAl (fun vs H Q E h => ?_) (fun cdv A outer s H vs Q E hr h => ?_)
  · obtain ⟨v, u, t, t', rfl, _⟩ := h
    rfl
  obtain ⟨v, u, t, t', rfl, rv, ru, wt, wt', ot, ot', hd, q⟩ := h
  have nd := scAl.nd
  obtain ⟨x, p, fr, ks, ps⟩ := t
  obtain ⟨x', p', fr', ls, qs⟩ := t'
  have rv' : RK K H (Tn.mk x p fr (Kn.ds ks) (Tk.tns ps)).d v := rv
  have ru' : RK K H (Tn.mk x' p' fr' (Kn.ds ls) (Tk.tns qs)).d u := ru
  have w1 : (Tn.mk x p fr (Kn.ds ks) (Tk.tns ps)).wf := wt
  have w2 : (Tn.mk x' p' fr' (Kn.ds ls) (Tk.tns qs)).wf := wt'
  have hd' : 1 + Tn.deps (Tk.tns ps) < m + 1 := hd
  have q' : ∀ (H' : Hp), Old H H' → Q (.bl ((Kn.looses ks ls ++ Tk.lsrs ps qs).all id)) H' := q
  obtain ⟨⟨hx, _, lm, _, few5, _⟩, wps⟩ := id w1
  obtain ⟨⟨hx', _, _, _, few5', _⟩, wqs⟩ := id w2
  obtain ⟨⟨wks, dks, _, nl⟩, ops⟩ := ot
  obtain ⟨⟨wls, dls, _, nl'⟩, oqs⟩ := ot'
  rw [ds_length] at lm
  rw [tns_length] at few5 few5'
  have zk := nk_le x hx
  refine' ⟨_, ?n0, ?Z⟩
  case' n0 => refine' pss_cons ?n1 ?n2
  case' n1 => refine' ps_lc (g := gTup K 2 (gCons (gName 0) (gCons (gName 1) gNil))) (i := 2) (k := 2) (N := ["kind", "beside", "tree", "other", "kinds", "nodes"]) (lc_mk rfl rfl rfl rfl rfl rfl) rfl nd rfl (Or.inl rfl) ?n3 (fun _ _ _ _ => ?n4) (fun _ _ _ _ => ?n5) (fun _ _ _ _ => ?n6)
  case' n3 => refine' pi_zip rfl T.zip ?n7
  case' n7 => refine' pa ?n8 ?n9
  case' n8 => refine' pe_cal c_written hr ?n10
  case' n10 => refine' pa ?n11 ?n12
  case n11 => exact pv 0
  case n12 => exact pa_nil
  case' n9 => refine' pa ?n13 ?n14
  case' n13 => refine' pe_cal c_written hr ?n15
  case' n15 => refine' pa ?n16 ?n17
  case n16 => exact pv 1
  case n17 => exact pa_nil
  case n14 => exact pa_nil
  case n4 =>
    refine' pg_tup rfl ?n18
    case' n18 => refine' pgs_cons ?n19 ?n20
    case n19 => exact pg_name (i := 0) (by show List.Nodup (["kind", "beside", "tree", "other", "kinds", "nodes"] : List Str); decide +kernel) rfl (Or.inl rfl)
    case' n20 => refine' pgs_cons ?n21 ?n22
    case n21 => exact pg_name (i := 1) (by show List.Nodup (["kind", "beside", "tree", "other", "kinds", "nodes"] : List Str); decide +kernel) rfl (Or.inl rfl)
    case n22 => exact pgs_nil
  case n5 => exact pts_nil
  case n6 =>
    refine' pe_cal c_looser hr ?n23
    case' n23 => refine' pa ?n24 ?n25
    case n24 => exact pv 0
    case' n25 => refine' pa ?n26 ?n27
    case n26 => exact pv 1
    case n27 => exact pa_nil
  case' n2 => refine' pss_cons ?n28 ?n29
  case' n28 => refine' ps_lc (g := gTup K 2 (gCons (gName 0) (gCons (gName 1) gNil))) (i := 3) (k := 2) (N := ["node", "beside", "tree", "other", "kinds", "nodes"]) (lc_mk rfl rfl rfl rfl rfl rfl) rfl nd rfl (Or.inl rfl) ?n30 (fun _ _ _ _ => ?n31) (fun _ _ _ _ => ?n32) (fun _ _ _ _ => ?n33)
  case' n30 => refine' pi_zip rfl T.zip ?n34
  case' n34 => refine' pa ?n35 ?n36
  case' n35 => refine' pe_cal c_parts hr ?n37
  case' n37 => refine' pa ?n38 ?n39
  case n38 => exact pv 0
  case n39 => exact pa_nil
  case' n36 => refine' pa ?n40 ?n41
  case' n40 => refine' pe_cal c_parts hr ?n42
  case' n42 => refine' pa ?n43 ?n44
  case n43 => exact pv 1
  case n44 => exact pa_nil
  case n41 => exact pa_nil
  case n31 =>
    refine' pg_tup rfl ?n45
    case' n45 => refine' pgs_cons ?n46 ?n47
    case n46 => exact pg_name (i := 0) (by show List.Nodup (["node", "beside", "tree", "other", "kinds", "nodes"] : List Str); decide +kernel) rfl (Or.inl rfl)
    case' n47 => refine' pgs_cons ?n48 ?n49
    case n48 => exact pg_name (i := 1) (by show List.Nodup (["node", "beside", "tree", "other", "kinds", "nodes"] : List Str); decide +kernel) rfl (Or.inl rfl)
    case n49 => exact pgs_nil
  case n32 => exact pts_nil
  case n33 =>
    refine' pe_cal c_all_looser hr ?n50
    case' n50 => refine' pa ?n51 ?n52
    case n51 => exact pv 0
    case' n52 => refine' pa ?n53 ?n54
    case n53 => exact pv 1
    case n54 => exact pa_nil
  case' n29 => refine' pss_one ?n55
  case' n55 => refine' ps_ret ?n56
  case' n56 => refine' pe_callB (call_all rfl) rfl T.all boot_all ?n57
  case' n57 => refine' pa ?n58 ?n59
  case' n58 => refine' pe_op op_addG ?n60 ?n61
  case n60 => exact pv 2
  case n61 => exact pv 3
  case n59 => exact pa_nil
  refine ⟨_, rfl, v, _, rfl, rv', w1, nl, fun r1 us1 H1 o1 hr1 hr1' rus1 => ⟨_, rfl, u, _, rfl, ru'.mono o1.tm, w2, nl', fun r2 us2 H2 o2 hr2 hr2' rus2 => ⟨r1, r2, us1, us2, rfl, SqL.of (o2 _ _ hr1'), SqL.of hr2', fun D hD => ?_⟩⟩⟩
  have rus1H : RKs K H2 (Kn.ds ks) us1 := rus1.mono o2.tm
  have rus2' : RKs K H2 (Kn.ds ls) us2 := rus2
  have l1 := rus1H.length
  have l2 := rus2'.length
  rw [ds_length] at l1 l2
  have hr1H := o2 _ _ hr1'
  have o12 := o1.trans o2
  have neD : ∀ b o, H2 b = some o → b ≠ D := fun b o e => ne_of_none e hD
  have lj := looses_length ks ls
  refine lc_by0 (n := (Kn.looses ks ls).length) (fun i σ H3 => ∃ (k1 k2 : Option V), σ = [k1, k2, some v, some u, none, none] ∧ Old H2 H3 ∧ H3 D = some (.lst (((Kn.looses ks ls).take i).map V.bl))) ⟨none, none, rfl, Old.new hD, upd_same⟩ ?_ ?_ ?_ ?_
  · intro i σ H3 hi hv
    obtain ⟨k1, k2, rfl, o3, hD3⟩ := hv
    exact ⟨_, _, SqL.of (o3 _ _ hr1H), SqL.of (o3 _ _ hr2'), by omega, by omega⟩
  · intro σ H3 hv
    obtain ⟨k1, k2, rfl, o3, hD3⟩ := hv
    exact ⟨_, _, SqL.of (o3 _ _ hr1H), SqL.of (o3 _ _ hr2'), by omega⟩
  · intro i σ H3 hi hv v3 H4 hy
    obtain ⟨k1, k2, rfl, o3, hD3⟩ := hv
    obtain ⟨t, x, y, rfl, ht, rfl, hx, hyy⟩ := hy
    have i1 : i < ks.length := by omega
    have i2 : i < ls.length := by omega
    obtain ⟨d1, e1, rd1⟩ := rus1H.getV (hx _ (SqL.of (o3 _ _ hr1H)))
    obtain ⟨d2, e2, rd2⟩ := rus2'.getV (hyy _ (SqL.of (o3 _ _ hr2')))
    rw [ds_get i1] at e1
    rw [ds_get i2] at e2
    cases e1
    cases e2
    have dg := deps_get i1
    have o4 : Old H3 (upd H3 t (.tup [x, y])) := Old.new ht
    have o34 := o3.trans o4
    refine ⟨t, _, rfl, SqT.of upd_same, rfl, _, _, rfl, _, _, rfl, rfl, _, rfl, _, rfl, x, y, ks[i], ls[i], rfl, rd1.mono o34.tm, rd2.mono o34.tm, wfs_get i1 wks, wfs_get i2 wls, by omega, fun H5 o5 => ?_⟩
    have hD5 := o5 _ _ (o4 _ _ hD3)
    refine ⟨_, hD5, smallM (by rw [List.length_map, List.length_take]; omega), nx hi ⟨_, _, rfl, fun b o e => by rw [upd_ne (neD b o e)]; exact o5 _ _ (o34 b o e), ?_⟩⟩
    rw [upd_same, looses_take i1 i2, List.map_append]
    rfl
  intro σ H3 hv
  obtain ⟨k1, k2, rfl, o3, hD3⟩ := hv
  rw [List.take_length] at hD3
  have o03 := o12.trans o3
  refine ⟨_, rfl, v, _, rfl, rv'.mono o03.tm, w1, fun s1 xs1 H4 o4 hs1 hs1' rxs1 => ⟨_, rfl, u, _, rfl, (ru'.mono o03.tm).mono o4.tm, w2, fun s2 xs2 H5 o5 hs2 hs2' rxs2 => ⟨s1, s2, xs1, xs2, rfl, SqL.of (o5 _ _ hs1'), SqL.of hs2', fun D' hD' => ?_⟩⟩⟩
  have rx1 : RKs K H5 (Tn.ds (Tk.tns ps)) xs1 := rxs1.mono o5.tm
  have rx2 : RKs K H5 (Tn.ds (Tk.tns qs)) xs2 := rxs2
  have m1 := rx1.length
  have m2 := rx2.length
  rw [ktd_len] at m1 m2
  have hs1H := o5 _ _ hs1'
  have o45 := o4.trans o5
  have neD' : ∀ b o, H5 b = some o → b ≠ D' := fun b o e => ne_of_none e hD'
  have lj' := lsrs_length ps qs
  refine lc_by0 (n := (Tk.lsrs ps qs).length) (fun i σ H6 => ∃ (k1 k2 : Option V), σ = [k1, k2, some v, some u, some (.ref D), none] ∧ Old H5 H6 ∧ H6 D' = some (.lst (((Tk.lsrs ps qs).take i).map V.bl))) ⟨none, none, rfl, Old.new hD', upd_same⟩ ?_ ?_ ?_ ?_
  · intro i σ H6 hi hv
    obtain ⟨k1, k2, rfl, o6, hD6⟩ := hv
    exact ⟨_, _, SqL.of (o6 _ _ hs1H), SqL.of (o6 _ _ hs2'), by omega, by omega⟩
  · intro σ H6 hv
    obtain ⟨k1, k2, rfl, o6, hD6⟩ := hv
    exact ⟨_, _, SqL.of (o6 _ _ hs1H), SqL.of (o6 _ _ hs2'), by omega⟩
  · intro i σ H6 hi hv v3 H7 hy
    obtain ⟨k1, k2, rfl, o6, hD6⟩ := hv
    obtain ⟨t, x, y, rfl, ht, rfl, hx, hyy⟩ := hy
    have i1 : i < ps.length := by omega
    have i2 : i < qs.length := by omega
    obtain ⟨d1, e1, rd1⟩ := rx1.getV (hx _ (SqL.of (o6 _ _ hs1H)))
    obtain ⟨d2, e2, rd2⟩ := rx2.getV (hyy _ (SqL.of (o6 _ _ hs2')))
    rw [ktd_get i1] at e1
    rw [ktd_get i2] at e2
    cases e1
    cases e2
    have dg := ktdeps_get i1
    have o7 : Old H6 (upd H6 t (.tup [x, y])) := Old.new ht
    have o67 := o6.trans o7
    refine ⟨t, _, rfl, SqT.of upd_same, rfl, _, _, rfl, _, _, rfl, rfl, _, rfl, _, rfl, x, y, ps[i], qs[i], rfl, rd1.mono o67.tm, rd2.mono o67.tm, ktwfs_get i1 wps, ktwfs_get i2 wqs, koks_get i1 ops, koks_get i2 oqs, by omega, fun H8 o8 => ?_⟩
    have hD8 := o8 _ _ (o7 _ _ hD6)
    refine ⟨_, hD8, smallM (by rw [List.length_map, List.length_take]; omega), nx hi ⟨_, _, rfl, fun b o e => by rw [upd_ne (neD' b o e)]; exact o8 _ _ (o67 b o e), ?_⟩⟩
    rw [upd_same, lsrs_take i1 i2, List.map_append]
    rfl
  intro σ H6 hv
  obtain ⟨k1, k2, rfl, o6, hD6⟩ := hv
  rw [List.take_length] at hD6
  have hD0 : H6 D = some (.lst ((Kn.looses ks ls).map V.bl)) := o6 _ _ (o45 _ _ hD3)
  refine ⟨_, rfl, _, rfl, .inr (addL ⟨D, D', _, _, rfl, rfl, hD0, hD6, small (by rw [List.length_map, List.length_map]; omega), fun wb hwb => ?_⟩)⟩
  have o7 := Old.new (o := .lst ((Kn.looses ks ls).map V.bl ++ (Tk.lsrs ps qs).map V.bl)) hwb
  refine ⟨wb, Kn.looses ks ls ++ Tk.lsrs ps qs, rfl, SqL.of (by rw [upd_same, List.map_append]), q' _ (o03.trans (o45.trans (o6.trans o7)))⟩
/-! ### looser_tree -/
noncomputable abbrev sLr : Stmt := top 27
noncomputable def spLr (K : PySem.W.Frag) : Sp := fun vs H Q _ => ∃ (v u : V) (t t' : Tk), vs = [v, u] ∧ RK K H t.tn.d v ∧ RK K H t'.tn.d u ∧ t.tn.wf ∧ t'.tn.wf ∧ t.ok ∧ t'.ok ∧ t.tn.dep < 11 ∧ ∀ (H' : Hp), Old H H' → Q (.bl ((t.unl t').isNone && t.lsr t')) H'
theorem scLr : FnScope ["tree", "other"] ["tree", "other"] (defScope sLr) := ⟨rfl, rfl, rfl, by decide +kernel, rfl, by decide +kernel, by decide +kernel⟩
theorem ok_Lr {m : Nat} (F : Fun K "looser_tree" "looser_tree" sLr f fd) (T : Tx mg) (c_first_unlike : Cal P w K mg base "first_unlike" ["tree", "other"] 15 (spFu K 11)) (c_all_looser : Cal P w K mg base "all_looser" ["tree", "other"] 21 (spAl K 11)) : FnOk P w K mg base CX0 (m + 22) f fd ["tree", "other"] (spLr K) := by
  refine F.ok scLr (fun vs H Q E h => ?_) (fun cdv A outer s H vs Q E hr h => ?_)
  · obtain ⟨v, u, t, t', rfl, _⟩ := h
    rfl
  obtain ⟨v, u, t, t', rfl, rv, ru, wt, wt', ot, ot', hd, q⟩ := h
  have nd := scLr.nd
  refine' ⟨_, ?n0, ?Z⟩
  case' n0 => refine' pss_one ?n1
  case' n1 => refine' ps_ret ?n2
  case' n2 => refine' pe_and ?n3 ?n4
  case' n3 => refine' pe_cmpR op_isN ?n5 ?n6 (nomark _)
  case' n5 => refine' pe_cal c_first_unlike hr ?n7
  case' n7 => refine' pa ?n8 ?n9
  case n8 => exact pv 0
  case' n9 => refine' pa ?n10 ?n11
  case n10 => exact pv 1
  case n11 => exact pa_nil
  case n6 => exact pe_non
  case' n4 => refine' pe_one ?n12
  case' n12 => refine' pe_cal c_all_looser hr ?n13
  case' n13 => refine' pa ?n14 ?n15
  case n14 => exact pv 0
  case' n15 => refine' pa ?n16 ?n17
  case n16 => exact pv 1
  case n17 => exact pa_nil
  refine ⟨_, rfl, _, rfl, v, u, t, t', rfl, rv, ru, wt, wt', ot, ot', hd, fun H1 o1 => ⟨rfl, _, rfl, ?_⟩⟩
  cases hp : t.unl t' with
  | none =>
    rw [hp] at q
    exact iteT ⟨_, rfl, _, rfl, v, u, t, t', rfl, rv.mono o1.tm, ru.mono o1.tm, wt, wt', ot, ot', hd, fun H2 o2 => q H2 (o1.trans o2)⟩
  | some x0 =>
    rw [hp] at q
    exact iteF (q H1 o1)
end
end L2.K81

end
section
set_option Elab.async false
set_option linter.all false
set_option maxRecDepth 100000
set_option maxHeartbeats 8000000
namespace L2.K81
open PySem PySem.Spec PyProof.Rows L2.Bw L2.Bk L2.Ex
theorem ar0 : ∀ h ∈ (["?", "whole", "truth"] : List Str), arity h = some 0 := by decide +kernel
theorem ar1 : arity "row" = some 1 := by decide +kernel
theorem arT : arity "to" = some 2 := by decide +kernel
theorem arP : arity "pair" = some 2 := by decide +kernel
theorem seq_by {tt : TT} {ta tb u : TS} {D : Ends} {σ : St} {H : Hp} (P : St → Hp → Prop) (h1 : ∀ R : St → Hp → Prop, (∀ σ H, P σ H → R σ H) → tIfS tt ta tb { D with nx := R } σ H) (h2 : ∀ σ H, P σ H → u D σ H) : tSeq (tIfS tt ta tb) u D σ H := h1 (u D) h2
theorem seq_at {ta u : TS} {D : Ends} {σ : St} {H : Hp} (h : ta { D with nx := u D } σ H) : tSeq ta u D σ H := h
section
variable {P : Program} {w : World} {K : PySem.W.Frag} {mg : Str → Option Value} {base : Heap} {f : Addr} {fd : FuncData}
/-! ### next -/
noncomputable abbrev sNext : Stmt := top 36
/-- where the maker stands: the script, how far it is read, the first place, how many places -/
structure Dl (K : PySem.W.Frag) (H : Hp) (d a : Addr) (ns : List Int) (i b c : Int) : Prop where
  hd : H d = some (.lst [.ref a, .int i, .int b, .int c])
  ha : SqL K H a (ns.map V.int)
  ne : a = d → ∀ H' : Hp, SqL K H' a (ns.map V.int)
  i0 : 0 ≤ i
  few : ns.length ≤ 63
theorem Dl.put {H : Hp} {d a : Addr} {ns : List Int} {i b c i' c' : Int} (D : Dl K H d a ns i b c) (h : 0 ≤ i') : Dl K (upd H d (.lst [.ref a, .int i', .int b, .int c'])) d a ns i' b c' := ⟨upd_same, by
    by_cases z : a = d
    · exact D.ne z _
    · exact (Gr.put (M := M1 d) rfl).seq z D.ha, D.ne, h, D.few⟩
theorem Dl.old {H H' : Hp} {d a : Addr} {ns : List Int} {i b c : Int} (D : Dl K H d a ns i b c) (o : Old H H') : Dl K H' d a ns i b c := ⟨o _ _ D.hd, o.gr.seq (fun z => z) D.ha, D.ne, D.i0, D.few⟩
theorem Dl.i1 {i b c : Int} {a : Addr} : atI [V.ref a, .int i, .int b, .int c] 1 = some (.int i) := atI_nat (j := 1) rfl
theorem Dl.i2 {i b c : Int} {a : Addr} : atI [V.ref a, .int i, .int b, .int c] 2 = some (.int b) := atI_nat (j := 2) rfl
theorem Dl.i3 {i b c : Int} {a : Addr} : atI [V.ref a, .int i, .int b, .int c] 3 = some (.int c) := atI_nat (j := 3) rfl
noncomputable def spNext (K : PySem.W.Frag) : Sp := fun vs H Q _ => ∃ (d a : Addr) (ns : List Int) (i b c : Int), vs = [.ref d] ∧ Dl K H d a ns i b c ∧ ∀ r : Int, 0 ≤ r → Q (.int r) (upd H d (.lst [.ref a, .int (i + 1), .int b, .int c]))
theorem scNext : FnScope ["_law_deal"] ["_law_deal"] (defScope sNext) := ⟨rfl, rfl, rfl, by decide +kernel, rfl, by decide +kernel, by decide +kernel⟩
theorem ok_next {n : Nat} (F : Fun K "_law_next" "_law_next" sNext f fd) (T : Tx mg) : FnOk P w K mg base CX0 (n + 1) f fd ["_law_deal"] (spNext K) := by
  refine F.ok scNext (fun vs H Q E h => ?_) (fun cdv A outer s H vs Q E hr h => ?_)
  · obtain ⟨d, a, ns, i, b, c, rfl, _⟩ := h
    rfl
  obtain ⟨d, a, ns, i, b, c, rfl, D, q⟩ := h
  have nd := scNext.nd
  refine' ⟨_, ?n0, ?Z⟩
  case' n0 => refine' pss_cons ?n1 ?n2
  case' n1 => refine' ps_asg ?n3 ?n4
  case' n3 => refine' pe_op op_addG ?n5 ?n6
  case' n5 => refine' pe_ix ix_seq ?n7 ?n8 (fun _ _ => rfl)
  case n7 => exact pv 0
  case n8 => exact pe_int
  case n6 => exact pe_int
  case' n4 => refine' pg_sub ?n9 ?n10 set_list
  case n9 => exact pv 0
  case n10 => exact pe_int
  case' n2 => refine' pss_cons ?n11 ?n12
  case' n11 => refine' ps_if ?n13 ?n14 ?n15
  case' n13 => refine' pt_cmpR op_ge ?n16 ?n17 (nomark _)
  case' n16 => refine' pe_ix ix_seq ?n18 ?n19 (fun _ _ => rfl)
  case n18 => exact pv 0
  case n19 => exact pe_int
  case' n17 => refine' pe_callB (call_lenA) rfl T.len boot_len ?n20
  case' n20 => refine' pa ?n21 ?n22
  case' n21 => refine' pe_ix ix_seq ?n23 ?n24 (fun _ _ => rfl)
  case n23 => exact pv 0
  case n24 => exact pe_int
  case n22 => exact pa_nil
  case' n14 => refine' pss_one ?n25
  case' n25 => refine' ps_ret ?n26
  case' n26 => refine' pe_op op_mulG ?n27 ?n28
  case n27 => exact pe_int
  case' n28 => refine' pe_ix ix_seq ?n29 ?n30 (fun _ _ => rfl)
  case n29 => exact pv 0
  case n30 => exact pe_int
  case n15 => exact pss_nil
  case' n12 => refine' pss_one ?n31
  case' n31 => refine' ps_ret ?n32
  case' n32 => refine' pe_op op_mod ?n33 ?n34
  case' n33 => refine' pe_op op_addG ?n35 ?n36
  case' n35 => refine' pe_op op_mulG ?n37 ?n38
  case' n37 => refine' pe_ix ix_seq ?n39 ?n40 (fun _ _ => rfl)
  case' n39 => refine' pe_ix ix_seq ?n41 ?n42 (fun _ _ => rfl)
  case n41 => exact pv 0
  case n42 => exact pe_int
  case' n40 => refine' pe_ix ix_seq ?n43 ?n44 (fun _ _ => rfl)
  case n43 => exact pv 0
  case n44 => exact pe_int
  case n38 => exact pe_int
  case' n36 => refine' pe_op op_mulG ?n45 ?n46
  case' n45 => refine' pe_ix ix_seq ?n47 ?n48 (fun _ _ => rfl)
  case n47 => exact pv 0
  case n48 => exact pe_int
  case n46 => exact pe_int
  case n34 => exact pe_int
  refine ⟨_, rfl, .inl ⟨d, _, 1, .int i, rfl, rfl, SqL.of D.hd, Dl.i1, .inr (.inl ⟨_, _, rfl, rfl, ?_⟩)⟩⟩
  refine ⟨_, rfl, d, _, 1, 1, rfl, rfl, D.hd, ixN_nat (n := 4) (j := 1) (by decide), ?_⟩
  have i0 := D.i0
  have D1 := D.put (i' := i + 1) (c' := c) (by omega)
  have q1 : ∀ r : Int, 0 ≤ r → Q (.int r) (upd H d (.lst ([V.ref a, .int i, .int b, .int c].set 1 (.int (i + 1))))) := q
  have D1' : Dl K (upd H d (.lst ([V.ref a, .int i, .int b, .int c].set 1 (.int (i + 1))))) d a ns (i + 1) b c := D1
  generalize upd H d (.lst ([V.ref a, .int i, .int b, .int c].set 1 (.int (i + 1)))) = H1 at q1 D1' ⊢
  refine ⟨_, rfl, .inl ⟨d, _, 1, .int (i + 1), rfl, rfl, SqL.of D1'.hd, Dl.i1, _, rfl, .inl ⟨d, _, 0, .ref a, rfl, rfl, SqL.of D1'.hd, at0, .inl ⟨a, _, rfl, .inl D1'.ha, _, _, rfl, rfl, _, rfl, ?_⟩⟩⟩⟩
  refine ite2 (fun cc => ?_) (fun cc => ?_)
  · exact ⟨_, rfl, .inl ⟨d, _, 1, .int (i + 1), rfl, rfl, SqL.of D1'.hd, Dl.i1, .inr ⟨_, _, rfl, rfl, .inl ⟨by decide, by decide⟩, q1 _ (by omega)⟩⟩⟩
  · have c' : ¬ (((ns.map V.int).length : Int) ≤ i + 1) := of_decide_eq_false (Bool.eq_false_iff.mpr cc)
    rw [List.length_map] at c'
    obtain ⟨y, ey⟩ : ∃ y, atI (ns.map V.int) (i + 1) = some (.int y) := by
      obtain ⟨j, ej⟩ : ∃ j : Nat, i + 1 = (j : Int) := ⟨(i + 1).toNat, by omega⟩
      have hj : j < ns.length := by omega
      exact ⟨ns[j], by rw [ej]; exact atI_nat (by rw [List.getElem?_map, List.getElem?_eq_getElem hj]; rfl)⟩
    refine ⟨_, rfl, .inl ⟨d, _, 0, .ref a, rfl, rfl, SqL.of D1'.hd, at0, _, rfl, .inl ⟨d, _, 1, .int (i + 1), rfl, rfl, SqL.of D1'.hd, Dl.i1, .inl ⟨a, _, _, .int y, rfl, rfl, D1'.ha, ey, .inr ⟨_, _, rfl, rfl, .inr ⟨by decide, by decide⟩, _, rfl, .inl ⟨d, _, 1, .int (i + 1), rfl, rfl, SqL.of D1'.hd, Dl.i1, .inr ⟨_, _, rfl, rfl, .inr ⟨by decide, by decide⟩, .inr (.inl ⟨_, _, rfl, rfl, _, _, rfl, rfl, (by show (0 : Int) < 999999999989; decide), q1 _ (Int.emod_nonneg _ (by decide))⟩)⟩⟩⟩⟩⟩⟩⟩
/-! ### place -/
noncomputable abbrev sPlace : Stmt := top 37
noncomputable def spPlace (K : PySem.W.Frag) : Sp := fun vs H Q _ => ∃ (d a : Addr) (ns : List Int) (i b c : Int), vs = [.ref d] ∧ Dl K H d a ns i b c ∧ ∀ r : Int, 0 ≤ r → r < 9973 → Q (.int r) (upd H d (.lst [.ref a, .int i, .int b, .int (c + 1)]))
theorem scPlace : FnScope ["_law_deal"] ["_law_deal"] (defScope sPlace) := ⟨rfl, rfl, rfl, by decide +kernel, rfl, by decide +kernel, by decide +kernel⟩
theorem ok_place {n : Nat} (F : Fun K "_law_place" "_law_place" sPlace f fd) (T : Tx mg) : FnOk P w K mg base CX0 (n + 1) f fd ["_law_deal"] (spPlace K) := by
  refine F.ok scPlace (fun vs H Q E h => ?_) (fun cdv A outer s H vs Q E hr h => ?_)
  · obtain ⟨d, a, ns, i, b, c, rfl, _⟩ := h
    rfl
  obtain ⟨d, a, ns, i, b, c, rfl, D, q⟩ := h
  have nd := scPlace.nd
  refine' ⟨_, ?n0, ?Z⟩
  case' n0 => refine' pss_cons ?n1 ?n2
  case' n1 => refine' ps_asg ?n3 ?n4
  case' n3 => refine' pe_op op_addG ?n5 ?n6
  case' n5 => refine' pe_ix ix_seq ?n7 ?n8 (fun _ _ => rfl)
  case n7 => exact pv 0
  case n8 => exact pe_int
  case n6 => exact pe_int
  case' n4 => refine' pg_sub ?n9 ?n10 set_list
  case n9 => exact pv 0
  case n10 => exact pe_int
  case' n2 => refine' pss_one ?n11
  case' n11 => refine' ps_ret ?n12
  case' n12 => refine' pe_op op_mod ?n13 ?n14
  case' n13 => refine' pe_op op_addG ?n15 ?n16
  case' n15 => refine' pe_ix ix_seq ?n17 ?n18 (fun _ _ => rfl)
  case n17 => exact pv 0
  case n18 => exact pe_int
  case' n16 => refine' pe_op op_mulG ?n19 ?n20
  case n19 => exact pe_int
  case' n20 => refine' pe_ix ix_seq ?n21 ?n22 (fun _ _ => rfl)
  case n21 => exact pv 0
  case n22 => exact pe_int
  case n14 => exact pe_int
  refine ⟨_, rfl, .inl ⟨d, _, 3, .int c, rfl, rfl, SqL.of D.hd, Dl.i3, .inr (.inl ⟨_, _, rfl, rfl, ?_⟩)⟩⟩
  refine ⟨_, rfl, d, _, 3, 3, rfl, rfl, D.hd, ixN_nat (n := 4) (j := 3) (by decide), ?_⟩
  have D1 := D.put (i' := i) (c' := c + 1) D.i0
  have q1 : ∀ r : Int, 0 ≤ r → r < 9973 → Q (.int r) (upd H d (.lst ([V.ref a, .int i, .int b, .int c].set 3 (.int (c + 1))))) := q
  have D1' : Dl K (upd H d (.lst ([V.ref a, .int i, .int b, .int c].set 3 (.int (c + 1))))) d a ns i b (c + 1) := D1
  generalize upd H d (.lst ([V.ref a, .int i, .int b, .int c].set 3 (.int (c + 1)))) = H1 at q1 D1' ⊢
  refine ⟨_, rfl, .inl ⟨d, _, 2, .int b, rfl, rfl, SqL.of D1'.hd, Dl.i2, _, rfl, .inl ⟨d, _, 3, .int (c + 1), rfl, rfl, SqL.of D1'.hd, Dl.i3, .inr ⟨_, _, rfl, rfl, .inl ⟨by decide, by decide⟩, .inr (.inl ⟨_, _, rfl, rfl, _, _, rfl, rfl, (by show (0 : Int) < 9973; decide), q1 _ (Int.emod_nonneg _ (by decide)) (Int.emod_lt_of_pos _ (by decide))⟩)⟩⟩⟩⟩
/-! ### cell_at -/
noncomputable abbrev sCell : Stmt := top 38
noncomputable def spCell (K : PySem.W.Frag) : Sp := fun vs H Q _ => ∃ (a : Addr) (ns : List Int) (k : Int), vs = [.ref a, .int k] ∧ SqL K H a (ns.map V.int) ∧ 0 ≤ k ∧ ∀ i : Int, 0 ≤ i → i < 999999999989 → Q (.int i) H
theorem scCell : FnScope ["_law_script", "_law_k", "_law_cell"] ["_law_script", "_law_k"] (defScope sCell) := ⟨rfl, rfl, rfl, by decide +kernel, rfl, by decide +kernel, by decide +kernel⟩
theorem ok_cell {n : Nat} (F : Fun K "_law_cell_at" "_law_cell_at" sCell f fd) (T : Tx mg) : FnOk P w K mg base CX0 (n + 1) f fd ["_law_script", "_law_k"] (spCell K) := by
  refine F.ok scCell (fun vs H Q E h => ?_) (fun cdv A outer s H vs Q E hr h => ?_)
  · obtain ⟨a, ns, k, rfl, _⟩ := h
    rfl
  obtain ⟨a, ns, k, rfl, hS, hk, q⟩ := h
  have nd := scCell.nd
  refine' ⟨_, ?n0, ?Z⟩
  case' n0 => refine' pss_cons ?n1 ?n2
  case' n1 => refine' ps_setX (i := 2) nd rfl (Or.inl rfl) rfl (by first | exact .inl rfl | exact .inr rfl) ?n3
  case n3 => exact pe_int
  case' n2 => refine' pss_cons ?n4 ?n5
  case' n4 => refine' ps_if ?n6 ?n7 ?n8
  case' n6 => refine' pt_cmpR op_lt ?n9 ?n10 (nomark _)
  case n9 => exact pv 1
  case' n10 => refine' pe_callB (call_lenA) rfl T.len boot_len ?n11
  case' n11 => refine' pa ?n12 ?n13
  case n12 => exact pv 0
  case n13 => exact pa_nil
  case' n7 => refine' pss_one ?n14
  case' n14 => refine' ps_setX (i := 2) nd rfl (Or.inl rfl) rfl (by first | exact .inl rfl | exact .inr rfl) ?n15
  case' n15 => refine' pe_ix ix_seq ?n16 ?n17 (fun _ _ => rfl)
  case n16 => exact pv 0
  case n17 => exact pv 1
  case n8 => exact pss_nil
  case' n5 => refine' pss_one ?n18
  case' n18 => refine' ps_ret ?n19
  case' n19 => refine' pe_op op_mod ?n20 ?n21
  case' n20 => refine' pe_op op_addG ?n22 ?n23
  case' n22 => refine' pe_op op_mulG ?n24 ?n25
  case n24 => exact pv 2
  case n25 => exact pe_int
  case' n23 => refine' pe_op op_mulG ?n26 ?n27
  case' n26 => refine' pe_op op_addG ?n28 ?n29
  case n28 => exact pv 1
  case n29 => exact pe_int
  case n27 => exact pe_int
  case n21 => exact pe_int
  refine seq_at ?_
  dsimp only [tAsg, tC, gName]
  refine seq_by (fun σ H' => H' = H ∧ ∃ y : Int, σ = [some (.ref a), some (.int k), some (.int y)]) (fun R hR => ?_) (fun σ H' hP => ?_)
  · refine ⟨_, rfl, _, rfl, .inl ⟨a, _, rfl, .inl hS, _, _, rfl, rfl, _, rfl, ?_⟩⟩
    refine ite2 (fun cc => ?_) (fun cc => ?_)
    · have c' : k < ((ns.map V.int).length : Int) := of_decide_eq_true cc
      rw [List.length_map] at c'
      obtain ⟨y, ey⟩ : ∃ y, atI (ns.map V.int) k = some (.int y) := by
        obtain ⟨j, ej⟩ : ∃ j : Nat, k = (j : Int) := ⟨k.toNat, by omega⟩
        have hj : j < ns.length := by omega
        exact ⟨ns[j], by rw [ej]; exact atI_nat (by rw [List.getElem?_map, List.getElem?_eq_getElem hj]; rfl)⟩
      exact ⟨_, rfl, _, rfl, .inl ⟨a, _, k, _, rfl, rfl, hS, ey, hR _ _ ⟨rfl, y, rfl⟩⟩⟩
    · exact hR _ _ ⟨rfl, 0, rfl⟩
  obtain ⟨rfl, y, rfl⟩ := hP
  exact ⟨_, rfl, .inr ⟨_, _, rfl, rfl, .inr ⟨by decide, by decide⟩, _, rfl, .inr (.inl ⟨_, _, rfl, rfl, .inr ⟨_, _, rfl, rfl, .inr ⟨by decide, by decide⟩, .inr (.inl ⟨_, _, rfl, rfl, _, _, rfl, rfl, (by show (0 : Int) < 999999999989; decide), q _ (Int.emod_nonneg _ (by decide)) (Int.emod_lt_of_pos _ (by decide))⟩)⟩⟩)⟩⟩
/-! ### kind -/
noncomputable abbrev sKind : Stmt := top 39
noncomputable def spKind (K : PySem.W.Frag) (m : Nat) : Sp := fun vs H Q _ => ∃ (a room : Int), vs = [.int a, .int room] ∧ 1 ≤ room ∧ room < m ∧
  ∀ (t : Kn) (v : V) (H' : Hp), RK K H' t.d v → t.wf → (t.dep : Int) ≤ room → Old H H' → Q v H'
theorem scKind : FnScope ["_law_cell", "_law_room", "_law_head", "_law_one", "_law_two"] ["_law_cell", "_law_room"] (defScope sKind) := ⟨rfl, rfl, rfl, by decide +kernel, rfl, by decide +kernel, by decide +kernel⟩
theorem flat3 {p1 p2 p3 : Addr} {i : Int} {H : Hp} (h0 : 0 ≤ i) (h1 : i < 3) (t1 : Tp K H p1 [.str "?"]) (t2 : Tp K H p2 [.str "whole"]) (t3 : Tp K H p3 [.str "truth"]) : ∃ (h : Str) (v : V), atI [V.ref p1, V.ref p2, V.ref p3] i = some v ∧ h ∈ (["?", "whole", "truth"] : List Str) ∧ RK K H (Kn.mk h []).d v := by
  have c : i = 0 ∨ i = 1 ∨ i = 2 := by omega
  rcases c with c | c | c <;> subst c
  · exact ⟨"?", .ref p1, rfl, by decide +kernel, RK.tup t1 (.cons (.s _) .nil)⟩
  · exact ⟨"whole", .ref p2, rfl, by decide +kernel, RK.tup t2 (.cons (.s _) .nil)⟩
  · exact ⟨"truth", .ref p3, rfl, by decide +kernel, RK.tup t3 (.cons (.s _) .nil)⟩
theorem deep3 {p1 p2 p3 : Addr} {i : Int} {H : Hp} {t t' : Kn} {v v' : V} (h0 : 0 ≤ i) (h1 : i < 3) (rt : RK K H t.d v) (rt' : RK K H t'.d v') (wt : t.wf) (wt' : t'.wf) (t1 : Tp K H p1 [.str "to", v, v']) (t2 : Tp K H p2 [.str "row", v]) (t3 : Tp K H p3 [.str "pair", v, v']) :
    ∃ (u : Kn) (x : V), atI [V.ref p1, V.ref p2, V.ref p3] i = some x ∧ u.wf ∧ u.dep ≤ 1 + max t.dep t'.dep ∧ RK K H u.d x := by
  have c : i = 0 ∨ i = 1 ∨ i = 2 := by omega
  rcases c with c | c | c <;> subst c
  · exact ⟨.mk "to" [t, t'], .ref p1, rfl, ⟨arT, wt, wt', trivial⟩, by show 1 + max t.dep (max t'.dep 0) ≤ _; omega, RK.tup t1 (.cons (.s _) (.cons rt (.cons rt' .nil)))⟩
  · exact ⟨.mk "row" [t], .ref p2, rfl, ⟨ar1, wt, trivial⟩, by show 1 + max t.dep 0 ≤ _; omega, RK.tup t2 (.cons (.s _) (.cons rt .nil))⟩
  · exact ⟨.mk "pair" [t, t'], .ref p3, rfl, ⟨arP, wt, wt', trivial⟩, by show 1 + max t.dep (max t'.dep 0) ≤ _; omega, RK.tup t3 (.cons (.s _) (.cons rt (.cons rt' .nil)))⟩
theorem ok_Kind {m : Nat} (F : Fun K "_law_kind" "_law_kind" sKind f fd) (T : Tx mg) (c_kind : Cal P w K mg base "_law_kind" ["_law_cell", "_law_room"] (m + 1) (spKind K m)) :
    FnOk P w K mg base CX0 (m + 2) f fd ["_law_cell", "_law_room"] (spKind K (m + 1)) := by
  refine F.ok scKind (fun vs H Q E h => ?_) (fun cdv A outer s H vs Q E hr h => ?_)
  · obtain ⟨a, room, rfl, _⟩ := h
    rfl
  obtain ⟨a, room, rfl, h1, h2, q⟩ := h
  have nd := scKind.nd
  have z0 : 0 ≤ a % 6 := Int.emod_nonneg _ (by decide)
  have z1 : a % 6 < 6 := Int.emod_lt_of_pos _ (by decide)
  have m0 : 0 ≤ a % 6 % 3 := Int.emod_nonneg _ (by decide)
  have m1 : a % 6 % 3 < 3 := Int.emod_lt_of_pos _ (by decide)
  refine' ⟨_, ?n0, ?Z⟩
  case' n0 => refine' pss_cons ?n1 ?n2
  case' n1 => refine' ps_setX (i := 2) nd rfl (Or.inl rfl) rfl (by first | exact .inl rfl | exact .inr rfl) ?n3
  case' n3 => refine' pe_op op_mod ?n4 ?n5
  case n4 => exact pv 0
  case n5 => exact pe_int
  case' n2 => refine' pss_cons ?n6 ?n7
  case' n6 => refine' ps_if ?n8 ?n9 ?n10
  case' n8 => refine' PW.pt ?n11
  case' n11 => refine' pw_or ?n12 ?n13
  case' n12 => refine' pt_cmpR op_lt ?n14 ?n15 (nomark _)
  case n14 => exact pv 1
  case n15 => exact pe_int
  case' n13 => refine' pw_or1 ?n16
  case' n16 => refine' pt_cmpR op_lt ?n17 ?n18 (nomark _)
  case n17 => exact pv 2
  case n18 => exact pe_int
  case' n9 => refine' pss_one ?n19
  case' n19 => refine' ps_ret ?n20
  case' n20 => refine' pe_ix ix_seq ?n21 ?n22 (fun _ _ => rfl)
  case' n21 => refine' pe_lst ?n23
  case' n23 => refine' pa ?n24 ?n25
  case' n24 => refine' pe_tup ?n26
  case' n26 => refine' pa ?n27 ?n28
  case n27 => exact pe_str
  case n28 => exact pa_nil
  case' n25 => refine' pa ?n29 ?n30
  case' n29 => refine' pe_tup ?n31
  case' n31 => refine' pa ?n32 ?n33
  case n32 => exact pe_str
  case n33 => exact pa_nil
  case' n30 => refine' pa ?n34 ?n35
  case' n34 => refine' pe_tup ?n36
  case' n36 => refine' pa ?n37 ?n38
  case n37 => exact pe_str
  case n38 => exact pa_nil
  case n35 => exact pa_nil
  case' n22 => refine' pe_op op_mod ?n39 ?n40
  case n39 => exact pv 2
  case n40 => exact pe_int
  case n10 => exact pss_nil
  case' n7 => refine' pss_cons ?n41 ?n42
  case' n41 => refine' ps_setX (i := 3) nd rfl (Or.inl rfl) rfl (by first | exact .inl rfl | exact .inr rfl) ?n43
  case' n43 => refine' pe_cal c_kind hr ?n44
  case' n44 => refine' pa ?n45 ?n46
  case' n45 => refine' pe_op op_mod ?n47 ?n48
  case' n47 => refine' pe_op op_addG ?n49 ?n50
  case' n49 => refine' pe_op op_mulG ?n51 ?n52
  case' n51 => refine' pe_op op_fdivG ?n53 ?n54
  case n53 => exact pv 0
  case n54 => exact pe_int
  case n52 => exact pe_int
  case n50 => exact pe_int
  case n48 => exact pe_int
  case' n46 => refine' pa ?n55 ?n56
  case' n55 => refine' pe_op op_sub ?n57 ?n58
  case n57 => exact pv 1
  case n58 => exact pe_int
  case n56 => exact pa_nil
  case' n42 => refine' pss_cons ?n59 ?n60
  case' n59 => refine' ps_if ?n61 ?n62 ?n63
  case' n61 => refine' pt_cmpR (op_eqG hr) ?n64 ?n65 (nomark _)
  case n64 => exact pv 2
  case n65 => exact pe_int
  case' n62 => refine' pss_one ?n66
  case' n66 => refine' ps_ret ?n67
  case' n67 => refine' pe_tup ?n68
  case' n68 => refine' pa ?n69 ?n70
  case n69 => exact pe_str
  case' n70 => refine' pa ?n71 ?n72
  case n71 => exact pv 3
  case n72 => exact pa_nil
  case n63 => exact pss_nil
  case' n60 => refine' pss_cons ?n73 ?n74
  case' n73 => refine' ps_setX (i := 4) nd rfl (Or.inl rfl) rfl (by first | exact .inl rfl | exact .inr rfl) ?n75
  case' n75 => refine' pe_cal c_kind hr ?n76
  case' n76 => refine' pa ?n77 ?n78
  case' n77 => refine' pe_op op_mod ?n79 ?n80
  case' n79 => refine' pe_op op_addG ?n81 ?n82
  case' n81 => refine' pe_op op_mulG ?n83 ?n84
  case' n83 => refine' pe_op op_fdivG ?n85 ?n86
  case n85 => exact pv 0
  case n86 => exact pe_int
  case n84 => exact pe_int
  case n82 => exact pe_int
  case n80 => exact pe_int
  case' n78 => refine' pa ?n87 ?n88
  case' n87 => refine' pe_op op_sub ?n89 ?n90
  case n89 => exact pv 1
  case n90 => exact pe_int
  case n88 => exact pa_nil
  case' n74 => refine' pss_one ?n91
  case' n91 => refine' ps_ret ?n92
  case' n92 => refine' pe_ix ix_seq ?n93 ?n94 (fun _ _ => rfl)
  case' n93 => refine' pe_lst ?n95
  case' n95 => refine' pa ?n96 ?n97
  case' n96 => refine' pe_tup ?n98
  case' n98 => refine' pa ?n99 ?n100
  case n99 => exact pe_str
  case' n100 => refine' pa ?n101 ?n102
  case n101 => exact pv 3
  case' n102 => refine' pa ?n103 ?n104
  case n103 => exact pv 4
  case n104 => exact pa_nil
  case' n97 => refine' pa ?n105 ?n106
  case' n105 => refine' pe_tup ?n107
  case' n107 => refine' pa ?n108 ?n109
  case n108 => exact pe_str
  case' n109 => refine' pa ?n110 ?n111
  case n110 => exact pv 3
  case n111 => exact pa_nil
  case' n106 => refine' pa ?n112 ?n113
  case' n112 => refine' pe_tup ?n114
  case' n114 => refine' pa ?n115 ?n116
  case n115 => exact pe_str
  case' n116 => refine' pa ?n117 ?n118
  case n117 => exact pv 3
  case' n118 => refine' pa ?n119 ?n120
  case n119 => exact pv 4
  case n120 => exact pa_nil
  case n113 => exact pa_nil
  case' n94 => refine' pe_op op_sub ?n121 ?n122
  case n121 => exact pv 2
  case n122 => exact pe_int
  refine ⟨_, rfl, _, _, rfl, rfl, (by show (0 : Int) < 6; decide), ?_⟩
  dsimp only [gName]
  refine seq_by (fun σ H' => 2 ≤ room ∧ 3 ≤ a % 6 ∧ H' = H ∧ σ = [some (.int a), some (.int room), some (.int (a % 6)), none, none]) (fun R hR => ?_) (fun σ H' hP => ?_)
  · have fin : ∀ D : Ends, D.rt = Q → tRet (tOp (rIx K) (tLst (tCons (tTup (tCons (tC (.str "?")) tNil)) (tCons (tTup (tCons (tC (.str "whole")) tNil)) (tCons (tTup (tCons (tC (.str "truth")) tNil)) tNil)))) (tOp (rI (fun _ j => 0 < j) fun i j => .int (i % j)) (tVar 2) (tC (.int 3)))) D [some (.int a), some (.int room), some (.int (a % 6)), none, none] H := fun D hD => by
      refine ⟨by show 1 ≤ sizeLine; decide, fun p1 hp1 => ⟨by show 1 ≤ sizeLine; decide, fun p2 hp2 => ⟨by show 1 ≤ sizeLine; decide, fun p3 hp3 => ⟨by show 3 ≤ sizeLine; decide, fun p4 hp4 => ?_⟩⟩⟩⟩
      have o1 : Old H (upd H p1 (.tup [.str "?"])) := Old.new hp1
      have o2 := Old.new (o := .tup [.str "whole"]) hp2
      have o3 := Old.new (o := .tup [.str "truth"]) hp3
      have o4 := Old.new (o := .lst [.ref p1, .ref p2, .ref p3]) hp4
      have oo := ((o1.trans o2).trans o3).trans o4
      obtain ⟨h, v, ev, hm, rv⟩ := flat3 (K := K) m0 m1 (.of (o4 _ _ (o3 _ _ (o2 _ _ upd_same)))) (.of (o4 _ _ (o3 _ _ upd_same))) (.of (o4 _ _ upd_same))
      refine ⟨_, rfl, _, _, rfl, rfl, (by show (0 : Int) < 3; decide), .inl ⟨p4, _, _, v, rfl, rfl, SqL.of upd_same, ev, ?_⟩⟩
      rw [hD]
      exact q (.mk h []) v _ rv ⟨ar0 h hm, trivial⟩ (by show ((1 + Kn.deps [] : Nat) : Int) ≤ room; exact h1) oo
    refine ⟨_, rfl, _, _, rfl, rfl, _, rfl, ?_⟩
    refine ite2 (fun c => iteT (fin _ rfl)) (fun c => ?_)
    refine ⟨_, rfl, _, _, rfl, rfl, _, rfl, ?_⟩
    refine ite2 (fun c2 => fin _ rfl) (fun c2 => ?_)
    have c' : ¬ (room < 2) := of_decide_eq_false (Bool.eq_false_iff.mpr c)
    have c2' : ¬ (a % 6 < 3) := of_decide_eq_false (Bool.eq_false_iff.mpr c2)
    exact hR _ _ ⟨by omega, by omega, rfl, rfl⟩
  obtain ⟨r2, h3, rfl, rfl⟩ := hP
  refine ⟨_, rfl, _, _, rfl, rfl, .inl ⟨by decide, by decide⟩, .inr ⟨_, _, rfl, rfl, .inr ⟨by decide, by decide⟩, .inr (.inl ⟨_, _, rfl, rfl, _, _, rfl, rfl, (by show (0 : Int) < 1000003; decide), _, rfl, _, _, rfl, rfl, _, _, rfl, by omega, by omega, fun t v1 H2 r1 w1 d1 o5 => ?_⟩)⟩⟩
  refine ⟨_, rfl, .inr (.inl ⟨rfl, _, rfl, ?_⟩)⟩
  rw [dec_int]
  refine ite2 (fun c => ?_) (fun c => ?_)
  · refine ⟨_, rfl, by show 2 ≤ sizeLine; decide, fun p hp => ?_⟩
    have u1 := Old.new (o := .tup [.str "row", v1]) hp
    exact q (.mk "row" [t]) _ _ (RK.tup (.of upd_same) (.cons (.s _) (.cons (r1.mono u1.tm) .nil))) ⟨ar1, w1, trivial⟩ (by show ((1 + max t.dep 0 : Nat) : Int) ≤ room; omega) (o5.trans u1)
  refine ⟨_, rfl, _, _, rfl, rfl, .inl ⟨by decide, by decide⟩, .inr ⟨_, _, rfl, rfl, .inr ⟨by decide, by decide⟩, .inr (.inl ⟨_, _, rfl, rfl, _, _, rfl, rfl, (by show (0 : Int) < 999983; decide), _, rfl, _, _, rfl, rfl, _, _, rfl, by omega, by omega, fun t' v2 H3 r2' w2 d2 o6 => ?_⟩)⟩⟩
  refine ⟨_, rfl, _, rfl, by show 3 ≤ sizeLine; decide, fun q1 hq1 => ⟨_, rfl, by show 2 ≤ sizeLine; decide, fun q2 hq2 => ⟨_, rfl, _, rfl, by show 3 ≤ sizeLine; decide, fun q3 hq3 => ⟨by show 3 ≤ sizeLine; decide, fun q4 hq4 => ?_⟩⟩⟩⟩
  have u1 : Old H3 (upd H3 q1 (.tup [.str "to", v1, v2])) := Old.new hq1
  have u2 := Old.new (o := .tup [.str "row", v1]) hq2
  have u3 := Old.new (o := .tup [.str "pair", v1, v2]) hq3
  have u4 := Old.new (o := .lst [.ref q1, .ref q2, .ref q3]) hq4
  have uu := ((u1.trans u2).trans u3).trans u4
  obtain ⟨u, x, ex, wu, du, ru⟩ := deep3 (K := K) (i := a % 6 - 3) (by omega) (by omega) ((r1.mono o6.tm).mono uu.tm) (r2'.mono uu.tm) w1 w2 (.of (u4 _ _ (u3 _ _ (u2 _ _ upd_same)))) (.of (u4 _ _ (u3 _ _ upd_same))) (.of (u4 _ _ upd_same))
  refine ⟨_, rfl, _, _, rfl, rfl, .inl ⟨q4, _, _, x, rfl, rfl, SqL.of upd_same, ex, ?_⟩⟩
  exact q u x _ ru wu (by omega) ((o5.trans o6).trans uu)
end
end L2.K81

end
section
set_option Elab.async false
set_option linter.all false
set_option maxRecDepth 100000
set_option maxHeartbeats 8000000
namespace L2.K81
open PySem PySem.Spec PyProof.Rows L2.Bw L2.Bk L2.Ex
/-- how many nodes there may be -/
noncomputable def nn : Nat → Nat
  | 0 => 0
  | r + 1 => 1 + 4 * nn r
noncomputable def wl : List Str := ["fn", "self", "as", "row", "call", "let", "if", "do", "at", "size", "pair", "one", "two", "as", "self"]
noncomputable def tabM (k : Int) : List (Key × V) := [(.inr "call", .int 2), (.inr "let", .int 2), (.inr "if", .int 3), (.inr "do", .int 2), (.inr "row", .int k), (.inr "at", .int 2), (.inr "pair", .int 2)]
noncomputable def manyOf (x : Str) (k : Int) : Int := if x = "row" then k else if x = "if" then 3 else if x ∈ (["call", "let", "do", "at", "pair"] : List Str) then 2 else 1
theorem np_wl : ∀ x ∈ wl, x ≠ "row" → K11.np x = (if x = "if" then 3 else if x ∈ (["call", "let", "do", "at", "pair"] : List Str) then 2 else 1) := by decide +kernel
theorem wl_facts : ∀ x ∈ wl, x ∈ K11.words ∧ x ≠ "look" ∧ x ≠ "truth" ∧ K11.nf x = (if x = "fn" then 1 else if x = "self" then 2 else if x = "let" then 1 else if x = "do" then 1 else 0) ∧ K11.nk x = (if x = "fn" then 1 else if x = "self" then 2 else if x = "row" then 1 else if x = "as" then 1 else 0) := by decide +kernel
theorem tabM_at (k : Int) : ∀ x ∈ wl, (valV (mergeK [] (tabM k)) (.inr x)).getD (.int 1) = .int (manyOf x k) := by
  have e : mergeK [] (tabM k) = tabM k := rfl
  rw [e]
  intro x hx
  simp only [wl, List.mem_cons, List.not_mem_nil, or_false] at hx
  rcases hx with rfl | rfl | rfl | rfl | rfl | rfl | rfl | rfl | rfl | rfl | rfl | rfl | rfl | rfl | rfl <;> rfl
theorem many_le {x : Str} {k : Int} (h0 : 0 ≤ k) (h1 : k < 5) : 0 ≤ manyOf x k ∧ manyOf x k ≤ 4 := by
  unfold manyOf
  split
  · omega
  split
  · omega
  split <;> omega
/-- a node that the maker puts together -/
theorem node_ok {x : Str} {p : Int} {fr : List Str} {ks : List Kn} {ts : List Tk} {r0 : Nat} (hx : x ∈ wl) (p0 : 0 ≤ p) (p1 : p < 9973) (lf : fr.length = K11.nf x) (lk : ks.length = K11.nk x) (wk : Kn.wfs ks) (dk : Kn.deps ks ≤ 3) (lp : x ≠ "row" → ts.length = K11.np x) (l4 : ts.length ≤ 4) (wts : Tn.wfs (Tk.tns ts)) (ots : Tk.oks ts) (rts : Tk.trus ts) (dts : Tn.deps (Tk.tns ts) ≤ r0) (sts : Tk.sps ts ≤ ts.length * (14 * nn r0)) :
    (Tk.mk x p (fr.map Dk.str) ks ts).tn.wf ∧ (Tk.mk x p (fr.map Dk.str) ks ts).ok ∧ (Tk.mk x p (fr.map Dk.str) ks ts).tru ∧ (Tk.mk x p (fr.map Dk.str) ks ts).tn.dep ≤ r0 + 1 ∧ (Tk.mk x p (fr.map Dk.str) ks ts).sp ≤ 14 * nn (r0 + 1) := by
  obtain ⟨f1, f2, f3, f4, f5⟩ := wl_facts x hx
  refine ⟨⟨⟨f1, by rw [List.length_map]; exact lf, by rw [ds_length]; exact lk, fun z => by rw [tns_length]; exact lp z, by rw [tns_length]; omega, fun _ => ⟨fr, rfl⟩, p0, by omega⟩, wts⟩, ⟨⟨wk, by omega, fun d hd => ?_, f2⟩, ots⟩, ⟨fun z => absurd z f3, rts⟩, ?_, ?_⟩
  · obtain ⟨z, _, rfl⟩ := List.mem_map.mp hd
    rfl
  · show 1 + Tn.deps (Tk.tns ts) ≤ r0 + 1
    omega
  · show Kn.sps ks + Tk.sps ts ≤ 14 * (1 + 4 * nn r0)
    have z := sps_le wk
    have k2 : ks.length ≤ 2 := by
      rw [lk, f5]
      split
      · decide
      split
      · decide
      split
      · decide
      split <;> decide
    have z2 : 2 ^ Kn.deps ks ≤ 2 ^ 3 := Nat.pow_le_pow_right (by decide) dk
    have z3 : ks.length * 2 ^ Kn.deps ks ≤ 2 * 2 ^ 3 := Nat.mul_le_mul k2 z2
    have z4 : ts.length * (14 * nn r0) ≤ 4 * (14 * nn r0) := Nat.mul_le_mul_right _ l4
    by_cases c : ks.length = 2
    · omega
    · have z5 : ks.length * 2 ^ Kn.deps ks ≤ 1 * 2 ^ 3 := Nat.mul_le_mul (by omega) z2
      omega
section
variable {P : Program} {w : World} {K : PySem.W.Frag} {mg : Str → Option Value} {base : Heap} {f : Addr} {fd : FuncData}
/-! ### leaf -/
noncomputable abbrev sLeaf : Stmt := top 40
/-- what comes of the maker -/
structure Mt (K : PySem.W.Frag) (H : Hp) (v : V) (t : Tk) (dep sp : Nat) : Prop where
  r : RK K H t.tn.d v
  wf : t.tn.wf
  ok : t.ok
  tru : t.tru
  dep : t.tn.dep ≤ dep
  sp : t.sp ≤ sp
noncomputable def spLeaf (K : PySem.W.Frag) : Sp := fun vs H Q _ => ∃ (p c : Int), vs = [.int p, .int c] ∧ 0 ≤ p ∧ p < 9973 ∧ 0 ≤ c ∧ ∀ (t : Tk) (v : V) (H' : Hp), Old H H' → Mt K H' v t 1 0 → Q v H'
theorem scLeaf : FnScope ["_law_place_here", "_law_cell"] ["_law_place_here", "_law_cell"] (defScope sLeaf) := ⟨rfl, rfl, rfl, by decide +kernel, rfl, by decide +kernel, by decide +kernel⟩
theorem leaf_facts : ∀ x ∈ (["whole", "truth", "given", "name"] : List Str), x ∈ K11.words ∧ K11.nf x = 1 ∧ K11.nk x = 0 ∧ K11.np x = 0 ∧ x ≠ "look" ∧ x ≠ "row" := by decide +kernel
theorem leaf_ok {H : Hp} {v : V} {x : Str} {p : Int} {d : Dk} (hx : x ∈ (["whole", "truth", "given", "name"] : List Str)) (p0 : 0 ≤ p) (p1 : p < 9973) (fd : d.flat = true) (hn : x ∈ named → ∃ s, d = .str s) (ht : x = "truth" → ∃ b, d = .bl b) (r : RK K H (.tup [.str x, .int p, d]) v) : Mt K H v (.mk x p [d] [] []) 1 0 := by
  obtain ⟨f1, f2, f3, f4, f5, f6⟩ := leaf_facts x hx
  refine ⟨?_, ⟨⟨f1, f2.symm, f3.symm, fun _ => f4.symm, by decide, fun z => ?_, p0, by omega⟩, trivial⟩, ⟨⟨trivial, by decide, fun e he => by rw [List.mem_singleton.mp he]; exact fd, f5⟩, trivial⟩, ⟨fun z => ?_, trivial⟩, Nat.le_refl _, Nat.le_refl _⟩
  · show RK K H (.tup (.str x :: .int p :: ([d] ++ [] ++ (if x = "row" then [.tup []] else [])))) v
    rw [if_neg f6]
    exact r
  · obtain ⟨s, rfl⟩ := hn z
    exact ⟨[s], rfl⟩
  · obtain ⟨b, rfl⟩ := ht z
    exact ⟨b, rfl⟩
theorem ok_leaf {n : Nat} (F : Fun K "_law_leaf" "_law_leaf" sLeaf f fd) (T : Tx mg) : FnOk P w K mg base CX0 (n + 1) f fd ["_law_place_here", "_law_cell"] (spLeaf K) := by
  refine F.ok scLeaf (fun vs H Q E h => ?_) (fun cdv A outer s H vs Q E hr h => ?_)
  · obtain ⟨p, c, rfl, _⟩ := h
    rfl
  obtain ⟨p, c, rfl, p0, p1, c0, q⟩ := h
  have nd := scLeaf.nd
  have e8 : (Str.ofString "abcdefgh").length = 8 := by decide +kernel
  refine' ⟨_, ?n0, ?Z⟩
  case' n0 => refine' pss_cons ?n1 ?n2
  case' n1 => refine' ps_if ?n3 ?n4 ?n5
  case' n3 => refine' pt_cmpR (op_eqG hr) ?n6 ?n7 (nomark _)
  case' n6 => refine' pe_op op_mod ?n8 ?n9
  case n8 => exact pv 1
  case n9 => exact pe_int
  case n7 => exact pe_int
  case' n4 => refine' pss_one ?n10
  case' n10 => refine' ps_ret ?n11
  case' n11 => refine' pe_tup ?n12
  case' n12 => refine' pa ?n13 ?n14
  case n13 => exact pe_str
  case' n14 => refine' pa ?n15 ?n16
  case n15 => exact pv 0
  case' n16 => refine' pa ?n17 ?n18
  case' n17 => refine' pe_op op_sub ?n19 ?n20
  case' n19 => refine' pe_op op_mod ?n21 ?n22
  case n21 => exact pv 1
  case n22 => exact pe_int
  case n20 => exact pe_int
  case n18 => exact pa_nil
  case n5 => exact pss_nil
  case' n2 => refine' pss_cons ?n23 ?n24
  case' n23 => refine' ps_if ?n25 ?n26 ?n27
  case' n25 => refine' pt_cmpR (op_eqG hr) ?n28 ?n29 (nomark _)
  case' n28 => refine' pe_op op_mod ?n30 ?n31
  case n30 => exact pv 1
  case n31 => exact pe_int
  case n29 => exact pe_int
  case' n26 => refine' pss_one ?n32
  case' n32 => refine' ps_ret ?n33
  case' n33 => refine' pe_tup ?n34
  case' n34 => refine' pa ?n35 ?n36
  case n35 => exact pe_str
  case' n36 => refine' pa ?n37 ?n38
  case n37 => exact pv 0
  case' n38 => refine' pa ?n39 ?n40
  case' n39 => refine' pe_cmpR (op_eqG hr) ?n41 ?n42 (nomark _)
  case' n41 => refine' pe_op op_mod ?n43 ?n44
  case' n43 => refine' pe_op op_fdivG ?n45 ?n46
  case n45 => exact pv 1
  case n46 => exact pe_int
  case n44 => exact pe_int
  case n42 => exact pe_int
  case n40 => exact pa_nil
  case n27 => exact pss_nil
  case' n24 => refine' pss_cons ?n47 ?n48
  case' n47 => refine' ps_if ?n49 ?n50 ?n51
  case' n49 => refine' pt_cmpR (op_eqG hr) ?n52 ?n53 (nomark _)
  case' n52 => refine' pe_op op_mod ?n54 ?n55
  case n54 => exact pv 1
  case n55 => exact pe_int
  case n53 => exact pe_int
  case' n50 => refine' pss_one ?n56
  case' n56 => refine' ps_ret ?n57
  case' n57 => refine' pe_tup ?n58
  case' n58 => refine' pa ?n59 ?n60
  case n59 => exact pe_str
  case' n60 => refine' pa ?n61 ?n62
  case n61 => exact pv 0
  case' n62 => refine' pa ?n63 ?n64
  case' n63 => refine' pe_op op_mod ?n65 ?n66
  case' n65 => refine' pe_op op_fdivG ?n67 ?n68
  case n67 => exact pv 1
  case n68 => exact pe_int
  case n66 => exact pe_int
  case n64 => exact pa_nil
  case n51 => exact pss_nil
  case' n48 => refine' pss_one ?n69
  case' n69 => refine' ps_ret ?n70
  case' n70 => refine' pe_tup ?n71
  case' n71 => refine' pa ?n72 ?n73
  case n72 => exact pe_str
  case' n73 => refine' pa ?n74 ?n75
  case n74 => exact pv 0
  case' n75 => refine' pa ?n76 ?n77
  case' n76 => refine' pe_slice sl_a ?n78 ?n79 ?n80
  case n78 => exact pe_str
  case' n79 => refine' po_some ?n81
  case' n81 => refine' pe_op op_mod ?n82 ?n83
  case' n82 => refine' pe_op op_fdivG ?n84 ?n85
  case n84 => exact pv 1
  case n85 => exact pe_int
  case n83 => exact pe_int
  case' n80 => refine' po_some ?n86
  case' n86 => refine' pe_op op_addG ?n87 ?n88
  case n87 => exact pe_int
  case' n88 => refine' pe_op op_mod ?n89 ?n90
  case' n89 => refine' pe_op op_fdivG ?n91 ?n92
  case n91 => exact pv 1
  case n92 => exact pe_int
  case n90 => exact pe_int
  case n77 => exact pa_nil
  refine ⟨_, rfl, _, _, rfl, rfl, (by show (0 : Int) < 4; decide), .inr (.inl ⟨rfl, _, rfl, ?_⟩)⟩
  refine ite2 (fun _ => ?_) (fun _ => ?_)
  · refine ⟨_, rfl, _, rfl, _, _, rfl, rfl, (by show (0 : Int) < 20011; decide), _, _, rfl, rfl, by show 3 ≤ sizeLine; decide, fun a ha => ?_⟩
    exact q _ _ _ (Old.new ha) (leaf_ok (by decide +kernel) p0 p1 rfl (fun z => absurd z (by decide +kernel)) (fun z => absurd z (by decide +kernel)) (RK.tup (.of upd_same) (.cons (.s _) (.cons (.i _) (.cons (.i _) .nil)))))
  refine ⟨_, rfl, _, _, rfl, rfl, (by show (0 : Int) < 4; decide), .inr (.inl ⟨rfl, _, rfl, ?_⟩)⟩
  refine ite2 (fun _ => ?_) (fun _ => ?_)
  · refine ⟨_, rfl, _, rfl, _, _, rfl, rfl, .inl ⟨by decide, by decide⟩, _, _, rfl, rfl, (by show (0 : Int) < 2; decide), .inr (.inl ⟨rfl, by show 3 ≤ sizeLine; decide, fun a ha => ?_⟩)⟩
    exact q _ _ _ (Old.new ha) (leaf_ok (by decide +kernel) p0 p1 rfl (fun z => absurd z (by decide +kernel)) (fun _ => ⟨_, rfl⟩) (RK.tup (.of upd_same) (.cons (.s _) (.cons (.i _) (.cons (.b _) .nil)))))
  refine ⟨_, rfl, _, _, rfl, rfl, (by show (0 : Int) < 4; decide), .inr (.inl ⟨rfl, _, rfl, ?_⟩)⟩
  refine ite2 (fun _ => ?_) (fun _ => ?_)
  · refine ⟨_, rfl, _, rfl, _, _, rfl, rfl, .inl ⟨by decide, by decide⟩, _, _, rfl, rfl, (by show (0 : Int) < 8; decide), by show 3 ≤ sizeLine; decide, fun a ha => ?_⟩
    exact q _ _ _ (Old.new ha) (leaf_ok (by decide +kernel) p0 p1 rfl (fun z => absurd z (by decide +kernel)) (fun z => absurd z (by decide +kernel)) (RK.tup (.of upd_same) (.cons (.s _) (.cons (.i _) (.cons (.i _) .nil)))))
  · refine ⟨_, rfl, _, rfl, _, _, rfl, rfl, .inl ⟨by decide, by decide⟩, _, _, rfl, rfl, (by show (0 : Int) < 4; decide), _, rfl, _, rfl, _, _, rfl, rfl, .inl ⟨by decide, by decide⟩, _, _, rfl, rfl, (by show (0 : Int) < 5; decide), .inr (.inl ⟨_, _, rfl, rfl, _, rfl, .inr ⟨_, rfl, small (by rw [e8]; decide), by show 3 ≤ sizeLine; decide, fun a ha => ?_⟩⟩)⟩
    exact q _ _ _ (Old.new ha) (leaf_ok (by decide +kernel) p0 p1 rfl (fun _ => ⟨_, rfl⟩) (fun z => absurd z (by decide +kernel)) (RK.tup (.of upd_same) (.cons (.s _) (.cons (.i _) (.cons (.s _) .nil)))))
end
end L2.K81

end
section
set_option Elab.async false
set_option linter.all false
set_option maxRecDepth 100000
set_option maxHeartbeats 8000000
namespace L2.K81
open PySem PySem.Spec PyProof.Rows L2.Bw L2.Bk L2.Ex
theorem str8 : (Str.ofString "abcdefgh").length ≤ sizeLine := by
  have e8 : (Str.ofString "abcdefgh").length = 8 := by decide +kernel
  exact small (by rw [e8]; decide)
theorem old_disp {H : Hp} {d : Addr} {o o' : HO} (hd : H d = none) : Old H (upd (upd H d o) d o') := fun b x e => by rw [upd_ne (ne_of_none e hd), upd_ne (ne_of_none e hd)]; exact e
section
variable {P : Program} {w : World} {K : PySem.W.Frag} {mg : Str → Option Value} {base : Heap} {f : Addr} {fd : FuncData}
theorem Mt.mono {H : Hp} {v : V} {t : Tk} {d s d' s' : Nat} (h : Mt K H v t d s) (hd : d ≤ d') (hs : s ≤ s') : Mt K H v t d' s' := ⟨h.r, h.wf, h.ok, h.tru, Nat.le_trans h.dep hd, Nat.le_trans h.sp hs⟩
/-! ### made -/
noncomputable abbrev sMade : Stmt := top 41
noncomputable def spMade (K : PySem.W.Frag) (m : Nat) : Sp := fun vs H Q _ => ∃ (d a : Addr) (ns : List Int) (i b c : Int) (room : Nat), vs = [.ref d, .int room] ∧ Dl K H d a ns i b c ∧ 1 ≤ room ∧ room < m ∧
  ∀ (t : Tk) (v : V) (H' : Hp) (i' c' : Int), Gr (M1 d) H H' → Dl K H' d a ns i' b c' → Mt K H' v t room (14 * nn room) → Q v H'
theorem scMade : FnScope ["_law_deal", "_law_room", "_law_cell", "_law_place_here", "_law_words", "_law_word", "_law_kind_here", "_law_name", "_law_many", "_law_nodes"] ["_law_deal", "_law_room"] (defScope sMade) := ⟨rfl, rfl, rfl, by decide +kernel, rfl, by decide +kernel, by decide +kernel⟩
theorem node_d {x : Str} {p : Int} {fr : List Str} {ks : List Kn} {ts : List Tk} (h : x ≠ "row") : (Tk.mk x p (fr.map Dk.str) ks ts).tn.d = .tup ((.str x :: .int p :: (fr.map Dk.str ++ Kn.ds ks)) ++ Tn.ds (Tk.tns ts)) := by
  show Dk.tup (.str x :: .int p :: (fr.map Dk.str ++ Kn.ds ks ++ (if x = "row" then [.tup (Tn.ds (Tk.tns ts))] else Tn.ds (Tk.tns ts)))) = _
  rw [if_neg h]
  rfl
theorem ok_made {m : Nat} (F : Fun K "_law_made" "_law_made" sMade f fd) (T : Tx mg) (c_next : Cal P w K mg base "_law_next" ["_law_deal"] 1 (spNext K)) (c_place : Cal P w K mg base "_law_place" ["_law_deal"] 1 (spPlace K)) (c_leaf : Cal P w K mg base "_law_leaf" ["_law_place_here", "_law_cell"] 1 (spLeaf K)) (c_kind : Cal P w K mg base "_law_kind" ["_law_cell", "_law_room"] 8 (spKind K 7)) (c_made : Cal P w K mg base "_law_made" ["_law_deal", "_law_room"] (m + 8) (spMade K m)) :
    FnOk P w K mg base CX0 (m + 9) f fd ["_law_deal", "_law_room"] (spMade K (m + 1)) := by
  refine F.ok scMade (fun vs H Q E h => ?_) (fun cdv A outer s H vs Q E hr h => ?_)
  · obtain ⟨d, a, ns, i, b, c, room, rfl, _⟩ := h
    rfl
  obtain ⟨d, a, ns, i, b, c, room, rfl, D, r1, rm, q⟩ := h
  have nd := scMade.nd
  refine' ⟨_, ?n0, ?Z⟩
  case' n0 => refine' pss_cons ?n1 ?n2
  case' n1 => refine' ps_setX (i := 2) nd rfl (Or.inl rfl) rfl (by first | exact .inl rfl | exact .inr rfl) ?n3
  case' n3 => refine' pe_cal c_next hr ?n4
  case' n4 => refine' pa ?n5 ?n6
  case n5 => exact pv 0
  case n6 => exact pa_nil
  case' n2 => refine' pss_cons ?n7 ?n8
  case' n7 => refine' ps_setX (i := 3) nd rfl (Or.inl rfl) rfl (by first | exact .inl rfl | exact .inr rfl) ?n9
  case' n9 => refine' pe_cal c_place hr ?n10
  case' n10 => refine' pa ?n11 ?n12
  case n11 => exact pv 0
  case n12 => exact pa_nil
  case' n8 => refine' pss_cons ?n13 ?n14
  case' n13 => refine' Bx.out ?n15x
  case' n13 => refine' bx1 (ps_setX (i := 4) ?n15xa ?n15xb ?n15xc ?n15xd ?n15xe) ?n15xf
  case n15xa => exact nd
  case n15xb => exact rfl
  case n15xc => exact (Or.inl rfl)
  case n15xd => exact rfl
  case n15xe => first | exact .inl rfl | exact .inr rfl
  case n15xf => exact (bxlst (bxs (bxs (bxs (bxs (bxs (bxs (bxs (bxs (bxs (bxs (bxs (bxs (bxs (bxs (bxs bxnil))))))))))))))))
  case' n14 => refine' pss_cons ?n16 ?n17
  case' n16 => refine' ps_setX (i := 5) nd rfl (Or.inl rfl) rfl (by first | exact .inl rfl | exact .inr rfl) ?n18
  case' n18 => refine' pe_ix ix_seq ?n19 ?n20 (fun _ _ => rfl)
  case n19 => exact pv 4
  case' n20 => refine' pe_op op_mod ?n21 ?n22
  case n21 => exact pv 2
  case n22 => exact pe_int
  case' n17 => refine' pss_cons ?n23 ?n24
  case' n23 => refine' ps_setX (i := 2) nd rfl (Or.inl rfl) rfl (by first | exact .inl rfl | exact .inr rfl) ?n25
  case' n25 => refine' pe_op op_fdivG ?n26 ?n27
  case n26 => exact pv 2
  case n27 => exact pe_int
  case' n24 => refine' pss_cons ?n28 ?n29
  case' n28 => refine' ps_if ?n30 ?n31 ?n32
  case' n30 => refine' PW.pt ?n33
  case' n33 => refine' pw_or ?n34 ?n35
  case' n34 => refine' pt_cmpR op_lt ?n36 ?n37 (nomark _)
  case n36 => exact pv 1
  case n37 => exact pe_int
  case' n35 => refine' pw_or ?n38 ?n39
  case' n38 => refine' pt_cmpR op_gt ?n40 ?n41 (nomark _)
  case' n40 => refine' pe_ix ix_seq ?n42 ?n43 (fun _ _ => rfl)
  case n42 => exact pv 0
  case n43 => exact pe_int
  case n41 => exact pe_int
  case' n39 => refine' pw_or1 ?n44
  case' n44 => refine' pt_cmpR op_ge ?n45 ?n46 (nomark _)
  case' n45 => refine' pe_ix ix_seq ?n47 ?n48 (fun _ _ => rfl)
  case n47 => exact pv 0
  case n48 => exact pe_int
  case' n46 => refine' pe_callB (call_lenA) rfl T.len boot_len ?n49
  case' n49 => refine' pa ?n50 ?n51
  case' n50 => refine' pe_ix ix_seq ?n52 ?n53 (fun _ _ => rfl)
  case n52 => exact pv 0
  case n53 => exact pe_int
  case n51 => exact pa_nil
  case' n31 => refine' pss_one ?n54
  case' n54 => refine' ps_ret ?n55
  case' n55 => refine' pe_cal c_leaf hr ?n56
  case' n56 => refine' pa ?n57 ?n58
  case n57 => exact pv 3
  case' n58 => refine' pa ?n59 ?n60
  case n59 => exact pv 2
  case n60 => exact pa_nil
  case n32 => exact pss_nil
  case' n29 => refine' pss_cons ?n61 ?n62
  case' n61 => refine' ps_setX (i := 6) nd rfl (Or.inl rfl) rfl (by first | exact .inl rfl | exact .inr rfl) ?n63
  case' n63 => refine' pe_cal c_kind hr ?n64
  case' n64 => refine' pa ?n65 ?n66
  case' n65 => refine' pe_op op_mod ?n67 ?n68
  case' n67 => refine' pe_op op_fdivG ?n69 ?n70
  case n69 => exact pv 2
  case n70 => exact pe_int
  case n68 => exact pe_int
  case' n66 => refine' pa ?n71 ?n72
  case n71 => exact pe_int
  case n72 => exact pa_nil
  case' n62 => refine' pss_cons ?n73 ?n74
  case' n73 => refine' ps_setX (i := 7) nd rfl (Or.inl rfl) rfl (by first | exact .inl rfl | exact .inr rfl) ?n75
  case' n75 => refine' pe_slice sl_a ?n76 ?n77 ?n78
  case n76 => exact pe_str
  case' n77 => refine' po_some ?n79
  case' n79 => refine' pe_op op_mod ?n80 ?n81
  case n80 => exact pv 2
  case n81 => exact pe_int
  case' n78 => refine' po_some ?n82
  case' n82 => refine' pe_op op_addG ?n83 ?n84
  case n83 => exact pe_int
  case' n84 => refine' pe_op op_mod ?n85 ?n86
  case' n85 => refine' pe_op op_fdivG ?n87 ?n88
  case n87 => exact pv 2
  case n88 => exact pe_int
  case n86 => exact pe_int
  case' n74 => refine' pss_cons ?n89 ?n90
  case' n89 => refine' Bx.out ?n91x
  case' n89 => refine' bx1 (ps_setX (i := 8) ?n91xa ?n91xb ?n91xc ?n91xd ?n91xe) ?n91xf
  case n91xa => exact nd
  case n91xb => exact rfl
  case n91xc => exact (Or.inl rfl)
  case n91xd => exact rfl
  case n91xe => first | exact .inl rfl | exact .inr rfl
  case n91xf => exact bxdget2 hr.u1 (bxdisp (bxpv bxint (bxpv bxint (bxpv bxint (bxpv bxint (bxpv (bx0 (pe_op op_mod (pv 2) pe_int)) (bxpv bxint (bxpv bxint bxpnil))))))) rfl rfl (fun z => nomatch z) (by decide)) (bx0 (pv 5)) (bx0 pe_int) ⟨rfl, rfl, rfl, rfl⟩
  case' n90 => refine' pss_cons ?n92 ?n93
  case' n92 => refine' ps_setX (i := 9) nd rfl (Or.inl rfl) rfl (by first | exact .inl rfl | exact .inr rfl) ?n94
  case' n94 => refine' pe_callTy (call_tuple_of) rfl T.tuple boot_tuple ?n95
  case' n95 => refine' pa ?n96 ?n97
  case' n96 => refine' pe_lc (k := 1) (N := ["_law_k", "_law_deal", "_law_room", "_law_cell", "_law_place_here", "_law_words", "_law_word", "_law_kind_here", "_law_name", "_law_many", "_law_nodes"]) (lc_mk rfl rfl rfl rfl rfl rfl) rfl ?n98 (fun _ _ _ _ => ?n99) (fun _ _ _ _ => ?n100) (fun _ _ _ _ => ?n101)
  case' n98 => refine' pi_range1 rfl T.range ?n102
  case' n102 => refine' pa ?n103 ?n104
  case n103 => exact pv 8
  case n104 => exact pa_nil
  case n99 => exact pg_name (i := 0) (by show List.Nodup (["_law_k", "_law_deal", "_law_room", "_law_cell", "_law_place_here", "_law_words", "_law_word", "_law_kind_here", "_law_name", "_law_many", "_law_nodes"] : List Str); decide +kernel) rfl (Or.inl rfl)
  case n100 => exact pts_nil
  case n101 =>
    refine' pe_cal c_made hr ?n105
    case' n105 => refine' pa ?n106 ?n107
    case n106 => exact pv 1
    case' n107 => refine' pa ?n108 ?n109
    case' n108 => refine' pe_op op_sub ?n110 ?n111
    case n110 => exact pv 2
    case n111 => exact pe_int
    case n109 => exact pa_nil
  case n97 => exact pa_nil
  case' n93 => refine' pss_cons ?n112 ?n113
  case' n112 => refine' ps_if ?n114 ?n115 ?n116
  case' n114 => refine' pt_cmpR (op_eqG hr) ?n117 ?n118 (nomark _)
  case n117 => exact pv 5
  case n118 => exact pe_str
  case' n115 => refine' pss_one ?n119
  case' n119 => refine' ps_ret ?n120
  case' n120 => refine' pe_op op_addG ?n121 ?n122
  case' n121 => refine' pe_tup ?n123
  case' n123 => refine' pa ?n124 ?n125
  case n124 => exact pv 5
  case' n125 => refine' pa ?n126 ?n127
  case n126 => exact pv 3
  case' n127 => refine' pa ?n128 ?n129
  case n128 => exact pv 7
  case' n129 => refine' pa ?n130 ?n131
  case n130 => exact pv 6
  case n131 => exact pa_nil
  case n122 => exact pv 9
  case n116 => exact pss_nil
  case' n113 => refine' pss_cons ?n132 ?n133
  case' n132 => refine' ps_if ?n134 ?n135 ?n136
  case' n134 => refine' pt_cmpR (op_eqG hr) ?n137 ?n138 (nomark _)
  case n137 => exact pv 5
  case n138 => exact pe_str
  case' n135 => refine' pss_one ?n139
  case' n139 => refine' ps_ret ?n140
  case' n140 => refine' pe_op op_addG ?n141 ?n142
  case' n141 => refine' pe_tup ?n143
  case' n143 => refine' pa ?n144 ?n145
  case n144 => exact pv 5
  case' n145 => refine' pa ?n146 ?n147
  case n146 => exact pv 3
  case' n147 => refine' pa ?n148 ?n149
  case n148 => exact pv 7
  case' n149 => refine' pa ?n150 ?n151
  case' n150 => refine' pe_slice sl_a ?n152 ?n153 ?n154
  case n152 => exact pe_str
  case' n153 => refine' po_some ?n155
  case' n155 => refine' pe_op op_mod ?n156 ?n157
  case' n156 => refine' pe_op op_fdivG ?n158 ?n159
  case n158 => exact pv 2
  case n159 => exact pe_int
  case n157 => exact pe_int
  case' n154 => refine' po_some ?n160
  case n160 => exact pe_int
  case' n151 => refine' pa ?n161 ?n162
  case n161 => exact pv 6
  case' n162 => refine' pa ?n163 ?n164
  case' n163 => refine' pe_cal c_kind hr ?n165
  case' n165 => refine' pa ?n166 ?n167
  case' n166 => refine' pe_op op_mod ?n168 ?n169
  case' n168 => refine' pe_op op_fdivG ?n170 ?n171
  case n170 => exact pv 2
  case n171 => exact pe_int
  case n169 => exact pe_int
  case' n167 => refine' pa ?n172 ?n173
  case n172 => exact pe_int
  case n173 => exact pa_nil
  case n164 => exact pa_nil
  case n142 => exact pv 9
  case n136 => exact pss_nil
  case' n133 => refine' pss_cons ?n174 ?n175
  case' n174 => refine' ps_if ?n176 ?n177 ?n178
  case' n176 => refine' pt_cmpR (op_eqG hr) ?n179 ?n180 (nomark _)
  case n179 => exact pv 5
  case n180 => exact pe_str
  case' n177 => refine' pss_one ?n181
  case' n181 => refine' ps_ret ?n182
  case' n182 => refine' pe_tup ?n183
  case' n183 => refine' pa ?n184 ?n185
  case n184 => exact pv 5
  case' n185 => refine' pa ?n186 ?n187
  case n186 => exact pv 3
  case' n187 => refine' pa ?n188 ?n189
  case n188 => exact pv 6
  case' n189 => refine' pa ?n190 ?n191
  case n190 => exact pv 9
  case n191 => exact pa_nil
  case n178 => exact pss_nil
  case' n175 => refine' pss_cons ?n192 ?n193
  case' n192 => refine' ps_if ?n194 ?n195 ?n196
  case' n194 => refine' pt_cmpR (op_eqG hr) ?n197 ?n198 (nomark _)
  case n197 => exact pv 5
  case n198 => exact pe_str
  case' n195 => refine' pss_one ?n199
  case' n199 => refine' ps_ret ?n200
  case' n200 => refine' pe_op op_addG ?n201 ?n202
  case' n201 => refine' pe_tup ?n203
  case' n203 => refine' pa ?n204 ?n205
  case n204 => exact pv 5
  case' n205 => refine' pa ?n206 ?n207
  case n206 => exact pv 3
  case' n207 => refine' pa ?n208 ?n209
  case n208 => exact pv 6
  case n209 => exact pa_nil
  case n202 => exact pv 9
  case n196 => exact pss_nil
  case' n193 => refine' pss_cons ?n210 ?n211
  case' n210 => refine' ps_if ?n212 ?n213 ?n214
  case' n212 => refine' pt_cmpR (op_eqG hr) ?n215 ?n216 (nomark _)
  case n215 => exact pv 5
  case n216 => exact pe_str
  case' n213 => refine' pss_one ?n217
  case' n217 => refine' ps_ret ?n218
  case' n218 => refine' pe_op op_addG ?n219 ?n220
  case' n219 => refine' pe_tup ?n221
  case' n221 => refine' pa ?n222 ?n223
  case n222 => exact pv 5
  case' n223 => refine' pa ?n224 ?n225
  case n224 => exact pv 3
  case' n225 => refine' pa ?n226 ?n227
  case n226 => exact pv 7
  case n227 => exact pa_nil
  case n220 => exact pv 9
  case n214 => exact pss_nil
  case' n211 => refine' pss_cons ?n228 ?n229
  case' n228 => refine' ps_if ?n230 ?n231 ?n232
  case' n230 => refine' pt_cmpR (op_eqG hr) ?n233 ?n234 (nomark _)
  case n233 => exact pv 5
  case n234 => exact pe_str
  case' n231 => refine' pss_one ?n235
  case' n235 => refine' ps_ret ?n236
  case' n236 => refine' pe_op op_addG ?n237 ?n238
  case' n237 => refine' pe_tup ?n239
  case' n239 => refine' pa ?n240 ?n241
  case n240 => exact pv 5
  case' n241 => refine' pa ?n242 ?n243
  case n242 => exact pv 3
  case' n243 => refine' pa ?n244 ?n245
  case' n244 => refine' pe_ix ix_seq ?n246 ?n247 (fun _ _ => rfl)
  case n246 => exact pe_str
  case' n247 => refine' pe_op op_mod ?n248 ?n249
  case n248 => exact pv 2
  case n249 => exact pe_int
  case n245 => exact pa_nil
  case n238 => exact pv 9
  case n232 => exact pss_nil
  case' n229 => refine' pss_one ?n250
  case' n250 => refine' ps_ret ?n251
  case' n251 => refine' pe_op op_addG ?n252 ?n253
  case' n252 => refine' pe_tup ?n254
  case' n254 => refine' pa ?n255 ?n256
  case n255 => exact pv 5
  case' n256 => refine' pa ?n257 ?n258
  case n257 => exact pv 3
  case n258 => exact pa_nil
  case n253 => exact pv 9
  refine ⟨_, rfl, d, a, ns, i, b, c, rfl, D, fun r r0 => ?_⟩
  have i0 := D.i0
  have D1 := D.put (i' := i + 1) (c' := c) (by omega)
  have g1 : Gr (M1 d) H (upd H d (.lst [.ref a, .int (i + 1), .int b, .int c])) := Gr.put rfl
  generalize upd H d (.lst [.ref a, .int (i + 1), .int b, .int c]) = H1 at D1 g1 ⊢
  refine ⟨_, rfl, d, a, ns, i + 1, b, c, rfl, D1, fun p p0 p1 => ?_⟩
  have D2 := D1.put (i' := i + 1) (c' := c + 1) (by omega)
  have g2 : Gr (M1 d) H (upd H1 d (.lst [.ref a, .int (i + 1), .int b, .int (c + 1)])) := g1.trans (Gr.put rfl)
  generalize upd H1 d (.lst [.ref a, .int (i + 1), .int b, .int (c + 1)]) = H2 at D2 g2 ⊢
  refine ⟨by show 15 ≤ sizeLine; decide, fun wa hwa => ?_⟩
  obtain ⟨x, ex, hx⟩ := atI_strs (ss := wl) (i := r % 15) (Int.emod_nonneg _ (by decide)) (Int.emod_lt_of_pos _ (by decide))
  refine ⟨_, rfl, _, rfl, _, _, rfl, rfl, (by show (0 : Int) < 15; decide), .inl ⟨wa, _, _, .str x, rfl, rfl, SqL.of upd_same, ex, ?_⟩⟩
  have o3 : Old H2 (upd H2 wa (.lst (wl.map V.str))) := Old.new hwa
  have D3 := D2.old o3
  have g3 : Gr (M1 d) H (upd H2 wa (.lst (wl.map V.str))) := g2.trans o3.gm
  change tSeq _ _ _ _ (upd H2 wa (.lst (wl.map V.str)))
  generalize upd H2 wa (.lst (wl.map V.str)) = H3 at D3 g3 ⊢
  refine ⟨_, rfl, _, _, rfl, rfl, .inl ⟨by decide, by decide⟩, ?_⟩
  have c10 : 0 ≤ r / 15 := Int.ediv_nonneg r0 (by decide)
  dsimp only [gName]
  generalize r / 15 = c1 at c10 ⊢
  refine seq_by (fun σ H' => 2 ≤ room ∧ H' = H3 ∧ σ = [some (.ref d), some (.int (room : Int)), some (.int c1), some (.int p), some (.ref wa), some (.str x), none, none, none, none]) (fun R hR => ?_) (fun σ H' hP => ?_)
  · have fin : ∀ (t : Tk) (v : V) (H' : Hp), Old H3 H' → Mt K H' v t 1 0 → Q v H' := fun t v H' o M => q t v H' _ _ (g3.trans o.gm) (D3.old o) (M.mono r1 (Nat.zero_le _))
    refine ⟨_, rfl, _, _, rfl, rfl, _, rfl, ?_⟩
    refine ite2 (fun _ => iteT ?_) (fun cc => ?_)
    · exact ⟨_, rfl, _, rfl, p, c1, rfl, p0, p1, c10, fin⟩
    refine ⟨_, rfl, .inl ⟨d, _, 3, .int (c + 1), rfl, rfl, SqL.of D3.hd, Dl.i3, _, _, rfl, rfl, _, rfl, ?_⟩⟩
    refine ite2 (fun _ => iteT ?_) (fun _ => ?_)
    · exact ⟨_, rfl, _, rfl, p, c1, rfl, p0, p1, c10, fin⟩
    refine ⟨_, rfl, .inl ⟨d, _, 1, .int (i + 1), rfl, rfl, SqL.of D3.hd, Dl.i1, _, rfl, .inl ⟨d, _, 0, .ref a, rfl, rfl, SqL.of D3.hd, at0, .inl ⟨a, _, rfl, .inl D3.ha, _, _, rfl, rfl, _, rfl, ?_⟩⟩⟩⟩
    refine ite2 (fun _ => ?_) (fun _ => ?_)
    · exact ⟨_, rfl, _, rfl, p, c1, rfl, p0, p1, c10, fin⟩
    have c' : ¬ ((room : Int) < 2) := of_decide_eq_false (Bool.eq_false_iff.mpr cc)
    exact hR _ _ ⟨by omega, rfl, rfl⟩
  obtain ⟨rm2, rfl, rfl⟩ := hP
  refine ⟨_, rfl, _, _, rfl, rfl, .inl ⟨by decide, by decide⟩, _, _, rfl, rfl, (by show (0 : Int) < 1000003; decide), _, 3, rfl, by decide, by decide, fun k kv H4 rk wk dk o4 => ?_⟩
  have D4 := D3.old o4
  have g4 := g3.trans o4.gm
  refine ⟨_, rfl, _, _, rfl, rfl, (by show (0 : Int) < 4; decide), _, rfl, _, rfl, _, _, rfl, rfl, .inl ⟨by decide, by decide⟩, _, _, rfl, rfl, (by show (0 : Int) < 5; decide), .inr (.inl ⟨_, _, rfl, rfl, _, rfl, .inr ⟨_, rfl, str8, ?_⟩⟩)⟩
  generalize Txt.slice "abcdefgh" _ _ = nm
  have k50 : 0 ≤ c1 % 5 := Int.emod_nonneg _ (by decide)
  have k51 : c1 % 5 < 5 := Int.emod_lt_of_pos _ (by decide)
  refine fun dd hdd => ⟨_, rfl, _, _, rfl, rfl, (by show (0 : Int) < 5; decide), upd_same, tabM (c1 % 5), rfl, by show 7 ≤ 15; decide, dd, rfl, .inl ⟨_, .inl upd_same⟩, _, rfl, _, DGet.k (k := .inr x) upd_same, ?_⟩
  rw [tabM_at (c1 % 5) x hx]
  obtain ⟨my0, my4⟩ := many_le (x := x) k50 k51
  have o5 : Old H4 (upd (upd H4 dd (.dK [])) dd (.dK (mergeK [] (tabM (c1 % 5))))) := old_disp hdd
  have D5 := D4.old o5
  have g5 := g4.trans (o5.gm (M := M1 d))
  have rk5 := rk.mono o5.tm
  generalize upd (upd H4 dd (.dK [])) dd (.dK (mergeK [] (tabM (c1 % 5)))) = H5 at D5 g5 rk5 ⊢
  obtain ⟨ky, eky⟩ : ∃ ky : Nat, manyOf x (c1 % 5) = (ky : Int) := ⟨(manyOf x (c1 % 5)).toNat, by omega⟩
  have np' : x ≠ "row" → ky = K11.np x := fun z => by
    have := np_wl x hx z
    unfold manyOf at eky
    rw [if_neg z] at eky
    rw [this]
    split at eky
    · rename_i h; rw [if_pos h]; omega
    · rename_i h
      rw [if_neg h]
      split at eky
      · rename_i h; rw [if_pos h]; omega
      · rename_i h; rw [if_neg h]; omega
  rw [eky] at my0 my4 ⊢
  have hd0 : H d ≠ none := fun z => by rw [D.hd] at z; cases z
  obtain ⟨r0', rfl⟩ : ∃ r0', room = r0' + 1 := ⟨room - 1, by omega⟩
  refine ⟨_, rfl, ky, rfl, by omega, by omega, fun D9 hD9 => ?_⟩
  have nD9 : D9 ≠ d := fun z => by rw [z, D5.hd] at hD9; cases hD9
  refine lc_by0 (n := ky) (fun j σ H6 => ∃ (k1 : Option V) (ts : List Tk) (tv : List V) (i' c' : Int), σ = [k1, some (.ref d), some (.int ((r0' + 1 : Nat) : Int)), some (.int c1), some (.int p), some (.ref wa), some (.str x), some kv, some (.str nm), some (.int (ky : Int)), none] ∧ Gr (M1 d) H5 H6 ∧ Dl K H6 d a ns i' b c' ∧ H6 D9 = some (.lst tv) ∧ RKs K H6 (Tn.ds (Tk.tns ts)) tv ∧ ts.length = j ∧ Tn.wfs (Tk.tns ts) ∧ Tk.oks ts ∧ Tk.trus ts ∧ Tn.deps (Tk.tns ts) ≤ r0' ∧ Tk.sps ts ≤ j * (14 * nn r0'))
    ⟨none, [], [], _, _, rfl, Gr.new hD9, D5.old (Old.new hD9), upd_same, .nil, rfl, trivial, trivial, trivial, Nat.zero_le _, Nat.zero_le _⟩ ?_ ?_ ?_ ?_
  · intro j σ H6 hj hv
    exact hj
  · intro σ H6 hv
    exact Nat.le_refl _
  · intro j σ H6 hj hv y H7 hy
    obtain ⟨k1, ts, tv, i', c', rfl, g6, D6, hD6, rts, lts, wts, ots, uts, dts, sts⟩ := hv
    obtain ⟨rfl, rfl⟩ := hy
    refine ⟨_, rfl, _, rfl, _, _, rfl, rfl, d, a, ns, i', b, c', r0', ?_, D6, by omega, by omega, fun t v H8 i8 c8 g8 D8 M8 => ?_⟩
    · show [V.ref d, V.int (((r0' + 1 : Nat) : Int) - 1)] = _
      rw [show ((r0' + 1 : Nat) : Int) - 1 = (r0' : Int) by omega]
    have hD8 : H8 D9 = some (.lst tv) := g8 _ _ hD6 nD9
    have ltv := rts.length
    rw [ktd_len] at ltv
    have tm8 := g8.tm1 D6.hd
    have tm9 : Tm H8 (upd H8 D9 (.lst (tv ++ [v]))) := (Gr.put (M := M1 D9) rfl).tm1 hD8
    have sM := M8.sp
    have dM := M8.dep
    refine ⟨_, hD8, smallM (by omega), nx hj ⟨_, ts ++ [t], tv ++ [v], i8, c8, rfl, fun b o e n => ?_, ⟨?_, ?_, D8.ne, D8.i0, D8.few⟩, upd_same, ?_, by rw [List.length_append, lts]; rfl, kwfs_append wts ⟨M8.wf, trivial⟩, koks_append ots ⟨M8.ok, trivial⟩, ktrus_append uts ⟨M8.tru, trivial⟩, ?_, ?_⟩⟩
    · rw [upd_ne (ne_of_none e hD9)]
      exact g8 _ _ (g6 b o e n) n
    · rw [upd_ne (Ne.symm nD9)]; exact D8.hd
    · rcases D5.ha with h | h
      · refine (Gr.put (M := M1 D9) rfl).seq (fun z => ?_) D8.ha
        have e : a = D9 := z
        rcases h with h | ⟨o, h⟩
        · rw [e, hD9] at h; cases h
        · rw [e, hD9] at h; cases h
      · exact .inr h
    · rw [ktd_append]
      exact ((rts.mono tm8).mono tm9).append (.cons (M8.r.mono tm9) .nil)
    · rw [kdeps_append]
      show max _ (max t.tn.dep 0) ≤ r0'
      omega
    · rw [ksps_append, Nat.add_mul, Nat.one_mul]
      show Tk.sps ts + (t.sp + 0) ≤ _
      omega
  intro σ H6 hv
  obtain ⟨k1, ts, tv, i', c', rfl, g6, D6, hD6, rts, lts, wts, ots, uts, dts, sts⟩ := hv
  refine ⟨D9, tv, rfl, .inl ⟨SqL.of hD6, fun na hna => ?_⟩⟩
  have o7 : Old H6 (upd H6 na (.tup tv)) := Old.new hna
  have D7 := D6.old o7
  have g7 : Gr (M1 d) H (upd H6 na (.tup tv)) := (g5.trans g6).trans o7.gm
  have rk7 := (rk5.mono (g6.tm1 D5.hd)).mono o7.tm
  have rn7 : RK K (upd H6 na (.tup tv)) (.tup (Tn.ds (Tk.tns ts))) (.ref na) := RK.tup (.of upd_same) (rts.mono o7.tm)
  have ltv := rts.length
  rw [ktd_len] at ltv
  generalize upd H6 na (.tup tv) = H7 at o7 D7 g7 rk7 rn7 ⊢
  have lts4 : ts.length ≤ 4 := by omega
  have ltn := ktd_len ts
  rw [← lts] at sts
  have dk3 : k.dep ≤ 3 := by omega
  obtain ⟨f1, f2, f3, f4, f5⟩ := wl_facts x hx
  -- what is left: the node itself
  have fin : ∀ (fr : List Str) (ks : List Kn), fr.length = K11.nf x → ks.length = K11.nk x → Kn.wfs ks → Kn.deps ks ≤ 3 → ∀ (v : V) (H' : Hp), Old H7 H' → RK K H' (Tk.mk x p (fr.map Dk.str) ks ts).tn.d v → Q v H' := fun fr ks l1 l2 wks dks v H' o rv => by
    obtain ⟨n1, n2, n3, n4, n5⟩ := node_ok (r0 := r0') hx p0 p1 l1 l2 wks dks (fun z => by rw [lts]; exact np' z) lts4 wts ots uts dts sts
    exact q _ v H' _ _ (g7.trans o.gm) (D7.old o) ⟨rv, n1, n2, n3, n4, n5⟩
  have cat : ∀ (fr : List Str) (ks : List Kn) (v0 : V) (H8 : Hp) (Q' : VK), x ≠ "row" → fr.length = K11.nf x → ks.length = K11.nk x → Kn.wfs ks → Kn.deps ks ≤ 3 → Old H7 H8 → RK K H8 (.tup (.str x :: .int p :: (fr.map Dk.str ++ Kn.ds ks))) v0 → (∀ v H', Q v H' → Q' v H') → rAddG K v0 (.ref na) H8 Q' := fun fr ks v0 H8 Q' xr l1 l2 wks dks o8 r8 hq => by
    refine cat_g r8 (rn7.mono o8.tm) ?_ fun v9 H9 o9 r9 => hq _ _ ?_
    · have z1 := nf_le x f1
      have z2 := nk_le x f1
      rw [List.length_cons, List.length_cons, List.length_append, List.length_map, ds_length, ktd_len]
      omega
    · exact fin fr ks l1 l2 wks dks v9 H9 (o8.trans o9) (by rw [node_d xr]; exact r9)
  refine ⟨_, rfl, .inr (.inl ⟨rfl, _, rfl, ?_⟩)⟩
  rw [dec_s]
  by_cases c1' : x = "fn"
  · rw [decide_eq_true c1']
    rw [if_pos c1'] at f4 f5
    refine iteT ⟨_, rfl, _, rfl, _, rfl, _, rfl, by show 4 ≤ sizeLine; decide, fun ta hta => ⟨_, rfl, ?_⟩⟩
    have o8 := Old.new (o := .tup [.str x, .int p, .str nm, kv]) hta
    exact cat [nm] [k] _ _ _ (by rw [c1']; decide) f4.symm f5.symm ⟨wk, trivial⟩ (by show max k.dep 0 ≤ 3; omega) o8 (RK.tup (.of upd_same) (.cons (.s _) (.cons (.i _) (.cons (.s _) (.cons (rk7.mono o8.tm) .nil))))) (fun _ _ z => z)
  rw [decide_eq_false c1']
  rw [if_neg c1'] at f4 f5
  refine iteF ?_
  refine ⟨_, rfl, .inr (.inl ⟨rfl, _, rfl, ?_⟩)⟩
  rw [dec_s]
  by_cases c2' : x = "self"
  · rw [decide_eq_true c2']
    rw [if_pos c2'] at f4 f5
    refine iteT ⟨_, rfl, _, rfl, _, rfl, _, rfl, _, _, rfl, rfl, .inl ⟨by decide, by decide⟩, _, _, rfl, rfl, (by show (0 : Int) < 4; decide), _, rfl, _, rfl, .inr ⟨_, rfl, str8, _, rfl, _, rfl, _, _, rfl, rfl, .inl ⟨by decide, by decide⟩, _, _, rfl, rfl, (by show (0 : Int) < 999983; decide), _, 3, rfl, by decide, by decide, fun k2 kv2 H8 rk2 wk2 dk2 o8 => ?_⟩⟩
    generalize Txt.slice "abcdefgh" _ _ = nm2
    refine ⟨by show 6 ≤ sizeLine; decide, fun ta hta => ⟨_, rfl, ?_⟩⟩
    have o9 := Old.new (o := .tup [.str x, .int p, .str nm, .str nm2, kv, kv2]) hta
    exact cat [nm, nm2] [k, k2] _ _ _ (by rw [c2']; decide) f4.symm f5.symm ⟨wk, wk2, trivial⟩ (by show max k.dep (max k2.dep 0) ≤ 3; omega) (o8.trans o9) (RK.tup (.of upd_same) (.cons (.s _) (.cons (.i _) (.cons (.s _) (.cons (.s _) (.cons (rk7.mono (o8.trans o9).tm) (.cons (rk2.mono o9.tm) .nil))))))) (fun _ _ z => z)
  rw [decide_eq_false c2']
  rw [if_neg c2'] at f4 f5
  refine iteF ?_
  refine ⟨_, rfl, .inr (.inl ⟨rfl, _, rfl, ?_⟩)⟩
  rw [dec_s]
  by_cases c3' : x = "row"
  · rw [decide_eq_true c3']
    rw [if_pos c3'] at f5
    rw [if_neg (by rw [c3']; decide), if_neg (by rw [c3']; decide)] at f4
    refine iteT ⟨_, rfl, _, rfl, _, rfl, _, rfl, by show 4 ≤ sizeLine; decide, fun ta hta => ?_⟩
    have o8 := Old.new (o := .tup [.str x, .int p, kv, .ref na]) hta
    refine fin [] [k] f4.symm f5.symm ⟨wk, trivial⟩ (by show max k.dep 0 ≤ 3; omega) _ _ o8 ?_
    have e : (Tk.mk x p (([] : List Str).map Dk.str) [k] ts).tn.d = .tup [.str x, .int p, k.d, .tup (Tn.ds (Tk.tns ts))] := by
      show Dk.tup (.str x :: .int p :: ([] ++ [k.d] ++ (if x = "row" then [.tup (Tn.ds (Tk.tns ts))] else Tn.ds (Tk.tns ts)))) = _
      rw [if_pos c3']
      rfl
    rw [e]
    exact RK.tup (.of upd_same) (.cons (.s _) (.cons (.i _) (.cons (rk7.mono o8.tm) (.cons (rn7.mono o8.tm) .nil))))
  rw [decide_eq_false c3']
  rw [if_neg c3'] at f5
  refine iteF ?_
  refine ⟨_, rfl, .inr (.inl ⟨rfl, _, rfl, ?_⟩)⟩
  rw [dec_s]
  by_cases c4' : x = "as"
  · rw [decide_eq_true c4']
    rw [if_pos c4'] at f5
    rw [if_neg (by rw [c4']; decide), if_neg (by rw [c4']; decide)] at f4
    refine iteT ⟨_, rfl, _, rfl, _, rfl, by show 3 ≤ sizeLine; decide, fun ta hta => ⟨_, rfl, ?_⟩⟩
    have o8 := Old.new (o := .tup [.str x, .int p, kv]) hta
    exact cat [] [k] _ _ _ c3' f4.symm f5.symm ⟨wk, trivial⟩ (by show max k.dep 0 ≤ 3; omega) o8 (RK.tup (.of upd_same) (.cons (.s _) (.cons (.i _) (.cons (rk7.mono o8.tm) .nil)))) (fun _ _ z => z)
  rw [decide_eq_false c4']
  rw [if_neg c4'] at f5
  refine iteF ?_
  refine ⟨_, rfl, .inr (.inl ⟨rfl, _, rfl, ?_⟩)⟩
  rw [dec_s]
  by_cases c5' : x = "let"
  · rw [decide_eq_true c5']
    rw [if_pos c5'] at f4
    refine iteT ⟨_, rfl, _, rfl, _, rfl, by show 3 ≤ sizeLine; decide, fun ta hta => ⟨_, rfl, ?_⟩⟩
    have o8 := Old.new (o := .tup [.str x, .int p, .str nm]) hta
    exact cat [nm] [] _ _ _ c3' f4.symm f5.symm trivial (Nat.zero_le _) o8 (RK.tup (.of upd_same) (.cons (.s _) (.cons (.i _) (.cons (.s _) .nil)))) (fun _ _ z => z)
  rw [decide_eq_false c5']
  rw [if_neg c5'] at f4
  refine iteF ?_
  refine ⟨_, rfl, .inr (.inl ⟨rfl, _, rfl, ?_⟩)⟩
  rw [dec_s]
  by_cases c6' : x = "do"
  · rw [decide_eq_true c6']
    rw [if_pos c6'] at f4
    obtain ⟨ch, ec, _⟩ := atI_in (xs := (("+-*<=" : Str)).cps.toList) k50 (by exact k51)
    refine iteT ⟨_, rfl, _, rfl, _, rfl, _, _, rfl, rfl, (by show (0 : Int) < 5; decide), .inr (.inr ⟨_, _, ch, rfl, rfl, by decide, ec, by show 3 ≤ sizeLine; decide, fun ta hta => ⟨_, rfl, ?_⟩⟩)⟩
    have o8 := Old.new (o := .tup [.str x, .int p, .str ⟨#[ch]⟩]) hta
    exact cat [⟨#[ch]⟩] [] _ _ _ c3' f4.symm f5.symm trivial (Nat.zero_le _) o8 (RK.tup (.of upd_same) (.cons (.s _) (.cons (.i _) (.cons (.s _) .nil)))) (fun _ _ z => z)
  rw [decide_eq_false c6']
  rw [if_neg c6'] at f4
  refine iteF ?_
  refine ⟨_, rfl, _, rfl, by show 2 ≤ sizeLine; decide, fun ta hta => ⟨_, rfl, ?_⟩⟩
  have o8 := Old.new (o := .tup [.str x, .int p]) hta
  exact cat [] [] _ _ _ c3' f4.symm f5.symm trivial (Nat.zero_le _) o8 (RK.tup (.of upd_same) (.cons (.s _) (.cons (.i _) .nil))) (fun _ _ z => z)
end
end L2.K81

end
section
set_option Elab.async false
set_option linter.all false
set_option maxRecDepth 100000
set_option maxHeartbeats 8000000
namespace L2.K81
open PySem PySem.Spec PyProof.Rows L2.Bw L2.Bk L2.Ex
theorem asg_by {te : TE} {g : TG} {D : Ends} {σ : St} {H : Hp} (P : V → Hp → Prop) (h1 : ∀ Q : VK, (∀ v H', P v H' → Q v H') → te σ H Q) (h2 : ∀ v H', P v H' → g v σ H' D.nx) : tAsg te g D σ H := h1 _ h2
section
variable {P : Program} {w : World} {K : PySem.W.Frag} {mg : Str → Option Value} {base : Heap} {f : Addr} {fd : FuncData}
/-! ### program -/
noncomputable abbrev sProg : Stmt := top 42
noncomputable def spProg (K : PySem.W.Frag) : Sp := fun vs H Q _ => ∃ (a : Addr) (ns : List Int), vs = [.ref a] ∧ SqL K H a (ns.map V.int) ∧ ns.length ≤ 63 ∧ ∀ (t : Tk) (v : V) (H' : Hp), Old H H' → Mt K H' v t 8 400000 → Q v H'
theorem scProg : FnScope ["_law_script", "_law_cell", "_law_deal"] ["_law_script"] (defScope sProg) := ⟨rfl, rfl, rfl, by decide +kernel, rfl, by decide +kernel, by decide +kernel⟩
theorem as_facts : ("as" : Str) ∈ K11.words ∧ K11.nf "as" = 0 ∧ K11.nk "as" = 1 ∧ K11.np "as" = 1 := by decide +kernel
theorem ok_prog {m : Nat} (F : Fun K "_law_program" "_law_program" sProg f fd) (T : Tx mg) (c_cell_at : Cal P w K mg base "_law_cell_at" ["_law_script", "_law_k"] 1 (spCell K)) (c_place : Cal P w K mg base "_law_place" ["_law_deal"] 1 (spPlace K)) (c_kind : Cal P w K mg base "_law_kind" ["_law_cell", "_law_room"] 8 (spKind K 7)) (c_made : Cal P w K mg base "_law_made" ["_law_deal", "_law_room"] 17 (spMade K 9)) : FnOk P w K mg base CX0 (m + 18) f fd ["_law_script"] (spProg K) := by
  refine F.ok scProg (fun vs H Q E h => ?_) (fun cdv A outer s H vs Q E hr h => ?_)
  · obtain ⟨a, ns, rfl, _⟩ := h
    rfl
  obtain ⟨a, ns, rfl, hS, h63, q⟩ := h
  have nd := scProg.nd
  refine' ⟨_, ?n0, ?Z⟩
  case' n0 => refine' pss_cons ?n1 ?n2
  case' n1 => refine' ps_setX (i := 1) nd rfl (Or.inl rfl) rfl (by first | exact .inl rfl | exact .inr rfl) ?n3
  case' n3 => refine' pe_cal c_cell_at hr ?n4
  case' n4 => refine' pa ?n5 ?n6
  case n5 => exact pv 0
  case' n6 => refine' pa ?n7 ?n8
  case n7 => exact pe_int
  case n8 => exact pa_nil
  case' n2 => refine' pss_cons ?n9 ?n10
  case' n9 => refine' ps_setX (i := 2) nd rfl (Or.inl rfl) rfl (by first | exact .inl rfl | exact .inr rfl) ?n11
  case' n11 => refine' pe_lst ?n12
  case' n12 => refine' pa ?n13 ?n14
  case n13 => exact pv 0
  case' n14 => refine' pa ?n15 ?n16
  case n15 => exact pe_int
  case' n16 => refine' pa ?n17 ?n18
  case' n17 => refine' pe_op op_mod ?n19 ?n20
  case n19 => exact pv 1
  case n20 => exact pe_int
  case' n18 => refine' pa ?n21 ?n22
  case n21 => exact pe_int
  case n22 => exact pa_nil
  case' n10 => refine' pss_cons ?n23 ?n24
  case' n23 => refine' ps_if ?n25 ?n26 ?n27
  case' n25 => refine' pt_cmpR (op_eqG hr) ?n28 ?n29 (nomark _)
  case' n28 => refine' pe_op op_mod ?n30 ?n31
  case n30 => exact pv 1
  case n31 => exact pe_int
  case n29 => exact pe_int
  case' n26 => refine' pss_one ?n32
  case' n32 => refine' ps_ret ?n33
  case' n33 => refine' pe_tup ?n34
  case' n34 => refine' pa ?n35 ?n36
  case n35 => exact pe_str
  case' n36 => refine' pa ?n37 ?n38
  case' n37 => refine' pe_cal c_place hr ?n39
  case' n39 => refine' pa ?n40 ?n41
  case n40 => exact pv 2
  case n41 => exact pa_nil
  case' n38 => refine' pa ?n42 ?n43
  case' n42 => refine' pe_cal c_kind hr ?n44
  case' n44 => refine' pa ?n45 ?n46
  case' n45 => refine' pe_op op_addG ?n47 ?n48
  case n47 => exact pe_int
  case n48 => exact pv 1
  case' n46 => refine' pa ?n49 ?n50
  case n49 => exact pe_int
  case n50 => exact pa_nil
  case' n43 => refine' pa ?n51 ?n52
  case' n51 => refine' pe_cal c_made hr ?n53
  case' n53 => refine' pa ?n54 ?n55
  case n54 => exact pv 2
  case' n55 => refine' pa ?n56 ?n57
  case n56 => exact pe_int
  case n57 => exact pa_nil
  case n52 => exact pa_nil
  case n27 => exact pss_nil
  case' n24 => refine' pss_one ?n58
  case' n58 => refine' ps_ret ?n59
  case' n59 => refine' pe_cal c_made hr ?n60
  case' n60 => refine' pa ?n61 ?n62
  case n61 => exact pv 2
  case' n62 => refine' pa ?n63 ?n64
  case n63 => exact pe_int
  case n64 => exact pa_nil
  refine ⟨_, rfl, a, ns, 0, rfl, hS, by decide, fun c c0 c1 => ?_⟩
  refine ⟨_, rfl, _, rfl, _, _, rfl, rfl, (by show (0 : Int) < 9973; decide), by show 4 ≤ sizeLine; decide, fun d hd => ?_⟩
  have o1 := Old.new (o := .lst [.ref a, .int 1, .int (c % 9973), .int 0]) hd
  have ne : a = d → ∀ H' : Hp, SqL K H' a (ns.map V.int) := fun e H' => by
    rcases hS with h | h
    · rcases h with h | ⟨o, h⟩
      · rw [e, hd] at h; cases h
      · rw [e, hd] at h; cases h
    · exact .inr h
  have D1 : Dl K (upd H d (.lst [.ref a, .int 1, .int (c % 9973), .int 0])) d a ns 1 (c % 9973) 0 := ⟨upd_same, o1.gr.seq (fun z => z) hS, ne, by decide, h63⟩
  generalize upd H d (.lst [.ref a, .int 1, .int (c % 9973), .int 0]) = H1 at o1 D1 ⊢
  have n7 : 14 * nn 7 ≤ 300000 := by decide
  have n8 : 14 * nn 8 ≤ 400000 := by decide
  refine ⟨_, rfl, _, _, rfl, rfl, (by show (0 : Int) < 4; decide), .inr (.inl ⟨rfl, _, rfl, ?_⟩)⟩
  refine ite2 (fun _ => ?_) (fun _ => ?_)
  · refine ⟨_, rfl, d, a, ns, 1, c % 9973, 0, rfl, D1, fun p p0 p1 => ?_⟩
    have D2 := D1.put (i' := 1) (c' := 0 + 1) (by decide)
    have g2 : Gr (M1 d) H1 (upd H1 d (.lst [.ref a, .int 1, .int (c % 9973), .int (0 + 1)])) := Gr.put rfl
    generalize upd H1 d (.lst [.ref a, .int 1, .int (c % 9973), .int (0 + 1)]) = H2 at D2 g2 ⊢
    refine ⟨_, rfl, .inr (.inl ⟨_, _, rfl, rfl, _, 6, rfl, by decide, by decide, fun k kv H3 rk wk dk o3 => ?_⟩)⟩
    have D3 := D2.old o3
    refine ⟨_, rfl, d, a, ns, 1, c % 9973, 0 + 1, 7, rfl, D3, by decide, by decide, fun t v H4 i' c' g4 D4 M4 => ?_⟩
    have rk4 := rk.mono (g4.tm1 D3.hd)
    refine ⟨by show 4 ≤ sizeLine; decide, fun ta hta => ?_⟩
    have o5 := Old.new (o := .tup [.str "as", .int p, kv, v]) hta
    have oA : Old H (upd H4 ta (.tup [.str "as", .int p, kv, v])) := (gr_old o1 hd ((g2.trans o3.gm).trans g4)).trans o5
    obtain ⟨f1, f2, f3, f4⟩ := as_facts
    have sp6 := sp_le wk
    have p6 : 2 ^ k.dep ≤ 2 ^ 6 := Nat.pow_le_pow_right (by decide) (by omega)
    have sM := M4.sp
    have dM := M4.dep
    refine q (.mk "as" p [] [k] [t]) _ _ oA ⟨?_, ⟨⟨f1, f2.symm, f3.symm, fun _ => f4.symm, by show 1 ≤ 5; decide, fun z => absurd z (by decide +kernel), p0, by omega⟩, M4.wf, trivial⟩, ⟨⟨⟨wk, trivial⟩, by show max k.dep 0 ≤ 7; omega, (fun d hd => nomatch hd), by decide +kernel⟩, M4.ok, trivial⟩, ⟨fun z => absurd z (by decide +kernel), M4.tru, trivial⟩, ?_, ?_⟩
    · exact RK.tup (.of upd_same) (.cons (.s _) (.cons (.i _) (.cons (rk4.mono o5.tm) (.cons (M4.r.mono o5.tm) .nil))))
    · show 1 + max t.tn.dep 0 ≤ 8
      omega
    · show k.sp + 0 + (t.sp + 0) ≤ 400000
      omega
  · refine ⟨_, rfl, d, a, ns, 1, c % 9973, 0, 8, rfl, D1, by decide, by decide, fun t v H4 i' c' g4 D4 M4 => ?_⟩
    exact q t v H4 (gr_old o1 hd g4) (M4.mono (Nat.le_refl _) n8)
/-! ### loose -/
noncomputable abbrev sLz : Stmt := top 43
/-- what the dict says of a number -/
noncomputable def offK (kvs : List (Key × V)) (i : Nat) : Bool := !(valV kvs (.inl (i : Int))).isSome
noncomputable def spLz (K : PySem.W.Frag) (m : Nat) : Sp := fun vs H Q _ => ∃ (v : V) (d : Dk) (n : Nat) (kd : Addr) (kvs : List (Key × V)), vs = [v, .int (n : Int), .ref kd] ∧ RK K H d v ∧ d.nr ∧ d.dq ≤ 50 ∧ d.dq < m ∧ H kd = some (.dK kvs) ∧
  ∀ (r : Addr) (v' : V) (H' : Hp), Old H H' → H r = none → H' r = some (.lst [v', .int ((d.lz (offK kvs) n).2 : Int)]) → RK K H' (d.lz (offK kvs) n).1 v' → Q (.ref r) H'
theorem scLz : FnScope ["_law_thing", "_law_at", "_law_keep_here", "_law_spot", "_law_here", "_law_some", "_law_inner", "_law_got"] ["_law_thing", "_law_at", "_law_keep_here"] (defScope sLz) := ⟨rfl, rfl, rfl, by decide +kernel, rfl, by decide +kernel, by decide +kernel⟩
theorem ok_lz {m : Nat} (F : Fun K "_law_loose" "_law_loose" sLz f fd) (T : Tx mg) (c_loose : Cal P w K mg base "_law_loose" ["_law_thing", "_law_at", "_law_keep_here"] m (spLz K m)) : FnOk P w K mg base CX0 (m + 1) f fd ["_law_thing", "_law_at", "_law_keep_here"] (spLz K (m + 1)) := by
  refine F.ok scLz (fun vs H Q E h => ?_) (fun cdv A outer s H vs Q E hr h => ?_)
  · obtain ⟨v, d, n, kd, kvs, rfl, _⟩ := h
    rfl
  obtain ⟨v, d, n, kd, kvs, rfl, rv, nr, d50, hm, hk, q⟩ := h
  have nd := scLz.nd
  refine' ⟨_, ?n0, ?Z⟩
  case' n0 => refine' pss_cons ?n1 ?n2
  case' n1 => refine' ps_if ?n3 ?n4 ?n5
  case' n3 => refine' PW.pt ?n6
  case' n6 => refine' pw_or ?n7 ?n8
  case' n7 => refine' pt_not ?n9
  case' n9 => refine' pt_val ?n10
  case' n10 => refine' pe_callB (call_isj) rfl T.isinstance boot_isinstance ?n11
  case' n11 => refine' pa ?n12 ?n13
  case n12 => exact pv 0
  case' n13 => refine' pa ?n14 ?n15
  case n14 => exact pe_ty rfl T.tuple boot_tuple
  case n15 => exact pa_nil
  case' n8 => refine' pw_or1 ?n16
  case' n16 => refine' pt_cmpR (op_eqG hr) ?n17 ?n18 (nomark _)
  case n17 => exact pv 0
  case' n18 => refine' pe_tup ?n19
  case' n19 => refine' pa ?n20 ?n21
  case n20 => exact pe_str
  case n21 => exact pa_nil
  case' n4 => refine' pss_one ?n22
  case' n22 => refine' ps_ret ?n23
  case' n23 => refine' pe_lst ?n24
  case' n24 => refine' pa ?n25 ?n26
  case n25 => exact pv 0
  case' n26 => refine' pa ?n27 ?n28
  case n27 => exact pv 1
  case n28 => exact pa_nil
  case n5 => exact pss_nil
  case' n2 => refine' pss_cons ?n29 ?n30
  case' n29 => refine' ps_setX (i := 3) nd rfl (Or.inl rfl) rfl (by first | exact .inl rfl | exact .inr rfl) ?n31
  case' n31 => refine' pe_and ?n32 ?n33
  case' n32 => refine' pe_cmpR op_gt ?n34 ?n35 (nomark _)
  case' n34 => refine' pe_callB (call_lenA) rfl T.len boot_len ?n36
  case' n36 => refine' pa ?n37 ?n38
  case n37 => exact pv 0
  case n38 => exact pa_nil
  case n35 => exact pe_int
  case' n33 => refine' pe_and ?n39 ?n40
  case' n39 => refine' pe_callB (call_isj) rfl T.isinstance boot_isinstance ?n41
  case' n41 => refine' pa ?n42 ?n43
  case' n42 => refine' pe_ix ix_seq ?n44 ?n45 (fun _ _ => rfl)
  case n44 => exact pv 0
  case n45 => exact pe_int
  case' n43 => refine' pa ?n46 ?n47
  case n46 => exact pe_ty rfl T.str boot_str
  case n47 => exact pa_nil
  case' n40 => refine' pe_one ?n48
  case' n48 => refine' pe_or ?n49 ?n50
  case' n49 => refine' pe_cmpR (op_eqG hr) ?n51 ?n52 (nomark _)
  case' n51 => refine' pe_callB (call_lenA) rfl T.len boot_len ?n53
  case' n53 => refine' pa ?n54 ?n55
  case n54 => exact pv 0
  case n55 => exact pa_nil
  case n52 => exact pe_int
  case' n50 => refine' pe_one ?n56
  case' n56 => refine' pe_callB (call_isj) rfl T.isinstance boot_isinstance ?n57
  case' n57 => refine' pa ?n58 ?n59
  case' n58 => refine' pe_ix ix_seq ?n60 ?n61 (fun _ _ => rfl)
  case n60 => exact pv 0
  case n61 => exact pe_int
  case' n59 => refine' pa ?n62 ?n63
  case n62 => exact pe_ty rfl T.tuple boot_tuple
  case n63 => exact pa_nil
  case' n30 => refine' pss_cons ?n64 ?n65
  case' n64 => refine' ps_setX (i := 4) nd rfl (Or.inl rfl) rfl (by first | exact .inl rfl | exact .inr rfl) ?n66
  case n66 => exact pv 1
  case' n65 => refine' pss_cons ?n67 ?n68
  case' n67 => refine' ps_setX (i := 1) nd rfl (Or.inl rfl) rfl (by first | exact .inl rfl | exact .inr rfl) ?n69
  case' n69 => refine' pe_op op_addG ?n70 ?n71
  case n70 => exact pv 1
  case' n71 => refine' pe_callTy (call_int1) rfl T.int boot_int ?n72
  case' n72 => refine' pa ?n73 ?n74
  case n73 => exact pv 3
  case n74 => exact pa_nil
  case' n68 => refine' pss_cons ?n75 ?n76
  case' n75 => refine' ps_setX (i := 5) nd rfl (Or.inl rfl) rfl (by first | exact .inl rfl | exact .inr rfl) ?n77
  case' n77 => refine' pe_lst ?n78
  case n78 => exact pa_nil
  case' n76 => refine' pss_cons ?n79 ?n80
  case' n79 => refine' ps_for PassesOwn.never rfl ?n81 ?n82 ?n83
  case' n81 => refine' pi_seq ?n84
  case n84 => exact pv 0
  case n82 => exact pg_name (i := 6) nd rfl (Or.inl rfl)
  case' n83 => refine' pss_cons ?n85 ?n86
  case' n85 => refine' ps_setX (i := 7) nd rfl (Or.inl rfl) rfl (by first | exact .inl rfl | exact .inr rfl) ?n87
  case' n87 => refine' pe_cal c_loose hr ?n88
  case' n88 => refine' pa ?n89 ?n90
  case n89 => exact pv 6
  case' n90 => refine' pa ?n91 ?n92
  case n91 => exact pv 1
  case' n92 => refine' pa ?n93 ?n94
  case n93 => exact pv 2
  case n94 => exact pa_nil
  case' n86 => refine' pss_cons ?n95 ?n96
  case' n95 => refine' ps_expr ?n97
  case' n97 => refine' pe_bm PySem.F.plainAttrs_list PySem.F.slot_list_append PySem.F.type_list_append mt_append ?n98 ?n99
  case n98 => exact pv 5
  case' n99 => refine' pa ?n100 ?n101
  case' n100 => refine' pe_ix ix_seq ?n102 ?n103 (fun _ _ => rfl)
  case n102 => exact pv 7
  case n103 => exact pe_int
  case n101 => exact pa_nil
  case' n96 => refine' pss_one ?n104
  case' n104 => refine' ps_setX (i := 1) nd rfl (Or.inl rfl) rfl (by first | exact .inl rfl | exact .inr rfl) ?n105
  case' n105 => refine' pe_ix ix_seq ?n106 ?n107 (fun _ _ => rfl)
  case n106 => exact pv 7
  case n107 => exact pe_int
  case' n80 => refine' pss_cons ?n108 ?n109
  case' n108 => refine' ps_if ?n110 ?n111 ?n112
  case' n110 => refine' PW.pt ?n113
  case' n113 => refine' pw_and ?n114 ?n115
  case' n114 => refine' pt_val ?n116
  case n116 => exact pv 3
  case' n115 => refine' pw_and1 ?n117
  case' n117 => refine' pt_cmp ?n118
  case' n118 => refine' pc_dnotin hr.u1 ?n119 ?n120
  case n119 => exact pv 4
  case n120 => exact pv 2
  case' n111 => refine' pss_one ?n121
  case' n121 => refine' ps_ret ?n122
  case' n122 => refine' pe_lst ?n123
  case' n123 => refine' pa ?n124 ?n125
  case' n124 => refine' pe_tup ?n126
  case' n126 => refine' pa ?n127 ?n128
  case n127 => exact pe_str
  case n128 => exact pa_nil
  case' n125 => refine' pa ?n129 ?n130
  case n129 => exact pv 1
  case n130 => exact pa_nil
  case n112 => exact pss_nil
  case' n109 => refine' pss_one ?n131
  case' n131 => refine' ps_ret ?n132
  case' n132 => refine' pe_lst ?n133
  case' n133 => refine' pa ?n134 ?n135
  case' n134 => refine' pe_callTy (call_tuple_of) rfl T.tuple boot_tuple ?n136
  case' n136 => refine' pa ?n137 ?n138
  case n137 => exact pv 5
  case n138 => exact pa_nil
  case' n135 => refine' pa ?n139 ?n140
  case n139 => exact pv 1
  case n140 => exact pa_nil
  refine ⟨_, rfl, _, _, _, rfl, isj_t rv, _, rfl, ?_⟩
  by_cases ct' : d.isT = false
  · have df : d.flat = true := by
      cases d with
      | tup _ => cases ct'
      | _ => rfl
    rw [ct']
    rw [lz_flat _ df] at q
    refine iteT (iteT ⟨_, rfl, _, rfl, by show 2 ≤ sizeLine; decide, fun r hr' => ?_⟩)
    have o := Old.new (o := .lst [v, .int (n : Int)]) hr'
    exact q r v _ o hr' upd_same (rv.mono o.tm)
  obtain ⟨ds, rfl⟩ : ∃ ds, d = .tup ds := by
    cases d with
    | tup ds => exact ⟨ds, rfl⟩
    | _ => exact absurd rfl ct'
  obtain ⟨l1000, nrs⟩ := nr_tup nr
  rw [dq_tup] at d50 hm
  rw [lz_tup] at q
  obtain ⟨a, us, rfl, ha, rus⟩ := RK.get rv
  have lus := rus.length
  refine iteF ⟨_, rfl, by show 1 ≤ sizeLine; decide, fun qa hqa => ?_⟩
  have o1 := Old.new (o := .tup [.str "?"]) hqa
  have rq : RK K (upd H qa (.tup [.str "?"])) (.tup [.str "?"]) (.ref qa) := RK.tup (.of upd_same) (.cons (.s _) .nil)
  generalize upd H qa (.tup [.str "?"]) = H1 at o1 rq ⊢
  have rv1 := rv.mono o1.tm
  refine .inl ⟨ds, _, rv1, rq, by omega, _, rfl, ?_⟩
  by_cases ce : eqbs ds [.str "?"] = true
  · rw [ce]
    rw [if_pos ce] at q
    refine iteT ⟨_, rfl, _, rfl, by show 2 ≤ sizeLine; decide, fun r hr' => ?_⟩
    have o := Old.new (o := .lst [.ref a, .int (n : Int)]) hr'
    exact q r _ _ (o1.trans o) (o1.free hr') upd_same (rv1.mono o.tm)
  have ce' : eqbs ds [.str "?"] = false := by simpa using ce
  rw [ce']
  rw [if_neg ce] at q
  refine iteF ?_
  have ha1 := ha.mono o1.tm
  have rus1 := rus.mono o1.tm
  dsimp only [tNext]
  with_reducible refine seq_at (asg_by (fun v H' => v = .bl (isSpot ds) ∧ H' = H1) (fun Q' hQ => ?_) (fun v0 H1' hP => ?_))
  · have fin : ∀ b, b = isSpot ds → Q' (.bl b) H1 := fun b hb => hQ _ _ ⟨by rw [hb], rfl⟩
    refine ⟨_, rfl, .inl ⟨a, us, rfl, .inr ha1.sq, _, _, rfl, rfl, _, rfl, ?_⟩⟩
    cases ds with
    | nil =>
      obtain rfl : us = [] := rus
      exact iteF (fin false rfl)
    | cons d0 dr =>
      obtain ⟨u0, ur, rfl, r0, rr⟩ := rus
      obtain ⟨_, _, e, r0', rr'⟩ := rus1
      cases e
      refine ite2 (fun _ => ?_) (fun c => absurd (decide_eq_true (show (0 : Int) < ((ur.length + 1 : Nat) : Int) by omega)) c)
      refine ⟨_, rfl, .inr (.inl ⟨a, _, 0, u0, rfl, rfl, ha1.sq, at0, _, _, _, rfl, isj_s r0', _, rfl, ?_⟩)⟩
      cases d0 with
      | str z =>
        refine iteT ?_
        refine ⟨_, rfl, .inl ⟨a, _, rfl, .inr ha1.sq, .inr (.inl ⟨rfl, _, rfl, ?_⟩)⟩⟩
        rw [dec_int]
        cases dr with
        | nil =>
          obtain rfl : ur = [] := rr'
          exact iteT (fin true rfl)
        | cons d1 dr =>
          obtain ⟨u1, ur, rfl, r1, rr1⟩ := rr'
          refine ite2 (fun c => absurd c ?_) (fun _ => ?_)
          · have : ¬ (((ur.length + 1 + 1 : Nat) : Int) = 1) := by omega
            simpa using this
          · refine ⟨_, rfl, .inr (.inl ⟨a, _, 1, u1, rfl, rfl, ha1.sq, at1, _, _, _, rfl, isj_t r1, fin _ ?_⟩)⟩
            cases d1 <;> rfl
      | _ => exact iteF (fin false rfl)
  obtain ⟨rfl, rfl⟩ := hP
  generalize hsp : isSpot ds = sp at q ⊢
  refine ⟨_, rfl, _, rfl, _, rfl, .inr ⟨_, rfl, .inr (.inl ⟨_, _, rfl, rfl, ?_⟩)⟩⟩
  have en : ((n : Int) + (if sp = true then (1 : Int) else 0)) = ((n + sp.toNat : Nat) : Int) := by
    cases sp
    · show (n : Int) + 0 = ((n + 0 : Nat) : Int); omega
    · show (n : Int) + 1 = ((n + 1 : Nat) : Int); omega
  dsimp only [gName]
  rw [en]
  refine ⟨by show 0 ≤ sizeLine; decide, fun sa hsa => ?_⟩
  have hk1 := o1 _ _ hk
  have nks : kd ≠ sa := ne_of_none hk1 hsa
  have o2 := Old.new (o := .lst []) hsa
  have hs2 : upd H1' sa (.lst []) sa = some (.lst []) := upd_same
  generalize upd H1' sa (.lst []) = H2 at o2 hs2 ⊢
  have hk2 := o2 _ _ hk1
  have ha2 := ha1.mono o2.tm
  have rus2 := rus1.mono o2.tm
  have o02 := o1.trans o2
  have hsa0 := o1.free hsa
  refine ⟨_, rfl, a, rfl, .inr ⟨⟨_, ha2.sq⟩, ?_⟩⟩
  generalize hn1 : n + sp.toNat = n1 at q ⊢
  refine for_by (n := ds.length) (fun i σ H3 => ∃ (k6 k7 : Option V) (ws : List V), σ = [some (.ref a), some (.int ((lzs (offK kvs) (ds.take i) n1).2 : Int)), some (.ref kd), some (.bl sp), some (.int (n : Int)), some (.ref sa), k6, k7] ∧ Gr (M1 sa) H2 H3 ∧ H3 sa = some (.lst ws) ∧ RKs K H3 (lzs (offK kvs) (ds.take i) n1).1 ws) ⟨none, none, [], by rw [List.take_zero, lzs_nil]; rfl, Gr.refl _, hs2, by rw [List.take_zero, lzs_nil]; exact .nil⟩ ?_ ?_ ?_ ?_
  · intro i σ H3 hi hv
    obtain ⟨k6, k7, ws, rfl, g, hs3, rws⟩ := hv
    obtain ⟨u, hu⟩ : ∃ u, us[i]? = some u := ⟨_, List.getElem?_eq_getElem (by omega)⟩
    exact ⟨_, u, (ha2.mono (g.tm1 hs2)).sq, hu⟩
  · intro σ H3 hv
    obtain ⟨k6, k7, ws, rfl, g, hs3, rws⟩ := hv
    exact ⟨_, (ha2.mono (g.tm1 hs2)).sq, by omega⟩
  · intro i σ H3 hi hv y H4 hy
    obtain ⟨k6, k7, ws, rfl, g, hs3, rws⟩ := hv
    obtain ⟨e1, hyx⟩ := hy
    subst e1
    have eu : us[i]? = some y := hyx _ (ha2.mono (g.tm1 hs2)).sq
    obtain ⟨d1, ed, rd⟩ := rus2.getV eu
    rw [List.getElem?_eq_getElem hi] at ed
    cases ed
    have rd3 := rd.mono (g.tm1 hs2)
    have dm := dqs_mem (List.getElem_mem hi)
    have lw := rws.length
    rw [lzs_length, List.length_take] at lw
    have lt := lzs_take (offK kvs) hi n1
    refine ⟨_, rfl, _, rfl, _, rfl, y, ds[i], (lzs (offK kvs) (ds.take i) n1).2, kd, kvs, rfl, rd3, nrs_mem nrs _ (List.getElem_mem hi), by omega, by omega, g _ _ hk2 nks, fun r v5 H5 o5 hr0 hr5 r5 => ?_⟩
    have nr5 : sa ≠ r := ne_of_none hs3 hr0
    refine ⟨_, rfl, .inl ⟨rfl, _, SqL.of (o5 _ _ hs3)⟩, _, rfl, .inl ⟨r, _, 0, v5, rfl, rfl, SqL.of hr5, at0, ?_⟩⟩
    refine ⟨sa, _, _, rfl, rfl, o5 _ _ hs3, smallM (by omega), ?_⟩
    have g5 : Gr (M1 sa) H2 (upd H5 sa (.lst (ws ++ [v5]))) := (g.trans o5.gm).trans (Gr.put rfl)
    have tm5 : Tm H5 (upd H5 sa (.lst (ws ++ [v5]))) := (Gr.put (M := M1 sa) rfl).tm1 (o5 _ _ hs3)
    refine ⟨_, rfl, .inl ⟨r, _, 1, _, rfl, rfl, SqL.of (by rw [upd_ne (Ne.symm nr5)]; exact hr5), at1, ?_⟩⟩
    refine ⟨_, _, ws ++ [v5], by rw [lt]; rfl, g5, upd_same, ?_⟩
    rw [lt]
    exact ((rws.mono o5.tm).mono tm5).append (.cons (r5.mono tm5) .nil)
  intro σ H3 hv
  obtain ⟨k6, k7, ws, rfl, g, hs3, rws⟩ := hv
  rw [List.take_length] at rws ⊢
  have o3 : Old H H3 := gr_old o02 hsa0 g
  have hk3 : H3 kd = some (.dK kvs) := g _ _ hk2 nks
  have out : ¬ (sp && offK kvs n) = true → tRet (tLst (tCons (tCB (fun xs H Q => ∃ p ys, xs = [V.ref p] ∧ ((SqL K H p ys ∧ ∀ l, H l = none → Q (.ref l) (upd H l (.tup ys))) ∨ (SqT K H p ys ∧ Q (.ref p) H))) (tCons (tVar 5) tNil)) (tCons (tVar 1) tNil))) { nx := fun x H' => Q V.non H', rt := Q } [some (.ref a), some (.int ((lzs (offK kvs) ds n1).2 : Int)), some (.ref kd), some (.bl sp), some (.int (n : Int)), some (.ref sa), k6, k7] H3 := fun c => by
    rw [if_neg c] at q
    refine ⟨_, rfl, sa, ws, rfl, .inl ⟨SqL.of hs3, fun ta hta => ⟨_, rfl, by show 2 ≤ sizeLine; decide, fun ra hra => ?_⟩⟩⟩
    have o4 := Old.new (o := .tup ws) hta
    have o5 := Old.new (o := .lst [.ref ta, .int ((lzs (offK kvs) ds n1).2 : Int)]) hra
    exact q ra (.ref ta) _ (o3.trans (o4.trans o5)) ((o3.trans o4).free hra) upd_same (RK.tup (.of (o5 _ _ upd_same)) (rws.mono (o4.trans o5).tm))
  refine ⟨_, rfl, _, rfl, ?_⟩
  cases sp with
  | false => exact iteF (iteF (out (by simp)))
  | true =>
    refine iteT ⟨_, rfl, _, rfl, kd, _, rfl, DGet.k (k := .inl (n : Int)) hk3, _, rfl, ?_⟩
    by_cases c : offK kvs n = true
    · have c' : (!(valV kvs (.inl (n : Int))).isSome) = true := c
      rw [c']
      rw [if_pos (by rw [c]; rfl)] at q
      refine iteT ⟨by show 1 ≤ sizeLine; decide, fun ta hta => ⟨_, rfl, by show 2 ≤ sizeLine; decide, fun ra hra => ?_⟩⟩
      have o4 := Old.new (o := .tup [.str "?"]) hta
      have o5 := Old.new (o := .lst [.ref ta, .int ((lzs (offK kvs) ds n1).2 : Int)]) hra
      exact q ra (.ref ta) _ (o3.trans (o4.trans o5)) ((o3.trans o4).free hra) upd_same (RK.tup (.of (o5 _ _ upd_same)) (.cons (.s _) .nil))
    · have c' : (!(valV kvs (.inl (n : Int))).isSome) = false := by rw [← Bool.not_eq_true]; exact c
      rw [c']
      exact iteF (out (by rw [Bool.true_and]; exact c))
end
end L2.K81

end
section
set_option Elab.async false
set_option linter.all false
set_option maxRecDepth 100000
set_option maxHeartbeats 8000000
namespace L2.K81
open PySem PySem.Spec PyProof.Rows L2.Bw L2.Bk L2.Ex
section
variable {P : Program} {w : World} {K : PySem.W.Frag} {mg : Str → Option Value} {base : Heap} {f : Addr} {fd : FuncData}
/-! ### with_both -/
/-- what join and meet are handed on for -/
noncomputable def spB (K : PySem.W.Frag) (op : Kn → Kn → Kn) : Sp := fun vs H Q _ => ∃ (x y : V) (a b : Kn), vs = [x, y] ∧ RK K H a.d x ∧ RK K H b.d y ∧ a.wf ∧ b.wf ∧ a.dep ≤ 7 ∧ a.part b = none ∧ ∀ (v : V) (H' : Hp), Old H H' → RK K H' (op a b).d v → Q v H'
/-- the defs that are handed on -/
noncomputable def Two (K : PySem.W.Frag) (fJ fM : Addr) : Addr → (Kn → Kn → Kn) → Prop := fun f op => (f = fJ ∧ op = Kn.join) ∨ (f = fM ∧ op = Kn.both)
noncomputable abbrev sWb : Stmt := top 31
noncomputable def spWb (K : PySem.W.Frag) (fJ fM : Addr) (m : Nat) : Sp := fun vs H Q _ => ∃ (v u : V) (fb : Addr) (op : Kn → Kn → Kn) (t t' : Tk), vs = [v, u, .ref fb] ∧ Two K fJ fM fb op ∧ RK K H t.tn.d v ∧ RK K H t'.tn.d u ∧ t.tn.wf ∧ t'.tn.wf ∧ t.ok ∧ t'.ok ∧ t.al t' ∧ t.tn.dep < m ∧ ∀ (v' : V) (H' : Hp), Old H H' → RK K H' (t.wb op t').tn.d v' → Q v' H'
theorem scWb : FnScope ["tree", "other", "both", "kinds", "nodes"] ["tree", "other", "both"] (defScope sWb) := ⟨rfl, rfl, rfl, by decide +kernel, rfl, by decide +kernel, by decide +kernel⟩
theorem ok_Wb {m : Nat} {fJ fM : Addr} (F : Fun K "with_both" "with_both" sWb f fd) (T : Tx mg) (h_both : ∀ f' sp, (∃ op, Two K fJ fM f' op ∧ sp = spB K op) → CalA P w K mg base f' ["kind", "other"] 11 sp) (c_written : Cal P w K mg base "written" ["tree"] 3 (spWr K)) (c_parts : Cal P w K mg base "parts" ["tree"] 3 (spParts K)) (c_with_parts : Cal P w K mg base "with_parts" ["tree", "some"] 3 (spWp K)) (c_with_written : Cal P w K mg base "with_written" ["tree", "some"] 3 (spWw K)) (c_with_both : Cal P w K mg base "with_both" ["tree", "other", "both"] (m + 11) (spWb K fJ fM m)) : FnOk P w K mg base CX0 (m + 12) f fd ["tree", "other", "both"] (spWb K fJ fM (m + 1)) := by
  refine F.ok scWb (fun vs H Q E h => ?_) (fun cdv A outer s H vs Q E hr h => ?_)
  · obtain ⟨v, u, fb, op, t, t', rfl, _⟩ := h
    rfl
  obtain ⟨v, u, fb, op, t, t', rfl, tw, rv, ru, wt, wt', ot, ot', al, hd, q⟩ := h
  have nd := scWb.nd
  obtain ⟨x, p, fr, ks, ps⟩ := t
  obtain ⟨x', p', fr', ls, qs⟩ := t'
  have rv' : RK K H (Tn.mk x p fr (Kn.ds ks) (Tk.tns ps)).d v := rv
  have ru' : RK K H (Tn.mk x' p' fr' (Kn.ds ls) (Tk.tns qs)).d u := ru
  have w1 : (Tn.mk x p fr (Kn.ds ks) (Tk.tns ps)).wf := wt
  have w2 : (Tn.mk x' p' fr' (Kn.ds ls) (Tk.tns qs)).wf := wt'
  have hd' : 1 + Tn.deps (Tk.tns ps) < m + 1 := hd
  have q' : ∀ (v' : V) (H' : Hp), Old H H' → RK K H' (Tn.mk x p fr (Kn.ds (List.zipWith op ks ls)) (Tk.tns (Tk.wbs op ps qs))).d v' → Q v' H' := q
  obtain ⟨⟨hx, lf, lm, lp, few5, h6⟩, wps⟩ := id w1
  obtain ⟨⟨hx', _, _, _, few5', _⟩, wqs⟩ := id w2
  obtain ⟨⟨wks, dks, _, nl⟩, ops⟩ := ot
  obtain ⟨⟨wls, dls, _, nl'⟩, oqs⟩ := ot'
  obtain ⟨⟨el, ft, ep⟩, als⟩ := al
  have lm0 := lm
  rw [ds_length] at lm0
  rw [tns_length] at few5 few5'
  have zk := nk_le x hx
  refine' ⟨_, ?n0, ?Z⟩
  case' n0 => refine' pss_cons ?n1 ?n2
  case' n1 => refine' ps_lc (g := gTup K 2 (gCons (gName 0) (gCons (gName 1) gNil))) (i := 3) (k := 2) (N := ["kind", "beside", "tree", "other", "both", "kinds", "nodes"]) (lc_mk rfl rfl rfl rfl rfl rfl) rfl nd rfl (Or.inl rfl) ?n3 (fun _ _ _ _ => ?n4) (fun _ _ _ _ => ?n5) (fun _ _ _ _ => ?n6)
  case' n3 => refine' pi_zip rfl T.zip ?n7
  case' n7 => refine' pa ?n8 ?n9
  case' n8 => refine' pe_cal c_written hr ?n10
  case' n10 => refine' pa ?n11 ?n12
  case n11 => exact pv 0
  case n12 => exact pa_nil
  case' n9 => refine' pa ?n13 ?n14
  case' n13 => refine' pe_cal c_written hr ?n15
  case' n15 => refine' pa ?n16 ?n17
  case n16 => exact pv 1
  case n17 => exact pa_nil
  case n14 => exact pa_nil
  case n4 =>
    refine' pg_tup rfl ?n18
    case' n18 => refine' pgs_cons ?n19 ?n20
    case n19 => exact pg_name (i := 0) (by show List.Nodup (["kind", "beside", "tree", "other", "both", "kinds", "nodes"] : List Str); decide +kernel) rfl (Or.inl rfl)
    case' n20 => refine' pgs_cons ?n21 ?n22
    case n21 => exact pg_name (i := 1) (by show List.Nodup (["kind", "beside", "tree", "other", "both", "kinds", "nodes"] : List Str); decide +kernel) rfl (Or.inl rfl)
    case n22 => exact pgs_nil
  case n5 => exact pts_nil
  case n6 =>
    refine' pe_calV h_both hr ?n23 ?n24
    case n23 => exact pv 4
    case' n24 => refine' pa ?n25 ?n26
    case n25 => exact pv 0
    case' n26 => refine' pa ?n27 ?n28
    case n27 => exact pv 1
    case n28 => exact pa_nil
  case' n2 => refine' pss_cons ?n29 ?n30
  case' n29 => refine' ps_if ?n31 pss_never ?n32
  case' n31 => refine' pt_cmpR (op_inN hr) ?n33 ?n34 rfl
  case n33 => exact pe_non
  case n34 => exact pv 3
  case n32 => exact pss_nil
  case' n30 => refine' pss_cons ?n35 ?n36
  case' n35 => refine' ps_lc (g := gTup K 2 (gCons (gName 0) (gCons (gName 1) gNil))) (i := 4) (k := 2) (N := ["node", "beside", "tree", "other", "both", "kinds", "nodes"]) (lc_mk rfl rfl rfl rfl rfl rfl) rfl nd rfl (Or.inl rfl) ?n37 (fun _ _ _ _ => ?n38) (fun _ _ _ _ => ?n39) (fun _ _ _ _ => ?n40)
  case' n37 => refine' pi_zip rfl T.zip ?n41
  case' n41 => refine' pa ?n42 ?n43
  case' n42 => refine' pe_cal c_parts hr ?n44
  case' n44 => refine' pa ?n45 ?n46
  case n45 => exact pv 0
  case n46 => exact pa_nil
  case' n43 => refine' pa ?n47 ?n48
  case' n47 => refine' pe_cal c_parts hr ?n49
  case' n49 => refine' pa ?n50 ?n51
  case n50 => exact pv 1
  case n51 => exact pa_nil
  case n48 => exact pa_nil
  case n38 =>
    refine' pg_tup rfl ?n52
    case' n52 => refine' pgs_cons ?n53 ?n54
    case n53 => exact pg_name (i := 0) (by show List.Nodup (["node", "beside", "tree", "other", "both", "kinds", "nodes"] : List Str); decide +kernel) rfl (Or.inl rfl)
    case' n54 => refine' pgs_cons ?n55 ?n56
    case n55 => exact pg_name (i := 1) (by show List.Nodup (["node", "beside", "tree", "other", "both", "kinds", "nodes"] : List Str); decide +kernel) rfl (Or.inl rfl)
    case n56 => exact pgs_nil
  case n39 => exact pts_nil
  case n40 =>
    refine' pe_cal c_with_both hr ?n57
    case' n57 => refine' pa ?n58 ?n59
    case n58 => exact pv 0
    case' n59 => refine' pa ?n60 ?n61
    case n60 => exact pv 1
    case' n61 => refine' pa ?n62 ?n63
    case n62 => exact pv 4
    case n63 => exact pa_nil
  case' n36 => refine' pss_one ?n64
  case' n64 => refine' ps_ret ?n65
  case' n65 => refine' pe_cal c_with_parts hr ?n66
  case' n66 => refine' pa ?n67 ?n68
  case' n67 => refine' pe_cal c_with_written hr ?n69
  case' n69 => refine' pa ?n70 ?n71
  case n70 => exact pv 0
  case' n71 => refine' pa ?n72 ?n73
  case n72 => exact pv 3
  case n73 => exact pa_nil
  case' n68 => refine' pa ?n74 ?n75
  case n74 => exact pv 4
  case n75 => exact pa_nil
  refine ⟨_, rfl, v, _, rfl, rv', w1, nl, fun r1 us1 H1 o1 hr1 hr1' rus1 => ⟨_, rfl, u, _, rfl, ru'.mono o1.tm, w2, nl', fun r2 us2 H2 o2 hr2 hr2' rus2 => ⟨r1, r2, us1, us2, rfl, SqL.of (o2 _ _ hr1'), SqL.of hr2', fun D hD => ?_⟩⟩⟩
  have rus1H : RKs K H2 (Kn.ds ks) us1 := rus1.mono o2.tm
  have rus2' : RKs K H2 (Kn.ds ls) us2 := rus2
  have l1 := rus1H.length
  have l2 := rus2'.length
  rw [ds_length] at l1 l2
  have hr1H := o2 _ _ hr1'
  have o12 := o1.trans o2
  have neD : ∀ b o, H2 b = some o → b ≠ D := fun b o e => ne_of_none e hD
  refine lc_by0 (n := ks.length) (fun i σ H3 => ∃ (k1 k2 : Option V) (zs : List V), σ = [k1, k2, some v, some u, some (.ref fb), none, none] ∧ Old H2 H3 ∧ H3 D = some (.lst zs) ∧ RKs K H3 (Kn.ds ((List.zipWith op ks ls).take i)) zs) ⟨none, none, [], rfl, Old.new hD, upd_same, by rw [List.take_zero]; exact .nil⟩ ?_ ?_ ?_ ?_
  · intro i σ H3 hi hv
    obtain ⟨k1, k2, zs, rfl, o3, hD3, rz⟩ := hv
    exact ⟨_, _, SqL.of (o3 _ _ hr1H), SqL.of (o3 _ _ hr2'), by omega, by omega⟩
  · intro σ H3 hv
    obtain ⟨k1, k2, zs, rfl, o3, hD3, rz⟩ := hv
    exact ⟨_, _, SqL.of (o3 _ _ hr1H), SqL.of (o3 _ _ hr2'), by omega⟩
  · intro i σ H3 hi hv v3 H4 hy
    obtain ⟨k1, k2, zs, rfl, o3, hD3, rz⟩ := hv
    obtain ⟨t, x, y, rfl, ht, rfl, hx, hyy⟩ := hy
    have i2 : i < ls.length := by omega
    obtain ⟨d1, e1, rd1⟩ := rus1H.getV (hx _ (SqL.of (o3 _ _ hr1H)))
    obtain ⟨d2, e2, rd2⟩ := rus2'.getV (hyy _ (SqL.of (o3 _ _ hr2')))
    rw [ds_get hi] at e1
    rw [ds_get i2] at e2
    cases e1
    cases e2
    have dg := deps_get hi
    have o4 : Old H3 (upd H3 t (.tup [x, y])) := Old.new ht
    have o34 := o3.trans o4
    have lz := rz.length
    rw [ds_length, List.length_take, List.length_zipWith] at lz
    refine ⟨t, _, rfl, SqT.of upd_same, rfl, _, _, rfl, _, _, rfl, rfl, fb, spB K op, rfl, ⟨op, tw, rfl⟩, _, rfl, _, rfl, x, y, ks[i], ls[i], rfl, rd1.mono o34.tm, rd2.mono o34.tm, wfs_get hi wks, wfs_get i2 wls, by omega, fits_get hi i2 ft, fun v5 H5 o5 r5 => ?_⟩
    have hD5 := o5 _ _ (o4 _ _ hD3)
    have tm5 : Tm H5 (upd H5 D (.lst (zs ++ [v5]))) := (Gr.put (M := M1 D) rfl).tm1 hD5
    refine ⟨_, hD5, smallM (by omega), nx hi ⟨_, _, zs ++ [v5], rfl, fun b o e => by rw [upd_ne (neD b o e)]; exact o5 _ _ (o34 b o e), upd_same, ?_⟩⟩
    rw [zip_take op hi i2, ds_append]
    exact (((rz.mono o4.tm).mono o5.tm).mono tm5).append (.cons (r5.mono tm5) .nil)
  intro σ H3 hv
  obtain ⟨k1, k2, zs, rfl, o3, hD3, rz⟩ := hv
  rw [List.take_of_length_le (by rw [List.length_zipWith]; omega)] at rz
  have o03 := o12.trans o3
  have tups : ∀ v ∈ zs, ∃ a ys, v = .ref a ∧ SqT K H3 a ys := fun v hv => by
    obtain ⟨i, hi, rfl⟩ := List.getElem_of_mem hv
    obtain ⟨d, ed, rd⟩ := rz.getV (List.getElem?_eq_getElem hi)
    have li : i < (List.zipWith op ks ls).length := by
      have := (List.getElem?_eq_some_iff.mp ed).1
      rw [ds_length] at this
      exact this
    rw [ds_get li] at ed
    cases ed
    generalize (List.zipWith op ks ls)[i] = kk at rd
    obtain ⟨h0, k0⟩ := kk
    obtain ⟨a, ys, e, ha, _⟩ := RK.get (show RK K H3 (.tup (.str h0 :: Kn.ds k0)) zs[i] from rd)
    exact ⟨a, ys, e, ha.sq⟩
  refine ⟨_, rfl, D, zs, rfl, rfl, SqL.of hD3, tups, _, rfl, iteF ?_⟩
  refine ⟨_, rfl, v, _, rfl, rv'.mono o03.tm, w1, fun s1 xs1 H4 o4 hs1 hs1' rxs1 => ⟨_, rfl, u, _, rfl, (ru'.mono o03.tm).mono o4.tm, w2, fun s2 xs2 H5 o5 hs2 hs2' rxs2 => ⟨s1, s2, xs1, xs2, rfl, SqL.of (o5 _ _ hs1'), SqL.of hs2', fun D' hD' => ?_⟩⟩⟩
  have rx1 : RKs K H5 (Tn.ds (Tk.tns ps)) xs1 := rxs1.mono o5.tm
  have rx2 : RKs K H5 (Tn.ds (Tk.tns qs)) xs2 := rxs2
  have m1 := rx1.length
  have m2 := rx2.length
  rw [ktd_len] at m1 m2
  have hs1H := o5 _ _ hs1'
  have o45 := o4.trans o5
  have neD' : ∀ b o, H5 b = some o → b ≠ D' := fun b o e => ne_of_none e hD'
  have lw := wbs_length op ps qs
  refine lc_by0 (n := ps.length) (fun i σ H6 => ∃ (k1 k2 : Option V) (ys : List V), σ = [k1, k2, some v, some u, some (.ref fb), some (.ref D), none] ∧ Old H5 H6 ∧ H6 D' = some (.lst ys) ∧ RKs K H6 (Tn.ds (Tk.tns ((Tk.wbs op ps qs).take i))) ys) ⟨none, none, [], rfl, Old.new hD', upd_same, by rw [List.take_zero]; exact .nil⟩ ?_ ?_ ?_ ?_
  · intro i σ H6 hi hv
    obtain ⟨k1, k2, ys, rfl, o6, hD6, ry⟩ := hv
    exact ⟨_, _, SqL.of (o6 _ _ hs1H), SqL.of (o6 _ _ hs2'), by omega, by omega⟩
  · intro σ H6 hv
    obtain ⟨k1, k2, ys, rfl, o6, hD6, ry⟩ := hv
    exact ⟨_, _, SqL.of (o6 _ _ hs1H), SqL.of (o6 _ _ hs2'), by omega⟩
  · intro i σ H6 hi hv v3 H7 hy
    obtain ⟨k1, k2, ys, rfl, o6, hD6, ry⟩ := hv
    obtain ⟨t, x, y, rfl, ht, rfl, hx, hyy⟩ := hy
    have i2 : i < qs.length := by omega
    obtain ⟨d1, e1, rd1⟩ := rx1.getV (hx _ (SqL.of (o6 _ _ hs1H)))
    obtain ⟨d2, e2, rd2⟩ := rx2.getV (hyy _ (SqL.of (o6 _ _ hs2')))
    rw [ktd_get hi] at e1
    rw [ktd_get i2] at e2
    cases e1
    cases e2
    have dg := ktdeps_get hi
    have o7 : Old H6 (upd H6 t (.tup [x, y])) := Old.new ht
    have o67 := o6.trans o7
    have ly := ry.length
    rw [ktd_len, List.length_take] at ly
    refine ⟨t, _, rfl, SqT.of upd_same, rfl, _, _, rfl, _, _, rfl, rfl, _, rfl, _, rfl, _, rfl, x, y, fb, op, ps[i], qs[i], rfl, tw, rd1.mono o67.tm, rd2.mono o67.tm, ktwfs_get hi wps, ktwfs_get i2 wqs, koks_get hi ops, koks_get i2 oqs, als_get hi i2 als, by omega, fun v8 H8 o8 r8 => ?_⟩
    have hD8 := o8 _ _ (o7 _ _ hD6)
    have tm8 : Tm H8 (upd H8 D' (.lst (ys ++ [v8]))) := (Gr.put (M := M1 D') rfl).tm1 hD8
    refine ⟨_, hD8, smallM (by omega), nx hi ⟨_, _, ys ++ [v8], rfl, fun b o e => by rw [upd_ne (neD' b o e)]; exact o8 _ _ (o67 b o e), upd_same, ?_⟩⟩
    rw [wbs_take op hi i2, ktd_append]
    exact (((ry.mono o7.tm).mono o8.tm).mono tm8).append (.cons (r8.mono tm8) .nil)
  intro σ H6 hv
  obtain ⟨k1, k2, ys, rfl, o6, hD6, ry⟩ := hv
  rw [List.take_of_length_le (by omega)] at ry
  have o36 := o45.trans o6
  have o06 := o03.trans o36
  have lzz : (List.zipWith op ks ls).length = ks.length := by rw [List.length_zipWith]; omega
  refine ⟨_, rfl, _, rfl, v, D, x, p, fr, Kn.ds ks, Kn.ds (List.zipWith op ks ls), Tk.tns ps, zs, rfl, rv'.mono o06.tm, w1, nl, o36 _ _ hD3, rz.mono o36.tm, by rw [ds_length, ds_length]; exact lzz, fun v7 H7 o7 r7 => ?_⟩
  have wt7 : (Tn.mk x p fr (Kn.ds (List.zipWith op ks ls)) (Tk.tns ps)).wf := ⟨⟨hx, lf, by rw [ds_length, lzz]; exact lm0, lp, by rw [tns_length]; exact few5, h6⟩, wps⟩
  refine ⟨_, rfl, v7, D', x, p, fr, Kn.ds (List.zipWith op ks ls), Tk.tns ps, Tk.tns (Tk.wbs op ps qs), ys, rfl, r7, wt7, o7 _ _ hD6, ry.mono o7.tm, by rw [tns_length, tns_length]; omega, fun v8 H8 o8 r8 => ?_⟩
  exact q' v8 H8 ((o06.trans o7).trans o8) r8
/-! ### need_alike -/
noncomputable abbrev sNa : Stmt := top 32
noncomputable def spNa (K : PySem.W.Frag) : Sp := fun vs H Q _ => ∃ (v u : V) (t t' : Tk), vs = [v, u] ∧ RK K H t.tn.d v ∧ RK K H t'.tn.d u ∧ t.tn.wf ∧ t'.tn.wf ∧ t.ok ∧ t'.ok ∧ t.tn.dep < 11 ∧ t.unl t' = none ∧ ∀ (H' : Hp), Old H H' → Q .non H'
theorem scNa : FnScope ["tree", "other", "place"] ["tree", "other"] (defScope sNa) := ⟨rfl, rfl, rfl, by decide +kernel, rfl, by decide +kernel, by decide +kernel⟩
theorem ok_Na {m : Nat} (F : Fun K "need_alike" "need_alike" sNa f fd) (T : Tx mg) (c_first_unlike : Cal P w K mg base "first_unlike" ["tree", "other"] 15 (spFu K 11)) : FnOk P w K mg base CX0 (m + 16) f fd ["tree", "other"] (spNa K) := by
  refine F.ok scNa (fun vs H Q E h => ?_) (fun cdv A outer s H vs Q E hr h => ?_)
  · obtain ⟨v, u, t, t', rfl, _⟩ := h
    rfl
  obtain ⟨v, u, t, t', rfl, rv, ru, wt, wt', ot, ot', hd, un, q⟩ := h
  have nd := scNa.nd
  refine' ⟨_, ?n0, ?Z⟩
  case' n0 => refine' pss_cons ?n1 ?n2
  case' n1 => refine' ps_setX (i := 2) nd rfl (Or.inl rfl) rfl (by first | exact .inl rfl | exact .inr rfl) ?n3
  case' n3 => refine' pe_cal c_first_unlike hr ?n4
  case' n4 => refine' pa ?n5 ?n6
  case n5 => exact pv 0
  case' n6 => refine' pa ?n7 ?n8
  case n7 => exact pv 1
  case n8 => exact pa_nil
  case' n2 => refine' pss_one ?n9
  case' n9 => refine' ps_if ?n10 pss_never ?n11
  case' n10 => refine' pt_cmpR op_notN ?n12 ?n13 (nomark _)
  case n12 => exact pv 2
  case n13 => exact pe_non
  case n11 => exact pss_nil
  refine ⟨_, rfl, _, rfl, v, u, t, t', rfl, rv, ru, wt, wt', ot, ot', hd, fun H1 o1 => ?_⟩
  rw [un]
  exact ⟨_, rfl, rfl, _, rfl, iteF (q H1 o1)⟩
/-! ### joined -/
noncomputable abbrev sJd : Stmt := top 29
noncomputable def spJd (K : PySem.W.Frag) (op : Kn → Kn → Kn) : Sp := fun vs H Q _ => ∃ (v u : V) (t t' : Tk), vs = [v, u] ∧ RK K H t.tn.d v ∧ RK K H t'.tn.d u ∧ t.tn.wf ∧ t'.tn.wf ∧ t.ok ∧ t'.ok ∧ t.tn.dep < 11 ∧ t.unl t' = none ∧ t.al t' ∧ ∀ (v' : V) (H' : Hp), Old H H' → RK K H' (t.wb op t').tn.d v' → Q v' H'
theorem scJd : FnScope ["tree", "other"] ["tree", "other"] (defScope sJd) := ⟨rfl, rfl, rfl, by decide +kernel, rfl, by decide +kernel, by decide +kernel⟩
theorem ok_Jd {m : Nat} {fJ fM : Addr} (F : Fun K "joined" "joined" sJd f fd) (T : Tx mg) (m_join : mg "join" = some (.ref fJ)) (c_need_alike : Cal P w K mg base "need_alike" ["tree", "other"] 16 (spNa K)) (c_with_both : Cal P w K mg base "with_both" ["tree", "other", "both"] 22 (spWb K fJ fM 11)) : FnOk P w K mg base CX0 (m + 23) f fd ["tree", "other"] (spJd K Kn.join) := by
  refine F.ok scJd (fun vs H Q E h => ?_) (fun cdv A outer s H vs Q E hr h => ?_)
  · obtain ⟨v, u, t, t', rfl, _⟩ := h
    rfl
  obtain ⟨v, u, t, t', rfl, rv, ru, wt, wt', ot, ot', hd, un, al, q⟩ := h
  have nd := scJd.nd
  refine' ⟨_, ?n0, ?Z⟩
  case' n0 => refine' pss_cons ?n1 ?n2
  case' n1 => refine' ps_expr ?n3
  case' n3 => refine' pe_cal c_need_alike hr ?n4
  case' n4 => refine' pa ?n5 ?n6
  case n5 => exact pv 0
  case' n6 => refine' pa ?n7 ?n8
  case n7 => exact pv 1
  case n8 => exact pa_nil
  case' n2 => refine' pss_one ?n9
  case' n9 => refine' ps_ret ?n10
  case' n10 => refine' pe_cal c_with_both hr ?n11
  case' n11 => refine' pa ?n12 ?n13
  case n12 => exact pv 0
  case' n13 => refine' pa ?n14 ?n15
  case n14 => exact pv 1
  case' n15 => refine' pa ?n16 ?n17
  case n16 => exact pe_gref rfl m_join
  case n17 => exact pa_nil
  refine ⟨_, rfl, _, rfl, v, u, t, t', rfl, rv, ru, wt, wt', ot, ot', hd, un, fun H1 o1 => ?_⟩
  exact ⟨_, rfl, _, rfl, v, u, fJ, Kn.join, t, t', rfl, .inl ⟨rfl, rfl⟩, rv.mono o1.tm, ru.mono o1.tm, wt, wt', ot, ot', al, hd, fun v' H2 o2 r2 => q v' H2 (o1.trans o2) r2⟩
/-! ### met -/
noncomputable abbrev sMd : Stmt := top 30
theorem scMd : FnScope ["tree", "other"] ["tree", "other"] (defScope sMd) := ⟨rfl, rfl, rfl, by decide +kernel, rfl, by decide +kernel, by decide +kernel⟩
theorem ok_Md {m : Nat} {fJ fM : Addr} (F : Fun K "met" "met" sMd f fd) (T : Tx mg) (m_meet : mg "meet" = some (.ref fM)) (c_need_alike : Cal P w K mg base "need_alike" ["tree", "other"] 16 (spNa K)) (c_with_both : Cal P w K mg base "with_both" ["tree", "other", "both"] 22 (spWb K fJ fM 11)) : FnOk P w K mg base CX0 (m + 23) f fd ["tree", "other"] (spJd K Kn.both) := by
  refine F.ok scMd (fun vs H Q E h => ?_) (fun cdv A outer s H vs Q E hr h => ?_)
  · obtain ⟨v, u, t, t', rfl, _⟩ := h
    rfl
  obtain ⟨v, u, t, t', rfl, rv, ru, wt, wt', ot, ot', hd, un, al, q⟩ := h
  have nd := scMd.nd
  refine' ⟨_, ?n0, ?Z⟩
  case' n0 => refine' pss_cons ?n1 ?n2
  case' n1 => refine' ps_expr ?n3
  case' n3 => refine' pe_cal c_need_alike hr ?n4
  case' n4 => refine' pa ?n5 ?n6
  case n5 => exact pv 0
  case' n6 => refine' pa ?n7 ?n8
  case n7 => exact pv 1
  case n8 => exact pa_nil
  case' n2 => refine' pss_one ?n9
  case' n9 => refine' ps_ret ?n10
  case' n10 => refine' pe_cal c_with_both hr ?n11
  case' n11 => refine' pa ?n12 ?n13
  case n12 => exact pv 0
  case' n13 => refine' pa ?n14 ?n15
  case n14 => exact pv 1
  case' n15 => refine' pa ?n16 ?n17
  case n16 => exact pe_gref rfl m_meet
  case n17 => exact pa_nil
  refine ⟨_, rfl, _, rfl, v, u, t, t', rfl, rv, ru, wt, wt', ot, ot', hd, un, fun H1 o1 => ?_⟩
  exact ⟨_, rfl, _, rfl, v, u, fM, Kn.both, t, t', rfl, .inr ⟨rfl, rfl⟩, rv.mono o1.tm, ru.mono o1.tm, wt, wt', ot, ot', al, hd, fun v' H2 o2 r2 => q v' H2 (o1.trans o2) r2⟩
end
end L2.K81

end
section
set_option Elab.async false
set_option linter.all false
set_option maxRecDepth 100000
set_option maxHeartbeats 8000000
namespace L2.K81
open PySem PySem.Spec PyProof.Rows L2.Bw L2.Bk L2.Ex
section
variable {P : Program} {w : World} {K : PySem.W.Frag} {mg : Str → Option Value} {base : Heap} {f : Addr} {fd : FuncData}
/-! ### open -/
noncomputable abbrev sOp : Stmt := top 44
/-- what a dict has -/
noncomputable def onK (kvs : List (Key × V)) (i : Nat) : Bool := (valV kvs (.inl (i : Int))).isSome
noncomputable def spOp (K : PySem.W.Frag) (m : Nat) : Sp := fun vs H Q _ => ∃ (v : V) (d : Dk) (n : Nat) (kd sd : Addr) (kvs : List (Key × V)) (fr : Bool) (L : List Nat), vs = [v, .int (n : Int), .ref kd, .bl fr, .ref sd] ∧ RK K H d v ∧ d.nr ∧ d.dq ≤ 50 ∧ d.dq < m ∧ H kd = some (.dK kvs) ∧ H sd = some (.dK (dOf L)) ∧ kd ≠ sd ∧ (∀ i ∈ L, i < n) ∧ L.length ≤ n ∧ (d.om (onK kvs) fr n).2 ≤ 900000 ∧
  ∀ H', Gr (M1 sd) H H' → H' sd = some (.dK (dOf (L ++ (d.om (onK kvs) fr n).1))) → Q (.int ((d.om (onK kvs) fr n).2 : Int)) H'
theorem scOp : FnScope ["_law_thing", "_law_at", "_law_keep_here", "_law_free", "_law_some", "_law_spot", "_law_inner"] ["_law_thing", "_law_at", "_law_keep_here", "_law_free", "_law_some"] (defScope sOp) := ⟨rfl, rfl, rfl, by decide +kernel, rfl, by decide +kernel, by decide +kernel⟩
theorem tmD {H H' : Hp} {sd : Addr} {kvs : List (Key × V)} (g : Gr (M1 sd) H H') (h : H sd = some (.dK kvs)) : Tm H H' := g.tm fun b xs m e => by
  cases (show b = sd from m)
  rw [h] at e
  cases e
theorem ok_op {m : Nat} (F : Fun K "_law_open" "_law_open" sOp f fd) (T : Tx mg) (c_open : Cal P w K mg base "_law_open" ["_law_thing", "_law_at", "_law_keep_here", "_law_free", "_law_some"] m (spOp K m)) : FnOk P w K mg base CX0 (m + 1) f fd ["_law_thing", "_law_at", "_law_keep_here", "_law_free", "_law_some"] (spOp K (m + 1)) := by
  refine F.ok scOp (fun vs H Q E h => ?_) (fun cdv A outer s H vs Q E hr h => ?_)
  · obtain ⟨v, d, n, kd, sd, kvs, fr, L, rfl, _⟩ := h
    rfl
  obtain ⟨v, d, n, kd, sd, kvs, fr, L, rfl, rv, nr, d50, hm, hk, hs, nks, hL, lL, big, q⟩ := h
  have nd := scOp.nd
  refine' ⟨_, ?n0, ?Z⟩
  case' n0 => refine' pss_cons ?n1 ?n2
  case' n1 => refine' ps_if ?n3 ?n4 ?n5
  case' n3 => refine' PW.pt ?n6
  case' n6 => refine' pw_or ?n7 ?n8
  case' n7 => refine' pt_not ?n9
  case' n9 => refine' pt_val ?n10
  case' n10 => refine' pe_callB (call_isj) rfl T.isinstance boot_isinstance ?n11
  case' n11 => refine' pa ?n12 ?n13
  case n12 => exact pv 0
  case' n13 => refine' pa ?n14 ?n15
  case n14 => exact pe_ty rfl T.tuple boot_tuple
  case n15 => exact pa_nil
  case' n8 => refine' pw_or1 ?n16
  case' n16 => refine' pt_cmpR (op_eqG hr) ?n17 ?n18 (nomark _)
  case n17 => exact pv 0
  case' n18 => refine' pe_tup ?n19
  case' n19 => refine' pa ?n20 ?n21
  case n20 => exact pe_str
  case n21 => exact pa_nil
  case' n4 => refine' pss_one ?n22
  case' n22 => refine' ps_ret ?n23
  case n23 => exact pv 1
  case n5 => exact pss_nil
  case' n2 => refine' pss_cons ?n24 ?n25
  case' n24 => refine' ps_setX (i := 5) nd rfl (Or.inl rfl) rfl (by first | exact .inl rfl | exact .inr rfl) ?n26
  case' n26 => refine' pe_and ?n27 ?n28
  case' n27 => refine' pe_cmpR op_gt ?n29 ?n30 (nomark _)
  case' n29 => refine' pe_callB (call_lenA) rfl T.len boot_len ?n31
  case' n31 => refine' pa ?n32 ?n33
  case n32 => exact pv 0
  case n33 => exact pa_nil
  case n30 => exact pe_int
  case' n28 => refine' pe_and ?n34 ?n35
  case' n34 => refine' pe_callB (call_isj) rfl T.isinstance boot_isinstance ?n36
  case' n36 => refine' pa ?n37 ?n38
  case' n37 => refine' pe_ix ix_seq ?n39 ?n40 (fun _ _ => rfl)
  case n39 => exact pv 0
  case n40 => exact pe_int
  case' n38 => refine' pa ?n41 ?n42
  case n41 => exact pe_ty rfl T.str boot_str
  case n42 => exact pa_nil
  case' n35 => refine' pe_one ?n43
  case' n43 => refine' pe_or ?n44 ?n45
  case' n44 => refine' pe_cmpR (op_eqG hr) ?n46 ?n47 (nomark _)
  case' n46 => refine' pe_callB (call_lenA) rfl T.len boot_len ?n48
  case' n48 => refine' pa ?n49 ?n50
  case n49 => exact pv 0
  case n50 => exact pa_nil
  case n47 => exact pe_int
  case' n45 => refine' pe_one ?n51
  case' n51 => refine' pe_callB (call_isj) rfl T.isinstance boot_isinstance ?n52
  case' n52 => refine' pa ?n53 ?n54
  case' n53 => refine' pe_ix ix_seq ?n55 ?n56 (fun _ _ => rfl)
  case n55 => exact pv 0
  case n56 => exact pe_int
  case' n54 => refine' pa ?n57 ?n58
  case n57 => exact pe_ty rfl T.tuple boot_tuple
  case n58 => exact pa_nil
  case' n25 => refine' pss_cons ?n59 ?n60
  case' n59 => refine' ps_if ?n61 ?n62 ?n63
  case' n61 => refine' pt_val ?n64
  case n64 => exact pv 5
  case' n62 => refine' pss_cons ?n65 ?n66
  case' n65 => refine' ps_setX (i := 3) nd rfl (Or.inl rfl) rfl (by first | exact .inl rfl | exact .inr rfl) ?n67
  case' n67 => refine' pe_and ?n68 ?n69
  case n68 => exact pv 3
  case' n69 => refine' pe_one ?n70
  case' n70 => refine' pe_cmp ?n71
  case' n71 => refine' pc_din hr.u1 ?n72 ?n73
  case n72 => exact pv 1
  case n73 => exact pv 2
  case' n66 => refine' pss_cons ?n74 ?n75
  case' n74 => refine' ps_if ?n76 ?n77 ?n78
  case' n76 => refine' pt_val ?n79
  case n79 => exact pv 3
  case' n77 => refine' pss_one ?n80
  case' n80 => refine' ps_dput hr.u1 ?n81 ?n82 ?n83 rfl
  case n81 => exact pv 4
  case n82 => exact pv 1
  case n83 => exact pe_bl
  case n78 => exact pss_nil
  case' n75 => refine' pss_one ?n84
  case' n84 => refine' ps_setX (i := 1) nd rfl (Or.inl rfl) rfl (by first | exact .inl rfl | exact .inr rfl) ?n85
  case' n85 => refine' pe_op op_addG ?n86 ?n87
  case n86 => exact pv 1
  case n87 => exact pe_int
  case n63 => exact pss_nil
  case' n60 => refine' pss_cons ?n88 ?n89
  case' n88 => refine' ps_for PassesOwn.never rfl ?n90 ?n91 ?n92
  case' n90 => refine' pi_seq ?n93
  case n93 => exact pv 0
  case n91 => exact pg_name (i := 6) nd rfl (Or.inl rfl)
  case' n92 => refine' pss_one ?n94
  case' n94 => refine' ps_setX (i := 1) nd rfl (Or.inl rfl) rfl (by first | exact .inl rfl | exact .inr rfl) ?n95
  case' n95 => refine' pe_cal c_open hr ?n96
  case' n96 => refine' pa ?n97 ?n98
  case n97 => exact pv 6
  case' n98 => refine' pa ?n99 ?n100
  case n99 => exact pv 1
  case' n100 => refine' pa ?n101 ?n102
  case n101 => exact pv 2
  case' n102 => refine' pa ?n103 ?n104
  case n103 => exact pv 3
  case' n104 => refine' pa ?n105 ?n106
  case n105 => exact pv 4
  case n106 => exact pa_nil
  case' n89 => refine' pss_one ?n107
  case' n107 => refine' ps_ret ?n108
  case n108 => exact pv 1
  refine ⟨_, rfl, _, _, _, rfl, isj_t rv, _, rfl, ?_⟩
  by_cases ct' : d.isT = false
  · have df : d.flat = true := by
      cases d with
      | tup _ => cases ct'
      | _ => rfl
    rw [ct']
    rw [om_flat _ df, List.append_nil] at q
    exact iteT (iteT ⟨_, rfl, q H (Gr.refl _) hs⟩)
  obtain ⟨ds, rfl⟩ : ∃ ds, d = .tup ds := by
    cases d with
    | tup ds => exact ⟨ds, rfl⟩
    | _ => exact absurd rfl ct'
  obtain ⟨l1000, nrs⟩ := nr_tup nr
  rw [dq_tup] at d50 hm
  rw [om_tup] at q big
  obtain ⟨a, us, rfl, ha, rus⟩ := RK.get rv
  have lus := rus.length
  refine iteF ⟨_, rfl, by show 1 ≤ sizeLine; decide, fun qa hqa => ?_⟩
  have o1 := Old.new (o := .tup [.str "?"]) hqa
  have rq : RK K (upd H qa (.tup [.str "?"])) (.tup [.str "?"]) (.ref qa) := RK.tup (.of upd_same) (.cons (.s _) .nil)
  generalize upd H qa (.tup [.str "?"]) = H1 at o1 rq ⊢
  have rv1 := rv.mono o1.tm
  have hk1 := o1 _ _ hk
  have hs1 := o1 _ _ hs
  refine .inl ⟨ds, _, rv1, rq, by omega, _, rfl, ?_⟩
  by_cases ce : eqbs ds [.str "?"] = true
  · rw [ce]
    rw [if_pos ce, List.append_nil] at q
    exact iteT ⟨_, rfl, q _ o1.gm hs1⟩
  have ce' : eqbs ds [.str "?"] = false := by simpa using ce
  rw [ce']
  rw [if_neg ce] at q big
  refine iteF ?_
  have ha1 := ha.mono o1.tm
  have rus1 := rus.mono o1.tm
  dsimp only [tNext]
  with_reducible refine seq_at (asg_by (fun v H' => v = .bl (isSpot ds) ∧ H' = H1) (fun Q' hQ => ?_) (fun v0 H1' hP => ?_))
  · have fin : ∀ b, b = isSpot ds → Q' (.bl b) H1 := fun b hb => hQ _ _ ⟨by rw [hb], rfl⟩
    refine ⟨_, rfl, .inl ⟨a, us, rfl, .inr ha1.sq, _, _, rfl, rfl, _, rfl, ?_⟩⟩
    cases ds with
    | nil =>
      obtain rfl : us = [] := rus
      exact iteF (fin false rfl)
    | cons d0 dr =>
      obtain ⟨u0, ur, rfl, r0, rr⟩ := rus
      obtain ⟨_, _, e, r0', rr'⟩ := rus1
      cases e
      refine ite2 (fun _ => ?_) (fun c => absurd (decide_eq_true (show (0 : Int) < ((ur.length + 1 : Nat) : Int) by omega)) c)
      refine ⟨_, rfl, .inr (.inl ⟨a, _, 0, u0, rfl, rfl, ha1.sq, at0, _, _, _, rfl, isj_s r0', _, rfl, ?_⟩)⟩
      cases d0 with
      | str z =>
        refine iteT ?_
        refine ⟨_, rfl, .inl ⟨a, _, rfl, .inr ha1.sq, .inr (.inl ⟨rfl, _, rfl, ?_⟩)⟩⟩
        rw [dec_int]
        cases dr with
        | nil =>
          obtain rfl : ur = [] := rr'
          exact iteT (fin true rfl)
        | cons d1 dr =>
          obtain ⟨u1, ur, rfl, r1, rr1⟩ := rr'
          refine ite2 (fun c => absurd c ?_) (fun _ => ?_)
          · have : ¬ (((ur.length + 1 + 1 : Nat) : Int) = 1) := by omega
            simpa using this
          · refine ⟨_, rfl, .inr (.inl ⟨a, _, 1, u1, rfl, rfl, ha1.sq, at1, _, _, _, rfl, isj_t r1, fin _ ?_⟩)⟩
            cases d1 <;> rfl
      | _ => exact iteF (fin false rfl)
  obtain ⟨rfl, rfl⟩ := hP
  dsimp only [gName]
  -- the spot itself
  refine seq_by (fun σ H2 => ∃ (n1 : Nat) (fr1 : Bool) (L1 : List Nat), σ = [some (.ref a), some (.int (n1 : Int)), some (.ref kd), some (.bl fr1), some (.ref sd), some (.bl (isSpot ds)), none] ∧ Gr (M1 sd) H1' H2 ∧ H2 sd = some (.dK (dOf L1)) ∧ (∀ i ∈ L1, i < n1) ∧ L1.length ≤ n1 ∧ (oms (onK kvs) ds fr1 n1).2 ≤ 900000 ∧
      ∀ H', Gr (M1 sd) H H' → H' sd = some (.dK (dOf (L1 ++ (oms (onK kvs) ds fr1 n1).1))) → Q (.int ((oms (onK kvs) ds fr1 n1).2 : Int)) H') (fun R hR => ?_) (fun σ H2 hP => ?_)
  · refine ⟨_, rfl, _, rfl, ?_⟩
    cases hsp : isSpot ds with
    | false =>
      rw [hsp, if_neg (by decide)] at q big
      exact iteF (hR _ _ ⟨n, fr, L, by rw [hsp]; rfl, Gr.refl _, hs1, hL, lL, big, q⟩)
    | true =>
      rw [hsp, if_pos rfl] at q big
      refine iteT ?_
      with_reducible refine seq_at (asg_by (fun v H' => v = .bl (fr && onK kvs n) ∧ H' = H1') (fun Q' hQ => ?_) (fun v1 H2 hP => ?_))
      · refine ⟨_, rfl, _, rfl, ?_⟩
        cases fr with
        | false => exact iteF (hQ _ _ ⟨rfl, rfl⟩)
        | true => exact iteT ⟨_, rfl, _, rfl, kd, _, rfl, DGet.k (k := .inl (n : Int)) hk1, hQ _ _ ⟨rfl, rfl⟩⟩
      obtain ⟨rfl, rfl⟩ := hP
      generalize (fr && onK kvs n) = fr1 at q big ⊢
      have bl := (oms_le (onK kvs) ds fr1 (n + 1)).1
      dsimp only [gName]
      refine seq_by (fun σ H3 => σ = [some (.ref a), some (.int (n : Int)), some (.ref kd), some (.bl fr1), some (.ref sd), some (.bl true), none] ∧ Gr (M1 sd) H2 H3 ∧ H3 sd = some (.dK (dOf (L ++ (if fr1 = true then [n] else []))))) (fun R2 hR2 => ?_) (fun σ H3 hP => ?_)
      · refine ⟨_, rfl, _, rfl, ?_⟩
        cases fr1 with
        | false => exact iteF (hR2 _ _ ⟨rfl, Gr.refl _, by rw [if_neg (by decide), List.append_nil]; exact hs1⟩)
        | true =>
          have nL : n ∉ L := fun z => absurd (hL n z) (Nat.lt_irrefl _)
          refine iteT ⟨_, rfl, _, rfl, sd, _, rfl, DPut.k (k := .inl (n : Int)) hs1 (smallM (by rw [dOf_len]; omega)), ?_⟩
          refine hR2 _ _ ⟨rfl, Gr.put rfl, ?_⟩
          rw [upd_same, dOf_put nL, if_pos rfl]
      obtain ⟨rfl, g3, hs3⟩ := hP
      refine ⟨_, rfl, .inr (.inl ⟨_, _, rfl, rfl, ?_⟩)⟩
      have en : (n : Int) + 1 = ((n + 1 : Nat) : Int) := by omega
      dsimp only [gName]
      rw [en]
      refine hR _ _ ⟨n + 1, fr1, L ++ (if fr1 = true then [n] else []), by rw [hsp]; rfl, g3, hs3, fun i hi => ?_, ?_, big, fun H' g' h' => ?_⟩
      · rcases List.mem_append.mp hi with hi | hi
        · have := hL i hi
          omega
        · split at hi
          · rw [List.mem_singleton.mp hi]; omega
          · exact nomatch hi
      · rw [List.length_append]
        have : (if fr1 = true then [n] else []).length ≤ 1 := by split <;> simp
        omega
      · rw [List.append_assoc] at h'
        exact q H' g' h'
  obtain ⟨n1, fr1, L1, rfl, g2, hs2, hL1, lL1, big1, q1⟩ := hP
  have tm2 := tmD g2 hs1
  have ha2 := ha1.mono tm2
  have rus2 := rus1.mono tm2
  have hk2 : H2 kd = some (.dK kvs) := g2 _ _ hk1 nks
  have g02 : Gr (M1 sd) H H2 := (o1.gm).trans g2
  refine ⟨_, rfl, a, rfl, .inr ⟨⟨_, ha2.sq⟩, ?_⟩⟩
  refine for_by (n := ds.length) (fun i σ H3 => ∃ (k6 : Option V), σ = [some (.ref a), some (.int ((oms (onK kvs) (ds.take i) fr1 n1).2 : Int)), some (.ref kd), some (.bl fr1), some (.ref sd), some (.bl (isSpot ds)), k6] ∧ Gr (M1 sd) H2 H3 ∧ H3 sd = some (.dK (dOf (L1 ++ (oms (onK kvs) (ds.take i) fr1 n1).1)))) ⟨none, by rw [List.take_zero, oms_nil], Gr.refl _, by rw [List.take_zero, oms_nil, List.append_nil]; exact hs2⟩ ?_ ?_ ?_ ?_
  · intro i σ H3 hi hv
    obtain ⟨k6, rfl, g, hs3⟩ := hv
    obtain ⟨u, hu⟩ : ∃ u, us[i]? = some u := ⟨_, List.getElem?_eq_getElem (by omega)⟩
    exact ⟨_, u, (ha2.mono (tmD g hs2)).sq, hu⟩
  · intro σ H3 hv
    obtain ⟨k6, rfl, g, hs3⟩ := hv
    exact ⟨_, (ha2.mono (tmD g hs2)).sq, by omega⟩
  · intro i σ H3 hi hv y H4 hy
    obtain ⟨k6, rfl, g, hs3⟩ := hv
    obtain ⟨e1, hyx⟩ := hy
    subst e1
    have eu : us[i]? = some y := hyx _ (ha2.mono (tmD g hs2)).sq
    obtain ⟨d1, ed, rd⟩ := rus2.getV eu
    rw [List.getElem?_eq_getElem hi] at ed
    cases ed
    have dm := dqs_mem (List.getElem_mem hi)
    have lt := oms_take (onK kvs) hi fr1 n1
    have lb := oms_part (onK kvs) ds (i + 1) fr1 n1
    obtain ⟨b1, b2⟩ := oms_le (onK kvs) (ds.take i) fr1 n1
    rw [lt] at lb
    refine ⟨_, rfl, _, rfl, _, rfl, _, rfl, _, rfl, y, ds[i], (oms (onK kvs) (ds.take i) fr1 n1).2, kd, sd, kvs, fr1, L1 ++ (oms (onK kvs) (ds.take i) fr1 n1).1, rfl, rd.mono (tmD g hs2), nrs_mem nrs _ (List.getElem_mem hi), by omega, by omega, g _ _ hk2 nks, hs3, nks, fun j hj => ?_, ?_, Nat.le_trans lb big1, fun H5 g5 hs5 => ?_⟩
    · rcases List.mem_append.mp hj with hj | hj
      · have := hL1 j hj
        omega
      · exact (b2 j hj).2
    · rw [List.length_append]
      omega
    · refine ⟨_, by rw [lt]; rfl, g.trans g5, ?_⟩
      rw [lt, ← List.append_assoc]
      exact hs5
  · intro σ H3 hv
    obtain ⟨k6, rfl, g, hs3⟩ := hv
    rw [List.take_length] at hs3 ⊢
    exact ⟨_, rfl, q1 H3 (g02.trans g) hs3⟩
/-! ### keep -/
noncomputable abbrev sKp : Stmt := top 45
noncomputable def spKp (K : PySem.W.Frag) : Sp := fun vs H Q _ => ∃ (a : Addr) (ns : List Int) (m : Nat) (tn : Int), vs = [.ref a, .int (m : Int), .int tn] ∧ SqL K H a (ns.map V.int) ∧ m ≤ 500000 ∧ (0 ≤ tn ∧ tn ≤ 1) ∧ ∀ (kd : Addr) (kvs : List (Key × V)) (H' : Hp), Old H H' → H kd = none → H' kd = some (.dK kvs) → Q (.ref kd) H'
theorem scKp : FnScope ["_law_script", "_law_many", "_law_turn", "_law_keep_here", "_law_cell", "_law_k", "_law_number"] ["_law_script", "_law_many", "_law_turn"] (defScope sKp) := ⟨rfl, rfl, rfl, by decide +kernel, rfl, by decide +kernel, by decide +kernel⟩
theorem ok_kp {n : Nat} (F : Fun K "_law_keep" "_law_keep" sKp f fd) (T : Tx mg) (c_cell_at : Cal P w K mg base "_law_cell_at" ["_law_script", "_law_k"] 1 (spCell K)) : FnOk P w K mg base CX0 (n + 2) f fd ["_law_script", "_law_many", "_law_turn"] (spKp K) := by
  refine F.ok scKp (fun vs H Q E h => ?_) (fun cdv A outer s H vs Q E hr h => ?_)
  · obtain ⟨a, ns, m, tn, rfl, _⟩ := h
    rfl
  obtain ⟨a, ns, m, tn, rfl, hS, m5, ⟨t0, t1⟩, q⟩ := h
  have nd := scKp.nd
  refine' ⟨_, ?n0, ?Z⟩
  case' n0 => refine' pss_cons ?n1 ?n2
  case n1 => exact ps_setX (i := 3) nd rfl (Or.inl rfl) rfl (by first | exact .inl rfl | exact .inr rfl) pe_dnewK
  case' n2 => refine' pss_cons ?n3 ?n4
  case' n3 => refine' ps_setX (i := 4) nd rfl (Or.inl rfl) rfl (by first | exact .inl rfl | exact .inr rfl) ?n5
  case' n5 => refine' pe_op op_fdivG ?n6 ?n7
  case' n6 => refine' pe_cal c_cell_at hr ?n8
  case' n8 => refine' pa ?n9 ?n10
  case n9 => exact pv 0
  case' n10 => refine' pa ?n11 ?n12
  case n11 => exact pe_int
  case n12 => exact pa_nil
  case' n7 => refine' pe_op op_addG ?n13 ?n14
  case n13 => exact pe_int
  case' n14 => refine' pe_op op_mulG ?n15 ?n16
  case n15 => exact pe_int
  case n16 => exact pv 2
  case' n4 => refine' pss_cons ?n17 ?n18
  case' n17 => refine' ps_for PassesOwn.never rfl ?n19 ?n20 ?n21
  case' n19 => refine' pi_range1 rfl T.range ?n22
  case' n22 => refine' pa ?n23 ?n24
  case n23 => exact pv 1
  case n24 => exact pa_nil
  case n20 => exact pg_name (i := 5) nd rfl (Or.inl rfl)
  case' n21 => refine' pss_cons ?n25 ?n26
  case' n25 => refine' ps_setX (i := 6) nd rfl (Or.inl rfl) rfl (by first | exact .inl rfl | exact .inr rfl) ?n27
  case' n27 => refine' pe_op op_mod ?n28 ?n29
  case' n28 => refine' pe_op op_mulG ?n30 ?n31
  case' n30 => refine' pe_op op_addG ?n32 ?n33
  case' n32 => refine' pe_cal c_cell_at hr ?n34
  case' n34 => refine' pa ?n35 ?n36
  case n35 => exact pv 0
  case' n36 => refine' pa ?n37 ?n38
  case' n37 => refine' pe_op op_addG ?n39 ?n40
  case n39 => exact pe_int
  case' n40 => refine' pe_op op_mod ?n41 ?n42
  case' n41 => refine' pe_op op_addG ?n43 ?n44
  case n43 => exact pv 5
  case n44 => exact pv 2
  case n42 => exact pe_int
  case n38 => exact pa_nil
  case' n33 => refine' pe_op op_mulG ?n45 ?n46
  case n45 => exact pe_int
  case' n46 => refine' pe_op op_addG ?n47 ?n48
  case n47 => exact pv 5
  case n48 => exact pe_int
  case' n31 => refine' pe_op op_addG ?n49 ?n50
  case n49 => exact pe_int
  case n50 => exact pv 2
  case n29 => exact pe_int
  case' n26 => refine' pss_one ?n51
  case' n51 => refine' ps_if ?n52 ?n53 ?n54
  case' n52 => refine' pt_cmpR op_lt ?n55 ?n56 (nomark _)
  case' n55 => refine' pe_op op_mod ?n57 ?n58
  case n57 => exact pv 6
  case n58 => exact pe_int
  case' n56 => refine' pe_ix ix_seq ?n59 ?n60 (fun _ _ => rfl)
  case' n59 => refine' pe_lst ?n61
  case' n61 => refine' pa ?n62 ?n63
  case n62 => exact pe_int
  case' n63 => refine' pa ?n64 ?n65
  case n64 => exact pe_int
  case' n65 => refine' pa ?n66 ?n67
  case n66 => exact pe_int
  case' n67 => refine' pa ?n68 ?n69
  case n68 => exact pe_int
  case' n69 => refine' pa ?n70 ?n71
  case n70 => exact pe_int
  case n71 => exact pa_nil
  case' n60 => refine' pe_op op_mod ?n72 ?n73
  case n72 => exact pv 4
  case n73 => exact pe_int
  case' n53 => refine' pss_one ?n74
  case' n74 => refine' ps_dput hr.u1 ?n75 ?n76 ?n77 rfl
  case n75 => exact pv 3
  case n76 => exact pv 5
  case n77 => exact pe_bl
  case n54 => exact pss_nil
  case' n18 => refine' pss_one ?n78
  case' n78 => refine' ps_ret ?n79
  case n79 => exact pv 3
  refine fun kd hkd => ?_
  have o1 := Old.new (o := .dK []) hkd
  have hk1 : upd H kd (.dK []) kd = some (.dK []) := upd_same
  generalize upd H kd (.dK []) = H1 at o1 hk1 ⊢
  have hS1 : SqL K H1 a (ns.map V.int) := o1.gr.seq (fun z => z) hS
  refine ⟨_, rfl, a, ns, 1, rfl, hS1, by decide, fun c c0 c1 => ⟨_, rfl, .inr ⟨_, _, rfl, rfl, .inl ⟨by decide, by decide⟩, .inr (.inl ⟨_, _, rfl, rfl, _, _, rfl, rfl, .inl ⟨by omega, by omega⟩, ?_⟩)⟩⟩⟩
  dsimp only [gName]
  generalize c / (1 + 5 * tn) = c5
  have nm : (0 : Int) ≤ (m : Int) := Int.natCast_nonneg _
  refine ⟨_, rfl, _, rfl, by omega, by omega, for_range (n := m) (fun i σ H2 => ∃ (k5 k6 : Option V) (kvs : List (Key × V)), σ = [some (.ref a), some (.int (m : Int)), some (.int tn), some (.ref kd), some (.int c5), k5, k6] ∧ Gr (M1 kd) H1 H2 ∧ SqL K H2 a (ns.map V.int) ∧ H2 kd = some (.dK kvs) ∧ kvs.length ≤ i) ⟨none, none, [], rfl, Gr.refl _, hS1, hk1, Nat.le_refl _⟩ ?_ ?_⟩
  · intro i σ H2 hi hv
    obtain ⟨k5, k6, kvs, rfl, g, hS2, hk2, lk⟩ := hv
    have z61 : 0 ≤ (0 + (i : Int) + tn) % 61 := Int.emod_nonneg _ (by decide)
    refine ⟨_, rfl, _, rfl, _, rfl, .inr (.inl ⟨_, _, rfl, rfl, _, _, rfl, rfl, (by show (0 : Int) < 61; decide), .inr (.inl ⟨_, _, rfl, rfl, a, ns, _, rfl, hS2, by omega, fun x x0 x1 => ⟨_, rfl, .inr (.inl ⟨_, _, rfl, rfl, .inr ⟨_, _, rfl, rfl, .inl ⟨by decide, by decide⟩, .inr (.inl ⟨_, _, rfl, rfl, _, rfl, .inr (.inl ⟨_, _, rfl, rfl, .inr ⟨_, _, rfl, rfl, .inr ⟨by omega, by omega⟩, _, _, rfl, rfl, (by show (0 : Int) < 1000003; decide), ?_⟩⟩)⟩)⟩⟩)⟩⟩)⟩)⟩
    dsimp only [gName]
    generalize (x + 7919 * (0 + (i : Int) + 1)) * (48271 + tn) % 1000003 = nb
    refine ⟨_, rfl, _, _, rfl, rfl, (by show (0 : Int) < 8; decide), by show 5 ≤ sizeLine; decide, fun la hla => ⟨_, rfl, _, _, rfl, rfl, (by show (0 : Int) < 5; decide), ?_⟩⟩
    have o3 := Old.new (o := .lst [.int 8, .int 7, .int 4, .int 0, .int 6]) hla
    have hl3 : upd H2 la (.lst [.int 8, .int 7, .int 4, .int 0, .int 6]) la = some (.lst [.int 8, .int 7, .int 4, .int 0, .int 6]) := upd_same
    generalize upd H2 la (.lst [.int 8, .int 7, .int 4, .int 0, .int 6]) = H3 at o3 hl3 ⊢
    obtain ⟨y, ey⟩ : ∃ y : Int, atI [V.int 8, .int 7, .int 4, .int 0, .int 6] (c5 % 5) = some (.int y) := by
      have z0 : 0 ≤ c5 % 5 := Int.emod_nonneg _ (by decide)
      have z1 : c5 % 5 < 5 := Int.emod_lt_of_pos _ (by decide)
      have cc : c5 % 5 = 0 ∨ c5 % 5 = 1 ∨ c5 % 5 = 2 ∨ c5 % 5 = 3 ∨ c5 % 5 = 4 := by omega
      rcases cc with cc | cc | cc | cc | cc <;> rw [cc] <;> exact ⟨_, rfl⟩
    refine .inl ⟨la, _, _, .int y, rfl, rfl, SqL.of hl3, ey, _, _, rfl, rfl, _, rfl, ?_⟩
    have g3 := g.trans (o3.gm (M := M1 kd))
    have hS3 : SqL K H3 a (ns.map V.int) := o3.gr.seq (fun z => z) hS2
    have hk3 := o3 _ _ hk2
    refine ite2 (fun _ => ?_) (fun _ => ⟨_, _, kvs, rfl, g3, hS3, hk3, by omega⟩)
    refine ⟨_, rfl, _, rfl, kd, _, rfl, DPut.k (k := .inl (0 + (i : Int))) hk3 (smallM (by omega)), ?_⟩
    refine ⟨_, _, _, rfl, g3.trans (Gr.put rfl), ?_, upd_same, ?_⟩
    · rcases hS with h | h
      · refine (Gr.put (M := M1 kd) rfl).seq (fun z => ?_) hS3
        have e : a = kd := z
        rcases h with h | ⟨o, h⟩
        · rw [e, hkd] at h; cases h
        · rw [e, hkd] at h; cases h
      · exact .inr h
    · have := length_putK kvs (.inl (0 + (i : Int)) : Key) (V.bl true)
      omega
  · intro σ H2 hv
    obtain ⟨k5, k6, kvs, rfl, g, hS2, hk2, lk⟩ := hv
    exact ⟨_, rfl, q kd kvs H2 (gr_old o1 hkd g) hkd hk2⟩
end
end L2.K81

end
section
set_option Elab.async false
set_option linter.all false
set_option maxRecDepth 100000
set_option maxHeartbeats 8000000
namespace L2.K81
open PySem PySem.Spec PyProof.Rows L2.Bw L2.Bk L2.Ex
section
variable {P : Program} {w : World} {K : PySem.W.Frag} {mg : Str → Option Value} {base : Heap} {f : Addr} {fd : FuncData}
theorem i_bb {H : Hp} (b : Bool) : IsJ K H (.bl b) "bool" true := .inl ⟨_, .bl b, show PySem.W.kitOne K (.type "bool") (.type "bool") = some true from (by decide +kernel : PySem.W.kitOne [] (.type "bool") (.type "bool") = some true)⟩
theorem tn_tup (t : Tk) : ∃ ds, t.tn.d = .tup ds := by
  obtain ⟨x, p, fr, ks, ps⟩ := t
  exact ⟨_, rfl⟩
theorem neT {t : Tk} {x y : V} {H : Hp} {Q : VK} (o : t.ok) (d : t.tn.dep ≤ 10) (hx : RK K H t.tn.d x) (hy : RK K H t.tn.d y) (q : Q (.bl false) H) : rNeG K x y H Q := by
  obtain ⟨ds, e⟩ := tn_tup t
  have z := dq_tn o
  rw [e] at hx hy z
  rw [dq_tup] at z
  refine .inl ⟨ds, ds, hx, hy, by omega, ?_⟩
  rw [eqbs_refl]
  exact q
theorem dhit_of {H : Hp} {L : List Nat} : ∀ {l : List Nat}, (∀ i ∈ l, i ∈ L) → DHit K H (dOf L) (dOf l) true
  | [], _ => .nil
  | i :: r, h => by
    have z := DHit.hit (K := K) (H := H) (lvs := dOf L) (k := .inl (i : Int)) (v := .bl true) (y := .bl true) (d := .bl true) (e := .bl true) (by rw [dOf_val, if_pos (h i List.mem_cons_self)]) (.b _) (.b _) (by rw [dq_bl]; omega) (dhit_of (l := r) fun j hj => h j (List.mem_cons_of_mem _ hj))
    exact z
/-- the numbers up to m of which p holds -/
noncomputable def flt (p : Nat → Bool) (m : Nat) : List Nat := (List.range m).filter p
theorem flt_succ (p : Nat → Bool) (m : Nat) : flt p (m + 1) = flt p m ++ (if p m = true then [m] else []) := by
  unfold flt
  rw [List.range_succ, List.filter_append, List.filter_cons]
  rfl
theorem flt_mem {p : Nat → Bool} {m i : Nat} : i ∈ flt p m ↔ i < m ∧ p i = true := by
  unfold flt
  rw [List.mem_filter, List.mem_range]
theorem flt_len (p : Nat → Bool) (m : Nat) : (flt p m).length ≤ m := Nat.le_trans (List.length_filter_le _ _) (by rw [List.length_range]; exact Nat.le_refl _)
theorem flt_val {p : Nat → Bool} {m i : Nat} (h : i < m) : (valV (dOf (flt p m)) (.inl (i : Int))).isSome = p i := by
  rw [dOf_val]
  by_cases c : p i = true
  · rw [if_pos (flt_mem.mpr ⟨h, c⟩), c]; rfl
  · rw [if_neg (fun z => c (flt_mem.mp z).2)]
    have : p i = false := by simpa using c
    rw [this]; rfl
theorem flt_off {p : Nat → Bool} {m i : Nat} (h : i < m) : offK (dOf (flt p m)) i = !p i := by
  unfold offK
  rw [flt_val h]
theorem flt_eq (p q : Nat → Bool) (m : Nat) : (((dOf (flt (fun i => p i && q i) m)).length == (dOf (flt q m)).length) && true) = true ↔ ∀ i, i < m → q i = true → p i = true := by
  rw [Bool.and_true, dOf_len, dOf_len]
  unfold flt
  rw [filter_len p q (List.range m)]
  exact ⟨fun z i hi => z i (List.mem_range.mpr hi), fun z i hi => z i (List.mem_range.mp hi)⟩
theorem mar_flt (g : Nat → Bool) (t : Tk) : t.mar g 0 = flt (t.mp g 0) t.sp := by
  unfold flt
  rw [kmar_eq, List.range_eq_range']
/-- a program with parts taken away -/
structure Gd (t : Tk) : Prop where
  wf : t.tn.wf
  ok : t.ok
  dep : t.tn.dep ≤ 8
theorem Gd.lo {t : Tk} (g : Gd t) (p : Nat → Bool) : Gd (t.lo p 0) := ⟨klo_wf p 0 g.wf, klo_ok p 0 g.ok, by rw [klo_dep]; exact g.dep⟩
/-! ### law -/
noncomputable abbrev sLaw : Stmt := top 46
noncomputable def spLaw (K : PySem.W.Frag) : Sp := fun vs H Q _ => ∃ (a : Addr) (ns : List Int), vs = [.ref a] ∧ SqL K H a (ns.map V.int) ∧ ns.length ≤ 63 ∧ ∀ H', Q (.bl true) H'
theorem scLaw : FnScope ["_law_script", "_law_tree", "_law_many", "_law_one", "_law_two", "_law_both", "_law_any_one", "_law_k", "_law_left", "_law_right", "_law_more", "_law_less", "_law_first", "_law_second", "_law_due", "_law_answer", "_law_side"] ["_law_script"] (defScope sLaw) := ⟨rfl, rfl, rfl, by decide +kernel, rfl, by decide +kernel, by decide +kernel⟩
theorem ok_law {m : Nat} (F : Fun K "law" "law" sLaw f fd) (T : Tx mg) (c_program : Cal P w K mg base "_law_program" ["_law_script"] 18 (spProg K)) (c_loose : Cal P w K mg base "_law_loose" ["_law_thing", "_law_at", "_law_keep_here"] 30 (spLz K 30)) (c_open : Cal P w K mg base "_law_open" ["_law_thing", "_law_at", "_law_keep_here", "_law_free", "_law_some"] 30 (spOp K 30)) (c_keep : Cal P w K mg base "_law_keep" ["_law_script", "_law_many", "_law_turn"] 2 (spKp K))
    (c_joined : Cal P w K mg base "joined" ["tree", "other"] 23 (spJd K Kn.join)) (c_met : Cal P w K mg base "met" ["tree", "other"] 23 (spJd K Kn.both)) (c_looser_tree : Cal P w K mg base "looser_tree" ["tree", "other"] 22 (spLr K)) : FnOk P w K mg base CX0 (m + 31) f fd ["_law_script"] (spLaw K) := by
  refine F.ok scLaw (fun vs H Q E h => ?_) (fun cdv A outer s H vs Q E hr h => ?_)
  · obtain ⟨a, ns, rfl, _⟩ := h
    rfl
  obtain ⟨a, ns, rfl, hS, h63, q⟩ := h
  have nd := scLaw.nd
  refine' ⟨_, ?n0, ?Z⟩
  case' n0 => refine' pss_cons ?n1 ?n2
  case' n1 => refine' ps_setX (i := 1) nd rfl (Or.inl rfl) rfl (by first | exact .inl rfl | exact .inr rfl) ?n3
  case' n3 => refine' pe_cal c_program hr ?n4
  case' n4 => refine' pa ?n5 ?n6
  case n5 => exact pv 0
  case n6 => exact pa_nil
  case' n2 => refine' pss_cons ?n7 ?n8
  case' n7 => refine' ps_setX (i := 2) nd rfl (Or.inl rfl) rfl (by first | exact .inl rfl | exact .inr rfl) ?n9
  case' n9 => refine' pe_ix ix_seq ?n10 ?n11 (fun _ _ => rfl)
  case' n10 => refine' pe_cal c_loose hr ?n12
  case' n12 => refine' pa ?n13 ?n14
  case n13 => exact pv 1
  case' n14 => refine' pa ?n15 ?n16
  case n15 => exact pe_int
  case' n16 => refine' pa pe_dnewK ?n17
  case n17 => exact pa_nil
  case n11 => exact pe_int
  case' n8 => refine' pss_cons ?n18 ?n19
  case' n18 => refine' ps_asg ?n20 ?n21
  case' n20 => refine' pe_tup ?n22
  case' n22 => refine' pa pe_dnewK ?n23
  case' n23 => refine' pa pe_dnewK ?n24
  case' n24 => refine' pa pe_dnewK ?n25
  case' n25 => refine' pa pe_dnewK ?n26
  case n26 => exact pa_nil
  case' n21 => refine' pg_tup rfl ?n27
  case' n27 => refine' pgs_cons ?n28 ?n29
  case n28 => exact pg_name (i := 3) nd rfl (Or.inl rfl)
  case' n29 => refine' pgs_cons ?n30 ?n31
  case n30 => exact pg_name (i := 4) nd rfl (Or.inl rfl)
  case' n31 => refine' pgs_cons ?n32 ?n33
  case n32 => exact pg_name (i := 5) nd rfl (Or.inl rfl)
  case' n33 => refine' pgs_cons ?n34 ?n35
  case n34 => exact pg_name (i := 6) nd rfl (Or.inl rfl)
  case n35 => exact pgs_nil
  case' n19 => refine' pss_cons ?n36 ?n37
  case' n36 => refine' ps_expr ?n38
  case' n38 => refine' pe_cal c_open hr ?n39
  case' n39 => refine' pa ?n40 ?n41
  case n40 => exact pv 1
  case' n41 => refine' pa ?n42 ?n43
  case n42 => exact pe_int
  case' n43 => refine' pa ?n44 ?n45
  case' n44 => refine' pe_cal c_keep hr ?n46
  case' n46 => refine' pa ?n47 ?n48
  case n47 => exact pv 0
  case' n48 => refine' pa ?n49 ?n50
  case n49 => exact pv 2
  case' n50 => refine' pa ?n51 ?n52
  case n51 => exact pe_int
  case n52 => exact pa_nil
  case' n45 => refine' pa ?n53 ?n54
  case n53 => exact pe_bl
  case' n54 => refine' pa ?n55 ?n56
  case n55 => exact pv 3
  case n56 => exact pa_nil
  case' n37 => refine' pss_cons ?n57 ?n58
  case' n57 => refine' ps_expr ?n59
  case' n59 => refine' pe_cal c_open hr ?n60
  case' n60 => refine' pa ?n61 ?n62
  case n61 => exact pv 1
  case' n62 => refine' pa ?n63 ?n64
  case n63 => exact pe_int
  case' n64 => refine' pa ?n65 ?n66
  case' n65 => refine' pe_cal c_keep hr ?n67
  case' n67 => refine' pa ?n68 ?n69
  case n68 => exact pv 0
  case' n69 => refine' pa ?n70 ?n71
  case n70 => exact pv 2
  case' n71 => refine' pa ?n72 ?n73
  case n72 => exact pe_int
  case n73 => exact pa_nil
  case' n66 => refine' pa ?n74 ?n75
  case n74 => exact pe_bl
  case' n75 => refine' pa ?n76 ?n77
  case n76 => exact pv 4
  case n77 => exact pa_nil
  case' n58 => refine' pss_cons ?n78 ?n79
  case' n78 => refine' ps_for PassesOwn.never rfl ?n80 ?n81 ?n82
  case' n80 => refine' pi_range1 rfl T.range ?n83
  case' n83 => refine' pa ?n84 ?n85
  case n84 => exact pv 2
  case n85 => exact pa_nil
  case n81 => exact pg_name (i := 7) nd rfl (Or.inl rfl)
  case' n82 => refine' pss_cons ?n86 ?n87
  case' n86 => refine' ps_if ?n88 ?n89 ?n90
  case' n88 => refine' PW.pt ?n91
  case' n91 => refine' pw_and ?n92 ?n93
  case' n92 => refine' pt_cmp ?n94
  case' n94 => refine' pc_din hr.u1 ?n95 ?n96
  case n95 => exact pv 7
  case n96 => exact pv 3
  case' n93 => refine' pw_and1 ?n97
  case' n97 => refine' pt_cmp ?n98
  case' n98 => refine' pc_din hr.u1 ?n99 ?n100
  case n99 => exact pv 7
  case n100 => exact pv 4
  case' n89 => refine' pss_one ?n101
  case' n101 => refine' ps_dput hr.u1 ?n102 ?n103 ?n104 rfl
  case n102 => exact pv 5
  case n103 => exact pv 7
  case n104 => exact pe_bl
  case n90 => exact pss_nil
  case' n87 => refine' pss_one ?n105
  case' n105 => refine' ps_if ?n106 ?n107 ?n108
  case' n106 => refine' PW.pt ?n109
  case' n109 => refine' pw_or ?n110 ?n111
  case' n110 => refine' pt_cmp ?n112
  case' n112 => refine' pc_din hr.u1 ?n113 ?n114
  case n113 => exact pv 7
  case n114 => exact pv 3
  case' n111 => refine' pw_or1 ?n115
  case' n115 => refine' pt_cmp ?n116
  case' n116 => refine' pc_din hr.u1 ?n117 ?n118
  case n117 => exact pv 7
  case n118 => exact pv 4
  case' n107 => refine' pss_one ?n119
  case' n119 => refine' ps_dput hr.u1 ?n120 ?n121 ?n122 rfl
  case n120 => exact pv 6
  case n121 => exact pv 7
  case n122 => exact pe_bl
  case n108 => exact pss_nil
  case' n79 => refine' pss_cons ?n123 ?n124
  case' n123 => refine' ps_setX (i := 8) nd rfl (Or.inl rfl) rfl (by first | exact .inl rfl | exact .inr rfl) ?n125
  case' n125 => refine' pe_ix ix_seq ?n126 ?n127 (fun _ _ => rfl)
  case' n126 => refine' pe_cal c_loose hr ?n128
  case' n128 => refine' pa ?n129 ?n130
  case n129 => exact pv 1
  case' n130 => refine' pa ?n131 ?n132
  case n131 => exact pe_int
  case' n132 => refine' pa ?n133 ?n134
  case n133 => exact pv 3
  case n134 => exact pa_nil
  case n127 => exact pe_int
  case' n124 => refine' pss_cons ?n135 ?n136
  case' n135 => refine' ps_setX (i := 9) nd rfl (Or.inl rfl) rfl (by first | exact .inl rfl | exact .inr rfl) ?n137
  case' n137 => refine' pe_ix ix_seq ?n138 ?n139 (fun _ _ => rfl)
  case' n138 => refine' pe_cal c_loose hr ?n140
  case' n140 => refine' pa ?n141 ?n142
  case n141 => exact pv 1
  case' n142 => refine' pa ?n143 ?n144
  case n143 => exact pe_int
  case' n144 => refine' pa ?n145 ?n146
  case n145 => exact pv 4
  case n146 => exact pa_nil
  case n139 => exact pe_int
  case' n136 => refine' pss_cons ?n147 ?n148
  case' n147 => refine' ps_setX (i := 10) nd rfl (Or.inl rfl) rfl (by first | exact .inl rfl | exact .inr rfl) ?n149
  case' n149 => refine' pe_ix ix_seq ?n150 ?n151 (fun _ _ => rfl)
  case' n150 => refine' pe_cal c_loose hr ?n152
  case' n152 => refine' pa ?n153 ?n154
  case n153 => exact pv 1
  case' n154 => refine' pa ?n155 ?n156
  case n155 => exact pe_int
  case' n156 => refine' pa ?n157 ?n158
  case n157 => exact pv 6
  case n158 => exact pa_nil
  case n151 => exact pe_int
  case' n148 => refine' pss_cons ?n159 ?n160
  case' n159 => refine' ps_setX (i := 11) nd rfl (Or.inl rfl) rfl (by first | exact .inl rfl | exact .inr rfl) ?n161
  case' n161 => refine' pe_ix ix_seq ?n162 ?n163 (fun _ _ => rfl)
  case' n162 => refine' pe_cal c_loose hr ?n164
  case' n164 => refine' pa ?n165 ?n166
  case n165 => exact pv 1
  case' n166 => refine' pa ?n167 ?n168
  case n167 => exact pe_int
  case' n168 => refine' pa ?n169 ?n170
  case n169 => exact pv 5
  case n170 => exact pa_nil
  case n163 => exact pe_int
  case' n160 => refine' pss_cons ?n171 ?n172
  case' n171 => refine' ps_if ?n173 ?n174 ?n175
  case' n173 => refine' PW.pt ?n176
  case' n176 => refine' pw_or ?n177 ?n178
  case' n177 => refine' pt_cmpR (op_neG hr) ?n179 ?n180 (nomark _)
  case' n179 => refine' pe_cal c_joined hr ?n181
  case' n181 => refine' pa ?n182 ?n183
  case n182 => exact pv 8
  case' n183 => refine' pa ?n184 ?n185
  case n184 => exact pv 9
  case n185 => exact pa_nil
  case n180 => exact pv 11
  case' n178 => refine' pw_or ?n186 ?n187
  case' n186 => refine' pt_cmpR (op_neG hr) ?n188 ?n189 (nomark _)
  case' n188 => refine' pe_cal c_joined hr ?n190
  case' n190 => refine' pa ?n191 ?n192
  case n191 => exact pv 9
  case' n192 => refine' pa ?n193 ?n194
  case n193 => exact pv 8
  case n194 => exact pa_nil
  case n189 => exact pv 11
  case' n187 => refine' pw_or1 ?n195
  case' n195 => refine' pt_cmpR (op_neG hr) ?n196 ?n197 (nomark _)
  case' n196 => refine' pe_cal c_joined hr ?n198
  case' n198 => refine' pa ?n199 ?n200
  case n199 => exact pv 8
  case' n200 => refine' pa ?n201 ?n202
  case n201 => exact pv 8
  case n202 => exact pa_nil
  case n197 => exact pv 8
  case' n174 => refine' pss_one ?n203
  case' n203 => refine' ps_ret ?n204
  case n204 => exact pe_bl
  case n175 => exact pss_nil
  case' n172 => refine' pss_cons ?n205 ?n206
  case' n205 => refine' ps_if ?n207 ?n208 ?n209
  case' n207 => refine' PW.pt ?n210
  case' n210 => refine' pw_or ?n211 ?n212
  case' n211 => refine' pt_cmpR (op_neG hr) ?n213 ?n214 (nomark _)
  case' n213 => refine' pe_cal c_met hr ?n215
  case' n215 => refine' pa ?n216 ?n217
  case n216 => exact pv 8
  case' n217 => refine' pa ?n218 ?n219
  case n218 => exact pv 9
  case n219 => exact pa_nil
  case n214 => exact pv 10
  case' n212 => refine' pw_or ?n220 ?n221
  case' n220 => refine' pt_cmpR (op_neG hr) ?n222 ?n223 (nomark _)
  case' n222 => refine' pe_cal c_met hr ?n224
  case' n224 => refine' pa ?n225 ?n226
  case n225 => exact pv 9
  case' n226 => refine' pa ?n227 ?n228
  case n227 => exact pv 8
  case n228 => exact pa_nil
  case n223 => exact pv 10
  case' n221 => refine' pw_or1 ?n229
  case' n229 => refine' pt_cmpR (op_neG hr) ?n230 ?n231 (nomark _)
  case' n230 => refine' pe_cal c_met hr ?n232
  case' n232 => refine' pa ?n233 ?n234
  case n233 => exact pv 9
  case' n234 => refine' pa ?n235 ?n236
  case n235 => exact pv 9
  case n236 => exact pa_nil
  case n231 => exact pv 9
  case' n208 => refine' pss_one ?n237
  case' n237 => refine' ps_ret ?n238
  case n238 => exact pe_bl
  case n209 => exact pss_nil
  case' n206 => refine' pss_cons ?n239 ?n240
  case' n239 => refine' ps_for PassesOwn.never rfl ?n241 ?n242 ?n243
  case' n241 => refine' pi_seq ?n244
  case' n244 => refine' pe_lst ?n245
  case' n245 => refine' pa ?n246 ?n247
  case' n246 => refine' pe_tup ?n248
  case' n248 => refine' pa ?n249 ?n250
  case n249 => exact pv 8
  case' n250 => refine' pa ?n251 ?n252
  case n251 => exact pv 9
  case' n252 => refine' pa ?n253 ?n254
  case' n253 => refine' pe_cmpR (op_eqD hr) ?n255 ?n256 (nomark _)
  case n255 => exact pv 5
  case n256 => exact pv 4
  case n254 => exact pa_nil
  case' n247 => refine' pa ?n257 ?n258
  case' n257 => refine' pe_tup ?n259
  case' n259 => refine' pa ?n260 ?n261
  case n260 => exact pv 9
  case' n261 => refine' pa ?n262 ?n263
  case n262 => exact pv 8
  case' n263 => refine' pa ?n264 ?n265
  case' n264 => refine' pe_cmpR (op_eqD hr) ?n266 ?n267 (nomark _)
  case n266 => exact pv 5
  case n267 => exact pv 3
  case n265 => exact pa_nil
  case' n258 => refine' pa ?n268 ?n269
  case' n268 => refine' pe_tup ?n270
  case' n270 => refine' pa ?n271 ?n272
  case n271 => exact pv 8
  case' n272 => refine' pa ?n273 ?n274
  case n273 => exact pv 8
  case' n274 => refine' pa ?n275 ?n276
  case n275 => exact pe_bl
  case n276 => exact pa_nil
  case n269 => exact pa_nil
  case' n242 => refine' pg_tup rfl ?n277
  case' n277 => refine' pgs_cons ?n278 ?n279
  case n278 => exact pg_name (i := 12) nd rfl (Or.inl rfl)
  case' n279 => refine' pgs_cons ?n280 ?n281
  case n280 => exact pg_name (i := 13) nd rfl (Or.inl rfl)
  case' n281 => refine' pgs_cons ?n282 ?n283
  case n282 => exact pg_name (i := 14) nd rfl (Or.inl rfl)
  case n283 => exact pgs_nil
  case' n243 => refine' pss_cons ?n284 ?n285
  case' n284 => refine' ps_setX (i := 15) nd rfl (Or.inl rfl) rfl (by first | exact .inl rfl | exact .inr rfl) ?n286
  case' n286 => refine' pe_cal c_looser_tree hr ?n287
  case' n287 => refine' pa ?n288 ?n289
  case n288 => exact pv 12
  case' n289 => refine' pa ?n290 ?n291
  case n290 => exact pv 13
  case n291 => exact pa_nil
  case' n285 => refine' pss_one ?n292
  case' n292 => refine' ps_if ?n293 ?n294 ?n295
  case' n293 => refine' PW.pt ?n296
  case' n296 => refine' pw_or ?n297 ?n298
  case' n297 => refine' pt_not ?n299
  case' n299 => refine' pt_val ?n300
  case' n300 => refine' pe_callB (call_isj) rfl T.isinstance boot_isinstance ?n301
  case' n301 => refine' pa ?n302 ?n303
  case n302 => exact pv 15
  case' n303 => refine' pa ?n304 ?n305
  case n304 => exact pe_ty rfl T.bool boot_bool
  case n305 => exact pa_nil
  case' n298 => refine' pw_or1 ?n306
  case' n306 => refine' pt_cmpR (op_neG hr) ?n307 ?n308 (nomark _)
  case n307 => exact pv 15
  case n308 => exact pv 14
  case' n294 => refine' pss_one ?n309
  case' n309 => refine' ps_ret ?n310
  case n310 => exact pe_bl
  case n295 => exact pss_nil
  case' n240 => refine' pss_cons ?n311 ?n312
  case' n311 => refine' ps_for PassesOwn.never rfl ?n313 ?n314 ?n315
  case' n313 => refine' pi_seq ?n316
  case' n316 => refine' pe_lst ?n317
  case' n317 => refine' pa ?n318 ?n319
  case n318 => exact pv 8
  case' n319 => refine' pa ?n320 ?n321
  case n320 => exact pv 9
  case n321 => exact pa_nil
  case n314 => exact pg_name (i := 16) nd rfl (Or.inl rfl)
  case' n315 => refine' pss_one ?n322
  case' n322 => refine' ps_if ?n323 ?n324 ?n325
  case' n323 => refine' PW.pt ?n326
  case' n326 => refine' pw_or ?n327 ?n328
  case' n327 => refine' pt_not ?n329
  case' n329 => refine' pt_val ?n330
  case' n330 => refine' pe_cal c_looser_tree hr ?n331
  case' n331 => refine' pa ?n332 ?n333
  case n332 => exact pv 16
  case' n333 => refine' pa ?n334 ?n335
  case n334 => exact pv 11
  case n335 => exact pa_nil
  case' n328 => refine' pw_or1 ?n336
  case' n336 => refine' pt_not ?n337
  case' n337 => refine' pt_val ?n338
  case' n338 => refine' pe_cal c_looser_tree hr ?n339
  case' n339 => refine' pa ?n340 ?n341
  case n340 => exact pv 10
  case' n341 => refine' pa ?n342 ?n343
  case n342 => exact pv 16
  case n343 => exact pa_nil
  case' n324 => refine' pss_one ?n344
  case' n344 => refine' ps_ret ?n345
  case n345 => exact pe_bl
  case n325 => exact pss_nil
  case' n312 => refine' pss_one ?n346
  case' n346 => refine' ps_ret ?n347
  case n347 => exact pe_bl
  refine ⟨_, rfl, a, ns, rfl, hS, h63, fun t v H1 o1 M => ?_⟩
  have ot := M.ok
  have wt := M.wf
  have sp5 := M.sp
  have dp := M.dep
  have rt := M.r
  have dq := dq_tn ot
  have nr := nr_tn wt ot
  have gt : Gd t := ⟨wt, ot, dp⟩
  refine ⟨_, rfl, fun d0 hd0 => ⟨v, t.tn.d, 0, d0, [], rfl, rt.mono (Old.new hd0).tm, nr, by omega, by omega, upd_same, fun r v1 H2 o2 hr2 hr2' r2 => .inl ⟨r, _, 1, _, rfl, rfl, SqL.of hr2', at1, ?_⟩⟩⟩
  rw [lz_tree (offK []) 0 ot]
  have e0 : (((t.lo (offK []) 0).tn.d, 0 + t.sp) : Dk × Nat).2 = t.sp := by show 0 + t.sp = t.sp; omega
  rw [e0]
  clear e0 r2 hr2' hr2
  have o02 := (o1.trans (Old.new (o := .dK []) hd0)).trans o2
  have rt2 := (rt.mono (Old.new (o := .dK []) hd0).tm).mono o2.tm
  have hS2 : SqL K H2 a (ns.map V.int) := o02.gr.seq (fun z => z) hS
  clear hd0 o2
  -- the four dicts
  refine fun d1 hd1 => fun d2 hd2 => fun d3 hd3 => fun d4 hd4 => ⟨by show 4 ≤ sizeLine; decide, fun ta hta => ⟨ta, _, rfl, SqT.of upd_same, rfl, _, _, rfl, _, _, rfl, _, _, rfl, _, _, rfl, rfl, ?_⟩⟩
  have p1 := Old.new (o := .dK []) hd1
  have p2 := Old.new (o := .dK []) hd2
  have p3 := Old.new (o := .dK []) hd3
  have p4 := Old.new (o := .dK []) hd4
  have p5 := Old.new (o := .tup [.ref d1, .ref d2, .ref d3, .ref d4]) hta
  have n21 : d1 ≠ d2 := ne_of_none upd_same hd2
  have n31 : d1 ≠ d3 := ne_of_none (p2 _ _ upd_same) hd3
  have n32 : d2 ≠ d3 := ne_of_none upd_same hd3
  have n41 : d1 ≠ d4 := ne_of_none (p3 _ _ (p2 _ _ upd_same)) hd4
  have n42 : d2 ≠ d4 := ne_of_none (p3 _ _ upd_same) hd4
  have n43 : d3 ≠ d4 := ne_of_none upd_same hd4
  have h1 := p5 _ _ (p4 _ _ (p3 _ _ (p2 d1 _ upd_same)))
  have h2 := p5 _ _ (p4 _ _ (p3 d2 _ upd_same))
  have h3 := p5 _ _ (p4 d3 _ upd_same)
  have h4 := p5 d4 _ upd_same
  have o3 := (((p1.trans p2).trans p3).trans p4).trans p5
  clear p1 p2 p3 p4 p5 hd1 hd2 hd3 hd4
  generalize upd (upd (upd (upd (upd H2 d1 (.dK [])) d2 (.dK [])) d3 (.dK [])) d4 (.dK [])) ta (.tup [.ref d1, .ref d2, .ref d3, .ref d4]) = H3 at h1 h2 h3 h4 o3 ⊢
  have rt3 := rt2.mono o3.tm
  have hS3 : SqL K H3 a (ns.map V.int) := o3.gr.seq (fun z => z) hS2
  -- one
  refine ⟨_, rfl, _, rfl, _, rfl, a, ns, t.sp, 0, rfl, hS3, by omega, ⟨by decide, by decide⟩, fun ka kvs H4 o4 hk0 hk4 => ⟨_, rfl, v, t.tn.d, 0, ka, d1, kvs, true, [], rfl, rt3.mono o4.tm, nr, by omega, by omega, hk4, o4 _ _ h1, Ne.symm (ne_of_none h1 hk0), (fun i hi => nomatch hi), Nat.le_refl _, ?_, fun H5 g5 h5 => ?_⟩⟩
  · rw [om_tree _ 0 ot]
    show 0 + t.sp ≤ 900000
    omega
  rw [om_tree _ 0 ot, List.nil_append] at h5
  have h5' : H5 d1 = some (.dK (dOf (t.mar (onK kvs) 0))) := h5
  rw [mar_flt] at h5'
  generalize em1 : t.mp (onK kvs) 0 = m1 at h5'
  have cl1 : t.cl (fun i => !m1 i) 0 := by rw [← em1]; exact kcl_mp _ t 0
  have tm5 := tmD g5 (o4 _ _ h1)
  have rt5 := (rt3.mono o4.tm).mono tm5
  have k2 : H5 d2 = some (.dK []) := g5 _ _ (o4 _ _ h2) (fun z => n21 z.symm)
  have k3 : H5 d3 = some (.dK []) := g5 _ _ (o4 _ _ h3) (fun z => n31 z.symm)
  have k4 : H5 d4 = some (.dK []) := g5 _ _ (o4 _ _ h4) (fun z => n41 z.symm)
  have hS5 : SqL K H5 a (ns.map V.int) := by
    rcases hS with h | h
    · have ne : a ≠ d1 := fun z => by
        have o2d : Old H H3 := o02.trans o3
        rcases h with h | ⟨o, h⟩
        · have := o2d _ _ h
          rw [z, h1] at this; cases this
        · have := o2d _ _ h
          rw [z, h1] at this; cases this
      exact g5.seq ne (o4.gr.seq (fun z => z) hS3)
    · exact .inr h
  clear h1 h2 h3 h4 g5 h5 hk4 hk0 o4 em1 kvs ka
  -- two
  refine ⟨_, rfl, _, rfl, _, rfl, a, ns, t.sp, 1, rfl, hS5, by omega, ⟨by decide, by decide⟩, fun ka kvs H6 o6 hk0 hk6 => ⟨_, rfl, v, t.tn.d, 0, ka, d2, kvs, true, [], rfl, rt5.mono o6.tm, nr, by omega, by omega, hk6, o6 _ _ k2, Ne.symm (ne_of_none k2 hk0), (fun i hi => nomatch hi), Nat.le_refl _, ?_, fun H7 g7 h7 => ?_⟩⟩
  · rw [om_tree _ 0 ot]
    show 0 + t.sp ≤ 900000
    omega
  rw [om_tree _ 0 ot, List.nil_append] at h7
  have h7' : H7 d2 = some (.dK (dOf (t.mar (onK kvs) 0))) := h7
  rw [mar_flt] at h7'
  generalize em2 : t.mp (onK kvs) 0 = m2 at h7'
  have cl2 : t.cl (fun i => !m2 i) 0 := by rw [← em2]; exact kcl_mp _ t 0
  have tm7 := tmD g7 (o6 _ _ k2)
  have rt7 := (rt5.mono o6.tm).mono tm7
  have a1 : H7 d1 = some (.dK (dOf (flt m1 t.sp))) := g7 _ _ (o6 _ _ h5') n21
  have a3 : H7 d3 = some (.dK []) := g7 _ _ (o6 _ _ k3) (fun z => n32 z.symm)
  have a4 : H7 d4 = some (.dK []) := g7 _ _ (o6 _ _ k4) (fun z => n42 z.symm)
  clear h5' k2 k3 k4 g7 h7 hk6 hk0 o6 em2 kvs ka hS5 hS3 hS2
  have a2 := h7'
  clear h7'
  -- both, any
  have nsp : (0 : Int) ≤ (t.sp : Int) := Int.natCast_nonneg _
  refine ⟨_, rfl, _, rfl, by omega, by omega, for_range (n := t.sp) (fun i σ H8 => ∃ (k7 : Option V), σ = [some (.ref a), some v, some (.int (t.sp : Int)), some (.ref d1), some (.ref d2), some (.ref d3), some (.ref d4), k7, none, none, none, none, none, none, none, none, none] ∧ Gr (M2 d3 d4) H7 H8 ∧ H8 d3 = some (.dK (dOf (flt (fun i => m1 i && m2 i) i))) ∧ H8 d4 = some (.dK (dOf (flt (fun i => m1 i || m2 i) i)))) ⟨none, rfl, Gr.refl _, a3, a4⟩ ?_ ?_⟩
  · intro i σ H8 hi hv
    obtain ⟨k7, rfl, g8, b3, b4⟩ := hv
    have b1 : H8 d1 = some (.dK (dOf (flt m1 t.sp))) := g8 _ _ a1 (fun z => z.elim n31 n41)
    have b2 : H8 d2 = some (.dK (dOf (flt m2 t.sp))) := g8 _ _ a2 (fun z => z.elim n32 n42)
    have v1 : (valV (dOf (flt m1 t.sp)) (.inl (0 + (i : Int)))).isSome = m1 i := by rw [Int.zero_add]; exact flt_val hi
    have v2 : (valV (dOf (flt m2 t.sp)) (.inl (0 + (i : Int)))).isSome = m2 i := by rw [Int.zero_add]; exact flt_val hi
    have lb := flt_len (fun i => m1 i && m2 i) i
    have la := flt_len (fun i => m1 i || m2 i) i
    have s3 := flt_succ (fun i => m1 i && m2 i) i
    have s4 := flt_succ (fun i => m1 i || m2 i) i
    dsimp only [gName]
    refine seq_by (fun σ H9 => σ = [some (.ref a), some v, some (.int (t.sp : Int)), some (.ref d1), some (.ref d2), some (.ref d3), some (.ref d4), some (.int (0 + (i : Int))), none, none, none, none, none, none, none, none, none] ∧ Gr (M2 d3 d4) H7 H9 ∧ H9 d1 = some (.dK (dOf (flt m1 t.sp))) ∧ H9 d2 = some (.dK (dOf (flt m2 t.sp))) ∧ H9 d3 = some (.dK (dOf (flt (fun i => m1 i && m2 i) (i + 1)))) ∧ H9 d4 = some (.dK (dOf (flt (fun i => m1 i || m2 i) i)))) (fun R hR => ?_) (fun σ H9 hP => ?_)
    · have no : (m1 i && m2 i) = false → R [some (.ref a), some v, some (.int (t.sp : Int)), some (.ref d1), some (.ref d2), some (.ref d3), some (.ref d4), some (.int (0 + (i : Int))), none, none, none, none, none, none, none, none, none] H8 := fun z => hR _ _ ⟨rfl, g8, b1, b2, by rw [s3, z, if_neg (by decide), List.append_nil]; exact b3, b4⟩
      refine ⟨_, rfl, _, rfl, d1, _, rfl, DGet.k (k := .inl (0 + (i : Int))) b1, _, rfl, ?_⟩
      rw [v1]
      cases c1 : m1 i with
      | false => exact iteF (iteF (no (by rw [c1]; rfl)))
      | true =>
        refine iteT ⟨_, rfl, _, rfl, d2, _, rfl, DGet.k (k := .inl (0 + (i : Int))) b2, _, rfl, ?_⟩
        rw [v2]
        cases c2 : m2 i with
        | false => exact iteF (no (by rw [c1, c2]; rfl))
        | true =>
          refine iteT ⟨_, rfl, _, rfl, d3, _, rfl, DPut.k (k := .inl (0 + (i : Int))) b3 (smallM (by rw [dOf_len]; omega)), ?_⟩
          refine hR _ _ ⟨rfl, g8.trans (Gr.put (.inl rfl)), by rw [upd_ne n31]; exact b1, by rw [upd_ne n32]; exact b2, ?_, by rw [upd_ne (Ne.symm n43)]; exact b4⟩
          rw [upd_same, Int.zero_add, dOf_put (fun z => absurd (flt_mem.mp z).1 (Nat.lt_irrefl _)), s3, c1, c2]
          rfl
    obtain ⟨rfl, g9, c1', c2', c3', c4'⟩ := hP
    have no : (m1 i || m2 i) = false → ∃ k7 : Option V, ([some (.ref a), some v, some (.int (t.sp : Int)), some (.ref d1), some (.ref d2), some (.ref d3), some (.ref d4), some (.int (0 + (i : Int))), none, none, none, none, none, none, none, none, none] : St) = [some (.ref a), some v, some (.int (t.sp : Int)), some (.ref d1), some (.ref d2), some (.ref d3), some (.ref d4), k7, none, none, none, none, none, none, none, none, none] ∧ Gr (M2 d3 d4) H7 H9 ∧ H9 d3 = some (.dK (dOf (flt (fun i => m1 i && m2 i) (i + 1)))) ∧ H9 d4 = some (.dK (dOf (flt (fun i => m1 i || m2 i) (i + 1)))) := fun z => ⟨_, rfl, g9, c3', by rw [s4, z, if_neg (by decide), List.append_nil]; exact c4'⟩
    have yes : (m1 i || m2 i) = true → ∃ k7 : Option V, ([some (.ref a), some v, some (.int (t.sp : Int)), some (.ref d1), some (.ref d2), some (.ref d3), some (.ref d4), some (.int (0 + (i : Int))), none, none, none, none, none, none, none, none, none] : St) = [some (.ref a), some v, some (.int (t.sp : Int)), some (.ref d1), some (.ref d2), some (.ref d3), some (.ref d4), k7, none, none, none, none, none, none, none, none, none] ∧ Gr (M2 d3 d4) H7 (upd H9 d4 (.dK (putK (dOf (flt (fun i => m1 i || m2 i) i)) (.inl (0 + (i : Int))) (.bl true)))) ∧ upd H9 d4 (.dK (putK (dOf (flt (fun i => m1 i || m2 i) i)) (.inl (0 + (i : Int))) (.bl true))) d3 = some (.dK (dOf (flt (fun i => m1 i && m2 i) (i + 1)))) ∧ upd H9 d4 (.dK (putK (dOf (flt (fun i => m1 i || m2 i) i)) (.inl (0 + (i : Int))) (.bl true))) d4 = some (.dK (dOf (flt (fun i => m1 i || m2 i) (i + 1)))) := fun z => by
      refine ⟨_, rfl, g9.trans (Gr.put (.inr rfl)), by rw [upd_ne n43]; exact c3', ?_⟩
      rw [upd_same, Int.zero_add, dOf_put (fun z => absurd (flt_mem.mp z).1 (Nat.lt_irrefl _)), s4, z]
      rfl
    refine ⟨_, rfl, _, rfl, d1, _, rfl, DGet.k (k := .inl (0 + (i : Int))) c1', _, rfl, ?_⟩
    rw [v1]
    cases c1 : m1 i with
    | true => exact iteT (iteT ⟨_, rfl, _, rfl, d4, _, rfl, DPut.k (k := .inl (0 + (i : Int))) c4' (smallM (by rw [dOf_len]; omega)), yes (by rw [c1]; rfl)⟩)
    | false =>
      refine iteF ⟨_, rfl, _, rfl, d2, _, rfl, DGet.k (k := .inl (0 + (i : Int))) c2', _, rfl, ?_⟩
      rw [v2]
      cases c2 : m2 i with
      | true => exact iteT ⟨_, rfl, _, rfl, d4, _, rfl, DPut.k (k := .inl (0 + (i : Int))) c4' (smallM (by rw [dOf_len]; omega)), yes (by rw [c1, c2]; rfl)⟩
      | false => exact iteF (no (by rw [c1, c2]; rfl))
  intro σ H8 hv
  obtain ⟨k7, rfl, g8, b3, b4⟩ := hv
  have b1 : H8 d1 = some (.dK (dOf (flt m1 t.sp))) := g8 _ _ a1 (fun z => z.elim n31 n41)
  have b2 : H8 d2 = some (.dK (dOf (flt m2 t.sp))) := g8 _ _ a2 (fun z => z.elim n32 n42)
  have tm8 : Tm H7 H8 := g8.tm fun b xs m e => by
    rcases m with z | z
    · rw [z, a3] at e; cases e
    · rw [z, a4] at e; cases e
  have rt8 := rt7.mono tm8
  clear g8 a1 a2 a3 a4 rt7 tm8 tm7 tm5
  -- the four programs
  have at_ : ∀ (dk : Addr) (p : Nat → Bool) (H9 : Hp), Old H8 H9 → H8 dk = some (.dK (dOf (flt p t.sp))) → ∀ (R : VK), (∀ x H', Old H9 H' → RK K H' (t.lo (fun i => !p i) 0).tn.d x → R x H') → spLz K 30 [v, .int 0, .ref dk] H9 (fun y H' => rIx K y (.int 0) H' R) E0 := fun dk p H9 o9 hdk R hR => by
    refine ⟨v, t.tn.d, 0, dk, dOf (flt p t.sp), rfl, rt8.mono o9.tm, nr, by omega, by omega, o9 _ _ hdk, fun r x H' o hr0 hr' rx => .inl ⟨r, _, 0, x, rfl, rfl, SqL.of hr', at0, hR x H' o ?_⟩⟩
    rw [lz_tree _ 0 ot] at rx
    have e : t.lo (offK (dOf (flt p t.sp))) 0 = t.lo (fun i => !p i) 0 := klo_congr t 0 fun i _ hi => flt_off (by omega)
    rw [e] at rx
    exact rx
  refine ⟨_, rfl, _, rfl, at_ d1 m1 H8 (Old.refl _) b1 _ fun x1 H9 o9 r1 => ?_⟩
  refine ⟨_, rfl, _, rfl, at_ d2 m2 H9 o9 b2 _ fun x2 H10 o10 r2 => ?_⟩
  refine ⟨_, rfl, _, rfl, at_ d4 (fun i => m1 i || m2 i) H10 (o9.trans o10) b4 _ fun x3 H11 o11 r3 => ?_⟩
  refine ⟨_, rfl, _, rfl, at_ d3 (fun i => m1 i && m2 i) H11 ((o9.trans o10).trans o11) b3 _ fun x4 H12 o12 r4 => ?_⟩
  have q1' := r1.mono ((o10.trans o11).trans o12).tm
  have q2' := r2.mono (o11.trans o12).tm
  have q3' := r3.mono o12.tm
  have o812 := ((o9.trans o10).trans o11).trans o12
  clear r1 r2 r3
  have G1 := gt.lo fun i => !m1 i
  have G2 := gt.lo fun i => !m2 i
  have eL : ∀ p : Nat → Bool, p = (fun i => !(m1 i && m2 i)) ∨ p = (fun i => !m1 i || !m2 i) ∨ p = (fun i => !m2 i || !m1 i) → t.lo p 0 = t.lo (fun i => !m1 i || !m2 i) 0 := fun p hp => klo_congr t 0 fun i _ _ => by
    rcases hp with rfl | rfl | rfl
    · show (!(m1 i && m2 i)) = (!m1 i || !m2 i)
      cases m1 i <;> cases m2 i <;> rfl
    · rfl
    · show (!m2 i || !m1 i) = (!m1 i || !m2 i)
      cases m1 i <;> cases m2 i <;> rfl
  have eM : ∀ p : Nat → Bool, p = (fun i => !(m1 i || m2 i)) ∨ p = (fun i => !m1 i && !m2 i) ∨ p = (fun i => !m2 i && !m1 i) → t.lo p 0 = t.lo (fun i => !m1 i && !m2 i) 0 := fun p hp => klo_congr t 0 fun i _ _ => by
    rcases hp with rfl | rfl | rfl
    · show (!(m1 i || m2 i)) = (!m1 i && !m2 i)
      cases m1 i <;> cases m2 i <;> rfl
    · rfl
    · show (!m2 i && !m1 i) = (!m1 i && !m2 i)
      cases m1 i <;> cases m2 i <;> rfl
  have e1 : t.lo (fun i => !m1 i || !m1 i) 0 = t.lo (fun i => !m1 i) 0 := klo_congr t 0 fun i _ _ => by cases m1 i <;> rfl
  have e2 : t.lo (fun i => !m2 i && !m2 i) 0 = t.lo (fun i => !m2 i) 0 := klo_congr t 0 fun i _ _ => by cases m2 i <;> rfl
  rw [eL _ (.inl rfl)] at r4
  rw [eM _ (.inl rfl)] at q3'
  have GL := gt.lo fun i => !m1 i || !m2 i
  have GM := gt.lo fun i => !m1 i && !m2 i
  have dd := G1.dep
  have dd2 := G2.dep
  have ddL := GL.dep
  have ddM := GM.dep
  -- joined
  refine ⟨_, rfl, _, rfl, x1, x2, _, _, rfl, q1', q2', G1.wf, G2.wf, G1.ok, G2.ok, by omega, unl_lo _ _ t 0 0, al_lo _ _ 0 ot, fun y H13 o13 ry => ?_⟩
  rw [wb_join _ _ 0 ot] at ry
  refine ⟨_, rfl, ?_⟩
  refine neT GL.ok (by omega) ry (r4.mono o13.tm) ?_
  refine ⟨_, rfl, iteF ?_⟩
  refine ⟨_, rfl, _, rfl, x2, x1, _, _, rfl, q2'.mono o13.tm, q1'.mono o13.tm, G2.wf, G1.wf, G2.ok, G1.ok, by omega, unl_lo _ _ t 0 0, al_lo _ _ 0 ot, fun y H14 o14 ry => ?_⟩
  rw [wb_join _ _ 0 ot, eL _ (.inr (.inr rfl))] at ry
  have o1314 := o13.trans o14
  refine ⟨_, rfl, ?_⟩
  refine neT GL.ok (by omega) ry (r4.mono o1314.tm) ?_
  refine ⟨_, rfl, iteF ?_⟩
  refine ⟨_, rfl, _, rfl, x1, x1, _, _, rfl, q1'.mono o1314.tm, q1'.mono o1314.tm, G1.wf, G1.wf, G1.ok, G1.ok, by omega, unl_lo _ _ t 0 0, al_lo _ _ 0 ot, fun y H15 o15 ry => ?_⟩
  rw [wb_join _ _ 0 ot, e1] at ry
  have o1315 := o1314.trans o15
  refine ⟨_, rfl, ?_⟩
  refine neT G1.ok (by omega) ry (q1'.mono o1315.tm) ?_
  refine ⟨_, rfl, iteF ?_⟩
  clear ry o13 o14 o15 o1314
  have f1 := q1'.mono o1315.tm
  have f2 := q2'.mono o1315.tm
  have f3 := q3'.mono o1315.tm
  have f4 := r4.mono o1315.tm
  -- met
  refine ⟨_, rfl, _, rfl, x1, x2, _, _, rfl, f1, f2, G1.wf, G2.wf, G1.ok, G2.ok, by omega, unl_lo _ _ t 0 0, al_lo _ _ 0 ot, fun y H16 o16 ry => ?_⟩
  rw [wb_both _ _ 0 ot cl1 cl2] at ry
  refine ⟨_, rfl, ?_⟩
  refine neT GM.ok (by omega) ry (f3.mono o16.tm) ?_
  refine ⟨_, rfl, iteF ?_⟩
  refine ⟨_, rfl, _, rfl, x2, x1, _, _, rfl, f2.mono o16.tm, f1.mono o16.tm, G2.wf, G1.wf, G2.ok, G1.ok, by omega, unl_lo _ _ t 0 0, al_lo _ _ 0 ot, fun y H17 o17 ry => ?_⟩
  rw [wb_both _ _ 0 ot cl2 cl1, eM _ (.inr (.inr rfl))] at ry
  have o1617 := o16.trans o17
  refine ⟨_, rfl, ?_⟩
  refine neT GM.ok (by omega) ry (f3.mono o1617.tm) ?_
  refine ⟨_, rfl, iteF ?_⟩
  refine ⟨_, rfl, _, rfl, x2, x2, _, _, rfl, f2.mono o1617.tm, f2.mono o1617.tm, G2.wf, G2.wf, G2.ok, G2.ok, by omega, unl_lo _ _ t 0 0, al_lo _ _ 0 ot, fun y H18 o18 ry => ?_⟩
  rw [wb_both _ _ 0 ot cl2 cl2, e2] at ry
  have o1618 := o1617.trans o18
  refine ⟨_, rfl, ?_⟩
  refine neT G2.ok (by omega) ry (f2.mono o1618.tm) ?_
  refine ⟨_, rfl, iteF ?_⟩
  have g1 := f1.mono o1618.tm
  have g2 := f2.mono o1618.tm
  have g3 := f3.mono o1618.tm
  have g4 := f4.mono o1618.tm
  have o818 := (o812.trans o1315).trans o1618
  have w1 := o818 _ _ b1
  have w2 := o818 _ _ b2
  have w3 := o818 _ _ b3
  clear ry o16 o17 o18 o1617 f1 f2 f3 f4 q1' q2' q3' r4 o9 o10 o11 o12 o812 o1315 o1618 at_ rt8 b1 b2 b3 b4 eL eM e1 e2
  -- which is looser
  have D12 : (((t.lo (fun i => !m1 i) 0).unl (t.lo (fun i => !m2 i) 0)).isNone && (t.lo (fun i => !m1 i) 0).lsr (t.lo (fun i => !m2 i) 0)) = ((dOf (flt (fun i => m1 i && m2 i) t.sp)).length == (dOf (flt m2 t.sp)).length && true) := by
    rw [unl_lo, Bool.eq_iff_iff, flt_eq]
    show (true && _) = true ↔ _
    rw [Bool.true_and]
    constructor
    · intro z i hi h2
      have := of_lsr _ _ 0 cl2 z i (Nat.zero_le _) (by omega)
      cases c : m1 i
      · have h := this (by rw [c]; rfl)
        rw [h2] at h; cases h
      · rfl
    · intro z
      refine lsr_of _ _ t 0 fun i _ hi h1 => ?_
      cases c : m2 i
      · rfl
      · have h := z i (by omega) c
        rw [h] at h1; cases h1
  have D21 : (((t.lo (fun i => !m2 i) 0).unl (t.lo (fun i => !m1 i) 0)).isNone && (t.lo (fun i => !m2 i) 0).lsr (t.lo (fun i => !m1 i) 0)) = ((dOf (flt (fun i => m1 i && m2 i) t.sp)).length == (dOf (flt m1 t.sp)).length && true) := by
    have ec : (fun i => m1 i && m2 i) = fun i => m2 i && m1 i := funext fun i => Bool.and_comm _ _
    rw [unl_lo, Bool.eq_iff_iff, ec, flt_eq]
    show (true && _) = true ↔ _
    rw [Bool.true_and]
    constructor
    · intro z i hi h2
      have := of_lsr _ _ 0 cl1 z i (Nat.zero_le _) (by omega)
      cases c : m2 i
      · have h := this (by rw [c]; rfl)
        rw [h2] at h; cases h
      · rfl
    · intro z
      refine lsr_of _ _ t 0 fun i _ hi h1 => ?_
      cases c : m1 i
      · rfl
      · have h := z i (by omega) c
        rw [h] at h1; cases h1
  have D11 : (((t.lo (fun i => !m1 i) 0).unl (t.lo (fun i => !m1 i) 0)).isNone && (t.lo (fun i => !m1 i) 0).lsr (t.lo (fun i => !m1 i) 0)) = true := by
    rw [unl_lo, klsr_self]; rfl
  have dh2 : DHit K H18 (dOf (flt m2 t.sp)) (dOf (flt (fun i => m1 i && m2 i) t.sp)) true := dhit_of fun i hi => by
    obtain ⟨h1, h2⟩ := flt_mem.mp hi
    rw [Bool.and_eq_true] at h2
    exact flt_mem.mpr ⟨h1, h2.2⟩
  refine ⟨_, rfl, _, rfl, _, rfl, _, rfl, d3, d2, _, _, true, rfl, rfl, w3, w2, dh2, by show 3 ≤ sizeLine; decide, fun ta1 hta1 => ?_⟩
  rw [← D12]
  generalize hB12 : (((t.lo (fun i => !m1 i) 0).unl (t.lo (fun i => !m2 i) 0)).isNone && (t.lo (fun i => !m1 i) 0).lsr (t.lo (fun i => !m2 i) 0)) = B12
  have o19 := Old.new (o := .tup [x1, x2, .bl B12]) hta1
  have t19 : upd H18 ta1 (.tup [x1, x2, .bl B12]) ta1 = some (.tup [x1, x2, .bl B12]) := upd_same
  generalize upd H18 ta1 (.tup [x1, x2, .bl B12]) = H19 at o19 t19 ⊢
  have dh1 : DHit K H19 (dOf (flt m1 t.sp)) (dOf (flt (fun i => m1 i && m2 i) t.sp)) true := dhit_of fun i hi => by
    obtain ⟨h1, h2⟩ := flt_mem.mp hi
    rw [Bool.and_eq_true] at h2
    exact flt_mem.mpr ⟨h1, h2.1⟩
  refine ⟨_, rfl, _, rfl, _, rfl, _, rfl, d3, d1, _, _, true, rfl, rfl, o19 _ _ w3, o19 _ _ w1, dh1, by show 3 ≤ sizeLine; decide, fun ta2 hta2 => ?_⟩
  rw [← D21]
  generalize hB21 : (((t.lo (fun i => !m2 i) 0).unl (t.lo (fun i => !m1 i) 0)).isNone && (t.lo (fun i => !m2 i) 0).lsr (t.lo (fun i => !m1 i) 0)) = B21
  have o20 := Old.new (o := .tup [x2, x1, .bl B21]) hta2
  have t20 : upd H19 ta2 (.tup [x2, x1, .bl B21]) ta2 = some (.tup [x2, x1, .bl B21]) := upd_same
  generalize upd H19 ta2 (.tup [x2, x1, .bl B21]) = H20 at o20 t20 ⊢
  refine ⟨_, rfl, _, rfl, by show 3 ≤ sizeLine; decide, fun ta3 hta3 => ⟨by show 3 ≤ sizeLine; decide, fun la hla => ?_⟩⟩
  have o21 := Old.new (o := .tup [x1, x1, .bl true]) hta3
  have t21 : upd H20 ta3 (.tup [x1, x1, .bl true]) ta3 = some (.tup [x1, x1, .bl true]) := upd_same
  generalize upd H20 ta3 (.tup [x1, x1, .bl true]) = H21 at o21 t21 hla ⊢
  have o22 := Old.new (o := .lst [.ref ta1, .ref ta2, .ref ta3]) hla
  have t22 : upd H21 la (.lst [.ref ta1, .ref ta2, .ref ta3]) la = some (.lst [.ref ta1, .ref ta2, .ref ta3]) := upd_same
  generalize upd H21 la (.lst [.ref ta1, .ref ta2, .ref ta3]) = H22 at o22 t22 ⊢
  have oA := ((o19.trans o20).trans o21).trans o22
  have items : ∀ i, i < 3 → ∃ (p : Addr) (xa xb : V) (ua ub : Nat → Bool) (D : Bool), ([V.ref ta1, V.ref ta2, V.ref ta3] : List V)[i]? = some (.ref p) ∧ H22 p = some (.tup [xa, xb, .bl D]) ∧ RK K H22 (t.lo ua 0).tn.d xa ∧ RK K H22 (t.lo ub 0).tn.d xb ∧ (((t.lo ua 0).unl (t.lo ub 0)).isNone && (t.lo ua 0).lsr (t.lo ub 0)) = D := fun i hi => by
    have c : i = 0 ∨ i = 1 ∨ i = 2 := by omega
    rcases c with rfl | rfl | rfl
    · exact ⟨ta1, x1, x2, _, _, B12, rfl, o22 _ _ (o21 _ _ (o20 _ _ t19)), g1.mono oA.tm, g2.mono oA.tm, hB12⟩
    · exact ⟨ta2, x2, x1, _, _, B21, rfl, o22 _ _ (o21 _ _ t20), g2.mono oA.tm, g1.mono oA.tm, hB21⟩
    · exact ⟨ta3, x1, x1, _, _, true, rfl, o22 _ _ t21, g1.mono oA.tm, g1.mono oA.tm, D11⟩
  refine ⟨la, rfl, .inl ⟨⟨_, SqL.of t22⟩, ?_⟩⟩
  refine for_by (n := 3) (fun i σ H23 => ∃ (k12 k13 k14 k15 : Option V), σ = [some (.ref a), some v, some (.int (t.sp : Int)), some (.ref d1), some (.ref d2), some (.ref d3), some (.ref d4), k7, some x1, some x2, some x3, some x4, k12, k13, k14, k15, none] ∧ Old H22 H23) ⟨none, none, none, none, rfl, Old.refl _⟩ ?_ ?_ ?_ ?_
  · intro i σ H23 hi hv
    obtain ⟨k12, k13, k14, k15, rfl, o23⟩ := hv
    obtain ⟨p, xa, xb, ua, ub, D, e, _⟩ := items i hi
    exact ⟨_, _, SqL.of (o23 _ _ t22), e⟩
  · intro σ H23 hv
    obtain ⟨k12, k13, k14, k15, rfl, o23⟩ := hv
    exact ⟨_, SqL.of (o23 _ _ t22), Nat.le_refl _⟩
  · intro i σ H23 hi hv y H24 hy
    obtain ⟨k12, k13, k14, k15, rfl, o23⟩ := hv
    obtain ⟨e1, hyx⟩ := hy
    subst e1
    obtain ⟨p, xa, xb, ua, ub, D, e, hp, ra, rb, eD⟩ := items i hi
    have ey := hyx _ (SqL.of (o23 _ _ t22))
    rw [e] at ey
    cases ey
    have Ga := gt.lo ua
    have Gb := gt.lo ub
    have da := Ga.dep
    refine ⟨p, _, rfl, SqT.of (o23 _ _ hp), rfl, _, _, rfl, _, _, rfl, _, _, rfl, rfl, ?_⟩
    refine ⟨_, rfl, _, rfl, xa, xb, _, _, rfl, ra.mono o23.tm, rb.mono o23.tm, Ga.wf, Gb.wf, Ga.ok, Gb.ok, by omega, fun H25 o25 => ?_⟩
    rw [eD]
    refine ⟨_, rfl, _, _, _, rfl, i_bb _, _, rfl, iteF ?_⟩
    refine ⟨_, rfl, _, rfl, .inr (.inl ⟨rfl, _, rfl, ?_⟩)⟩
    rw [decide_eq_true rfl]
    exact iteF ⟨_, _, _, _, rfl, o23.trans o25⟩
  intro σ H23 hv
  obtain ⟨k12, k13, k14, k15, rfl, o23⟩ := hv
  have oB := oA.trans o23
  refine ⟨_, rfl, _, rfl, by show 2 ≤ sizeLine; decide, fun lb hlb => ?_⟩
  have o24 := Old.new (o := .lst [x1, x2]) hlb
  have t24 : upd H23 lb (.lst [x1, x2]) lb = some (.lst [x1, x2]) := upd_same
  generalize upd H23 lb (.lst [x1, x2]) = H24 at o24 t24 ⊢
  have oC := oB.trans o24
  have h3' := g3.mono oC.tm
  have h4' := g4.mono oC.tm
  have sides : ∀ i, i < 2 → ∃ (xa : V) (ua : Nat → Bool), ([x1, x2] : List V)[i]? = some xa ∧ RK K H24 (t.lo ua 0).tn.d xa ∧ (∀ j, ua j = true → (!m1 j || !m2 j) = true) ∧ (∀ j, (!m1 j && !m2 j) = true → ua j = true) := fun i hi => by
    have c : i = 0 ∨ i = 1 := by omega
    rcases c with rfl | rfl
    · exact ⟨x1, _, rfl, g1.mono oC.tm, fun j h => by rw [h]; rfl, fun j h => by rw [Bool.and_eq_true] at h; exact h.1⟩
    · exact ⟨x2, _, rfl, g2.mono oC.tm, fun j h => by rw [h, Bool.or_true], fun j h => by rw [Bool.and_eq_true] at h; exact h.2⟩
  refine ⟨lb, rfl, .inl ⟨⟨_, SqL.of t24⟩, ?_⟩⟩
  refine for_by (n := 2) (fun i σ H25 => ∃ (k16 : Option V), σ = [some (.ref a), some v, some (.int (t.sp : Int)), some (.ref d1), some (.ref d2), some (.ref d3), some (.ref d4), k7, some x1, some x2, some x3, some x4, k12, k13, k14, k15, k16] ∧ Old H24 H25) ⟨none, rfl, Old.refl _⟩ ?_ ?_ ?_ ?_
  · intro i σ H25 hi hv
    obtain ⟨k16, rfl, o25⟩ := hv
    obtain ⟨xa, ua, e, _⟩ := sides i hi
    exact ⟨_, _, SqL.of (o25 _ _ t24), e⟩
  · intro σ H25 hv
    obtain ⟨k16, rfl, o25⟩ := hv
    exact ⟨_, SqL.of (o25 _ _ t24), Nat.le_refl _⟩
  · intro i σ H25 hi hv y H26 hy
    obtain ⟨k16, rfl, o25⟩ := hv
    obtain ⟨e1, hyx⟩ := hy
    subst e1
    obtain ⟨xa, ua, e, ra, s1, s2⟩ := sides i hi
    have ey := hyx _ (SqL.of (o25 _ _ t24))
    rw [e] at ey
    obtain rfl : xa = y := Option.some.inj ey
    have Ga := gt.lo ua
    have da := Ga.dep
    have E1 : (((t.lo ua 0).unl (t.lo (fun i => !m1 i || !m2 i) 0)).isNone && (t.lo ua 0).lsr (t.lo (fun i => !m1 i || !m2 i) 0)) = true := by
      rw [unl_lo, lsr_of _ _ t 0 fun j _ _ h => s1 j h]; rfl
    have E2 : (((t.lo (fun i => !m1 i && !m2 i) 0).unl (t.lo ua 0)).isNone && (t.lo (fun i => !m1 i && !m2 i) 0).lsr (t.lo ua 0)) = true := by
      rw [unl_lo, lsr_of _ _ t 0 fun j _ _ h => s2 j h]; rfl
    refine ⟨_, rfl, _, rfl, xa, x4, _, _, rfl, ra.mono o25.tm, h4'.mono o25.tm, Ga.wf, GL.wf, Ga.ok, GL.ok, by omega, fun H27 o27 => ?_⟩
    rw [E1]
    refine ⟨_, rfl, iteF ?_⟩
    refine ⟨_, rfl, _, rfl, x3, xa, _, _, rfl, h3'.mono (o25.trans o27).tm, ra.mono (o25.trans o27).tm, GM.wf, Ga.wf, GM.ok, Ga.ok, by omega, fun H28 o28 => ?_⟩
    rw [E2]
    exact ⟨_, rfl, iteF ⟨_, rfl, (o25.trans o27).trans o28⟩⟩
  · intro σ H25 hv
    exact q _
end
end L2.K81

end
section
set_option Elab.async false
set_option linter.all false
set_option maxRecDepth 100000
set_option maxHeartbeats 4000000
namespace L2.K81
open PySem PySem.Spec PyProof.Rows L2.Bw L2.Bk L2.Ex
section
variable {P : Program} {w : World} {K : PySem.W.Frag} {mg : Str → Option Value} {base : Heap} {f : Addr} {fd : FuncData}
theorem none_of {k : Nat} {ps : List Str} {sp : Sp} (no : ∀ vs H Q E, ¬ sp vs H Q E) : FnOk P w K mg base CX0 k f fd ps sp := ⟨fun vs H Q E h => absurd h (no vs H Q E), fun A outer s H args us vs Q E _ _ _ _ h => absurd h (no vs H Q E)⟩
theorem no_looser : ∀ vs H Q E, ¬ spLooser K 0 vs H Q E := fun vs H Q E h => by
  obtain ⟨x, y, a, b, _, _, _, _, _, h, _⟩ := h
  omega
theorem no_Fu : ∀ vs H Q E, ¬ spFu K 0 vs H Q E := fun vs H Q E h => by
  obtain ⟨v, u, t, t', _, _, _, _, _, _, _, h, _⟩ := h
  omega
theorem no_Al : ∀ vs H Q E, ¬ spAl K 0 vs H Q E := fun vs H Q E h => by
  obtain ⟨v, u, t, t', _, _, _, _, _, _, _, h, _⟩ := h
  omega
theorem no_Kind : ∀ vs H Q E, ¬ spKind K 0 vs H Q E := fun vs H Q E h => by
  obtain ⟨a, room, _, h1, h2, _⟩ := h
  omega
theorem no_made : ∀ vs H Q E, ¬ spMade K 0 vs H Q E := fun vs H Q E h => by
  obtain ⟨d, a, ns, i, b, c, room, _, _, _, h, _⟩ := h
  omega
theorem no_lz : ∀ vs H Q E, ¬ spLz K 0 vs H Q E := fun vs H Q E h => by
  obtain ⟨v, d, n, kd, kvs, _, _, _, _, h, _⟩ := h
  omega
theorem no_parting : ∀ vs H Q E, ¬ spParting K 0 vs H Q E := fun vs H Q E h => by
  obtain ⟨x, y, a, b, _, _, _, _, _, h1, _⟩ := h
  omega
theorem no_join : ∀ vs H Q E, ¬ spJoin K 0 vs H Q E := fun vs H Q E h => by
  obtain ⟨x, y, a, b, _, _, _, _, _, h1, _⟩ := h
  omega
theorem no_both : ∀ vs H Q E, ¬ spBoth K 0 vs H Q E := fun vs H Q E h => by
  obtain ⟨x, y, a, b, _, _, _, _, _, _, h1, _⟩ := h
  omega
theorem no_Wb {fJ fM : Addr} : ∀ vs H Q E, ¬ spWb K fJ fM 0 vs H Q E := fun vs H Q E h => by
  obtain ⟨v, u, fb, op, t, t', _, _, _, _, _, _, _, _, _, h, _⟩ := h
  omega
theorem no_op : ∀ vs H Q E, ¬ spOp K 0 vs H Q E := fun vs H Q E h => by
  obtain ⟨v, d, n, kd, sd, kvs, fr, L, _, _, _, _, h, _⟩ := h
  omega
/-- a def that calls itself, by the number of calls -/
theorem cal_recL {x : Str} {ps : List Str} {sp : Nat → Sp} (lv : Nat → Nat) (b : Binds K fd ps []) (kp : PySem.W.keepIn K (.ref f) = true) (m : mg x = some (.ref f)) (no : ∀ vs H Q E, ¬ sp 0 vs H Q E)
    (step : ∀ n, Cal P w K mg base x ps (lv n) (sp n) → FnOk P w K mg base CX0 (lv (n + 1)) f fd ps (sp (n + 1))) : ∀ n, Cal P w K mg base x ps (lv n) (sp n)
  | 0 => ⟨⟨f, fd, none_of no, b, kp, m⟩⟩
  | n + 1 => ⟨⟨f, fd, step n (cal_recL lv b kp m no step n), b, kp, m⟩⟩
end
/-- a def stands at the program's top -/
noncomputable def Here (K : PySem.W.Frag) (x : Str) (st : Stmt) : Prop := ∃ f fd, Fun K x x st f fd ∧ PySem.W.nsIn K mainGlobals x = some (some (.ref f))
theorem here_mk {K : PySem.W.Frag} {x : Str} {st : Stmt} {f : Addr} {od an : Option Addr} {sl : Array (Option Value)} {oc kV dc pm cd ct : Value} (a : PySem.W.nsIn K mainGlobals x = some (some (.ref f)))
    (l : K.lookup f = some ⟨oc, od, .func (PySem.W.fnOf x x (defArgs st) (defBody st) (defScope st) .none kV dc pm an cd ct), sl⟩) (c : PySem.W.codeIn K cd x = true) (k : PySem.W.keepIn K (.ref f) = true) : Here K x st := ⟨f, _, fun_mk l c k, a⟩
noncomputable def T_OWN_SORTS (K : PySem.W.Frag) : Prop := ∃ ua, PySem.W.nsIn K mainGlobals "OWN_SORTS" = some (some (.ref ua)) ∧ Kt K ua [.str "number", .str "truth", .str "given", .str "name", .str "sign"]
theorem tup_OWN_SORTS {K : PySem.W.Frag} {ua : Addr} {od : Option Addr} {n : Nat} {t0 t1 t2 t3 t4 : Tok} {sl : Array (Option Value)} (a : PySem.W.nsIn K mainGlobals "OWN_SORTS" = some (some (.ref ua))) (l : K.lookup ua = some ⟨.type "tuple", od, .seq #[.str "number" t0, .str "truth" t1, .str "given" t2, .str "name" t3, .str "sign" t4] n, sl⟩) : T_OWN_SORTS K :=
  ⟨ua, a, _, _, n, l, rfl, rfl, by show 5 ≤ sizeLine; decide, .cons ⟨t0, rfl⟩ (.cons ⟨t1, rfl⟩ (.cons ⟨t2, rfl⟩ (.cons ⟨t3, rfl⟩ (.cons ⟨t4, rfl⟩ (.nil)))))⟩
noncomputable def T_UNTOLD (K : PySem.W.Frag) : Prop := ∃ ua, PySem.W.nsIn K mainGlobals "UNTOLD" = some (some (.ref ua)) ∧ Kt K ua [.str "?"]
theorem tup_UNTOLD {K : PySem.W.Frag} {ua : Addr} {od : Option Addr} {n : Nat} {tk : Tok} {sl : Array (Option Value)} (a : PySem.W.nsIn K mainGlobals "UNTOLD" = some (some (.ref ua))) (l : K.lookup ua = some ⟨.type "tuple", od, .seq #[.str "?" tk] n, sl⟩) : T_UNTOLD K :=
  ⟨ua, a, _, _, n, l, rfl, rfl, by show 1 ≤ sizeLine; decide, .cons ⟨tk, rfl⟩ .nil⟩
noncomputable def B_FORMS (K : PySem.W.Frag) : Prop := ∃ fa, PySem.W.nsIn K mainGlobals "FORMS" = some (some (.ref fa)) ∧ KTD.tabLook (lookT K) (fun b => K.lookup b) fa K11.table = true
theorem tab_FORMS {K : PySem.W.Frag} {fa : Addr} (a : PySem.W.nsIn K mainGlobals "FORMS" = some (some (.ref fa))) (h : KTD.tabLook (lookT K) (fun b => K.lookup b) fa K11.table = true) : B_FORMS K := ⟨fa, a, h⟩
noncomputable def B_STEPS (K : PySem.W.Frag) : Prop := ∃ fa, PySem.W.nsIn K mainGlobals "STEPS" = some (some (.ref fa)) ∧ KTD.tabLook (lookN K) (fun b => K.lookup b) fa stepTab = true
theorem tab_STEPS {K : PySem.W.Frag} {fa : Addr} (a : PySem.W.nsIn K mainGlobals "STEPS" = some (some (.ref fa))) (h : KTD.tabLook (lookN K) (fun b => K.lookup b) fa stepTab = true) : B_STEPS K := ⟨fa, a, h⟩
structure Txt (K : PySem.W.Frag) : Prop where
  d_kinds_in : Here K "kinds_in" sKi
  d_with_kinds : Here K "with_kinds" sWk
  d_looser : Here K "looser" sLooser
  d_form : Here K "form" sForm
  d_indexes : Here K "indexes" sIndexes
  d_parts : Here K "parts" sParts
  d_written : Here K "written" sWr
  d_exchanged : Here K "exchanged" sEx
  d_with_parts : Here K "with_parts" sWp
  d_with_written : Here K "with_written" sWw
  d_own_things : Here K "own_things" sOt
  d_first_unlike : Here K "first_unlike" sFu
  d_all_looser : Here K "all_looser" sAl
  d_looser_tree : Here K "looser_tree" sLr
  d_steps : Here K "steps" sSteps
  d_parting : Here K "parting" sParting
  d_join : Here K "join" sJoin
  d_same : Here K "same" sSame
  d_both_told : Here K "both_told" sBoth
  d_meet : Here K "meet" sMeet
  d_with_both : Here K "with_both" sWb
  d_need_alike : Here K "need_alike" sNa
  d_joined : Here K "joined" sJd
  d_met : Here K "met" sMd
  d__law_next : Here K "_law_next" sNext
  d__law_place : Here K "_law_place" sPlace
  d__law_cell_at : Here K "_law_cell_at" sCell
  d__law_kind : Here K "_law_kind" sKind
  d__law_leaf : Here K "_law_leaf" sLeaf
  d__law_made : Here K "_law_made" sMade
  d__law_program : Here K "_law_program" sProg
  d__law_loose : Here K "_law_loose" sLz
  d__law_open : Here K "_law_open" sOp
  d__law_keep : Here K "_law_keep" sKp
  d_law : Here K "law" sLaw
  t_UNTOLD : T_UNTOLD K
  t_OWN_SORTS : T_OWN_SORTS K
  b_FORMS : B_FORMS K
  b_STEPS : B_STEPS K
  z_len : PySem.W.nsIn K mainGlobals "len" = some none
  z_isinstance : PySem.W.nsIn K mainGlobals "isinstance" = some none
  z_list : PySem.W.nsIn K mainGlobals "list" = some none
  z_tuple : PySem.W.nsIn K mainGlobals "tuple" = some none
  z_int : PySem.W.nsIn K mainGlobals "int" = some none
  z_bool : PySem.W.nsIn K mainGlobals "bool" = some none
  z_str : PySem.W.nsIn K mainGlobals "str" = some none
  z_range : PySem.W.nsIn K mainGlobals "range" = some none
  z_zip : PySem.W.nsIn K mainGlobals "zip" = some none
  z_all : PySem.W.nsIn K mainGlobals "all" = some none
  z_enumerate : PySem.W.nsIn K mainGlobals "enumerate" = some none
theorem all_mk {l : PySem.W.OpenLaw} {w : World} {K : PySem.W.Frag} {h : Heap} {mg : Str → Option Value} {fa : Addr} (Y : K.In h) (G : h.Ns mainGlobals mg) (hfa : mg "law" = some (.ref fa)) (T : Txt K) :
    ∃ fd : FuncData, (∀ (s : Shared) (v : Value), BindsTo s fd ⟨[v], []⟩ [("_law_script", v)]) ∧ ∀ base : Heap, K.In base → base.Ns mainGlobals mg → FnOk l.prog w K mg base CX0 31 fa fd ["_law_script"] (spLaw K) := by
  have X : Tx mg := ⟨PySem.W.mg_none_of Y G T.z_len, PySem.W.mg_none_of Y G T.z_isinstance, PySem.W.mg_none_of Y G T.z_list, PySem.W.mg_none_of Y G T.z_tuple, PySem.W.mg_none_of Y G T.z_int, PySem.W.mg_none_of Y G T.z_bool, PySem.W.mg_none_of Y G T.z_str, PySem.W.mg_none_of Y G T.z_range, PySem.W.mg_none_of Y G T.z_zip, PySem.W.mg_none_of Y G T.z_all, PySem.W.mg_none_of Y G T.z_enumerate⟩
  obtain ⟨fL, fdL, FL, aL⟩ := T.d_law
  have e := hfa.symm.trans (PySem.W.mg_of Y G aL)
  cases e
  obtain ⟨u_UNTOLD, aU_UNTOLD, k_UNTOLD⟩ := T.t_UNTOLD
  have m_UNTOLD := PySem.W.mg_of Y G aU_UNTOLD
  obtain ⟨u_OWN_SORTS, aU_OWN_SORTS, k_OWN_SORTS⟩ := T.t_OWN_SORTS
  have m_OWN_SORTS := PySem.W.mg_of Y G aU_OWN_SORTS
  obtain ⟨u_FORMS, aU_FORMS, k_FORMS⟩ := T.b_FORMS
  have m_FORMS := PySem.W.mg_of Y G aU_FORMS
  obtain ⟨u_STEPS, aU_STEPS, k_STEPS⟩ := T.b_STEPS
  have m_STEPS := PySem.W.mg_of Y G aU_STEPS
  obtain ⟨f_kinds_in, fd_kinds_in, F_kinds_in, a_kinds_in⟩ := T.d_kinds_in
  have m_kinds_in := PySem.W.mg_of Y G a_kinds_in
  have b_kinds_in : Binds K fd_kinds_in ["kind"] [] := by
    obtain ⟨oc, od, kV, doc, pm, an, cdv, ct, osl, rfl, lk, hc⟩ := F_kinds_in.ex
    exact F_kinds_in.binds (ps := ["kind"]) fun _ _ _ _ _ _ us hl => match us, hl with | [_], _ => rfl
  obtain ⟨f_with_kinds, fd_with_kinds, F_with_kinds, a_with_kinds⟩ := T.d_with_kinds
  have m_with_kinds := PySem.W.mg_of Y G a_with_kinds
  have b_with_kinds : Binds K fd_with_kinds ["kind", "some"] [] := by
    obtain ⟨oc, od, kV, doc, pm, an, cdv, ct, osl, rfl, lk, hc⟩ := F_with_kinds.ex
    exact F_with_kinds.binds (ps := ["kind", "some"]) fun _ _ _ _ _ _ us hl => match us, hl with | [_, _], _ => rfl
  obtain ⟨f_looser, fd_looser, F_looser, a_looser⟩ := T.d_looser
  have m_looser := PySem.W.mg_of Y G a_looser
  have b_looser : Binds K fd_looser ["kind", "other"] [] := by
    obtain ⟨oc, od, kV, doc, pm, an, cdv, ct, osl, rfl, lk, hc⟩ := F_looser.ex
    exact F_looser.binds (ps := ["kind", "other"]) fun _ _ _ _ _ _ us hl => match us, hl with | [_, _], _ => rfl
  obtain ⟨f_form, fd_form, F_form, a_form⟩ := T.d_form
  have m_form := PySem.W.mg_of Y G a_form
  have b_form : Binds K fd_form ["word"] [] := by
    obtain ⟨oc, od, kV, doc, pm, an, cdv, ct, osl, rfl, lk, hc⟩ := F_form.ex
    exact F_form.binds (ps := ["word"]) fun _ _ _ _ _ _ us hl => match us, hl with | [_], _ => rfl
  obtain ⟨f_indexes, fd_indexes, F_indexes, a_indexes⟩ := T.d_indexes
  have m_indexes := PySem.W.mg_of Y G a_indexes
  have b_indexes : Binds K fd_indexes ["tree", "sort"] [] := by
    obtain ⟨oc, od, kV, doc, pm, an, cdv, ct, osl, rfl, lk, hc⟩ := F_indexes.ex
    exact F_indexes.binds (ps := ["tree", "sort"]) fun _ _ _ _ _ _ us hl => match us, hl with | [_, _], _ => rfl
  obtain ⟨f_parts, fd_parts, F_parts, a_parts⟩ := T.d_parts
  have m_parts := PySem.W.mg_of Y G a_parts
  have b_parts : Binds K fd_parts ["tree"] [] := by
    obtain ⟨oc, od, kV, doc, pm, an, cdv, ct, osl, rfl, lk, hc⟩ := F_parts.ex
    exact F_parts.binds (ps := ["tree"]) fun _ _ _ _ _ _ us hl => match us, hl with | [_], _ => rfl
  obtain ⟨f_written, fd_written, F_written, a_written⟩ := T.d_written
  have m_written := PySem.W.mg_of Y G a_written
  have b_written : Binds K fd_written ["tree"] [] := by
    obtain ⟨oc, od, kV, doc, pm, an, cdv, ct, osl, rfl, lk, hc⟩ := F_written.ex
    exact F_written.binds (ps := ["tree"]) fun _ _ _ _ _ _ us hl => match us, hl with | [_], _ => rfl
  obtain ⟨f_exchanged, fd_exchanged, F_exchanged, a_exchanged⟩ := T.d_exchanged
  have m_exchanged := PySem.W.mg_of Y G a_exchanged
  have b_exchanged : Binds K fd_exchanged ["tree", "spots", "some"] [] := by
    obtain ⟨oc, od, kV, doc, pm, an, cdv, ct, osl, rfl, lk, hc⟩ := F_exchanged.ex
    exact F_exchanged.binds (ps := ["tree", "spots", "some"]) fun _ _ _ _ _ _ us hl => match us, hl with | [_, _, _], _ => rfl
  obtain ⟨f_with_parts, fd_with_parts, F_with_parts, a_with_parts⟩ := T.d_with_parts
  have m_with_parts := PySem.W.mg_of Y G a_with_parts
  have b_with_parts : Binds K fd_with_parts ["tree", "some"] [] := by
    obtain ⟨oc, od, kV, doc, pm, an, cdv, ct, osl, rfl, lk, hc⟩ := F_with_parts.ex
    exact F_with_parts.binds (ps := ["tree", "some"]) fun _ _ _ _ _ _ us hl => match us, hl with | [_, _], _ => rfl
  obtain ⟨f_with_written, fd_with_written, F_with_written, a_with_written⟩ := T.d_with_written
  have m_with_written := PySem.W.mg_of Y G a_with_written
  have b_with_written : Binds K fd_with_written ["tree", "some"] [] := by
    obtain ⟨oc, od, kV, doc, pm, an, cdv, ct, osl, rfl, lk, hc⟩ := F_with_written.ex
    exact F_with_written.binds (ps := ["tree", "some"]) fun _ _ _ _ _ _ us hl => match us, hl with | [_, _], _ => rfl
  obtain ⟨f_own_things, fd_own_things, F_own_things, a_own_things⟩ := T.d_own_things
  have m_own_things := PySem.W.mg_of Y G a_own_things
  have b_own_things : Binds K fd_own_things ["tree"] [] := by
    obtain ⟨oc, od, kV, doc, pm, an, cdv, ct, osl, rfl, lk, hc⟩ := F_own_things.ex
    exact F_own_things.binds (ps := ["tree"]) fun _ _ _ _ _ _ us hl => match us, hl with | [_], _ => rfl
  obtain ⟨f_first_unlike, fd_first_unlike, F_first_unlike, a_first_unlike⟩ := T.d_first_unlike
  have m_first_unlike := PySem.W.mg_of Y G a_first_unlike
  have b_first_unlike : Binds K fd_first_unlike ["tree", "other"] [] := by
    obtain ⟨oc, od, kV, doc, pm, an, cdv, ct, osl, rfl, lk, hc⟩ := F_first_unlike.ex
    exact F_first_unlike.binds (ps := ["tree", "other"]) fun _ _ _ _ _ _ us hl => match us, hl with | [_, _], _ => rfl
  obtain ⟨f_all_looser, fd_all_looser, F_all_looser, a_all_looser⟩ := T.d_all_looser
  have m_all_looser := PySem.W.mg_of Y G a_all_looser
  have b_all_looser : Binds K fd_all_looser ["tree", "other"] [] := by
    obtain ⟨oc, od, kV, doc, pm, an, cdv, ct, osl, rfl, lk, hc⟩ := F_all_looser.ex
    exact F_all_looser.binds (ps := ["tree", "other"]) fun _ _ _ _ _ _ us hl => match us, hl with | [_, _], _ => rfl
  obtain ⟨f_looser_tree, fd_looser_tree, F_looser_tree, a_looser_tree⟩ := T.d_looser_tree
  have m_looser_tree := PySem.W.mg_of Y G a_looser_tree
  have b_looser_tree : Binds K fd_looser_tree ["tree", "other"] [] := by
    obtain ⟨oc, od, kV, doc, pm, an, cdv, ct, osl, rfl, lk, hc⟩ := F_looser_tree.ex
    exact F_looser_tree.binds (ps := ["tree", "other"]) fun _ _ _ _ _ _ us hl => match us, hl with | [_, _], _ => rfl
  obtain ⟨f_steps, fd_steps, F_steps, a_steps⟩ := T.d_steps
  have m_steps := PySem.W.mg_of Y G a_steps
  have b_steps : Binds K fd_steps ["kind"] [] := by
    obtain ⟨oc, od, kV, doc, pm, an, cdv, ct, osl, rfl, lk, hc⟩ := F_steps.ex
    exact F_steps.binds (ps := ["kind"]) fun _ _ _ _ _ _ us hl => match us, hl with | [_], _ => rfl
  obtain ⟨f_parting, fd_parting, F_parting, a_parting⟩ := T.d_parting
  have m_parting := PySem.W.mg_of Y G a_parting
  have b_parting : Binds K fd_parting ["kind", "other"] [] := by
    obtain ⟨oc, od, kV, doc, pm, an, cdv, ct, osl, rfl, lk, hc⟩ := F_parting.ex
    exact F_parting.binds (ps := ["kind", "other"]) fun _ _ _ _ _ _ us hl => match us, hl with | [_, _], _ => rfl
  obtain ⟨f_join, fd_join, F_join, a_join⟩ := T.d_join
  have m_join := PySem.W.mg_of Y G a_join
  have b_join : Binds K fd_join ["kind", "other"] [] := by
    obtain ⟨oc, od, kV, doc, pm, an, cdv, ct, osl, rfl, lk, hc⟩ := F_join.ex
    exact F_join.binds (ps := ["kind", "other"]) fun _ _ _ _ _ _ us hl => match us, hl with | [_, _], _ => rfl
  obtain ⟨f_same, fd_same, F_same, a_same⟩ := T.d_same
  have m_same := PySem.W.mg_of Y G a_same
  have b_same : Binds K fd_same ["kind", "other"] [] := by
    obtain ⟨oc, od, kV, doc, pm, an, cdv, ct, osl, rfl, lk, hc⟩ := F_same.ex
    exact F_same.binds (ps := ["kind", "other"]) fun _ _ _ _ _ _ us hl => match us, hl with | [_, _], _ => rfl
  obtain ⟨f_both_told, fd_both_told, F_both_told, a_both_told⟩ := T.d_both_told
  have m_both_told := PySem.W.mg_of Y G a_both_told
  have b_both_told : Binds K fd_both_told ["kind", "other"] [] := by
    obtain ⟨oc, od, kV, doc, pm, an, cdv, ct, osl, rfl, lk, hc⟩ := F_both_told.ex
    exact F_both_told.binds (ps := ["kind", "other"]) fun _ _ _ _ _ _ us hl => match us, hl with | [_, _], _ => rfl
  obtain ⟨f_meet, fd_meet, F_meet, a_meet⟩ := T.d_meet
  have m_meet := PySem.W.mg_of Y G a_meet
  have b_meet : Binds K fd_meet ["kind", "other"] [] := by
    obtain ⟨oc, od, kV, doc, pm, an, cdv, ct, osl, rfl, lk, hc⟩ := F_meet.ex
    exact F_meet.binds (ps := ["kind", "other"]) fun _ _ _ _ _ _ us hl => match us, hl with | [_, _], _ => rfl
  obtain ⟨f_with_both, fd_with_both, F_with_both, a_with_both⟩ := T.d_with_both
  have m_with_both := PySem.W.mg_of Y G a_with_both
  have b_with_both : Binds K fd_with_both ["tree", "other", "both"] [] := by
    obtain ⟨oc, od, kV, doc, pm, an, cdv, ct, osl, rfl, lk, hc⟩ := F_with_both.ex
    exact F_with_both.binds (ps := ["tree", "other", "both"]) fun _ _ _ _ _ _ us hl => match us, hl with | [_, _, _], _ => rfl
  obtain ⟨f_need_alike, fd_need_alike, F_need_alike, a_need_alike⟩ := T.d_need_alike
  have m_need_alike := PySem.W.mg_of Y G a_need_alike
  have b_need_alike : Binds K fd_need_alike ["tree", "other"] [] := by
    obtain ⟨oc, od, kV, doc, pm, an, cdv, ct, osl, rfl, lk, hc⟩ := F_need_alike.ex
    exact F_need_alike.binds (ps := ["tree", "other"]) fun _ _ _ _ _ _ us hl => match us, hl with | [_, _], _ => rfl
  obtain ⟨f_joined, fd_joined, F_joined, a_joined⟩ := T.d_joined
  have m_joined := PySem.W.mg_of Y G a_joined
  have b_joined : Binds K fd_joined ["tree", "other"] [] := by
    obtain ⟨oc, od, kV, doc, pm, an, cdv, ct, osl, rfl, lk, hc⟩ := F_joined.ex
    exact F_joined.binds (ps := ["tree", "other"]) fun _ _ _ _ _ _ us hl => match us, hl with | [_, _], _ => rfl
  obtain ⟨f_met, fd_met, F_met, a_met⟩ := T.d_met
  have m_met := PySem.W.mg_of Y G a_met
  have b_met : Binds K fd_met ["tree", "other"] [] := by
    obtain ⟨oc, od, kV, doc, pm, an, cdv, ct, osl, rfl, lk, hc⟩ := F_met.ex
    exact F_met.binds (ps := ["tree", "other"]) fun _ _ _ _ _ _ us hl => match us, hl with | [_, _], _ => rfl
  obtain ⟨f__law_next, fd__law_next, F__law_next, a__law_next⟩ := T.d__law_next
  have m__law_next := PySem.W.mg_of Y G a__law_next
  have b__law_next : Binds K fd__law_next ["_law_deal"] [] := by
    obtain ⟨oc, od, kV, doc, pm, an, cdv, ct, osl, rfl, lk, hc⟩ := F__law_next.ex
    exact F__law_next.binds (ps := ["_law_deal"]) fun _ _ _ _ _ _ us hl => match us, hl with | [_], _ => rfl
  obtain ⟨f__law_place, fd__law_place, F__law_place, a__law_place⟩ := T.d__law_place
  have m__law_place := PySem.W.mg_of Y G a__law_place
  have b__law_place : Binds K fd__law_place ["_law_deal"] [] := by
    obtain ⟨oc, od, kV, doc, pm, an, cdv, ct, osl, rfl, lk, hc⟩ := F__law_place.ex
    exact F__law_place.binds (ps := ["_law_deal"]) fun _ _ _ _ _ _ us hl => match us, hl with | [_], _ => rfl
  obtain ⟨f__law_cell_at, fd__law_cell_at, F__law_cell_at, a__law_cell_at⟩ := T.d__law_cell_at
  have m__law_cell_at := PySem.W.mg_of Y G a__law_cell_at
  have b__law_cell_at : Binds K fd__law_cell_at ["_law_script", "_law_k"] [] := by
    obtain ⟨oc, od, kV, doc, pm, an, cdv, ct, osl, rfl, lk, hc⟩ := F__law_cell_at.ex
    exact F__law_cell_at.binds (ps := ["_law_script", "_law_k"]) fun _ _ _ _ _ _ us hl => match us, hl with | [_, _], _ => rfl
  obtain ⟨f__law_kind, fd__law_kind, F__law_kind, a__law_kind⟩ := T.d__law_kind
  have m__law_kind := PySem.W.mg_of Y G a__law_kind
  have b__law_kind : Binds K fd__law_kind ["_law_cell", "_law_room"] [] := by
    obtain ⟨oc, od, kV, doc, pm, an, cdv, ct, osl, rfl, lk, hc⟩ := F__law_kind.ex
    exact F__law_kind.binds (ps := ["_law_cell", "_law_room"]) fun _ _ _ _ _ _ us hl => match us, hl with | [_, _], _ => rfl
  obtain ⟨f__law_leaf, fd__law_leaf, F__law_leaf, a__law_leaf⟩ := T.d__law_leaf
  have m__law_leaf := PySem.W.mg_of Y G a__law_leaf
  have b__law_leaf : Binds K fd__law_leaf ["_law_place_here", "_law_cell"] [] := by
    obtain ⟨oc, od, kV, doc, pm, an, cdv, ct, osl, rfl, lk, hc⟩ := F__law_leaf.ex
    exact F__law_leaf.binds (ps := ["_law_place_here", "_law_cell"]) fun _ _ _ _ _ _ us hl => match us, hl with | [_, _], _ => rfl
  obtain ⟨f__law_made, fd__law_made, F__law_made, a__law_made⟩ := T.d__law_made
  have m__law_made := PySem.W.mg_of Y G a__law_made
  have b__law_made : Binds K fd__law_made ["_law_deal", "_law_room"] [] := by
    obtain ⟨oc, od, kV, doc, pm, an, cdv, ct, osl, rfl, lk, hc⟩ := F__law_made.ex
    exact F__law_made.binds (ps := ["_law_deal", "_law_room"]) fun _ _ _ _ _ _ us hl => match us, hl with | [_, _], _ => rfl
  obtain ⟨f__law_program, fd__law_program, F__law_program, a__law_program⟩ := T.d__law_program
  have m__law_program := PySem.W.mg_of Y G a__law_program
  have b__law_program : Binds K fd__law_program ["_law_script"] [] := by
    obtain ⟨oc, od, kV, doc, pm, an, cdv, ct, osl, rfl, lk, hc⟩ := F__law_program.ex
    exact F__law_program.binds (ps := ["_law_script"]) fun _ _ _ _ _ _ us hl => match us, hl with | [_], _ => rfl
  obtain ⟨f__law_loose, fd__law_loose, F__law_loose, a__law_loose⟩ := T.d__law_loose
  have m__law_loose := PySem.W.mg_of Y G a__law_loose
  have b__law_loose : Binds K fd__law_loose ["_law_thing", "_law_at", "_law_keep_here"] [] := by
    obtain ⟨oc, od, kV, doc, pm, an, cdv, ct, osl, rfl, lk, hc⟩ := F__law_loose.ex
    exact F__law_loose.binds (ps := ["_law_thing", "_law_at", "_law_keep_here"]) fun _ _ _ _ _ _ us hl => match us, hl with | [_, _, _], _ => rfl
  obtain ⟨f__law_open, fd__law_open, F__law_open, a__law_open⟩ := T.d__law_open
  have m__law_open := PySem.W.mg_of Y G a__law_open
  have b__law_open : Binds K fd__law_open ["_law_thing", "_law_at", "_law_keep_here", "_law_free", "_law_some"] [] := by
    obtain ⟨oc, od, kV, doc, pm, an, cdv, ct, osl, rfl, lk, hc⟩ := F__law_open.ex
    exact F__law_open.binds (ps := ["_law_thing", "_law_at", "_law_keep_here", "_law_free", "_law_some"]) fun _ _ _ _ _ _ us hl => match us, hl with | [_, _, _, _, _], _ => rfl
  obtain ⟨f__law_keep, fd__law_keep, F__law_keep, a__law_keep⟩ := T.d__law_keep
  have m__law_keep := PySem.W.mg_of Y G a__law_keep
  have b__law_keep : Binds K fd__law_keep ["_law_script", "_law_many", "_law_turn"] [] := by
    obtain ⟨oc, od, kV, doc, pm, an, cdv, ct, osl, rfl, lk, hc⟩ := F__law_keep.ex
    exact F__law_keep.binds (ps := ["_law_script", "_law_many", "_law_turn"]) fun _ _ _ _ _ _ us hl => match us, hl with | [_, _, _], _ => rfl
  refine ⟨fdL, ?_, fun base YB GB => ?_⟩
  · obtain ⟨oc, od, kV, doc, pm, an, cdv, ct, osl, rfl, lk, hc⟩ := FL.ex
    exact fun s v => .of_eq rfl
  have c_kinds_in : Cal l.prog w K mg base "kinds_in" ["kind"] 1 (spKi K) := ⟨⟨f_kinds_in, fd_kinds_in, ok_ki F_kinds_in X, b_kinds_in, F_kinds_in.kp, m_kinds_in⟩⟩
  have c_with_kinds : Cal l.prog w K mg base "with_kinds" ["kind", "some"] 1 (spWk K) := ⟨⟨f_with_kinds, fd_with_kinds, ok_wk F_with_kinds X, b_with_kinds, F_with_kinds.kp, m_with_kinds⟩⟩
  have c_looser : Cal l.prog w K mg base "looser" ["kind", "other"] 10 (spLooser K 9) := cal_recL (sp := spLooser K) (fun n => n + 1) b_looser F_looser.kp m_looser no_looser (fun n ih => ok_looser F_looser X m_UNTOLD k_UNTOLD c_kinds_in ih) 9
  have c_form : Cal l.prog w K mg base "form" ["word"] 1 (spForm K) := ⟨⟨f_form, fd_form, ok_form F_form m_FORMS k_FORMS, b_form, F_form.kp, m_form⟩⟩
  have c_indexes : Cal l.prog w K mg base "indexes" ["tree", "sort"] 2 (spIndexes K) := ⟨⟨f_indexes, fd_indexes, ok_indexes F_indexes X c_form, b_indexes, F_indexes.kp, m_indexes⟩⟩
  have c_parts : Cal l.prog w K mg base "parts" ["tree"] 3 (spParts K) := ⟨⟨f_parts, fd_parts, ok_parts F_parts X c_indexes, b_parts, F_parts.kp, m_parts⟩⟩
  have c_written : Cal l.prog w K mg base "written" ["tree"] 3 (spWr K) := ⟨⟨f_written, fd_written, ok_Wr F_written X c_indexes, b_written, F_written.kp, m_written⟩⟩
  have c_exchanged : Cal l.prog w K mg base "exchanged" ["tree", "spots", "some"] 1 (spEx K) := ⟨⟨f_exchanged, fd_exchanged, ok_ex F_exchanged X, b_exchanged, F_exchanged.kp, m_exchanged⟩⟩
  have c_with_parts : Cal l.prog w K mg base "with_parts" ["tree", "some"] 3 (spWp K) := ⟨⟨f_with_parts, fd_with_parts, ok_Wp F_with_parts X c_indexes c_exchanged, b_with_parts, F_with_parts.kp, m_with_parts⟩⟩
  have c_with_written : Cal l.prog w K mg base "with_written" ["tree", "some"] 3 (spWw K) := ⟨⟨f_with_written, fd_with_written, ok_Ww F_with_written X c_indexes c_exchanged, b_with_written, F_with_written.kp, m_with_written⟩⟩
  have c_own_things : Cal l.prog w K mg base "own_things" ["tree"] 4 (spOt K) := ⟨⟨f_own_things, fd_own_things, ok_Ot (m := 0) F_own_things X m_OWN_SORTS k_OWN_SORTS c_form c_parts, b_own_things, F_own_things.kp, m_own_things⟩⟩
  have c_first_unlike : Cal l.prog w K mg base "first_unlike" ["tree", "other"] 15 (spFu K 11) := cal_recL (sp := spFu K) (fun n => n + 4) b_first_unlike F_first_unlike.kp m_first_unlike no_Fu (fun n ih => ok_Fu F_first_unlike X c_own_things c_parts ih) 11
  have c_all_looser : Cal l.prog w K mg base "all_looser" ["tree", "other"] 21 (spAl K 11) := cal_recL (sp := spAl K) (fun n => n + 10) b_all_looser F_all_looser.kp m_all_looser no_Al (fun n ih => ok_Al F_all_looser X c_written c_parts c_looser ih) 11
  have c_looser_tree : Cal l.prog w K mg base "looser_tree" ["tree", "other"] 22 (spLr K) := ⟨⟨f_looser_tree, fd_looser_tree, ok_Lr (m := 0) F_looser_tree X c_first_unlike c_all_looser, b_looser_tree, F_looser_tree.kp, m_looser_tree⟩⟩
  have c_steps : Cal l.prog w K mg base "steps" ["kind"] 1 (spSteps K) := ⟨⟨f_steps, fd_steps, ok_steps F_steps m_STEPS k_STEPS, b_steps, F_steps.kp, m_steps⟩⟩
  have c_parting : Cal l.prog w K mg base "parting" ["kind", "other"] 9 (spParting K 8) := cal_recL (sp := spParting K) (fun n => n + 1) b_parting F_parting.kp m_parting no_parting (fun n ih => ok_parting F_parting X m_UNTOLD k_UNTOLD c_steps c_kinds_in ih) 8
  have c_join : Cal l.prog w K mg base "join" ["kind", "other"] 10 (spJoin K 9) := cal_recL (sp := spJoin K) (fun n => n + 1) b_join F_join.kp m_join no_join (fun n ih => ok_join F_join X m_UNTOLD k_UNTOLD c_kinds_in c_with_kinds ih) 9
  have c_same : Cal l.prog w K mg base "same" ["kind", "other"] 10 (spSame K) := ⟨⟨f_same, fd_same, ok_same (m := 0) F_same X c_parting, b_same, F_same.kp, m_same⟩⟩
  have c_both_told : Cal l.prog w K mg base "both_told" ["kind", "other"] 9 (spBoth K 8) := cal_recL (sp := spBoth K) (fun n => n + 1) b_both_told F_both_told.kp m_both_told no_both (fun n ih => ok_both F_both_told X m_UNTOLD k_UNTOLD c_kinds_in c_with_kinds ih) 8
  have c_meet : Cal l.prog w K mg base "meet" ["kind", "other"] 11 (spMeet K) := ⟨⟨f_meet, fd_meet, ok_meet (m := 0) F_meet X c_same c_both_told, b_meet, F_meet.kp, m_meet⟩⟩
  have h_both : ∀ f' sp, (∃ op, Two K f_join f_meet f' op ∧ sp = spB K op) → CalA l.prog w K mg base f' ["kind", "other"] 11 sp := by
    rintro f' sp ⟨op, h, rfl⟩
    rcases h with ⟨rfl, rfl⟩ | ⟨rfl, rfl⟩
    · obtain ⟨g, gd, G, b, kp, mm⟩ := c_join.ex
      cases (mm.symm.trans m_join)
      exact ⟨⟨gd, (G.mono (by omega)).imp fun vs H Q E h => by
        obtain ⟨x, y, a, b, e, rx, ry, wa, wb, d, pn, q⟩ := h
        exact ⟨x, y, a, b, e, rx, ry, wf_ok wa, wf_ok wb, by omega, q⟩, b, kp⟩⟩
    · obtain ⟨g, gd, G, b, kp, mm⟩ := c_meet.ex
      cases (mm.symm.trans m_meet)
      exact ⟨⟨gd, G.imp fun vs H Q E h => by
        obtain ⟨x, y, a, b, e, rx, ry, wa, wb, d, pn, q⟩ := h
        refine ⟨x, y, a, b, e, rx, ry, wa, wb, d, fun v H' o r => q v H' o ?_⟩
        have em : Kn.meet a b = some (a.both b) := by unfold Kn.meet; rw [pn]; rfl
        rw [em] at r
        exact r, b, kp⟩⟩
  have c_with_both : Cal l.prog w K mg base "with_both" ["tree", "other", "both"] 22 (spWb K f_join f_meet 11) := cal_recL (sp := spWb K f_join f_meet) (fun n => n + 11) b_with_both F_with_both.kp m_with_both no_Wb (fun n ih => ok_Wb F_with_both X h_both c_written c_parts c_with_parts c_with_written ih) 11
  have c_need_alike : Cal l.prog w K mg base "need_alike" ["tree", "other"] 16 (spNa K) := ⟨⟨f_need_alike, fd_need_alike, ok_Na (m := 0) F_need_alike X c_first_unlike, b_need_alike, F_need_alike.kp, m_need_alike⟩⟩
  have c_joined : Cal l.prog w K mg base "joined" ["tree", "other"] 23 (spJd K Kn.join) := ⟨⟨f_joined, fd_joined, ok_Jd (m := 0) F_joined X m_join c_need_alike c_with_both, b_joined, F_joined.kp, m_joined⟩⟩
  have c_met : Cal l.prog w K mg base "met" ["tree", "other"] 23 (spJd K Kn.both) := ⟨⟨f_met, fd_met, ok_Md (m := 0) F_met X m_meet c_need_alike c_with_both, b_met, F_met.kp, m_met⟩⟩
  have c__law_next : Cal l.prog w K mg base "_law_next" ["_law_deal"] 1 (spNext K) := ⟨⟨f__law_next, fd__law_next, ok_next F__law_next X, b__law_next, F__law_next.kp, m__law_next⟩⟩
  have c__law_place : Cal l.prog w K mg base "_law_place" ["_law_deal"] 1 (spPlace K) := ⟨⟨f__law_place, fd__law_place, ok_place F__law_place X, b__law_place, F__law_place.kp, m__law_place⟩⟩
  have c__law_cell_at : Cal l.prog w K mg base "_law_cell_at" ["_law_script", "_law_k"] 1 (spCell K) := ⟨⟨f__law_cell_at, fd__law_cell_at, ok_cell F__law_cell_at X, b__law_cell_at, F__law_cell_at.kp, m__law_cell_at⟩⟩
  have c__law_kind : Cal l.prog w K mg base "_law_kind" ["_law_cell", "_law_room"] 8 (spKind K 7) := cal_recL (sp := spKind K) (fun n => n + 1) b__law_kind F__law_kind.kp m__law_kind no_Kind (fun n ih => ok_Kind F__law_kind X  ih) 7
  have c__law_leaf : Cal l.prog w K mg base "_law_leaf" ["_law_place_here", "_law_cell"] 1 (spLeaf K) := ⟨⟨f__law_leaf, fd__law_leaf, ok_leaf F__law_leaf X, b__law_leaf, F__law_leaf.kp, m__law_leaf⟩⟩
  have c__law_made : Cal l.prog w K mg base "_law_made" ["_law_deal", "_law_room"] 17 (spMade K 9) := cal_recL (sp := spMade K) (fun n => n + 8) b__law_made F__law_made.kp m__law_made no_made (fun n ih => ok_made F__law_made X c__law_next c__law_place c__law_leaf c__law_kind ih) 9
  have c__law_program : Cal l.prog w K mg base "_law_program" ["_law_script"] 18 (spProg K) := ⟨⟨f__law_program, fd__law_program, ok_prog (m := 0) F__law_program X c__law_cell_at c__law_place c__law_kind c__law_made, b__law_program, F__law_program.kp, m__law_program⟩⟩
  have c__law_loose : Cal l.prog w K mg base "_law_loose" ["_law_thing", "_law_at", "_law_keep_here"] 30 (spLz K 30) := cal_recL (sp := spLz K) (fun n => n + 0) b__law_loose F__law_loose.kp m__law_loose no_lz (fun n ih => ok_lz F__law_loose X  ih) 30
  have c__law_open : Cal l.prog w K mg base "_law_open" ["_law_thing", "_law_at", "_law_keep_here", "_law_free", "_law_some"] 30 (spOp K 30) := cal_recL (sp := spOp K) (fun n => n + 0) b__law_open F__law_open.kp m__law_open no_op (fun n ih => ok_op F__law_open X  ih) 30
  have c__law_keep : Cal l.prog w K mg base "_law_keep" ["_law_script", "_law_many", "_law_turn"] 2 (spKp K) := ⟨⟨f__law_keep, fd__law_keep, ok_kp (n := 0) F__law_keep X c__law_cell_at, b__law_keep, F__law_keep.kp, m__law_keep⟩⟩
  exact ok_law (m := 0) FL X c__law_program c__law_loose c__law_open c__law_keep c_joined c_met c_looser_tree
theorem walk {l : PySem.W.OpenLaw} {q : Program} {loose : List Str} {XP : (Str → Option Value) → Heap → Prop} {YP : World → Heap → Prop} {d : DefRec} {K : Params → PySem.W.Frag} (hn : l.most = some 63) (hdf : d.params.defaults = [])
    (hY : ∀ (w : World) (h : Heap), YP w h → (K w.params).In h)
    (F : ∀ (w : World) (mg : Str → Option Value) (fa : Addr) (h : Heap), (K w.params).In h → h.Ns mainGlobals mg → mg d.name = some (.ref fa) →
      ∃ fd : FuncData, (∀ (s : Shared) (u : Value), BindsTo s fd ⟨[u], []⟩ [("_law_script", u)]) ∧ ∀ base : Heap, (K w.params).In base → base.Ns mainGlobals mg → FnOk l.prog w (K w.params) mg base CX0 31 fa fd ["_law_script"] (spLaw (K w.params))) :
    PySem.W.WalkO q loose XP YP l.row.toRowW d [] (fun f vs => PySem.call f vs) :=
  L2.walk_of (n := 63) (k := 31) (x := "_law_script") (CX := fun _ => CX0) (sp := fun w => spLaw (K w.params)) hn (by decide) hdf ⟨rfl, by decide, by decide⟩ hY F (fun _ _ a ns hl _ hS => ⟨a, ns, rfl, hS, hl, fun _ => rfl⟩) fun _ _ _ _ _ z => z
end L2.K81

end
section
set_option Elab.async false
set_option linter.all false
set_option maxRecDepth 100000
open PySem PySem.W PyProof.Rows
noncomputable def PySem.W.Fast.tw1543997207113481468 : Nat := 0
noncomputable def PySem.W.Fast.tw17459486568771769908 : Nat := 0
noncomputable def PySem.W.Fast.tw14231251006369092537 : Nat := 0
noncomputable def PySem.W.Fast.tw10635756979591250440 : Nat := 0
noncomputable def PySem.W.Fast.tw7581518434429278585 : Nat := 0
noncomputable def PySem.W.Fast.tw15252239561788193954 : Nat := 0
noncomputable def PySem.W.Fast.tw539926227521784459 : Nat := 0
noncomputable def PySem.W.Fast.tw12012921922176539558 : Nat := 0
noncomputable def PySem.W.Fast.tw4784878780095329831 : Nat := 0
set_option maxRecDepth 100000 in
set_option maxHeartbeats 0 in
theorem PySem.Challenge.cw_blamewise_k81_looser_joined_met_holds : PySem.Challenge.rw_blamewise_k81_looser_joined_met.Holds := by
  w_on; o_law; k_head; (case hw => w_witness2)
  k_fill
  refine L2.K81.walk (l := PySem.Challenge.rw_blamewise_k81_looser_joined_met) rfl rfl (fun w h Y => PySem.W.kIn_of Y) ?F
  case F =>
    intro w mg fa h KX G hmg
    have T : L2.K81.Txt (L2.KOf KX) := by
      dsimp only [L2.KOf]
      refine' L2.K81.Txt.mk  ?_ ?_ ?_ ?_ ?_ ?_ ?_ ?_ ?_ ?_ ?_ ?_ ?_ ?_ ?_ ?_ ?_ ?_ ?_ ?_ ?_ ?_ ?_ ?_ ?_ ?_ ?_ ?_ ?_ ?_ ?_ ?_ ?_ ?_ ?_ ?t_UNTOLD ?t_OWN_SORTS ?b_FORMS ?b_STEPS ?_ ?_ ?_ ?_ ?_ ?_ ?_ ?_ ?_ ?_ ?_
      (case t_UNTOLD => refine' L2.K81.tup_UNTOLD ?a ?l; (case a => k_is); (case l => k_is))
      (case t_OWN_SORTS => refine' L2.K81.tup_OWN_SORTS ?a ?l; (case a => k_is); (case l => k_is))
      (case b_FORMS => refine' L2.K81.tab_FORMS ?a ?t; (case a => k_is); (case t => kernel_rfl))
      (case b_STEPS => refine' L2.K81.tab_STEPS ?a ?t; (case a => k_is); (case t => kernel_rfl))
      all_goals first | (refine' L2.K81.here_mk ?a ?l ?c ?k; (case a => k_is); (case l => k_is); (case c => k_is); (case k => k_is)) | k_is
    exact L2.K81.all_mk KX G hmg T

end
