import PyProof.Rows.All
import Wide.All
import OpenK.AllK
import Wide.FinOn
import Lean
import PyProof.EqAt
import PyProof.EqKinds
import PyProof.TupleCall
import KE.KTabLook
import KE.LcSums
import PyProof.ListMulRoad
import KE.KEqDict
import PySem.Challenge.RW_blamewise_k31_taken_for_a_kind
-- CHANGE: your row's module here, as the last of these rows
set_option Elab.async false
set_option linter.all false
set_option maxRecDepth 100000
/-! THE HAND LAYER, for ints, bools, texts, own classes, LISTS and tuples (index, slices, in, append, pop ..), calls, loops. Paste it whole ahead of your own text; what your proof does not reach may be deleted. -/
namespace L2
open PySem PySem.Spec PyProof.Rows

/-- a key: an int or a str -/
noncomputable abbrev Key := Sum Int Str
noncomputable def keyIs : Key → Value → Bool
  | .inl k, v => Value.isInt k v
  | .inr x, v => Value.isStrOf x v
noncomputable def keyH (w : World) : Key → Int
  | .inl k => hashInt k
  | .inr x => hashStr w x
theorem keyIs_shape : ∀ {k : Key} {v : Value}, keyIs k v = true → (∃ i t, k = Sum.inl i ∧ v = Value.int i t) ∨ (∃ x t, k = Sum.inr x ∧ v = Value.str x t)
  | .inl i, v, h => by
    obtain ⟨t, e⟩ := Value.isInt_shape (k := i) (v := v) h
    exact .inl ⟨i, t, rfl, e⟩
  | .inr x, v, h => by
    obtain ⟨t, e⟩ := Value.isStrOf_shape (x := x) (v := v) h
    exact .inr ⟨x, t, rfl, e⟩
theorem keyIs_int (i : Int) (t : Tok) : keyIs (.inl i) (.int i t) = true := by simp [keyIs, Value.isInt]
theorem keyIs_str (x : Str) (t : Tok) : keyIs (.inr x) (.str x t) = true := by simp [keyIs, Value.isStrOf]
theorem key_ll (a b : Int) : decide ((Sum.inl a : Key) = Sum.inl b) = (a == b) := by
  by_cases e : a = b
  · subst e; simp
  · have h : ¬ (Sum.inl a : Key) = Sum.inl b := fun q => e (Sum.inl.inj q)
    rw [decide_eq_false h]
    exact (beq_eq_false_iff_ne.mpr e).symm
theorem key_rr (a b : Str) : decide ((Sum.inr a : Key) = Sum.inr b) = decide (a = b) := by
  by_cases e : a = b
  · subst e; simp
  · have h : ¬ (Sum.inr a : Key) = Sum.inr b := fun q => e (Sum.inr.inj q)
    rw [decide_eq_false h, decide_eq_false e]
theorem key_lr (a : Int) (b : Str) : decide ((Sum.inl a : Key) = Sum.inr b) = false := decide_eq_false (fun q => nomatch q)
theorem key_rl (a : Str) (b : Int) : decide ((Sum.inr a : Key) = Sum.inl b) = false := decide_eq_false (fun q => nomatch q)

noncomputable def mixKind (prog : Program) (w : World) : PySem.KeyKind prog w Key where
  is := keyIs
  hash := keyH w
  inj := fun v a b ha hb => by
    rcases keyIs_shape ha with ⟨i, t, rfl, rfl⟩ | ⟨x, t, rfl, rfl⟩
    · rcases keyIs_shape hb with ⟨j, u, rfl, e⟩ | ⟨y, u, rfl, e⟩
      · injection e with e1 _; rw [e1]
      · exact nomatch e
    · rcases keyIs_shape hb with ⟨j, u, rfl, e⟩ | ⟨y, u, rfl, e⟩
      · exact nomatch e
      · injection e with e1 _; rw [e1]
  byValue := fun k v h => by
    rcases keyIs_shape h with ⟨i, t, rfl, rfl⟩ | ⟨x, t, rfl, rfl⟩ <;> rfl
  pyHash := fun hv h => by
    rcases keyIs_shape hv with ⟨i, t, rfl, rfl⟩ | ⟨x, t, rfl, rfl⟩
    · exact wpAny_pyHash_int h
    · exact wpAny_pyHash_str h
  eqBool := fun hu hv h => by
    rcases keyIs_shape hu with ⟨i, t, rfl, rfl⟩ | ⟨x, t, rfl, rfl⟩
    · rcases keyIs_shape hv with ⟨j, u, rfl, rfl⟩ | ⟨y, u, rfl, rfl⟩
      · rw [key_ll] at h; exact wpAny_eqBool_int h
      · rw [key_lr] at h; exact SeqAt.EqAt.int_str i t y u _ _ _ _ h
    · rcases keyIs_shape hv with ⟨j, u, rfl, rfl⟩ | ⟨y, u, rfl, rfl⟩
      · rw [key_rl] at h; exact SeqAt.EqAt.str_int x t j u _ _ _ _ h
      · rw [key_rr] at h; exact wpAny_eqBool_str h
  «strs» := fun k x t v h => by
    rcases keyIs_shape h with ⟨i, u, rfl, e⟩ | ⟨y, u, rfl, e⟩
    · exact nomatch e
    · injection e with e1 _
      subst e1
      cases v <;> rfl

theorem mixKind_int (prog : Program) (w : World) (i : Int) (t : Tok) : (mixKind prog w).is (.inl i) (.int i t) = true := keyIs_int i t
theorem mixKind_str (prog : Program) (w : World) (x : Str) (t : Tok) : (mixKind prog w).is (.inr x) (.str x t) = true := keyIs_str x t
end L2

namespace L2
open PySem PySem.Spec PyProof.Rows

/-- a value, without the heap -/
inductive V where
  | non | bl (b : Bool) | int (i : Int) | str (x : Str) | byt (b : Array UInt8) | flt (b : UInt64) | ref (a : Addr) | ty (n : String)
  deriving DecidableEq

noncomputable def RelV : V → Value → Prop
  | .non, u => u = Value.none
  | .bl b, u => u = Value.bool b
  | .int i, u => ∃ t, u = Value.int i t
  | .str x, u => ∃ t, u = Value.str x t
  | .byt b, u => ∃ t, u = Value.bytes b t
  | .flt b, u => ∃ t, u = Value.float b t
  | .ref a, u => u = Value.ref a
  | .ty n, u => u = Value.type n

noncomputable abbrev Vals : List V → List Value → Prop := Paired RelV
theorem Vals.length {xs : List V} {us : List Value} (r : Vals xs us) : xs.length = us.length := Paired.length r
theorem Vals.get : ∀ {xs : List V} {us : List Value} {i : Nat} {x : V}, Vals xs us → xs[i]? = some x → ∃ u, us[i]? = some u ∧ RelV x u
  | _, _, _, _, .nil, e => by simp at e
  | _, _, 0, _, .cons r _, e => by simp at e; subst e; exact ⟨_, rfl, r⟩
  | _, _, i + 1, x, .cons _ t, e => by
    obtain ⟨u, h1, h2⟩ := Vals.get (i := i) (x := x) t (by simpa using e)
    exact ⟨u, by simpa using h1, h2⟩
theorem Vals.append : ∀ {xs ys : List V} {us ws : List Value}, Vals xs us → Vals ys ws → Vals (xs ++ ys) (us ++ ws)
  | _, _, _, _, .nil, s => s
  | _, _, _, _, .cons r t, s => .cons r (Vals.append t s)
theorem Vals.take : ∀ {xs : List V} {us : List Value} (n : Nat), Vals xs us → Vals (xs.take n) (us.take n)
  | _, _, 0, _ => .nil
  | _, _, _ + 1, .nil => .nil
  | _, _, n + 1, .cons r t => .cons r (Vals.take n t)
theorem Vals.drop : ∀ {xs : List V} {us : List Value} (n : Nat), Vals xs us → Vals (xs.drop n) (us.drop n)
  | _, _, 0, r => r
  | _, _, _ + 1, .nil => .nil
  | _, _, n + 1, .cons _ t => Vals.drop n t
noncomputable def RelO : Option V → Option Value → Prop
  | some v, some u => RelV v u
  | none, none => True
  | _, _ => False
noncomputable def KV {κ : Type} : List (κ × V) → List (κ × Value) → Prop := Paired fun (p : κ × V) (q : κ × Value) => p.1 = q.1 ∧ RelV p.2 q.2

/-- a key of a dict (00_mix): an int or a text -/
noncomputable def kV : Key → V
  | .inl i => .int i
  | .inr x => .str x

/-- what stands at a tracked address -/
inductive HO where
  /-- a list -/
  | lst (xs : List V)
  /-- a tuple (never changes) -/
  | tup (xs : List V)
  /-- a dict whose keys are ints and texts; one whose keys are tuples of ints and texts (the empty one is both) -/
  | dK (kvs : List (Key × V)) | dT (kvs : List (List Key × V))
  /-- a set of ints: its members, its size -/
  | set (S : Int → Bool) (n : Nat)
  /-- an instance of the class at C, its dict at dx, its attributes -/
  | ins (C dx : Addr) (fs : List (Str × V))
  /-- the dict of the instance at x -/
  | own (x : Addr)
  /-- the dict of an exception -/
  | xd (fs : List (Str × V))
  /-- a bound method, f of x -/
  | met (f x : Addr)
  /-- a range object lo, lo + 1, .. below hi -/
  | rng (lo hi : Int)
  /-- a thing that is known to the object (the script; a dict while a loop walks it): read, never written while it is so -/
  | frz (o : Obj) (u : HO)
  /-- a code object's table -/
  | tbl (ps : Array Value)
  /-- any other thing, by what is true of its one object (a def of one's own: SetO a S n := HO.ext fun h => ..) -/
  | ext (φ : Heap → Prop)

noncomputable abbrev Hp := Addr → Option HO
noncomputable def upd (H : Hp) (a : Addr) (o : HO) : Hp := fun b => if b = a then some o else H b
theorem upd_same {H : Hp} {a : Addr} {o : HO} : upd H a o a = some o := by unfold upd; rw [if_pos rfl]
theorem upd_ne {H : Hp} {a b : Addr} {o : HO} (h : b ≠ a) : upd H a o b = H b := by unfold upd; rw [if_neg h]
theorem upd_upd {H : Hp} {a : Addr} {o u : HO} : upd (upd H a o) a u = upd H a u := by
  funext b; unfold upd; split <;> rfl
/-- two objects of different content stand apart -/
theorem ne_of {H : Hp} {a b : Addr} {o u : HO} (h : H a = some o) (h' : H b = some u) (d : o ≠ u) : a ≠ b := by
  intro e; subst e; rw [h] at h'; exact d (Option.some.inj h')
theorem ne_of_none {H : Hp} {a b : Addr} {o : HO} (h : H a = some o) (h' : H b = none) : a ≠ b := by
  intro e; subst e; rw [h] at h'; cases h'

section
variable (P : Program) (w : World)
noncomputable def ObjOk (H : Hp) (h : Heap) (a : Addr) : HO → Prop
  | .lst xs => xs.length ≤ sizeLine ∧ ∃ (its : List Value) (n : Nat), Vals xs its ∧ h.get? a = some { cls := .type "list", data := .seq its.toArray n }
  | .tup xs => xs.length ≤ sizeLine ∧ ∃ its : List Value, Vals xs its ∧ IsTup h a its.toArray
  | .dK kvs => kvs.length ≤ sizeLine ∧ (a == sysModules) = false ∧ ∃ vs, KV kvs vs ∧ h.DictOf (mixKind P w) a vs
  | .dT kvs => kvs.length ≤ sizeLine ∧ (a == sysModules) = false ∧ ∃ xs : List (List Key × Addr × Value),
      Paired (fun (p : List Key × V) (q : List Key × Addr × Value) => p.1 = q.1 ∧ H q.2.1 = some (.tup (p.1.map kV)) ∧ RelV p.2 q.2.2) kvs xs ∧
      ∃ o es ep, h.get? a = some o ∧ o.ExactDict ∧ o.data = .dict es ep ∧ es.toList = xs.map (entryOfKey (tupleKind (mixKind P w))) ∧ (xs.map (·.1)).Nodup
  | .set S n => h.SetOf (intKind P w) a S n
  | .ins C dx fs => H dx = some (.own a) ∧ fs.length ≤ 1000 ∧ dx ≠ a ∧ h.get? a = some (PySem.W.instObj C dx) ∧
      ∃ mA, h.Ns1 dx mA ∧ (∀ f, RelO (fs.lookup f) (mA f)) ∧ PySem.Within mA (fs.map (·.1))
  | .own _ => ∃ o, h.get? a = some o
  | .xd fs => ∃ mA, h.Ns1 a mA ∧ ∀ f, RelO (fs.lookup f) (mA f)
  | .rng lo hi => ∃ t u v, h.get? a = some { cls := .type "range", data := .fields #[.int lo t, .int hi u, .int 1 v] }
  | .frz o u => h.get? a = some o ∧ ObjOk H h a u
  | .tbl ps => h.get? a = some { cls := .none, data := .fields ps }
  | .met f x => h.get? a = some (PySem.W.methodObj (.ref f) (.ref x))
  | .ext φ => φ h ∧ (∃ o, h.get? a = some o) ∧ ∀ h1 h2 : Heap, φ h1 → (∀ o, h1.get? a = some o → h2.get? a = some o) → φ h2
/-- the abstract heap is held -/
noncomputable def HOk (H : Hp) (h : Heap) : Prop := ∀ a o, H a = some o → ObjOk P w H h a o
end

section
variable {P : Program} {w : World} {H H' : Hp} {h h' : Heap} {a : Addr} {o : HO}
theorem ObjOk.lt (x : ObjOk P w H h a o) : a < h.objs.size := by
  cases o with
  | lst xs => obtain ⟨_, _, _, _, e⟩ := x; exact Heap.lt_size e
  | tup xs => obtain ⟨_, _, _, p⟩ := x; exact p.lt
  | dK kvs => obtain ⟨_, _, _, _, o, _, _, e, _⟩ := x; exact Heap.lt_size e
  | dT kvs => obtain ⟨_, _, _, _, o, _, _, e, _⟩ := x; exact Heap.lt_size e
  | set S n => obtain ⟨o, _, _, _, e, _⟩ := x; exact Heap.lt_size e
  | ins C dx fs => obtain ⟨_, _, _, e, _⟩ := x; exact Heap.lt_size e
  | own y => obtain ⟨_, e⟩ := x; exact Heap.lt_size e
  | xd fs => obtain ⟨_, ⟨_, _, _, e, _⟩, _⟩ := x; exact Heap.lt_size e
  | rng lo hi => obtain ⟨_, _, _, e⟩ := x; exact Heap.lt_size e
  | frz ob u => obtain ⟨e, _⟩ := x; exact Heap.lt_size e
  | tbl ps => exact Heap.lt_size (show h.get? a = some _ from x)
  | met f y => exact Heap.lt_size (show h.get? a = some _ from x)
  | ext φ => obtain ⟨_, ⟨_, e⟩, _⟩ := x; exact Heap.lt_size e
theorem Paired.mapP {α β : Type} {F G : α → β → Prop} : ∀ {l₁ : List α} {l₂ : List β}, Paired F l₁ l₂ → (∀ a b, F a b → G a b) → Paired G l₁ l₂
  | _, _, .nil, _ => .nil
  | _, _, .cons r t, f => .cons (f _ _ r) (Paired.mapP t f)
/-- what an object's description leans on: its own object, its own dict, the tuples -/
theorem ObjOk.stay (x : ObjOk P w H h a o) (k : ∀ b u, (b = a ∨ H b = some (.own a)) → h.get? b = some u → h'.get? b = some u)
    (ho : ∀ b, H b = some (.own a) → H' b = some (.own a)) (ht : ∀ b xs, H b = some (.tup xs) → H' b = some (.tup xs)) : ObjOk P w H' h' a o := by
  induction o with
  | lst xs => obtain ⟨z, its, n, r, e⟩ := x; exact ⟨z, its, n, r, k _ _ (.inl rfl) e⟩
  | tup xs => obtain ⟨z, its, r, ob, e, c⟩ := x; exact ⟨z, its, r, ob, k _ _ (.inl rfl) e, c⟩
  | dK kvs => obtain ⟨z, y, vs, r, ob, es, ep, e, c⟩ := x; exact ⟨z, y, vs, r, ob, es, ep, k _ _ (.inl rfl) e, c⟩
  | dT kvs =>
    obtain ⟨z, y, xs, r, ob, es, ep, e, c⟩ := x
    exact ⟨z, y, xs, Paired.mapP r fun p q z => ⟨z.1, ht _ _ z.2.1, z.2.2⟩, ob, es, ep, k _ _ (.inl rfl) e, c⟩
  | set S n => obtain ⟨ob, es, ep, t, e, c⟩ := x; exact ⟨ob, es, ep, t, k _ _ (.inl rfl) e, c⟩
  | ins C dx fs =>
    obtain ⟨d, z, ne, e, mA, ⟨od, es, ep, e2, c⟩, r⟩ := x
    exact ⟨ho _ d, z, ne, k _ _ (.inl rfl) e, mA, ⟨od, es, ep, k _ _ (.inr d) e2, c⟩, r⟩
  | own y => obtain ⟨ob, e⟩ := x; exact ⟨ob, k _ _ (.inl rfl) e⟩
  | xd fs => obtain ⟨mA, ⟨od, es, ep, e, c⟩, r⟩ := x; exact ⟨mA, ⟨od, es, ep, k _ _ (.inl rfl) e, c⟩, r⟩
  | rng lo hi => obtain ⟨t, u, v, e⟩ := x; exact ⟨t, u, v, k _ _ (.inl rfl) e⟩
  | frz ob u ih => obtain ⟨e, q⟩ := x; exact ⟨k _ _ (.inl rfl) e, ih q⟩
  | tbl ps =>
    have e : h.get? a = some { cls := .none, data := .fields ps } := x
    show h'.get? a = some { cls := .none, data := .fields ps }
    exact k a _ (.inl rfl) e
  | met f y =>
    have e : h.get? a = some (PySem.W.methodObj (.ref f) (.ref y)) := x
    show h'.get? a = some (PySem.W.methodObj (.ref f) (.ref y))
    exact k a _ (.inl rfl) e
  | ext φ => obtain ⟨p, ⟨o, e⟩, st⟩ := x; exact ⟨st _ _ p fun o q => k _ _ (.inl rfl) q, ⟨o, k _ _ (.inl rfl) e⟩, st⟩
theorem HOk.lt (x : HOk P w H h) (e : H a = some o) : a < h.objs.size := (x a o e).lt
theorem HOk.fresh (x : HOk P w H h) (e : h.objs.size ≤ a) : H a = none := by
  cases q : H a with
  | none => rfl
  | some u => exact absurd (Nat.lt_of_lt_of_le (x.lt q) e) (Nat.lt_irrefl _)
/-- every object of the heap is kept -/
theorem HOk.kept (x : HOk P w H h) (k : ∀ b u, h.get? b = some u → h'.get? b = some u) : HOk P w H h' := fun a o e =>
  (x a o e).stay (fun b u _ q => k b u q) (fun _ q => q) fun _ _ q => q
/-- a new object is laid and tracked -/
theorem HOk.laid (x : HOk P w H h) (k : ∀ b u, h.get? b = some u → h'.get? b = some u) (hp : h.objs.size ≤ a) (new : ObjOk P w (upd H a o) h' a o) : HOk P w (upd H a o) h' := fun b u e => by
  have hn := x.fresh hp
  by_cases hb : b = a
  · subst hb; rw [upd_same] at e; cases e; exact new
  · rw [upd_ne hb] at e
    exact (x b u e).stay (fun c v _ q => k c v q) (fun c q => by rw [upd_ne (ne_of_none q hn)]; exact q) fun c xs q => by rw [upd_ne (ne_of_none q hn)]; exact q
end

/-- what may be read as u: it is u, or a known u -/
noncomputable def Rd (H : Hp) (a : Addr) (u : HO) : Prop := H a = some u ∨ ∃ o, H a = some (.frz o u)
theorem Rd.ok {P : Program} {w : World} {H : Hp} {h : Heap} {a : Addr} {u : HO} (r : Rd H a u) (x : HOk P w H h) : ObjOk P w H h a u := by
  rcases r with r | ⟨o, r⟩
  · exact x a u r
  · obtain ⟨_, q⟩ := x a _ r
    exact q
/-- what may be written -/
noncomputable def Mut : Option HO → Prop
  | some (.lst _) => True
  | some (.dK _) => True
  | some (.dT _) => True
  | some (.set _ _) => True
  | some (.ins _ _ _) => True
  | some (.ext _) => True
  | _ => False
section
variable {P : Program} {w : World} {H : Hp} {h h' : Heap} {x e : Addr} {o' : HO}
/-- the object at e is changed: x itself, or the dict of the instance x -/
theorem HOk.write (ok : HOk P w H h) (mu : Mut (H x)) (he : e = x ∨ H e = some (.own x)) (k : ∀ b u, b ≠ e → h.get? b = some u → h'.get? b = some u) (heo : ∃ u, h'.get? e = some u)
    (new : ObjOk P w (upd H x o') h' x o') : HOk P w (upd H x o') h' := fun b u q => by
  have nown : ∀ c y, H c = some (.own y) → c ≠ x := fun c y r z => by subst z; rw [r] at mu; exact mu
  have ntup : ∀ c xs, H c = some (.tup xs) → c ≠ x := fun c xs r z => by subst z; rw [r] at mu; exact mu
  by_cases hb : b = x
  · subst hb; rw [upd_same] at q; cases q; exact new
  · rw [upd_ne hb] at q
    by_cases hbe : b = e
    · have q' : H b = some (.own x) := by
        rcases he with z | z
        · exact absurd (hbe.trans z) hb
        · rw [hbe]; exact z
      rw [q] at q'; cases q'
      obtain ⟨v, hv⟩ := heo
      exact ⟨v, by rw [hbe]; exact hv⟩
    · refine (ok b u q).stay (fun c v hc r => k c v ?_ r) (fun c r => by rw [upd_ne (nown c b r)]; exact r) fun c xs r => by rw [upd_ne (ntup c xs r)]; exact r
      rcases hc with rfl | hc
      · exact hbe
      · rintro rfl
        rcases he with z | z
        · exact nown c b hc z
        · rw [hc] at z; cases z; exact hb rfl
end

/-! ### kept unless tracked; of the frames at fs (the callers') the slots may change (an exception that passes writes there); of the records at ex (iterators) nothing is said -/
structure Un (fs ex : List Addr) (H H' : Hp) (h h' : Heap) : Prop where
  keep : ∀ b o, h.get? b = some o → H b = none → b ∉ fs → b ∉ ex → h'.get? b = some o
  slot : ∀ b o, h.get? b = some o → H b = none → b ∈ fs → b ∉ ex → ∃ sl, h'.get? b = some { o with slots := sl }
  free : ∀ b o, h.get? b = some o → H b = none → b ∉ ex → H' b = none
  there : ∀ b o, h.get? b = some o → b ∉ ex → ∃ o', h'.get? b = some o'
  tups : ∀ b xs, H b = some (.tup xs) → H' b = some (.tup xs)
  frzs : ∀ b o u, H b = some (.frz o u) → H' b = some (.frz o u)
  tbls : ∀ b ps, H b = some (.tbl ps) → ∃ more, H' b = some (.tbl (ps ++ more))
section
variable {fs fs' ex ex' : List Addr} {H H1 H2 : Hp} {h h1 h2 h' : Heap} {a x e : Addr} {o : HO}
theorem Un.any (u : Un fs ex H H1 h h1) {b : Addr} {ob : Obj} (q : h.get? b = some ob) (n : H b = none) (hx : b ∉ ex) : ∃ sl, h1.get? b = some { ob with slots := sl } := by
  by_cases hb : b ∈ fs
  · exact u.slot b ob q n hb hx
  · exact ⟨ob.slots, u.keep b ob q n hb hx⟩
theorem Un.kept (k : ∀ b u, h.get? b = some u → h'.get? b = some u) : Un fs ex H H h h' :=
  ⟨fun b ob q _ _ _ => k b ob q, fun b ob q _ _ _ => ⟨ob.slots, k b ob q⟩, fun _ _ _ n _ => n, fun b ob q _ => ⟨ob, k b ob q⟩, fun _ _ q => q, fun _ _ _ q => q, fun _ ps q => ⟨#[], by rw [q]; simp⟩⟩
theorem Un.refl : Un fs ex H H h h := Un.kept fun _ _ q => q
theorem Un.laid (k : ∀ b u, h.get? b = some u → h'.get? b = some u) (hp : h.objs.size ≤ a) (hn : H a = none) : Un fs ex H (upd H a o) h h' where
  keep := fun b u q _ _ _ => k b u q
  slot := fun b u q _ _ _ => ⟨u.slots, k b u q⟩
  free := fun b u q n _ => by rw [upd_ne (Nat.ne_of_lt (Nat.lt_of_lt_of_le (Heap.lt_size q) hp))]; exact n
  there := fun b u q _ => ⟨u, k b u q⟩
  tups := fun b xs q => by rw [upd_ne (ne_of_none q hn)]; exact q
  frzs := fun b u xs q => by rw [upd_ne (ne_of_none q hn)]; exact q
  tbls := fun b ps q => ⟨#[], by rw [upd_ne (ne_of_none q hn), q]; simp⟩
theorem Un.write (mu : Mut (H x)) (he : e = x ∨ H e = some (.own x)) (k : ∀ b u, b ≠ e → h.get? b = some u → h'.get? b = some u) (heo : ∃ u, h'.get? e = some u) : Un fs ex H (upd H x o) h h' := by
  have hx : ∀ b, H b = none → b ≠ x := fun b n z => by subst z; rw [n] at mu; exact mu
  have hb : ∀ b, H b = none → b ≠ e := fun b n z => by
    subst z
    rcases he with r | r
    · exact hx b n r
    · rw [n] at r; cases r
  have hm : ∀ b u, H b = some u → ¬ Mut (some u) → b ≠ x := fun b u q nm z => by subst z; rw [q] at mu; exact nm mu
  refine ⟨fun b u q n _ _ => k b u (hb b n) q, fun b u q n _ _ => ⟨u.slots, k b u (hb b n) q⟩, fun b u q n _ => by rw [upd_ne (hx b n)]; exact n, fun b u q _ => ?_,
    fun b xs q => by rw [upd_ne (hm b _ q fun z => z)]; exact q, fun b u xs q => by rw [upd_ne (hm b _ q fun z => z)]; exact q, fun b ps q => ⟨#[], by rw [upd_ne (hm b _ q fun z => z), q]; simp⟩⟩
  by_cases hbe : b = e
  · subst hbe; exact heo
  · exact ⟨u, k b u hbe q⟩
end

/-! ### the heap without what is tracked -/
noncomputable def trk (h : Heap) (H : Hp) : List Addr := (List.range h.objs.size).filter fun a => (H a).isSome
noncomputable def hidT (h : Heap) (H : Hp) : Heap := PySem.W.hideAll h (trk h H)
theorem hidT_size (h : Heap) (H : Hp) : (hidT h H).objs.size = h.objs.size := PySem.W.hideAll_size _ _
theorem hidT_get {h : Heap} {H : Hp} {b : Addr} {o : Obj} (e : h.get? b = some o) (n : H b = none) : (hidT h H).get? b = some o :=
  PySem.W.hideAll_get _ e fun hm => by
    have q : (H b).isSome = true := (List.mem_filter.mp hm).2
    rw [n] at q; simp at q
theorem of_hidT {h : Heap} {H : Hp} {b : Addr} {o : Obj} (e : (hidT h H).get? b = some o) : h.get? b = some o ∧ H b = none := by
  have e' : h.get? b = some o := PySem.W.of_hideAll (trk h H) e
  refine ⟨e', ?_⟩
  cases q : H b with
  | none => rfl
  | some x =>
    have hm : b ∈ trk h H := List.mem_filter.mpr ⟨List.mem_range.mpr (Heap.lt_size e'), by simp [q]⟩
    have z : (hidT h H).get? b = none := PySem.W.hideAll_none (trk h H) hm
    rw [z] at e; cases e

/-! ### OpenK's ledger, filled with every new object but one -/
noncomputable def allNews (g h : Heap) (L : Addr) : List (Addr × Obj) := (List.range h.objs.size).filterMap fun a => if a = L ∨ (g.get? a).isSome = true then none else (h.get? a).map fun o => (a, o)
noncomputable def rest (g h : Heap) (L d : Addr) : List (Addr × Obj) := (allNews g h L).filter fun p => decide (p.1 ≠ d)
end L2

namespace L2
open PySem PySem.Spec PyProof.Rows

/-- the module's facts, over the base: the heap at the law's entry without what is tracked there -/
structure Mod (K : PySem.W.Frag) (mg : Str → Option Value) (base : Heap) : Prop where
  kin : K.In base
  glob : base.Ns mainGlobals mg
  blt : ∃ mb, base.Ns builtinsNs mb ∧ ∀ x : Str, x ≠ "__name__" → mb x = bootBuiltins x
  nolimit : base.NoLimit

/-- the context: a def's body (or a comprehension's block) running. base: fixed through the whole law; s₀, H₀: the entry; outer: the frames whose slots others may change (a def's callers); stack: all frames that run;
   ex: iterators that were made ahead of the entry and are walked here (a comprehension's); fn: the names whose cells were made at the entry (a def: all; a comprehension's block: its own); calm: not within an except suite; pn: pins that every state bears; xe: what is wanted of an exception that leaves the code -/
structure Cx where
  prog : Program
  w : World
  K : PySem.W.Frag
  mg : Str → Option Value
  base : Heap
  A : Around
  N : List Str
  s₀ : Shared
  H₀ : Hp
  env : Env
  outer : List Env
  stack : List Env
  ex : List Addr
  fn : Str → Bool
  calm : Bool
  pn : List (Addr × Obj)
  xe : Value → Shared → Prop
/-- the callers' frames -/
noncomputable def frs (l : List Env) : List Addr := l.filterMap (·.frame)
noncomputable abbrev Cx.fs (X : Cx) : List Addr := frs X.outer

noncomputable def Vis (sc : Scope) (x : Str) : Prop := sc.names.lookup x = some .local ∨ sc.names.lookup x = some .cell ∨ sc.names.lookup x = some .free
noncomputable def Loc (sc : Scope) (x : Str) : Prop := sc.names.lookup x = some .local ∨ sc.names.lookup x = some .cell
noncomputable def Look (env : Env) (h : Heap) (m : Str → Option Value) (x : Str) (u : Value) : Prop :=
  (env.kindOf x = some .local ∧ m x = some u) ∨ ((env.kindOf x = some .cell ∨ env.kindOf x = some .free) ∧ ∃ c, env.cells.lookup x = some c ∧ h.IsCell c (some u))

structure Cx.Ok (X : Cx) : Prop where
  mod : Mod X.K X.mg X.base
  kind : X.env.scope.kind = .function
  glob : X.env.globals = mainGlobals
  blt : X.env.builtins = builtinsNs
  above : X.s₀.heap.objs.size ≤ X.env.locals
  inj : ∀ x y c, X.env.cells.lookup x = some c → X.env.cells.lookup y = some c → x = y
  has : ∀ x, (X.env.kindOf x = some .cell ∨ X.env.kindOf x = some .free) → ∃ c, X.env.cells.lookup x = some c
  cab : ∀ x c, X.fn x = true → X.env.cells.lookup x = some c → X.s₀.heap.objs.size ≤ c
  hd : X.calm = true → X.A.handled = none
  frames : X.A.frames = some X.stack
  stk : X.stack = X.outer ∨ (X.stack = X.env :: X.outer ∧ X.env.frame = some X.env.locals)
  exf : ∀ b ∈ X.ex, b ≠ X.env.locals ∧ ∀ x c, X.env.cells.lookup x = some c → c ≠ b
  bs : ∀ b o, X.base.get? b = some o → X.s₀.heap.get? b = some o ∧ X.H₀ b = none
  bsz : X.base.objs.size ≤ X.s₀.heap.objs.size
  noex : ∀ b o, X.base.get? b = some o → b ∉ X.ex
  exfs : ∀ b ∈ X.ex, b ∉ X.fs
  funs : X.s₀.heap.FunFrames X.base X.outer
  frf : ∀ b ∈ X.fs, X.H₀ b = none

structure Inv (X : Cx) (pins : List (Addr × Obj)) (σ : List (Option V)) (H : Hp) (s : Shared) : Prop where
  ok : X.Ok
  os : s.os = X.s₀.os
  bare : AllBare s.gens
  base : Un X.fs X.ex X.H₀ H X.s₀.heap s.heap
  loc : ∃ m, s.heap.Ns X.env.locals m ∧ ∀ (i : Nat) (x : Str) (v : V), X.N[i]? = some x → σ[i]? = some (some v) → Vis X.env.scope x → ∃ u, RelV v u ∧ Look X.env s.heap m x u
  cell : ∀ x c, X.env.cells.lookup x = some c → ∃ v, s.heap.IsCell c v
  free : H X.env.locals = none
  freeC : ∀ x c, X.env.cells.lookup x = some c → H c = none
  pin : ∀ p ∈ X.pn ++ pins, s.heap.get? p.1 = some p.2 ∧ H p.1 = none ∧ p.1 ≠ X.env.locals ∧ p.1 ∉ X.fs ∧ ∀ v, p.2.data ≠ .cell v
  hok : HOk X.prog X.w H s.heap
  len : σ.length = X.N.length

section
variable {X : Cx} {pins : List (Addr × Obj)} {σ : List (Option V)} {H H' : Hp} {s : Shared} {h' : Heap}

theorem Cx.Ok.nofr (ok : X.Ok) {b : Addr} {o : Obj} (e : X.base.get? b = some o) : b ∉ X.fs := fun hb => by
  have := (ok.funs.mem hb).1
  rw [e] at this; cases this
theorem Inv.bs (I : Inv X pins σ H s) : ∀ b o, X.base.get? b = some o → s.heap.get? b = some o ∧ H b = none := fun b o e =>
  ⟨I.base.keep b o (I.ok.bs b o e).1 (I.ok.bs b o e).2 (I.ok.nofr e) (I.ok.noex b o e), I.base.free b o (I.ok.bs b o e).1 (I.ok.bs b o e).2 (I.ok.noex b o e)⟩
theorem Inv.bk (I : Inv X pins σ H s) : ∀ b o, X.base.get? b = some o → s.heap.get? b = some o := fun b o e => (I.bs b o e).1
theorem Inv.mod (I : Inv X pins σ H s) : Mod X.K X.mg X.base := I.ok.mod
theorem Inv.kIn (I : Inv X pins σ H s) : X.K.In s.heap := I.ok.mod.kin.keeps I.bk
theorem Inv.lt (I : Inv X pins σ H s) : X.env.locals < s.heap.objs.size := let ⟨_, hn, _⟩ := I.loc; hn.lt
theorem Inv.sz (I : Inv X pins σ H s) : X.s₀.heap.objs.size ≤ s.heap.objs.size := Nat.le_trans I.ok.above (Nat.le_of_lt I.lt)
theorem Inv.nofs (I : Inv X pins σ H s) {a : Addr} (h : s.heap.objs.size ≤ a) : a ∉ X.fs := fun hb => by
  obtain ⟨_, o, ho, _⟩ := I.ok.funs.mem hb
  exact absurd (Nat.lt_of_lt_of_le (Heap.lt_size ho) (Nat.le_trans I.sz h)) (Nat.lt_irrefl _)
theorem Inv.cne (I : Inv X pins σ H s) : ∀ x c, X.env.cells.lookup x = some c → c ≠ X.env.locals := fun x c e z => by
  obtain ⟨v, o, ho, hd⟩ := I.cell x c e
  obtain ⟨m, ⟨o', es, ep, ho', hd', _⟩, _⟩ := I.loc
  rw [z, ho'] at ho; cases ho; rw [hd'] at hd; cases hd
theorem Inv.funs (I : Inv X pins σ H s) : s.heap.FunFrames X.base X.outer := by
  have all : ∀ (l : List Env), (∀ b ∈ frs l, b ∈ X.fs) → X.s₀.heap.FunFrames X.base l → s.heap.FunFrames X.base l := by
    intro l
    induction l with
    | nil => intro _ _; trivial
    | cons env r ih =>
      intro hs hl
      obtain ⟨hk, ⟨L, o, hf, hn, ho, hd⟩, hr⟩ := hl
      have hL : L ∈ X.fs := hs L (by unfold frs; rw [List.filterMap_cons, hf]; exact List.mem_cons_self)
      obtain ⟨sl, e⟩ := I.base.slot L o ho (I.ok.frf L hL) hL fun z => I.ok.exfs L z hL
      exact ⟨hk, ⟨L, _, hf, hn, e, hd⟩, ih (fun b hb => hs b (by unfold frs; rw [List.filterMap_cons, hf]; exact List.mem_cons_of_mem _ hb)) hr⟩
  exact all X.outer (fun _ hb => hb) I.ok.funs

/-- the frames that run, for a call -/
theorem Inv.stack (I : Inv X pins σ H s) : s.heap.FunFrames X.base X.stack := by
  rcases I.ok.stk with e | ⟨e, hf⟩
  · rw [e]; exact I.funs
  · rw [e]
    obtain ⟨m, hn, _⟩ := I.loc
    refine .cons (by rw [I.ok.kind]; decide) hf hn ?_ I.funs
    exact Heap.get?_none_of_le (Nat.le_trans I.ok.bsz I.ok.above)
theorem Inv.stkSub (I : Inv X pins σ H s) : ∀ b ∈ frs X.stack, b ∈ X.env.locals :: X.fs := fun b hb => by
  rcases I.ok.stk with e | ⟨e, hf⟩
  · rw [e] at hb; exact List.mem_cons_of_mem _ hb
  · rw [e] at hb
    unfold frs at hb
    rw [List.filterMap_cons, hf] at hb
    exact hb
theorem Inv.stkFree (I : Inv X pins σ H s) : ∀ b ∈ frs X.stack, H b = none := fun b hb => by
  rcases List.mem_cons.mp (I.stkSub b hb) with e | hb
  · rw [e]; exact I.free
  · obtain ⟨_, o, ho, _⟩ := I.ok.funs.mem hb
    exact I.base.free b o ho (I.ok.frf b hb) fun z => I.ok.exfs b z hb

/-- THE STEP: the untracked objects but the frame and the records at ch are kept (the callers' frames up to slots), the frame's map is kept, the new abstract heap is held -/
theorem Inv.step {g' : Array GenState} {t' : Nat} {d' : Drawn} {ch : List Addr} (I : Inv X pins σ H s)
    (hch : ∀ b ∈ ch, (b ∈ X.ex ∨ X.s₀.heap.objs.size ≤ b) ∧ b ≠ X.env.locals ∧ (∀ x c, X.env.cells.lookup x = some c → c ≠ b) ∧ ∀ p ∈ X.pn ++ pins, p.1 ≠ b)
    (keep : ∀ b o, b ≠ X.env.locals → b ∉ X.fs → b ∉ ch → s.heap.get? b = some o → H b = none → h'.get? b = some o)
    (slot : ∀ b o, b ≠ X.env.locals → b ∈ X.fs → b ∉ ch → s.heap.get? b = some o → H b = none → ∃ sl, h'.get? b = some { o with slots := sl }) (free : ∀ b o, b ∉ ch → s.heap.get? b = some o → H b = none → H' b = none)
    (there : ∀ b o, b ∉ ch → s.heap.get? b = some o → ∃ o', h'.get? b = some o')
    (tups : ∀ b xs, H b = some (.tup xs) → H' b = some (.tup xs)) (frzs : ∀ b o u, H b = some (.frz o u) → H' b = some (.frz o u)) (tbls : ∀ b ps, H b = some (.tbl ps) → ∃ more, H' b = some (.tbl (ps ++ more)))
    (ns : ∀ m, s.heap.Ns X.env.locals m → h'.Ns X.env.locals m) (hok : HOk X.prog X.w H' h') (hg : AllBare g') :
    Inv X pins σ H' { s with heap := h', gens := g', drawn := d', toks := t' } := by
  have neL : ∀ b o, X.s₀.heap.get? b = some o → b ≠ X.env.locals := fun b o e => Nat.ne_of_lt (Nat.lt_of_lt_of_le (Heap.lt_size e) I.ok.above)
  have neC : ∀ b o, X.s₀.heap.get? b = some o → b ∉ X.ex → b ∉ ch := fun b o e hx hb => by
    rcases (hch b hb).1 with z | z
    · exact hx z
    · exact absurd (Nat.lt_of_lt_of_le (Heap.lt_size e) z) (Nat.lt_irrefl _)
  have cellK : ∀ x c, X.env.cells.lookup x = some c → ∀ v, s.heap.IsCell c v → h'.IsCell c v := fun x c e v ⟨o, ho, hd⟩ => by
    have nch : c ∉ ch := fun z => (hch c z).2.2.1 x c e rfl
    by_cases hc : c ∈ X.fs
    · obtain ⟨sl, q⟩ := slot c o (I.cne x c e) hc nch ho (I.freeC x c e)
      exact ⟨_, q, hd⟩
    · exact ⟨o, keep c o (I.cne x c e) hc nch ho (I.freeC x c e), hd⟩
  refine ⟨I.ok, I.os, hg, ⟨fun b o e n hb hx => ?_, fun b o e n hb hx => ?_, fun b o e n hx => ?_, fun b o e hx => ?_, fun b xs e => tups b xs (I.base.tups b xs e), fun b o xs e => frzs b o xs (I.base.frzs b o xs e), fun b ps e => ?_⟩, ?_, fun x c e => ?_, ?_, fun x c e => ?_, fun p hp => ?_, hok, I.len⟩
  · exact keep b o (neL b o e) hb (neC b o e hx) (I.base.keep b o e n hb hx) (I.base.free b o e n hx)
  · obtain ⟨sl, e1⟩ := I.base.slot b o e n hb hx
    obtain ⟨sl', e2⟩ := slot b _ (neL b o e) hb (neC b o e hx) e1 (I.base.free b o e n hx)
    exact ⟨sl', e2⟩
  · obtain ⟨o', e1⟩ := I.base.there b o e hx
    exact free b o' (neC b o e hx) e1 (I.base.free b o e n hx)
  · obtain ⟨o', e1⟩ := I.base.there b o e hx
    exact there b o' (neC b o e hx) e1
  · obtain ⟨m1, e1⟩ := I.base.tbls b ps e
    obtain ⟨m2, e2⟩ := tbls b _ e1
    exact ⟨m1 ++ m2, by rw [e2, Array.append_assoc]⟩
  · obtain ⟨m, hn, hl⟩ := I.loc
    refine ⟨m, ns m hn, fun i x v e1 e2 e3 => ?_⟩
    obtain ⟨u, r, l⟩ := hl i x v e1 e2 e3
    refine ⟨u, r, ?_⟩
    rcases l with l | ⟨k, c, e, z⟩
    · exact .inl l
    · exact .inr ⟨k, c, e, cellK x c e _ z⟩
  · obtain ⟨v, z⟩ := I.cell x c e
    exact ⟨v, cellK x c e v z⟩
  · obtain ⟨m, ⟨o, _, _, ho, _⟩, _⟩ := I.loc
    exact free _ o (fun z => (hch _ z).2.1 rfl) ho I.free
  · obtain ⟨v, o, ho, hd⟩ := I.cell x c e
    exact free c o (fun z => (hch c z).2.2.1 x c e rfl) ho (I.freeC x c e)
  · obtain ⟨e, n, ne, nf, d⟩ := I.pin p hp
    have nch : p.1 ∉ ch := fun z => (hch p.1 z).2.2.2 p hp rfl
    exact ⟨keep p.1 p.2 ne nf nch e n, free p.1 p.2 nch e n, ne, nf, d⟩
/-- .. where the frame's own object is kept too -/
theorem Inv.un {t' : Nat} (I : Inv X pins σ H s) (u : Un X.fs [] H H' s.heap h') (hok : HOk X.prog X.w H' h') : Inv X pins σ H' { s with heap := h', toks := t' } := by
  obtain ⟨m, ⟨o, es, ep, ho, r⟩, _⟩ := id I.loc
  obtain ⟨sl, hL⟩ := u.any ho I.free (by simp)
  exact I.step (g' := s.gens) (d' := s.drawn) (ch := []) (fun _ z => nomatch z) (fun b o _ hb _ e n => u.keep b o e n hb (by simp)) (fun b o _ hb _ e n => u.slot b o e n hb (by simp)) (fun b o _ e n => u.free b o e n (by simp)) (fun b o _ e => u.there b o e (by simp)) u.tups u.frzs u.tbls (fun m' hm => by
    obtain ⟨o', es', ep', ho', r'⟩ := hm
    rw [ho] at ho'; cases ho'
    exact ⟨_, es', ep', hL, r'⟩) hok I.bare
/-- behind a call (or a comprehension's block): the slots of this frame may have changed too, the records at ch may have turned -/
theorem Inv.call {g' : Array GenState} {t' : Nat} {d' : Drawn} {ch : List Addr} (I : Inv X pins σ H s) (u : Un (frs X.stack) ch H H' s.heap h') (hok : HOk X.prog X.w H' h') (hg : AllBare g')
    (hch : ∀ b ∈ ch, (b ∈ X.ex ∨ X.s₀.heap.objs.size ≤ b) ∧ b ≠ X.env.locals ∧ (∀ x c, X.env.cells.lookup x = some c → c ≠ b) ∧ ∀ p ∈ X.pn ++ pins, p.1 ≠ b) :
    Inv X pins σ H' { s with heap := h', gens := g', drawn := d', toks := t' } := by
  obtain ⟨m, ⟨o, es, ep, ho, r⟩, _⟩ := id I.loc
  obtain ⟨sl, hL⟩ := u.any ho I.free fun z => (hch _ z).2.1 rfl
  exact I.step (ch := ch) hch (fun b o hL hb hc e n => u.keep b o e n (fun z => (List.mem_cons.mp (I.stkSub b z)).elim hL hb) hc) (fun b o _ _ hc e n => u.any e n hc) (fun b o hc e n => u.free b o e n hc) (fun b o hc e => u.there b o e hc) u.tups u.frzs u.tbls (fun m' hm => by
    obtain ⟨o', es', ep', ho', r'⟩ := hm
    rw [ho] at ho'; cases ho'
    exact ⟨_, es', ep', hL, r'⟩) hok hg
/-- an untracked record of ours (an iterator) has turned -/
theorem Inv.turned {t' : Nat} {it : Addr} (I : Inv X pins σ H s) (k : ∀ b o, b ≠ it → s.heap.get? b = some o → h'.get? b = some o) (hn : H it = none) (hL : it ≠ X.env.locals)
    (h1 : it ∈ X.ex ∨ X.s₀.heap.objs.size ≤ it) (h2 : ∀ x c, X.env.cells.lookup x = some c → c ≠ it) (h3 : ∀ p ∈ X.pn ++ pins, p.1 ≠ it) : Inv X pins σ H { s with heap := h', toks := t' } := by
  have nit : ∀ b u, H b = some u → b ≠ it := fun b u e z => by rw [z, hn] at e; cases e
  refine I.step (g' := s.gens) (d' := s.drawn) (ch := [it]) (fun b hb => ?_) (fun b o _ _ hc e _ => k b o (fun z => hc (by simp [z])) e) (fun b o _ _ hc e _ => ⟨o.slots, k b o (fun z => hc (by simp [z])) e⟩) (fun _ _ _ _ n => n)
    (fun b o hc e => ⟨o, k b o (fun z => hc (by simp [z])) e⟩) (fun _ _ e => e) (fun _ _ _ e => e) (fun b ps e => ⟨#[], by rw [e]; simp⟩) (fun m hm => ?_) (fun b u e => ?_) I.bare
  · have e : b = it := by simpa using hb
    subst e
    exact ⟨h1, hL, h2, h3⟩
  · obtain ⟨o, es, ep, ho, r⟩ := hm
    exact ⟨o, es, ep, k _ o (Ne.symm hL) ho, r⟩
  · refine (I.hok b u e).stay (fun c v hc q => k c v ?_ q) (fun _ q => q) fun _ _ q => q
    rcases hc with z | z
    · rw [z]; exact nit b u e
    · exact nit c _ z
theorem Inv.tok (I : Inv X pins σ H s) (t : Nat) : Inv X pins σ H { s with toks := t } := I.un (h' := s.heap) (t' := t) Un.refl I.hok
/-- all objects kept -/
theorem Inv.kept {t' : Nat} (I : Inv X pins σ H s) (k : ∀ b u, s.heap.get? b = some u → h'.get? b = some u) : Inv X pins σ H { s with heap := h', toks := t' } := I.un (Un.kept k) (I.hok.kept k)
/-- a new object laid and tracked -/
theorem Inv.laid {a : Addr} {o : HO} {t' : Nat} (I : Inv X pins σ H s) (k : ∀ b u, s.heap.get? b = some u → h'.get? b = some u) (hp : s.heap.objs.size ≤ a) (new : ObjOk X.prog X.w (upd H a o) h' a o) :
    Inv X pins σ (upd H a o) { s with heap := h', toks := t' } := I.un (Un.laid k hp (I.hok.fresh hp)) (I.hok.laid k hp new)
/-- an object written -/
theorem Inv.write {x e : Addr} {o : HO} {t' : Nat} (I : Inv X pins σ H s) (mu : Mut (H x)) (he : e = x ∨ H e = some (.own x)) (k : ∀ b u, b ≠ e → s.heap.get? b = some u → h'.get? b = some u) (heo : ∃ u, h'.get? e = some u)
    (new : ObjOk X.prog X.w (upd H x o) h' x o) : Inv X pins σ (upd H x o) { s with heap := h', toks := t' } := I.un (Un.write mu he k heo) (I.hok.write mu he k heo new)
theorem Inv.pins_of {pins' : List (Addr × Obj)} (I : Inv X pins σ H s) (h : ∀ p ∈ pins', s.heap.get? p.1 = some p.2 ∧ H p.1 = none ∧ p.1 ≠ X.env.locals ∧ p.1 ∉ X.fs ∧ ∀ v, p.2.data ≠ .cell v) : Inv X pins' σ H s :=
  ⟨I.ok, I.os, I.bare, I.base, I.loc, I.cell, I.free, I.freeC, fun p hp => (List.mem_append.mp hp).elim (fun z => I.pin p (List.mem_append_left _ z)) (h p), I.hok, I.len⟩

theorem nodup_ix {N : List Str} (hN : N.Nodup) {i j : Nat} {x : Str} (a : N[i]? = some x) (b : N[j]? = some x) : i = j := by
  obtain ⟨h1, e1⟩ := List.getElem?_eq_some_iff.mp a
  obtain ⟨h2, e2⟩ := List.getElem?_eq_some_iff.mp b
  exact (List.getElem_inj hN).mp (e1.trans e2.symm)

/-- a name is stored; what changed -/
theorem store_ok2 {M : Model} {A : Around} {E : Value → Shared → Prop} {i : Nat} {x : Str} {v : V} {u : Value} {Q : Unit → Shared → Prop} (I : Inv X pins σ H s) (hN : X.N.Nodup) (hi : X.N[i]? = some x) (hx : Loc X.env.scope x) (r : RelV v u)
    (h : ∀ s', Inv X pins (σ.set i (some v)) H s' → (∃ a, Heap.SameBut a s.heap s'.heap ∧ (a = X.env.locals ∨ X.env.cells.lookup x = some a)) → Q () s') (hf : X.fn x = true ∨ X.env.scope.names.lookup x = some .local := by first | exact .inl rfl | exact .inr rfl | assumption) : wpAny M A (storeName X.env x u) Q E s := by
  obtain ⟨m, hn, hl⟩ := id I.loc
  have hcls : (X.env.scope.kind == .class || (X.env.scope.kind == .module && X.env.locals != X.env.globals)) = false := by rw [I.ok.kind]; rfl
  have hiσ : i < σ.length := by rw [I.len]; exact (List.getElem?_eq_some_iff.mp hi).1
  have cne := I.cne
  have tracked : ∀ {a : Addr} {h' : Heap}, (∃ o, s.heap.get? a = some o ∧ H a = none) → Heap.SameBut a s.heap h' → HOk X.prog X.w H h' := fun {a h'} ha hs b ob e => by
    obtain ⟨_, _, hfree⟩ := ha
    refine (I.hok b ob e).stay (fun c w' hc q => (hs.2 c ?_).trans q) (fun _ q => q) fun _ _ q => q
    rintro rfl
    rcases hc with rfl | hc
    · rw [hfree] at e; cases e
    · rw [hfree] at hc; cases hc
  rcases hx with hk | hk
  · refine wpAny_storeName_local hk hn (fun h' hn' hs => ?_) hcls
    obtain ⟨oL, _, _, hoL, _⟩ := id hn
    refine h _ ⟨I.ok, I.os, I.bare, ⟨fun b o e n hb hx => ?_, fun b o e n hb hx => ?_, I.base.free, fun b o e hx => ?_, I.base.tups, I.base.frzs, I.base.tbls⟩, ⟨_, hn', fun j y v' e1 e2 e3 => ?_⟩, fun y c e => ?_, I.free, I.freeC, fun p hp => ?_, tracked ⟨oL, hoL, I.free⟩ hs, by simpa using I.len⟩ ⟨_, hs, .inl rfl⟩
    · exact (hs.2 b (Nat.ne_of_lt (Nat.lt_of_lt_of_le (Heap.lt_size e) I.ok.above))).trans (I.base.keep b o e n hb hx)
    · obtain ⟨sl, e1⟩ := I.base.slot b o e n hb hx
      exact ⟨sl, (hs.2 b (Nat.ne_of_lt (Nat.lt_of_lt_of_le (Heap.lt_size e) I.ok.above))).trans e1⟩
    · obtain ⟨o', e1⟩ := I.base.there b o e hx
      exact ⟨o', (hs.2 b (Nat.ne_of_lt (Nat.lt_of_lt_of_le (Heap.lt_size e) I.ok.above))).trans e1⟩
    · by_cases hj : j = i
      · subst hj
        rw [hi] at e1; cases e1
        rw [List.getElem?_set_self hiσ] at e2
        cases e2
        exact ⟨u, r, .inl ⟨hk, by simp⟩⟩
      · rw [List.getElem?_set_ne (Ne.symm hj)] at e2
        obtain ⟨u', r', q⟩ := hl j y v' e1 e2 e3
        refine ⟨u', r', ?_⟩
        rcases q with ⟨k, e⟩ | ⟨k, c, e, z⟩
        · refine .inl ⟨k, ?_⟩
          have : y ≠ x := fun e => hj (nodup_ix hN e1 (e ▸ hi))
          simp [this, e]
        · exact .inr ⟨k, c, e, z.sameBut hs (cne y c e)⟩
    · obtain ⟨w', z⟩ := I.cell y c e
      exact ⟨w', z.sameBut hs (cne y c e)⟩
    · obtain ⟨e, n, ne, nf, d⟩ := I.pin p hp
      exact ⟨(hs.2 p.1 ne).trans e, n, ne, nf, d⟩
  · have hfn : X.fn x = true := by
      rcases hf with z | z
      · exact z
      · rw [z] at hk; cases hk
    obtain ⟨c, hc⟩ := I.ok.has x (.inl hk)
    obtain ⟨w', z⟩ := I.cell x c hc
    refine wpAny_storeName_cell I.ok.kind hk hc z (fun h' hc' hs => ?_)
    obtain ⟨oc, hoc, hocd⟩ := id z
    refine h { s with heap := h' } ⟨I.ok, I.os, I.bare, ⟨fun b o e n hb hx => ?_, fun b o e n hb hx => ?_, I.base.free, fun b o e hx => ?_, I.base.tups, I.base.frzs, I.base.tbls⟩, ⟨m, hn.sameBut hs (Ne.symm (cne x c hc)), fun j y v' e1 e2 e3 => ?_⟩, fun y c' e => ?_, I.free, I.freeC, fun p hp => ?_, tracked ⟨oc, hoc, I.freeC x c hc⟩ hs, by simpa using I.len⟩ ⟨c, hs, .inr hc⟩
    · exact (hs.2 b (Nat.ne_of_lt (Nat.lt_of_lt_of_le (Heap.lt_size e) (I.ok.cab x c hfn hc)))).trans (I.base.keep b o e n hb hx)
    · obtain ⟨sl, e1⟩ := I.base.slot b o e n hb hx
      exact ⟨sl, (hs.2 b (Nat.ne_of_lt (Nat.lt_of_lt_of_le (Heap.lt_size e) (I.ok.cab x c hfn hc)))).trans e1⟩
    · obtain ⟨o', e1⟩ := I.base.there b o e hx
      exact ⟨o', (hs.2 b (Nat.ne_of_lt (Nat.lt_of_lt_of_le (Heap.lt_size e) (I.ok.cab x c hfn hc)))).trans e1⟩
    · by_cases hj : j = i
      · subst hj
        rw [hi] at e1; cases e1
        rw [List.getElem?_set_self hiσ] at e2
        cases e2
        exact ⟨u, r, .inr ⟨.inl hk, c, hc, hc'⟩⟩
      · rw [List.getElem?_set_ne (Ne.symm hj)] at e2
        obtain ⟨u', r', q⟩ := hl j y v' e1 e2 e3
        refine ⟨u', r', ?_⟩
        rcases q with q | ⟨k, c', e, z'⟩
        · exact .inl q
        · refine .inr ⟨k, c', e, z'.sameBut hs ?_⟩
          rintro rfl
          exact hj (nodup_ix hN e1 (I.ok.inj _ _ _ e hc ▸ hi))
    · by_cases hcc : c' = c
      · subst hcc; exact ⟨_, hc'⟩
      · obtain ⟨w2, z2⟩ := I.cell y c' e
        exact ⟨w2, z2.sameBut hs hcc⟩
    · obtain ⟨e, n, ne, nf, d⟩ := I.pin p hp
      refine ⟨(hs.2 p.1 ?_).trans e, n, ne, nf, d⟩
      intro q
      rw [q, hoc] at e
      have q' : oc = p.2 := Option.some.inj e
      exact d w' (by rw [← q']; exact hocd)
theorem store_ok {M : Model} {A : Around} {E : Value → Shared → Prop} {i : Nat} {x : Str} {v : V} {u : Value} {Q : Unit → Shared → Prop} (I : Inv X pins σ H s) (hN : X.N.Nodup) (hi : X.N[i]? = some x) (hx : Loc X.env.scope x) (r : RelV v u)
    (h : ∀ s', Inv X pins (σ.set i (some v)) H s' → Q () s') (hf : X.fn x = true ∨ X.env.scope.names.lookup x = some .local := by first | exact .inl rfl | exact .inr rfl | assumption) : wpAny M A (storeName X.env x u) Q E s :=
  store_ok2 I hN hi hx r (fun s' I' _ => h s' I') hf
/-- behind a call or a block, the state as it is -/
theorem Inv.call' {s' : Shared} {ch : List Addr} (I : Inv X pins σ H s) (ho : s'.os = s.os) (u : Un (frs X.stack) ch H H' s.heap s'.heap) (hok : HOk X.prog X.w H' s'.heap) (hg : AllBare s'.gens)
    (hch : ∀ b ∈ ch, (b ∈ X.ex ∨ X.s₀.heap.objs.size ≤ b) ∧ b ≠ X.env.locals ∧ (∀ x c, X.env.cells.lookup x = some c → c ≠ b) ∧ ∀ p ∈ X.pn ++ pins, p.1 ≠ b) : Inv X pins σ H' s' := by
  obtain ⟨h', g', d', t', o'⟩ := s'
  have e : o' = s.os := ho
  subst e
  exact I.call (g' := g') (t' := t') (d' := d') u hok hg hch
end

/-! ### the judgements -/
/-- an exception: its class, its own dict's address (where it has one), the abstract heap behind it -/
noncomputable abbrev XK := Value → Option Addr → Hp → Prop
noncomputable abbrev St := List (Option V)
noncomputable abbrev VK := V → Hp → Prop
/-- an expression's reading; a test's; an argument list's -/
noncomputable abbrev TE := St → Hp → VK → Prop
noncomputable abbrev TT := St → Hp → (Bool → Hp → Prop) → Prop
noncomputable abbrev TA := St → Hp → (List V → Hp → Prop) → Prop
/-- what is wanted behind a statement -/
structure Ends where
  nx : St → Hp → Prop
  rt : VK
  bk : St → Hp → Prop := fun _ _ => False
  ct : St → Hp → Prop := fun _ _ => False
noncomputable abbrev TS := Ends → St → Hp → Prop

noncomputable def EP (X : Cx) (pins : List (Addr × Obj)) (σ : St) (Q : VK) (u : Value) (s' : Shared) : Prop := ∃ v H', Inv X pins σ H' s' ∧ RelV v u ∧ Q v H'
noncomputable def TP (X : Cx) (pins : List (Addr × Obj)) (σ : St) (Q : Bool → Hp → Prop) (b : Bool) (s' : Shared) : Prop := ∃ H', Inv X pins σ H' s' ∧ Q b H'
noncomputable def AP (X : Cx) (pins : List (Addr × Obj)) (σ : St) (Q : List V → Hp → Prop) (us : List Value) (s' : Shared) : Prop := ∃ vs H', Inv X pins σ H' s' ∧ Vals vs us ∧ Q vs H'
noncomputable def SP (X : Cx) (pins : List (Addr × Obj)) (D : Ends) (f : Flow) (s' : Shared) : Prop :=
  match f with
  | .next => ∃ σ' H', Inv X pins σ' H' s' ∧ D.nx σ' H'
  | .brk => ∃ σ' H', Inv X pins σ' H' s' ∧ D.bk σ' H'
  | .cont => ∃ σ' H', Inv X pins σ' H' s' ∧ D.ct σ' H'
  | .ret u => ∃ v σ' H', Inv X pins σ' H' s' ∧ RelV v u ∧ D.rt v H'

noncomputable def PE (X : Cx) (e : Expr) (t : TE) : Prop :=
  ∀ (pins : List (Addr × Obj)) (s : Shared) (σ : St) (H : Hp) (Q : VK), Inv X pins σ H s → t σ H Q → wpAny (model X.prog X.w) X.A (eval e X.env) (EP X pins σ Q) X.xe s
noncomputable def PT (X : Cx) (e : Expr) (t : TT) : Prop :=
  ∀ (pins : List (Addr × Obj)) (s : Shared) (σ : St) (H : Hp) (Q : Bool → Hp → Prop), Inv X pins σ H s → t σ H Q → wpAny (model X.prog X.w) X.A (isTrue e X.env (eval e X.env)) (TP X pins σ Q) X.xe s
/-- a test whatever its 'whole' is (and, or) -/
noncomputable def PW (X : Cx) (e : Expr) (t : TT) : Prop :=
  ∀ (whole : Sem Value) (pins : List (Addr × Obj)) (s : Shared) (σ : St) (H : Hp) (Q : Bool → Hp → Prop), Inv X pins σ H s → t σ H Q → wpAny (model X.prog X.w) X.A (isTrue e X.env whole) (TP X pins σ Q) X.xe s
theorem PW.pt {X : Cx} {e : Expr} {t : TT} (h : PW X e t) : PT X e t := h _
/-- an argument list (no star), from the left -/
noncomputable def PA (X : Cx) (es : List Expr) (t : TA) : Prop :=
  ∀ (pos : Pos) (pins : List (Addr × Obj)) (s : Shared) (σ : St) (H : Hp) (Q : List V → Hp → Prop), Inv X pins σ H s → t σ H Q → wpAny (model X.prog X.w) X.A (spliced (backTo pos (starEach es X.env))) (AP X pins σ Q) X.xe s
noncomputable def PS (X : Cx) (st : Stmt) (t : TS) : Prop :=
  ∀ (pins : List (Addr × Obj)) (s : Shared) (σ : St) (H : Hp) (D : Ends), Inv X pins σ H s → t D σ H → wpAny (model X.prog X.w) X.A (exec st X.env) (SP X pins D) X.xe s
noncomputable def PSs (X : Cx) (st : List Stmt) (t : TS) : Prop :=
  ∀ (pins : List (Addr × Obj)) (s : Shared) (σ : St) (H : Hp) (D : Ends), Inv X pins σ H s → t D σ H → wpAny (model X.prog X.w) X.A (execs st X.env) (SP X pins D) X.xe s
/-- weaken the end -/
theorem thn {α : Type} {t : Sem α} {Q Q' : α → Shared → Prop} {M : Model} {A : Around} {E : Value → Shared → Prop} {s : Shared} (h : wpAny M A t Q E s) (hQ : ∀ a s, Q a s → Q' a s) : wpAny M A t Q' E s := wpAny_mono h hQ fun _ _ x => x
end L2

namespace L2
open PySem PySem.Spec PyProof.Rows
section
variable {X : Cx}

/-! ### names and constants -/
noncomputable def tVar (i : Nat) : TE := fun σ H Q => ∃ v, σ[i]? = some (some v) ∧ Q v H
noncomputable def tC (v : V) : TE := fun _ H Q => Q v H
theorem pe_var {i : Nat} {x : Str} {pos : Pos} (hN : X.N[i]? = some x) (hv : Vis X.env.scope x) (hd : (x == ("__debug__" : Str)) = false := by decide) (hcd : (x == ("__classdict__" : Str)) = false := by decide) : PE X (.Name x pos) (tVar i) := by
  intro pins s σ H Q I h
  obtain ⟨v, e, h⟩ := h
  obtain ⟨m, hn, hl⟩ := I.loc
  obtain ⟨u, r, l⟩ := hl i x v hN e hv
  have fin : EP X pins σ Q u s := ⟨v, H, I, r, h⟩
  rcases l with ⟨hk, hm⟩ | ⟨hk, c, hc, hcell⟩
  · exact wpAny_Name (wpAny_loadName_local I.ok.kind hk hn hm fin) hd
  · rcases hk with hk | hk
    · exact wpAny_Name (wpAny_loadName_cell I.ok.kind hk hc hcell fin) hd
    · exact wpAny_Name (wpAny_loadName_free I.ok.kind hk hc hcell fin hcd) hd
theorem pe_int {i j pos} : PE X (.Constant (.int i) j pos) (tC (.int i)) := fun _ _ _ H _ I h => wpAny_Constant_int ⟨.int i, H, I.tok _, ⟨_, rfl⟩, h⟩
theorem pe_bl {b j pos} : PE X (.Constant (.bool b) j pos) (tC (.bl b)) := fun _ _ _ H _ I h => Constant_bool ⟨.bl b, H, I, rfl, h⟩
theorem pe_non {j pos} : PE X (.Constant .none j pos) (tC .non) := fun _ _ _ H _ I h => Constant_none ⟨.non, H, I, rfl, h⟩
theorem pe_str {x j pos} : PE X (.Constant (.str x) j pos) (tC (.str x)) := fun _ _ _ H _ I h => Calls.Constant_str ⟨.str x, H, I.tok _, ⟨_, rfl⟩, h⟩

/-- a global name of the def -/
noncomputable def Gl (X : Cx) (x : Str) : Prop := X.env.kindOf x = some .globalImplicit
theorem ld_glob {E : Value → Shared → Prop} {pins : List (Addr × Obj)} {s : Shared} {σ : St} {H : Hp} {x : Str} {u : Value} {pos : Pos} {Q : Value → Shared → Prop} (I : Inv X pins σ H s) (hg : Gl X x) (hm : X.mg x = some u) (h : Q u s)
    (hd : (x == ("__debug__" : Str)) = false := by decide) : wpAny (model X.prog X.w) X.A (eval (.Name x pos) X.env) Q E s :=
  Calls.Name_function_global I.ok.kind hg (Calls.loadGlobal_global (by rw [I.ok.glob]; exact I.mod.glob.keeps I.bk) hm h) hd
theorem ld_blt {E : Value → Shared → Prop} {pins : List (Addr × Obj)} {s : Shared} {σ : St} {H : Hp} {x : Str} {u : Value} {pos : Pos} {Q : Value → Shared → Prop} (I : Inv X pins σ H s) (hg : Gl X x) (hm : X.mg x = none) (hv : bootBuiltins x = some u) (h : Q u s)
    (hn : x ≠ "__name__" := by decide) (hd : (x == ("__debug__" : Str)) = false := by decide) : wpAny (model X.prog X.w) X.A (eval (.Name x pos) X.env) Q E s := by
  obtain ⟨mb, h1, h2⟩ := I.mod.blt
  exact Calls.Name_function_global I.ok.kind hg (Calls.loadGlobal_builtin (by rw [I.ok.glob]; exact I.mod.glob.keeps I.bk) hm (by rw [I.ok.blt]; exact h1.keeps I.bk) ((h2 x hn).trans hv) h) hd
/-- a module's constant, a class, a function, as a value -/
theorem pe_glob {x : Str} {v : V} {u : Value} {pos : Pos} (hg : Gl X x) (hm : X.mg x = some u) (r : RelV v u) (hd : (x == ("__debug__" : Str)) = false := by decide) : PE X (.Name x pos) (tC v) :=
  fun _ _ _ H _ I h => ld_glob I hg hm ⟨v, H, I, r, h⟩ hd
theorem pe_bltn {x : Str} {v : V} {u : Value} {pos : Pos} (hg : Gl X x) (hm : X.mg x = none) (hv : bootBuiltins x = some u) (r : RelV v u) (hn : x ≠ "__name__" := by decide) (hd : (x == ("__debug__" : Str)) = false := by decide) : PE X (.Name x pos) (tC v) :=
  fun _ _ _ H _ I h => ld_blt I hg hm hv ⟨v, H, I, r, h⟩ hn hd

/-! ### arithmetic -/
variable {a b : Expr} {ta tb : TE} {pos : Pos}
/-! ### comparisons -/
noncomputable def PC (X : Cx) (op : CmpOp) (a b : Expr) (t : TE) : Prop :=
  ∀ (pins : List (Addr × Obj)) (s : Shared) (σ : St) (H : Hp) (Q : VK), Inv X pins σ H s → t σ H Q →
    wpAny (model X.prog X.w) X.A (eval a X.env) (fun v s₁ => wpAny (model X.prog X.w) X.A (eval b X.env) (fun u s₂ => wpAny (model X.prog X.w) X.A (compareOp op v u) (EP X pins σ Q) X.xe s₂) X.xe s₁) X.xe s
/-- a comparison as a value, as a test -/
noncomputable def tB (t : TE) : TT := fun σ H Q => t σ H fun x H1 => ∃ c, x = .bl c ∧ Q c H1
theorem pt_cmp {op : CmpOp} {t : TE} (h : PC X op a b t) (h1 : behindInMarks op b = false := by first | exact nobehind _ (by decide) (by decide) | rfl) : PT X (.Compare a [op] [b] pos) (tB t) := by
  intro pins s σ H Q I hw
  refine wpAny_isTrue_Compare1 (thn (h pins s σ H _ I hw) fun v s1 h1 => thn h1 fun u s2 h2 => thn h2 fun c s3 ⟨x, H1, I1, r1, q1⟩ => ?_) h1
  obtain ⟨d, rfl, q⟩ := q1
  cases r1
  exact wpAny_truthy_bool ⟨H1, I1, q⟩
/-- an expression whose value is a bool, as a test -/
theorem pt_val {e : Expr} {t : TE} (h : PE X e t) (he : ∀ whole, isTrue e X.env whole = (do let v ← whole; standAt e.pos; holding [v] (truthy v)) := by intro _; rfl) : PT X e (tB t) := by
  intro pins s σ H Q I hw
  refine isTrue_plain (thn (h pins s σ H _ I hw) fun v s1 ⟨x, H1, I1, r1, q1⟩ => ?_) (he _)
  obtain ⟨d, rfl, q⟩ := q1
  cases r1
  exact wpAny_truthy_bool ⟨H1, I1, q⟩

/-! ### and, or, not -/
variable {tA tB' : TT} {rest : List Expr}
noncomputable def tAnd (t u : TT) : TT := fun σ H Q => t σ H fun c H1 => if c = true then u σ H1 Q else Q false H1
noncomputable def tOr (t u : TT) : TT := fun σ H Q => t σ H fun c H1 => if c = true then Q true H1 else u σ H1 Q
noncomputable def tNot (t : TT) : TT := fun σ H Q => t σ H fun c H1 => Q (!c) H1
theorem pw_and1 (ha : PT X a tA) : PW X (.BoolOp .And [a] pos) tA := by
  intro wh pins s σ H Q I h
  refine isTrue_and (thn (ha pins s σ H Q I h) fun c s1 e => ?_)
  cases c with
  | true => exact isTrue_and_nil e
  | false => exact e
theorem pw_or1 (ha : PT X a tA) : PW X (.BoolOp .Or [a] pos) tA := by
  intro wh pins s σ H Q I h
  refine isTrue_or (thn (ha pins s σ H Q I h) fun c s1 e => ?_)
  cases c with
  | false => exact isTrue_or_nil e
  | true => exact e
theorem pw_and (ha : PT X a tA) (hb : PW X (.BoolOp .And (b :: rest) pos) tB') : PW X (.BoolOp .And (a :: b :: rest) pos) (tAnd tA tB') := by
  intro wh pins s σ H Q I h
  refine isTrue_and (thn (ha pins s σ H _ I h) fun c s1 ⟨H1, I1, q1⟩ => ?_)
  cases c with
  | true => exact hb wh pins s1 σ H1 Q I1 q1
  | false => exact ⟨H1, I1, q1⟩
theorem pw_or (ha : PT X a tA) (hb : PW X (.BoolOp .Or (b :: rest) pos) tB') : PW X (.BoolOp .Or (a :: b :: rest) pos) (tOr tA tB') := by
  intro wh pins s σ H Q I h
  refine isTrue_or (thn (ha pins s σ H _ I h) fun c s1 ⟨H1, I1, q1⟩ => ?_)
  cases c with
  | true => exact ⟨H1, I1, q1⟩
  | false => exact hb wh pins s1 σ H1 Q I1 q1
theorem pt_not (ha : PT X a tA) : PT X (.UnaryOp .Not a pos) (tNot tA) := by
  intro pins s σ H Q I h
  exact isTrue_not (ha pins s σ H (fun c H1 => Q (!c) H1) I h)
/-- .. as values (bools) -/
noncomputable def tAndV (ta tb : TE) : TE := fun σ H Q => ta σ H fun x H1 => ∃ c, x = .bl c ∧ if c = true then tb σ H1 Q else Q (.bl false) H1
theorem pe_one {op} {t : TE} (h : PE X a t) : PE X (.BoolOp op [a] pos) t := fun pins s σ H Q I hw => BoolOp_one (h pins s σ H Q I hw)
theorem pe_and (ha : PE X a ta) (hb : PE X (.BoolOp .And (b :: rest) pos) tb) : PE X (.BoolOp .And (a :: b :: rest) pos) (tAndV ta tb) := by
  intro pins s σ H Q I h
  refine BoolOp_and (thn (ha pins s σ H _ I h) fun v s1 ⟨x, H1, I1, r1, q1⟩ => ?_)
  obtain ⟨c, rfl, q1⟩ := q1
  cases r1
  refine wpAny_truthy_bool ?_
  cases c with
  | true => exact hb pins s1 σ H1 Q I1 q1
  | false => exact ⟨.bl false, H1, I1, rfl, q1⟩
end
end L2

namespace L2
open PySem PySem.Spec PyProof.Rows

/-! ### a list, a tuple that is read: tracked, frozen, or an object of the module -/
noncomputable def SqL (K : PySem.W.Frag) (H : Hp) (a : Addr) (xs : List V) : Prop :=
  Rd H a (.lst xs) ∨
    ∃ (o : Obj) (its : Array Value) (n : Nat), K.lookup a = some o ∧ o.cls = .type "list" ∧ o.dict = none ∧ o.data = .seq its n ∧ its.size ≤ sizeLine ∧ Vals xs its.toList
noncomputable def SqT (K : PySem.W.Frag) (H : Hp) (a : Addr) (xs : List V) : Prop :=
  Rd H a (.tup xs) ∨
    ∃ (o : Obj) (its : Array Value) (n : Nat), K.lookup a = some o ∧ o.cls = .type "tuple" ∧ o.data = .seq its n ∧ its.size ≤ sizeLine ∧ Vals xs its.toList
noncomputable def absV : Value → Option V
  | .none => some .non
  | .bool b => some (.bl b)
  | .int i _ => some (.int i)
  | .str x _ => some (.str x)
  | .bytes b _ => some (.byt b)
  | .float b _ => some (.flt b)
  | .ref a => some (.ref a)
  | .type n => some (.ty n)
  | _ => none
theorem RelV.abs {x : V} {u : Value} (r : RelV x u) : absV u = some x := by
  cases x with
  | non => cases r; rfl
  | bl _ => cases r; rfl
  | int _ => obtain ⟨t, rfl⟩ := r; rfl
  | str _ => obtain ⟨t, rfl⟩ := r; rfl
  | byt _ => obtain ⟨t, rfl⟩ := r; rfl
  | flt _ => obtain ⟨t, rfl⟩ := r; rfl
  | ref _ => cases r; rfl
  | ty _ => cases r; rfl
theorem RelV.inj {x y : V} {u : Value} (r : RelV x u) (q : RelV y u) : x = y := Option.some.inj (r.abs.symm.trans q.abs)
theorem Vals.inj : ∀ {xs ys : List V} {us : List Value}, Vals xs us → Vals ys us → xs = ys
  | _, _, _, .nil, .nil => rfl
  | _, _, _, .cons r t, .cons r' t' => by rw [r.inj r', Vals.inj t t']
section
variable {X : Cx} {pins : List (Addr × Obj)} {σ : St} {H : Hp} {s : Shared} {a : Addr} {xs ys : List V}
theorem SqL.of {K : PySem.W.Frag} (h : H a = some (.lst xs)) : SqL K H a xs := .inl (.inl h)
theorem SqT.of {K : PySem.W.Frag} (h : H a = some (.tup xs)) : SqT K H a xs := .inl (.inl h)
theorem Inv.list (I : Inv X pins σ H s) (h : SqL X.K H a xs) : ∃ its : List Value, Vals xs its ∧ PlainL s.heap a its.toArray ∧ xs.length ≤ sizeLine := by
  rcases h with h | ⟨o, its, n, hk, hc, hd, hs, hz, r⟩
  · obtain ⟨z, its, n, r, e⟩ := h.ok I.hok
    exact ⟨its, r, ⟨_, n, e, rfl, rfl, rfl⟩, z⟩
  · refine ⟨its.toList, r, ⟨o, n, I.kIn a o hk, hc, hd, by simpa using hs⟩, ?_⟩
    have e := r.length
    simp only [Array.length_toList] at e
    omega
theorem Inv.tuple (I : Inv X pins σ H s) (h : SqT X.K H a xs) : ∃ its : List Value, Vals xs its ∧ IsTup s.heap a its.toArray ∧ xs.length ≤ sizeLine := by
  rcases h with h | ⟨o, its, n, hk, hc, hs, hz, r⟩
  · obtain ⟨z, its, r, p⟩ := h.ok I.hok
    exact ⟨its, r, p, z⟩
  · refine ⟨its.toList, r, ⟨o, I.kIn a o hk, hc, n, by simpa using hs⟩, ?_⟩
    have e := r.length
    simp only [Array.length_toList] at e
    omega
theorem Inv.list_inj (I : Inv X pins σ H s) (h : SqL X.K H a xs) (h' : SqL X.K H a ys) : xs = ys := by
  obtain ⟨its, r, ⟨o, n, e, _, _, d⟩, _⟩ := I.list h
  obtain ⟨its', r', ⟨o', n', e', _, _, d'⟩, _⟩ := I.list h'
  rw [e] at e'; cases e'
  rw [d] at d'
  injection d' with d1 _
  have : its = its' := by simpa using congrArg Array.toList d1
  subst this
  exact r.inj r'
theorem Inv.tuple_inj (I : Inv X pins σ H s) (h : SqT X.K H a xs) (h' : SqT X.K H a ys) : xs = ys := by
  obtain ⟨its, r, ⟨o, e, _, n, d⟩, _⟩ := I.tuple h
  obtain ⟨its', r', ⟨o', e', _, n', d'⟩, _⟩ := I.tuple h'
  rw [e] at e'; cases e'
  rw [d] at d'
  injection d' with d1 _
  have : its = its' := by simpa using congrArg Array.toList d1
  subst this
  exact r.inj r'
end

/-! ### another wish about exceptions -/
noncomputable abbrev Cx.wish (X : Cx) (E : Value → Shared → Prop) : Cx := { X with xe := E }
/-- no exception leaves -/
noncomputable abbrev Cx.nox (X : Cx) : Cx := X.wish fun _ _ => False
theorem Cx.Ok.wish {X : Cx} (ok : X.Ok) (E : Value → Shared → Prop) : (X.wish E).Ok :=
  ⟨ok.mod, ok.kind, ok.glob, ok.blt, ok.above, ok.inj, ok.has, ok.cab, ok.hd, ok.frames, ok.stk, ok.exf, ok.bs, ok.bsz, ok.noex, ok.exfs, ok.funs, ok.frf⟩
theorem Cx.Ok.unwish {X : Cx} {E : Value → Shared → Prop} (ok : (X.wish E).Ok) : X.Ok :=
  ⟨ok.mod, ok.kind, ok.glob, ok.blt, ok.above, ok.inj, ok.has, ok.cab, ok.hd, ok.frames, ok.stk, ok.exf, ok.bs, ok.bsz, ok.noex, ok.exfs, ok.funs, ok.frf⟩
section
variable {X : Cx} {pins : List (Addr × Obj)} {σ : St} {H : Hp} {s : Shared} {E : Value → Shared → Prop}
theorem Inv.wish (I : Inv X pins σ H s) (E : Value → Shared → Prop) : Inv (X.wish E) pins σ H s := ⟨I.ok.wish E, I.os, I.bare, I.base, I.loc, I.cell, I.free, I.freeC, I.pin, I.hok, I.len⟩
theorem Inv.unwish (I : Inv (X.wish E) pins σ H s) : Inv X pins σ H s := ⟨I.ok.unwish, I.os, I.bare, I.base, I.loc, I.cell, I.free, I.freeC, I.pin, I.hok, I.len⟩
theorem SP.unwish {D : Ends} {f : Flow} {s' : Shared} (h : SP (X.wish E) pins D f s') : SP X pins D f s' := by
  cases f with
  | next => obtain ⟨σ', H', I, q⟩ := h; exact ⟨σ', H', I.unwish, q⟩
  | brk => obtain ⟨σ', H', I, q⟩ := h; exact ⟨σ', H', I.unwish, q⟩
  | cont => obtain ⟨σ', H', I, q⟩ := h; exact ⟨σ', H', I.unwish, q⟩
  | ret u => obtain ⟨v, σ', H', I, r, q⟩ := h; exact ⟨v, σ', H', I.unwish, r, q⟩
theorem PSs.nox {st : List Stmt} {t : TS} (h : PSs X.nox st t) : PSs X st t := fun pins s σ H D I hw =>
  wpAny_mono (h pins s σ H D (I.wish _) hw) (fun _ _ q => q.unwish) fun _ _ z => False.elim z
end

/-! ### blocks and small statements -/
section
variable {X : Cx} {st : Stmt} {rest : List Stmt} {t u : TS} {e : Expr} {te : TE} {pos : Pos}
noncomputable def tNext : TS := fun D σ H => D.nx σ H
noncomputable def tSeq (t u : TS) : TS := fun D σ H => t { D with nx := u D } σ H
theorem pss_nil : PSs X [] tNext := fun _ _ σ H _ I h => wpAny_execs_nil ⟨σ, H, I, h⟩
theorem pss_cons (h1 : PS X st t) (h2 : PSs X rest u) : PSs X (st :: rest) (tSeq t u) := by
  intro pins s σ H D I h
  refine wpAny_execs_cons (thn (h1 pins s σ H { D with nx := u D } I h) fun f s1 q => ?_)
  cases f with
  | next =>
    obtain ⟨σ', H', I', q⟩ := q
    exact h2 pins s1 σ' H' D I' q
  | ret v => exact q
  | brk => exact q
  | cont => exact q
theorem pss_one (h1 : PS X st t) : PSs X [st] t := by
  intro pins s σ H D I h
  refine wpAny_execs_cons (thn (h1 pins s σ H D I h) fun f s1 q => ?_)
  cases f with
  | next => exact wpAny_execs_nil q
  | ret v => exact q
  | brk => exact q
  | cont => exact q
/-- in a def's body nothing is shown -/
theorem Inv.quiet {pins : List (Addr × Obj)} {σ : St} {H : Hp} {s : Shared} (I : Inv X pins σ H s) : interactive X.env = false := by simp [interactive, I.ok.kind]
/-- an expression whose value is dropped -/
noncomputable def tDrop (te : TE) : TS := fun D σ H => te σ H fun _ H1 => D.nx σ H1
theorem ps_expr (he : PE X e te) (hs : swapsWith e none pos.line X.env = pure false := by rfl) : PS X (.Expr e pos) (tDrop te) := by
  intro pins s σ H D I h
  exact wpAny_Expr_any (thn (he pins s σ H _ I h) fun v s1 ⟨x, H1, I1, r1, q1⟩ => ⟨σ, H1, I1, q1⟩) I.quiet hs
noncomputable def tRet (te : TE) : TS := fun D σ H => te σ H D.rt
theorem ps_ret (he : PE X e te) : PS X (.Return (some e) pos) (tRet te) := by
  intro pins s σ H D I h
  exact wpAny_Return_some (thn (he pins s σ H _ I h) fun v s1 ⟨x, H1, I1, r1, q1⟩ => ⟨x, σ, H1, I1, r1, q1⟩)
noncomputable def tIfS (c : TT) (t u : TS) : TS := fun D σ H => c σ H fun b H1 => if b = true then t D σ H1 else u D σ H1
theorem ps_if {c : Expr} {a b : List Stmt} {tc : TT} (hc : PT X c tc) (ha : PSs X a t) (hb : PSs X b u) : PS X (.If c a b pos) (tIfS tc t u) := by
  intro pins s σ H D I h
  refine wpAny_If (thn (hc pins s σ H _ I h) fun d s1 ⟨H1, I1, q1⟩ => ?_)
  cases d with
  | true => exact ha pins s1 σ H1 D I1 q1
  | false => exact hb pins s1 σ H1 D I1 q1
/-- code that the proof never comes to -/
noncomputable def tNever : TS := fun _ _ _ => False
theorem pss_never {sts : List Stmt} : PSs X sts tNever := fun _ _ _ _ _ _ h => h.elim
end

/-! ### targets -/
noncomputable abbrev TG := V → St → Hp → (St → Hp → Prop) → Prop
noncomputable abbrev TGs := List V → St → Hp → (St → Hp → Prop) → Prop
noncomputable def PG (X : Cx) (target : Expr) (t : TG) : Prop :=
  ∀ (pins : List (Addr × Obj)) (s : Shared) (σ : St) (H : Hp) (v : V) (u : Value) (Q : St → Hp → Prop), Inv X pins σ H s → RelV v u → t v σ H Q →
    wpAny (model X.prog X.w) X.A (assign target X.env u) (fun _ s' => ∃ σ' H', Inv X pins σ' H' s' ∧ Q σ' H') X.xe s
/-- several targets, one after another -/
noncomputable def PGs (X : Cx) (ts : List Expr) (t : TGs) : Prop :=
  ∀ (pins : List (Addr × Obj)) (s : Shared) (σ : St) (H : Hp) (vs : List V) (us : List Value) (Q : St → Hp → Prop), Inv X pins σ H s → Vals vs us → t vs σ H Q →
    wpAny (model X.prog X.w) X.A (assignInOrder ((assignEach ts X.env).map (·.2)) us) (fun _ s' => ∃ σ' H', Inv X pins σ' H' s' ∧ Q σ' H') X.xe s
section
variable {X : Cx} {pos : Pos}
noncomputable def gName (i : Nat) : TG := fun v σ H Q => Q (σ.set i (some v)) H
theorem pg_name {i : Nat} {x : Str} (hN : X.N.Nodup) (hi : X.N[i]? = some x) (hx : Loc X.env.scope x) (hf : X.fn x = true ∨ X.env.scope.names.lookup x = some .local := by first | exact .inl rfl | exact .inr rfl | assumption) : PG X (.Name x pos) (gName i) := by
  intro pins s σ H v u Q I r h
  exact wpAny_assign_Name (store_ok I hN hi hx r (fun s' I' => ⟨_, H, I', h⟩) hf)
noncomputable def gNil : TGs := fun vs σ H Q => vs = [] ∧ Q σ H
noncomputable def gCons (t : TG) (u : TGs) : TGs := fun vs σ H Q => ∃ v r, vs = v :: r ∧ t v σ H fun σ' H' => u r σ' H' Q
theorem pgs_nil : PGs X [] gNil := by
  intro pins s σ H vs us Q I r h
  obtain ⟨e, h⟩ := h
  subst e
  cases r
  exact assignInOrder_nil ⟨σ, H, I, h⟩
theorem pgs_cons {e : Expr} {es : List Expr} {t : TG} {u : TGs} (h1 : PG X e t) (h2 : PGs X es u)
    (hs : (assignEach (e :: es) X.env).map (·.2) = assign e X.env :: (assignEach es X.env).map (·.2) := by rfl) : PGs X (e :: es) (gCons t u) := by
  intro pins s σ H vs us Q I r h
  obtain ⟨v, vr, e1, h⟩ := h
  subst e1
  cases r with
  | cons r rr =>
    rw [hs]
    refine assignInOrder_cons (thn (h1 pins s σ H _ _ _ I r h) fun _ s1 ⟨σ1, H1, I1, q1⟩ => ?_)
    exact h2 pins s1 σ1 H1 _ _ Q I1 rr q1
/-- (a, b, ..) = a tuple of that length -/
noncomputable def gTup (K : PySem.W.Frag) (n : Nat) (t : TGs) : TG := fun v σ H Q => ∃ a xs, v = .ref a ∧ SqT K H a xs ∧ xs.length = n ∧ t xs σ H Q
theorem pg_tup {es : List Expr} {k : Nat} {t : TGs} {n : Nat} (hc : X.calm = true) (h : PGs X es t)
    (hn : (assignEach es X.env).length = n := by rfl) (hst : (assignEach es X.env).findIdx? (·.1) = none := by rfl) : PG X (.Tuple es k pos) (gTup X.K n t) := by
  intro pins s σ H v u Q I r hw
  obtain ⟨a, xs, e1, hq, hl, hw⟩ := hw
  subst e1
  cases r
  obtain ⟨its, rv, ht, hz⟩ := I.tuple hq
  refine assign_Tuple_tuple (I.ok.hd hc) ht (by simp [hn, ← hl, rv.length]) hst fun h' hx => ?_
  have I1 : Inv X pins σ H { s with heap := h' } := I.kept (t' := s.toks) fun b o e => hx b o (Nat.ne_of_lt (Heap.lt_size e)) e
  exact h pins _ σ H xs _ Q I1 (by simpa using rv) hw
/-- target = value -/
noncomputable def tAsg (te : TE) (g : TG) : TS := fun D σ H => te σ H fun x H1 => g x σ H1 D.nx
theorem ps_asg {tg e : Expr} {te : TE} {g : TG} (he : PE X e te) (hg : PG X tg g) (hs : swapsWithSole [tg] e pos.line X.env = pure false := by rfl) (hw : swappedStores [tg] e X.env = pure none := by rfl)
    (h1 : (assignEach [tg] X.env).map (·.2) = [assign tg X.env] := by rfl) : PS X (.Assign [tg] e pos) (tAsg te g) := by
  intro pins s σ H D I h
  refine wpAny_Assign_stores (thn (he pins s σ H _ I h) fun v s1 ⟨x, H1, I1, r1, q1⟩ => ?_) hs hw
  rw [h1]
  exact thn (hg pins s1 σ H1 x v _ I1 r1 q1) fun _ s2 q => q
/-- name = value -/
theorem ps_set {i : Nat} {x : Str} {e : Expr} {te : TE} {pos' : Pos} (hN : X.N.Nodup) (hi : X.N[i]? = some x) (hx : Loc X.env.scope x) (he : PE X e te) (hs : swapsWith e (some (.Name x pos')) pos.line X.env = pure false := by rfl) (hf : X.fn x = true ∨ X.env.scope.names.lookup x = some .local := by first | exact .inl rfl | exact .inr rfl | assumption) :
    PS X (.Assign [.Name x pos'] e pos) (tAsg te (gName i)) := by
  intro pins s σ H D I h
  refine wpAny_Assign_Name (thn (he pins s σ H _ I h) fun v s1 ⟨y, H1, I1, r1, q1⟩ => ?_) hs
  exact store_ok I1 hN hi hx r1 (fun s2 I2 => ⟨_, H1, I2, q1⟩) hf
end

/-! ### while -/
section
variable {X : Cx} {pos : Pos}
end

/-! ### what a loop or a comprehension walks -/
/-- at turn i: it yields x (the heap may grow), or it stops -/
structure It where
  go : Nat → Hp → Prop
  yld : Nat → Hp → V → Hp → Prop
  stop : Nat → Hp → Prop
/-- the iterator's own objects may turn: they are not the frame's, not pinned, younger than the entry (or a comprehension's own) -/
noncomputable def FpOk (X : Cx) (pins : List (Addr × Obj)) (H : Hp) (b : Addr) : Prop :=
  H b = none ∧ b ≠ X.env.locals ∧ b ∉ X.fs ∧ (b ∈ X.ex ∨ X.s₀.heap.objs.size ≤ b) ∧ (∀ x c, X.env.cells.lookup x = some c → c ≠ b) ∧ ∀ p ∈ X.pn ++ pins, p.1 ≠ b
theorem Inv.fpOk {X : Cx} {pins : List (Addr × Obj)} {σ : St} {H H' : Hp} {s : Shared} {b : Addr} (I : Inv X pins σ H s) (hb : s.heap.objs.size ≤ b) (hn : H' b = none) : FpOk X pins H' b := by
  refine ⟨hn, Nat.ne_of_gt (Nat.lt_of_lt_of_le I.lt hb), I.nofs hb, .inr (Nat.le_trans I.sz hb), fun x c e z => ?_, fun p hp z => ?_⟩
  · obtain ⟨v, q⟩ := I.cell x c e
    exact absurd (Nat.lt_of_lt_of_le q.lt (by rw [z]; exact hb)) (Nat.lt_irrefl _)
  · exact absurd (Nat.lt_of_lt_of_le (Heap.lt_size (I.pin p hp).1) (by rw [z]; exact hb)) (Nat.lt_irrefl _)
structure Turn (P : Program) (w : World) (K : PySem.W.Frag) (tg : Expr) (J : It) (fp : List Addr) (it : Addr) (tn : Nat → Heap → Prop) : Prop where
  mem : it ∈ fp
  obj : ∀ i h, tn i h → ∀ b ∈ fp, ∃ o, h.get? b = some o ∧ ∀ v, o.data ≠ .cell v
  keep : ∀ i h h', tn i h → (∀ b ∈ fp, ∀ o, h.get? b = some o → h'.get? b = some o) → tn i h'
  item : ∀ (X : Cx), X.prog = P → X.w = w → X.K = K → X.calm = true → ∀ (i : Nat) (pins : List (Addr × Obj)) (s : Shared) (σ : St) (H : Hp) (E : Value → Shared → Prop), Inv X pins σ H s → (∀ b ∈ fp, FpOk X pins H b) → tn i s.heap → J.go i H →
    wpAny (model P w) X.A (pyNext (.ref it)) (fun r s1 => ∃ u, r = some u ∧
      wpAny (model P w) X.A (letOwnedTupleGo tg (.ref it) u) (fun _ s2 => ∃ x H', Inv X pins σ H' s2 ∧ RelV x u ∧ J.yld i H x H' ∧ tn (i + 1) s2.heap ∧ ∀ b ∈ fp, H' b = none) E s1) E s
  done : ∀ (X : Cx), X.prog = P → X.w = w → X.K = K → X.calm = true → ∀ (i : Nat) (pins : List (Addr × Obj)) (s : Shared) (σ : St) (H : Hp) (E : Value → Shared → Prop), Inv X pins σ H s → (∀ b ∈ fp, FpOk X pins H b) → tn i s.heap → J.stop i H →
    wpAny (model P w) X.A (pyNext (.ref it)) (fun r s1 => r = none ∧ Inv X pins σ H s1) E s
  self : ∀ (A : Around) (i : Nat) (s : Shared) (Q : Value → Shared → Prop) (E : Value → Shared → Prop), tn i s.heap → Q (.ref it) s → wpAny (model P w) A (pyIter (.ref it)) Q E s
noncomputable abbrev TI := St → Hp → (It → Hp → Prop) → Prop
/-- an iterator has come -/
noncomputable def PIE (X : Cx) (pins : List (Addr × Obj)) (σ : St) (tg : Expr) (R : It → Hp → Prop) (itv : Value) (s2 : Shared) : Prop :=
  ∃ (it : Addr) (fp : List Addr) (tn : Nat → Heap → Prop) (J : It) (H' : Hp), itv = .ref it ∧ Inv X pins σ H' s2 ∧ Turn X.prog X.w X.K tg J fp it tn ∧ tn 0 s2.heap ∧ (∀ b ∈ fp, FpOk X pins H' b) ∧ R J H'
noncomputable def PI (X : Cx) (tg iter : Expr) (wi : TI) : Prop :=
  ∀ (pins : List (Addr × Obj)) (s : Shared) (σ : St) (H : Hp) (R : It → Hp → Prop), Inv X pins σ H s → wi σ H R →
    wpAny (model X.prog X.w) X.A (eval iter X.env) (fun v s1 => wpAny (model X.prog X.w) X.A (pyIter v) (PIE X pins σ tg R) X.xe s1) X.xe s

/-- the step ahead of the store is nothing for an iterator that keeps no tuple -/
theorem go_of {M : Model} {A : Around} {E : Value → Shared → Prop} {s : Shared} {tg : Expr} {it : Addr} {u : Value} {o : Obj} {n : String} {vs : Array Value} {Q : Unit → Shared → Prop} (ho : s.heap.get? it = some o) (hc : o.cls = .type n) (hd : o.data = .fields vs)
    (hn : ["enumerate", "zip", "dict_itemiterator", "dict_reverseitemiterator", "odict_iterator", "itertools.zip_longest", "itertools.pairwise"].contains n = false) (hQ : Q () s) : wpAny M A (letOwnedTupleGo tg (.ref it) u) Q E s := by
  unfold letOwnedTupleGo
  cases tg <;> first
    | exact wpAny_pure hQ
    | (cases u <;> first
        | exact wpAny_pure hQ
        | (refine wpAny_bind (wpAny_load ho ?_)
           rw [hc, hd]
           show wpAny M A (if (["enumerate", "zip", "dict_itemiterator", "dict_reverseitemiterator", "odict_iterator", "itertools.zip_longest", "itertools.pairwise"].contains n && vs[0]? == some (rawInt _)) = true then _ else _) Q E s
           rw [if_neg (by intro h; rw [hn, Bool.false_and] at h; cases h)]
           exact wpAny_pure hQ))

/-- the list at a, as it stands at each turn (a loop may append to it) -/
noncomputable def Itl (K : PySem.W.Frag) (a : Addr) : It :=
  ⟨fun i H => ∃ xs x, SqL K H a xs ∧ xs[i]? = some x, fun i H x H' => H' = H ∧ ∀ xs, SqL K H a xs → xs[i]? = some x, fun i H => ∃ xs, SqL K H a xs ∧ xs.length ≤ i⟩
noncomputable def Itt (K : PySem.W.Frag) (a : Addr) : It :=
  ⟨fun i H => ∃ xs x, SqT K H a xs ∧ xs[i]? = some x, fun i H x H' => H' = H ∧ ∀ xs, SqT K H a xs → xs[i]? = some x, fun i H => ∃ xs, SqT K H a xs ∧ xs.length ≤ i⟩
/-- lo, lo + 1, .. (n of them) -/
noncomputable def Itr (lo : Int) (n : Nat) : It := ⟨fun i _ => i < n, fun i H x H' => H' = H ∧ x = .int (lo + i), fun i _ => n ≤ i⟩
theorem turn_list {P : Program} {w : World} {K : PySem.W.Frag} {tg : Expr} (a it : Addr) : Turn P w K tg (Itl K a) [it] it (fun i h => h.IsListIter it a i) where
  mem := by simp
  obj := fun i h st b hb => by
    have e : b = it := by simpa using hb
    subst e
    obtain ⟨o, e, c, d⟩ := st
    exact ⟨o, e, fun v z => by rw [d] at z; cases z⟩
  keep := fun i h h' st k => st.at fun o e => k it (by simp) o e
  item := by
    intro X hP hw hK hc i pins s σ H E I hf st hg
    subst hP hw hK
    obtain ⟨xs, x, hq, hx⟩ := hg
    obtain ⟨its, rv, p, hz⟩ := I.list hq
    obtain ⟨u, hu, ru⟩ := rv.get hx
    obtain ⟨f0, f1, f2, f3, f4, f5⟩ := hf it (by simp)
    refine wpAny_pyNext_list_item st p.isList (x := u) (by simpa using hu) fun h' st' sb => ?_
    have I1 : Inv X pins σ H { s with heap := h' } := I.turned (t' := s.toks) (fun b o hb e => (sb.2 b hb).trans e) f0 f1 f3 f4 f5
    obtain ⟨o, e, c, d⟩ := id st'
    exact ⟨u, rfl, go_of (s := { s with heap := h' }) e c d (by decide) ⟨x, H, I1, ru, ⟨rfl, fun ys hy => by rw [I.list_inj hy hq]; exact hx⟩, st', fun b hb => (hf b hb).1⟩⟩
  done := by
    intro X hP hw hK hc i pins s σ H E I hf st hg
    subst hP hw hK
    obtain ⟨xs, hq, hx⟩ := hg
    obtain ⟨its, rv, p, hz⟩ := I.list hq
    obtain ⟨f0, f1, f2, f3, f4, f5⟩ := hf it (by simp)
    have hl := rv.length
    exact wpAny_pyNext_list_end (I.ok.hd hc) st p.isList (by simp; omega) fun h' eb => ⟨rfl, I.turned (t' := s.toks) (fun b o hb e => eb b o hb e) f0 f1 f3 f4 f5⟩
  self := fun _ _ _ _ _ st h => wpAny_pyIter_listiter st h
theorem turn_tuple {P : Program} {w : World} {K : PySem.W.Frag} {tg : Expr} (a it : Addr) : Turn P w K tg (Itt K a) [it] it (fun i h => h.IsTupleIter it a i) where
  mem := by simp
  obj := fun i h st b hb => by
    have e : b = it := by simpa using hb
    subst e
    obtain ⟨o, e, c, d⟩ := st
    exact ⟨o, e, fun v z => by rw [d] at z; cases z⟩
  keep := fun i h h' st k => st.at fun o e => k it (by simp) o e
  item := by
    intro X hP hw hK hc i pins s σ H E I hf st hg
    subst hP hw hK
    obtain ⟨xs, x, hq, hx⟩ := hg
    obtain ⟨its, rv, p, hz⟩ := I.tuple hq
    obtain ⟨u, hu, ru⟩ := rv.get hx
    obtain ⟨f0, f1, f2, f3, f4, f5⟩ := hf it (by simp)
    refine wpAny_pyNext_tuple_item st (show s.heap.IsTuple a its.toArray from p) (x := u) (by simpa using hu) fun h' st' sb => ?_
    have I1 : Inv X pins σ H { s with heap := h' } := I.turned (t' := s.toks) (fun b o hb e => (sb.2 b hb).trans e) f0 f1 f3 f4 f5
    obtain ⟨o, e, c, d⟩ := id st'
    exact ⟨u, rfl, go_of (s := { s with heap := h' }) e c d (by decide) ⟨x, H, I1, ru, ⟨rfl, fun ys hy => by rw [I.tuple_inj hy hq]; exact hx⟩, st', fun b hb => (hf b hb).1⟩⟩
  done := by
    intro X hP hw hK hc i pins s σ H E I hf st hg
    subst hP hw hK
    obtain ⟨xs, hq, hx⟩ := hg
    obtain ⟨its, rv, p, hz⟩ := I.tuple hq
    obtain ⟨f0, f1, f2, f3, f4, f5⟩ := hf it (by simp)
    have hl := rv.length
    exact wpAny_pyNext_tuple_end (I.ok.hd hc) st (show s.heap.IsTuple a its.toArray from p) (by simp; omega) fun h' eb => ⟨rfl, I.turned (t' := s.toks) (fun b o hb e => eb b o hb e) f0 f1 f3 f4 f5⟩
  self := fun _ _ _ _ _ st h => wpAny_pyIter_tupleiter st h
theorem turn_range {P : Program} {w : World} {K : PySem.W.Frag} {tg : Expr} (it : Addr) (lo : Int) (n : Nat) : Turn P w K tg (Itr lo n) [it] it (fun i h => IsRangeIter h it (lo + (i : Nat) * 1) ((n : Int) - (i : Nat)) 1) where
  mem := by simp
  obj := fun i h st b hb => by
    have e : b = it := by simpa using hb
    subst e
    exact ⟨_, st, fun v z => by
      have z' : Data.fields _ = Data.cell v := z
      cases z'⟩
  keep := fun i h h' st k => k it (by simp) _ st
  item := by
    intro X hP hw hK hc i pins s σ H E I hf st hg
    subst hP hw hK
    obtain ⟨f0, f1, f2, f3, f4, f5⟩ := hf it (by simp)
    have W := Walks.range (prog := X.prog) (w := X.w) (I.ok.hd hc) it lo 1 n
    refine W.item i s _ _ hg st fun v h' tk hv st' kk => ?_
    obtain ⟨t, rfl⟩ := hv
    have I1 : Inv X pins σ H { s with heap := h', toks := tk } := I.turned (fun b o hb e => kk b o (by simpa using hb) e) f0 f1 f3 f4 f5
    refine ⟨_, rfl, go_of (s := { s with heap := h', toks := tk }) (n := "range_iterator") st' rfl rfl (by decide) ⟨.int (lo + i), H, I1, ⟨t, ?_⟩, ⟨rfl, rfl⟩, st', fun b hb => (hf b hb).1⟩⟩
    rw [Int.mul_one]
  done := by
    intro X hP hw hK hc i pins s σ H E I hf st hg
    subst hP hw hK
    obtain ⟨f0, f1, f2, f3, f4, f5⟩ := hf it (by simp)
    exact wpAny_pyNext_range_end (I.ok.hd hc) st (by have : n ≤ i := hg; omega) fun h' eb => ⟨rfl, I.turned (t' := s.toks) (fun b o hb e => eb b o hb e) f0 f1 f3 f4 f5⟩
  self := fun _ _ _ _ _ st h => wpAny_pyIter_rangeiter st h
end L2

namespace L2
open PySem PySem.Spec PyProof.Rows
section
variable {X : Cx} {tg : Expr}
/-- a range object just made, walked -/
theorem range_it {pins : List (Addr × Obj)} {σ : St} {H : Hp} {s : Shared} {R : It → Hp → Prop} {E : Value → Shared → Prop} {lo hi : Int} {t u v : Tok} {tk : Nat} (I : Inv X pins σ H s) (h1 : -(2 ^ 62) ≤ lo) (h2 : lo < 2 ^ 62) (h3 : -(2 ^ 62) ≤ hi) (h4 : hi < 2 ^ 62)
    (q : R (Itr lo (hi - lo).toNat) H) : wpAny (model X.prog X.w) X.A (pyIter (.ref s.heap.objs.size)) (PIE X pins σ tg R) E { s with heap := s.heap.push { cls := .type "range", data := .fields #[.int lo t, .int hi u, .int 1 v] }, toks := tk } := by
  refine wpAny_pyIter_range (IsRange.new ..) (small_one h1 h2 h3 h4) ?_
  have I1 : Inv X pins σ H { s with heap := s.heap.push { cls := .type "range", data := .fields #[.int lo t, .int hi u, .int 1 v] }, toks := tk } := I.kept fun b o e => Heap.get?_push_of_some _ e
  refine ⟨(s.heap.push { cls := .type "range", data := .fields #[.int lo t, .int hi u, .int 1 v] }).objs.size, [(s.heap.push { cls := .type "range", data := .fields #[.int lo t, .int hi u, .int 1 v] }).objs.size], _, _, H, rfl,
    I1.kept (t' := tk) fun b o e => Heap.get?_push_of_some _ e, turn_range _ lo (hi - lo).toNat, ?_, fun b hb => ?_, q⟩
  · have e1 : lo + ((0 : Nat) : Int) * 1 = lo := by simp
    have e2 : (((hi - lo).toNat : Nat) : Int) - ((0 : Nat) : Int) = Builtin.Range.rangeSize lo hi 1 := by rw [rangeSize_one]; split <;> omega
    show IsRangeIter _ _ (lo + ((0 : Nat) : Int) * 1) ((((hi - lo).toNat : Nat) : Int) - ((0 : Nat) : Int)) 1
    rw [e1, e2]
    exact Heap.get?_push_size _ rfl
  · have e : b = (s.heap.push { cls := .type "range", data := .fields #[.int lo t, .int hi u, .int 1 v] }).objs.size := by simpa using hb
    subst e
    exact I1.fpOk (Nat.le_refl _) (I1.hok.fresh (Nat.le_refl _))
noncomputable def iRng1 (ta : TA) : TI := fun σ H R => ta σ H fun vs H1 => ∃ j : Int, vs = [.int j] ∧ -(2 ^ 62) ≤ j ∧ j < 2 ^ 62 ∧ R (Itr 0 j.toNat) H1
noncomputable def iRng2 (ta : TA) : TI := fun σ H R => ta σ H fun vs H1 => ∃ i j : Int, vs = [.int i, .int j] ∧ (-(2 ^ 62) ≤ i ∧ i < 2 ^ 62 ∧ -(2 ^ 62) ≤ j ∧ j < 2 ^ 62) ∧ R (Itr i (j - i).toNat) H1
theorem pi_range1 {a : Expr} {ta : TA} {p pos : Pos} (hg : Gl X "range") (hm : X.mg "range" = none) (ha : PA X [a] ta) (hs : starEach [a] X.env = [(false, eval a X.env)] := by rfl) : PI X tg (.Call (.Name "range" p) [a] [] pos) (iRng1 ta) := by
  intro pins s σ H R I h
  refine Call_ (ld_blt I hg hm boot_range (PyProof.Rows.callWith_type1 (thn (ha pos pins s σ H _ I h) fun us s1 ⟨vs, H1, I1, r1, q1⟩ => ?_) hs rfl))
  obtain ⟨j, e, q1, q2, q⟩ := q1
  subst e
  cases r1 with
  | cons r rr =>
    cases rr
    obtain ⟨t, rfl⟩ := r
    exact call_range_1 (range_it I1 (by omega) (by omega) q1 q2 (by simpa using q))
theorem pi_range2 {a b : Expr} {ta : TA} {p pos : Pos} (hg : Gl X "range") (hm : X.mg "range" = none) (ha : PA X [a, b] ta) (hs : starEach [a, b] X.env = [(false, eval a X.env), (false, eval b X.env)] := by rfl) (hs2 : starEach [b] X.env = [(false, eval b X.env)] := by rfl) :
    PI X tg (.Call (.Name "range" p) [a, b] [] pos) (iRng2 ta) := by
  intro pins s σ H R I h
  refine Call_ (ld_blt I hg hm boot_range (PyProof.Rows.callWith_type1 (thn (ha pos pins s σ H _ I h) fun us s1 ⟨vs, H1, I1, r1, q1⟩ => ?_) (by rw [hs, hs2]) (by rw [hs2]; rfl)))
  obtain ⟨i, j, e, ⟨q1, q2, q3, q4⟩, q⟩ := q1
  subst e
  cases r1 with
  | cons r rr =>
    cases rr with
    | cons r' rr =>
      cases rr
      obtain ⟨t, rfl⟩ := r
      obtain ⟨t', rfl⟩ := r'
      exact call_range_2 (range_it I1 q1 q2 q3 q4 q)

/-! ### for -/
/-- W: the invariant by the turn and a measure; N: what the body is to reach -/
noncomputable def tFor (wi : TI) (g : TG) (tb : TS) : TS := fun D σ H => wi σ H fun J H1 => ∃ W : Nat → Nat → St → Hp → Prop, (∃ m, W 0 m σ H1) ∧ ∀ i m σ H, W i m σ H →
  (J.stop i H ∧ D.nx σ H) ∨ (J.go i H ∧ ∃ N : St → Hp → Prop, (∀ σ' H', N σ' H' → ∃ m', m' < m ∧ W (i + 1) m' σ' H') ∧ ∀ x H', J.yld i H x H' → g x σ H' fun σ2 H2 => tb { D with nx := N, ct := N, bk := D.nx } σ2 H2)
/-- the records at fp as they stand -/
noncomputable def pinsAt (fp : List Addr) (h : Heap) : List (Addr × Obj) := fp.filterMap fun b => (h.get? b).map fun o => (b, o)
theorem mem_pinsAt {fp : List Addr} {h : Heap} {b : Addr} {o : Obj} (hb : b ∈ fp) (e : h.get? b = some o) : (b, o) ∈ pinsAt fp h := List.mem_filterMap.mpr ⟨b, hb, by rw [e]; rfl⟩
theorem of_pinsAt {fp : List Addr} {h : Heap} {p : Addr × Obj} (hp : p ∈ pinsAt fp h) : p.1 ∈ fp ∧ h.get? p.1 = some p.2 := by
  obtain ⟨b, hb, e⟩ := List.mem_filterMap.mp hp
  cases q : h.get? b with
  | none => rw [q] at e; cases e
  | some o =>
    rw [q] at e
    have e' : (b, o) = p := Option.some.inj e
    subst e'
    exact ⟨hb, q⟩
theorem Inv.pinned {pins : List (Addr × Obj)} {σ : St} {H : Hp} {s : Shared} {fp : List Addr} (I : Inv X pins σ H s) (hf : ∀ b ∈ fp, FpOk X pins H b) (ho : ∀ b ∈ fp, ∃ o, s.heap.get? b = some o ∧ ∀ v, o.data ≠ .cell v) : Inv X (pins ++ pinsAt fp s.heap) σ H s :=
  I.pins_of fun p hp => (List.mem_append.mp hp).elim (fun z => I.pin p (List.mem_append_right _ z)) fun z => by
    obtain ⟨hb, e⟩ := of_pinsAt z
    obtain ⟨f0, f1, f2, _⟩ := hf p.1 hb
    obtain ⟨o, e', d⟩ := ho p.1 hb
    rw [e] at e'; cases e'
    exact ⟨e, f0, f1, f2, d⟩
theorem Inv.unpinned {pins pl : List (Addr × Obj)} {σ : St} {H : Hp} {s : Shared} (I : Inv X (pins ++ pl) σ H s) : Inv X pins σ H s := I.pins_of fun p hp => I.pin p (List.mem_append_right _ (List.mem_append_left _ hp))
theorem ps_for {iter : Expr} {body : List Stmt} {wi : TI} {g : TG} {tb : TS} {pos : Pos} (hp : PassesOwn (model X.prog X.w) X.A X.env X.xe) (hc : X.calm = true) (hi : PI X tg iter wi) (hg : PG X tg g) (hb : PSs X body tb)
    (hs : ∀ x, foldedSetIterable iter X.env x = pure x := by intro _; rfl) : PS X (.For tg iter body [] pos) (tFor wi g tb) := by
  intro pins s σ H D I h
  refine wpAny_For (thn (hi pins s σ H _ I h) fun v s1 h1 => thn h1 fun itv s2 h2 => ?_) hs
  obtain ⟨it, fp, tn, J, H2, e, I2, T, st2, f2, W, ⟨m0, w0⟩, turn⟩ := h2
  subst e
  -- what stays true of the iterator's objects through the loop
  have stat : ∀ {H' : Hp}, (∀ b ∈ fp, H' b = none) → ∀ b ∈ fp, FpOk X pins H' b := fun hn b hb => ⟨hn b hb, (f2 b hb).2⟩
  refine codeAny_forLoop_any (fun n s' => ∃ i σ' H', Inv X pins σ' H' s' ∧ tn i s'.heap ∧ (∀ b ∈ fp, H' b = none) ∧ W i n σ' H') ?_ m0 ⟨0, σ, H2, I2, st2, fun b hb => (f2 b hb).1, w0⟩
  rintro n s3 ⟨i, σ3, H3, I3, st3, fr3, w3⟩
  rcases turn i n σ3 H3 w3 with ⟨stop, qn⟩ | ⟨go, N, hN, step⟩
  · refine wpAny_passesOwn hp (thn (T.done X rfl rfl rfl hc i pins s3 σ3 H3 X.xe I3 (stat fr3) st3 stop) fun r s4 ⟨hr, I4⟩ => ?_)
    subst hr
    exact wpAny_execs_nil ⟨σ3, H3, I4, qn⟩
  · refine wpAny_passesOwn hp (thn (T.item X rfl rfl rfl hc i pins s3 σ3 H3 X.xe I3 (stat fr3) st3 go) fun r s4 ⟨u, hr, h4⟩ => ?_)
    subst hr
    refine wpAny_passesOwn hp (thn h4 fun _ s5 ⟨x, H5, I5, r5, y5, st5, fr5⟩ => ?_)
    have I5' := I5.pinned (stat fr5) (T.obj _ _ st5)
    refine wpAny_passesOwn hp (thn (hg _ s5 σ3 H5 x u _ I5' r5 (step x H5 y5)) fun _ s6 ⟨σ6, H6, I6, q6⟩ => ?_)
    refine wpAny_passesOwn hp (thn (hb _ s6 σ6 H6 _ I6 q6) fun f s7 q7 => ?_)
    have again : ∀ {σ7 : St} {H7 : Hp}, Inv X (pins ++ pinsAt fp s5.heap) σ7 H7 s7 → N σ7 H7 → ∃ m, m < n ∧ ∃ i σ' H', Inv X pins σ' H' s7 ∧ tn i s7.heap ∧ (∀ b ∈ fp, H' b = none) ∧ W i m σ' H' := fun {σ7 H7} I7 n7 => by
      obtain ⟨m', hm, w7⟩ := hN σ7 H7 n7
      refine ⟨m', hm, i + 1, σ7, H7, I7.unpinned, T.keep _ _ _ st5 fun b hb o e => (I7.pin (b, o) (List.mem_append_right _ (List.mem_append_right _ (mem_pinsAt hb e)))).1, fun b hb => ?_, w7⟩
      obtain ⟨o, e, d⟩ := T.obj _ _ st5 b hb
      exact (I7.pin (b, o) (List.mem_append_right _ (List.mem_append_right _ (mem_pinsAt hb e)))).2.1
    cases f with
    | next => obtain ⟨σ7, H7, I7, n7⟩ := q7; exact again I7 n7
    | cont => obtain ⟨σ7, H7, I7, n7⟩ := q7; exact again I7 n7
    | brk => obtain ⟨σ7, H7, I7, q7⟩ := q7; exact ⟨σ7, H7, I7.unpinned, q7⟩
    | ret v => obtain ⟨x7, σ7, H7, I7, r7, q7⟩ := q7; exact ⟨x7, σ7, H7, I7.unpinned, r7, q7⟩
end

/-! ### the forms one uses -/
theorem for_range {lo : Int} {n : Nat} {g : TG} {tb : TS} {D : Ends} {σ : St} {H : Hp} (Pv : Nat → St → Hp → Prop) (h0 : Pv 0 σ H)
    (hs : ∀ i σ H, i < n → Pv i σ H → g (.int (lo + i)) σ H fun σ2 H2 => tb { D with nx := Pv (i + 1), ct := Pv (i + 1), bk := D.nx } σ2 H2) (hd : ∀ σ H, Pv n σ H → D.nx σ H) :
    ∃ W : Nat → Nat → St → Hp → Prop, (∃ m, W 0 m σ H) ∧ ∀ i m σ H, W i m σ H →
      ((Itr lo n).stop i H ∧ D.nx σ H) ∨ ((Itr lo n).go i H ∧ ∃ N : St → Hp → Prop, (∀ σ' H', N σ' H' → ∃ m', m' < m ∧ W (i + 1) m' σ' H') ∧ ∀ x H', (Itr lo n).yld i H x H' → g x σ H' fun σ2 H2 => tb { D with nx := N, ct := N, bk := D.nx } σ2 H2) := by
  refine ⟨fun i m σ H => m = n - i ∧ i ≤ n ∧ Pv i σ H, ⟨n, by simp, Nat.zero_le _, h0⟩, ?_⟩
  rintro i m σ H ⟨rfl, hi, p⟩
  by_cases hlt : i < n
  · refine .inr ⟨hlt, Pv (i + 1), fun σ' H' p' => ⟨n - (i + 1), by omega, rfl, hlt, p'⟩, fun x H' y => ?_⟩
    obtain ⟨e, y⟩ := y
    subst e y
    exact hs i σ _ hlt p
  · have e : i = n := by omega
    subst e
    exact .inl ⟨Nat.le_refl _, hd σ H p⟩
end L2

namespace L2
open PySem PySem.Spec PyProof.Rows

noncomputable abbrev R2 := V → V → Hp → VK → Prop
/-- a two-place operation on values: f is binaryOp op, inplaceOp op or compareOp op -/
noncomputable def OpR (X : Cx) (f : Value → Value → Sem Value) (r : R2) : Prop :=
  ∀ (pins : List (Addr × Obj)) (s : Shared) (σ : St) (H : Hp) (x y : V) (v u : Value) (Q : VK), Inv X pins σ H s → RelV x v → RelV y u → r x y H Q →
    wpAny (model X.prog X.w) X.A (f v u) (EP X pins σ Q) X.xe s
/-- a one-place operation -/
noncomputable def UnR (X : Cx) (f : Value → Sem Value) (r : V → Hp → VK → Prop) : Prop :=
  ∀ (pins : List (Addr × Obj)) (s : Shared) (σ : St) (H : Hp) (x : V) (v : Value) (Q : VK), Inv X pins σ H s → RelV x v → r x H Q →
    wpAny (model X.prog X.w) X.A (f v) (EP X pins σ Q) X.xe s
/-- a call of a value that is known (a builtin, a type) with values -/
noncomputable def CallR (X : Cx) (f : Value) (r : List V → Hp → VK → Prop) : Prop :=
  ∀ (pins : List (Addr × Obj)) (s : Shared) (σ : St) (H : Hp) (xs : List V) (us : List Value) (Q : VK), Inv X pins σ H s → Vals xs us → r xs H Q →
    wpAny (model X.prog X.w) X.A (call f us) (EP X pins σ Q) X.xe s
noncomputable def tOp (r : R2) (ta tb : TE) : TE := fun σ H Q => ta σ H fun x H1 => tb σ H1 fun y H2 => r x y H2 Q
noncomputable def tUn (r : V → Hp → VK → Prop) (ta : TE) : TE := fun σ H Q => ta σ H fun x H1 => r x H1 Q
/-- ints in, under C, and a value out -/
noncomputable def rI (C : Int → Int → Prop) (g : Int → Int → V) : R2 := fun x y H Q => ∃ i j, x = .int i ∧ y = .int j ∧ C i j ∧ Q (g i j) H
noncomputable def rI0 (g : Int → Int → V) : R2 := fun x y H Q => ∃ i j, x = .int i ∧ y = .int j ∧ Q (g i j) H
noncomputable def rU (g : Int → V) : V → Hp → VK → Prop := fun x H Q => ∃ i, x = .int i ∧ Q (g i) H

section
variable {X : Cx} {a b c : Expr} {ta tb tc : TE} {pos : Pos}

theorem binT (ha : PE X a ta) (hb : PE X b tb) {pins : List (Addr × Obj)} {s : Shared} {σ : St} {H : Hp} {R : V → V → Hp → Prop} (I : Inv X pins σ H s)
    (h : ta σ H fun x H1 => tb σ H1 fun y H2 => R x y H2) {Q : Value → Shared → Prop} {f : Value → Value → Sem Value}
    (hf : ∀ v u s2 x y H2, Inv X pins σ H2 s2 → RelV x v → RelV y u → R x y H2 → wpAny (model X.prog X.w) X.A (f v u) Q X.xe s2) :
    wpAny (model X.prog X.w) X.A (eval a X.env) (fun v s₁ => wpAny (model X.prog X.w) X.A (eval b X.env) (fun u s₂ => wpAny (model X.prog X.w) X.A (f v u) Q X.xe s₂) X.xe s₁) X.xe s := by
  refine thn (ha pins s σ H _ I h) fun v s1 ⟨x, H1, I1, r1, q1⟩ => ?_
  refine thn (hb pins s1 σ H1 _ I1 q1) fun u s2 ⟨y, H2, I2, r2, q2⟩ => ?_
  exact hf v u s2 x y H2 I2 r1 r2 q2

theorem pe_op {op : Operator} {r : R2} (ho : OpR X (binaryOp op) r) (ha : PE X a ta) (hb : PE X b tb) : PE X (.BinOp a op b pos) (tOp r ta tb) := by
  intro pins s σ H Q I h
  exact wpAny_BinOp (binT ha hb I h fun v u s2 x y H2 I2 rx ry q => ho pins s2 σ H2 x y v u Q I2 rx ry q)
theorem pe_un {op : UnaryOp} {r : V → Hp → VK → Prop} (ho : UnR X (unaryOp op) r) (ha : PE X a ta) : PE X (.UnaryOp op a pos) (tUn r ta) := by
  intro pins s σ H Q I h
  exact UnaryOp_ (thn (ha pins s σ H _ I h) fun v s1 ⟨x, H1, I1, r1, q1⟩ => ho pins s1 σ H1 x v Q I1 r1 q1)
/-! ### ints -/
theorem opI {f : Value → Value → Sem Value} {C : Int → Int → Prop} {g : Int → Int → Int}
    (rule : ∀ (i j : Int) (t u : Tok) (s : Shared) (Q : Value → Shared → Prop) (E : Value → Shared → Prop), C i j → Q (.int (g i j) s.toks) { s with toks := s.toks + 1 } → wpAny (model X.prog X.w) X.A (f (.int i t) (.int j u)) Q E s) :
    OpR X f (rI C fun i j => .int (g i j)) := by
  intro pins s σ H x y v u Q I rx ry h
  obtain ⟨i, j, rfl, rfl, hc, q⟩ := h
  obtain ⟨t, rfl⟩ := rx
  obtain ⟨t', rfl⟩ := ry
  exact rule i j t t' s _ _ hc ⟨.int (g i j), H, I.tok _, ⟨_, rfl⟩, q⟩
theorem opI0 {f : Value → Value → Sem Value} {g : Int → Int → Int}
    (rule : ∀ (i j : Int) (t u : Tok) (s : Shared) (Q : Value → Shared → Prop) (E : Value → Shared → Prop), Q (.int (g i j) s.toks) { s with toks := s.toks + 1 } → wpAny (model X.prog X.w) X.A (f (.int i t) (.int j u)) Q E s) :
    OpR X f (rI0 fun i j => .int (g i j)) := by
  intro pins s σ H x y v u Q I rx ry h
  obtain ⟨i, j, rfl, rfl, q⟩ := h
  obtain ⟨t, rfl⟩ := rx
  obtain ⟨t', rfl⟩ := ry
  exact rule i j t t' s _ _ ⟨.int (g i j), H, I.tok _, ⟨_, rfl⟩, q⟩
theorem opB0 {f : Value → Value → Sem Value} {g : Int → Int → Bool}
    (rule : ∀ (i j : Int) (t u : Tok) (s : Shared) (Q : Value → Shared → Prop) (E : Value → Shared → Prop), Q (.bool (g i j)) s → wpAny (model X.prog X.w) X.A (f (.int i t) (.int j u)) Q E s) :
    OpR X f (rI0 fun i j => .bl (g i j)) := by
  intro pins s σ H x y v u Q I rx ry h
  obtain ⟨i, j, rfl, rfl, q⟩ := h
  obtain ⟨t, rfl⟩ := rx
  obtain ⟨t', rfl⟩ := ry
  exact rule i j t t' s _ _ ⟨.bl (g i j), H, I, rfl, q⟩

noncomputable def CPow (i j : Int) : Prop := 0 ≤ j ∧ j ≤ 1000000 ∧ i.natAbs < 2 ^ 64
noncomputable def CMul (i j : Int) : Prop := (-(2 ^ 64) < i ∧ i < 2 ^ 64) ∨ (-(2 ^ 64) < j ∧ j < 2 ^ 64)
theorem CMul.ok {i j : Int} (h : CMul i j) : IntMulOk i j := by
  rcases h with ⟨h1, h2⟩ | ⟨h1, h2⟩
  · exact .of_left (intBits_le_64 h1 h2)
  · exact .of_right (intBits_le_64 h1 h2)
theorem op_add : OpR X (binaryOp .Add) (rI0 fun i j => .int (i + j)) := opI0 fun _ _ _ _ _ _ _ q => add_int q
theorem op_sub : OpR X (binaryOp .Sub) (rI0 fun i j => .int (i - j)) := opI0 fun _ _ _ _ _ _ _ q => sub_int q
theorem op_mul : OpR X (binaryOp .Mult) (rI CMul fun i j => .int (i * j)) := opI fun _ _ _ _ _ _ _ hc q => mul_int q hc.ok
/-- % by a positive divisor of any size -/
theorem op_mod : OpR X (binaryOp .Mod) (rI (fun _ j => 0 < j) fun i j => .int (i % j)) := opI fun i j _ _ _ _ _ hc q => by
  have h1 : (0 : Int) < j := hc
  exact mod_int' (by omega) (by rw [Int.fmod_eq_emod_of_nonneg i (by omega)]; exact q)
theorem op_pow : OpR X (binaryOp .Pow) (rI CPow fun i j => .int (i ^ j.toNat)) := opI fun _ _ _ _ _ _ _ hc q => pow_int_small hc.1 hc.2.1 hc.2.2 q
theorem unI {f : Value → Sem Value} {g : Int → Int}
    (rule : ∀ (i : Int) (t : Tok) (s : Shared) (Q : Value → Shared → Prop) (E : Value → Shared → Prop), Q (.int (g i) s.toks) { s with toks := s.toks + 1 } → wpAny (model X.prog X.w) X.A (f (.int i t)) Q E s) :
    UnR X f (rU fun i => .int (g i)) := by
  intro pins s σ H x v Q I rx h
  obtain ⟨i, rfl, q⟩ := h
  obtain ⟨t, rfl⟩ := rx
  exact rule i t s _ _ ⟨.int (g i), H, I.tok _, ⟨_, rfl⟩, q⟩
theorem un_neg : UnR X (unaryOp .USub) (rU fun i => .int (-i)) := unI fun _ _ _ _ _ q => neg_int q
/-! ### bools among ints: n += (a < b) -/
end

/-! ### comparisons -/
/-- the scalars that == tells apart as data does -/
noncomputable def scal : V → V → Bool
  | .non, .non => true | .non, .int _ => true | .int _, .non => true | .non, .bl _ => true | .bl _, .non => true | .non, .str _ => true | .str _, .non => true
  | .int _, .int _ => true | .bl _, .bl _ => true | .str _, .str _ => true | .byt _, .byt _ => true
  | .int _, .str _ => true | .str _, .int _ => true | .bl _, .str _ => true | .str _, .bl _ => true
  | _, _ => false
noncomputable def rEq : R2 := fun x y H Q => scal x y = true ∧ Q (.bl (decide (x = y))) H
noncomputable def rNe : R2 := fun x y H Q => scal x y = true ∧ Q (.bl (!decide (x = y))) H

theorem dec_int {i j : Int} : decide (V.int i = V.int j) = (i == j) := by
  rw [Bool.eq_iff_iff]
  simp
theorem dec_bl {i j : Bool} : decide (V.bl i = V.bl j) = (i == j) := by
  rw [Bool.eq_iff_iff]
  simp
theorem dec_str {i j : Str} : decide (V.str i = V.str j) = (i == j) := by
  rw [Bool.eq_iff_iff]
  simp
theorem dec_byt {i j : Array UInt8} : decide (V.byt i = V.byt j) = (i.toList == j.toList) := by
  rw [Bool.eq_iff_iff]
  cases i
  cases j
  simp

section
variable {X : Cx} {a b c : Expr} {ta tb tc : TE} {pos : Pos}
theorem fin_bl {pins : List (Addr × Obj)} {σ : St} {H : Hp} {s : Shared} {Q : VK} {k k' : Bool} (I : Inv X pins σ H s) (q : Q (.bl k) H) (e : k = k') : EP X pins σ Q (.bool k') s := by
  subst e
  exact ⟨.bl k, H, I, rfl, q⟩
theorem op_eq : OpR X (compareOp .Eq) rEq := by
  intro pins s σ H x y v u Q I rx ry h
  obtain ⟨hs, q⟩ := h
  cases x with
  | non =>
    cases rx
    cases y with
    | non => cases ry; exact PySem.EqNone.eq_none_none (fin_bl I q (by simp))
    | bl j => cases ry; exact PySem.EqNone.eq_none_bool (fin_bl I q (by simp))
    | int j => obtain ⟨t', rfl⟩ := ry; exact PySem.EqNone.eq_none_int (fin_bl I q (by simp))
    | str j => obtain ⟨t', rfl⟩ := ry; exact PySem.EqNone.eq_none_str (fin_bl I q (by simp))
    | _ => exact absurd (show false = true from hs) Bool.false_ne_true
  | bl i =>
    cases rx
    cases y with
    | non => cases ry; exact PySem.EqNone.eq_bool_none (fin_bl I q (by simp))
    | bl j => cases ry; exact eq_bool (fin_bl I q dec_bl)
    | str j => obtain ⟨t', rfl⟩ := ry; exact PySem.EqMixed.eq_bool_str (fin_bl I q (by simp))
    | _ => exact absurd (show false = true from hs) Bool.false_ne_true
  | int i =>
    obtain ⟨t, rfl⟩ := rx
    cases y with
    | non => cases ry; exact PySem.EqNone.eq_int_none (fin_bl I q (by simp))
    | int j => obtain ⟨t', rfl⟩ := ry; exact eq_int (fin_bl I q dec_int)
    | str j => obtain ⟨t', rfl⟩ := ry; exact PySem.EqMixed.eq_int_str (fin_bl I q (by simp))
    | _ => exact absurd (show false = true from hs) Bool.false_ne_true
  | str i =>
    obtain ⟨t, rfl⟩ := rx
    cases y with
    | non => cases ry; exact PySem.EqNone.eq_str_none (fin_bl I q (by simp))
    | bl j => cases ry; exact PySem.EqMixed.eq_str_bool (fin_bl I q (by simp))
    | int j => obtain ⟨t', rfl⟩ := ry; exact PySem.EqMixed.eq_str_int (fin_bl I q (by simp))
    | str j => obtain ⟨t', rfl⟩ := ry; exact eq_str (fin_bl I q dec_str)
    | _ => exact absurd (show false = true from hs) Bool.false_ne_true
  | byt i =>
    obtain ⟨t, rfl⟩ := rx
    cases y with
    | byt j => obtain ⟨t', rfl⟩ := ry; exact PySem.W.eq_bytes (fin_bl I q dec_byt)
    | _ => exact absurd (show false = true from hs) Bool.false_ne_true
  | _ => cases y <;> exact absurd (show false = true from hs) Bool.false_ne_true
theorem op_ne : OpR X (compareOp .NotEq) rNe := by
  intro pins s σ H x y v u Q I rx ry h
  obtain ⟨hs, q⟩ := h
  cases x with
  | non =>
    cases rx
    cases y with
    | non => cases ry; exact PySem.EqNone.ne_none_none (fin_bl I q (by simp))
    | bl j => cases ry; exact PySem.EqNone.ne_none_bool (fin_bl I q (by simp))
    | int j => obtain ⟨t', rfl⟩ := ry; exact PySem.EqNone.ne_none_int (fin_bl I q (by simp))
    | str j => obtain ⟨t', rfl⟩ := ry; exact PySem.EqNone.ne_none_str (fin_bl I q (by simp))
    | _ => exact absurd (show false = true from hs) Bool.false_ne_true
  | bl i =>
    cases rx
    cases y with
    | non => cases ry; exact PySem.EqNone.ne_bool_none (fin_bl I q (by simp))
    | bl j => cases ry; exact ne_bool (fin_bl I q (congrArg not dec_bl))
    | str j => obtain ⟨t', rfl⟩ := ry; exact PySem.EqMixed.ne_bool_str (fin_bl I q (by simp))
    | _ => exact absurd (show false = true from hs) Bool.false_ne_true
  | int i =>
    obtain ⟨t, rfl⟩ := rx
    cases y with
    | non => cases ry; exact PySem.EqNone.ne_int_none (fin_bl I q (by simp))
    | int j => obtain ⟨t', rfl⟩ := ry; exact ne_int (fin_bl I q (congrArg not dec_int))
    | str j => obtain ⟨t', rfl⟩ := ry; exact PySem.EqMixed.ne_int_str (fin_bl I q (by simp))
    | _ => exact absurd (show false = true from hs) Bool.false_ne_true
  | str i =>
    obtain ⟨t, rfl⟩ := rx
    cases y with
    | non => cases ry; exact PySem.EqNone.ne_str_none (fin_bl I q (by simp))
    | bl j => cases ry; exact PySem.EqMixed.ne_str_bool (fin_bl I q (by simp))
    | int j => obtain ⟨t', rfl⟩ := ry; exact PySem.EqMixed.ne_str_int (fin_bl I q (by simp))
    | str j => obtain ⟨t', rfl⟩ := ry; exact ne_str (fin_bl I q (congrArg not dec_str))
    | _ => exact absurd (show false = true from hs) Bool.false_ne_true
  | byt i =>
    obtain ⟨t, rfl⟩ := rx
    cases y with
    | byt j => obtain ⟨t', rfl⟩ := ry; exact PySem.W.ne_bytes (fin_bl I q (congrArg not dec_byt))
    | _ => exact absurd (show false = true from hs) Bool.false_ne_true
  | _ => cases y <;> exact absurd (show false = true from hs) Bool.false_ne_true

theorem op_lt : OpR X (compareOp .Lt) (rI0 fun i j => .bl (decide (i < j))) := opB0 fun _ _ _ _ _ _ _ q => lt_int q
theorem op_gt : OpR X (compareOp .Gt) (rI0 fun i j => .bl (decide (j < i))) := opB0 fun _ _ _ _ _ _ _ q => gt_int q
/-- is None, is not None: the right side a value none -/
theorem op_isN : OpR X (compareOp .Is) (fun x y H Q => y = .non ∧ Q (.bl (decide (x = .non))) H) := by
  intro pins s σ H x y v u Q I rx ry h
  obtain ⟨rfl, q⟩ := h
  cases ry
  refine is_none_gen (fin_bl I q ?_)
  cases x <;> first
    | (cases rx; rfl)
    | (obtain ⟨t, rfl⟩ := rx; rfl)
theorem op_notN : OpR X (compareOp .IsNot) (fun x y H Q => y = .non ∧ Q (.bl (!decide (x = .non))) H) := by
  intro pins s σ H x y v u Q I rx ry h
  obtain ⟨rfl, q⟩ := h
  cases ry
  refine isnot_none_gen (fin_bl I q ?_)
  cases x <;> first
    | (cases rx; rfl)
    | (obtain ⟨t, rfl⟩ := rx; rfl)

theorem nomark (b : Expr) {op : CmpOp} (h : op ≠ .In := by decide) (h2 : op ≠ .NotIn := by decide) : behindInMarks op b = false := by
  have e1 : (op == CmpOp.In) = false := by cases op <;> first | rfl | exact absurd rfl h
  have e2 : (op == CmpOp.NotIn) = false := by cases op <;> first | rfl | exact absurd rfl h2
  cases b <;> simp [behindInMarks, e1, e2]
/-- a comparison as a value; hm: nomark b, or (for in, not in) by with_unfolding_all rfl -/
theorem pe_cmpR {op : CmpOp} {r : R2} (ho : OpR X (compareOp op) r) (ha : PE X a ta) (hb : PE X b tb) (hm : behindInMarks op b = false) : PE X (.Compare a [op] [b] pos) (tOp r ta tb) := by
  intro pins s σ H Q I h
  exact wpAny_Compare1 (binT ha hb I h fun v u s2 x y H2 I2 rx ry q => ho pins s2 σ H2 x y v u Q I2 rx ry q) hm
/-- a reading of a value as a test -/
noncomputable def tTest (t : TE) : TT := fun σ H Q => t σ H fun x H' => ∃ k, x = .bl k ∧ Q k H'
theorem pt_cmpR {op : CmpOp} {r : R2} (ho : OpR X (compareOp op) r) (ha : PE X a ta) (hb : PE X b tb) (hm : behindInMarks op b = false) : PT X (.Compare a [op] [b] pos) (tTest (tOp r ta tb)) := by
  intro pins s σ H Q I h
  refine wpAny_isTrue_Compare1 (thn (ha pins s σ H _ I h) fun v s1 ⟨x, H1, I1, r1, q1⟩ => thn (hb pins s1 σ H1 _ I1 q1) fun u s2 ⟨y, H2, I2, r2, q2⟩ =>
    thn (ho pins s2 σ H2 x y v u _ I2 r1 r2 q2) fun c s3 ⟨z, H3, I3, r3, k, e, q3⟩ => ?_) hm
  subst e
  cases r3
  exact wpAny_truthy_bool ⟨H3, I3, q3⟩
/-! ### truth -/
theorem line63 : (sizeLine : Nat) < 2 ^ 63 := by rw [sizeLine_eq]; decide
/-! ### strs and bytes -/
theorem op_add_str : OpR X (binaryOp .Add) (fun x y H Q => ∃ i j, x = .str i ∧ y = .str j ∧ i.length + j.length ≤ sizeLine ∧ Q (.str (i ++ j)) H) := by
  intro pins s σ H x y v u Q I rx ry h
  obtain ⟨i, j, rfl, rfl, hz, q⟩ := h
  obtain ⟨t, rfl⟩ := rx
  obtain ⟨t', rfl⟩ := ry
  exact add_str (fun t' tk => ⟨.str (i ++ j), H, I.tok _, ⟨_, rfl⟩, q⟩) hz
/-! ### scalar builtins, by CallR -/
theorem vals1 {x : V} {us : List Value} (r : Vals [x] us) : ∃ u, us = [u] ∧ RelV x u := by
  cases r with
  | cons r1 r2 => cases r2; exact ⟨_, rfl, r1⟩
end
end L2

namespace L2
open PySem PySem.Spec PyProof.Rows

/-! ### an instance, its attributes a map -/
structure ObjM (h : Heap) (x dx C : Addr) (mA : Str → Option Value) : Prop where
  obj : h.get? x = some (PySem.W.instObj C dx)
  ns : h.Ns1 dx mA
  ne : dx ≠ x

theorem lookIn_ns {h : Heap} {dx : Addr} {mA : Str → Option Value} (n : h.Ns1 dx mA) : ∃ od, h.get? dx = some od ∧ ∀ name, PySem.W.lookIn name od = some (mA name) := by
  obtain ⟨o, es, ep, ho, hd, hk, _, hm⟩ := n
  refine ⟨o, ho, fun name => ?_⟩
  have e := hm name
  unfold nsFind findBy at e
  rw [← Array.find?_toList] at e
  unfold PySem.W.lookIn
  rw [hd]
  dsimp only
  split
  · rename_i y q
    rw [q] at e
    exact congrArg some e
  · rename_i q
    rw [q] at e
    have a : es.toList.any (·.refKey) = false := by
      rw [List.any_eq_false]
      intro y hy
      obtain ⟨z, t, hkey⟩ := hk y (Array.mem_toList_iff.mp hy)
      simp [DictEntry.refKey, hkey]
    have a' : ¬ es.toList.any (·.refKey) = true := by rw [a]; exact Bool.false_ne_true
    rw [if_neg a']
    exact congrArg some e

theorem ObjM.look {h : Heap} {x dx C : Addr} {mA : Str → Option Value} (I : ObjM h x dx C mA) : ∃ od, PySem.W.InstAt h x (PySem.W.instObj C dx) C (some od) ∧ ∀ name, PySem.W.lookIn name od = some (mA name) :=
  let ⟨od, ho, hl⟩ := lookIn_ns I.ns
  ⟨od, ⟨I.obj, rfl, rfl, ho⟩, hl⟩

section
variable {prog : Program} {w : World} {A : Around} {E : Value → Shared → Prop} {s : Shared} {K : PySem.W.Frag} {x dx C f : Addr} {mA : Str → Option Value} {name : Str} {v : Value}

theorem get_map {expr : Bool} {Q : Value → Shared → Prop} (X : K.In s.heap) (I : ObjM s.heap x dx C mA) (hg : PySem.W.plainGet K C name = true) (hh : PySem.W.hasDictIn K C = true)
    (ha : PySem.W.findIn K (.ref C) name = some none) (hv : mA name = some v) (hv' : PySem.W.handedIn v = true) (h : Q v { s with toks := s.toks + 1 }) :
    wpAny (model prog w) A (getAttr (.ref x) name expr) Q E s := by
  obtain ⟨od, J, hl⟩ := I.look
  exact PySem.W.get_value X J (PySem.W.plainGet_of hg).1 (PySem.W.findObj_own hh ha rfl (by rw [hl, hv])) hv' h

theorem get_meth {pl : Sem Bool} {Q : Value × List Value → Shared → Prop} (X : K.In s.heap) (I : ObjM s.heap x dx C mA) (hg : PySem.W.plainGet K C name = true)
    (hf : PySem.W.findIn K (.ref C) name = some (some (.ref f))) (ht : PySem.W.isFn K (.ref f) = true) (hv : mA name = none) (h : Q (.ref f, [.ref x]) s) :
    wpAny (model prog w) A (getMethod (.ref x) name pl) Q E s := by
  obtain ⟨od, J, hl⟩ := I.look
  exact PySem.W.method_fn X J (PySem.W.plainGet_of hg).1 (PySem.W.plainGet_of hg).2 hf (beq_iff_eq.mp ht) (by show (PySem.W.lookIn name od).map (·.isSome) = some false; rw [hl, hv]; rfl) h

theorem set_map {ns : List Str} {Q : Unit → Shared → Prop} (X : K.In s.heap) (I : ObjM s.heap x dx C mA)
    (hs : PySem.W.findIn K (.ref C) "__setattr__" = some (some (.builtin "object.__setattr__"))) (hp : PySem.W.plainOver K C = true) (ht : PySem.W.takerIn K C name = some none) (hh : PySem.W.hasDictIn K C = true)
    (hw : PySem.Within mA ns) (hsz : ns.length ≤ sizeLine)
    (h : ∀ h', ObjM h' x dx C (fun y => if y = name then some v else mA y) → Heap.SameBut dx s.heap h' → Q () { s with heap := h', toks := s.toks + 2 }) :
    wpAny (model prog w) A (setAttr (.ref x) name v) Q E s := by
  obtain ⟨od, J, hl⟩ := I.look
  refine PySem.W.set_plain X J hs (PySem.W.osa_open (s := { s with toks := s.toks + 1 }) (r := none) X J hp ht fun b => ?_)
  obtain ⟨cd, hc, hd'⟩ := PySem.W.any_some hh
  have hx : s.heap.get? x = some ⟨.ref C, some dx, .plain, #[]⟩ := I.obj
  refine wpAny_bind (wpAny_pure (wpAny_bind (wpAny_bind (wpAny_loadPart hx (wpAny_bind (PySem.W.Looks.here (s := { s with toks := s.toks + 1 }) (PySem.W.looks_clsIn X hc) ?_))))))
  rw [hd']
  refine wpAny_pure (a := some dx) (wpAny_bind (wpAny_pure (wpAny_bind ?_)))
  refine wpAny_nsSet1 (s := { s with toks := s.toks + 1 }) I.ns fun h' hn2 hs2 => ?_
  obtain ⟨oD, esD, epD, hoD, hdD, hcD⟩ := hn2.count (PySem.Within.cons name v hw)
  refine wpAny_bind (wpAny_lookBehind hoD (by rw [hdD]; exact pastItsLine_dict (Nat.le_trans hcD (by rw [List.length_cons]; omega))) ?_)
  exact wpAny_pure (h _ ⟨(hs2.2 _ (Ne.symm I.ne)).trans I.obj, hn2, I.ne⟩ hs2)

/-- C(..): the dict at the heap's end, the instance behind it; then its __init__ -/
theorem make_map {R : Result → Shared → Prop} {vs : List Value} {kw : List (Str × Value)} (X : K.In s.heap) (hm : PySem.W.makesIn K C = true)
    (hi : PySem.W.findIn K (.ref C) "__init__" = some (some (.ref f))) (hf : PySem.W.typeIn K (.ref f) = some (.type "function"))
    (h : codeAny (model prog w) (A.under (.builtin "type.__call__" ⟨.ref C :: vs, kw⟩)) (.call (.ref f) ⟨.ref (s.heap.objs.size + 1) :: vs, kw⟩) (PySem.W.InitBack (s.heap.objs.size + 1) R)
      { s with heap := (s.heap.push PySem.W.emptyDict).push (PySem.W.instObj C s.heap.objs.size) }) :
    codeAny (model prog w) A (.call (.ref C) ⟨vs, kw⟩) R s := by
  obtain ⟨hh, g, d, t, os⟩ := s
  exact PySem.W.make_core (PySem.W.makes_of X hm) (PySem.W.looks_findIn X hi) (fun self => PySem.W.bind_fn X self hf) (.inl rfl) h
end

/-! ### the attributes as a list of pairs -/
noncomputable def putF (f : Str) (v : V) : List (Str × V) → List (Str × V)
  | [] => [(f, v)]
  | (g, x) :: r => if g = f then (g, v) :: r else (g, x) :: putF f v r
theorem lookup_putF (f g : Str) (v : V) : ∀ fs : List (Str × V), (putF f v fs).lookup g = if g = f then some v else fs.lookup g
  | [] => by
    show List.lookup g [(f, v)] = _
    by_cases h : g = f
    · have hb : (g == f) = true := beq_iff_eq.mpr h
      simp only [List.lookup, hb, if_pos h]
    · have hb : (g == f) = false := beq_eq_false_iff_ne.mpr h
      simp only [List.lookup, hb, if_neg h]
  | (k, x) :: r => by
    have ih := lookup_putF f g v r
    rw [show putF f v ((k, x) :: r) = (if k = f then (k, v) :: r else (k, x) :: putF f v r) from rfl]
    by_cases hk : k = f
    · rw [if_pos hk]
      by_cases h : g = k
      · have hb : (g == k) = true := beq_iff_eq.mpr h
        simp only [List.lookup, hb, if_pos (h.trans hk)]
      · have hb : (g == k) = false := beq_eq_false_iff_ne.mpr h
        simp only [List.lookup, hb, if_neg (fun e : g = f => h (e.trans hk.symm))]
    · rw [if_neg hk]
      by_cases h : g = k
      · have hb : (g == k) = true := beq_iff_eq.mpr h
        simp only [List.lookup, hb, if_neg (fun e : g = f => hk (h.symm.trans e))]
      · have hb : (g == k) = false := beq_eq_false_iff_ne.mpr h
        simp only [List.lookup, hb]
        exact ih
theorem keys_putF (f : Str) (v : V) : ∀ fs : List (Str × V), f ∈ (putF f v fs).map (·.1) ∧ ∀ g, g ∈ fs.map (·.1) → g ∈ (putF f v fs).map (·.1)
  | [] => ⟨by simp [putF], fun g h => by simp at h⟩
  | (k, x) :: r => by
    obtain ⟨i1, i2⟩ := keys_putF f v r
    rw [show putF f v ((k, x) :: r) = (if k = f then (k, v) :: r else (k, x) :: putF f v r) from rfl]
    by_cases hk : k = f
    · rw [if_pos hk]
      subst hk
      exact ⟨by simp, fun g h => by simpa using h⟩
    · rw [if_neg hk]
      refine ⟨?_, fun g h => ?_⟩
      · rw [List.map_cons]
        exact List.mem_cons_of_mem _ i1
      · rw [List.map_cons] at h ⊢
        rcases List.mem_cons.mp h with e | e
        · exact List.mem_cons.mpr (.inl e)
        · exact List.mem_cons_of_mem _ (i2 g e)
theorem length_putF (f : Str) (v : V) : ∀ fs : List (Str × V), (putF f v fs).length ≤ fs.length + 1
  | [] => by simp [putF]
  | (k, x) :: r => by
    have ih := length_putF f v r
    rw [show putF f v ((k, x) :: r) = (if k = f then (k, v) :: r else (k, x) :: putF f v r) from rfl]
    by_cases hk : k = f
    · rw [if_pos hk, List.length_cons, List.length_cons]; omega
    · rw [if_neg hk, List.length_cons, List.length_cons]; omega

theorem RelO.some_of {v : V} {o : Option Value} (r : RelO (some v) o) : ∃ u, o = some u ∧ RelV v u := by
  cases o with
  | none => exact (show False from r).elim
  | some u => exact ⟨u, rfl, r⟩
theorem RelO.none_of {o : Option Value} (r : RelO none o) : o = none := by
  cases o with
  | none => rfl
  | some u => exact (show False from r).elim
theorem handed_of {v : V} {u : Value} (r : RelV v u) : PySem.W.handedIn u = true := by
  cases v with
  | non => cases (show u = Value.none from r); rfl
  | bl b => cases (show u = Value.bool b from r); rfl
  | int i => obtain ⟨t, e⟩ := (show ∃ t, u = Value.int i t from r); cases e; rfl
  | str x => obtain ⟨t, e⟩ := (show ∃ t, u = Value.str x t from r); cases e; rfl
  | byt b => obtain ⟨t, e⟩ := (show ∃ t, u = Value.bytes b t from r); cases e; rfl
  | flt b => obtain ⟨t, e⟩ := (show ∃ t, u = Value.float b t from r); cases e; rfl
  | ref a => cases (show u = Value.ref a from r); rfl
  | ty n => cases (show u = Value.type n from r); rfl

section
variable {P : Program} {w : World} {H H' : Hp} {h h' : Heap} {a C dx : Addr} {fs fs' : List (Str × V)}
theorem ins_get (hok : HOk P w H h) (e : H a = some (.ins C dx fs)) : ∃ mA, ObjM h a dx C mA ∧ (∀ f, RelO (fs.lookup f) (mA f)) ∧ PySem.Within mA (fs.map (·.1)) ∧ fs.length ≤ 1000 ∧ H dx = some (.own a) := by
  obtain ⟨d, z, ne, ob, mA, n, r, q⟩ := (show ObjOk P w H h a (.ins C dx fs) from hok a _ e)
  exact ⟨mA, ⟨ob, n, ne⟩, r, q, z, d⟩
end

/-! ### what of the text a class must have -/
structure Cls (K : PySem.W.Frag) (C : Addr) : Prop where
  pg : PySem.W.plainGet K C Str.empty = true
  hd : PySem.W.hasDictIn K C = true
  po : PySem.W.plainOver K C = true
  sa : PySem.W.findIn K (.ref C) "__setattr__" = some (some (.builtin "object.__setattr__"))
theorem Cls.get {K : PySem.W.Frag} {C : Addr} (c : Cls K C) (f : Str) : PySem.W.plainGet K C f = true := c.pg
/-- no class of it has the name -/
noncomputable def NoAttr (K : PySem.W.Frag) (C : Addr) (f : Str) : Prop := PySem.W.findIn K (.ref C) f = some none
theorem NoAttr.taker {K : PySem.W.Frag} {C : Addr} {f : Str} (n : NoAttr K C f) : PySem.W.takerIn K C f = some none := by
  unfold PySem.W.takerIn
  rw [show PySem.W.findIn K (.ref C) f = some none from n]
  rfl
/-- a constant of the class -/
structure Con (K : PySem.W.Frag) (C : Addr) (f : Str) (v : V) (u : Value) : Prop where
  at_ : PySem.W.findIn K (.ref C) f = some (some u)
  rel : RelV v u
  get : PySem.W.specialIn K u "__get__" = some none
  cp : PySem.W.copiedNames.contains f = false
/-- a method: a plain def of the class or of one above it -/
structure Meth (K : PySem.W.Frag) (C : Addr) (m : Str) (f : Addr) : Prop where
  at_ : PySem.W.findIn K (.ref C) m = some (some (.ref f))
  fn : PySem.W.isFn K (.ref f) = true
  kp : PySem.W.keepIn K (.ref f) = true

section
variable {X : Cx} {pins : List (Addr × Obj)} {σ : St} {H : Hp} {s : Shared} {a C dx : Addr} {fs : List (Str × V)} {f : Str} {v : V} {A : Around} {E : Value → Shared → Prop}

theorem getattr_ok {b : Bool} {Q : Value → Shared → Prop} (I : Inv X pins σ H s) (e : H a = some (.ins C dx fs)) (c : Cls X.K C) (n : NoAttr X.K C f) (l : fs.lookup f = some v)
    (h : ∀ u s', Inv X pins σ H s' → RelV v u → Q u s') : wpAny (model X.prog X.w) A (getAttr (.ref a) f b) Q E s := by
  obtain ⟨mA, O, r, _, _, _⟩ := ins_get I.hok e
  obtain ⟨u, hu, ru⟩ := RelO.some_of (v := v) (o := mA f) (by rw [← l]; exact r f)
  exact get_map I.kIn O (c.get f) c.hd n hu (handed_of ru) (h u _ (I.tok _) ru)

theorem getmeth_ok {m : Str} {g : Addr} {pl : Sem Bool} {Q : Value × List Value → Shared → Prop} (I : Inv X pins σ H s) (e : H a = some (.ins C dx fs)) (c : Cls X.K C) (k : Meth X.K C m g) (l : fs.lookup m = none)
    (h : Q (.ref g, [.ref a]) s) : wpAny (model X.prog X.w) A (getMethod (.ref a) m pl) Q E s := by
  obtain ⟨mA, O, r, _, _, _⟩ := ins_get I.hok e
  have hn : mA m = none := RelO.none_of (by rw [← l]; exact r m)
  exact get_meth I.kIn O (c.get m) k.at_ k.fn hn h

theorem setattr_ok {y : V} {u : Value} {Q : Unit → Shared → Prop} (I : Inv X pins σ H s) (e : H a = some (.ins C dx fs)) (c : Cls X.K C) (n : NoAttr X.K C f) (hl : fs.length < 1000) (ry : RelV y u)
    (h : ∀ s', Inv X pins σ (upd H a (.ins C dx (putF f y fs))) s' → Q () s') : wpAny (model X.prog X.w) A (setAttr (.ref a) f u) Q E s := by
  obtain ⟨mA, O, r, wi, _, ho⟩ := ins_get I.hok e
  have hz : (fs.map (·.1)).length ≤ sizeLine := by rw [List.length_map, sizeLine_eq]; omega
  refine set_map I.kIn O c.sa c.po n.taker c.hd wi hz fun h' O' sb => h _ ?_
  have hd : ∃ o, h'.get? dx = some o := let ⟨o, _, _, e', _⟩ := O'.ns; ⟨o, e'⟩
  refine I.write (x := a) (e := dx) (by rw [e]; exact True.intro) (.inr ho) (fun b q hb z => (sb.2 b hb).trans z) hd ?_
  refine ⟨by rw [upd_ne O.ne]; exact ho, ?_, O.ne, O'.obj, _, O'.ns, fun g => ?_, fun g hg => ?_⟩
  · have := length_putF f y fs; omega
  · show RelO ((putF f y fs).lookup g) (if g = f then some u else mA g)
    rw [lookup_putF]
    by_cases q : g = f
    · rw [if_pos q, if_pos q]; exact ry
    · rw [if_neg q, if_neg q]; exact r g
  · by_cases q : g = f
    · rw [q]; exact (keys_putF f y fs).1
    · refine (keys_putF f y fs).2 g (wi g fun z => hg ?_)
      show (if g = f then some u else mA g) = none
      rw [if_neg q]; exact z

/-- a new instance, tracked, without attributes -/
theorem Inv.made (I : Inv X pins σ H s) : Inv X pins σ (upd (upd H s.heap.objs.size (.own (s.heap.objs.size + 1))) (s.heap.objs.size + 1) (.ins C s.heap.objs.size []))
    { s with heap := (s.heap.push PySem.W.emptyDict).push (PySem.W.instObj C s.heap.objs.size) } := by
  have e1 : (s.heap.push PySem.W.emptyDict).get? s.heap.objs.size = some PySem.W.emptyDict := Heap.get?_push_size s.heap rfl
  have e2 : ((s.heap.push PySem.W.emptyDict).push (PySem.W.instObj C s.heap.objs.size)).get? (s.heap.objs.size + 1) = some (PySem.W.instObj C s.heap.objs.size) := by
    have := Heap.get?_push_size (s.heap.push PySem.W.emptyDict) (o := PySem.W.instObj C s.heap.objs.size) rfl
    rwa [Heap.size_push] at this
  have e3 : (s.heap.push PySem.W.emptyDict).Ns s.heap.objs.size (fun _ => none) := ⟨PySem.W.emptyDict, #[], _, e1, rfl, (fun e he => absurd he (by simp)), fun _ => rfl⟩
  have I1 := I.laid (a := s.heap.objs.size) (o := .own (s.heap.objs.size + 1)) (h' := s.heap.push PySem.W.emptyDict) (t' := s.toks) (fun b u q => Heap.get?_push_of_some _ q) (Nat.le_refl _) ⟨_, e1⟩
  refine I1.laid (a := s.heap.objs.size + 1) (o := .ins C s.heap.objs.size []) (t' := s.toks) (fun b u q => Heap.get?_push_of_some _ q) (Nat.le_of_eq (Heap.size_push _ _)) ?_
  have ne : s.heap.objs.size ≠ s.heap.objs.size + 1 := Nat.ne_of_lt (Nat.lt_succ_self _)
  refine ⟨by rw [upd_ne ne, upd_same], Nat.zero_le _, ne, e2, fun _ => none, (Heap.Ns1.of_empty e3).at fun o q => Heap.get?_push_of_some _ q, fun _ => True.intro, fun y hy => absurd rfl hy⟩

/-- e.f where nothing but the object is asked: through attributeBase (super) and the last hold -/
theorem attr_of {prog : Program} {w : World} {env : Env} {e : Expr} {f : Str} {pos : Pos} {s : Shared} {Q : Value → Shared → Prop} (hb : attributeBase e f env (eval e env) = eval e env)
    (h : wpAny (model prog w) A (eval e env) (fun o s₁ => wpAny (model prog w) A (getAttr o f true) Q E s₁) E s) : wpAny (model prog w) A (eval (.Attribute e f pos) env) Q E s :=
  Attribute_any_ h (by rw [arm_eval_Attribute, hb])
end

/-! ### readings and rules -/
/-- e.f, an attribute of the instance -/
noncomputable def tFld (K : PySem.W.Frag) (ta : TE) (f : Str) : TE := fun σ H Q => ta σ H fun x H1 => ∃ a C dx fs v, x = .ref a ∧ H1 a = some (.ins C dx fs) ∧ Cls K C ∧ NoAttr K C f ∧ fs.lookup f = some v ∧ Q v H1
/-- e.f = value -/
noncomputable def sFld (K : PySem.W.Frag) (ta tv : TE) (f : Str) : TS := fun D σ H => tv σ H fun y H1 => ta σ H1 fun x H2 => ∃ a C dx fs, x = .ref a ∧ H2 a = some (.ins C dx fs) ∧ Cls K C ∧ NoAttr K C f ∧ fs.length < 1000 ∧
  D.nx σ (upd H2 a (.ins C dx (putF f y fs)))
section
variable {X : Cx} {o e value : Expr} {f : Str} {pos pos' tpos : Pos} {ta tv : TE}
theorem pe_fld (he : PE X e ta) (hb : attributeBase e f X.env (eval e X.env) = eval e X.env) : PE X (.Attribute e f pos) (tFld X.K ta f) := by
  intro pins s σ H Q I h
  refine attr_of hb (thn (he pins s σ H _ I h) fun u s1 ⟨x, H1, I1, rx, a, C, dx, fs, v, ex, ea, c, n, l, q⟩ => ?_)
  subst ex
  obtain rfl : u = Value.ref a := rx
  exact getattr_ok I1 ea c n l fun u' s2 I2 ru => ⟨v, H1, I2, ru, q⟩
theorem ps_fld (ha : PE X o ta) (hv : PE X value tv) (hs : swapsWith value (some (.Attribute o f pos')) pos.line X.env = pure false) : PS X (.Assign [.Attribute o f pos'] value pos) (sFld X.K ta tv f) := by
  intro pins s σ H D I h
  refine plainObj_wpAny_Assign_Attribute (thn (hv pins s σ H _ I h) fun u s1 ⟨y, H1, I1, ry, q⟩ => thn (ha pins s1 σ H1 _ I1 q) fun ov s2 ⟨x, H2, I2, rx, a, C, dx, fs, ex, ea, c, n, l, q2⟩ => ?_) hs
  subst ex
  obtain rfl : ov = Value.ref a := rx
  exact setattr_ok I2 ea c n l ry fun s3 I3 => ⟨σ, _, I3, q2⟩
end

/-! ### isinstance -/
section
variable {X : Cx} {pins : List (Addr × Obj)} {σ : St} {H : Hp} {s : Shared} {A : Around} {E : Value → Shared → Prop} {Q : Value → Shared → Prop} {c : Value} {b : Bool}
/-- the type of a value, as the fragment's deciders take it; for an instance its class -/
inductive TyOf (K : PySem.W.Frag) (H : Hp) : V → Value → Prop where
  | non : TyOf K H .non (.type "NoneType")
  | bl (x : Bool) : TyOf K H (.bl x) (.type "bool")
  | int (i : Int) : TyOf K H (.int i) (.type "int")
  | str (x : Str) : TyOf K H (.str x) (.type "str")
  | flt (x : UInt64) : TyOf K H (.flt x) (.type "float")
  | lst {a : Addr} {xs : List V} (e : H a = some (.lst xs)) : TyOf K H (.ref a) (.type "list")
  | frz {a : Addr} {o : Obj} {xs : List V} (e : H a = some (.frz o (.lst xs))) : TyOf K H (.ref a) (.type "list")
  | tup {a : Addr} {xs : List V} (e : H a = some (.tup xs)) : TyOf K H (.ref a) (.type "tuple")
  | dK {a : Addr} {kvs : List (Key × V)} (e : H a = some (.dK kvs)) : TyOf K H (.ref a) (.type "dict")
  | dT {a : Addr} {kvs : List (List Key × V)} (e : H a = some (.dT kvs)) : TyOf K H (.ref a) (.type "dict")
  | ins {a C dx : Addr} {fs : List (Str × V)} (e : H a = some (.ins C dx fs)) (cl : Cls K C) (ha : PySem.W.findIn K (.ref C) "__class__" = some (some (.builtin "object.__class__")))
      (hn : PySem.W.specialIn K (.builtin "object.__class__") "__get__" = some (some (.builtin "getset_descriptor.__get__"))) (htk : PySem.W.takesIn K (.builtin "object.__class__") = some true)
      (hm : PySem.W.mroIn K C (.type "object") = some true) : TyOf K H (.ref a) (.ref C)
/-- isinstance(x, c) for one class c, a built-in or an own one: kitOne's answer -/
theorem isinst_ok {x : V} {u t : Value} (I : Inv X pins σ H s) (rx : RelV x u) (ty : TyOf X.K H x t) (e : PySem.W.kitOne X.K t c = some b) (h : ∀ tk, Q (.bool b) { s with toks := tk }) :
    wpAny (model X.prog X.w) A (call (.builtin "isinstance") [u, c]) Q E s := by
  cases ty with
  | non => cases (show u = Value.none from rx); exact PySem.W.kia_one PySem.W.kitx_none I.kIn True.intro e (fun z => nomatch z) h
  | bl y => cases (show u = Value.bool y from rx); exact PySem.W.kia_one PySem.W.kitx_bool I.kIn True.intro e (fun z => nomatch z) h
  | int i => obtain ⟨t, q⟩ := (show ∃ t, u = Value.int i t from rx); cases q; exact PySem.W.kia_one PySem.W.kitx_int I.kIn True.intro e (fun z => nomatch z) h
  | str y => obtain ⟨t, q⟩ := (show ∃ t, u = Value.str y t from rx); cases q; exact PySem.W.kia_one PySem.W.kitx_str I.kIn True.intro e (fun z => nomatch z) h
  | flt y => obtain ⟨t, q⟩ := (show ∃ t, u = Value.float y t from rx); cases q; exact PySem.W.kia_one PySem.W.kitx_float I.kIn True.intro e (fun z => nomatch z) h
  | @lst a xs ea =>
    cases (show u = Value.ref a from rx)
    obtain ⟨_, _, n, _, h1⟩ := (show ObjOk X.prog X.w H s.heap a (.lst xs) from I.hok a _ ea)
    exact PySem.W.kia_one PySem.W.kitx_list I.kIn ⟨_, h1, rfl⟩ e (fun z => nomatch z) h
  | @frz a ob xs ea =>
    cases (show u = Value.ref a from rx)
    obtain ⟨_, _, _, n, _, h1⟩ := (show ObjOk X.prog X.w H s.heap a (.frz ob (.lst xs)) from I.hok a _ ea)
    exact PySem.W.kia_one PySem.W.kitx_list I.kIn ⟨_, h1, rfl⟩ e (fun z => nomatch z) h
  | @tup a xs ea =>
    cases (show u = Value.ref a from rx)
    obtain ⟨_, _, _, p⟩ := (show ObjOk X.prog X.w H s.heap a (.tup xs) from I.hok a _ ea)
    obtain ⟨o, h1, h2, _⟩ := p
    exact PySem.W.kia_one PySem.W.kitx_tuple I.kIn ⟨o, h1, h2⟩ e (fun z => nomatch z) h
  | @dK a kvs ea =>
    cases (show u = Value.ref a from rx)
    obtain ⟨_, _, vs, _, p⟩ := (show ObjOk X.prog X.w H s.heap a (.dK kvs) from I.hok a _ ea)
    obtain ⟨o, es, ep, h1, h2, _⟩ := p
    exact PySem.W.kia_one PySem.W.kitx_dict I.kIn ⟨o, h1, h2.1⟩ e (fun z => nomatch z) h
  | @dT a kvs ea =>
    cases (show u = Value.ref a from rx)
    obtain ⟨_, _, xs, _, o, es, ep, h1, h2, _⟩ := (show ObjOk X.prog X.w H s.heap a (.dT kvs) from I.hok a _ ea)
    exact PySem.W.kia_one PySem.W.kitx_dict I.kIn ⟨o, h1, h2.1⟩ e (fun z => nomatch z) h
  | @ins a C dx fs ea cl ha hn htk hm =>
    cases (show u = Value.ref a from rx)
    obtain ⟨mA, O, _⟩ := ins_get I.hok ea
    obtain ⟨od, J, _⟩ := O.look
    exact PySem.W.kia_one (PySem.W.kitx_own (cl.get _) cl.hd ha hn htk hm) I.kIn J e (fun z => nomatch z) h
end
end L2

namespace L2
open PySem PySem.Spec PyProof.Rows

/-! ### room -/
structure Room (k : Nat) (A : Around) : Prop where
  hd : A.handled = none
  dp : A.depth + 3 * k + 5 < recursionLimit
  un : A.units + 16 * k + 200 < cLine
theorem Room.mono {j k : Nat} {A : Around} (r : Room k A) (h : j ≤ k) : Room j A := ⟨r.hd, by have := r.dp; omega, by have := r.un; omega⟩
theorem Room.deeper {k : Nat} {A : Around} (r : Room (k + 1) A) (env : Env) : Room k (A.deeper env) :=
  ⟨r.hd, by have := r.dp; show A.depth + 1 + 3 * k + 5 < _; omega, by have := r.un; show A.units + 3 + 16 * k + 200 < _; omega⟩
theorem make_depth {A : Around} {C : Addr} {us : List Value} {kw : List (Str × Value)} : (A.under (.builtin "type.__call__" ⟨.ref C :: us, kw⟩)).depth = A.depth + 1 := by
  first | rfl | simp [Around.under, Code.weight, Code.isCreation, Code.isGuard, Code.isCaller, Code.frames, Code.isFrame, guardIds]
theorem make_units {A : Around} {C : Addr} {us : List Value} {kw : List (Str × Value)} : (A.under (.builtin "type.__call__" ⟨.ref C :: us, kw⟩)).units = A.units + 1 := by
  first | rfl | simp [Around.under, Code.cUnits, Code.frames, Code.isFrame]
theorem Room.make {k : Nat} {A : Around} (r : Room (k + 1) A) (C : Addr) (us : List Value) (kw : List (Str × Value)) : Room k (A.under (.builtin "type.__call__" ⟨.ref C :: us, kw⟩)) :=
  ⟨r.hd, by have := r.dp; rw [make_depth]; omega, by have := r.un; rw [make_units]; omega⟩
theorem Room.depth {k : Nat} {A : Around} (r : Room k A) : A.depth < recursionLimit := by have := r.dp; omega
theorem Room.units {k : Nat} {A : Around} (r : Room k A) : A.units + 64 < cLine := by have := r.un; omega
/-! ### argument lists and displays -/
noncomputable def tNil : TA := fun _ H Q => Q [] H
noncomputable def tCons (ta : TE) (tr : TA) : TA := fun σ H Q => ta σ H fun x H1 => tr σ H1 fun xs H2 => Q (x :: xs) H2
section
variable {X : Cx} {e : Expr} {es : List Expr} {te : TE} {t : TA} {pos : Pos}
theorem pa_nil : PA X [] tNil := fun _ _ _ _ H Q I h => Calls.spliced_nil ⟨[], H, I, .nil, h⟩
theorem pa_cons (ha : PE X e te) (hr : PA X es t) (hs : starEach (e :: es) X.env = (false, eval e X.env) :: starEach es X.env := by rfl) : PA X (e :: es) (tCons te t) := by
  intro pos pins s σ H Q I h
  rw [hs]
  show wpAny _ _ (spliced ((false, eval e X.env) :: backTo pos (starEach es X.env))) _ _ s
  refine Calls.spliced_cons (thn (ha pins s σ H _ I h) fun u s1 ⟨x, H1, I1, r1, q1⟩ => ?_)
  exact thn (hr pos pins s1 σ H1 _ I1 q1) fun us s2 ⟨xs, H2, I2, r2, q2⟩ => ⟨x :: xs, H2, I2, .cons r1 r2, q2⟩

/-- a tuple, a list of written items -/
noncomputable def tTup (t : TA) : TE := fun σ H Q => t σ H fun xs H1 => xs.length ≤ sizeLine ∧ ∀ p, H1 p = none → Q (.ref p) (upd H1 p (.tup xs))
noncomputable def tLst (t : TA) : TE := fun σ H Q => t σ H fun xs H1 => xs.length ≤ sizeLine ∧ ∀ p, H1 p = none → Q (.ref p) (upd H1 p (.lst xs))
theorem pe_tup {x1} (h : PA X es t) : PE X (.Tuple es x1 pos) (tTup t) := by
  intro pins s σ H Q I hq
  refine wpAny_Tuple_spliced (thn (h pos pins s σ H _ I hq) fun us s1 ⟨xs, H1, I1, r, z, q⟩ => ⟨by rw [← r.length]; exact z, ?_⟩)
  have hf : H1 s1.heap.objs.size = none := I1.hok.fresh (Nat.le_refl _)
  refine ⟨.ref s1.heap.objs.size, upd H1 s1.heap.objs.size (.tup xs), I1.laid (t' := s1.toks) (fun b u e => Heap.get?_push_of_some _ e) (Nat.le_refl _) ?_, rfl, q _ hf⟩
  exact ⟨z, us, r, ⟨_, Heap.get?_push_size _ rfl, rfl, _, rfl⟩⟩
theorem pe_lst (h : PA X es t) : PE X (.List es pos) (tLst t) := by
  intro pins s σ H Q I hq
  refine wpAny_List_spliced (thn (h pos pins s σ H _ I hq) fun us s1 ⟨xs, H1, I1, r, z, q⟩ => ⟨by rw [← r.length]; exact z, ?_⟩)
  have hf : H1 s1.heap.objs.size = none := I1.hok.fresh (Nat.le_refl _)
  refine ⟨.ref s1.heap.objs.size, upd H1 s1.heap.objs.size (.lst xs), I1.laid (t' := s1.toks) (fun b u e => Heap.get?_push_of_some _ e) (Nat.le_refl _) ?_, rfl, q _ hf⟩
  exact ⟨z, us, 0, r, Heap.get?_push_size _ rfl⟩
end

/-! ### what a def promises -/
/-- a def's promise: the bound arguments in the parameters' order, the heap, the wanted end, the wanted exception -/
noncomputable abbrev Sp := List V → Hp → VK → XK → Prop
/-- how an exception lies behind a call (file 08 gives it): the callers' frames, abstract heap and state ahead of the call, the wish, the exception, the state -/
noncomputable abbrev CXT := List Env → Hp → Shared → XK → Value → Shared → Prop

/-- the state at a call -/
structure Env0 (P : Program) (w : World) (K : PySem.W.Frag) (mg : Str → Option Value) (base : Heap) (A : Around) (outer : List Env) (s : Shared) (H : Hp) : Prop where
  frames : A.frames = some outer
  mod : Mod K mg base
  bs : ∀ b o, base.get? b = some o → s.heap.get? b = some o ∧ H b = none
  bsz : base.objs.size ≤ s.heap.objs.size
  funs : s.heap.FunFrames base outer
  frf : ∀ b ∈ frs outer, H b = none
  hok : HOk P w H s.heap
  bare : AllBare s.gens
/-- a call's end -/
noncomputable def CE (outer : List Env) (P : Program) (w : World) (H : Hp) (s : Shared) (Q : VK) (u : Value) (s' : Shared) : Prop :=
  ∃ v H', s'.os = s.os ∧ AllBare s'.gens ∧ Un (frs outer) [] H H' s.heap s'.heap ∧ HOk P w H' s'.heap ∧ RelV v u ∧ Q v H'
noncomputable def CR (CX : CXT) (outer : List Env) (P : Program) (w : World) (H : Hp) (s : Shared) (Q : VK) (E : XK) (r : Result) (s' : Shared) : Prop :=
  match r with
  | .ok (.ret u) => CE outer P w H s Q u s'
  | .ok _ => False
  | .error e => CX outer H s E e s'
structure FnOk (P : Program) (w : World) (K : PySem.W.Frag) (mg : Str → Option Value) (base : Heap) (CX : CXT) (k : Nat) (f : Addr) (fd : FuncData) (ps : List Str) (sp : Sp) : Prop where
  len : ∀ vs H Q E, sp vs H Q E → vs.length = ps.length
  run : ∀ (A : Around) (outer : List Env) (s : Shared) (H : Hp) (args : Args) (us : List Value) (vs : List V) (Q : VK) (E : XK), Room k A → Env0 P w K mg base A outer s H → BindsTo s fd args (ps.zip us) → Vals vs us → sp vs H Q E →
    codeAny (model P w) A (.call (.ref f) args) (CR CX outer P w H s Q E) s
theorem Env0.make {P : Program} {w : World} {K : PySem.W.Frag} {mg : Str → Option Value} {base : Heap} {A : Around} {outer : List Env} {s : Shared} {H : Hp} (e : Env0 P w K mg base A outer s H) (C : Addr) (us : List Value) (kw : List (Str × Value)) :
    Env0 P w K mg base (A.under (.builtin "type.__call__" ⟨.ref C :: us, kw⟩)) outer s H := ⟨by first | exact e.frames | (simpa [Around.under, Code.envs, Code.isFrame, pushEnvs] using e.frames), e.mod, e.bs, e.bsz, e.funs, e.frf, e.hok, e.bare⟩
section
variable {X : Cx} {pins : List (Addr × Obj)} {σ : St} {H : Hp} {s s' : Shared}
/-- from a body: what a callee wants -/
theorem Inv.env0 (I : Inv X pins σ H s) : Env0 X.prog X.w X.K X.mg X.base X.A X.stack s H :=
  ⟨I.ok.frames, I.ok.mod, I.bs, Nat.le_trans I.ok.bsz I.sz, I.stack, I.stkFree, I.hok, I.bare⟩
/-- behind a call -/
theorem Inv.after {Q : VK} {u : Value} (I : Inv X pins σ H s) (h : CE X.stack X.prog X.w H s Q u s') : EP X pins σ Q u s' := by
  obtain ⟨v, H', os, bare, un, hok, r, q⟩ := h
  obtain ⟨hh, g, d, t, os'⟩ := s'
  obtain rfl : os' = s.os := os
  exact ⟨v, H', I.call (h' := hh) (g' := g) (d' := d) (t' := t) (ch := []) un hok bare (fun b z => absurd z (by simp)), r, q⟩
end

/-! ### calls -/
/-- f(..): the written arguments, then the defaults dvs; E: what is wanted of an exception -/
noncomputable def tCall (sp : Sp) (dvs : List V) (E : XK) (t : TA) : TE := fun σ H Q => t σ H fun vs H1 => sp (vs ++ dvs) H1 Q E
/-- o.m(..) of an instance of the class at C -/
noncomputable def tMeth (C : Addr) (m : Str) (sp : Sp) (dvs : List V) (E : XK) (ta : TE) (t : TA) : TE := fun σ H Q => ta σ H fun x H1 => ∃ a dx fs, x = .ref a ∧ H1 a = some (.ins C dx fs) ∧ fs.lookup m = none ∧
  t σ H1 fun vs H2 => sp (x :: (vs ++ dvs)) H2 Q E
/-- C(..): a new instance and its dict, then __init__ -/
noncomputable def tMake (C : Addr) (sp : Sp) (dvs : List V) (E : XK) (t : TA) : TE := fun σ H Q => t σ H fun vs H1 => ∀ x dx, H1 x = none → H1 dx = none → dx ≠ x →
  sp (.ref x :: (vs ++ dvs)) (upd (upd H1 dx (.own x)) x (.ins C dx [])) (fun v H2 => v = .non ∧ Q (.ref x) H2) E

/-- how the parameters are bound: us the positional arguments, kw the keywords' values by name, ds the defaults that fill up -/
noncomputable def Binds (K : PySem.W.Frag) (fd : FuncData) (ps : List Str) (ds : List Value) : Prop :=
  ∀ (s : Shared) (us : List Value), K.In s.heap → (us ++ ds).length = ps.length → BindsTo s fd ⟨us, []⟩ (ps.zip (us ++ ds))
/-- every parameter is given -/
theorem Binds.all {K : PySem.W.Frag} {fd : FuncData} {ps : List Str} (h : ∀ us : List Value, us.length = ps.length → bindArgs fd ⟨us, []⟩ = pure (ps.zip us)) : Binds K fd ps [] := fun s us _ hl => by
  rw [List.append_nil] at hl ⊢
  exact .of_eq (h us hl)

/-- an exception of a callee reaches what this body wants of exceptions -/
noncomputable def Passes (CX : CXT) (X : Cx) (E : XK) : Prop := ∀ (pins : List (Addr × Obj)) (σ : St) (H : Hp) (s : Shared) (e : Value) (s' : Shared), Inv X pins σ H s → CX X.stack H s E e s' → X.xe e s'

section
variable {X : Cx} {CX : CXT} {k : Nat} {f C : Addr} {fd : FuncData} {ps : List Str} {sp : Sp} {dvs : List V} {ds : List Value} {E : XK} {x m : Str} {p pos apos : Pos} {e o : Expr} {es : List Expr} {ta : TE} {t : TA}

/-- the callee runs -/
theorem run_fn {pins : List (Addr × Obj)} {σ : St} {H : Hp} {s : Shared} {Q : VK} {us : List Value} {vs : List V} (F : FnOk X.prog X.w X.K X.mg X.base CX k f fd ps sp) (hr : Room k X.A) (hb : Binds X.K fd ps ds) (hd : Vals dvs ds) (hx : Passes CX X E)
    (I : Inv X pins σ H s) (r : Vals vs us) (h : sp (vs ++ dvs) H Q E) : wpAny (model X.prog X.w) X.A (call (.ref f) us) (EP X pins σ Q) X.xe s := by
  have r2 : Vals (vs ++ dvs) (us ++ ds) := r.append hd
  have hl : (us ++ ds).length = ps.length := by rw [← r2.length]; exact F.len _ _ _ _ h
  refine wpAny_call (codeAny_mono (F.run X.A X.stack s H ⟨us, []⟩ (us ++ ds) (vs ++ dvs) Q E hr I.env0 (hb s us I.kIn hl) r2 h) fun r s' hq => ?_)
  cases r with
  | error e => exact hx pins σ H s e s' I hq
  | ok fl =>
    cases fl with
    | ret u => exact I.after hq
    | next => exact False.elim hq
    | brk => exact False.elim hq
    | cont => exact False.elim hq

theorem pe_call (F : FnOk X.prog X.w X.K X.mg X.base CX k f fd ps sp) (hr : Room k X.A) (hg : Gl X x) (hm : X.mg x = some (.ref f)) (hk : PySem.W.keepIn X.K (.ref f) = true) (hb : Binds X.K fd ps ds) (hd : Vals dvs ds) (hx : Passes CX X E)
    (ha : PA X (e :: es) t) (hdb : (x == ("__debug__" : Str)) = false := by decide) (he : starEach (e :: es) X.env = (false, eval e X.env) :: starEach es X.env := by rfl) (hpl : (backTo pos (starEach es X.env)).any (·.1) = false := by rfl) :
    PE X (.Call (.Name x p) (e :: es) [] pos) (tCall sp dvs E t) := by
  intro pins s σ H Q I h
  refine wpAny_Call_Name_kw (ld_glob I hg hm ?_ hdb)
  refine PySem.W.callWith_K (h₀ := X.base) I.ok.mod.kin hk (thn (ha pos pins s σ H _ I h) fun us s1 ⟨vs, H1, I1, r, q⟩ => ⟨I1.kIn, ?_⟩) he hpl
  exact run_fn F hr hb hd hx I1 r q
/-- o.m(e, ..) -/
theorem pe_meth {pl : Sem Bool} (he : PE X o ta) (c : Cls X.K C) (hm : Meth X.K C m f) (F : FnOk X.prog X.w X.K X.mg X.base CX k f fd ps sp) (hr : Room k X.A) (hb : Binds X.K fd ps ds) (hd : Vals dvs ds) (hx : Passes CX X E) (ha : PA X (e :: es) t)
    (hst : starEach (e :: es) X.env = (false, eval e X.env) :: starEach es X.env := by rfl) (hpl : (backTo pos (starEach es X.env)).any (·.1) = false := by rfl)
    (ht : eval (.Call (.Attribute o m apos) (e :: es) [] pos) X.env = (do
      let ov ← eval o X.env
      standAt apos.atName
      let (f, first) ← holding [ov] (getMethod ov m pl)
      callWith pos f first (backTo pos (starEach (e :: es) X.env)) (backToKw pos (keywordEach [] X.env))) := by rfl) :
    PE X (.Call (.Attribute o m apos) (e :: es) [] pos) (tMeth C m sp dvs E ta t) := by
  intro pins s σ H Q I h
  refine PySem.W.methodCall_KW (pl := pl) (thn (he pins s σ H _ I h) fun u s1 ⟨x, H1, I1, rx, a, dx, fs, ex, ea, l, q⟩ => ?_) ht
  subst ex
  obtain rfl : u = Value.ref a := rx
  refine getmeth_ok I1 ea c hm l ?_
  refine PySem.W.callWith_K (first := [.ref a]) (h₀ := X.base) I.ok.mod.kin hm.kp (thn (ha pos pins s1 σ H1 _ I1 q) fun us s2 ⟨vs, H2, I2, r, q2⟩ => ⟨I2.kIn, ?_⟩) hst hpl
  exact run_fn (us := .ref a :: us) (vs := .ref a :: vs) F hr hb hd hx I2 (.cons rfl r) q2
/-- what a class must have to be made -/
structure Mk (K : PySem.W.Frag) (C f : Addr) : Prop where
  makes : PySem.W.makesIn K C = true
  init : PySem.W.findIn K (.ref C) "__init__" = some (some (.ref f))
  fn : PySem.W.isFn K (.ref f) = true
  kp : PySem.W.keepIn K (.ref C) = true

theorem run_make {pins : List (Addr × Obj)} {σ : St} {H : Hp} {s : Shared} {Q : VK} {us : List Value} {vs : List V} (M : Mk X.K C f) (F : FnOk X.prog X.w X.K X.mg X.base CX k f fd ps sp) (hr : Room (k + 1) X.A) (hb : Binds X.K fd ps ds) (hd : Vals dvs ds)
    (hx : Passes CX X E) (I : Inv X pins σ H s) (r : Vals vs us)
    (h : ∀ x dx, H x = none → H dx = none → dx ≠ x → sp (.ref x :: (vs ++ dvs)) (upd (upd H dx (.own x)) x (.ins C dx [])) (fun v H2 => v = .non ∧ Q (.ref x) H2) E) :
    wpAny (model X.prog X.w) X.A (call (.ref C) us) (EP X pins σ Q) X.xe s := by
  have hq := h (s.heap.objs.size + 1) s.heap.objs.size (I.hok.fresh (Nat.le_succ _)) (I.hok.fresh (Nat.le_refl _)) (Nat.ne_of_lt (Nat.lt_succ_self _))
  have I2 := Inv.made (C := C) I
  have r2 : Vals (V.ref (s.heap.objs.size + 1) :: (vs ++ dvs)) (Value.ref (s.heap.objs.size + 1) :: (us ++ ds)) := .cons rfl (r.append hd)
  have hl : (Value.ref (s.heap.objs.size + 1) :: us ++ ds).length = ps.length := by
    have e := r2.length
    rw [F.len _ _ _ _ hq] at e
    exact e.symm
  refine wpAny_call (make_map (f := f) I.kIn M.makes M.init (beq_iff_eq.mp M.fn) (codeAny_mono (F.run _ X.stack _ _ ⟨Value.ref (s.heap.objs.size + 1) :: us, []⟩ (Value.ref (s.heap.objs.size + 1) :: (us ++ ds)) _ _ E (hr.make C us [])
    (I2.env0.make C us []) (hb _ (Value.ref (s.heap.objs.size + 1) :: us) I2.kIn hl) r2 hq) fun r s' hq' => ?_))
  cases r with
  | error e => exact hx pins σ _ _ e s' I2 hq'
  | ok fl =>
    cases fl with
    | ret u =>
      obtain ⟨v, H', I3, rv, ev, q3⟩ := I2.after hq'
      subst ev
      exact ⟨rv, ⟨V.ref (s.heap.objs.size + 1), H', I3, rfl, q3⟩⟩
    | next => exact False.elim hq'
    | brk => exact False.elim hq'
    | cont => exact False.elim hq'
theorem pe_make0 (M : Mk X.K C f) (F : FnOk X.prog X.w X.K X.mg X.base CX k f fd ps sp) (hr : Room (k + 1) X.A) (hg : Gl X x) (hm : X.mg x = some (.ref C)) (hb : Binds X.K fd ps ds) (hd : Vals dvs ds) (hx : Passes CX X E)
    (hdb : (x == ("__debug__" : Str)) = false := by decide) : PE X (.Call (.Name x p) [] [] pos) (tMake C sp dvs E tNil) := by
  intro pins s σ H Q I h
  refine wpAny_Call_Name_kw (ld_glob I hg hm ?_ hdb)
  exact PySem.W.callWith_K0 I.kIn M.kp (run_make (us := []) M F hr hb hd hx I .nil h)
end

/-! ### keywords -/
/-- the values of the keywords, from the left -/
noncomputable def PK (X : Cx) (kws : List Keyword) (t : TA) : Prop :=
  ∀ (pos : Pos) (pins : List (Addr × Obj)) (s : Shared) (σ : St) (H : Hp) (Q : List V → Hp → Prop), Inv X pins σ H s → t σ H Q → wpAny (model X.prog X.w) X.A (evalAll ((backToKw pos (keywordEach kws X.env)).map (·.2))) (AP X pins σ Q) X.xe s
section
variable {X : Cx} {CX : CXT} {k : Nat} {f C : Addr} {fd : FuncData} {ps ks : List Str} {sp : Sp} {E : XK} {x m : Str} {p pos apos kpos : Pos} {e o : Expr} {es : List Expr} {kws : List Keyword} {te ta : TE} {t tk : TA} {nm : Option Str}
theorem pk_nil : PK X [] tNil := fun _ _ _ _ H Q I h => wpAny_evalAll_nil ⟨[], H, I, .nil, h⟩
theorem pk_cons (ha : PE X e te) (hr : PK X kws t) : PK X (⟨nm, e, kpos⟩ :: kws) (tCons te t) := by
  intro pos pins s σ H Q I h
  show wpAny _ _ (evalAll ((do let v ← eval e X.env; standAt pos; pure v) :: (backToKw pos (keywordEach kws X.env)).map (·.2))) _ _ s
  refine wpAny_evalAll_cons (wpAny_bind (thn (ha pins s σ H _ I h) fun u s1 ⟨x, H1, I1, r1, q1⟩ => wpAny_bind (wpAny_standAt (wpAny_pure ?_))))
  exact thn (hr pos pins s1 σ H1 _ I1 q1) fun us s2 ⟨xs, H2, I2, r2, q2⟩ => ⟨x :: xs, H2, I2, .cons r1 r2, q2⟩

/-- how a call with keywords binds: g puts the positional values us and the keywords' values ws (names ks) in the parameters' order, defaults among them -/
structure KBinds (K : PySem.W.Frag) (fd : FuncData) (ps ks : List Str) (g : List Value → List Value → List Value) (gV : List V → List V → List V) : Prop where
  to : ∀ (s : Shared) (us ws : List Value), K.In s.heap → (g us ws).length = ps.length → BindsTo s fd ⟨us, ks.zip ws⟩ (ps.zip (g us ws))
  rel : ∀ {vs : List V} {us : List Value} {zs : List V} {ws : List Value}, Vals vs us → Vals zs ws → Vals (gV vs zs) (g us ws)
variable {g : List Value → List Value → List Value} {gV : List V → List V → List V}
end

/-! ### a def's body keeps its promise -/
/-- names: the parameters first -/
structure FnScope (N P : List Str) (sc : Scope) : Prop where
  kind : sc.kind = .function
  co : sc.isCoroutine = false
  gen : sc.isGenerator = false
  nd : N.Nodup
  pre : N.take P.length = P
  par : ∀ x ∈ P, sc.names.lookup x = some .local ∨ sc.names.lookup x = some .cell
  nofree : ∀ y ∈ sc.names, y.2 ≠ .free

theorem bindL_out {kindOf : Str → Option NameKind} {x : Str} : ∀ {binds : List (Str × Value)} {m : Str → Option Value}, (∀ v, (x, v) ∉ binds) → bindL kindOf binds m x = m x
  | [], _, _ => rfl
  | (n, v) :: r, m, h => by
    unfold bindL
    rw [bindL_out fun w hw => h w (List.mem_cons_of_mem _ hw)]
    split
    · have : x ≠ n := by rintro rfl; exact h v List.mem_cons_self
      simp [this]
    · rfl
theorem bindC_out {kindOf : Str → Option NameKind} {x : Str} : ∀ {binds : List (Str × Value)} {m : Str → Option Value}, (∀ v, (x, v) ∉ binds) → bindC kindOf binds m x = m x
  | [], _, _ => rfl
  | (n, v) :: r, m, h => by
    unfold bindC
    rw [bindC_out fun w hw => h w (List.mem_cons_of_mem _ hw)]
    split
    · rfl
    · have : x ≠ n := by rintro rfl; exact h v List.mem_cons_self
      simp [this]
theorem bindL_get {kindOf : Str → Option NameKind} {x : Str} {v : Value} : ∀ {P : List Str} {vs : List Value} {i : Nat} {m : Str → Option Value}, P.Nodup → P[i]? = some x → vs[i]? = some v → kindOf x = some .local →
    bindL kindOf (P.zip vs) m x = some v
  | [], _, _, _, _, h, _, _ => by simp at h
  | _ :: _, [], _, _, _, _, h, _ => by simp at h
  | p :: P, w :: vs, 0, m, nd, h1, h2, hk => by
    simp at h1 h2; subst h1; subst h2
    show bindL kindOf ((p, w) :: P.zip vs) m p = _
    unfold bindL
    rw [bindL_out fun v hv => (List.nodup_cons.mp nd).1 (List.of_mem_zip hv).1, if_pos hk]
    simp
  | p :: P, w :: vs, i + 1, m, nd, h1, h2, hk => by
    show bindL kindOf ((p, w) :: P.zip vs) m x = _
    unfold bindL
    exact bindL_get (i := i) (List.nodup_cons.mp nd).2 (by simpa using h1) (by simpa using h2) hk
theorem bindC_get {kindOf : Str → Option NameKind} {x : Str} {v : Value} : ∀ {P : List Str} {vs : List Value} {i : Nat} {m : Str → Option Value}, P.Nodup → P[i]? = some x → vs[i]? = some v → kindOf x ≠ some .local →
    bindC kindOf (P.zip vs) m x = some v
  | [], _, _, _, _, h, _, _ => by simp at h
  | _ :: _, [], _, _, _, _, h, _ => by simp at h
  | p :: P, w :: vs, 0, m, nd, h1, h2, hk => by
    simp at h1 h2; subst h1; subst h2
    show bindC kindOf ((p, w) :: P.zip vs) m p = _
    unfold bindC
    rw [bindC_out fun v hv => (List.nodup_cons.mp nd).1 (List.of_mem_zip hv).1, if_neg hk]
    simp
  | p :: P, w :: vs, i + 1, m, nd, h1, h2, hk => by
    show bindC kindOf ((p, w) :: P.zip vs) m x = _
    unfold bindC
    exact bindC_get (i := i) (List.nodup_cons.mp nd).2 (by simpa using h1) (by simpa using h2) hk

/-- the names' values at the entry -/
noncomputable def start (N : List Str) (vs : List V) : St := vs.map some ++ List.replicate (N.length - vs.length) none

/-- the context of a def's body, at its entry; an exception leaves the frame, then lies as CX says -/
noncomputable def cxOf (CX : CXT) (P : Program) (w : World) (K : PySem.W.Frag) (mg : Str → Option Value) (base : Heap) (N : List Str) (qual : Str) (scope : Scope) (f : Addr) (cd : Value) (A : Around) (outer : List Env) (s : Shared) (H : Hp) (E : XK) : Cx where
  prog := P
  w := w
  K := K
  mg := mg
  base := base
  A := A.deeper (envOfC qual scope s.heap.objs.size f cd)
  N := N
  s₀ := s
  H₀ := H
  env := envOfC qual scope s.heap.objs.size f cd
  outer := outer
  stack := envOfC qual scope s.heap.objs.size f cd :: outer
  ex := []
  calm := true
  fn := fun _ => true
  pn := []
  xe := fun e s' => wpAny (model P w) (A.deeper (envOfC qual scope s.heap.objs.size f cd)) (leaving (envOfC qual scope s.heap.objs.size f cd) e) (fun _ s'' => CX outer H s E e s'') (fun e' s'' => CX outer H s E e' s'') s'

theorem cell_has {sc : Scope} {n : Nat} {x : Str} (h : sc.names.lookup x = some .cell) : ∃ c, (cellsFrom n sc.names []).lookup x = some c := by
  have q := PySem.W.cellsFrom_some sc.names n [] (.inl h)
  exact Option.isSome_iff_exists.mp q

theorem inv_start {CX : CXT} {P : Program} {w : World} {K : PySem.W.Frag} {mg : Str → Option Value} {base : Heap} {N ps : List Str} {qual : Str} {scope : Scope} {f : Addr} {cd : Value} {A : Around} {outer : List Env} {s s1 : Shared} {H : Hp} {E : XK} {us : List Value} {vs : List V}
    (S : FnScope N ps scope) (hd : A.handled = none) (e0 : Env0 P w K mg base A outer s H) (hl : vs.length = ps.length) (r : Vals vs us)
    (x : InCallC s s.heap.objs.size (bindL (envOfC qual scope s.heap.objs.size f cd).kindOf (ps.zip us) fun _ => none) (cellsFrom (s.heap.objs.size + 1) scope.names []) (bindC (envOfC qual scope s.heap.objs.size f cd).kindOf (ps.zip us) fun _ => none) s1) :
    Inv (cxOf CX P w K mg base N qual scope f cd A outer s H E) [] (start N vs) H s1 := by
  have hpl : ps.length ≤ N.length := by have := congrArg List.length S.pre; rw [List.length_take] at this; omega
  obtain ⟨h1, tk, rfl, hk⟩ := x.done
  have noA : ∀ b : Addr, b ∉ (cxOf CX P w K mg base N qual scope f cd A outer s H E).ex := fun b z => absurd (show b ∈ ([] : List Addr) from z) (by simp)
  refine ⟨⟨e0.mod, S.kind, rfl, rfl, Nat.le_refl _, fun y z c h1 h2 => ?_, fun y hy => ?_, fun y c _ h => ?_, fun _ => hd, Around.frames_deeper e0.frames, .inr ⟨rfl, rfl⟩, fun b z => absurd z (noA b), e0.bs, e0.bsz, fun b _ _ => noA b, fun b z => absurd z (noA b), e0.funs, e0.frf⟩,
    rfl, e0.bare, Un.kept hk, ⟨_, x.toInCall.ns, fun i y v h1 h2 h3 => ?_⟩, fun y c h => ⟨_, x.cell y c h⟩, e0.hok.fresh (Nat.le_refl _), fun y c h => ?_, fun p hp => absurd (show p ∈ ([] : List (Addr × Obj)) from hp) (by simp), e0.hok.kept hk, ?_⟩
  · exact name_of_addr x.apart (PySem.mem_of_lookup h1) (PySem.mem_of_lookup h2)
  · have hy : scope.names.lookup y = some .cell ∨ scope.names.lookup y = some .free := hy
    rcases hy with hy | hy
    · exact cell_has hy
    · exact absurd rfl (S.nofree _ (PySem.mem_of_lookup hy))
  · exact Nat.le_of_lt (x.above y c (PySem.mem_of_lookup h))
  · have hi : i < vs.length := by
      unfold start at h2
      by_cases hi : i < vs.length
      · exact hi
      · rw [List.getElem?_append_right (by simpa using hi)] at h2
        rw [List.getElem?_replicate] at h2
        split at h2 <;> cases h2
    have ha : vs[i]? = some v := by
      unfold start at h2
      rw [List.getElem?_append_left (by simpa using hi), List.getElem?_map] at h2
      cases e : vs[i]? with
      | none => rw [e] at h2; cases h2
      | some a => rw [e] at h2; cases h2; rfl
    obtain ⟨u, hu, rv⟩ := r.get ha
    have hp : ps[i]? = some y := by
      rw [← S.pre, List.getElem?_take_of_lt (by omega)]; exact h1
    have ndP : ps.Nodup := by rw [← S.pre]; exact S.nd.sublist (List.take_sublist _ _)
    refine ⟨u, rv, ?_⟩
    rcases S.par y (List.mem_of_getElem? hp) with k | k
    · exact .inl ⟨k, bindL_get ndP hp hu k⟩
    · obtain ⟨c, e⟩ := cell_has (n := s.heap.objs.size + 1) k
      refine .inr ⟨.inl k, c, e, ?_⟩
      have q := x.cell y c e
      rw [bindC_get ndP hp hu (by show scope.names.lookup y ≠ _; rw [k]; decide)] at q
      exact q
  · exact e0.hok.fresh (Nat.le_of_lt (x.above y c (PySem.mem_of_lookup h)))
  · unfold start
    show _ = N.length
    rw [List.length_append, List.length_map, List.length_replicate]
    omega

/-- THE RULE: a def (or a method) of the text, by its body. The body's reading t is chosen for each entry; it is run at the parameters' values -/
theorem fn_of {CX : CXT} {P : Program} {w : World} {K : PySem.W.Frag} {mg : Str → Option Value} {base : Heap} {k : Nat} {f : Addr} {name qual : Str} {params : Arguments} {body : List Stmt} {scope : Scope} {dV kV doc pm cdv ct oc : Value} {an od : Option Addr}
    {osl : Array (Option Value)} {N ps : List Str} {sp : Sp} (lk : K.lookup f = some ⟨oc, od, .func (PySem.W.fnOf name qual params body scope dV kV doc pm an cdv ct), osl⟩) (hcd : PySem.W.codeIn K cdv qual = true) (S : FnScope N ps scope)
    (len : ∀ vs H Q E, sp vs H Q E → vs.length = ps.length)
    (hbody : ∀ (A : Around) (outer : List Env) (s : Shared) (H : Hp) (vs : List V) (Q : VK) (E : XK), Room k (A.deeper (envOfC qual scope s.heap.objs.size f cdv)) → sp vs H Q E →
      ∃ t, PSs (cxOf CX P w K mg base N qual scope f cdv A outer s H E) body t ∧ t { nx := fun _ H' => Q .non H', rt := Q } (start N vs) H) :
    FnOk P w K mg base CX (k + 1) f (PySem.W.fnOf name qual params body scope dV kV doc pm an cdv ct) ps sp := by
  refine ⟨len, fun A outer s H args us vs Q E hr e0 hb r hsp => ?_⟩
  have hl := len _ _ _ _ hsp
  have KX : K.In s.heap := e0.mod.kin.keeps fun b o e => (e0.bs b o e).1
  have lim : s.heap.NoLimit := e0.mod.nolimit.keeps fun b o e => (e0.bs b o e).1
  have hkind : ∀ y ∈ ps.zip us, scope.names.lookup y.1 = some .local ∨ (scope.names.lookup y.1 = some .cell ∧ ((cellsFrom (s.heap.objs.size + 1) scope.names []).lookup y.1).isSome = true) := fun ⟨n, v⟩ hy => by
    rcases S.par n (List.of_mem_zip hy).1 with q | q
    · exact .inl q
    · exact .inr ⟨q, PySem.W.cellsFrom_some _ _ _ (.inl q)⟩
  refine codeAny_call_function hr.depth (KX _ _ lk) rfl S.co S.gen rfl (PySem.W.codeRec_of KX hcd) (hb _ _ _ _ ?_)
  refine wpAny_newFunctionEnv_cells S.kind hkind fun env he s1 x => ?_
  subst he
  refine ⟨lim.keeps x.toInCall.keep, codeAny_func ?_⟩
  obtain ⟨t, ht, hq⟩ := hbody A outer s H vs Q E (hr.deeper _) hsp
  have I : Inv (cxOf CX P w K mg base N qual scope f cdv A outer s H E) [] (start N vs) H s1 := inv_start S hr.hd e0 hl r x
  refine wpAny_mono (ht [] s1 (start N vs) H _ I hq) (fun fl s' hs => ?_) fun e s' hs => hs
  have fin : ∀ {σ' : St} {H' : Hp} {v : V} {u : Value}, Inv (cxOf CX P w K mg base N qual scope f cdv A outer s H E) [] σ' H' s' → RelV v u → Q v H' → CE outer P w H s Q u s' :=
    fun {σ' H' v u} J rv q => ⟨v, H', J.os, J.bare, J.base, J.hok, rv, q⟩
  cases fl with
  | ret u =>
    obtain ⟨v, σ', H', J, rv, q⟩ := hs
    exact fin J rv q
  | next =>
    obtain ⟨σ', H', J, q⟩ := hs
    exact fin (v := V.non) (u := Value.none) J rfl q
  | brk =>
    obtain ⟨_, _, _, q⟩ := hs
    exact False.elim q
  | cont =>
    obtain ⟨_, _, _, q⟩ := hs
    exact False.elim q
end L2

namespace L2
open PySem PySem.Spec PyProof.Rows
section
variable {X : Cx} {x : Str} {p pos : Pos} {e : Expr} {es : List Expr} {t : TA} {id T : String} {r : List V → Hp → VK → Prop}

noncomputable def tCB (r : List V → Hp → VK → Prop) (t : TA) : TE := fun σ H Q => t σ H fun vs H1 => r vs H1 Q
/-- f(e, ..), f a built-in function -/
theorem pe_callB (hc : CallR X (.builtin id) r) (hg : Gl X x) (hm : X.mg x = none) (hv : bootBuiltins x = some (.builtin id)) (ha : PA X (e :: es) t) (hn : x ≠ "__name__" := by decide) (hdb : (x == ("__debug__" : Str)) = false := by decide)
    (he : starEach (e :: es) X.env = (false, eval e X.env) :: starEach es X.env := by rfl) (hpl : (backTo pos (starEach es X.env)).any (·.1) = false := by rfl) : PE X (.Call (.Name x p) (e :: es) [] pos) (tCB r t) := by
  intro pins s σ H Q I h
  refine wpAny_Call_Name_kw (ld_blt I hg hm hv ?_ hn hdb)
  exact PyProof.Rows.callWith_builtin1 (thn (ha pos pins s σ H _ I h) fun us s1 ⟨vs, H1, I1, r1, q1⟩ => hc pins s1 σ H1 vs us Q I1 r1 q1) he hpl
/-- T(e, ..), T a built-in type -/
theorem pe_callTy (hc : CallR X (.type T) r) (hg : Gl X x) (hm : X.mg x = none) (hv : bootBuiltins x = some (.type T)) (ha : PA X (e :: es) t) (hn : x ≠ "__name__" := by decide) (hdb : (x == ("__debug__" : Str)) = false := by decide)
    (he : starEach (e :: es) X.env = (false, eval e X.env) :: starEach es X.env := by rfl) (hpl : (backTo pos (starEach es X.env)).any (·.1) = false := by rfl) : PE X (.Call (.Name x p) (e :: es) [] pos) (tCB r t) := by
  intro pins s σ H Q I h
  refine wpAny_Call_Name_kw (ld_blt I hg hm hv ?_ hn hdb)
  exact PyProof.Rows.callWith_type1 (thn (ha pos pins s σ H _ I h) fun us s1 ⟨vs, H1, I1, r1, q1⟩ => hc pins s1 σ H1 vs us Q I1 r1 q1) he hpl
end
end L2

namespace HT
open PySem PyProof.Rows

section
open PySem.SeqAt
open PySem.AutoSeq1 (wpAny_loadPart')
open PySem.MeetsSeq PySem.MeetsSeq2 PySem.MeetsSeq3

end

section
variable {prog : Program} {w : World} {A : Around} {E : Value → Shared → Prop} {s : Shared}

/-- t + u, t not empty -/
theorem cat_tup {t b : Addr} {vs ws : List Value} {Q : Value → Shared → Prop} (ht : IsTup s.heap t vs.toArray) (hb : IsTup s.heap b ws.toArray) (hv : vs ≠ [])
    (h1 : ws = [] → Q (.ref t) s) (h2 : ws ≠ [] → Q (.ref s.heap.objs.size) { s with heap := s.heap.push { cls := .type "tuple", data := .seq (vs ++ ws).toArray } })
    (hsz : vs.length + ws.length ≤ sizeLine) : wpAny (model prog w) A (binaryOp .Add (.ref t) (.ref b)) Q E s := by
  obtain ⟨⟨cls, dd, data, sl⟩, ho, hc, n, hd⟩ := id ht
  obtain ⟨⟨cls2, dd2, data2, sl2⟩, ho2, hc2, n2, hd2⟩ := id hb
  simp only at hc hd hc2 hd2
  subst hc hd hc2 hd2
  have e : vs.toArray ++ ws.toArray = (vs ++ ws).toArray := by simp
  by_cases hw : ws = []
  · exact concat_meets ⟨_, ho, rfl⟩ ⟨_, ho2, rfl⟩ noFill_tuple_add seq_tuple_add PySem.F.slot_tuple_add PySem.F.entry_tuple_add (PySem.F.args_tuple_add_2 _ _)
      (tuple_addW1 t b vs.toArray ws.toArray n n2 dd dd2 sl sl2 (by simpa using hv) (by simp [hw])) ⟨ho, ho2, h1 hw⟩
  · refine concat_meets ⟨_, ho, rfl⟩ ⟨_, ho2, rfl⟩ noFill_tuple_add seq_tuple_add PySem.F.slot_tuple_add PySem.F.entry_tuple_add (PySem.F.args_tuple_add_2 _ _)
      (tuple_addW2 t b vs.toArray ws.toArray n n2 dd dd2 sl sl2 (by simpa using hv) (by simpa using hw) (by rw [List.size_toArray, List.size_toArray]; exact hsz)) ⟨ho, ho2, ?_⟩
    rw [e]
    exact h2 hw

/-! ### t[a:b], not the whole -/
/-- a slice's bound as a place among n (d where it is left out) -/
noncomputable def sIx (n d : Nat) : Option Int → Nat
  | none => d
  | some v => if v < 0 then (v + (n : Int)).toNat else min v.toNat n
theorem sIx_le (n d : Nat) (hd : d ≤ n) (o : Option Int) : sIx n d o ≤ n := by
  cases o with
  | none => exact hd
  | some v =>
    show (if v < 0 then (v + (n : Int)).toNat else min v.toNat n) ≤ n
    by_cases hv : v < 0
    · rw [if_pos hv]; omega
    · rw [if_neg hv]; exact Nat.min_le_right _ _
theorem clip_eq (v : Int) (n d : Nat) : (if v < 0 then max (v + (n : Int)) 0 else min v (n : Int)) = ((sIx n d (some v) : Nat) : Int) := by
  show (if v < 0 then max (v + (n : Int)) 0 else min v (n : Int)) = (((if v < 0 then (v + (n : Int)).toNat else min v.toNat n) : Nat) : Int)
  by_cases hv : v < 0
  · simp only [if_pos hv]; omega
  · simp only [if_neg hv]; omega
theorem adjust_gen (lo hi : Option Int) (n : Nat) : Builtin.Slice.sliceAdjust lo hi 1 (n : Int) = (((sIx n 0 lo : Nat) : Int), ((sIx n n hi : Nat) : Int)) := by
  have h1 : ¬ ((1 : Int) < 0) := by omega
  unfold Builtin.Slice.sliceAdjust
  simp only [h1, if_false]
  refine Prod.ext ?_ ?_
  · cases lo with
    | none => rfl
    | some v => exact clip_eq v n 0
  · cases hi with
    | none => rfl
    | some v => exact clip_eq v n n
theorem places_gen (i j : Nat) : Builtin.Slice.slicePlaces (i : Int) (j : Int) 1 = j - i := by
  unfold Builtin.Slice.slicePlaces
  have h1 : (1 : Int) > 0 := by omega
  simp only [h1, if_true, Int.ediv_one]
  split <;> omega
theorem slicePart_ {v : Value} {o : Option Int} {Q : Option Int → Shared → Prop} (p : IsPart v o) (h : Q o s) : wpAny (model prog w) A (Builtin.Slice.slicePartIndex v) Q E s := by
  cases p with
  | none => exact slicePart_none h
  | int i t => exact slicePart_int h
theorem sliceApplied_gen {sl : Addr} {vl vu : Value} {lo hi : Option Int} {n : Nat} {Q : Int × Int × Nat → Shared → Prop} (hs : s.heap.IsSliceOf sl vl vu .none) (pl : IsPart vl lo) (pu : IsPart vu hi)
    (h : Q (((sIx n 0 lo : Nat) : Int), 1, sIx n n hi - sIx n 0 lo) s) : wpAny (model prog w) A (Builtin.Slice.sliceApplied (.ref sl) (pure (n : Int))) Q E s := by
  obtain ⟨os, hos, hcs, hds⟩ := id hs
  unfold Builtin.Slice.sliceApplied Builtin.Slice.sliceFields
  refine wpAny_bind (wpAny_bind (wpAny_field hos hds (x := vl) rfl (wpAny_bind (wpAny_field hos hds (x := vu) rfl (wpAny_bind (wpAny_field hos hds (x := .none) rfl (wpAny_pure ?_)))))))
  refine wpAny_bind (slicePart_none ?_)
  show wpAny _ _ (if ((1 : Int) == 0) = true then _ else _) _ _ s
  rw [if_neg (by decide)]
  refine wpAny_bind (slicePart_ pl (wpAny_bind (slicePart_ pu (wpAny_bind (wpAny_pure ?_)))))
  show wpAny _ _ (match Builtin.Slice.sliceAdjust lo hi 1 (n : Int) with | (lo, hi) => pure (lo, (1 : Int), Builtin.Slice.slicePlaces lo hi 1)) _ _ s
  rw [adjust_gen lo hi n]
  show wpAny _ _ (pure (((sIx n 0 lo : Nat) : Int), (1 : Int), Builtin.Slice.slicePlaces ((sIx n 0 lo : Nat) : Int) ((sIx n n hi : Nat) : Int) 1)) _ _ s
  rw [places_gen]
  exact wpAny_pure h
theorem pick_gen (xs : Array Value) (i k : Nat) : ((List.range k).filterMap fun (m : Nat) => xs[((i : Int) + (m : Int) * 1).toNat]?).toArray = ((xs.toList.drop i).take k).toArray := by
  have e : (fun (m : Nat) => xs[((i : Int) + (m : Int) * 1).toNat]?) = fun m => xs[i + m]? := by
    funext m
    have : ((i : Int) + (m : Int) * 1).toNat = i + m := by omega
    rw [this]
  rw [e]
  have := pick_run xs i k
  rw [List.filterMap_map] at this
  have e2 : ((fun x => xs[x]?) ∘ fun x => i + x) = fun m => xs[i + m]? := rfl
  rw [e2] at this
  rw [this]

theorem getItem_tuple_cut {t sl : Addr} {items : Array Value} {vl vu : Value} {lo hi : Option Int} {Q : Value → Shared → Prop} (ht : IsTup s.heap t items) (hs : s.heap.IsSliceOf sl vl vu .none) (pl : IsPart vl lo) (pu : IsPart vu hi)
    (hw : ¬ (sIx items.size 0 lo = 0 ∧ sIx items.size items.size hi = items.size))
    (h : Q (.ref s.heap.objs.size) { s with heap := s.heap.push { cls := .type "tuple", data := .seq ((items.toList.drop (sIx items.size 0 lo)).take (sIx items.size items.size hi - sIx items.size 0 lo)).toArray } })
    (hsz : items.size ≤ sizeLine) : wpAny (model prog w) A (getItem (.ref t) (.ref sl)) Q E s := by
  have htake : sizeOk (.seq ((items.toList.drop (sIx items.size 0 lo)).take (sIx items.size items.size hi - sIx items.size 0 lo)).toArray) := by
    show ((items.toList.drop (sIx items.size 0 lo)).take (sIx items.size items.size hi - sIx items.size 0 lo)).toArray.size ≤ sizeLine
    rw [List.size_toArray, List.length_take, List.length_drop, Array.length_toList]
    omega
  have hj : sIx items.size items.size hi ≤ items.size := sIx_le _ _ (Nat.le_refl _) hi
  obtain ⟨os, hos, hcs, hds⟩ := id hs
  have hTs : s.TypeIs (.ref sl) "slice" := ⟨os, hos, hcs⟩
  unfold getItem
  try with_reducible refine wpAny_holding ?_
  first | refine wpAny_bind (wpAny_pure ?_) | skip
  refine wpAny_bind (wpAny_sequenceKey ht.typeIs (by decide) ?_)
  refine wpAny_bind (wpAny_callSpecial?_slot (name := Str.ofString "__getitem__") ht.typeIs PyProof.Rows.slot_tuple_getitem
    (wpAny_call_entry PyProof.Rows.slot_tuple_getitem ht.typeIs entry_tuple_getitem ?_ (args_tuple_getitem _ _)))
  show wpAny _ _ (Builtin.Tuple.tupleItemsOf (.ref t) >>= _) _ _ s
  refine wpAny_bind (tupleItemsOf_ ht ?_)
  refine wpAny_bind (wpAny_typeOf hTs ?_)
  rw [if_pos (by decide)]
  refine wpAny_bind (sliceApplied_gen hs pl pu ?_)
  have hno : ¬ ((((sIx items.size 0 lo : Nat) : Int) == 0 && (1 : Int) == 1 && (sIx items.size items.size hi - sIx items.size 0 lo) == items.size) = true) := by
    intro q
    rw [Bool.and_eq_true, Bool.and_eq_true] at q
    have q1 : ((sIx items.size 0 lo : Nat) : Int) = 0 := eq_of_beq q.1.1
    have q2 : sIx items.size items.size hi - sIx items.size 0 lo = items.size := eq_of_beq q.2
    exact hw ⟨by omega, by omega⟩
  show wpAny _ _ (if (((sIx items.size 0 lo : Nat) : Int) == 0 && (1 : Int) == 1 && (sIx items.size items.size hi - sIx items.size 0 lo) == items.size) = true then _ else _) _ _ s
  rw [if_neg hno, pick_gen]
  first
    | exact wpAny_bind (m := Builtin.Tuple.tupleExact _) (wpAny_newObj_type (wpAny_pure ⟨_, rfl, wpAny_pure h⟩) htake)
    | exact wpAny_bind (m := Builtin.Tuple.tupleExact _) (wpAny_newObj_type (wpAny_bind (wpAny_pure (wpAny_pure ⟨_, rfl, wpAny_pure h⟩))) htake)
    | exact wpAny_bind (wpAny_bind (m := Builtin.Tuple.tupleExact _) (wpAny_newObj_type (wpAny_pure (wpAny_pure ⟨_, rfl, wpAny_pure h⟩)) htake))
    | exact wpAny_bind (wpAny_bind (m := Builtin.Tuple.tupleExact _) (wpAny_newObj_type (wpAny_pure ⟨_, rfl, wpAny_pure h⟩) htake))
end
end HT

namespace L2
open PySem PySem.Spec PyProof.Rows

/-! ### the parts of a slice -/
noncomputable abbrev TO := St → Hp → (Option Int → Hp → Prop) → Prop
/-- a slice's part (left out, or an int) -/
noncomputable def PO (X : Cx) (e : Option Expr) (t : TO) : Prop :=
  ∀ (pins : List (Addr × Obj)) (s : Shared) (σ : St) (H : Hp) (Q : Option Int → Hp → Prop), Inv X pins σ H s → t σ H Q →
    wpAny (model X.prog X.w) X.A (evalPart e X.env) (fun u s' => ∃ o H', Inv X pins σ H' s' ∧ IsPart u o ∧ Q o H') X.xe s
noncomputable def tNoPart : TO := fun _ H Q => Q none H
noncomputable def tPart (t : TE) : TO := fun σ H Q => t σ H fun x H1 => ∃ i, x = .int i ∧ Q (some i) H1

theorem intsAre_of {ns : List Int} : ∀ {us : List Value}, Vals (ns.map V.int) us → IntsAre us ns := by
  induction ns with
  | nil => intro us r; rw [List.map_nil] at r; cases r; exact .nil
  | cons n ns ih =>
    intro us r
    rw [List.map_cons] at r
    cases r with
    | cons r1 r2 =>
      obtain ⟨t, e⟩ := r1
      subst e
      exact .cons n t (ih r2)

section
variable {X : Cx} {e : Expr} {te : TE} {lo hi : Option Expr} {tl th : TO} {pos p2 : Pos}

theorem po_none : PO X none tNoPart := by
  intro pins s σ H Q I h
  rw [evalPart_none]
  exact wpAny_pure ⟨none, H, I, .none, h⟩
theorem po_some (h : PE X e te) : PO X (some e) (tPart te) := by
  intro pins s σ H Q I hw
  rw [evalPart_some]
  refine thn (h pins s σ H _ I hw) fun u s1 ⟨x, H1, I1, r1, q1⟩ => ?_
  obtain ⟨i, rfl, q⟩ := q1
  obtain ⟨t, rfl⟩ := r1
  exact ⟨some i, H1, I1, .int i t, q⟩

/-- what a slice of a value is, by values: the slice object stands at sl -/
noncomputable def SlR (X : Cx) (r : V → Option Int → Option Int → Hp → VK → Prop) : Prop :=
  ∀ (pins : List (Addr × Obj)) (s : Shared) (σ : St) (H : Hp) (x : V) (v vl vu : Value) (lo hi : Option Int) (sl : Addr) (Q : VK), Inv X pins σ H s → RelV x v → s.heap.IsSliceOf sl vl vu .none → IsPart vl lo → IsPart vu hi → r x lo hi H Q →
    ∃ T id, typeLookup (.type T) "__getitem__" = pure (some (.builtin id)) ∧ s.TypeIs v T ∧ wpAny (model X.prog X.w) X.A (getItem v (.ref sl)) (EP X pins σ Q) X.xe s
theorem SlR.or {r r' : V → Option Int → Option Int → Hp → VK → Prop} (h : SlR X r) (h' : SlR X r') : SlR X (fun x lo hi H Q => r x lo hi H Q ∨ r' x lo hi H Q) := by
  intro pins s σ H x v vl vu lo hi sl Q I rx hs pl pu q
  rcases q with q | q
  · exact h pins s σ H x v vl vu lo hi sl Q I rx hs pl pu q
  · exact h' pins s σ H x v vl vu lo hi sl Q I rx hs pl pu q
noncomputable def tSl (r : V → Option Int → Option Int → Hp → VK → Prop) (te : TE) (tl th : TO) : TE := fun σ H Q => te σ H fun x H1 => tl σ H1 fun l H2 => th σ H2 fun u H3 => r x l u H3 Q
/-- a[lo:hi], any a -/
theorem pe_slice {r : V → Option Int → Option Int → Hp → VK → Prop} (hr : SlR X r) (he : PE X e te) (hl : PO X lo tl) (hu : PO X hi th) : PE X (.Subscript e (.Slice lo hi none p2) pos) (tSl r te tl th) := by
  intro pins s σ H Q I h
  refine Subscript_ (thn (he pins s σ H _ I h) fun v s1 ⟨x, H1, I1, r1, q1⟩ => ?_)
  refine wpAny_Slice (thn (hl pins s1 σ H1 _ I1 q1) fun vl s2 ⟨l, H2, I2, pl, q2⟩ => thn (hu pins s2 σ H2 _ I2 q2) fun vu s3 ⟨u, H3, I3, pu, q3⟩ => ?_)
  rw [evalPart_none]
  refine wpAny_pure ?_
  have I4 : Inv X pins σ H3 { s3 with heap := s3.heap.push { cls := .type "slice", data := .fields #[vl, vu, .none] } } := I3.kept (t' := s3.toks) fun b ob q => Heap.get?_push_of_some _ q
  obtain ⟨T, id, hT, ht, hg⟩ := hr pins { s3 with heap := s3.heap.push { cls := .type "slice", data := .fields #[vl, vu, .none] } } σ H3 x v vl vu l u s3.heap.objs.size Q I4 r1 (Heap.IsSliceOf.new ..) pl pu q3
  show wpAny (model X.prog X.w) X.A (subscriptTail e (.Slice lo hi none p2) v (.ref s3.heap.objs.size)) (EP X pins σ Q) X.xe { s3 with heap := s3.heap.push { cls := .type "slice", data := .fields #[vl, vu, .none] } }
  exact tail_any (ops := [.ref s3.heap.objs.size, v]) ht hT hg (by with_unfolding_all rfl)

/-- the items of xs[lo:hi] -/
noncomputable def cutV (xs : List V) (lo hi : Option Int) : List V := (xs.drop (HT.sIx xs.length 0 lo)).take (HT.sIx xs.length xs.length hi - HT.sIx xs.length 0 lo)
theorem cutV_length (xs : List V) (lo hi : Option Int) : (cutV xs lo hi).length ≤ xs.length := by
  unfold cutV
  rw [List.length_take, List.length_drop]
  omega
/-- t[lo:hi], not the whole of it (the whole would be t itself) -/
noncomputable def rSlT (K : PySem.W.Frag) : V → Option Int → Option Int → Hp → VK → Prop := fun x lo hi H Q => ∃ a xs, x = .ref a ∧ SqT K H a xs ∧
  ¬ (HT.sIx xs.length 0 lo = 0 ∧ HT.sIx xs.length xs.length hi = xs.length) ∧ ∀ p, H p = none → Q (.ref p) (upd H p (.tup (cutV xs lo hi)))
theorem sl_tup : SlR X (rSlT X.K) := by
  intro pins s σ H x v vl vu lo hi sl Q I rx hs pl pu h
  obtain ⟨a, xs, rfl, hx, hw, q⟩ := h
  cases rx
  obtain ⟨its, r, ht, hz⟩ := I.tuple hx
  have hlen : its.toArray.size = xs.length := by rw [List.size_toArray]; exact r.length.symm
  refine ⟨"tuple", _, PyProof.Rows.slot_tuple_getitem.lookup, ht.typeIs, ?_⟩
  refine HT.getItem_tuple_cut ht hs pl pu (by rw [hlen]; exact hw) ?_ (by rw [hlen]; exact hz)
  rw [hlen]
  refine ⟨.ref s.heap.objs.size, _, I.laid (t' := s.toks) (o := .tup (cutV xs lo hi)) (fun b ob q => Heap.get?_push_of_some _ q) (Nat.le_refl _) ?_, rfl, q _ (I.hok.fresh (Nat.le_refl _))⟩
  exact ⟨Nat.le_trans (cutV_length xs lo hi) hz, _, (r.drop (HT.sIx xs.length 0 lo)).take (HT.sIx xs.length xs.length hi - HT.sIx xs.length 0 lo), IsTup.new _ _⟩

/-! ### t < u, t + u -/
/-- t + u, t not empty: u empty gives t itself -/
noncomputable def rCatT (K : PySem.W.Frag) : R2 := fun x y H Q => ∃ a b xs ys, x = .ref a ∧ y = .ref b ∧ SqT K H a xs ∧ SqT K H b ys ∧ xs ≠ [] ∧ xs.length + ys.length ≤ sizeLine ∧
  (ys = [] → Q (.ref a) H) ∧ (ys ≠ [] → ∀ p, H p = none → Q (.ref p) (upd H p (.tup (xs ++ ys))))
theorem Vals.nil_iff {xs : List V} {us : List Value} (r : Vals xs us) : us = [] ↔ xs = [] := by
  cases r with
  | nil => simp
  | cons _ _ => simp
theorem op_catT : OpR X (binaryOp .Add) (rCatT X.K) := by
  intro pins s σ H x y v u Q I rx ry h
  obtain ⟨a, b, xs, ys, rfl, rfl, ha, hb, hx, hz, q1, q2⟩ := h
  cases rx
  cases ry
  obtain ⟨its, r1, p1, _⟩ := I.tuple ha
  obtain ⟨its2, r2, p2, _⟩ := I.tuple hb
  refine HT.cat_tup p1 p2 (fun z => hx (r1.nil_iff.mp z)) (fun z => ⟨.ref a, H, I, rfl, q1 (r2.nil_iff.mp z)⟩) (fun z => ?_) (by rw [← r1.length, ← r2.length]; exact hz)
  refine ⟨.ref s.heap.objs.size, _, I.laid (t' := s.toks) (o := .tup (xs ++ ys)) (fun b ob q => Heap.get?_push_of_some _ q) (Nat.le_refl _) ?_, rfl, q2 (fun w => z (r2.nil_iff.mpr w)) _ (I.hok.fresh (Nat.le_refl _))⟩
  exact ⟨by rw [List.length_append]; exact hz, _, r1.append r2, IsTup.new _ _⟩
end
end L2

namespace L2
open PySem PySem.Spec PyProof.Rows

/-! ### places -/
/-- the place that an index of any sign means -/
noncomputable def ixN (n : Nat) (i : Int) : Option Nat := if 0 ≤ i then (if i < n then some i.toNat else none) else if -(n : Int) ≤ i then some (i + n).toNat else none
noncomputable def atI {α : Type} (xs : List α) (i : Int) : Option α := (ixN xs.length i).bind fun j => xs[j]?
theorem ixN_seq {n : Nat} {i : Int} {j : Nat} (h : ixN n i = some j) : seqIndex? i n = some j ∧ j < n ∧ -(n : Int) ≤ i ∧ i < n := by
  unfold ixN at h
  by_cases h0 : 0 ≤ i
  · rw [if_pos h0] at h
    by_cases h1 : i < n
    · rw [if_pos h1] at h
      have e : i.toNat = j := Option.some.inj h
      exact ⟨by rw [seqIndex_of h0 h1, e], by omega, by omega, h1⟩
    · rw [if_neg h1] at h; cases h
  · rw [if_neg h0] at h
    by_cases h1 : -(n : Int) ≤ i
    · rw [if_pos h1] at h
      have e : (i + n).toNat = j := Option.some.inj h
      exact ⟨by rw [seqIndex_neg (by omega) h1, e], by omega, h1, by omega⟩
    · rw [if_neg h1] at h; cases h
theorem atI_get {α : Type} {xs : List α} {i : Int} {v : α} (h : atI xs i = some v) : ∃ j, seqIndex? i xs.length = some j ∧ xs[j]? = some v ∧ j < xs.length ∧ -(xs.length : Int) ≤ i ∧ i < xs.length := by
  unfold atI at h
  cases e : ixN xs.length i with
  | none => rw [e] at h; cases h
  | some j =>
    rw [e] at h
    obtain ⟨h1, h2, h3, h4⟩ := ixN_seq e
    exact ⟨j, h1, h, h2, h3, h4⟩
theorem atI_nat {α : Type} {xs : List α} {j : Nat} {v : α} (h : xs[j]? = some v) : atI xs (j : Int) = some v := by
  have hj : j < xs.length := (List.getElem?_eq_some_iff.mp h).1
  have e : ixN xs.length (j : Int) = some j := by
    unfold ixN
    rw [if_pos (by omega), if_pos (by omega)]; simp
  unfold atI; rw [e]; exact h
/-! ### what may be subscripted -/
/-- what stands as an index of a plain subscript -/
noncomputable def PlainIx (b : Expr) : Prop := ∀ o i, subscripted b false o i = operate [o, i] (getItem o i)
/-- a subscript by values -/
noncomputable def IxR (X : Cx) (r : R2) : Prop :=
  ∀ (value slice : Expr) (pins : List (Addr × Obj)) (s : Shared) (σ : St) (H : Hp) (x y : V) (v u : Value) (Q : VK), Inv X pins σ H s → RelV x v → RelV y u → r x y H Q →
    subscripted slice false v u = operate [v, u] (getItem v u) → wpAny (model X.prog X.w) X.A (subscriptTail value slice v u) (EP X pins σ Q) X.xe s
/-- a call of a builtin's method by values: the receiver, the arguments -/
noncomputable def MtR (X : Cx) (id : String) (r : V → List V → Hp → VK → Prop) : Prop :=
  ∀ (pins : List (Addr × Obj)) (s : Shared) (σ : St) (H : Hp) (x : V) (xs : List V) (v : Value) (us : List Value) (Q : VK), Inv X pins σ H s → RelV x v → Vals xs us → r x xs H Q →
    wpAny (model X.prog X.w) X.A (call (.builtin id) (v :: us)) (EP X pins σ Q) X.xe s
section
variable {X : Cx} {a b : Expr} {ta tb : TE} {pos : Pos}
theorem IxR.or {r r' : R2} (h : IxR X r) (h' : IxR X r') : IxR X (fun x y H Q => r x y H Q ∨ r' x y H Q) := by
  intro value slice pins s σ H x y v u Q I rx ry q hs
  rcases q with q | q
  · exact h value slice pins s σ H x y v u Q I rx ry q hs
  · exact h' value slice pins s σ H x y v u Q I rx ry q hs
/-- a[b] -/
theorem pe_ix {r : R2} (hr : IxR X r) (ha : PE X a ta) (hb : PE X b tb) (hs : PlainIx b) : PE X (.Subscript a b pos) (tOp r ta tb) := by
  intro pins s σ H Q I h
  exact Subscript_ (binT ha hb I h fun v u s2 x y H2 I2 rx ry q => hr a b pins s2 σ H2 x y v u Q I2 rx ry q (hs _ _))

noncomputable def rIxL (K : PySem.W.Frag) : R2 := fun x y H Q => ∃ p xs i v, x = .ref p ∧ y = .int i ∧ SqL K H p xs ∧ atI xs i = some v ∧ Q v H
noncomputable def rIxT (K : PySem.W.Frag) : R2 := fun x y H Q => ∃ p xs i v, x = .ref p ∧ y = .int i ∧ SqT K H p xs ∧ atI xs i = some v ∧ Q v H
noncomputable def rIxS : R2 := fun x y H Q => ∃ z i c, x = .str z ∧ y = .int i ∧ z.length ≤ sizeLine ∧ atI z.cps.toList i = some c ∧ Q (.str ⟨#[c]⟩) H
theorem ix_list : IxR X (rIxL X.K) := by
  intro value slice pins s σ H x y v u Q I rx ry h hs
  obtain ⟨p, xs, i, z, rfl, rfl, hq, he, q⟩ := h
  cases rx
  obtain ⟨t, rfl⟩ := ry
  obtain ⟨its, r, pl, hz⟩ := I.list hq
  obtain ⟨j, h1, h2, h3, h4, h5⟩ := atI_get he
  obtain ⟨w, ew, rw'⟩ := r.get h2
  have hl := r.length
  have hn := line63
  have fin : EP X pins σ Q w s := ⟨z, H, I, rw', q⟩
  by_cases h0 : 0 ≤ i
  · have hj : i.toNat = j := by
      rw [seqIndex_of h0 h5] at h1
      exact Option.some.inj h1
    exact item_listR pl.isList h0 (by omega) (by rw [hj]; simpa using ew) fin hs
  · have hj : (i + (its.toArray.size : Int)).toNat = j := by
      rw [seqIndex_neg (by omega) h4] at h1
      rw [List.size_toArray, ← hl]
      exact Option.some.inj h1
    exact subscriptTail_builtinR (x := w) pl.isList.typeIs slot_list_getitem.lookup
      (wpAny_getItem_list_neg (Q := fun r s' => r = w ∧ EP X pins σ Q r s') pl.isList (by omega) (by rw [List.size_toArray] <;> omega) (by omega) (by rw [hj]; simpa using ew) ⟨rfl, fin⟩) hs
theorem ix_tup : IxR X (rIxT X.K) := by
  intro value slice pins s σ H x y v u Q I rx ry h hs
  obtain ⟨p, xs, i, z, rfl, rfl, hq, he, q⟩ := h
  cases rx
  obtain ⟨t, rfl⟩ := ry
  obtain ⟨its, r, pl, hz⟩ := I.tuple hq
  obtain ⟨j, h1, h2, h3, h4, h5⟩ := atI_get he
  obtain ⟨w, ew, rw'⟩ := r.get h2
  have hl := r.length
  have hn := line63
  have fin : EP X pins σ Q w s := ⟨z, H, I, rw', q⟩
  exact subscriptTail_builtinR (x := w) pl.typeIs slot_tuple_getitem.lookup
    (getItem_tuple (j := j) (Q := fun r s' => r = w ∧ EP X pins σ Q r s') pl (by omega) (by omega) (by rw [List.size_toArray, ← hl]; exact h1) (by simpa using ew) ⟨rfl, fin⟩) hs
theorem ix_str : IxR X rIxS := by
  intro value slice pins s σ H x y v u Q I rx ry h hs
  obtain ⟨z, i, c, rfl, rfl, hz, he, q⟩ := h
  obtain ⟨t, rfl⟩ := rx
  obtain ⟨t', rfl⟩ := ry
  obtain ⟨j, h1, h2, h3, h4, h5⟩ := atI_get he
  have hl : z.cps.toList.length = z.length := by simp [Str.length]
  rw [hl] at h1 h4 h5
  have hn := line63
  exact tail_any (typeIs_str s z t) slot_str_getitem.lookup (getItem_str (c := c) (by
    have e1 : decide (i < -(2 ^ 63 : Int)) = false := decide_eq_false (by omega)
    have e2 : decide (i ≥ 2 ^ 63) = false := decide_eq_false (by omega)
    rw [e1, e2, Bool.or_false]) (by rw [h1]; simpa using h2) ⟨.str ⟨#[c]⟩, H, I.tok _, ⟨_, rfl⟩, q⟩) hs
/-- list, tuple or str -/
noncomputable def rIx (K : PySem.W.Frag) : R2 := fun x y H Q => rIxL K x y H Q ∨ rIxT K x y H Q ∨ rIxS x y H Q
theorem ix_seq : IxR X (rIx X.K) := ix_list.or (ix_tup.or ix_str)

/-! ### xs[i] = v, any sign -/
/-! ### slices -/
theorem slice_bounds (lo hi : Option Int) (n : Nat) : (sliceBounds lo hi none n).1 = ((HT.sIx n 0 lo : Nat) : Int) ∧ (sliceBounds lo hi none n).2.1 = ((HT.sIx n n hi : Nat) : Int) ∧ (sliceBounds lo hi none n).2.2 = 1 := by
  refine ⟨?_, ?_, rfl⟩
  · cases lo with
    | none => simp [sliceBounds, HT.sIx]
    | some i =>
      simp only [sliceBounds, HT.sIx, Option.getD_none, show (1 : Int) > 0 by decide, if_true]
      by_cases h : i < 0
      · simp only [h, if_true] <;> omega
      · simp only [h, if_false] <;> omega
  · cases hi with
    | none => simp [sliceBounds, HT.sIx]
    | some i =>
      simp only [sliceBounds, HT.sIx, Option.getD_none, show (1 : Int) > 0 by decide, if_true]
      by_cases h : i < 0
      · simp only [h, if_true] <;> omega
      · simp only [h, if_false] <;> omega
theorem slicePick_cut (its : List Value) (lo hi : Option Int) : slicePick its.toArray lo hi none = ((its.drop (HT.sIx its.length 0 lo)).take (HT.sIx its.length its.length hi - HT.sIx its.length 0 lo)).toArray := by
  obtain ⟨h1, h2, h3⟩ := slice_bounds lo hi its.toArray.size
  unfold slicePick
  rw [h1, h2, h3]
  simp only [sliceRange_one, pick_run, List.size_toArray] <;> rfl
/-- xs[lo:hi] of a list: a new list -/
noncomputable def rSlL (K : PySem.W.Frag) : V → Option Int → Option Int → Hp → VK → Prop := fun x lo hi H Q => ∃ a xs, x = .ref a ∧ SqL K H a xs ∧ ∀ p, H p = none → Q (.ref p) (upd H p (.lst (cutV xs lo hi)))
theorem sl_list : SlR X (rSlL X.K) := by
  intro pins s σ H x v vl vu lo hi sl Q I rx hs pl pu h
  obtain ⟨a, xs, rfl, hx, q⟩ := h
  cases rx
  obtain ⟨its, r, ht, hz⟩ := I.list hx
  have hlen := r.length
  refine ⟨"list", _, slot_list_getitem.lookup, ht.isList.typeIs, ?_⟩
  refine wpAny_getItem_list_slice ht.isList hs pl pu .none (by simp) ?_ (by rw [List.size_toArray] <;> omega)
  rw [slicePick_cut, ← hlen]
  refine ⟨.ref s.heap.objs.size, _, I.laid (t' := s.toks) (o := .lst (cutV xs lo hi)) (fun b ob q => Heap.get?_push_of_some _ q) (Nat.le_refl _) ?_, rfl, q _ (I.hok.fresh (Nat.le_refl _))⟩
  exact ⟨Nat.le_trans (cutV_length xs lo hi) hz, _, 0, (r.drop (HT.sIx xs.length 0 lo)).take (HT.sIx xs.length xs.length hi - HT.sIx xs.length 0 lo), Heap.get?_push_size _ rfl⟩

/-! ### in, not in: flat items -/
noncomputable def flatV : V → Bool
  | .non => true
  | .bl _ => true
  | .int _ => true
  | .str _ => true
  | _ => false
/-- == of flat values -/
noncomputable def eqV : V → V → Bool
  | .non, .non => true
  | .bl a, .bl b => a == b
  | .bl a, .int b => (if a then 1 else 0) == b
  | .int a, .bl b => a == (if b then 1 else 0)
  | .int a, .int b => a == b
  | .str a, .str b => a == b
  | _, _ => false
theorem eqAt_V {A : Around} {s : Shared} {y x : V} {u v : Value} (ry : RelV y u) (rx : RelV x v) (fy : flatV y = true) (fx : flatV x = true) : SeqAt.EqAt A s u v (eqV y x) := by
  cases y with
  | non =>
    cases ry
    cases x with
    | non => cases rx; exact SeqAt.EqAt.same _
    | bl b => cases rx; exact SeqAt.EqAt.none_bool b
    | int b => obtain ⟨t, rfl⟩ := rx; exact SeqAt.EqAt.none_int b t
    | str b => obtain ⟨t, rfl⟩ := rx; exact SeqAt.EqAt.none_str b t
    | _ => exact absurd (show false = true from fx) Bool.false_ne_true
  | bl a =>
    cases ry
    cases x with
    | non => cases rx; exact SeqAt.EqAt.bool_none a
    | bl b => cases rx; exact SeqAt.EqAt.bool_bool a b
    | int b => obtain ⟨t, rfl⟩ := rx; exact SeqAt.EqAt.bool_int a b t
    | str b => obtain ⟨t, rfl⟩ := rx; exact SeqAt.EqAt.bool_str a b t
    | _ => exact absurd (show false = true from fx) Bool.false_ne_true
  | int a =>
    obtain ⟨t', rfl⟩ := ry
    cases x with
    | non => cases rx; exact SeqAt.EqAt.int_none a t'
    | bl b => cases rx; exact SeqAt.EqAt.int_bool a t' b
    | int b => obtain ⟨t, rfl⟩ := rx; exact SeqAt.EqAt.int_int a t' b t
    | str b => obtain ⟨t, rfl⟩ := rx; exact SeqAt.EqAt.int_str a t' b t
    | _ => exact absurd (show false = true from fx) Bool.false_ne_true
  | str a =>
    obtain ⟨t', rfl⟩ := ry
    cases x with
    | non => cases rx; exact SeqAt.EqAt.str_none a t'
    | bl b => cases rx; exact SeqAt.EqAt.str_bool a t' b
    | int b => obtain ⟨t, rfl⟩ := rx; exact SeqAt.EqAt.str_int a t' b t
    | str b => obtain ⟨t, rfl⟩ := rx; exact SeqAt.EqAt.str_str a t' b t
    | _ => exact absurd (show false = true from fx) Bool.false_ne_true
  | _ => exact absurd (show false = true from fy) Bool.false_ne_true
/-- the items' answers, read off the values (a value's own answer does not lean on its token) -/
noncomputable def eqU (x : V) (u : Value) : Bool := match u with
  | .none => eqV .non x
  | .bool b => eqV (.bl b) x
  | .int i _ => eqV (.int i) x
  | .str z _ => eqV (.str z) x
  | _ => false
theorem eqU_of {x y : V} {u : Value} (r : RelV y u) (f : flatV y = true) : eqU x u = eqV y x := by
  cases y with
  | non => cases r; rfl
  | bl b => cases r; rfl
  | int i => obtain ⟨t, rfl⟩ := r; rfl
  | str z => obtain ⟨t, rfl⟩ := r; rfl
  | _ => exact absurd (show false = true from f) Bool.false_ne_true
theorem any_eqU {x : V} : ∀ {xs : List V} {us : List Value}, Vals xs us → xs.all flatV = true → us.any (eqU x) = xs.any fun y => eqV y x
  | _, _, .nil, _ => rfl
  | y :: xs, u :: us, .cons r t, f => by
    rw [List.all_cons, Bool.and_eq_true] at f
    rw [List.any_cons, List.any_cons, eqU_of r f.1, any_eqU t f.2]
theorem mem_eqAt {A : Around} {s : Shared} {x : V} {v : Value} (rx : RelV x v) (fx : flatV x = true) : ∀ {xs : List V} {us : List Value}, Vals xs us → xs.all flatV = true → ∀ u ∈ us, SeqAt.EqAt A s u v (eqU x u)
  | _, _, .nil, _ => fun u hu => by cases hu
  | y :: xs, u :: us, .cons r t, f => fun u' hu => by
    rw [List.all_cons, Bool.and_eq_true] at f
    rcases List.mem_cons.mp hu with rfl | hu
    · rw [eqU_of r f.1]; exact eqAt_V r rx f.1 fx
    · exact mem_eqAt rx fx t f.2 u' hu
noncomputable def inV (x : V) (xs : List V) : Bool := xs.any fun y => eqV y x
/-- x in a list or tuple of flat items -/
noncomputable def rIn (K : PySem.W.Frag) (neg : Bool) : R2 := fun x y H Q => ∃ p xs, y = .ref p ∧ (SqL K H p xs ∨ SqT K H p xs) ∧ flatV x = true ∧ xs.all flatV = true ∧ Q (.bl (if neg then !inV x xs else inV x xs)) H
theorem op_in_seq : OpR X (compareOp .In) (rIn X.K false) := by
  intro pins s σ H x y v u Q I rx ry h
  obtain ⟨p, xs, rfl, hq, fx, fs, q⟩ := h
  cases ry
  rcases hq with hq | hq
  · obtain ⟨its, r, pl, hz⟩ := I.list hq
    refine SeqAt.in_listAt (eqU x) pl.isList (fun w hw => mem_eqAt rx fx r fs w (by simpa using hw)) ⟨.bl _, H, I, rfl, ?_⟩
    rw [show its.toArray.any (eqU x) = its.any (eqU x) by simp, any_eqU r fs]
    exact q
  · obtain ⟨its, r, pl, hz⟩ := I.tuple hq
    refine SeqAt.in_tupleAt (eqU x) pl (fun w hw => mem_eqAt rx fx r fs w (by simpa using hw)) ⟨.bl _, H, I, rfl, ?_⟩
    rw [show its.toArray.any (eqU x) = its.any (eqU x) by simp, any_eqU r fs]
    exact q
theorem op_notIn_seq : OpR X (compareOp .NotIn) (rIn X.K true) := by
  intro pins s σ H x y v u Q I rx ry h
  obtain ⟨p, xs, rfl, hq, fx, fs, q⟩ := h
  cases ry
  rcases hq with hq | hq
  · obtain ⟨its, r, pl, hz⟩ := I.list hq
    refine SeqAt.notIn_listAt (eqU x) pl.isList (fun w hw => mem_eqAt rx fx r fs w (by simpa using hw)) ⟨.bl _, H, I, rfl, ?_⟩
    rw [show its.toArray.any (eqU x) = its.any (eqU x) by simp, any_eqU r fs]
    exact q
  · obtain ⟨its, r, pl, hz⟩ := I.tuple hq
    refine SeqAt.notIn_tupleAt (eqU x) pl (fun w hw => mem_eqAt rx fx r fs w (by simpa using hw)) ⟨.bl _, H, I, rfl, ?_⟩
    rw [show its.toArray.any (eqU x) = its.any (eqU x) by simp, any_eqU r fs]
    exact q
/-! ### len, list(x), tuple(x) of any list or tuple that is read -/
theorem call_len_seq : CallR X (.builtin "len") (fun xs H Q => ∃ p ys, xs = [.ref p] ∧ (SqL X.K H p ys ∨ SqT X.K H p ys) ∧ Q (.int ys.length) H) := by
  intro pins s σ H xs us Q I r h
  obtain ⟨p, ys, rfl, hq, q⟩ := h
  obtain ⟨u, rfl, rx⟩ := vals1 r
  cases rx
  have hn := line63
  rcases hq with hq | hq
  · obtain ⟨its, r', pl, hz⟩ := I.list hq
    have hlen := r'.length
    exact Calls.call_len_list pl.isList (by simp only [List.size_toArray] <;> omega) ⟨.int ys.length, H, I.tok _, ⟨s.toks + 1, by rw [List.size_toArray, hlen]⟩, q⟩
  · obtain ⟨its, r', pl, hz⟩ := I.tuple hq
    have hlen := r'.length
    exact len_tuple pl (by simp only [List.size_toArray] <;> omega) ⟨.int ys.length, H, I.tok _, ⟨s.toks + 1, by rw [List.size_toArray, hlen]⟩, q⟩
theorem call_len_str : CallR X (.builtin "len") (fun xs H Q => ∃ z, xs = [.str z] ∧ z.length ≤ sizeLine ∧ Q (.int z.length) H) := by
  intro pins s σ H xs us Q I r h
  obtain ⟨z, rfl, hz, q⟩ := h
  obtain ⟨u, rfl, t, rfl⟩ := vals1 r
  have hn := line63
  exact len_str (by omega) ⟨.int z.length, H, I.tok _, ⟨_, rfl⟩, q⟩
theorem call_list_of : CallR X (.type "list") (fun xs H Q => ∃ p ys, xs = [.ref p] ∧ (SqL X.K H p ys ∨ SqT X.K H p ys) ∧ ∀ l, H l = none → Q (.ref l) (upd H l (.lst ys))) := by
  intro pins s σ H xs us Q I r h
  obtain ⟨p, ys, rfl, hq, q⟩ := h
  obtain ⟨u, rfl, rx⟩ := vals1 r
  cases rx
  have fin : ∀ (its : List Value), Vals ys its → ys.length ≤ sizeLine → ∀ (h' : Heap) (c' : Nat), (∀ b o', s.heap.get? b = some o' → h'.get? b = some o') →
      h'.get? s.heap.objs.size = some { cls := .type "list", dict := none, data := .seq its.toArray c', slots := #[] } → EP X pins σ Q (.ref s.heap.objs.size) { s with heap := h' } := fun its r' hz h' c' kp e =>
    ⟨.ref s.heap.objs.size, _, I.laid (t' := s.toks) kp (Nat.le_refl _) (show ObjOk X.prog X.w _ h' _ (.lst ys) from ⟨hz, its, c', r', e⟩), rfl, q _ (I.hok.fresh (Nat.le_refl _))⟩
  rcases hq with hq | hq
  · obtain ⟨its, r', pl, hz⟩ := I.list hq
    have hlen := r'.length
    obtain ⟨o, ho, hc, n, hd⟩ := pl.isList
    exact call_list_seq p (.inl rfl) ho hc hd (fun h' c' kp e => fin its r' hz h' c' kp e) (by simp only [List.size_toArray] <;> omega)
  · obtain ⟨its, r', pl, hz⟩ := I.tuple hq
    have hlen := r'.length
    obtain ⟨o, ho, hc, n, hd⟩ := pl
    exact call_list_seq p (.inr rfl) ho hc hd (fun h' c' kp e => fin its r' hz h' c' kp e) (by simp only [List.size_toArray] <;> omega)
/-! ### the call of a builtin's method: o.m(..) -/
/-- the value is of that builtin type -/
noncomputable def tyV (K : PySem.W.Frag) (T : String) (x : V) (H : Hp) : Prop := match x with
  | .str _ => T = "str"
  | .int _ => T = "int"
  | .ref p => (T = "list" ∧ ∃ xs, SqL K H p xs) ∨ (T = "tuple" ∧ ∃ o, K.lookup p = some o ∧ o.cls = .type "tuple" ∧ o.dict = none) ∨
      (T = "dict" ∧ ((∃ kvs, H p = some (.dK kvs)) ∨ ∃ kvs, H p = some (.dT kvs))) ∨ (T = "set" ∧ ∃ S n, H p = some (.set S n))
  | _ => False
theorem tyV_is {pins : List (Addr × Obj)} {σ : St} {H : Hp} {s : Shared} {T : String} {x : V} {v : Value} (I : Inv X pins σ H s) (r : RelV x v) (ty : tyV X.K T x H) :
    s.TypeIs v T ∧ ∀ a, v = .ref a → ∃ ob, s.heap.get? a = some ob ∧ ob.dict = none := by
  cases x with
  | str z =>
    obtain ⟨t, rfl⟩ := r
    cases (show T = "str" from ty)
    exact ⟨typeIs_str s z t, fun _ e => nomatch e⟩
  | int i =>
    obtain ⟨t, rfl⟩ := r
    cases (show T = "int" from ty)
    exact ⟨typeIs_int s i t, fun _ e => nomatch e⟩
  | ref p =>
    cases r
    rcases ty with ⟨rfl, xs, hq⟩ | ⟨rfl, o, hk, hc, hd⟩ | ⟨rfl, hk⟩ | ⟨rfl, S, n, hk⟩
    · obtain ⟨its, _, pl, _⟩ := I.list hq
      refine ⟨pl.isList.typeIs, fun a e => ?_⟩
      cases e
      obtain ⟨o, n, e, c, hd, _⟩ := pl
      exact ⟨o, e, hd⟩
    · refine ⟨⟨o, I.kIn p o hk, hc⟩, fun a e => ?_⟩
      cases e
      exact ⟨o, I.kIn _ o hk, hd⟩
    · have z : ∃ o, s.heap.get? p = some o ∧ o.ExactDict := by
        rcases hk with ⟨kvs, hk⟩ | ⟨kvs, hk⟩
        · obtain ⟨_, _, _, _, o, _, _, e, ex, _⟩ := I.hok p _ hk
          exact ⟨o, e, ex⟩
        · obtain ⟨_, _, _, _, o, _, _, e, ex, _⟩ := I.hok p _ hk
          exact ⟨o, e, ex⟩
      obtain ⟨o, e, ex⟩ := z
      refine ⟨⟨o, e, ex.1⟩, fun a e2 => ?_⟩
      cases e2
      exact ⟨o, e, ex.2.1⟩
    · obtain ⟨o, _, _, _, e, ex, _⟩ := I.hok p _ hk
      refine ⟨⟨o, e, ex.1⟩, fun a e2 => ?_⟩
      cases e2
      exact ⟨o, e, ex.2.1⟩
  | _ => exact False.elim ty
noncomputable def tBM (K : PySem.W.Frag) (T : String) (r : V → List V → Hp → VK → Prop) (to : TE) (t : TA) : TE := fun σ H Q => to σ H fun x H1 => tyV K T x H1 ∧ t σ H1 fun xs H2 => r x xs H2 Q
variable {o e : Expr} {es : List Expr} {to : TE} {t : TA} {name : Str} {apos cpos : Pos} {T id : String} {r : V → List V → Hp → VK → Prop}
theorem pe_bm (pa : PlainAttrs T) (slot : Slot T name id) (hty : typeOf (.builtin id) = pure (.type "method_descriptor")) (hm : MtR X id r) (ho : PE X o to) (ha : PA X (e :: es) t)
    (hbase : attributeBase o name X.env (eval o X.env) = eval o X.env := by rfl)
    (hfew : ((backTo cpos (starEach (e :: es) X.env)).all (fun x => !x.1) && (backToKw cpos (keywordEach [] X.env)).all (fun x => x.1.isSome)
      && decide ((e :: es).length + ([] : List Keyword).length + (if ([] : List Keyword).isEmpty then 0 else 1) < 30)) = true := by rfl)
    (hline : (apos.endLine == cpos.line) = true := by rfl) (hs : starEach (e :: es) X.env = (false, eval e X.env) :: starEach es X.env := by rfl) (hplain : (backTo cpos (starEach es X.env)).any (·.1) = false := by rfl) :
    PE X (.Call (.Attribute o name apos) (e :: es) [] cpos) (tBM X.K T r to t) := by
  intro pins s σ H Q I h
  refine wpAny_Call_method_late hbase hfew hline rfl (thn (ho pins s σ H _ I h) fun v s1 ⟨x, H1, I1, r1, ty, q1⟩ => ?_)
  obtain ⟨h1, h2⟩ := tyV_is I1 r1 ty
  refine ⟨T, id, pa, slot, hty, h1, h2, ?_⟩
  have hA := ha cpos pins s1 σ H1 _ I1 q1
  rw [hs] at hA ⊢
  refine Calls.callWith_builtin (by show (false || (backTo cpos (starEach es X.env)).any (·.1)) = false; rw [hplain] <;> rfl) (Calls.evalArgs_plain ?_)
  exact thn hA fun us s2 ⟨vs, H2, I2, r2, q2⟩ => hm pins s2 σ H2 x vs v us Q I2 r1 r2 q2
/- xs.append(e), list.index on a module's tuple .. are MtR facts of 06m -/
end
end L2

namespace L2
open PySem PySem.Spec PyProof.Rows

noncomputable def MtM (X : Cx) (id : String) (r : V → List V → Hp → VK → Prop) : Prop :=
  ∀ (pins : List (Addr × Obj)) (s : Shared) (σ : St) (H : Hp) (x : V) (xs : List V) (v : Value) (us : List Value) (Q : VK), Inv X pins σ H s → RelV x v → Vals xs us → r x xs H Q →
    wpAny (model X.prog X.w) X.A (call (.builtin id) (v :: us)) (EP X pins σ Q) X.xe s

/-! ### lists of values -/
theorem Vals.one : ∀ {x : V} {us : List Value}, Vals [x] us → ∃ u, us = [u] ∧ RelV x u
  | _, _, .cons r .nil => ⟨_, rfl, r⟩
theorem Vals.two : ∀ {x y : V} {us : List Value}, Vals [x, y] us → ∃ u v, us = [u, v] ∧ RelV x u ∧ RelV y v
  | _, _, _, .cons r (.cons q .nil) => ⟨_, _, rfl, r, q⟩
section
variable {X : Cx} {pins : List (Addr × Obj)} {σ : St} {H : Hp} {s : Shared} {l b : Addr} {xs ys zs : List V}

/-! ### the two steps: a tracked list is rewritten, a new list is laid -/
theorem Inv.lset {its its' : List Value} {n : Nat} {f : Array Value → Array Value} {t' : Nat} (I : Inv X pins σ H s) (hH : H l = some (.lst xs))
    (e : s.heap.get? l = some { cls := .type "list", data := .seq its.toArray n }) (hf : f its.toArray = its'.toArray) (hv : Vals ys its') (hz : ys.length ≤ sizeLine) :
    Inv X pins σ (upd H l (.lst ys)) { s with heap := s.heap.update l (Obj.mapSeq f), toks := t' } := by
  have q := PySem.IsL.update e f
  rw [hf] at q
  refine I.write (x := l) (e := l) (by rw [hH]; exact trivial) (.inl rfl) (fun b' u hb hu => (Heap.get?_update_other s.heap (Obj.mapSeq f) (Ne.symm hb)).trans hu) ⟨_, q⟩ ?_
  exact ⟨hz, its', _, hv, q⟩
theorem Inv.lnew {its : List Value} {t' : Nat} (I : Inv X pins σ H s) (hv : Vals ys its) (hz : ys.length ≤ sizeLine) :
    Inv X pins σ (upd H s.heap.objs.size (.lst ys)) { s with heap := s.heap.push { cls := .type "list", data := .seq its.toArray }, toks := t' } :=
  I.laid (fun _ _ q => Heap.get?_push_of_some _ q) (Nat.le_refl _) ⟨hz, its, 0, hv, Heap.get?_push_size _ rfl⟩
theorem Inv.fresh (I : Inv X pins σ H s) : H s.heap.objs.size = none := I.hok.fresh (Nat.le_refl _)
theorem Inv.lstM (I : Inv X pins σ H s) (hH : H l = some (.lst xs)) : xs.length ≤ sizeLine ∧ ∃ (its : List Value) (n : Nat), Vals xs its ∧ xs.length = its.length ∧ s.heap.get? l = some { cls := .type "list", data := .seq its.toArray n } := by
  obtain ⟨z, its, n, r, e⟩ := I.hok l _ hH
  exact ⟨z, its, n, r, r.length, e⟩

end

section
variable {X : Cx}

/-! ### methods -/
noncomputable def rAppend : V → List V → Hp → VK → Prop := fun x vs H Q => ∃ l xs y, x = .ref l ∧ vs = [y] ∧ H l = some (.lst xs) ∧ xs.length < sizeLine ∧ Q .non (upd H l (.lst (xs ++ [y])))
theorem mt_append : MtM X "list.append" rAppend := by
  intro pins s σ H x vs v us Q I rx rv h
  obtain ⟨l, xs, y, rfl, rfl, hH, hz, q⟩ := h
  cases rx
  obtain ⟨u, rfl, ru⟩ := rv.one
  obtain ⟨z, its, n, r, hl, e⟩ := I.lstM hH
  refine call_meets F.slot_list_append ⟨_, e, rfl⟩ F.entry_list_append (F.args_list_append_2 _ _) (PySem.list_append l its.toArray n u (by rw [List.size_toArray]; omega)) ⟨e, ?_⟩
  refine ⟨.non, _, I.lset (its' := its ++ [u]) hH e (by simp) (r.append (.cons ru .nil)) ?_, rfl, q⟩
  rw [List.length_append, List.length_singleton]
  omega

/-! ### list + list, list += list, list * int -/
noncomputable def rCat : R2 := fun x y H Q => ∃ l b xs zs, x = .ref l ∧ y = .ref b ∧ H l = some (.lst xs) ∧ H b = some (.lst zs) ∧ xs.length + zs.length ≤ sizeLine ∧ ∀ p, H p = none → Q (.ref p) (upd H p (.lst (xs ++ zs)))
theorem op_cat : OpR X (binaryOp .Add) rCat := by
  intro pins s σ H x y v u Q I rx ry h
  obtain ⟨l, b, xs, zs, rfl, rfl, hH, hB, hz, q⟩ := h
  cases rx
  cases ry
  obtain ⟨z, its, n, r, hl, e⟩ := I.lstM hH
  obtain ⟨z2, its2, n2, r2, hl2, e2⟩ := I.lstM hB
  refine PySem.P.add_list e e2 ?_ (by rw [List.size_toArray, List.size_toArray]; omega)
  have ea : its.toArray ++ its2.toArray = (its ++ its2).toArray := by simp
  rw [ea]
  exact ⟨.ref _, _, I.lnew (t' := s.toks) (r.append r2) (by rw [List.length_append]; omega), rfl, q _ I.fresh⟩
/-- a list times an int (a negative one is nothing) -/
noncomputable def rRep : R2 := fun x y H Q => ∃ l k xs, x = .ref l ∧ y = .int k ∧ H l = some (.lst xs) ∧ -(2 ^ 63) ≤ k ∧ k < 2 ^ 63 ∧ xs.length * k.toNat ≤ sizeLine ∧
  ∀ p, H p = none → Q (.ref p) (upd H p (.lst (List.replicate k.toNat xs).flatten))
/-! ### del xs[i] -/
end

/-! ### xs[a:b] = ys -/
section
variable {prog : Program} {w : World} {A : Around} {E : Value → Shared → Prop} {s : Shared}
end

section
variable {X : Cx}
end
end L2

namespace Att
open PySem PySem.W PySem.Calls PyProof.Rows

/-! ### the script -/
theorem ints_of_wellAll {P : Params} {h : Heap} : ∀ (ns : List Int) (vs : List Value), WellAll P h vs (ns.map WData.int) → IntsAre vs ns := by
  intro ns
  induction ns with
  | nil =>
    intro vs w
    rw [List.map_nil] at w
    cases w
    exact .nil
  | cons n ns ih =>
    intro vs w
    rw [List.map_cons] at w
    cases w with
    | cons a b =>
      cases a
      exact .cons _ _ (ih _ b)

theorem script_of {l : OpenLaw} {n : Nat} (hn : l.most = some n) {P : Params} {h : Heap} {args : List WData} {vals : List Value}
    (hpre : l.row.toRowW.claim.pre args = true) (hwl : WellAll P h vals args) :
    ∃ a vs ns, vals = [Value.ref a] ∧ args = [WData.list (ns.map WData.int)] ∧ h.get? a = some { cls := .type "list", data := .seq vs.toArray } ∧ IntsAre vs ns ∧ ns.length ≤ n := by
  have hsh : WShape.hasAll [] args [.list .int] = true := (pre_splitW hpre).1
  have hc : l.pre.holds [] { args := args } = true := (pre_splitW hpre).2
  obtain ⟨d, r, rfl, h1, h2⟩ := hasAllW_cons hsh
  obtain rfl := hasAllW_nil h2
  obtain ⟨xs, rfl, h3⟩ := hasW_list h1
  obtain ⟨ns, rfl⟩ := items_int h3
  have hlen : ns.length ≤ n := by
    unfold OpenLaw.pre at hc
    have h4 : (WTm.not (.lt (.lit (.int (n : Int))) (.len (.arg 0)))).holds [] { args := [.list (ns.map .int)] } = true := by
      have h4 := (holds_andW hc).1
      rw [hn] at h4
      exact h4
    have h5 := condW_of h4 (w_not (w_lt w_lit (w_len_list (w_arg rfl))))
    rw [List.length_map] at h5
    refine Nat.le_of_not_lt fun q => ?_
    have q' : (n : Int) < ((ns.length : Nat) : Int) := by omega
    first
      | (rw [decide_eq_true q'] at h5; exact absurd h5 (by decide))
      | (simp at h5; omega)
  cases hwl with
  | cons w1 w2 =>
    cases w2
    cases w1 with
    | list ho hall => exact ⟨_, _, ns, rfl, rfl, ho, ints_of_wellAll ns _ hall, hlen⟩

theorem post_true (l : OpenLaw) (args : List WData) : l.row.toRowW.claim.post args (.bool true) args = true :=
  postW_of (r := l.row.toRowW) (X := (true == true))
    (show WShape.has [] (.bool true) .bool = true by first | rfl | decide | simp [WShape.has, WShape.arms, WShape.armsAll])
    (show (WTm.eq .res (.lit (.bool true))).value [] { args := args, res := some (.bool true), after := args } = some (.bool (true == true)) from w_eq_bool (w_res rfl) w_lit) rfl

/-! ### the attachment: holds_open's last premise (the goal 'hc' behind k_head) from a wpAny of the law's body -/
/-- the same from a codeAny of the CALL (for a layer whose function contracts speak of calls) -/
theorem attach_call {l : OpenLaw} {n : Nat} {q : Program} {loose : List Str} {XP : (Str → Option Value) → Heap → Prop} {YP : World → Heap → Prop} {d : DefRec}
    (hn : l.most = some n) (hdf : d.params.defaults = [])
    (call : ∀ (w : World) (s₀ s₁ : Shared) (mg mb : Str → Option Value) (fa : Addr) (o : Obj) (pm cd doc : Value) (a : Addr) (vs : List Value) (ns : List Int),
      Ground q loose [] XP w s₀ mg mb s₁.heap → YP w s₁.heap →
      s₁.heap.get? fa = some o → o.data = .func (docDef d.name d.params d.body d.scope pm cd doc) → s₁.heap.CodeRec cd d.name → mg d.name = some (.ref fa) →
      s₁.heap.get? a = some { cls := .type "list", data := .seq vs.toArray } → IntsAre vs ns → ns.length ≤ n → s₁.gens = #[] →
      codeAny (model l.prog w) callerA (.call (.ref fa) ⟨[.ref a], []⟩) (fun r s' => r = .ok (.ret (.bool true)) ∧ OldK s₁.heap s'.heap ∧ s'.os = s₁.os ∧ AllBare s'.gens) s₁) :
    WalkO q loose XP YP l.row.toRowW d [] (fun f vs => PySem.call f vs) := by
  intro w s₀ s₁ mg mb G Y fa o pm cd doc dV kV ho hd hcd hD hmg hg args vals as hpre hlay hrd hwl hlo
  obtain rfl : dV = .none := Dflts.none hD hdf
  obtain rfl : kV = .none := Dflts.noKw hD
  obtain ⟨a, vs, ns, rfl, rfl, hobj, hints, hlen⟩ := script_of hn hpre hwl
  refine enter_call (codeAny_mono (call w s₀ s₁ mg mb fa o pm cd doc a vs ns G Y ho (fd_plain hd) hcd hmg hobj hints hlen hg) fun r s' hq => ?_)
  obtain ⟨rfl, h2, h3, h4⟩ := hq
  exact ⟨.inl ⟨.bool true, .bool true, [], rfl, fun _ => rfl, .bool true, post_true l _, fun _ => ⟨List.Pairwise.nil, fun _ hm => (nomatch hm)⟩⟩, h2, h3, h4⟩

/-! ### rules over ANY heap (no ledger) from facts about the written part K: the library's own take a ledger (News) for what they write -/
section
variable {prog : Program} {w : World} {A : Around} {E : Value → Shared → Prop} {s : Shared} {K : Frag}

/-! the whole heap as the ledger: makes every rule that writes through a ledger a rule over any heap -/
noncomputable def ledger (h : Heap) (L d : Addr) : List (Addr × Obj) := (List.range h.objs.size).filterMap fun a => if a = L ∨ a = d then none else (h.get? a).map fun o => (a, o)
end
end Att

namespace L2
open PySem PySem.Spec PyProof.Rows

theorem vals_ints : ∀ {vs : List Value} {ns : List Int}, IntsAre vs ns → Vals (ns.map V.int) vs
  | _, _, .nil => .nil
  | _, _, .cons n t h => .cons ⟨t, rfl⟩ (vals_ints h)

/-- nothing is tracked but the script, known to the object (or it is an object of the module) -/
noncomputable def Only (H : Hp) : Prop := ∀ b, H b = none ∨ ∃ o xs, H b = some (.frz o (.lst xs))

/-- THE HEAD: the law's promise, at the heap behind the top. F, the promise of the law's def, may use that base is part of the heap (so K.In base, base.Ns mainGlobals mg stand in Mod) -/
theorem law_call {P : Program} {w : World} {K : PySem.W.Frag} {mg mb : Str → Option Value} {CX : CXT} {k : Nat} {fa a : Addr} {fd : FuncData} {x : Str} {sp : Sp} {s₁ : Shared} {vs : List Value} {ns : List Int}
    (KX : K.In s₁.heap) (hns : s₁.heap.Ns mainGlobals mg) (hb : s₁.heap.Ns builtinsNs mb) (hbb : ∀ x : Str, x ≠ "__name__" → mb x = bootBuiltins x) (hlim : s₁.heap.NoLimit) (hg : s₁.gens = #[])
    (ha : s₁.heap.get? a = some { cls := .type "list", data := .seq vs.toArray }) (hi : IntsAre vs ns) (hl : ns.length ≤ sizeLine) (hr : Room k callerA)
    (F : ∀ base : Heap, K.In base → base.Ns mainGlobals mg → FnOk P w K mg base CX k fa fd [x] sp) (hbind : ∀ (s : Shared) (u : Value), BindsTo s fd ⟨[u], []⟩ [(x, u)])
    (hsp : ∀ H : Hp, Only H → SqL K H a (ns.map V.int) → sp [.ref a] H (fun v _ => v = .bl true) fun _ _ _ => False)
    (hCX : ∀ H e s', CX [] H s₁ (fun _ _ _ => False) e s' → False) :
    codeAny (model P w) callerA (.call (.ref fa) ⟨[.ref a], []⟩) (fun r s' => r = .ok (.ret (.bool true)) ∧ OldK s₁.heap s'.heap ∧ s'.os = s₁.os ∧ AllBare s'.gens) s₁ := by
  have rv := vals_ints hi
  have lenV := hi.length
  -- from an abstract heap in which nothing but the script may be tracked
  have core : ∀ H : Hp, Only H → SqL K H a (ns.map V.int) → HOk P w H s₁.heap → (∀ b, H b ≠ none → b = a) → (H a ≠ none → K.lookup a = none) →
      codeAny (model P w) callerA (.call (.ref fa) ⟨[.ref a], []⟩) (fun r s' => r = .ok (.ret (.bool true)) ∧ OldK s₁.heap s'.heap ∧ s'.os = s₁.os ∧ AllBare s'.gens) s₁ := by
    intro H hO hS hok hA hK
    have base_of : ∀ {b : Addr} {o : Obj}, s₁.heap.get? b = some o → H b = none → (hidT s₁.heap H).get? b = some o := fun e n => hidT_get e n
    have noA : ∀ {b : Addr} {o : Obj} {es : Array DictEntry} {ep : Nat}, s₁.heap.get? b = some o → o.data = .dict es ep → H b = none := fun {b o es ep} e d => by
      cases q : H b with
      | none => rfl
      | some u =>
        have e' : b = a := hA b (by rw [q]; simp)
        subst e'
        rw [ha] at e; cases e
        have d' : Data.seq vs.toArray _ = Data.dict es ep := d
        cases d'
    have nsK : ∀ {b : Addr} {m : Str → Option Value}, s₁.heap.Ns b m → (hidT s₁.heap H).Ns b m := fun {b m} ⟨o, es, ep, e, d, r⟩ => ⟨o, es, ep, base_of e (noA e d), d, r⟩
    have hKb : K.In (hidT s₁.heap H) := fun b o e => base_of (KX b o e) (by
      cases q : H b with
      | none => rfl
      | some u =>
        have e' : b = a := hA b (by rw [q]; simp)
        subst e'
        rw [hK (by rw [q]; simp)] at e; cases e)
    have hM : Mod K mg (hidT s₁.heap H) := ⟨hKb, nsK hns, ⟨mb, nsK hb, hbb⟩, let ⟨mc, h1, h2⟩ := hlim; ⟨mc, nsK h1, h2⟩⟩
    have e0 : Env0 P w K mg (hidT s₁.heap H) callerA [] s₁ H := ⟨rfl, hM, fun b o e => of_hidT e, Nat.le_of_eq (hidT_size _ _), trivial, fun b hb => absurd (show b ∈ ([] : List Addr) from hb) (by simp), hok, .of_eq hg⟩
    refine codeAny_mono ((F _ hKb (nsK hns)).run callerA [] s₁ H ⟨[.ref a], []⟩ [.ref a] [.ref a] _ _ hr e0 (hbind s₁ (.ref a)) (.cons rfl .nil) (hsp H hO hS)) fun r s' h => ?_
    cases r with
    | error e => exact (hCX H e s' h).elim
    | ok fl =>
      cases fl with
      | next => exact False.elim h
      | brk => exact False.elim h
      | cont => exact False.elim h
      | ret u =>
        obtain ⟨v, H', os, bare, un, hok', r', q⟩ := h
        have q' : v = .bl true := q
        subst q'
        obtain rfl : u = Value.bool true := r'
        refine ⟨rfl, OldK.of_keep fun b o e => ?_, os, bare⟩
        cases q : H b with
        | none => exact un.keep b o e q (by intro z; exact absurd (show b ∈ ([] : List Addr) from z) (by simp)) (by simp)
        | some u =>
          rcases hO b with z | ⟨ob, xs, z⟩
          · rw [q] at z; cases z
          · have z2 := un.frzs b ob _ z
            obtain ⟨e1, _⟩ := hok b _ z
            obtain ⟨e2, _⟩ := hok' b _ z2
            rw [e] at e1; cases e1
            exact e2
  cases hk : K.lookup a with
  | some o =>
    -- the script is one of the module's own objects
    have e := KX a o hk
    rw [ha] at e
    cases e
    refine core (fun _ => none) (fun _ => .inl rfl) (.inr ⟨_, vs.toArray, _, hk, rfl, rfl, rfl, by rw [List.size_toArray, lenV]; exact hl, by simpa using rv⟩) (fun b u z => by have z' : (none : Option HO) = some u := z; cases z') (fun b z => absurd rfl z) fun z => absurd rfl z
  | none =>
    refine core (fun b => if b = a then some (.frz { cls := .type "list", data := .seq vs.toArray } (.lst (ns.map V.int))) else none) (fun b => ?_) (.inl (.inr ⟨{ cls := .type "list", data := .seq vs.toArray }, if_pos rfl⟩)) (fun b u z => ?_) (fun b z => ?_) fun _ => hk
    · by_cases hb : b = a
      · exact .inr ⟨_, _, if_pos hb⟩
      · exact .inl (if_neg hb)
    · by_cases hb : b = a
      · have z' := (if_pos hb).symm.trans z
        cases z'
        subst hb
        exact ⟨ha, by rw [List.length_map]; exact hl, vs, _, rv, ha⟩
      · have z' := (if_neg hb).symm.trans z
        cases z'
    · by_cases hb : b = a
      · exact hb
      · exact absurd (if_neg hb) z
end L2

namespace L2
open PySem PySem.Spec PyProof.Rows

noncomputable abbrev KOf {K : PySem.W.Frag} {h : Heap} (_ : K.In h) : PySem.W.Frag := K

/-- the goal that k_head leaves (case hc), from the law's promise. F gives the function object fd (K's own) once, then the promise over every base -/
theorem walk_of {l : PySem.W.OpenLaw} {n k : Nat} {q : Program} {loose : List Str} {XP : (Str → Option Value) → Heap → Prop} {YP : World → Heap → Prop} {d : DefRec} {K : Params → PySem.W.Frag} {CX : World → CXT} {sp : World → Sp} {x : Str}
    (hn : l.most = some n) (hn2 : n ≤ sizeLine) (hdf : d.params.defaults = []) (hr : Room k callerA)
    (hY : ∀ (w : World) (h : Heap), YP w h → (K w.params).In h)
    (F : ∀ (w : World) (mg : Str → Option Value) (fa : Addr) (h : Heap), (K w.params).In h → h.Ns mainGlobals mg → mg d.name = some (.ref fa) →
      ∃ fd : FuncData, (∀ (s : Shared) (u : Value), BindsTo s fd ⟨[u], []⟩ [(x, u)]) ∧
        ∀ base : Heap, (K w.params).In base → base.Ns mainGlobals mg → FnOk l.prog w (K w.params) mg base (CX w) k fa fd [x] (sp w))
    (hsp : ∀ (w : World) (H : Hp) (a : Addr) (ns : List Int), ns.length ≤ n → Only H → SqL (K w.params) H a (ns.map V.int) → sp w [.ref a] H (fun v _ => v = .bl true) fun _ _ _ => False)
    (hCX : ∀ (w : World) (H : Hp) (s : Shared) (e : Value) (s' : Shared), CX w [] H s (fun _ _ _ => False) e s' → False) :
    PySem.W.WalkO q loose XP YP l.row.toRowW d [] (fun f vs => PySem.call f vs) := by
  refine Att.attach_call hn hdf fun w s₀ s₁ mg mb fa o pm cd doc a vs ns G Y ho hd hcd hmg hobj hints hlen hg => ?_
  have KX := hY w _ Y
  obtain ⟨fd, hb, hF⟩ := F w mg fa _ KX G.T.g hmg
  exact law_call KX G.T.g G.T.b G.T.builtins G.T.nolimit hg hobj hints (Nat.le_trans hlen hn2) hr hF hb (fun H hO hS => hsp w H a ns hlen hO hS) fun H e s' => hCX w H s₁ e s'
end L2

/- THE LAST THEOREM (shape; LID, My.* are yours):
   My.Adr: a structure of the addresses that your layer names (classes, functions); My.Txt K t: a structure (Prop) of the equations over K;
   My.txt_mk : {K} {implicit addresses ..} (e1 : nsIn K mainGlobals "law" = some (some (.ref f))) (e2 : K.lookup f = some ⟨oc, od, .func (fnOf "law" "law" params body scope dV kV doc pm an cdv ct), sl⟩) (e3 : codeIn K cdv "law" = true) .. : ∃ t, My.Txt K t

set_option maxRecDepth 100000 in
set_option maxHeartbeats 0 in
theorem PySem.Challenge.cw_LID_holds : PySem.Challenge.rw_LID.Holds := by
  w_on; o_law; k_head; (case hw => w_witness2)
  k_fill
  refine L2.walk_of (l := PySem.Challenge.rw_LID) (n := 63) (k := 40) (x := "script") (CX := fun w => ..) (sp := fun _ => My.sp_law) rfl (by decide) rfl ⟨rfl, by decide, by decide⟩ (fun w h Y => PySem.W.kIn_of Y) ?F ?S ?C
  case F =>
    intro w mg fa h KX G hmg
    have T : ∃ t, My.Txt (L2.KOf KX) t := by
      dsimp only [L2.KOf]                          -- K must stand as «<heap const> w.params» for k_is
      refine' My.txt_mk ?e1 ?e2 ?e3 ..
      (case e1 => PySem.W.k_is)                    -- in the order: a name -> its address -> its object -> its parts
      (case e2 => PySem.W.k_is)
      ..
    obtain ⟨t, T⟩ := T
    have e0 := hmg.symm.trans (PySem.W.mg_of KX G T.law)
    cases e0                                       -- fa is the law's own address
    exact ⟨_, fun s u => .of_eq rfl, fun base kb nb => My.law_fn T kb nb⟩     -- if «.of_eq rfl» comes too early: refine' ⟨_, ?b, fun base kb nb => My.law_fn T kb nb⟩; exact fun s u => .of_eq rfl
  case S => exact fun w H a ns hl hO hS => ..
  case C => exact ..
(the tactic k_is has no namespace: write k_is) -/

/-! SHORT WORDS over the layer: a def of the text, its body, what a loop and a test want. -/
namespace L2
open PySem PySem.Spec PyProof.Rows

/-! ### the text by places -/
noncomputable def defArgs (s : Stmt) : Arguments := match s with
  | .FunctionDef _ a _ _ _ _ _ _ _ _ => a
  | _ => { posonlyargs := [], args := [], vararg := none, kwonlyargs := [], kw_defaults := [], kwarg := none, defaults := [] }
noncomputable def defBody (s : Stmt) : List Stmt := match s with
  | .FunctionDef _ _ b _ _ _ _ _ _ _ => b
  | _ => []
noncomputable def defScope (s : Stmt) : Scope := match s with
  | .FunctionDef _ _ _ _ _ _ sc _ _ _ => sc
  | _ => { kind := .function, names := [], isGenerator := false, isCoroutine := false }

/-! ### no exception leaves a def -/
noncomputable abbrev CX0 : CXT := fun _ _ _ _ _ _ => False
noncomputable abbrev E0 : XK := fun _ _ _ => False
theorem pass0 {X : Cx} : Passes CX0 X E0 := fun _ _ _ _ _ _ _ h => h.elim

/-! ### a def (or method) of the text as it stands behind the top -/
structure Fun (K : PySem.W.Frag) (x qual : Str) (st : Stmt) (f : Addr) (fd : FuncData) : Prop where
  ex : ∃ (oc : Value) (od : Option Addr) (kV doc pm : Value) (an : Option Addr) (cdv ct : Value) (osl : Array (Option Value)),
    fd = PySem.W.fnOf x qual (defArgs st) (defBody st) (defScope st) .none kV doc pm an cdv ct ∧ K.lookup f = some ⟨oc, od, .func fd, osl⟩ ∧ PySem.W.codeIn K cdv qual = true
  kp : PySem.W.keepIn K (.ref f) = true
section
variable {P : Program} {w : World} {K : PySem.W.Frag} {mg : Str → Option Value} {base : Heap}
/-- THE RULE for a def: its body as a term of rules, and the reading of that term -/
theorem Fun.ok {x qual : Str} {st : Stmt} {f : Addr} {fd : FuncData} {N ps : List Str} {k : Nat} {sp : Sp} (F : Fun K x qual st f fd) (S : FnScope N ps (defScope st)) (len : ∀ vs H Q E, sp vs H Q E → vs.length = ps.length)
    (hbody : ∀ (cdv : Value) (A : Around) (outer : List Env) (s : Shared) (H : Hp) (vs : List V) (Q : VK) (E : XK), Room k (A.deeper (envOfC qual (defScope st) s.heap.objs.size f cdv)) → sp vs H Q E →
      ∃ t, PSs (cxOf CX0 P w K mg base N qual (defScope st) f cdv A outer s H E).nox (defBody st) t ∧ t { nx := fun _ H' => Q .non H', rt := Q } (start N vs) H) : FnOk P w K mg base CX0 (k + 1) f fd ps sp := by
  obtain ⟨oc, od, kV, doc, pm, an, cdv, ct, osl, rfl, lk, hcd⟩ := F.ex
  refine fn_of lk hcd S len fun A outer s H vs Q E hr hsp => ?_
  obtain ⟨t, h, q⟩ := hbody cdv A outer s H vs Q E hr hsp
  exact ⟨t, h.nox, q⟩
/-- how its arguments bind (no defaults): h is «fun _ _ _ _ _ _ us hl => match us, hl with | [_, _], _ => rfl», one _ a parameter -/
theorem Fun.binds {x qual : Str} {st : Stmt} {f : Addr} {fd : FuncData} {ps : List Str} (F : Fun K x qual st f fd)
    (h : ∀ (kV doc pm : Value) (an : Option Addr) (cdv ct : Value) (us : List Value), us.length = ps.length → bindArgs (PySem.W.fnOf x qual (defArgs st) (defBody st) (defScope st) .none kV doc pm an cdv ct) ⟨us, []⟩ = pure (ps.zip us)) : Binds K fd ps [] := by
  obtain ⟨oc, od, kV, doc, pm, an, cdv, ct, osl, rfl, lk, hcd⟩ := F.ex
  exact .all (h kV doc pm an cdv ct)
theorem fun_mk {x qual : Str} {st : Stmt} {f : Addr} {oc : Value} {od an : Option Addr} {osl : Array (Option Value)} {kV doc pm cdv ct : Value} (l : K.lookup f = some ⟨oc, od, .func (PySem.W.fnOf x qual (defArgs st) (defBody st) (defScope st) .none kV doc pm an cdv ct), osl⟩)
    (c : PySem.W.codeIn K cdv qual = true) (k : PySem.W.keepIn K (.ref f) = true) : Fun K x qual st f (PySem.W.fnOf x qual (defArgs st) (defBody st) (defScope st) .none kV doc pm an cdv ct) := ⟨⟨oc, od, kV, doc, pm, an, cdv, ct, osl, rfl, l, c⟩, k⟩
end
theorem small1000 {n : Nat} (h : n ≤ 1000) : n < sizeLine := Nat.lt_of_le_of_lt h (by decide)

/-! ### expressions in short: the name that stands in the i-th slot -/
section
variable {X : Cx}
theorem pv (i : Nat) {x : Str} {pos : Pos} (hN : X.N[i]? = some x := by rfl) (hv : Vis X.env.scope x := by first | exact Or.inl rfl | exact Or.inr (Or.inl rfl) | exact Or.inr (Or.inr rfl)) (hd : (x == ("__debug__" : Str)) = false := by decide)
    (hcd : (x == ("__classdict__" : Str)) = false := by decide) : PE X (.Name x pos) (tVar i) := pe_var hN hv hd hcd
end

/-! ### tests -/
theorem iteF {A B : Prop} (h : B) : if false = true then A else B := by
  rw [if_neg Bool.false_ne_true]
  exact h
theorem iteT {A B : Prop} (h : A) : if true = true then A else B := by
  rw [if_pos rfl]
  exact h
theorem ite2 {c A B : Prop} [Decidable c] (h1 : c → A) (h2 : ¬ c → B) : if c then A else B := by
  by_cases h : c
  · rw [if_pos h]
    exact h1 h
  · rw [if_neg h]
    exact h2 h
/-! ### heaps -/
/-- all that was tracked is as it was -/
noncomputable def Same (H H' : Hp) : Prop := ∀ b o, H b = some o → H' b = some o
end L2

section
set_option Elab.async false
set_option linter.all false
set_option maxRecDepth 100000
/-! A list comprehension of one clause, in the hand layer. -/
namespace L2.Bw
open PySem PySem.Spec PyProof.Rows

/-! ### the cells that a block is handed -/
noncomputable def clOf (env : Env) : List (Str × NameKind) → List (Str × Addr) → List (Str × Addr)
  | [], cs => cs
  | y :: r, cs => clOf env r (if (y.2 == NameKind.free) = true then (match env.cells.lookup y.1 with | some a => (y.1, a) :: cs | none => cs) else cs)
theorem lookup_of_mem {β : Type} : ∀ {l : List (Str × β)} {p : Str × β}, p ∈ l → ∃ c, l.lookup p.1 = some c
  | [], _, h => nomatch h
  | (a, b) :: r, p, h => by
    cases e : p.1 == a with
    | true => exact ⟨b, by simp only [List.lookup_cons, e]⟩
    | false =>
      rcases List.mem_cons.mp h with q | q
      · subst q; simp at e
      · obtain ⟨c, hc⟩ := lookup_of_mem q
        exact ⟨c, by simp only [List.lookup_cons, e]; exact hc⟩
theorem clOf_sub {env : Env} : ∀ {ns : List (Str × NameKind)} {cs : List (Str × Addr)} {p : Str × Addr}, p ∈ clOf env ns cs → p ∈ cs ∨ env.cells.lookup p.1 = some p.2
  | [], _, _, h => .inl h
  | y :: r, cs, p, h => by
    rcases clOf_sub (ns := r) h with q | q
    · by_cases hk : (y.2 == NameKind.free) = true
      · rw [if_pos hk] at q
        cases e : env.cells.lookup y.1 with
        | none => rw [e] at q; exact .inl q
        | some a =>
          rw [e] at q
          rcases List.mem_cons.mp q with rfl | q
          · exact .inr e
          · exact .inl q
      · rw [if_neg hk] at q; exact .inl q
    · exact .inr q
theorem clOf_keep {env : Env} : ∀ {ns : List (Str × NameKind)} {cs : List (Str × Addr)} {p : Str × Addr}, p ∈ cs → p ∈ clOf env ns cs
  | [], _, _, h => h
  | y :: r, cs, p, h => by
    refine clOf_keep (ns := r) ?_
    by_cases hk : (y.2 == NameKind.free) = true
    · rw [if_pos hk]
      cases e : env.cells.lookup y.1 with
      | none => exact h
      | some a => exact List.mem_cons_of_mem _ h
    · rw [if_neg hk]; exact h
theorem clOf_has {env : Env} : ∀ {ns : List (Str × NameKind)} {cs : List (Str × Addr)} {y : Str × NameKind} {c : Addr}, y ∈ ns → y.2 = .free → env.cells.lookup y.1 = some c → (y.1, c) ∈ clOf env ns cs
  | z :: r, cs, y, c, h, hf, hc => by
    rcases List.mem_cons.mp h with rfl | h
    · refine clOf_keep (ns := r) ?_
      rw [if_pos (by rw [hf]; rfl), hc]
      exact List.mem_cons_self
    · exact clOf_has (ns := r) h hf hc
theorem closure_go {env : Env} {f : (Str × NameKind) → List (Str × Addr) → Sem (ForInStep (List (Str × Addr)))}
    (hf : ∀ y cs, f y cs = if (y.2 == NameKind.free) = true then (do let a ← cellOf env y.1; pure (ForInStep.yield ((y.1, a) :: cs))) else pure (ForInStep.yield cs)) :
    ∀ (ns : List (Str × NameKind)) (cs : List (Str × Addr)), (∀ y ∈ ns, y.2 = .free → ∃ c, env.cells.lookup y.1 = some c) → (forIn ns cs f : Sem _) = pure (clOf env ns cs)
  | [], cs, _ => rfl
  | y :: r, cs, h => by
    rw [List.forIn_cons, hf]
    by_cases hk : (y.2 == NameKind.free) = true
    · obtain ⟨c, hc⟩ := h y List.mem_cons_self (by simpa using hk)
      have e1 : cellOf env y.1 = pure c := by unfold cellOf; rw [hc]
      rw [if_pos hk, e1]
      have ih := closure_go hf r ((y.1, c) :: cs) fun z hz => h z (List.mem_cons_of_mem _ hz)
      show (forIn r ((y.1, c) :: cs) f : Sem _) = pure (clOf env r _)
      rw [ih, if_pos hk, hc]
    · have ih := closure_go hf r cs fun z hz => h z (List.mem_cons_of_mem _ hz)
      rw [if_neg hk]
      show (forIn r cs f : Sem _) = pure (clOf env r _)
      rw [ih, if_neg hk]
theorem closure_eq {env : Env} {sc : Scope} (h : ∀ y ∈ sc.names, y.2 = .free → ∃ c, env.cells.lookup y.1 = some c) : closureFor sc env = pure (clOf env sc.names []) := by
  simp only [closureFor]
  rw [closure_go (env := env) (fun y cs => by obtain ⟨n, kd⟩ := y; by_cases hk : (kd == NameKind.free) = true <;> simp [hk]) sc.names [] h]
  rfl

/-! ### the block's context -/
noncomputable def cxC (X : Cx) (N : List Str) (sc : Scope) (C : Addr) (s : Shared) (H : Hp) (fp : List Addr) : Cx where
  prog := X.prog
  w := X.w
  K := X.K
  mg := X.mg
  base := X.base
  A := X.A
  N := N
  s₀ := s
  H₀ := H
  env := compEnvC sc (clOf X.env sc.names []) C X.env
  outer := X.stack
  stack := X.stack
  ex := fp
  fn := fun _ => false
  calm := X.calm
  pn := []
  xe := fun _ _ => False
noncomputable def oldOk (sc : Scope) (env : Env) (p : Str × Str) : Bool := match (relabel sc env).names.lookup p.1 with
  | some .local => false
  | some .cell => p.1 == p.2
  | some .free => p.1 == p.2
  | _ => true
/-- what the block's names want: k own ones ahead of the def's (those that the block hides renamed) -/
structure Lc (X : Cx) (sc : Scope) (k : Nat) (N : List Str) : Prop where
  nocell : ∀ y ∈ sc.names, y.2 ≠ .cell
  kind : sc.kind = .function
  names : ∀ y ∈ sc.names, y.2 = .local → sc.names.lookup y.1 = some .local
  fr : ∀ y ∈ sc.names, y.2 = .free → X.env.kindOf y.1 = some .cell ∨ X.env.kindOf y.1 = some .free
  len : N.length = k + X.N.length
  old : ((N.drop k).zip X.N).all (oldOk sc X.env) = true
theorem lc_mk {X : Cx} {sc : Scope} {k : Nat} {N : List Str} (h1 : (sc.names.all fun y => y.2 != .cell) = true) (h2 : sc.kind = .function) (h3 : (sc.names.all fun y => y.2 != .local || sc.names.lookup y.1 == some .local) = true)
    (h4 : (sc.names.all fun y => y.2 != .free || (X.env.kindOf y.1 == some .cell || X.env.kindOf y.1 == some .free)) = true) (h5 : N.length = k + X.N.length) (h6 : ((N.drop k).zip X.N).all (oldOk sc X.env) = true) : Lc X sc k N where
  nocell := fun y hy => by have := List.all_eq_true.mp h1 y hy; simpa using this
  kind := h2
  names := fun y hy hl => by have := List.all_eq_true.mp h3 y hy; simpa [hl] using this
  fr := fun y hy hl => by have := List.all_eq_true.mp h4 y hy; simpa [hl] using this
  len := h5
  old := h6
section
variable {X : Cx} {sc : Scope} {k : Nat} {N : List Str} {pins : List (Addr × Obj)} {σ : St} {H : Hp} {s : Shared} {fp : List Addr}
theorem Lc.cells (L : Lc X sc k N) (ok : X.Ok) : ∀ y ∈ sc.names, y.2 = .free → ∃ c, X.env.cells.lookup y.1 = some c := fun y hy hf => ok.has y.1 (L.fr y hy hf)
theorem cl_in {x : Str} {c : Addr} (e : (clOf X.env sc.names []).lookup x = some c) : X.env.cells.lookup x = some c := by
  rcases clOf_sub (PySem.mem_of_lookup e) with q | q
  · exact nomatch q
  · exact q
theorem caught_free (L : Lc X sc k N) {x : Str} {kd : NameKind} (e : (relabel sc X.env).names.lookup x = some kd) (hk : kd = .cell ∨ kd = .free) : (x, NameKind.free) ∈ sc.names := by
  have hm := PySem.mem_of_lookup e
  obtain ⟨⟨n, k'⟩, hy, q⟩ := List.mem_map.mp hm
  dsimp only at q
  by_cases hc : (k' == NameKind.free && X.env.scope.kind == .function && X.env.kindOf n == some .cell) = true
  · rw [if_pos hc] at q
    have e1 : n = x := congrArg Prod.fst q
    have e2 : k' = .free := by simp at hc; exact hc.1.1
    subst e1 e2
    exact hy
  · rw [if_neg hc] at q
    have e1 : n = x := congrArg Prod.fst q
    have e2 : k' = kd := congrArg Prod.snd q
    subst e1 e2
    rcases hk with rfl | rfl
    · exact absurd rfl (L.nocell _ hy)
    · exact hy
theorem caught_at (L : Lc X sc k N) {i : Nat} {x : Str} (hi : N[i]? = some x) (hk : k ≤ i) (v : Vis (relabel sc X.env) x) : X.N[i - k]? = some x ∧ (x, NameKind.free) ∈ sc.names := by
  have hlt : i < N.length := (List.getElem?_eq_some_iff.mp hi).1
  have hl := L.len
  have h2 : i - k < X.N.length := by omega
  have e1 : (N.drop k)[i - k]? = some x := by rw [List.getElem?_drop]; rw [show k + (i - k) = i by omega]; exact hi
  have e2 : X.N[i - k]? = some X.N[i - k] := List.getElem?_eq_getElem h2
  have hz : ((N.drop k).zip X.N)[i - k]? = some (x, X.N[i - k]) := by rw [List.getElem?_zip_eq_some]; exact ⟨e1, e2⟩
  have ho := List.all_eq_true.mp L.old _ (List.mem_of_getElem? hz)
  have v' : (relabel sc X.env).names.lookup x = some .local ∨ (relabel sc X.env).names.lookup x = some .cell ∨ (relabel sc X.env).names.lookup x = some .free := v
  unfold oldOk at ho
  rcases v' with q | q | q
  · simp only [q] at ho; cases ho
  · simp only [q] at ho
    have e3 : x = X.N[i - k] := by simpa using ho
    exact ⟨by rw [e2, ← e3], caught_free L q (.inl rfl)⟩
  · simp only [q] at ho
    have e3 : x = X.N[i - k] := by simpa using ho
    exact ⟨by rw [e2, ← e3], caught_free L q (.inr rfl)⟩
/-- the context is sound -/
theorem lc_ok (L : Lc X sc k N) (I : Inv X pins σ H s) (fo : ∀ b ∈ fp, FpOk X pins H b) (ob : ∀ b ∈ fp, ∃ o, s.heap.get? b = some o) {C : Addr} (hC : s.heap.objs.size ≤ C) : (cxC X N sc C s H fp).Ok where
  mod := I.ok.mod
  kind := L.kind
  glob := I.ok.glob
  blt := I.ok.blt
  above := hC
  inj := fun x y c h1 h2 => I.ok.inj x y c (cl_in h1) (cl_in h2)
  has := fun x hx => by
    have hx' : (relabel sc X.env).names.lookup x = some .cell ∨ (relabel sc X.env).names.lookup x = some .free := hx
    have hm : (x, NameKind.free) ∈ sc.names := by
      rcases hx' with q | q
      · exact caught_free L q (.inl rfl)
      · exact caught_free L q (.inr rfl)
    obtain ⟨c, hc⟩ := L.cells I.ok _ hm rfl
    exact lookup_of_mem (clOf_has hm rfl hc)
  cab := fun x c h _ => nomatch h
  hd := I.ok.hd
  frames := I.ok.frames
  stk := .inl rfl
  exf := fun b hb => by
    obtain ⟨o, e⟩ := ob b hb
    refine ⟨Nat.ne_of_lt (Nat.lt_of_lt_of_le (Heap.lt_size e) hC), fun x c h => (fo b hb).2.2.2.2.1 x c (cl_in h)⟩
  bs := I.bs
  bsz := Nat.le_trans I.ok.bsz I.sz
  noex := fun b o e hb => by
    rcases (fo b hb).2.2.2.1 with q | q
    · exact I.ok.noex b o e q
    · exact absurd (Nat.lt_of_lt_of_le (Heap.lt_size e) (Nat.le_trans I.ok.bsz q)) (Nat.lt_irrefl _)
  exfs := fun b hb hf => by
    rcases List.mem_cons.mp (I.stkSub b hf) with q | q
    · exact (fo b hb).2.1 q
    · exact (fo b hb).2.2.1 q
  funs := I.stack
  frf := I.stkFree
/-- the state at the block's start -/
theorem lc_start (L : Lc X sc k N) (I : Inv X pins σ H s) (fo : ∀ b ∈ fp, FpOk X pins H b) (ob : ∀ b ∈ fp, ∃ o, s.heap.get? b = some o) {C : Addr} {h' : Heap} {tk n : Nat} {m : Str → Option Value} (hC : s.heap.objs.size < C)
    (kp : ∀ b o, s.heap.get? b = some o → h'.get? b = some o) (hd : h'.get? s.heap.objs.size = some { cls := .type "list", data := .seq ([] : List Value).toArray n }) (hn : h'.Ns C m) :
    Inv (cxC X N sc C s H fp) [] (List.replicate k none ++ σ) (upd H s.heap.objs.size (.lst [])) { s with heap := h', toks := tk } := by
  have hD : H s.heap.objs.size = none := I.hok.fresh (Nat.le_refl _)
  have nofr : ∀ b, H b = none → b ≠ s.heap.objs.size → upd H s.heap.objs.size (.lst []) b = none := fun b h1 h2 => by rw [upd_ne h2]; exact h1
  have clt : ∀ x c, X.env.cells.lookup x = some c → c < s.heap.objs.size := fun x c e => by obtain ⟨v, q⟩ := I.cell x c e; exact q.lt
  have ckeep : ∀ {c : Addr} {v : Option Value}, s.heap.IsCell c v → h'.IsCell c v := fun {c v} ⟨o, e, d⟩ => ⟨o, kp c o e, d⟩
  refine ⟨lc_ok L I fo ob (Nat.le_of_lt hC), rfl, I.bare, Un.laid kp (Nat.le_refl _) hD, ⟨m, hn, fun i x v h1 h2 h3 => ?_⟩, fun x c e => ?_, ?_, fun x c e => ?_, fun p hp => absurd (show p ∈ ([] : List (Addr × Obj)) from hp) (by simp), ?_, ?_⟩
  · have hki : k ≤ i := by
      by_cases q : i < k
      · rw [List.getElem?_append_left (by simpa using q), List.getElem?_replicate, if_pos q] at h2
        cases h2
      · omega
    rw [List.getElem?_append_right (by simpa using hki), List.length_replicate] at h2
    obtain ⟨hx, hm⟩ := caught_at L h1 hki h3
    have hkx := L.fr _ hm rfl
    have hvis : Vis X.env.scope x := by
      rcases hkx with q | q
      · exact .inr (.inl q)
      · exact .inr (.inr q)
    obtain ⟨m0, _, hl⟩ := I.loc
    obtain ⟨u, r, l⟩ := hl (i - k) x v hx h2 hvis
    refine ⟨u, r, ?_⟩
    rcases l with ⟨q, _⟩ | ⟨_, c, hc, hcell⟩
    · rcases hkx with z | z
      · rw [show X.env.kindOf x = some .cell from z] at q; cases q
      · rw [show X.env.kindOf x = some .free from z] at q; cases q
    · obtain ⟨c', hc'⟩ := lookup_of_mem (clOf_has hm rfl hc)
      have e := cl_in hc'
      rw [hc] at e; cases e
      refine .inr ⟨?_, c, hc', ckeep hcell⟩
      have v' : (relabel sc X.env).names.lookup x = some .local ∨ (relabel sc X.env).names.lookup x = some .cell ∨ (relabel sc X.env).names.lookup x = some .free := h3
      rcases v' with z | z | z
      · exfalso
        have hlt : i < N.length := (List.getElem?_eq_some_iff.mp h1).1
        have hl' := L.len
        have h2' : i - k < X.N.length := by omega
        have hz : ((N.drop k).zip X.N)[i - k]? = some (x, X.N[i - k]) := by
          rw [List.getElem?_zip_eq_some]
          exact ⟨by rw [List.getElem?_drop, show k + (i - k) = i by omega]; exact h1, List.getElem?_eq_getElem h2'⟩
        have ho := List.all_eq_true.mp L.old _ (List.mem_of_getElem? hz)
        unfold oldOk at ho
        simp only [z] at ho
        cases ho
      · exact .inl z
      · exact .inr z
  · obtain ⟨v, q⟩ := I.cell x c (cl_in e)
    exact ⟨v, ckeep q⟩
  · exact nofr C (I.hok.fresh (Nat.le_of_lt hC)) (Nat.ne_of_gt hC)
  · exact nofr c (I.freeC x c (cl_in e)) (Nat.ne_of_lt (clt x c (cl_in e)))
  · exact I.hok.laid kp (Nat.le_refl _) (show ObjOk X.prog X.w _ h' _ (.lst []) from ⟨Nat.zero_le _, [], n, .nil, hd⟩)
  · show (List.replicate k none ++ σ).length = N.length
    rw [List.length_append, List.length_replicate, L.len, I.len]
/-- behind the block -/
theorem lc_end (I : Inv X pins σ H s) (fo : ∀ b ∈ fp, FpOk X pins H b) {C : Addr} {σ' : St} {H' : Hp} {s' : Shared} (J : Inv (cxC X N sc C s H fp) [] σ' H' s') : Inv X pins σ H' s' :=
  I.call' (ch := fp) J.os J.base J.hok J.bare fun b hb => let ⟨_, h1, _, h3, h4, h5⟩ := fo b hb; ⟨h3, h1, h4, h5⟩
end

/-! ### tests, the loop -/
noncomputable def PTs (Y : Cx) (ifs : List Expr) (t : TT) : Prop :=
  ∀ (pins : List (Addr × Obj)) (s : Shared) (σ : St) (H : Hp) (Q : Bool → Hp → Prop), Inv Y pins σ H s → t σ H Q →
    wpAny (model Y.prog Y.w) Y.A (forIn ifs true fun c r => if r = true then do let ok ← isTrue c Y.env (eval c Y.env); pure (ForInStep.yield ok) else pure (ForInStep.yield r)) (TP Y pins σ Q) Y.xe s
noncomputable def tYes : TT := fun _ H Q => Q true H
theorem pts_nil {Y : Cx} : PTs Y [] tYes := fun _ _ _ H _ I h => wpAny_tests_nil ⟨H, I, h⟩
theorem pts_one {Y : Cx} {c : Expr} {t : TT} (h : PT Y c t) : PTs Y [c] t := fun pins s σ H Q I q => wpAny_tests_one (h pins s σ H Q I q)

/-- one turn's wish: W by the turn, a measure -/
noncomputable def TurnW (J : It) (g : TG) (tt : TT) (te : TE) (D : Addr) (W : Nat → Nat → St → Hp → Prop) (Qe : Hp → Prop) : Prop := ∀ i m σ H, W i m σ H →
  (J.stop i H ∧ Qe H) ∨ (J.go i H ∧ ∀ x H', J.yld i H x H' → g x σ H' fun σ2 H2 => tt σ2 H2 fun b H3 =>
    if b = true then te σ2 H3 fun y H4 => ∃ ys, H4 D = some (.lst ys) ∧ ys.length < sizeLine ∧ ∃ m', m' < m ∧ W (i + 1) m' σ2 (upd H4 D (.lst (ys ++ [y])))
    else ∃ m', m' < m ∧ W (i + 1) m' σ2 H3)
theorem lc_loop {Y : Cx} {elt tg iter : Expr} {ifs : List Expr} {sc : Scope} {pos : Pos} {J : It} {fp : List Addr} {it D : Addr} {tn : Nat → Heap → Prop} {g : TG} {tt : TT} {te : TE} {W : Nat → Nat → St → Hp → Prop} {Qe : Hp → Prop}
    {R : Result → Shared → Prop} (hc : Y.calm = true) (hx : ∀ e s, Y.xe e s → False) (T : Turn Y.prog Y.w Y.K tg J fp it tn) (fo : ∀ H' : Hp, (∀ b ∈ fp, H' b = none) → ∀ b ∈ fp, FpOk Y [] H' b)
    (hg : PG Y tg g) (ht : PTs Y ifs tt) (he : PE Y elt te) (turn : TurnW J g tt te D W Qe) (hR : ∀ σ' H' s', Inv Y [] σ' H' s' → Qe H' → R (.ok .next) s')
    {σ : St} {H : Hp} {s : Shared} {m0 : Nat} (I : Inv Y [] σ H s) (st : tn 0 s.heap) (fr : ∀ b ∈ fp, H b = none) (w0 : W 0 m0 σ H) :
    codeAny (model Y.prog Y.w) Y.A (.compLoop (.ListComp elt [⟨tg, iter, ifs, 0⟩] sc pos) 0 (.ref it) (.ref D) Y.env) R s := by
  refine codeAny_loop rfl (fun n s' => ∃ i σ' H', Inv Y [] σ' H' s' ∧ tn i s'.heap ∧ (∀ b ∈ fp, H' b = none) ∧ W i n σ' H') (fun n s3 hI => ?_) m0 ⟨0, σ, H, I, st, fr, w0⟩
  obtain ⟨i, σ3, H3, I3, st3, fr3, w3⟩ := hI
  show wpAny (model Y.prog Y.w) Y.A ((compTurn (.ListComp elt [⟨tg, iter, ifs, 0⟩] sc pos) 0 (.ref it) (.ref D) Y.env).onRaise (fun x => do noteFrame x Y.env; theTreesLotGoes x)) _ _ s3
  refine wpAny_noted ?_
  rw [compTurn_list]
  refine wpAny_bind (wpAny_standAt (wpAny_bind ?_))
  rcases turn i n σ3 H3 w3 with ⟨stop, qn⟩ | ⟨go, step⟩
  · refine thn (T.done Y rfl rfl rfl hc i [] s3 σ3 H3 _ I3 (fo H3 fr3) st3 stop) fun r s4 q4 => ?_
    obtain ⟨hr, I4⟩ := q4
    subst hr
    exact wpAny_pure (hR σ3 H3 s4 I4 qn)
  · refine thn (T.item Y rfl rfl rfl hc i [] s3 σ3 H3 _ I3 (fo H3 fr3) st3 go) fun r s4 q4 => ?_
    obtain ⟨u, hr, h4⟩ := q4
    subst hr
    refine wpAny_bind (thn h4 fun _ s5 q5 => ?_)
    obtain ⟨x, H5, I5, r5, y5, st5, fr5⟩ := q5
    have I5' := I5.pinned (fo H5 fr5) (T.obj _ _ st5)
    have quit : ∀ {e : Value} {s' : Shared} {Z : Prop}, Y.xe e s' → Z := fun h => (hx _ _ h).elim
    refine wpAny_bind (wpAny_mono (hg _ s5 σ3 H5 x u _ I5' r5 (step x H5 y5)) (fun _ s6 q6 => ?_) fun _ _ e => quit e)
    obtain ⟨σ6, H6, I6, q6⟩ := q6
    have fin : ∀ {σ7 : St} {H7 : Hp} {s7 : Shared}, Inv Y ([] ++ pinsAt fp s5.heap) σ7 H7 s7 → (∃ m', m' < n ∧ W (i + 1) m' σ7 H7) → ∃ m, m < n ∧ ∃ i σ' H', Inv Y [] σ' H' s7 ∧ tn i s7.heap ∧ (∀ b ∈ fp, H' b = none) ∧ W i m σ' H' := fun {σ7 H7 s7} I7 q7 => by
      obtain ⟨m', hm, w7⟩ := q7
      refine ⟨m', hm, i + 1, σ7, H7, I7.unpinned, T.keep _ _ _ st5 fun b hb o e => (I7.pin (b, o) (List.mem_append_right _ (List.mem_append_right _ (mem_pinsAt hb e)))).1, fun b hb => ?_, w7⟩
      obtain ⟨o, e, d⟩ := T.obj _ _ st5 b hb
      exact (I7.pin (b, o) (List.mem_append_right _ (List.mem_append_right _ (mem_pinsAt hb e)))).2.1
    refine wpAny_bind (wpAny_mono (ht _ s6 σ6 H6 _ I6 q6) (fun b s7 q7 => ?_) fun _ _ e => quit e)
    obtain ⟨H7, I7, q7⟩ := q7
    cases b with
    | false =>
      rw [if_neg Bool.false_ne_true] at q7
      exact wpAny_pure ⟨rfl, fin I7 q7⟩
    | true =>
      rw [if_pos rfl] at q7
      refine wpAny_bind (wpAny_bind (wpAny_mono (he _ s7 σ6 H7 _ I7 q7) (fun v s8 q8 => ?_) fun _ _ e => quit e))
      obtain ⟨y, H8, I8, r8, ys, hD, hz, q8⟩ := q8
      refine wpAny_bind (wpAny_mono (mt_append _ s8 σ6 H8 (.ref D) [y] (.ref D) [v] (fun _ H9 => ∃ m', m' < n ∧ W (i + 1) m' σ6 H9) I8 rfl (.cons r8 .nil) ⟨D, ys, y, rfl, rfl, hD, hz, q8⟩) (fun _ s9 q9 => ?_) fun _ _ e => quit e)
      obtain ⟨_, H9, I9, _, q9⟩ := q9
      exact wpAny_pure (wpAny_pure ⟨rfl, fin I9 q9⟩)

/-! ### the rule -/
/-- the block run for a comprehension, whatever is done with its list -/
theorem lc_block {X : Cx} {sc : Scope} {k : Nat} {N : List Str} {elt tg iter : Expr} {ifs : List Expr} {pos : Pos} {g : TG} {tt : TT} {te : TE} (L : Lc X sc k N) (hc : X.calm = true)
    (hg : ∀ C s H fp, PG (cxC X N sc C s H fp) tg g) (ht : ∀ C s H fp, PTs (cxC X N sc C s H fp) ifs tt) (he : ∀ C s H fp, PE (cxC X N sc C s H fp) elt te)
    {pins : List (Addr × Obj)} {σ : St} {H : Hp} {s : Shared} {it : Addr} {fp : List Addr} {tn : Nat → Heap → Prop} {J : It} {Q : V → Hp → Prop} {E : Value → Shared → Prop} {RR : Value → Addr → Result → Shared → Prop}
    (I : Inv X pins σ H s) (T : Turn X.prog X.w X.K tg J fp it tn) (st : tn 0 s.heap) (fo : ∀ b ∈ fp, FpOk X pins H b)
    (hq : ∀ D, H D = none → ∃ W, (∃ m, W 0 m (List.replicate k none ++ σ) (upd H D (.lst []))) ∧ TurnW J g tt te D W (Q (.ref D)))
    (hRR : ∀ C σ' H' s', s.heap.objs.size < C → Inv (cxC X N sc C s H fp) [] σ' H' s' → Q (.ref s.heap.objs.size) H' → RR (.ref s.heap.objs.size) C (.ok .next) s') :
    wpAny (model X.prog X.w) X.A (newList []) (fun acc s3 => wpAny (model X.prog X.w) X.A (newFunctionEnv sc X.env.globals (clOf X.env sc.names []) [] X.env.qual none .none (some X.env)) (fun cenv s4 =>
      codeAny (model X.prog X.w) X.A (.compStart (.ListComp elt [⟨tg, iter, ifs, 0⟩] sc pos) 0 (.ref it) acc { cenv with scope := relabel sc X.env }) (RR acc cenv.locals) s4) E s3) E s := by
  refine wpAny_newObj_type (wpAny_newFunctionEnv L.nocell (by intro y hy; simp at hy) (fun h1 hns hsb => ?_) L.kind)
  dsimp only at hns hsb ⊢
  generalize hG : s.heap.push { cls := .type "list", dict := none, data := .seq ([] : List Value).toArray } = G at hns hsb ⊢
  have hC : G.objs.size = s.heap.objs.size + 1 := by rw [← hG, Heap.size_push]
  have hlt : s.heap.objs.size < G.objs.size := by omega
  have ob : ∀ b ∈ fp, ∃ o, s.heap.get? b = some o := fun b hb => let ⟨o, e, _⟩ := T.obj _ _ st b hb; ⟨o, e⟩
  have up : ∀ b o, G.get? b = some o → h1.get? b = some o := fun b o e => hsb.extBut b o (Nat.ne_of_lt (Heap.lt_size e)) (Heap.get?_push_of_some _ e)
  have kp : ∀ b o, s.heap.get? b = some o → h1.get? b = some o := fun b o e => up b o (hG ▸ Heap.get?_push_of_some _ e)
  have I0 : Inv (cxC X N sc G.objs.size s H fp) [] (List.replicate k none ++ σ) (upd H s.heap.objs.size (.lst [])) { s with heap := h1, toks := s.toks + ([] : List (Str × Value)).length } :=
    lc_start L I fo ob hlt kp (up _ _ (hG ▸ Heap.get?_push_size _ rfl)) hns
  have st1 : tn 0 h1 := T.keep _ _ _ st fun b _ o e => kp b o e
  have hD : H s.heap.objs.size = none := I.hok.fresh (Nat.le_refl _)
  obtain ⟨W, ⟨m0, w0⟩, turn⟩ := hq _ hD
  have foY : ∀ H' : Hp, (∀ b ∈ fp, H' b = none) → ∀ b ∈ fp, FpOk (cxC X N sc G.objs.size s H fp) [] H' b := fun H' hn b hb =>
    ⟨hn b hb, (I0.ok.exf b hb).1, I0.ok.exfs b hb, .inl hb, (I0.ok.exf b hb).2, fun p hp => absurd (show p ∈ ([] : List (Addr × Obj)) from hp) (by simp)⟩
  have fr0 : ∀ b ∈ fp, upd H s.heap.objs.size (.lst []) b = none := fun b hb => by
    obtain ⟨o, e⟩ := ob b hb
    rw [upd_ne (Nat.ne_of_lt (Heap.lt_size e))]
    exact (fo b hb).1
  have loop : codeAny (model X.prog X.w) X.A (.compLoop (.ListComp elt [⟨tg, iter, ifs, 0⟩] sc pos) 0 (.ref it) (.ref s.heap.objs.size) (cxC X N sc G.objs.size s H fp).env) (RR (.ref s.heap.objs.size) G.objs.size) { s with heap := h1, toks := s.toks + ([] : List (Str × Value)).length } :=
    lc_loop (Y := cxC X N sc G.objs.size s H fp) (iter := iter) hc (fun _ _ h => h) T foY (hg _ _ _ _) (ht _ _ _ _) (he _ _ _ _) turn (fun σ' H' s' J' q => hRR _ σ' H' s' hlt J' q) I0 st1 fr0 w0
  exact codeAny_compStart_list loop (T.self _ 0 _ _ _ st1 loop)
noncomputable def tLC (k : Nat) (wi : TI) (g : TG) (tt : TT) (te : TE) : TE := fun σ H Q => wi σ H fun J H1 => ∀ D, H1 D = none →
  ∃ W, (∃ m, W 0 m (List.replicate k none ++ σ) (upd H1 D (.lst []))) ∧ TurnW J g tt te D W (Q (.ref D))
section
variable {X : Cx} {sc : Scope} {k : Nat} {N : List Str} {elt tg iter : Expr} {ifs : List Expr} {pos : Pos} {wi : TI} {g : TG} {tt : TT} {te : TE}
theorem pe_lc (L : Lc X sc k N) (hc : X.calm = true) (hi : PI X tg iter wi) (hg : ∀ C s H fp, PG (cxC X N sc C s H fp) tg g) (ht : ∀ C s H fp, PTs (cxC X N sc C s H fp) ifs tt) (he : ∀ C s H fp, PE (cxC X N sc C s H fp) elt te)
    (hs : ∀ x, foldedSetIterable iter X.env x = pure x := by intro _; rfl) : PE X (.ListComp elt [⟨tg, iter, ifs, 0⟩] sc pos) (tLC k wi g tt te) := by
  intro pins s σ H Q I h
  rw [eval_ListComp]
  refine wpAny_comprehension_free (use := none) rfl hs (closure_eq (L.cells I.ok)) L.kind L.names (thn (hi pins s σ H _ I h) fun v s1 h1 => thn h1 fun itv s2 h2 => ?_)
  obtain ⟨it, fp, tn, J, H2, e, I2, T, st2, f2, q2⟩ := h2
  subst e
  refine lc_block (RR := fun acc C => compPost (model X.prog X.w) X.A X.xe none (EP X pins σ Q) acc C) L hc hg ht he I2 T st2 f2 q2 fun C σ' H' s' hC J' q => ?_
  have I3 := lc_end I2 f2 J'
  obtain ⟨m, hn, _⟩ := J'.loc
  refine ⟨m, hn, fun h' sb => ?_⟩
  obtain ⟨f0, f1, f2', f3, f4, f5⟩ := I2.fpOk (Nat.le_of_lt hC) (show H' C = none from J'.free)
  exact ⟨.ref s2.heap.objs.size, H', I3.turned (t' := s'.toks) (fun b o hb e => (sb.2 b hb).trans e) f0 f1 f3 f4 f5, rfl, q⟩
end
end L2.Bw

end
section
set_option Elab.async false
set_option linter.all false
set_option maxRecDepth 100000
/-! Data made of ints, bools, texts and tuples, and how the heap bears them. -/
namespace L2.Bw
open PySem PySem.Spec PyProof.Rows

inductive Dt where
  | int (i : Int)
  | bl (b : Bool)
  | str (x : Str)
  | tup (xs : List Dt)
mutual
noncomputable def Rep (H : Hp) : Dt → V → Prop
  | .int i, v => v = .int i
  | .bl b, v => v = .bl b
  | .str x, v => v = .str x
  | .tup ds, v => ∃ a vs, v = .ref a ∧ H a = some (.tup vs) ∧ Reps H ds vs
noncomputable def Reps (H : Hp) : List Dt → List V → Prop
  | [], vs => vs = []
  | d :: ds, vs => ∃ v r, vs = v :: r ∧ Rep H d v ∧ Reps H ds r
end
mutual
noncomputable def Dt.dp : Dt → Nat
  | .tup ds => 1 + dps ds
  | .int _ => 0
  | .bl _ => 0
  | .str _ => 0
noncomputable def dps : List Dt → Nat
  | [] => 0
  | d :: ds => max d.dp (dps ds)
end
mutual
noncomputable def Dt.nar : Dt → Prop
  | .tup ds => ds.length ≤ 1000 ∧ nars ds
  | .int _ => True
  | .bl _ => True
  | .str _ => True
noncomputable def nars : List Dt → Prop
  | [] => True
  | d :: ds => d.nar ∧ nars ds
end
/-- all that stood stays, but for what M says -/
noncomputable def Gr (M : Addr → Prop) (H H' : Hp) : Prop := ∀ b o, H b = some o → ¬ M b → H' b = some o
noncomputable abbrev M0 : Addr → Prop := fun _ => False
/-- the tuples stay -/
noncomputable def Tm (H H' : Hp) : Prop := ∀ a xs, H a = some (.tup xs) → H' a = some (.tup xs)
mutual
theorem Rep.mono {H H' : Hp} (m : Tm H H') : ∀ {d : Dt} {v : V}, Rep H d v → Rep H' d v
  | .int _, _, h => h
  | .bl _, _, h => h
  | .str _, _, h => h
  | .tup _, _, ⟨a, vs, e, h, t⟩ => ⟨a, vs, e, m a vs h, Reps.mono m t⟩
theorem Reps.mono {H H' : Hp} (m : Tm H H') : ∀ {ds : List Dt} {vs : List V}, Reps H ds vs → Reps H' ds vs
  | [], _, h => h
  | _ :: _, _, ⟨v, r, e, h, t⟩ => ⟨v, r, e, Rep.mono m h, Reps.mono m t⟩
end
theorem Gr.seq {K : PySem.W.Frag} {M : Addr → Prop} {H H' : Hp} {a : Addr} {xs : List V} (g : Gr M H H') (n : ¬ M a) (h : SqL K H a xs) : SqL K H' a xs := by
  rcases h with (h | ⟨o, h⟩) | h
  · exact .inl (.inl (g _ _ h n))
  · exact .inl (.inr ⟨o, g _ _ h n⟩)
  · exact .inr h
/-! ### argument lists, whatever their length -/
noncomputable def isStar : Expr → Bool
  | .Starred .. => true
  | _ => false
theorem star_of {e : Expr} {es : List Expr} {env : Env} (h : isStar e = false) : starEach (e :: es) env = (false, eval e env) :: starEach es env := by
  cases e <;> first | rfl | cases h
theorem pa {X : Cx} {e : Expr} {es : List Expr} {te : TE} {t : TA} (ha : PE X e te) (hr : PA X es t) (h : isStar e = false := by rfl) : PA X (e :: es) (tCons te t) := pa_cons ha hr (star_of h)
/-! ### a def of the text, as it is called -/
structure Cal (P : Program) (w : World) (K : PySem.W.Frag) (mg : Str → Option Value) (base : Heap) (x : Str) (ps : List Str) (k : Nat) (sp : Sp) : Prop where
  ex : ∃ f fd, FnOk P w K mg base CX0 k f fd ps sp ∧ Binds K fd ps [] ∧ PySem.W.keepIn K (.ref f) = true ∧ mg x = some (.ref f)
theorem pe_cal {X : Cx} {x : Str} {ps : List Str} {k n : Nat} {sp : Sp} {p pos : Pos} {e : Expr} {es : List Expr} {t : TA} (c : Cal X.prog X.w X.K X.mg X.base x ps k sp) (hr : Room n X.A) (ha : PA X (e :: es) t) (hn : k ≤ n := by omega) (hg : Gl X x := by rfl)
    (hdb : (x == ("__debug__" : Str)) = false := by decide) (he : starEach (e :: es) X.env = (false, eval e X.env) :: starEach es X.env := by rfl)
    (hpl : (backTo pos (starEach es X.env)).any (·.1) = false := by rfl) : PE X (.Call (.Name x p) (e :: es) [] pos) (tCall sp [] E0 t) := by
  obtain ⟨f, fd, F, b, kp, m⟩ := c.ex
  exact pe_call F (hr.mono hn) hg m kp b .nil pass0 ha hdb he hpl
end L2.Bw

end
section
set_option Elab.async false
set_option linter.all false
set_option maxRecDepth 100000
/-! More rules for the hand layer: joined ones, isinstance, == of nested data, count, zip, lists of reversed lists. -/
namespace L2.Bw
open PySem PySem.Spec PyProof.Rows
section
variable {X : Cx}

/-! ### joined rules -/
noncomputable def rAddA (K : PySem.W.Frag) : R2 := fun x y H Q => (∃ i j, x = .int i ∧ y = .int j ∧ Q (.int (i + j)) H) ∨ (∃ i j, x = .str i ∧ y = .str j ∧ i.length + j.length ≤ sizeLine ∧ Q (.str (i ++ j)) H) ∨ rCat x y H Q ∨ rCatT K x y H Q
theorem op_addA : OpR X (binaryOp .Add) (rAddA X.K) := fun pins s σ H x y v u Q I rx ry h => by
  rcases h with h | h | h | h
  · exact op_add pins s σ H x y v u Q I rx ry h
  · exact op_add_str pins s σ H x y v u Q I rx ry h
  · exact op_cat pins s σ H x y v u Q I rx ry h
  · exact op_catT pins s σ H x y v u Q I rx ry h
theorem addI {K : PySem.W.Frag} {i j : Int} {H : Hp} {Q : VK} (q : Q (.int (i + j)) H) : rAddA K (.int i) (.int j) H Q := .inl ⟨i, j, rfl, rfl, q⟩
theorem addT {K : PySem.W.Frag} {x y : V} {H : Hp} {Q : VK} (h : rCatT K x y H Q) : rAddA K x y H Q := .inr (.inr (.inr h))
noncomputable def rLenA (K : PySem.W.Frag) : List V → Hp → VK → Prop := fun xs H Q => (∃ p ys, xs = [.ref p] ∧ (SqL K H p ys ∨ SqT K H p ys) ∧ Q (.int ys.length) H) ∨ ∃ z, xs = [.str z] ∧ z.length ≤ sizeLine ∧ Q (.int z.length) H
theorem call_lenA : CallR X (.builtin "len") (rLenA X.K) := fun pins s σ H xs us Q I r h => by
  rcases h with h | h
  · exact call_len_seq pins s σ H xs us Q I r h
  · exact call_len_str pins s σ H xs us Q I r h
theorem pe_ty {x : Str} {T : String} {pos : Pos} (hg : Gl X x) (hm : X.mg x = none) (hv : bootBuiltins x = some (.type T)) (hn : x ≠ "__name__" := by decide) (hd : (x == ("__debug__" : Str)) = false := by decide) : PE X (.Name x pos) (tC (.ty T)) :=
  pe_bltn hg hm hv (v := .ty T) rfl hn hd
/-- a list or a tuple, walked -/
noncomputable def iSeq (K : PySem.W.Frag) (tl : TE) : TI := fun σ H R => tl σ H fun x H1 => ∃ a, x = .ref a ∧ (((∃ xs, SqL K H1 a xs) ∧ R (Itl K a) H1) ∨ ((∃ xs, SqT K H1 a xs) ∧ R (Itt K a) H1))
theorem pi_seq {tg l : Expr} {tl : TE} (hl : PE X l tl) : PI X tg l (iSeq X.K tl) := by
  intro pins s σ H R I h
  refine thn (hl pins s σ H _ I h) fun v s1 q => ?_
  obtain ⟨x, H1, I1, r1, a, e, q1⟩ := q
  subst e
  cases r1
  have one : ∀ b ∈ [s1.heap.objs.size], FpOk X pins H1 b := fun b hb => by
    cases (show b = s1.heap.objs.size by simpa using hb)
    exact I1.fpOk (Nat.le_refl _) (I1.hok.fresh (Nat.le_refl _))
  rcases q1 with ⟨⟨xs, hq⟩, q⟩ | ⟨⟨xs, hq⟩, q⟩
  · obtain ⟨its, rv, p, hz⟩ := I1.list hq
    exact wpAny_pyIter_list p.isList ⟨s1.heap.objs.size, [s1.heap.objs.size], _, _, H1, rfl, I1.kept (t' := s1.toks) fun b o e => Heap.get?_push_of_some _ e, turn_list a _, ⟨_, Heap.get?_push_size _ rfl, rfl, rfl⟩, one, q⟩
  · obtain ⟨its, rv, p, hz⟩ := I1.tuple hq
    exact wpAny_pyIter_tuple (show s1.heap.IsTuple a its.toArray from p) ⟨s1.heap.objs.size, [s1.heap.objs.size], _, _, H1, rfl, I1.kept (t' := s1.toks) fun b o e => Heap.get?_push_of_some _ e, turn_tuple a _, ⟨_, Heap.get?_push_size _ rfl, rfl, rfl⟩, one, q⟩

/-! ### isinstance -/
noncomputable def IsI (K : PySem.W.Frag) (H : Hp) (x : V) (n : String) (b : Bool) : Prop := ∃ t, TyOf K H x t ∧ PySem.W.kitOne K t (.type n) = some b
theorem call_isi : CallR X (.builtin "isinstance") (fun xs H Q => ∃ x n b, xs = [x, .ty n] ∧ IsI X.K H x n b ∧ Q (.bl b) H) := by
  intro pins s σ H xs us Q I r h
  obtain ⟨x, n, b, e, ⟨t, ty, k⟩, q⟩ := h
  subst e
  obtain ⟨u, w, e, ru, rw'⟩ := Vals.two r
  subst e
  cases rw'
  exact isinst_ok I ru ty k fun tk => ⟨.bl b, H, I.tok tk, rfl, q⟩

/-! ### == of data -/
/-- what == tells of two lists or tuples -/
inductive EqC (K : PySem.W.Frag) (H : Hp) : V → V → Bool → Prop where
  | lists {a c : Addr} {vs ws : List V} {ds : List Dt} (ha : SqL K H a vs) (hc : SqL K H c ws) (ta : Reps H ds vs) (tc : Reps H ds ws) (hd : dps ds ≤ 60) : EqC K H (.ref a) (.ref c) true
  | lens {a c : Addr} {vs ws : List V} (ha : SqL K H a vs) (hc : SqL K H c ws) (hl : vs.length ≠ ws.length) : EqC K H (.ref a) (.ref c) false
  | heads {a c : Addr} {h z : Str} {r : List V} (ha : SqT K H a (.str h :: r)) (hc : SqT K H c [.str z]) : EqC K H (.ref a) (.ref c) (decide (h = z) && r.isEmpty)
/-! ### list.count of texts -/
end
end L2.Bw

end
section
set_option Elab.async false
set_option linter.all false
set_option maxRecDepth 100000
/-! zip of two lists, walked by pairs. -/
namespace L2.Bw
open PySem PySem.Spec PyProof.Rows
section
variable {X : Cx} {pins : List (Addr × Obj)} {σ : St} {H : Hp} {s : Shared} {h' : Heap} {ch : List Addr}
/-- untracked records have turned, a new tuple is there -/
theorem turnedT {t' : Nat} {T : Addr} {xs : List V} (I : Inv X pins σ H s) (k : ∀ b o, b ∉ ch → s.heap.get? b = some o → h'.get? b = some o) (fo : ∀ b ∈ ch, FpOk X pins H b) (hT : s.heap.objs.size ≤ T)
    (new : ∃ its : List Value, Vals xs its ∧ IsTup h' T its.toArray) (hz : xs.length ≤ sizeLine) : Inv X pins σ (upd H T (.tup xs)) { s with heap := h', toks := t' } := by
  have hTn : H T = none := I.hok.fresh hT
  have nit : ∀ b u, H b = some u → b ∉ ch := fun b u e z => by rw [(fo b z).1] at e; cases e
  have old : ∀ b u, H b = some u → upd H T (.tup xs) b = some u := fun b u e => by rw [upd_ne (ne_of_none e hTn)]; exact e
  refine I.step (g' := s.gens) (d' := s.drawn) (ch := ch) (fun b hb => ?_) (fun b o _ _ hc e _ => k b o hc e) (fun b o _ _ hc e _ => ⟨o.slots, k b o hc e⟩) (fun b o _ e n => ?_) (fun b o hc e => ⟨o, k b o hc e⟩)
    (fun b ys e => old b _ e) (fun b o u e => old b _ e) (fun b ps e => ⟨#[], by rw [old b _ e]; simp⟩) (fun m hm => ?_) (fun b u e => ?_) I.bare
  · obtain ⟨_, h1, _, h3, h4, h5⟩ := fo b hb
    exact ⟨h3, h1, h4, h5⟩
  · rw [upd_ne (Nat.ne_of_lt (Nat.lt_of_lt_of_le (Heap.lt_size e) hT))]; exact n
  · obtain ⟨o, es, ep, ho, r⟩ := hm
    exact ⟨o, es, ep, k _ o (fun z => (fo _ z).2.1 rfl) ho, r⟩
  · by_cases hb : b = T
    · subst hb
      rw [upd_same] at e; cases e
      obtain ⟨its, r, p⟩ := new
      exact ⟨hz, its, r, p⟩
    · rw [upd_ne hb] at e
      refine (I.hok b u e).stay (fun c v hc q => k c v ?_ q) (fun c q => old c _ q) fun c ys q => old c _ q
      rcases hc with z | z
      · rw [z]; exact nit b u e
      · exact nit c _ z
theorem turnedN {t' : Nat} (I : Inv X pins σ H s) (k : ∀ b o, b ∉ ch → s.heap.get? b = some o → h'.get? b = some o) (fo : ∀ b ∈ ch, FpOk X pins H b) : Inv X pins σ H { s with heap := h', toks := t' } := by
  have nit : ∀ b u, H b = some u → b ∉ ch := fun b u e z => by rw [(fo b z).1] at e; cases e
  refine I.step (g' := s.gens) (d' := s.drawn) (ch := ch) (fun b hb => ?_) (fun b o _ _ hc e _ => k b o hc e) (fun b o _ _ hc e _ => ⟨o.slots, k b o hc e⟩) (fun b o _ e n => n) (fun b o hc e => ⟨o, k b o hc e⟩)
    (fun b ys e => e) (fun b o u e => e) (fun b ps e => ⟨#[], by rw [e]; simp⟩) (fun m hm => ?_) (fun b u e => ?_) I.bare
  · obtain ⟨_, h1, _, h3, h4, h5⟩ := fo b hb
    exact ⟨h3, h1, h4, h5⟩
  · obtain ⟨o, es, ep, ho, r⟩ := hm
    exact ⟨o, es, ep, k _ o (fun z => (fo _ z).2.1 rfl) ho, r⟩
  · refine (I.hok b u e).stay (fun c v hc q => k c v ?_ q) (fun c q => q) fun c ys q => q
    rcases hc with z | z
    · rw [z]; exact nit b u e
    · exact nit c _ z
end
theorem off_of {X : Cx} {pins : List (Addr × Obj)} {σ : St} {H : Hp} {s : Shared} (I : Inv X pins σ H s) {c l : Addr} {us : List V} (f : FpOk X pins H c) (hq : SqL X.K H l us) : l ≠ c := fun e => by
  subst e
  rcases hq with q | q
  · rcases q with q | ⟨o, q⟩
    · rw [f.1] at q; cases q
    · rw [f.1] at q; cases q
  · obtain ⟨o, its, n, q, _⟩ := q
    have bk := I.ok.mod.kin _ _ q
    rcases f.2.2.2.1 with f | f
    · exact I.ok.noex _ _ bk f
    · exact absurd (Nat.lt_of_lt_of_le (Heap.lt_size bk) (Nat.le_trans I.ok.bsz f)) (Nat.lt_irrefl _)
section
variable {X : Cx}
end
end L2.Bw

end
section
set_option Elab.async false
set_option linter.all false
set_option maxRecDepth 100000
/-! A dict of the module whose keys are texts and whose values are tuples of texts. -/
namespace L2.Bw
open PySem PySem.Spec PyProof.Rows
noncomputable def strsLook : List Str → List Value → Bool
  | [], [] => true
  | x :: r, v :: q => (match v with | .str y _ => y == x | _ => false) && strsLook r q
  | _, _ => false
theorem vals_of_look : ∀ {ss : List Str} {us : List Value}, strsLook ss us = true → Vals (ss.map V.str) us
  | [], [], _ => .nil
  | x :: r, v :: q, h => by
    unfold strsLook at h
    have h' := Bool.and_eq_true_iff.mp h
    refine .cons ?_ (vals_of_look h'.2)
    have h1 := h'.1
    cases v with
    | str y t => exact ⟨t, by rw [show y = x by simpa using h1]⟩
    | _ => exact absurd h1 (by simp)
  | [], _ :: _, h => by simp [strsLook] at h
  | _ :: _, [], h => by simp [strsLook] at h
noncomputable def lookT (K : PySem.W.Frag) (ss : List Str) (v : Value) : Bool := match v with
  | .ref b => (match K.lookup b with
    | some o => o.cls == .type "tuple" && (match o.data with | .seq its _ => decide (its.size ≤ 1000) && strsLook ss its.toList | _ => false)
    | none => false)
  | _ => false
noncomputable def IsT (K : PySem.W.Frag) (ss : List Str) (v : Value) : Prop := ∃ b, v = .ref b ∧ ∀ H : Hp, SqT K H b (ss.map V.str)
theorem isT_of {K : PySem.W.Frag} (ss : List Str) (v : Value) (h : lookT K ss v = true) : IsT K ss v := by
  unfold lookT at h
  cases v with
  | ref b =>
    refine ⟨b, rfl, fun H => .inr ?_⟩
    cases e : K.lookup b with
    | none => simp only [e] at h; cases h
    | some o =>
      simp only [e] at h
      rw [Bool.and_eq_true_iff] at h
      cases d : o.data with
      | seq its n =>
        simp only [d] at h
        rw [Bool.and_eq_true_iff] at h
        exact ⟨o, its, n, rfl, by simpa using h.1, d, Nat.le_trans (of_decide_eq_true h.2.1) (Nat.le_of_lt (small1000 (Nat.le_refl _))), vals_of_look h.2.2⟩
      | _ => simp [d] at h
  | _ => simp at h
theorem getTab {prog : Program} {w : World} {A : Around} {E : Value → Shared → Prop} {s : Shared} {δ : Type} {R : δ → Value → Prop} {a : Addr} {D : List (Str × δ)} {z : Str} {tz : Tok} {d : δ} {Q : Option Value → Shared → Prop}
    (T : KTD.TabOf R s.heap a D) (hat : KTD.datumAt z D = some d) (h : ∀ v, R d v → Q (some v) { s with toks := s.toks + 1 }) : wpAny (model prog w) A (dictGet a (.str z tz)) Q E s := by
  obtain ⟨_, o, es, ep, ho, _, hd, hr⟩ := T
  obtain ⟨v, hv, hfl⟩ := hr.find_some hat
  have all : (es.all fun e => isExactStrKey e.key) = true := by
    obtain ⟨l⟩ := es
    simpa using hr.exact
  have hq : Q (findBy (fun k v => v.isStr k) es z) { s with toks := s.toks + 1 } := by
    rw [show findBy (fun k v => v.isStr k) es z = some v by obtain ⟨l⟩ := es; simpa [findBy] using hv]
    exact h v hfl
  rw [findBy_of_findIdx?] at hq
  unfold dictGet
  refine wpAny_holding ?_
  refine wpAny_bind (wpAny_pyHash_str (wpAny_bind (KTD.kt_dictFind_strs (s := { s with toks := s.toks + 1 }) ho hd all ?_)))
  cases hi : es.findIdx? fun e => e.key.isStr z with
  | none =>
    rw [hi] at hq
    exact wpAny_pure hq
  | some i =>
    rw [hi] at hq
    exact wpAny_bind (wpAny_dictEntries (s := { s with toks := s.toks + 1 }) ho hd (wpAny_pure hq))
section
variable {X : Cx}
noncomputable def rTab (K : PySem.W.Frag) (a : Addr) (D : List (Str × List Str)) : R2 := fun x y H Q => x = .ref a ∧ ∃ z ss, y = .str z ∧ KTD.datumAt z D = some ss ∧ ∀ c, SqT K H c (ss.map V.str) → Q (.ref c) H
theorem pe_tab {x : Str} {p pos : Pos} {b : Expr} {tb : TE} {a : Addr} {D : List (Str × List Str)} (hg : Gl X x) (hm : X.mg x = some (.ref a)) (hK : KTD.tabLook (lookT X.K) (fun b => X.K.lookup b) a D = true) (hb : PE X b tb) (hs : PlainIx b)
    (hd : (x == ("__debug__" : Str)) = false := by decide) (hl : ∀ r, letTemporaryGo (.Name x p) (.ref a) r = pure () := by intro _; rfl) : PE X (.Subscript (.Name x p) b pos) (tOp (rTab X.K a D) (tC (.ref a)) tb) := by
  intro pins s σ H Q I h
  refine Subscript_ (binT (pe_glob hg hm (v := .ref a) rfl hd) hb I h fun v u s2 x' y H2 I2 rx ry q => ?_)
  obtain ⟨e, z, ss, e', hat, q⟩ := q
  subst e e'
  cases rx
  obtain ⟨tz, e⟩ := ry
  subst e
  have T : KTD.TabOf (IsT X.K) s2.heap a D := KTD.tab_of_look isT_of (fun b o e => I2.kIn b o e) hK
  have ty : s2.TypeIs (.ref a) "dict" := by obtain ⟨_, o, _, _, ho, hc, _⟩ := T; exact ⟨o, ho, hc.1⟩
  refine subscriptTail_builtin ty slot_dict_getitem.lookup ?_ (hs _ _) hl
  unfold getItem
  refine wpAny_holding ?_
  refine wpAny_bind (wpAny_sequenceKey ty (by decide) ?_)
  refine wpAny_bind (wpAny_callSpecial?_slot (name := Str.ofString "__getitem__") ty slot_dict_getitem (wpAny_call_entry slot_dict_getitem ty entry_dict_getitem ?_ (args_dict_getitem _ _)))
  show wpAny _ _ (dictGet a (.str z tz) >>= _) _ _ s2
  refine wpAny_bind (getTab T hat fun v hv => wpAny_pure ⟨v, rfl, wpAny_pure ?_⟩)
  obtain ⟨c, e, hc⟩ := hv
  subst e
  exact ⟨.ref c, H2, I2.tok _, rfl, q c (hc H2)⟩
end
end L2.Bw

end
section
set_option Elab.async false
set_option linter.all false
set_option maxRecDepth 100000
/-! enumerate(t, start=n) of a tuple, walked by pairs. -/
namespace L2.Bw
open PySem PySem.Spec PyProof.Rows
theorem init_kw {T newId : String} {me : Value} {more : List Value} {kws : List (Str × Value)} (a1 : typeLookup (.type T) "__init__" = pure (some (.builtin "object.__init__"))) (a2 : Bind.madeBy (.type T) = pure (some newId))
    (a3 : (some newId != some "object.__new__") = true) (a4 : more ≠ []) : Meets (Builtin.«object.__init__» ⟨me :: more, kws⟩) (fun _ R s => s.TypeIs me T ∧ R (.ok (.ret .none)) s) := by
  refine Meets.of_wp fun prog w A R s q => ?_
  obtain ⟨ty, q⟩ := q
  cases more with
  | nil => exact absurd rfl a4
  | cons b more =>
    repeat (any_goals (first | assumption | wp_step))
    exact ⟨_, rfl, q⟩
section
variable {prog : Program} {w : World} {A : Around} {E : Value → Shared → Prop} {s : Shared}
theorem callType_kw {T newId : String} {Bn : Builtin} {args : List Value} {kws : List (Str × Value)} {S : PySem.Spec} {Q Q1 : Value → Shared → Prop} (ft : TypeCalled T newId "object.__init__") (ne : (some newId != some "object.__new__") = true) (na : args ≠ [])
    (c1 : checkTypeCall T ⟨args, kws⟩ = pure ()) (c2 : checkBuiltinCall newId ⟨.type T :: args, kws⟩ = pure ()) (e1 : entryFor table newId = some Bn) (g : Meets (Bn ⟨.type T :: args, kws⟩) S) (h : S A.in1 (wants Q1 E) s)
    (hn : ∀ obj s1, Q1 obj s1 → s1.TypeIs obj T ∧ argsOk "object.__init__" ⟨obj :: args, kws⟩ ∧ Q obj s1) : wpAny (model prog w) A (call (.type T) args kws) Q E s := by
  obtain ⟨c, tl, m1⟩ := ft.mro
  have m2 := ft.made
  have m3 := ft.sub
  refine wpAny_call (codeAny_of_tree ?_)
  show wpAny _ _ (callAny (.type T) _) _ _ _
  refine wpAny_pure ⟨Code.quiet_builtin _ (by decide +kernel), codeAny_builtin F.entry_type_call ?_⟩
  rw [Around.under_plain (weight_type_call_type T args kws) (units_type_call_type T args kws)]
  have m4 := ft.notType
  have m5 := ft.canCreate
  repeat (any_goals (first | assumption | wp_step))
  refine codeAny_mono (codeAny_call_builtin ft.plain e1 (wpAny_of_eq c2 (g prog w A.in1 _ s h))) fun r s1 q1 => ?_
  cases r with
  | error e => exact q1
  | ok fl =>
    cases fl with
    | ret obj =>
      obtain ⟨ty, ok, qq⟩ := hn _ _ q1
      have m6 := ft.init.lookup
      have m7 := ft.init.bind obj
      repeat (any_goals (first | assumption | wp_step))
      refine codeAny_mono (codeAny_call_builtin ft.init.plain F.entry_object_init (ft.init.check _ _ _ _ _ _ _ _ ty ok (init_kw m6 m2 ne na prog w A.in1 (wants (fun r s2 => r = .none ∧ Q obj s2) E) s1 ⟨ty, rfl, qq⟩))) fun r2 s2 q2 => ?_
      cases r2 with
      | error e => exact q2
      | ok f2 =>
        cases f2 with
        | ret r =>
          obtain ⟨e, q3⟩ := q2
          subst e
          repeat (any_goals (first | assumption | wp_step))
        | _ => exact q2.elim
    | _ => exact q1.elim
theorem enum_new (t : Addr) (n : Int) (tk : Tok) (hn : Builtin.SmallTypes.fitsIndex n = true) (items : Array Value) :
    Meets (Builtin.«enumerate.__new__» ⟨[.type "enumerate", .ref t], [("start", .int n tk)]⟩) (fun _ R s => s.heap.IsTuple t items ∧
      R (.ok (.ret (.ref (s.heap.push { cls := .type "tuple_iterator", data := .fields #[.ref t, .int 0 0] }).objs.size)))
        { s with heap := (s.heap.push { cls := .type "tuple_iterator", data := .fields #[.ref t, .int 0 0] }).push { cls := .type "enumerate", data := .fields #[.none, .bool false, .ref s.heap.objs.size, rawInt n, .none, .none] } }) :=
  .of_wp fun prog w A R s h => by
    obtain ⟨hp, g, d, tk', os⟩ := s
    obtain ⟨ht, h⟩ := h
    have sub := sub_enumerate
    wp_walk
    refine wpAny_stack_any fun st => wpAny_pure ?_
    split
    · rename_i c _ _ _ _ _
      cases (c == Value.type "enumerate")
      · wp_walk using wpAny_pyIter_tuple ht
        exact ⟨_, rfl, h⟩
      · wp_walk using wpAny_pyIter_tuple ht
        exact ⟨_, rfl, h⟩
    · wp_walk using wpAny_pyIter_tuple ht
      exact ⟨_, rfl, h⟩
/-- the tuple's iterator, asked by enumerate -/
theorem next_tup {it t : Addr} {i : Nat} {xs : Array Value} {x : Value} {Q : Value → Shared → Prop} (g : s.heap.IsTupleIter it t i) (gt : s.heap.IsTuple t xs) (gx : xs[i]? = some x)
    (q : ∀ h1, h1.IsTupleIter it t (i + 1) → Heap.SameBut it s.heap h1 → Q x { s with heap := h1 }) : wpAny (model prog w) A (Builtin.SmallTypes.nextOf (.ref it)) Q E s := by
  obtain ⟨o, eo, co, dd⟩ := id g
  obtain ⟨ot, et, _, nt, dt⟩ := gt
  unfold Builtin.SmallTypes.nextOf
  refine wpAny_bind (wpAny_callSpecial?_slot (name := Str.ofString "__next__") g.typeIs F.slot_tuple_iterator_next (wpAny_call_entry F.slot_tuple_iterator_next g.typeIs F.entry_tuple_iterator_next ?_ (F.args_tuple_iterator_next_1 _)))
  show wpAny _ _ (field (.ref it) 0 >>= fun _ => _) _ _ s
  refine wpAny_bind (wpAny_field eo dd (x := .ref t) rfl ?_)
  show wpAny _ _ (if (Value.ref t == Value.none) = true then _ else _) _ _ s
  have nn : ¬ ((Value.ref t == Value.none) = true) := Bool.false_ne_true
  rw [if_neg nn]
  show wpAny _ _ (field (.ref it) 1 >>= fun _ => _) _ _ s
  refine wpAny_bind (wpAny_field eo dd (x := .int i 0) rfl ?_)
  show wpAny _ _ (seqItems? (.ref t) >>= fun _ => _) _ _ s
  refine wpAny_bind (wpAny_seqItems et dt ?_)
  simp only [Int.toNat_natCast, gx]
  refine wpAny_bind (wpAny_setField eo dd (by simp) (wpAny_pure ⟨x, rfl, wpAny_pure (q _ ⟨_, Heap.get?_update_self _ eo (Obj.isFreed_of_fields (Obj.data_mapFields dd _)), (Obj.cls_mapFields ..).trans co, ?_⟩ (Heap.SameBut.update ..))⟩))
  rw [Obj.data_mapFields dd]
  simp [rawInt]
theorem enum_item {e it t : Addr} {i : Nat} {j : Int} {xs : Array Value} {x old : Value} {Q : Option Value → Shared → Prop} (ge : IsEnum s.heap e it j old) (g : s.heap.IsTupleIter it t i) (gt : s.heap.IsTuple t xs) (gx : xs[i]? = some x) (ne : e ≠ it)
    (q : ∀ h1 tk, IsEnumOut h1 e it (j + 1) x s.heap.objs.size → h1.IsTupleIter it t (i + 1) → h1.get? s.heap.objs.size = some { cls := .type "tuple", data := .seq #[.int j tk, x] } →
      (∀ b o, b ≠ e → b ≠ it → s.heap.get? b = some o → h1.get? b = some o) → Q (some (.ref s.heap.objs.size)) { s with heap := h1, toks := tk + 1 }) : wpAny (model prog w) A (pyNext (.ref e)) Q E s := by
  have ty : s.TypeIs (.ref e) "enumerate" := ⟨_, ge, rfl⟩
  unfold pyNext
  refine wpAny_bind (wpAny_attempt (wpAny_callSpecial?_slot (name := Str.ofString "__next__") ty F.slot_enumerate_next (wpAny_call_entry F.slot_enumerate_next ty F.entry_enumerate_next ?_ (F.args_enumerate_next_1 _))))
  obtain ⟨hp, gs, d, tk0, os⟩ := s
  show wpAny _ _ (field (.ref e) 2 >>= fun _ => _) _ _ _
  refine wpAny_bind (wpAny_field ge rfl (x := .ref it) rfl ?_)
  refine wpAny_bind (next_tup g gt gx fun h1 g1 s1 => ?_)
  replace s1 : Heap.SameBut it hp h1 := s1
  have e1 : IsEnum h1 e it j old := (s1.2 e ne).trans ge
  show wpAny _ _ (field (.ref e) 3 >>= fun _ => _) _ _ ⟨h1, gs, d, tk0, os⟩
  refine wpAny_bind (wpAny_field e1 rfl (x := rawInt j) rfl ?_)
  show wpAny _ _ (field (.ref e) 4 >>= fun _ => _) _ _ ⟨h1, gs, d, tk0, os⟩
  refine wpAny_bind (wpAny_field e1 rfl (x := .none) rfl ?_)
  show wpAny _ _ (mkInt j >>= fun _ => _) _ _ ⟨h1, gs, d, tk0, os⟩
  refine wpAny_bind (wpAny_mkInt ?_)
  show wpAny _ _ (setField (.ref e) 3 (rawInt (j + 1)) >>= fun _ => _) _ _ ⟨h1, gs, d, tk0 + 1, os⟩
  refine wpAny_bind (wpAny_setField_rec e1 (by simp) fun h2 e2 s2 => ?_)
  replace s2 : Heap.SameBut e h1 h2 := s2
  replace e2 : IsEnum h2 e it (j + 1) old := e2
  show wpAny _ _ (setField (.ref e) 4 .none >>= fun _ => _) _ _ ⟨h2, gs, d, tk0 + 1, os⟩
  refine wpAny_bind (wpAny_setField_rec e2 (by simp) fun h3 e3 s3 => ?_)
  replace s3 : Heap.SameBut e h2 h3 := s3
  replace e3 : IsEnum h3 e it (j + 1) old := e3
  show wpAny _ _ (newTuple [.int j tk0, x] >>= fun _ => _) _ _ ⟨h3, gs, d, tk0 + 1, os⟩
  refine wpAny_bind (wpAny_newTuple ?_)
  have e4 : IsEnum (h3.push { cls := .type "tuple", data := .seq #[.int j tk0, x] }) e it (j + 1) old := Heap.get?_push_of_some _ e3
  generalize hh4 : h3.push { cls := .type "tuple", data := .seq #[.int j tk0, x] } = h4 at e4
  have sz : h3.objs.size = hp.objs.size := by rw [s3.1, s2.1, s1.1]
  have lt : e < hp.objs.size := Heap.lt_size ge
  have t4 : h4.get? hp.objs.size = some { cls := .type "tuple", data := .seq #[.int j tk0, x] } := by rw [← hh4, ← sz]; exact Heap.get?_push_size _ rfl
  have k4 : ∀ b o, b ≠ e → b ≠ it → hp.get? b = some o → h4.get? b = some o := fun b o n1 n2 hb => by
    rw [← hh4]; exact Heap.get?_push_of_some _ (s3.extBut b o n1 (s2.extBut b o n1 (s1.extBut b o n2 hb)))
  have g4 : h4.IsTupleIter it t (i + 1) := g1.at fun o y => by
    rw [← hh4]; exact Heap.get?_push_of_some _ (s3.extBut it o (Ne.symm ne) (s2.extBut it o (Ne.symm ne) y))
  show wpAny _ _ (Builtin.SmallTypes.ownedTupleIsFree (.ref e) >>= fun _ => _) _ _ ⟨h4, gs, d, tk0 + 1, os⟩
  rw [sz]
  clear hh4 e3 s3 e2 s2 e1 s1 g1 sz h3 h2 h1
  refine wpAny_bind ?_
  unfold Builtin.SmallTypes.ownedTupleIsFree
  refine wpAny_bind (wpAny_field e4 rfl (x := .none) rfl (wpAny_pure ?_))
  simp only [if_true]
  refine wpAny_bind (wpAny_rule (wpAny_bind (wpAny_field e4 rfl (x := old) rfl ?_)))
  refine wpAny_bind (wpAny_setField_rec e4 (by simp) fun h5 e5 s5 => ?_)
  replace s5 : Heap.SameBut e h4 h5 := s5
  replace e5 : IsEnum h5 e it (j + 1) x := e5
  show wpAny _ _ (Builtin.SmallTypes.ownedTupleHandOut (.ref e) (.ref hp.objs.size) >>= fun _ => _) _ _ ⟨h5, gs, d, tk0 + 1, os⟩
  refine wpAny_bind ?_
  unfold Builtin.SmallTypes.ownedTupleHandOut
  refine wpAny_bind (wpAny_setField_rec e5 (by simp) fun h6 e6 s6 => ?_)
  replace s6 : Heap.SameBut e h5 h6 := s6
  replace e6 : IsEnumOut h6 e it (j + 1) x hp.objs.size := e6
  refine wpAny_setField_rec e6 (by simp) fun h7 e7 s7 => ?_
  replace s7 : Heap.SameBut e h6 h7 := s7
  replace e7 : IsEnumOut h7 e it (j + 1) x hp.objs.size := e7
  have up : ∀ b o, b ≠ e → h4.get? b = some o → h7.get? b = some o := fun b o n1 y => s7.extBut b o n1 (s6.extBut b o n1 (s5.extBut b o n1 y))
  refine wpAny_bind (wpAny_letGo (wpAny_pure ⟨_, rfl, wpAny_pure ?_⟩))
  exact q h7 tk0 e7 (g4.at fun o y => up it o (Ne.symm ne) y) (up _ _ (Nat.ne_of_gt lt) t4) fun b o n1 n2 y => up b o n1 (k4 b o n1 n2 y)
theorem next_tup_end {it t : Addr} {i : Nat} {xs : Array Value} {Q : Value → Shared → Prop} (hh : A.handled = none) (g : s.heap.IsTupleIter it t i) (gt : s.heap.IsTuple t xs) (gx : xs[i]? = none)
    (q : ∀ h1 x, Heap.ExtBut it s.heap h1 → (∃ o, h1.get? x = some o ∧ o.cls = .type "StopIteration") → E (.ref x) { s with heap := h1 }) : wpAny (model prog w) A (Builtin.SmallTypes.nextOf (.ref it)) Q E s := by
  obtain ⟨o, eo, co, dd⟩ := id g
  obtain ⟨ot, et, _, nt, dt⟩ := gt
  unfold Builtin.SmallTypes.nextOf
  refine wpAny_bind (wpAny_callSpecial?_slot (name := Str.ofString "__next__") g.typeIs F.slot_tuple_iterator_next (wpAny_call_entry F.slot_tuple_iterator_next g.typeIs F.entry_tuple_iterator_next ?_ (F.args_tuple_iterator_next_1 _)))
  show wpAny _ _ (field (.ref it) 0 >>= fun _ => _) _ _ s
  refine wpAny_bind (wpAny_field eo dd (x := .ref t) rfl ?_)
  show wpAny _ _ (if (Value.ref t == Value.none) = true then _ else _) _ _ s
  have nn : ¬ ((Value.ref t == Value.none) = true) := Bool.false_ne_true
  rw [if_neg nn]
  show wpAny _ _ (field (.ref it) 1 >>= fun _ => _) _ _ s
  refine wpAny_bind (wpAny_field eo dd (x := .int i 0) rfl ?_)
  show wpAny _ _ (seqItems? (.ref t) >>= fun _ => _) _ _ s
  refine wpAny_bind (wpAny_seqItems et dt ?_)
  simp only [Int.toNat_natCast, gx]
  refine wpAny_bind (wpAny_rule (wpAny_bind (wpAny_setField eo dd (by simp) ?_)))
  show wpAny _ _ (newExc (.type "StopIteration") [] >>= fun _ => _) _ _ _
  refine wpAny_bind ?_
  simp only [newExc, newTuple]
  refine wpAny_bind (wpAny_newObj_type ?_ (by size_fits))
  refine wpAny_bind (m := firstArgMember _ _) (wpAny_of_eq (a := Value.none) (by first | rfl | (simp only [firstArgMember]; rfl)) (wpAny_newObj_type ?_ (by size_fits)))
  simp only [raiseNew]
  refine wpAny_bind (wpAny_handled ?_)
  first | rw [show A.in1.handled = none from hh] | rw [hh]
  exact wpAny_bind (wpAny_pure (wpAny_throw (q _ _ (((Heap.SameBut.update ..).extBut.push _).push _) ⟨_, Heap.get?_push_size _ rfl, rfl⟩)))
theorem enum_end {e it t : Addr} {i : Nat} {j : Int} {xs : Array Value} {old : Value} {Q : Option Value → Shared → Prop} (hh : A.handled = none) (ge : IsEnum s.heap e it j old) (g : s.heap.IsTupleIter it t i) (gt : s.heap.IsTuple t xs) (gx : xs[i]? = none)
    (q : ∀ h1, Heap.ExtBut it s.heap h1 → Q none { s with heap := h1 }) : wpAny (model prog w) A (pyNext (.ref e)) Q E s := by
  have ty : s.TypeIs (.ref e) "enumerate" := ⟨_, ge, rfl⟩
  unfold pyNext
  refine wpAny_bind (wpAny_attempt (wpAny_callSpecial?_slot (name := Str.ofString "__next__") ty F.slot_enumerate_next (wpAny_call_entry F.slot_enumerate_next ty F.entry_enumerate_next ?_ (F.args_enumerate_next_1 _))))
  show wpAny _ _ (field (.ref e) 2 >>= fun _ => _) _ _ _
  refine wpAny_bind (wpAny_field ge rfl (x := .ref it) rfl ?_)
  refine wpAny_bind (next_tup_end hh g gt gx fun h1 x k1 k2 => ?_)
  obtain ⟨o, ho, hc⟩ := k2
  exact wpAny_bind (wpAny_isInstance (T := "StopIteration") (b := true) ⟨o, ho, hc⟩ isSubtype_stop (wpAny_pure (q _ k1)))
end
/-- pairs (lo + i, the tuple's item at i) -/
noncomputable def Ite (K : PySem.W.Frag) (a : Addr) (lo : Int) : It where
  go := fun i H => ∃ xs x, SqT K H a xs ∧ xs[i]? = some x
  yld := fun i H v H' => ∃ T x, v = .ref T ∧ H T = none ∧ H' = upd H T (.tup [.int (lo + i), x]) ∧ ∀ xs, SqT K H a xs → xs[i]? = some x
  stop := fun i H => ∃ xs, SqT K H a xs ∧ xs.length ≤ i
theorem turn_enum {P : Program} {w : World} {K : PySem.W.Frag} {es : List Expr} {k : Nat} {tp : Pos} (a e it : Addr) (lo : Int) (ne : e ≠ it) :
    Turn P w K (.Tuple es k tp) (Ite K a lo) [e, it] e (fun i h => (∃ old, IsEnum h e it (lo + i) old) ∧ h.IsTupleIter it a i) where
  mem := by simp
  obj := fun i h st c hc => by
    obtain ⟨⟨old, h1⟩, ⟨o2, e2, c2, d2⟩⟩ := st
    have hc' : c = e ∨ c = it := by simpa using hc
    rcases hc' with rfl | rfl
    · exact ⟨_, h1, fun v q => by cases (show Data.fields _ = Data.cell v from q)⟩
    · exact ⟨o2, e2, fun v q => by rw [d2] at q; cases q⟩
  keep := fun i h h' st kp => by
    obtain ⟨⟨old, h1⟩, h2⟩ := st
    exact ⟨⟨old, kp e (by simp) _ h1⟩, h2.at fun o q => kp it (by simp) o q⟩
  item := by
    intro X hP hw hK hc i pins s σ H E I hf st hg
    subst hP hw hK
    obtain ⟨xs, x, hq, hx⟩ := hg
    obtain ⟨its, rv, p, hz⟩ := I.tuple hq
    obtain ⟨u, hu, ru⟩ := rv.get hx
    obtain ⟨⟨old, h1⟩, h2⟩ := st
    refine enum_item h1 h2 (show s.heap.IsTuple a its.toArray from p) (x := u) (by simpa using hu) ne fun h' tk ho hi ht kp => ⟨_, rfl, ?_⟩
    refine wpAny_letOwnedTupleGo_enum ho fun h'' he' hs' => ?_
    replace hs' : Heap.SameBut e h' h'' := hs'
    replace he' : IsEnum h'' e it (lo + i + 1) u := he'
    have zT := (hs'.2 s.heap.objs.size (Nat.ne_of_gt (Heap.lt_size h1))).trans ht
    have kp' : ∀ b o, b ∉ [e, it] → s.heap.get? b = some o → h''.get? b = some o := fun b o hb q => (hs'.2 b (fun z => hb (z ▸ List.mem_cons_self))).trans (kp b o (fun z => hb (z ▸ List.mem_cons_self)) (fun z => hb (z ▸ List.mem_cons_of_mem _ List.mem_cons_self)) q)
    have hsz : e < s.heap.objs.size := Heap.lt_size h1
    have hiz : it < s.heap.objs.size := by obtain ⟨o, q, _⟩ := h2; exact Heap.lt_size q
    have htT : IsTup h'' s.heap.objs.size #[.int (lo + i) tk, u] := ⟨_, zT, rfl, 0, rfl⟩
    have hTn : H s.heap.objs.size = none := I.hok.fresh (Nat.le_refl _)
    have I2 : Inv X pins σ (upd H s.heap.objs.size (.tup [.int (lo + i), x])) { s with heap := h'', toks := tk + 1 } :=
      turnedT (ch := [e, it]) I kp' hf (Nat.le_refl _) ⟨[.int (lo + i) tk, u], .cons ⟨tk, rfl⟩ (.cons ru .nil), htT⟩ (by show 2 ≤ sizeLine; decide)
    refine ⟨.ref s.heap.objs.size, _, I2, rfl, ⟨_, x, rfl, hTn, rfl, fun ys hy => by rw [I.tuple_inj hy hq]; exact hx⟩, ⟨⟨u, ?_⟩, hi.at fun o q => (hs'.2 it (Ne.symm ne)).trans q⟩, fun b hb => ?_⟩
    · have z : lo + ((i + 1 : Nat) : Int) = lo + (i : Int) + 1 := by omega
      rw [z]; exact he'
    · have hb' : b = e ∨ b = it := by simpa using hb
      have hne : b ≠ s.heap.objs.size := by
        rcases hb' with z | z
        · rw [z]; exact Nat.ne_of_lt hsz
        · rw [z]; exact Nat.ne_of_lt hiz
      rw [upd_ne hne]
      exact (hf b hb).1
  done := by
    intro X hP hw hK hc i pins s σ H E I hf st hg
    subst hP hw hK
    obtain ⟨xs, hq, hx⟩ := hg
    obtain ⟨its, rv, p, hz⟩ := I.tuple hq
    obtain ⟨⟨old, h1⟩, h2⟩ := st
    have hl := rv.length
    refine enum_end (I.ok.hd hc) h1 h2 (show s.heap.IsTuple a its.toArray from p) (by simp; omega) fun h' kp => ⟨rfl, ?_⟩
    exact turnedN (ch := [e, it]) (t' := s.toks) I (fun b o hb q => kp b o (fun z => hb (z ▸ List.mem_cons_of_mem _ List.mem_cons_self)) q) hf
  self := fun _ _ _ _ _ st h => by
    obtain ⟨⟨old, h1⟩, _⟩ := st
    exact wpAny_pyIter_enum h1 h
section
variable {X : Cx}
noncomputable def iEnum (K : PySem.W.Frag) (ta tk : TA) : TI := fun σ H R => ta σ H fun vs H1 => tk σ H1 fun zs H2 => ∃ a xs n, vs = [.ref a] ∧ zs = [.int n] ∧ Builtin.SmallTypes.fitsIndex n = true ∧ SqT K H2 a xs ∧ R (Ite K a n) H2
theorem callTy_kw {M : Model} {A : Around} {E : Value → Shared → Prop} {s : Shared} {env : Env} {pos : Pos} {T : String} {e : Expr} {rest : List Expr} {kws : List Keyword} {Q : Value → Shared → Prop}
    (h : wpAny M A (spliced (backTo pos (starEach (e :: rest) env))) (fun vs s1 => wpAny M A (evalAll ((backToKw pos (keywordEach kws env)).map (·.2))) (fun ks s2 => wpAny M A (call (.type T) vs (((backToKw pos (keywordEach kws env)).filterMap (·.1)).zip ks)) Q E s2) E s1) E s)
    (he : starEach (e :: rest) env = (false, eval e env) :: starEach rest env) (h1 : (backTo pos (starEach (e :: rest) env)).any (·.1) = false) (h2 : (backToKw pos (keywordEach kws env)).all (·.1.isSome) = true) (h3 : (backToKw pos (keywordEach kws env)).any (·.1.isNone) = false) :
    wpAny M A (callWith pos (.type T) [] (backTo pos (starEach (e :: rest) env)) (backToKw pos (keywordEach kws env))) Q E s := by
  have k : wpAny M A (evalArgs (.type T) true (backTo pos (starEach (e :: rest) env)) (backToKw pos (keywordEach kws env))) (fun a s1 => wpAny M A (call (.type T) ([] ++ a.pos) a.kw) Q E s1) E s := by
    rw [he] at h ⊢
    exact evalArgs_kwB h2 h
  unfold callWith
  refine wpAny_bind (wpAny_holding (thn k fun a s1 q => wpAny_bind (wpAny_standAt ?_)))
  simp only [h1, h3, Bool.or_false]
  exact wpAny_bind (wpAny_pure (wpAny_bind (thn q fun r s2 q2 => wpAny_bind (wpAny_holding (wpAny_point (wpAny_pure q2))))))
theorem enum_call {prog : Program} {w : World} {A : Around} {E : Value → Shared → Prop} {s : Shared} {t : Addr} {xs : Array Value} {n : Int} {tk : Tok} {Q : Value → Shared → Prop} (hn : Builtin.SmallTypes.fitsIndex n = true) (ht : s.heap.IsTuple t xs)
    (h : Q (.ref (s.heap.push { cls := .type "tuple_iterator", data := .fields #[.ref t, .int 0 0] }).objs.size)
      { s with heap := (s.heap.push { cls := .type "tuple_iterator", data := .fields #[.ref t, .int 0 0] }).push { cls := .type "enumerate", data := .fields #[.none, .bool false, .ref s.heap.objs.size, rawInt n, .none, .none] } }) :
    wpAny (model prog w) A (call (.type "enumerate") [.ref t] [("start", .int n tk)]) Q E s := by
  refine callType_kw (Q1 := fun obj s1 => obj = .ref (s.heap.push { cls := .type "tuple_iterator", data := .fields #[.ref t, .int 0 0] }).objs.size ∧ s1 = { s with heap := (s.heap.push { cls := .type "tuple_iterator", data := .fields #[.ref t, .int 0 0] }).push { cls := .type "enumerate", data := .fields #[.none, .bool false, .ref s.heap.objs.size, rawInt n, .none, .none] } })
    F.called_enumerate (by decide) (by simp) (by kernel_rfl) (by kernel_rfl) F.entry_enumerate_new (enum_new t n tk hn xs) ⟨ht, rfl, rfl⟩ fun obj s1 q => ?_
  obtain ⟨e, e'⟩ := q
  subst e e'
  exact ⟨⟨_, Heap.get?_push_size _ rfl, rfl⟩, by first | (simp [argsOk]; done) | (unfold argsOk; kernel_rfl) | (unfold argsOk; decide +kernel) | kernel_rfl, h⟩
theorem pi_enum {es : List Expr} {k : Nat} {tp p pos kp : Pos} {a b : Expr} {ta tk : TA} (hg : Gl X "enumerate") (hm : X.mg "enumerate" = none) (ha : PA X [a] ta) (hk : PK X [⟨some "start", b, kp⟩] tk) (hs : starEach [a] X.env = [(false, eval a X.env)] := by rfl) :
    PI X (.Tuple es k tp) (.Call (.Name "enumerate" p) [a] [⟨some "start", b, kp⟩] pos) (iEnum X.K ta tk) := by
  intro pins s σ H R I h
  refine wpAny_Call_Name_kw (ld_blt I hg hm boot_enumerate ?_)
  refine callTy_kw (thn (ha pos pins s σ H _ I h) fun us s1 q1 => ?_) (by rw [hs]; rfl) (by rw [hs]; rfl) rfl rfl
  obtain ⟨vs, H1, I1, r1, q1⟩ := q1
  refine thn (hk pos pins s1 σ H1 _ I1 q1) fun ws s2 q2 => ?_
  obtain ⟨zs, H2, I2, r2, l, xs, n, e, e', hn, hx, q⟩ := q2
  subst e e'
  obtain ⟨u, e, ru⟩ := Vals.one r1
  obtain ⟨u2, e', ru2⟩ := Vals.one r2
  subst e e'
  cases ru
  obtain ⟨tz, e⟩ := ru2
  subst e
  obtain ⟨its, rv, p1, z1⟩ := I2.tuple hx
  refine enum_call hn (show s2.heap.IsTuple l its.toArray from p1) (wpAny_pyIter_enum (Heap.get?_push_size _ rfl) ?_)
  have hsz : (s2.heap.push { cls := .type "tuple_iterator", data := .fields #[.ref l, .int 0 0] }).objs.size = s2.heap.objs.size + 1 := Heap.size_push ..
  rw [hsz]
  refine ⟨s2.heap.objs.size + 1, [s2.heap.objs.size + 1, s2.heap.objs.size], _, Ite X.K l n, H2, rfl, I2.kept (t' := s2.toks) fun b o e => Heap.get?_push_of_some _ (Heap.get?_push_of_some _ e), turn_enum l _ _ n (Nat.succ_ne_self _), ⟨⟨.none, ?_⟩, ⟨_, Heap.get?_push_of_some _ (Heap.get?_push_size _ rfl), rfl, rfl⟩⟩, fun c hc => ?_, q⟩
  · have z : n + ((0 : Nat) : Int) = n := by omega
    rw [z, ← hsz]
    exact Heap.get?_push_size _ rfl
  · have hc' : s2.heap.objs.size ≤ c := by
      rcases List.mem_cons.mp hc with z | z
      · rw [z]; exact Nat.le_succ _
      · rw [List.mem_singleton.mp z]; exact Nat.le_refl _
    exact I2.fpOk hc' (I2.hok.fresh hc')
end
end L2.Bw

end
section
set_option Elab.async false
set_option linter.all false
set_option maxRecDepth 100000
/-! max(xs, default=d) of a list of ints. -/
namespace L2.Bw
open PySem PySem.Spec PyProof.Rows
section
variable {prog : Program} {w : World} {A : Around} {R : Result → Shared → Prop} {it : Addr} {fp wr : List Addr} {n : Nat} {f : Nat → Int} {Z : Nat → Heap → Prop}
noncomputable abbrev IntAt (f : Nat → Int) : Nat → Value → Prop := fun i v => ∃ t, v = .int (f i) t
noncomputable abbrev gtAt (f : Nat → Int) : Nat → Nat → Bool := fun i j => decide (f i > f j)
theorem max_go (W : Walks prog w A.in1 it fp wr n (IntAt f) Z) (kws : List (Str × Value)) (B : Addr) (nB : B ∉ fp) :
    ∀ (k j : Nat) (s : Shared) (u : Value) (c : Nat), n - (j + 1) = k → j + 1 ≤ n → Z (j + 1) s.heap → IntAt f (argBest (gtAt f) j) u → s.heap.get? B = some { cls := .type "list", dict := none, data := .seq #[u, u] c, slots := #[] } →
    (∀ v h1 tk, IntAt f (argBest (gtAt f) (n - 1)) v → (∀ b o, b ∉ wr → b ≠ B → s.heap.get? b = some o → h1.get? b = some o) → R (.ok (.ret v)) { s with heap := h1, toks := tk }) →
    codeAny (model prog w) A (.builtin "max.loop" ⟨[.ref it, .none, .ref B], kws⟩) R s := by
  have nw : B ∉ wr := fun h => nB (W.sub _ h)
  have nm : (toString "max" ++ toString ".loop" : String) = "max.loop" := by decide
  have cmp : CmpOf prog w A.in1 .Gt (IntAt f) (gtAt f) := CmpOf.ints_gt f fun _ _ h => h
  intro k
  induction k with
  | zero =>
    intro j s u c hk hj hz hu hB hR
    have e : j + 1 = n := by omega
    refine codeAny_builtin F.entry_max_loop ?_
    rw [Around.under_plainId F.plain_max_loop _]
    show wpAny _ A.in1 (seqItems? (.ref B) >>= fun _ => _) _ _ s
    refine wpAny_bind (wpAny_seqItems hB rfl ?_)
    show wpAny _ A.in1 (tryCatch (pyNext (.ref it)) _ >>= fun _ => _) _ _ s
    refine wpAny_bind (wpAny_tryCatch (W.done s _ _ (e ▸ hz) fun h1 tk k1 => ?_))
    show wpAny _ A.in1 (updateSeq B (fun _ => #[]) >>= fun _ => _) _ _ _
    refine wpAny_bind (wpAny_updateSeq (k1 B _ nw hB) rfl (wpAny_bind (wpAny_letGo (wpAny_pure ?_))))
    exact hR u _ tk (by rw [← e]; exact hu) fun b o n1 n2 q => (Heap.get?_update_other _ _ (Ne.symm n2)).trans (k1 b o n1 q)
  | succ k ih =>
    intro j s u c hk hj hz hu hB hR
    have lt : j + 1 < n := by omega
    refine codeAny_builtin F.entry_max_loop ?_
    rw [Around.under_plainId F.plain_max_loop _]
    show wpAny _ A.in1 (seqItems? (.ref B) >>= fun _ => _) _ _ s
    refine wpAny_bind (wpAny_seqItems hB rfl ?_)
    show wpAny _ A.in1 (tryCatch (pyNext (.ref it)) _ >>= fun _ => _) _ _ s
    refine wpAny_bind (wpAny_tryCatch (W.item (j + 1) s _ _ lt hz fun v h1 tk hv hz1 k1 => ?_))
    have hB1 := k1 B _ nw hB
    show wpAny _ A.in1 (tryCatch (holding [v, v] (richCompare .Gt v u >>= _)) _ >>= fun _ => _) _ _ _
    refine wpAny_bind (wpAny_tryCatch (wpAny_holding (wpAny_bind (cmp (j + 1) (argBest (gtAt f) j) v u _ _ _ hv hu ?_))))
    refine wpAny_bind (wpAny_holding (wpAny_truthy_bool (wpAny_bind (wpAny_letGo (wpAny_pure ?_)))))
    cases hb : gtAt f (j + 1) (argBest (gtAt f) j) with
    | true =>
      simp only [if_true]
      refine wpAny_bind (wpAny_updateSeq hB1 rfl (wpAny_bind (wpAny_letGo ?_)))
      rw [nm]
      refine wpAny_pure ⟨plainId_quiet F.plain_max_loop _, ih (j + 1) _ v _ (by omega) lt (W.frame _ _ _ hz1 fun b hbf o q => (Heap.get?_update_other _ _ (fun z : B = b => nB (by rw [z]; exact hbf))).trans q) ?_ (Heap.get?_update_self _ hB1 rfl) fun v' h2 tk2 hv' k2 => ?_⟩
      · simp only [argBest, hb, if_true]; exact hv
      · exact hR v' h2 tk2 hv' fun b o n1 n2 q => k2 b o n1 n2 ((Heap.get?_update_other _ _ (Ne.symm n2)).trans (k1 b o n1 q))
    | false =>
      simp only [Bool.false_eq_true, if_false]
      refine wpAny_bind (wpAny_letGo ?_)
      rw [nm]
      refine wpAny_pure ⟨plainId_quiet F.plain_max_loop _, ih (j + 1) _ u c (by omega) lt hz1 ?_ hB1 fun v' h2 tk2 hv' k2 => hR v' h2 tk2 hv' fun b o n1 n2 q => k2 b o n1 n2 (k1 b o n1 q)⟩
      simp only [argBest, hb, Bool.false_eq_true, if_false]; exact hu
theorem best_ge (f : Nat → Int) : ∀ k i, i ≤ k → f i ≤ f (argBest (gtAt f) k)
  | 0, i, h => by cases (show i = 0 by omega); exact Int.le_refl _
  | k + 1, i, h => by
    unfold argBest
    cases hb : gtAt f (k + 1) (argBest (gtAt f) k) with
    | true =>
      have hb' : f (k + 1) > f (argBest (gtAt f) k) := of_decide_eq_true hb
      simp only [if_true]
      by_cases e : i = k + 1
      · rw [e]; exact Int.le_refl _
      · have := best_ge f k i (by omega); omega
    | false =>
      have hb' : ¬ f (k + 1) > f (argBest (gtAt f) k) := of_decide_eq_false hb
      simp only [Bool.false_eq_true, if_false]
      by_cases e : i = k + 1
      · rw [e]; omega
      · exact best_ge f k i (by omega)
theorem best_lt (f : Nat → Int) : ∀ k, argBest (gtAt f) k ≤ k
  | 0 => Nat.le_refl _
  | k + 1 => by
    unfold argBest
    cases gtAt f (k + 1) (argBest (gtAt f) k) with
    | true => exact Nat.le_refl _
    | false => exact Nat.le_trans (best_lt f k) (Nat.le_succ _)
end
/-- the greatest of the ints, or d where there is none -/
noncomputable def maxD (d : Int) : List Int → Int
  | [] => d
  | x :: r => r.foldl (fun a b => if b > a then b else a) x
theorem fold_max (r : List Int) : ∀ x : Int, x ≤ r.foldl (fun a b => if b > a then b else a) x ∧ (∀ y ∈ r, y ≤ r.foldl (fun a b => if b > a then b else a) x) ∧ (r.foldl (fun a b => if b > a then b else a) x = x ∨ r.foldl (fun a b => if b > a then b else a) x ∈ r) := by
  induction r with
  | nil => intro x; exact ⟨Int.le_refl _, fun y h => (nomatch h), .inl rfl⟩
  | cons b r ih =>
    intro x
    have h := ih (if b > x then b else x)
    rw [List.foldl_cons]
    obtain ⟨h1, h2, h3⟩ := h
    by_cases c : b > x
    · rw [if_pos c] at h1 h2 h3 ⊢
      refine ⟨by omega, fun y hy => ?_, ?_⟩
      · rcases List.mem_cons.mp hy with rfl | hy
        · exact h1
        · exact h2 y hy
      · rcases h3 with h3 | h3
        · exact .inr (by rw [h3]; exact List.mem_cons_self)
        · exact .inr (List.mem_cons_of_mem _ h3)
    · rw [if_neg c] at h1 h2 h3 ⊢
      refine ⟨h1, fun y hy => ?_, ?_⟩
      · rcases List.mem_cons.mp hy with rfl | hy
        · omega
        · exact h2 y hy
      · rcases h3 with h3 | h3
        · exact .inl h3
        · exact .inr (List.mem_cons_of_mem _ h3)
theorem maxD_eq {d m : Int} {ns : List Int} (ne : ns ≠ []) (hm : m ∈ ns) (hg : ∀ y ∈ ns, y ≤ m) : maxD d ns = m := by
  cases ns with
  | nil => exact absurd rfl ne
  | cons x r =>
    obtain ⟨h1, h2, h3⟩ := fold_max r x
    have k1 : maxD d (x :: r) = r.foldl (fun a b => if b > a then b else a) x := rfl
    rw [k1]
    have a1 : r.foldl (fun a b => if b > a then b else a) x ≤ m := by
      rcases h3 with h3 | h3
      · rw [h3]; exact hg x List.mem_cons_self
      · exact hg _ (List.mem_cons_of_mem _ h3)
    have a2 : m ≤ r.foldl (fun a b => if b > a then b else a) x := by
      rcases List.mem_cons.mp hm with rfl | hm
      · exact h1
      · exact h2 m hm
    omega
theorem intsAre_get : ∀ {us : List Value} {ns : List Int} {i : Nat} {v : Value}, IntsAre us ns → us[i]? = some v → ∃ t, v = .int (ns.getD i 0) t
  | _, _, _, _, .nil, e => by simp at e
  | _, _, 0, v, .cons _ t _, e => by simp at e; subst e; exact ⟨t, by simp⟩
  | _, _, i + 1, v, .cons _ _ r, e => by
    obtain ⟨t, h⟩ := intsAre_get (i := i) r (by simpa using e)
    exact ⟨t, by simpa using h⟩
section
variable {X : Cx}
noncomputable def rMaxD (K : PySem.W.Frag) : List V → List V → Hp → VK → Prop := fun vs zs H Q => ∃ l ns d, vs = [.ref l] ∧ zs = [.int d] ∧ SqL K H l (ns.map V.int) ∧ Q (.int (maxD d ns)) H
noncomputable def tKw (r : List V → List V → Hp → VK → Prop) (ta tk : TA) : TE := fun σ H Q => ta σ H fun vs H1 => tk σ H1 fun zs H2 => r vs zs H2 Q
theorem max_kw {prog : Program} {w : World} {A : Around} {E : Value → Shared → Prop} {s : Shared} {l : Addr} {us : List Value} {ns : List Int} {d : Int} {td : Tok} {Q : Value → Shared → Prop} (hh : A.handled = none) (hl : s.heap.IsList l us.toArray) (hi : IntsAre us ns)
    (q : ∀ t h1 tk, (∀ b o, s.heap.get? b = some o → h1.get? b = some o) → Q (.int (maxD d ns) t) { s with heap := h1, toks := tk }) : wpAny (model prog w) A (call (.builtin "max") [.ref l] [("default", .int d td)]) Q E s := by
  have nm : (toString "max" ++ toString ".loop" : String) = "max.loop" := by decide
  have hlt : l < s.heap.objs.size := by obtain ⟨_, e, _⟩ := hl; exact Heap.lt_size e
  refine wpAny_call (codeAny_call_builtin F.plain_max F.entry_max (wpAny_of_eq (a := ()) (by kernel_rfl) ?_))
  show wpAny _ A.in1 (Builtin.Builtins.bindParams "max" ["key", "default"] 0 ⟨[], [("default", .int d td)]⟩ >>= fun _ => _) _ _ s
  refine wpAny_bind (wpAny_of_eq (a := [none, some (.int d td)]) (by rfl) (wpAny_bind (wpAny_pure ?_)))
  refine wpAny_bind (wpAny_pyIter_list hl (wpAny_bind (wpAny_newObj_type ?_)))
  rw [nm]
  let it : Addr := s.heap.objs.size
  generalize hh1 : s.heap.push { cls := .type "list_iterator", data := .fields #[.ref l, .int 0 0] } = h1
  have sz1 : h1.objs.size = s.heap.objs.size + 1 := by rw [← hh1]; exact Heap.size_push ..
  have kp1 : ∀ b o, s.heap.get? b = some o → h1.get? b = some o := fun b o e => by rw [← hh1]; exact Heap.get?_push_of_some _ e
  have it1 : h1.IsListIter s.heap.objs.size l 0 := by rw [← hh1]; exact ⟨_, Heap.get?_push_size _ rfl, rfl, rfl⟩
  have W := Walks.list (prog := prog) (w := w) (A := A.in1) hh s.heap.objs.size l (Nat.ne_of_lt hlt) us.toArray
  have nB : h1.objs.size ∉ [s.heap.objs.size, l] := fun hm => by
    rw [sz1] at hm
    rcases List.mem_cons.mp hm with z | z
    · exact absurd z (Nat.succ_ne_self _)
    · rw [List.mem_singleton] at z; exact absurd hlt (by rw [← z]; exact Nat.not_lt.mpr (Nat.le_succ _))
  have hlen : us.length = ns.length := hi.length
  have hB : (h1.push { cls := .type "list", dict := none, data := .seq ([] : List Value).toArray }).get? h1.objs.size = some { cls := .type "list", dict := none, data := .seq #[] 0, slots := #[] } := Heap.get?_push_size _ rfl
  have st0 : (h1.push { cls := .type "list", dict := none, data := .seq ([] : List Value).toArray }).IsListIter s.heap.objs.size l 0 ∧ (h1.push { cls := .type "list", dict := none, data := .seq ([] : List Value).toArray }).IsList l us.toArray :=
    ⟨it1.at fun o e => Heap.get?_push_of_some _ e, (hl.at fun o e => kp1 l o e).at fun o e => Heap.get?_push_of_some _ e⟩
  have back : ∀ (h2 : Heap), (∀ b o, b ∉ [s.heap.objs.size] → b ≠ h1.objs.size → (h1.push { cls := .type "list", dict := none, data := .seq ([] : List Value).toArray }).get? b = some o → h2.get? b = some o) → ∀ b o, s.heap.get? b = some o → h2.get? b = some o := fun h2 k b o e => by
    have lt := Heap.lt_size e
    refine k b o (fun z => ?_) (fun z => ?_) (Heap.get?_push_of_some _ (kp1 b o e))
    · rw [List.mem_singleton.mp z] at lt; exact Nat.lt_irrefl _ lt
    · rw [z, sz1] at lt; exact absurd lt (Nat.not_lt.mpr (Nat.le_succ _))
  refine wpAny_pure ⟨plainId_quiet F.plain_max_loop _, ?_⟩
  refine codeAny_builtin F.entry_max_loop ?_
  rw [Around.under_plainId F.plain_max_loop _]
  show wpAny _ A.in1 (seqItems? (.ref h1.objs.size) >>= fun _ => _) _ _ _
  refine wpAny_bind (wpAny_seqItems hB rfl ?_)
  show wpAny _ A.in1 (tryCatch (pyNext (.ref s.heap.objs.size)) _ >>= fun _ => _) _ _ _
  cases hns : ns with
  | nil =>
    have hz : us.toArray.size = 0 := by rw [hns] at hlen; simpa using hlen
    refine wpAny_bind (wpAny_tryCatch (W.done _ _ _ (by rw [hz]; exact st0) fun h2 tk k2 => ?_))
    refine wpAny_bind (wpAny_rule (wpAny_pure ?_))
    have := q td h2 tk (back h2 fun b o n1 n2 e => k2 b o n1 e)
    rw [hns] at this
    exact this
  | cons x r =>
    have hz : 0 < us.toArray.size := by rw [hns] at hlen; simp; rw [hlen]; simp
    let f : Nat → Int := fun i => ns.getD i 0
    have P : ∀ i v, us.toArray[i]? = some v → IntAt f i v := fun i v e => by
      have e' : us[i]? = some v := by simpa using e
      obtain ⟨t, ht⟩ := intsAre_get hi e'
      exact ⟨t, ht⟩
    have W' : Walks prog w A.in1 s.heap.objs.size [s.heap.objs.size, l] [s.heap.objs.size] us.toArray.size (IntAt f) (fun i h => h.IsListIter s.heap.objs.size l i ∧ h.IsList l us.toArray) :=
      { sub := W.sub, frame := W.frame, done := W.done, self := W.self, item := fun i s Q E hi st hQ => W.item i s Q E hi st fun v h' tk hP => hQ v h' tk (P i v hP) }
    refine wpAny_bind (wpAny_tryCatch (W'.item 0 _ _ _ hz st0 fun v h2 tk hv st2 k2 => ?_))
    have nBw : h1.objs.size ∉ [s.heap.objs.size] := fun z => nB (by rw [List.mem_singleton.mp z]; exact List.mem_cons_self)
    have hB2 := k2 _ _ nBw hB
    show wpAny _ A.in1 (updateSeq h1.objs.size (fun _ => #[v, v]) >>= fun _ => _) _ _ _
    refine wpAny_bind (wpAny_updateSeq hB2 rfl ?_)
    rw [nm]
    refine wpAny_pure ⟨plainId_quiet F.plain_max_loop _, max_go W' _ h1.objs.size nB _ 0 _ v _ rfl hz (W'.frame _ _ _ st2 fun b hb o e => (Heap.get?_update_other _ _ (fun z : h1.objs.size = b => nB (by rw [z]; exact hb))).trans e) hv (Heap.get?_update_self _ hB2 rfl) fun v' h3 tk3 hv' k3 => ?_⟩
    obtain ⟨t', e'⟩ := hv'
    have lt := best_lt f (us.toArray.size - 1)
    have hmem : f (argBest (gtAt f) (us.toArray.size - 1)) = maxD d ns := by
      have hl2 : argBest (gtAt f) (us.toArray.size - 1) < ns.length := by simp at lt hz ⊢; omega
      refine (maxD_eq (by rw [hns]; simp) ?_ fun y hy => ?_).symm
      · show ns.getD _ 0 ∈ ns
        rw [List.getD_eq_getElem?_getD, List.getElem?_eq_getElem hl2]
        exact List.getElem_mem _
      · obtain ⟨i, hi', rfl⟩ := List.mem_iff_getElem.mp hy
        have := best_ge f (us.toArray.size - 1) i (by simp; omega)
        have e2 : f i = ns[i] := by show ns.getD i 0 = _; rw [List.getD_eq_getElem?_getD, List.getElem?_eq_getElem hi']; rfl
        rw [← e2]; exact this
    have q' := q t' h3 tk3 (back h3 fun b o n1 n2 e => k3 b o n1 n2 ((Heap.get?_update_other _ _ (Ne.symm n2)).trans (k2 b o n1 e)))
    subst e'
    rw [hmem]
    exact q'
theorem pe_max {p pos kp : Pos} {a b : Expr} {ta tk : TA} (hc : X.calm = true) (hg : Gl X "max") (hm : X.mg "max" = none) (ha : PA X [a] ta) (hk : PK X [⟨some "default", b, kp⟩] tk) (hs : starEach [a] X.env = [(false, eval a X.env)] := by rfl) :
    PE X (.Call (.Name "max" p) [a] [⟨some "default", b, kp⟩] pos) (tKw (rMaxD X.K) ta tk) := by
  intro pins s σ H Q I h
  refine wpAny_Call_Name_kw (ld_blt I hg hm boot_max ?_)
  refine callWith_kw (thn (ha pos pins s σ H _ I h) fun us s1 q1 => ?_) (by rw [hs]; rfl) (by rw [hs]; rfl) rfl rfl
  obtain ⟨vs, H1, I1, r1, q1⟩ := q1
  refine thn (hk pos pins s1 σ H1 _ I1 q1) fun ws s2 q2 => ?_
  obtain ⟨zs, H2, I2, r2, l, ns, d, e, e', hx, q⟩ := q2
  subst e e'
  obtain ⟨u, e, ru⟩ := Vals.one r1
  obtain ⟨u2, e', ru2⟩ := Vals.one r2
  subst e e'
  cases ru
  obtain ⟨tz, e⟩ := ru2
  subst e
  obtain ⟨its, rv, p1, z1⟩ := I2.list hx
  exact max_kw (I2.ok.hd hc) p1.isList (intsAre_of rv) fun t h1 tk' kp => ⟨.int _, H2, I2.kept kp, ⟨t, rfl⟩, q⟩
end
end L2.Bw

end
section
set_option Elab.async false
set_option linter.all false
set_option maxRecDepth 100000
/-! list(reversed(xs)) of a list. -/
namespace L2.Bw
open PySem PySem.Spec PyProof.Rows
section
variable {prog : Program} {w : World} {A : Around} {E : Value → Shared → Prop} {s : Shared}
end
section
variable {X : Cx}
end
end L2.Bw

end
section
set_option Elab.async false
set_option linter.all false
set_option maxRecDepth 100000
namespace L2.Bw
open PySem PySem.Spec PyProof.Rows
theorem ps_setX {X : Cx} {pos pos' : Pos} {i : Nat} {x : Str} {e : Expr} {te : TE} (hN : X.N.Nodup) (hi : X.N[i]? = some x) (hx : Loc X.env.scope x) (hs : swapsWith e (some (.Name x pos')) pos.line X.env = pure false) (hf : X.fn x = true ∨ X.env.scope.names.lookup x = some .local) (he : PE X e te) :
    PS X (.Assign [.Name x pos'] e pos) (tAsg te (gName i)) := ps_set hN hi hx he hs hf
end L2.Bw
/-! The mathematics of law k11: words, forms, nodes, trees. -/
namespace L2.K11
open PySem PySem.Spec PyProof.Rows L2.Bw

noncomputable def table : List (Str × List Str) := [("whole", ["number"]), ("truth", ["truth"]), ("given", ["given"]), ("name", ["name"]), ("fn", ["name", "kind", "node"]), ("self", ["name", "name", "kind", "kind", "node"]), ("call", ["node", "node"]),
  ("let", ["name", "node", "node"]), ("if", ["node", "node", "node"]), ("do", ["sign", "node", "node"]), ("row", ["kind", "nodes"]), ("at", ["node", "node"]), ("size", ["node"]), ("pair", ["node", "node"]), ("one", ["node"]), ("two", ["node"]),
  ("as", ["kind", "node"]), ("look", ["put in", "put in", "node"])]
noncomputable def words : List Str := table.map (·.1)
noncomputable def cnt (ys : List Str) (z : Str) : Nat := ys.countP fun y => decide (y = z)
noncomputable def nf (x : Str) : Nat := if x = "whole" then 1 else if x = "truth" then 1 else if x = "given" then 1 else if x = "do" then 1 else cnt ["name", "fn", "let", "self", "self"] x
noncomputable def nk (x : Str) : Nat := cnt ["fn", "self", "self", "row", "as", "look", "look"] x
noncomputable def np (x : Str) : Nat := if x = "if" then 3 else if x ∈ (["call", "let", "do", "at", "pair"] : List Str) then 2 else if x ∈ (["whole", "truth", "given", "name"] : List Str) then 0 else 1
noncomputable def ixs (sort : Str) (k : Nat) : List Str → List Int
  | [] => []
  | y :: r => if y = sort then (k : Int) :: ixs sort (k + 1) r else ixs sort (k + 1) r
noncomputable def rng (lo n : Nat) : List Int := (List.range' lo n).map fun (i : Nat) => (i : Int)
noncomputable def form (x : Str) : List Str := (KTD.datumAt x table).getD []
theorem form_of : ∀ x ∈ words, KTD.datumAt x table = some (form x) ∧ (form x).length ≤ 5 ∧ (x ≠ "row" → ixs "node" 2 (form x) = rng (2 + nf x + nk x) (np x)) ∧ (x ≠ "look" → ixs "kind" 2 (form x) = rng (2 + nf x) (nk x)) ∧ (x = "look" → ixs "kind" 2 (form x) = []) := by
  decide +kernel
/-- a node by its things -/
noncomputable def nodeD (x : Str) (p : Int) (fr ks ps : List Dt) : Dt := if x = "row" then .tup [.str x, .int p, ks.headD (.int 0), .tup ps] else .tup (.str x :: .int p :: (fr ++ ks ++ ps))
structure Nd (x : Str) (fr ks ps : List Dt) : Prop where
  w : x ∈ words
  f : fr.length = nf x
  k : ks.length = nk x
  p : x ≠ "row" → ps.length = np x
  few : ps.length ≤ 4
inductive Tr where
  | mk (x : Str) (p : Int) (fr ks : List Dt) (ps : List Tr)
mutual
noncomputable def Tr.d : Tr → Dt
  | .mk x p fr ks ps => nodeD x p fr ks (Tr.ds ps)
noncomputable def Tr.ds : List Tr → List Dt
  | [] => []
  | t :: r => t.d :: Tr.ds r
end
mutual
noncomputable def Tr.ok : Tr → Prop
  | .mk x _ fr ks ps => x ≠ "look" ∧ Nd x fr ks (Tr.ds ps) ∧ dps fr = 0 ∧ dps ks ≤ 4 ∧ nars ks ∧ Tr.oks ps
noncomputable def Tr.oks : List Tr → Prop
  | [] => True
  | t :: r => t.ok ∧ Tr.oks r
end
mutual
noncomputable def Tr.pl : Tr → List Int
  | .mk _ p _ _ ps => p :: Tr.pls ps
noncomputable def Tr.pls : List Tr → List Int
  | [] => []
  | t :: r => t.pl ++ Tr.pls r
end
mutual
noncomputable def Tr.ns : Tr → Nat
  | .mk _ _ _ _ ps => 1 + Tr.nss ps
noncomputable def Tr.nss : List Tr → Nat
  | [] => 0
  | t :: r => max t.ns (Tr.nss r)
end
theorem ds_length : ∀ (ps : List Tr), (Tr.ds ps).length = ps.length
  | [] => rfl
  | _ :: r => by show (Tr.ds r).length + 1 = r.length + 1; rw [ds_length r]
end L2.K11

end
section
set_option Elab.async false
set_option linter.all false
namespace L2.Bw
open PySem PySem.Spec PyProof.Rows
/-- a fact in a box: what is in it isn't unfolded -/
structure Bx (p : Prop) : Prop where
  out : p
section
variable {P : Program} {w : World} {K : PySem.W.Frag} {mg : Str → Option Value} {base : Heap}
end
end L2.Bw

end
section
set_option Elab.async false
set_option linter.all false
set_option maxRecDepth 100000
/-! Data as in BwData, with None, and with tuples of the program's top among them. -/
namespace L2.Bk
open PySem PySem.Spec PyProof.Rows L2.Bw PyProof.Rows.LSm
/-- a tuple of the program's top -/
noncomputable def Kt (K : PySem.W.Frag) (a : Addr) (xs : List V) : Prop := ∃ (o : Obj) (its : Array Value) (n : Nat), K.lookup a = some o ∧ o.cls = .type "tuple" ∧ o.data = .seq its n ∧ its.size ≤ sizeLine ∧ Vals xs its.toList
noncomputable def Tp (K : PySem.W.Frag) (H : Hp) (a : Addr) (xs : List V) : Prop := H a = some (.tup xs) ∨ Kt K a xs
theorem Tp.of {K : PySem.W.Frag} {H : Hp} {a : Addr} {xs : List V} (h : H a = some (.tup xs)) : Tp K H a xs := .inl h
theorem Tp.sq {K : PySem.W.Frag} {H : Hp} {a : Addr} {xs : List V} (h : Tp K H a xs) : SqT K H a xs := by
  rcases h with h | h
  · exact SqT.of h
  · exact .inr h
theorem Tp.mono {K : PySem.W.Frag} {H H' : Hp} {a : Addr} {xs : List V} (h : Tp K H a xs) (m : Tm H H') : Tp K H' a xs := by
  rcases h with h | h
  · exact .inl (m _ _ h)
  · exact .inr h
inductive Dk where
  | non
  | int (i : Int)
  | bl (b : Bool)
  | str (x : Str)
  | tup (xs : List Dk)
mutual
noncomputable def RK (K : PySem.W.Frag) (H : Hp) : Dk → V → Prop
  | .non, v => v = .non
  | .int i, v => v = .int i
  | .bl b, v => v = .bl b
  | .str x, v => v = .str x
  | .tup ds, v => ∃ a vs, v = .ref a ∧ Tp K H a vs ∧ RKs K H ds vs
noncomputable def RKs (K : PySem.W.Frag) (H : Hp) : List Dk → List V → Prop
  | [], vs => vs = []
  | d :: ds, vs => ∃ v r, vs = v :: r ∧ RK K H d v ∧ RKs K H ds r
end
mutual
noncomputable def Dk.dq : Dk → Nat
  | .tup ds => 1 + dqs ds
  | .non => 0
  | .int _ => 0
  | .bl _ => 0
  | .str _ => 0
noncomputable def dqs : List Dk → Nat
  | [] => 0
  | d :: ds => max d.dq (dqs ds)
end
mutual
noncomputable def Dk.nr : Dk → Prop
  | .tup ds => ds.length ≤ 1000 ∧ nrs ds
  | .non => True
  | .int _ => True
  | .bl _ => True
  | .str _ => True
noncomputable def nrs : List Dk → Prop
  | [] => True
  | d :: ds => d.nr ∧ nrs ds
end
theorem dq_tup (ds : List Dk) : (Dk.tup ds).dq = 1 + dqs ds := by rw [Dk.dq]
theorem dq_non : Dk.non.dq = 0 := by rw [Dk.dq]
theorem dq_str (x : Str) : (Dk.str x).dq = 0 := by rw [Dk.dq]
theorem dq_int (x : Int) : (Dk.int x).dq = 0 := by rw [Dk.dq]
theorem dq_bl (x : Bool) : (Dk.bl x).dq = 0 := by rw [Dk.dq]
theorem dqs_cons (d : Dk) (ds : List Dk) : dqs (d :: ds) = max d.dq (dqs ds) := by rw [dqs]
theorem RK.n {K : PySem.W.Frag} {H : Hp} : RK K H .non .non := by rw [RK]
theorem RK.s {K : PySem.W.Frag} {H : Hp} (x : Str) : RK K H (.str x) (.str x) := by rw [RK]
theorem RK.i {K : PySem.W.Frag} {H : Hp} (x : Int) : RK K H (.int x) (.int x) := by rw [RK]
theorem RK.b {K : PySem.W.Frag} {H : Hp} (x : Bool) : RK K H (.bl x) (.bl x) := by rw [RK]
theorem RKs.nil {K : PySem.W.Frag} {H : Hp} : RKs K H [] [] := rfl
theorem RKs.cons {K : PySem.W.Frag} {H : Hp} {d : Dk} {ds : List Dk} {v : V} {vs : List V} (h : RK K H d v) (t : RKs K H ds vs) : RKs K H (d :: ds) (v :: vs) := ⟨v, vs, rfl, h, t⟩
theorem RK.tup {K : PySem.W.Frag} {H : Hp} {a : Addr} {ds : List Dk} {vs : List V} (h : Tp K H a vs) (t : RKs K H ds vs) : RK K H (.tup ds) (.ref a) := ⟨a, vs, rfl, h, t⟩
theorem RKs.length {K : PySem.W.Frag} {H : Hp} : ∀ {ds : List Dk} {vs : List V}, RKs K H ds vs → ds.length = vs.length
  | [], vs, h => by cases (show vs = [] from h); rfl
  | d :: ds, vs, ⟨v, r, e, _, t⟩ => by subst e; simp [RKs.length t]
theorem RKs.get {K : PySem.W.Frag} {H : Hp} : ∀ {ds : List Dk} {vs : List V} {i : Nat} {d : Dk}, RKs K H ds vs → ds[i]? = some d → ∃ v, vs[i]? = some v ∧ RK K H d v
  | [], _, _, _, _, e => by simp at e
  | d :: ds, vs, 0, d', ⟨v, r, e, h, _⟩, e' => by subst e; simp at e'; subst e'; exact ⟨v, rfl, h⟩
  | d :: ds, vs, i + 1, d', ⟨v, r, e, _, t⟩, e' => by
    subst e
    obtain ⟨u, h1, h2⟩ := RKs.get (i := i) t (by simpa using e')
    exact ⟨u, by simpa using h1, h2⟩
theorem RKs.getV {K : PySem.W.Frag} {H : Hp} : ∀ {ds : List Dk} {vs : List V} {i : Nat} {v : V}, RKs K H ds vs → vs[i]? = some v → ∃ d, ds[i]? = some d ∧ RK K H d v := fun {ds vs i v} h e => by
  have hl := h.length
  have hi : i < ds.length := by rw [hl]; exact (List.getElem?_eq_some_iff.mp e).1
  obtain ⟨u, h1, h2⟩ := h.get (List.getElem?_eq_getElem hi)
  rw [e] at h1; cases h1
  exact ⟨_, List.getElem?_eq_getElem hi, h2⟩
theorem RKs.append {K : PySem.W.Frag} {H : Hp} : ∀ {ds es : List Dk} {vs us : List V}, RKs K H ds vs → RKs K H es us → RKs K H (ds ++ es) (vs ++ us)
  | [], _, vs, _, h, t => by cases (show vs = [] from h); exact t
  | d :: ds, es, vs, us, ⟨v, r, e, h, t'⟩, t => by subst e; exact .cons h (RKs.append t' t)
theorem RKs.split {K : PySem.W.Frag} {H : Hp} : ∀ {ds es : List Dk} {vs : List V}, RKs K H (ds ++ es) vs → ∃ us ws, vs = us ++ ws ∧ RKs K H ds us ∧ RKs K H es ws
  | [], _, vs, h => ⟨[], vs, rfl, rfl, h⟩
  | d :: ds, es, vs, ⟨v, r, e, h, t⟩ => by
    subst e
    obtain ⟨us, ws, e, h1, h2⟩ := RKs.split t
    subst e
    exact ⟨v :: us, ws, rfl, .cons h h1, h2⟩
mutual
theorem RK.mono {K : PySem.W.Frag} {H H' : Hp} (m : Tm H H') : ∀ {d : Dk} {v : V}, RK K H d v → RK K H' d v
  | .non, _, h => h
  | .int _, _, h => h
  | .bl _, _, h => h
  | .str _, _, h => h
  | .tup _, _, ⟨a, vs, e, h, t⟩ => ⟨a, vs, e, h.mono m, RKs.mono m t⟩
theorem RKs.mono {K : PySem.W.Frag} {H H' : Hp} (m : Tm H H') : ∀ {ds : List Dk} {vs : List V}, RKs K H ds vs → RKs K H' ds vs
  | [], _, h => h
  | _ :: _, _, ⟨v, r, e, h, t⟩ => ⟨v, r, e, RK.mono m h, RKs.mono m t⟩
end
theorem dqs_mem {d : Dk} : ∀ {ds : List Dk}, d ∈ ds → d.dq ≤ dqs ds
  | e :: ds, h => by
    rcases List.mem_cons.mp h with rfl | h
    · exact Nat.le_max_left _ _
    · exact Nat.le_trans (dqs_mem h) (Nat.le_max_right _ _)
theorem dqs_le {n : Nat} : ∀ {ds : List Dk}, (∀ d ∈ ds, d.dq ≤ n) → dqs ds ≤ n
  | [], _ => Nat.zero_le _
  | e :: ds, h => Nat.max_le.mpr ⟨h e List.mem_cons_self, dqs_le fun d hd => h d (List.mem_cons_of_mem _ hd)⟩


theorem _root_.L2.Room.u1 {k : Nat} {A : Around} (r : Room k A) : A.units + 1 < cLine := by have := r.un; omega
section
variable {X : Cx}
noncomputable def IsJ (K : PySem.W.Frag) (H : Hp) (x : V) (n : String) (b : Bool) : Prop := IsI K H x n b ∨ ∃ a xs, x = .ref a ∧ Kt K a xs ∧ PySem.W.kitOne K (.type "tuple") (.type n) = some b
theorem call_isj : CallR X (.builtin "isinstance") (fun xs H Q => ∃ x n b, xs = [x, .ty n] ∧ IsJ X.K H x n b ∧ Q (.bl b) H) := by
  intro pins s σ H xs us Q I r h
  obtain ⟨x, n, b, e, ty, q⟩ := h
  rcases ty with ty | ⟨a, ys, e', ⟨o, its, m, hk, hc, hd, hz, rv⟩, k⟩
  · exact call_isi pins s σ H xs us Q I r ⟨x, n, b, e, ty, q⟩
  · subst e e'
    obtain ⟨u, w, e, ru, rw'⟩ := Vals.two r
    subst e
    cases rw'
    cases (show u = Value.ref a from ru)
    exact PySem.W.kia_one PySem.W.kitx_tuple I.kIn ⟨o, I.kIn a o hk, hc⟩ k (fun z => nomatch z) fun tk => ⟨.bl b, H, I.tok tk, rfl, q⟩
theorem rk_eq {s : Shared} {pins : List (Addr × Obj)} {σ : St} {H : Hp} (I : Inv X pins σ H s) : ∀ (n : Nat) {A : Around} {d : Dk} {x y : V} {u v : Value}, d.dq ≤ n → RK X.K H d x → RK X.K H d y → RelV x u → RelV y v → A.units + n < cLine → SeqAt.EqAt A s u v true := by
  intro n
  induction n with
  | zero =>
    intro A d x y u v hn hx hy ru rv hu
    cases d with
    | non => cases (show x = .non from hx); cases (show y = .non from hy); have k := eqAt_V (A := A) (s := s) ru rv rfl rfl; simpa [eqV] using k
    | int i => cases (show x = .int i from hx); cases (show y = .int i from hy); have k := eqAt_V (A := A) (s := s) ru rv rfl rfl; simpa [eqV] using k
    | bl b => cases (show x = .bl b from hx); cases (show y = .bl b from hy); have k := eqAt_V (A := A) (s := s) ru rv rfl rfl; simpa [eqV] using k
    | str z => cases (show x = .str z from hx); cases (show y = .str z from hy); have k := eqAt_V (A := A) (s := s) ru rv rfl rfl; simpa [eqV] using k
    | tup ds => have k : 1 + dqs ds ≤ 0 := hn; omega
  | succ n ih =>
    intro A d x y u v hn hx hy ru rv hu
    cases d with
    | non => cases (show x = .non from hx); cases (show y = .non from hy); have k := eqAt_V (A := A) (s := s) ru rv rfl rfl; simpa [eqV] using k
    | int i => cases (show x = .int i from hx); cases (show y = .int i from hy); have k := eqAt_V (A := A) (s := s) ru rv rfl rfl; simpa [eqV] using k
    | bl b => cases (show x = .bl b from hx); cases (show y = .bl b from hy); have k := eqAt_V (A := A) (s := s) ru rv rfl rfl; simpa [eqV] using k
    | str z => cases (show x = .str z from hx); cases (show y = .str z from hy); have k := eqAt_V (A := A) (s := s) ru rv rfl rfl; simpa [eqV] using k
    | tup ds =>
      have hn' : 1 + dqs ds ≤ n + 1 := hn
      obtain ⟨a, vs, e, ha, ta⟩ := hx
      obtain ⟨b, ws, e', hb, tb⟩ := hy
      subst e e'
      cases ru; cases rv
      by_cases hab : a = b
      · subst hab; exact SeqAt.EqAt.same _
      · obtain ⟨i1, r1, p1, z1⟩ := I.tuple ha.sq
        obtain ⟨i2, r2, p2, z2⟩ := I.tuple hb.sq
        have l1 := r1.length
        have l2 := r2.length
        have l3 := ta.length
        have l4 := tb.length
        have key := SeqAt.RcAt.tuples (A := A) (s := s) (e := fun _ => true) p1 p2 (by omega) fun j h1 h2 => by
          have hjd : j < ds.length := by simp at h1; omega
          obtain ⟨x1, e1, q1⟩ := ta.get (List.getElem?_eq_getElem hjd)
          obtain ⟨y1, e2, q2⟩ := tb.get (List.getElem?_eq_getElem hjd)
          obtain ⟨u1, f1, w1⟩ := r1.get e1
          obtain ⟨v1, f2, w2⟩ := r2.get e2
          have g1 : i1.toArray[j] = u1 := by
            have h1' : j < i1.length := by simpa using h1
            rw [List.getElem?_eq_getElem h1'] at f1
            simpa using f1
          have g2 : i2.toArray[j] = v1 := by
            have h2' : j < i2.length := by simpa using h2
            rw [List.getElem?_eq_getElem h2'] at f2
            simpa using f2
          rw [g1, g2]
          have k := dqs_mem (List.getElem_mem hjd)
          exact ih (A := A.in1) (by omega) q1 q2 w1 w2 (by show A.units + 1 + n < cLine; omega)
        have val : ((List.range (min i1.toArray.size i2.toArray.size)).all (fun _ => true) && i1.toArray.size == i2.toArray.size) = true := by
          simp; omega
        rw [val] at key
        exact SeqAt.EqAt.of_refs hab key
/-- what == tells of two lists or tuples -/
inductive EqK (K : PySem.W.Frag) (H : Hp) : V → V → Bool → Prop where
  | lists {a c : Addr} {vs ws : List V} {ds : List Dk} (ha : SqL K H a vs) (hc : SqL K H c ws) (ta : RKs K H ds vs) (tc : RKs K H ds ws) (hd : dqs ds ≤ 60) : EqK K H (.ref a) (.ref c) true
  | lens {a c : Addr} {vs ws : List V} (ha : SqL K H a vs) (hc : SqL K H c ws) (hl : vs.length ≠ ws.length) : EqK K H (.ref a) (.ref c) false
  | data {x y : V} {ds : List Dk} (hx : RK K H (.tup ds) x) (hy : RK K H (.tup ds) y) (hd : dqs ds ≤ 60) : EqK K H x y true
  | heads {a c : Addr} {h z : Str} {r : List V} (ha : SqT K H a (.str h :: r)) (hc : SqT K H c [.str z]) : EqK K H (.ref a) (.ref c) (decide (h = z) && r.isEmpty)
theorem item_k {vs : List V} {us : List Value} {j : Nat} {x : V} (r : Vals vs us) (hx : vs[j]? = some x) (h : j < us.toArray.size) : RelV x us.toArray[j] := by
  obtain ⟨u, f, w⟩ := r.get hx
  have h' : j < us.length := by simpa using h
  rw [List.getElem?_eq_getElem h'] at f
  cases f
  simpa using w
theorem eqk_ok {k : Nat} (hr : Room k X.A) {s : Shared} {pins : List (Addr × Obj)} {σ : St} {H : Hp} (I : Inv X pins σ H s) {x y : V} {u v : Value} {b : Bool} (h : EqK X.K H x y b) (rx : RelV x u) (ry : RelV y v) : SeqAt.RcAt X.A s u v b ∧ SeqAt.RcNeAt X.A s u v (!b) := by
  have hu := hr.units
  cases h with
  | @lists a c vs ws ds ha hc ta tc hd =>
    cases rx; cases ry
    obtain ⟨i1, r1, p1, z1⟩ := I.list ha
    obtain ⟨i2, r2, p2, z2⟩ := I.list hc
    have l1 := r1.length
    have l2 := r2.length
    have l3 := ta.length
    have l4 := tc.length
    have it : ∀ j (h1 : j < i1.toArray.size) (h2 : j < i2.toArray.size), SeqAt.EqAt X.A.in1 s i1.toArray[j] i2.toArray[j] ((fun _ => true) j) := fun j h1 h2 => by
      have hjd : j < ds.length := by simp at h1; omega
      obtain ⟨x1, e1, q1⟩ := ta.get (List.getElem?_eq_getElem hjd)
      obtain ⟨y1, e2, q2⟩ := tc.get (List.getElem?_eq_getElem hjd)
      have k := dqs_mem (List.getElem_mem hjd)
      exact rk_eq I 60 (A := X.A.in1) (by omega) q1 q2 (item_k r1 e1 h1) (item_k r2 e2 h2) (by show X.A.units + 1 + 60 < cLine; omega)
    have e : (List.range i1.toArray.size).all (fun _ => true) = true := by simp
    have k1 := SeqAt.RcAt.lists (A := X.A) (s := s) p1.isList p2.isList (by simp; omega) (by omega) it
    have k2 := SeqAt.RcNeAt.lists (A := X.A) (s := s) p1.isList p2.isList (by simp; omega) (by omega) it
    rw [e] at k1 k2
    exact ⟨k1, k2⟩
  | @lens a c vs ws ha hc hl =>
    cases rx; cases ry
    obtain ⟨i1, r1, p1, z1⟩ := I.list ha
    obtain ⟨i2, r2, p2, z2⟩ := I.list hc
    have l1 := r1.length
    have l2 := r2.length
    exact ⟨SeqAt.RcAt.lists_lengths p1.isList p2.isList (by simp; omega) (by omega), SeqAt.RcNeAt.lists_lengths p1.isList p2.isList (by simp; omega) (by omega)⟩
  | @data x y ds hx hy hd =>
    obtain ⟨a, vs, e1, ha, ta⟩ := (show ∃ a vs, x = .ref a ∧ Tp X.K H a vs ∧ RKs X.K H ds vs by rw [RK] at hx; exact hx)
    obtain ⟨c, ws, e2, hc, tc⟩ := (show ∃ a vs, y = .ref a ∧ Tp X.K H a vs ∧ RKs X.K H ds vs by rw [RK] at hy; exact hy)
    subst e1 e2
    cases rx; cases ry
    obtain ⟨i1, r1, p1, z1⟩ := I.tuple ha.sq
    obtain ⟨i2, r2, p2, z2⟩ := I.tuple hc.sq
    have l1 := r1.length
    have l2 := r2.length
    have l3 := ta.length
    have l4 := tc.length
    have it : ∀ j (h1 : j < i1.toArray.size) (h2 : j < i2.toArray.size), SeqAt.EqAt X.A.in1 s i1.toArray[j] i2.toArray[j] ((fun _ => true) j) := fun j h1 h2 => by
      have hjd : j < ds.length := by simp at h1; omega
      obtain ⟨x1, e1, q1⟩ := ta.get (List.getElem?_eq_getElem hjd)
      obtain ⟨y1, e2, q2⟩ := tc.get (List.getElem?_eq_getElem hjd)
      have k := dqs_mem (List.getElem_mem hjd)
      exact rk_eq I 60 (A := X.A.in1) (by omega) q1 q2 (item_k r1 e1 h1) (item_k r2 e2 h2) (by show X.A.units + 1 + 60 < cLine; omega)
    have e : ((List.range (min i1.toArray.size i2.toArray.size)).all (fun _ => true) && i1.toArray.size == i2.toArray.size) = true := by
      simp; omega
    have k1 := SeqAt.RcAt.tuples (A := X.A) (s := s) p1 p2 (by omega) it
    have k2 := SeqAt.RcNeAt.tuples (A := X.A) (s := s) p1 p2 (by omega) it
    rw [e] at k1 k2
    exact ⟨k1, k2⟩
  | @heads a c h z r ha hc =>
    cases rx; cases ry
    obtain ⟨i1, r1, p1, z1⟩ := I.tuple ha
    obtain ⟨i2, r2, p2, z2⟩ := I.tuple hc
    have l1 := r1.length
    have l2 := r2.length
    have it : ∀ j (h1 : j < i1.toArray.size) (h2 : j < i2.toArray.size), SeqAt.EqAt X.A.in1 s i1.toArray[j] i2.toArray[j] ((fun _ => decide (h = z)) j) := fun j h1 h2 => by
      have hj : j = 0 := by simp at h2 l2; omega
      subst hj
      have k := eqAt_V (A := X.A.in1) (s := s) (item_k r1 (x := .str h) rfl h1) (item_k r2 (x := .str z) rfl h2) rfl rfl
      have e : eqV (.str h) (.str z) = decide (h = z) := by show (h == z) = _; by_cases q : h = z <;> simp [q]
      rw [e] at k
      exact k
    have e : ((List.range (min i1.toArray.size i2.toArray.size)).all (fun _ => decide (h = z)) && i1.toArray.size == i2.toArray.size) = (decide (h = z) && r.isEmpty) := by
      have m : min i1.toArray.size i2.toArray.size = 1 := by simp at l1 l2 ⊢; omega
      rw [m]
      simp at l1 l2
      cases r with
      | nil => simp at l1; simp [← l1, ← l2]
      | cons q r => simp at l1; simp [← l1, ← l2]
    have k1 := SeqAt.RcAt.tuples (A := X.A) (s := s) p1 p2 (by omega) it
    have k2 := SeqAt.RcNeAt.tuples (A := X.A) (s := s) p1 p2 (by omega) it
    rw [e] at k1 k2
    exact ⟨k1, k2⟩
noncomputable def rEqK (K : PySem.W.Frag) : R2 := fun x y H Q => (scal x y = true ∧ Q (.bl (decide (x = y))) H) ∨ ∃ b, EqK K H x y b ∧ Q (.bl b) H
noncomputable def rNeK (K : PySem.W.Frag) : R2 := fun x y H Q => (scal x y = true ∧ Q (.bl (!decide (x = y))) H) ∨ ∃ b, EqK K H x y b ∧ Q (.bl (!b)) H
theorem op_eqK {k : Nat} (hr : Room k X.A) : OpR X (compareOp .Eq) (rEqK X.K) := by
  intro pins s σ H x y v u Q I rx ry h
  rcases h with h | ⟨b, h, q⟩
  · exact op_eq pins s σ H x y v u Q I rx ry h
  · exact (eqk_ok hr I h rx ry).1 _ _ _ _ ⟨.bl b, H, I, rfl, q⟩
theorem op_neK {k : Nat} (hr : Room k X.A) : OpR X (compareOp .NotEq) (rNeK X.K) := by
  intro pins s σ H x y v u Q I rx ry h
  rcases h with h | ⟨b, h, q⟩
  · exact op_ne pins s σ H x y v u Q I rx ry h
  · exact (eqk_ok hr I h rx ry).2 _ _ _ _ ⟨.bl (!b), H, I, rfl, q⟩
end
end L2.Bk

end
section
set_option Elab.async false
set_option linter.all false
set_option maxRecDepth 100000
/-! t[lo:hi] of a tuple, the whole of it too. -/
namespace HT
open PySem PySem.Spec PyProof.Rows
section
variable {prog : Program} {w : World} {A : Around} {E : Value → Shared → Prop} {s : Shared}
theorem getItem_tuple_all {t sl : Addr} {items : Array Value} {vl vu : Value} {lo hi : Option Int} {Q : Value → Shared → Prop} (ht : IsTup s.heap t items) (hs : s.heap.IsSliceOf sl vl vu .none) (pl : IsPart vl lo) (pu : IsPart vu hi)
    (hw : sIx items.size 0 lo = 0 ∧ sIx items.size items.size hi = items.size) (h : Q (.ref t) s) : wpAny (model prog w) A (getItem (.ref t) (.ref sl)) Q E s := by
  obtain ⟨os, hos, hcs, hds⟩ := id hs
  have hTs : s.TypeIs (.ref sl) "slice" := ⟨os, hos, hcs⟩
  unfold getItem
  try with_reducible refine wpAny_holding ?_
  first | refine wpAny_bind (wpAny_pure ?_) | skip
  refine wpAny_bind (wpAny_sequenceKey ht.typeIs (by decide) ?_)
  refine wpAny_bind (wpAny_callSpecial?_slot (name := Str.ofString "__getitem__") ht.typeIs PyProof.Rows.slot_tuple_getitem
    (wpAny_call_entry PyProof.Rows.slot_tuple_getitem ht.typeIs entry_tuple_getitem ?_ (args_tuple_getitem _ _)))
  show wpAny _ _ (Builtin.Tuple.tupleItemsOf (.ref t) >>= _) _ _ s
  refine wpAny_bind (tupleItemsOf_ ht ?_)
  refine wpAny_bind (wpAny_typeOf hTs ?_)
  rw [if_pos (by decide)]
  refine wpAny_bind (sliceApplied_gen hs pl pu ?_)
  have hyes : (((sIx items.size 0 lo : Nat) : Int) == 0 && (1 : Int) == 1 && (sIx items.size items.size hi - sIx items.size 0 lo) == items.size) = true := by
    rw [hw.1, hw.2]
    simp
  show wpAny _ _ (if (((sIx items.size 0 lo : Nat) : Int) == 0 && (1 : Int) == 1 && (sIx items.size items.size hi - sIx items.size 0 lo) == items.size) = true then _ else _) _ _ s
  rw [if_pos hyes]
  show wpAny _ _ (Builtin.Tuple.tupleIsExact (.ref t) >>= _) _ _ s
  refine wpAny_bind ?_
  unfold Builtin.Tuple.tupleIsExact
  refine wpAny_bind (wpAny_typeOf ht.typeIs (wpAny_pure ?_))
  rw [if_pos (by decide)]
  refine wpAny_bind (wpAny_rule ?_)
  first
    | exact wpAny_pure ⟨_, rfl, wpAny_pure h⟩
    | exact wpAny_bind (wpAny_pure (wpAny_pure ⟨_, rfl, wpAny_pure h⟩))
    | exact wpAny_bind (wpAny_bind (wpAny_pure (wpAny_pure ⟨_, rfl, wpAny_pure h⟩)))
end
end HT
namespace L2.Bk
open PySem PySem.Spec PyProof.Rows L2.Bw
section
variable {X : Cx}
/-- t[lo:hi], the whole of it: t itself -/
noncomputable def rSlW (K : PySem.W.Frag) : V → Option Int → Option Int → Hp → VK → Prop := fun x lo hi H Q => ∃ a xs, x = .ref a ∧ SqT K H a xs ∧ (HT.sIx xs.length 0 lo = 0 ∧ HT.sIx xs.length xs.length hi = xs.length) ∧ Q (.ref a) H
theorem sl_tupW : SlR X (rSlW X.K) := by
  intro pins s σ H x v vl vu lo hi sl Q I rx hs pl pu h
  obtain ⟨a, xs, e, hx, hw, q⟩ := h
  subst e
  cases rx
  obtain ⟨its, r, ht, hz⟩ := I.tuple hx
  have hlen : its.toArray.size = xs.length := by rw [List.size_toArray]; exact r.length.symm
  refine ⟨"tuple", _, PyProof.Rows.slot_tuple_getitem.lookup, ht.typeIs, ?_⟩
  exact HT.getItem_tuple_all ht hs pl pu (by rw [hlen]; exact hw) ⟨.ref a, H, I, rfl, q⟩
/-- a slice of a list, of a tuple -/
noncomputable def rSlK (K : PySem.W.Frag) : V → Option Int → Option Int → Hp → VK → Prop := fun x lo hi H Q => rSlL K x lo hi H Q ∨ rSlT K x lo hi H Q ∨ rSlW K x lo hi H Q
theorem sl_k : SlR X (rSlK X.K) := sl_list.or (sl_tup.or sl_tupW)
/-- t[1:] -/
theorem sl_tail {K : PySem.W.Frag} {H : Hp} {a : Addr} {h : V} {r : List V} {Q : VK} (ha : SqT K H a (h :: r)) (q : ∀ p, H p = none → Q (.ref p) (upd H p (.tup r))) : rSlK K (.ref a) (some 1) none H Q := by
  refine .inr (.inl ⟨a, _, rfl, ha, ?_, fun p hp => ?_⟩)
  · intro z
    have e : HT.sIx (h :: r).length 0 (some 1) = 1 := by
      show _ = _
      simp [HT.sIx]
    omega
  · have k := q p hp
    have e : cutV (h :: r) (some 1) none = r := by
      unfold cutV
      have e : HT.sIx (h :: r).length 0 (some 1) = 1 := by simp [HT.sIx]
      have e2 : HT.sIx (h :: r).length (h :: r).length none = (h :: r).length := by simp [HT.sIx]
      rw [e, e2]
      simp
    rw [e]
    exact k
end
end L2.Bk

end
section
set_option Elab.async false
set_option linter.all false
set_option maxRecDepth 100000
namespace L2.Bw
open PySem PySem.Spec PyProof.Rows
/-- what a turn of a comprehension hands on -/
noncomputable def Nx (n : Nat) (Pv : Nat → St → Hp → Prop) (i : Nat) (σ : St) (H : Hp) : Prop := ∃ m', m' < n - i ∧ (m' = n - (i + 1) ∧ i + 1 ≤ n ∧ Pv (i + 1) σ H)
theorem nx {n i : Nat} {Pv : Nat → St → Hp → Prop} {σ : St} {H : Hp} (h : i < n) (p : Pv (i + 1) σ H) : Nx n Pv i σ H := ⟨n - (i + 1), by omega, rfl, by omega, p⟩
theorem lc_by {J : It} {g : TG} {tt : TT} {te : TE} {D : Addr} {Qe : Hp → Prop} {σ : St} {H : Hp} {n : Nat} (Pv : Nat → St → Hp → Prop) (h0 : Pv 0 σ H) (hgo : ∀ i σ H, i < n → Pv i σ H → J.go i H) (hstop : ∀ σ H, Pv n σ H → J.stop n H)
    (hs : ∀ i σ H, i < n → Pv i σ H → ∀ x H', J.yld i H x H' → g x σ H' fun σ2 H2 => tt σ2 H2 fun b H3 => if b = true then te σ2 H3 fun y H4 => ∃ ys, H4 D = some (.lst ys) ∧ ys.length < sizeLine ∧ Nx n Pv i σ2 (upd H4 D (.lst (ys ++ [y]))) else Nx n Pv i σ2 H3)
    (hd : ∀ σ H, Pv n σ H → Qe H) : ∃ W, (∃ m, W 0 m σ H) ∧ TurnW J g tt te D W Qe := by
  refine ⟨fun i m σ H => m = n - i ∧ i ≤ n ∧ Pv i σ H, ⟨n, by simp, Nat.zero_le _, h0⟩, ?_⟩
  rintro i m σ H ⟨rfl, hi, p⟩
  by_cases hlt : i < n
  · exact .inr ⟨hgo i σ H hlt p, fun x H' y => hs i σ H hlt p x H' y⟩
  · have e : i = n := by omega
    subst e
    exact .inl ⟨hstop σ H p, hd σ H p⟩
theorem lc_by0 {J : It} {g : TG} {te : TE} {D : Addr} {Qe : Hp → Prop} {σ : St} {H : Hp} {n : Nat} (Pv : Nat → St → Hp → Prop) (h0 : Pv 0 σ H) (hgo : ∀ i σ H, i < n → Pv i σ H → J.go i H) (hstop : ∀ σ H, Pv n σ H → J.stop n H)
    (hs : ∀ i σ H, i < n → Pv i σ H → ∀ x H', J.yld i H x H' → g x σ H' fun σ2 H2 => te σ2 H2 fun y H4 => ∃ ys, H4 D = some (.lst ys) ∧ ys.length < sizeLine ∧ Nx n Pv i σ2 (upd H4 D (.lst (ys ++ [y]))))
    (hd : ∀ σ H, Pv n σ H → Qe H) : ∃ W, (∃ m, W 0 m σ H) ∧ TurnW J g tYes te D W Qe := by
  refine lc_by Pv h0 hgo hstop (fun i σ H hi p x H' y => ?_) hd
  exact cast (congrArg (g x σ H') (funext fun a => funext fun b => by unfold tYes; exact (if_pos rfl).symm)) (hs i σ H hi p x H' y)
end L2.Bw
namespace L2.Bk
open PySem PySem.Spec PyProof.Rows L2.Bw
theorem small {n : Nat} (h : n ≤ 1000) : n ≤ sizeLine := Nat.le_of_lt (small1000 h)
theorem smallM {n : Nat} (h : n ≤ 1000000) : n < sizeLine := Nat.lt_of_le_of_lt h (by decide)
theorem dec_s {x y : Str} : decide (V.str x = V.str y) = decide (x = y) := by
  by_cases h : x = y
  · subst h; simp
  · have : ¬ V.str x = V.str y := fun q => h (by cases q; rfl)
    simp [h, this]
theorem take_snoc {α : Type} {ps : List α} {i : Nat} (h : i < ps.length) : ps.take (i + 1) = ps.take i ++ [ps[i]] := by
  rw [List.take_add_one, List.getElem?_eq_getElem h]; rfl
theorem for_by {J : It} {g : TG} {tb : TS} {D : Ends} {σ : St} {H : Hp} {n : Nat} (Pv : Nat → St → Hp → Prop) (h0 : Pv 0 σ H) (hgo : ∀ i σ H, i < n → Pv i σ H → J.go i H) (hstop : ∀ σ H, Pv n σ H → J.stop n H)
    (hs : ∀ i σ H, i < n → Pv i σ H → ∀ x H', J.yld i H x H' → g x σ H' fun σ2 H2 => tb { D with nx := Pv (i + 1), ct := Pv (i + 1), bk := D.nx } σ2 H2) (hd : ∀ σ H, Pv n σ H → D.nx σ H) :
    ∃ W : Nat → Nat → St → Hp → Prop, (∃ m, W 0 m σ H) ∧ ∀ i m σ H, W i m σ H →
      (J.stop i H ∧ D.nx σ H) ∨ (J.go i H ∧ ∃ N : St → Hp → Prop, (∀ σ' H', N σ' H' → ∃ m', m' < m ∧ W (i + 1) m' σ' H') ∧ ∀ x H', J.yld i H x H' → g x σ H' fun σ2 H2 => tb { D with nx := N, ct := N, bk := D.nx } σ2 H2) := by
  refine ⟨fun i m σ H => m = n - i ∧ i ≤ n ∧ Pv i σ H, ⟨n, by simp, Nat.zero_le _, h0⟩, ?_⟩
  rintro i m σ H ⟨rfl, hi, p⟩
  by_cases hlt : i < n
  · exact .inr ⟨hgo i σ H hlt p, Pv (i + 1), fun σ' H' p' => ⟨n - (i + 1), by omega, rfl, hlt, p'⟩, fun x H' y => hs i σ H hlt p x H' y⟩
  · have e : i = n := by omega
    subst e
    exact .inl ⟨hstop σ H p, hd σ H p⟩
noncomputable abbrev Old (H H' : Hp) : Prop := ∀ b o, H b = some o → H' b = some o
theorem Old.gr {H H' : Hp} (h : Old H H') : Gr M0 H H' := fun b o e _ => h b o e
theorem Old.tm {H H' : Hp} (h : Old H H') : Tm H H' := fun a xs e => h a _ e
theorem Old.refl (H : Hp) : Old H H := fun _ _ h => h
theorem Old.free {H H' : Hp} (o : Old H H') {a : Addr} (h : H' a = none) : H a = none := by
  cases q : H a with
  | none => rfl
  | some x => rw [o a x q] at h; cases h
theorem Old.trans {H H1 H2 : Hp} (a : Old H H1) (b : Old H1 H2) : Old H H2 := fun c o h => b c o (a c o h)
theorem Old.new {H : Hp} {p : Addr} {o : HO} (h : H p = none) : Old H (upd H p o) := fun b u e => by rw [upd_ne (ne_of_none e h)]; exact e
theorem RK.get {K : PySem.W.Frag} {H : Hp} {ds : List Dk} {v : V} (h : RK K H (.tup ds) v) : ∃ a vs, v = .ref a ∧ Tp K H a vs ∧ RKs K H ds vs := by rw [RK] at h; exact h
theorem RK.str {K : PySem.W.Frag} {H : Hp} {x : Str} {v : V} (h : RK K H (.str x) v) : v = .str x := by rw [RK] at h; exact h
theorem RK.kind {K : PySem.W.Frag} {H : Hp} {x : Str} {ds : List Dk} {v : V} (h : RK K H (.tup (.str x :: ds)) v) : ∃ a vs, v = .ref a ∧ Tp K H a (.str x :: vs) ∧ RKs K H ds vs := by
  obtain ⟨a, us, rfl, ha, u, r, rfl, hu, hr⟩ := RK.get h
  cases RK.str hu
  exact ⟨a, r, rfl, ha, hr⟩
/-- one more tuple laid behind a tuple -/
theorem cat_k {K : PySem.W.Frag} {H : Hp} {a b : Addr} {xs ys : List V} {ds es : List Dk} {Q : VK} (ha : Tp K H a xs) (hb : Tp K H b ys) (ra : RKs K H ds xs) (rb : RKs K H es ys) (ne : xs ≠ []) (hz : xs.length + ys.length ≤ 1000)
    (q : ∀ (c : Addr) (H' : Hp), Old H H' → RK K H' (.tup (ds ++ es)) (.ref c) → Q (.ref c) H') : rCatT K (.ref a) (.ref b) H Q := by
  refine ⟨a, b, xs, ys, rfl, rfl, ha.sq, hb.sq, ne, small hz, fun e => ?_, fun e p hp => ?_⟩
  · subst e
    cases (show es = [] from List.length_eq_zero_iff.mp rb.length)
    exact q a H (Old.refl _) (by rw [List.append_nil]; exact RK.tup ha ra)
  · have g : Old H (upd H p (.tup (xs ++ ys))) := Old.new hp
    exact q p _ g (RK.tup (.of upd_same) ((ra.append rb).mono g.tm))
theorem pe_gref {X : Cx} {x : Str} {a : Addr} {pos : Pos} (hg : Gl X x) (hm : X.mg x = some (.ref a)) (hd : (x == ("__debug__" : Str)) = false := by decide) : PE X (.Name x pos) (tC (.ref a)) := pe_glob hg hm (show RelV (.ref a) (.ref a) from rfl) hd
/-! ### kinds -/
inductive Kn where
  | mk (h : Str) (ks : List Kn)
mutual
noncomputable def Kn.d : Kn → Dk
  | .mk h ks => .tup (.str h :: Kn.ds ks)
noncomputable def Kn.ds : List Kn → List Dk
  | [] => []
  | t :: r => t.d :: Kn.ds r
end
mutual
noncomputable def Kn.dep : Kn → Nat
  | .mk _ ks => 1 + Kn.deps ks
noncomputable def Kn.deps : List Kn → Nat
  | [] => 0
  | t :: r => max t.dep (Kn.deps r)
end
mutual
noncomputable def Kn.ok : Kn → Prop
  | .mk _ ks => ks.length ≤ 2 ∧ Kn.oks ks
noncomputable def Kn.oks : List Kn → Prop
  | [] => True
  | t :: r => t.ok ∧ Kn.oks r
end
theorem ds_length : ∀ (ks : List Kn), (Kn.ds ks).length = ks.length
  | [] => rfl
  | _ :: r => by show (Kn.ds r).length + 1 = r.length + 1; rw [ds_length r]
theorem ds_get : ∀ {ks : List Kn} {i : Nat} (h : i < ks.length), (Kn.ds ks)[i]? = some ks[i].d
  | _ :: _, 0, _ => rfl
  | _ :: r, i + 1, h => by
    show (Kn.ds r)[i]? = _
    exact ds_get (ks := r) (by simpa using h)
theorem oks_get : ∀ {ks : List Kn} {i : Nat} (h : i < ks.length), Kn.oks ks → ks[i].ok
  | _ :: _, 0, _, q => q.1
  | _ :: r, i + 1, h, q => oks_get (ks := r) (by simpa using h) q.2
theorem deps_get : ∀ {ks : List Kn} {i : Nat} (h : i < ks.length), ks[i].dep ≤ Kn.deps ks
  | _ :: _, 0, _ => Nat.le_max_left _ _
  | _ :: r, i + 1, h => Nat.le_trans (deps_get (ks := r) (by simpa using h)) (Nat.le_max_right _ _)
theorem deps_max : ∀ {ks : List Kn}, ks ≠ [] → ((Kn.deps ks : Nat) : Int) ∈ ks.map (fun t => ((t.dep : Nat) : Int))
  | [t], _ => by
    have e : Kn.deps [t] = t.dep := by show max t.dep 0 = t.dep; omega
    rw [e]
    exact List.mem_cons_self
  | t :: u :: r, _ => by
    have ih := deps_max (ks := u :: r) (by simp)
    have e : Kn.deps (t :: u :: r) = max t.dep (Kn.deps (u :: r)) := rfl
    rw [e]
    by_cases c : t.dep ≤ Kn.deps (u :: r)
    · rw [Nat.max_eq_right c]
      exact List.mem_cons_of_mem _ ih
    · rw [Nat.max_eq_left (by omega)]
      exact List.mem_cons_self
theorem deps_maxD (ks : List Kn) : maxD 0 (ks.map (fun t => ((t.dep : Nat) : Int))) = ((Kn.deps ks : Nat) : Int) := by
  by_cases c : ks = []
  · subst c; rfl
  · refine maxD_eq (by simpa using c) (deps_max c) fun y hy => ?_
    obtain ⟨t, ht, rfl⟩ := List.mem_map.mp hy
    obtain ⟨i, hi, rfl⟩ := List.getElem_of_mem ht
    exact Int.ofNat_le.mpr (deps_get hi)
mutual
theorem dq_d : ∀ (t : Kn), t.d.dq = t.dep
  | .mk h ks => by
    show (Dk.tup (.str h :: Kn.ds ks)).dq = 1 + Kn.deps ks
    rw [dq_tup, dqs_cons, dq_str, dq_ds ks]
    omega
theorem dq_ds : ∀ (ks : List Kn), dqs (Kn.ds ks) = Kn.deps ks
  | [] => by show dqs [] = 0; rw [dqs]
  | t :: r => by
    show dqs (t.d :: Kn.ds r) = max t.dep (Kn.deps r)
    rw [dqs_cons, dq_d t, dq_ds r]
end
end L2.Bk

end
section
set_option Elab.async false
set_option linter.all false
set_option maxRecDepth 100000
namespace L2.Bk
open PySem PySem.Spec PyProof.Rows L2.Bw
section
variable {K : PySem.W.Frag}
end
end L2.Bk

end
section
set_option Elab.async false
set_option linter.all false
set_option maxRecDepth 100000
namespace L2
open PySem PySem.Spec PyProof.Rows

/-! ### lists of pairs as tables -/
section
variable {κ : Type} [DecidableEq κ]
noncomputable def valV (kvs : List (κ × V)) (k : κ) : Option V := (kvs.find? fun kv => decide (kv.1 = k)).map (·.2)
/-- in its place, or at the end -/
noncomputable def putK (kvs : List (κ × V)) (k : κ) (v : V) : List (κ × V) :=
  if (kvs.any fun kv => decide (kv.1 = k)) = true then kvs.map (fun kv => if kv.1 = k then (kv.1, v) else kv) else kvs ++ [(k, v)]
noncomputable def dropK (kvs : List (κ × V)) (k : κ) : List (κ × V) := kvs.filter fun kv => decide (kv.1 ≠ k)

theorem valV_pos {p : κ × V} {r : List (κ × V)} {k : κ} (e : p.1 = k) : valV (p :: r) k = some p.2 := by simp [valV, List.find?_cons, e]
theorem valV_neg {p : κ × V} {r : List (κ × V)} {k : κ} (e : ¬ p.1 = k) : valV (p :: r) k = valV r k := by simp [valV, List.find?_cons, e]
theorem valV_any (k : κ) : ∀ kvs : List (κ × V), (kvs.any fun kv => decide (kv.1 = k)) = (valV kvs k).isSome
  | [] => rfl
  | p :: r => by
    rw [List.any_cons]
    by_cases e : p.1 = k
    · simp only [valV_pos e, decide_eq_true e, Bool.true_or, Option.isSome_some]
    · rw [valV_neg e, decide_eq_false e, Bool.false_or]; exact valV_any k r
theorem valV_map (k j : κ) (y : V) : ∀ kvs : List (κ × V), valV (kvs.map fun kv => if kv.1 = k then (kv.1, y) else kv) j = (valV kvs j).map fun x => if j = k then y else x
  | [] => rfl
  | p :: r => by
    have ih := valV_map k j y r
    rw [List.map_cons]
    by_cases h : p.1 = k
    · rw [if_pos h]
      by_cases e : p.1 = j
      · rw [valV_pos (p := (p.1, y)) e, valV_pos e, Option.map_some, if_pos (e.symm.trans h)]
      · rw [valV_neg (p := (p.1, y)) e, valV_neg e, ih]
    · rw [if_neg h]
      by_cases e : p.1 = j
      · rw [valV_pos (p := p) e, valV_pos e, Option.map_some, if_neg (fun z => h (e.trans z))]
      · rw [valV_neg (p := p) e, valV_neg e, ih]
theorem valV_snoc (k j : κ) (y : V) : ∀ kvs : List (κ × V), valV kvs k = none → valV (kvs ++ [(k, y)]) j = if j = k then some y else valV kvs j
  | [], _ => by
    by_cases e : k = j
    · rw [if_pos e.symm]; exact valV_pos (p := (k, y)) e
    · rw [if_neg (fun z => e z.symm)]; exact valV_neg (p := (k, y)) e
  | p :: r, hn => by
    rw [List.cons_append]
    have hk : ¬ p.1 = k := fun z => by rw [valV_pos z] at hn; cases hn
    rw [valV_neg hk] at hn
    have ih := valV_snoc k j y r hn
    by_cases e : p.1 = j
    · rw [valV_pos e, valV_pos e, if_neg (fun z => hk (e.trans z))]
    · rw [valV_neg e, valV_neg e, ih]
theorem valV_put (kvs : List (κ × V)) (k j : κ) (y : V) : valV (putK kvs k y) j = if j = k then some y else valV kvs j := by
  unfold putK
  by_cases a : (kvs.any fun kv => decide (kv.1 = k)) = true
  · rw [if_pos a, valV_map]
    rw [valV_any] at a
    by_cases e : j = k
    · obtain ⟨x, hx⟩ := Option.isSome_iff_exists.mp a
      rw [if_pos e, e, hx, Option.map_some, if_pos rfl]
    · rw [if_neg e]
      cases valV kvs j with
      | none => rfl
      | some x => rw [Option.map_some, if_neg e]
  · rw [if_neg a]
    refine valV_snoc k j y kvs ?_
    rw [valV_any] at a
    cases q : valV kvs k with
    | none => rfl
    | some x => rw [q] at a; exact (a rfl).elim
theorem length_putK (kvs : List (κ × V)) (k : κ) (v : V) : (putK kvs k v).length ≤ kvs.length + 1 := by
  unfold putK
  split
  · rw [List.length_map]; omega
  · rw [List.length_append, List.length_cons, List.length_nil]; omega
theorem RelO.isSome_eq {o : Option V} {u : Option Value} (r : RelO o u) : o.isSome = u.isSome := by
  cases o with
  | none => cases u with
    | none => rfl
    | some _ => exact (show False from r).elim
  | some _ => cases u with
    | none => exact (show False from r).elim
    | some _ => rfl
/-- raw tables of the same keys -/
theorem KV.val {kvs : List (κ × V)} {vs : List (κ × Value)} (r : KV kvs vs) (k : κ) : RelO (valV kvs k) (valueAt vs k) := by
  unfold KV at r
  induction r with
  | nil => exact True.intro
  | @cons p q ps qs h t ih =>
    obtain ⟨h1, h2⟩ := h
    by_cases e : p.1 = k
    · have e' : q.1 = k := h1.symm.trans e
      have b : valueAt (q :: qs) k = some q.2 := by simp [valueAt, List.find?_cons, e']
      rw [valV_pos e, b]; exact h2
    · have e' : ¬ q.1 = k := fun z => e (h1.trans z)
      have b : valueAt (q :: qs) k = valueAt qs k := by simp [valueAt, List.find?_cons, e']
      rw [valV_neg e, b]; exact ih
theorem KV.any {kvs : List (κ × V)} {vs : List (κ × Value)} (r : KV kvs vs) (k : κ) : (kvs.any fun kv => decide (kv.1 = k)) = vs.any fun kv => decide (kv.1 = k) := by
  unfold KV at r
  induction r with
  | nil => rfl
  | cons h t ih => rw [List.any_cons, List.any_cons, ih, h.1]
theorem KV.repl {kvs : List (κ × V)} {vs : List (κ × Value)} (r : KV kvs vs) (k : κ) {y : V} {u : Value} (ry : RelV y u) :
    KV (kvs.map fun kv => if kv.1 = k then (kv.1, y) else kv) (vs.map fun kv => if kv.1 = k then (kv.1, u) else kv) := by
  unfold KV at r ⊢
  induction r with
  | nil => exact .nil
  | @cons p q ps qs h t ih =>
    rw [List.map_cons, List.map_cons]
    refine .cons ?_ ih
    obtain ⟨h1, h2⟩ := h
    by_cases e : p.1 = k
    · rw [if_pos e, if_pos (h1.symm.trans e)]; exact ⟨h1, ry⟩
    · rw [if_neg e, if_neg (fun z => e (h1.trans z))]; exact ⟨h1, h2⟩
theorem KV.put {kvs : List (κ × V)} {vs : List (κ × Value)} (r : KV kvs vs) (k : κ) {y : V} {u : Value} (ry : RelV y u) : KV (putK kvs k y) (stored vs k u) := by
  unfold putK stored
  rw [r.any k]
  by_cases e : (vs.any fun kv => decide (kv.1 = k)) = true
  · rw [if_pos e, if_pos e]; exact r.repl k ry
  · rw [if_neg e, if_neg e]; exact Paired.snoc r ⟨rfl, ry⟩
theorem KV.length {kvs : List (κ × V)} {vs : List (κ × Value)} (r : KV kvs vs) : kvs.length = vs.length := Paired.length r
end


/-! ### a tracked dict, its keys ints and texts or tuples of these -/
theorem kV_is {P : Program} {w : World} {k : Key} {u : Value} (r : RelV (kV k) u) : (mixKind P w).is k u = true := by
  cases k with
  | inl i => obtain ⟨t, e⟩ := (show ∃ t, u = Value.int i t from r); subst e; exact mixKind_int P w i t
  | inr x => obtain ⟨t, e⟩ := (show ∃ t, u = Value.str x t from r); subst e; exact mixKind_str P w x t
theorem items_are {P : Program} {w : World} : ∀ {ks : List Key} {us : List Value}, Vals (ks.map kV) us → ItemsAre (mixKind P w) ks us
  | [], _, r => by rw [List.map_nil] at r; cases r; exact .nil
  | k :: ks, _, r => by
    rw [List.map_cons] at r
    cases r with
    | cons h t => exact .cons (kV_is h) (items_are t)

/-- raw entries of a dict with tuple keys -/
noncomputable abbrev KT (H : Hp) : List (List Key × V) → List (List Key × Addr × Value) → Prop := Paired fun p q => p.1 = q.1 ∧ H q.2.1 = some (.tup (p.1.map kV)) ∧ RelV p.2 q.2.2
theorem KT.val {H : Hp} {kvs : List (List Key × V)} {xs : List (List Key × Addr × Value)} (r : KT H kvs xs) (k : List Key) : RelO (valV kvs k) ((atKey xs k).map (·.2)) := by
  induction r with
  | nil => exact True.intro
  | @cons p q ps qs h t ih =>
    obtain ⟨h1, _, h2⟩ := h
    by_cases e : p.1 = k
    · have e' : q.1 = k := h1.symm.trans e
      have b : atKey (q :: qs) k = some q.2 := by simp [atKey, List.find?_cons, e']
      rw [valV_pos e, b]; exact h2
    · have e' : ¬ q.1 = k := fun z => e (h1.trans z)
      have b : atKey (q :: qs) k = atKey qs k := by simp [atKey, List.find?_cons, e']
      rw [valV_neg e, b]; exact ih
theorem KT.repl {H : Hp} {kvs : List (List Key × V)} {xs : List (List Key × Addr × Value)} (r : KT H kvs xs) (k : List Key) {y : V} {u : Value} (ry : RelV y u) :
    KT H (kvs.map fun kv => if kv.1 = k then (kv.1, y) else kv) (xs.map (putAt k u)) := by
  induction r with
  | nil => exact .nil
  | @cons p q ps qs h t ih =>
    rw [List.map_cons, List.map_cons]
    refine .cons ?_ ih
    obtain ⟨h1, h2, h3⟩ := h
    unfold putAt
    by_cases e : p.1 = k
    · rw [if_pos e, if_pos (h1.symm.trans e)]; exact ⟨h1, h2, ry⟩
    · rw [if_neg e, if_neg (fun z => e (h1.trans z))]; exact ⟨h1, h2, h3⟩
theorem KT.put {H : Hp} {kvs : List (List Key × V)} {xs : List (List Key × Addr × Value)} (r : KT H kvs xs) (k : List Key) {b : Addr} {y : V} {u : Value} (hb : H b = some (.tup (k.map kV))) (ry : RelV y u) :
    KT H (putK kvs k y) (storedH xs k b u) := by
  have e : (kvs.any fun kv => decide (kv.1 = k)) = (atKey xs k).isSome := by
    rw [valV_any, (r.val k).isSome_eq, Option.isSome_map]
  unfold putK storedH
  rw [e]
  by_cases q : (atKey xs k).isSome = true
  · rw [if_pos q, if_pos q]; exact r.repl k ry
  · rw [if_neg q, if_neg q]; exact Paired.snoc r ⟨rfl, hb, ry⟩
theorem KT.keeps {H H' : Hp} {kvs : List (List Key × V)} {xs : List (List Key × Addr × Value)} (r : KT H kvs xs) (ht : ∀ b ys, H b = some (.tup ys) → H' b = some (.tup ys)) : KT H' kvs xs :=
  Paired.mapP r fun _ _ z => ⟨z.1, ht _ _ z.2.1, z.2.2⟩

section
variable {P : Program} {w : World} {H : Hp} {h : Heap} {a : Addr}
theorem rd_of {u : HO} (ok : HOk P w H h) (e : Rd H a u) : ObjOk P w H h a u := e.ok ok
theorem dk_rd {kvs : List (Key × V)} (ok : HOk P w H h) (e : Rd H a (.dK kvs)) : kvs.length ≤ sizeLine ∧ (a == sysModules) = false ∧ ∃ vs, KV kvs vs ∧ h.DictOf (mixKind P w) a vs :=
  show ObjOk P w H h a (.dK kvs) from rd_of ok e
theorem dk_of {kvs : List (Key × V)} (ok : HOk P w H h) (e : H a = some (.dK kvs)) : kvs.length ≤ sizeLine ∧ (a == sysModules) = false ∧ ∃ vs, KV kvs vs ∧ h.DictOf (mixKind P w) a vs := dk_rd ok (.inl e)
/-- a tracked tuple of ints and texts is a key -/
theorem key_of {ks : List Key} (ok : HOk P w H h) (e : H a = some (.tup (ks.map kV))) : (tupleKind (mixKind P w)).is h ks a := by
  obtain ⟨_, its, r, o, h1, h2, n, h3⟩ := (show ObjOk P w H h a (.tup (ks.map kV)) from ok a _ e)
  exact ⟨o, its.toArray, n, h1, h2, h3, by simpa using items_are r⟩
theorem dt_rd {kvs : List (List Key × V)} (ok : HOk P w H h) (e : Rd H a (.dT kvs)) : kvs.length ≤ sizeLine ∧ (a == sysModules) = false ∧
    ∃ xs, KT H kvs xs ∧ h.DictOfH (tupleKind (mixKind P w)) a xs := by
  obtain ⟨z, y, xs, r, o, es, ep, h1, h2, h3, h4, h5⟩ := (show ObjOk P w H h a (.dT kvs) from rd_of ok e)
  refine ⟨z, y, xs, r, o, es, ep, h1, h2, h3, h4, fun x hx => ?_, h5⟩
  have all : ∀ {l : List (List Key × V)} {m : List (List Key × Addr × Value)}, KT H l m → ∀ x ∈ m, (tupleKind (mixKind P w)).is h x.1 x.2.1 := by
    intro l m q
    induction q with
    | nil => intro x hx; exact nomatch hx
    | @cons p q ps qs hq t ih =>
      intro x hx
      rcases List.mem_cons.mp hx with e | hx
      · subst e
        exact key_of ok (by rw [← hq.1]; exact hq.2.1)
      · exact ih x hx
  exact all r x hx
theorem dt_of {kvs : List (List Key × V)} (ok : HOk P w H h) (e : H a = some (.dT kvs)) : kvs.length ≤ sizeLine ∧ (a == sysModules) = false ∧
    ∃ xs, KT H kvs xs ∧ h.DictOfH (tupleKind (mixKind P w)) a xs := dt_rd ok (.inl e)
end

/-- what the dict at a holds at the key y -/
noncomputable def DGet (H : Hp) (a : Addr) (y : V) (r : Option V) : Prop :=
  (∃ kvs k, Rd H a (.dK kvs) ∧ y = kV k ∧ r = valV kvs k) ∨ ∃ kvs k b, Rd H a (.dT kvs) ∧ y = .ref b ∧ H b = some (.tup (k.map kV)) ∧ r = valV kvs k
/-- the heap behind a[y] = v -/
noncomputable def DPut (H : Hp) (a : Addr) (y v : V) (H' : Hp) : Prop :=
  (∃ kvs k, H a = some (.dK kvs) ∧ y = kV k ∧ kvs.length < sizeLine ∧ H' = upd H a (.dK (putK kvs k v))) ∨
  ∃ kvs k b, H a = some (.dT kvs) ∧ y = .ref b ∧ H b = some (.tup (k.map kV)) ∧ kvs.length < sizeLine ∧ H' = upd H a (.dT (putK kvs k v))
theorem DGet.k {H : Hp} {a : Addr} {kvs : List (Key × V)} {k : Key} (e : H a = some (.dK kvs)) : DGet H a (kV k) (valV kvs k) := .inl ⟨kvs, k, .inl e, rfl, rfl⟩
theorem DPut.k {H : Hp} {a : Addr} {kvs : List (Key × V)} {k : Key} {v : V} (e : H a = some (.dK kvs)) (hl : kvs.length < sizeLine) : DPut H a (kV k) v (upd H a (.dK (putK kvs k v))) := .inl ⟨kvs, k, e, rfl, hl, rfl⟩
section
variable {X : Cx} {pins : List (Addr × Obj)} {σ : St} {H : Hp} {s : Shared} {a : Addr} {y v : V} {u r : Value} {o : Option V} {A : Around} {E : Value → Shared → Prop}

theorem Inv.big (I : Inv X pins σ H s) : sysModules < s.heap.objs.size := by
  have h : mainGlobals < s.heap.objs.size := (I.mod.glob.keeps I.bk).lt
  exact Nat.lt_trans (by decide) h

/-- d[y], there -/
theorem d_getItem {Q : Value → Shared → Prop} (hu : A.units + 1 < cLine) (I : Inv X pins σ H s) (g : DGet H a y (some v)) (ry : RelV y u) (h : ∀ w' s', Inv X pins σ H s' → RelV v w' → Q w' s') :
    wpAny (model X.prog X.w) A (getItem (.ref a) u) Q E s := by
  rcases g with ⟨kvs, k, e, ey, l⟩ | ⟨kvs, k, b, e, ey, eb, l⟩
  · subst ey
    obtain ⟨z, hd, vs, rel, dd⟩ := dk_rd I.hok e
    obtain ⟨w', hw, rw'⟩ := RelO.some_of (v := v) (o := valueAt vs k) (by rw [l]; exact rel.val k)
    exact wpAny_getItem_of (kV_is ry) dd.mapOf hw (h w' _ (I.tok _) rw')
  · subst ey
    cases (show u = Value.ref b from ry)
    obtain ⟨z, hd, xs, rel, dd⟩ := dt_rd I.hok e
    obtain ⟨w', hw, rw'⟩ := RelO.some_of (v := v) (o := (atKey xs k).map (·.2)) (by rw [l]; exact rel.val k)
    obtain ⟨p, hp, hp2⟩ := Option.map_eq_some_iff.mp hw
    refine wpAny_getItem_heap (tupleKind_room_in1 hu) (key_of I.hok eb) dd hp ?_
    rw [hp2]
    exact h w' _ (I.tok _) rw'
/-- a dict's object is replaced -/
theorem d_write {h' : Heap} {t' : Nat} {ob : HO} (I : Inv X pins σ H s) (mu : Mut (H a)) (hs : Heap.SameBut a s.heap h') (he : ∃ q, h'.get? a = some q) (new : ObjOk X.prog X.w (upd H a ob) h' a ob) :
    Inv X pins σ (upd H a ob) { s with heap := h', toks := t' } :=
  I.write (x := a) (e := a) mu (.inl rfl) (fun b q hb z => (hs.2 b hb).trans z) he new
theorem dk_new {P : Program} {w : World} {H' : Hp} {h' : Heap} {kvs : List (Key × V)} {vs : List (Key × Value)} (z : kvs.length ≤ sizeLine) (hd : (a == sysModules) = false) (rel : KV kvs vs) (dd : h'.DictOf (mixKind P w) a vs) :
    ObjOk P w H' h' a (.dK kvs) := ⟨z, hd, vs, rel, dd⟩
/-- d[y] = v -/
theorem d_setItem {H' : Hp} {Q : Unit → Shared → Prop} (hu : A.units + 1 < cLine) (I : Inv X pins σ H s) (g : DPut H a y v H') (ry : RelV y u) (rv : RelV v r) (h : ∀ s', Inv X pins σ H' s' → Q () s') :
    wpAny (model X.prog X.w) A (setItem (.ref a) u r) Q E s := by
  rcases g with ⟨kvs, k, e, ey, l, eH⟩ | ⟨kvs, k, b, e, ey, eb, l, eH⟩
  · subst ey eH
    obtain ⟨z, hd, vs, rel, dd⟩ := dk_of I.hok e
    have hz : vs.length ≤ sizeLine := by rw [← rel.length]; exact z
    have hl : (putK kvs k v).length ≤ sizeLine := by have := length_putK kvs k v; omega
    refine wpAny_setItem_pairs (hsz := hz) (kV_is ry) dd fun h' dd' hs => h _ ?_
    have he : ∃ q, h'.get? a = some q := let ⟨q, _, _, hq, _⟩ := dd'; ⟨q, hq⟩
    exact d_write I (by rw [e]; exact True.intro) hs he (dk_new hl hd (rel.put k rv) dd')
  · subst ey eH
    cases (show u = Value.ref b from ry)
    obtain ⟨z, hd, xs, rel, dd⟩ := dt_of I.hok e
    have hz : xs.length ≤ sizeLine := by rw [← Paired.length rel]; exact z
    have hl : (putK kvs k v).length ≤ sizeLine := by have := length_putK kvs k v; omega
    refine wpAny_setItem_heap (hsz := hz) (tupleKind_room_in1 hu) (key_of I.hok eb) dd fun h' dd' hs => h _ ?_
    obtain ⟨q, es, ep, hq, h2, h3, h4, _, h5⟩ := dd'
    refine d_write I (by rw [e]; exact True.intro) hs ⟨q, hq⟩ ⟨hl, hd, _, (rel.put k eb rv).keeps fun c ys ec => ?_, q, es, ep, hq, h2, h3, h4, h5⟩
    rw [upd_ne (ne_of ec e (fun z => nomatch z))]
    exact ec
end

section
variable {X : Cx} {pins : List (Addr × Obj)} {σ : St} {H : Hp} {s : Shared} {a : Addr} {kvs : List (Key × V)} {k : Key} {u : Value} {A : Around} {E : Value → Shared → Prop}
end


/-! ### readings and rules -/
/-- the element of a subscription, not a slice -/
noncomputable def NoSl (i : Expr) : Prop := ∀ ov iv, subscripted i false ov iv = operate [ov, iv] (getItem ov iv)
theorem subD_of {prog : Program} {w : World} {A : Around} {E : Value → Shared → Prop} {s : Shared} {env : Env} {value slice : Expr} {pos : Pos} {T id : String} {Q : Value → Shared → Prop}
    (hl : typeLookup (.type T) "__getitem__" = pure (some (.builtin id))) (hs : NoSl slice)
    (h : wpAny (model prog w) A (eval value env) (fun o s₁ => wpAny (model prog w) A (eval slice env) (fun i s₂ => s₂.TypeIs o T ∧ wpAny (model prog w) A (getItem o i) Q E s₂) E s₁) E s) :
    wpAny (model prog w) A (eval (.Subscript value slice pos) env) Q E s := by
  refine Subscript_ (wpAny_mono h (fun o s₁ h₁ => wpAny_mono h₁ (fun i s₂ h₂ => ?_) fun _ _ x => x) fun _ _ x => x)
  obtain ⟨hT, h₂⟩ := h₂
  unfold subscriptTail
  refine wpAny_bind ?_
  rw [getitemInPython_of_ne hT.not_modules]
  refine wpAny_bind (wpAny_specialOf hT hl ?_)
  have fin : wpAny (model prog w) A (subscripted slice false o i) (fun r s₃ => wpAny (model prog w) A (letTemporaryGo value o r >>= fun _ => pure r) Q E s₃) E s₂ := by
    rw [hs o i]
    exact wpAny_operating (wpAny_mono h₂ (fun r s₃ h₃ => wpAny_bind (wpAny_letTemporaryGo (wpAny_pure h₃))) fun _ _ x => x)
  first
    | exact wpAny_pure (wpAny_bind fin)
    | exact wpAny_bind (wpAny_pure (wpAny_bind fin))
    | exact wpAny_bind fin

theorem dict_typeIs {X : Cx} {pins : List (Addr × Obj)} {σ : St} {H : Hp} {s : Shared} {a : Addr} {y : V} {o : Option V} (I : Inv X pins σ H s) (g : DGet H a y o) : s.TypeIs (.ref a) "dict" := by
  rcases g with ⟨kvs, k, e, _, _⟩ | ⟨kvs, k, b, e, _, _, _⟩
  · obtain ⟨_, _, vs, _, dd⟩ := dk_rd I.hok e
    exact dd.typeIs
  · obtain ⟨_, _, xs, _, dd⟩ := dt_rd I.hok e
    exact dd.typeIs
/-- d[y] -/
noncomputable def tDGet (td ty : TE) : TE := fun σ H Q => td σ H fun x H1 => ty σ H1 fun y H2 => ∃ a v, x = .ref a ∧ DGet H2 a y (some v) ∧ Q v H2
/-- d[y] = v -/
noncomputable def sDPut (td ty tv : TE) : TS := fun D σ H => tv σ H fun v H1 => td σ H1 fun x H2 => ty σ H2 fun y H3 => ∃ a H4, x = .ref a ∧ DPut H3 a y v H4 ∧ D.nx σ H4
section
variable {X : Cx} {o i e value : Expr} {pos pos' tpos : Pos} {td ty tv : TE}
theorem pe_dget (hu : X.A.units + 1 < cLine) (ho : PE X o td) (hi : PE X i ty) (hs : NoSl i) : PE X (.Subscript o i pos) (tDGet td ty) := by
  intro pins s σ H Q I h
  refine subD_of PySem.F.slot_dict_getitem.lookup hs (thn (ho pins s σ H _ I h) fun u s1 ⟨x, H1, I1, rx, q1⟩ => thn (hi pins s1 σ H1 _ I1 q1) fun iv s2 ⟨y, H2, I2, ry, a, v, ex, g, q2⟩ => ?_)
  subst ex
  obtain rfl : u = Value.ref a := rx
  exact ⟨dict_typeIs I2 g, d_getItem hu I2 g ry fun w' s3 I3 rw' => ⟨v, H2, I3, rw', q2⟩⟩
theorem ps_dput (hu : X.A.units + 1 < cLine) (ho : PE X o td) (hi : PE X i ty) (hv : PE X value tv) (hs : swapsWith value (some (.Subscript o i pos')) pos.line X.env = pure false) :
    PS X (.Assign [.Subscript o i pos'] value pos) (sDPut td ty tv) := by
  intro pins s σ H D I h
  refine wpAny_Assign_Subscript (thn (hv pins s σ H _ I h) fun r s1 ⟨v, H1, I1, rv, q1⟩ => thn (ho pins s1 σ H1 _ I1 q1) fun u s2 ⟨x, H2, I2, rx, q2⟩ => thn (hi pins s2 σ H2 _ I2 q2) fun iv s3 ⟨y, H3, I3, ry, a, H4, ex, g, q3⟩ => ?_) hs
  subst ex
  obtain rfl : u = Value.ref a := rx
  exact d_setItem hu I3 g ry rv fun s4 I4 => ⟨σ, H4, I4, q3⟩
end


/-! ### displays -/
theorem dk_empty {P : Program} {w : World} {H : Hp} (h : Heap) (hb : sysModules < h.objs.size) : ObjOk P w H (h.push { cls := .type "dict", data := .dict #[] }) h.objs.size (.dK []) :=
  ⟨Nat.zero_le _, beq_eq_false_iff_ne.mpr (Ne.symm (Nat.ne_of_lt hb)), [], .nil, Heap.DictOf.new h⟩
/-- {}, to be a dict of the kind that is wanted -/
noncomputable def tDNewK : TE := fun _ H Q => ∀ p, H p = none → Q (.ref p) (upd H p (.dK []))
section
variable {X : Cx} {pos : Pos}
theorem pe_dnewK : PE X (.Dict [] [] pos) tDNewK := fun pins s σ H Q I h =>
  wpAny_Dict_empty ⟨.ref s.heap.objs.size, _, I.laid (a := s.heap.objs.size) (o := .dK []) (t' := s.toks) (fun _ _ q => Heap.get?_push_of_some _ q) (Nat.le_refl _) (dk_empty s.heap I.big), rfl, h _ (I.hok.fresh (Nat.le_refl _))⟩
end

/-- the pairs of a display, from the left -/
noncomputable def tPairs : List (TE × TE) → St → Hp → (List (V × V) → Hp → Prop) → Prop
  | [], _, H, Q => Q [] H
  | (tk, tv) :: r, σ, H, Q => tk σ H fun x H1 => tv σ H1 fun y H2 => tPairs r σ H2 fun ps H3 => Q ((x, y) :: ps) H3
noncomputable abbrev VV : List (V × V) → List (Value × Value) → Prop := Paired fun p q => RelV p.1 q.1 ∧ RelV p.2 q.2
noncomputable def PPs (X : Cx) (pos : Pos) (keys : List (Option Expr)) (values : List Expr) (trs : List (TE × TE)) : Prop :=
  ∀ (pins : List (Addr × Obj)) (s : Shared) (σ : St) (H : Hp) (Q : List (V × V) → Hp → Prop), Inv X pins σ H s → tPairs trs σ H Q →
    wpAny (model X.prog X.w) X.A (evalPairs (pairTrees keys values X.env pos)) (fun vs s' => ∃ ps H', Inv X pins σ H' s' ∧ VV ps vs ∧ Q ps H') X.xe s
theorem pps_nil {X : Cx} {pos : Pos} : PPs X pos [] [] [] := fun pins s σ H Q I h => pairTrees_nil_walk ⟨[], H, I, .nil, h⟩
theorem pps_cons {X : Cx} {pos : Pos} {k v : Expr} {ks : List (Option Expr)} {vs : List Expr} {tk tv : TE} {trs : List (TE × TE)} (hk : PE X k tk) (hv : PE X v tv) (hr : PPs X pos ks vs trs) :
    PPs X pos (some k :: ks) (v :: vs) ((tk, tv) :: trs) := fun pins s σ H Q I h =>
  pairTrees_cons_walk (thn (hk pins s σ H _ I h) fun u s1 ⟨x, H1, I1, rx, q1⟩ => thn (hv pins s1 σ H1 _ I1 q1) fun w2 s2 ⟨y, H2, I2, ry, q2⟩ =>
    thn (hr pins s2 σ H2 _ I2 q2) fun ws s3 ⟨ps, H3, I3, rel, q3⟩ => ⟨(x, y) :: ps, H3, I3, .cons ⟨rx, ry⟩ rel, q3⟩)

noncomputable def mergeK (kvs more : List (Key × V)) : List (Key × V) := more.foldl (fun acc kv => putK acc kv.1 kv.2) kvs
theorem KV.merge : ∀ {more : List (Key × V)} {rs : List (Key × Value)} {kvs : List (Key × V)} {vs : List (Key × Value)}, KV more rs → KV kvs vs → KV (mergeK kvs more) (merged vs rs) := by
  intro more rs kvs vs r
  unfold KV at r
  induction r generalizing kvs vs with
  | nil => intro q; exact q
  | @cons p q ps qs h t ih =>
    intro r0
    have e : KV (putK kvs p.1 p.2) (stored vs q.1 q.2) := by
      have := r0.put p.1 h.2
      rw [← h.1]; exact this
    exact ih e
theorem length_mergeK : ∀ (more kvs : List (Key × V)), (mergeK kvs more).length ≤ kvs.length + more.length
  | [], kvs => by show kvs.length ≤ kvs.length + 0; omega
  | p :: r, kvs => by
    have h1 := length_mergeK r (putK kvs p.1 p.2)
    have h2 := length_putK kvs p.1 p.2
    show (mergeK (putK kvs p.1 p.2) r).length ≤ _
    rw [List.length_cons]; omega
theorem carries_of {P : Program} {w : World} : ∀ {kvs : List (Key × V)} {ws : List (Value × Value)}, VV (kvs.map fun kv => (kV kv.1, kv.2)) ws → ∃ rs, Carries (mixKind P w) ws rs ∧ KV kvs rs
  | [], _, r => by rw [List.map_nil] at r; cases r; exact ⟨[], True.intro, .nil⟩
  | p :: kvs, _, r => by
    rw [List.map_cons] at r
    cases r with
    | @cons a b as bs h t =>
      obtain ⟨rs, c, q⟩ := carries_of (P := P) (w := w) t
      obtain ⟨b1, b2⟩ := b
      exact ⟨(p.1, b2) :: rs, ⟨kV_is h.1, rfl, c⟩, .cons ⟨rfl, h.2⟩ q⟩
/-- {k: v, ..} with keys ints and texts; the new dict stands empty while the pairs are made -/
noncomputable def tDisp (trs : List (TE × TE)) : TE := fun σ H Q => ∀ p, H p = none → tPairs trs σ (upd H p (.dK [])) fun ps H2 => H2 p = some (.dK []) ∧ ∃ kvs : List (Key × V), ps = kvs.map (fun kv => (kV kv.1, kv.2)) ∧ kvs.length ≤ 15 ∧ Q (.ref p) (upd H2 p (.dK (mergeK [] kvs)))
theorem pe_disp {X : Cx} {pos : Pos} {keys : List (Option Expr)} {values : List Expr} {trs : List (TE × TE)} (h : PPs X pos keys values trs) (hall : keys.all (·.isSome) = true) (hl : keys.length = values.length) (h0 : keys ≠ [])
    (h15 : keys.length ≤ 15) : PE X (.Dict keys values pos) (tDisp trs) := by
  intro pins s σ H Q I q
  have hn := I.hok.fresh (Nat.le_refl s.heap.objs.size)
  have I1 := I.laid (a := s.heap.objs.size) (o := .dK []) (h' := s.heap.push { cls := .type "dict", data := .dict #[] }) (t' := s.toks) (fun _ _ q => Heap.get?_push_of_some _ q) (Nat.le_refl _) (dk_empty s.heap I.big)
  refine wpAny_Dict_walk (knd := mixKind X.prog X.w) hall hl h0 h15 (thn (h pins _ σ _ _ I1 (q _ hn)) fun ws s2 ⟨ps, H2, I2, rel, e, kvs, ep, lk, q2⟩ => ?_)
  subst ep
  obtain ⟨rs, c, rk⟩ := carries_of (P := X.prog) (w := X.w) rel
  obtain ⟨z, hd, vs0, r0, dd⟩ := dk_of I2.hok e
  cases r0
  refine ⟨rs, c, dd, fun h' dd' hs => ⟨.ref s.heap.objs.size, _, ?_, rfl, q2⟩⟩
  have hz : (mergeK [] kvs).length ≤ sizeLine := by
    have h1 := length_mergeK kvs []
    rw [List.length_nil] at h1
    rw [sizeLine_eq]; omega
  have he : ∃ q, h'.get? s.heap.objs.size = some q := let ⟨q, _, _, hq, _⟩ := dd'; ⟨q, hq⟩
  exact d_write I2 (by rw [e]; exact True.intro) hs he (dk_new hz hd (rk.merge .nil) dd')


/-! ### methods -/
/-- a method call o.m(e) of a built-in, with one argument: what must be seen of the text -/
structure DM1 (X : Cx) (o : Expr) (m : Str) (apos : Pos) (e : Expr) (cpos : Pos) : Prop where
  base : attributeBase o m X.env (eval o X.env) = eval o X.env
  few : ((backTo cpos (starEach [e] X.env)).all (fun x => !x.1) && (backToKw cpos (keywordEach [] X.env)).all (fun x => x.1.isSome)
    && decide (([e] : List Expr).length + ([] : List Keyword).length + (if ([] : List Keyword).isEmpty then 0 else 1) < 30)) = true
  line : (apos.endLine == cpos.line) = true
  trees : backTo cpos (starEach [e] X.env) = [(false, eval e X.env)]
structure DM2 (X : Cx) (o : Expr) (m : Str) (apos : Pos) (e f : Expr) (cpos : Pos) : Prop where
  base : attributeBase o m X.env (eval o X.env) = eval o X.env
  few : ((backTo cpos (starEach [e, f] X.env)).all (fun x => !x.1) && (backToKw cpos (keywordEach [] X.env)).all (fun x => x.1.isSome)
    && decide (([e, f] : List Expr).length + ([] : List Keyword).length + (if ([] : List Keyword).isEmpty then 0 else 1) < 30)) = true
  line : (apos.endLine == cpos.line) = true
  trees : backTo cpos (starEach [e, f] X.env) = [(false, eval e X.env), (false, eval f X.env)]

/-- a is a dict, whatever its keys -/
noncomputable def IsD (H : Hp) (a : Addr) : Prop := (∃ kvs, Rd H a (.dK kvs)) ∨ ∃ kvs, Rd H a (.dT kvs)
section
variable {X : Cx} {pins : List (Addr × Obj)} {σ : St} {H : Hp} {s : Shared} {a : Addr} {y d : V} {u r : Value} {o : Option V} {A : Around} {E : Value → Shared → Prop}
end

section
variable {X : Cx} {o e f : Expr} {apos cpos : Pos} {td ty tx : TE}
end

/-! ### dict(d): a copy -/
section
variable {X : Cx} {pins : List (Addr × Obj)} {σ : St} {H : Hp} {s : Shared} {a : Addr} {kvs : List (Key × V)} {A : Around} {E : Value → Shared → Prop}
end


section
variable {X : Cx} {pins : List (Addr × Obj)} {σ : St} {H : Hp} {s : Shared} {a : Addr} {y : V} {u : Value} {A : Around} {E : Value → Shared → Prop}
end
end L2

end
section
set_option Elab.async false
set_option linter.all false
set_option maxRecDepth 100000
/-! Kinds beside each other: join, paths, heads. -/
namespace L2.Bk
open PySem PySem.Spec PyProof.Rows L2.Bw
noncomputable def Kn.h : Kn → Str
  | .mk h _ => h
noncomputable def Kn.ks : Kn → List Kn
  | .mk _ ks => ks
/-- how many parts a head has -/
noncomputable def arity (h : Str) : Option Nat := if h = "whole" then some 0 else if h = "truth" then some 0 else if h = "?" then some 0 else if h = "row" then some 1 else if h = "to" then some 2 else if h = "pair" then some 2 else none
mutual
noncomputable def Kn.wf : Kn → Prop
  | .mk h ks => arity h = some ks.length ∧ Kn.wfs ks
noncomputable def Kn.wfs : List Kn → Prop
  | [] => True
  | t :: r => t.wf ∧ Kn.wfs r
end
theorem arity_le {h : Str} {n : Nat} (e : arity h = some n) : n ≤ 2 := by
  unfold arity at e
  repeat' split at e
  all_goals first | (cases e; omega) | cases e
theorem arity_q {n : Nat} (e : arity "?" = some n) : n = 0 := by
  have : arity "?" = some 0 := by decide +kernel
  rw [this] at e
  cases e
  rfl
theorem wfs_get : ∀ {ks : List Kn} {i : Nat} (h : i < ks.length), Kn.wfs ks → ks[i].wf
  | _ :: _, 0, _, q => q.1
  | _ :: r, i + 1, h, q => wfs_get (ks := r) (by simpa using h) q.2
noncomputable def qK : Kn := .mk "?" []
theorem wf_q : qK.wf := ⟨by decide +kernel, trivial⟩
mutual
noncomputable def Kn.join : Kn → Kn → Kn
  | .mk h ks, .mk g ls => if h = g then .mk h (Kn.joins ks ls) else qK
noncomputable def Kn.joins : List Kn → List Kn → List Kn
  | t :: r, u :: q => t.join u :: Kn.joins r q
  | [], _ => []
  | _ :: _, [] => []
end
/-! ### paths and heads -/
mutual
noncomputable def Kn.paths : Kn → List (List Nat)
  | .mk _ ks => [] :: Kn.pathsL 1 ks
noncomputable def Kn.pathsL (n : Nat) : List Kn → List (List Nat)
  | [] => []
  | t :: r => t.paths.map (n :: ·) ++ Kn.pathsL (n + 1) r
end
noncomputable def Kn.headAt : Kn → List Nat → Str
  | t, [] => t.h
  | t, k :: p => if t.h = "?" then "?" else match t.ks[k - 1]? with
    | none => "none"
    | some u => u.headAt p
end L2.Bk

end
section
set_option Elab.async false
set_option linter.all false
namespace L2.Bk
open PySem PySem.Spec PyProof.Rows L2.Bw
end L2.Bk

end
section
set_option Elab.async false
set_option linter.all false
set_option maxRecDepth 100000
/-! zip of a tuple and two lists, walked by threes. -/
namespace PySem
namespace F
theorem z3_typeCall (a b c : Value) : checkTypeCall "zip" ⟨[a, b, c], []⟩ = pure () := by kernel_rfl
theorem z3_newCall (a b c : Value) : checkBuiltinCall "zip.__new__" ⟨[.type "zip", a, b, c], []⟩ = pure () := by kernel_rfl
theorem z3_args_init (a b c d : Value) : argsOk "object.__init__" ⟨[a, b, c, d], []⟩ := by
  unfold argsOk; rw [signature?_of (id := "object.__init__") (n := ['_', '_', 't', 'i', 'n', 'i', '_', '_']) (o := ['t', 'c', 'e', 'j', 'b', 'o']) (by kernel_rfl) owner_object]; kernel_rfl
end F
noncomputable abbrev Is3 (h : Heap) (T : Addr) (a b c : Value) : Prop := h.get? T = some { cls := .type "tuple", data := .seq #[a, b, c] }
section
variable {prog : Program} {w : World} {A : Around} {E : Value → Shared → Prop} {s : Shared}
theorem z3_update {T : Addr} {a b c x : Value} {k : Nat} {Q : Unit → Shared → Prop} (hT : Is3 s.heap T a b c)
    (h : ∀ h', h'.get? T = some { cls := .type "tuple", data := .seq ((#[a, b, c] : Array Value).setIfInBounds k x) } → Heap.SameBut T s.heap h' → Q () { s with heap := h' }) : wpAny (model prog w) A (updateSeq T (·.setIfInBounds k x)) Q E s := by
  refine wpAny_updateSeq hT rfl (h _ ?_ (Heap.SameBut.update ..)); rw [Heap.get?_update_self _ hT rfl]; simp [Obj.mapSeq]
theorem tup_nextOf_item {it t : Addr} {i : Nat} {items} {x : Value} {Q : Value → Shared → Prop} (hit : s.heap.IsTupleIter it t i) (ht : s.heap.IsTuple t items) (hx : items[i]? = some x)
    (hQ : ∀ h', h'.IsTupleIter it t (i + 1) → Heap.SameBut it s.heap h' → Q x { s with heap := h' }) : wpAny (model prog w) A (Builtin.SmallTypes.nextOf (.ref it)) Q E s := by
  obtain ⟨o, ho, hc, hd⟩ := id hit
  obtain ⟨ol, hol, _, nl, hdl⟩ := ht
  unfold Builtin.SmallTypes.nextOf
  refine wpAny_bind (wpAny_callSpecial?_slot (name := Str.ofString "__next__") hit.typeIs F.slot_tuple_iterator_next (wpAny_call_entry F.slot_tuple_iterator_next hit.typeIs F.entry_tuple_iterator_next ?_ (F.args_tuple_iterator_next_1 _)))
  show wpAny _ _ (field (.ref it) 0 >>= _) _ _ s; refine wpAny_bind (wpAny_field ho hd (x := .ref t) rfl ?_)
  show wpAny _ _ (if (Value.ref t == Value.none) = true then _ else _) _ _ s; rw [if_neg (show ¬ ((Value.ref t == Value.none) = true) from Bool.false_ne_true)]
  show wpAny _ _ (field (.ref it) 1 >>= _) _ _ s; refine wpAny_bind (wpAny_field ho hd (x := .int i 0) rfl ?_)
  show wpAny _ _ (seqItems? (.ref t) >>= _) _ _ s; refine wpAny_bind (wpAny_seqItems hol hdl ?_); simp only [Int.toNat_natCast, hx]
  refine wpAny_bind (wpAny_setField ho hd (by simp) (wpAny_pure ⟨x, rfl, wpAny_pure (hQ _ ?_ (Heap.SameBut.update ..))⟩))
  exact ⟨_, Heap.get?_update_self _ ho (Obj.isFreed_of_fields (Obj.data_mapFields hd _)), (Obj.cls_mapFields ..).trans hc, by rw [Obj.data_mapFields hd]; simp [rawInt]⟩
theorem tup_nextOf_end {it t : Addr} {i : Nat} {items} {Q : Value → Shared → Prop} (hh : A.handled = none) (hit : s.heap.IsTupleIter it t i) (ht : s.heap.IsTuple t items) (hx : items[i]? = none)
    (hE : ∀ h' e, Heap.ExtBut it s.heap h' → (∃ o, h'.get? e = some o ∧ o.cls = .type "StopIteration") → E (.ref e) { s with heap := h' }) : wpAny (model prog w) A (Builtin.SmallTypes.nextOf (.ref it)) Q E s := by
  obtain ⟨o, ho, hc, hd⟩ := id hit
  obtain ⟨ol, hol, _, nl, hdl⟩ := ht
  unfold Builtin.SmallTypes.nextOf
  refine wpAny_bind (wpAny_callSpecial?_slot (name := Str.ofString "__next__") hit.typeIs F.slot_tuple_iterator_next (wpAny_call_entry F.slot_tuple_iterator_next hit.typeIs F.entry_tuple_iterator_next ?_ (F.args_tuple_iterator_next_1 _)))
  show wpAny _ _ (field (.ref it) 0 >>= _) _ _ s; refine wpAny_bind (wpAny_field ho hd (x := .ref t) rfl ?_)
  show wpAny _ _ (if (Value.ref t == Value.none) = true then _ else _) _ _ s; rw [if_neg (show ¬ ((Value.ref t == Value.none) = true) from Bool.false_ne_true)]
  show wpAny _ _ (field (.ref it) 1 >>= _) _ _ s; refine wpAny_bind (wpAny_field ho hd (x := .int i 0) rfl ?_)
  show wpAny _ _ (seqItems? (.ref t) >>= _) _ _ s; refine wpAny_bind (wpAny_seqItems hol hdl ?_); simp only [Int.toNat_natCast, hx]
  refine wpAny_bind (wpAny_rule (wpAny_bind (wpAny_setField ho hd (by simp) ?_))); show wpAny _ _ (newExc (.type "StopIteration") [] >>= _) _ _ _
  refine wpAny_bind ?_; simp only [newExc, newTuple]; refine wpAny_bind (wpAny_newObj_type ?_ (by size_fits))
  refine wpAny_bind (m := firstArgMember _ _) (wpAny_of_eq (a := Value.none) (by first | rfl | (simp only [firstArgMember]; rfl)) ?_); refine wpAny_newObj_type ?_ (by size_fits)
  simp only [raiseNew]; refine wpAny_bind (wpAny_handled ?_); first | rw [show A.in1.handled = none from hh] | rw [hh]
  refine wpAny_bind (wpAny_pure (wpAny_throw ?_)); exact hE _ _ (((Heap.SameBut.update ..).extBut.push _).push _) ⟨_, Heap.get?_push_size _ rfl, rfl⟩
structure Z3 (z TI TO i1 i2 i3 t b c : Addr) : Prop where
  TIz : TI ≠ z
  TOz : TO ≠ z
  i1z : i1 ≠ z
  i2z : i2 ≠ z
  i3z : i3 ≠ z
  TITO : TI ≠ TO
  TIi1 : TI ≠ i1
  TIi2 : TI ≠ i2
  TIi3 : TI ≠ i3
  TOi1 : TO ≠ i1
  TOi2 : TO ≠ i2
  TOi3 : TO ≠ i3
  i12 : i1 ≠ i2
  i13 : i1 ≠ i3
  i23 : i2 ≠ i3
  tz : t ≠ z
  tTO : t ≠ TO
  ti1 : t ≠ i1
  ti2 : t ≠ i2
  ti3 : t ≠ i3
  bz : b ≠ z
  bTO : b ≠ TO
  bi1 : b ≠ i1
  bi2 : b ≠ i2
  bi3 : b ≠ i3
  cz : c ≠ z
  cTO : c ≠ TO
  ci1 : c ≠ i1
  ci2 : c ≠ i2
  ci3 : c ≠ i3
theorem z3_item {z TI TO i1 i2 i3 t b c : Addr} {k : Nat} {xs ys zs : Array Value} {x y v a0 b0 c0 : Value} {Q : Value → Shared → Prop} (D : Z3 z TI TO i1 i2 i3 t b c) (hz : IsZip s.heap z TI TO .none) (hTI : Is3 s.heap TI (.ref i1) (.ref i2) (.ref i3)) (hTO : Is3 s.heap TO a0 b0 c0)
    (h1 : s.heap.IsTupleIter i1 t k) (h2 : s.heap.IsListIter i2 b k) (h3 : s.heap.IsListIter i3 c k) (hl1 : s.heap.IsTuple t xs) (hl2 : s.heap.IsList b ys) (hl3 : s.heap.IsList c zs) (hx : xs[k]? = some x) (hy : ys[k]? = some y) (hv : zs[k]? = some v)
    (hQ : ∀ h', IsZip h' z TI TO (rawInt s.heap.objs.size) → Is3 h' TO x y v → h'.IsTupleIter i1 t (k + 1) → h'.IsListIter i2 b (k + 1) → h'.IsListIter i3 c (k + 1) → Is3 h' s.heap.objs.size x y v → h'.objs.size = s.heap.objs.size + 1 →
      (∀ d o, d ≠ z → d ≠ TO → d ≠ i1 → d ≠ i2 → d ≠ i3 → s.heap.get? d = some o → h'.get? d = some o) → Q (.ref s.heap.objs.size) { s with heap := h' }) :
    wpAny (model prog w) A (Builtin.«zip.__next__» ⟨[.ref z], []⟩) (fun fin s' => ∃ v, fin = .done (.ret v) ∧ Q v s') E s := by
  show wpAny _ _ (field (.ref z) 2 >>= _) _ _ _; refine wpAny_bind (wpAny_field hz rfl (x := .bool false) rfl ?_)
  show wpAny _ _ (field (.ref z) 3 >>= _) _ _ _; refine wpAny_bind (wpAny_field hz rfl (x := .ref TI) rfl ?_)
  refine wpAny_bind (wpAny_seqItems hTI rfl ?_); show wpAny _ _ (Builtin.SmallTypes.ownedTupleIsFree (.ref z) >>= _) _ _ _
  refine wpAny_bind ?_; unfold Builtin.SmallTypes.ownedTupleIsFree; refine wpAny_bind (wpAny_field hz rfl (x := .none) rfl (wpAny_pure ?_)); simp only [if_true]
  refine wpAny_bind (wpAny_rule ?_); refine wpAny_bind (wpAny_field hz rfl (x := .ref TO) rfl ?_); refine wpAny_bind (wpAny_setField_rec hz (by simp) fun h₁ hz₁ hs₁ => ?_)
  replace hz₁ : IsZip h₁ z TI TO .ellipsis := hz₁
  refine wpAny_bind ?_; simp only [List.zipIdx_cons, List.zipIdx_nil, List.forIn_cons, List.forIn_nil]
  refine wpAny_bind (wpAny_bind (wpAny_onRaise ?_)); show wpAny _ _ (Builtin.SmallTypes.nextOf (.ref i1) >>= _) _ _ _
  refine wpAny_bind (tup_nextOf_item (h1.extBut hs₁.extBut D.i1z) (hl1.extBut hs₁.extBut D.tz) hx fun h₂ h1₂ hs₂ => wpAny_pure ?_)
  have hTO₂ : Is3 h₂ TO a0 b0 c0 := hs₂.extBut _ _ D.TOi1 (hs₁.extBut _ _ D.TOz hTO)
  refine wpAny_bind (wpAny_seqItems hTO₂ rfl ?_); refine wpAny_bind (z3_update hTO₂ fun h₃ hTO₃ hs₃ => ?_)
  replace hTO₃ : Is3 h₃ TO x b0 c0 := hTO₃
  refine wpAny_bind (wpAny_letGo (wpAny_pure ?_)); refine wpAny_bind (wpAny_bind (wpAny_onRaise ?_)); show wpAny _ _ (Builtin.SmallTypes.nextOf (.ref i2) >>= _) _ _ _
  refine wpAny_bind (wpAny_nextOf_list_item (((h2.extBut hs₁.extBut D.i2z).extBut hs₂.extBut D.i12.symm).extBut hs₃.extBut D.TOi2.symm) (((hl2.extBut hs₁.extBut D.bz).extBut hs₂.extBut D.bi1).extBut hs₃.extBut D.bTO) hy fun h₄ h2₄ hs₄ => wpAny_pure ?_)
  have hTO₄ : Is3 h₄ TO x b0 c0 := hs₄.extBut _ _ D.TOi2 hTO₃
  refine wpAny_bind (wpAny_seqItems hTO₄ rfl ?_); refine wpAny_bind (z3_update hTO₄ fun h₅ hTO₅ hs₅ => ?_)
  replace hTO₅ : Is3 h₅ TO x y c0 := hTO₅
  refine wpAny_bind (wpAny_letGo (wpAny_pure ?_)); refine wpAny_bind (wpAny_bind (wpAny_onRaise ?_)); show wpAny _ _ (Builtin.SmallTypes.nextOf (.ref i3) >>= _) _ _ _
  refine wpAny_bind (wpAny_nextOf_list_item (((((h3.extBut hs₁.extBut D.i3z).extBut hs₂.extBut D.i13.symm).extBut hs₃.extBut D.TOi3.symm).extBut hs₄.extBut D.i23.symm).extBut hs₅.extBut D.TOi3.symm)
    (((((hl3.extBut hs₁.extBut D.cz).extBut hs₂.extBut D.ci1).extBut hs₃.extBut D.cTO).extBut hs₄.extBut D.ci2).extBut hs₅.extBut D.cTO) hv fun h₆ h3₆ hs₆ => wpAny_pure ?_)
  have hTO₆ : Is3 h₆ TO x y c0 := hs₆.extBut _ _ D.TOi3 hTO₅
  refine wpAny_bind (wpAny_seqItems hTO₆ rfl ?_); refine wpAny_bind (z3_update hTO₆ fun h₇ hTO₇ hs₇ => ?_)
  replace hTO₇ : Is3 h₇ TO x y v := hTO₇
  refine wpAny_bind (wpAny_letGo (wpAny_pure (wpAny_pure ?_))); refine wpAny_bind (wpAny_seqItems hTO₇ rfl ?_); refine wpAny_bind (wpAny_newTuple ?_)
  have hsz : h₇.objs.size = s.heap.objs.size := by rw [hs₇.1, hs₆.1, hs₅.1, hs₄.1, hs₃.1, hs₂.1, hs₁.1]
  have hz₇ : IsZip h₇ z TI TO .ellipsis := hs₇.extBut _ _ D.TOz.symm (hs₆.extBut _ _ D.i3z.symm (hs₅.extBut _ _ D.TOz.symm (hs₄.extBut _ _ D.i2z.symm (hs₃.extBut _ _ D.TOz.symm (hs₂.extBut _ _ D.i1z.symm hz₁)))))
  have hk₇ : ∀ d o, d ≠ z → d ≠ TO → d ≠ i1 → d ≠ i2 → d ≠ i3 → s.heap.get? d = some o → h₇.get? d = some o := fun d o c1 c2 c3 c4 c5 e =>
    hs₇.extBut _ _ c2 (hs₆.extBut _ _ c5 (hs₅.extBut _ _ c2 (hs₄.extBut _ _ c4 (hs₃.extBut _ _ c2 (hs₂.extBut _ _ c3 (hs₁.extBut _ _ c1 e))))))
  have h1₇ : h₇.IsTupleIter i1 t (k + 1) := ((((h1₂.extBut hs₃.extBut D.TOi1.symm).extBut hs₄.extBut D.i12).extBut hs₅.extBut D.TOi1.symm).extBut hs₆.extBut D.i13).extBut hs₇.extBut D.TOi1.symm
  have h2₇ : h₇.IsListIter i2 b (k + 1) := ((h2₄.extBut hs₅.extBut D.TOi2.symm).extBut hs₆.extBut D.i23).extBut hs₇.extBut D.TOi2.symm
  have h3₇ : h₇.IsListIter i3 c (k + 1) := h3₆.extBut hs₇.extBut D.TOi3.symm
  have hzlt : z < h₇.objs.size := Heap.lt_size hz₇
  show wpAny _ _ (Builtin.SmallTypes.ownedTupleHandOut (.ref z) (.ref h₇.objs.size) >>= _) _ _ _
  refine wpAny_bind ?_; unfold Builtin.SmallTypes.ownedTupleHandOut
  have hz₈ : IsZip (h₇.push { cls := .type "tuple", data := .seq #[x, y, v] }) z TI TO .ellipsis := Heap.get?_push_of_some _ hz₇
  refine wpAny_bind (wpAny_setField_rec hz₈ (by simp) fun h₉ hz₉ hs₉ => ?_)
  replace hz₉ : IsZip h₉ z TI TO (rawInt h₇.objs.size) := hz₉
  refine wpAny_setField_rec hz₉ (by simp) fun hA hzA hsA => ?_
  replace hzA : IsZip hA z TI TO (rawInt h₇.objs.size) := hzA
  have up : ∀ d o, d ≠ z → h₇.get? d = some o → hA.get? d = some o := fun d o c1 e => hsA.extBut _ _ c1 (hs₉.extBut _ _ c1 (Heap.get?_push_of_some _ e))
  have hTA : Is3 hA h₇.objs.size x y v := hsA.extBut _ _ (Nat.ne_of_gt hzlt) (hs₉.extBut _ _ (Nat.ne_of_gt hzlt) (Heap.get?_push_size _ rfl))
  have hzA8 : hA.objs.size = h₇.objs.size + 1 := by rw [hsA.1, hs₉.1, Heap.size_push]
  rw [hsz] at hzA hTA hzA8
  refine wpAny_pure ⟨_, rfl, ?_⟩
  show Q (.ref h₇.objs.size) _
  rw [hsz]
  exact hQ hA hzA (up _ _ D.TOz hTO₇) (h1₇.at fun o e => up _ o D.i1z e) (h2₇.at fun o e => up _ o D.i2z e) (h3₇.at fun o e => up _ o D.i3z e) hTA hzA8 fun d o c1 c2 c3 c4 c5 e => up d o c1 (hk₇ d o c1 c2 c3 c4 c5 e)
/-- the tuple ends first (or all of them together) -/
theorem z3_end {z TI TO i1 i2 i3 t b c : Addr} {k : Nat} {xs : Array Value} {Q : Fin → Shared → Prop} (hh : A.handled = none) (D : Z3 z TI TO i1 i2 i3 t b c) (hz : IsZip s.heap z TI TO .none) (hTI : Is3 s.heap TI (.ref i1) (.ref i2) (.ref i3))
    (h1 : s.heap.IsTupleIter i1 t k) (hl1 : s.heap.IsTuple t xs) (hx : xs[k]? = none)
    (hE : ∀ h' e, (∀ d o, d ≠ z → d ≠ i1 → s.heap.get? d = some o → h'.get? d = some o) → (∃ o, h'.get? e = some o ∧ o.cls = .type "StopIteration") → E (.ref e) { s with heap := h' }) :
    wpAny (model prog w) A (Builtin.«zip.__next__» ⟨[.ref z], []⟩) Q E s := by
  show wpAny _ _ (field (.ref z) 2 >>= _) _ _ _; refine wpAny_bind (wpAny_field hz rfl (x := .bool false) rfl ?_)
  show wpAny _ _ (field (.ref z) 3 >>= _) _ _ _; refine wpAny_bind (wpAny_field hz rfl (x := .ref TI) rfl ?_)
  refine wpAny_bind (wpAny_seqItems hTI rfl ?_); show wpAny _ _ (Builtin.SmallTypes.ownedTupleIsFree (.ref z) >>= _) _ _ _
  refine wpAny_bind ?_; unfold Builtin.SmallTypes.ownedTupleIsFree; refine wpAny_bind (wpAny_field hz rfl (x := .none) rfl (wpAny_pure ?_)); simp only [if_true]
  refine wpAny_bind (wpAny_rule ?_); refine wpAny_bind (wpAny_field hz rfl (x := .ref TO) rfl ?_); refine wpAny_bind (wpAny_setField_rec hz (by simp) fun h₁ hz₁ hs₁ => ?_)
  replace hz₁ : IsZip h₁ z TI TO .ellipsis := hz₁
  refine wpAny_bind ?_; simp only [List.zipIdx_cons, List.zipIdx_nil, List.forIn_cons, List.forIn_nil]
  refine wpAny_bind (wpAny_bind (wpAny_onRaise ?_)); show wpAny _ _ (Builtin.SmallTypes.nextOf (.ref i1) >>= _) _ _ _
  refine wpAny_bind (tup_nextOf_end hh (h1.extBut hs₁.extBut D.i1z) (hl1.extBut hs₁.extBut D.tz) hx fun h₂ e hs₂ he => ?_)
  obtain ⟨oe, hoe, hce⟩ := he
  have hz₂ : IsZip h₂ z TI TO .ellipsis := hs₂ _ _ D.i1z.symm hz₁
  have hez : e ≠ z := fun x => by subst x; rw [hz₂] at hoe; cases hoe; simp at hce
  exact wpAny_setField_rec hz₂ (by simp) fun h₃ _ hs₃ => hE h₃ e (fun d o c1 c3 x => hs₃.extBut _ _ c1 (hs₂ _ _ c3 (hs₁.extBut _ _ c1 x))) ⟨oe, hs₃.extBut _ _ hez hoe, hce⟩
theorem z3_pyNext_item {z TI TO i1 i2 i3 t b c : Addr} {k : Nat} {xs ys zs : Array Value} {x y v a0 b0 c0 : Value} {Q : Option Value → Shared → Prop} (D : Z3 z TI TO i1 i2 i3 t b c) (hz : IsZip s.heap z TI TO .none) (hTI : Is3 s.heap TI (.ref i1) (.ref i2) (.ref i3)) (hTO : Is3 s.heap TO a0 b0 c0)
    (h1 : s.heap.IsTupleIter i1 t k) (h2 : s.heap.IsListIter i2 b k) (h3 : s.heap.IsListIter i3 c k) (hl1 : s.heap.IsTuple t xs) (hl2 : s.heap.IsList b ys) (hl3 : s.heap.IsList c zs) (hx : xs[k]? = some x) (hy : ys[k]? = some y) (hv : zs[k]? = some v)
    (hQ : ∀ h', IsZip h' z TI TO (rawInt s.heap.objs.size) → Is3 h' TO x y v → h'.IsTupleIter i1 t (k + 1) → h'.IsListIter i2 b (k + 1) → h'.IsListIter i3 c (k + 1) → Is3 h' s.heap.objs.size x y v → h'.objs.size = s.heap.objs.size + 1 →
      (∀ d o, d ≠ z → d ≠ TO → d ≠ i1 → d ≠ i2 → d ≠ i3 → s.heap.get? d = some o → h'.get? d = some o) → Q (some (.ref s.heap.objs.size)) { s with heap := h' }) : wpAny (model prog w) A (pyNext (.ref z)) Q E s := by
  have hT : s.TypeIs (.ref z) "zip" := ⟨_, hz, rfl⟩
  unfold pyNext
  exact wpAny_bind (wpAny_attempt (wpAny_callSpecial?_slot (name := Str.ofString "__next__") hT F.slot_zip_next (wpAny_call_entry F.slot_zip_next hT F.entry_zip_next
      (z3_item D hz hTI hTO h1 h2 h3 hl1 hl2 hl3 hx hy hv fun h' a1 a2 a3 a4 a5 a6 a7 a8 => wpAny_pure (hQ h' a1 a2 a3 a4 a5 a6 a7 a8)) (F.args_zip_next_1 _))))
theorem z3_pyNext_end {z TI TO i1 i2 i3 t b c : Addr} {k : Nat} {xs : Array Value} {Q : Option Value → Shared → Prop} (hh : A.handled = none) (D : Z3 z TI TO i1 i2 i3 t b c) (hz : IsZip s.heap z TI TO .none) (hTI : Is3 s.heap TI (.ref i1) (.ref i2) (.ref i3))
    (h1 : s.heap.IsTupleIter i1 t k) (hl1 : s.heap.IsTuple t xs) (hx : xs[k]? = none) (hQ : ∀ h', (∀ d o, d ≠ z → d ≠ i1 → s.heap.get? d = some o → h'.get? d = some o) → Q none { s with heap := h' }) : wpAny (model prog w) A (pyNext (.ref z)) Q E s := by
  have hT : s.TypeIs (.ref z) "zip" := ⟨_, hz, rfl⟩
  unfold pyNext
  refine wpAny_bind (wpAny_attempt (wpAny_callSpecial?_slot (name := Str.ofString "__next__") hT F.slot_zip_next (wpAny_call_entry F.slot_zip_next hT F.entry_zip_next (z3_end hh D hz hTI h1 hl1 hx fun h' e hk he => ?_) (F.args_zip_next_1 _))))
  obtain ⟨o, ho, hc⟩ := he
  refine wpAny_bind (wpAny_isInstance (T := "StopIteration") (b := true) ⟨o, ho, hc⟩ isSubtype_stop ?_)
  exact wpAny_pure (hQ _ hk)
end
end PySem

end
section
set_option Elab.async false
set_option linter.all false
set_option maxRecDepth 100000
namespace PySem
noncomputable abbrev z3H1 (h : Heap) (t : Addr) : Heap := h.push { cls := .type "tuple_iterator", data := .fields #[.ref t, .int 0 0] }
noncomputable abbrev z3H2 (h : Heap) (t b : Addr) : Heap := (z3H1 h t).push { cls := .type "list_iterator", data := .fields #[.ref b, .int 0 0] }
noncomputable abbrev z3H3 (h : Heap) (t b c : Addr) : Heap := (z3H2 h t b).push { cls := .type "list_iterator", data := .fields #[.ref c, .int 0 0] }
noncomputable abbrev z3H4 (h : Heap) (t b c : Addr) : Heap := (z3H3 h t b c).push { cls := .type "tuple", data := .seq #[.ref h.objs.size, .ref (z3H1 h t).objs.size, .ref (z3H2 h t b).objs.size] }
noncomputable abbrev z3H5 (h : Heap) (t b c : Addr) : Heap := (z3H4 h t b c).push { cls := .type "tuple", data := .seq #[.none, .none, .none] }
noncomputable abbrev z3H6 (h : Heap) (t b c : Addr) : Heap := (z3H5 h t b c).push { cls := .type "zip", data := .fields #[.none, .bool false, .bool false, .ref (z3H3 h t b c).objs.size, .ref (z3H4 h t b c).objs.size] }
theorem z3_new (t b c : Addr) (xs ys zs : Array Value) :
    Meets (Builtin.«zip.__new__» ⟨[.type "zip", .ref t, .ref b, .ref c], []⟩) (fun _ R s => s.heap.IsTuple t xs ∧ s.heap.IsList b ys ∧ s.heap.IsList c zs ∧ R (.ok (.ret (.ref (z3H5 s.heap t b c).objs.size))) { s with heap := z3H6 s.heap t b c }) :=
  .of_wp fun prog w A R s h => by
    obtain ⟨hp, g, d, tk, os⟩ := s; obtain ⟨hl1, hl2, hl3, h⟩ := h
    have hsub := sub_zip
    have hL1 : Heap.IsTuple (Shared.heap ⟨hp, g, d, tk, os⟩) t xs := hl1
    have hL2 : Heap.IsList (Shared.heap ⟨hp.push { cls := .type "tuple_iterator", data := .fields #[.ref t, .int 0 0] }, g, d, tk, os⟩) b ys := Heap.IsList.push hl2 _
    have hL3 : Heap.IsList (Shared.heap ⟨(hp.push { cls := .type "tuple_iterator", data := .fields #[.ref t, .int 0 0] }).push { cls := .type "list_iterator", data := .fields #[.ref b, .int 0 0] }, g, d, tk, os⟩) c zs := Heap.IsList.push (Heap.IsList.push hl3 _) _
    wp_walk using wpAny_pyIter_tuple hL1, wpAny_pyIter_list hL2, wpAny_pyIter_list hL3
    exact ⟨_, rfl, h⟩
section
variable {prog : Program} {w : World} {A : Around} {E : Value → Shared → Prop} {s : Shared}
theorem call_zip_3 {t b c : Addr} {xs ys zs : Array Value} {Q : Value → Shared → Prop} (hl1 : s.heap.IsTuple t xs) (hl2 : s.heap.IsList b ys) (hl3 : s.heap.IsList c zs)
    (h : ∀ h', IsZip h' (s.heap.objs.size + 5) (s.heap.objs.size + 3) (s.heap.objs.size + 4) .none → Is3 h' (s.heap.objs.size + 3) (.ref s.heap.objs.size) (.ref (s.heap.objs.size + 1)) (.ref (s.heap.objs.size + 2)) →
      Is3 h' (s.heap.objs.size + 4) .none .none .none → h'.IsTupleIter s.heap.objs.size t 0 → h'.IsListIter (s.heap.objs.size + 1) b 0 → h'.IsListIter (s.heap.objs.size + 2) c 0 → (∀ d o, s.heap.get? d = some o → h'.get? d = some o) → Q (.ref (s.heap.objs.size + 5)) { s with heap := h' }) :
    wpAny (model prog w) A (call (.type "zip") [.ref t, .ref b, .ref c]) Q E s := by
  refine callType_new F.called_zip (by decide) (F.z3_typeCall _ _ _) (F.z3_newCall _ _ _) (fun obj => F.z3_args_init obj _ _ _) F.entry_zip_new (z3_new t b c xs ys zs) ⟨hl1, hl2, hl3, ?_⟩
  have z1 : (z3H1 s.heap t).objs.size = s.heap.objs.size + 1 := Heap.size_push ..
  have z2 : (z3H2 s.heap t b).objs.size = s.heap.objs.size + 2 := by rw [Heap.size_push, z1]
  have z3 : (z3H3 s.heap t b c).objs.size = s.heap.objs.size + 3 := by rw [Heap.size_push, z2]
  have z4 : (z3H4 s.heap t b c).objs.size = s.heap.objs.size + 4 := by rw [Heap.size_push, z3]
  have z5 : (z3H5 s.heap t b c).objs.size = s.heap.objs.size + 5 := by rw [Heap.size_push, z4]
  have g6 : (z3H6 s.heap t b c).get? (z3H5 s.heap t b c).objs.size = some _ := Heap.get?_push_size _ rfl
  have g5 : (z3H6 s.heap t b c).get? (z3H4 s.heap t b c).objs.size = some _ := Heap.get?_push_of_some _ (Heap.get?_push_size _ rfl)
  have g4 : (z3H6 s.heap t b c).get? (z3H3 s.heap t b c).objs.size = some _ := Heap.get?_push_of_some _ (Heap.get?_push_of_some _ (Heap.get?_push_size _ rfl))
  have g3 : (z3H6 s.heap t b c).get? (z3H2 s.heap t b).objs.size = some _ := Heap.get?_push_of_some _ (Heap.get?_push_of_some _ (Heap.get?_push_of_some _ (Heap.get?_push_size _ rfl)))
  have g2 : (z3H6 s.heap t b c).get? (z3H1 s.heap t).objs.size = some _ := Heap.get?_push_of_some _ (Heap.get?_push_of_some _ (Heap.get?_push_of_some _ (Heap.get?_push_of_some _ (Heap.get?_push_size _ rfl))))
  have g1 : (z3H6 s.heap t b c).get? s.heap.objs.size = some _ := Heap.get?_push_of_some _ (Heap.get?_push_of_some _ (Heap.get?_push_of_some _ (Heap.get?_push_of_some _ (Heap.get?_push_of_some _ (Heap.get?_push_size _ rfl)))))
  show _ ∧ _
  rw [z3, z4, z5] at g6
  rw [z1, z2, z3] at g4
  rw [z4] at g5
  rw [z2] at g3
  rw [z1] at g2
  rw [z5]
  exact ⟨⟨_, g6, rfl⟩, h _ g6 g4 g5 ⟨_, g1, rfl, rfl⟩ ⟨_, g2, rfl, rfl⟩ ⟨_, g3, rfl, rfl⟩ fun d o x => Heap.get?_push_of_some _ (Heap.get?_push_of_some _ (Heap.get?_push_of_some _ (Heap.get?_push_of_some _ (Heap.get?_push_of_some _ (Heap.get?_push_of_some _ x)))))⟩
end
end PySem
namespace L2.Bk
open PySem PySem.Spec PyProof.Rows L2.Bw
theorem off_ofT {X : Cx} {pins : List (Addr × Obj)} {σ : St} {H : Hp} {s : Shared} (I : Inv X pins σ H s) {c l : Addr} {us : List V} (f : FpOk X pins H c) (hq : SqT X.K H l us) : l ≠ c := fun e => by
  subst e
  rcases hq with q | q
  · rcases q with q | ⟨o, q⟩
    · rw [f.1] at q; cases q
    · rw [f.1] at q; cases q
  · obtain ⟨o, its, n, q, _⟩ := q
    have bk := I.ok.mod.kin _ _ q
    rcases f.2.2.2.1 with f | f
    · exact I.ok.noex _ _ bk f
    · exact absurd (Nat.lt_of_lt_of_le (Heap.lt_size bk) (Nat.le_trans I.ok.bsz f)) (Nat.lt_irrefl _)
noncomputable def Apart6 (z TI TO i1 i2 i3 : Addr) : Prop := z ≠ TI ∧ z ≠ TO ∧ z ≠ i1 ∧ z ≠ i2 ∧ z ≠ i3 ∧ TI ≠ TO ∧ TI ≠ i1 ∧ TI ≠ i2 ∧ TI ≠ i3 ∧ TO ≠ i1 ∧ TO ≠ i2 ∧ TO ≠ i3 ∧ i1 ≠ i2 ∧ i1 ≠ i3 ∧ i2 ≠ i3
theorem z3_apart {z TI TO i1 i2 i3 t b c : Addr} (h : Apart6 z TI TO i1 i2 i3) (ha : ∀ d ∈ [z, TI, TO, i1, i2, i3], t ≠ d) (hb : ∀ d ∈ [z, TI, TO, i1, i2, i3], b ≠ d) (hc : ∀ d ∈ [z, TI, TO, i1, i2, i3], c ≠ d) : Z3 z TI TO i1 i2 i3 t b c := by
  obtain ⟨h1, h2, h3, h4, h5, h6, h7, h8, h9, h10, h11, h12, h13, h14, h15⟩ := h
  simp only [List.mem_cons, List.not_mem_nil, or_false, forall_eq_or_imp, forall_eq] at ha hb hc
  obtain ⟨a1, a2, a3, a4, a5, a6⟩ := ha
  obtain ⟨b1, b2, b3, b4, b5, b6⟩ := hb
  obtain ⟨c1, c2, c3, c4, c5, c6⟩ := hc
  constructor <;> first | assumption | exact Ne.symm (by assumption)
noncomputable def It3 (K : PySem.W.Frag) (t b c : Addr) : It where
  go := fun i H => ∃ us xs ys, SqT K H t us ∧ SqL K H b xs ∧ SqL K H c ys ∧ i < us.length ∧ i < xs.length ∧ i < ys.length
  yld := fun i H v H' => ∃ T u x y, v = .ref T ∧ H T = none ∧ H' = upd H T (.tup [u, x, y]) ∧ (∀ us, SqT K H t us → us[i]? = some u) ∧ (∀ xs, SqL K H b xs → xs[i]? = some x) ∧ ∀ ys, SqL K H c ys → ys[i]? = some y
  stop := fun i H => ∃ us xs ys, SqT K H t us ∧ SqL K H b xs ∧ SqL K H c ys ∧ i = us.length
theorem turn_zip3 {P : Program} {w : World} {K : PySem.W.Frag} {es : List Expr} {k : Nat} {tp : Pos} (t b c z TI TO i1 i2 i3 : Addr) (hap : Apart6 z TI TO i1 i2 i3) :
    Turn P w K (.Tuple es k tp) (It3 K t b c) [z, TI, TO, i1, i2, i3] z (fun i h => IsZip h z TI TO .none ∧ Is3 h TI (.ref i1) (.ref i2) (.ref i3) ∧ (∃ u v x, Is3 h TO u v x) ∧ h.IsTupleIter i1 t i ∧ h.IsListIter i2 b i ∧ h.IsListIter i3 c i) where
  mem := by simp
  obj := fun i h st d hd => by
    obtain ⟨h1, h2, ⟨u, v, x, h3⟩, ⟨o4, e4, c4, d4⟩, ⟨o5, e5, c5, d5⟩, ⟨o6, e6, c6, d6⟩⟩ := st
    have hd' : d = z ∨ d = TI ∨ d = TO ∨ d = i1 ∨ d = i2 ∨ d = i3 := by simpa using hd
    rcases hd' with rfl | rfl | rfl | rfl | rfl | rfl
    · exact ⟨_, h1, fun v q => by cases (show Data.fields _ = Data.cell v from q)⟩
    · exact ⟨_, h2, fun v q => by cases (show Data.seq _ _ = Data.cell v from q)⟩
    · exact ⟨_, h3, fun v q => by cases (show Data.seq _ _ = Data.cell v from q)⟩
    · exact ⟨o4, e4, fun v q => by rw [d4] at q; cases q⟩
    · exact ⟨o5, e5, fun v q => by rw [d5] at q; cases q⟩
    · exact ⟨o6, e6, fun v q => by rw [d6] at q; cases q⟩
  keep := fun i h h' st kp => by
    obtain ⟨h1, h2, ⟨u, v, x, h3⟩, h4, h5, h6⟩ := st
    exact ⟨kp z (by simp) _ h1, kp TI (by simp) _ h2, ⟨u, v, x, kp TO (by simp) _ h3⟩, h4.at fun o e => kp i1 (by simp) o e, h5.at fun o e => kp i2 (by simp) o e, h6.at fun o e => kp i3 (by simp) o e⟩
  item := by
    intro X hP hw hK hc i pins s σ H E I hf st hg
    subst hP hw hK
    obtain ⟨us, xs, ys, hu, hx, hy, l0, l1, l2⟩ := hg
    obtain ⟨its0, r0, p0, z0⟩ := I.tuple hu
    obtain ⟨its1, r1, p1, z1⟩ := I.list hx
    obtain ⟨its2, r2, p2, z2⟩ := I.list hy
    obtain ⟨h1, h2, h3, h4, h5, h6⟩ := st
    have D : Z3 z TI TO i1 i2 i3 t b c := z3_apart hap (fun d hd => off_ofT I (hf d hd) hu) (fun d hd => off_of I (hf d hd) hx) (fun d hd => off_of I (hf d hd) hy)
    obtain ⟨uv, euv, ru⟩ := r0.get (List.getElem?_eq_getElem l0)
    obtain ⟨xv, exv, rx⟩ := r1.get (List.getElem?_eq_getElem l1)
    obtain ⟨yv, eyv, ry⟩ := r2.get (List.getElem?_eq_getElem l2)
    obtain ⟨a0, b0, c0, h3'⟩ := h3
    refine z3_pyNext_item D h1 h2 h3' h4 h5 h6 (show s.heap.IsTuple t its0.toArray from p0) p1.isList p2.isList (x := uv) (y := xv) (v := yv) (by simpa using euv) (by simpa using exv) (by simpa using eyv) fun h' a1 a2 a3 a4 a5 a6 a7 kp => ?_
    have lt : ∀ {d o}, s.heap.get? d = some o → s.heap.objs.size ≠ d := fun e => Nat.ne_of_gt (Heap.lt_size e)
    refine ⟨_, rfl, wpAny_letOwnedTupleGo_zip a1 fun h2' hz' hs' => ?_⟩
    have n1 : s.heap.objs.size ≠ z := lt h1
    have n2 : s.heap.objs.size ≠ TO := lt h3'
    have n3 : s.heap.objs.size ≠ i1 := by obtain ⟨_, e, _⟩ := h4; exact lt e
    have n4 : s.heap.objs.size ≠ i2 := by obtain ⟨_, e, _⟩ := h5; exact lt e
    have n5 : s.heap.objs.size ≠ i3 := by obtain ⟨_, e, _⟩ := h6; exact lt e
    have n6 : s.heap.objs.size ≠ TI := lt h2
    have ht2 : IsTup h2' s.heap.objs.size #[uv, xv, yv] := ⟨_, hs'.extBut _ _ n1 a6, rfl, _, rfl⟩
    have hT : s.heap.objs.size ≤ s.heap.objs.size := Nat.le_refl _
    have I2 : Inv X pins σ (upd H s.heap.objs.size (.tup [us[i], xs[i], ys[i]])) { s with heap := h2', toks := s.toks } :=
      turnedT (ch := [z, TO, i1, i2, i3]) I (fun d o hd e => hs'.extBut _ _ (fun x => hd (by simp [x])) (kp d o (fun x => hd (by simp [x])) (fun x => hd (by simp [x])) (fun x => hd (by simp [x])) (fun x => hd (by simp [x])) (fun x => hd (by simp [x])) e))
        (fun d hd => hf d (by simp at hd ⊢; rcases hd with rfl | rfl | rfl | rfl | rfl <;> simp)) hT ⟨[uv, xv, yv], .cons ru (.cons rx (.cons ry .nil)), ht2⟩ (by show 3 ≤ sizeLine; decide)
    refine ⟨.ref s.heap.objs.size, _, I2, rfl, ⟨s.heap.objs.size, us[i], xs[i], ys[i], rfl, I.hok.fresh hT, rfl, fun vs hv => ?_, fun vs hv => ?_, fun vs hv => ?_⟩,
      ⟨hz', hs'.extBut _ _ D.TIz (kp _ _ D.TIz D.TITO D.TIi1 D.TIi2 D.TIi3 h2), ⟨_, _, _, hs'.extBut _ _ D.TOz a2⟩, a3.extBut hs'.extBut D.i1z, a4.extBut hs'.extBut D.i2z, a5.extBut hs'.extBut D.i3z⟩, fun d hd => ?_⟩
    · rw [I.tuple_inj hv hu]; exact List.getElem?_eq_getElem l0
    · rw [I.list_inj hv hx]; exact List.getElem?_eq_getElem l1
    · rw [I.list_inj hv hy]; exact List.getElem?_eq_getElem l2
    · have hd' : d = z ∨ d = TI ∨ d = TO ∨ d = i1 ∨ d = i2 ∨ d = i3 := by simpa using hd
      have hne : d ≠ s.heap.objs.size := by
        rcases hd' with rfl | rfl | rfl | rfl | rfl | rfl
        · exact n1.symm
        · exact n6.symm
        · exact n2.symm
        · exact n3.symm
        · exact n4.symm
        · exact n5.symm
      rw [upd_ne hne]
      exact (hf d hd).1
  done := by
    intro X hP hw hK hc i pins s σ H E I hf st hg
    subst hP hw hK
    obtain ⟨us, xs, ys, hu, hx, hy, hi⟩ := hg
    obtain ⟨its0, r0, p0, z0⟩ := I.tuple hu
    obtain ⟨h1, h2, h3, h4, h5, h6⟩ := st
    have len0 := r0.length
    have D : Z3 z TI TO i1 i2 i3 t b c := z3_apart hap (fun d hd => off_ofT I (hf d hd) hu) (fun d hd => off_of I (hf d hd) hx) (fun d hd => off_of I (hf d hd) hy)
    refine z3_pyNext_end (I.ok.hd hc) D h1 h2 h4 (show s.heap.IsTuple t its0.toArray from p0) (by simp; omega) fun h' kp => ⟨rfl, ?_⟩
    exact turnedN (ch := [z, i1]) (t' := s.toks) I (fun d o hd e => kp d o (fun x => hd (by simp [x])) (fun x => hd (by simp [x])) e) (fun d hd => hf d (by simp at hd ⊢; rcases hd with rfl | rfl <;> simp))
  self := fun _ _ _ _ _ st h => wpAny_pyIter_zip st.1 h
theorem apart6' (n : Nat) : (n + 5 : Nat) ≠ n + 3 ∧ (n + 5 : Nat) ≠ n + 4 ∧ (n + 5 : Nat) ≠ n ∧ (n + 5 : Nat) ≠ n + 1 ∧ (n + 5 : Nat) ≠ n + 2 ∧ (n + 3 : Nat) ≠ n + 4 ∧ (n + 3 : Nat) ≠ n ∧ (n + 3 : Nat) ≠ n + 1 ∧ (n + 3 : Nat) ≠ n + 2 ∧ (n + 4 : Nat) ≠ n ∧ (n + 4 : Nat) ≠ n + 1 ∧ (n + 4 : Nat) ≠ n + 2 ∧ (n : Nat) ≠ n + 1 ∧ (n : Nat) ≠ n + 2 ∧ (n + 1 : Nat) ≠ n + 2 := by omega
theorem apart6 (n : Nat) : Apart6 (n + 5) (n + 3) (n + 4) n (n + 1) (n + 2) := apart6' n
theorem le6 (n c : Nat) (h : c = n + 5 ∨ c = n + 3 ∨ c = n + 4 ∨ c = n ∨ c = n + 1 ∨ c = n + 2) : n ≤ c := by omega
section
variable {X : Cx}
noncomputable def iZip3 (K : PySem.W.Frag) (ta : TA) : TI := fun σ H R => ta σ H fun vs H1 => ∃ t b c us xs ys, vs = [.ref t, .ref b, .ref c] ∧ SqT K H1 t us ∧ SqL K H1 b xs ∧ SqL K H1 c ys ∧ R (It3 K t b c) H1
theorem vals3 {x y z : V} {us : List Value} (r : Vals [x, y, z] us) : ∃ a b c, us = [a, b, c] ∧ RelV x a ∧ RelV y b ∧ RelV z c := by
  cases r with
  | cons r1 r => cases r with
    | cons r2 r => cases r with
      | cons r3 r => cases r; exact ⟨_, _, _, rfl, r1, r2, r3⟩
theorem pi_zip3 {es : List Expr} {k : Nat} {tp p pos : Pos} {a b c : Expr} {ta : TA} (hg : Gl X "zip") (hm : X.mg "zip" = none) (ha : PA X [a, b, c] ta) (hs : starEach [a, b, c] X.env = [(false, eval a X.env), (false, eval b X.env), (false, eval c X.env)] := by rfl) (hs2 : starEach [b, c] X.env = [(false, eval b X.env), (false, eval c X.env)] := by rfl) :
    PI X (.Tuple es k tp) (.Call (.Name "zip" p) [a, b, c] [] pos) (iZip3 X.K ta) := by
  intro pins s σ H R I h
  refine Call_ (ld_blt I hg hm boot_zip (PyProof.Rows.callWith_type1 (thn (ha pos pins s σ H _ I h) fun us s1 q1 => ?_) (by rw [hs, hs2]) (by rw [hs2]; rfl)))
  obtain ⟨vs, H1, I1, r1, t1, l1, l2, ws, xs, ys, e, hw, hx, hy, q⟩ := q1
  subst e
  obtain ⟨u0, u1, u2, e, ru0, ru1, ru2⟩ := vals3 r1
  subst e
  cases ru0; cases ru1; cases ru2
  obtain ⟨i0, v0, p0, z0⟩ := I1.tuple hw
  obtain ⟨i1, v1, p1, z1⟩ := I1.list hx
  obtain ⟨i2, v2, p2, z2⟩ := I1.list hy
  refine call_zip_3 (show s1.heap.IsTuple t1 i0.toArray from p0) p1.isList p2.isList fun h' hz hTI hTO g0 g1 g2 kp => wpAny_pyIter_zip hz ?_
  have I2 : Inv X pins σ H1 { s1 with heap := h' } := I1.kept (t' := s1.toks) kp
  refine ⟨s1.heap.objs.size + 5, [s1.heap.objs.size + 5, s1.heap.objs.size + 3, s1.heap.objs.size + 4, s1.heap.objs.size, s1.heap.objs.size + 1, s1.heap.objs.size + 2], _, It3 X.K t1 l1 l2, H1, rfl, I2, turn_zip3 t1 l1 l2 _ _ _ _ _ _ (apart6 _), ⟨hz, hTI, ⟨_, _, _, hTO⟩, g0, g1, g2⟩, fun d hd => ?_, q⟩
  have hd' : s1.heap.objs.size ≤ d := le6 _ _ (by simpa using hd)
  exact I1.fpOk hd' (I1.hok.fresh hd')
end
end L2.Bk

end
section
set_option Elab.async false
set_option linter.all false
set_option maxRecDepth 100000
/-! Where two kinds part. -/
namespace L2.Bk
open PySem PySem.Spec PyProof.Rows L2.Bw
noncomputable def stepTab : List (Str × List Str) := [("whole", []), ("truth", []), ("?", []), ("to", ["arg", "res"]), ("row", ["item"]), ("pair", ["one", "two"])]
noncomputable def stepsOf (h : Str) : List Str := (KTD.datumAt h stepTab).getD []
theorem heads_of {h : Str} {n : Nat} (e : arity h = some n) : h ∈ (["whole", "truth", "?", "row", "to", "pair"] : List Str) := by
  unfold arity at e
  by_cases c1 : h = "whole"
  · simp [c1]
  rw [if_neg c1] at e
  by_cases c2 : h = "truth"
  · simp [c2]
  rw [if_neg c2] at e
  by_cases c3 : h = "?"
  · simp [c3]
  rw [if_neg c3] at e
  by_cases c4 : h = "row"
  · simp [c4]
  rw [if_neg c4] at e
  by_cases c5 : h = "to"
  · simp [c5]
  rw [if_neg c5] at e
  by_cases c6 : h = "pair"
  · simp [c6]
  rw [if_neg c6] at e
  cases e
theorem steps_all : ∀ h ∈ (["whole", "truth", "?", "row", "to", "pair"] : List Str), KTD.datumAt h stepTab = some (stepsOf h) ∧ arity h = some (stepsOf h).length := by decide +kernel
theorem steps_len {h : Str} {n : Nat} (e : arity h = some n) : (stepsOf h).length = n := by
  have := (steps_all h (heads_of e)).2
  rw [e] at this
  exact (Option.some.inj this).symm
mutual
noncomputable def Kn.part : Kn → Kn → Option (List Str)
  | .mk h ks, .mk g ls => if h = "?" then none else if g = "?" then none else if h = g then Kn.parts (stepsOf h) ks ls else some []
noncomputable def Kn.parts : List Str → List Kn → List Kn → Option (List Str)
  | s :: ss, t :: r, u :: q => match t.part u with
    | some w => some (s :: w)
    | none => Kn.parts ss r q
  | [], _, _ => none
  | _ :: _, [], _ => none
  | _ :: _, _ :: _, [] => none
end
mutual
noncomputable def Kn.ways : Kn → Kn → List (List Str)
  | .mk h ks, .mk g ls => if h = "?" then [] else if g = "?" then [] else if h = g then Kn.wayss (stepsOf h) ks ls else [[]]
noncomputable def Kn.wayss : List Str → List Kn → List Kn → List (List Str)
  | s :: ss, t :: r, u :: q => (t.ways u).map (s :: ·) ++ Kn.wayss ss r q
  | [], _, _ => []
  | _ :: _, [], _ => []
  | _ :: _, _ :: _, [] => []
end
mutual
theorem part_ways : ∀ (a b : Kn), a.part b = (a.ways b).head?
  | .mk h ks, .mk g ls => by
    show (if h = "?" then none else if g = "?" then none else if h = g then Kn.parts (stepsOf h) ks ls else some []) = (if h = "?" then [] else if g = "?" then [] else if h = g then Kn.wayss (stepsOf h) ks ls else [[]]).head?
    by_cases c1 : h = "?"
    · rw [if_pos c1, if_pos c1]; rfl
    rw [if_neg c1, if_neg c1]
    by_cases c2 : g = "?"
    · rw [if_pos c2, if_pos c2]; rfl
    rw [if_neg c2, if_neg c2]
    by_cases c3 : h = g
    · rw [if_pos c3, if_pos c3]; exact parts_wayss _ ks ls
    · rw [if_neg c3, if_neg c3]; rfl
theorem parts_wayss : ∀ (ss : List Str) (ks ls : List Kn), Kn.parts ss ks ls = (Kn.wayss ss ks ls).head?
  | [], _, _ => by rw [Kn.parts, Kn.wayss]; rfl
  | _ :: _, [], _ => rfl
  | _ :: _, _ :: _, [] => rfl
  | s :: ss, t :: r, u :: q => by
    show (match t.part u with | some w => some (s :: w) | none => Kn.parts ss r q) = ((t.ways u).map (s :: ·) ++ Kn.wayss ss r q).head?
    rw [part_ways t u, parts_wayss ss r q]
    cases t.ways u with
    | nil => rfl
    | cons w ws => rfl
end
theorem parts_drop {ss : List Str} {ks ls : List Kn} {i : Nat} (h0 : i < ss.length) (h1 : i < ks.length) (h2 : i < ls.length) :
    Kn.parts (ss.drop i) (ks.drop i) (ls.drop i) = match ks[i].part ls[i] with | some w => some (ss[i] :: w) | none => Kn.parts (ss.drop (i + 1)) (ks.drop (i + 1)) (ls.drop (i + 1)) := by
  rw [List.drop_eq_getElem_cons h0, List.drop_eq_getElem_cons h1, List.drop_eq_getElem_cons h2]
  rfl
mutual
theorem way_short : ∀ (a b : Kn), ∀ w ∈ a.ways b, w.length < a.dep
  | .mk h ks, .mk g ls, w, hw => by
    have hw' : w ∈ (if h = "?" then [] else if g = "?" then [] else if h = g then Kn.wayss (stepsOf h) ks ls else [[]]) := hw
    have hd : (Kn.mk h ks).dep = 1 + Kn.deps ks := rfl
    split at hw'
    · cases hw'
    · split at hw'
      · cases hw'
      · split at hw'
        · have := wayss_short (stepsOf h) ks ls w hw'
          omega
        · rw [List.mem_singleton.mp hw', List.length_nil]
          omega
theorem wayss_short : ∀ (ss : List Str) (ks ls : List Kn), ∀ w ∈ Kn.wayss ss ks ls, w.length ≤ Kn.deps ks
  | [], _, _, _, hw => by rw [Kn.wayss] at hw; cases hw
  | _ :: _, [], _, _, hw => nomatch hw
  | _ :: _, _ :: _, [], _, hw => nomatch hw
  | s :: ss, t :: r, u :: q, w, hw => by
    have hd : Kn.deps (t :: r) = max t.dep (Kn.deps r) := rfl
    rcases List.mem_append.mp hw with z | z
    · obtain ⟨v, hv, e⟩ := List.mem_map.mp z
      subst e
      have := way_short t u v hv
      rw [List.length_cons]
      omega
    · have := wayss_short ss r q w z
      omega
end
noncomputable def wd (w : List Str) : Dk := .tup (w.map Dk.str)
noncomputable def od : Option (List Str) → Dk
  | none => .non
  | some w => wd w
end L2.Bk

end
section
set_option Elab.async false
set_option linter.all false
namespace L2.Bk
open PySem PySem.Spec PyProof.Rows L2.Bw
end L2.Bk

end
section
set_option Elab.async false
set_option linter.all false
set_option maxRecDepth 100000
/-! The meet of two kinds. -/
namespace L2.Bk
open PySem PySem.Spec PyProof.Rows L2.Bw
mutual
noncomputable def Kn.both : Kn → Kn → Kn
  | .mk h ks, .mk g ls => if h = "?" then .mk g ls else if g = "?" then .mk h ks else .mk h (Kn.boths ks ls)
noncomputable def Kn.boths : List Kn → List Kn → List Kn
  | t :: r, u :: q => t.both u :: Kn.boths r q
  | [], _ => []
  | _ :: _, [] => []
end
theorem part_q (b : Kn) : qK.part b = none := by
  obtain ⟨g, ls⟩ := b
  have e : qK.part (.mk g ls) = if ("?" : Str) = "?" then none else if g = "?" then none else if ("?" : Str) = g then Kn.parts (stepsOf "?") [] ls else some [] := rfl
  exact e.trans (if_pos rfl)
end L2.Bk

end
section
set_option Elab.async false
set_option linter.all false
set_option maxRecDepth 100000
/-! Looser kinds. -/
namespace L2.Bk
open PySem PySem.Spec PyProof.Rows L2.Bw
mutual
noncomputable def Kn.loose : Kn → Kn → Bool
  | .mk h ks, .mk g ls => if g = "?" then true else if h = g then (Kn.looses ks ls).all id else false
noncomputable def Kn.looses : List Kn → List Kn → List Bool
  | t :: r, u :: q => t.loose u :: Kn.looses r q
  | [], _ => []
  | _ :: _, [] => []
end
/-- what is told there and otherwise here -/
noncomputable def off (a b : Kn) (p : List Nat) : Prop := b.headAt p ≠ "?" ∧ b.headAt p ≠ a.headAt p
end L2.Bk

end
section
set_option Elab.async false
set_option linter.all false
set_option maxRecDepth 100000
/-! == of any nested data; t + u with t empty; t * n; a dict of the module from texts to texts. -/
namespace L2.Bk
open PySem PySem.Spec PyProof.Rows L2.Bw PyProof.Rows.LSm
mutual
noncomputable def Dk.eqb : Dk → Dk → Bool
  | .tup ds, y => match y with | .tup es => eqbs ds es | _ => false
  | .non, y => match y with | .non => true | _ => false
  | .bl a, y => match y with | .bl b => a == b | .int b => (if a then 1 else 0) == b | _ => false
  | .int a, y => match y with | .int b => a == b | .bl b => a == (if b then 1 else 0) | _ => false
  | .str a, y => match y with | .str b => a == b | _ => false
noncomputable def eqbs : List Dk → List Dk → Bool
  | [], y => match y with | [] => true | _ :: _ => false
  | d :: ds, y => match y with | e :: es => d.eqb e && eqbs ds es | [] => false
end
mutual
theorem eqb_refl : ∀ (d : Dk), d.eqb d = true
  | .tup ds => by show eqbs ds ds = true; exact eqbs_refl ds
  | .non => rfl
  | .bl a => by show (a == a) = true; simp
  | .int a => by show (a == a) = true; simp
  | .str a => by show (a == a) = true; simp
theorem eqbs_refl : ∀ (ds : List Dk), eqbs ds ds = true
  | [] => rfl
  | d :: ds => by show (d.eqb d && eqbs ds ds) = true; rw [eqb_refl d, eqbs_refl ds]; rfl
end
mutual
noncomputable def nob : Dk → Prop
  | .bl _ => False
  | .tup ds => nobs ds
  | .non => True
  | .int _ => True
  | .str _ => True
noncomputable def nobs : List Dk → Prop
  | [] => True
  | d :: r => nob d ∧ nobs r
end
mutual
theorem eqb_eq : ∀ {d e : Dk}, nob d → nob e → d.eqb e = true → d = e
  | .tup ds, e, hd, he, h => by
    cases e with
    | tup es => rw [eqbs_eq (ds := ds) (es := es) (by rw [nob] at hd; exact hd) (by rw [nob] at he; exact he) h]
    | _ => cases h
  | .non, e, _, _, h => by cases e <;> first | rfl | cases h
  | .bl a, e, hd, _, h => by rw [nob] at hd; exact hd.elim
  | .int a, e, hd, he, h => by
    cases e with
    | int b => rw [show a = b by simpa [Dk.eqb] using h]
    | bl b => rw [nob] at he; exact he.elim
    | _ => cases h
  | .str a, e, _, _, h => by
    cases e with
    | str b => rw [show a = b by simpa [Dk.eqb] using h]
    | _ => cases h
theorem eqbs_eq : ∀ {ds es : List Dk}, nobs ds → nobs es → eqbs ds es = true → ds = es
  | [], es, _, _, h => by cases es <;> first | rfl | cases h
  | d :: ds, es, hd, he, h => by
    rw [nobs] at hd
    cases es with
    | nil => cases h
    | cons e es =>
      rw [nobs] at he
      have h' : (d.eqb e && eqbs ds es) = true := h
      rw [Bool.and_eq_true_iff] at h'
      rw [eqb_eq hd.1 he.1 h'.1, eqbs_eq hd.2 he.2 h'.2]
end
mutual
theorem nob_d : ∀ (t : Kn), nob t.d
  | .mk h ks => by show nob (.tup (.str h :: Kn.ds ks)); rw [nob, nobs, nob]; exact ⟨trivial, nob_ds ks⟩
theorem nob_ds : ∀ (ks : List Kn), nobs (Kn.ds ks)
  | [] => by show nobs []; rw [nobs]; trivial
  | t :: r => by show nobs (t.d :: Kn.ds r); rw [nobs]; exact ⟨nob_d t, nob_ds r⟩
end
mutual
theorem d_inj : ∀ {t u : Kn}, t.d = u.d → t = u
  | .mk h ks, .mk g ls, e => by
    have e' : Dk.tup (.str h :: Kn.ds ks) = .tup (.str g :: Kn.ds ls) := e
    injection e' with e'
    injection e' with e1 e2
    injection e1 with e1
    rw [e1, ds_inj e2]
theorem ds_inj : ∀ {ks ls : List Kn}, Kn.ds ks = Kn.ds ls → ks = ls
  | [], [], _ => rfl
  | [], _ :: _, e => nomatch e
  | _ :: _, [], e => nomatch e
  | t :: r, u :: q, e => by
    have e' : t.d :: Kn.ds r = u.d :: Kn.ds q := e
    injection e' with e1 e2
    rw [d_inj e1, ds_inj e2]
end
theorem eqb_kn {t u : Kn} : t.d.eqb u.d = true ↔ t = u := ⟨fun h => d_inj (eqb_eq (nob_d t) (nob_d u) h), fun h => by rw [h]; exact eqb_refl _⟩
theorem eqbs_range : ∀ (ds es : List Dk), eqbs ds es = ((List.range (min ds.length es.length)).all (fun j => (ds[j]?.getD .non).eqb (es[j]?.getD .non)) && ds.length == es.length)
  | [], [] => rfl
  | [], e :: es => by simp [eqbs]
  | d :: ds, [] => by simp [eqbs]
  | d :: ds, e :: es => by
    show (d.eqb e && eqbs ds es) = _
    rw [eqbs_range ds es]
    have m : min (d :: ds).length (e :: es).length = min ds.length es.length + 1 := by simp only [List.length_cons]; omega
    rw [m, List.range_succ_eq_map, List.all_cons, List.all_map]
    have e2 : ((d :: ds).length == (e :: es).length) = (ds.length == es.length) := by simp
    rw [e2, Bool.and_assoc]
    rfl
noncomputable def unV : Value → V
  | .none => .non | .bool b => .bl b | .int i _ => .int i | .str x _ => .str x | .bytes b _ => .byt b | .float b _ => .flt b | .ref a => .ref a | .type n => .ty n | _ => .non
theorem relV_un {x : V} {u : Value} (h : RelV x u) : unV u = x := by
  cases x with
  | non => cases (show u = Value.none from h); rfl
  | bl b => cases (show u = Value.bool b from h); rfl
  | int i => obtain ⟨t, e⟩ := (show ∃ t, u = Value.int i t from h); subst e; rfl
  | str i => obtain ⟨t, e⟩ := (show ∃ t, u = Value.str i t from h); subst e; rfl
  | byt i => obtain ⟨t, e⟩ := (show ∃ t, u = Value.bytes i t from h); subst e; rfl
  | flt i => obtain ⟨t, e⟩ := (show ∃ t, u = Value.float i t from h); subst e; rfl
  | ref a => cases (show u = Value.ref a from h); rfl
  | ty n => cases (show u = Value.type n from h); rfl
theorem relV_inj {x y : V} {u : Value} (hx : RelV x u) (hy : RelV y u) : x = y := (relV_un hx).symm.trans (relV_un hy)
theorem vals_inj : ∀ {xs ys : List V} {us : List Value}, Vals xs us → Vals ys us → xs = ys
  | _, _, _, .nil, h => by cases h; rfl
  | _, _, _, .cons r t, h => by
    cases h with
    | cons r' t' => rw [relV_inj r r', vals_inj t t']
section
variable {X : Cx}
theorem tp_det {s : Shared} {pins : List (Addr × Obj)} {σ : St} {H : Hp} (I : Inv X pins σ H s) {a : Addr} {xs ys : List V} (h1 : Tp X.K H a xs) (h2 : Tp X.K H a ys) : xs = ys := by
  obtain ⟨i1, r1, ⟨o1, e1, c1, n1, d1⟩, z1⟩ := I.tuple h1.sq
  obtain ⟨i2, r2, ⟨o2, e2, c2, n2, d2⟩, z2⟩ := I.tuple h2.sq
  rw [e1] at e2
  cases e2
  rw [d1] at d2
  injection d2 with d2
  have e : i1 = i2 := by simpa using d2
  subst e
  exact vals_inj r1 r2
mutual
theorem rk_det {s : Shared} {pins : List (Addr × Obj)} {σ : St} {H : Hp} (I : Inv X pins σ H s) : ∀ {d e : Dk} {x : V}, RK X.K H d x → RK X.K H e x → d = e
  | .tup ds, e, x, h, h2 => by
    obtain ⟨a, vs, rfl, ha, ta⟩ := RK.get h
    cases e with
    | tup es =>
      obtain ⟨b, ws, e, hb, tb⟩ := RK.get h2
      cases e
      cases tp_det I ha hb
      rw [rks_det I ta tb]
    | non => rw [RK] at h2; cases h2
    | int i => rw [RK] at h2; cases h2
    | bl i => rw [RK] at h2; cases h2
    | str i => rw [RK] at h2; cases h2
  | .non, e, x, h, h2 => by
    rw [RK] at h; subst h
    cases e with
    | tup es => obtain ⟨b, ws, e, hb, tb⟩ := RK.get h2; cases e
    | non => rfl
    | _ => (rw [RK] at h2) <;> cases h2
  | .int _, e, x, h, h2 => by
    rw [RK] at h; subst h
    cases e with
    | tup es => obtain ⟨b, ws, e, hb, tb⟩ := RK.get h2; cases e
    | _ => rw [RK] at h2; cases h2; try rfl
  | .bl _, e, x, h, h2 => by
    rw [RK] at h; subst h
    cases e with
    | tup es => obtain ⟨b, ws, e, hb, tb⟩ := RK.get h2; cases e
    | _ => rw [RK] at h2; cases h2; try rfl
  | .str _, e, x, h, h2 => by
    rw [RK] at h; subst h
    cases e with
    | tup es => obtain ⟨b, ws, e, hb, tb⟩ := RK.get h2; cases e
    | _ => rw [RK] at h2; cases h2; try rfl
theorem rks_det {s : Shared} {pins : List (Addr × Obj)} {σ : St} {H : Hp} (I : Inv X pins σ H s) : ∀ {ds es : List Dk} {xs : List V}, RKs X.K H ds xs → RKs X.K H es xs → ds = es
  | [], es, xs, h, h2 => by
    cases (show xs = [] from h)
    cases es with
    | nil => rfl
    | cons e es => obtain ⟨v, r, e, _⟩ := h2; cases e
  | d :: ds, es, xs, h, h2 => by
    obtain ⟨v, r, rfl, h, t⟩ := h
    cases es with
    | nil => cases (show v :: r = [] from h2)
    | cons e es =>
      obtain ⟨v', r', e, h', t'⟩ := h2
      cases e
      rw [rk_det I h h', rks_det I t t']
end
noncomputable def Dk.flat : Dk → Bool
  | .tup _ => false
  | _ => true
theorem flat_tup {s : Shared} {A : Around} {x : V} {u : Value} {b : Addr} {its : Array Value} (fx : flatV x = true) (ru : RelV x u) (p : s.heap.IsTuple b its) (hu : A.units < cLine) : SeqAt.EqAt A s u (.ref b) false ∧ SeqAt.EqAt A s (.ref b) u false := by
  cases x with
  | non => cases (show u = Value.none from ru); exact ⟨SeqAt.EqAt.none_tuple p hu, SeqAt.EqAt.tuple_none p hu⟩
  | bl k => cases (show u = Value.bool k from ru); exact ⟨SeqAt.EqAt.bool_tuple k p hu, SeqAt.EqAt.tuple_bool k p hu⟩
  | int k => obtain ⟨t, e⟩ := (show ∃ t, u = Value.int k t from ru); subst e; exact ⟨SeqAt.EqAt.int_tuple k t p hu, SeqAt.EqAt.tuple_int k t p hu⟩
  | str k => obtain ⟨t, e⟩ := (show ∃ t, u = Value.str k t from ru); subst e; exact ⟨SeqAt.EqAt.str_tuple k t p hu, SeqAt.EqAt.tuple_str k t p hu⟩
  | byt k => cases fx
  | flt k => cases fx
  | ref k => cases fx
  | ty k => cases fx
theorem flat_get {K : PySem.W.Frag} {H : Hp} {d : Dk} {x : V} (h : RK K H d x) : (∃ ds, d = .tup ds) ∨ (flatV x = true ∧ (∀ es, d.eqb (.tup es) = false ∧ (Dk.tup es).eqb d = false) ∧ d.dq = 0) := by
  cases d with
  | tup ds => exact .inl ⟨ds, rfl⟩
  | non => rw [RK] at h; subst h; exact .inr ⟨rfl, fun es => ⟨rfl, rfl⟩, dq_non⟩
  | int k => rw [RK] at h; subst h; exact .inr ⟨rfl, fun es => ⟨rfl, rfl⟩, dq_int _⟩
  | bl k => rw [RK] at h; subst h; exact .inr ⟨rfl, fun es => ⟨rfl, rfl⟩, dq_bl _⟩
  | str k => rw [RK] at h; subst h; exact .inr ⟨rfl, fun es => ⟨rfl, rfl⟩, dq_str _⟩
theorem flat_eqb {K : PySem.W.Frag} {H : Hp} {d e : Dk} {x y : V} (h : RK K H d x) (h2 : RK K H e y) (fx : flatV x = true) (fy : flatV y = true) : d.eqb e = eqV x y := by
  cases d with
  | tup ds => obtain ⟨a, vs, e, _⟩ := RK.get h; subst e; cases fx
  | _ =>
    rw [RK] at h
    cases e with
    | tup es => obtain ⟨a, vs, e, _⟩ := RK.get h2; subst e; cases fy
    | _ => rw [RK] at h2; subst h h2; rfl
theorem rk_eqb {s : Shared} {pins : List (Addr × Obj)} {σ : St} {H : Hp} (I : Inv X pins σ H s) : ∀ (n : Nat) {A : Around} {d e : Dk} {x y : V} {u v : Value}, d.dq ≤ n → RK X.K H d x → RK X.K H e y → RelV x u → RelV y v → A.units + n < cLine → SeqAt.EqAt A s u v (d.eqb e) := by
  intro n
  induction n with
  | zero =>
    intro A d e x y u v hn hx hy ru rv hu
    rcases flat_get hx with ⟨ds, rfl⟩ | ⟨fx, nx, dx⟩
    · have k : 1 + dqs ds ≤ 0 := hn; omega
    rcases flat_get hy with ⟨es, rfl⟩ | ⟨fy, ny, dy⟩
    · obtain ⟨b, ws, rfl, hb, tb⟩ := RK.get hy
      obtain ⟨i2, r2, p2, z2⟩ := I.tuple hb.sq
      cases rv
      rw [(nx es).1]
      exact (flat_tup fx ru p2 (by omega)).1
    · rw [flat_eqb hx hy fx fy]
      exact eqAt_V ru rv fx fy
  | succ n ih =>
    intro A d e x y u v hn hx hy ru rv hu
    rcases flat_get hx with ⟨ds, rfl⟩ | ⟨fx, nx, dx⟩
    · have hn' : 1 + dqs ds ≤ n + 1 := hn
      obtain ⟨a, vs, rfl, ha, ta⟩ := RK.get hx
      obtain ⟨i1, r1, p1, z1⟩ := I.tuple ha.sq
      rcases flat_get hy with ⟨es, rfl⟩ | ⟨fy, ny, dy⟩
      · obtain ⟨b, ws, rfl, hb, tb⟩ := RK.get hy
        cases ru; cases rv
        by_cases hab : a = b
        · subst hab
          have e1 := tp_det I ha hb
          subst e1
          rw [rks_det I ta tb]
          have e2 : (Dk.tup es).eqb (.tup es) = true := eqb_refl _
          rw [e2]
          exact SeqAt.EqAt.same _
        · obtain ⟨i2, r2, p2, z2⟩ := I.tuple hb.sq
          have l1 := r1.length
          have l2 := r2.length
          have l3 := ta.length
          have l4 := tb.length
          have key := SeqAt.RcAt.tuples (A := A) (s := s) (e := fun j => (ds[j]?.getD .non).eqb (es[j]?.getD .non)) p1 p2 (by omega) fun j h1 h2 => by
            have hjd : j < ds.length := by simp at h1; omega
            have hje : j < es.length := by simp at h2; omega
            obtain ⟨x1, e1, q1⟩ := ta.get (List.getElem?_eq_getElem hjd)
            obtain ⟨y1, e2, q2⟩ := tb.get (List.getElem?_eq_getElem hje)
            have k := dqs_mem (List.getElem_mem hjd)
            simp only [List.getElem?_eq_getElem hjd, List.getElem?_eq_getElem hje, Option.getD_some]
            exact ih (A := A.in1) (by omega) q1 q2 (item_k r1 e1 h1) (item_k r2 e2 h2) (by show A.units + 1 + n < cLine; omega)
          have val : ((List.range (min i1.toArray.size i2.toArray.size)).all (fun j => (ds[j]?.getD .non).eqb (es[j]?.getD .non)) && i1.toArray.size == i2.toArray.size) = eqbs ds es := by
            rw [eqbs_range, List.size_toArray, List.size_toArray, ← l1, ← l2, ← l3, ← l4]
          rw [val] at key
          exact SeqAt.EqAt.of_refs hab key
      · cases ru
        rw [(ny ds).2]
        exact (flat_tup fy rv p1 (by omega)).2
    · rcases flat_get hy with ⟨es, rfl⟩ | ⟨fy, ny, dy⟩
      · obtain ⟨b, ws, rfl, hb, tb⟩ := RK.get hy
        obtain ⟨i2, r2, p2, z2⟩ := I.tuple hb.sq
        cases rv
        rw [(nx es).1]
        exact (flat_tup fx ru p2 (by omega)).1
      · rw [flat_eqb hx hy fx fy]
        exact eqAt_V ru rv fx fy
theorem eqg_ok {k : Nat} (hr : Room k X.A) {s : Shared} {pins : List (Addr × Obj)} {σ : St} {H : Hp} (I : Inv X pins σ H s) {x y : V} {u v : Value} {ds es : List Dk} (hx : RK X.K H (.tup ds) x) (hy : RK X.K H (.tup es) y) (hd : dqs ds ≤ 60) (ru : RelV x u) (rv : RelV y v) : SeqAt.RcAt X.A s u v (eqbs ds es) ∧ SeqAt.RcNeAt X.A s u v (!eqbs ds es) := by
  have hu := hr.units
  obtain ⟨a, vs, rfl, ha, ta⟩ := RK.get hx
  obtain ⟨b, ws, rfl, hb, tb⟩ := RK.get hy
  cases ru; cases rv
  obtain ⟨i1, r1, p1, z1⟩ := I.tuple ha.sq
  obtain ⟨i2, r2, p2, z2⟩ := I.tuple hb.sq
  have l1 := r1.length
  have l2 := r2.length
  have l3 := ta.length
  have l4 := tb.length
  have it : ∀ j (h1 : j < i1.toArray.size) (h2 : j < i2.toArray.size), SeqAt.EqAt X.A.in1 s i1.toArray[j] i2.toArray[j] ((fun j => (ds[j]?.getD .non).eqb (es[j]?.getD .non)) j) := fun j h1 h2 => by
    have hjd : j < ds.length := by simp at h1; omega
    have hje : j < es.length := by simp at h2; omega
    obtain ⟨x1, e1, q1⟩ := ta.get (List.getElem?_eq_getElem hjd)
    obtain ⟨y1, e2, q2⟩ := tb.get (List.getElem?_eq_getElem hje)
    have k := dqs_mem (List.getElem_mem hjd)
    simp only [List.getElem?_eq_getElem hjd, List.getElem?_eq_getElem hje, Option.getD_some]
    exact rk_eqb I 60 (A := X.A.in1) (by omega) q1 q2 (item_k r1 e1 h1) (item_k r2 e2 h2) (by show X.A.units + 1 + 60 < cLine; omega)
  have e : ((List.range (min i1.toArray.size i2.toArray.size)).all (fun j => (ds[j]?.getD .non).eqb (es[j]?.getD .non)) && i1.toArray.size == i2.toArray.size) = eqbs ds es := by
    rw [eqbs_range, List.size_toArray, List.size_toArray, ← l1, ← l2, ← l3, ← l4]
  have k1 := SeqAt.RcAt.tuples (A := X.A) (s := s) p1 p2 (by omega) it
  have k2 := SeqAt.RcNeAt.tuples (A := X.A) (s := s) p1 p2 (by omega) it
  rw [e] at k1 k2
  exact ⟨k1, k2⟩
/-- == of texts and numbers, of lists as before, of any two tuples -/
noncomputable def rEqG (K : PySem.W.Frag) : R2 := fun x y H Q => (∃ ds es, RK K H (.tup ds) x ∧ RK K H (.tup es) y ∧ dqs ds ≤ 60 ∧ Q (.bl (eqbs ds es)) H) ∨ rEqK K x y H Q
noncomputable def rNeG (K : PySem.W.Frag) : R2 := fun x y H Q => (∃ ds es, RK K H (.tup ds) x ∧ RK K H (.tup es) y ∧ dqs ds ≤ 60 ∧ Q (.bl (!eqbs ds es)) H) ∨ rNeK K x y H Q
theorem op_eqG {k : Nat} (hr : Room k X.A) : OpR X (compareOp .Eq) (rEqG X.K) := by
  intro pins s σ H x y v u Q I rx ry h
  rcases h with ⟨ds, es, h1, h2, hd, q⟩ | h
  · exact (eqg_ok hr I h1 h2 hd rx ry).1 _ _ _ _ ⟨.bl _, H, I, rfl, q⟩
  · exact op_eqK hr pins s σ H x y v u Q I rx ry h
theorem op_neG {k : Nat} (hr : Room k X.A) : OpR X (compareOp .NotEq) (rNeG X.K) := by
  intro pins s σ H x y v u Q I rx ry h
  rcases h with ⟨ds, es, h1, h2, hd, q⟩ | h
  · exact (eqg_ok hr I h1 h2 hd rx ry).2 _ _ _ _ ⟨.bl _, H, I, rfl, q⟩
  · exact op_neK hr pins s σ H x y v u Q I rx ry h
/-- == of two kinds -/
theorem eqKn {K : PySem.W.Frag} {t u : Kn} {x y : V} {H : Hp} {Q : VK} (hx : RK K H t.d x) (hy : RK K H u.d y) (hd : t.dep ≤ 60) (q : ∀ b : Bool, (b = true ↔ t = u) → Q (.bl b) H) : rEqG K x y H Q := by
  obtain ⟨h, ks⟩ := t
  obtain ⟨g, ls⟩ := u
  refine .inl ⟨.str h :: Kn.ds ks, .str g :: Kn.ds ls, hx, hy, ?_, q _ ?_⟩
  · have := dq_d (.mk h ks)
    have e : (Kn.mk h ks).d = .tup (.str h :: Kn.ds ks) := rfl
    rw [e, dq_tup] at this
    omega
  · exact eqb_kn (t := .mk h ks) (u := .mk g ls)
/-! ### t + u -/
noncomputable def rCat0 (K : PySem.W.Frag) : R2 := fun x y H Q => ∃ a b ys, x = .ref a ∧ y = .ref b ∧ SqT K H a [] ∧ SqT K H b ys ∧ Q (.ref b) H
theorem op_cat0 : OpR X (binaryOp .Add) (rCat0 X.K) := by
  intro pins s σ H x y v u Q I rx ry h
  obtain ⟨a, b, ys, rfl, rfl, ha, hb, q⟩ := h
  cases rx
  cases ry
  obtain ⟨its, r1, p1, _⟩ := I.tuple ha
  obtain ⟨its2, r2, p2, _⟩ := I.tuple hb
  cases r1
  obtain ⟨⟨cls, dd, data, sl⟩, ho, hc, n, hd⟩ := id p1
  obtain ⟨⟨cls2, dd2, data2, sl2⟩, ho2, hc2, n2, hd2⟩ := id p2
  simp only at hc hd hc2 hd2
  subst hc hd hc2 hd2
  exact concat_meets ⟨_, ho, rfl⟩ ⟨_, ho2, rfl⟩ noFill_tuple_add seq_tuple_add PySem.F.slot_tuple_add PySem.F.entry_tuple_add (PySem.F.args_tuple_add_2 _ _)
      (tuple_addW0 a b #[] its2.toArray n n2 dd dd2 sl sl2 rfl) ⟨ho, ho2, ⟨.ref b, H, I, rfl, q⟩⟩
noncomputable def rAddG (K : PySem.W.Frag) : R2 := fun x y H Q => rCat0 K x y H Q ∨ rAddA K x y H Q
theorem op_addG : OpR X (binaryOp .Add) (rAddG X.K) := by
  intro pins s σ H x y v u Q I rx ry h
  rcases h with h | h
  · exact op_cat0 pins s σ H x y v u Q I rx ry h
  · exact op_addA pins s σ H x y v u Q I rx ry h
theorem add_i {K : PySem.W.Frag} {i j : Int} {H : Hp} {Q : VK} (q : Q (.int (i + j)) H) : rAddG K (.int i) (.int j) H Q := .inr (addI q)
theorem cat_g {K : PySem.W.Frag} {H : Hp} {x y : V} {ds es : List Dk} {Q : VK} (ha : RK K H (.tup ds) x) (hb : RK K H (.tup es) y) (hz : ds.length + es.length ≤ 1000)
    (q : ∀ (v : V) (H' : Hp), Old H H' → RK K H' (.tup (ds ++ es)) v → Q v H') : rAddG K x y H Q := by
  obtain ⟨a, xs, rfl, ta, ra⟩ := RK.get ha
  obtain ⟨b, ys, rfl, tb, rb⟩ := RK.get hb
  have l1 := ra.length
  have l2 := rb.length
  cases xs with
  | nil =>
    cases (show ds = [] from List.length_eq_zero_iff.mp l1)
    exact .inl ⟨a, b, ys, rfl, rfl, ta.sq, tb.sq, q _ H (Old.refl _) (RK.tup tb rb)⟩
  | cons x r => exact .inr (addT (cat_k ta tb ra rb (by simp) (by omega) fun c H' o r => q _ H' o r))
end
end L2.Bk
namespace PySem
open Sem (wp)
theorem noFill_tuple_mul : fillsNumberSlot (.type "tuple") "mul" = pure false :=
  fillsNumberSlot_seq (id := "tuple.__mul__") (r := some (.builtin "tuple.__rmul__")) F.slot_tuple_mul.lookup (by decide +kernel) F.slot_tuple_rmul.lookup (by decide +kernel)
theorem repeat_tuple : seqRepeat? (.type "tuple") = pure (some (.builtin "tuple.__mul__")) := by
  unfold seqRepeat?
  rw [seqSlot_of (T := "tuple") (name := "__mul__") (id := "tuple.__mul__") F.slot_tuple_mul.lookup (by decide +kernel), seqSlot_of (T := "tuple") (name := "__rmul__") (id := "tuple.__rmul__") F.slot_tuple_rmul.lookup (by decide +kernel)]
  rfl
theorem int_rmul_tuple (a : Int) (t : Tok) (l : Addr) (items : Array Value) (n : Nat) (dd : Option Addr) (sl : Array (Option Value)) :
    Meets (Builtin.«int.__rmul__» ⟨[.int a t, .ref l], []⟩) (fun _ R s => s.heap.get? l = some { cls := .type "tuple", dict := dd, data := .seq items n, slots := sl } ∧ R (.ok (.ret Value.notImplemented)) s) :=
  .of_wp fun prog w A R s h => by obtain ⟨hp, g, d, tk, os⟩ := s; obtain ⟨hl, h⟩ := h; wp_walk; exact ⟨_, rfl, h⟩
theorem tuple_mul1 (l : Addr) (v : Value) (n : Nat) (u : Tok) (dd : Option Addr) (sl : Array (Option Value)) :
    Meets (Builtin.«tuple.__mul__» ⟨[.ref l, .int 1 u], []⟩) (fun _ R s => s.heap.get? l = some { cls := .type "tuple", dict := dd, data := .seq #[v] n, slots := sl } ∧ R (.ok (.ret (.ref l))) s) :=
  .of_wp fun prog w A R s h => by obtain ⟨hp, g, d, tk, os⟩ := s; obtain ⟨hl, h⟩ := h; have f1 := AutoSeq1.idx_int; wp_walk using wpAny_loadPart' hl; exact ⟨_, rfl, h⟩
theorem tuple_mul0 (l : Addr) (v : Value) (n : Nat) (u : Tok) (dd : Option Addr) (sl : Array (Option Value)) :
    Meets (Builtin.«tuple.__mul__» ⟨[.ref l, .int 0 u], []⟩) (fun _ R s => s.heap.get? l = some { cls := .type "tuple", dict := dd, data := .seq #[v] n, slots := sl } ∧ R (.ok (.ret (.ref s.heap.objs.size))) { s with heap := s.heap.push { cls := .type "tuple", data := .seq #[] } }) :=
  .of_wp fun prog w A R s h => by obtain ⟨hp, g, d, tk, os⟩ := s; obtain ⟨hl, h⟩ := h; have f1 := AutoSeq1.idx_int; wp_walk using wpAny_loadPart' hl; exact ⟨_, rfl, h⟩
theorem tuple_mul2 (l : Addr) (v : Value) (n : Nat) (u : Tok) (dd : Option Addr) (sl : Array (Option Value)) :
    Meets (Builtin.«tuple.__mul__» ⟨[.ref l, .int 2 u], []⟩) (fun _ R s => s.heap.get? l = some { cls := .type "tuple", dict := dd, data := .seq #[v] n, slots := sl } ∧ R (.ok (.ret (.ref s.heap.objs.size))) { s with heap := s.heap.push { cls := .type "tuple", data := .seq #[v, v] } }) :=
  .of_wp fun prog w A R s h => by obtain ⟨hp, g, d, tk, os⟩ := s; obtain ⟨hl, h⟩ := h; have f1 := AutoSeq1.idx_int; wp_walk using wpAny_loadPart' hl; exact ⟨_, rfl, h⟩
end PySem
namespace L2.Bk
open PySem PySem.Spec PyProof.Rows L2.Bw
section
variable {X : Cx}
/-- (x,) * n, n at most 2 -/
noncomputable def rRep (K : PySem.W.Frag) : R2 := fun x y H Q => ∃ a v i, x = .ref a ∧ y = .int i ∧ SqT K H a [v] ∧ ((i = 1 ∧ Q (.ref a) H) ∨ (i = 0 ∧ ∀ p, H p = none → Q (.ref p) (upd H p (.tup []))) ∨ (i = 2 ∧ ∀ p, H p = none → Q (.ref p) (upd H p (.tup [v, v]))))
theorem op_rep : OpR X (binaryOp .Mult) (rRep X.K) := by
  intro pins s σ H x y v u Q I rx ry h
  obtain ⟨a, v1, i, rfl, rfl, ha, h⟩ := h
  cases rx
  obtain ⟨tk, rfl⟩ := ry
  obtain ⟨its, r1, p1, _⟩ := I.tuple ha
  obtain ⟨u1, e1, ru1⟩ := Vals.one r1
  subst e1
  obtain ⟨⟨cls, dd, data, sl⟩, ho, hc, n, hd⟩ := id p1
  simp only at hc hd
  subst hc hd
  refine wpAny_binaryOp_repeat_ref (T := "tuple") (U := "int") (by decide) ⟨_, ho, rfl⟩ (fun s' => typeIs_int s' i tk) noFill_tuple_mul PySem.F.fills_int_mul PySem.F.slot_int_rmul repeat_tuple PySem.F.slot_int_index.lookup ?_
  refine call_meets PySem.F.slot_int_rmul (typeIs_int s i tk) PySem.F.entry_int_rmul (PySem.F.args_int_rmul_2 _ _) (int_rmul_tuple i tk a #[u1] n dd sl) ⟨ho, rfl, ⟨_, ho, rfl⟩, ?_⟩
  rcases h with ⟨rfl, q⟩ | ⟨rfl, q⟩ | ⟨rfl, q⟩
  · exact call_meets PySem.F.slot_tuple_mul ⟨_, ho, rfl⟩ PySem.F.entry_tuple_mul (PySem.F.args_tuple_mul_2 _ _) (tuple_mul1 a u1 n tk dd sl) ⟨ho, .ref a, H, I, rfl, q⟩
  · refine call_meets PySem.F.slot_tuple_mul ⟨_, ho, rfl⟩ PySem.F.entry_tuple_mul (PySem.F.args_tuple_mul_2 _ _) (tuple_mul0 a u1 n tk dd sl) ⟨ho, ?_⟩
    refine ⟨.ref s.heap.objs.size, _, I.laid (t' := s.toks) (o := .tup []) (fun b ob q => Heap.get?_push_of_some _ q) (Nat.le_refl _) ?_, rfl, q _ (I.hok.fresh (Nat.le_refl _))⟩
    exact ⟨by show 0 ≤ sizeLine; decide, [], .nil, IsTup.new _ _⟩
  · refine call_meets PySem.F.slot_tuple_mul ⟨_, ho, rfl⟩ PySem.F.entry_tuple_mul (PySem.F.args_tuple_mul_2 _ _) (tuple_mul2 a u1 n tk dd sl) ⟨ho, ?_⟩
    refine ⟨.ref s.heap.objs.size, _, I.laid (t' := s.toks) (o := .tup [v1, v1]) (fun b ob q => Heap.get?_push_of_some _ q) (Nat.le_refl _) ?_, rfl, q _ (I.hok.fresh (Nat.le_refl _))⟩
    exact ⟨by show 2 ≤ sizeLine; decide, [u1, u1], .cons ru1 (.cons ru1 .nil), IsTup.new _ _⟩
noncomputable def rMulG (K : PySem.W.Frag) : R2 := fun x y H Q => rRep K x y H Q ∨ (rI CMul fun i j => .int (i * j)) x y H Q
theorem op_mulG : OpR X (binaryOp .Mult) (rMulG X.K) := by
  intro pins s σ H x y v u Q I rx ry h
  rcases h with h | h
  · exact op_rep pins s σ H x y v u Q I rx ry h
  · exact op_mul pins s σ H x y v u Q I rx ry h
/-! ### a dict of the module from texts to texts -/
end
end L2.Bk

end
section
set_option Elab.async false
set_option linter.all false
set_option maxRecDepth 100000
/-! Looks. -/
namespace L2.Bk
open PySem PySem.Spec PyProof.Rows L2.Bw
structure Lb where
  p : Int
  s : Str
  w : List Str
noncomputable def Lb.d (l : Lb) : Dk := .tup [.int l.p, .str l.s, wd l.w]
noncomputable abbrev Gd := Kn × Lb
noncomputable def gdd (g : Gd) : Dk := .tup [g.1.d, g.2.d]
noncomputable def ogd : Option Gd → Dk
  | none => .non
  | some g => gdd g
inductive Lk where
  | mk (a : Option Gd) (h : Str) (ls : List Lk) (t : Option Gd)
  | br (a : Option Gd) (t2 a2 : Gd)
noncomputable def brd (t a : Gd) : Dk := .tup [.str "broken", gdd t, gdd a]
mutual
noncomputable def Lk.d : Lk → Dk
  | .mk a h ls t => .tup [ogd a, .tup (.str h :: Lk.ds ls), ogd t]
  | .br a t2 a2 => .tup [ogd a, brd t2 a2, .non]
noncomputable def Lk.ds : List Lk → List Dk
  | [] => []
  | x :: r => x.d :: Lk.ds r
end
noncomputable def stillL : Lk := .mk none "same" [] none
/-! ### labels -/
noncomputable def other (s : Str) : Str := if s = "in" then "out" else "in"
noncomputable def Lb.on (l : Lb) (s : Str) : Lb := ⟨l.p, if s = "arg" then other l.s else l.s, l.w ++ [s]⟩
noncomputable def sides : List Str := ["in", "out"]
/-! ### the look from a kind to another -/
noncomputable def gr (a : Kn) : Kn := .mk a.h (List.replicate a.ks.length qK)
noncomputable def Lk.still : Lk → Bool
  | .mk none h [] none => decide (h = "same")
  | _ => false
noncomputable def wrapH (h : Str) (ls : List Lk) : Str := if ls.all Lk.still then "same" else h
noncomputable def wrapL (ls : List Lk) : List Lk := if ls.all Lk.still then [] else ls
/-! ### how deep, how wide -/
noncomputable def Lb.ok (l : Lb) (n : Nat) : Prop := l.s ∈ sides ∧ l.w.length ≤ n
noncomputable def Gd.ok (g : Gd) : Prop := g.1.wf ∧ g.1.dep ≤ 20 ∧ g.2.w.length ≤ 1000
end L2.Bk
namespace L2.Bk
open PySem PySem.Spec PyProof.Rows L2.Bw
noncomputable def Gd.oks : Option Gd → Prop
  | none => True
  | some g => Gd.ok g
noncomputable def Lk.ok : Nat → Lk → Prop
  | 0, _ => False
  | n + 1, .mk a h ls t => Gd.oks a ∧ Gd.oks t ∧ ls.length ≤ 2 ∧ (∀ x ∈ ls, Lk.ok n x) ∧ (h = "same" → ls = []) ∧ h ≠ "broken"
  | _ + 1, .br a t k => Gd.oks a ∧ Gd.ok t ∧ Gd.ok k
end L2.Bk

end
section
set_option Elab.async false
set_option linter.all false
set_option maxRecDepth 100000
/-! zip of two tuples, walked by pairs. -/
namespace PySem
section
variable {prog : Program} {w : World} {A : Around} {E : Value → Shared → Prop} {s : Shared}
end
section
variable {prog : Program} {w : World} {A : Around} {E : Value → Shared → Prop} {s : Shared}
end
end PySem
namespace L2.Bk
open PySem PySem.Spec PyProof.Rows L2.Bw
section
variable {X : Cx}
theorem pe_gint {x : Str} {i : Int} {tk : Tok} {pos : Pos} (hg : Gl X x) (hm : X.mg x = some (.int i tk)) (hd : (x == ("__debug__" : Str)) = false := by decide) : PE X (.Name x pos) (tC (.int i)) := pe_glob hg hm (show RelV (.int i) (.int i tk) from ⟨tk, rfl⟩) hd
end
end L2.Bk

end
section
set_option Elab.async false
set_option linter.all false
set_option maxRecDepth 100000
/-! Two looks laid together. -/
namespace L2.Bk
open PySem PySem.Spec PyProof.Rows L2.Bw
noncomputable def Lk.ask : Lk → Option Gd
  | .mk a _ _ _ => a
  | .br a _ _ => a
noncomputable def Lk.tag : Lk → Option Gd
  | .mk _ _ _ t => t
  | .br _ _ _ => none
noncomputable def lays (f : Lk → Lk → Lk) : List Str → List Lk → List Lk → List Lk
  | s :: ss, x :: xs, y :: ys => (if s = "arg" then f y x else f x y) :: lays f ss xs ys
  | [], _, _ => []
  | _ :: _, [], _ => []
  | _ :: _, _ :: _, [] => []
noncomputable def bothL (f : Lk → Lk → Lk) (a : Option Gd) (h : Str) (ls : List Lk) : Lk → Lk
  | .br _ t k => .br a t k
  | .mk _ g ms t2 => if h = "same" then .mk a g ms t2 else if g = "same" then .mk a h ls t2 else .mk a (wrapH h (lays f (stepsOf h) ls ms)) (wrapL (lays f (stepsOf h) ls ms)) t2
noncomputable def lay : Nat → Lk → Lk → Lk
  | 0, x, _ => x
  | n + 1, x, y => match x with
    | .br a t k => .br a t k
    | .mk a h ls none => match y.ask with
      | some _ => y
      | none => bothL (lay n) a h ls y
    | .mk a h ls (some t) => match y.ask with
      | none => .mk a h ls (some t)
      | some k => if t.1.d.eqb k.1.d = true then bothL (lay n) a h ls y else .br a t k
end L2.Bk

end
section
set_option Elab.async false
set_option linter.all false
set_option maxRecDepth 100000
namespace L2.Bk
open PySem PySem.Spec PyProof.Rows L2.Bw
end L2.Bk

end
section
set_option Elab.async false
set_option linter.all false
set_option maxRecDepth 100000
namespace L2.Bk
open PySem PySem.Spec PyProof.Rows L2.Bw
end L2.Bk

end
section
set_option Elab.async false
set_option linter.all false
set_option maxRecDepth 100000
/-! sum of a list of numbers, list.count of truths. -/
namespace L2.Bk
open PySem PySem.Spec PyProof.Rows L2.Bw
section
variable {X : Cx}
/-! ### list.count of truths -/
end
end L2.Bk

end
section
set_option Elab.async false
set_option linter.all false
set_option maxRecDepth 100000
/-! A look from a kind to a kind; its height and weight. -/
namespace L2.Bk
open PySem PySem.Spec PyProof.Rows L2.Bw
/-- the told kind at an end of a look -/
noncomputable def endK : Option Gd → Kn → Kn
  | none, a => a
  | some g, _ => g.1
/-- an ask or a tag at an end of a look -/
noncomputable def endOk : Option Gd → Kn → Prop
  | none, _ => True
  | some g, a => a = qK ∧ g.1.wf ∧ g.1.h ≠ "?"
noncomputable def Ty : Nat → Kn → Lk → Kn → Prop
  | 0, _, _, _ => False
  | n + 1, a, .mk k h ls t, b => endOk k a ∧ endOk t b ∧ ((h = "same" ∧ ls = [] ∧ endK k a = endK t b) ∨ (h = (endK k a).h ∧ (endK k a).h = (endK t b).h ∧ arity h = some ls.length ∧ arity h = some (endK k a).ks.length ∧ arity h = some (endK t b).ks.length ∧ h ≠ "?" ∧
      ∀ i (_ : i < (stepsOf h).length) (h1 : i < ls.length) (h2 : i < (endK k a).ks.length) (h3 : i < (endK t b).ks.length), if (stepsOf h)[i] = "arg" then Ty n (endK t b).ks[i] ls[i] (endK k a).ks[i] else Ty n (endK k a).ks[i] ls[i] (endK t b).ks[i]))
  | _ + 1, a, .br k _ _, _ => endOk k a ∧ (k = none → a.h ≠ "?")
/-! ### height and weight -/
end L2.Bk

end
section
set_option Elab.async false
set_option linter.all false
set_option maxRecDepth 100000
/-! A value given to looks one by one, and to what they come to laid together. -/
namespace L2.Bk
open PySem PySem.Spec PyProof.Rows L2.Bw
noncomputable def TyL (n : Nat) : Kn → List Lk → Kn → Prop
  | a, [], b => a = b
  | a, x :: r, c => ∃ b, Ty n a x b ∧ TyL n b r c
noncomputable def Fl (n : Nat) (xs : List Lk) : Lk := xs.foldl (lay n) stillL
/-- no broken body anywhere, and no body that does nothing but the one that says so -/
noncomputable def Lk.pure : Nat → Lk → Prop
  | 0, _ => False
  | n + 1, .mk k h ls t => (Lk.mk k h ls t).ok (n + 1) ∧ (∀ x ∈ ls, Lk.pure n x) ∧ (h ≠ "same" → ls.all Lk.still ≠ true)
  | _ + 1, .br _ _ _ => False
noncomputable abbrev Bd := Str × List Lk
inductive Gv where
  | blame (t : Option Gd) (k : Gd)
  | there (t : Option Gd) (gs : List Bd)
/-- the looks of the i-th part in the bodies -/
noncomputable def colB (i : Nat) (gs : List Bd) : List Lk := gs.map fun g => (g.2[i]?).getD stillL
/-- the bodies that were met, and what they come to laid together -/
structure Cols (n : Nat) (A B : Kn) (h : Str) (ls : List Lk) (gs : List Bd) : Prop where
  head : ∀ g ∈ gs, g.1 = A.h ∧ arity A.h = some g.2.length ∧ g.1 ≠ "same"
  pure : ∀ g ∈ gs, ∀ x ∈ g.2, Lk.pure n x
  none : gs = [] → A = B
  col : ∀ i (h0 : i < (stepsOf A.h).length) (h1 : i < A.ks.length) (h2 : i < B.ks.length), (stepsOf A.h)[i] ≠ "arg" → Fl n (colB i gs) = (if h = "same" then stillL else (ls[i]?).getD stillL) ∧ TyL n A.ks[i] (colB i gs) B.ks[i]
end L2.Bk

end
section
set_option Elab.async false
set_option linter.all false
set_option maxRecDepth 100000
namespace L2.Bk
open PySem PySem.Spec PyProof.Rows L2.Bw
section
variable {X : Cx}
noncomputable def CDivG (i j : Int) : Prop := (0 < j ∧ j < 1073741824) ∨ j = 10 ^ 20
theorem op_fdivG : OpR X (binaryOp .FloorDiv) (rI CDivG fun i j => .int (i / j)) := opI fun i j _ _ _ _ _ hc q => by
  rcases hc with ⟨h1, h2⟩ | h
  · exact floordiv_int (by omega) (by rw [Int.fdiv_eq_ediv_of_nonneg i (by omega)]; exact q) (.inl (PyProof.noPylong_small (by omega)))
  · subst h
    exact floordiv_int (by decide) (by rw [Int.fdiv_eq_ediv_of_nonneg i (by decide)]; exact q) (.inl (PyProof.noPylong_of_log2 (by decide +kernel)))
end
end L2.Bk

end
section
set_option Elab.async false
set_option linter.all false
set_option maxRecDepth 100000
set_option maxHeartbeats 4000000
/-! An exception on its way: what it writes, and how it lies behind a call. -/
namespace L2.Ex
open PySem PySem.Spec PyProof.Rows
/-- what was written: the things at ch, the slots of the frames at S -/
structure Wr (S ch : List Addr) (h h' : Heap) : Prop where
  keep : ∀ b o, h.get? b = some o → b ∉ S → b ∉ ch → h'.get? b = some o
  slot : ∀ b o, h.get? b = some o → b ∉ ch → ∃ sl, h'.get? b = some { o with slots := sl }
  there : ∀ b o, h.get? b = some o → ∃ o', h'.get? b = some o'
section
variable {S ch ch' : List Addr} {h h1 h2 h' : Heap}
theorem Wr.trans (x : Wr S ch h h1) (y : Wr S ch h1 h2) : Wr S ch h h2 :=
  ⟨fun b o e n m => y.keep b o (x.keep b o e n m) n m, fun b o e m => let ⟨_, e1⟩ := x.slot b o e m; let ⟨sl, e2⟩ := y.slot b _ e1 m; ⟨sl, e2⟩, fun b o e => let ⟨_, e1⟩ := x.there b o e; y.there b _ e1⟩
theorem Wr.mono (x : Wr S ch h h') (k : ∀ b ∈ ch, b ∈ ch') : Wr S ch' h h' := ⟨fun b o e n m => x.keep b o e n fun z => m (k b z), fun b o e m => x.slot b o e fun z => m (k b z), x.there⟩
theorem Wr.kept (k : ∀ b o, h.get? b = some o → h'.get? b = some o) : Wr S ch h h' := ⟨fun b o e _ _ => k b o e, fun b o e _ => ⟨o.slots, k b o e⟩, fun b o e => ⟨o, k b o e⟩⟩
theorem Wr.set {a : Addr} {o : Obj} {vs : Array Value} (ho : h.get? a = some o) (hd : o.data = .fields vs) (g : Array Value → Array Value) : Wr S [a] h (h.update a (Obj.mapFields g)) := by
  have ot : ∀ b, b ≠ a → (h.update a (Obj.mapFields g)).get? b = h.get? b := fun b n => Heap.get?_update_other h _ fun z => n z.symm
  have nm : ∀ b, b ∉ [a] → b ≠ a := fun b m z => m (by rw [z]; exact List.mem_cons_self)
  refine ⟨fun b u e _ m => by rw [ot b (nm b m)]; exact e, fun b u e m => ⟨u.slots, by rw [ot b (nm b m)]; exact e⟩, fun b u e => ?_⟩
  by_cases z : b = a
  · subst z
    exact ⟨_, Heap.get?_update_self _ ho (Obj.isFreed_of_fields (Obj.data_mapFields hd g))⟩
  · exact ⟨u, by rw [ot b z]; exact e⟩
theorem Wr.slots (x : Heap.SlotsOnly S h h') : Wr S ch h h' := ⟨fun b o e n _ => (x.2.1 b n).trans e, fun b o e _ => x.2.2 b o e, fun b o e => let ⟨_, q⟩ := x.2.2 b o e; ⟨_, q⟩⟩
end
theorem dict_map (g : Array Value → Array Value) (o : Obj) : (Obj.mapFields g o).dict = o.dict := by
  obtain ⟨c, d, dt, sl⟩ := o
  cases dt <;> rfl
/-- the exception at a, its trace begins at T, in flight at fl -/
noncomputable def Tr (h : Heap) (a : Addr) (cls : Value) (dx : Option Addr) (T : Addr) (fl : Value) : Prop :=
  ∃ oe vs oT ts, h.get? a = some oe ∧ (oe.cls = cls ∧ oe.dict = dx) ∧ oe.data = .fields vs ∧ vs[1]? = some (.ref T) ∧ T ≠ a ∧ h.get? T = some oT ∧ oT.data = .fields ts ∧ ts[3]? = some fl
/-- the exception at a, that has no trace yet -/
noncomputable def Rw (h : Heap) (a : Addr) (cls : Value) (dx : Option Addr) : Prop := ∃ oe vs, h.get? a = some oe ∧ (oe.cls = cls ∧ oe.dict = dx) ∧ oe.data = .fields vs ∧ vs[1]? = some .none
section
variable {M : Model} {A : Around} {E : Value → Shared → Prop} {s : Shared} {a T L : Addr} {cls fl : Value} {dx : Option Addr} {Q : Unit → Shared → Prop} {base : Heap} {env : Env} {outer : List Env} {S : List Addr}
theorem set_flight {fr : Option Addr} (t : Tr s.heap a cls dx T fl) (hQ : ∀ h', Tr h' a cls dx T (fr.elim .none fun f => rawInt f) → Wr S [T] s.heap h' → Q () { s with heap := h' }) : wpAny M A (setFlight (.ref a) fr) Q E s := by
  obtain ⟨oe, vs, oT, ts, he, hc, hd, h1, ne, hT, hdT, h3⟩ := t
  have z3 := (Array.getElem?_eq_some_iff.mp h3).1
  unfold setFlight
  refine wpAny_bind (wpAny_field he hd h1 ?_)
  rw [if_pos (show (Value.ref T != Value.none) = true by simp)]
  refine wpAny_setField hT hdT z3 (hQ _ ?_ (Wr.set hT hdT _))
  have dT := Obj.data_mapFields hdT (·.setIfInBounds 3 (fr.elim Value.none fun f => rawInt f))
  exact ⟨oe, vs, _, _, (Heap.get?_update_other _ _ ne).trans he, hc, hd, h1, ne, Heap.get?_update_self _ hT (Obj.isFreed_of_fields dT), dT, by simp [z3]⟩
/-- a new entry of the trace, for the frame that runs -/
theorem entry {oe : Obj} {vs : Array Value} {head : Value} {hn : Bool} (hfr : A.frames = some (env :: outer)) (hl : s.heap.FunFrames base (env :: outer)) (hf : env.frame = some L) (he : s.heap.get? a = some oe) (hd : oe.data = .fields vs) (hz : 1 < vs.size)
    (hQ : ∀ h' T, s.heap.get? T = none → Tr h' a oe.cls oe.dict T (rawInt L) → Wr (frs (env :: outer)) [a] s.heap h' → Q () { s with heap := h' }) :
    wpAny M A (do let x ← frameOf env; let pl ← entryPlaceOf L hn; let b ← EntryCells.newEntry head x .none (rawInt L) .none pl; setField (.ref a) 1 b) Q E s := by
  have na : a ∉ (env :: outer).filterMap (·.frame) := fun m => by
    obtain ⟨_, o, ho, nf⟩ := hl.mem m
    rw [he] at ho
    cases ho
    exact nf vs hd
  refine wpAny_bind (wpAny_frameOf_fun hfr hl hf fun g hg => wpAny_bind (wpAny_entryPlaceOf fun pl hp => ?_))
  unfold EntryCells.newEntry newFields; refine wpAny_bind (wpAny_newObj_type ?_ (IsPlace.sizeOk5 hp _ _ _ _ _))
  have ea : g.get? a = some oe := (hg.2.1 a na).trans he
  generalize hu : ([head, Value.ref L, Value.none, rawInt L, Value.none] ++ (if pl.isEmpty then List.replicate 6 Value.none else pl)).toArray = us
  have u3 : us[3]? = some (rawInt L) := by rw [← hu]; rfl
  have ea2 := Heap.get?_push_of_some (h := g) { cls := .type "traceback", dict := none, data := .fields us } ea
  have nT : g.objs.size ≠ a := Nat.ne_of_gt (Heap.lt_size ea)
  refine wpAny_setField ea2 hd hz (hQ _ g.objs.size ?_ ?_ ?_)
  · rw [hg.1]; exact Heap.get?_none_of_le (Nat.le_refl _)
  · have da := Obj.data_mapFields hd (·.setIfInBounds 1 (Value.ref g.objs.size))
    exact ⟨_, _, _, us, Heap.get?_update_self _ ea2 (Obj.isFreed_of_fields da), ⟨Obj.cls_mapFields _ _, dict_map _ _⟩, da, by simp [hz], nT, (Heap.get?_update_other _ _ (Ne.symm nT)).trans (Heap.get?_push_size g rfl), rfl, u3⟩
  · exact (Wr.slots (ch := [a]) hg).trans ((Wr.kept fun b o e => Heap.get?_push_of_some _ e).trans (Wr.set ea2 hd _))
theorem note_new (hfr : A.frames = some (env :: outer)) (hl : s.heap.FunFrames base (env :: outer)) (hf : env.frame = some L) (x : Rw s.heap a cls dx)
    (hQ : ∀ h' T, s.heap.get? T = none → Tr h' a cls dx T (rawInt L) → Wr (frs (env :: outer)) [a] s.heap h' → Q () { s with heap := h' }) : wpAny M A (noteFrame (.ref a) env) Q E s := by
  obtain ⟨oe, vs, he, ⟨rfl, rfl⟩, hd, h1⟩ := x
  unfold noteFrame
  simp only [hf]
  refine wpAny_bind (wpAny_field he hd h1 ?_)
  rw [if_neg (by decide)]
  exact entry hfr hl hf he hd (Array.getElem?_eq_some_iff.mp h1).1 hQ
theorem note_next (hfr : A.frames = some (env :: outer)) (hl : s.heap.FunFrames base (env :: outer)) (hf : env.frame = some L) (x : Tr s.heap a cls dx T .none)
    (hQ : ∀ h' T', s.heap.get? T' = none → Tr h' a cls dx T' (rawInt L) → Wr (frs (env :: outer)) [a, T] s.heap h' → Q () { s with heap := h' }) : wpAny M A (noteFrame (.ref a) env) Q E s := by
  obtain ⟨oe, vs, oT, ts, he, ⟨rfl, rfl⟩, hd, h1, ne, hT, hdT, h3⟩ := x
  unfold noteFrame
  simp only [hf]
  refine wpAny_bind (wpAny_field he hd h1 ?_)
  rw [if_pos (show (Value.ref T != Value.none) = true by simp)]
  refine wpAny_bind (wpAny_field hT hdT h3 ?_)
  rw [if_neg (show ¬ ((Value.none == rawInt L) = true) by simp [rawInt])]
  refine wpAny_bind (wpAny_setField hT hdT (Array.getElem?_eq_some_iff.mp h3).1 ?_)
  have w1 : Wr (frs (env :: outer)) [T] s.heap _ := Wr.set hT hdT (·.setIfInBounds 3 Value.none)
  refine entry hfr (hl.of_keeps fun b o e nf => ⟨o, ?_, rfl⟩) hf ((Heap.get?_update_other _ _ ne).trans he) hd (Array.getElem?_eq_some_iff.mp h1).1 fun h' T' n t w => hQ h' T' ?_ t ((w1.mono (by simp)).trans (w.mono (by simp)))
  · refine (Heap.get?_update_other _ _ fun z => ?_).trans e
    subst z
    rw [hT] at e
    cases e
    exact nf ts hdT
  · cases q : s.heap.get? T' with
    | none => rfl
    | some o =>
      obtain ⟨o', e'⟩ := w1.there T' o q
      rw [n] at e'
      cases e'
theorem note_held (hf : env.frame = some L) (x : Tr s.heap a cls dx T (rawInt L)) (hQ : Q () s) : wpAny M A (noteFrame (.ref a) env) Q E s := by
  obtain ⟨oe, vs, oT, ts, he, ⟨rfl, rfl⟩, hd, h1, ne, hT, hdT, h3⟩ := x
  unfold noteFrame
  simp only [hf]
  refine wpAny_bind (wpAny_field he hd h1 ?_)
  rw [if_pos (show (Value.ref T != Value.none) = true by simp)]
  refine wpAny_bind (wpAny_field hT hdT h3 ?_)
  rw [if_pos (show (rawInt L == rawInt L) = true by simp)]
  exact wpAny_pure hQ
end
end L2.Ex

end
section
set_option Elab.async false
set_option linter.all false
set_option maxRecDepth 100000
set_option maxHeartbeats 4000000
namespace L2.Ex
open PySem PySem.Spec PyProof.Rows
/-- how an exception lies behind a call -/
noncomputable def CXF (P : Program) (w : World) : CXT := fun outer H s E e s' => ∃ (a T : Addr) (cls : Value) (dx : Option Addr) (H' : Hp), e = .ref a ∧ Tr s'.heap a cls dx T .none ∧ s.heap.get? a = none ∧ s.heap.get? T = none ∧ H' a = none ∧ H' T = none ∧
  s'.os = s.os ∧ AllBare s'.gens ∧ Un (frs outer) [] H H' s.heap s'.heap ∧ HOk P w H' s'.heap ∧ E cls dx H'
/-- an exception within a def's body -/
structure XB (X : Cx) (E : XK) (a : Addr) (cls : Value) (dx : Option Addr) (H' : Hp) (s' : Shared) : Prop where
  na : X.s₀.heap.get? a = none
  ua : H' a = none
  os : s'.os = X.s₀.os
  bare : AllBare s'.gens
  un : Un (frs X.outer) [] X.H₀ H' X.s₀.heap s'.heap
  hok : HOk X.prog X.w H' s'.heap
  funs : s'.heap.FunFrames X.base (X.env :: X.outer)
  frf : ∀ b ∈ frs (X.env :: X.outer), H' b = none
  nl : X.s₀.heap.get? X.env.locals = none
  fr : X.env.frame = some X.env.locals
  af : X.A.frames = some (X.env :: X.outer)
  e : E cls dx H'
noncomputable def XS (X : Cx) (E : XK) (e : Value) (s' : Shared) : Prop := ∃ a cls dx H', e = .ref a ∧ XB X E a cls dx H' s' ∧
  (Rw s'.heap a cls dx ∨ ∃ T fl, Tr s'.heap a cls dx T fl ∧ (fl = .none ∨ fl = rawInt X.env.locals) ∧ X.s₀.heap.get? T = none ∧ H' T = none)
theorem ho_there {P : Program} {w : World} {H : Hp} {h : Heap} {a : Addr} {o : HO} (x : ObjOk P w H h a o) : ∃ u, h.get? a = some u := by
  cases o with
  | lst xs => obtain ⟨_, _, _, _, e⟩ := x; exact ⟨_, e⟩
  | tup xs => obtain ⟨_, _, _, u, e, _⟩ := x; exact ⟨u, e⟩
  | dK kvs => obtain ⟨_, _, _, _, u, _, _, e, _⟩ := x; exact ⟨u, e⟩
  | dT kvs => obtain ⟨_, _, _, _, u, _, _, e, _⟩ := x; exact ⟨u, e⟩
  | set S n => obtain ⟨u, _, _, _, e, _⟩ := x; exact ⟨u, e⟩
  | ins C dx fs => obtain ⟨_, _, _, e, _⟩ := x; exact ⟨_, e⟩
  | own y => exact x
  | xd fs => obtain ⟨_, ⟨u, _, _, e, _⟩, _⟩ := x; exact ⟨u, e⟩
  | rng lo hi => obtain ⟨_, _, _, e⟩ := x; exact ⟨_, e⟩
  | frz ob u => obtain ⟨e, _⟩ := x; exact ⟨_, e⟩
  | tbl ps => exact ⟨_, (show h.get? a = some _ from x)⟩
  | met f y => exact ⟨_, (show h.get? a = some _ from x)⟩
  | ext φ => obtain ⟨_, e, _⟩ := x; exact e
theorem hok_none {P : Program} {w : World} {H : Hp} {h : Heap} {a : Addr} (x : HOk P w H h) (e : h.get? a = none) : H a = none := by
  cases q : H a with
  | none => rfl
  | some o =>
    obtain ⟨u, hu⟩ := ho_there (x a o q)
    rw [e] at hu
    cases hu
section
variable {P : Program} {w : World} {H H0 : Hp} {h h0 h' : Heap} {S ch fs : List Addr} {L : Addr}
theorem hok_wr (x : HOk P w H h) (y : Wr S ch h h') (hc : ∀ b ∈ ch, H b = none) (hs : ∀ b ∈ S, H b = none) : HOk P w H h' := fun a o e => by
  have nt : ∀ b u, H b = some u → b ∉ S ∧ b ∉ ch := fun b u q => ⟨(fun z => by rw [hs b z] at q; cases q), (fun z => by rw [hc b z] at q; cases q)⟩
  refine (x a o e).stay (fun b u hb q => ?_) (fun _ q => q) fun _ _ q => q
  rcases hb with rfl | hb
  · exact y.keep _ u q (nt _ _ e).1 (nt _ _ e).2
  · exact y.keep _ u q (nt _ _ hb).1 (nt _ _ hb).2
theorem un_wr (x : Un fs [] H0 H h0 h) (y : Wr S ch h h') (hs : ∀ b ∈ S, b ∈ fs ∨ h0.get? b = none) (hc : ∀ b ∈ ch, h0.get? b = none) : Un fs [] H0 H h0 h' := by
  have nc : ∀ b o, h0.get? b = some o → b ∉ ch := fun b o e z => by rw [hc b z] at e; cases e
  have nS : ∀ b o, h0.get? b = some o → b ∉ fs → b ∉ S := fun b o e n z => (hs b z).elim n fun q => by rw [q] at e; cases e
  refine ⟨fun b o e n hb hx => y.keep b o (x.keep b o e n hb hx) (nS b o e hb) (nc b o e), fun b o e n hb hx => ?_, x.free, fun b o e hx => ?_, x.tups, x.frzs, x.tbls⟩
  · obtain ⟨sl, e1⟩ := x.slot b o e n hb hx
    obtain ⟨sl2, e2⟩ := y.slot b _ e1 (nc b o e)
    exact ⟨sl2, e2⟩
  · obtain ⟨o1, e1⟩ := x.there b o e hx
    exact y.there b o1 e1
theorem fun_wr {base : Heap} {l : List Env} (x : h.FunFrames base l) (y : Wr S ch h h') (hc : ∀ b ∈ ch, ∃ o vs, h.get? b = some o ∧ o.data = .fields vs) : h'.FunFrames base l := x.of_keeps fun b o e nf => by
  obtain ⟨sl, e1⟩ := y.slot b o e fun z => by
    obtain ⟨o2, vs, q, d⟩ := hc b z
    rw [e] at q
    cases q
    exact nf vs d
  exact ⟨_, e1, rfl⟩
end
theorem Tr.fa {h : Heap} {a T : Addr} {cls fl : Value} {dx : Option Addr} (t : Tr h a cls dx T fl) : ∃ o vs, h.get? a = some o ∧ o.data = .fields vs := let ⟨oe, vs, _, _, h1, _, h2, _⟩ := t; ⟨oe, vs, h1, h2⟩
theorem Tr.ft {h : Heap} {a T : Addr} {cls fl : Value} {dx : Option Addr} (t : Tr h a cls dx T fl) : ∃ o vs, h.get? T = some o ∧ o.data = .fields vs := let ⟨_, _, oT, ts, _, _, _, _, _, h1, h2, _⟩ := t; ⟨oT, ts, h1, h2⟩
theorem Rw.fa {h : Heap} {a : Addr} {cls : Value} {dx : Option Addr} (t : Rw h a cls dx) : ∃ o vs, h.get? a = some o ∧ o.data = .fields vs := let ⟨oe, vs, h1, _, h2, _⟩ := t; ⟨oe, vs, h1, h2⟩
section
variable {X : Cx} {E : XK} {a : Addr} {cls : Value} {dx : Option Addr} {H' : Hp} {s' : Shared} {M : Model} {Z : Value → Shared → Prop} {Q : Unit → Shared → Prop}
theorem frs_cons (hf : X.env.frame = some X.env.locals) : frs (X.env :: X.outer) = X.env.locals :: frs X.outer := by unfold frs; rw [List.filterMap_cons, hf]
/-- the body's facts, behind a write -/
theorem XB.wr (x : XB X E a cls dx H' s') {ch : List Addr} {h' : Heap} (y : Wr (frs (X.env :: X.outer)) ch s'.heap h') (hc : ∀ b ∈ ch, X.s₀.heap.get? b = none ∧ H' b = none ∧ ∃ o vs, s'.heap.get? b = some o ∧ o.data = .fields vs) : XB X E a cls dx H' { s' with heap := h' } := by
  refine ⟨x.na, x.ua, x.os, x.bare, un_wr x.un y (fun b hb => ?_) (fun b hb => (hc b hb).1), hok_wr x.hok y (fun b hb => (hc b hb).2.1) x.frf, fun_wr x.funs y (fun b hb => (hc b hb).2.2), x.frf, x.nl, x.fr, x.af, x.e⟩
  rw [frs_cons x.fr] at hb
  rcases List.mem_cons.mp hb with z | z
  · rw [z]; exact .inr x.nl
  · exact .inl z
/-- the frame is noted -/
theorem xs_note {e : Value} (x : XS X E e s')
    (hQ : ∀ h' a T cls dx H', e = .ref a → XB X E a cls dx H' { s' with heap := h' } → Tr h' a cls dx T (rawInt X.env.locals) → X.s₀.heap.get? T = none → H' T = none → Q () { s' with heap := h' }) : wpAny M X.A (noteFrame e X.env) Q Z s' := by
  obtain ⟨a, cls, dx, H', rfl, b, t⟩ := x
  have hfr := b.af
  have new : ∀ T, s'.heap.get? T = none → X.s₀.heap.get? T = none := fun T n => by
    cases q : X.s₀.heap.get? T with
    | none => rfl
    | some o =>
      obtain ⟨o', e'⟩ := b.un.there T o q (by simp)
      rw [n] at e'
      cases e'
  rcases t with t | ⟨T, fl, t, hfl, nT, uT⟩
  · refine note_new hfr b.funs b.fr t fun h' T n t' y => hQ h' a T cls dx H' rfl (b.wr y fun c hc => ?_) t' (new T n) (hok_none b.hok n)
    rw [List.mem_singleton.mp hc]
    exact ⟨b.na, b.ua, t.fa⟩
  · rcases hfl with rfl | rfl
    · refine note_next hfr b.funs b.fr t fun h' T' n t' y => hQ h' a T' cls dx H' rfl (b.wr y fun c hc => ?_) t' (new T' n) (hok_none b.hok n)
      rcases List.mem_cons.mp hc with z | z
      · rw [z]; exact ⟨b.na, b.ua, t.fa⟩
      · rw [List.mem_singleton.mp z]; exact ⟨nT, uT, t.ft⟩
    · obtain ⟨hp, g, d, k, o⟩ := s'
      exact note_held b.fr t (hQ hp a T cls dx H' rfl b t nT uT)
theorem xb_flight {T : Addr} {fl : Value} {fr : Option Addr} (b : XB X E a cls dx H' s') (t : Tr s'.heap a cls dx T fl) (nT : X.s₀.heap.get? T = none) (uT : H' T = none)
    (hQ : ∀ h', XB X E a cls dx H' { s' with heap := h' } → Tr h' a cls dx T (fr.elim .none fun f => rawInt f) → Q () { s' with heap := h' }) : wpAny M X.A (setFlight (.ref a) fr) Q Z s' := by
  refine set_flight (S := frs (X.env :: X.outer)) t fun h' t' y => hQ h' (b.wr y fun c hc => ?_) t'
  rw [List.mem_singleton.mp hc]
  exact ⟨nT, uT, t.ft⟩
/-- it leaves the frame -/
theorem xs_leave {e : Value} (x : XS X E e s') : wpAny M X.A (leaving X.env e) (fun _ s'' => CXF X.prog X.w X.outer X.H₀ X.s₀ E e s'') Z s' := by
  unfold leaving
  refine wpAny_bind (xs_note x fun h' a T cls dx H' e1 b t nT uT => ?_)
  subst e1
  refine xb_flight (fr := none) b t nT uT fun h2 b2 t2 => ?_
  exact ⟨a, T, cls, dx, H', rfl, t2, b2.na, nT, b2.ua, uT, b2.os, b2.bare, b2.un, b2.hok, b2.e⟩
/-- it passes a part of the body that runs as an activation of its own (a loop's) -/
theorem xs_own : PassesOwn M X.A X.env (XS X E) := fun e s' x => by
  unfold notedBy
  refine xs_note x fun h' a T cls dx H' e1 b t nT uT => ?_
  subst e1
  unfold cameBackBy
  obtain ⟨oe, vs, oT, ts, he, hc, hd, h1, r⟩ := id t
  refine wpAny_bind (wpAny_field he hd h1 ?_)
  rw [if_neg (show ¬ ((Value.ref T == Value.none) = true) by simp)]
  rw [b.fr]
  refine xb_flight (fr := some X.env.locals) b t nT uT fun h2 b2 t2 => ?_
  exact ⟨a, cls, dx, H', rfl, b2, .inr ⟨T, _, t2, .inr rfl, nT, uT⟩⟩
end
/-- a callee's exception, seen from the body -/
theorem xs_call {X : Cx} {E : XK} {pins : List (Addr × Obj)} {σ : St} {H : Hp} {s s' : Shared} {e : Value} (I : Inv X pins σ H s) (hst : X.stack = X.env :: X.outer) (hf : X.env.frame = some X.env.locals) (hex : X.ex = []) (x : CXF X.prog X.w X.stack H s E e s') : XS X E e s' := by
  obtain ⟨a, T, cls, dx, H', rfl, t, na, nT, ua, uT, os, bare, un, hok, q⟩ := x
  rw [hst] at un
  have fc := frs_cons hf
  have b0 := I.base
  rw [hex] at b0
  have nl : X.s₀.heap.get? X.env.locals = none := Heap.get?_none_of_le I.ok.above
  have back : ∀ b, s.heap.get? b = none → X.s₀.heap.get? b = none := fun b n => by
    cases z : X.s₀.heap.get? b with
    | none => rfl
    | some o =>
      obtain ⟨o', e'⟩ := b0.there b o z (by simp)
      rw [n] at e'
      cases e'
  have neL : ∀ b o, X.s₀.heap.get? b = some o → b ≠ X.env.locals := fun b o z w => by rw [w, nl] at z; cases z
  refine ⟨a, cls, dx, H', rfl, ⟨back a na, ua, os.trans I.os, bare, ⟨fun b o z n hb hx => ?_, fun b o z n hb hx => ?_, fun b o z n hx => ?_, fun b o z hx => ?_, fun b xs z => un.tups b xs (b0.tups b xs z), fun b o u z => un.frzs b o u (b0.frzs b o u z), fun b ps z => ?_⟩, hok, ?_, ?_, nl, hf, (by rw [← hst]; exact I.ok.frames), q⟩, .inr ⟨T, .none, t, .inl rfl, back T nT, uT⟩⟩
  · refine un.keep b o (b0.keep b o z n hb hx) (b0.free b o z n hx) (fun w => ?_) (by simp)
    rw [fc] at w
    rcases List.mem_cons.mp w with w | w
    · exact neL b o z w
    · exact hb w
  · obtain ⟨sl, e1⟩ := b0.slot b o z n hb hx
    obtain ⟨sl2, e2⟩ := un.any e1 (b0.free b o z n hx) (by simp)
    exact ⟨sl2, e2⟩
  · obtain ⟨o', e'⟩ := b0.there b o z hx
    exact un.free b o' e' (b0.free b o z n hx) (by simp)
  · obtain ⟨o', e'⟩ := b0.there b o z hx
    exact un.there b o' e' (by simp)
  · obtain ⟨m1, e1⟩ := b0.tbls b ps z
    obtain ⟨m2, e2⟩ := un.tbls b _ e1
    exact ⟨m1 ++ m2, by rw [e2, Array.append_assoc]⟩
  · have st := I.stack
    rw [hst] at st
    have all : ∀ (l : List Env), (∀ b ∈ frs l, b ∈ frs (X.env :: X.outer)) → s.heap.FunFrames X.base l → s'.heap.FunFrames X.base l := by
      intro l
      induction l with
      | nil => intro _ _; trivial
      | cons v r ih =>
        intro hs hl
        obtain ⟨hk, ⟨L, o, h1, hn, ho, hd⟩, hr⟩ := hl
        have hm : L ∈ frs (v :: r) := by unfold frs; rw [List.filterMap_cons, h1]; exact List.mem_cons_self
        have hL : H L = none := I.stkFree L (by rw [hst]; exact hs L hm)
        obtain ⟨sl, e2⟩ := un.any ho hL (by simp)
        exact ⟨hk, ⟨L, _, h1, hn, e2, hd⟩, ih (fun b hb => hs b (by unfold frs; rw [List.filterMap_cons, h1]; exact List.mem_cons_of_mem _ hb)) hr⟩
    exact all _ (fun _ hb => hb) st
  · intro b hb
    have hb' : b ∈ frs X.stack := by rw [hst]; exact hb
    obtain ⟨_, o, ho, _⟩ := I.stack.mem hb'
    exact un.free b o ho (I.stkFree b hb') (by simp)
/-- from the wish XS to a def's own -/
theorem pss_xs {X : Cx} {E : XK} {st : List Stmt} {t : TS} (h : PSs (X.wish (XS X E)) st t) (hst : X.stack = X.env :: X.outer) (hx : ∀ e s', wpAny (model X.prog X.w) X.A (leaving X.env e) (fun _ s'' => CXF X.prog X.w X.outer X.H₀ X.s₀ E e s'') (fun e' s'' => CXF X.prog X.w X.outer X.H₀ X.s₀ E e' s'') s' → X.xe e s') : PSs X st t := fun pins s σ H D I hw =>
  wpAny_mono (h pins s σ H D (I.wish _) hw) (fun _ _ q => q.unwish) fun e s' z => hx e s' (xs_leave z)
/-- THE RULE for a def that may raise -/
theorem fun_okX {P : Program} {w : World} {K : PySem.W.Frag} {mg : Str → Option Value} {base : Heap} {x qual : Str} {st : Stmt} {f : Addr} {fd : FuncData} {N ps : List Str} {k : Nat} {sp : Sp} (F : Fun K x qual st f fd) (S : FnScope N ps (defScope st)) (len : ∀ vs H Q E, sp vs H Q E → vs.length = ps.length)
    (hbody : ∀ (cdv : Value) (A : Around) (outer : List Env) (s : Shared) (H : Hp) (vs : List V) (Q : VK) (E : XK), Room k (A.deeper (envOfC qual (defScope st) s.heap.objs.size f cdv)) → sp vs H Q E →
      ∃ t, PSs ((cxOf (CXF P w) P w K mg base N qual (defScope st) f cdv A outer s H E).wish (XS (cxOf (CXF P w) P w K mg base N qual (defScope st) f cdv A outer s H E) E)) (defBody st) t ∧ t { nx := fun _ H' => Q .non H', rt := Q } (start N vs) H) : FnOk P w K mg base (CXF P w) (k + 1) f fd ps sp := by
  obtain ⟨oc, od, kV, doc, pm, an, cdv, ct, osl, rfl, lk, hcd⟩ := F.ex
  refine fn_of lk hcd S len fun A outer s H vs Q E hr hsp => ?_
  obtain ⟨t, h, q⟩ := hbody cdv A outer s H vs Q E hr hsp
  exact ⟨t, pss_xs h rfl (fun e s' z => z), q⟩
end L2.Ex

end
section
set_option Elab.async false
set_option linter.all false
set_option maxRecDepth 100000
set_option maxHeartbeats 4000000
namespace L2.Ex
open PySem PySem.Spec PyProof.Rows
/-- a call of a def that may raise -/
structure CalX (P : Program) (w : World) (K : PySem.W.Frag) (mg : Str → Option Value) (base : Heap) (x : Str) (ps : List Str) (k : Nat) (sp : Sp) : Prop where
  ex : ∃ f fd, FnOk P w K mg base (CXF P w) k f fd ps sp ∧ Binds K fd ps [] ∧ PySem.W.keepIn K (.ref f) = true ∧ mg x = some (.ref f)
theorem pe_calX {Y : Cx} {E : XK} {x : Str} {ps : List Str} {k n : Nat} {sp : Sp} {p pos : Pos} {e : Expr} {es : List Expr} {t : TA} (c : CalX Y.prog Y.w Y.K Y.mg Y.base x ps k sp) (hr : Room n Y.A) (ha : PA (Y.wish (XS Y E)) (e :: es) t) (hn : k ≤ n := by omega) (hst : Y.stack = Y.env :: Y.outer := by rfl) (hf : Y.env.frame = some Y.env.locals := by rfl) (hex : Y.ex = [] := by rfl) (hg : Gl Y x := by rfl)
    (hdb : (x == ("__debug__" : Str)) = false := by decide) (he : starEach (e :: es) Y.env = (false, eval e Y.env) :: starEach es Y.env := by rfl) (hpl : (backTo pos (starEach es Y.env)).any (·.1) = false := by rfl) : PE (Y.wish (XS Y E)) (.Call (.Name x p) (e :: es) [] pos) (tCall sp [] E t) := by
  obtain ⟨f, fd, F, b, kp, m⟩ := c.ex
  exact pe_call (X := Y.wish (XS Y E)) (CX := CXF Y.prog Y.w) F (hr.mono hn) hg m kp b .nil (fun pins σ H s e s' I q => xs_call I.unwish hst hf hex q) ha hdb he hpl
end L2.Ex

end
section
set_option Elab.async false
set_option linter.all false
set_option maxRecDepth 100000
set_option maxHeartbeats 4000000
namespace L2.Ex
open PySem PySem.Spec PyProof.Rows PySem.W
/-- what the class at C, below BaseException, finds for its instances -/
structure ExFind (K : Frag) (C : Addr) : Prop where
  ga : findIn K (.ref C) "__getattribute__" = some (some (.builtin "BaseException.__getattribute__"))
  gn : findIn K (.ref C) "__getattr__" = some none
  cl : findIn K (.ref C) "__class__" = some (some (.builtin "object.__class__"))
  sg : specialIn K (.builtin "object.__class__") "__get__" = some (some (.builtin "getset_descriptor.__get__"))
  tk : takesIn K (.builtin "object.__class__") = some true
  ob : mroIn K C (.type "object") = some true
  be : mroIn K C (.type "BaseException") = some true
  is : (clsIn K C).isSome = true
theorem find_obj {K : Frag} {C : Addr} (Y : ExFind K C) (od : Option Obj) : findObj K C od "__class__" = some (.bind (.builtin "getset_descriptor.__get__") (.builtin "object.__class__")) := by
  obtain ⟨cd, hc⟩ := Option.isSome_iff_exists.mp Y.is
  unfold findObj
  rw [hc, Option.bind_some, Y.cl, Option.bind_some]
  simp [Y.sg, Y.tk]
section
variable {prog : Program} {w : World} {A : Around} {E : Value → Shared → Prop} {K : Frag} {C a : Addr} {o : Obj} {od : Option Obj} {h : Heap} {g : Array GenState} {d : Drawn} {t : Nat} {os : OsState}
theorem check_ga {M : Model} {nameV : Value} {Q : Unit → Shared → Prop} (Y : ExFind K C) (X : K.In h) (I : InstAt h a o C od) (hq : Q () ⟨h, g, d, t, os⟩) : wpAny M A (checkBuiltinCall "BaseException.__getattribute__" ⟨[.ref a, nameV], []⟩) Q E ⟨h, g, d, t, os⟩ := by
  have k1 : builtinKind "BaseException.__getattribute__" = some .slot := by decide +kernel
  have k2 : splitId "BaseException.__getattribute__" = some ("BaseException", "__getattribute__") := by decide +kernel
  have L : Looks M h (isInstance (.ref a) (.type "BaseException")) true := (I.type (M := M)).andThen (looks_mroIn X Y.be)
  have ha := F.args_bexc_ga (.ref a) nameV
  simp only [checkBuiltinCall, k1, k2]
  refine wpAny_bind (L.at ?_)
  repeat (any_goals (first | assumption | wp_step))
theorem class_entry {tk : Tok} {Q : Fin → Shared → Prop} (Y : ExFind K C) (X : K.In h) (I : InstAt h a o C od) (hq : Q (.done (.ret (.ref C))) ⟨h, g, d, t, os⟩) :
    wpAny (model prog w) A (Builtin.«object.__getattribute__» ⟨[.ref a, .str "__class__" tk], []⟩) Q E ⟨h, g, d, t, os⟩ := by
  have L0 := I.type (M := model prog w)
  have L1 := looks_find (M := model prog w) X I (find_obj Y od)
  refine wpAny_bind (wpAny_pure (wpAny_bind (wpAny_pure (wpAny_bind (L0.at (wpAny_bind (L1.at ?_)))))))
  show wpAny _ _ (holding [Value.builtin "object.__class__"] (call (Value.builtin "getset_descriptor.__get__") [Value.builtin "object.__class__", Value.ref a, Value.ref C]) >>= ret) _ _ _
  exact wpAny_bind (wpAny_holding (wpAny_call (class_get (s := ⟨h, g, d, t, os⟩) X I Y.ob (wpAny_pure hq))))
theorem class_attr {Q : Option Value → Shared → Prop} (Y : ExFind K C) (X : K.In h) (I : InstAt h a o C od) (hq : Q (some (.ref C)) ⟨h, g, d, t + 1, os⟩) : wpAny (model prog w) A (getAttr? (.ref a) "__class__") Q E ⟨h, g, d, t, os⟩ := by
  have L0 := I.type (M := model prog w)
  have L1 := looks_findIn (M := model prog w) X Y.ga
  have L2 := looks_findIn (M := model prog w) X Y.gn
  have G := PySem.F.attrBase_ValueError.ga
  have b1 := G.bind (.ref a)
  unfold getAttr?; unfold getAttrBy?; unfold getAttrBy
  refine wpAny_bind (wpAny_mkText ?_)
  refine wpAny_bind (wpAny_attempt (wpAny_holding ?_))
  refine wpAny_bind (L0.at ?_)
  refine wpAny_bind (L1.at ?_)
  show wpAny _ _ (getAttrByItsOwn _ _ _ _ _ _) _ _ _
  unfold getAttrByItsOwn
  refine wpAny_bind (L2.at ?_)
  refine wpAny_bind (wpAny_attempt (wpAny_holding ?_))
  show wpAny _ _ (boundAndCalled _ _ _) _ _ _
  unfold boundAndCalled
  rw [b1]
  refine wpAny_bind (wpAny_pure ?_)
  refine wpAny_call (codeAny_call_builtin G.plain F.entry_bexc_ga (check_ga Y X I (class_entry Y X I ?_)))
  exact handed_on rfl (wpAny_pure hq)
end
/-- an exception of the class at C, without attributes of its own, at p -/
noncomputable def XOp (p C : Addr) (h : Heap) : Prop := ∃ o vs, h.get? p = some o ∧ o.cls = .ref C ∧ o.data = .fields vs ∧ o.dict = none
noncomputable def XO (p C : Addr) : HO := .ext (XOp p C)
theorem cls_at {K : Frag} {C : Addr} (e : (clsIn K C).isSome = true) : ∃ c' d' cd' sl', K.lookup C = some ⟨c', d', .cls cd', sl'⟩ := by
  unfold clsIn at e
  split at e
  · rename_i q; exact ⟨_, _, _, _, q⟩
  · cases e
section
variable {X : Cx}
theorem un_new {fs : List Addr} {H : Hp} {h h' : Heap} {a : Addr} {o : HO} (k : ∀ b u, h.get? b = some u → h'.get? b = some u) (ha : h.get? a = none) (hn : H a = none) : Un fs [] H (upd H a o) h h' where
  keep := fun b u q _ _ _ => k b u q
  slot := fun b u q _ _ _ => ⟨u.slots, k b u q⟩
  free := fun b u q n _ => by rw [upd_ne (fun z => by rw [z, ha] at q; cases q)]; exact n
  there := fun b u q _ => ⟨u, k b u q⟩
  tups := fun b xs q => by rw [upd_ne (ne_of_none q hn)]; exact q
  frzs := fun b u xs q => by rw [upd_ne (ne_of_none q hn)]; exact q
  tbls := fun b ps q => ⟨#[], by rw [upd_ne (ne_of_none q hn), q]; simp⟩
theorem hok_new {P : Program} {w : World} {H : Hp} {h h' : Heap} {a : Addr} {o : HO} (x : HOk P w H h) (k : ∀ b u, h.get? b = some u → h'.get? b = some u) (hn : H a = none) (new : ObjOk P w (upd H a o) h' a o) : HOk P w (upd H a o) h' := fun b u e => by
  by_cases hb : b = a
  · subst hb; rw [upd_same] at e; cases e; exact new
  · rw [upd_ne hb] at e
    exact (x b u e).stay (fun c v _ q => k c v q) (fun c q => by rw [upd_ne (ne_of_none q hn)]; exact q) fun c xs q => by rw [upd_ne (ne_of_none q hn)]; exact q
end
end L2.Ex

end
section
set_option Elab.async false
set_option linter.all false
set_option maxRecDepth 100000
set_option maxHeartbeats 4000000
namespace L2.Ex
open PySem PySem.Spec PyProof.Rows PySem.W
section
variable {X : Cx} {pins : List (Addr × Obj)} {σ : St} {H : Hp} {s : Shared}
/-- what a thing new to the state is not -/
structure Strange (X : Cx) (pins : List (Addr × Obj)) (H : Hp) (b : Addr) : Prop where
  s0 : X.s₀.heap.get? b = none
  un : H b = none
  nl : b ≠ X.env.locals
  nc : ∀ x c, X.env.cells.lookup x = some c → c ≠ b
  np : ∀ p ∈ X.pn ++ pins, p.1 ≠ b
theorem Inv.strange (I : Inv X pins σ H s) (hex : X.ex = []) {b : Addr} (n : s.heap.get? b = none) : Strange X pins H b := by
  have b0 := I.base
  rw [hex] at b0
  refine ⟨?_, hok_none I.hok n, fun z => ?_, fun x c e z => ?_, fun p hp z => ?_⟩
  · cases z : X.s₀.heap.get? b with
    | none => rfl
    | some o =>
      obtain ⟨o', e'⟩ := b0.there b o z (by simp)
      rw [n] at e'
      cases e'
  · obtain ⟨m, ⟨o, _, _, ho, _⟩, _⟩ := I.loc
    rw [← z, n] at ho
    cases ho
  · obtain ⟨v, o, ho, _⟩ := I.cell x c e
    rw [z, n] at ho
    cases ho
  · have := (I.pin p hp).1
    rw [z, n] at this
    cases this
/-- the body goes on behind what an exception wrote -/
theorem Inv.wr {ch : List Addr} {h' : Heap} {t' : Nat} (I : Inv X pins σ H s) (hex : X.ex = []) (y : Wr (frs X.stack) ch s.heap h') (hc : ∀ b ∈ ch, Strange X pins H b) : Inv X pins σ H { s with heap := h', toks := t' } := by
  have b0 := I.base
  rw [hex] at b0
  have nS : ∀ b, b ≠ X.env.locals → b ∉ X.fs → b ∉ frs X.stack := fun b n1 n2 z => (List.mem_cons.mp (I.stkSub b z)).elim n1 n2
  have nl0 : X.s₀.heap.get? X.env.locals = none := Heap.get?_none_of_le I.ok.above
  refine ⟨I.ok, I.os, I.bare, ?_, ?_, fun x c e => ?_, I.free, I.freeC, fun p hp => ?_, hok_wr I.hok y (fun b hb => (hc b hb).un) I.stkFree, I.len⟩
  · rw [hex]
    refine un_wr b0 y (fun b hb => ?_) (fun b hb => (hc b hb).s0)
    rcases List.mem_cons.mp (I.stkSub b hb) with z | z
    · rw [z]; exact .inr nl0
    · exact .inl z
  · obtain ⟨m, ⟨o, es, ep, ho, r⟩, hl⟩ := I.loc
    obtain ⟨sl, e1⟩ := y.slot _ o ho fun z => (hc _ z).nl rfl
    refine ⟨m, ⟨_, es, ep, e1, r⟩, fun i x v e2 e3 e4 => ?_⟩
    obtain ⟨u, ru, l⟩ := hl i x v e2 e3 e4
    refine ⟨u, ru, ?_⟩
    rcases l with l | ⟨k, c, e, oc, hoc, hd⟩
    · exact .inl l
    · obtain ⟨sl2, e5⟩ := y.slot c oc hoc fun z => (hc c z).nc x c e rfl
      exact .inr ⟨k, c, e, _, e5, hd⟩
  · obtain ⟨v, oc, hoc, hd⟩ := I.cell x c e
    obtain ⟨sl2, e5⟩ := y.slot c oc hoc fun z => (hc c z).nc x c e rfl
    exact ⟨v, _, e5, hd⟩
  · obtain ⟨e, n, ne, nf, d⟩ := I.pin p hp
    exact ⟨y.keep _ _ e (nS _ ne nf) fun z => (hc _ z).np p hp rfl, n, ne, nf, d⟩
/-- a thing that is there is tracked from now on -/
theorem Inv.track {b : Addr} {o : HO} (I : Inv X pins σ H s) (q : Strange X pins H b) (new : ObjOk X.prog X.w (upd H b o) s.heap b o) : Inv X pins σ (upd H b o) s := by
  have nb : ∀ c u, X.s₀.heap.get? c = some u → c ≠ b := fun c u e z => by rw [z, q.s0] at e; cases e
  refine ⟨I.ok, I.os, I.bare, ⟨I.base.keep, I.base.slot, fun c u e n hx => by rw [upd_ne (nb c u e)]; exact I.base.free c u e n hx, I.base.there, fun c xs e => ?_, fun c u v e => ?_, fun c ps e => ?_⟩, I.loc, I.cell, by rw [upd_ne (Ne.symm q.nl)]; exact I.free, fun x c e => by rw [upd_ne (q.nc x c e)]; exact I.freeC x c e, fun p hp => ?_, hok_new I.hok (fun _ _ e => e) q.un new, I.len⟩
  · have z := I.base.tups c xs e
    rw [upd_ne (ne_of_none z q.un)]; exact z
  · have z := I.base.frzs c u v e
    rw [upd_ne (ne_of_none z q.un)]; exact z
  · obtain ⟨m, z⟩ := I.base.tbls c ps e
    exact ⟨m, by rw [upd_ne (ne_of_none z q.un)]; exact z⟩
  · obtain ⟨e, n, ne, nf, d⟩ := I.pin p hp
    exact ⟨e, by rw [upd_ne (q.np p hp)]; exact n, ne, nf, d⟩
/-- a name goes -/
theorem Inv.gone {i : Nat} {x : Str} {m : Str → Option Value} {v : Option Value} {h' : Heap} {t' : Nat} (I : Inv X pins σ H s) (hi : X.N[i]? = some x) (hl : X.env.kindOf x = some .local) (hn : s.heap.Ns X.env.locals m) (hn' : h'.Ns X.env.locals (fun y => if y = x then v else m y)) (hs : Heap.SameBut X.env.locals s.heap h') (nd : X.N.Nodup) : Inv X pins (σ.set i none) H { s with heap := h', toks := t' } := by
  obtain ⟨oL, es, ep, hoL, r⟩ := id hn
  have neL : ∀ b o, X.s₀.heap.get? b = some o → b ≠ X.env.locals := fun b o e => Nat.ne_of_lt (Nat.lt_of_lt_of_le (Heap.lt_size e) I.ok.above)
  refine ⟨I.ok, I.os, I.bare, ⟨fun b o e n hb hx => (hs.2 b (neL b o e)).trans (I.base.keep b o e n hb hx), fun b o e n hb hx => ?_, I.base.free, fun b o e hx => ?_, I.base.tups, I.base.frzs, I.base.tbls⟩, ⟨_, hn', fun j y w e1 e2 e3 => ?_⟩, fun y c e => ?_, I.free, I.freeC, fun p hp => ?_, fun b ob e => ?_, by rw [List.length_set]; exact I.len⟩
  · obtain ⟨sl, e1⟩ := I.base.slot b o e n hb hx
    exact ⟨sl, (hs.2 b (neL b o e)).trans e1⟩
  · obtain ⟨o', e1⟩ := I.base.there b o e hx
    exact ⟨o', (hs.2 b (neL b o e)).trans e1⟩
  · have ji : j ≠ i := fun z => by
      subst z
      by_cases lt : j < σ.length
      · rw [List.getElem?_set_self lt] at e2; cases e2
      · rw [List.getElem?_eq_none (by rw [List.length_set]; omega)] at e2; cases e2
    rw [List.getElem?_set_ne (Ne.symm ji)] at e2
    obtain ⟨m2, hn2, hl2⟩ := I.loc
    obtain ⟨u, ru, l⟩ := hl2 j y w e1 e2 e3
    refine ⟨u, ru, ?_⟩
    have em : m2 = m := by
      obtain ⟨o2, es2, ep2, ho2, hd2, _, hm2⟩ := hn2
      obtain ⟨o3, es3, ep3, ho3, hd3, _, hm3⟩ := hn
      rw [ho2] at ho3
      cases ho3
      rw [hd2] at hd3
      cases hd3
      funext z
      rw [← hm2 z, ← hm3 z]
    rcases l with ⟨k, e⟩ | ⟨k, c, e, z⟩
    · refine .inl ⟨k, ?_⟩
      have yx : y ≠ x := fun z => ji (nodup_ix nd e1 (z ▸ hi))
      rw [em] at e
      simp [yx, e]
    · exact .inr ⟨k, c, e, z.sameBut hs (I.cne y c e)⟩
  · obtain ⟨w, z⟩ := I.cell y c e
    exact ⟨w, z.sameBut hs (I.cne y c e)⟩
  · obtain ⟨e, n, ne, nf, d⟩ := I.pin p hp
    exact ⟨(hs.2 p.1 ne).trans e, n, ne, nf, d⟩
  · refine (I.hok b ob e).stay (fun c w hc q => (hs.2 c fun z => ?_).trans q) (fun _ q => q) fun _ _ q => q
    rcases hc with hc | hc
    · rw [← hc, z, I.free] at e; cases e
    · rw [z, I.free] at hc; cases hc
end
theorem name_goes {M : Model} {A : Around} {E : Value → Shared → Prop} {s : Shared} {env : Env} {n : Str} {pos : Pos} {m : Str → Option Value} {Q : Unit → Shared → Prop} (hl : env.kindOf n = some .local) (hn : s.heap.Ns env.locals m) (hp : (env.scope.kind == .class || (env.scope.kind == .module && env.locals != env.globals)) = false)
    (h : ∀ h' v, h'.Ns env.locals (fun y => if y = n then v else m y) → Heap.SameBut env.locals s.heap h' → Q () { s with heap := h', toks := s.toks + 1 }) : wpAny M A (do bindName env n .none; unbindBehindTheSuite env n pos) Q E s := by
  refine wpAny_bind (wpAny_bindName (wpAny_storeName_local hl hn (fun h1 n1 s1 => ?_) hp))
  unfold unbindBehindTheSuite unbindName; refine wpAny_onRaise (wpAny_bind (wpAny_point (wpAny_bind ?_)))
  unfold deleteName; simp only [hl, hp]; rw [if_neg (by decide)]
  refine wpAny_bind (wpAny_nsDel_keeps n1 fun h2 v n2 s2 => ?_)
  simp only [if_true, Option.isSome_some, Bool.not_true, Bool.false_eq_true, if_false]
  refine wpAny_pure (wpAny_point (h h2 v ?_ (s1.trans s2)))
  have e : (fun y => if y = n then v else if y = n then some Value.none else m y) = fun y => if y = n then v else m y := by
    funext y
    by_cases z : y = n <;> simp [z]
  rw [e] at n2
  exact n2
end L2.Ex

end
section
set_option Elab.async false
set_option linter.all false
set_option maxRecDepth 100000
set_option maxHeartbeats 4000000
namespace L2.Ex
open PySem PySem.Spec PyProof.Rows PySem.W
/-- within an except suite -/
noncomputable abbrev inSuite (X : Cx) (e : Value) : Cx := { X with A := X.A.mark (some e), calm := false, xe := fun _ _ => False }
theorem inv_suite {X : Cx} {pins : List (Addr × Obj)} {σ : St} {H : Hp} {s : Shared} (e : Value) (I : Inv X pins σ H s) : Inv (inSuite X e) pins σ H s :=
  ⟨⟨I.ok.mod, I.ok.kind, I.ok.glob, I.ok.blt, I.ok.above, I.ok.inj, I.ok.has, I.ok.cab, (fun z => nomatch z), I.ok.frames, I.ok.stk, I.ok.exf, I.ok.bs, I.ok.bsz, I.ok.noex, I.ok.exfs, I.ok.funs, I.ok.frf⟩, I.os, I.bare, I.base, I.loc, I.cell, I.free, I.freeC, I.pin, I.hok, I.len⟩
theorem inv_out {X : Cx} {pins : List (Addr × Obj)} {σ : St} {H : Hp} {s : Shared} {e : Value} (hd : X.A.handled = none) (I : Inv (inSuite X e) pins σ H s) : Inv X pins σ H s :=
  ⟨⟨I.ok.mod, I.ok.kind, I.ok.glob, I.ok.blt, I.ok.above, I.ok.inj, I.ok.has, I.ok.cab, (fun _ => hd), I.ok.frames, I.ok.stk, I.ok.exf, I.ok.bs, I.ok.bsz, I.ok.noex, I.ok.exfs, I.ok.funs, I.ok.frf⟩, I.os, I.bare, I.base, I.loc, I.cell, I.free, I.freeC, I.pin, I.hok, I.len⟩
/-- what an except clause asks of the class it names -/
structure ExCls (K : Frag) (B : Addr) : Prop where
  ty : typeIn K (.ref B) = some (.type "type")
  is : (clsIn K B).isSome = true
  be : mroIn K B (.type "BaseException") = some true
theorem is_type {K : Frag} {M : Model} {h : Heap} {C : Addr} (X : K.In h) (e : (clsIn K C).isSome = true) : Looks M h (isType (.ref C)) true := by
  obtain ⟨c', d', cd', sl', hk⟩ := cls_at e
  intro A' Q' E' s' k q
  unfold isType; unfold loadHead
  exact wpAny_bind (wpAny_loadPart (k _ _ (X _ _ hk)) (wpAny_pure q))
theorem matches_ex {K : Frag} {M : Model} {A : Around} {E : Value → Shared → Prop} {s : Shared} {a B C : Addr} {o : Obj} {Q : Bool → Shared → Prop} (X : K.In s.heap) (Y : ExCls K B) (he : s.heap.get? a = some o) (hc : o.cls = .ref C) (hm : mroIn K C (.ref B) = some true) (hq : Q true s) : wpAny M A (excMatches (.ref a) (.ref B)) Q E s := by
  have L1 : Looks M s.heap (isInstance (.ref B) (.type "tuple")) false := (looks_typeIn X Y.ty).andThen (Looks.of_pure tc_notTuple)
  have L2 := is_type (M := M) X Y.is
  have L3 := looks_mroIn (M := M) X Y.be
  have L4 := looks_mroIn (M := M) X hm
  obtain ⟨h, g, d, t, os⟩ := s
  unfold excMatches isExcClass
  refine wpAny_bind (L1.at ?_)
  dsimp only
  rw [if_neg Bool.false_ne_true]
  refine wpAny_bind (wpAny_pure ?_)
  rw [List.forIn_cons]
  refine wpAny_bind (wpAny_bind (wpAny_bind (wpAny_bind (L2.at ?_))))
  rw [if_pos rfl]
  refine L3.at ?_
  rw [if_neg (show ¬ ((!true) = true) by decide)]
  refine wpAny_pure ?_
  dsimp only
  rw [List.forIn_nil]
  refine wpAny_pure ?_
  have T0 : ∀ {Q' : Value → Shared → Prop}, Q' (.ref C) ⟨h, g, d, t, os⟩ → wpAny M A (typeOf (.ref a)) Q' E ⟨h, g, d, t, os⟩ := fun {Q'} q' => by
    repeat (first | (with_reducible refine wpAny_loadPart_at he ?_; rw [hc]) | wp_step)
    exact q'
  refine wpAny_bind (T0 ?_)
  rw [List.forIn_cons]
  refine wpAny_bind (wpAny_bind (wpAny_bind (L4.at ?_)))
  rw [if_pos rfl]
  exact wpAny_pure (wpAny_pure (wpAny_pure hq))
/-- a call whose exception is caught here -/
theorem eval_cal {X : Cx} {pins : List (Addr × Obj)} {σ : St} {H : Hp} {s : Shared} {x : Str} {ps : List Str} {k n : Nat} {sp : Sp} {p pos : Pos} {e : Expr} {es : List Expr} {t : TA} {Q : VK} {Ec : XK} (c : CalX X.prog X.w X.K X.mg X.base x ps k sp) (hr : Room n X.A) (hn : k ≤ n) (ha : PA X.nox (e :: es) t) (I : Inv X pins σ H s) (h : t σ H fun vs H1 => sp vs H1 Q Ec) (hg : Gl X x)
    (hdb : (x == ("__debug__" : Str)) = false) (he : starEach (e :: es) X.env = (false, eval e X.env) :: starEach es X.env) (hpl : (backTo pos (starEach es X.env)).any (·.1) = false) :
    wpAny (model X.prog X.w) X.A (eval (.Call (.Name x p) (e :: es) [] pos) X.env) (EP X pins σ Q) (fun e' s' => ∃ H1 s1, Inv X pins σ H1 s1 ∧ CXF X.prog X.w X.stack H1 s1 Ec e' s') s := by
  obtain ⟨fa, fd, F, b, kp, m⟩ := c.ex
  refine wpAny_Call_Name_kw (ld_glob I hg m ?_ hdb)
  have hp := ha pos pins s σ H _ (I.wish _) h
  refine callWith_K (h₀ := X.base) I.ok.mod.kin kp (wpAny_mono hp (fun us s1 z => ?_) (fun _ _ z => False.elim z)) he hpl
  obtain ⟨vs, H1, I0, r, q⟩ := z
  have I1 := I0.unwish
  refine ⟨I1.kIn, ?_⟩
  have hl : us.length = ps.length := by rw [← r.length]; exact F.len _ _ _ _ q
  have hb := b s1 us I1.kIn (by rw [List.append_nil]; exact hl)
  rw [List.append_nil] at hb
  refine wpAny_call (codeAny_mono (F.run X.A X.stack s1 H1 ⟨us, []⟩ us vs Q Ec (hr.mono hn) I1.env0 hb r q) fun rr s' hq => ?_)
  cases rr with
  | error e' => exact ⟨H1, s1, I1, hq⟩
  | ok fl =>
    cases fl with
    | ret u => exact I1.after hq
    | next => exact False.elim hq
    | brk => exact False.elim hq
    | cont => exact False.elim hq
/-- what the suite has to do with an exception of the class at C -/
noncomputable def Suite (K : Frag) (B : Addr) (k : Nat) (ts : TS) (D : Ends) (σ : St) : XK := fun cls dx H2 => ∃ C, cls = .ref C ∧ dx = none ∧ mroIn K C (.ref B) = some true ∧
  ∀ a, H2 a = none → ts { nx := fun σ' H' => D.nx (σ'.set k none) H', rt := fun _ _ => False } (σ.set k (some (.ref a))) (upd H2 a (XO a C))
end L2.Ex

end
section
set_option Elab.async false
set_option linter.all false
set_option maxRecDepth 100000
set_option maxHeartbeats 4000000
namespace L2.Ex
open PySem PySem.Spec PyProof.Rows PySem.W
section
variable {X : Cx}
noncomputable abbrev TJ := Str → St → Hp → VK → Prop
noncomputable def PJ (X : Cx) (es : List Expr) (t : TJ) : Prop := ∀ (pins : List (Addr × Obj)) (s : Shared) (σ : St) (H : Hp) (acc : Str) (Q : VK), Inv X pins σ H s → t acc σ H Q →
  Joins (model X.prog X.w) X.A X.xe (evalEach es X.env) acc (fun out s1 => out.length ≤ sizeLine ∧ EP X pins σ Q (.str out s1.toks) { s1 with toks := s1.toks + 1 }) s
noncomputable def tJn : TJ := fun acc σ H Q => acc.length ≤ sizeLine ∧ Q (.str acc) H
noncomputable def tJc (te : TE) (t : TJ) : TJ := fun acc σ H Q => te σ H fun v H1 => ∃ y, v = .str y ∧ (acc ++ y).length ≤ sizeLine ∧ t (acc ++ y) σ H1 Q
theorem pj_nil : PJ X [] tJn := fun pins s σ H acc Q I h => ⟨h.1, .str acc, H, I.tok _, ⟨_, rfl⟩, h.2⟩
theorem pj_cons {e : Expr} {es : List Expr} {te : TE} {t : TJ} (he : PE X e te) (ht : PJ X es t) : PJ X (e :: es) (tJc te t) := by
  intro pins s σ H acc Q I h
  show wpAny _ _ (eval e X.env) _ _ _
  refine thn (he pins s σ H _ I h) fun v s1 z => ?_
  obtain ⟨w, H1, I1, r, y, rfl, hz, q⟩ := z
  obtain ⟨tk, rfl⟩ := r
  exact ⟨y, tk, rfl, hz, ht pins s1 σ H1 _ Q I1 q⟩
/-- f"..", of two parts or more -/
noncomputable def tJoin (t : TJ) : TE := fun σ H Q => t Str.empty σ H Q
theorem pe_join {e1 e2 : Expr} {es : List Expr} {t : TJ} {pos : Pos} (ht : PJ X (e1 :: e2 :: es) t) : PE X (.JoinedStr (e1 :: e2 :: es) pos) (tJoin t) := by
  intro pins s σ H Q I h
  exact wpAny_JoinedStr (ht pins s σ H _ Q I h)
end
end L2.Ex

end
section
set_option Elab.async false
set_option linter.all false
set_option maxRecDepth 100000
set_option maxHeartbeats 4000000
namespace L2.Ex
open PySem PySem.Spec PyProof.Rows PySem.W
theorem strs_flat (ss : List Str) : (ss.map V.str).all flatV = true := by
  rw [List.all_map, List.all_eq_true]
  intro _ _
  rfl
section
variable {X : Cx}
end
end L2.Ex

end
section
set_option Elab.async false
set_option linter.all false
set_option maxRecDepth 100000
set_option maxHeartbeats 4000000
/-! Ways into kinds. -/
namespace L2.Bk
open PySem PySem.Spec PyProof.Rows L2.Bw
noncomputable def five : List Str := ["arg", "res", "item", "one", "two"]
end L2.Bk

end
section
set_option Elab.async false
set_option linter.all false
set_option maxRecDepth 100000
set_option maxHeartbeats 4000000
/-! A module's table of tuples that have no dict. -/
namespace L2.Ex
open PySem PySem.Spec PyProof.Rows
/-- a loop in a def that may raise -/
theorem ps_forX {Y : Cx} {E : XK} {tg iter : Expr} {body : List Stmt} {wi : TI} {g : TG} {tb : TS} {pos : Pos} (hc : Y.calm = true) (hi : PI (Y.wish (XS Y E)) tg iter wi) (hg : PG (Y.wish (XS Y E)) tg g) (hb : PSs (Y.wish (XS Y E)) body tb)
    (hs : ∀ x, foldedSetIterable iter Y.env x = pure x := by intro _; rfl) : PS (Y.wish (XS Y E)) (.For tg iter body [] pos) (tFor wi g tb) :=
  ps_for (X := Y.wish (XS Y E)) (xs_own (X := Y) (E := E)) hc hi hg hb hs
end L2.Ex
namespace L2.Bw
open PySem PySem.Spec PyProof.Rows
noncomputable def lookN (K : PySem.W.Frag) (ss : List Str) (v : Value) : Bool := lookT K ss v && (match v with | .ref b => (match K.lookup b with | some o => o.dict.isNone | none => false) | _ => false)
noncomputable def IsN (K : PySem.W.Frag) (ss : List Str) (v : Value) : Prop := ∃ b, v = .ref b ∧ (∀ H : Hp, SqT K H b (ss.map V.str)) ∧ ∃ o, K.lookup b = some o ∧ o.cls = .type "tuple" ∧ o.dict = none
theorem isN_of {K : PySem.W.Frag} (ss : List Str) (v : Value) (h : lookN K ss v = true) : IsN K ss v := by
  unfold lookN at h
  rw [Bool.and_eq_true_iff] at h
  obtain ⟨b, rfl, hq⟩ := isT_of ss v h.1
  refine ⟨b, rfl, hq, ?_⟩
  have h1 := h.1
  unfold lookT at h1
  have h2 := h.2
  cases e : K.lookup b with
  | none => simp only [e] at h2; cases h2
  | some o =>
    simp only [e] at h2 h1
    rw [Bool.and_eq_true_iff] at h1
    exact ⟨o, rfl, by simpa using h1.1, by simpa using h2⟩
section
variable {X : Cx}
noncomputable def rTabN (K : PySem.W.Frag) (a : Addr) (D : List (Str × List Str)) : R2 := fun x y H Q => x = .ref a ∧ ∃ z ss, y = .str z ∧ KTD.datumAt z D = some ss ∧ ∀ c, (∀ H' : Hp, SqT K H' c (ss.map V.str)) → (∃ o, K.lookup c = some o ∧ o.cls = .type "tuple" ∧ o.dict = none) → Q (.ref c) H
theorem pe_tabN {x : Str} {p pos : Pos} {b : Expr} {tb : TE} {a : Addr} {D : List (Str × List Str)} (hg : Gl X x) (hm : X.mg x = some (.ref a)) (hK : KTD.tabLook (lookN X.K) (fun b => X.K.lookup b) a D = true) (hb : PE X b tb) (hs : PlainIx b)
    (hd : (x == ("__debug__" : Str)) = false := by decide) (hl : ∀ r, letTemporaryGo (.Name x p) (.ref a) r = pure () := by intro _; rfl) : PE X (.Subscript (.Name x p) b pos) (tOp (rTabN X.K a D) (tC (.ref a)) tb) := by
  intro pins s σ H Q I h
  refine Subscript_ (binT (pe_glob hg hm (v := .ref a) rfl hd) hb I h fun v u s2 x' y H2 I2 rx ry q => ?_)
  obtain ⟨e, z, ss, e', hat, q⟩ := q
  subst e e'
  cases rx
  obtain ⟨tz, e⟩ := ry
  subst e
  have T : KTD.TabOf (IsN X.K) s2.heap a D := KTD.tab_of_look isN_of (fun b o e => I2.kIn b o e) hK
  have ty : s2.TypeIs (.ref a) "dict" := by obtain ⟨_, o, _, _, ho, hc, _⟩ := T; exact ⟨o, ho, hc.1⟩
  refine subscriptTail_builtin ty slot_dict_getitem.lookup ?_ (hs _ _) hl
  unfold getItem
  refine wpAny_holding ?_
  refine wpAny_bind (wpAny_sequenceKey ty (by decide) ?_)
  refine wpAny_bind (wpAny_callSpecial?_slot (name := Str.ofString "__getitem__") ty slot_dict_getitem (wpAny_call_entry slot_dict_getitem ty entry_dict_getitem ?_ (args_dict_getitem _ _)))
  show wpAny _ _ (dictGet a (.str z tz) >>= _) _ _ s2
  refine wpAny_bind (getTab T hat fun v hv => wpAny_pure ⟨v, rfl, wpAny_pure ?_⟩)
  obtain ⟨c, e, hc, ho⟩ := hv
  subst e
  exact ⟨.ref c, H2, I2.tok _, rfl, q c hc ho⟩
end
end L2.Bw

end
section
set_option Elab.async false
set_option linter.all false
set_option maxRecDepth 100000
set_option maxHeartbeats 4000000
/-! Exceptions of classes with an __init__ of their own: made, their attributes. -/
namespace L2.Ex
open PySem PySem.Spec PyProof.Rows PySem.W
/-- own classes, then the base's -/
noncomputable def overB (bmB : List Value) : List Value → Bool
  | [] => false
  | v :: r => (v :: r) == bmB || match v with | .ref _ => overB bmB r | _ => false
theorem refuse_over {self : Value} {bmB : List Value} (hp : refuseLoop self "__setattr__" bmB = pure ()) : ∀ {l : List Value}, overB bmB l = true → refuseLoop self "__setattr__" l = pure ()
  | [], e => by cases e
  | v :: r, e => by
    unfold overB at e
    rcases Bool.or_eq_true_iff.mp e with z | z
    · rw [beq_iff_eq.mp z]; exact hp
    · split at z
      · rw [refuseLoop_ref]; exact refuse_over hp z
      · cases z
noncomputable abbrev veB : List Value := [.type "ValueError", .type "Exception", .type "BaseException", .type "object"]
/-- what an exception class asks for its instances' attributes to be stored -/
structure ExSet (K : Frag) (C : Addr) : Prop where
  sa : findIn K (.ref C) "__setattr__" = some (some (.builtin "object.__setattr__"))
  over : ((clsIn K C).any fun cd => overB veB cd.mro) = true
  hd : ((clsIn K C).any fun cd => cd.hasDict) = true
  ob : mroIn K C (.type "object") = some true
section
variable {prog : Program} {w : World} {A : Around} {E : Value → Shared → Prop} {s : Shared} {K : Frag} {x C : Addr} {o : Obj} {vs : Array Value} {mA : Str → Option Value} {name : Str} {v : Value} {ns : List Str}
theorem into_dict {M : Model} {d : Addr} {tk : Tok} {Q : Fin → Shared → Prop} (hn : s.heap.Ns1 d mA) (hw : Within mA ns) (hz : ns.length < 1000)
    (hq : ∀ h', h'.Ns1 d (fun y => if y = name then some v else mA y) → Heap.SameBut d s.heap h' → Q (.done (.ret .none)) { s with heap := h', toks := s.toks + 1 }) : wpAny M A (Builtin.ObjectAttr.storeInDict d (.str name tk) name v) Q E s := by
  unfold Builtin.ObjectAttr.storeInDict Builtin.ObjectAttr.newKeyGuard
  refine wpAny_bind (wpAny_pure (wpAny_bind (wpAny_nsSet1 hn fun h' n' sb => ?_)))
  obtain ⟨od, es, ep, e1, e2, e3⟩ := n'.count (Within.cons name v hw)
  have few : es.size ≤ sizeLine := Nat.le_trans e3 (by rw [List.length_cons, sizeLine_eq]; omega)
  refine wpAny_bind (wpAny_lookBehind e1 (by rw [e2]; exact pastItsLine_dict (Nat.le_succ_of_le few)) ?_)
  exact wpAny_pure (hq h' n' sb)
theorem exc_store {Q : Unit → Shared → Prop} (X : K.In s.heap) (Z : ExSet K C) (hf : findIn K (.ref C) name = some none) (hx : s.heap.get? x = some o) (hc : o.cls = .ref C) (hd : o.data = .fields vs)
    (hm : (o.dict = none ∧ ∀ n, mA n = none) ∨ ∃ d, o.dict = some d ∧ d ≠ x ∧ s.heap.Ns1 d mA) (hw : Within mA ns) (hz : ns.length < 1000)
    (hq : ∀ h' d t', h'.get? x = some { o with dict := some d } → d ≠ x → h'.Ns1 d (fun y => if y = name then some v else mA y) → (∀ b u, b ≠ x → b ≠ d → s.heap.get? b = some u → h'.get? b = some u) →
      (o.dict = some d ∨ (o.dict = none ∧ s.heap.get? d = none)) → Q () { s with heap := h', toks := t' }) : wpAny (model prog w) A (setAttr (.ref x) name v) Q E s := by
  obtain ⟨od, I⟩ : ∃ od, InstAt s.heap x o C od := by
    rcases hm with ⟨z, _⟩ | ⟨d, z, _, od, _, _, e, _⟩
    · exact ⟨none, hx, hc, by unfold notCls; rw [hd], by rw [z]; trivial⟩
    · exact ⟨some od, hx, hc, by unfold notCls; rw [hd], by rw [z]; exact e⟩
  have SF := PySem.F.store_ValueError
  obtain ⟨cd, hcd, hov⟩ := any_some Z.over
  obtain ⟨cd', hcd', hhd⟩ := any_some Z.hd
  rw [hcd] at hcd'
  cases hcd'
  refine set_plain X I Z.sa ?_
  obtain ⟨h, g, d, t, os⟩ := s
  have sub : Looks (model prog w) h (isInstance (.ref x) (.type "object")) true := I.type.andThen (looks_mroIn X Z.ob)
  refine codeAny_call_builtin SF.slot.plain SF.entry (@check_slot (model prog w) _ _ ⟨h, g, d, t + 1, os⟩ "object.__setattr__" "object" "__setattr__" (.ref x) [.str name t, v] [] _ SF.kind SF.split sub (SF.args (.ref x) (.str name t) v) ?_)
  have lm : Looks (model prog w) h (mroOf (.ref C)) cd.mro := (looks_clsIn X hcd).andThen .now
  rw [osa_eq, refuse_eq]
  have l0 := I.type (M := model prog w)
  have lf := looks_findIn (M := model prog w) X hf
  refine wpAny_bind (wpAny_bind (l0.at (wpAny_bind (lm.at ?_))))
  rw [refuse_over (SF.passes _) hov]
  refine wpAny_pure (wpAny_bind (l0.at (wpAny_bind (lf.at ?_))))
  refine wpAny_bind (wpAny_pure ?_)
  refine wpAny_bind (wpAny_pure ?_)
  have lc := looks_clsIn (M := model prog w) X hcd
  obtain ⟨oc, odi, oda, osl⟩ := o
  dsimp only at hc hd hm hx
  subst hc hd
  refine wpAny_bind (wpAny_bind (wpAny_loadPart hx (wpAny_bind (lc.at ?_))))
  rw [hhd]
  rcases hm with ⟨rfl, hmA⟩ | ⟨dx, rfl, hne, hns⟩
  · obtain rfl : mA = fun _ => none := funext hmA
    have hxs : x ≠ h.objs.size := Nat.ne_of_lt (Heap.lt_size hx)
    have hx1 := Heap.get?_push_of_some { cls := .type "dict", data := .dict #[] } hx
    refine wpAny_bind (wpAny_alloc' (wpAny_bind (wpAny_update' hx1 ?_)))
    have hg : ((h.push { cls := .type "dict", data := .dict #[] }).update x fun o => { cls := o.cls, dict := some h.objs.size, data := o.data, slots := o.slots }).get? h.objs.size = some { cls := .type "dict", data := .dict #[] } :=
      (Heap.get?_update_ne _ _ _ _ (Ne.symm hxs)).trans (Heap.get?_push_at rfl rfl)
    have hn0 : ((h.push { cls := .type "dict", data := .dict #[] }).update x fun o => { cls := o.cls, dict := some h.objs.size, data := o.data, slots := o.slots }).Ns h.objs.size (fun _ => none) :=
      ⟨_, #[], _, hg, rfl, fun e he => absurd he (by simp), fun _ => rfl⟩
    refine wpAny_pure (a := some h.objs.size) ?_
    refine into_dict (Heap.Ns1.of_empty hn0) Within.nil (by decide) fun h' n' sb => ?_
    refine hq h' h.objs.size _ ?_ (Ne.symm hxs) n' (fun b u h1 h2 e => ?_) (.inr ⟨rfl, Heap.get?_none_of_le (Nat.le_refl _)⟩)
    · refine (sb.2 x hxs).trans (Heap.get?_update_self _ hx1 rfl)
    · exact (sb.2 b h2).trans ((Heap.get?_update_ne _ _ _ _ h1).trans (Heap.get?_push_of_some _ e))
  · refine wpAny_pure (a := some dx) ?_
    refine into_dict hns hw hz fun h' n' sb => ?_
    exact hq h' dx _ ((sb.2 x (Ne.symm hne)).trans hx) hne n' (fun b u _ h2 e => (sb.2 b h2).trans e) (.inl rfl)
theorem exc_read {d : Addr} {expr : Bool} {Q : Value → Shared → Prop} (Y : ExFind K C) (hh : hasDictIn K C = true) (X : K.In s.heap) (hf : findIn K (.ref C) name = some none) (hx : s.heap.get? x = some o) (hc : o.cls = .ref C) (hd : o.data = .fields vs) (hdi : o.dict = some d) (hn : s.heap.Ns1 d mA) (hv : mA name = some v) (hv' : handedIn v = true)
    (hq : Q v { s with toks := s.toks + 1 }) : wpAny (model prog w) A (getAttr (.ref x) name expr) Q E s := by
  obtain ⟨od, ho, hl⟩ := lookIn_ns hn
  have I : InstAt s.heap x o C (some od) := ⟨hx, hc, by unfold notCls; rw [hd], by rw [hdi]; exact ho⟩
  have fo : findObj K C (some od) name = some (.value v) := findObj_own hh hf rfl (by rw [hl, hv])
  obtain ⟨h, g, dr, t, os⟩ := s
  have l0 := I.type (M := model prog w)
  have l1 := looks_findIn (M := model prog w) X Y.ga
  have l2 := looks_findIn (M := model prog w) X Y.gn
  have l3 := looks_find (M := model prog w) X I fo
  have G := PySem.F.attrBase_ValueError.ga
  have b1 := G.bind (.ref x)
  unfold getAttr getAttrBy
  refine wpAny_bind (wpAny_mkText (wpAny_holding (wpAny_bind (l0.at (wpAny_bind (l1.at ?_))))))
  show wpAny _ _ (getAttrByItsOwn _ _ _ _ _ _) _ _ _
  unfold getAttrByItsOwn
  refine wpAny_bind (l2.at (wpAny_bind (wpAny_attempt (wpAny_holding ?_))))
  unfold callGetattribute
  rw [show (expr && onTheHeap (Value.builtin "BaseException.__getattribute__")) = false from Bool.and_false _, if_neg Bool.false_ne_true]
  unfold boundAndCalled
  rw [b1]
  refine wpAny_bind (wpAny_pure ?_)
  refine wpAny_call (codeAny_call_builtin G.plain F.entry_bexc_ga (check_ga Y X I ?_))
  refine wpAny_bind (wpAny_pure (wpAny_bind (wpAny_pure (wpAny_bind (l0.at (wpAny_bind (l3.at ?_)))))))
  exact wpAny_pure (handed_on hv' hq)
end
/-- the facts of an exception class with an __init__ of its own -/
structure OwnI (K : Frag) (C fI : Addr) (bmB : List Value) (newId : String) : Prop where
  at_ : ∃ (nm q : Str) (N : Addr) (bs bm : List Value) (hdct : Bool) (sn : List Str) (sub : List Value) (ab : Bool) (col : Option Bool) (dd : Option Addr) (k0 k1 k2 k3 k5 : Option Value),
    K.lookup C = some (excClassObj nm q C N bs bm hdct sn sub ab col dd k0 k1 k2 k3 k5 newId) ∧ tailIn K bmB bm = true
  init : findIn K (.ref C) "__init__" = some (some (.ref fI))
  fn : isFn K (.ref fI) = true
section
variable {prog : Program} {w : World} {A : Around} {E : Value → Shared → Prop} {K : Frag} {C fI : Addr} {rest bmB : List Value} {B newId initId : String} {h : Heap} {g : Array GenState} {d : Drawn} {t : Nat} {os : OsState}
/-- the two things that a call of an exception class lays -/
noncomputable abbrev bareExc (h : Heap) (C : Addr) (rest : List Value) : Heap := (h.push { cls := .type "tuple", data := .seq rest.toArray }).push { cls := .ref C, data := .fields #[.ref h.objs.size, .none, .none, .none, .bool false, .none] }
theorem bare_keeps (b : Addr) (u : Obj) (z : h.get? b = some u) : (bareExc h C rest).get? b = some u := Heap.get?_push_of_some _ (Heap.get?_push_of_some _ z)
theorem bare_made : Heap.MadeExcOf h (bareExc h C rest) (h.objs.size + 1) (.ref C) rest where
  keeps := bare_keeps
  new := Heap.get?_none_of_le (Nat.le_succ _)
  there := ⟨h.objs.size, by heap_get, Heap.get?_none_of_le (Nat.le_refl _), Heap.get?_push_of_some _ (Heap.get?_push_at rfl rfl)⟩
theorem exc_type_call {Q : Fin → Shared → Prop} (F : ExcBaseFacts B newId initId bmB) (X : K.In h) (O : OwnI K C fI bmB newId) (hz : rest.length ≤ sizeLine)
    (hq : ∀ h' e, Heap.MadeExcOf h h' e (.ref C) rest → wpAny (model prog w) A (call (.ref fI) (.ref e :: rest)) (fun r s' => r = .none ∧ Q (.done (.ret (.ref e))) s') E ⟨h', g, d, t, os⟩) :
    wpAny (model prog w) A (Builtin.«type.__call__» ⟨.ref C :: rest, []⟩) Q E ⟨h, g, d, t, os⟩ := by
  obtain ⟨nm, q, N, bs, bm, hdct, sn, sub, ab, col, dd, k0, k1, k2, k3, k5, l, tl⟩ := O.at_
  have c0 := X _ _ l
  have T := tail_of_in X tl
  have X1 : K.In (bareExc h C rest) := fun b u z => bare_keeps b u (X b u z)
  have c1 := X1 _ _ l
  have m1 := (bare_made (h := h) (C := C) (rest := rest))
  obtain ⟨tt, e1, _, _⟩ := id m1.there
  have self : (Value.ref C :: bm).contains (.ref C) = true := by simp
  have l1 := looks_findIn (M := model prog w) X1 O.init
  have l2 := fun self => bind_fn (M := model prog w) X1 self (beq_iff_eq.mp O.fn)
  repeat (first | with_reducible refine wpAny_loadPart_at c0 ?_ | with_reducible refine wpAny_madeBy_exc c0 ?_ | wp_step)
  refine codeAny_call_builtin_code (Code.quiet_builtin _ F.quiet) (wpAny_check_new_subT F T c0 (codeAny_exc_new_subT F T c0 ?_ hz))
  show wpAny _ _ _ _ _ _
  unfold isInstance
  repeat (first | with_reducible refine wpAny_loadPart_at e1 ?_ | (with_reducible refine wpAny_isSubtype_exc c1 ?_; rw [self]) | wp_step)
  refine l1.at (wpAny_holding (wpAny_bind ((l2 _).at ?_)))
  refine wpAny_bind (wpAny_mono (hq _ _ m1) (fun r s' z => ?_) fun _ _ z => z)
  obtain ⟨rfl, z⟩ := z
  wp_walk
  exact z
theorem exc_call {Q : Value → Shared → Prop} (F : ExcBaseFacts B newId initId bmB) (X : K.In h) (O : OwnI K C fI bmB newId) (hz : rest.length ≤ sizeLine)
    (hq : ∀ h' e, Heap.MadeExcOf h h' e (.ref C) rest → wpAny (model prog w) (A.under (.builtin "type.__call__" ⟨.ref C :: rest, []⟩)) (call (.ref fI) (.ref e :: rest)) (fun r s' => r = .none ∧ Q (.ref e) s') E ⟨h', g, d, t, os⟩) :
    wpAny (model prog w) A (call (.ref C) rest) Q E ⟨h, g, d, t, os⟩ := by
  obtain ⟨nm, q, N, bs, bm, hdct, sn, sub, ab, col, dd, k0, k1, k2, k3, k5, l, tl⟩ := O.at_
  have c0 := X _ _ l
  have y1 := tc_lookup
  have y2 := tc_bind (.ref C)
  have y3 : Shared.TypeIs ⟨h, g, d, t, os⟩ (.ref C) "type" := ⟨_, c0, rfl⟩
  refine wpAny_call (codeAny_of_tree ?_)
  show wpAny _ _ (callAny (.ref C) _) _ _ _
  repeat (any_goals (first | assumption | with_reducible refine wpAny_loadPart_at c0 ?_ | wp_step))
  refine ⟨rfl, codeAny_call_builtin_at (Code.quiet_builtin _ (by decide +kernel)) entry_typeCall (wpAny_check_type_call_sub c0 ?_)⟩
  exact exc_type_call F X O hz fun h' e m => hq h' e m
end
end L2.Ex

end
section
set_option Elab.async false
set_option linter.all false
set_option maxRecDepth 100000
set_option maxHeartbeats 4000000
namespace L2.Ex
open PySem PySem.Spec PyProof.Rows PySem.W
/-- an exception of the class at C at p, its dict (if it has one) at dx; fr: it has no trace yet -/
noncomputable def XP (fr : Bool) (p C : Addr) (dx : Option Addr) (h : Heap) : Prop := ∃ o vs, h.get? p = some o ∧ o.cls = .ref C ∧ o.data = .fields vs ∧ (0 < vs.size ∧ (fr = true → vs[1]? = some .none)) ∧ o.dict = dx ∧ ∀ d, dx = some d → d ≠ p
noncomputable def XQ (fr : Bool) (p C : Addr) (dx : Option Addr) : HO := .ext (XP fr p C dx)
/-- the dict of an exception -/
noncomputable def DO (d : Addr) (fs : List (Str × V)) : HO := .ext fun h => ∃ mA, h.Ns1 d mA ∧ (∀ f, RelO (fs.lookup f) (mA f)) ∧ PySem.Within mA (fs.map (·.1))
section
variable {P : Program} {w : World} {H : Hp} {h h' : Heap} {p C d : Addr} {dx : Option Addr} {fs : List (Str × V)} {fr : Bool}
theorem xq_ok (x : XP fr p C dx h) : ObjOk P w H h p (XQ fr p C dx) := by
  obtain ⟨o, vs, e, r⟩ := id x
  exact ⟨x, ⟨o, e⟩, fun h1 h2 ⟨o1, vs1, e1, r1⟩ y => ⟨o1, vs1, y o1 e1, r1⟩⟩
theorem do_ok {mA : Str → Option Value} (n : h.Ns1 d mA) (r : ∀ f, RelO (fs.lookup f) (mA f)) (wi : PySem.Within mA (fs.map (·.1))) : ObjOk P w H h d (DO d fs) := by
  obtain ⟨o, es, ep, e, _⟩ := id n
  exact ⟨⟨mA, n, r, wi⟩, ⟨o, e⟩, fun h1 h2 ⟨m1, n1, r1, w1⟩ y => ⟨m1, n1.at y, r1, w1⟩⟩
theorem rel_put {f : Str} {y : V} {u : Value} {mA : Str → Option Value} (r : ∀ g, RelO (fs.lookup g) (mA g)) (ry : RelV y u) : ∀ g, RelO ((putF f y fs).lookup g) (if g = f then some u else mA g) := fun g => by
  rw [lookup_putF]
  by_cases q : g = f
  · rw [if_pos q, if_pos q]; exact ry
  · rw [if_neg q, if_neg q]; exact r g
theorem within_put {f : Str} {y : V} {u : Value} {mA : Str → Option Value} (wi : PySem.Within mA (fs.map (·.1))) : PySem.Within (fun g => if g = f then some u else mA g) ((putF f y fs).map (·.1)) := fun g hg => by
  by_cases q : g = f
  · rw [q]; exact (keys_putF f y fs).1
  · refine (keys_putF f y fs).2 g (wi g fun z => hg ?_)
    show (if g = f then some u else mA g) = none
    rw [if_neg q]; exact z
end
section
variable {X : Cx}
theorem xq_get {pins : List (Addr × Obj)} {σ : St} {H : Hp} {s : Shared} {p C : Addr} {dx : Option Addr} {fr : Bool} (I : Inv X pins σ H s) (e : H p = some (XQ fr p C dx)) : XP fr p C dx s.heap := (I.hok p _ e).1
theorem do_get {pins : List (Addr × Obj)} {σ : St} {H : Hp} {s : Shared} {d : Addr} {fs : List (Str × V)} (I : Inv X pins σ H s) (e : H d = some (DO d fs)) : ∃ mA, s.heap.Ns1 d mA ∧ (∀ f, RelO (fs.lookup f) (mA f)) ∧ PySem.Within mA (fs.map (·.1)) := (I.hok d _ e).1
/-- self.f = e, self an exception -/
noncomputable def sXF (K : Frag) (ta tv : TE) (f : Str) : TS := fun D σ H => tv σ H fun y H1 => ta σ H1 fun x H2 => ∃ fr p C, x = .ref p ∧ ExSet K C ∧ findIn K (.ref C) f = some none ∧
  ((H2 p = some (XQ fr p C none) ∧ ∀ d, H2 d = none → d ≠ p → D.nx σ (upd (upd H2 p (XQ fr p C (some d))) d (DO d [(f, y)]))) ∨
   ∃ d fs, H2 p = some (XQ fr p C (some d)) ∧ H2 d = some (DO d fs) ∧ fs.length < 900 ∧ D.nx σ (upd H2 d (DO d (putF f y fs))))
theorem ps_xfld {o value : Expr} {ta tv : TE} {f : Str} {pos pos' : Pos} (hex : X.ex = []) (ha : PE X o ta) (hv : PE X value tv) (hs : swapsWith value (some (.Attribute o f pos')) pos.line X.env = pure false) : PS X (.Assign [.Attribute o f pos'] value pos) (sXF X.K ta tv f) := by
  intro pins s σ H D I h
  refine plainObj_wpAny_Assign_Attribute (thn (hv pins s σ H _ I h) fun u s1 ⟨y, H1, I1, ry, q⟩ => thn (ha pins s1 σ H1 _ I1 q) fun ov s2 ⟨x, H2, I2, rx, fr, p, C, ex, Z, hf, q2⟩ => ?_) hs
  subst ex
  obtain rfl : ov = Value.ref p := rx
  rcases q2 with ⟨ep, q2⟩ | ⟨d, fs, ep, ed, lz, q2⟩
  · obtain ⟨ob, vs, e1, e2, e3, e4, e5, e6⟩ := xq_get I2 ep
    refine exc_store (mA := fun _ => none) (ns := []) I2.kIn Z hf e1 e2 e3 (.inl ⟨e5, fun _ => rfl⟩) Within.nil (by decide) fun h' d t' g1 ne n k ds => ?_
    have nd : s2.heap.get? d = none := by
      rcases ds with z | ⟨_, z⟩
      · rw [e5] at z; cases z
      · exact z
    have st := Inv.strange I2 hex nd
    have I3 : Inv X pins σ (upd H2 p (XQ fr p C (some d))) { s2 with heap := h', toks := t' } := I2.write (x := p) (e := p) (by rw [ep]; exact True.intro) (.inl rfl) (fun b u2 hb z => k b u2 hb (fun w => by rw [w, nd] at z; cases z) z) ⟨_, g1⟩
      (xq_ok ⟨_, vs, g1, e2, e3, e4, rfl, fun d' z => by cases z; exact ne⟩)
    have I4 := Inv.track (b := d) (o := DO d [(f, y)]) I3 ⟨st.s0, by rw [upd_ne ne]; exact st.un, st.nl, st.nc, st.np⟩ (do_ok n (fun g => ?_) ?_)
    · exact ⟨σ, _, I4, q2 d st.un ne⟩
    · exact rel_put (fs := []) (fun _ => (show RelO none none from trivial)) ry g
    · exact within_put (fs := []) (f := f) (y := y) Within.nil
  · obtain ⟨ob, vs, e1, e2, e3, e4, e5, e6⟩ := xq_get I2 ep
    obtain ⟨mA, n0, r0, w0⟩ := do_get I2 ed
    have ne0 := e6 d rfl
    refine exc_store (mA := mA) (ns := fs.map (·.1)) I2.kIn Z hf e1 e2 e3 (.inr ⟨d, e5, ne0, n0⟩) w0 (by rw [List.length_map]; omega) fun h' d' t' g1 ne n k ds => ?_
    obtain rfl : d = d' := by
      rcases ds with z | ⟨z, _⟩
      · rw [e5] at z; exact Option.some.inj z
      · rw [e5] at z; cases z
    obtain ⟨od, es, epx, g2, _⟩ := id n
    have eo : ({ ob with dict := some d } : Obj) = ob := by rw [← e5]
    rw [eo] at g1
    refine ⟨σ, _, I2.write (x := d) (e := d) (t' := t') (by rw [ed]; exact True.intro) (.inl rfl) (fun b u2 hb z => ?_) ⟨_, g2⟩ (do_ok n (rel_put r0 ry) (within_put w0)), q2⟩
    by_cases hbp : b = p
    · rw [hbp] at z ⊢
      rw [e1] at z
      cases z
      exact g1
    · exact k b u2 hbp hb z
/-- x.f, x an exception -/
noncomputable def tXF (K : Frag) (ta : TE) (f : Str) : TE := fun σ H Q => ta σ H fun x H1 => ∃ fr p C d fs v, x = .ref p ∧ H1 p = some (XQ fr p C (some d)) ∧ H1 d = some (DO d fs) ∧ ExFind K C ∧ hasDictIn K C = true ∧ findIn K (.ref C) f = some none ∧ fs.lookup f = some v ∧ Q v H1
theorem xget_ok {pins : List (Addr × Obj)} {σ : St} {H : Hp} {s : Shared} {A : Around} {E : Value → Shared → Prop} {p C d : Addr} {fs : List (Str × V)} {f : Str} {v : V} {b fr : Bool} {Q : Value → Shared → Prop} (I : Inv X pins σ H s) (ep : H p = some (XQ fr p C (some d))) (ed : H d = some (DO d fs)) (Y : ExFind X.K C) (hh : hasDictIn X.K C = true) (hf : findIn X.K (.ref C) f = some none) (l : fs.lookup f = some v)
    (h : ∀ u s', Inv X pins σ H s' → RelV v u → Q u s') : wpAny (model X.prog X.w) A (getAttr (.ref p) f b) Q E s := by
  obtain ⟨ob, vs, e1, e2, e3, e4, e5, e6⟩ := xq_get I ep
  obtain ⟨mA, n0, r0, w0⟩ := do_get I ed
  obtain ⟨u, hu, ru⟩ := RelO.some_of (v := v) (o := mA f) (by rw [← l]; exact r0 f)
  exact exc_read Y hh I.kIn hf e1 e2 e3 e5 n0 hu (handed_of ru) (h u _ (I.tok _) ru)
end
end L2.Ex

end
section
set_option Elab.async false
set_option linter.all false
set_option maxRecDepth 100000
set_option maxHeartbeats 4000000
namespace L2.Ex
open PySem PySem.Spec PyProof.Rows PySem.W
section
variable {X : Cx}
theorem pe_xfld {e : Expr} {f : Str} {pos : Pos} {ta : TE} (he : PE X e ta) (hb : attributeBase e f X.env (eval e X.env) = eval e X.env) : PE X (.Attribute e f pos) (tXF X.K ta f) := by
  intro pins s σ H Q I h
  refine attr_of hb (thn (he pins s σ H _ I h) fun u s1 ⟨x, H1, I1, rx, fr, p, C, d, fs, v, ex, ep, ed, Y, hh, hf, l, q⟩ => ?_)
  subst ex
  obtain rfl : u = Value.ref p := rx
  exact xget_ok I1 ep ed Y hh hf l fun u' s2 I2 ru => ⟨v, H1, I2, ru, q⟩
/-- what `B.__init__(self, ..)` asks of the class at B -/
structure BInit (K : Frag) (B : Addr) : Prop where
  ga : specialIn K (.ref B) "__getattribute__" = some (some (.builtin "type.__getattribute__"))
  rd : readsIn K B (.type "type") = true
  at_ : findCls K (.ref B) (.type "type") "__init__" = some (.val (.builtin "ValueError.__init__"))
/-- B.__init__(self, ..), self an exception of the class at C -/
noncomputable def tBI (C : Addr) (t : TA) : TE := fun σ H Q => t σ H fun vs H1 => ∃ fr p dx r, vs = .ref p :: r ∧ H1 p = some (XQ fr p C dx) ∧ r.length ≤ sizeLine ∧ Q .non H1
theorem pe_binit {x : Str} {B C fI : Addr} {np apos pos : Pos} {e : Expr} {es : List Expr} {t : TA} {pl : Sem Bool} (Z : BInit X.K B) (O : OwnI X.K C fI veB "ValueError.__new__") (hm : X.mg x = some (.ref B)) (hg : Gl X x) (ha : PA X (e :: es) t)
    (hdb : (x == ("__debug__" : Str)) = false := by decide) (hst : starEach (e :: es) X.env = (false, eval e X.env) :: starEach es X.env := by rfl) (hpl : (backTo pos (starEach es X.env)).any (·.1) = false := by rfl)
    (ht : eval (.Call (.Attribute (.Name x np) "__init__" apos) (e :: es) [] pos) X.env = (do
      let ov ← eval (.Name x np) X.env
      standAt apos.atName
      let (f, first) ← holding [ov] (getMethod ov "__init__" pl)
      callWith pos f first (backTo pos (starEach (e :: es) X.env)) (backToKw pos (keywordEach [] X.env))) := by rfl) :
    PE X (.Call (.Attribute (.Name x np) "__init__" apos) (e :: es) [] pos) (tBI C t) := by
  intro pins s σ H Q I h
  have F := PySem.F.excBase_ValueError
  refine methodCall_KW (pl := pl) (ld_glob I hg hm ?_ hdb) ht
  refine method_cls I.kIn Z.ga (cls_value I.kIn Z.rd Z.at_ rfl ?_)
  have hA := ha pos pins _ σ H _ (I.tok (s.toks + 1)) h
  rw [hst] at hA ⊢
  refine Calls.callWith_builtin (by show (false || (backTo pos (starEach es X.env)).any (·.1)) = false; rw [hpl] <;> rfl) (Calls.evalArgs_plain (thn hA fun us s2 z => ?_))
  obtain ⟨vs, H2, I2, r2, fr, p, dx, r, rfl, ep, lz, q⟩ := z
  obtain ⟨u0, ur, rfl, ru, rr⟩ : ∃ u0 ur, us = u0 :: ur ∧ RelV (.ref p) u0 ∧ Vals r ur := by
    cases r2 with
    | cons a b => exact ⟨_, _, rfl, a, b⟩
  obtain rfl : u0 = Value.ref p := ru
  obtain ⟨ob, fv, e1, e2, e3, e4, e5, e6⟩ := xq_get I2 ep
  obtain ⟨nm, q', N, bs, bm, hdct, sn, sub, ab, col, dd, k0, k1, k2, k3, k5, l, tl⟩ := O.at_
  have K2 := I2.kIn
  obtain ⟨h2, g2, d2, t2, o2⟩ := s2
  have lz' : ur.length ≤ sizeLine := by rw [← rr.length]; exact lz
  show wpAny _ _ (call (.builtin "ValueError.__init__") (.ref p :: ur)) _ _ _
  refine wpAny_call (codeAny_call_builtin F.init.plain F.initEntry (wpAny_check_init_subT F (tail_of_in K2 tl) (K2 _ _ l) e1 e2 ?_))
  have e1' := Heap.get?_push_of_some (h := h2) { cls := .type "tuple", data := .seq ur.toArray } e1
  obtain ⟨f0, e0⟩ : ∃ f0, fv[0]? = some f0 := ⟨_, Array.getElem?_eq_getElem e4.1⟩
  unfold Builtin.«BaseException.__init__» Builtin.BaseException.bexcPut
  refine wpAny_bind (wpAny_newTuple ?_ lz')
  refine wpAny_bind (wpAny_bind (wpAny_field e1' e3 e0 (wpAny_bind (wpAny_setField e1' e3 e4.1 ?_))))
  have dT := Obj.data_mapFields e3 (·.setIfInBounds 0 (Value.ref h2.objs.size))
  have gs := Heap.get?_update_self (h := h2.push { cls := .type "tuple", data := .seq ur.toArray }) (Obj.mapFields (·.setIfInBounds 0 (Value.ref h2.objs.size))) e1' (Obj.isFreed_of_fields dT)
  have fin : EP X pins σ Q Value.none ⟨(h2.push { cls := .type "tuple", data := .seq ur.toArray }).update p (Obj.mapFields (·.setIfInBounds 0 (Value.ref h2.objs.size))), g2, d2, t2, o2⟩ := by
    have I3 := I2.write (x := p) (e := p) (o := XQ fr p C dx) (t' := t2) (h' := (h2.push { cls := .type "tuple", data := .seq ur.toArray }).update p (Obj.mapFields (·.setIfInBounds 0 (Value.ref h2.objs.size)))) (by rw [ep]; exact True.intro) (.inl rfl)
      (fun b u2 hb z => (Heap.get?_update_other _ _ (Ne.symm hb)).trans (Heap.get?_push_of_some _ z)) ⟨_, gs⟩
      (xq_ok ⟨_, _, gs, by rw [Obj.cls_mapFields]; exact e2, dT, ⟨by simpa using e4.1, fun z => by simpa using e4.2 z⟩, by rw [dict_map]; exact e5, e6⟩)
    have eh : upd H2 p (XQ fr p C dx) = H2 := by
      funext b
      by_cases z : b = p
      · rw [z, upd_same, ep]
      · rw [upd_ne z]
    rw [eh] at I3
    exact ⟨.non, H2, I3, rfl, q⟩
  cases f0 <;> first | exact wpAny_pure (wpAny_pure fin) | exact wpAny_letGo (wpAny_pure fin)
end
end L2.Ex

end
section
set_option Elab.async false
set_option linter.all false
set_option maxRecDepth 100000
set_option maxHeartbeats 4000000
namespace L2.Ex
open PySem PySem.Spec PyProof.Rows PySem.W
/-- what stands at a is tracked no more -/
noncomputable def del (H : Hp) (a : Addr) : Hp := fun b => if b = a then none else H b
theorem del_same {H : Hp} {a : Addr} : del H a a = none := by unfold del; rw [if_pos rfl]
theorem del_ne {H : Hp} {a b : Addr} (n : b ≠ a) : del H a b = H b := by unfold del; rw [if_neg n]
theorem del_none {H : Hp} {a b : Addr} (n : H b = none) : del H a b = none := by unfold del; split <;> first | rfl | exact n
theorem hok_del {P : Program} {w : World} {H : Hp} {h : Heap} {a : Addr} {φ : Heap → Prop} (x : HOk P w H h) (e : H a = some (.ext φ)) : HOk P w (del H a) h := fun b o q => by
  by_cases z : b = a
  · rw [z, del_same] at q; cases q
  rw [del_ne z] at q
  exact (x b o q).stay (fun _ _ _ q => q) (fun c q => by rw [del_ne (fun z => by rw [z, e] at q; cases q)]; exact q) fun c xs q => by rw [del_ne (fun z => by rw [z, e] at q; cases q)]; exact q
theorem un_del {fs ch : List Addr} {H0 H : Hp} {h0 h : Heap} {a : Addr} {φ : Heap → Prop} (u : Un fs ch H0 H h0 h) (e : H a = some (.ext φ)) : Un fs ch H0 (del H a) h0 h where
  keep := u.keep
  slot := u.slot
  free := fun b o q n hx => del_none (u.free b o q n hx)
  there := u.there
  tups := fun b xs q => by
    have z := u.tups b xs q
    rw [del_ne (fun y => by rw [y, e] at z; cases z)]; exact z
  frzs := fun b o xs q => by
    have z := u.frzs b o xs q
    rw [del_ne (fun y => by rw [y, e] at z; cases z)]; exact z
  tbls := fun b ps q => by
    obtain ⟨m, z⟩ := u.tbls b ps q
    exact ⟨m, by rw [del_ne (fun y => by rw [y, e] at z; cases z)]; exact z⟩
section
variable {X : Cx}
/-- C(..) is run: laid, then its own __init__ -/
theorem run_excI {pins : List (Addr × Obj)} {σ : St} {H : Hp} {s : Shared} {Q : Addr → Hp → Prop} {us : List Value} {vs : List V} {k : Nat} {C fI : Addr} {fd : FuncData} {ps : List Str} {sp : Sp} {E : Value → Shared → Prop} (O : OwnI X.K C fI veB "ValueError.__new__") (F : FnOk X.prog X.w X.K X.mg X.base CX0 k fI fd ps sp) (hr : Room (k + 1) X.A) (hb : Binds X.K fd ps [])
    (I : Inv X pins σ H s) (r : Vals vs us) (lz : vs.length ≤ sizeLine) (h : ∀ p, H p = none → sp (.ref p :: vs) (upd H p (XQ true p C none)) (fun v H2 => v = .non ∧ Q p H2) E0) :
    wpAny (model X.prog X.w) X.A (call (.ref C) us) (fun v s' => ∃ p, v = .ref p ∧ s.heap.get? p = none ∧ ∃ H', Inv X pins σ H' s' ∧ Q p H') E s := by
  have lz' : us.length ≤ sizeLine := by rw [← r.length]; exact lz
  obtain ⟨h1, g1, d1, t1, o1⟩ := s
  refine exc_call PySem.F.excBase_ValueError I.kIn O lz' fun h' p m => ?_
  have np : H p = none := hok_none I.hok m.new
  obtain ⟨tt, ht, _, _⟩ := m.there
  have I2 : Inv X pins σ (upd H p (XQ true p C none)) ⟨h', g1, d1, t1, o1⟩ := I.un (h' := h') (t' := t1) (un_new m.keeps m.new np) (hok_new I.hok m.keeps np (xq_ok ⟨_, _, ht, rfl, rfl, ⟨by simp, fun _ => rfl⟩, rfl, fun d z => by cases z⟩))
  have hq := h p np
  have r2 : Vals (V.ref p :: vs) (Value.ref p :: us) := .cons rfl r
  have hl : (Value.ref p :: us ++ []).length = ps.length := by
    rw [List.append_nil, ← r2.length]
    exact F.len _ _ _ _ hq
  have hbb := hb ⟨h', g1, d1, t1, o1⟩ (Value.ref p :: us) I2.kIn hl
  rw [List.append_nil] at hbb
  refine wpAny_call (codeAny_mono (F.run _ X.stack _ _ ⟨Value.ref p :: us, []⟩ (Value.ref p :: us) _ _ E0 (hr.make C us []) (I2.env0.make C us []) hbb r2 hq) fun rr s' hq' => ?_)
  cases rr with
  | error e => exact hq'.elim
  | ok fl =>
    cases fl with
    | ret u =>
      obtain ⟨v, H', I3, rv, ev, q3⟩ := I2.after hq'
      subst ev
      exact ⟨rv, p, rfl, m.new, H', I3, q3⟩
    | next => exact False.elim hq'
    | brk => exact False.elim hq'
    | cont => exact False.elim hq'
/-- an exception made here with its attributes, seen from the body -/
theorem xs_madeI {E : XK} {pins : List (Addr × Obj)} {σ : St} {H H' : Hp} {s s' : Shared} {p C : Addr} {dx : Option Addr} (I0 : Inv X pins σ H s) (n0 : s.heap.get? p = none) (I : Inv X pins σ H' s') (hst : X.stack = X.env :: X.outer) (hf : X.env.frame = some X.env.locals) (hex : X.ex = []) (ep : H' p = some (XQ true p C dx)) (q : E (.ref C) dx (del H' p)) : XS X E (.ref p) s' := by
  have st0 := Inv.strange I0 hex n0
  have b0 := I.base
  rw [hex] at b0
  have st := I.stack
  rw [hst] at st
  obtain ⟨ob, vs, e1, e2, e3, e4, e5, e6⟩ := xq_get I ep
  refine ⟨p, .ref C, dx, del H' p, rfl, ⟨st0.s0, del_same, I.os, I.bare, un_del b0 ep, hok_del I.hok ep, st, (fun b hb => del_none (I.stkFree b (by rw [hst]; exact hb))), Heap.get?_none_of_le I.ok.above, hf, (by rw [← hst]; exact I.ok.frames), q⟩, .inl ⟨ob, vs, e1, ⟨e2, e5⟩, e3, e4.2 rfl⟩⟩
theorem raise_obj {M : Model} {A : Around} {E : Value → Shared → Prop} {s : Shared} {K : Frag} {env : Env} {C : Addr} {x : Sem Value} {Q : Flow → Shared → Prop} (be : mroIn K C (.type "BaseException") = some true) (ty : typeIn K (.ref C) = some (.type "type")) (hh : A.handled = none)
    (h : wpAny M A x (fun v s1 => ∃ p ob vs, v = .ref p ∧ K.In s1.heap ∧ s1.heap.get? p = some ob ∧ ob.cls = .ref C ∧ ob.data = .fields vs ∧ vs[1]? = some .none ∧ E (.ref p) s1) E s) : wpAny M A (raiseStmt env (some x) none) Q E s := by
  unfold raiseStmt
  refine wpAny_bind (wpAny_mono h (fun v s1 z => ?_) fun _ _ z => z)
  obtain ⟨p, ⟨oc, od, oda, osl⟩, vs, rfl, Xk, e1, e2, e3, e4, q⟩ := z
  simp only at e2 e3
  subst e2 e3
  obtain ⟨h1, g1, d1, t1, o1⟩ := s1
  have l0 : Looks M h1 (typeOf (.ref p)) (.ref C) := (Looks.ld e1).andThen .now
  have l1 : Looks M h1 (isInstance (.ref p) (.type "BaseException")) true := l0.andThen (looks_mroIn Xk be)
  have l2 := looks_typeIn (M := M) Xk ty
  have l3 : Looks M h1 (isType (.ref p)) false := (Looks.ld e1).andThen .now
  have l4 : Looks M h1 (isExcClass (.ref p)) false := l3.andThen .now
  refine wpAny_bind (wpAny_pure (wpAny_bind (wpAny_holding ?_)))
  unfold excFromValue raisedInstance setFlight
  refine wpAny_bind (l4.at ?_)
  rw [if_neg Bool.false_ne_true]
  refine wpAny_bind (l1.at ?_)
  rw [if_pos rfl]
  refine wpAny_pure (wpAny_bind (l3.at ?_))
  rw [if_neg Bool.false_ne_true]
  refine wpAny_bind (wpAny_bind (l0.at (wpAny_bind (l2.at ?_))))
  rw [if_pos (show (Value.type "type" == Value.type "type") = true by decide)]
  refine wpAny_pure (wpAny_bind (wpAny_bind (wpAny_field e1 rfl e4 ?_)))
  rw [if_neg (show ¬ ((Value.none != Value.none) = true) by decide)]
  exact wpAny_pure (wpAny_raiseNew_none hh q)
/-- raise C(..), C with an __init__ of its own -/
noncomputable def tRaiseI (C : Addr) (sp : Sp) (E : XK) (t : TA) : TS := fun _ σ H => t σ H fun vs H1 => vs.length ≤ sizeLine ∧ ∀ p, H1 p = none → sp (.ref p :: vs) (upd H1 p (XQ true p C none)) (fun v H2 => v = .non ∧ ∃ dx, H2 p = some (XQ true p C dx) ∧ E (.ref C) dx (del H2 p)) E0
theorem ps_raiseI {Y : Cx} {E : XK} {x : Str} {C fI : Addr} {k n : Nat} {fd : FuncData} {ps : List Str} {sp : Sp} {np cpos pos : Pos} {e : Expr} {es : List Expr} {t : TA} (O : OwnI Y.K C fI veB "ValueError.__new__") (F : FnOk Y.prog Y.w Y.K Y.mg Y.base CX0 k fI fd ps sp) (hr : Room n Y.A) (hb : Binds Y.K fd ps []) (hm : Y.mg x = some (.ref C)) (kp : keepIn Y.K (.ref C) = true) (be : mroIn Y.K C (.type "BaseException") = some true) (ty : typeIn Y.K (.ref C) = some (.type "type"))
    (ha : PA (Y.wish (XS Y E)) (e :: es) t) (hn : k + 1 ≤ n := by omega) (hst : Y.stack = Y.env :: Y.outer := by rfl) (hf : Y.env.frame = some Y.env.locals := by rfl) (hex : Y.ex = [] := by rfl) (hc : Y.calm = true := by rfl) (hg : Gl Y x := by rfl) (hdb : (x == ("__debug__" : Str)) = false := by decide)
    (he : starEach (e :: es) Y.env = (false, eval e Y.env) :: starEach es Y.env := by rfl) (hpl : (backTo cpos (starEach es Y.env)).any (·.1) = false := by rfl) :
    PS (Y.wish (XS Y E)) (.Raise (some (.Call (.Name x np) (e :: es) [] cpos)) none pos) (tRaiseI C sp E t) := by
  intro pins s σ H D I h
  have hh := I.ok.hd hc
  rw [arm_exec_Raise]
  refine wpAny_bind (wpAny_standAt (raise_obj (K := Y.K) (C := C) be ty hh (wpAny_bind ?_)))
  refine wpAny_Call_Name_kw (ld_glob I hg hm ?_ hdb)
  refine callWith_K (h₀ := Y.base) I.ok.mod.kin kp (thn (ha cpos pins s σ H _ I h) fun us s1 z => ?_) he hpl
  obtain ⟨vs, H1, I1, r, lz, qE⟩ := z
  refine ⟨I1.kIn, ?_⟩
  refine wpAny_mono (run_excI (X := Y) (Q := fun p H2 => ∃ dx, H2 p = some (XQ true p C dx) ∧ E (.ref C) dx (del H2 p)) (E := XS Y E) O F (hr.mono hn) hb I1.unwish r lz fun p np => ?_) (fun v s' z => ?_) fun _ _ z => z
  · exact qE p np
  · obtain ⟨p, rfl, n0, H', I3, dx, ep, q⟩ := z
    obtain ⟨ob, vs', e1, e2, e3, e4, e5, e6⟩ := xq_get I3 ep
    refine wpAny_bind (wpAny_standAt (wpAny_pure ⟨p, ob, vs', rfl, I3.kIn, e1, e2, e3, e4.2 rfl, xs_madeI I1.unwish n0 I3 hst hf hex ep q⟩))
end
end L2.Ex

end
section
set_option Elab.async false
set_option linter.all false
set_option maxRecDepth 100000
set_option maxHeartbeats 4000000
namespace L2.Ex
open PySem PySem.Spec PyProof.Rows PySem.W
/-- what the suite has to do with an exception, whatever its class and its dict -/
noncomputable def Suite2 (K : Frag) (B : Addr) (k : Nat) (ts : TS) (D : Ends) (σ : St) : XK := fun cls dx H2 => ∃ C, cls = .ref C ∧ mroIn K C (.ref B) = some true ∧ (∀ d, dx = some d → ∃ o, H2 d = some o) ∧
  ∀ a, H2 a = none → ts { nx := fun σ' H' => D.nx (σ'.set k none) H', rt := fun _ _ => False } (σ.set k (some (.ref a))) (upd H2 a (XQ false a C dx))
theorem caught2 {X : Cx} {pins : List (Addr × Obj)} {σ : St} {H1 : Hp} {s1 s' : Shared} {e : Value} {B : Addr} {Bn n : Str} {np hpos : Pos} {k : Nat} {b₀ : Stmt} {suite : List Stmt} {rest : List ExceptHandler} {ts : TS} {D : Ends}
    (I : Inv X pins σ H1 s1) (x : CXF X.prog X.w X.stack H1 s1 (Suite2 X.K B k ts D σ) e s') (Y : ExCls X.K B) (hm : X.mg Bn = some (.ref B)) (hN : X.N.Nodup) (hk : X.N[k]? = some n) (hl : X.env.scope.names.lookup n = some .local) (hS : ∀ a, PSs (inSuite X (.ref a)) (b₀ :: suite) ts)
    (hst : X.stack = X.env :: X.outer) (hf : X.env.frame = some X.env.locals) (hex : X.ex = []) (hc : X.calm = true) (hg : Gl X Bn) (hdb : (Bn == ("__debug__" : Str)) = false) :
    wpAny (model X.prog X.w) X.A (noteFrame e X.env) (fun _ s₂ => wpAny (model X.prog X.w) X.A (setFlight e none) (fun _ s₃ => wpAny (model X.prog X.w) X.A (handleBy e X.env (.ExceptHandler (some (.Name Bn np)) (some n) (b₀ :: suite) hpos :: rest)) (SP X pins D) X.xe s₃) X.xe s₂) X.xe s' := by
  obtain ⟨a, T, cls, dx, H', rfl, t, na, nT, ua, uT, os, bare, un, hok, C, rfl, hsub, there, q⟩ := x
  have I' : Inv X pins σ H' s' := I.call' os un hok bare (fun _ z => nomatch z)
  have qa0 := Inv.strange I hex na
  have qT0 := Inv.strange I hex nT
  have qa : Strange X pins H' a := ⟨qa0.s0, ua, qa0.nl, qa0.nc, qa0.np⟩
  have qT : Strange X pins H' T := ⟨qT0.s0, uT, qT0.nl, qT0.nc, qT0.np⟩
  have hfr : X.A.frames = some (X.env :: X.outer) := by rw [← hst]; exact I.ok.frames
  have hd := I.ok.hd hc
  have st' := I'.stack
  rw [hst] at st'
  refine note_next hfr st' hf t fun h2 T2 n2 t2 y2 => ?_
  have qT2 := Inv.strange I' hex n2
  rw [← hst] at y2
  have I2 := Inv.wr (t' := s'.toks) I' hex y2 (fun b hb => by
    rcases List.mem_cons.mp hb with z | z
    · rw [z]; exact qa
    · rw [List.mem_singleton.mp z]; exact qT)
  refine set_flight (S := frs X.stack) (fr := none) t2 fun h3 t3 y3 => ?_
  have I3 := Inv.wr (t' := s'.toks) I2 hex y3 (fun b hb => by rw [List.mem_singleton.mp hb]; exact qT2)
  refine wpAny_handleBy_cons ?_ (fun z => nomatch z)
  refine codeAny_handlers_test ?_
  have J3 := inv_suite (.ref a) I3
  refine ld_glob (X := inSuite X (.ref a)) J3 hg hm ?_ hdb
  obtain ⟨oe, vs, oT, tt, he, ⟨hcl, hdi⟩, hda, h1, ne, hT, hdT, h3'⟩ := id t3
  refine matches_ex I3.kIn Y he hcl hsub ?_
  show codeAny _ _ _ _ _
  refine codeAny_handlers_suite_as ?_
  refine set_flight (S := frs X.stack) (fr := none) t3 fun h4 t4 y4 => ?_
  have I4 := Inv.wr (t' := s'.toks) I3 hex y4 (fun b hb => by rw [List.mem_singleton.mp hb]; exact qT2)
  obtain ⟨oe4, vs4, oT4, tt4, he4, ⟨hcl4, hdi4⟩, hda4, h14, _⟩ := id t4
  have neD : ∀ d, dx = some d → d ≠ a := fun d z w => by
    obtain ⟨o, e⟩ := there d z
    rw [w, ua] at e
    cases e
  have I5 := Inv.track I4 qa (xq_ok ⟨oe4, vs4, he4, hcl4, hda4, ⟨Nat.lt_of_lt_of_le Nat.zero_lt_one (Nat.le_of_lt (Array.getElem?_eq_some_iff.mp h14).1), fun z => nomatch z⟩, hdi4, fun d z => neD d z⟩ : ObjOk X.prog X.w (upd H' a (XQ false a C dx)) h4 a (XQ false a C dx))
  have J5 := inv_suite (.ref a) I5
  refine store_ok (X := inSuite X (.ref a)) (i := k) (v := .ref a) J5 hN hk (Or.inl hl) rfl (fun s6 J6 => ?_) (.inr hl)
  refine wpAny_mono (hS a pins s6 _ _ _ J6 (q a ua)) (fun f s7 z => ?_) (fun _ _ z => False.elim z)
  cases f with
  | next =>
    obtain ⟨σ', H'', J7, dn⟩ := z
    have I7 := inv_out hd J7
    obtain ⟨m, hn, _⟩ := I7.loc
    refine name_goes hl hn (by rw [I.ok.kind]; rfl) fun h8 v n8 s8 => ?_
    exact ⟨σ'.set k none, H'', Inv.gone I7 hk hl hn n8 s8 hN, dn⟩
  | ret u => obtain ⟨_, _, _, _, _, z⟩ := z; exact z.elim
  | brk => obtain ⟨_, _, _, z⟩ := z; exact z.elim
  | cont => obtain ⟨_, _, _, z⟩ := z; exact z.elim
section
variable {X : Cx}
theorem kitx_inst {K : Frag} {p C : Addr} (Y : ExFind K C) : KitX K (.ref p) (.ref C) (fun h => ∃ o od, InstAt h p o C od) where
  ty := fun M h _ z => let ⟨_, _, I⟩ := z; I.type
  it := fun M h X _ => is_type X Y.is
  ne := fun h tp dd its n sl X e => by
    obtain ⟨c', d', cd', sl', hk⟩ := cls_at Y.is
    refine beq_eq_false_iff_ne.mpr fun z => ?_
    cases z
    rw [X _ _ hk] at e
    cases e
  ca := fun {prog w A E Q s} X z hq => by
    obtain ⟨_, _, I⟩ := z
    obtain ⟨h, g, d, t, os⟩ := s
    exact class_attr Y X I hq
/-- isinstance(x, D), x an exception with or without attributes -/
noncomputable def rIsX (K : Frag) : List V → Hp → VK → Prop := fun xs H Q => ∃ (fr : Bool) (p C : Addr) (dx : Option Addr) (c : V) (cv : Value) (b : Bool), xs = [.ref p, c] ∧ RelV c cv ∧ (∀ u, RelV c u → u = cv) ∧ H p = some (XQ fr p C dx) ∧ (∀ d, dx = some d → ∃ fs, H d = some (DO d fs)) ∧ ExFind K C ∧ kitOne K (.ref C) cv = some b ∧ Q (.bl b) H
theorem call_isX2 : CallR X (.builtin "isinstance") (rIsX X.K) := by
  intro pins s σ H xs us Q I r h
  obtain ⟨fr, p, C, dx, c, cv, b, rfl, rc, un, hp, hd, Y, k, q⟩ := h
  obtain ⟨u, v, e, ru, rv⟩ := Vals.two r
  subst e
  cases (show u = Value.ref p from ru)
  rw [un v rv]
  have J : ∃ o od, InstAt s.heap p o C od := by
    obtain ⟨ob, vs, e1, e2, e3, e4, e5, e6⟩ := xq_get I hp
    cases dx with
    | none => exact ⟨ob, none, e1, e2, by unfold notCls; rw [e3], by rw [e5]; trivial⟩
    | some d =>
      obtain ⟨fs, ed⟩ := hd d rfl
      obtain ⟨mA, ⟨od, es, ep, e7, _⟩, _⟩ := do_get I ed
      exact ⟨ob, some od, e1, e2, by unfold notCls; rw [e3], by rw [e5]; exact e7⟩
  exact kia_one (kitx_inst Y) I.kIn J k (fun z => nomatch z) fun tk => ⟨.bl b, H, I.tok tk, rfl, q⟩
end
end L2.Ex

end
section
set_option Elab.async false
set_option linter.all false
set_option maxRecDepth 100000
set_option maxHeartbeats 4000000
namespace L2.Bw
open PySem PySem.Spec PyProof.Rows
/-- pairs (i, the list's item at i) -/
noncomputable def ItL (K : PySem.W.Frag) (a : Addr) : It where
  go := fun i H => ∃ xs, SqL K H a xs ∧ i < xs.length
  yld := fun i H v H' => ∃ T x, v = .ref T ∧ H T = none ∧ H' = upd H T (.tup [.int (i : Nat), x]) ∧ ∀ xs, SqL K H a xs → xs[i]? = some x
  stop := fun i H => ∃ xs, SqL K H a xs ∧ xs.length = i
theorem turn_enumL {P : Program} {w : World} {K : PySem.W.Frag} {es : List Expr} {k : Nat} {tp : Pos} (a e it : Addr) (ne : e ≠ it) :
    Turn P w K (.Tuple es k tp) (ItL K a) [e, it] e (fun i h => (∃ old, IsEnum h e it (i : Nat) old) ∧ h.IsListIter it a i) where
  mem := by simp
  obj := fun i h st c hc => by
    obtain ⟨⟨old, h1⟩, ⟨o2, e2, c2, d2⟩⟩ := st
    have hc' : c = e ∨ c = it := by simpa using hc
    rcases hc' with rfl | rfl
    · exact ⟨_, h1, fun v q => by cases (show Data.fields _ = Data.cell v from q)⟩
    · exact ⟨o2, e2, fun v q => by rw [d2] at q; cases q⟩
  keep := fun i h h' st kp => by
    obtain ⟨⟨old, h1⟩, h2⟩ := st
    exact ⟨⟨old, kp e (by simp) _ h1⟩, h2.at fun o q => kp it (by simp) o q⟩
  item := by
    intro X hP hw hK hc i pins s σ H E I hf st hg
    subst hP hw hK
    obtain ⟨xs, hx, l1⟩ := hg
    obtain ⟨its, r1, p1, z1⟩ := I.list hx
    have len := r1.length
    have W := WalksT.enumerate (prog := X.prog) (w := X.w) (A := X.A) (I.ok.hd hc) e it a ne (off_of I (hf e (by simp)) hx) (off_of I (hf it (by simp)) hx) its.toArray
    refine W.item i s _ _ (by simp; omega) ⟨st.1, st.2, p1.isList⟩ fun T vals h' tk hv hT ht hm kp => ?_
    obtain ⟨t, x, ex, rfl⟩ := hv
    have Tw : T ∉ [e, it] := W.apart _ _ _ hm
    refine ⟨_, rfl, W.go es k tp i T _ _ _ hm fun h2' st2 kp2 => ?_⟩
    obtain ⟨g1, g2, _⟩ := st2
    obtain ⟨xv, ev, rx⟩ : ∃ xv, xs[i]? = some xv ∧ RelV xv x := by
      have hi : xs[i]? = some xs[i] := List.getElem?_eq_getElem l1
      obtain ⟨u, hu, ru⟩ := r1.get hi
      have e2 : its[i]? = some x := by simpa using ex
      rw [e2] at hu; cases hu
      exact ⟨_, hi, ru⟩
    have ht2 : IsTup h2' T #[.int i t, x] := by
      obtain ⟨o, eo, r⟩ := ht
      exact ⟨o, kp2 T o Tw eo, r⟩
    have I2 : Inv X pins σ (upd H T (.tup [.int (i : Nat), xv])) { s with heap := h2', toks := tk } :=
      turnedT (ch := [e, it]) I (fun b o hb q => kp2 b o hb (kp b o hb q)) hf hT ⟨[.int i t, x], .cons ⟨t, rfl⟩ (.cons rx .nil), ht2⟩ (by show 2 ≤ sizeLine; decide)
    refine ⟨.ref T, _, I2, rfl, ⟨T, xv, rfl, I.hok.fresh hT, rfl, fun us hu => by rw [I.list_inj hu hx]; exact ev⟩, ⟨g1, g2⟩, fun b hb => ?_⟩
    have hbT : b ≠ T := fun z => Tw (z ▸ hb)
    rw [upd_ne hbT]
    exact (hf b hb).1
  done := by
    intro X hP hw hK hc i pins s σ H E I hf st hg
    subst hP hw hK
    obtain ⟨xs, hx, hi⟩ := hg
    obtain ⟨its, r1, p1, z1⟩ := I.list hx
    have len := r1.length
    have W := WalksT.enumerate (prog := X.prog) (w := X.w) (A := X.A) (I.ok.hd hc) e it a ne (off_of I (hf e (by simp)) hx) (off_of I (hf it (by simp)) hx) its.toArray
    have hn : i = its.toArray.size := by simp; omega
    refine W.done s _ _ (by rw [← hn]; exact ⟨st.1, st.2, p1.isList⟩) fun h' tk kp => ⟨rfl, ?_⟩
    exact turnedN (ch := [e, it]) I kp hf
  self := fun _ _ _ _ _ st h => let ⟨⟨_, z⟩, _⟩ := st; wpAny_pyIter_enum z h
section
variable {X : Cx}
noncomputable def iEnumL (K : PySem.W.Frag) (ta : TA) : TI := fun σ H R => ta σ H fun vs H1 => ∃ a xs, vs = [.ref a] ∧ H1 a = some (.lst xs) ∧ R (ItL K a) H1
theorem pi_enumerate {es : List Expr} {k : Nat} {tp p pos : Pos} {a : Expr} {ta : TA} (hg : Gl X "enumerate") (hm : X.mg "enumerate" = none) (ha : PA X [a] ta) (hs : starEach [a] X.env = [(false, eval a X.env)] := by rfl) :
    PI X (.Tuple es k tp) (.Call (.Name "enumerate" p) [a] [] pos) (iEnumL X.K ta) := by
  intro pins s σ H R I h
  refine Call_ (ld_blt I hg hm boot_enumerate (PyProof.Rows.callWith_type1 (thn (ha pos pins s σ H _ I h) fun us s1 q1 => ?_) (by rw [hs]; rfl) rfl))
  obtain ⟨vs, H1, I1, r1, l, xs, e, hx, q⟩ := q1
  subst e
  obtain ⟨u, e, ru⟩ := Vals.one r1
  subst e
  cases ru
  obtain ⟨lz, its, n, v1, _, ho⟩ := I1.lstM hx
  refine call_enumerate_1 ho fun h' g1 g2 hsz kp => wpAny_pyIter_enum g1 ?_
  have I2 : Inv X pins σ H1 { s1 with heap := h' } := I1.kept (t' := s1.toks) kp
  refine ⟨s1.heap.objs.size + 1, [s1.heap.objs.size + 1, s1.heap.objs.size], _, ItL X.K l, H1, rfl, I2, turn_enumL l _ _ (Nat.succ_ne_self _), ⟨⟨_, g1⟩, g2⟩, fun c hc => ?_, q⟩
  have hc' : s1.heap.objs.size ≤ c := by
    rcases List.mem_cons.mp hc with z | z
    · rw [z]; exact Nat.le_succ _
    · rw [List.mem_singleton.mp z]; exact Nat.le_refl _
  exact I1.fpOk hc' (I1.hok.fresh hc')
end
end L2.Bw

end
section
set_option Elab.async false
set_option linter.all false
set_option maxRecDepth 100000
set_option maxHeartbeats 4000000
/-! Slices of texts, numbers in texts. -/
namespace L2.Bk
open PySem PySem.Spec PyProof.Rows L2.Bw L2.Ex
section
variable {X : Cx}
/-- f"{i}" of a number -/
noncomputable def tFmt (te : TE) : TE := fun σ H Q => te σ H fun v H1 => ∃ i : Int, v = .int i ∧ i.natAbs.log2 < 1920 ∧ Q (.str (Str.ofString (toString i))) H1
theorem pe_fmt {e : Expr} {te : TE} {pos : Pos} (he : PE X e te) : PE X (.FormattedValue e (-1) none pos) (tFmt te) := by
  intro pins s σ H Q I h
  refine FormattedValue_plain (thn (he pins s σ H _ I h) fun v s1 z => ?_)
  obtain ⟨y, H1, I1, r, i, rfl, hi, q⟩ := z
  obtain ⟨tk, rfl⟩ := r
  exact wpAny_formatField_int hi ⟨.str _, H1, I1.tok _, ⟨_, rfl⟩, q⟩
end
end L2.Bk

end
section
set_option Elab.async false
set_option linter.all false
set_option maxRecDepth 100000
set_option maxHeartbeats 4000000
/-! Programs as trees of data, their names. -/
namespace L2.Bk
open PySem PySem.Spec PyProof.Rows L2.Bw L2.Ex
/-- a node: its word, its place, what stands ahead of its kinds, its kinds, its parts -/
inductive Tn where
  | mk (w : Str) (p : Int) (fr mid : List Dk) (ps : List Tn)
mutual
noncomputable def Tn.d : Tn → Dk
  | .mk w p fr mid ps => .tup (.str w :: .int p :: (fr ++ mid ++ (if w = "row" then [.tup (Tn.ds ps)] else Tn.ds ps)))
noncomputable def Tn.ds : List Tn → List Dk
  | [] => []
  | t :: r => t.d :: Tn.ds r
end
noncomputable def Tn.w : Tn → Str | .mk w _ _ _ _ => w
noncomputable def Tn.p : Tn → Int | .mk _ p _ _ _ => p
noncomputable def Tn.fr : Tn → List Dk | .mk _ _ fr _ _ => fr
noncomputable def Tn.ps : Tn → List Tn | .mk _ _ _ _ ps => ps
mutual
noncomputable def Tn.dep : Tn → Nat
  | .mk _ _ _ _ ps => 1 + Tn.deps ps
noncomputable def Tn.deps : List Tn → Nat
  | [] => 0
  | t :: r => max t.dep (Tn.deps r)
end
/-- words whose things ahead are names -/
noncomputable def named : List Str := ["name", "fn", "let", "self"]
mutual
noncomputable def Tn.wf : Tn → Prop
  | .mk w p fr mid ps => (w ∈ K11.words ∧ fr.length = K11.nf w ∧ mid.length = K11.nk w ∧ (w ≠ "row" → ps.length = K11.np w) ∧ ps.length ≤ 5 ∧ (w ∈ named → ∃ ns : List Str, fr = ns.map Dk.str) ∧ 0 ≤ p ∧ p < 100000) ∧ Tn.wfs ps
noncomputable def Tn.wfs : List Tn → Prop
  | [] => True
  | t :: r => t.wf ∧ Tn.wfs r
end
theorem tds_length : ∀ (ks : List Tn), (Tn.ds ks).length = ks.length
  | [] => rfl
  | _ :: r => by show (Tn.ds r).length + 1 = r.length + 1; rw [tds_length r]
theorem tds_get : ∀ {ks : List Tn} {i : Nat} (h : i < ks.length), (Tn.ds ks)[i]? = some ks[i].d
  | _ :: _, 0, _ => rfl
  | _ :: r, i + 1, h => by
    show (Tn.ds r)[i]? = _
    exact tds_get (ks := r) (by simpa using h)
theorem tdeps_get : ∀ {ks : List Tn} {i : Nat} (h : i < ks.length), ks[i].dep ≤ Tn.deps ks
  | t :: r, 0, _ => Nat.le_max_left _ _
  | t :: r, i + 1, h => Nat.le_trans (tdeps_get (ks := r) (by simpa using h)) (Nat.le_max_right _ _)
theorem twfs_get : ∀ {ks : List Tn} {i : Nat} (h : i < ks.length), Tn.wfs ks → ks[i].wf
  | t :: r, 0, _, z => z.1
  | t :: r, i + 1, h, z => twfs_get (ks := r) (by simpa using h) z.2
/-- the texts among things -/
noncomputable def txs : List Dk → List Str
  | [] => []
  | .str s :: r => s :: txs r
  | _ :: r => txs r
theorem txs_map : ∀ ns : List Str, txs (ns.map Dk.str) = ns
  | [] => rfl
  | _ :: r => by show _ :: txs (r.map Dk.str) = _; rw [txs_map r]
/-- the names that a node binds in its part i -/
noncomputable def bnd (w : Str) (ns : List Str) (i : Nat) : List Str := if w = "fn" ∨ w = "self" ∨ (w = "let" ∧ i = 1) then ns else []
mutual
/-- the free names, in order, with their places -/
noncomputable def Tn.frees : Tn → List Str → List (Int × Str)
  | .mk w p fr _ ps, bs => (if w = "name" ∧ (txs fr).headD "" ∉ bs then [(p, (txs fr).headD "")] else []) ++ Tn.freess w (txs fr) 0 ps bs
noncomputable def Tn.freess : Str → List Str → Nat → List Tn → List Str → List (Int × Str)
  | _, _, _, [], _ => []
  | w, ns, i, t :: r, bs => t.frees (bs ++ bnd w ns i) ++ Tn.freess w ns (i + 1) r bs
end
theorem freess_append : ∀ (ks ls : List Tn) (w : Str) (ns : List Str) (i : Nat) (bs : List Str), Tn.freess w ns i (ks ++ ls) bs = Tn.freess w ns i ks bs ++ Tn.freess w ns (i + ks.length) ls bs
  | [], ls, w, ns, i, bs => rfl
  | t :: r, ls, w, ns, i, bs => by
    show t.frees _ ++ Tn.freess w ns (i + 1) (r ++ ls) bs = t.frees _ ++ Tn.freess w ns (i + 1) r bs ++ _
    rw [freess_append r ls, List.append_assoc]
    have e : i + 1 + r.length = i + (t :: r).length := by simp; omega
    rw [e]
theorem freess_snoc (ks : List Tn) (t : Tn) (w : Str) (ns : List Str) (bs : List Str) : Tn.freess w ns 0 (ks ++ [t]) bs = Tn.freess w ns 0 ks bs ++ t.frees (bs ++ bnd w ns ks.length) := by
  rw [freess_append, Nat.zero_add]
  show _ ++ (t.frees _ ++ []) = _
  rw [List.append_nil]
theorem RKs.txs {K : PySem.W.Frag} {H : Hp} : ∀ {ns : List Str} {vs : List V}, RKs K H (ns.map Dk.str) vs → vs = ns.map V.str
  | [], vs, r => r
  | n :: ns, vs, r => by
    obtain ⟨v, vs', rfl, h1, h2⟩ := r
    rw [RK.str h1, RKs.txs h2]
    rfl
/-- a node's tuple, by its things -/
theorem RK.node {K : PySem.W.Frag} {H : Hp} {w : Str} {p : Int} {fr mid : List Dk} {ps : List Tn} {v : V} (r : RK K H (Tn.mk w p fr mid ps).d v) : ∃ (a : Addr) (uf um up : List V), v = .ref a ∧ Tp K H a (.str w :: .int p :: (uf ++ um ++ up)) ∧ RKs K H fr uf ∧ RKs K H mid um ∧ RKs K H (if w = "row" then [.tup (Tn.ds ps)] else Tn.ds ps) up := by
  obtain ⟨a, us, rfl, ha, ru⟩ := RK.get (show RK K H (.tup (.str w :: .int p :: (fr ++ mid ++ (if w = "row" then [.tup (Tn.ds ps)] else Tn.ds ps)))) v from r)
  obtain ⟨v1, r1, rfl, h1, v2, r2, rfl, h2, ru⟩ := ru
  obtain ⟨x1, up, rfl, x2, hup⟩ := ru.split
  obtain ⟨uf, um, rfl, hf, hm⟩ := x2.split
  rw [RK.str h1, show v2 = .int p by rw [RK] at h2; exact h2] at ha
  exact ⟨a, uf, um, up, rfl, ha, hf, hm, hup⟩
end L2.Bk

end
section
set_option Elab.async false
set_option linter.all false
namespace L2.Bw
open PySem PySem.Spec PyProof.Rows
end L2.Bw

end
section
set_option Elab.async false
set_option linter.all false
set_option maxRecDepth 100000
set_option maxHeartbeats 4000000
namespace L2.Bk
open PySem PySem.Spec PyProof.Rows L2.Bw L2.Ex
section
variable {X : Cx}
/-- dict(d), keys ints and texts -/
noncomputable def rDict : List V → Hp → VK → Prop := fun xs H Q => ∃ a kvs, xs = [.ref a] ∧ H a = some (.dK kvs) ∧ ∀ p, H p = none → Q (.ref p) (upd H p (.dK kvs))
theorem call_dict : CallR X (.type "dict") rDict := by
  intro pins s σ H xs us Q I r h
  obtain ⟨a, kvs, rfl, ha, q⟩ := h
  obtain ⟨u, e, ru⟩ := Vals.one r
  subst e
  cases ru
  obtain ⟨z, y, vs, rel, dd⟩ := (show ObjOk X.prog X.w H s.heap a (.dK kvs) from I.hok a _ ha)
  have lv := rel.length
  refine kt_call_dict (knd := mixKind X.prog X.w) y dd (by rw [← lv]; exact z) fun h' hd' sb => ?_
  have kp : ∀ b o, s.heap.get? b = some o → h'.get? b = some o := fun b o e => (sb.2 b (Nat.ne_of_lt (Heap.lt_size e))).trans (Heap.get?_push_of_some _ e)
  have np := I.fresh
  refine ⟨.ref s.heap.objs.size, _, I.laid (t' := s.toks) (o := .dK kvs) kp (Nat.le_refl _) ⟨z, ?_, vs, rel, hd'⟩, rfl, q _ np⟩
  have hb := Inv.big I
  exact beq_eq_false_iff_ne.mpr (Nat.ne_of_gt hb)
end
end L2.Bk

end
section
set_option Elab.async false
set_option linter.all false
set_option maxRecDepth 100000
set_option maxHeartbeats 4000000
/-! Tables of the module whose values are data; x in such a table. -/
namespace L2.Bk
open PySem PySem.Spec PyProof.Rows L2.Bw L2.Ex
mutual
noncomputable def lookD (K : PySem.W.Frag) : Dk → Value → Bool
  | .str x, v => (match v with | .str y _ => y == x | _ => false)
  | .tup ds, v => (match v with
    | .ref b => (match K.lookup b with
      | some o => o.cls == .type "tuple" && (match o.data with | .seq its _ => decide (its.size ≤ 1000) && lookDs K ds its.toList | _ => false)
      | none => false)
    | _ => false)
  | _, _ => false
noncomputable def lookDs (K : PySem.W.Frag) : List Dk → List Value → Bool
  | [], vs => vs.isEmpty
  | d :: ds, vs => (match vs with | v :: r => lookD K d v && lookDs K ds r | [] => false)
end
noncomputable def IsD (K : PySem.W.Frag) (d : Dk) (v : Value) : Prop := ∃ x : V, RelV x v ∧ ∀ H : Hp, RK K H d x
mutual
theorem isD_of {K : PySem.W.Frag} : ∀ (d : Dk) (v : Value), lookD K d v = true → IsD K d v
  | .str x, v, h => by
    cases v with
    | str y t =>
      simp only [lookD] at h
      exact ⟨.str x, ⟨t, by rw [show y = x by simpa using h]⟩, fun H => .s _⟩
    | _ => simp [lookD] at h
  | .tup ds, v, h => by
    cases v with
    | ref b =>
      simp only [lookD] at h
      cases e : K.lookup b with
      | none => simp only [e] at h; cases h
      | some o =>
        simp only [e] at h
        rw [Bool.and_eq_true_iff] at h
        cases d : o.data with
        | seq its n =>
          simp only [d] at h
          rw [Bool.and_eq_true_iff] at h
          obtain ⟨xs, rv, rk⟩ := isDs_of ds its.toList h.2.2
          have lx := rv.length
          have kt : Kt K b xs := ⟨o, its, n, e, by simpa using h.1, d, Nat.le_trans (of_decide_eq_true h.2.1) (Nat.le_of_lt (small1000 (Nat.le_refl _))), rv⟩
          exact ⟨.ref b, rfl, fun H => RK.tup (.inr kt) (rk H)⟩
        | _ => simp [d] at h
    | _ => simp [lookD] at h
  | .int _, v, h => by simp [lookD] at h
  | .bl _, v, h => by simp [lookD] at h
  | .non, v, h => by simp [lookD] at h
theorem isDs_of {K : PySem.W.Frag} : ∀ (ds : List Dk) (vs : List Value), lookDs K ds vs = true → ∃ xs : List V, Vals xs vs ∧ ∀ H : Hp, RKs K H ds xs
  | [], vs, h => by
    cases vs with
    | nil => exact ⟨[], .nil, fun _ => .nil⟩
    | cons _ _ => simp [lookDs] at h
  | d :: ds, vs, h => by
    cases vs with
    | nil => simp [lookDs] at h
    | cons v r =>
      simp only [lookDs] at h
      have h' := Bool.and_eq_true_iff.mp h
      obtain ⟨x, rx, kx⟩ := isD_of d v h'.1
      obtain ⟨xs, rxs, kxs⟩ := isDs_of ds r h'.2
      exact ⟨x :: xs, .cons rx rxs, fun H => .cons (kx H) (kxs H)⟩
end
theorem getTab0 {prog : Program} {w : World} {A : Around} {E : Value → Shared → Prop} {s : Shared} {δ : Type} {R : δ → Value → Prop} {a : Addr} {D : List (Str × δ)} {z : Str} {tz : Tok} {Q : Option Value → Shared → Prop}
    (T : KTD.TabOf R s.heap a D) (hat : KTD.datumAt z D = none) (h : Q none { s with toks := s.toks + 1 }) : wpAny (model prog w) A (dictGet a (.str z tz)) Q E s := by
  obtain ⟨_, o, es, ep, ho, _, hd, hr⟩ := T
  have hv := hr.find_none hat
  have all : (es.all fun e => isExactStrKey e.key) = true := by
    obtain ⟨l⟩ := es
    simpa using hr.exact
  have hq : Q (findBy (fun k v => v.isStr k) es z) { s with toks := s.toks + 1 } := by
    rw [show findBy (fun k v => v.isStr k) es z = none by obtain ⟨l⟩ := es; simpa [findBy] using hv]
    exact h
  rw [findBy_of_findIdx?] at hq
  unfold dictGet
  refine wpAny_holding (wpAny_bind (wpAny_pyHash_str (wpAny_bind (KTD.kt_dictFind_strs (s := { s with toks := s.toks + 1 }) ho hd all ?_))))
  cases hi : es.findIdx? fun e => e.key.isStr z with
  | none =>
    rw [hi] at hq
    exact wpAny_pure hq
  | some i =>
    rw [hi] at hq
    exact wpAny_bind (wpAny_dictEntries (s := { s with toks := s.toks + 1 }) ho hd (wpAny_pure hq))
section
variable {X : Cx}
/-- T[x] -/
noncomputable def rTabD (K : PySem.W.Frag) (a : Addr) (D : List (Str × Dk)) : R2 := fun x y H Q => x = .ref a ∧ ∃ z d, y = .str z ∧ KTD.datumAt z D = some d ∧ ∀ v, (∀ H' : Hp, RK K H' d v) → Q v H
theorem pe_tabD {x : Str} {p pos : Pos} {b : Expr} {tb : TE} {a : Addr} {D : List (Str × Dk)} (hg : Gl X x) (hm : X.mg x = some (.ref a)) (hK : KTD.tabLook (lookD X.K) (fun b => X.K.lookup b) a D = true) (hb : PE X b tb) (hs : PlainIx b)
    (hd : (x == ("__debug__" : Str)) = false := by decide) (hl : ∀ r, letTemporaryGo (.Name x p) (.ref a) r = pure () := by intro _; rfl) : PE X (.Subscript (.Name x p) b pos) (tOp (rTabD X.K a D) (tC (.ref a)) tb) := by
  intro pins s σ H Q I h
  refine Subscript_ (binT (pe_glob hg hm (v := .ref a) rfl hd) hb I h fun v u s2 x' y H2 I2 rx ry q => ?_)
  obtain ⟨e, z, d, e', hat, q⟩ := q
  subst e e'
  cases rx
  obtain ⟨tz, e⟩ := ry
  subst e
  have T : KTD.TabOf (IsD X.K) s2.heap a D := KTD.tab_of_look isD_of (fun b o e => I2.kIn b o e) hK
  have ty : s2.TypeIs (.ref a) "dict" := by obtain ⟨_, o, _, _, ho, hc, _⟩ := T; exact ⟨o, ho, hc.1⟩
  refine subscriptTail_builtin ty slot_dict_getitem.lookup ?_ (hs _ _) hl
  unfold getItem
  refine wpAny_holding (wpAny_bind (wpAny_sequenceKey ty (by decide) (wpAny_bind (wpAny_callSpecial?_slot (name := Str.ofString "__getitem__") ty slot_dict_getitem (wpAny_call_entry slot_dict_getitem ty entry_dict_getitem ?_ (args_dict_getitem _ _))))))
  show wpAny _ _ (dictGet a (.str z tz) >>= _) _ _ s2
  refine wpAny_bind (getTab T hat fun v hv => wpAny_pure ⟨v, rfl, wpAny_pure ?_⟩)
  obtain ⟨y, ry, rk⟩ := hv
  exact ⟨y, H2, I2.tok _, ry, q y rk⟩
/-- x in T -/
noncomputable def tInT (D : List Str) (te : TE) : TE := fun σ H Q => te σ H fun y H1 => ∃ z, y = .str z ∧ Q (.bl (decide (z ∈ D))) H1
theorem datum_mem {δ : Type} {z : Str} : ∀ {D : List (Str × δ)}, (KTD.datumAt z D).isSome = decide (z ∈ D.map (·.1))
  | [] => rfl
  | (x, d) :: r => by
    have ih := datum_mem (z := z) (D := r)
    rw [KTD.datumAt]
    by_cases c : z = x
    · simp [c]
    · simp [c, ih]
theorem pc_inT {x : Str} {p : Pos} {b : Expr} {tb : TE} {a : Addr} {D : List (Str × Dk)} (hg : Gl X x) (hm : X.mg x = some (.ref a)) (hK : KTD.tabLook (lookD X.K) (fun b => X.K.lookup b) a D = true) (hb : PE X b tb) (hd : (x == ("__debug__" : Str)) = false := by decide) : PC X .In b (.Name x p) (tInT (D.map (·.1)) tb) := by
  intro pins s σ H Q I h
  refine thn (hb pins s σ H _ I h) fun iv s1 ⟨y, H1, I1, ry, z, ez, q⟩ => ?_
  subst ez
  obtain ⟨tz, rfl⟩ := ry
  refine ld_glob I1 hg hm ?_ hd
  have T : KTD.TabOf (IsD X.K) s1.heap a D := KTD.tab_of_look isD_of (fun b o e => I1.kIn b o e) hK
  have ty : s1.TypeIs (.ref a) "dict" := by obtain ⟨_, o, _, _, ho, hc, _⟩ := T; exact ⟨o, ho, hc.1⟩
  have nsm := T.1
  show wpAny _ _ (do return Value.bool (← contains (.ref a) (.str z tz))) _ _ s1
  refine wpAny_bind ?_
  unfold contains
  refine wpAny_holding ?_
  refine wpAny_bind (wpAny_specialOf ty slot_dict_contains.lookup ?_)
  show wpAny _ _ (if (some (Value.builtin "dict.__contains__") == some Value.none) = true then _ else _) _ _ s1
  rw [if_neg (by rw [beq_builtin_none]; exact Bool.false_ne_true)]
  refine wpAny_bind (wpAny_callSpecialUnlessNone?_slot (name := Str.ofString "__contains__") ty slot_dict_contains (wpAny_call_entry slot_dict_contains ty entry_dict_contains ?_ (args_dict_contains _ _)))
  show wpAny _ _ (dictGet a (.str z tz) >>= _) _ _ s1
  have em := datum_mem (z := z) (D := D)
  cases hat : KTD.datumAt z D with
  | some d =>
    rw [hat] at em
    rw [← em] at q
    refine wpAny_bind (getTab T hat fun v _ => ?_)
    show wpAny _ _ (ret (.bool true)) _ _ _
    exact wpAny_pure ⟨_, rfl, wpAny_truthy_bool (wpAny_pure ⟨.bl true, H1, I1.tok _, rfl, q⟩)⟩
  | none =>
    rw [hat] at em
    rw [← em] at q
    refine wpAny_bind (getTab0 T hat ?_)
    show wpAny _ _ (Builtin.Dict.pendingKey? a (.str z tz) >>= _) _ _ _
    exact wpAny_bind (wpAny_pendingKey_other nsm (wpAny_pure ⟨_, rfl, wpAny_truthy_bool (wpAny_pure ⟨.bl false, H1, I1.tok _, rfl, q⟩)⟩))
end
end L2.Bk

end
section
set_option Elab.async false
set_option linter.all false
set_option maxRecDepth 100000
set_option maxHeartbeats 4000000
/-! Methods of own classes; what is never run. -/
namespace L2.Ex
open PySem PySem.Spec PyProof.Rows L2.Bw L2.Bk
theorem pss_never {X : Cx} {st : List Stmt} : PSs X st (fun _ _ _ => False) := fun _ _ _ _ _ _ h => h.elim
/-- a method that doesn't raise -/
structure CalM (P : Program) (w : World) (K : PySem.W.Frag) (mg : Str → Option Value) (base : Heap) (C : Addr) (m : Str) (ps : List Str) (k : Nat) (sp : Sp) : Prop where
  ex : ∃ f fd, FnOk P w K mg base CX0 k f fd ps sp ∧ Binds K fd ps [] ∧ Meth K C m f
/-- a method that may raise -/
structure CalMX (P : Program) (w : World) (K : PySem.W.Frag) (mg : Str → Option Value) (base : Heap) (C : Addr) (m : Str) (ps : List Str) (k : Nat) (sp : Sp) : Prop where
  ex : ∃ f fd, FnOk P w K mg base (CXF P w) k f fd ps sp ∧ Binds K fd ps [] ∧ Meth K C m f
/-- a class that is made with no arguments -/
structure CalN (P : Program) (w : World) (K : PySem.W.Frag) (mg : Str → Option Value) (base : Heap) (x : Str) (C : Addr) (k : Nat) (sp : Sp) : Prop where
  ex : ∃ f fd, FnOk P w K mg base CX0 k f fd ["self"] sp ∧ Binds K fd ["self"] [] ∧ Mk K C f ∧ mg x = some (.ref C)
theorem pe_mth {X : Cx} {C : Addr} {ps : List Str} {k n : Nat} {sp : Sp} {m : Str} {apos pos : Pos} {o e : Expr} {es : List Expr} {ta : TE} {t : TA} {pl : Sem Bool} (c : CalM X.prog X.w X.K X.mg X.base C m ps k sp) (cl : Cls X.K C) (hr : Room n X.A) (he : PE X o ta) (ha : PA X (e :: es) t) (hn : k ≤ n := by omega)
    (hst : starEach (e :: es) X.env = (false, eval e X.env) :: starEach es X.env := by rfl) (hpl : (backTo pos (starEach es X.env)).any (·.1) = false := by rfl)
    (ht : eval (.Call (.Attribute o m apos) (e :: es) [] pos) X.env = (do
      let ov ← eval o X.env
      standAt apos.atName
      let (f, first) ← holding [ov] (getMethod ov m pl)
      callWith pos f first (backTo pos (starEach (e :: es) X.env)) (backToKw pos (keywordEach [] X.env))) := by rfl) :
    PE X (.Call (.Attribute o m apos) (e :: es) [] pos) (tMeth C m sp [] E0 ta t) := by
  obtain ⟨f, fd, F, b, M⟩ := c.ex
  exact pe_meth he cl M F (hr.mono hn) b .nil pass0 ha hst hpl ht
theorem pe_mthX {Y : Cx} {E : XK} {C : Addr} {ps : List Str} {k n : Nat} {sp : Sp} {m : Str} {apos pos : Pos} {o e : Expr} {es : List Expr} {ta : TE} {t : TA} {pl : Sem Bool} (c : CalMX Y.prog Y.w Y.K Y.mg Y.base C m ps k sp) (cl : Cls Y.K C) (hr : Room n Y.A) (he : PE (Y.wish (XS Y E)) o ta) (ha : PA (Y.wish (XS Y E)) (e :: es) t) (hn : k ≤ n := by omega)
    (hst : Y.stack = Y.env :: Y.outer := by rfl) (hf : Y.env.frame = some Y.env.locals := by rfl) (hex : Y.ex = [] := by rfl)
    (hss : starEach (e :: es) Y.env = (false, eval e Y.env) :: starEach es Y.env := by rfl) (hpl : (backTo pos (starEach es Y.env)).any (·.1) = false := by rfl)
    (ht : eval (.Call (.Attribute o m apos) (e :: es) [] pos) Y.env = (do
      let ov ← eval o Y.env
      standAt apos.atName
      let (f, first) ← holding [ov] (getMethod ov m pl)
      callWith pos f first (backTo pos (starEach (e :: es) Y.env)) (backToKw pos (keywordEach [] Y.env))) := by rfl) :
    PE (Y.wish (XS Y E)) (.Call (.Attribute o m apos) (e :: es) [] pos) (tMeth C m sp [] E ta t) := by
  obtain ⟨f, fd, F, b, M⟩ := c.ex
  exact pe_meth (X := Y.wish (XS Y E)) (CX := CXF Y.prog Y.w) he cl M F (hr.mono hn) b .nil (fun pins σ H s e s' I q => xs_call I.unwish hst hf hex q) ha hss hpl ht
theorem pe_new {X : Cx} {x : Str} {C : Addr} {k n : Nat} {sp : Sp} {p pos : Pos} (c : CalN X.prog X.w X.K X.mg X.base x C k sp) (hr : Room n X.A) (hn : k + 1 ≤ n := by omega) (hg : Gl X x := by rfl) (hdb : (x == ("__debug__" : Str)) = false := by decide) : PE X (.Call (.Name x p) [] [] pos) (tMake C sp [] E0 tNil) := by
  obtain ⟨f, fd, F, b, M, m⟩ := c.ex
  exact pe_make0 M F (hr.mono hn) hg m b .nil pass0 hdb
end L2.Ex

end
section
set_option Elab.async false
set_option linter.all false
set_option maxRecDepth 100000
set_option maxHeartbeats 4000000
/-! == of dicts whose values are data. -/
namespace L2.Bk
open PySem PySem.Spec PyProof.Rows L2.Bw L2.Ex
inductive DHit (K : PySem.W.Frag) (H : Hp) (lvs : List (Key × V)) : List (Key × V) → Bool → Prop
  | nil : DHit K H lvs [] true
  | miss {k : Key} {v : V} {r : List (Key × V)} : valV lvs k = none → DHit K H lvs ((k, v) :: r) false
  | hit {k : Key} {v y : V} {d e : Dk} {r : List (Key × V)} {b : Bool} : valV lvs k = some y → RK K H d v → RK K H e y → d.dq ≤ 60 → DHit K H lvs r b → DHit K H lvs ((k, v) :: r) (d.eqb e && b)
noncomputable def rEqD (K : PySem.W.Frag) : R2 := fun x y H Q => ∃ a b kvs lvs r, x = .ref a ∧ y = .ref b ∧ H a = some (.dK kvs) ∧ H b = some (.dK lvs) ∧ DHit K H lvs kvs r ∧ Q (.bl (kvs.length == lvs.length && r)) H
section
variable {X : Cx}
theorem dhit_keq {s : Shared} {pins : List (Addr × Obj)} {σ : St} {H : Hp} (I : Inv X pins σ H s) {A : Around} (hu : A.units + 60 < cLine) {lvs : List (Key × V)} {ls : List (Key × Value)} (rl : KV lvs ls) :
    ∀ {kvs : List (Key × V)} {ks : List (Key × Value)} {r : Bool}, DHit X.K H lvs kvs r → KV kvs ks → PySem.W.KeqHits A s ls ks r := by
  intro kvs ks r h
  induction h generalizing ks with
  | nil =>
    intro rk
    have := rk.length
    obtain rfl : ks = [] := List.length_eq_zero_iff.mp this.symm
    exact .nil
  | @miss k v r hn =>
    intro rk
    unfold KV at rk
    cases rk with
    | @cons _ q _ qs h t =>
      obtain ⟨k', u⟩ := q
      obtain rfl : k = k' := h.1
      have x := rl.val k
      rw [hn] at x
      cases e : valueAt ls k with
      | none => exact .miss e
      | some z => rw [e] at x; exact x.elim
  | @hit k v y d e r b hy hd he hq _ ih =>
    intro rk
    unfold KV at rk
    cases rk with
    | @cons _ q _ qs h t =>
      obtain ⟨k', u⟩ := q
      obtain rfl : k = k' := h.1
      have x := rl.val k
      rw [hy] at x
      cases ez : valueAt ls k with
      | none => rw [ez] at x; exact x.elim
      | some z =>
        rw [ez] at x
        exact .hit ez (rk_eqb I 60 (A := A) hq hd he h.2 x hu) (ih t)
theorem op_eqD {k : Nat} (hr : Room k X.A) : OpR X (compareOp .Eq) (rEqD X.K) := by
  intro pins s σ H x y v u Q I rx ry h
  obtain ⟨a, b, kvs, lvs, r, rfl, rfl, ha, hb, hh, q⟩ := h
  cases rx; cases ry
  have hu := hr.units
  obtain ⟨z1, y1, vs, r1, d1⟩ := (show ObjOk X.prog X.w H s.heap a (.dK kvs) from I.hok a _ ha)
  obtain ⟨z2, y2, ws, r2, d2⟩ := (show ObjOk X.prog X.w H s.heap b (.dK lvs) from I.hok b _ hb)
  refine PySem.W.keq_eq (knd := mixKind X.prog X.w) (r := r) y1 y2 d1 d2 (by omega) (fun _ => dhit_keq I (A := X.A.in1) (by show X.A.units + 1 + 60 < cLine; omega) r2 hh r1) ⟨.bl (kvs.length == lvs.length && r), H, I, ?_, q⟩
  rw [r1.length, r2.length]
  rfl
end
end L2.Bk

end
section
set_option Elab.async false
set_option linter.all false
set_option maxRecDepth 100000
set_option maxHeartbeats 4000000
namespace L2.Ex
open PySem PySem.Spec PyProof.Rows L2.Bw L2.Bk PySem.W
/-- try: f(..) / except B as n: .., with the exception's attributes -/
noncomputable def tTryE (K : Frag) (B : Addr) (k : Nat) (sp : Sp) (t : TA) (ts : TS) : TS := fun D σ H => t σ H fun vs H1 => sp vs H1 (fun v H2 => D.nx σ H2) (Suite2 K B k ts D σ)
theorem ps_tryE {X : Cx} {f : Str} {ps : List Str} {lv lw : Nat} {sp : Sp} {p cpos apos np hpos pos : Pos} {e : Expr} {es : List Expr} {t : TA} {B : Addr} {Bn n : Str} {k : Nat} {b₀ : Stmt} {suite : List Stmt} {ts : TS}
    (c : CalX X.prog X.w X.K X.mg X.base f ps lv sp) (hr : Room lw X.A) (ha : PA X.nox (e :: es) t) (Y : ExCls X.K B) (hm : X.mg Bn = some (.ref B)) (hN : X.N.Nodup) (hk : X.N[k]? = some n) (hl : X.env.scope.names.lookup n = some .local) (hS : ∀ a, PSs (inSuite X (.ref a)) (b₀ :: suite) ts)
    (hn : lv ≤ lw := by omega) (hst : X.stack = X.env :: X.outer := by rfl) (hf : X.env.frame = some X.env.locals := by rfl) (hex : X.ex = [] := by rfl) (hc : X.calm = true := by rfl) (hgf : Gl X f := by rfl) (hgB : Gl X Bn := by rfl) (hdf : (f == ("__debug__" : Str)) = false := by decide) (hdB : (Bn == ("__debug__" : Str)) = false := by decide)
    (he : starEach (e :: es) X.env = (false, eval e X.env) :: starEach es X.env := by rfl) (hpl : (backTo cpos (starEach es X.env)).any (·.1) = false := by rfl) (hsw : swapsWith (.Call (.Name f p) (e :: es) [] cpos) none apos.line X.env = pure false := by rfl) :
    PS X (.Try [.Expr (.Call (.Name f p) (e :: es) [] cpos) apos] [.ExceptHandler (some (.Name Bn np)) (some n) (b₀ :: suite) hpos] [] [] pos) (tTryE X.K B k sp t ts) := by
  intro pins s σ H D I h
  refine wpAny_Try_except ?_
  have body : wpAny (model X.prog X.w) X.A (exec (.Expr (.Call (.Name f p) (e :: es) [] cpos) apos) X.env) (SP X pins { D with bk := fun _ _ => False, ct := fun _ _ => False, rt := fun _ _ => False }) (fun e' s' => ∃ H1 s1, Inv X pins σ H1 s1 ∧ CXF X.prog X.w X.stack H1 s1 (Suite2 X.K B k ts D σ) e' s') s := by
    refine wpAny_Expr_any (thn (eval_cal c hr hn ha I h hgf hdf he hpl) fun v s1 z => ?_) I.quiet hsw
    obtain ⟨y, H1, I1, r1, q1⟩ := z
    exact ⟨_, H1, I1, q1⟩
  refine wpAny_execs_cons (wpAny_mono body (fun fl s1 z => ?_) fun e' s1 z => ?_)
  · cases fl with
    | next => exact wpAny_execs_nil (wpAny_execs_nil z)
    | ret u => obtain ⟨_, _, _, _, _, z⟩ := z; exact z.elim
    | brk => obtain ⟨_, _, _, z⟩ := z; exact z.elim
    | cont => obtain ⟨_, _, _, z⟩ := z; exact z.elim
  · obtain ⟨H1, s2, I2, xx⟩ := z
    exact caught2 I2 xx Y hm hN hk hl hS hst hf hex hc hgB hdB

end L2.Ex

end
section
set_option Elab.async false
set_option linter.all false
set_option maxRecDepth 100000
set_option maxHeartbeats 4000000
/-! A def that may raise, where it doesn't. -/
namespace L2.Ex
open PySem PySem.Spec PyProof.Rows L2.Bw L2.Bk PySem.W
theorem calm_fn {P : Program} {w : World} {K : PySem.W.Frag} {mg : Str → Option Value} {base : Heap} {k : Nat} {f : Addr} {fd : FuncData} {ps : List Str} {sp : Sp} (F : FnOk P w K mg base (CXF P w) k f fd ps sp) :
    FnOk P w K mg base CX0 k f fd ps (fun vs H Q _ => sp vs H Q fun _ _ _ => False) := by
  refine ⟨fun vs H Q E h => F.len vs H Q _ h, fun A outer s H args us vs Q E hr he hb hv hs => codeAny_mono (F.run A outer s H args us vs Q _ hr he hb hv hs) fun r s' z => ?_⟩
  cases r with
  | ok fl => cases fl <;> exact z
  | error e =>
    obtain ⟨_, _, _, _, _, _, _, _, _, _, _, _, _, _, _, z⟩ := z
    exact z.elim
theorem calm {P : Program} {w : World} {K : PySem.W.Frag} {mg : Str → Option Value} {base : Heap} {x : Str} {ps : List Str} {k : Nat} {sp : Sp} (c : CalX P w K mg base x ps k sp) : Cal P w K mg base x ps k (fun vs H Q _ => sp vs H Q fun _ _ _ => False) := by
  obtain ⟨f, fd, F, b, kp, m⟩ := c.ex
  exact ⟨⟨f, fd, calm_fn F, b, kp, m⟩⟩
end L2.Ex

end
section
set_option Elab.async false
set_option linter.all false
set_option maxRecDepth 100000
set_option maxHeartbeats 8000000
namespace L2.K31
open PySem PySem.Spec PyProof.Rows L2.Bw L2.Bk L2.Ex
noncomputable def top (i : Nat) : Stmt := PySem.Challenge.pw_blamewise_k31_taken_for_a_kind.main.body.getD i (.Pass ⟨0, 0, 0, 0⟩)
/-- a def of a class -/
noncomputable def inCls (s : Stmt) (j : Nat) : Stmt := match s with
  | .ClassDef _ _ _ body _ _ _ _ _ _ _ => body.getD j (.Pass ⟨0, 0, 0, 0⟩)
  | _ => .Pass ⟨0, 0, 0, 0⟩
structure Tx (mg : Str → Option Value) : Prop where
  len : mg "len" = none
  isinstance : mg "isinstance" = none
  list : mg "list" = none
  tuple : mg "tuple" = none
  int : mg "int" = none
  bool : mg "bool" = none
  str : mg "str" = none
  range : mg "range" = none
  zip : mg "zip" = none
  max : mg "max" = none
  enumerate : mg "enumerate" = none
  dict : mg "dict" = none
  ValueError : mg "ValueError" = none
section
variable {P : Program} {w : World} {K : PySem.W.Frag} {mg : Str → Option Value} {base : Heap} {f : Addr} {fd : FuncData}
/-! ### cell_at -/
noncomputable abbrev sCell : Stmt := top 48
noncomputable def spCell (K : PySem.W.Frag) : Sp := fun vs H Q _ => ∃ (a : Addr) (ns : List Int) (k : Int), vs = [.ref a, .int k] ∧ SqL K H a (ns.map V.int) ∧ 0 ≤ k ∧ ∀ i : Int, Q (.int i) H
theorem scCell : FnScope ["_law_script", "_law_k"] ["_law_script", "_law_k"] (defScope sCell) := ⟨rfl, rfl, rfl, by decide +kernel, rfl, by decide +kernel, by decide +kernel⟩
theorem ok_cell {n : Nat} (F : Fun K "_law_cell_at" "_law_cell_at" sCell f fd) (T : Tx mg) : FnOk P w K mg base CX0 (n + 1) f fd ["_law_script", "_law_k"] (spCell K) := by
  refine F.ok scCell (fun vs H Q E h => ?_) (fun cdv A outer s H vs Q E hr h => ?_)
  · obtain ⟨a, ns, k, rfl, _⟩ := h
    rfl
  obtain ⟨a, ns, k, rfl, hS, h0, q⟩ := h
  refine' ⟨_, ?n0, ?Z⟩
  case' n0 => refine' pss_cons ?n1 ?n2
  case' n1 => refine' ps_if ?n3 ?n4 ?n5
  case' n3 => refine' pt_cmpR op_lt ?n6 ?n7 (nomark _)
  case n6 => exact pv 1
  case' n7 => refine' pe_callB (call_lenA) rfl T.len boot_len ?n8
  case' n8 => refine' pa ?n9 ?n10
  case n9 => exact pv 0
  case n10 => exact pa_nil
  case' n4 => refine' pss_one ?n11
  case' n11 => refine' ps_ret ?n12
  case' n12 => refine' pe_ix ix_seq ?n13 ?n14 (fun _ _ => rfl)
  case n13 => exact pv 0
  case n14 => exact pv 1
  case n5 => exact pss_nil
  case' n2 => refine' pss_one ?n15
  case' n15 => refine' ps_ret ?n16
  case n16 => exact pe_int
  refine ⟨_, rfl, _, rfl, .inl ⟨a, _, rfl, .inl hS, _, _, rfl, rfl, _, rfl, ?_⟩⟩
  refine ite2 (fun c => ?_) (fun c => ?_)
  · have c' : k < (((ns.map V.int).length : Nat) : Int) := of_decide_eq_true c
    rw [List.length_map] at c'
    have hk : k.toNat < ns.length := by omega
    have e : atI (ns.map V.int) k = some (.int ns[k.toNat]) := by
      have z : atI (ns.map V.int) ((k.toNat : Nat) : Int) = some (.int ns[k.toNat]) := atI_nat (by rw [List.getElem?_map, List.getElem?_eq_getElem hk]; rfl)
      rwa [show ((k.toNat : Nat) : Int) = k by omega] at z
    exact ⟨_, rfl, _, rfl, .inl ⟨a, _, k, _, rfl, rfl, hS, e, q _⟩⟩
  · exact q 0
/-! ### kinds_in -/
noncomputable abbrev sKi : Stmt := top 15
noncomputable def spKi (K : PySem.W.Frag) : Sp := fun vs H Q _ => ∃ (v : V) (h : Str) (ds : List Dk), vs = [v] ∧ RK K H (.tup (.str h :: ds)) v ∧
  ∀ (r : Addr) (us : List V) (H' : Hp), Old H H' → H r = none → H' r = some (.lst us) → RKs K H' ds us → Q (.ref r) H'
theorem scKi : FnScope ["kind"] ["kind"] (defScope sKi) := ⟨rfl, rfl, rfl, by decide +kernel, rfl, by decide +kernel, by decide +kernel⟩
theorem ok_ki {n : Nat} (F : Fun K "kinds_in" "kinds_in" sKi f fd) (T : Tx mg) : FnOk P w K mg base CX0 (n + 1) f fd ["kind"] (spKi K) := by
  refine F.ok scKi (fun vs H Q E h => ?_) (fun cdv A outer s H vs Q E hr h => ?_)
  · obtain ⟨v, h, ds, rfl, _⟩ := h
    rfl
  obtain ⟨v, h, ds, rfl, rv, q⟩ := h
  obtain ⟨a, us, rfl, ha, ru⟩ := RK.kind rv
  refine' ⟨_, ?n0, ?Z⟩
  case' n0 => refine' pss_one ?n1
  case' n1 => refine' ps_ret ?n2
  case' n2 => refine' pe_callTy (call_list_of) rfl T.list boot_list ?n3
  case' n3 => refine' pa ?n4 ?n5
  case' n4 => refine' pe_slice sl_k ?n6 ?n7 po_none
  case n6 => exact pv 0
  case' n7 => refine' po_some ?n8
  case n8 => exact pe_int
  case n5 => exact pa_nil
  refine ⟨_, rfl, _, rfl, sl_tail ha.sq fun p hp => ?_⟩
  have o1 : Old H (upd H p (.tup us)) := Old.new hp
  refine ⟨p, us, rfl, .inr (SqT.of upd_same), fun l hl => ?_⟩
  have o2 : Old (upd H p (.tup us)) (upd (upd H p (.tup us)) l (.lst us)) := Old.new hl
  exact q l us _ (o1.trans o2) (o1.free hl) upd_same (ru.mono (o1.trans o2).tm)
/-! ### steps -/
noncomputable abbrev sSteps : Stmt := top 14
noncomputable def spSteps (K : PySem.W.Frag) : Sp := fun vs H Q _ => ∃ (v : V) (h : Str) (n : Nat) (ds : List Dk), vs = [v] ∧ RK K H (.tup (.str h :: ds)) v ∧ arity h = some n ∧ ∀ c, (∀ H' : Hp, SqT K H' c ((stepsOf h).map V.str)) → (∃ o, K.lookup c = some o ∧ o.cls = .type "tuple" ∧ o.dict = none) → Q (.ref c) H
theorem scSteps : FnScope ["kind"] ["kind"] (defScope sSteps) := ⟨rfl, rfl, rfl, by decide +kernel, rfl, by decide +kernel, by decide +kernel⟩
theorem ok_steps {m : Nat} {fa : Addr} (F : Fun K "steps" "steps" sSteps f fd) (m_STEPS : mg "STEPS" = some (.ref fa)) (k_STEPS : KTD.tabLook (lookN K) (fun b => K.lookup b) fa stepTab = true) : FnOk P w K mg base CX0 (m + 1) f fd ["kind"] (spSteps K) := by
  refine F.ok scSteps (fun vs H Q E h => ?_) (fun cdv A outer s H vs Q E hr h => ?_)
  · obtain ⟨v, h, n, ds, rfl, _⟩ := h
    rfl
  obtain ⟨v, h, n, ds, rfl, rv, ear, q⟩ := h
  obtain ⟨xa, us, rfl, ha, ru⟩ := RK.kind rv
  refine' ⟨_, ?n0, ?Z⟩
  case' n0 => refine' pss_one ?n1
  case' n1 => refine' ps_ret ?n2
  case' n2 => refine' pe_tabN rfl m_STEPS k_STEPS ?n3 (fun _ _ => rfl)
  case' n3 => refine' pe_ix ix_seq ?n4 ?n5 (fun _ _ => rfl)
  case n4 => exact pv 0
  case n5 => exact pe_int
  exact ⟨_, rfl, .inr (.inl ⟨xa, _, 0, .str h, rfl, rfl, ha.sq, (by exact atI_nat (j := 0) rfl), rfl, h, stepsOf h, rfl, (steps_all h (heads_of ear)).1, fun c hc ho => q c hc ho⟩)⟩
/-! ### with_kinds -/
end
end L2.K31

end
section
set_option Elab.async false
set_option linter.all false
set_option maxRecDepth 100000
set_option maxHeartbeats 8000000
namespace L2.K31
open PySem PySem.Spec PyProof.Rows L2.Bw L2.Bk L2.Ex
section
variable {P : Program} {w : World} {K : PySem.W.Frag} {mg : Str → Option Value} {base : Heap} {f : Addr} {fd : FuncData}
/-! ### stepped -/
theorem in_strs (z : Str) (ss : List Str) : inV (.str z) (ss.map V.str) = decide (z ∈ ss) := by
  unfold inV
  rw [List.any_map, Bool.eq_iff_iff, List.any_eq_true, decide_eq_true_iff]
  constructor
  · rintro ⟨y, hy, e⟩
    have : y = z := beq_iff_eq.mp e
    rw [← this]; exact hy
  · intro hz
    exact ⟨z, hz, beq_self_eq_true z⟩
end
end L2.K31

end
section
set_option Elab.async false
set_option linter.all false
set_option maxRecDepth 100000
set_option maxHeartbeats 8000000
namespace L2.K31
open PySem PySem.Spec PyProof.Rows L2.Bw L2.Bk L2.Ex
section
variable {P : Program} {w : World} {K : PySem.W.Frag} {mg : Str → Option Value} {base : Heap} {f : Addr} {fd : FuncData}
/-! ### part -/
end
end L2.K31

end
section
set_option Elab.async false
set_option linter.all false
set_option maxRecDepth 100000
set_option maxHeartbeats 8000000
namespace L2.K31
open PySem PySem.Spec PyProof.Rows L2.Bw L2.Bk L2.Ex
theorem at0 {v : V} {us : List V} : atI (v :: us) 0 = some v := atI_nat (j := 0) rfl
theorem at1 {u v : V} {us : List V} : atI (u :: v :: us) 1 = some v := atI_nat (j := 1) rfl
theorem at2 {a b v : V} {us : List V} : atI (a :: b :: v :: us) 2 = some v := atI_nat (j := 2) rfl
theorem at3 {a b c v : V} {us : List V} : atI (a :: b :: c :: v :: us) 3 = some v := atI_nat (j := 3) rfl
section
variable {P : Program} {w : World} {K : PySem.W.Frag} {mg : Str → Option Value} {base : Heap} {f : Addr} {fd : FuncData}
/-! ### NoName -/
/-! ### form -/
noncomputable abbrev sForm : Stmt := top 25
noncomputable def spForm (K : PySem.W.Frag) : Sp := fun vs H Q _ => ∃ (x : Str), vs = [.str x] ∧ x ∈ K11.words ∧ ∀ c, SqT K H c ((K11.form x).map V.str) → Q (.ref c) H
theorem scForm : FnScope ["word"] ["word"] (defScope sForm) := ⟨rfl, rfl, rfl, by decide +kernel, rfl, by decide +kernel, by decide +kernel⟩
theorem ok_form {m : Nat} {fa : Addr} (F : Fun K "form" "form" sForm f fd) (m_FORMS : mg "FORMS" = some (.ref fa)) (k_FORMS : KTD.tabLook (lookT K) (fun b => K.lookup b) fa K11.table = true) : FnOk P w K mg base CX0 (m + 1) f fd ["word"] (spForm K) := by
  refine F.ok scForm (fun vs H Q E h => ?_) (fun cdv A outer s H vs Q E hr h => ?_)
  · obtain ⟨x, rfl, _⟩ := h
    rfl
  obtain ⟨x, rfl, hx, q⟩ := h
  refine' ⟨_, ?n0, ?Z⟩
  case' n0 => refine' pss_one ?n1
  case' n1 => refine' ps_ret ?n2
  case' n2 => refine' pe_tab rfl m_FORMS k_FORMS ?n3 (fun _ _ => rfl)
  case n3 => exact pv 0
  exact ⟨_, rfl, rfl, x, K11.form x, rfl, (K11.form_of x hx).1, q⟩
/-! ### indexes -/
noncomputable abbrev sIndexes : Stmt := top 26
noncomputable def spIndexes (K : PySem.W.Frag) : Sp := fun vs H Q _ => ∃ (a : Addr) (x : Str) (us : List V) (so : Str), vs = [.ref a, .str so] ∧ Tp K H a (.str x :: us) ∧ x ∈ K11.words ∧
  ∀ (r : Addr) (H' : Hp), Old H H' → H r = none → H' r = some (.lst ((K11.ixs so 2 (K11.form x)).map V.int)) → Q (.ref r) H'
theorem scIndexes : FnScope ["tree", "sort"] ["tree", "sort"] (defScope sIndexes) := ⟨rfl, rfl, rfl, by decide +kernel, rfl, by decide +kernel, by decide +kernel⟩
theorem ixs_snoc (so : Str) : ∀ (ss : List Str) (k : Nat) (y : Str), K11.ixs so k (ss ++ [y]) = K11.ixs so k ss ++ (if y = so then [((k + ss.length : Nat) : Int)] else [])
  | [], k, y => by show (if y = so then _ else _) = _; split <;> rfl
  | z :: r, k, y => by
    show (if z = so then (k : Int) :: K11.ixs so (k + 1) (r ++ [y]) else K11.ixs so (k + 1) (r ++ [y])) = (if z = so then (k : Int) :: K11.ixs so (k + 1) r else K11.ixs so (k + 1) r) ++ _
    rw [ixs_snoc so r (k + 1) y]
    have e : k + 1 + r.length = k + (z :: r).length := by simp; omega
    rw [e]
    split <;> rfl
theorem ixs_len (so : Str) : ∀ (ss : List Str) (k : Nat), (K11.ixs so k ss).length ≤ ss.length
  | [], _ => Nat.le_refl _
  | z :: r, k => by
    have := ixs_len so r (k + 1)
    show (if z = so then (k : Int) :: K11.ixs so (k + 1) r else K11.ixs so (k + 1) r).length ≤ r.length + 1
    split
    · simp; omega
    · omega
theorem ok_indexes {m : Nat} (F : Fun K "indexes" "indexes" sIndexes f fd) (T : Tx mg) (c_form : Cal P w K mg base "form" ["word"] 1 (spForm K)) : FnOk P w K mg base CX0 (m + 2) f fd ["tree", "sort"] (spIndexes K) := by
  refine F.ok scIndexes (fun vs H Q E h => ?_) (fun cdv A outer s H vs Q E hr h => ?_)
  · obtain ⟨a, x, us, so, rfl, _⟩ := h
    rfl
  obtain ⟨a, x, us, so, rfl, ha, hx, q⟩ := h
  have nd := scIndexes.nd
  obtain ⟨f1, f2, _⟩ := K11.form_of x hx
  refine' ⟨_, ?n0, ?Z⟩
  case' n0 => refine' pss_one ?n1
  case' n1 => refine' ps_ret ?n2
  case' n2 => refine' pe_lc (g := gTup K 2 (gCons (gName 0) (gCons (gName 1) gNil))) (tt := tTest (tOp (rEqG K) (tVar 1) (tVar 3))) (te := tVar 0) (k := 2) (N := ["index", "found", "tree", "sort"]) (lc_mk rfl rfl rfl rfl rfl rfl) rfl ?n3 (fun _ _ _ _ => ?n4) (fun _ _ _ _ => ?n5) (fun _ _ _ _ => ?n6)
  case' n3 => refine' pi_enum rfl T.enumerate ?n7 ?n8
  case' n7 => refine' pa ?n9 ?n10
  case' n9 => refine' pe_cal c_form hr ?n11
  case' n11 => refine' pa ?n12 ?n13
  case' n12 => refine' pe_ix ix_seq ?n14 ?n15 (fun _ _ => rfl)
  case n14 => exact pv 0
  case n15 => exact pe_int
  case n13 => exact pa_nil
  case n10 => exact pa_nil
  case' n8 => refine' pk_cons ?n16 ?n17
  case n16 => exact pe_int
  case n17 => exact pk_nil
  case n4 =>
    refine' pg_tup rfl ?n18
    case' n18 => refine' pgs_cons ?n19 ?n20
    case n19 => exact pg_name (i := 0) (by show List.Nodup (["index", "found", "tree", "sort"] : List Str); decide +kernel) rfl (Or.inl rfl)
    case' n20 => refine' pgs_cons ?n21 ?n22
    case n21 => exact pg_name (i := 1) (by show List.Nodup (["index", "found", "tree", "sort"] : List Str); decide +kernel) rfl (Or.inl rfl)
    case n22 => exact pgs_nil
  case n5 =>
    refine' pts_one ?n23
    case' n23 => refine' pt_cmpR (op_eqG hr) ?n24 ?n25 (nomark _)
    case n24 => exact pv 1
    case n25 => exact pv 3
  case n6 => exact pv 0
  refine ⟨_, rfl, .inr (.inl ⟨a, _, 0, .str x, rfl, rfl, ha.sq, at0, x, rfl, hx, fun c hc => ⟨c, _, 2, rfl, rfl, by decide +kernel, hc, fun D hD => ?_⟩⟩)⟩
  have same2 : ∀ {H' : Hp}, Old H H' → SqT K H' c ((K11.form x).map V.str) := fun {H'} g => by
    rcases hc with (h | ⟨o, h⟩) | h
    · exact .inl (.inl (g _ _ h))
    · exact .inl (.inr ⟨o, g _ _ h⟩)
    · exact .inr h
  have lenf : ((K11.form x).map V.str).length = (K11.form x).length := List.length_map _
  have neD : ∀ b o, H b = some o → b ≠ D := fun b o e => ne_of_none e hD
  refine lc_by (n := (K11.form x).length) (fun i σ H2 => ∃ (k1 k2 : Option V), σ = [k1, k2, some (.ref a), some (.str so)] ∧ Old H H2 ∧ H2 D = some (.lst ((K11.ixs so 2 ((K11.form x).take i)).map V.int))) ⟨none, none, rfl, fun b o e => by rw [upd_ne (neD b o e)]; exact e, upd_same⟩ ?_ ?_ ?_ ?_
  · intro i σ H2 hi hv
    obtain ⟨k1, k2, rfl, g, hD2⟩ := hv
    exact ⟨_, .str (K11.form x)[i], same2 g, by rw [List.getElem?_map, List.getElem?_eq_getElem hi]; rfl⟩
  · intro σ H2 hv
    obtain ⟨k1, k2, rfl, g, hD2⟩ := hv
    exact ⟨_, same2 g, by rw [lenf]; exact Nat.le_refl _⟩
  · intro i σ H2 hi hv v H3 hy
    obtain ⟨k1, k2, rfl, g, hD2⟩ := hv
    obtain ⟨t, y, rfl, ht, rfl, hyx⟩ := hy
    have ey : y = .str (K11.form x)[i] := by
      have := hyx _ (same2 g)
      rw [List.getElem?_map, List.getElem?_eq_getElem hi] at this
      exact (Option.some.inj this).symm
    subst ey
    have ntD : D ≠ t := ne_of_none hD2 ht
    refine ⟨t, _, rfl, SqT.of upd_same, rfl, _, _, rfl, _, _, rfl, rfl, ?_⟩
    refine ⟨_, rfl, _, rfl, .inr (.inl ⟨rfl, _, rfl, ?_⟩)⟩
    rw [dec_s]
    have g3 : ∀ b o, H b = some o → upd H2 t (.tup [.int (2 + (i : Int)), .str (K11.form x)[i]]) b = some o := fun b o e => by rw [upd_ne (ne_of_none (g b o e) ht)]; exact g b o e
    have hD3 : upd H2 t (.tup [.int (2 + (i : Int)), .str (K11.form x)[i]]) D = some (.lst ((K11.ixs so 2 ((K11.form x).take i)).map V.int)) := by rw [upd_ne ntD]; exact hD2
    have tk : (K11.form x).take (i + 1) = (K11.form x).take i ++ [(K11.form x)[i]] := take_snoc hi
    have lt : ((K11.form x).take i).length = i := by rw [List.length_take]; omega
    refine ite2 (fun cc => ?_) (fun cc => ?_)
    · have c' : (K11.form x)[i] = so := of_decide_eq_true cc
      refine ⟨_, rfl, _, hD3, ?_, nx hi ⟨_, _, rfl, fun b o e => by rw [upd_ne (neD b o e)]; exact g3 b o e, ?_⟩⟩
      · have := ixs_len so ((K11.form x).take i) 2
        rw [List.length_map]
        exact smallM (by rw [List.length_take] at this; omega)
      · rw [upd_same, tk, ixs_snoc, if_pos c', List.map_append, lt]
        have e2 : (2 : Int) + (i : Int) = ((2 + i : Nat) : Int) := by omega
        rw [e2]
        rfl
    · have c' : ¬ (K11.form x)[i] = so := of_decide_eq_false (Bool.eq_false_iff.mpr cc)
      refine nx hi ⟨_, _, rfl, g3, ?_⟩
      rw [hD3, tk, ixs_snoc, if_neg c', List.append_nil]
  · intro σ H2 hv
    obtain ⟨k1, k2, rfl, g, hD2⟩ := hv
    rw [List.take_length] at hD2
    exact q D H2 g hD hD2
/-! ### parts -/
noncomputable abbrev sParts : Stmt := top 27
noncomputable def spParts (K : PySem.W.Frag) : Sp := fun vs H Q _ => ∃ (v : V) (t : Tn), vs = [v] ∧ RK K H t.d v ∧ t.wf ∧
  ∀ (r : Addr) (us : List V) (H' : Hp), Old H H' → H r = none → H' r = some (.lst us) → RKs K H' (Tn.ds t.ps) us → Q (.ref r) H'
theorem scParts : FnScope ["tree"] ["tree"] (defScope sParts) := ⟨rfl, rfl, rfl, by decide +kernel, rfl, by decide +kernel, by decide +kernel⟩
theorem rng_get {lo n i : Nat} (h : i < n) : (K11.rng lo n)[i]? = some ((lo + i : Nat) : Int) := by
  unfold K11.rng
  rw [List.getElem?_map, List.getElem?_range' h]
  simp
theorem rng_len (lo n : Nat) : (K11.rng lo n).length = n := by unfold K11.rng; simp
theorem nf_row : K11.nf "row" = 0 := by decide +kernel
theorem nk_row : K11.nk "row" = 1 := by decide +kernel
theorem ok_parts {m : Nat} (F : Fun K "parts" "parts" sParts f fd) (T : Tx mg) (c_indexes : Cal P w K mg base "indexes" ["tree", "sort"] 2 (spIndexes K)) : FnOk P w K mg base CX0 (m + 3) f fd ["tree"] (spParts K) := by
  refine F.ok scParts (fun vs H Q E h => ?_) (fun cdv A outer s H vs Q E hr h => ?_)
  · obtain ⟨v, t, rfl, _⟩ := h
    rfl
  obtain ⟨v, t, rfl, rv, wt, q⟩ := h
  have nd := scParts.nd
  obtain ⟨x, p, fr, mid, ps⟩ := t
  obtain ⟨⟨hx, lf, lm, lp, few, _⟩, _⟩ := wt
  obtain ⟨a, uf, um, up, rfl, ha, rf, rm, rp⟩ := RK.node rv
  have l1 := rf.length
  have l2 := rm.length
  refine' ⟨_, ?n0, ?Z⟩
  case' n0 => refine' pss_cons ?n1 ?n2
  case' n1 => refine' ps_if ?n3 ?n4 ?n5
  case' n3 => refine' pt_cmpR (op_eqG hr) ?n6 ?n7 (nomark _)
  case' n6 => refine' pe_ix ix_seq ?n8 ?n9 (fun _ _ => rfl)
  case n8 => exact pv 0
  case n9 => exact pe_int
  case n7 => exact pe_str
  case' n4 => refine' pss_one ?n10
  case' n10 => refine' ps_ret ?n11
  case' n11 => refine' pe_callTy (call_list_of) rfl T.list boot_list ?n12
  case' n12 => refine' pa ?n13 ?n14
  case' n13 => refine' pe_ix ix_seq ?n15 ?n16 (fun _ _ => rfl)
  case n15 => exact pv 0
  case n16 => exact pe_int
  case n14 => exact pa_nil
  case n5 => exact pss_nil
  case' n2 => refine' pss_one ?n17
  case' n17 => refine' ps_ret ?n18
  case' n18 => refine' pe_lc (te := tOp (rIx K) (tVar 1) (tVar 0)) (k := 1) (N := ["index", "tree"]) (lc_mk rfl rfl rfl rfl rfl rfl) rfl ?n19 (fun _ _ _ _ => ?n20) (fun _ _ _ _ => ?n21) (fun _ _ _ _ => ?n22)
  case' n19 => refine' pi_seq ?n23
  case' n23 => refine' pe_cal c_indexes hr ?n24
  case' n24 => refine' pa ?n25 ?n26
  case n25 => exact pv 0
  case' n26 => refine' pa ?n27 ?n28
  case n27 => exact pe_str
  case n28 => exact pa_nil
  case n20 => exact pg_name (i := 0) (by show List.Nodup (["index", "tree"] : List Str); decide +kernel) rfl (Or.inl rfl)
  case n21 => exact pts_nil
  case n22 =>
    refine' pe_ix ix_seq ?n29 ?n30 (fun _ _ => rfl)
    case n29 => exact pv 1
    case n30 => exact pv 0
  refine ⟨_, rfl, .inr (.inl ⟨a, _, 0, .str x, rfl, rfl, ha.sq, at0, .inr (.inl ⟨rfl, _, rfl, ?_⟩)⟩)⟩
  rw [dec_s]
  by_cases cr : x = "row"
  · rw [decide_eq_true cr]
    refine iteT ?_
    rw [if_pos cr] at rp
    rw [cr, nf_row] at lf
    rw [cr, nk_row] at lm
    obtain ⟨pv, e0, rfl, rpv, e1⟩ := rp
    have e1' : e0 = [] := e1
    subst e1'
    obtain rfl : uf = [] := List.length_eq_zero_iff.mp (l1.symm.trans lf)
    obtain ⟨k0, rfl⟩ : ∃ k0, um = [k0] := List.length_eq_one_iff.mp (l2.symm.trans lm)
    obtain ⟨b, us, rfl, hb, rus⟩ := RK.get rpv
    refine ⟨_, rfl, .inr (.inl ⟨a, _, 3, .ref b, rfl, rfl, ha.sq, at3, b, us, rfl, .inr hb.sq, fun l hl => ?_⟩)⟩
    have o : Old H (upd H l (.lst us)) := Old.new hl
    exact q l us _ o hl upd_same (rus.mono o.tm)
  · rw [decide_eq_false cr]
    refine iteF ?_
    rw [if_neg cr] at rp
    have l3 := rp.length
    rw [tds_length] at l3
    have lp' := lp cr
    refine ⟨_, rfl, a, x, _, "node", rfl, ha, hx, fun r H1 o1 hr0 hr1 => ⟨r, rfl, .inl ⟨⟨_, SqL.of hr1⟩, fun D hD => ?_⟩⟩⟩
    rw [(K11.form_of x hx).2.2.1 cr] at hr1
    have lo0 : ([V.str x, V.int p] ++ uf ++ um).length = 2 + K11.nf x + K11.nk x := by
      rw [List.length_append, List.length_append, ← l1, ← l2, lf, lm]
      rfl
    have ln : up.length = K11.np x := by rw [← l3]; exact lp'
    have e1 : V.str x :: V.int p :: (uf ++ um ++ up) = ([V.str x, V.int p] ++ uf ++ um) ++ up := by simp
    have lu5 : up.length ≤ 5 := by rw [← l3]; exact few
    clear lp' l3 lf lm l1 l2 lp
    generalize 2 + K11.nf x + K11.nk x = lo at hr1 lo0
    generalize K11.np x = n at hr1 ln
    rw [e1] at ha
    generalize [V.str x, V.int p] ++ uf ++ um = pre at ha lo0
    have neD : ∀ b o, H1 b = some o → b ≠ D := fun b o e => ne_of_none e hD
    have lr : ((K11.rng lo n).map V.int).length = n := by rw [List.length_map, rng_len]
    refine lc_by0 (n := n) (fun i σ H2 => ∃ (k1 : Option V), σ = [k1, some (.ref a)] ∧ Old H1 H2 ∧ H2 D = some (.lst (up.take i))) ⟨none, rfl, Old.new hD, upd_same⟩ ?_ ?_ ?_ ?_
    · intro i σ H2 hi hv
      obtain ⟨k1, rfl, o2, hD2⟩ := hv
      exact ⟨_, _, SqL.of (o2 _ _ hr1), by rw [List.getElem?_map, rng_get hi]; rfl⟩
    · intro σ H2 hv
      obtain ⟨k1, rfl, o2, hD2⟩ := hv
      exact ⟨_, SqL.of (o2 _ _ hr1), by rw [lr]; exact Nat.le_refl _⟩
    · intro i σ H2 hi hv y H3 hy
      obtain ⟨k1, rfl, o2, hD2⟩ := hv
      obtain ⟨e1, hyx⟩ := hy
      subst e1
      have ey := hyx _ (SqL.of (o2 _ _ hr1))
      rw [List.getElem?_map, rng_get hi] at ey
      cases ey
      have iu : i < up.length := by omega
      have eu : (pre ++ up)[lo + i]? = some up[i] := by
        rw [List.getElem?_append_right (by omega), lo0, show lo + i - lo = i by omega, List.getElem?_eq_getElem iu]
      have ha3 := (ha.mono (o1.trans o2).tm).sq
      refine ⟨_, rfl, _, rfl, .inr (.inl ⟨a, _, _, up[i], rfl, rfl, ha3, atI_nat eu, ?_⟩)⟩
      refine ⟨_, hD2, smallM (by rw [List.length_take]; omega), nx hi ⟨_, rfl, fun b o e => by rw [upd_ne (neD b o e)]; exact o2 b o e, ?_⟩⟩
      rw [upd_same, take_snoc iu]
    · intro σ H2 hv
      obtain ⟨k1, rfl, o2, hD2⟩ := hv
      rw [List.take_of_length_le (by omega)] at hD2
      exact q D up H2 (o1.trans o2) (o1.free hD) hD2 (rp.mono (o1.trans o2).tm)
end
end L2.K31

end
section
set_option Elab.async false
set_option linter.all false
set_option maxRecDepth 100000
set_option maxHeartbeats 8000000
namespace L2.K31
open PySem PySem.Spec PyProof.Rows L2.Bw L2.Bk L2.Ex
theorem nf_of : K11.nf "name" = 1 ∧ K11.nf "fn" = 1 ∧ K11.nf "let" = 1 ∧ K11.nf "self" = 2 ∧ K11.np "name" = 0 := by decide +kernel
theorem bnd_len {w : Str} {ns : List Str} (i : Nat) (h : w ∈ named → ns.length = K11.nf w) : (bnd w ns i).length ≤ 2 := by
  obtain ⟨n1, n2, n3, n4, _⟩ := nf_of
  unfold bnd
  split
  · rename_i z
    rcases z with z | z | ⟨z, _⟩
    · subst z; rw [h (by decide +kernel), n2]; decide
    · subst z; rw [h (by decide +kernel), n4]; decide
    · subst z; rw [h (by decide +kernel), n3]; decide
  · exact Nat.zero_le _
section
variable {P : Program} {w : World} {K : PySem.W.Frag} {mg : Str → Option Value} {base : Heap} {f : Addr} {fd : FuncData}
/-! ### names_bound -/
noncomputable abbrev sNb : Stmt := top 31
noncomputable def spNb (K : PySem.W.Frag) : Sp := fun vs H Q _ => ∃ (v : V) (t : Tn) (i : Nat), vs = [v, .int i] ∧ RK K H t.d v ∧ t.wf ∧ ∀ (v' : V) (H' : Hp), Old H H' → RK K H' (.tup ((bnd t.w (txs t.fr) i).map Dk.str)) v' → Q v' H'
theorem scNb : FnScope ["tree", "number", "word"] ["tree", "number"] (defScope sNb) := ⟨rfl, rfl, rfl, by decide +kernel, rfl, by decide +kernel, by decide +kernel⟩
theorem ok_nb {n : Nat} (F : Fun K "names_bound" "names_bound" sNb f fd) (T : Tx mg) : FnOk P w K mg base CX0 (n + 1) f fd ["tree", "number"] (spNb K) := by
  refine F.ok scNb (fun vs H Q E h => ?_) (fun cdv A outer s H vs Q E hr h => ?_)
  · obtain ⟨v, t, i, rfl, _⟩ := h
    rfl
  obtain ⟨v, t, i, rfl, rv, wt, q⟩ := h
  have nd := scNb.nd
  obtain ⟨x, p, fr, mid, ps⟩ := t
  obtain ⟨⟨hx, lf, lm, lp, few, hn, _⟩, _⟩ := wt
  obtain ⟨a, uf, um, up, rfl, ha, rf, rm, rp⟩ := RK.node rv
  obtain ⟨n1, n2, n3, n4, n5⟩ := nf_of
  have one : ∀ y, x = y → y ∈ named → K11.nf y = 1 → ∃ z : Str, fr = [.str z] ∧ uf = [.str z] := fun y e hy e1 => by
    subst e
    obtain ⟨ns, rfl⟩ := hn hy
    rw [List.length_map, e1] at lf
    obtain ⟨z, rfl⟩ := List.length_eq_one_iff.mp lf
    exact ⟨z, rfl, RKs.txs rf⟩
  have two : x = "self" → ∃ z y : Str, fr = [.str z, .str y] ∧ uf = [.str z, .str y] := fun e => by
    subst e
    obtain ⟨ns, rfl⟩ := hn (by decide +kernel)
    rw [List.length_map, n4] at lf
    match ns, lf, rf with
    | [z, y], _, rf => exact ⟨z, y, rfl, RKs.txs rf⟩
  refine' ⟨_, ?n0, ?Z⟩
  case' n0 => refine' pss_cons ?n1 ?n2
  case' n1 => refine' ps_setX (i := 2) nd rfl (Or.inl rfl) rfl (by first | exact .inl rfl | exact .inr rfl) ?n3
  case' n3 => refine' pe_ix ix_seq ?n4 ?n5 (fun _ _ => rfl)
  case n4 => exact pv 0
  case n5 => exact pe_int
  case' n2 => refine' pss_cons ?n6 ?n7
  case' n6 => refine' ps_if ?n8 ?n9 ?n10
  case' n8 => refine' pt_cmpR (op_eqG hr) ?n11 ?n12 (nomark _)
  case n11 => exact pv 2
  case n12 => exact pe_str
  case' n9 => refine' pss_one ?n13
  case' n13 => refine' ps_ret ?n14
  case' n14 => refine' pe_tup ?n15
  case' n15 => refine' pa ?n16 ?n17
  case' n16 => refine' pe_ix ix_seq ?n18 ?n19 (fun _ _ => rfl)
  case n18 => exact pv 0
  case n19 => exact pe_int
  case n17 => exact pa_nil
  case n10 => exact pss_nil
  case' n7 => refine' pss_cons ?n20 ?n21
  case' n20 => refine' ps_if ?n22 ?n23 ?n24
  case' n22 => refine' pt_cmpR (op_eqG hr) ?n25 ?n26 (nomark _)
  case n25 => exact pv 2
  case n26 => exact pe_str
  case' n23 => refine' pss_one ?n27
  case' n27 => refine' ps_ret ?n28
  case' n28 => refine' pe_tup ?n29
  case' n29 => refine' pa ?n30 ?n31
  case' n30 => refine' pe_ix ix_seq ?n32 ?n33 (fun _ _ => rfl)
  case n32 => exact pv 0
  case n33 => exact pe_int
  case' n31 => refine' pa ?n34 ?n35
  case' n34 => refine' pe_ix ix_seq ?n36 ?n37 (fun _ _ => rfl)
  case n36 => exact pv 0
  case n37 => exact pe_int
  case n35 => exact pa_nil
  case n24 => exact pss_nil
  case' n21 => refine' pss_cons ?n38 ?n39
  case' n38 => refine' ps_if ?n40 ?n41 ?n42
  case' n40 => refine' PW.pt ?n43
  case' n43 => refine' pw_and ?n44 ?n45
  case' n44 => refine' pt_cmpR (op_eqG hr) ?n46 ?n47 (nomark _)
  case n46 => exact pv 2
  case n47 => exact pe_str
  case' n45 => refine' pw_and1 ?n48
  case' n48 => refine' pt_cmpR (op_eqG hr) ?n49 ?n50 (nomark _)
  case n49 => exact pv 1
  case n50 => exact pe_int
  case' n41 => refine' pss_one ?n51
  case' n51 => refine' ps_ret ?n52
  case' n52 => refine' pe_tup ?n53
  case' n53 => refine' pa ?n54 ?n55
  case' n54 => refine' pe_ix ix_seq ?n56 ?n57 (fun _ _ => rfl)
  case n56 => exact pv 0
  case n57 => exact pe_int
  case n55 => exact pa_nil
  case n42 => exact pss_nil
  case' n39 => refine' pss_one ?n58
  case' n58 => refine' ps_ret ?n59
  case' n59 => refine' pe_tup ?n60
  case n60 => exact pa_nil
  refine ⟨_, rfl, .inr (.inl ⟨a, _, 0, .str x, rfl, rfl, ha.sq, at0, ?_⟩)⟩
  refine ⟨_, rfl, .inr (.inl ⟨rfl, _, rfl, ?_⟩)⟩
  rw [dec_s]
  by_cases c1 : x = "fn"
  · rw [decide_eq_true c1]
    refine iteT ?_
    obtain ⟨z, rfl, rfl⟩ := one "fn" c1 (by decide +kernel) n2
    refine ⟨_, rfl, .inr (.inl ⟨a, _, 2, .str z, rfl, rfl, ha.sq, at2, by show 1 ≤ sizeLine; decide, fun b hb => ?_⟩)⟩
    have o : Old H (upd H b (.tup [.str z])) := Old.new hb
    refine q (.ref b) _ o ?_
    have e : bnd x (txs [.str z]) i = [z] := if_pos (.inl c1)
    show RK K _ (.tup ((bnd x (txs [.str z]) i).map Dk.str)) _
    rw [e]
    exact RK.tup (.of upd_same) (.cons (.s _) .nil)
  rw [decide_eq_false c1]
  refine iteF ?_
  refine ⟨_, rfl, .inr (.inl ⟨rfl, _, rfl, ?_⟩)⟩
  rw [dec_s]
  by_cases c2 : x = "self"
  · rw [decide_eq_true c2]
    refine iteT ?_
    obtain ⟨z, y, rfl, rfl⟩ := two c2
    refine ⟨_, rfl, .inr (.inl ⟨a, _, 2, .str z, rfl, rfl, ha.sq, at2, _, rfl, .inr (.inl ⟨a, _, 3, .str y, rfl, rfl, ha.sq, at3, by show 2 ≤ sizeLine; decide, fun b hb => ?_⟩)⟩)⟩
    have o : Old H (upd H b (.tup [.str z, .str y])) := Old.new hb
    refine q (.ref b) _ o ?_
    have e : bnd x (txs [.str z, .str y]) i = [z, y] := if_pos (.inr (.inl c2))
    show RK K _ (.tup ((bnd x (txs [.str z, .str y]) i).map Dk.str)) _
    rw [e]
    exact RK.tup (.of upd_same) (.cons (.s _) (.cons (.s _) .nil))
  rw [decide_eq_false c2]
  refine iteF ?_
  refine ⟨_, rfl, .inr (.inl ⟨rfl, _, rfl, ?_⟩)⟩
  rw [dec_s]
  have rest : (¬ (x = "let" ∧ i = 1)) → ∀ b, H b = none → Q (.ref b) (upd H b (.tup [])) := fun h b hb => by
    refine q (.ref b) _ (Old.new hb) ?_
    have e : bnd x (txs fr) i = [] := if_neg (fun z => z.elim c1 fun z => z.elim c2 h)
    show RK K _ (.tup ((bnd x (txs fr) i).map Dk.str)) _
    rw [e]
    exact RK.tup (.of upd_same) .nil
  by_cases c3 : x = "let"
  · rw [decide_eq_true c3]
    refine iteT ?_
    refine ⟨_, rfl, .inr (.inl ⟨rfl, _, rfl, ?_⟩)⟩
    rw [dec_int, show ((i : Int) == 1) = decide ((i : Int) = 1) from rfl]
    by_cases c4 : i = 1
    · rw [show decide ((i : Int) = 1) = true from decide_eq_true (by omega)]
      refine iteT ?_
      obtain ⟨z, rfl, rfl⟩ := one "let" c3 (by decide +kernel) n3
      refine ⟨_, rfl, .inr (.inl ⟨a, _, 2, .str z, rfl, rfl, ha.sq, at2, by show 1 ≤ sizeLine; decide, fun b hb => ?_⟩)⟩
      have o : Old H (upd H b (.tup [.str z])) := Old.new hb
      refine q (.ref b) _ o ?_
      have e : bnd x (txs [.str z]) i = [z] := if_pos (.inr (.inr ⟨c3, c4⟩))
      show RK K _ (.tup ((bnd x (txs [.str z]) i).map Dk.str)) _
      rw [e]
      exact RK.tup (.of upd_same) (.cons (.s _) .nil)
    · rw [show decide ((i : Int) = 1) = false from decide_eq_false (by omega)]
      refine iteF ?_
      exact ⟨by show 0 ≤ sizeLine; decide, rest (fun z => c4 z.2)⟩
  · rw [decide_eq_false c3]
    refine iteF ?_
    exact ⟨by show 0 ≤ sizeLine; decide, rest (fun z => c3 z.1)⟩
end
end L2.K31

end
section
set_option Elab.async false
set_option linter.all false
set_option maxRecDepth 100000
set_option maxHeartbeats 8000000
namespace L2.K31
open PySem PySem.Spec PyProof.Rows L2.Bw L2.Bk L2.Ex
theorem seq_by {tt : TT} {ta tb u : TS} {D : Ends} {σ : St} {H : Hp} (P : St → Hp → Prop) (h1 : ∀ R : St → Hp → Prop, (∀ σ H, P σ H → R σ H) → tIfS tt ta tb { D with nx := R } σ H) (h2 : ∀ σ H, P σ H → u D σ H) : tSeq (tIfS tt ta tb) u D σ H := h1 (u D) h2
section
variable {P : Program} {w : World} {K : PySem.W.Frag} {mg : Str → Option Value} {base : Heap} {f : Addr} {fd : FuncData}
/-! ### need_bound -/
noncomputable abbrev sNB : Stmt := top 30
noncomputable def spNB (K : PySem.W.Frag) (m : Nat) : Sp := fun vs H Q _ => ∃ (v y : V) (t : Tn) (bs : List Str), vs = [v, y] ∧ RK K H t.d v ∧ t.wf ∧ RK K H (.tup (bs.map Dk.str)) y ∧ t.dep < m ∧ bs.length + 2 * t.dep ≤ 900 ∧ t.frees bs = [] ∧ ∀ H', Old H H' → Q .non H'
theorem scNB : FnScope ["tree", "bound", "number", "part"] ["tree", "bound"] (defScope sNB) := ⟨rfl, rfl, rfl, by decide +kernel, rfl, by decide +kernel, by decide +kernel⟩
theorem ok_NB {m : Nat} (F : Fun K "need_bound" "need_bound" sNB f fd) (T : Tx mg)
    (c_parts : Cal P w K mg base "parts" ["tree"] 3 (spParts K)) (c_names_bound : Cal P w K mg base "names_bound" ["tree", "number"] 1 (spNb K)) (c_need_bound : Cal P w K mg base "need_bound" ["tree", "bound"] (m + 4) (spNB K m)) : FnOk P w K mg base CX0 (m + 5) f fd ["tree", "bound"] (spNB K (m + 1)) := by
  refine F.ok scNB (fun vs H Q E h => ?_) (fun cdv A outer s H vs Q E hr h => ?_)
  · obtain ⟨v, y, t, bs, rfl, _⟩ := h
    rfl
  obtain ⟨v, y, t, bs, rfl, rv, wt, ry, hd, hz, fe, qn⟩ := h
  have nd := scNB.nd
  obtain ⟨x, p, fr, mid, ps⟩ := t
  obtain ⟨⟨hx, lf, lm, lp, few, hn, h0, h1⟩, wps⟩ := id wt
  obtain ⟨a, uf, um, up, rfl, ha, rf, rm, rp⟩ := RK.node rv
  obtain ⟨b, us, rfl, hb, rb⟩ := RK.get ry
  cases RKs.txs rb
  obtain ⟨n1, n2, n3, n4, n5⟩ := nf_of
  have ef : (Tn.mk x p fr mid ps).frees bs = (if x = "name" ∧ (txs fr).headD "" ∉ bs then [(p, (txs fr).headD "")] else []) ++ Tn.freess x (txs fr) 0 ps bs := rfl
  have hdd : 1 + Tn.deps ps < m + 1 := hd
  have hzz : bs.length + 2 * (1 + Tn.deps ps) ≤ 900 := hz
  have lns : x ∈ named → (txs fr).length = K11.nf x := fun h => by
    obtain ⟨ns, rfl⟩ := hn h
    rw [txs_map, ← lf, List.length_map]
  refine' ⟨_, ?n0, ?Z⟩
  case' n0 => refine' pss_cons ?n1 ?n2
  case' n1 => refine' ps_if ?n3 pss_never ?n4
  case' n3 => refine' PW.pt ?n5
  case' n5 => refine' pw_and ?n6 ?n7
  case' n6 => refine' pt_cmpR (op_eqG hr) ?n8 ?n9 (nomark _)
  case' n8 => refine' pe_ix ix_seq ?n10 ?n11 (fun _ _ => rfl)
  case n10 => exact pv 0
  case n11 => exact pe_int
  case n9 => exact pe_str
  case' n7 => refine' pw_and1 ?n12
  case' n12 => refine' pt_cmpR op_notIn_seq ?n13 ?n14 rfl
  case' n13 => refine' pe_ix ix_seq ?n15 ?n16 (fun _ _ => rfl)
  case n15 => exact pv 0
  case n16 => exact pe_int
  case n14 => exact pv 1
  case n4 => exact pss_nil
  case' n2 => refine' pss_one ?n17
  case' n17 => refine' ps_for PassesOwn.never rfl ?n18 ?n19 ?n20
  case' n18 => refine' pi_enumerate rfl T.enumerate ?n21
  case' n21 => refine' pa ?n22 ?n23
  case' n22 => refine' pe_cal c_parts hr ?n24
  case' n24 => refine' pa ?n25 ?n26
  case n25 => exact pv 0
  case n26 => exact pa_nil
  case n23 => exact pa_nil
  case' n19 => refine' pg_tup rfl ?n27
  case' n27 => refine' pgs_cons ?n28 ?n29
  case n28 => exact pg_name (i := 2) nd rfl (Or.inl rfl)
  case' n29 => refine' pgs_cons ?n30 ?n31
  case n30 => exact pg_name (i := 3) nd rfl (Or.inl rfl)
  case n31 => exact pgs_nil
  case' n20 => refine' pss_one ?n32
  case' n32 => refine' ps_expr ?n33
  case' n33 => refine' pe_cal c_need_bound hr ?n34
  case' n34 => refine' pa ?n35 ?n36
  case n35 => exact pv 3
  case' n36 => refine' pa ?n37 ?n38
  case' n37 => refine' pe_op op_addG ?n39 ?n40
  case n39 => exact pv 1
  case' n40 => refine' pe_cal c_names_bound hr ?n41
  case' n41 => refine' pa ?n42 ?n43
  case n42 => exact pv 0
  case' n43 => refine' pa ?n44 ?n45
  case n44 => exact pv 2
  case n45 => exact pa_nil
  case n38 => exact pa_nil
  refine seq_by (fun σ H1 => σ = [some (.ref a), some (.ref b), none, none] ∧ H1 = H ∧ ¬ (x = "name" ∧ (txs fr).headD "" ∉ bs)) (fun R hR => ?_) (fun σ H1 hP => ?_)
  · refine ⟨_, rfl, .inr (.inl ⟨a, _, 0, .str x, rfl, rfl, ha.sq, at0, .inr (.inl ⟨rfl, _, rfl, ?_⟩)⟩)⟩
    rw [dec_s]
    by_cases c1 : x = "name"
    · rw [decide_eq_true c1]
      refine iteT ?_
      obtain ⟨ns, rfl⟩ := hn (by rw [c1]; decide +kernel)
      rw [List.length_map, c1, n1] at lf
      obtain ⟨z, rfl⟩ := List.length_eq_one_iff.mp lf
      obtain rfl := RKs.txs rf
      refine ⟨_, rfl, .inr (.inl ⟨a, _, 2, .str z, rfl, rfl, ha.sq, at2, _, rfl, b, _, rfl, .inr hb.sq, rfl, strs_flat _, _, rfl, ?_⟩)⟩
      rw [if_pos rfl, in_strs]
      by_cases c2 : z ∈ bs
      · rw [decide_eq_true c2]
        exact iteF (hR _ _ ⟨rfl, rfl, fun h => h.2 c2⟩)
      · rw [decide_eq_false c2]
        refine iteT ?_
        have e1 : (Tn.mk x p (List.map Dk.str [z]) mid ps).frees bs = (p, z) :: Tn.freess x (txs (List.map Dk.str [z])) 0 ps bs := by
          rw [ef, if_pos ⟨c1, c2⟩]
          rfl
        exact absurd (e1.symm.trans fe) (fun z => nomatch z)
    · rw [decide_eq_false c1]
      exact iteF (iteF (hR _ _ ⟨rfl, rfl, fun h => c1 h.1⟩))
  obtain ⟨rfl, rfl, nf0⟩ := hP
  rw [if_neg nf0, List.nil_append] at ef
  rw [ef] at fe
  refine ⟨_, rfl, _, Tn.mk x p fr mid ps, rfl, rv, wt, fun r us H2 o2 hr0 hr2 rus => ⟨r, us, rfl, hr2, ?_⟩⟩
  have lus := rus.length
  rw [tds_length] at lus
  have lus' : ps.length = us.length := lus
  refine for_by (n := us.length) (fun i σ H3 => ∃ (k1 k2 : Option V), σ = [some (.ref a), some (.ref b), k1, k2] ∧ Old H2 H3 ∧ Tn.freess x (txs fr) 0 (ps.take i) bs = [])
    ⟨none, none, rfl, Old.refl _, rfl⟩ ?_ ?_ ?_ ?_
  · intro i σ H3 hi hv
    obtain ⟨k1, k2, rfl, o3, e3⟩ := hv
    exact ⟨_, SqL.of (o3 _ _ hr2), hi⟩
  · intro σ H3 hv
    obtain ⟨k1, k2, rfl, o3, e3⟩ := hv
    exact ⟨_, SqL.of (o3 _ _ hr2), rfl⟩
  · intro i σ H3 hi hv z H4 hy
    obtain ⟨k1, k2, rfl, o3, e3⟩ := hv
    obtain ⟨T4, uv, rfl, hT4, rfl, hyx⟩ := hy
    have eu : us[i]? = some uv := hyx _ (SqL.of (o3 _ _ hr2))
    have ip : i < ps.length := by omega
    obtain ⟨d, ed, rd⟩ := rus.getV eu
    rw [show (Tn.ds (Tn.mk x p fr mid ps).ps)[i]? = some ps[i].d from tds_get ip] at ed
    cases ed
    have o4 : Old H3 (upd H3 T4 (.tup [.int (i : Nat), uv])) := Old.new hT4
    have oA := (o2.trans o3).trans o4
    have bl := bnd_len i lns
    have dg := tdeps_get ip
    have snoc : Tn.freess x (txs fr) 0 (ps.take (i + 1)) bs = ps[i].frees (bs ++ bnd x (txs fr) i) := by
      rw [take_snoc ip, freess_snoc, e3, List.nil_append, List.length_take, Nat.min_eq_left (by omega)]
    refine ⟨T4, _, rfl, SqT.of upd_same, rfl, _, _, rfl, _, _, rfl, rfl, ?_⟩
    refine ⟨_, rfl, _, rfl, _, rfl, _, rfl, _, Tn.mk x p fr mid ps, i, rfl, rv.mono oA.tm, wt, fun nv H5 o5 rn => ?_⟩
    refine cat_g (ry.mono (oA.trans o5).tm) rn (by rw [List.length_map, List.length_map]; show bs.length + (bnd x (txs fr) i).length ≤ 1000; omega) fun bv H6 o6 rb6 => ?_
    rw [← List.map_append] at rb6
    have ez := freess_append (ps.take (i + 1)) (ps.drop (i + 1)) x (txs fr) 0 bs
    rw [List.take_append_drop, fe, snoc] at ez
    have e := (List.append_eq_nil_iff.mp ez.symm).1
    refine ⟨uv, bv, ps[i], bs ++ bnd x (txs fr) i, rfl, rd.mono ((o3.trans o4).trans (o5.trans o6)).tm, twfs_get ip wps, rb6, by omega, by rw [List.length_append]; omega, e, fun H7 o7 => ?_⟩
    exact ⟨_, _, rfl, ((o3.trans o4).trans (o5.trans o6)).trans o7, by rw [snoc]; exact e⟩
  · intro σ H3 hv
    obtain ⟨k1, k2, rfl, o3, e3⟩ := hv
    rw [← lus', List.take_length] at e3
    exact qn _ (o2.trans o3)
/-! ### need_names -/
noncomputable abbrev sNN : Stmt := top 29
noncomputable def spNN (K : PySem.W.Frag) (m : Nat) : Sp := fun vs H Q _ => ∃ (v : V) (t : Tn), vs = [v] ∧ RK K H t.d v ∧ t.wf ∧ t.dep < m ∧ 2 * t.dep ≤ 900 ∧ t.frees [] = [] ∧ ∀ H', Old H H' → Q .non H'
theorem scNN : FnScope ["tree"] ["tree"] (defScope sNN) := ⟨rfl, rfl, rfl, by decide +kernel, rfl, by decide +kernel, by decide +kernel⟩
theorem ok_NN {m : Nat} (F : Fun K "need_names" "need_names" sNN f fd) (T : Tx mg) (c_need_bound : Cal P w K mg base "need_bound" ["tree", "bound"] (m + 4) (spNB K m)) : FnOk P w K mg base CX0 (m + 5) f fd ["tree"] (spNN K m) := by
  refine F.ok scNN (fun vs H Q E h => ?_) (fun cdv A outer s H vs Q E hr h => ?_)
  · obtain ⟨v, t, rfl, _⟩ := h
    rfl
  obtain ⟨v, t, rfl, rv, wt, hd, hz, fe, qn⟩ := h
  refine' ⟨_, ?n0, ?Z⟩
  case' n0 => refine' pss_one ?n1
  case' n1 => refine' ps_expr ?n2
  case' n2 => refine' pe_cal c_need_bound hr ?n3
  case' n3 => refine' pa ?n4 ?n5
  case n4 => exact pv 0
  case' n5 => refine' pa ?n6 ?n7
  case' n6 => refine' pe_tup ?n8
  case n8 => exact pa_nil
  case n7 => exact pa_nil
  refine ⟨_, rfl, by show 0 ≤ sizeLine; decide, fun e he => ?_⟩
  have o1 : Old H (upd H e (.tup [])) := Old.new he
  exact ⟨v, .ref e, t, [], rfl, rv.mono o1.tm, wt, RK.tup (.of upd_same) .nil, hd, by simpa using hz, fe, fun H' o' => qn _ (o1.trans o')⟩
end
end L2.K31

end
section
set_option Elab.async false
set_option linter.all false
set_option maxRecDepth 100000
set_option maxHeartbeats 8000000
namespace L2.K31
open PySem PySem.Spec PyProof.Rows L2.Bw L2.Bk L2.Ex
section
variable {P : Program} {w : World} {K : PySem.W.Frag} {mg : Str → Option Value} {base : Heap} {f : Addr} {fd : FuncData}
/-! ### depth -/
noncomputable abbrev sDepth : Stmt := top 17
noncomputable def spDepth (K : PySem.W.Frag) (m : Nat) : Sp := fun vs H Q _ => ∃ (v : V) (t : Kn), vs = [v] ∧ RK K H t.d v ∧ t.ok ∧ t.dep < m ∧ ∀ (H' : Hp), Old H H' → Q (.int ((t.dep : Nat) : Int)) H'
theorem scDepth : FnScope ["kind"] ["kind"] (defScope sDepth) := ⟨rfl, rfl, rfl, by decide +kernel, rfl, by decide +kernel, by decide +kernel⟩
theorem ok_depth {m : Nat} (F : Fun K "depth" "depth" sDepth f fd) (T : Tx mg) (c_kinds_in : Cal P w K mg base "kinds_in" ["kind"] 1 (spKi K)) (c_depth : Cal P w K mg base "depth" ["kind"] (m + 1) (spDepth K m)) : FnOk P w K mg base CX0 (m + 2) f fd ["kind"] (spDepth K (m + 1)) := by
  refine F.ok scDepth (fun vs H Q E h => ?_) (fun cdv A outer s H vs Q E hr h => ?_)
  · obtain ⟨v, t, rfl, _⟩ := h
    rfl
  obtain ⟨v, t, rfl, rv, hok, hns, q⟩ := h
  have nd := scDepth.nd
  obtain ⟨h, ks⟩ := t
  obtain ⟨few, hoks⟩ := hok
  have rv' : RK K H (.tup (.str h :: Kn.ds ks)) v := rv
  have hns' : 1 + Kn.deps ks < m + 1 := hns
  refine' ⟨_, ?n0, ?Z⟩
  case' n0 => refine' pss_one ?n1
  case' n1 => refine' ps_ret ?n2
  case' n2 => refine' pe_op op_addG ?n3 ?n4
  case n3 => exact pe_int
  case' n4 => refine' pe_max rfl rfl T.max ?n5 ?n6
  case' n5 => refine' pa ?n7 ?n8
  case' n7 => refine' pe_lc (k := 1) (N := ["inner", "kind"]) (lc_mk rfl rfl rfl rfl rfl rfl) rfl ?n9 (fun _ _ _ _ => ?n10) (fun _ _ _ _ => ?n11) (fun _ _ _ _ => ?n12)
  case' n9 => refine' pi_seq ?n13
  case' n13 => refine' pe_cal c_kinds_in hr ?n14
  case' n14 => refine' pa ?n15 ?n16
  case n15 => exact pv 0
  case n16 => exact pa_nil
  case n10 => exact pg_name (i := 0) (by show List.Nodup (["inner", "kind"] : List Str); decide +kernel) rfl (Or.inl rfl)
  case n11 => exact pts_nil
  case n12 =>
    refine' pe_cal c_depth hr ?n17
    case' n17 => refine' pa ?n18 ?n19
    case n18 => exact pv 0
    case n19 => exact pa_nil
  case n8 => exact pa_nil
  case' n6 => refine' pk_cons ?n20 ?n21
  case n20 => exact pe_int
  case n21 => exact pk_nil
  refine ⟨_, rfl, v, h, Kn.ds ks, rfl, rv', fun r us H1 o1 hr0 hr1 rus => ⟨r, rfl, .inl ⟨⟨_, SqL.of hr1⟩, fun D hD => ?_⟩⟩⟩
  have lus := rus.length
  rw [ds_length] at lus
  have neD : ∀ b o, H1 b = some o → b ≠ D := fun b o e => ne_of_none e hD
  refine lc_by0 (n := ks.length) (fun i σ H2 => ∃ k1 : Option V, σ = [k1, some v] ∧ Old H1 H2 ∧ H2 D = some (.lst (((ks.take i).map (fun t => ((t.dep : Nat) : Int))).map V.int))) ⟨none, rfl, Old.new hD, by rw [upd_same]; rfl⟩ ?_ ?_ ?_ ?_
  · intro i σ H2 hi hv
    obtain ⟨k1, rfl, g, hD2⟩ := hv
    obtain ⟨u, hu⟩ : ∃ u, us[i]? = some u := ⟨_, List.getElem?_eq_getElem (by omega)⟩
    exact ⟨_, u, SqL.of (g _ _ hr1), hu⟩
  · intro σ H2 hv
    obtain ⟨k1, rfl, g, hD2⟩ := hv
    exact ⟨_, SqL.of (g _ _ hr1), by omega⟩
  · intro i σ H2 hi hv y H3 hy
    obtain ⟨k1, rfl, g, hD2⟩ := hv
    obtain ⟨e1, hyx⟩ := hy
    subst e1
    have eu : us[i]? = some y := hyx _ (SqL.of (g _ _ hr1))
    obtain ⟨d, ed, rd⟩ := rus.getV eu
    rw [ds_get hi] at ed
    cases ed
    refine ⟨_, rfl, y, ks[i], rfl, rd.mono g.tm, oks_get hi hoks, Nat.lt_of_le_of_lt (deps_get hi) (by omega), fun H4 o4 => ⟨_, o4 _ _ hD2, ?_, nx hi ⟨_, rfl, fun b o e => by rw [upd_ne (neD b o e)]; exact o4 _ _ (g b o e), ?_⟩⟩⟩
    · refine smallM ?_
      rw [List.length_map, List.length_map, List.length_take]
      omega
    · rw [upd_same, take_snoc hi, List.map_append, List.map_append]
      rfl
  · intro σ H2 hv
    obtain ⟨k1, rfl, g, hD2⟩ := hv
    rw [List.take_length] at hD2
    refine ⟨D, _, 0, rfl, rfl, SqL.of hD2, add_i ?_⟩
    rw [deps_maxD]
    have k := q H2 (o1.trans g)
    have e : ((Kn.dep (Kn.mk h ks) : Nat) : Int) = 1 + ((Kn.deps ks : Nat) : Int) := by
      show ((1 + Kn.deps ks : Nat) : Int) = _
      omega
    rw [e] at k
    exact k
/-! ### join -/
/-! ### parting -/
noncomputable abbrev sParting : Stmt := top 21
noncomputable def spParting (K : PySem.W.Frag) (m : Nat) : Sp := fun vs H Q _ => ∃ (x y : V) (a b : Kn), vs = [x, y] ∧ RK K H a.d x ∧ RK K H b.d y ∧ a.wf ∧ b.wf ∧ a.dep < m ∧ a.dep ≤ 8 ∧ ∀ (v : V) (H' : Hp), Old H H' → RK K H' (od (a.part b)) v → Q v H'
theorem scParting : FnScope ["kind", "other", "step", "inner", "beside", "way"] ["kind", "other"] (defScope sParting) := ⟨rfl, rfl, rfl, by decide +kernel, rfl, by decide +kernel, by decide +kernel⟩
theorem q_empty {h : Str} {ks : List Kn} {us : List V} (e : arity h = some ks.length) (l : ks.length = us.length) : (decide (h = "?") && us.isEmpty) = decide (h = "?") := by
  by_cases c : h = "?"
  · subst c
    have := arity_q e
    have : us = [] := List.length_eq_zero_iff.mp (by omega)
    subst this
    rfl
  · rw [decide_eq_false c, Bool.false_and]
theorem ok_parting {m : Nat} {ua : Addr} (F : Fun K "parting" "parting" sParting f fd) (T : Tx mg) (m_UNTOLD : mg "UNTOLD" = some (.ref ua)) (k_UNTOLD : Kt K ua [.str "?"]) (c_steps : Cal P w K mg base "steps" ["kind"] 1 (spSteps K)) (c_kinds_in : Cal P w K mg base "kinds_in" ["kind"] 1 (spKi K)) (c_parting : Cal P w K mg base "parting" ["kind", "other"] (m + 1) (spParting K m)) :
    FnOk P w K mg base CX0 (m + 2) f fd ["kind", "other"] (spParting K (m + 1)) := by
  refine F.ok scParting (fun vs H Q E h => ?_) (fun cdv A outer s H vs Q E hr h => ?_)
  · obtain ⟨x, y, a, b, rfl, _⟩ := h
    rfl
  obtain ⟨x, y, a, b, rfl, rx, ry, wa, wb, hm, h8, q⟩ := h
  have nd := scParting.nd
  obtain ⟨h, ks⟩ := a
  obtain ⟨g, ls⟩ := b
  have rx' : RK K H (.tup (.str h :: Kn.ds ks)) x := rx
  have ry' : RK K H (.tup (.str g :: Kn.ds ls)) y := ry
  obtain ⟨xa, us, rfl, ha, ru⟩ := RK.kind rx'
  obtain ⟨xb, ws, rfl, hb, rw'⟩ := RK.kind ry'
  have hm' : 1 + Kn.deps ks < m + 1 := hm
  have h8' : 1 + Kn.deps ks ≤ 8 := h8
  obtain ⟨ea, wks⟩ := wa
  obtain ⟨eb, wls⟩ := wb
  have lu := ru.length
  have lw := rw'.length
  rw [ds_length] at lu lw
  have ep : (Kn.mk h ks).part (.mk g ls) = if h = "?" then none else if g = "?" then none else if h = g then Kn.parts (stepsOf h) ks ls else some [] := rfl
  refine' ⟨_, ?n0, ?Z⟩
  case' n0 => refine' pss_cons ?n1 ?n2
  case' n1 => refine' ps_if ?n3 ?n4 ?n5
  case' n3 => refine' PW.pt ?n6
  case' n6 => refine' pw_or ?n7 ?n8
  case' n7 => refine' pt_cmpR (op_eqG hr) ?n9 ?n10 (nomark _)
  case n9 => exact pv 0
  case n10 => exact pe_gref rfl m_UNTOLD
  case' n8 => refine' pw_or1 ?n11
  case' n11 => refine' pt_cmpR (op_eqG hr) ?n12 ?n13 (nomark _)
  case n12 => exact pv 1
  case n13 => exact pe_gref rfl m_UNTOLD
  case' n4 => refine' pss_one ?n14
  case' n14 => refine' ps_ret ?n15
  case n15 => exact pe_non
  case n5 => exact pss_nil
  case' n2 => refine' pss_cons ?n16 ?n17
  case' n16 => refine' ps_if ?n18 ?n19 ?n20
  case' n18 => refine' pt_cmpR (op_neG hr) ?n21 ?n22 (nomark _)
  case' n21 => refine' pe_ix ix_seq ?n23 ?n24 (fun _ _ => rfl)
  case n23 => exact pv 0
  case n24 => exact pe_int
  case' n22 => refine' pe_ix ix_seq ?n25 ?n26 (fun _ _ => rfl)
  case n25 => exact pv 1
  case n26 => exact pe_int
  case' n19 => refine' pss_one ?n27
  case' n27 => refine' ps_ret ?n28
  case' n28 => refine' pe_tup ?n29
  case n29 => exact pa_nil
  case n20 => exact pss_nil
  case' n17 => refine' pss_cons ?n30 ?n31
  case' n30 => refine' ps_for PassesOwn.never rfl ?n32 ?n33 ?n34
  case' n32 => refine' pi_zip3 rfl T.zip ?n35
  case' n35 => refine' pa ?n36 ?n37
  case' n36 => refine' pe_cal c_steps hr ?n38
  case' n38 => refine' pa ?n39 ?n40
  case n39 => exact pv 0
  case n40 => exact pa_nil
  case' n37 => refine' pa ?n41 ?n42
  case' n41 => refine' pe_cal c_kinds_in hr ?n43
  case' n43 => refine' pa ?n44 ?n45
  case n44 => exact pv 0
  case n45 => exact pa_nil
  case' n42 => refine' pa ?n46 ?n47
  case' n46 => refine' pe_cal c_kinds_in hr ?n48
  case' n48 => refine' pa ?n49 ?n50
  case n49 => exact pv 1
  case n50 => exact pa_nil
  case n47 => exact pa_nil
  case' n33 => refine' pg_tup rfl ?n51
  case' n51 => refine' pgs_cons ?n52 ?n53
  case n52 => exact pg_name (i := 2) nd rfl (Or.inl rfl)
  case' n53 => refine' pgs_cons ?n54 ?n55
  case n54 => exact pg_name (i := 3) nd rfl (Or.inl rfl)
  case' n55 => refine' pgs_cons ?n56 ?n57
  case n56 => exact pg_name (i := 4) nd rfl (Or.inl rfl)
  case n57 => exact pgs_nil
  case' n34 => refine' pss_cons ?n58 ?n59
  case' n58 => refine' ps_setX (i := 5) nd rfl (Or.inl rfl) rfl (by first | exact .inl rfl | exact .inr rfl) ?n60
  case' n60 => refine' pe_cal c_parting hr ?n61
  case' n61 => refine' pa ?n62 ?n63
  case n62 => exact pv 3
  case' n63 => refine' pa ?n64 ?n65
  case n64 => exact pv 4
  case n65 => exact pa_nil
  case' n59 => refine' pss_one ?n66
  case' n66 => refine' ps_if ?n67 ?n68 ?n69
  case' n67 => refine' pt_cmpR op_notN ?n70 ?n71 (nomark _)
  case n70 => exact pv 5
  case n71 => exact pe_non
  case' n68 => refine' pss_one ?n72
  case' n72 => refine' ps_ret ?n73
  case' n73 => refine' pe_op op_addG ?n74 ?n75
  case' n74 => refine' pe_tup ?n76
  case' n76 => refine' pa ?n77 ?n78
  case n77 => exact pv 2
  case n78 => exact pa_nil
  case n75 => exact pv 5
  case n69 => exact pss_nil
  case' n31 => refine' pss_one ?n79
  case' n79 => refine' ps_ret ?n80
  case n80 => exact pe_non
  refine ⟨_, rfl, .inr (.inr ⟨_, .heads ha.sq (Tp.sq (.inr k_UNTOLD)), _, rfl, ?_⟩)⟩
  rw [q_empty ea lu]
  by_cases c1 : h = "?"
  · rw [decide_eq_true c1]
    rw [ep, if_pos c1] at q
    exact iteT (iteT (q .non H (Old.refl _) .n))
  rw [decide_eq_false c1]
  rw [if_neg c1] at ep
  refine iteF ?_
  refine ⟨_, rfl, .inr (.inr ⟨_, .heads hb.sq (Tp.sq (.inr k_UNTOLD)), _, rfl, ?_⟩)⟩
  rw [q_empty eb lw]
  by_cases c2 : g = "?"
  · rw [decide_eq_true c2]
    rw [ep, if_pos c2] at q
    exact iteT (q .non H (Old.refl _) .n)
  rw [decide_eq_false c2]
  rw [if_neg c2] at ep
  refine iteF ?_
  refine ⟨_, rfl, .inr (.inl ⟨xa, _, 0, .str h, rfl, rfl, ha.sq, (by exact atI_nat (j := 0) rfl), _, rfl, .inr (.inl ⟨xb, _, 0, .str g, rfl, rfl, hb.sq, (by exact atI_nat (j := 0) rfl), .inr (.inl ⟨rfl, _, rfl, ?_⟩)⟩)⟩)⟩
  rw [dec_s]
  by_cases c : h = g
  · subst c
    rw [decide_eq_true rfl]
    refine iteF ?_
    rw [if_pos rfl] at ep
    rw [ep] at q
    have el : ks.length = ls.length := by rw [ea] at eb; exact Option.some.inj eb
    have es := steps_len ea
    refine ⟨_, rfl, _, h, _, Kn.ds ks, rfl, rx', ea, fun c0 hcO hcT => ?_⟩
    refine ⟨_, rfl, _, h, Kn.ds ks, rfl, rx', fun r1 us1 H1 o1 hr1 hr1' rus1 => ⟨_, rfl, _, h, Kn.ds ls, rfl, ry'.mono o1.tm, fun r2 us2 H2 o2 hr2 hr2' rus2 => ⟨c0, r1, r2, _, us1, us2, rfl, hcO _, SqL.of (o2 _ _ hr1'), SqL.of hr2', ?_⟩⟩⟩
    have l1 := rus1.length
    have l2 := rus2.length
    rw [ds_length] at l1 l2
    have hr1H := o2 _ _ hr1'
    have rus1H := rus1.mono o2.tm
    have o12 := o1.trans o2
    refine for_by (n := ks.length) (fun i σ H3 => ∃ (k1 k2 k3 k4 : Option V), σ = [some (.ref xa), some (.ref xb), k1, k2, k3, k4] ∧ Old H2 H3 ∧ Kn.parts (stepsOf h) ks ls = Kn.parts ((stepsOf h).drop i) (ks.drop i) (ls.drop i)) ⟨none, none, none, none, rfl, Old.refl _, rfl⟩ ?_ ?_ ?_ ?_
    · intro i σ H3 hi hv
      obtain ⟨k1, k2, k3, k4, rfl, o3, e3⟩ := hv
      exact ⟨_, _, _, hcO _, SqL.of (o3 _ _ hr1H), SqL.of (o3 _ _ hr2'), by rw [List.length_map]; omega, by omega, by omega⟩
    · intro σ H3 hv
      obtain ⟨k1, k2, k3, k4, rfl, o3, e3⟩ := hv
      exact ⟨_, _, _, hcO _, SqL.of (o3 _ _ hr1H), SqL.of (o3 _ _ hr2'), by rw [List.length_map]; omega⟩
    · intro i σ H3 hi hv v H4 hy
      obtain ⟨k1, k2, k3, k4, rfl, o3, e3⟩ := hv
      obtain ⟨t, u, x, y, rfl, ht, rfl, hu, hx, hyy⟩ := hy
      have i0 : i < (stepsOf h).length := by omega
      have i2 : i < ls.length := by omega
      have eu := hu _ (hcO _)
      rw [List.getElem?_map, List.getElem?_eq_getElem i0] at eu
      cases eu
      have ex := hx _ (SqL.of (o3 _ _ hr1H))
      have ey := hyy _ (SqL.of (o3 _ _ hr2'))
      obtain ⟨d1, e1, rd1⟩ := rus1H.getV ex
      obtain ⟨d2, e2, rd2⟩ := rus2.getV ey
      rw [ds_get hi] at e1
      rw [ds_get i2] at e2
      cases e1
      cases e2
      have o4 := Old.new (o := .tup [.str (stepsOf h)[i], x, y]) ht
      have o34 := o3.trans o4
      have dg := deps_get hi
      refine ⟨t, _, rfl, SqT.of upd_same, rfl, _, _, rfl, _, _, rfl, _, _, rfl, rfl, ?_⟩
      refine ⟨_, rfl, _, rfl, x, y, ks[i], ls[i], rfl, rd1.mono o34.tm, rd2.mono o34.tm, wfs_get hi wks, wfs_get i2 wls, by omega, by omega, fun wv H5 o5 rv => ?_⟩
      have pd' := parts_drop i0 hi i2
      rw [← e3] at pd'
      refine ⟨_, rfl, rfl, _, rfl, ?_⟩
      cases hp : ks[i].part ls[i] with
      | none =>
        rw [hp] at rv pd'
        cases (show wv = .non by rw [od, RK] at rv; exact rv)
        exact iteF ⟨_, _, _, _, rfl, o34.trans o5, pd'⟩
      | some w0 =>
        rw [hp] at rv pd'
        obtain ⟨wa', wvs, rfl, hwa, rws⟩ := RK.get (show RK K H5 (.tup (w0.map Dk.str)) wv from rv)
        refine iteT ?_
        have lw0 := rws.length
        rw [List.length_map] at lw0
        have hmem : w0 ∈ ks[i].ways ls[i] := by
          have e := part_ways ks[i] ls[i]
          rw [hp] at e
          cases hw : ks[i].ways ls[i] with
          | nil => rw [hw] at e; cases e
          | cons w1 r1 => rw [hw] at e; cases e; exact List.mem_cons_self
        have sh := way_short _ _ _ hmem
        refine ⟨_, rfl, by show 1 ≤ sizeLine; decide, fun p6 hp6 => ⟨_, rfl, ?_⟩⟩
        have o6 := Old.new (o := .tup [.str (stepsOf h)[i]]) hp6
        refine .inr (addT (cat_k (ds := [.str (stepsOf h)[i]]) (.of upd_same) (hwa.mono o6.tm) (.cons (.s _) .nil) (rws.mono o6.tm) (by simp) (by simp; omega) fun c7 H7 o7 r7 => ?_))
        refine q (.ref c7) H7 ((((o12.trans o34).trans o5).trans o6).trans o7) ?_
        rw [pd']
        exact r7
    · intro σ H3 hv
      obtain ⟨k1, k2, k3, k4, rfl, o3, e3⟩ := hv
      refine q .non H3 (o12.trans o3) ?_
      rw [e3, ← es, List.drop_length, Kn.parts]
      exact .n
  · rw [decide_eq_false c]
    refine iteT ?_
    rw [if_neg c] at ep
    rw [ep] at q
    refine ⟨by show 0 ≤ sizeLine; decide, fun p hp => ?_⟩
    exact q (.ref p) _ (Old.new hp) (RK.tup (.of upd_same) .nil)
end
end L2.K31

end
section
set_option Elab.async false
set_option linter.all false
set_option maxRecDepth 100000
set_option maxHeartbeats 8000000
namespace L2.K31
open PySem PySem.Spec PyProof.Rows L2.Bw L2.Bk L2.Ex
theorem int_log {i : Int} (h0 : 0 ≤ i) (h1 : i < 100000) : i.natAbs.log2 < 1920 := by
  have a1 : i.natAbs < 2 ^ 17 := by omega
  by_cases z : i.natAbs = 0
  · rw [z]; decide
  · exact Nat.lt_of_lt_of_le ((Nat.log2_lt z).mpr a1) (by decide)
theorem int_txt {i : Int} (h0 : 0 ≤ i) (h1 : i < 100000) : (Str.ofString (toString i)).length ≤ 8 := by
  rw [PySem.ofString_length]
  exact int_text_length_le10 (k := 7) (by decide) (by omega)
theorem sz1000 (m : Nat) (h : m ≤ 1000) : m ≤ sizeLine := Nat.le_trans h (by decide)
section
variable {P : Program} {w : World} {K : PySem.W.Frag} {mg : Str → Option Value} {base : Heap} {f : Addr} {fd : FuncData}
/-! ### TooDeep -/
/-! ### Parted -/
noncomputable abbrev sInitP : Stmt := inCls (top 9) 0
noncomputable def ptd (pl : Int) (kv : V) (by' : Int) (wv yv : V) : List (Str × V) := [("place", .int pl), ("kind", kv), ("by", .int by'), ("wanted", wv), ("way", yv)]
noncomputable def spInitP (C : Addr) : Sp := fun vs H Q _ => ∃ (p : Addr) (i j : Int) (kv wv yv : V), vs = [.ref p, .int i, kv, .int j, wv, yv] ∧ H p = some (XQ true p C none) ∧ (0 ≤ i ∧ i < 100000) ∧ (0 ≤ j ∧ j < 100000) ∧ ∀ d, H d = none → d ≠ p → Q .non (upd (upd H p (XQ true p C (some d))) d (DO d (ptd i kv j wv yv)))
theorem scInitP : FnScope ["self", "place", "kind", "by", "wanted", "way"] ["self", "place", "kind", "by", "wanted", "way"] (defScope sInitP) := ⟨rfl, rfl, rfl, by decide +kernel, rfl, by decide +kernel, by decide +kernel⟩
theorem ok_initP {n : Nat} {B C fI : Addr} (F : Fun K "__init__" "Parted.__init__" sInitP f fd) (T : Tx mg) (Z_BlameError : BInit K B) (O_Parted : OwnI K C fI veB "ValueError.__new__") (m_BlameError : mg "BlameError" = some (.ref B)) (S : ExSet K C) (f1 : PySem.W.findIn K (.ref C) "place" = some none) (f2 : PySem.W.findIn K (.ref C) "kind" = some none) (f3 : PySem.W.findIn K (.ref C) "by" = some none) (f4 : PySem.W.findIn K (.ref C) "wanted" = some none) (f5 : PySem.W.findIn K (.ref C) "way" = some none) : FnOk P w K mg base CX0 (n + 1) f fd ["self", "place", "kind", "by", "wanted", "way"] (spInitP C) := by
  refine F.ok scInitP (fun vs H Q E h => ?_) (fun cdv A outer s H vs Q E hr h => ?_)
  · obtain ⟨p, i, j, kv, wv, yv, rfl, _⟩ := h
    rfl
  obtain ⟨p, i, j, kv, wv, yv, rfl, hp, ⟨h0, h1⟩, ⟨j0, j1⟩, q⟩ := h
  refine' ⟨_, ?n0, ?Z⟩
  case' n0 => refine' pss_cons ?n1 ?n2
  case' n1 => refine' ps_expr ?n3
  case' n3 => refine' pe_binit Z_BlameError O_Parted m_BlameError rfl ?n4
  case' n4 => refine' pa ?n5 ?n6
  case n5 => exact pv 0
  case' n6 => refine' pa ?n7 ?n8
  case' n7 => refine' pe_join ?n9
  case' n9 => refine' pj_cons ?n10 ?n11
  case n10 => exact pe_str
  case' n11 => refine' pj_cons ?n12 ?n13
  case' n12 => refine' pe_fmt ?n14
  case n14 => exact pv 1
  case' n13 => refine' pj_cons ?n15 ?n16
  case n15 => exact pe_str
  case' n16 => refine' pj_cons ?n17 ?n18
  case' n17 => refine' pe_fmt ?n19
  case n19 => exact pv 3
  case' n18 => refine' pj_cons ?n20 ?n21
  case n20 => exact pe_str
  case n21 => exact pj_nil
  case n8 => exact pa_nil
  case' n2 => refine' pss_cons ?n22 ?n23
  case' n22 => refine' ps_xfld rfl ?n24 ?n25 rfl
  case n24 => exact pv 0
  case n25 => exact pv 1
  case' n23 => refine' pss_cons ?n26 ?n27
  case' n26 => refine' ps_xfld rfl ?n28 ?n29 rfl
  case n28 => exact pv 0
  case n29 => exact pv 2
  case' n27 => refine' pss_cons ?n30 ?n31
  case' n30 => refine' ps_xfld rfl ?n32 ?n33 rfl
  case n32 => exact pv 0
  case n33 => exact pv 3
  case' n31 => refine' pss_cons ?n34 ?n35
  case' n34 => refine' ps_xfld rfl ?n36 ?n37 rfl
  case n36 => exact pv 0
  case n37 => exact pv 4
  case' n35 => refine' pss_one ?n38
  case' n38 => refine' ps_xfld rfl ?n39 ?n40 rfl
  case n39 => exact pv 0
  case n40 => exact pv 5
  have lg := int_log h0 h1
  have tl2 := int_txt h0 h1
  have lgj := int_log j0 j1
  have tlj := int_txt j0 j1
  have l0 : Str.empty.length = 0 := rfl
  have l1 : (Str.ofString "the kind at place ").length = 18 := by decide +kernel
  have l2 : (Str.ofString " parts from the one that place ").length = 31 := by decide +kernel
  have l3 : (Str.ofString " wants").length = 6 := by decide +kernel
  refine ⟨_, rfl, _, rfl, ?_, _, rfl, i, rfl, lg, _, rfl, ?_, _, rfl, ?_, _, rfl, j, rfl, lgj, _, rfl, ?_, _, rfl, ?_, ?_, true, p, none, _, rfl, hp, by show 1 ≤ sizeLine; decide, ?_⟩
  · exact sz1000 _ (by rw [strLen_append, l0, l1]; omega)
  · exact sz1000 _ (by rw [strLen_append, strLen_append, l0, l1]; omega)
  · exact sz1000 _ (by rw [strLen_append, strLen_append, strLen_append, l0, l1, l2]; omega)
  · exact sz1000 _ (by rw [strLen_append, strLen_append, strLen_append, strLen_append, l0, l1, l2]; omega)
  · exact sz1000 _ (by rw [strLen_append, strLen_append, strLen_append, strLen_append, strLen_append, l0, l1, l2, l3]; omega)
  · exact sz1000 _ (by rw [strLen_append, strLen_append, strLen_append, strLen_append, strLen_append, l0, l1, l2, l3]; omega)
  refine ⟨_, rfl, _, rfl, true, p, C, rfl, S, f1, .inl ⟨hp, fun d hd ne => ?_⟩⟩
  have e0 : ∀ {o : HO}, upd (upd H p (XQ true p C (some d))) d o p = some (XQ true p C (some d)) := fun {o} => by rw [upd_ne (Ne.symm ne), upd_same]
  refine ⟨_, rfl, _, rfl, true, p, C, rfl, S, f2, .inr ⟨d, _, e0, upd_same, by show 1 < 900; decide, ?_⟩⟩
  rw [upd_upd]
  refine ⟨_, rfl, _, rfl, true, p, C, rfl, S, f3, .inr ⟨d, _, e0, upd_same, by show 2 < 900; decide, ?_⟩⟩
  rw [upd_upd]
  refine ⟨_, rfl, _, rfl, true, p, C, rfl, S, f4, .inr ⟨d, _, e0, upd_same, by show 3 < 900; decide, ?_⟩⟩
  rw [upd_upd]
  refine ⟨_, rfl, _, rfl, true, p, C, rfl, S, f5, .inr ⟨d, _, e0, upd_same, by show 4 < 900; decide, ?_⟩⟩
  rw [upd_upd]
  exact q d hd ne
end
end L2.K31

end
section
set_option Elab.async false
set_option linter.all false
set_option maxRecDepth 100000
set_option maxHeartbeats 8000000
namespace L2.K31
open PySem PySem.Spec PyProof.Rows L2.Bw L2.Bk L2.Ex
section
variable {P : Program} {w : World} {K : PySem.W.Frag} {mg : Str → Option Value} {base : Heap} {f : Addr} {fd : FuncData}
/-- what is untracked behind a raise that laid a dict -/
theorem raised {H H2 : Hp} {pe d : Addr} {C : Addr} {fs : List (Str × V)} (hpe : H pe = none) (hd : upd H pe (XQ true pe C none) d = none) (ne : d ≠ pe) (e : H2 = upd (upd (upd H pe (XQ true pe C none)) pe (XQ true pe C (some d))) d (DO d fs)) :
    H2 pe = some (XQ true pe C (some d)) ∧ Old H (del H2 pe) ∧ del H2 pe d = some (DO d fs) := by
  subst e
  have hd' : H d = none := by rw [upd_ne ne] at hd; exact hd
  refine ⟨?_, fun c o e => ?_, ?_⟩
  · rw [upd_ne (Ne.symm ne), upd_same]
  · rw [del_ne (ne_of_none e hpe), upd_ne (ne_of_none e hd'), upd_ne (ne_of_none e hpe), upd_ne (ne_of_none e hpe)]
    exact e
  · rw [del_ne ne, upd_same]
/-! ### need_same -/
noncomputable abbrev sSm : Stmt := top 43
noncomputable def spSm (K : PySem.W.Frag) (C : Addr) : Sp := fun vs H Q E => ∃ (nv kv av wv : V) (n a : Tn) (k wk : Kn), vs = [nv, kv, av, wv] ∧ RK K H n.d nv ∧ n.wf ∧ RK K H a.d av ∧ a.wf ∧ RK K H k.d kv ∧ RK K H wk.d wv ∧ k.wf ∧ wk.wf ∧ k.dep ≤ 7 ∧
  (k.part wk = none → ∀ H', Old H H' → Q .non H') ∧ (∀ way, k.part wk = some way → ∀ d yv H', Old H H' → RK K H' (.tup (way.map Dk.str)) yv → H' d = some (DO d (ptd n.p kv a.p wv yv)) → E (.ref C) (some d) H')
theorem scSm : FnScope ["node", "kind", "against", "wanted", "way"] ["node", "kind", "against", "wanted"] (defScope sSm) := ⟨rfl, rfl, rfl, by decide +kernel, rfl, by decide +kernel, by decide +kernel⟩
theorem ok_Sm {n : Nat} {C fI : Addr} {fdI : FuncData} (F : Fun K "need_same" "need_same" sSm f fd) (T : Tx mg) (O_Parted : OwnI K C fI veB "ValueError.__new__") (i_Parted : FnOk P w K mg base CX0 1 fI fdI ["self", "place", "kind", "by", "wanted", "way"] (spInitP C)) (b_Parted : Binds K fdI ["self", "place", "kind", "by", "wanted", "way"] []) (m_Parted : mg "Parted" = some (.ref C)) (k_Parted : PySem.W.keepIn K (.ref C) = true) (be_Parted : PySem.W.mroIn K C (.type "BaseException") = some true) (ty_Parted : PySem.W.typeIn K (.ref C) = some (.type "type"))
    (c_parting : Cal P w K mg base "parting" ["kind", "other"] 9 (spParting K 8)) : FnOk P w K mg base (CXF P w) (n + 10) f fd ["node", "kind", "against", "wanted"] (spSm K C) := by
  refine fun_okX F scSm (fun vs H Q E h => ?_) (fun cdv A outer s H vs Q E hr h => ?_)
  · obtain ⟨nv, kv, av, wv, n, a, k, wk, rfl, _⟩ := h
    rfl
  obtain ⟨nv, kv, av, wv, n, a, k, wk, rfl, rn, wn, ra, wa, rk, rw', wk1, wk2, dk, qn, qe⟩ := h
  have nd := scSm.nd
  obtain ⟨x, p, fr, mid, ps⟩ := n
  obtain ⟨⟨_, _, _, _, _, _, h0, h1⟩, _⟩ := wn
  obtain ⟨an, uf, um, up, rfl, han, _⟩ := RK.node rn
  obtain ⟨x', p', fr', mid', ps'⟩ := a
  obtain ⟨⟨_, _, _, _, _, _, j0, j1⟩, _⟩ := wa
  obtain ⟨aa, uf', um', up', rfl, haa, _⟩ := RK.node ra
  refine' ⟨_, ?n0, ?Z⟩
  case' n0 => refine' pss_cons ?n1 ?n2
  case' n1 => refine' ps_setX (i := 4) nd rfl (Or.inl rfl) rfl (by first | exact .inl rfl | exact .inr rfl) ?n3
  case' n3 => refine' pe_cal c_parting hr ?n4
  case' n4 => refine' pa ?n5 ?n6
  case n5 => exact pv 1
  case' n6 => refine' pa ?n7 ?n8
  case n7 => exact pv 3
  case n8 => exact pa_nil
  case' n2 => refine' pss_one ?n9
  case' n9 => refine' ps_if ?n10 ?n11 ?n12
  case' n10 => refine' pt_cmpR op_notN ?n13 ?n14 (nomark _)
  case n13 => exact pv 4
  case n14 => exact pe_non
  case' n11 => refine' pss_one ?n15
  case' n15 => refine' ps_raiseI O_Parted i_Parted hr b_Parted m_Parted k_Parted be_Parted ty_Parted ?n16
  case' n16 => refine' pa ?n17 ?n18
  case' n17 => refine' pe_ix ix_seq ?n19 ?n20 (fun _ _ => rfl)
  case n19 => exact pv 0
  case n20 => exact pe_int
  case' n18 => refine' pa ?n21 ?n22
  case n21 => exact pv 1
  case' n22 => refine' pa ?n23 ?n24
  case' n23 => refine' pe_ix ix_seq ?n25 ?n26 (fun _ _ => rfl)
  case n25 => exact pv 2
  case n26 => exact pe_int
  case' n24 => refine' pa ?n27 ?n28
  case n27 => exact pv 3
  case' n28 => refine' pa ?n29 ?n30
  case n29 => exact pv 4
  case n30 => exact pa_nil
  case n12 => exact pss_nil
  refine ⟨_, rfl, _, rfl, kv, wv, k, wk, rfl, rk, rw', wk1, wk2, by omega, by omega, fun yv H1 o1 ry => ?_⟩
  refine ⟨_, rfl, rfl, _, rfl, ?_⟩
  cases ep : k.part wk with
  | none =>
    rw [ep] at ry
    cases (show yv = .non by rw [od, RK] at ry; exact ry)
    exact iteF (qn ep _ o1)
  | some way =>
    rw [ep] at ry
    have ry' : RK K H1 (.tup (way.map Dk.str)) yv := ry
    obtain ⟨ya, yvs, rfl, _, _⟩ := RK.get ry'
    refine iteT ?_
    refine ⟨_, rfl, .inr (.inl ⟨an, _, 1, .int p, rfl, rfl, (han.mono o1.tm).sq, at1, _, rfl, _, rfl, .inr (.inl ⟨aa, _, 1, .int p', rfl, rfl, (haa.mono o1.tm).sq, at1, _, rfl, _, rfl, by show 5 ≤ sizeLine; decide, fun pe hpe => ⟨pe, p, p', kv, wv, .ref ya, rfl, upd_same, ⟨h0, h1⟩, ⟨j0, j1⟩, fun d hd ne => ⟨rfl, some d, ?_, ?_⟩⟩⟩)⟩)⟩
    · exact (raised hpe hd ne rfl).1
    · obtain ⟨_, o2, hd2⟩ := raised (fs := ptd p kv p' wv (.ref ya)) hpe hd ne rfl
      exact qe way ep d (.ref ya) _ (o1.trans o2) (ry'.mono o2.tm) hd2
end
end L2.K31

end
section
set_option Elab.async false
set_option linter.all false
set_option maxRecDepth 100000
set_option maxHeartbeats 8000000
namespace L2.K31
open PySem PySem.Spec PyProof.Rows L2.Bw L2.Bk L2.Ex
section
variable {P : Program} {w : World} {K : PySem.W.Frag} {mg : Str → Option Value} {base : Heap} {f : Addr} {fd : FuncData}
/-! ### written -/
noncomputable abbrev sWr : Stmt := top 28
noncomputable def tmid : Tn → List Dk | .mk _ _ _ mid _ => mid
noncomputable def spWr (K : PySem.W.Frag) : Sp := fun vs H Q _ => ∃ (v : V) (t : Tn), vs = [v] ∧ RK K H t.d v ∧ t.wf ∧ t.w ≠ "look" ∧
  ∀ (r : Addr) (us : List V) (H' : Hp), Old H H' → H r = none → H' r = some (.lst us) → RKs K H' (tmid t) us → Q (.ref r) H'
theorem scWr : FnScope ["tree"] ["tree"] (defScope sWr) := ⟨rfl, rfl, rfl, by decide +kernel, rfl, by decide +kernel, by decide +kernel⟩
theorem nk_le : ∀ x ∈ K11.words, K11.nk x ≤ 5 := by decide +kernel
theorem ok_Wr {m : Nat} (F : Fun K "written" "written" sWr f fd) (T : Tx mg) (c_indexes : Cal P w K mg base "indexes" ["tree", "sort"] 2 (spIndexes K)) : FnOk P w K mg base CX0 (m + 3) f fd ["tree"] (spWr K) := by
  refine F.ok scWr (fun vs H Q E h => ?_) (fun cdv A outer s H vs Q E hr h => ?_)
  · obtain ⟨v, t, rfl, _⟩ := h
    rfl
  obtain ⟨v, t, rfl, rv, wt, nl, q⟩ := h
  have nd := scWr.nd
  obtain ⟨x, p, fr, mid, ps⟩ := t
  obtain ⟨⟨hx, lf, lm, _⟩, _⟩ := wt
  obtain ⟨a, uf, um, up, rfl, ha, rf, rm, rp⟩ := RK.node rv
  have l1 := rf.length
  have l2 := rm.length
  refine' ⟨_, ?n0, ?Z⟩
  case' n0 => refine' pss_one ?n1
  case' n1 => refine' ps_ret ?n2
  case' n2 => refine' pe_lc (te := tOp (rIx K) (tVar 1) (tVar 0)) (k := 1) (N := ["index", "tree"]) (lc_mk rfl rfl rfl rfl rfl rfl) rfl ?n3 (fun _ _ _ _ => ?n4) (fun _ _ _ _ => ?n5) (fun _ _ _ _ => ?n6)
  case' n3 => refine' pi_seq ?n7
  case' n7 => refine' pe_cal c_indexes hr ?n8
  case' n8 => refine' pa ?n9 ?n10
  case n9 => exact pv 0
  case' n10 => refine' pa ?n11 ?n12
  case n11 => exact pe_str
  case n12 => exact pa_nil
  case n4 => exact pg_name (i := 0) (by show List.Nodup (["index", "tree"] : List Str); decide +kernel) rfl (Or.inl rfl)
  case n5 => exact pts_nil
  case n6 =>
    refine' pe_ix ix_seq ?n13 ?n14 (fun _ _ => rfl)
    case n13 => exact pv 1
    case n14 => exact pv 0
  refine ⟨_, rfl, a, x, _, "kind", rfl, ha, hx, fun r H1 o1 hr0 hr1 => ⟨r, rfl, .inl ⟨⟨_, SqL.of hr1⟩, fun D hD => ?_⟩⟩⟩
  rw [(K11.form_of x hx).2.2.2.1 nl] at hr1
  have lo0 : ([V.str x, V.int p] ++ uf).length = 2 + K11.nf x := by
    rw [List.length_append, ← l1, lf]
    rfl
  have ln : um.length = K11.nk x := by rw [← l2]; exact lm
  have lu5 : um.length ≤ 5 := by rw [ln]; exact nk_le x hx
  have e1 : V.str x :: V.int p :: (uf ++ um ++ up) = ([V.str x, V.int p] ++ uf) ++ (um ++ up) := by simp
  clear l1 l2
  generalize 2 + K11.nf x = lo at hr1 lo0
  generalize K11.nk x = n at hr1 ln
  rw [e1] at ha
  generalize [V.str x, V.int p] ++ uf = pre at ha lo0
  have neD : ∀ b o, H1 b = some o → b ≠ D := fun b o e => ne_of_none e hD
  have lr : ((K11.rng lo n).map V.int).length = n := by rw [List.length_map, rng_len]
  refine lc_by0 (n := n) (fun i σ H2 => ∃ (k1 : Option V), σ = [k1, some (.ref a)] ∧ Old H1 H2 ∧ H2 D = some (.lst (um.take i))) ⟨none, rfl, Old.new hD, upd_same⟩ ?_ ?_ ?_ ?_
  · intro i σ H2 hi hv
    obtain ⟨k1, rfl, o2, hD2⟩ := hv
    exact ⟨_, _, SqL.of (o2 _ _ hr1), by rw [List.getElem?_map, rng_get hi]; rfl⟩
  · intro σ H2 hv
    obtain ⟨k1, rfl, o2, hD2⟩ := hv
    exact ⟨_, SqL.of (o2 _ _ hr1), by rw [lr]; exact Nat.le_refl _⟩
  · intro i σ H2 hi hv y H3 hy
    obtain ⟨k1, rfl, o2, hD2⟩ := hv
    obtain ⟨e1, hyx⟩ := hy
    subst e1
    have ey := hyx _ (SqL.of (o2 _ _ hr1))
    rw [List.getElem?_map, rng_get hi] at ey
    cases ey
    have iu : i < um.length := by omega
    have eu : (pre ++ (um ++ up))[lo + i]? = some um[i] := by
      rw [List.getElem?_append_right (by omega), lo0, show lo + i - lo = i by omega, List.getElem?_append_left iu, List.getElem?_eq_getElem iu]
    have ha3 := (ha.mono (o1.trans o2).tm).sq
    refine ⟨_, rfl, _, rfl, .inr (.inl ⟨a, _, _, um[i], rfl, rfl, ha3, atI_nat eu, ?_⟩)⟩
    refine ⟨_, hD2, smallM (by rw [List.length_take]; omega), nx hi ⟨_, rfl, fun b o e => by rw [upd_ne (neD b o e)]; exact o2 b o e, ?_⟩⟩
    rw [upd_same, take_snoc iu]
  · intro σ H2 hv
    obtain ⟨k1, rfl, o2, hD2⟩ := hv
    rw [List.take_of_length_le (by omega)] at hD2
    exact q D um H2 (o1.trans o2) (o1.free hD) hD2 (rm.mono (o1.trans o2).tm)
end
end L2.K31

end
section
set_option Elab.async false
set_option linter.all false
set_option maxRecDepth 100000
set_option maxHeartbeats 8000000
namespace L2.K31
open PySem PySem.Spec PyProof.Rows L2.Bw L2.Bk L2.Ex
section
variable {P : Program} {w : World} {K : PySem.W.Frag} {mg : Str → Option Value} {base : Heap} {f : Addr} {fd : FuncData}
/-! ### need_shallow -/
noncomputable abbrev sN0 : Stmt := top 42
noncomputable def spN0 (K : PySem.W.Frag) : Sp := fun vs H Q _ => ∃ (v kv : V) (k : Kn), vs = [v, kv] ∧ RK K H k.d kv ∧ k.ok ∧ k.dep ≤ 4 ∧ ∀ H', Old H H' → Q .non H'
theorem scN0 : FnScope ["tree", "kind"] ["tree", "kind"] (defScope sN0) := ⟨rfl, rfl, rfl, by decide +kernel, rfl, by decide +kernel, by decide +kernel⟩
theorem ok_N0 {n : Nat} {tk : Tok} (F : Fun K "need_shallow" "need_shallow" sN0 f fd) (T : Tx mg) (m_MOST_DEPTH : mg "MOST_DEPTH" = some (.int 4 tk)) (c_depth : Cal P w K mg base "depth" ["kind"] 10 (spDepth K 9)) : FnOk P w K mg base CX0 (n + 11) f fd ["tree", "kind"] (spN0 K) := by
  refine F.ok scN0 (fun vs H Q E h => ?_) (fun cdv A outer s H vs Q E hr h => ?_)
  · obtain ⟨v, kv, k, rfl, _⟩ := h
    rfl
  obtain ⟨v, kv, k, rfl, rk, ok, dk, q⟩ := h
  have nd := scN0.nd
  refine' ⟨_, ?n0, ?Z⟩
  case' n0 => refine' pss_one ?n1
  case' n1 => refine' ps_if ?n2 pss_never ?n3
  case' n2 => refine' pt_cmpR op_gt ?n4 ?n5 (nomark _)
  case' n4 => refine' pe_cal c_depth hr ?n6
  case' n6 => refine' pa ?n7 ?n8
  case n7 => exact pv 1
  case n8 => exact pa_nil
  case n5 => exact pe_gint rfl m_MOST_DEPTH
  case n3 => exact pss_nil
  refine ⟨_, rfl, kv, k, rfl, rk, ok, by omega, fun H1 o1 => ⟨_, _, rfl, rfl, _, rfl, ?_⟩⟩
  refine ite2 (fun c => ?_) (fun c => ?_)
  · have c' : (4 : Int) < (k.dep : Nat) := of_decide_eq_true c
    omega
  · exact q _ o1
/-! ### bound_within -/
noncomputable abbrev sBW : Stmt := top 44
noncomputable def spBW (K : PySem.W.Frag) : Sp := fun vs H Q _ => ∃ (v fv : V) (t : Tn) (i : Int) (b : Addr) (kvs : List (Key × V)), vs = [v, .int i, fv, .ref b] ∧ RK K H t.d v ∧ t.w ≠ "fn" ∧ t.w ≠ "self" ∧ t.w ≠ "let" ∧ H b = some (.dK kvs) ∧ ∀ r, H r = none → Q (.ref r) (upd H r (.dK kvs))
theorem scBW : FnScope ["tree", "number", "found", "bound", "inner"] ["tree", "number", "found", "bound"] (defScope sBW) := ⟨rfl, rfl, rfl, by decide +kernel, rfl, by decide +kernel, by decide +kernel⟩
theorem ok_BW {n : Nat} (F : Fun K "bound_within" "bound_within" sBW f fd) (T : Tx mg) : FnOk P w K mg base CX0 (n + 1) f fd ["tree", "number", "found", "bound"] (spBW K) := by
  refine F.ok scBW (fun vs H Q E h => ?_) (fun cdv A outer s H vs Q E hr h => ?_)
  · obtain ⟨v, fv, t, i, b, kvs, rfl, _⟩ := h
    rfl
  obtain ⟨v, fv, t, i, b, kvs, rfl, rv, n1, n2, n3, hb, q⟩ := h
  have nd := scBW.nd
  obtain ⟨x, p, fr, mid, ps⟩ := t
  obtain ⟨a, uf, um, up, rfl, ha, _⟩ := RK.node rv
  refine' ⟨_, ?n0, ?Z⟩
  case' n0 => refine' pss_cons ?n1 ?n2
  case' n1 => refine' ps_setX (i := 4) nd rfl (Or.inl rfl) rfl (by first | exact .inl rfl | exact .inr rfl) ?n3
  case' n3 => refine' pe_callTy (call_dict) rfl T.dict boot_dict ?n4
  case' n4 => refine' pa ?n5 ?n6
  case n5 => exact pv 3
  case n6 => exact pa_nil
  case' n2 => refine' pss_cons ?n7 ?n8
  case' n7 => refine' ps_if ?n9 pss_never ?n10
  case' n9 => refine' pt_cmpR (op_eqG hr) ?n11 ?n12 (nomark _)
  case' n11 => refine' pe_ix ix_seq ?n13 ?n14 (fun _ _ => rfl)
  case n13 => exact pv 0
  case n14 => exact pe_int
  case n12 => exact pe_str
  case' n10 => refine' pss_one ?n15
  case' n15 => refine' ps_if ?n16 pss_never ?n17
  case' n16 => refine' pt_cmpR (op_eqG hr) ?n18 ?n19 (nomark _)
  case' n18 => refine' pe_ix ix_seq ?n20 ?n21 (fun _ _ => rfl)
  case n20 => exact pv 0
  case n21 => exact pe_int
  case n19 => exact pe_str
  case' n17 => refine' pss_one ?n22
  case' n22 => refine' ps_if ?n23 pss_never ?n24
  case' n23 => refine' PW.pt ?n25
  case' n25 => refine' pw_and ?n26 ?n27
  case' n26 => refine' pt_cmpR (op_eqG hr) ?n28 ?n29 (nomark _)
  case' n28 => refine' pe_ix ix_seq ?n30 ?n31 (fun _ _ => rfl)
  case n30 => exact pv 0
  case n31 => exact pe_int
  case n29 => exact pe_str
  case' n27 => refine' pw_and1 ?n32
  case' n32 => refine' pt_cmpR (op_eqG hr) ?n33 ?n34 (nomark _)
  case n33 => exact pv 1
  case n34 => exact pe_int
  case n24 => exact pss_nil
  case' n8 => refine' pss_one ?n35
  case' n35 => refine' ps_ret ?n36
  case n36 => exact pv 4
  refine ⟨_, rfl, b, kvs, rfl, hb, fun r hr0 => ?_⟩
  have n1 : x ≠ "fn" := n1
  have n2 : x ≠ "self" := n2
  have n3 : x ≠ "let" := n3
  have ha' : Tp K (upd H r (.dK kvs)) a (.str x :: .int p :: (uf ++ um ++ up)) := ha.mono (Old.new hr0).tm
  refine ⟨_, rfl, .inr (.inl ⟨a, _, 0, .str x, rfl, rfl, ha'.sq, at0, .inr (.inl ⟨rfl, _, rfl, ?_⟩)⟩)⟩
  rw [dec_s, decide_eq_false n1]
  refine iteF ?_
  refine ⟨_, rfl, .inr (.inl ⟨a, _, 0, .str x, rfl, rfl, ha'.sq, at0, .inr (.inl ⟨rfl, _, rfl, ?_⟩)⟩)⟩
  rw [dec_s, decide_eq_false n2]
  refine iteF ?_
  refine ⟨_, rfl, .inr (.inl ⟨a, _, 0, .str x, rfl, rfl, ha'.sq, at0, .inr (.inl ⟨rfl, _, rfl, ?_⟩)⟩)⟩
  rw [dec_s, decide_eq_false n3]
  refine iteF ?_
  exact ⟨_, rfl, q r hr0⟩
end
end L2.K31

end
section
set_option Elab.async false
set_option linter.all false
set_option maxRecDepth 100000
set_option maxHeartbeats 8000000
namespace L2.K31
open PySem PySem.Spec PyProof.Rows L2.Bw L2.Bk L2.Ex
section
variable {P : Program} {w : World} {K : PySem.W.Frag} {mg : Str → Option Value} {base : Heap} {f : Addr} {fd : FuncData}
noncomputable def dSK : List (Str × Dk) := [("whole", .tup [.str "whole"]), ("given", .tup [.str "whole"]), ("size", .tup [.str "whole"]), ("truth", .tup [.str "truth"])]
noncomputable def dTO : List (Str × Dk) := [("call", .tup [.str "res"]), ("at", .tup [.str "item"]), ("one", .tup [.str "one"]), ("two", .tup [.str "two"])]
/-- the kind of a node, of five words -/
noncomputable def ownD : Tn → Option Dk
  | .mk w _ _ mid _ => if w = "whole" ∨ w = "given" then some (.tup [.str "whole"]) else if w = "truth" then some (.tup [.str "truth"]) else if w = "row" then mid.head?.map (fun d => .tup [.str "row", d]) else if w = "as" then mid.head? else none
theorem own_words {x : Str} {p : Int} {fr mid : List Dk} {ps : List Tn} {d : Dk} (h : ownD (.mk x p fr mid ps) = some d) :
    (x = "whole" ∧ d = .tup [.str "whole"]) ∨ (x = "given" ∧ d = .tup [.str "whole"]) ∨ (x = "truth" ∧ d = .tup [.str "truth"]) ∨ (x = "row" ∧ ∃ m, mid.head? = some m ∧ d = .tup [.str "row", m]) ∨ (x = "as" ∧ mid.head? = some d) := by
  rw [ownD] at h
  by_cases c : x = "whole" ∨ x = "given"
  · rw [if_pos c] at h
    obtain rfl := Option.some.inj h
    rcases c with c | c
    · exact .inl ⟨c, rfl⟩
    · exact .inr (.inl ⟨c, rfl⟩)
  rw [if_neg c] at h
  by_cases c2 : x = "truth"
  · rw [if_pos c2] at h
    obtain rfl := Option.some.inj h
    exact .inr (.inr (.inl ⟨c2, rfl⟩))
  rw [if_neg c2] at h
  by_cases c3 : x = "row"
  · rw [if_pos c3] at h
    cases e : mid.head? with
    | none => rw [e] at h; exact nomatch h
    | some m =>
      rw [e] at h
      obtain rfl := Option.some.inj h
      exact .inr (.inr (.inr (.inl ⟨c3, m, rfl, rfl⟩)))
  rw [if_neg c3] at h
  by_cases c4 : x = "as"
  · rw [if_pos c4] at h
    exact .inr (.inr (.inr (.inr ⟨c4, h⟩)))
  rw [if_neg c4] at h
  exact nomatch h
theorem nf_as : K11.nf "as" = 0 := by decide +kernel
/-! ### own_kind -/
noncomputable abbrev sOw : Stmt := top 46
noncomputable def spOw (K : PySem.W.Frag) : Sp := fun vs H Q _ => ∃ (v fv bv : V) (t : Tn) (d : Dk), vs = [v, fv, bv] ∧ RK K H t.d v ∧ t.wf ∧ ownD t = some d ∧ ∀ v' H', Old H H' → RK K H' d v' → Q v' H'
theorem scOw : FnScope ["tree", "found", "bound", "word"] ["tree", "found", "bound"] (defScope sOw) := ⟨rfl, rfl, rfl, by decide +kernel, rfl, by decide +kernel, by decide +kernel⟩
theorem ok_Ow {n : Nat} {aS aT : Addr} (F : Fun K "own_kind" "own_kind" sOw f fd) (T : Tx mg) (m_SURE_KINDS : mg "SURE_KINDS" = some (.ref aS)) (k_SURE_KINDS : KTD.tabLook (lookD K) (fun b => K.lookup b) aS dSK = true) (m_TAKEN_OUT : mg "TAKEN_OUT" = some (.ref aT)) (k_TAKEN_OUT : KTD.tabLook (lookD K) (fun b => K.lookup b) aT dTO = true) : FnOk P w K mg base CX0 (n + 1) f fd ["tree", "found", "bound"] (spOw K) := by
  refine F.ok scOw (fun vs H Q E h => ?_) (fun cdv A outer s H vs Q E hr h => ?_)
  · obtain ⟨v, fv, bv, t, d, rfl, _⟩ := h
    rfl
  obtain ⟨v, fv, bv, t, d, rfl, rv, wt, ow, q⟩ := h
  have nd := scOw.nd
  obtain ⟨x, p, fr, mid, ps⟩ := t
  obtain ⟨⟨hx, lf, lm, _⟩, _⟩ := wt
  obtain ⟨a, uf, um, up, rfl, ha, rf, rm, rp⟩ := RK.node rv
  have l1 := rf.length
  have l2 := rm.length
  have ow := own_words ow
  refine' ⟨_, ?n0, ?Z⟩
  case' n0 => refine' pss_cons ?n1 ?n2
  case' n1 => refine' ps_setX (i := 3) nd rfl (Or.inl rfl) rfl (by first | exact .inl rfl | exact .inr rfl) ?n3
  case' n3 => refine' pe_ix ix_seq ?n4 ?n5 (fun _ _ => rfl)
  case n4 => exact pv 0
  case n5 => exact pe_int
  case' n2 => refine' pss_cons ?n6 ?n7
  case' n6 => refine' ps_if ?n8 ?n9 ?n10
  case' n8 => refine' pt_cmp ?n11
  case' n11 => refine' pc_inT rfl m_SURE_KINDS k_SURE_KINDS ?n12
  case n12 => exact pv 3
  case' n9 => refine' pss_one ?n13
  case' n13 => refine' ps_ret ?n14
  case' n14 => refine' pe_tabD rfl m_SURE_KINDS k_SURE_KINDS ?n15 (fun _ _ => rfl)
  case n15 => exact pv 3
  case n10 => exact pss_nil
  case' n7 => refine' pss_cons ?n16 ?n17
  case' n16 => refine' ps_if ?n18 pss_never ?n19
  case' n18 => refine' pt_cmp ?n20
  case' n20 => refine' pc_inT rfl m_TAKEN_OUT k_TAKEN_OUT ?n21
  case n21 => exact pv 3
  case n19 => exact pss_nil
  case' n17 => refine' pss_cons ?n22 ?n23
  case' n22 => refine' ps_if ?n24 pss_never ?n25
  case' n24 => refine' pt_cmpR (op_eqG hr) ?n26 ?n27 (nomark _)
  case n26 => exact pv 3
  case n27 => exact pe_str
  case n25 => exact pss_nil
  case' n23 => refine' pss_cons ?n28 ?n29
  case' n28 => refine' ps_if ?n30 pss_never ?n31
  case' n30 => refine' pt_cmpR (op_eqG hr) ?n32 ?n33 (nomark _)
  case n32 => exact pv 3
  case n33 => exact pe_str
  case n31 => exact pss_nil
  case' n29 => refine' pss_cons ?n34 ?n35
  case' n34 => refine' ps_if ?n36 pss_never ?n37
  case' n36 => refine' pt_cmpR (op_eqG hr) ?n38 ?n39 (nomark _)
  case n38 => exact pv 3
  case n39 => exact pe_str
  case n37 => exact pss_nil
  case' n35 => refine' pss_cons ?n40 ?n41
  case' n40 => refine' ps_if ?n42 pss_never ?n43
  case' n42 => refine' pt_cmpR (op_eqG hr) ?n44 ?n45 (nomark _)
  case n44 => exact pv 3
  case n45 => exact pe_str
  case n43 => exact pss_nil
  case' n41 => refine' pss_cons ?n46 ?n47
  case' n46 => refine' ps_if ?n48 pss_never ?n49
  case' n48 => refine' pt_cmpR (op_eqG hr) ?n50 ?n51 (nomark _)
  case n50 => exact pv 3
  case n51 => exact pe_str
  case n49 => exact pss_nil
  case' n47 => refine' pss_cons ?n52 ?n53
  case' n52 => refine' ps_if ?n54 pss_never ?n55
  case' n54 => refine' pt_cmpR (op_eqG hr) ?n56 ?n57 (nomark _)
  case n56 => exact pv 3
  case n57 => exact pe_str
  case n55 => exact pss_nil
  case' n53 => refine' pss_cons ?n58 ?n59
  case' n58 => refine' ps_if ?n60 ?n61 ?n62
  case' n60 => refine' pt_cmpR (op_eqG hr) ?n63 ?n64 (nomark _)
  case n63 => exact pv 3
  case n64 => exact pe_str
  case' n61 => refine' pss_one ?n65
  case' n65 => refine' ps_ret ?n66
  case' n66 => refine' pe_tup ?n67
  case' n67 => refine' pa ?n68 ?n69
  case n68 => exact pe_str
  case' n69 => refine' pa ?n70 ?n71
  case' n70 => refine' pe_ix ix_seq ?n72 ?n73 (fun _ _ => rfl)
  case n72 => exact pv 0
  case n73 => exact pe_int
  case n71 => exact pa_nil
  case n62 => exact pss_nil
  case' n59 => refine' pss_cons ?n74 ?n75
  case' n74 => refine' ps_if ?n76 pss_never ?n77
  case' n76 => refine' pt_cmpR (op_eqG hr) ?n78 ?n79 (nomark _)
  case n78 => exact pv 3
  case n79 => exact pe_str
  case n77 => exact pss_nil
  case' n75 => refine' pss_one ?n80
  case' n80 => refine' ps_ret ?n81
  case' n81 => refine' pe_ix ix_seq ?n82 ?n83 (fun _ _ => rfl)
  case n82 => exact pv 0
  case n83 => exact pe_int
  refine ⟨_, rfl, .inr (.inl ⟨a, _, 0, .str x, rfl, rfl, ha.sq, at0, ?_⟩)⟩
  rcases ow with ⟨rfl, rfl⟩ | ⟨rfl, rfl⟩ | ⟨rfl, rfl⟩ | ⟨rfl, m, hm, rfl⟩ | ⟨rfl, hm⟩
  · refine ⟨_, rfl, _, rfl, _, rfl, ?_⟩
    refine ite2 (fun _ => ?_) (fun c => absurd (decide_eq_true (show ("whole" : Str) ∈ dSK.map (·.1) by decide +kernel)) c)
    exact ⟨_, rfl, rfl, _, _, rfl, (show KTD.datumAt ("whole" : Str) dSK = some (Dk.tup [Dk.str "whole"]) by kernel_rfl), fun v hv => q v H (Old.refl _) (hv H)⟩
  · refine ⟨_, rfl, _, rfl, _, rfl, ?_⟩
    refine ite2 (fun _ => ?_) (fun c => absurd (decide_eq_true (show ("given" : Str) ∈ dSK.map (·.1) by decide +kernel)) c)
    exact ⟨_, rfl, rfl, _, _, rfl, (show KTD.datumAt ("given" : Str) dSK = some (Dk.tup [Dk.str "whole"]) by kernel_rfl), fun v hv => q v H (Old.refl _) (hv H)⟩
  · refine ⟨_, rfl, _, rfl, _, rfl, ?_⟩
    refine ite2 (fun _ => ?_) (fun c => absurd (decide_eq_true (show ("truth" : Str) ∈ dSK.map (·.1) by decide +kernel)) c)
    exact ⟨_, rfl, rfl, _, _, rfl, (show KTD.datumAt ("truth" : Str) dSK = some (Dk.tup [Dk.str "truth"]) by kernel_rfl), fun v hv => q v H (Old.refl _) (hv H)⟩
  · refine ⟨_, rfl, _, rfl, _, rfl, ?_⟩
    refine ite2 (fun c => absurd (of_decide_eq_true c) (by decide +kernel)) (fun _ => ?_)
    refine ⟨_, rfl, _, rfl, _, rfl, ?_⟩
    refine ite2 (fun c => absurd (of_decide_eq_true c) (by decide +kernel)) (fun _ => ?_)
    iterate 6 (refine ⟨_, rfl, .inr (.inl ⟨rfl, _, rfl, ?_⟩)⟩; rw [dec_s]; refine ite2 (fun c => absurd (of_decide_eq_true c) (by decide +kernel)) (fun _ => ?_))
    refine ⟨_, rfl, .inr (.inl ⟨rfl, _, rfl, ?_⟩)⟩; rw [dec_s]
    refine ite2 (fun _ => ?_) (fun c => absurd (decide_eq_true rfl) c)
    rw [nf_row] at lf
    obtain rfl : uf = [] := List.length_eq_zero_iff.mp (l1.symm.trans lf)
    obtain ⟨mr, rfl⟩ : ∃ mr, mid = m :: mr := by
      cases mid with
      | nil => exact nomatch hm
      | cons y r => exact ⟨r, by rw [Option.some.inj hm]⟩
    obtain ⟨mv, ur, rfl, rmv, _⟩ := rm
    exact ⟨_, rfl, .inr (.inl ⟨a, _, 2, mv, rfl, rfl, ha.sq, at2, by show 2 ≤ sizeLine; decide, fun r hr0 => q _ _ (Old.new hr0) (RK.tup (.inl upd_same) (.cons (.s _) (.cons (rmv.mono (Old.new hr0).tm) .nil)))⟩)⟩
  · refine ⟨_, rfl, _, rfl, _, rfl, ?_⟩
    refine ite2 (fun c => absurd (of_decide_eq_true c) (by decide +kernel)) (fun _ => ?_)
    refine ⟨_, rfl, _, rfl, _, rfl, ?_⟩
    refine ite2 (fun c => absurd (of_decide_eq_true c) (by decide +kernel)) (fun _ => ?_)
    iterate 8 (refine ⟨_, rfl, .inr (.inl ⟨rfl, _, rfl, ?_⟩)⟩; rw [dec_s]; refine ite2 (fun c => absurd (of_decide_eq_true c) (by decide +kernel)) (fun _ => ?_))
    rw [nf_as] at lf
    obtain rfl : uf = [] := List.length_eq_zero_iff.mp (l1.symm.trans lf)
    obtain ⟨mr, rfl⟩ : ∃ mr, mid = d :: mr := by
      cases mid with
      | nil => exact nomatch hm
      | cons y r => exact ⟨r, by rw [Option.some.inj hm]⟩
    obtain ⟨mv, ur, rfl, rmv, _⟩ := rm
    exact ⟨_, rfl, .inr (.inl ⟨a, _, 2, mv, rfl, rfl, ha.sq, at2, q _ _ (Old.refl _) rmv⟩)⟩
/-! ### wanted_kind -/
noncomputable abbrev sWa : Stmt := top 45
noncomputable def spWa (K : PySem.W.Frag) : Sp := fun vs H Q _ => ∃ (v fv : V) (t : Tn) (d : Dk), vs = [v, fv] ∧ RK K H t.d v ∧ t.wf ∧ t.w = "as" ∧ ownD t = some d ∧ ∀ v' H', Old H H' → RK K H' d v' → Q v' H'
theorem scWa : FnScope ["tree", "found", "word"] ["tree", "found"] (defScope sWa) := ⟨rfl, rfl, rfl, by decide +kernel, rfl, by decide +kernel, by decide +kernel⟩
theorem ok_Wa {n : Nat} (F : Fun K "wanted_kind" "wanted_kind" sWa f fd) (T : Tx mg) : FnOk P w K mg base CX0 (n + 1) f fd ["tree", "found"] (spWa K) := by
  refine F.ok scWa (fun vs H Q E h => ?_) (fun cdv A outer s H vs Q E hr h => ?_)
  · obtain ⟨v, fv, t, d, rfl, _⟩ := h
    rfl
  obtain ⟨v, fv, t, d, rfl, rv, wt, ea, ow, q⟩ := h
  have nd := scWa.nd
  obtain ⟨x, p, fr, mid, ps⟩ := t
  obtain ⟨⟨hx, lf, lm, _⟩, _⟩ := wt
  obtain ⟨a, uf, um, up, rfl, ha, rf, rm, rp⟩ := RK.node rv
  have l1 := rf.length
  obtain rfl : x = "as" := ea
  have hm : mid.head? = some d := by
    rcases own_words ow with ⟨c, _⟩ | ⟨c, _⟩ | ⟨c, _⟩ | ⟨c, _⟩ | ⟨_, h⟩
    · exact absurd c (by decide +kernel)
    · exact absurd c (by decide +kernel)
    · exact absurd c (by decide +kernel)
    · exact absurd c (by decide +kernel)
    · exact h
  rw [nf_as] at lf
  obtain rfl : uf = [] := List.length_eq_zero_iff.mp (l1.symm.trans lf)
  obtain ⟨mr, rfl⟩ : ∃ mr, mid = d :: mr := by
    cases mid with
    | nil => exact nomatch hm
    | cons y r => exact ⟨r, by rw [Option.some.inj hm]⟩
  obtain ⟨mv, ur, rfl, rmv, _⟩ := rm
  refine' ⟨_, ?n0, ?Z⟩
  case' n0 => refine' pss_cons ?n1 ?n2
  case' n1 => refine' ps_setX (i := 2) nd rfl (Or.inl rfl) rfl (by first | exact .inl rfl | exact .inr rfl) ?n3
  case' n3 => refine' pe_ix ix_seq ?n4 ?n5 (fun _ _ => rfl)
  case n4 => exact pv 0
  case n5 => exact pe_int
  case' n2 => refine' pss_cons ?n6 ?n7
  case' n6 => refine' ps_if ?n8 pss_never ?n9
  case' n8 => refine' PW.pt ?n10
  case' n10 => refine' pw_or ?n11 ?n12
  case' n11 => refine' pt_cmpR (op_eqG hr) ?n13 ?n14 (nomark _)
  case n13 => exact pv 2
  case n14 => exact pe_str
  case' n12 => refine' pw_or1 ?n15
  case' n15 => refine' PW.pt ?n16
  case' n16 => refine' pw_and ?n17 ?n18
  case' n17 => refine' pt_cmpR (op_eqG hr) ?n19 ?n20 (nomark _)
  case n19 => exact pv 2
  case n20 => exact pe_str
  case' n18 => refine' pw_and1 ?n21
  case' n21 => refine' pt_cmpR (op_eqG hr) ?n22 ?n23 (nomark _)
  case' n22 => refine' pe_callB (call_lenA) rfl T.len boot_len ?n24
  case' n24 => refine' pa ?n25 ?n26
  case n25 => exact pv 1
  case n26 => exact pa_nil
  case n23 => exact pe_int
  case n9 => exact pss_nil
  case' n7 => refine' pss_cons ?n27 ?n28
  case' n27 => refine' ps_if ?n29 pss_never ?n30
  case' n29 => refine' PW.pt ?n31
  case' n31 => refine' pw_and ?n32 ?n33
  case' n32 => refine' pt_cmpR (op_eqG hr) ?n34 ?n35 (nomark _)
  case n34 => exact pv 2
  case n35 => exact pe_str
  case' n33 => refine' pw_and1 ?n36
  case' n36 => refine' pt_cmpR (op_eqG hr) ?n37 ?n38 (nomark _)
  case' n37 => refine' pe_callB (call_lenA) rfl T.len boot_len ?n39
  case' n39 => refine' pa ?n40 ?n41
  case n40 => exact pv 1
  case n41 => exact pa_nil
  case n38 => exact pe_int
  case n30 => exact pss_nil
  case' n28 => refine' pss_cons ?n42 pss_never
  case' n42 => refine' ps_if ?n43 ?n44 ?n45
  case' n43 => refine' pt_cmpR op_in_seq ?n46 ?n47 rfl
  case n46 => exact pv 2
  case' n47 => refine' pe_tup ?n48
  case' n48 => refine' pa ?n49 ?n50
  case n49 => exact pe_str
  case' n50 => refine' pa ?n51 ?n52
  case n51 => exact pe_str
  case n52 => exact pa_nil
  case' n44 => refine' pss_one ?n53
  case' n53 => refine' ps_ret ?n54
  case' n54 => refine' pe_ix ix_seq ?n55 ?n56 (fun _ _ => rfl)
  case n55 => exact pv 0
  case n56 => exact pe_int
  case n45 => exact pss_nil
  refine ⟨_, rfl, .inr (.inl ⟨a, _, 0, .str "as", rfl, rfl, ha.sq, at0, ?_⟩)⟩
  refine ⟨_, rfl, .inr (.inl ⟨rfl, _, rfl, ?_⟩)⟩; rw [dec_s]
  refine ite2 (fun c => absurd (of_decide_eq_true c) (by decide +kernel)) (fun _ => ?_)
  refine ⟨_, rfl, .inr (.inl ⟨rfl, _, rfl, ?_⟩)⟩; rw [dec_s]
  refine ite2 (fun c => absurd (of_decide_eq_true c) (by decide +kernel)) (fun _ => ?_)
  refine ⟨_, rfl, .inr (.inl ⟨rfl, _, rfl, ?_⟩)⟩; rw [dec_s]
  refine ite2 (fun c => absurd (of_decide_eq_true c) (by decide +kernel)) (fun _ => ?_)
  refine iteF ?_
  refine ⟨_, rfl, by show 2 ≤ sizeLine; decide, fun r hr0 => ⟨r, _, rfl, .inr (SqT.of upd_same), rfl, rfl, ?_⟩⟩
  refine ⟨_, rfl, ?_⟩
  refine ite2 (fun _ => ?_) (fun c => absurd (show _ = true by decide +kernel) c)
  have o := Old.new (o := .tup [.str "row", .str "as"]) hr0
  exact ⟨_, rfl, .inr (.inl ⟨a, _, 2, mv, rfl, rfl, (ha.mono o.tm).sq, at2, q _ _ o (rmv.mono o.tm)⟩)⟩
end
end L2.K31

end
section
set_option Elab.async false
set_option linter.all false
set_option maxRecDepth 100000
set_option maxHeartbeats 8000000
namespace L2.K31
open PySem PySem.Spec PyProof.Rows L2.Bw L2.Bk L2.Ex
/-- a looker and its two dicts -/
structure LkAt (C : Addr) (H : Hp) (L kd wd : Addr) (ks ws : List (Key × V)) : Prop where
  hi : ∃ dx, H L = some (.ins C dx [("kinds", .ref kd), ("wanted", .ref wd)])
  hk : H kd = some (.dK ks)
  hw : H wd = some (.dK ws)
  hn : kd ≠ wd
theorem lkW {a b : V} : ([("kinds", a), ("wanted", b)] : List (Str × V)).lookup ("wanted" : Str) = some b := by kernel_rfl
theorem lkK {a b : V} : ([("kinds", a), ("wanted", b)] : List (Str × V)).lookup ("kinds" : Str) = some a := by kernel_rfl
theorem lkN {a b : V} : ∀ m ∈ (["want", "look", "hold"] : List Str), ([("kinds", a), ("wanted", b)] : List (Str × V)).lookup m = none := by
  intro m hm
  rcases List.mem_cons.mp hm with rfl | hm
  · kernel_rfl
  rcases List.mem_cons.mp hm with rfl | hm
  · kernel_rfl
  rcases List.mem_cons.mp hm with rfl | hm
  · kernel_rfl
  · exact nomatch hm
/-- all but two dicts stays -/
noncomputable def Out (kd wd : Addr) (H H' : Hp) : Prop := ∀ b o, b ≠ kd → b ≠ wd → H b = some o → H' b = some o
theorem Out.trans {kd wd : Addr} {H H1 H2 : Hp} (h : Out kd wd H H1) (g : Out kd wd H1 H2) : Out kd wd H H2 := fun b o n1 n2 e => g b o n1 n2 (h b o n1 n2 e)
theorem Out.old {kd wd : Addr} {H H1 : Hp} (h : Old H H1) : Out kd wd H H1 := fun b o _ _ e => h b o e
theorem Out.tm {C L kd wd : Addr} {H H1 : Hp} {ks ws : List (Key × V)} (l : LkAt C H L kd wd ks ws) (h : Out kd wd H H1) : Tm H H1 := fun a xs e => h a _ (fun z => by subst z; rw [l.hk] at e; cases e) (fun z => by subst z; rw [l.hw] at e; cases e) e
theorem Out.putW {kd wd : Addr} {H : Hp} {o : HO} : Out kd wd H (upd H wd o) := fun b o n1 n2 e => by rw [upd_ne n2]; exact e
theorem Out.putK {kd wd : Addr} {H : Hp} {o : HO} : Out kd wd H (upd H kd o) := fun b o n1 n2 e => by rw [upd_ne n1]; exact e
theorem LkAt.old {C L kd wd : Addr} {H H1 : Hp} {ks ws : List (Key × V)} (l : LkAt C H L kd wd ks ws) (h : Old H H1) : LkAt C H1 L kd wd ks ws := ⟨let ⟨dx, e⟩ := l.hi; ⟨dx, h _ _ e⟩, h _ _ l.hk, h _ _ l.hw, l.hn⟩
theorem LkAt.nk {C L kd wd : Addr} {H : Hp} {ks ws : List (Key × V)} (l : LkAt C H L kd wd ks ws) : L ≠ kd := fun z => by subst z; obtain ⟨dx, e⟩ := l.hi; rw [l.hk] at e; cases e
theorem LkAt.nw {C L kd wd : Addr} {H : Hp} {ks ws : List (Key × V)} (l : LkAt C H L kd wd ks ws) : L ≠ wd := fun z => by subst z; obtain ⟨dx, e⟩ := l.hi; rw [l.hw] at e; cases e
theorem LkAt.putW {C L kd wd : Addr} {H : Hp} {ks ws ws' : List (Key × V)} (l : LkAt C H L kd wd ks ws) : LkAt C (upd H wd (.dK ws')) L kd wd ks ws' := ⟨let ⟨dx, e⟩ := l.hi; ⟨dx, by rw [upd_ne l.nw]; exact e⟩, by rw [upd_ne l.hn]; exact l.hk, upd_same, l.hn⟩
theorem LkAt.putK {C L kd wd : Addr} {H : Hp} {ks ws ks' : List (Key × V)} (l : LkAt C H L kd wd ks ws) : LkAt C (upd H kd (.dK ks')) L kd wd ks' ws := ⟨let ⟨dx, e⟩ := l.hi; ⟨dx, by rw [upd_ne l.nk]; exact e⟩, upd_same, by rw [upd_ne (Ne.symm l.hn)]; exact l.hw, l.hn⟩
section
variable {P : Program} {w : World} {K : PySem.W.Frag} {mg : Str → Option Value} {base : Heap} {f : Addr} {fd : FuncData}
/-! ### want -/
noncomputable abbrev sWant : Stmt := inCls (top 41) 4
noncomputable def spWant (K : PySem.W.Frag) (C : Addr) : Sp := fun vs H Q _ => ∃ (L kd wd : Addr) (ks ws : List (Key × V)) (nv kv : V) (n : Tn), vs = [.ref L, nv, kv] ∧ LkAt C H L kd wd ks ws ∧ ws.length < 100 ∧ RK K H n.d nv ∧ Q .non (upd H wd (.dK (putK ws (.inl n.p) kv)))
theorem scWant : FnScope ["self", "node", "kind"] ["self", "node", "kind"] (defScope sWant) := ⟨rfl, rfl, rfl, by decide +kernel, rfl, by decide +kernel, by decide +kernel⟩
theorem ok_Want {m : Nat} {C : Addr} (F : Fun K "want" "Looker.want" sWant f fd) (cl_Looker : Cls K C) (a_wanted : NoAttr K C "wanted") : FnOk P w K mg base CX0 (m + 1) f fd ["self", "node", "kind"] (spWant K C) := by
  refine F.ok scWant (fun vs H Q E h => ?_) (fun cdv A outer s H vs Q E hr h => ?_)
  · obtain ⟨L, kd, wd, ks, ws, nv, kv, n, rfl, _⟩ := h
    rfl
  obtain ⟨L, kd, wd, ks, ws, nv, kv, n, rfl, lk, few, rn, q⟩ := h
  have nd := scWant.nd
  obtain ⟨x, p, fr, mid, ps⟩ := n
  obtain ⟨a, uf, um, up, rfl, ha, _⟩ := RK.node rn
  obtain ⟨dx, hL⟩ := lk.hi
  refine' ⟨_, ?n0, ?Z⟩
  case' n0 => refine' pss_one ?n1
  case' n1 => refine' ps_dput hr.u1 ?n2 ?n3 ?n4 rfl
  case' n2 => refine' pe_fld ?n5 rfl
  case n5 => exact pv 0
  case' n3 => refine' pe_ix ix_seq ?n6 ?n7 (fun _ _ => rfl)
  case n6 => exact pv 1
  case n7 => exact pe_int
  case n4 => exact pv 2
  refine ⟨_, rfl, _, rfl, L, C, dx, _, .ref wd, rfl, hL, cl_Looker, a_wanted, lkW, _, rfl, .inr (.inl ⟨a, _, 1, .int p, rfl, rfl, ha.sq, at1, wd, _, rfl, DPut.k (k := .inl p) lk.hw (by exact Nat.lt_trans few (by decide)), q⟩)⟩
/-! ### __init__ -/
noncomputable abbrev sLI : Stmt := inCls (top 41) 0
noncomputable def spLI (C : Addr) : Sp := fun vs H Q _ => ∃ (L dx : Addr), vs = [.ref L] ∧ H L = some (.ins C dx []) ∧ ∀ kd wd H', H kd = none → H wd = none → (∀ b o, b ≠ L → H b = some o → H' b = some o) → LkAt C H' L kd wd [] [] → Q .non H'
theorem scLI : FnScope ["self"] ["self"] (defScope sLI) := ⟨rfl, rfl, rfl, by decide +kernel, rfl, by decide +kernel, by decide +kernel⟩
theorem ok_LI {m : Nat} {C : Addr} (F : Fun K "__init__" "Looker.__init__" sLI f fd) (cl_Looker : Cls K C) (a_kinds : NoAttr K C "kinds") (a_wanted : NoAttr K C "wanted") : FnOk P w K mg base CX0 (m + 1) f fd ["self"] (spLI C) := by
  refine F.ok scLI (fun vs H Q E h => ?_) (fun cdv A outer s H vs Q E hr h => ?_)
  · obtain ⟨L, dx, rfl, _⟩ := h
    rfl
  obtain ⟨L, dx, rfl, hL, q⟩ := h
  have nd := scLI.nd
  refine' ⟨_, ?n0, ?Z⟩
  case' n0 => refine' pss_cons ?n1 ?n2
  case' n1 => refine' ps_fld ?n3 pe_dnewK rfl
  case n3 => exact pv 0
  case' n2 => refine' pss_one ?n4
  case' n4 => refine' ps_fld ?n5 pe_dnewK rfl
  case n5 => exact pv 0
  refine fun kd hk => ?_
  have nk : L ≠ kd := ne_of_none hL hk
  refine ⟨_, rfl, L, C, dx, [], rfl, by rw [upd_ne nk]; exact hL, cl_Looker, a_kinds, by decide, ?_⟩
  refine fun wd hw => ?_
  have nw : wd ≠ L := fun z => by subst z; rw [upd_same] at hw; cases hw
  have hw1 : upd H kd (.dK []) wd = none := by rw [upd_ne nw] at hw; exact hw
  have nkw : wd ≠ kd := fun z => by subst z; rw [upd_same] at hw1; cases hw1
  have hw0 : H wd = none := by rw [upd_ne nkw] at hw1; exact hw1
  refine ⟨_, rfl, L, C, dx, [("kinds", .ref kd)], rfl, by rw [upd_ne (Ne.symm nw), upd_same]; rfl, cl_Looker, a_wanted, by show 1 < 1000; decide, ?_⟩
  have e : putF ("wanted" : Str) (V.ref wd) ([("kinds", V.ref kd)] : List (Str × V)) = ([("kinds", V.ref kd), ("wanted", V.ref wd)] : List (Str × V)) := by kernel_rfl
  rw [e]
  refine q kd wd _ hk hw0 (fun b o nb e => ?_) ⟨⟨dx, upd_same⟩, ?_, ?_, Ne.symm nkw⟩
  · rw [upd_ne nb, upd_ne (ne_of_none e hw0), upd_ne nb, upd_ne (ne_of_none e hk)]
    exact e
  · rw [upd_ne (Ne.symm nk), upd_ne (Ne.symm nkw), upd_ne (Ne.symm nk), upd_same]
  · rw [upd_ne nw, upd_same]
end
end L2.K31

end
section
set_option Elab.async false
set_option linter.all false
set_option maxRecDepth 100000
set_option maxHeartbeats 8000000
namespace L2.K31
open PySem PySem.Spec PyProof.Rows L2.Bw L2.Bk L2.Ex
section
variable {P : Program} {w : World} {K : PySem.W.Frag} {mg : Str → Option Value} {base : Heap} {f : Addr} {fd : FuncData}
/-! ### hold -/
noncomputable abbrev sHold : Stmt := inCls (top 41) 2
noncomputable def spHold (K : PySem.W.Frag) (C Cp : Addr) : Sp := fun vs H Q E => ∃ (L kd wd fa : Addr) (ks ws : List (Key × V)) (tv nv kv : V) (t n : Tn) (k wk : Kn), vs = [.ref L, tv, nv, .ref fa] ∧ LkAt C H L kd wd ks ws ∧ ws.length < 100 ∧
  RK K H t.d tv ∧ t.wf ∧ t.w = "as" ∧ ownD t = some wk.d ∧ RK K H n.d nv ∧ n.wf ∧ H fa = some (.lst [kv]) ∧ RK K H k.d kv ∧ k.wf ∧ wk.wf ∧ k.dep ≤ 7 ∧
  (k.part wk = none → ∀ wv H', Old H H' → RK K H' wk.d wv → Q .non (upd H' wd (.dK (putK ws (.inl n.p) wv)))) ∧
  (∀ way, k.part wk = some way → ∀ d wv yv H', Old H H' → RK K H' wk.d wv → RK K H' (.tup (way.map Dk.str)) yv → H' d = some (DO d (ptd n.p kv t.p wv yv)) → E (.ref Cp) (some d) H')
theorem scHold : FnScope ["self", "tree", "node", "found", "kind"] ["self", "tree", "node", "found"] (defScope sHold) := ⟨rfl, rfl, rfl, by decide +kernel, rfl, by decide +kernel, by decide +kernel⟩
theorem ok_Hold {m : Nat} {C Cp : Addr} (F : Fun K "hold" "Looker.hold" sHold f fd) (T : Tx mg) (cl_Looker : Cls K C) (M_want : CalM P w K mg base C "want" ["self", "node", "kind"] 1 (spWant K C)) (c_wanted_kind : Cal P w K mg base "wanted_kind" ["tree", "found"] 1 (spWa K))
    (c_need_same : CalX P w K mg base "need_same" ["node", "kind", "against", "wanted"] 10 (spSm K Cp)) : FnOk P w K mg base (CXF P w) (m + 11) f fd ["self", "tree", "node", "found"] (spHold K C Cp) := by
  refine fun_okX F scHold (fun vs H Q E h => ?_) (fun cdv A outer s H vs Q E hr h => ?_)
  · obtain ⟨L, kd, wd, fa, ks, ws, tv, nv, kv, t, n, k, wk, rfl, _⟩ := h
    rfl
  obtain ⟨L, kd, wd, fa, ks, ws, tv, nv, kv, t, n, k, wk, rfl, lk, few, rt, wt, ea, ow, rn, wn, hf, rk, k1, k2, dk, qn, qe⟩ := h
  have nd := scHold.nd
  obtain ⟨a, uf, um, up, rfl, ha, _⟩ := RK.node (w := t.w) (p := t.p) (fr := t.fr) (mid := tmid t) (ps := t.ps) (show RK K H (Tn.mk t.w t.p t.fr (tmid t) t.ps).d tv by cases t; exact rt)
  refine' ⟨_, ?n0, ?Z⟩
  case' n0 => refine' pss_one ?n1
  case' n1 => refine' ps_if ?n2 pss_never ?n3
  case' n2 => refine' PW.pt ?n4
  case' n4 => refine' pw_and ?n5 ?n6
  case' n5 => refine' pt_cmpR (op_eqG hr) ?n7 ?n8 (nomark _)
  case' n7 => refine' pe_ix ix_seq ?n9 ?n10 (fun _ _ => rfl)
  case n9 => exact pv 1
  case n10 => exact pe_int
  case n8 => exact pe_str
  case' n6 => refine' pw_and1 ?n11
  case' n11 => refine' pt_cmpR (op_eqG hr) ?n12 ?n13 (nomark _)
  case' n12 => refine' pe_callB (call_lenA) rfl T.len boot_len ?n14
  case' n14 => refine' pa ?n15 ?n16
  case n15 => exact pv 3
  case n16 => exact pa_nil
  case n13 => exact pe_int
  case' n3 => refine' pss_cons ?n17 ?n18
  case' n17 => refine' ps_setX (i := 4) nd rfl (Or.inl rfl) rfl (by first | exact .inl rfl | exact .inr rfl) ?n19
  case' n19 => refine' pe_cal c_wanted_kind hr ?n20
  case' n20 => refine' pa ?n21 ?n22
  case n21 => exact pv 1
  case' n22 => refine' pa ?n23 ?n24
  case n23 => exact pv 3
  case n24 => exact pa_nil
  case' n18 => refine' pss_cons ?n25 ?n26
  case' n25 => refine' ps_expr ?n27
  case' n27 => refine' pe_calX c_need_same hr ?n28
  case' n28 => refine' pa ?n29 ?n30
  case n29 => exact pv 2
  case' n30 => refine' pa ?n31 ?n32
  case' n31 => refine' pe_ix ix_seq ?n33 ?n34 (fun _ _ => rfl)
  case n33 => exact pv 3
  case' n34 => refine' pe_un un_neg ?n35
  case n35 => exact pe_int
  case' n32 => refine' pa ?n36 ?n37
  case n36 => exact pv 1
  case' n37 => refine' pa ?n38 ?n39
  case n38 => exact pv 4
  case n39 => exact pa_nil
  case' n26 => refine' pss_one ?n40
  case' n40 => refine' ps_expr ?n41
  case' n41 => refine' pe_mth M_want cl_Looker hr ?n42 ?n43
  case n42 => exact pv 0
  case' n43 => refine' pa ?n44 ?n45
  case n44 => exact pv 2
  case' n45 => refine' pa ?n46 ?n47
  case n46 => exact pv 4
  case n47 => exact pa_nil
  refine ⟨_, rfl, .inr (.inl ⟨a, _, 0, .str t.w, rfl, rfl, ha.sq, at0, .inr (.inl ⟨rfl, _, rfl, ?_⟩)⟩)⟩
  rw [dec_s, ea]
  refine ite2 (fun c => absurd (of_decide_eq_true c) (by decide +kernel)) (fun _ => ?_)
  refine iteF ?_
  refine ⟨_, rfl, _, rfl, .ref a, .ref fa, t, wk.d, rfl, rt, wt, ea, ow, fun wv H1 o1 rw1 => ?_⟩
  refine ⟨nv, rfl, _, rfl, _, rfl, .inl ⟨fa, [kv], -1, kv, rfl, rfl, SqL.of (o1 _ _ hf), rfl, _, rfl, _, rfl, ?_⟩⟩
  refine ⟨nv, kv, .ref a, wv, n, t, k, wk, rfl, rn.mono o1.tm, wn, rt.mono o1.tm, wt, rk.mono o1.tm, rw1, k1, k2, dk, fun e H2 o2 => ?_, fun way e d yv H2 o2 ry hd => ?_⟩
  · have lk2 := (lk.old o1).old o2
    obtain ⟨dx, hi⟩ := lk2.hi
    refine ⟨_, rfl, L, dx, _, rfl, hi, lkN _ (by decide +kernel), _, rfl, _, rfl, L, kd, wd, ks, ws, nv, wv, n, rfl, lk2, few, (rn.mono o1.tm).mono o2.tm, ?_⟩
    exact qn e wv H2 (o1.trans o2) (rw1.mono o2.tm)
  · exact qe way e d wv yv H2 (o1.trans o2) (rw1.mono o2.tm) ry hd
end
end L2.K31

end
section
set_option Elab.async false
set_option linter.all false
set_option maxRecDepth 100000
set_option maxHeartbeats 8000000
namespace L2.K31
open PySem PySem.Spec PyProof.Rows L2.Bw L2.Bk L2.Ex
/-- a node whose kinds are shallow, and its own -/
structure Nd (t : Tn) (ms : List Kn) (k : Kn) : Prop where
  wf : t.wf
  nl : t.w ≠ "look"
  mid : tmid t = Kn.ds ms
  low : ∀ z ∈ ms, z.ok ∧ z.dep ≤ 4
  own : ownD t = some k.d
  ok : k.ok
  dep : k.dep ≤ 4
  kw : k.wf
section
variable {P : Program} {w : World} {K : PySem.W.Frag} {mg : Str → Option Value} {base : Heap} {f : Addr} {fd : FuncData}
theorem put_len (kvs : List (Key × V)) (k : Key) (v : V) : (putK kvs k v).length ≤ kvs.length + 1 := by
  unfold putK
  split
  · rw [List.length_map]; omega
  · rw [List.length_append]; exact Nat.le_refl _
theorem LkAt.upd {C L kd wd b : Addr} {H : Hp} {ks ws : List (Key × V)} {o : HO} (l : LkAt C H L kd wd ks ws) (n1 : L ≠ b) (n2 : kd ≠ b) (n3 : wd ≠ b) : LkAt C (upd H b o) L kd wd ks ws :=
  ⟨let ⟨dx, e⟩ := l.hi; ⟨dx, by rw [upd_ne n1]; exact e⟩, by rw [upd_ne n2]; exact l.hk, by rw [upd_ne n3]; exact l.hw, l.hn⟩
theorem kds_get {ks : List Kn} {us : List V} {H : Hp} {i : Nat} {v : V} (h : RKs K H (Kn.ds ks) us) (e : us[i]? = some v) : ∃ k ∈ ks, RK K H k.d v := by
  obtain ⟨d, ed, rd⟩ := h.getV e
  have hi : i < ks.length := by
    have := (List.getElem?_eq_some_iff.mp ed).1
    rw [ds_length] at this
    exact this
  rw [ds_get hi] at ed
  cases ed
  exact ⟨ks[i], List.getElem_mem hi, rd⟩
/-! ### look -/
noncomputable abbrev sLook : Stmt := inCls (top 41) 1
noncomputable def spLook (K : PySem.W.Frag) (C Cp : Addr) (m : Nat) : Sp := fun vs H Q E => ∃ (L kd wd b : Addr) (ks ws kvs : List (Key × V)) (tv : V) (t : Tn) (ms : List Kn) (k : Kn), vs = [.ref L, tv, .ref b] ∧ LkAt C H L kd wd ks ws ∧ ks.length < 90 ∧ ws.length < 90 ∧ RK K H t.d tv ∧ Nd t ms k ∧ H b = some (.dK kvs) ∧ t.dep ≤ m ∧
  ((t.ps = [] ∧ ∀ kv H1, Old H H1 → RK K H1 k.d kv → Q kv (upd H1 kd (.dK (putK ks (.inl t.p) kv)))) ∨
   (t.w = "as" ∧ ∃ n ms' k', t.ps = [n] ∧ n.ps = [] ∧ Nd n ms' k' ∧
    (k'.part k = none → ∀ kv kv' wv H2, Out kd wd H H2 → RK K H2 k.d kv → RK K H2 k'.d kv' → RK K H2 k.d wv → H2 kd = some (.dK (putK (putK ks (.inl n.p) kv') (.inl t.p) kv)) → H2 wd = some (.dK (putK ws (.inl n.p) wv)) → Q kv H2) ∧
    (∀ way, k'.part k = some way → ∀ d kv' wv yv H', Out kd wd H H' → RK K H' k.d wv → RK K H' k'.d kv' → RK K H' (.tup (way.map Dk.str)) yv → H' d = some (DO d (ptd n.p kv' t.p wv yv)) → E (.ref Cp) (some d) H')))
theorem scLook : FnScope ["self", "tree", "bound", "kind", "found", "number", "node", "own"] ["self", "tree", "bound"] (defScope sLook) := ⟨rfl, rfl, rfl, by decide +kernel, rfl, by decide +kernel, by decide +kernel⟩
theorem ok_Look {m : Nat} {C Cp : Addr} (F : Fun K "look" "Looker.look" sLook f fd) (T : Tx mg) (cl_Looker : Cls K C) (a_kinds : NoAttr K C "kinds") (M_hold : CalMX P w K mg base C "hold" ["self", "tree", "node", "found"] 11 (spHold K C Cp)) (M_look : CalMX P w K mg base C "look" ["self", "tree", "bound"] (m + 11) (spLook K C Cp m))
    (c_written : Cal P w K mg base "written" ["tree"] 3 (spWr K)) (c_need_shallow : Cal P w K mg base "need_shallow" ["tree", "kind"] 11 (spN0 K)) (c_parts : Cal P w K mg base "parts" ["tree"] 3 (spParts K)) (c_bound_within : Cal P w K mg base "bound_within" ["tree", "number", "found", "bound"] 1 (spBW K)) (c_own_kind : Cal P w K mg base "own_kind" ["tree", "found", "bound"] 1 (spOw K)) :
    FnOk P w K mg base (CXF P w) (m + 12) f fd ["self", "tree", "bound"] (spLook K C Cp (m + 1)) := by
  refine fun_okX F scLook (fun vs H Q E h => ?_) (fun cdv A outer s H vs Q E hr h => ?_)
  · obtain ⟨L, kd, wd, b, ks, ws, kvs, tv, t, ms, k, rfl, _⟩ := h
    rfl
  obtain ⟨L, kd, wd, b, ks, ws, kvs, tv, t, ms, k, rfl, lk, fk, fw, rt, N, hb, hd, alt⟩ := h
  have nd := scLook.nd
  obtain ⟨a, uf, um, up, rfl, ha, _⟩ := RK.node (w := t.w) (p := t.p) (fr := t.fr) (mid := tmid t) (ps := t.ps) (show RK K H (Tn.mk t.w t.p t.fr (tmid t) t.ps).d tv by cases t; exact rt)
  refine' ⟨_, ?n0, ?Z⟩
  case' n0 => refine' pss_cons ?n1 ?n2
  case' n1 => refine' ps_forX rfl ?n3 ?n4 ?n5
  case' n3 => refine' pi_seq ?n6
  case' n6 => refine' pe_cal c_written hr ?n7
  case' n7 => refine' pa ?n8 ?n9
  case n8 => exact pv 1
  case n9 => exact pa_nil
  case n4 => exact pg_name (i := 3) nd rfl (Or.inl rfl)
  case' n5 => refine' pss_one ?n10
  case' n10 => refine' ps_expr ?n11
  case' n11 => refine' pe_cal c_need_shallow hr ?n12
  case' n12 => refine' pa ?n13 ?n14
  case n13 => exact pv 1
  case' n14 => refine' pa ?n15 ?n16
  case n15 => exact pv 3
  case n16 => exact pa_nil
  case' n2 => refine' pss_cons ?n17 ?n18
  case' n17 => refine' ps_setX (i := 4) nd rfl (Or.inl rfl) rfl (by first | exact .inl rfl | exact .inr rfl) ?n19
  case' n19 => refine' pe_lst ?n20
  case n20 => exact pa_nil
  case' n18 => refine' pss_cons ?n21 ?n22
  case' n21 => refine' ps_forX rfl ?n23 ?n24 ?n25
  case' n23 => refine' pi_enumerate rfl T.enumerate ?n26
  case' n26 => refine' pa ?n27 ?n28
  case' n27 => refine' pe_cal c_parts hr ?n29
  case' n29 => refine' pa ?n30 ?n31
  case n30 => exact pv 1
  case n31 => exact pa_nil
  case n28 => exact pa_nil
  case' n24 => refine' pg_tup rfl ?n32
  case' n32 => refine' pgs_cons ?n33 ?n34
  case n33 => exact pg_name (i := 5) nd rfl (Or.inl rfl)
  case' n34 => refine' pgs_cons ?n35 ?n36
  case n35 => exact pg_name (i := 6) nd rfl (Or.inl rfl)
  case n36 => exact pgs_nil
  case' n25 => refine' pss_cons ?n37 ?n38
  case' n37 => refine' ps_expr ?n39
  case' n39 => refine' pe_bm PySem.F.plainAttrs_list PySem.F.slot_list_append PySem.F.type_list_append mt_append ?n40 ?n41
  case n40 => exact pv 4
  case' n41 => refine' pa ?n42 ?n43
  case' n42 => refine' pe_mthX M_look cl_Looker hr ?n44 ?n45
  case n44 => exact pv 0
  case' n45 => refine' pa ?n46 ?n47
  case n46 => exact pv 6
  case' n47 => refine' pa ?n48 ?n49
  case' n48 => refine' pe_cal c_bound_within hr ?n50
  case' n50 => refine' pa ?n51 ?n52
  case n51 => exact pv 1
  case' n52 => refine' pa ?n53 ?n54
  case n53 => exact pv 5
  case' n54 => refine' pa ?n55 ?n56
  case n55 => exact pv 4
  case' n56 => refine' pa ?n57 ?n58
  case n57 => exact pv 2
  case n58 => exact pa_nil
  case n49 => exact pa_nil
  case n43 => exact pa_nil
  case' n38 => refine' pss_one ?n59
  case' n59 => refine' ps_expr ?n60
  case' n60 => refine' pe_mthX M_hold cl_Looker hr ?n61 ?n62
  case n61 => exact pv 0
  case' n62 => refine' pa ?n63 ?n64
  case n63 => exact pv 1
  case' n64 => refine' pa ?n65 ?n66
  case n65 => exact pv 6
  case' n66 => refine' pa ?n67 ?n68
  case n67 => exact pv 4
  case n68 => exact pa_nil
  case' n22 => refine' pss_cons ?n69 ?n70
  case' n69 => refine' ps_setX (i := 7) nd rfl (Or.inl rfl) rfl (by first | exact .inl rfl | exact .inr rfl) ?n71
  case' n71 => refine' pe_cal c_own_kind hr ?n72
  case' n72 => refine' pa ?n73 ?n74
  case n73 => exact pv 1
  case' n74 => refine' pa ?n75 ?n76
  case n75 => exact pv 4
  case' n76 => refine' pa ?n77 ?n78
  case n77 => exact pv 2
  case n78 => exact pa_nil
  case' n70 => refine' pss_cons ?n79 ?n80
  case' n79 => refine' ps_expr ?n81
  case' n81 => refine' pe_cal c_need_shallow hr ?n82
  case' n82 => refine' pa ?n83 ?n84
  case n83 => exact pv 1
  case' n84 => refine' pa ?n85 ?n86
  case n85 => exact pv 7
  case n86 => exact pa_nil
  case' n80 => refine' pss_cons ?n87 ?n88
  case' n87 => refine' ps_dput hr.u1 ?n89 ?n90 ?n91 rfl
  case' n89 => refine' pe_fld ?n92 rfl
  case n92 => exact pv 0
  case' n90 => refine' pe_ix ix_seq ?n93 ?n94 (fun _ _ => rfl)
  case n93 => exact pv 1
  case n94 => exact pe_int
  case n91 => exact pv 7
  case' n88 => refine' pss_one ?n95
  case' n95 => refine' ps_ret ?n96
  case n96 => exact pv 7
  refine ⟨_, rfl, .ref a, t, rfl, rt, N.wf, N.nl, fun r us H1 o1 hr0 hr1 rus => ⟨r, rfl, .inl ⟨⟨_, SqL.of hr1⟩, ?_⟩⟩⟩
  rw [N.mid] at rus
  refine for_by (n := us.length) (fun i σ H2 => ∃ (k3 : Option V), σ = [some (.ref L), some (.ref a), some (.ref b), k3, none, none, none, none] ∧ Old H1 H2) ⟨none, rfl, Old.refl _⟩ ?_ ?_ ?_ ?_
  · intro i σ H2 hi hv
    obtain ⟨k3, rfl, o2⟩ := hv
    exact ⟨_, _, SqL.of (o2 _ _ hr1), List.getElem?_eq_getElem hi⟩
  · intro σ H2 hv
    obtain ⟨k3, rfl, o2⟩ := hv
    exact ⟨_, SqL.of (o2 _ _ hr1), Nat.le_refl _⟩
  · intro i σ H2 hi hv y H3 hy
    obtain ⟨k3, rfl, o2⟩ := hv
    obtain ⟨e1, hyx⟩ := hy
    subst e1
    have ey := hyx _ (SqL.of (o2 _ _ hr1))
    obtain ⟨z, hz, rz⟩ := kds_get rus ey
    exact ⟨_, rfl, _, rfl, _, y, z, rfl, rz.mono o2.tm, (N.low z hz).1, (N.low z hz).2, fun H4 o4 => ⟨_, rfl, o2.trans o4⟩⟩
  intro σ H2 hv
  obtain ⟨k3, rfl, o2⟩ := hv
  refine ⟨by show 0 ≤ sizeLine; decide, fun fa hfa => ?_⟩
  have o3 : Old H (upd H2 fa (.lst [])) := (o1.trans o2).trans (Old.new hfa)
  have hf3 : upd H2 fa (.lst []) fa = some (.lst []) := upd_same
  have hfa0 : H fa = none := (o1.trans o2).free hfa
  revert o3 hf3
  generalize upd H2 fa (.lst []) = H3
  intro o3 hf3
  refine ⟨_, rfl, .ref a, t, rfl, rt.mono o3.tm, N.wf, fun r2 us2 H4 o4 hr4 hr5 rus2 => ⟨r2, us2, rfl, hr5, ?_⟩⟩
  rcases alt with ⟨ep, q⟩ | ⟨ea, n, ms', k', ep, en, N', qn, qe⟩
  · rw [ep] at rus2
    obtain rfl : us2 = [] := rus2
    refine for_by (n := 0) (fun i σ H5 => σ = [some (.ref L), some (.ref a), some (.ref b), k3, some (.ref fa), none, none, none] ∧ H5 = H4) ⟨rfl, rfl⟩ (fun i σ H hi => absurd hi (Nat.not_lt_zero _)) (fun σ H5 hv => ?_) (fun i σ H hi => absurd hi (Nat.not_lt_zero _)) (fun σ H5 hv => ?_)
    · obtain ⟨rfl, rfl⟩ := hv
      exact ⟨_, SqL.of hr5, rfl⟩
    · obtain ⟨rfl, rfl⟩ := hv
      have o5 := o3.trans o4
      refine ⟨_, rfl, _, rfl, _, rfl, .ref a, _, _, t, k.d, rfl, rt.mono o5.tm, N.wf, N.own, fun kv H6 o6 rk => ?_⟩
      refine ⟨_, rfl, _, rfl, .ref a, kv, k, rfl, rk, N.ok, N.dep, fun H7 o7 => ?_⟩
      have oF := (o5.trans o6).trans o7
      have lk7 := lk.old oF
      obtain ⟨dx, hi⟩ := lk7.hi
      refine ⟨_, rfl, _, rfl, L, C, dx, _, .ref kd, rfl, hi, cl_Looker, a_kinds, lkK, _, rfl, .inr (.inl ⟨a, _, 1, .int t.p, rfl, rfl, (ha.mono oF.tm).sq, at1, kd, _, rfl, DPut.k (k := .inl t.p) lk7.hk (Nat.lt_trans fk (by decide)), ?_⟩)⟩
      exact ⟨_, rfl, q kv H7 oF (rk.mono o7.tm)⟩
  · rw [ep] at rus2
    obtain ⟨nv, e0, rfl, rn, e1⟩ := rus2
    have e1' : e0 = [] := e1
    subst e1'
    have o5 := o3.trans o4
    refine for_by (n := 1) (fun i σ H5 => ∃ (k5 k6 : Option V), σ = [some (.ref L), some (.ref a), some (.ref b), k3, some (.ref fa), k5, k6, none] ∧ ((i = 0 ∧ H5 = H4) ∨ (i = 1 ∧ k'.part k = none ∧ ∃ kv' wv, Out kd wd H H5 ∧ RK K H5 k'.d kv' ∧ RK K H5 k.d wv ∧ LkAt C H5 L kd wd (putK ks (.inl n.p) kv') (putK ws (.inl n.p) wv) ∧ H5 r2 = some (.lst [nv])))) ⟨none, none, rfl, .inl ⟨rfl, rfl⟩⟩ ?_ ?_ ?_ ?_
    · intro i σ H5 hi hv
      obtain ⟨k5, k6, rfl, ⟨rfl, rfl⟩ | ⟨rfl, _⟩⟩ := hv
      · exact ⟨_, SqL.of hr5, hi⟩
      · omega
    · intro σ H5 hv
      obtain ⟨k5, k6, rfl, ⟨z, _⟩ | ⟨_, _, _, _, _, _, _, _, h2⟩⟩ := hv
      · omega
      · exact ⟨_, SqL.of h2, rfl⟩
    · intro i σ H5 hi hv z H6 hy
      obtain rfl : i = 0 := by omega
      obtain ⟨k5, k6, rfl, ⟨_, rfl⟩ | ⟨z, _⟩⟩ := hv
      · obtain ⟨T4, uv, rfl, hT4, rfl, hyx⟩ := hy
        have eu : some nv = some uv := hyx _ (SqL.of hr5)
        obtain rfl := Option.some.inj eu
        refine ⟨T4, _, rfl, SqT.of upd_same, rfl, _, _, rfl, _, _, rfl, rfl, ?_⟩
        have o6 : Old H5 (upd H5 T4 (.tup [.int ((0 : Nat) : Int), nv])) := Old.new hT4
        revert o6
        generalize upd H5 T4 (.tup [.int ((0 : Nat) : Int), nv]) = H6
        intro o6
        have oa : Old H H6 := o5.trans o6
        have hf6 : H6 fa = some (.lst []) := o6 _ _ (o4 _ _ hf3)
        obtain ⟨dx, hi6⟩ := (lk.old oa).hi
        refine ⟨_, rfl, .inl ⟨rfl, _, SqL.of hf6⟩, _, rfl, L, dx, _, rfl, hi6, lkN _ (by decide +kernel), _, rfl, _, rfl, _, rfl, _, rfl, _, rfl, ?_⟩
        refine ⟨.ref a, .ref fa, t, ((0 : Nat) : Int), b, kvs, rfl, rt.mono oa.tm, by rw [ea]; decide +kernel, by rw [ea]; decide +kernel, by rw [ea]; decide +kernel, oa _ _ hb, fun r3 hr3 => ?_⟩
        have o7 : Old H6 (upd H6 r3 (.dK kvs)) := Old.new hr3
        have hr3' : upd H6 r3 (.dK kvs) r3 = some (.dK kvs) := upd_same
        revert o7 hr3'
        generalize upd H6 r3 (.dK kvs) = H7
        intro o7 hr3'
        have lk7 := lk.old (oa.trans o7)
        have dn : n.dep ≤ m := by
          have e : t.dep = 1 + Tn.deps t.ps := by cases t; rfl
          rw [ep] at e
          have e2 : Tn.deps [n] = max n.dep 0 := rfl
          omega
        refine ⟨L, kd, wd, r3, ks, ws, kvs, nv, n, ms', k', rfl, lk7, fk, fw, rn.mono (o6.trans o7).tm, N', hr3', dn, .inl ⟨en, fun kv' H8 o8 rk' => ?_⟩⟩
        have lk8 := lk7.old o8
        have fa8 : H8 fa = some (.lst []) := o8 _ _ (o7 _ _ hf6)
        obtain ⟨dx0, hi0⟩ := lk.hi
        have nL : L ≠ fa := ne_of_none hi0 hfa0
        have nK : kd ≠ fa := ne_of_none lk.hk hfa0
        have nW : wd ≠ fa := ne_of_none lk.hw hfa0
        have lk9 : LkAt C (upd H8 kd (.dK (putK ks (.inl n.p) kv'))) L kd wd (putK ks (.inl n.p) kv') ws := lk8.putK
        have fa9 : upd H8 kd (.dK (putK ks (.inl n.p) kv')) fa = some (.lst []) := by rw [upd_ne (Ne.symm nK)]; exact fa8
        have out9 : Out kd wd H8 (upd H8 kd (.dK (putK ks (.inl n.p) kv'))) := Out.putK
        have r29 : upd H8 kd (.dK (putK ks (.inl n.p) kv')) r2 = some (.lst [nv]) := by
          have h8 : H8 r2 = some (.lst [nv]) := o8 _ _ (o7 _ _ (o6 _ _ hr5))
          rw [upd_ne (fun z => by rw [z, lk8.hk] at h8; cases h8)]
          exact h8
        revert lk9 fa9 out9 r29
        generalize upd H8 kd (.dK (putK ks (.inl n.p) kv')) = H9
        intro lk9 fa9 out9 r29
        refine ⟨fa, [], kv', rfl, rfl, fa9, by show 0 < sizeLine; decide, ?_⟩
        have nr2 : r2 ≠ fa := fun z => by rw [z, fa9] at r29; cases r29
        have tm10 : Tm H9 (upd H9 fa (.lst ([] ++ [kv']))) := fun x xs e => by rw [upd_ne (fun z => by rw [z, fa9] at e; cases e)]; exact e
        have lk10 : LkAt C (upd H9 fa (.lst ([] ++ [kv']))) L kd wd (putK ks (.inl n.p) kv') ws := lk9.upd nL nK nW
        have fa10 : upd H9 fa (.lst ([] ++ [kv'])) fa = some (.lst [kv']) := upd_same
        have r210 : upd H9 fa (.lst ([] ++ [kv'])) r2 = some (.lst [nv]) := by rw [upd_ne nr2]; exact r29
        have oH : Old H H8 := (oa.trans o7).trans o8
        have out10 : Out kd wd H (upd H9 fa (.lst ([] ++ [kv']))) := fun x o n1 n2 e => by
          rw [upd_ne (ne_of_none e hfa0)]
          exact out9 x o n1 n2 (oH x o e)
        have tm8 : Tm H8 (upd H9 fa (.lst ([] ++ [kv']))) := fun x xs e => tm10 x xs (Out.tm lk8 out9 x xs e)
        revert lk10 fa10 r210 out10 tm8
        generalize upd H9 fa (.lst ([] ++ [kv'])) = H10
        intro lk10 fa10 r210 out10 tm8
        obtain ⟨dx1, hi10⟩ := lk10.hi
        have rt10 : RK K H10 t.d (.ref a) := (rt.mono oH.tm).mono tm8
        have rn10 : RK K H10 n.d nv := (rn.mono ((o6.trans o7).trans o8).tm).mono tm8
        have rk10 : RK K H10 k'.d kv' := rk'.mono tm8
        refine ⟨_, rfl, L, dx1, _, rfl, hi10, lkN _ (by decide +kernel), _, rfl, _, rfl, _, rfl, ?_⟩
        refine ⟨L, kd, wd, fa, _, ws, .ref a, nv, kv', t, n, k', k, rfl, lk10, Nat.lt_trans fw (by decide), rt10, N.wf, ea, N.own, rn10, N'.wf, fa10, rk10, N'.kw, N.kw, Nat.le_trans N'.dep (by decide), fun e wv H11 o11 rw11 => ?_, fun way e d wv yv H11 o11 rw11 ry hd => ?_⟩
        · have lk11 := lk10.old o11
          have out11 : Out kd wd H11 (upd H11 wd (.dK (putK ws (.inl n.p) wv))) := Out.putW
          have tm11 := Out.tm lk11 out11
          refine ⟨_, _, rfl, .inr ⟨rfl, e, kv', wv, (out10.trans (Out.old o11)).trans out11, (rk10.mono o11.tm).mono tm11, rw11.mono tm11, lk11.putW, ?_⟩⟩
          have h11 : H11 r2 = some (.lst [nv]) := o11 _ _ r210
          rw [upd_ne (fun z => by rw [z, lk11.hw] at h11; cases h11)]
          exact h11
        · exact qe way e d kv' wv yv H11 (out10.trans (Out.old o11)) rw11 (rk10.mono o11.tm) ry hd
      · omega
    · intro σ H5 hv
      obtain ⟨k5, k6, rfl, ⟨z, _⟩ | ⟨_, e, kv', wv, out5, rk5, rw5, lk5, h2⟩⟩ := hv
      · omega
      have tm5 := Out.tm lk out5
      refine ⟨_, rfl, _, rfl, _, rfl, .ref a, _, _, t, k.d, rfl, rt.mono tm5, N.wf, N.own, fun kv H6 o6 rk => ?_⟩
      refine ⟨_, rfl, _, rfl, .ref a, kv, k, rfl, rk, N.ok, N.dep, fun H7 o7 => ?_⟩
      have oF := o6.trans o7
      have lk7 := lk5.old oF
      obtain ⟨dx, hi⟩ := lk7.hi
      have pl := put_len ks (.inl n.p) kv'
      refine ⟨_, rfl, _, rfl, L, C, dx, _, .ref kd, rfl, hi, cl_Looker, a_kinds, lkK, _, rfl, .inr (.inl ⟨a, _, 1, .int t.p, rfl, rfl, ((ha.mono tm5).mono oF.tm).sq, at1, kd, _, rfl, DPut.k (k := .inl t.p) lk7.hk (Nat.lt_trans (show _ < 100 by omega) (by decide)), ?_⟩)⟩
      have out8 : Out kd wd H7 (upd H7 kd (.dK (putK (putK ks (.inl n.p) kv') (.inl t.p) kv))) := Out.putK
      have tm8 := Out.tm lk7 out8
      refine ⟨_, rfl, qn e kv kv' wv _ ((out5.trans (Out.old oF)).trans out8) ((rk.mono o7.tm).mono tm8) ((rk5.mono oF.tm).mono tm8) ((rw5.mono oF.tm).mono tm8) upd_same ?_⟩
      rw [upd_ne (Ne.symm lk.hn)]
      exact lk7.hw
end
end L2.K31

end
section
set_option Elab.async false
set_option linter.all false
set_option maxRecDepth 100000
set_option maxHeartbeats 8000000
namespace L2.K31
open PySem PySem.Spec PyProof.Rows L2.Bw L2.Bk L2.Ex
/-- a program of k31: an as round a leaf -/
structure Pg (t n : Tn) (ms ms' : List Kn) (k k' : Kn) : Prop where
  N : Nd t ms k
  as_ : t.w = "as"
  ps : t.ps = [n]
  nps : n.ps = []
  N' : Nd n ms' k'
  nm : n.w ≠ "name"
section
variable {P : Program} {w : World} {K : PySem.W.Frag} {mg : Str → Option Value} {base : Heap} {f : Addr} {fd : FuncData}
theorem Pg.dep {t n : Tn} {ms ms' : List Kn} {k k' : Kn} (g : Pg t n ms ms' k k') : t.dep = 2 := by
  have e : t.dep = 1 + Tn.deps t.ps := by cases t; rfl
  have e1 : n.dep = 1 + Tn.deps n.ps := by cases n; rfl
  rw [g.nps] at e1
  rw [g.ps] at e
  have e2 : Tn.deps [n] = max n.dep 0 := rfl
  have e3 : Tn.deps [] = 0 := rfl
  omega
theorem Pg.frees {t n : Tn} {ms ms' : List Kn} {k k' : Kn} (g : Pg t n ms ms' k k') : t.frees [] = [] := by
  obtain ⟨x, p, fr, mid, ps⟩ := t
  obtain ⟨x', p', fr', mid', ps'⟩ := n
  obtain rfl : x = "as" := g.as_
  obtain rfl : ps = [Tn.mk x' p' fr' mid' ps'] := g.ps
  obtain rfl : ps' = [] := g.nps
  have h : x' ≠ "name" := g.nm
  rw [Tn.frees, if_neg (fun z => absurd z.1 (by decide +kernel)), Tn.freess, Tn.frees, if_neg (fun z => h z.1), Tn.freess, Tn.freess]
  rfl
/-! ### looked -/
noncomputable abbrev sLkd : Stmt := top 39
noncomputable def spLkd (K : PySem.W.Frag) (Cp : Addr) : Sp := fun vs H Q E => ∃ (tv : V) (t n : Tn) (ms ms' : List Kn) (k k' : Kn), vs = [tv] ∧ RK K H t.d tv ∧ Pg t n ms ms' k k' ∧
  (k'.part k = none → ∀ r kd wd kv kv' wv H', Old H H' → RK K H' k.d kv → RK K H' k'.d kv' → RK K H' k.d wv → H' r = some (.tup [.ref kd, .ref wd]) → H' kd = some (.dK (putK (putK [] (.inl n.p) kv') (.inl t.p) kv)) → H' wd = some (.dK (putK (putK [] (.inl n.p) wv) (.inl t.p) kv)) → Q (.ref r) H') ∧
  (∀ way, k'.part k = some way → ∀ d kv' wv yv H', Old H H' → RK K H' k.d wv → RK K H' k'.d kv' → RK K H' (.tup (way.map Dk.str)) yv → H' d = some (DO d (ptd n.p kv' t.p wv yv)) → E (.ref Cp) (some d) H')
theorem scLkd : FnScope ["tree", "looker"] ["tree"] (defScope sLkd) := ⟨rfl, rfl, rfl, by decide +kernel, rfl, by decide +kernel, by decide +kernel⟩
theorem ok_Lkd {m : Nat} {C Cp : Addr} (F : Fun K "looked" "looked" sLkd f fd) (T : Tx mg) (cl_Looker : Cls K C) (a_kinds : NoAttr K C "kinds") (a_wanted : NoAttr K C "wanted") (n_Looker : CalN P w K mg base "Looker" C 1 (spLI C)) (M_want : CalM P w K mg base C "want" ["self", "node", "kind"] 1 (spWant K C)) (M_look : CalMX P w K mg base C "look" ["self", "tree", "bound"] 13 (spLook K C Cp 2))
    (c_need_names : Cal P w K mg base "need_names" ["tree"] 8 (spNN K 3)) : FnOk P w K mg base (CXF P w) (m + 14) f fd ["tree"] (spLkd K Cp) := by
  refine fun_okX F scLkd (fun vs H Q E h => ?_) (fun cdv A outer s H vs Q E hr h => ?_)
  · obtain ⟨tv, t, n, ms, ms', k, k', rfl, _⟩ := h
    rfl
  obtain ⟨tv, t, n, ms, ms', k, k', rfl, rt, g, qn, qe⟩ := h
  have nd := scLkd.nd
  have gd := g.dep
  refine' ⟨_, ?n0, ?Z⟩
  case' n0 => refine' pss_cons ?n1 ?n2
  case' n1 => refine' ps_expr ?n3
  case' n3 => refine' pe_cal c_need_names hr ?n4
  case' n4 => refine' pa ?n5 ?n6
  case n5 => exact pv 0
  case n6 => exact pa_nil
  case' n2 => refine' pss_cons ?n7 ?n8
  case' n7 => refine' ps_setX (i := 1) nd rfl (Or.inl rfl) rfl (by first | exact .inl rfl | exact .inr rfl) ?n9
  case n9 => exact pe_new n_Looker hr
  case' n8 => refine' pss_cons ?n10 ?n11
  case' n10 => refine' ps_expr ?n12
  case' n12 => refine' pe_mth M_want cl_Looker hr ?n13 ?n14
  case n13 => exact pv 1
  case' n14 => refine' pa ?n15 ?n16
  case n15 => exact pv 0
  case' n16 => refine' pa ?n17 ?n18
  case' n17 => refine' pe_mthX M_look cl_Looker hr ?n19 ?n20
  case n19 => exact pv 1
  case' n20 => refine' pa ?n21 ?n22
  case n21 => exact pv 0
  case' n22 => refine' pa pe_dnewK ?n23
  case n23 => exact pa_nil
  case n18 => exact pa_nil
  case' n11 => refine' pss_one ?n24
  case' n24 => refine' ps_ret ?n25
  case' n25 => refine' pe_tup ?n26
  case' n26 => refine' pa ?n27 ?n28
  case' n27 => refine' pe_fld ?n29 rfl
  case n29 => exact pv 1
  case' n28 => refine' pa ?n30 ?n31
  case' n30 => refine' pe_fld ?n32 rfl
  case n32 => exact pv 1
  case n31 => exact pa_nil
  refine ⟨_, rfl, tv, t, rfl, rt, g.N.wf, by omega, by omega, g.frees, fun H1 o1 => ?_⟩
  refine fun L dx hL hdx ne => ⟨L, dx, rfl, upd_same, fun kd wd H2 hk hw keep lk => ⟨rfl, ?_⟩⟩
  have o2 : Old H1 H2 := fun b o e => keep b o (ne_of_none e hL) (by rw [upd_ne (ne_of_none e hL), upd_ne (ne_of_none e hdx)]; exact e)
  obtain ⟨dx1, hi2⟩ := lk.hi
  refine ⟨_, rfl, L, dx1, _, rfl, hi2, lkN _ (by decide +kernel), _, rfl, _, rfl, L, dx1, _, rfl, hi2, lkN _ (by decide +kernel), _, rfl, fun b hb => ?_⟩
  have o3 : Old H2 (upd H2 b (.dK [])) := Old.new hb
  have oB := (o1.trans o2).trans o3
  have gone : ∀ x, upd (upd H1 dx (.own L)) L (.ins C dx []) x = none → H x = none := fun x h => by
    have n1 : x ≠ L := fun z => by rw [z, upd_same] at h; cases h
    rw [upd_ne n1] at h
    have n2 : x ≠ dx := fun z => by rw [z, upd_same] at h; cases h
    rw [upd_ne n2] at h
    exact o1.free h
  have kd0 : H kd = none := gone kd hk
  have wd0 : H wd = none := gone wd hw
  have oOut : ∀ {H' : Hp}, Out kd wd (upd H2 b (.dK [])) H' → Old H H' := fun o b' o' e => o b' o' (ne_of_none e kd0) (ne_of_none e wd0) (oB b' o' e)
  have lk3 := lk.old o3
  refine ⟨L, kd, wd, b, [], [], [], tv, t, ms, k, rfl, lk3, by decide, by decide, rt.mono oB.tm, g.N, upd_same, by omega, .inr ⟨g.as_, n, ms', k', g.ps, g.nps, g.N', fun e kv kv' wv H4 out4 rk rk' rw' hk4 hw4 => ?_, fun way e d kv' wv yv H4 out4 rw' rk' ry hd => ?_⟩⟩
  · obtain ⟨dx3, hi3⟩ := lk3.hi
    have lk4 : LkAt C H4 L kd wd (putK (putK [] (.inl n.p) kv') (.inl t.p) kv) (putK [] (.inl n.p) wv) := ⟨⟨dx3, out4 _ _ lk3.nk lk3.nw hi3⟩, hk4, hw4, lk3.hn⟩
    have pl := put_len [] (.inl n.p) wv
    refine ⟨L, kd, wd, _, _, tv, kv, t, rfl, lk4, by simp at pl; omega, rt.mono (oOut out4).tm, ?_⟩
    have lk5 : LkAt C (upd H4 wd (.dK (putK (putK [] (.inl n.p) wv) (.inl t.p) kv))) L kd wd (putK (putK [] (.inl n.p) kv') (.inl t.p) kv) (putK (putK [] (.inl n.p) wv) (.inl t.p) kv) := lk4.putW
    have out5 : Out kd wd H4 (upd H4 wd (.dK (putK (putK [] (.inl n.p) wv) (.inl t.p) kv))) := Out.putW
    have tm5 := Out.tm lk4 out5
    have ob := oOut (out4.trans out5)
    obtain ⟨dx5, hi5⟩ := lk5.hi
    refine ⟨_, rfl, L, C, dx5, _, .ref kd, rfl, hi5, cl_Looker, a_kinds, lkK, _, rfl, L, C, dx5, _, .ref wd, rfl, hi5, cl_Looker, a_wanted, lkW, by show 2 ≤ sizeLine; decide, fun r hr0 => ?_⟩
    have o6 := Old.new (o := .tup [.ref kd, .ref wd]) hr0
    exact qn e r kd wd kv kv' wv _ (ob.trans o6) ((rk.mono tm5).mono o6.tm) ((rk'.mono tm5).mono o6.tm) ((rw'.mono tm5).mono o6.tm) upd_same (o6 _ _ lk5.hk) (o6 _ _ lk5.hw)
  · exact qe way e d kv' wv yv H4 (oOut out4) rw' rk' ry hd
/-! ### kind_of -/
noncomputable abbrev sKo : Stmt := top 40
noncomputable def spKo (K : PySem.W.Frag) : Sp := fun vs H Q E => ∃ (tv : V) (t n : Tn) (ms ms' : List Kn) (k k' : Kn), vs = [tv] ∧ RK K H t.d tv ∧ Pg t n ms ms' k k' ∧ k'.part k = none ∧ ∀ kv H', Old H H' → RK K H' k.d kv → Q kv H'
theorem scKo : FnScope ["tree"] ["tree"] (defScope sKo) := ⟨rfl, rfl, rfl, by decide +kernel, rfl, by decide +kernel, by decide +kernel⟩
theorem ok_Ko {m : Nat} {Cp : Addr} (F : Fun K "kind_of" "kind_of" sKo f fd) (T : Tx mg) (c_looked : CalX P w K mg base "looked" ["tree"] 14 (spLkd K Cp)) : FnOk P w K mg base (CXF P w) (m + 15) f fd ["tree"] (spKo K) := by
  refine fun_okX F scKo (fun vs H Q E h => ?_) (fun cdv A outer s H vs Q E hr h => ?_)
  · obtain ⟨tv, t, n, ms, ms', k, k', rfl, _⟩ := h
    rfl
  obtain ⟨tv, t, n, ms, ms', k, k', rfl, rt, g, e, q⟩ := h
  have nd := scKo.nd
  obtain ⟨a, uf, um, up, rfl, ha, _⟩ := RK.node (w := t.w) (p := t.p) (fr := t.fr) (mid := tmid t) (ps := t.ps) (show RK K H (Tn.mk t.w t.p t.fr (tmid t) t.ps).d tv by cases t; exact rt)
  refine' ⟨_, ?n0, ?Z⟩
  case' n0 => refine' pss_one ?n1
  case' n1 => refine' ps_ret ?n2
  case' n2 => refine' pe_dget hr.u1 ?n3 ?n4 (fun _ _ => rfl)
  case' n3 => refine' pe_ix ix_seq ?n5 ?n6 (fun _ _ => rfl)
  case' n5 => refine' pe_calX c_looked hr ?n7
  case' n7 => refine' pa ?n8 ?n9
  case n8 => exact pv 0
  case n9 => exact pa_nil
  case n6 => exact pe_int
  case' n4 => refine' pe_ix ix_seq ?n10 ?n11 (fun _ _ => rfl)
  case n10 => exact pv 0
  case n11 => exact pe_int
  refine ⟨_, rfl, .ref a, t, n, ms, ms', k, k', rfl, rt, g, fun _ r kd wd kv kv' wv H1 o1 rk rk' rw' hr1 hk hw => ?_, fun way ew => absurd (e.symm.trans ew) (fun z => nomatch z)⟩
  refine .inr (.inl ⟨r, _, 0, .ref kd, rfl, rfl, SqT.of hr1, at0, _, rfl, .inr (.inl ⟨a, _, 1, .int t.p, rfl, rfl, (ha.mono o1.tm).sq, at1, kd, kv, rfl, ?_, q kv H1 o1 rk⟩)⟩)
  have z := DGet.k (k := .inl t.p) hk
  rw [valV_put, if_pos rfl] at z
  exact z
end
end L2.K31

end
section
set_option Elab.async false
set_option linter.all false
set_option maxRecDepth 100000
set_option maxHeartbeats 8000000
namespace L2.K31
open PySem PySem.Spec PyProof.Rows L2.Bw L2.Bk L2.Ex
section
variable {P : Program} {w : World} {K : PySem.W.Frag} {mg : Str → Option Value} {base : Heap} {f : Addr} {fd : FuncData}
/-! ### kind_by -/
noncomputable abbrev sKb : Stmt := top 49
noncomputable def spKb (K : PySem.W.Frag) (m : Nat) : Sp := fun vs H Q _ => ∃ (a room : Int), vs = [.int a, .int room] ∧ 1 ≤ room ∧ room < m ∧
  ∀ (t : Kn) (v : V) (H' : Hp), RK K H' t.d v → t.wf → (t.dep : Int) ≤ room → Old H H' → Q v H'
theorem scKb : FnScope ["_law_cell", "_law_deep", "_law_flat", "_law_one", "_law_other"] ["_law_cell", "_law_deep"] (defScope sKb) := ⟨rfl, rfl, rfl, by decide +kernel, rfl, by decide +kernel, by decide +kernel⟩
theorem ar0 : ∀ h ∈ (["whole", "truth", "?"] : List Str), arity h = some 0 := by decide +kernel
theorem ar1 : arity "row" = some 1 := by decide +kernel
theorem arT : arity "to" = some 2 := by decide +kernel
theorem arP : arity "pair" = some 2 := by decide +kernel
theorem flat3 {p1 p2 p3 : Addr} {i : Int} {H : Hp} (h0 : 0 ≤ i) (h1 : i < 3) (t1 : Tp K H p1 [.str "whole"]) (t2 : Tp K H p2 [.str "truth"]) (t3 : Tp K H p3 [.str "?"]) : ∃ (h : Str) (v : V), atI [V.ref p1, V.ref p2, V.ref p3] i = some v ∧ h ∈ (["whole", "truth", "?"] : List Str) ∧ RK K H (Kn.mk h []).d v := by
  have c : i = 0 ∨ i = 1 ∨ i = 2 := by omega
  rcases c with c | c | c <;> subst c
  · exact ⟨"whole", .ref p1, rfl, by decide +kernel, RK.tup t1 (.cons (.s _) .nil)⟩
  · exact ⟨"truth", .ref p2, rfl, by decide +kernel, RK.tup t2 (.cons (.s _) .nil)⟩
  · exact ⟨"?", .ref p3, rfl, by decide +kernel, RK.tup t3 (.cons (.s _) .nil)⟩
theorem deep3 {p1 p2 p3 : Addr} {i : Int} {H : Hp} {t t' : Kn} {v v' : V} (h0 : 0 ≤ i) (h1 : i < 3) (rt : RK K H t.d v) (rt' : RK K H t'.d v') (wt : t.wf) (wt' : t'.wf) (t1 : Tp K H p1 [.str "to", v, v']) (t2 : Tp K H p2 [.str "row", v]) (t3 : Tp K H p3 [.str "pair", v, v']) :
    ∃ (u : Kn) (x : V), atI [V.ref p1, V.ref p2, V.ref p3] i = some x ∧ u.wf ∧ u.dep ≤ 1 + max t.dep t'.dep ∧ RK K H u.d x := by
  have c : i = 0 ∨ i = 1 ∨ i = 2 := by omega
  rcases c with c | c | c <;> subst c
  · exact ⟨.mk "to" [t, t'], .ref p1, rfl, ⟨arT, wt, wt', trivial⟩, by show 1 + max t.dep (max t'.dep 0) ≤ _; omega, RK.tup t1 (.cons (.s _) (.cons rt (.cons rt' .nil)))⟩
  · exact ⟨.mk "row" [t], .ref p2, rfl, ⟨ar1, wt, trivial⟩, by show 1 + max t.dep 0 ≤ _; omega, RK.tup t2 (.cons (.s _) (.cons rt .nil))⟩
  · exact ⟨.mk "pair" [t, t'], .ref p3, rfl, ⟨arP, wt, wt', trivial⟩, by show 1 + max t.dep (max t'.dep 0) ≤ _; omega, RK.tup t3 (.cons (.s _) (.cons rt (.cons rt' .nil)))⟩
theorem ok_Kb {m : Nat} (F : Fun K "_law_kind_by" "_law_kind_by" sKb f fd) (T : Tx mg) (c_kind_by : Cal P w K mg base "_law_kind_by" ["_law_cell", "_law_deep"] (m + 1) (spKb K m)) :
    FnOk P w K mg base CX0 (m + 2) f fd ["_law_cell", "_law_deep"] (spKb K (m + 1)) := by
  refine F.ok scKb (fun vs H Q E h => ?_) (fun cdv A outer s H vs Q E hr h => ?_)
  · obtain ⟨a, room, rfl, _⟩ := h
    rfl
  obtain ⟨a, room, rfl, h1, h2, q⟩ := h
  have nd := scKb.nd
  refine' ⟨_, ?n0, ?Z⟩
  case' n0 => refine' pss_cons ?n1 ?n2
  case' n1 => refine' ps_setX (i := 2) nd rfl (Or.inl rfl) rfl (by first | exact .inl rfl | exact .inr rfl) ?n3
  case' n3 => refine' pe_lst ?n4
  case' n4 => refine' pa ?n5 ?n6
  case' n5 => refine' pe_tup ?n7
  case' n7 => refine' pa ?n8 ?n9
  case n8 => exact pe_str
  case n9 => exact pa_nil
  case' n6 => refine' pa ?n10 ?n11
  case' n10 => refine' pe_tup ?n12
  case' n12 => refine' pa ?n13 ?n14
  case n13 => exact pe_str
  case n14 => exact pa_nil
  case' n11 => refine' pa ?n15 ?n16
  case' n15 => refine' pe_tup ?n17
  case' n17 => refine' pa ?n18 ?n19
  case n18 => exact pe_str
  case n19 => exact pa_nil
  case n16 => exact pa_nil
  case' n2 => refine' pss_cons ?n20 ?n21
  case' n20 => refine' ps_if ?n22 ?n23 ?n24
  case' n22 => refine' PW.pt ?n25
  case' n25 => refine' pw_or ?n26 ?n27
  case' n26 => refine' pt_cmpR op_lt ?n28 ?n29 (nomark _)
  case n28 => exact pv 1
  case n29 => exact pe_int
  case' n27 => refine' pw_or1 ?n30
  case' n30 => refine' pt_cmpR (op_eqG hr) ?n31 ?n32 (nomark _)
  case' n31 => refine' pe_op op_mod ?n33 ?n34
  case n33 => exact pv 0
  case n34 => exact pe_int
  case n32 => exact pe_int
  case' n23 => refine' pss_one ?n35
  case' n35 => refine' ps_ret ?n36
  case' n36 => refine' pe_ix ix_seq ?n37 ?n38 (fun _ _ => rfl)
  case n37 => exact pv 2
  case' n38 => refine' pe_op op_mod ?n39 ?n40
  case' n39 => refine' pe_op op_fdivG ?n41 ?n42
  case n41 => exact pv 0
  case n42 => exact pe_int
  case n40 => exact pe_int
  case n24 => exact pss_nil
  case' n21 => refine' pss_cons ?n43 ?n44
  case' n43 => refine' ps_setX (i := 3) nd rfl (Or.inl rfl) rfl (by first | exact .inl rfl | exact .inr rfl) ?n45
  case' n45 => refine' pe_cal c_kind_by hr ?n46
  case' n46 => refine' pa ?n47 ?n48
  case' n47 => refine' pe_op op_fdivG ?n49 ?n50
  case n49 => exact pv 0
  case n50 => exact pe_int
  case' n48 => refine' pa ?n51 ?n52
  case' n51 => refine' pe_op op_sub ?n53 ?n54
  case n53 => exact pv 1
  case n54 => exact pe_int
  case n52 => exact pa_nil
  case' n44 => refine' pss_cons ?n55 ?n56
  case' n55 => refine' ps_setX (i := 4) nd rfl (Or.inl rfl) rfl (by first | exact .inl rfl | exact .inr rfl) ?n57
  case' n57 => refine' pe_cal c_kind_by hr ?n58
  case' n58 => refine' pa ?n59 ?n60
  case' n59 => refine' pe_op op_mod ?n61 ?n62
  case' n61 => refine' pe_op op_mulG ?n63 ?n64
  case n63 => exact pv 0
  case n64 => exact pe_int
  case n62 => exact pe_int
  case' n60 => refine' pa ?n65 ?n66
  case' n65 => refine' pe_op op_sub ?n67 ?n68
  case n67 => exact pv 1
  case n68 => exact pe_int
  case n66 => exact pa_nil
  case' n56 => refine' pss_one ?n69
  case' n69 => refine' ps_ret ?n70
  case' n70 => refine' pe_ix ix_seq ?n71 ?n72 (fun _ _ => rfl)
  case' n71 => refine' pe_lst ?n73
  case' n73 => refine' pa ?n74 ?n75
  case' n74 => refine' pe_tup ?n76
  case' n76 => refine' pa ?n77 ?n78
  case n77 => exact pe_str
  case' n78 => refine' pa ?n79 ?n80
  case n79 => exact pv 3
  case' n80 => refine' pa ?n81 ?n82
  case n81 => exact pv 4
  case n82 => exact pa_nil
  case' n75 => refine' pa ?n83 ?n84
  case' n83 => refine' pe_tup ?n85
  case' n85 => refine' pa ?n86 ?n87
  case n86 => exact pe_str
  case' n87 => refine' pa ?n88 ?n89
  case n88 => exact pv 3
  case n89 => exact pa_nil
  case' n84 => refine' pa ?n90 ?n91
  case' n90 => refine' pe_tup ?n92
  case' n92 => refine' pa ?n93 ?n94
  case n93 => exact pe_str
  case' n94 => refine' pa ?n95 ?n96
  case n95 => exact pv 3
  case' n96 => refine' pa ?n97 ?n98
  case n97 => exact pv 4
  case n98 => exact pa_nil
  case n91 => exact pa_nil
  case' n72 => refine' pe_op op_mod ?n99 ?n100
  case' n99 => refine' pe_op op_fdivG ?n101 ?n102
  case n101 => exact pv 0
  case n102 => exact pe_int
  case n100 => exact pe_int
  refine ⟨by show 1 ≤ sizeLine; decide, fun p1 hp1 => ⟨by show 1 ≤ sizeLine; decide, fun p2 hp2 => ⟨by show 1 ≤ sizeLine; decide, fun p3 hp3 => ⟨by show 3 ≤ sizeLine; decide, fun p4 hp4 => ?_⟩⟩⟩⟩
  have o1 : Old H (upd H p1 (.tup [.str "whole"])) := Old.new hp1
  have o2 := Old.new (o := .tup [.str "truth"]) hp2
  have o3 := Old.new (o := .tup [.str "?"]) hp3
  have o4 := Old.new (o := .lst [.ref p1, .ref p2, .ref p3]) hp4
  have t1 : Tp K _ p1 [.str "whole"] := .of (o4 _ _ (o3 _ _ (o2 _ _ upd_same)))
  have t2 : Tp K _ p2 [.str "truth"] := .of (o4 _ _ (o3 _ _ upd_same))
  have t3 : Tp K _ p3 [.str "?"] := .of (o4 _ _ upd_same)
  have oo := ((o1.trans o2).trans o3).trans o4
  have hl4 : upd (upd (upd (upd H p1 (.tup [.str "whole"])) p2 (.tup [.str "truth"])) p3 (.tup [.str "?"])) p4 (HO.lst [.ref p1, .ref p2, .ref p3]) p4 = some (.lst [.ref p1, .ref p2, .ref p3]) := upd_same
  have m0 : 0 ≤ a / 4 % 3 := Int.emod_nonneg _ (by decide)
  have m1 : a / 4 % 3 < 3 := Int.emod_lt_of_pos _ (by decide)
  obtain ⟨h, v, ev, hm, rv⟩ := flat3 (K := K) m0 m1 t1 t2 t3
  revert oo rv hl4
  generalize upd (upd (upd (upd H p1 (.tup [.str "whole"])) p2 (.tup [.str "truth"])) p3 (.tup [.str "?"])) p4 (.lst [.ref p1, .ref p2, .ref p3]) = H1
  intro oo hl4 rv
  have fin : ∀ (Q' : VK), (∀ (t : Kn) (v : V) (H' : Hp), RK K H' t.d v → t.wf → (t.dep : Int) ≤ room → Old H H' → Q' v H') → Q' v H1 := fun Q' q => q (.mk h []) v _ rv ⟨ar0 h hm, trivial⟩ (by show ((1 + Kn.deps [] : Nat) : Int) ≤ room; exact h1) oo
  refine ⟨_, rfl, _, _, rfl, rfl, _, rfl, ?_⟩
  refine ite2 (fun c => iteT ?_) (fun c => ?_)
  · exact ⟨_, rfl, _, rfl, _, _, rfl, rfl, .inl ⟨by decide, by decide⟩, _, _, rfl, rfl, (by show (0 : Int) < 3; decide), .inl ⟨p4, _, _, v, rfl, rfl, SqL.of hl4, ev, fin _ q⟩⟩
  have hroom : 2 ≤ room := by
    have c' : ¬ (room < 2) := of_decide_eq_false (Bool.eq_false_iff.mpr c)
    omega
  refine ⟨_, rfl, _, _, rfl, rfl, (by show (0 : Int) < 4; decide), .inr (.inl ⟨rfl, _, rfl, ?_⟩)⟩
  rw [dec_int]
  refine ite2 (fun c => ?_) (fun c => ?_)
  · exact ⟨_, rfl, _, rfl, _, _, rfl, rfl, .inl ⟨by decide, by decide⟩, _, _, rfl, rfl, (by show (0 : Int) < 3; decide), .inl ⟨p4, _, _, v, rfl, rfl, SqL.of hl4, ev, fin _ q⟩⟩
  refine ⟨_, rfl, _, _, rfl, rfl, .inl ⟨by decide, by decide⟩, _, rfl, _, _, rfl, rfl, _, _, rfl, by omega, by omega, fun t v1 H2 r1 w1 d1 o5 => ?_⟩
  refine ⟨_, rfl, .inr ⟨_, _, rfl, rfl, .inr ⟨by decide, by decide⟩, _, _, rfl, rfl, (by show (0 : Int) < 2147483647; decide), _, rfl, _, _, rfl, rfl, _, _, rfl, by omega, by omega, fun t' v2 H3 r2 w2 d2 o6 => ?_⟩⟩
  refine ⟨_, rfl, _, rfl, by show 3 ≤ sizeLine; decide, fun q1 hq1 => ⟨_, rfl, by show 2 ≤ sizeLine; decide, fun q2 hq2 => ⟨_, rfl, _, rfl, by show 3 ≤ sizeLine; decide, fun q3 hq3 => ⟨by show 3 ≤ sizeLine; decide, fun q4 hq4 => ?_⟩⟩⟩⟩
  have u1 : Old H3 (upd H3 q1 (.tup [.str "to", v1, v2])) := Old.new hq1
  have u2 := Old.new (o := .tup [.str "row", v1]) hq2
  have u3 := Old.new (o := .tup [.str "pair", v1, v2]) hq3
  have u4 := Old.new (o := .lst [.ref q1, .ref q2, .ref q3]) hq4
  have uu := ((u1.trans u2).trans u3).trans u4
  obtain ⟨u, x, ex, wu, du, ru⟩ := deep3 (K := K) m0 m1 ((r1.mono o6.tm).mono uu.tm) (r2.mono uu.tm) w1 w2 (.of (u4 _ _ (u3 _ _ (u2 _ _ upd_same)))) (.of (u4 _ _ (u3 _ _ upd_same))) (.of (u4 _ _ upd_same))
  refine ⟨_, rfl, _, _, rfl, rfl, .inl ⟨by decide, by decide⟩, _, _, rfl, rfl, (by show (0 : Int) < 3; decide), .inl ⟨q4, _, _, x, rfl, rfl, SqL.of upd_same, ex, ?_⟩⟩
  exact q u x _ ru wu (by omega) (((oo.trans o5).trans o6).trans uu)
end
end L2.K31

end
section
set_option Elab.async false
set_option linter.all false
set_option maxRecDepth 100000
set_option maxHeartbeats 8000000
namespace L2.K31
open PySem PySem.Spec PyProof.Rows L2.Bw L2.Bk L2.Ex
section
variable {P : Program} {w : World} {K : PySem.W.Frag} {mg : Str → Option Value} {base : Heap} {f : Addr} {fd : FuncData}
/-! ### steps -/
noncomputable abbrev sLS : Stmt := top 50
noncomputable def spLS (K : PySem.W.Frag) : Sp := fun vs H Q _ => ∃ (h : Str) (n : Nat), vs = [.str h] ∧ arity h = some n ∧ n ≠ 0 ∧ ∀ (r : Addr) (H' : Hp), Old H H' → H' r = some (.lst ((stepsOf h).map V.str)) → Q (.ref r) H'
theorem scLS : FnScope ["_law_head"] ["_law_head"] (defScope sLS) := ⟨rfl, rfl, rfl, by decide +kernel, rfl, by decide +kernel, by decide +kernel⟩
theorem three {h : Str} {n : Nat} (e : arity h = some n) (n0 : n ≠ 0) : h = "to" ∨ h = "row" ∨ h = "pair" := by
  have z := heads_of e
  have l := steps_len e
  rcases List.mem_cons.mp z with rfl | z
  · exact absurd ((show (stepsOf "whole").length = 0 by decide +kernel).symm.trans l).symm n0
  rcases List.mem_cons.mp z with rfl | z
  · exact absurd ((show (stepsOf "truth").length = 0 by decide +kernel).symm.trans l).symm n0
  rcases List.mem_cons.mp z with rfl | z
  · exact absurd ((show (stepsOf "?").length = 0 by decide +kernel).symm.trans l).symm n0
  rcases List.mem_cons.mp z with rfl | z
  · exact .inr (.inl rfl)
  rcases List.mem_cons.mp z with rfl | z
  · exact .inl rfl
  rcases List.mem_cons.mp z with rfl | z
  · exact .inr (.inr rfl)
  · exact nomatch z
theorem st_to : stepsOf "to" = (["arg", "res"] : List Str) := by decide +kernel
theorem st_row : stepsOf "row" = (["item"] : List Str) := by decide +kernel
theorem st_pair : stepsOf "pair" = (["one", "two"] : List Str) := by decide +kernel
theorem ok_LS {m : Nat} (F : Fun K "_law_steps" "_law_steps" sLS f fd) (T : Tx mg) : FnOk P w K mg base CX0 (m + 1) f fd ["_law_head"] (spLS K) := by
  refine F.ok scLS (fun vs H Q E h => ?_) (fun cdv A outer s H vs Q E hr h => ?_)
  · obtain ⟨h, n, rfl, _⟩ := h
    rfl
  obtain ⟨h, n, rfl, e, n0, q⟩ := h
  have nd := scLS.nd
  refine' ⟨_, ?n0, ?Z⟩
  case' n0 => refine' pss_cons ?n1 ?n2
  case' n1 => refine' ps_if ?n3 ?n4 ?n5
  case' n3 => refine' pt_cmpR (op_eqG hr) ?n6 ?n7 (nomark _)
  case n6 => exact pv 0
  case n7 => exact pe_str
  case' n4 => refine' pss_one ?n8
  case' n8 => refine' ps_ret ?n9
  case' n9 => refine' pe_lst ?n10
  case' n10 => refine' pa ?n11 ?n12
  case n11 => exact pe_str
  case' n12 => refine' pa ?n13 ?n14
  case n13 => exact pe_str
  case n14 => exact pa_nil
  case n5 => exact pss_nil
  case' n2 => refine' pss_cons ?n15 ?n16
  case' n15 => refine' ps_if ?n17 ?n18 ?n19
  case' n17 => refine' pt_cmpR (op_eqG hr) ?n20 ?n21 (nomark _)
  case n20 => exact pv 0
  case n21 => exact pe_str
  case' n18 => refine' pss_one ?n22
  case' n22 => refine' ps_ret ?n23
  case' n23 => refine' pe_lst ?n24
  case' n24 => refine' pa ?n25 ?n26
  case n25 => exact pe_str
  case n26 => exact pa_nil
  case n19 => exact pss_nil
  case' n16 => refine' pss_one ?n27
  case' n27 => refine' ps_ret ?n28
  case' n28 => refine' pe_lst ?n29
  case' n29 => refine' pa ?n30 ?n31
  case n30 => exact pe_str
  case' n31 => refine' pa ?n32 ?n33
  case n32 => exact pe_str
  case n33 => exact pa_nil
  rcases three e n0 with rfl | rfl | rfl
  · refine ⟨_, rfl, .inr (.inl ⟨rfl, _, rfl, ?_⟩)⟩; rw [dec_s]
    refine ite2 (fun _ => ?_) (fun c => absurd (decide_eq_true rfl) c)
    rw [st_to] at q
    exact ⟨by show 2 ≤ sizeLine; decide, fun r hr0 => q r _ (Old.new hr0) upd_same⟩
  · refine ⟨_, rfl, .inr (.inl ⟨rfl, _, rfl, ?_⟩)⟩; rw [dec_s]
    refine ite2 (fun c => absurd (of_decide_eq_true c) (by decide +kernel)) (fun _ => ?_)
    refine ⟨_, rfl, .inr (.inl ⟨rfl, _, rfl, ?_⟩)⟩; rw [dec_s]
    refine ite2 (fun _ => ?_) (fun c => absurd (decide_eq_true rfl) c)
    rw [st_row] at q
    exact ⟨by show 1 ≤ sizeLine; decide, fun r hr0 => q r _ (Old.new hr0) upd_same⟩
  · refine ⟨_, rfl, .inr (.inl ⟨rfl, _, rfl, ?_⟩)⟩; rw [dec_s]
    refine ite2 (fun c => absurd (of_decide_eq_true c) (by decide +kernel)) (fun _ => ?_)
    refine ⟨_, rfl, .inr (.inl ⟨rfl, _, rfl, ?_⟩)⟩; rw [dec_s]
    refine ite2 (fun c => absurd (of_decide_eq_true c) (by decide +kernel)) (fun _ => ?_)
    rw [st_pair] at q
    exact ⟨by show 2 ≤ sizeLine; decide, fun r hr0 => q r _ (Old.new hr0) upd_same⟩
/-! ### parting -/
noncomputable abbrev sLP : Stmt := top 51
theorem scLP : FnScope ["_law_kind", "_law_other", "_law_k", "_law_inner_here"] ["_law_kind", "_law_other"] (defScope sLP) := ⟨rfl, rfl, rfl, by decide +kernel, rfl, by decide +kernel, by decide +kernel⟩
theorem ok_LP {m : Nat} (F : Fun K "_law_parting" "_law_parting" sLP f fd) (T : Tx mg) (c_steps : Cal P w K mg base "_law_steps" ["_law_head"] 1 (spLS K)) (c_parting : Cal P w K mg base "_law_parting" ["_law_kind", "_law_other"] (m + 1) (spParting K m)) :
    FnOk P w K mg base CX0 (m + 2) f fd ["_law_kind", "_law_other"] (spParting K (m + 1)) := by
  refine F.ok scLP (fun vs H Q E h => ?_) (fun cdv A outer s H vs Q E hr h => ?_)
  · obtain ⟨x, y, a, b, rfl, _⟩ := h
    rfl
  obtain ⟨x, y, a, b, rfl, rx, ry, wa, wb, hm, h8, q⟩ := h
  have nd := scLP.nd
  obtain ⟨h, ks⟩ := a
  obtain ⟨g, ls⟩ := b
  have rx' : RK K H (.tup (.str h :: Kn.ds ks)) x := rx
  have ry' : RK K H (.tup (.str g :: Kn.ds ls)) y := ry
  obtain ⟨xa, us, rfl, ha, ru⟩ := RK.kind rx'
  obtain ⟨xb, ws, rfl, hb, rw'⟩ := RK.kind ry'
  have hm' : 1 + Kn.deps ks < m + 1 := hm
  have h8' : 1 + Kn.deps ks ≤ 8 := h8
  obtain ⟨ea, wks⟩ := wa
  obtain ⟨eb, wls⟩ := wb
  have lu := ru.length
  have lw := rw'.length
  rw [ds_length] at lu lw
  have ep : (Kn.mk h ks).part (.mk g ls) = if h = "?" then none else if g = "?" then none else if h = g then Kn.parts (stepsOf h) ks ls else some [] := rfl
  refine' ⟨_, ?n0, ?Z⟩
  case' n0 => refine' pss_cons ?n1 ?n2
  case' n1 => refine' ps_if ?n3 ?n4 ?n5
  case' n3 => refine' PW.pt ?n6
  case' n6 => refine' pw_or ?n7 ?n8
  case' n7 => refine' pt_cmpR (op_eqG hr) ?n9 ?n10 (nomark _)
  case' n9 => refine' pe_ix ix_seq ?n11 ?n12 (fun _ _ => rfl)
  case n11 => exact pv 0
  case n12 => exact pe_int
  case n10 => exact pe_str
  case' n8 => refine' pw_or1 ?n13
  case' n13 => refine' pt_cmpR (op_eqG hr) ?n14 ?n15 (nomark _)
  case' n14 => refine' pe_ix ix_seq ?n16 ?n17 (fun _ _ => rfl)
  case n16 => exact pv 1
  case n17 => exact pe_int
  case n15 => exact pe_str
  case' n4 => refine' pss_one ?n18
  case' n18 => refine' ps_ret ?n19
  case n19 => exact pe_non
  case n5 => exact pss_nil
  case' n2 => refine' pss_cons ?n20 ?n21
  case' n20 => refine' ps_if ?n22 ?n23 ?n24
  case' n22 => refine' pt_cmpR (op_neG hr) ?n25 ?n26 (nomark _)
  case' n25 => refine' pe_ix ix_seq ?n27 ?n28 (fun _ _ => rfl)
  case n27 => exact pv 0
  case n28 => exact pe_int
  case' n26 => refine' pe_ix ix_seq ?n29 ?n30 (fun _ _ => rfl)
  case n29 => exact pv 1
  case n30 => exact pe_int
  case' n23 => refine' pss_one ?n31
  case' n31 => refine' ps_ret ?n32
  case' n32 => refine' pe_tup ?n33
  case n33 => exact pa_nil
  case n24 => exact pss_nil
  case' n21 => refine' pss_cons ?n34 ?n35
  case' n34 => refine' ps_for PassesOwn.never rfl ?n36 ?n37 ?n38
  case' n36 => refine' pi_range2 rfl T.range ?n39
  case' n39 => refine' pa ?n40 ?n41
  case n40 => exact pe_int
  case' n41 => refine' pa ?n42 ?n43
  case' n42 => refine' pe_callB (call_lenA) rfl T.len boot_len ?n44
  case' n44 => refine' pa ?n45 ?n46
  case n45 => exact pv 0
  case n46 => exact pa_nil
  case n43 => exact pa_nil
  case n37 => exact pg_name (i := 2) nd rfl (Or.inl rfl)
  case' n38 => refine' pss_cons ?n47 ?n48
  case' n47 => refine' ps_setX (i := 3) nd rfl (Or.inl rfl) rfl (by first | exact .inl rfl | exact .inr rfl) ?n49
  case' n49 => refine' pe_cal c_parting hr ?n50
  case' n50 => refine' pa ?n51 ?n52
  case' n51 => refine' pe_ix ix_seq ?n53 ?n54 (fun _ _ => rfl)
  case n53 => exact pv 0
  case n54 => exact pv 2
  case' n52 => refine' pa ?n55 ?n56
  case' n55 => refine' pe_ix ix_seq ?n57 ?n58 (fun _ _ => rfl)
  case n57 => exact pv 1
  case n58 => exact pv 2
  case n56 => exact pa_nil
  case' n48 => refine' pss_one ?n59
  case' n59 => refine' ps_if ?n60 ?n61 ?n62
  case' n60 => refine' pt_cmpR op_notN ?n63 ?n64 (nomark _)
  case n63 => exact pv 3
  case n64 => exact pe_non
  case' n61 => refine' pss_one ?n65
  case' n65 => refine' ps_ret ?n66
  case' n66 => refine' pe_op op_addG ?n67 ?n68
  case' n67 => refine' pe_tup ?n69
  case' n69 => refine' pa ?n70 ?n71
  case' n70 => refine' pe_ix ix_seq ?n72 ?n73 (fun _ _ => rfl)
  case' n72 => refine' pe_cal c_steps hr ?n74
  case' n74 => refine' pa ?n75 ?n76
  case' n75 => refine' pe_ix ix_seq ?n77 ?n78 (fun _ _ => rfl)
  case n77 => exact pv 0
  case n78 => exact pe_int
  case n76 => exact pa_nil
  case' n73 => refine' pe_op op_sub ?n79 ?n80
  case n79 => exact pv 2
  case n80 => exact pe_int
  case n71 => exact pa_nil
  case n68 => exact pv 3
  case n62 => exact pss_nil
  case' n35 => refine' pss_one ?n81
  case' n81 => refine' ps_ret ?n82
  case n82 => exact pe_non
  refine ⟨_, rfl, .inr (.inl ⟨xa, _, 0, .str h, rfl, rfl, ha.sq, at0, .inr (.inl ⟨rfl, _, rfl, ?_⟩)⟩)⟩
  rw [dec_s]
  by_cases c1 : h = "?"
  · rw [decide_eq_true c1]
    rw [ep, if_pos c1] at q
    exact iteT (iteT (q .non H (Old.refl _) .n))
  rw [decide_eq_false c1]
  rw [if_neg c1] at ep
  refine iteF ?_
  refine ⟨_, rfl, .inr (.inl ⟨xb, _, 0, .str g, rfl, rfl, hb.sq, at0, .inr (.inl ⟨rfl, _, rfl, ?_⟩)⟩)⟩
  rw [dec_s]
  by_cases c2 : g = "?"
  · rw [decide_eq_true c2]
    rw [ep, if_pos c2] at q
    exact iteT (q .non H (Old.refl _) .n)
  rw [decide_eq_false c2]
  rw [if_neg c2] at ep
  refine iteF ?_
  refine ⟨_, rfl, .inr (.inl ⟨xa, _, 0, .str h, rfl, rfl, ha.sq, at0, _, rfl, .inr (.inl ⟨xb, _, 0, .str g, rfl, rfl, hb.sq, at0, .inr (.inl ⟨rfl, _, rfl, ?_⟩)⟩)⟩)⟩
  rw [dec_s]
  by_cases c : h = g
  · subst c
    rw [decide_eq_true rfl]
    refine iteF ?_
    rw [if_pos rfl] at ep
    rw [ep] at q
    have el : ks.length = ls.length := by rw [ea] at eb; exact Option.some.inj eb
    have es := steps_len ea
    have few := arity_le ea
    refine ⟨_, rfl, .inl ⟨xa, _, rfl, .inr ha.sq, _, _, rfl, ?_⟩⟩
    have nn : ((V.str h :: us).length : Int) = 1 + (ks.length : Int) := by rw [List.length_cons]; omega
    refine ⟨⟨by decide, by decide, by omega, by omega⟩, ?_⟩
    have en : (((V.str h :: us).length : Nat) - (1 : Int)).toNat = ks.length := by omega
    rw [en]
    refine for_range (lo := 1) (n := ks.length) (fun i σ H3 => ∃ (k1 k2 : Option V), σ = [some (.ref xa), some (.ref xb), k1, k2] ∧ Old H H3 ∧ Kn.parts (stepsOf h) ks ls = Kn.parts ((stepsOf h).drop i) (ks.drop i) (ls.drop i)) ⟨none, none, rfl, Old.refl _, rfl⟩ ?_ ?_
    · intro i σ H3 hi hv
      obtain ⟨k1, k2, rfl, o3, e3⟩ := hv
      have i0 : i < (stepsOf h).length := by omega
      have i2 : i < ls.length := by omega
      obtain ⟨u, eu, rku⟩ := (ru.mono o3.tm).get (ds_get hi)
      obtain ⟨u', eu', rku'⟩ := (rw'.mono o3.tm).get (ds_get i2)
      have eat : atI (V.str h :: us) (1 + (i : Int)) = some u := by
        have z : atI (V.str h :: us) ((i + 1 : Nat) : Int) = some u := atI_nat (by rw [List.getElem?_cons_succ]; exact eu)
        rwa [show ((i + 1 : Nat) : Int) = 1 + (i : Int) by omega] at z
      have eat' : atI (V.str h :: ws) (1 + (i : Int)) = some u' := by
        have z : atI (V.str h :: ws) ((i + 1 : Nat) : Int) = some u' := atI_nat (by rw [List.getElem?_cons_succ]; exact eu')
        rwa [show ((i + 1 : Nat) : Int) = 1 + (i : Int) by omega] at z
      have dg := deps_get hi
      refine ⟨_, rfl, _, rfl, .inr (.inl ⟨xa, _, _, u, rfl, rfl, (ha.mono o3.tm).sq, eat, _, rfl, _, rfl, .inr (.inl ⟨xb, _, _, u', rfl, rfl, (hb.mono o3.tm).sq, eat', u, u', ks[i], ls[i], rfl, rku, rku', wfs_get hi wks, wfs_get i2 wls, by omega, by omega, fun wv H5 o5 rv => ?_⟩)⟩)⟩
      have pd' := parts_drop i0 hi i2
      rw [← e3] at pd'
      refine ⟨_, rfl, rfl, _, rfl, ?_⟩
      cases hp : ks[i].part ls[i] with
      | none =>
        rw [hp] at rv pd'
        cases (show wv = .non by rw [od, RK] at rv; exact rv)
        exact iteF ⟨_, _, rfl, o3.trans o5, pd'⟩
      | some w0 =>
        rw [hp] at rv pd'
        obtain ⟨wa', wvs, rfl, hwa, rws⟩ := RK.get (show RK K H5 (.tup (w0.map Dk.str)) wv from rv)
        refine iteT ?_
        have lw0 := rws.length
        rw [List.length_map] at lw0
        have hmem : w0 ∈ ks[i].ways ls[i] := by
          have e := part_ways ks[i] ls[i]
          rw [hp] at e
          cases hw : ks[i].ways ls[i] with
          | nil => rw [hw] at e; cases e
          | cons w1 r1 => rw [hw] at e; cases e; exact List.mem_cons_self
        have sh := way_short _ _ _ hmem
        have o35 := o3.trans o5
        refine ⟨_, rfl, .inr (.inl ⟨xa, _, 0, .str h, rfl, rfl, (ha.mono o35.tm).sq, at0, h, ks.length, rfl, ea, by omega, fun r6 H6 o6 hr6 => ?_⟩)⟩
        refine ⟨_, rfl, _, _, rfl, rfl, .inl ⟨r6, _, _, .str (stepsOf h)[i], rfl, rfl, SqL.of hr6, ?_, by show 1 ≤ sizeLine; decide, fun p7 hp7 => ⟨_, rfl, ?_⟩⟩⟩
        · have z : atI ((stepsOf h).map V.str) ((i : Nat) : Int) = some (.str (stepsOf h)[i]) := atI_nat (by rw [List.getElem?_map, List.getElem?_eq_getElem i0]; rfl)
          rwa [show ((i : Nat) : Int) = 1 + (i : Int) - 1 by omega] at z
        have o7 := Old.new (o := .tup [.str (stepsOf h)[i]]) hp7
        refine .inr (addT (cat_k (ds := [.str (stepsOf h)[i]]) (.of upd_same) (hwa.mono (o6.trans o7).tm) (.cons (.s _) .nil) (rws.mono (o6.trans o7).tm) (by simp) (by simp; omega) fun c8 H8 o8 r8 => ?_))
        refine q (.ref c8) H8 (((o35.trans o6).trans o7).trans o8) ?_
        rw [pd']
        exact r8
    · intro σ H3 hv
      obtain ⟨k1, k2, rfl, o3, e3⟩ := hv
      refine q .non H3 o3 ?_
      rw [e3, ← es, List.drop_length, Kn.parts]
      exact .n
  · rw [decide_eq_false c]
    refine iteT ?_
    rw [if_neg c] at ep
    rw [ep] at q
    refine ⟨by show 0 ≤ sizeLine; decide, fun p hp => ?_⟩
    exact q (.ref p) _ (Old.new hp) (RK.tup (.of upd_same) .nil)
end
end L2.K31

end
section
set_option Elab.async false
set_option linter.all false
set_option maxRecDepth 100000
set_option maxHeartbeats 8000000
namespace L2.K31
open PySem PySem.Spec PyProof.Rows L2.Bw L2.Bk L2.Ex
/-- a leaf at any place -/
structure Lf (w : Str) (fr mid : List Dk) (ms : List Kn) (k : Kn) : Prop where
  nd : ∀ p : Int, 0 ≤ p → p < 100000 → Nd (.mk w p fr mid []) ms k
  nm : w ≠ "name"
theorem kok_of : ∀ h ∈ (["whole", "truth"] : List Str), (Kn.mk h []).ok ∧ (Kn.mk h []).dep ≤ 4 ∧ (Kn.mk h []).wf := by
  intro h hh
  refine ⟨⟨Nat.zero_le _, trivial⟩, by show 1 + 0 ≤ 4; decide, ?_, trivial⟩
  have : h ∈ (["whole", "truth", "?"] : List Str) := by
    rcases List.mem_cons.mp hh with rfl | hh
    · decide +kernel
    rcases List.mem_cons.mp hh with rfl | hh
    · decide +kernel
    · exact nomatch hh
  exact ar0 h this
theorem lf_flat {w : Str} {d : Dk} {h : Str} (hw : w ∈ K11.words) (n1 : K11.nf w = 1) (n2 : K11.nk w = 0) (n3 : K11.np w = 0) (nn : w ∉ named) (nl : w ≠ "look") (nr : w ≠ "row") (nm : w ≠ "name") (hh : h ∈ (["whole", "truth"] : List Str)) (ow : ∀ p, ownD (.mk w p [d] [] []) = some (Kn.mk h []).d) : Lf w [d] [] [] (.mk h []) :=
  ⟨fun p p0 p1 => ⟨⟨⟨hw, n1.symm, n2.symm, fun _ => n3.symm, Nat.zero_le _, fun z => absurd z nn, p0, p1⟩, trivial⟩, nl, rfl, (fun z hz => nomatch hz), ow p, (kok_of h hh).1, (kok_of h hh).2.1, (kok_of h hh).2.2⟩, nm⟩
theorem lf_whole {d : Dk} : Lf "whole" [d] [] [] (.mk "whole" []) := lf_flat (by decide +kernel) (by decide +kernel) (by decide +kernel) (by decide +kernel) (by decide +kernel) (by decide +kernel) (by decide +kernel) (by decide +kernel) (by decide +kernel) (fun p => by rw [ownD, if_pos (.inl rfl)]; rfl)
theorem lf_given {d : Dk} : Lf "given" [d] [] [] (.mk "whole" []) := lf_flat (by decide +kernel) (by decide +kernel) (by decide +kernel) (by decide +kernel) (by decide +kernel) (by decide +kernel) (by decide +kernel) (by decide +kernel) (by decide +kernel) (fun p => by rw [ownD, if_pos (.inr rfl)]; rfl)
theorem lf_truth {d : Dk} : Lf "truth" [d] [] [] (.mk "truth" []) := lf_flat (by decide +kernel) (by decide +kernel) (by decide +kernel) (by decide +kernel) (by decide +kernel) (by decide +kernel) (by decide +kernel) (by decide +kernel) (by decide +kernel) (fun p => by rw [ownD, if_neg (by decide +kernel), if_pos rfl]; rfl)
theorem lf_row {k : Kn} (wk : k.wf) (ok : k.ok) (dk : k.dep ≤ 3) : Lf "row" [] [k.d] [k] (.mk "row" [k]) :=
  ⟨fun p p0 p1 => ⟨⟨⟨by decide +kernel, by decide +kernel, by show 1 = K11.nk "row"; decide +kernel, fun z => absurd rfl z, Nat.zero_le _, fun z => absurd z (by decide +kernel), p0, p1⟩, trivial⟩, by show ("row" : Str) ≠ "look"; decide +kernel, rfl, fun z hz => by rw [List.mem_singleton.mp hz]; exact ⟨ok, by omega⟩,
    by rw [ownD, if_neg (by decide +kernel), if_neg (by decide +kernel), if_pos rfl]; rfl, ⟨by show 1 ≤ 2; decide, ok, trivial⟩, by show 1 + max k.dep 0 ≤ 4; omega, ⟨ar1, wk, trivial⟩⟩, by decide +kernel⟩
mutual
theorem ok_of_wf : ∀ {k : Kn}, k.wf → k.ok
  | .mk h ks, ⟨e, z⟩ => ⟨arity_le e, oks_of_wfs z⟩
theorem oks_of_wfs : ∀ {ks : List Kn}, Kn.wfs ks → Kn.oks ks
  | [], _ => trivial
  | _ :: _, ⟨a, b⟩ => ⟨ok_of_wf a, oks_of_wfs b⟩
end
section
variable {P : Program} {w : World} {K : PySem.W.Frag} {mg : Str → Option Value} {base : Heap} {f : Addr} {fd : FuncData}
/-! ### inner -/
noncomputable abbrev sIn : Stmt := top 52
noncomputable def spIn (K : PySem.W.Frag) : Sp := fun vs H Q _ => ∃ (c p : Int), vs = [.int c, .int p] ∧
  ∀ (x : Str) (fr mid : List Dk) (ms : List Kn) (k : Kn) (r : Addr) (nv kv : V) (H' : Hp), Lf x fr mid ms k → Old H H' → RK K H' (Tn.mk x p fr mid []).d nv → RK K H' k.d kv → H' r = some (.tup [nv, kv]) → Q (.ref r) H'
theorem scIn : FnScope ["_law_cell", "_law_place", "_law_kind"] ["_law_cell", "_law_place"] (defScope sIn) := ⟨rfl, rfl, rfl, by decide +kernel, rfl, by decide +kernel, by decide +kernel⟩
theorem ok_In {m : Nat} (F : Fun K "_law_inner" "_law_inner" sIn f fd) (T : Tx mg) (c_kind_by : Cal P w K mg base "_law_kind_by" ["_law_cell", "_law_deep"] 5 (spKb K 4)) : FnOk P w K mg base CX0 (m + 6) f fd ["_law_cell", "_law_place"] (spIn K) := by
  refine F.ok scIn (fun vs H Q E h => ?_) (fun cdv A outer s H vs Q E hr h => ?_)
  · obtain ⟨c, p, rfl, _⟩ := h
    rfl
  obtain ⟨c, p, rfl, q⟩ := h
  have nd := scIn.nd
  refine' ⟨_, ?n0, ?Z⟩
  case' n0 => refine' pss_cons ?n1 ?n2
  case' n1 => refine' ps_if ?n3 ?n4 ?n5
  case' n3 => refine' pt_cmpR (op_eqG hr) ?n6 ?n7 (nomark _)
  case' n6 => refine' pe_op op_mod ?n8 ?n9
  case n8 => exact pv 0
  case n9 => exact pe_int
  case n7 => exact pe_int
  case' n4 => refine' pss_one ?n10
  case' n10 => refine' ps_ret ?n11
  case' n11 => refine' pe_tup ?n12
  case' n12 => refine' pa ?n13 ?n14
  case' n13 => refine' pe_tup ?n15
  case' n15 => refine' pa ?n16 ?n17
  case n16 => exact pe_str
  case' n17 => refine' pa ?n18 ?n19
  case n18 => exact pv 1
  case' n19 => refine' pa ?n20 ?n21
  case' n20 => refine' pe_op op_addG ?n22 ?n23
  case' n22 => refine' pe_op op_sub ?n24 ?n25
  case' n24 => refine' pe_op op_mod ?n26 ?n27
  case' n26 => refine' pe_op op_fdivG ?n28 ?n29
  case n28 => exact pv 0
  case n29 => exact pe_int
  case' n27 => refine' pe_op op_sub ?n30 ?n31
  case' n30 => refine' pe_op op_mulG ?n32 ?n33
  case n32 => exact pe_int
  case' n33 => refine' pe_op op_pow ?n34 ?n35
  case n34 => exact pe_int
  case n35 => exact pe_int
  case n31 => exact pe_int
  case' n25 => refine' pe_op op_pow ?n36 ?n37
  case n36 => exact pe_int
  case n37 => exact pe_int
  case n23 => exact pe_int
  case n21 => exact pa_nil
  case' n14 => refine' pa ?n38 ?n39
  case' n38 => refine' pe_tup ?n40
  case' n40 => refine' pa ?n41 ?n42
  case n41 => exact pe_str
  case n42 => exact pa_nil
  case n39 => exact pa_nil
  case n5 => exact pss_nil
  case' n2 => refine' pss_cons ?n43 ?n44
  case' n43 => refine' ps_if ?n45 ?n46 ?n47
  case' n45 => refine' pt_cmpR (op_eqG hr) ?n48 ?n49 (nomark _)
  case' n48 => refine' pe_op op_mod ?n50 ?n51
  case n50 => exact pv 0
  case n51 => exact pe_int
  case n49 => exact pe_int
  case' n46 => refine' pss_one ?n52
  case' n52 => refine' ps_ret ?n53
  case' n53 => refine' pe_tup ?n54
  case' n54 => refine' pa ?n55 ?n56
  case' n55 => refine' pe_tup ?n57
  case' n57 => refine' pa ?n58 ?n59
  case n58 => exact pe_str
  case' n59 => refine' pa ?n60 ?n61
  case n60 => exact pv 1
  case' n61 => refine' pa ?n62 ?n63
  case' n62 => refine' pe_cmpR (op_eqG hr) ?n64 ?n65 (nomark _)
  case' n64 => refine' pe_op op_mod ?n66 ?n67
  case' n66 => refine' pe_op op_fdivG ?n68 ?n69
  case n68 => exact pv 0
  case n69 => exact pe_int
  case n67 => exact pe_int
  case n65 => exact pe_int
  case n63 => exact pa_nil
  case' n56 => refine' pa ?n70 ?n71
  case' n70 => refine' pe_tup ?n72
  case' n72 => refine' pa ?n73 ?n74
  case n73 => exact pe_str
  case n74 => exact pa_nil
  case n71 => exact pa_nil
  case n47 => exact pss_nil
  case' n44 => refine' pss_cons ?n75 ?n76
  case' n75 => refine' ps_if ?n77 ?n78 ?n79
  case' n77 => refine' pt_cmpR (op_eqG hr) ?n80 ?n81 (nomark _)
  case' n80 => refine' pe_op op_mod ?n82 ?n83
  case n82 => exact pv 0
  case n83 => exact pe_int
  case n81 => exact pe_int
  case' n78 => refine' pss_one ?n84
  case' n84 => refine' ps_ret ?n85
  case' n85 => refine' pe_tup ?n86
  case' n86 => refine' pa ?n87 ?n88
  case' n87 => refine' pe_tup ?n89
  case' n89 => refine' pa ?n90 ?n91
  case n90 => exact pe_str
  case' n91 => refine' pa ?n92 ?n93
  case n92 => exact pv 1
  case' n93 => refine' pa ?n94 ?n95
  case' n94 => refine' pe_op op_mod ?n96 ?n97
  case' n96 => refine' pe_op op_fdivG ?n98 ?n99
  case n98 => exact pv 0
  case n99 => exact pe_int
  case n97 => exact pe_int
  case n95 => exact pa_nil
  case' n88 => refine' pa ?n100 ?n101
  case' n100 => refine' pe_tup ?n102
  case' n102 => refine' pa ?n103 ?n104
  case n103 => exact pe_str
  case n104 => exact pa_nil
  case n101 => exact pa_nil
  case n79 => exact pss_nil
  case' n76 => refine' pss_cons ?n105 ?n106
  case' n105 => refine' ps_setX (i := 2) nd rfl (Or.inl rfl) rfl (by first | exact .inl rfl | exact .inr rfl) ?n107
  case' n107 => refine' pe_cal c_kind_by hr ?n108
  case' n108 => refine' pa ?n109 ?n110
  case' n109 => refine' pe_op op_mod ?n111 ?n112
  case' n111 => refine' pe_op op_mulG ?n113 ?n114
  case' n113 => refine' pe_op op_fdivG ?n115 ?n116
  case n115 => exact pv 0
  case n116 => exact pe_int
  case n114 => exact pe_int
  case n112 => exact pe_int
  case' n110 => refine' pa ?n117 ?n118
  case n117 => exact pe_int
  case n118 => exact pa_nil
  case' n106 => refine' pss_one ?n119
  case' n119 => refine' ps_ret ?n120
  case' n120 => refine' pe_tup ?n121
  case' n121 => refine' pa ?n122 ?n123
  case' n122 => refine' pe_tup ?n124
  case' n124 => refine' pa ?n125 ?n126
  case n125 => exact pe_str
  case' n126 => refine' pa ?n127 ?n128
  case n127 => exact pv 1
  case' n128 => refine' pa ?n129 ?n130
  case n129 => exact pv 2
  case' n130 => refine' pa ?n131 ?n132
  case' n131 => refine' pe_tup ?n133
  case n133 => exact pa_nil
  case n132 => exact pa_nil
  case' n123 => refine' pa ?n134 ?n135
  case' n134 => refine' pe_tup ?n136
  case' n136 => refine' pa ?n137 ?n138
  case n137 => exact pe_str
  case' n138 => refine' pa ?n139 ?n140
  case n139 => exact pv 2
  case n140 => exact pa_nil
  case n135 => exact pa_nil
  refine ⟨_, rfl, _, _, rfl, rfl, (by show (0 : Int) < 4; decide), .inr (.inl ⟨rfl, _, rfl, ?_⟩)⟩
  rw [dec_int]
  refine ite2 (fun _ => ?_) (fun _ => ?_)
  · refine ⟨_, rfl, _, rfl, _, _, rfl, rfl, .inl ⟨by decide, by decide⟩, _, _, rfl, rfl, ⟨by decide, by decide, by decide⟩, .inr ⟨_, _, rfl, rfl, .inl ⟨by decide, by decide⟩, _, _, rfl, rfl, _, _, rfl, rfl, (by show (0 : Int) < 2 * 10 ^ Int.toNat 40 - 1; decide +kernel), _, _, rfl, rfl, ⟨by decide, by decide, by decide⟩, _, _, rfl, rfl, ?_⟩⟩
    refine .inr (.inl ⟨_, _, rfl, rfl, ?_⟩)
    refine ⟨by show 3 ≤ sizeLine; decide, fun p1 hp1 => ⟨by show 1 ≤ sizeLine; decide, fun p2 hp2 => ⟨by show 2 ≤ sizeLine; decide, fun p3 hp3 => ?_⟩⟩⟩
    have u2 := Old.new (o := .tup [.str "whole"]) hp2
    have u3 := Old.new (o := .tup [.ref p1, .ref p2]) hp3
    exact q "whole" [.int _] [] [] (.mk "whole" []) p3 (.ref p1) (.ref p2) _ lf_whole ((Old.new hp1).trans (u2.trans u3)) (RK.tup (.of (u3 _ _ (u2 _ _ upd_same))) (.cons (.s _) (.cons (.i _) (.cons (.i _) .nil)))) (RK.tup (.of (u3 _ _ upd_same)) (.cons (.s _) .nil)) upd_same
  refine ⟨_, rfl, _, _, rfl, rfl, (by show (0 : Int) < 4; decide), .inr (.inl ⟨rfl, _, rfl, ?_⟩)⟩
  rw [dec_int]
  refine ite2 (fun _ => ?_) (fun _ => ?_)
  · refine ⟨_, rfl, _, rfl, _, _, rfl, rfl, .inl ⟨by decide, by decide⟩, _, _, rfl, rfl, (by show (0 : Int) < 2; decide), .inr (.inl ⟨rfl, by show 3 ≤ sizeLine; decide, fun p1 hp1 => ⟨by show 1 ≤ sizeLine; decide, fun p2 hp2 => ⟨by show 2 ≤ sizeLine; decide, fun p3 hp3 => ?_⟩⟩⟩)⟩
    have u2 := Old.new (o := .tup [.str "truth"]) hp2
    have u3 := Old.new (o := .tup [.ref p1, .ref p2]) hp3
    exact q "truth" [.bl _] [] [] (.mk "truth" []) p3 (.ref p1) (.ref p2) _ lf_truth ((Old.new hp1).trans (u2.trans u3)) (RK.tup (.of (u3 _ _ (u2 _ _ upd_same))) (.cons (.s _) (.cons (.i _) (.cons (.b _) .nil)))) (RK.tup (.of (u3 _ _ upd_same)) (.cons (.s _) .nil)) upd_same
  refine ⟨_, rfl, _, _, rfl, rfl, (by show (0 : Int) < 4; decide), .inr (.inl ⟨rfl, _, rfl, ?_⟩)⟩
  rw [dec_int]
  refine ite2 (fun _ => ?_) (fun _ => ?_)
  · refine ⟨_, rfl, _, rfl, _, _, rfl, rfl, .inl ⟨by decide, by decide⟩, _, _, rfl, rfl, (by show (0 : Int) < 8; decide), by show 3 ≤ sizeLine; decide, fun p1 hp1 => ⟨by show 1 ≤ sizeLine; decide, fun p2 hp2 => ⟨by show 2 ≤ sizeLine; decide, fun p3 hp3 => ?_⟩⟩⟩
    have u2 := Old.new (o := .tup [.str "whole"]) hp2
    have u3 := Old.new (o := .tup [.ref p1, .ref p2]) hp3
    exact q "given" [.int _] [] [] (.mk "whole" []) p3 (.ref p1) (.ref p2) _ lf_given ((Old.new hp1).trans (u2.trans u3)) (RK.tup (.of (u3 _ _ (u2 _ _ upd_same))) (.cons (.s _) (.cons (.i _) (.cons (.i _) .nil)))) (RK.tup (.of (u3 _ _ upd_same)) (.cons (.s _) .nil)) upd_same
  refine ⟨_, rfl, _, _, rfl, rfl, .inl ⟨by decide, by decide⟩, .inr ⟨_, _, rfl, rfl, .inr ⟨by decide, by decide⟩, _, _, rfl, rfl, (by show (0 : Int) < 2147483647; decide), _, _, rfl, by decide, by decide, fun t v H1 rv wt dt o1 => ?_⟩⟩
  refine ⟨_, rfl, _, rfl, by show 0 ≤ sizeLine; decide, fun p0 hp0 => ⟨by show 4 ≤ sizeLine; decide, fun p1 hp1 => ⟨_, rfl, by show 2 ≤ sizeLine; decide, fun p2 hp2 => ⟨by show 2 ≤ sizeLine; decide, fun p3 hp3 => ?_⟩⟩⟩⟩
  have u0 : Old H1 (upd H1 p0 (.tup [])) := Old.new hp0
  have u1 := Old.new (o := .tup [.str "row", .int p, v, .ref p0]) hp1
  have u2 := Old.new (o := .tup [.str "row", v]) hp2
  have u3 := Old.new (o := .tup [.ref p1, .ref p2]) hp3
  have uu := ((u0.trans u1).trans u2).trans u3
  refine q "row" [] [t.d] [t] (.mk "row" [t]) p3 (.ref p1) (.ref p2) _ (lf_row wt (ok_of_wf wt) (by omega)) (o1.trans uu) ?_ (RK.tup (.of (u3 _ _ upd_same)) (.cons (.s _) (.cons (rv.mono uu.tm) .nil))) upd_same
  exact RK.tup (.of (u3 _ _ (u2 _ _ upd_same))) (.cons (.s _) (.cons (.i _) (.cons (rv.mono uu.tm) (.cons (RK.tup (.of (u3 _ _ (u2 _ _ (u1 _ _ upd_same)))) .nil) .nil))))
end
end L2.K31

end
section
set_option Elab.async false
set_option linter.all false
set_option maxRecDepth 100000
set_option maxHeartbeats 8000000
namespace L2.K31
open PySem PySem.Spec PyProof.Rows L2.Bw L2.Bk L2.Ex
section
variable {P : Program} {w : World} {K : PySem.W.Frag} {mg : Str → Option Value} {base : Heap} {f : Addr} {fd : FuncData}
theorem boot_VE : bootBuiltins "ValueError" = some (.type "ValueError") := by decide +kernel
theorem i_ib {H : Hp} (b : Int) : IsJ K H (.int b) "bool" false := .inl ⟨_, .int b, show PySem.W.kitOne K (.type "int") (.type "bool") = some false from (by decide +kernel : PySem.W.kitOne [] (.type "int") (.type "bool") = some false)⟩
/-! ### refused -/
noncomputable abbrev sRf : Stmt := top 53
noncomputable def dueP (t n : Tn) (k k' : Kn) (way : List Str) : List Dk := [.int n.p, k'.d, .int t.p, k.d, .tup (way.map Dk.str)]
noncomputable def spRf (K : PySem.W.Frag) : Sp := fun vs H Q _ => ∃ (v dv : V) (t n : Tn) (ms ms' : List Kn) (k k' : Kn) (way : List Str), vs = [v, dv] ∧ RK K H t.d v ∧ Pg t n ms ms' k k' ∧ k'.part k = some way ∧ RK K H (.tup (dueP t n k k' way)) dv ∧ ∀ H', Old H H' → Q (.bl true) H'
theorem scRf : FnScope ["_law_tree", "_law_due", "_law_caught", "e"] ["_law_tree", "_law_due"] (defScope sRf) := ⟨rfl, rfl, rfl, by decide +kernel, rfl, by decide +kernel, by decide +kernel⟩
theorem ok_Rf {n : Nat} {B C D1 D2 D3 D4 D5 D6 D7 : Addr} (F : Fun K "_law_refused" "_law_refused" sRf f fd) (T : Tx mg) (Y_BlameError : ExCls K B) (m_BlameError : mg "BlameError" = some (.ref B)) (hm : PySem.W.mroIn K C (.ref B) = some true) (X : ExFind K C) (hh : PySem.W.hasDictIn K C = true)
    (f1 : PySem.W.findIn K (.ref C) "place" = some none) (f2 : PySem.W.findIn K (.ref C) "kind" = some none) (f3 : PySem.W.findIn K (.ref C) "by" = some none) (f4 : PySem.W.findIn K (.ref C) "wanted" = some none) (f5 : PySem.W.findIn K (.ref C) "way" = some none)
    (m_NoFit : mg "NoFit" = some (.ref D1)) (m_NoLook : mg "NoLook" = some (.ref D2)) (m_NoPart : mg "NoPart" = some (.ref D3)) (m_NoText : mg "NoText" = some (.ref D4)) (m_NoName : mg "NoName" = some (.ref D5)) (m_TooDeep : mg "TooDeep" = some (.ref D6)) (m_TooMany : mg "TooMany" = some (.ref D7)) (m_Parted : mg "Parted" = some (.ref C))
    (i1 : PySem.W.kitOne K (.ref C) (.ref D1) = some false) (i2 : PySem.W.kitOne K (.ref C) (.ref D2) = some false) (i3 : PySem.W.kitOne K (.ref C) (.ref D3) = some false) (i4 : PySem.W.kitOne K (.ref C) (.ref D4) = some false) (i5 : PySem.W.kitOne K (.ref C) (.ref D5) = some false) (i6 : PySem.W.kitOne K (.ref C) (.ref D6) = some false) (i7 : PySem.W.kitOne K (.ref C) (.ref D7) = some false)
    (i8 : PySem.W.kitOne K (.ref C) (.type "ValueError") = some true) (i9 : PySem.W.kitOne K (.ref C) (.ref C) = some true) (c_looked : CalX P w K mg base "looked" ["tree"] 14 (spLkd K C)) : FnOk P w K mg base CX0 (n + 15) f fd ["_law_tree", "_law_due"] (spRf K) := by
  refine F.ok scRf (fun vs H Q E h => ?_) (fun cdv A outer s H vs Q E hr h => ?_)
  · obtain ⟨v, dv, t, n, ms, ms', k, k', way, rfl, _⟩ := h
    rfl
  obtain ⟨v, dv, t, n, ms, ms', k, k', way, rfl, rv, g, ew, rd, q⟩ := h
  have nd := scRf.nd
  refine' ⟨_, ?n0, ?Z⟩
  case' n0 => refine' pss_cons ?n1 ?n2
  case' n1 => refine' ps_setX (i := 2) nd rfl (Or.inl rfl) rfl (by first | exact .inl rfl | exact .inr rfl) ?n3
  case n3 => exact pe_non
  case' n2 => refine' pss_cons ?n4 ?n5
  case' n4 => refine' ps_tryE (k := 3) c_looked hr ?n6 Y_BlameError m_BlameError nd rfl rfl (fun _ => ?n7)
  case' n6 => refine' pa ?n8 ?n9
  case n8 => exact pv 0
  case n9 => exact pa_nil
  case n7 =>
    refine' pss_one ?n10
    case' n10 => refine' ps_setX (i := 2) nd rfl (Or.inl rfl) rfl (by first | exact .inl rfl | exact .inr rfl) ?n11
    first | case n11 => exact pv 3 | case n10 => exact pv 3
  case' n5 => refine' pss_cons ?n12 ?n13
  case' n12 => refine' ps_if ?n14 ?n15 ?n16
  case' n14 => refine' PW.pt ?n17
  case' n17 => refine' pw_or ?n18 ?n19
  case' n18 => refine' pt_not ?n20
  case' n20 => refine' pt_val ?n21
  case' n21 => refine' pe_callB call_isX2 rfl T.isinstance boot_isinstance ?n22
  case' n22 => refine' pa ?n23 ?n24
  case n23 => exact pv 2
  case' n24 => refine' pa ?n25 ?n26
  case n25 => exact pe_ty rfl T.ValueError boot_VE
  case n26 => exact pa_nil
  case' n19 => refine' pw_or1 ?n27
  case' n27 => refine' pt_not ?n28
  case' n28 => refine' pt_val ?n29
  case' n29 => refine' pe_callB call_isX2 rfl T.isinstance boot_isinstance ?n30
  case' n30 => refine' pa ?n31 ?n32
  case n31 => exact pv 2
  case' n32 => refine' pa ?n33 ?n34
  case n33 => exact pe_gref rfl m_Parted
  case n34 => exact pa_nil
  case' n15 => refine' pss_one ?n35
  case' n35 => refine' ps_ret ?n36
  case n36 => exact pe_bl
  case n16 => exact pss_nil
  case' n13 => refine' pss_cons ?n37 ?n38
  case' n37 => refine' ps_if ?n39 ?n40 ?n41
  case' n39 => refine' PW.pt ?n42
  case' n42 => refine' pw_or ?n43 ?n44
  case' n43 => refine' pt_val ?n45
  case' n45 => refine' pe_callB call_isX2 rfl T.isinstance boot_isinstance ?n46
  case' n46 => refine' pa ?n47 ?n48
  case n47 => exact pv 2
  case' n48 => refine' pa ?n49 ?n50
  case n49 => exact pe_gref rfl m_NoName
  case n50 => exact pa_nil
  case' n44 => refine' pw_or ?n51 ?n52
  case' n51 => refine' pt_val ?n53
  case' n53 => refine' pe_callB call_isX2 rfl T.isinstance boot_isinstance ?n54
  case' n54 => refine' pa ?n55 ?n56
  case n55 => exact pv 2
  case' n56 => refine' pa ?n57 ?n58
  case n57 => exact pe_gref rfl m_NoText
  case n58 => exact pa_nil
  case' n52 => refine' pw_or1 ?n59
  case' n59 => refine' pt_val ?n60
  case' n60 => refine' pe_callB call_isX2 rfl T.isinstance boot_isinstance ?n61
  case' n61 => refine' pa ?n62 ?n63
  case n62 => exact pv 2
  case' n63 => refine' pa ?n64 ?n65
  case n64 => exact pe_gref rfl m_TooDeep
  case n65 => exact pa_nil
  case' n40 => refine' pss_one ?n66
  case' n66 => refine' ps_ret ?n67
  case n67 => exact pe_bl
  case n41 => exact pss_nil
  case' n38 => refine' pss_cons ?n68 ?n69
  case' n68 => refine' ps_if ?n70 ?n71 ?n72
  case' n70 => refine' PW.pt ?n73
  case' n73 => refine' pw_or ?n74 ?n75
  case' n74 => refine' pt_val ?n76
  case' n76 => refine' pe_callB call_isX2 rfl T.isinstance boot_isinstance ?n77
  case' n77 => refine' pa ?n78 ?n79
  case n78 => exact pv 2
  case' n79 => refine' pa ?n80 ?n81
  case n80 => exact pe_gref rfl m_NoPart
  case n81 => exact pa_nil
  case' n75 => refine' pw_or ?n82 ?n83
  case' n82 => refine' pt_val ?n84
  case' n84 => refine' pe_callB call_isX2 rfl T.isinstance boot_isinstance ?n85
  case' n85 => refine' pa ?n86 ?n87
  case n86 => exact pv 2
  case' n87 => refine' pa ?n88 ?n89
  case n88 => exact pe_gref rfl m_TooMany
  case n89 => exact pa_nil
  case' n83 => refine' pw_or1 ?n90
  case' n90 => refine' pt_val ?n91
  case' n91 => refine' pe_callB call_isX2 rfl T.isinstance boot_isinstance ?n92
  case' n92 => refine' pa ?n93 ?n94
  case n93 => exact pv 2
  case' n94 => refine' pa ?n95 ?n96
  case n95 => exact pe_gref rfl m_NoFit
  case n96 => exact pa_nil
  case' n71 => refine' pss_one ?n97
  case' n97 => refine' ps_ret ?n98
  case n98 => exact pe_bl
  case n72 => exact pss_nil
  case' n69 => refine' pss_cons ?n99 ?n100
  case' n99 => refine' ps_if ?n101 ?n102 ?n103
  case' n101 => refine' PW.pt ?n104
  case' n104 => refine' pw_or ?n105 ?n106
  case' n105 => refine' pt_val ?n107
  case' n107 => refine' pe_callB call_isX2 rfl T.isinstance boot_isinstance ?n108
  case' n108 => refine' pa ?n109 ?n110
  case n109 => exact pv 2
  case' n110 => refine' pa ?n111 ?n112
  case n111 => exact pe_gref rfl m_NoLook
  case n112 => exact pa_nil
  case' n106 => refine' pw_or1 ?n113
  case' n113 => refine' pt_val ?n114
  case' n114 => refine' pe_callB (call_isj) rfl T.isinstance boot_isinstance ?n115
  case' n115 => refine' pa ?n116 ?n117
  case' n116 => refine' pe_xfld ?n118 rfl
  case n118 => exact pv 2
  case' n117 => refine' pa ?n119 ?n120
  case n119 => exact pe_ty rfl T.bool boot_bool
  case n120 => exact pa_nil
  case' n102 => refine' pss_one ?n121
  case' n121 => refine' ps_ret ?n122
  case n122 => exact pe_bl
  case n103 => exact pss_nil
  case' n100 => refine' pss_one ?n123
  case' n123 => refine' ps_ret ?n124
  case' n124 => refine' pe_cmpR (op_eqG hr) ?n125 ?n126 (nomark _)
  case' n125 => refine' pe_tup ?n127
  case' n127 => refine' pa ?n128 ?n129
  case' n128 => refine' pe_xfld ?n130 rfl
  case n130 => exact pv 2
  case' n129 => refine' pa ?n131 ?n132
  case' n131 => refine' pe_xfld ?n133 rfl
  case n133 => exact pv 2
  case' n132 => refine' pa ?n134 ?n135
  case' n134 => refine' pe_xfld ?n136 rfl
  case n136 => exact pv 2
  case' n135 => refine' pa ?n137 ?n138
  case' n137 => refine' pe_xfld ?n139 rfl
  case n139 => exact pv 2
  case' n138 => refine' pa ?n140 ?n141
  case' n140 => refine' pe_xfld ?n142 rfl
  case n142 => exact pv 2
  case n141 => exact pa_nil
  case n126 => exact pv 1
  refine ⟨_, rfl, v, t, n, ms, ms', k, k', rfl, rv, g, fun e => absurd (e.symm.trans ew) (fun z => nomatch z), fun way' ew' d kv' wv yv H1 o1 rw1 rk1 ry hd => ⟨C, rfl, hm, fun d' e => ⟨_, by cases e; exact hd⟩, fun a ha => ?_⟩⟩
  obtain rfl : way' = way := Option.some.inj (ew'.symm.trans ew)
  have o2 : Old H1 (upd H1 a (XQ false a C (some d))) := Old.new ha
  have hpa : upd H1 a (XQ false a C (some d)) a = some (XQ false a C (some d)) := upd_same
  have hda := o2 _ _ hd
  generalize upd H1 a (XQ false a C (some d)) = H2 at o2 hpa hda ⊢
  have hdx : ∀ d', some d = some d' → ∃ fs, H2 d' = some (DO d' fs) := fun d' e => ⟨_, by cases e; exact hda⟩
  refine ⟨_, rfl, ?_⟩
  refine ⟨_, rfl, false, a, C, some d, _, _, _, rfl, rfl, fun _ e => e, hpa, hdx, X, i8, _, rfl, iteF ?_⟩
  refine ⟨_, rfl, false, a, C, some d, _, _, _, rfl, rfl, fun _ e => e, hpa, hdx, X, i9, _, rfl, iteF ?_⟩
  refine ⟨_, rfl, false, a, C, some d, _, _, _, rfl, rfl, fun _ e => e, hpa, hdx, X, i5, _, rfl, iteF ?_⟩
  refine ⟨_, rfl, false, a, C, some d, _, _, _, rfl, rfl, fun _ e => e, hpa, hdx, X, i4, _, rfl, iteF ?_⟩
  refine ⟨_, rfl, false, a, C, some d, _, _, _, rfl, rfl, fun _ e => e, hpa, hdx, X, i6, _, rfl, iteF ?_⟩
  refine ⟨_, rfl, false, a, C, some d, _, _, _, rfl, rfl, fun _ e => e, hpa, hdx, X, i3, _, rfl, iteF ?_⟩
  refine ⟨_, rfl, false, a, C, some d, _, _, _, rfl, rfl, fun _ e => e, hpa, hdx, X, i7, _, rfl, iteF ?_⟩
  refine ⟨_, rfl, false, a, C, some d, _, _, _, rfl, rfl, fun _ e => e, hpa, hdx, X, i1, _, rfl, iteF ?_⟩
  refine ⟨_, rfl, false, a, C, some d, _, _, _, rfl, rfl, fun _ e => e, hpa, hdx, X, i2, _, rfl, iteF ?_⟩
  refine ⟨_, rfl, false, a, C, d, _, .int n.p, rfl, hpa, hda, X, hh, f1, rfl, _, _, _, rfl, i_ib _, _, rfl, iteF ?_⟩
  refine ⟨_, rfl, false, a, C, d, _, .int n.p, rfl, hpa, hda, X, hh, f1, rfl, _, rfl, false, a, C, d, _, kv', rfl, hpa, hda, X, hh, f2, rfl, _, rfl, false, a, C, d, _, .int t.p, rfl, hpa, hda, X, hh, f3, rfl, _, rfl, false, a, C, d, _, wv, rfl, hpa, hda, X, hh, f4, rfl, _, rfl, false, a, C, d, _, yv, rfl, hpa, hda, X, hh, f5, rfl, by show 5 ≤ sizeLine; decide, fun b hb => ?_⟩
  have o3 := Old.new (o := .tup [.int n.p, kv', .int t.p, wv, yv]) hb
  have oo := o1.trans (o2.trans o3)
  refine ⟨_, rfl, .inl ⟨dueP t n k k' way', dueP t n k k' way', RK.tup (.of upd_same) (.cons (.i _) (.cons (rk1.mono (o2.trans o3).tm) (.cons (.i _) (.cons (rw1.mono (o2.trans o3).tm) (.cons (ry.mono (o2.trans o3).tm) .nil))))), rd.mono oo.tm, ?_, ?_⟩⟩
  · refine dqs_le fun x hx => ?_
    have e1 := dq_d k
    have e2 := dq_d k'
    have d1 := g.N.dep
    have d2 := g.N'.dep
    rcases List.mem_cons.mp hx with rfl | hx
    · exact Nat.zero_le _
    rcases List.mem_cons.mp hx with rfl | hx
    · omega
    rcases List.mem_cons.mp hx with rfl | hx
    · exact Nat.zero_le _
    rcases List.mem_cons.mp hx with rfl | hx
    · omega
    rcases List.mem_cons.mp hx with rfl | hx
    · rw [dq_tup]
      have : dqs (way'.map Dk.str) ≤ 0 := dqs_le fun y hy => by
        obtain ⟨z, _, rfl⟩ := List.mem_map.mp hy
        exact Nat.le_refl _
      omega
    · exact nomatch hx
  · rw [eqbs_refl]
    exact q _ oo
end
end L2.K31

end
section
set_option Elab.async false
set_option linter.all false
set_option maxRecDepth 100000
set_option maxHeartbeats 8000000
namespace L2.K31
open PySem PySem.Spec PyProof.Rows L2.Bw L2.Bk L2.Ex
section
variable {P : Program} {w : World} {K : PySem.W.Frag} {mg : Str → Option Value} {base : Heap} {f : Addr} {fd : FuncData}
theorem i_tt {H : Hp} {a : Addr} {xs : List V} (e : H a = some (.tup xs)) : IsJ K H (.ref a) "tuple" true := .inl ⟨_, .tup e, show PySem.W.kitOne K (.type "tuple") (.type "tuple") = some true from (by decide +kernel : PySem.W.kitOne [] (.type "tuple") (.type "tuple") = some true)⟩
theorem i_dd {H : Hp} {a : Addr} {kvs : List (Key × V)} (e : H a = some (.dK kvs)) : IsJ K H (.ref a) "dict" true := .inl ⟨_, .dK e, show PySem.W.kitOne K (.type "dict") (.type "dict") = some true from (by decide +kernel : PySem.W.kitOne [] (.type "dict") (.type "dict") = some true)⟩
theorem put2 {a b : Key} (h : a ≠ b) (x y : V) : putK (putK [] a x) b y = [(a, x), (b, y)] := by
  have e : putK ([] : List (Key × V)) a x = [(a, x)] := rfl
  rw [e, putK, if_neg (by simp [h])]
  rfl
/-! ### taken -/
noncomputable abbrev sTk : Stmt := top 54
/-- a dict of two kinds -/
structure Two (K : PySem.W.Frag) (H : Hp) (a : Addr) (p q : Int) (k l : Kn) : Prop where
  ex : ∃ (vs : List (Key × V)) (x y : V), H a = some (.dK vs) ∧ vs.length = 2 ∧ valV vs (.inl p) = some x ∧ RK K H k.d x ∧ valV vs (.inl q) = some y ∧ RK K H l.d y
noncomputable def spTk (K : PySem.W.Frag) : Sp := fun vs H Q _ => ∃ (v : V) (ka wa : Addr) (t n : Tn) (ms ms' : List Kn) (k k' : Kn), vs = [v, .ref ka, .ref wa] ∧ RK K H t.d v ∧ Pg t n ms ms' k k' ∧ k'.part k = none ∧ n.p ≠ t.p ∧ Two K H ka n.p t.p k' k ∧ Two K H wa n.p t.p k k ∧ ∀ H', Old H H' → Q (.bl true) H'
theorem scTk : FnScope ["_law_tree", "_law_kinds", "_law_wants", "_law_found"] ["_law_tree", "_law_kinds", "_law_wants"] (defScope sTk) := ⟨rfl, rfl, rfl, by decide +kernel, rfl, by decide +kernel, by decide +kernel⟩
theorem ok_Tk {m : Nat} {Cp : Addr} (F : Fun K "_law_taken" "_law_taken" sTk f fd) (T : Tx mg) (c_looked : Cal P w K mg base "looked" ["tree"] 14 (fun vs H Q _ => spLkd K Cp vs H Q fun _ _ _ => False)) (c_kind_of : Cal P w K mg base "kind_of" ["tree"] 15 (fun vs H Q _ => spKo K vs H Q fun _ _ _ => False)) : FnOk P w K mg base CX0 (m + 16) f fd ["_law_tree", "_law_kinds", "_law_wants"] (spTk K) := by
  refine F.ok scTk (fun vs H Q E h => ?_) (fun cdv A outer s H vs Q E hr h => ?_)
  · obtain ⟨v, ka, wa, t, n, ms, ms', k, k', rfl, _⟩ := h
    rfl
  obtain ⟨v, ka, wa, t, n, ms, ms', k, k', rfl, rv, g, ep, np, ⟨lvs, x1, x2, hka, lk, v1, r1, v2, r2⟩, ⟨mvs, y1, y2, hwa, lm, u1, s1, u2, s2⟩, q⟩ := h
  have nd := scTk.nd
  obtain ⟨a, uf, um, up, rfl, ha, _⟩ := RK.node (w := t.w) (p := t.p) (fr := t.fr) (mid := tmid t) (ps := t.ps) (show RK K H (Tn.mk t.w t.p t.fr (tmid t) t.ps).d v by cases t; exact rv)
  have nk : (Sum.inl n.p : Key) ≠ Sum.inl t.p := fun z => np (Sum.inl.inj z)
  refine' ⟨_, ?n0, ?Z⟩
  case' n0 => refine' pss_cons ?n1 ?n2
  case' n1 => refine' ps_setX (i := 3) nd rfl (Or.inl rfl) rfl (by first | exact .inl rfl | exact .inr rfl) ?n3
  case' n3 => refine' pe_cal c_looked hr ?n4
  case' n4 => refine' pa ?n5 ?n6
  case n5 => exact pv 0
  case n6 => exact pa_nil
  case' n2 => refine' pss_cons ?n7 ?n8
  case' n7 => refine' ps_if ?n9 ?n10 ?n11
  case' n9 => refine' PW.pt ?n12
  case' n12 => refine' pw_or ?n13 ?n14
  case' n13 => refine' pt_not ?n15
  case' n15 => refine' pt_val ?n16
  case' n16 => refine' pe_callB (call_isj) rfl T.isinstance boot_isinstance ?n17
  case' n17 => refine' pa ?n18 ?n19
  case n18 => exact pv 3
  case' n19 => refine' pa ?n20 ?n21
  case n20 => exact pe_ty rfl T.tuple boot_tuple
  case n21 => exact pa_nil
  case' n14 => refine' pw_or1 ?n22
  case' n22 => refine' pt_cmpR (op_neG hr) ?n23 ?n24 (nomark _)
  case' n23 => refine' pe_callB (call_lenA) rfl T.len boot_len ?n25
  case' n25 => refine' pa ?n26 ?n27
  case n26 => exact pv 3
  case n27 => exact pa_nil
  case n24 => exact pe_int
  case' n10 => refine' pss_one ?n28
  case' n28 => refine' ps_ret ?n29
  case n29 => exact pe_bl
  case n11 => exact pss_nil
  case' n8 => refine' pss_cons ?n30 ?n31
  case' n30 => refine' ps_if ?n32 ?n33 ?n34
  case' n32 => refine' PW.pt ?n35
  case' n35 => refine' pw_or ?n36 ?n37
  case' n36 => refine' pt_not ?n38
  case' n38 => refine' pt_val ?n39
  case' n39 => refine' pe_callB (call_isj) rfl T.isinstance boot_isinstance ?n40
  case' n40 => refine' pa ?n41 ?n42
  case' n41 => refine' pe_ix ix_seq ?n43 ?n44 (fun _ _ => rfl)
  case n43 => exact pv 3
  case n44 => exact pe_int
  case' n42 => refine' pa ?n45 ?n46
  case n45 => exact pe_ty rfl T.dict boot_dict
  case n46 => exact pa_nil
  case' n37 => refine' pw_or1 ?n47
  case' n47 => refine' pt_not ?n48
  case' n48 => refine' pt_val ?n49
  case' n49 => refine' pe_callB (call_isj) rfl T.isinstance boot_isinstance ?n50
  case' n50 => refine' pa ?n51 ?n52
  case' n51 => refine' pe_ix ix_seq ?n53 ?n54 (fun _ _ => rfl)
  case n53 => exact pv 3
  case n54 => exact pe_int
  case' n52 => refine' pa ?n55 ?n56
  case n55 => exact pe_ty rfl T.dict boot_dict
  case n56 => exact pa_nil
  case' n33 => refine' pss_one ?n57
  case' n57 => refine' ps_ret ?n58
  case n58 => exact pe_bl
  case n34 => exact pss_nil
  case' n31 => refine' pss_one ?n59
  case' n59 => refine' ps_ret ?n60
  case' n60 => refine' pe_and ?n61 ?n62
  case' n61 => refine' pe_cmpR (op_eqD hr) ?n63 ?n64 (nomark _)
  case' n63 => refine' pe_ix ix_seq ?n65 ?n66 (fun _ _ => rfl)
  case n65 => exact pv 3
  case n66 => exact pe_int
  case n64 => exact pv 1
  case' n62 => refine' pe_and ?n67 ?n68
  case' n67 => refine' pe_cmpR (op_eqD hr) ?n69 ?n70 (nomark _)
  case' n69 => refine' pe_ix ix_seq ?n71 ?n72 (fun _ _ => rfl)
  case n71 => exact pv 3
  case n72 => exact pe_int
  case n70 => exact pv 2
  case' n68 => refine' pe_one ?n73
  case' n73 => refine' pe_cmpR (op_eqG hr) ?n74 ?n75 (nomark _)
  case' n74 => refine' pe_cal c_kind_of hr ?n76
  case' n76 => refine' pa ?n77 ?n78
  case n77 => exact pv 0
  case n78 => exact pa_nil
  case' n75 => refine' pe_dget hr.u1 ?n79 ?n80 (fun _ _ => rfl)
  case n79 => exact pv 1
  case' n80 => refine' pe_ix ix_seq ?n81 ?n82 (fun _ _ => rfl)
  case n81 => exact pv 0
  case n82 => exact pe_int
  refine ⟨_, rfl, .ref a, t, n, ms, ms', k, k', rfl, rv, g, fun _ r kd wd kv kv' wv H1 o1 rk rk' rw' hr1 hk hw => ?_, fun way e => absurd (e.symm.trans ep) (fun z => nomatch z)⟩
  rw [put2 nk] at hk hw
  refine ⟨_, rfl, _, _, _, rfl, i_tt hr1, _, rfl, iteF ?_⟩
  refine ⟨_, rfl, .inl ⟨r, _, rfl, .inr (SqT.of hr1), .inr (.inl ⟨rfl, _, rfl, ?_⟩)⟩⟩
  refine iteF ?_
  refine ⟨_, rfl, .inr (.inl ⟨r, _, 0, .ref kd, rfl, rfl, SqT.of hr1, at0, _, _, _, rfl, i_dd hk, _, rfl, iteF ?_⟩)⟩
  refine ⟨_, rfl, .inr (.inl ⟨r, _, 1, .ref wd, rfl, rfl, SqT.of hr1, at1, _, _, _, rfl, i_dd hw, _, rfl, iteF ?_⟩)⟩
  have e1 : k.d.eqb k.d = true := eqb_refl _
  have e2 : k'.d.eqb k'.d = true := eqb_refl _
  have q1 : k.d.dq ≤ 60 := by rw [dq_d]; exact Nat.le_trans g.N.dep (by decide)
  have q2 : k'.d.dq ≤ 60 := by rw [dq_d]; exact Nat.le_trans g.N'.dep (by decide)
  have h1 : DHit K H1 lvs [(.inl n.p, kv'), (.inl t.p, kv)] true := by
    have z := DHit.hit (K := K) (H := H1) (lvs := lvs) v1 rk' (r1.mono o1.tm) q2 (DHit.hit v2 rk (r2.mono o1.tm) q1 .nil)
    rw [e1, e2] at z
    exact z
  have h2 : DHit K H1 mvs [(.inl n.p, wv), (.inl t.p, kv)] true := by
    have z := DHit.hit (K := K) (H := H1) (lvs := mvs) u1 rw' (s1.mono o1.tm) q1 (DHit.hit u2 rk (s2.mono o1.tm) q1 .nil)
    rw [e1] at z
    exact z
  refine ⟨_, rfl, .inr (.inl ⟨r, _, 0, .ref kd, rfl, rfl, SqT.of hr1, at0, _, rfl, kd, ka, _, lvs, true, rfl, rfl, hk, o1 _ _ hka, h1, ?_⟩)⟩
  rw [lk]
  refine ⟨_, rfl, iteT ?_⟩
  refine ⟨_, rfl, .inr (.inl ⟨r, _, 1, .ref wd, rfl, rfl, SqT.of hr1, at1, _, rfl, wd, wa, _, mvs, true, rfl, rfl, hw, o1 _ _ hwa, h2, ?_⟩)⟩
  rw [lm]
  refine ⟨_, rfl, iteT ?_⟩
  refine ⟨_, rfl, .ref a, t, n, ms, ms', k, k', rfl, rv.mono o1.tm, g, ep, fun kv2 H2 o2 rk2 => ?_⟩
  have oo := o1.trans o2
  refine ⟨_, rfl, _, rfl, .inr (.inl ⟨a, _, 1, .int t.p, rfl, rfl, (ha.mono oo.tm).sq, at1, ka, x2, rfl, ?_, ?_⟩)⟩
  · have z := DGet.k (k := .inl t.p) (oo _ _ hka)
    rw [v2] at z
    exact z
  · refine eqKn (t := k) (u := k) rk2 (r2.mono oo.tm) (Nat.le_trans g.N.dep (by decide)) fun b hb => ?_
    rw [hb.mpr rfl]
    exact q _ oo
end
end L2.K31

end
section
set_option Elab.async false
set_option linter.all false
set_option maxRecDepth 100000
set_option maxHeartbeats 8000000
namespace L2.K31
open PySem PySem.Spec PyProof.Rows L2.Bw L2.Bk L2.Ex
theorem Old.seq {K : PySem.W.Frag} {H H' : Hp} {a : Addr} {xs : List V} (o : Old H H') (h : SqL K H a xs) : SqL K H' a xs := o.gr.seq (fun z => z) h
theorem old_disp {H : Hp} {d : Addr} {o o' : HO} (hd : H d = none) : Old H (upd (upd H d o) d o') := fun b x e => by rw [upd_ne (ne_of_none e hd), upd_ne (ne_of_none e hd)]; exact e
theorem two_disp {K : PySem.W.Frag} {H : Hp} {d : Addr} {p q : Int} {x y : V} {k l : Kn} (ne : q ≠ p) (hd : H d = some (.dK (mergeK [] [(.inl p, x), (.inl q, y)]))) (rx : RK K H l.d x) (ry : RK K H k.d y) : Two K H d q p k l := by
  have e : mergeK [] [((.inl p : Key), x), (.inl q, y)] = [(.inl p, x), (.inl q, y)] := put2 (fun z => ne (Sum.inl.inj z).symm) x y
  rw [e] at hd
  refine ⟨_, y, x, hd, rfl, ?_, ry, valV_pos rfl, rx⟩
  rw [valV_neg (fun z => ne (Sum.inl.inj z).symm)]
  exact valV_pos rfl
theorem sl_hd2 {K : PySem.W.Frag} {H : Hp} {a : Addr} {h g : V} {r : List V} {Q : VK} (ha : SqT K H a (h :: g :: r)) (q : ∀ p, H p = none → Q (.ref p) (upd H p (.tup [h]))) : rSlK K (.ref a) none (some 1) H Q := by
  have e0 : HT.sIx (h :: g :: r).length 0 none = 0 := by simp [HT.sIx]
  have e1 : HT.sIx (h :: g :: r).length (h :: g :: r).length (some 1) = 1 := by
    simp [HT.sIx]
    try omega
  refine .inr (.inl ⟨a, _, rfl, ha, ?_, fun p hp => ?_⟩)
  · intro z
    rw [e1] at z
    have := z.2
    simp at this
  · have e : cutV (h :: g :: r) none (some 1) = [h] := by
      unfold cutV
      rw [e0, e1]
      rfl
    rw [e]
    exact q p hp
theorem sl_tl2 {K : PySem.W.Frag} {H : Hp} {a : Addr} {h g : V} {r : List V} {Q : VK} (ha : SqT K H a (h :: g :: r)) (q : ∀ p, H p = none → Q (.ref p) (upd H p (.tup r))) : rSlK K (.ref a) (some 2) none H Q := by
  have e0 : HT.sIx (h :: g :: r).length 0 (some 2) = 2 := by
    simp [HT.sIx]
    try omega
  have e1 : HT.sIx (h :: g :: r).length (h :: g :: r).length none = (h :: g :: r).length := by simp [HT.sIx]
  refine .inr (.inl ⟨a, _, rfl, ha, ?_, fun p hp => ?_⟩)
  · intro z
    rw [e0] at z
    exact absurd z.1 (by decide)
  · have e : cutV (h :: g :: r) (some 2) none = r := by
      unfold cutV
      rw [e0, e1]
      simp
    rw [e]
    exact q p hp
theorem nq_of {H : Hp} {d q : Addr} {o : HO} (hq : upd H d o q = none) : q ≠ d := fun z => by rw [z, upd_same] at hq; cases hq
theorem old3 {H : Hp} {d q : Addr} {o o' o'' : HO} (hd : H d = none) (hq : upd H d o q = none) : Old H (upd (upd (upd H d o) q o') d o'') := fun b x e => by
  have e1 : upd H d o b = some x := by rw [upd_ne (ne_of_none e hd)]; exact e
  rw [upd_ne (ne_of_none e hd), upd_ne (ne_of_none e1 hq)]
  exact e1
theorem old4 {H : Hp} {d q r : Addr} {o o' o'' o3 : HO} (hd : H d = none) (hq : upd H d o q = none) (hr : upd (upd H d o) q o' r = none) : Old H (upd (upd (upd (upd H d o) q o') r o'') d o3) := fun b x e => by
  have e1 : upd H d o b = some x := by rw [upd_ne (ne_of_none e hd)]; exact e
  have e2 : upd (upd H d o) q o' b = some x := by rw [upd_ne (ne_of_none e1 hq)]; exact e1
  rw [upd_ne (ne_of_none e hd), upd_ne (ne_of_none e2 hr)]
  exact e2
theorem part_q {k : Kn} : k.part (.mk "?" []) = none := by
  obtain ⟨h, ks⟩ := k
  rw [Kn.part]
  split
  · rfl
  · rw [if_pos rfl]
theorem wf_q : (Kn.mk "?" []).wf := ⟨ar0 "?" (by decide +kernel), trivial⟩
theorem nf_le : ∀ x ∈ K11.words, K11.nf x ≤ 5 := by decide +kernel
theorem nd_as {p : Int} {n : Tn} {k : Kn} (p0 : 0 ≤ p) (p1 : p < 100000) (wn : n.wf) (wk : k.wf) (dk : k.dep ≤ 3) : Nd (.mk "as" p [] [k.d] [n]) [k] k :=
  ⟨⟨⟨by decide +kernel, by decide +kernel, by show 1 = K11.nk "as"; decide +kernel, fun _ => by show 1 = K11.np "as"; decide +kernel, by show 1 ≤ 5; decide, fun z => absurd z (by decide +kernel), p0, p1⟩, wn, trivial⟩, by show ("as" : Str) ≠ "look"; decide +kernel, rfl, fun z hz => by rw [List.mem_singleton.mp hz]; exact ⟨ok_of_wf wk, by omega⟩,
    by rw [ownD, if_neg (by decide +kernel), if_neg (by decide +kernel), if_neg (by decide +kernel), if_pos rfl]; rfl, ok_of_wf wk, by omega, wk⟩
theorem pg_as {p o : Int} {x : Str} {fr mid : List Dk} {ms : List Kn} {k k' : Kn} (L : Lf x fr mid ms k') (p0 : 0 ≤ p) (p1 : p < 100000) (o0 : 0 ≤ o) (o1 : o < 100000) (wk : k.wf) (dk : k.dep ≤ 3) : Pg (.mk "as" p [] [k.d] [.mk x o fr mid []]) (.mk x o fr mid []) [k] ms k k' :=
  ⟨nd_as p0 p1 (L.nd o o0 o1).wf wk dk, rfl, rfl, rfl, L.nd o o0 o1, L.nm⟩
section
variable {P : Program} {w : World} {K : PySem.W.Frag} {mg : Str → Option Value} {base : Heap} {f : Addr} {fd : FuncData}
/-! ### law -/
noncomputable abbrev sLaw : Stmt := top 55
noncomputable def spLaw (K : PySem.W.Frag) : Sp := fun vs H Q _ => ∃ (a : Addr) (ns : List Int), vs = [.ref a] ∧ SqL K H a (ns.map V.int) ∧ ns.length ≤ 63 ∧ ∀ H', Q (.bl true) H'
theorem scLaw : FnScope ["_law_script", "_law_place", "_law_other", "_law_kind", "_law_inner_here", "_law_own", "_law_tree", "_law_way", "_law_again", "_law_wants", "_law_second"] ["_law_script"] (defScope sLaw) := ⟨rfl, rfl, rfl, by decide +kernel, rfl, by decide +kernel, by decide +kernel⟩
theorem ok_law {m : Nat} (F : Fun K "law" "law" sLaw f fd) (T : Tx mg) (c_cell_at : Cal P w K mg base "_law_cell_at" ["_law_script", "_law_k"] 1 (spCell K)) (c_kind_by : Cal P w K mg base "_law_kind_by" ["_law_cell", "_law_deep"] 5 (spKb K 4)) (c_inner : Cal P w K mg base "_law_inner" ["_law_cell", "_law_place"] 6 (spIn K)) (c_parting : Cal P w K mg base "_law_parting" ["_law_kind", "_law_other"] 9 (spParting K 8))
    (c_taken : Cal P w K mg base "_law_taken" ["_law_tree", "_law_kinds", "_law_wants"] 16 (spTk K)) (c_refused : Cal P w K mg base "_law_refused" ["_law_tree", "_law_due"] 15 (spRf K)) : FnOk P w K mg base CX0 (m + 17) f fd ["_law_script"] (spLaw K) := by
  refine F.ok scLaw (fun vs H Q E h => ?_) (fun cdv A outer s H vs Q E hr h => ?_)
  · obtain ⟨a, ns, rfl, _⟩ := h
    rfl
  obtain ⟨a, ns, rfl, hS, h63, q⟩ := h
  have nd := scLaw.nd
  refine' ⟨_, ?n0, ?Z⟩
  case' n0 => refine' pss_cons ?n1 ?n2
  case' n1 => refine' ps_setX (i := 1) nd rfl (Or.inl rfl) rfl (by first | exact .inl rfl | exact .inr rfl) ?n3
  case' n3 => refine' pe_op op_mod ?n4 ?n5
  case' n4 => refine' pe_cal c_cell_at hr ?n6
  case' n6 => refine' pa ?n7 ?n8
  case n7 => exact pv 0
  case' n8 => refine' pa ?n9 ?n10
  case n9 => exact pe_int
  case n10 => exact pa_nil
  case n5 => exact pe_int
  case' n2 => refine' pss_cons ?n11 ?n12
  case' n11 => refine' ps_setX (i := 2) nd rfl (Or.inl rfl) rfl (by first | exact .inl rfl | exact .inr rfl) ?n13
  case' n13 => refine' pe_op op_mod ?n14 ?n15
  case' n14 => refine' pe_op op_addG ?n16 ?n17
  case' n16 => refine' pe_op op_addG ?n18 ?n19
  case n18 => exact pv 1
  case n19 => exact pe_int
  case' n17 => refine' pe_op op_mod ?n20 ?n21
  case' n20 => refine' pe_cal c_cell_at hr ?n22
  case' n22 => refine' pa ?n23 ?n24
  case n23 => exact pv 0
  case' n24 => refine' pa ?n25 ?n26
  case n25 => exact pe_int
  case n26 => exact pa_nil
  case n21 => exact pe_int
  case n15 => exact pe_int
  case' n12 => refine' pss_cons ?n27 ?n28
  case' n27 => refine' ps_setX (i := 3) nd rfl (Or.inl rfl) rfl (by first | exact .inl rfl | exact .inr rfl) ?n29
  case' n29 => refine' pe_cal c_kind_by hr ?n30
  case' n30 => refine' pa ?n31 ?n32
  case' n31 => refine' pe_op op_mod ?n33 ?n34
  case' n33 => refine' pe_op op_mulG ?n35 ?n36
  case' n35 => refine' pe_cal c_cell_at hr ?n37
  case' n37 => refine' pa ?n38 ?n39
  case n38 => exact pv 0
  case' n39 => refine' pa ?n40 ?n41
  case n40 => exact pe_int
  case n41 => exact pa_nil
  case n36 => exact pe_int
  case n34 => exact pe_int
  case' n32 => refine' pa ?n42 ?n43
  case n42 => exact pe_int
  case n43 => exact pa_nil
  case' n28 => refine' pss_cons ?n44 ?n45
  case' n44 => refine' ps_asg ?n46 ?n47
  case' n46 => refine' pe_cal c_inner hr ?n48
  case' n48 => refine' pa ?n49 ?n50
  case' n49 => refine' pe_cal c_cell_at hr ?n51
  case' n51 => refine' pa ?n52 ?n53
  case n52 => exact pv 0
  case' n53 => refine' pa ?n54 ?n55
  case n54 => exact pe_int
  case n55 => exact pa_nil
  case' n50 => refine' pa ?n56 ?n57
  case n56 => exact pv 2
  case n57 => exact pa_nil
  case' n47 => refine' pg_tup rfl ?n58
  case' n58 => refine' pgs_cons ?n59 ?n60
  case n59 => exact pg_name (i := 4) nd rfl (Or.inl rfl)
  case' n60 => refine' pgs_cons ?n61 ?n62
  case n61 => exact pg_name (i := 5) nd rfl (Or.inl rfl)
  case n62 => exact pgs_nil
  case' n45 => refine' pss_cons ?n63 ?n64
  case' n63 => refine' ps_setX (i := 6) nd rfl (Or.inl rfl) rfl (by first | exact .inl rfl | exact .inr rfl) ?n65
  case' n65 => refine' pe_tup ?n66
  case' n66 => refine' pa ?n67 ?n68
  case n67 => exact pe_str
  case' n68 => refine' pa ?n69 ?n70
  case n69 => exact pv 1
  case' n70 => refine' pa ?n71 ?n72
  case n71 => exact pv 3
  case' n72 => refine' pa ?n73 ?n74
  case n73 => exact pv 4
  case n74 => exact pa_nil
  case' n64 => refine' pss_cons ?n75 ?n76
  case' n75 => refine' ps_setX (i := 7) nd rfl (Or.inl rfl) rfl (by first | exact .inl rfl | exact .inr rfl) ?n77
  case' n77 => refine' pe_cal c_parting hr ?n78
  case' n78 => refine' pa ?n79 ?n80
  case n79 => exact pv 5
  case' n80 => refine' pa ?n81 ?n82
  case n81 => exact pv 3
  case n82 => exact pa_nil
  case' n76 => refine' pss_cons ?n83 ?n84
  case' n83 => refine' ps_for PassesOwn.never rfl ?n85 ?n86 ?n87
  case' n85 => refine' pi_range1 rfl T.range ?n88
  case' n88 => refine' pa ?n89 ?n90
  case n89 => exact pe_int
  case n90 => exact pa_nil
  case n86 => exact pg_name (i := 8) nd rfl (Or.inl rfl)
  case' n87 => refine' pss_cons ?n91 ?n92
  case' n91 => refine' ps_setX (i := 9) nd rfl (Or.inl rfl) rfl (by first | exact .inl rfl | exact .inr rfl) ?n93
  case' n93 => refine' pe_disp ?n94 rfl rfl (fun z => nomatch z) (by decide)
  case' n94 => refine' pps_cons ?n95 ?n96 ?n97
  case n95 => exact pv 1
  case n96 => exact pv 3
  case' n97 => refine' pps_cons ?n98 ?n99 ?n100
  case n98 => exact pv 2
  case n99 => exact pv 3
  case n100 => exact pps_nil
  case' n92 => refine' pss_cons ?n101 ?n102
  case' n101 => refine' ps_if ?n103 ?n104 ?n105
  case' n103 => refine' PW.pt ?n106
  case' n106 => refine' pw_and ?n107 ?n108
  case' n107 => refine' pt_cmpR op_isN ?n109 ?n110 (nomark _)
  case n109 => exact pv 7
  case n110 => exact pe_non
  case' n108 => refine' pw_and1 ?n111
  case' n111 => refine' pt_not ?n112
  case' n112 => refine' pt_val ?n113
  case' n113 => refine' pe_cal c_taken hr ?n114
  case' n114 => refine' pa ?n115 ?n116
  case n115 => exact pv 6
  case' n116 => refine' pa ?n117 ?n118
  case' n117 => refine' pe_disp ?n119 rfl rfl (fun z => nomatch z) (by decide)
  case' n119 => refine' pps_cons ?n120 ?n121 ?n122
  case n120 => exact pv 1
  case n121 => exact pv 3
  case' n122 => refine' pps_cons ?n123 ?n124 ?n125
  case n123 => exact pv 2
  case n124 => exact pv 5
  case n125 => exact pps_nil
  case' n118 => refine' pa ?n126 ?n127
  case n126 => exact pv 9
  case n127 => exact pa_nil
  case' n104 => refine' pss_one ?n128
  case' n128 => refine' ps_ret ?n129
  case n129 => exact pe_bl
  case n105 => exact pss_nil
  case' n102 => refine' pss_cons ?n130 ?n131
  case' n130 => refine' ps_if ?n132 ?n133 ?n134
  case' n132 => refine' PW.pt ?n135
  case' n135 => refine' pw_and ?n136 ?n137
  case' n136 => refine' pt_cmpR op_notN ?n138 ?n139 (nomark _)
  case n138 => exact pv 7
  case n139 => exact pe_non
  case' n137 => refine' pw_and1 ?n140
  case' n140 => refine' pt_not ?n141
  case' n141 => refine' pt_val ?n142
  case' n142 => refine' pe_cal c_refused hr ?n143
  case' n143 => refine' pa ?n144 ?n145
  case n144 => exact pv 6
  case' n145 => refine' pa ?n146 ?n147
  case' n146 => refine' pe_tup ?n148
  case' n148 => refine' pa ?n149 ?n150
  case n149 => exact pv 2
  case' n150 => refine' pa ?n151 ?n152
  case n151 => exact pv 5
  case' n152 => refine' pa ?n153 ?n154
  case n153 => exact pv 1
  case' n154 => refine' pa ?n155 ?n156
  case n155 => exact pv 3
  case' n156 => refine' pa ?n157 ?n158
  case n157 => exact pv 7
  case n158 => exact pa_nil
  case n147 => exact pa_nil
  case' n133 => refine' pss_one ?n159
  case' n159 => refine' ps_ret ?n160
  case n160 => exact pe_bl
  case n134 => exact pss_nil
  case' n131 => refine' pss_cons ?n161 ?n162
  case' n161 => refine' ps_setX (i := 10) nd rfl (Or.inl rfl) rfl (by first | exact .inl rfl | exact .inr rfl) ?n163
  case' n163 => refine' pe_tup ?n164
  case' n164 => refine' pa ?n165 ?n166
  case n165 => exact pe_str
  case' n166 => refine' pa ?n167 ?n168
  case n167 => exact pv 2
  case' n168 => refine' pa ?n169 ?n170
  case' n169 => refine' pe_tup ?n171
  case' n171 => refine' pa ?n172 ?n173
  case n172 => exact pe_str
  case n173 => exact pa_nil
  case' n170 => refine' pa ?n174 ?n175
  case' n174 => refine' pe_op op_addG ?n176 ?n177
  case' n176 => refine' pe_op op_addG ?n178 ?n179
  case' n178 => refine' pe_slice sl_k ?n180 po_none ?n181
  case n180 => exact pv 4
  case' n181 => refine' po_some ?n182
  case n182 => exact pe_int
  case' n179 => refine' pe_tup ?n183
  case' n183 => refine' pa ?n184 ?n185
  case n184 => exact pv 1
  case n185 => exact pa_nil
  case' n177 => refine' pe_slice sl_k ?n186 ?n187 po_none
  case n186 => exact pv 4
  case' n187 => refine' po_some ?n188
  case n188 => exact pe_int
  case n175 => exact pa_nil
  case' n162 => refine' pss_one ?n189
  case' n189 => refine' ps_if ?n190 ?n191 ?n192
  case' n190 => refine' pt_not ?n193
  case' n193 => refine' pt_val ?n194
  case' n194 => refine' pe_cal c_taken hr ?n195
  case' n195 => refine' pa ?n196 ?n197
  case n196 => exact pv 10
  case' n197 => refine' pa ?n198 ?n199
  case' n198 => refine' pe_disp ?n200 rfl rfl (fun z => nomatch z) (by decide)
  case' n200 => refine' pps_cons ?n201 ?n202 ?n203
  case n201 => exact pv 2
  case' n202 => refine' pe_tup ?n204
  case' n204 => refine' pa ?n205 ?n206
  case n205 => exact pe_str
  case n206 => exact pa_nil
  case' n203 => refine' pps_cons ?n207 ?n208 ?n209
  case n207 => exact pv 1
  case n208 => exact pv 5
  case n209 => exact pps_nil
  case' n199 => refine' pa ?n210 ?n211
  case' n210 => refine' pe_disp ?n212 rfl rfl (fun z => nomatch z) (by decide)
  case' n212 => refine' pps_cons ?n213 ?n214 ?n215
  case n213 => exact pv 2
  case' n214 => refine' pe_tup ?n216
  case' n216 => refine' pa ?n217 ?n218
  case n217 => exact pe_str
  case n218 => exact pa_nil
  case' n215 => refine' pps_cons ?n219 ?n220 ?n221
  case n219 => exact pv 1
  case' n220 => refine' pe_tup ?n222
  case' n222 => refine' pa ?n223 ?n224
  case n223 => exact pe_str
  case n224 => exact pa_nil
  case n221 => exact pps_nil
  case n211 => exact pa_nil
  case' n191 => refine' pss_one ?n225
  case' n225 => refine' ps_ret ?n226
  case n226 => exact pe_bl
  case n192 => exact pss_nil
  case' n84 => refine' pss_one ?n227
  case' n227 => refine' ps_ret ?n228
  case n228 => exact pe_bl
  refine ⟨_, rfl, a, ns, 0, rfl, hS, by decide, fun c0 => ⟨_, _, rfl, rfl, (by show (0 : Int) < 10000; decide), ?_⟩⟩
  have p0 : 0 ≤ c0 % 10000 := Int.emod_nonneg _ (by decide)
  have p1 : c0 % 10000 < 10000 := Int.emod_lt_of_pos _ (by decide)
  refine ⟨_, rfl, .inr (.inl ⟨_, _, rfl, rfl, _, rfl, a, ns, 1, rfl, hS, by decide, fun c1 => ⟨_, _, rfl, rfl, (by show (0 : Int) < 9999; decide), .inr (.inl ⟨_, _, rfl, rfl, _, _, rfl, rfl, (by show (0 : Int) < 10000; decide), ?_⟩)⟩⟩)⟩
  have q0 : 0 ≤ (c0 % 10000 + 1 + c1 % 9999) % 10000 := Int.emod_nonneg _ (by decide)
  have q1 : (c0 % 10000 + 1 + c1 % 9999) % 10000 < 10000 := Int.emod_lt_of_pos _ (by decide)
  have pq : (c0 % 10000 + 1 + c1 % 9999) % 10000 ≠ c0 % 10000 := by omega
  refine ⟨_, rfl, a, ns, 2, rfl, hS, by decide, fun c2 => .inr ⟨_, _, rfl, rfl, .inr ⟨by decide, by decide⟩, _, _, rfl, rfl, (by show (0 : Int) < 1000000000039; decide), _, _, rfl, by decide, by decide, fun k kv H1 rk wk dk o1 => ?_⟩⟩
  have hS1 : SqL K H1 a (ns.map V.int) := Old.seq o1 hS
  refine ⟨_, rfl, a, ns, 3, rfl, hS1, by decide, fun c3 => ⟨_, rfl, c3, _, rfl, fun x fr mid ms k' r nv kv' H2 L o2 rn rk' hr2 => ?_⟩⟩
  refine ⟨r, _, rfl, SqT.of hr2, rfl, _, _, rfl, _, _, rfl, rfl, ?_⟩
  refine ⟨_, rfl, _, rfl, _, rfl, by show 4 ≤ sizeLine; decide, fun ta hta => ?_⟩
  have o3 := Old.new (o := .tup [.str "as", .int (c0 % 10000), kv, nv]) hta
  have rT : RK K (upd H2 ta (.tup [.str "as", .int (c0 % 10000), kv, nv])) (Tn.mk "as" (c0 % 10000) [] [k.d] [.mk x ((c0 % 10000 + 1 + c1 % 9999) % 10000) fr mid []]).d (.ref ta) := RK.tup (.of upd_same) (.cons (.s _) (.cons (.i _) (.cons ((rk.mono o2.tm).mono o3.tm) (.cons (rn.mono o3.tm) .nil))))
  generalize upd H2 ta (.tup [.str "as", .int (c0 % 10000), kv, nv]) = H3 at o3 rT ⊢
  have rn3 := rn.mono o3.tm
  have rk3 := (rk.mono o2.tm).mono o3.tm
  have rk3' := rk'.mono o3.tm
  have dk' : k'.dep ≤ 4 := (L.nd 0 (by decide) (by decide)).dep
  have wk' : k'.wf := (L.nd 0 (by decide) (by decide)).kw
  refine ⟨_, rfl, _, rfl, kv', kv, k', k, rfl, rk3', rk3, wk', wk, by omega, by omega, fun yv H4 o4 ry => ?_⟩
  have rT4 := rT.mono o4.tm
  have rn4 := rn3.mono o4.tm
  have rk4 := rk3.mono o4.tm
  have rk4' := rk3'.mono o4.tm
  have gT := pg_as (p := c0 % 10000) (o := (c0 % 10000 + 1 + c1 % 9999) % 10000) L (by omega) (by omega) (by omega) (by omega) wk (by omega)
  refine ⟨_, rfl, by decide, by decide, for_range (n := 2) (fun i σ H5 => ∃ k8 k9 k10 : Option V, σ = [some (.ref a), some (.int (c0 % 10000)), some (.int ((c0 % 10000 + 1 + c1 % 9999) % 10000)), some kv, some nv, some kv', some (.ref ta), some yv, k8, k9, k10] ∧ Old H4 H5) ⟨none, none, none, rfl, Old.refl _⟩ ?_ ?_⟩
  · intro i σ H5 hi hv
    obtain ⟨k8, k9, k10, rfl, o5⟩ := hv
    refine fun wd hwd => ⟨_, rfl, _, rfl, _, rfl, _, rfl, upd_same, [(.inl (c0 % 10000), kv), (.inl ((c0 % 10000 + 1 + c1 % 9999) % 10000), kv)], rfl, by show 2 ≤ 15; decide, ?_⟩
    have ow : Old H5 _ := old_disp (o := .dK []) (o' := .dK (mergeK [] [(.inl (c0 % 10000), kv), (.inl ((c0 % 10000 + 1 + c1 % 9999) % 10000), kv)])) hwd
    have hw6 : upd (upd H5 wd (.dK [])) wd (.dK (mergeK [] [(.inl (c0 % 10000), kv), (.inl ((c0 % 10000 + 1 + c1 % 9999) % 10000), kv)])) wd = some (.dK (mergeK [] [(.inl (c0 % 10000), kv), (.inl ((c0 % 10000 + 1 + c1 % 9999) % 10000), kv)])) := upd_same
    generalize upd (upd H5 wd (.dK [])) wd (.dK (mergeK [] [(.inl (c0 % 10000), kv), (.inl ((c0 % 10000 + 1 + c1 % 9999) % 10000), kv)])) = H6 at ow hw6 ⊢
    have o6 := o5.trans ow
    dsimp only [gName, List.set]
    refine seq_by (fun σ H7 => σ = [some (.ref a), some (.int (c0 % 10000)), some (.int ((c0 % 10000 + 1 + c1 % 9999) % 10000)), some kv, some nv, some kv', some (.ref ta), some yv, some (.int (0 + i)), some (.ref wd), k10] ∧ Old H6 H7) (fun R hR => ?_) (fun σ H7 hP => ?_)
    · refine ⟨_, rfl, rfl, _, rfl, ?_⟩
      cases hp : k'.part k with
      | some way =>
        rw [hp] at ry
        obtain ⟨ya, yvs, rfl, _⟩ := RK.get (show RK K H4 (.tup (way.map Dk.str)) yv from ry)
        exact iteF (iteF (hR _ _ ⟨rfl, Old.refl _⟩))
      | none =>
        rw [hp] at ry
        cases (show yv = .non by rw [od, RK] at ry; exact ry)
        refine iteT ?_
        refine ⟨_, rfl, fun kd hkd => ⟨_, rfl, _, rfl, _, rfl, _, rfl, upd_same, [(.inl (c0 % 10000), kv), (.inl ((c0 % 10000 + 1 + c1 % 9999) % 10000), kv')], rfl, by show 2 ≤ 15; decide, _, rfl, ?_⟩⟩
        have o8 : Old H6 _ := old_disp (o := .dK []) (o' := .dK (mergeK [] [(.inl (c0 % 10000), kv), (.inl ((c0 % 10000 + 1 + c1 % 9999) % 10000), kv')])) hkd
        refine ⟨.ref ta, kd, wd, _, _, _, _, k, k', rfl, rT4.mono (o6.trans o8).tm, gT, hp, pq, two_disp pq upd_same (rk4.mono (o6.trans o8).tm) (rk4'.mono (o6.trans o8).tm), two_disp pq (o8 _ _ hw6) (rk4.mono (o6.trans o8).tm) (rk4.mono (o6.trans o8).tm), fun H9 o9 => ?_⟩
        exact ⟨_, rfl, iteF (hR _ _ ⟨rfl, o8.trans o9⟩)⟩
    obtain ⟨rfl, o7⟩ := hP
    have o47 := o6.trans o7
    refine seq_by (fun σ H8 => σ = [some (.ref a), some (.int (c0 % 10000)), some (.int ((c0 % 10000 + 1 + c1 % 9999) % 10000)), some kv, some nv, some kv', some (.ref ta), some yv, some (.int (0 + i)), some (.ref wd), k10] ∧ Old H7 H8) (fun R hR => ?_) (fun σ H8 hP => ?_)
    · refine ⟨_, rfl, rfl, _, rfl, ?_⟩
      cases hp : k'.part k with
      | none =>
        rw [hp] at ry
        cases (show yv = .non by rw [od, RK] at ry; exact ry)
        exact iteF (iteF (hR _ _ ⟨rfl, Old.refl _⟩))
      | some way =>
        rw [hp] at ry
        have ry' : RK K H4 (.tup (way.map Dk.str)) yv := ry
        obtain ⟨ya, yvs, rfl, _⟩ := RK.get ry'
        refine iteT ?_
        refine ⟨_, rfl, _, rfl, _, rfl, _, rfl, _, rfl, _, rfl, by show 5 ≤ sizeLine; decide, fun da hda => ?_⟩
        have o8 := Old.new (o := .tup [.int ((c0 % 10000 + 1 + c1 % 9999) % 10000), kv', .int (c0 % 10000), kv, .ref ya]) hda
        have o48 := o47.trans o8
        refine ⟨.ref ta, .ref da, _, _, _, _, k, k', way, rfl, rT4.mono o48.tm, gT, hp, RK.tup (.of upd_same) (.cons (.i _) (.cons (rk4'.mono o48.tm) (.cons (.i _) (.cons (rk4.mono o48.tm) (.cons (ry'.mono o48.tm) .nil))))), fun H9 o9 => ?_⟩
        exact ⟨_, rfl, iteF (hR _ _ ⟨rfl, o8.trans o9⟩)⟩
    obtain ⟨rfl, o8⟩ := hP
    have o48 := o47.trans o8
    obtain ⟨na, uf, um, up, rfl, hna, rf, rm, rp⟩ := RK.node (rn4.mono o48.tm)
    refine ⟨_, rfl, by show 1 ≤ sizeLine; decide, fun qa hqa => ⟨_, rfl, ?_⟩⟩
    have o9 := Old.new (o := .tup [.str "?"]) hqa
    have rq : RK K (upd H8 qa (.tup [.str "?"])) (Kn.mk "?" []).d (.ref qa) := RK.tup (.of upd_same) (.cons (.s _) .nil)
    generalize upd H8 qa (.tup [.str "?"]) = H9 at o9 rq ⊢
    have hn9 := (hna.mono o9.tm).sq
    refine ⟨_, rfl, sl_hd2 hn9 fun s1 hs1 => ⟨_, rfl, by show 1 ≤ sizeLine; decide, fun s2 hs2 => ?_⟩⟩
    have o10 := Old.new (o := .tup [.str x]) hs1
    have o11 := Old.new (o := .tup [.int (c0 % 10000)]) hs2
    refine cat_g (ds := [.str x]) (es := [.int (c0 % 10000)]) (RK.tup (.of (o11 _ _ upd_same)) (.cons (.s _) .nil)) (RK.tup (.of upd_same) (.cons (.i _) .nil)) (by show 1 + 1 ≤ 1000; decide) fun cv H12 o12 rc => ?_
    have o912 := (o10.trans o11).trans o12
    refine ⟨_, rfl, _, rfl, sl_tl2 ((hna.mono o9.tm).mono o912.tm).sq fun s3 hs3 => ?_⟩
    have o13 := Old.new (o := .tup (uf ++ um ++ up)) hs3
    have oA := (o9.trans o912).trans o13
    obtain ⟨⟨hw, lf, lm, _⟩, _⟩ := (L.nd 0 (by decide) (by decide)).wf
    have lf5 := nf_le x hw
    have lm5 := nk_le x hw
    have rtl : RK K _ (.tup (fr ++ mid ++ (if x = "row" then [Dk.tup (Tn.ds [])] else Tn.ds []))) (.ref s3) := RK.tup (.of upd_same) (((rf.append rm).append rp).mono oA.tm)
    have ll : ([Dk.str x] ++ [Dk.int (c0 % 10000)]).length + (fr ++ mid ++ (if x = "row" then [Dk.tup (Tn.ds [])] else Tn.ds [])).length ≤ 1000 := by
      have z : (if x = "row" then [Dk.tup (Tn.ds [])] else Tn.ds []).length ≤ 1 := by
        split
        · exact Nat.le_refl _
        · exact Nat.zero_le _
      rw [List.length_append, List.length_append, List.length_append]
      simp only [List.length_cons, List.length_nil]
      omega
    refine cat_g (rc.mono o13.tm) rtl ll fun iv H14 o14 ri => ?_
    have o914 := (o912.trans o13).trans o14
    refine ⟨by show 4 ≤ sizeLine; decide, fun sa hsa => ?_⟩
    have o15 := Old.new (o := .tup [.str "as", .int ((c0 % 10000 + 1 + c1 % 9999) % 10000), .ref qa, iv]) hsa
    have rS : RK K (upd H14 sa (.tup [.str "as", .int ((c0 % 10000 + 1 + c1 % 9999) % 10000), .ref qa, iv])) (Tn.mk "as" ((c0 % 10000 + 1 + c1 % 9999) % 10000) [] [(Kn.mk "?" []).d] [.mk x (c0 % 10000) fr mid []]).d (.ref sa) := RK.tup (.of upd_same) (.cons (.s _) (.cons (.i _) (.cons ((rq.mono o914.tm).mono o15.tm) (.cons (ri.mono o15.tm) .nil))))
    have oB := (o48.trans o9).trans (o914.trans o15)
    generalize upd H14 sa (.tup [.str "as", .int ((c0 % 10000 + 1 + c1 % 9999) % 10000), .ref qa, iv]) = H16 at o15 rS oB ⊢
    have gS := pg_as (p := (c0 % 10000 + 1 + c1 % 9999) % 10000) (o := c0 % 10000) (k := Kn.mk "?" []) L (by omega) (by omega) (by omega) (by omega) wf_q (by show 1 + 0 ≤ 3; decide)
    refine ⟨_, rfl, fun kd hkd => ⟨_, rfl, by show 1 ≤ sizeLine; decide, fun q1 hq1 => ⟨_, rfl, _, rfl, by rw [upd_ne (Ne.symm (nq_of hq1)), upd_same], [(.inl ((c0 % 10000 + 1 + c1 % 9999) % 10000), .ref q1), (.inl (c0 % 10000), kv')], rfl, by show 2 ≤ 15; decide, ?_⟩⟩⟩
    have oC := old3 (o := .dK []) (o' := .tup [.str "?"]) (o'' := .dK (mergeK [] [(.inl ((c0 % 10000 + 1 + c1 % 9999) % 10000), .ref q1), (.inl (c0 % 10000), kv')])) hkd hq1
    have hkC : upd (upd (upd H16 kd (.dK [])) q1 (.tup [.str "?"])) kd (.dK (mergeK [] [(.inl ((c0 % 10000 + 1 + c1 % 9999) % 10000), .ref q1), (.inl (c0 % 10000), kv')])) kd = some (.dK (mergeK [] [(.inl ((c0 % 10000 + 1 + c1 % 9999) % 10000), .ref q1), (.inl (c0 % 10000), kv')])) := upd_same
    have rqC : RK K (upd (upd (upd H16 kd (.dK [])) q1 (.tup [.str "?"])) kd (.dK (mergeK [] [(.inl ((c0 % 10000 + 1 + c1 % 9999) % 10000), .ref q1), (.inl (c0 % 10000), kv')]))) (Kn.mk "?" []).d (.ref q1) := RK.tup (.of (by rw [upd_ne (nq_of hq1), upd_same])) (.cons (.s _) .nil)
    generalize upd (upd (upd H16 kd (.dK [])) q1 (.tup [.str "?"])) kd (.dK (mergeK [] [(.inl ((c0 % 10000 + 1 + c1 % 9999) % 10000), .ref q1), (.inl (c0 % 10000), kv')])) = H17 at oC hkC rqC ⊢
    refine fun wd2 hwd2 => ⟨_, rfl, by show 1 ≤ sizeLine; decide, fun q2 hq2 => ⟨_, rfl, by show 1 ≤ sizeLine; decide, fun q3 hq3 => ?_⟩⟩
    have n2 := nq_of hq2
    have n3 : q3 ≠ q2 := nq_of hq3
    have n4 : q3 ≠ wd2 := fun z => by rw [z, upd_ne (Ne.symm n2), upd_same] at hq3; cases hq3
    refine ⟨by rw [upd_ne (Ne.symm n4), upd_ne (Ne.symm n2), upd_same], [(.inl ((c0 % 10000 + 1 + c1 % 9999) % 10000), .ref q2), (.inl (c0 % 10000), .ref q3)], rfl, by show 2 ≤ 15; decide, ?_⟩
    have oD := old4 (o := .dK []) (o' := .tup [.str "?"]) (o'' := .tup [.str "?"]) (o3 := .dK (mergeK [] [(.inl ((c0 % 10000 + 1 + c1 % 9999) % 10000), .ref q2), (.inl (c0 % 10000), .ref q3)])) hwd2 hq2 hq3
    have oCD := oC.trans oD
    refine ⟨.ref sa, kd, wd2, _, _, _, _, Kn.mk "?" [], k', rfl, rS.mono oCD.tm, gS, part_q, Ne.symm pq, two_disp (Ne.symm pq) (oD _ _ hkC) (rqC.mono oD.tm) ((rk4'.mono oB.tm).mono oCD.tm), two_disp (Ne.symm pq) upd_same (RK.tup (.of (by rw [upd_ne n2, upd_ne (Ne.symm n3), upd_same])) (.cons (.s _) .nil)) (RK.tup (.of (by rw [upd_ne n4, upd_same])) (.cons (.s _) .nil)), fun H19 o19 => ?_⟩
    exact ⟨_, rfl, iteF ⟨_, _, _, rfl, (oB.trans oCD).trans o19⟩⟩
  · intro σ H5 hv
    obtain ⟨k8, k9, k10, rfl, o5⟩ := hv
    exact q _
end
end L2.K31

end
section
set_option Elab.async false
set_option linter.all false
set_option maxRecDepth 100000
set_option maxHeartbeats 4000000
namespace L2.K31
open PySem PySem.Spec PyProof.Rows L2.Bw L2.Bk L2.Ex
section
variable {P : Program} {w : World} {K : PySem.W.Frag} {mg : Str → Option Value} {base : Heap} {f : Addr} {fd : FuncData}
theorem none_of {k : Nat} {ps : List Str} {sp : Sp} (no : ∀ vs H Q E, ¬ sp vs H Q E) : FnOk P w K mg base CX0 k f fd ps sp := ⟨fun vs H Q E h => absurd h (no vs H Q E), fun A outer s H args us vs Q E _ _ _ _ h => absurd h (no vs H Q E)⟩
theorem no_depth : ∀ vs H Q E, ¬ spDepth K 0 vs H Q E := fun vs H Q E h => by
  obtain ⟨v, t, _, _, _, h1, _⟩ := h
  omega
theorem no_parting : ∀ vs H Q E, ¬ spParting K 0 vs H Q E := fun vs H Q E h => by
  obtain ⟨x, y, a, b, _, _, _, _, _, h1, _⟩ := h
  omega
theorem no_LP : ∀ vs H Q E, ¬ spParting K 0 vs H Q E := no_parting
theorem no_NB : ∀ vs H Q E, ¬ spNB K 0 vs H Q E := fun vs H Q E h => by
  obtain ⟨v, y, t, bs, _, _, _, _, h1, _⟩ := h
  omega
theorem no_Kb : ∀ vs H Q E, ¬ spKb K 0 vs H Q E := fun vs H Q E h => by
  obtain ⟨a, room, _, h1, h2, _⟩ := h
  omega
theorem no_Look {C Cp : Addr} : ∀ vs H Q E, ¬ spLook K C Cp 0 vs H Q E := fun vs H Q E h => by
  obtain ⟨L, kd, wd, b, ks, ws, kvs, tv, t, ms, k, _, _, _, _, _, _, _, h1, _⟩ := h
  cases t
  exact absurd h1 (by show ¬ 1 + _ ≤ 0; omega)
/-- a def that calls itself, by the number of calls -/
theorem cal_recL {x : Str} {ps : List Str} {sp : Nat → Sp} (lv : Nat → Nat) (b : Binds K fd ps []) (kp : PySem.W.keepIn K (.ref f) = true) (m : mg x = some (.ref f)) (no : ∀ vs H Q E, ¬ sp 0 vs H Q E)
    (step : ∀ n, Cal P w K mg base x ps (lv n) (sp n) → FnOk P w K mg base CX0 (lv (n + 1)) f fd ps (sp (n + 1))) : ∀ n, Cal P w K mg base x ps (lv n) (sp n)
  | 0 => ⟨⟨f, fd, none_of no, b, kp, m⟩⟩
  | n + 1 => ⟨⟨f, fd, step n (cal_recL lv b kp m no step n), b, kp, m⟩⟩
end
/-- a def stands at the program's top -/
noncomputable def Here (K : PySem.W.Frag) (x : Str) (st : Stmt) : Prop := ∃ f fd, Fun K x x st f fd ∧ PySem.W.nsIn K mainGlobals x = some (some (.ref f))
theorem here_mk {K : PySem.W.Frag} {x : Str} {st : Stmt} {f : Addr} {od an : Option Addr} {sl : Array (Option Value)} {oc kV dc pm cd ct : Value} (a : PySem.W.nsIn K mainGlobals x = some (some (.ref f)))
    (l : K.lookup f = some ⟨oc, od, .func (PySem.W.fnOf x x (defArgs st) (defBody st) (defScope st) .none kV dc pm an cd ct), sl⟩) (c : PySem.W.codeIn K cd x = true) (k : PySem.W.keepIn K (.ref f) = true) : Here K x st := ⟨f, _, fun_mk l c k, a⟩
noncomputable def T_UNTOLD (K : PySem.W.Frag) : Prop := ∃ ua, PySem.W.nsIn K mainGlobals "UNTOLD" = some (some (.ref ua)) ∧ Kt K ua [.str "?"]
theorem tup_UNTOLD {K : PySem.W.Frag} {ua : Addr} {od : Option Addr} {n : Nat} {tk : Tok} {sl : Array (Option Value)} (a : PySem.W.nsIn K mainGlobals "UNTOLD" = some (some (.ref ua))) (l : K.lookup ua = some ⟨.type "tuple", od, .seq #[.str "?" tk] n, sl⟩) : T_UNTOLD K :=
  ⟨ua, a, _, _, n, l, rfl, rfl, by show 1 ≤ sizeLine; decide, .cons ⟨tk, rfl⟩ .nil⟩
noncomputable def B_STEPS (K : PySem.W.Frag) : Prop := ∃ fa, PySem.W.nsIn K mainGlobals "STEPS" = some (some (.ref fa)) ∧ KTD.tabLook (lookN K) (fun b => K.lookup b) fa stepTab = true
theorem tab_STEPS {K : PySem.W.Frag} {fa : Addr} (a : PySem.W.nsIn K mainGlobals "STEPS" = some (some (.ref fa))) (h : KTD.tabLook (lookN K) (fun b => K.lookup b) fa stepTab = true) : B_STEPS K := ⟨fa, a, h⟩
noncomputable def B_FORMS (K : PySem.W.Frag) : Prop := ∃ fa, PySem.W.nsIn K mainGlobals "FORMS" = some (some (.ref fa)) ∧ KTD.tabLook (lookT K) (fun b => K.lookup b) fa K11.table = true
theorem tab_FORMS {K : PySem.W.Frag} {fa : Addr} (a : PySem.W.nsIn K mainGlobals "FORMS" = some (some (.ref fa))) (h : KTD.tabLook (lookT K) (fun b => K.lookup b) fa K11.table = true) : B_FORMS K := ⟨fa, a, h⟩
noncomputable def B_SURE_KINDS (K : PySem.W.Frag) : Prop := ∃ fa, PySem.W.nsIn K mainGlobals "SURE_KINDS" = some (some (.ref fa)) ∧ KTD.tabLook (lookD K) (fun b => K.lookup b) fa dSK = true
theorem tab_SURE_KINDS {K : PySem.W.Frag} {fa : Addr} (a : PySem.W.nsIn K mainGlobals "SURE_KINDS" = some (some (.ref fa))) (h : KTD.tabLook (lookD K) (fun b => K.lookup b) fa dSK = true) : B_SURE_KINDS K := ⟨fa, a, h⟩
noncomputable def B_TAKEN_OUT (K : PySem.W.Frag) : Prop := ∃ fa, PySem.W.nsIn K mainGlobals "TAKEN_OUT" = some (some (.ref fa)) ∧ KTD.tabLook (lookD K) (fun b => K.lookup b) fa dTO = true
theorem tab_TAKEN_OUT {K : PySem.W.Frag} {fa : Addr} (a : PySem.W.nsIn K mainGlobals "TAKEN_OUT" = some (some (.ref fa))) (h : KTD.tabLook (lookD K) (fun b => K.lookup b) fa dTO = true) : B_TAKEN_OUT K := ⟨fa, a, h⟩
noncomputable def I_MOST_DEPTH (K : PySem.W.Frag) : Prop := ∃ tk, PySem.W.nsIn K mainGlobals "MOST_DEPTH" = some (some (.int 4 tk))
theorem int_MOST_DEPTH {K : PySem.W.Frag} {tk : Tok} (a : PySem.W.nsIn K mainGlobals "MOST_DEPTH" = some (some (.int 4 tk))) : I_MOST_DEPTH K := ⟨tk, a⟩
theorem noneX {P : Program} {w : World} {K : PySem.W.Frag} {mg : Str → Option Value} {base : Heap} {f : Addr} {fd : FuncData} {k : Nat} {ps : List Str} {sp : Sp} (no : ∀ vs H Q E, ¬ sp vs H Q E) : FnOk P w K mg base (CXF P w) k f fd ps sp := ⟨fun vs H Q E h => absurd h (no vs H Q E), fun A outer s H args us vs Q E _ _ _ _ h => absurd h (no vs H Q E)⟩
/-- a method that calls itself and may raise, by the number of calls -/
theorem calmx_recL {P : Program} {w : World} {K : PySem.W.Frag} {mg : Str → Option Value} {base : Heap} {f C : Addr} {fd : FuncData} {x : Str} {ps : List Str} {sp : Nat → Sp} (lv : Nat → Nat) (b : Binds K fd ps []) (M : Meth K C x f) (no : ∀ vs H Q E, ¬ sp 0 vs H Q E)
    (step : ∀ n, CalMX P w K mg base C x ps (lv n) (sp n) → FnOk P w K mg base (CXF P w) (lv (n + 1)) f fd ps (sp (n + 1))) : ∀ n, CalMX P w K mg base C x ps (lv n) (sp n)
  | 0 => ⟨⟨f, fd, noneX no, b, M⟩⟩
  | n + 1 => ⟨⟨f, fd, step n (calmx_recL lv b M no step n), b, M⟩⟩
structure XC (K : PySem.W.Frag) (C B fI D1 D2 D3 D4 D5 D6 D7 : Addr) : Prop where
  a : PySem.W.nsIn K mainGlobals "Parted" = some (some (.ref C))
  aB : PySem.W.nsIn K mainGlobals "BlameError" = some (some (.ref B))
  a1 : PySem.W.nsIn K mainGlobals "NoFit" = some (some (.ref D1))
  a2 : PySem.W.nsIn K mainGlobals "NoLook" = some (some (.ref D2))
  a3 : PySem.W.nsIn K mainGlobals "NoPart" = some (some (.ref D3))
  a4 : PySem.W.nsIn K mainGlobals "NoText" = some (some (.ref D4))
  a5 : PySem.W.nsIn K mainGlobals "NoName" = some (some (.ref D5))
  a6 : PySem.W.nsIn K mainGlobals "TooDeep" = some (some (.ref D6))
  a7 : PySem.W.nsIn K mainGlobals "TooMany" = some (some (.ref D7))
  own : OwnI K C fI veB "ValueError.__new__"
  ini : ∃ fd, Fun K "__init__" "Parted.__init__" sInitP fI fd
  xf : ExFind K C
  st : ExSet K C
  kp : PySem.W.keepIn K (.ref C) = true
  ty : PySem.W.typeIn K (.ref C) = some (.type "type")
  hh : PySem.W.hasDictIn K C = true
  f1 : PySem.W.findIn K (.ref C) "place" = some none
  f2 : PySem.W.findIn K (.ref C) "kind" = some none
  f3 : PySem.W.findIn K (.ref C) "by" = some none
  f4 : PySem.W.findIn K (.ref C) "wanted" = some none
  f5 : PySem.W.findIn K (.ref C) "way" = some none
  bc : ExCls K B
  bi : BInit K B
  hm : PySem.W.mroIn K C (.ref B) = some true
  i1 : PySem.W.kitOne K (.ref C) (.ref D1) = some false
  i2 : PySem.W.kitOne K (.ref C) (.ref D2) = some false
  i3 : PySem.W.kitOne K (.ref C) (.ref D3) = some false
  i4 : PySem.W.kitOne K (.ref C) (.ref D4) = some false
  i5 : PySem.W.kitOne K (.ref C) (.ref D5) = some false
  i6 : PySem.W.kitOne K (.ref C) (.ref D6) = some false
  i7 : PySem.W.kitOne K (.ref C) (.ref D7) = some false
  i8 : PySem.W.kitOne K (.ref C) (.type "ValueError") = some true
  i9 : PySem.W.kitOne K (.ref C) (.ref C) = some true
noncomputable def X_Parted (K : PySem.W.Frag) : Prop := ∃ C B fI D1 D2 D3 D4 D5 D6 D7 : Addr, XC K C B fI D1 D2 D3 D4 D5 D6 D7
theorem x_Parted {K : PySem.W.Frag} {C B fI D1 D2 D3 D4 D5 D6 D7 : Addr} {nm q : Str} {N : Addr} {bs bm : List Value} {hdct : Bool} {sn : List Str} {sub : List Value} {ab : Bool} {col : Option Bool} {dd : Option Addr} {k0 k1 k2 k3 k5 : Option Value} {ofd anf : Option Addr} {slf : Array (Option Value)} {ocf kVf dcf pmf cdf ctf : Value}
    (a : PySem.W.nsIn K mainGlobals "Parted" = some (some (.ref C))) (aB : PySem.W.nsIn K mainGlobals "BlameError" = some (some (.ref B))) (a1 : PySem.W.nsIn K mainGlobals "NoFit" = some (some (.ref D1))) (a2 : PySem.W.nsIn K mainGlobals "NoLook" = some (some (.ref D2))) (a3 : PySem.W.nsIn K mainGlobals "NoPart" = some (some (.ref D3))) (a4 : PySem.W.nsIn K mainGlobals "NoText" = some (some (.ref D4))) (a5 : PySem.W.nsIn K mainGlobals "NoName" = some (some (.ref D5))) (a6 : PySem.W.nsIn K mainGlobals "TooDeep" = some (some (.ref D6))) (a7 : PySem.W.nsIn K mainGlobals "TooMany" = some (some (.ref D7))) (l : K.lookup C = some (excClassObj nm q C N bs bm hdct sn sub ab col dd k0 k1 k2 k3 k5 "ValueError.__new__"))
    (t : PySem.W.tailIn K [.type "ValueError", .type "Exception", .type "BaseException", .type "object"] bm = true) (ini : PySem.W.findIn K (.ref C) "__init__" = some (some (.ref fI))) (fl : K.lookup fI = some ⟨ocf, ofd, .func (PySem.W.fnOf "__init__" "Parted.__init__" (defArgs sInitP) (defBody sInitP) (defScope sInitP) .none kVf dcf pmf anf cdf ctf), slf⟩) (fn : PySem.W.isFn K (.ref fI) = true) (fc : PySem.W.codeIn K cdf "Parted.__init__" = true) (fk : PySem.W.keepIn K (.ref fI) = true) (ga : PySem.W.findIn K (.ref C) "__getattribute__" = some (some (.builtin "BaseException.__getattribute__"))) (gn : PySem.W.findIn K (.ref C) "__getattr__" = some none) (cl : PySem.W.findIn K (.ref C) "__class__" = some (some (.builtin "object.__class__"))) (sg : PySem.W.specialIn K (.builtin "object.__class__") "__get__" = some (some (.builtin "getset_descriptor.__get__"))) (tk : PySem.W.takesIn K (.builtin "object.__class__") = some true) (ob : PySem.W.mroIn K C (.type "object") = some true) (be : PySem.W.mroIn K C (.type "BaseException") = some true) (is : (PySem.W.clsIn K C).isSome = true) (kp : PySem.W.keepIn K (.ref C) = true) (tyC : PySem.W.typeIn K (.ref C) = some (.type "type")) (sa : PySem.W.findIn K (.ref C) "__setattr__" = some (some (.builtin "object.__setattr__"))) (ov : ((PySem.W.clsIn K C).any fun cd => overB veB cd.mro) = true) (hdc : ((PySem.W.clsIn K C).any fun cd => cd.hasDict) = true) (hh : PySem.W.hasDictIn K C = true) (f1 : PySem.W.findIn K (.ref C) "place" = some none) (f2 : PySem.W.findIn K (.ref C) "kind" = some none) (f3 : PySem.W.findIn K (.ref C) "by" = some none) (f4 : PySem.W.findIn K (.ref C) "wanted" = some none) (f5 : PySem.W.findIn K (.ref C) "way" = some none) (b1 : PySem.W.typeIn K (.ref B) = some (.type "type")) (b2 : (PySem.W.clsIn K B).isSome = true) (b3 : PySem.W.mroIn K B (.type "BaseException") = some true) (hm : PySem.W.mroIn K C (.ref B) = some true) (g1 : PySem.W.specialIn K (.ref B) "__getattribute__" = some (some (.builtin "type.__getattribute__"))) (g2 : PySem.W.readsIn K B (.type "type") = true) (g3 : PySem.W.findCls K (.ref B) (.type "type") "__init__" = some (.val (.builtin "ValueError.__init__"))) (i1 : PySem.W.kitOne K (.ref C) (.ref D1) = some false) (i2 : PySem.W.kitOne K (.ref C) (.ref D2) = some false) (i3 : PySem.W.kitOne K (.ref C) (.ref D3) = some false) (i4 : PySem.W.kitOne K (.ref C) (.ref D4) = some false) (i5 : PySem.W.kitOne K (.ref C) (.ref D5) = some false) (i6 : PySem.W.kitOne K (.ref C) (.ref D6) = some false) (i7 : PySem.W.kitOne K (.ref C) (.ref D7) = some false) (i8 : PySem.W.kitOne K (.ref C) (.type "ValueError") = some true) (i9 : PySem.W.kitOne K (.ref C) (.ref C) = some true) : X_Parted K :=
  ⟨C, B, fI, D1, D2, D3, D4, D5, D6, D7, { a := a, aB := aB, a1 := a1, a2 := a2, a3 := a3, a4 := a4, a5 := a5, a6 := a6, a7 := a7, own := ⟨⟨nm, q, N, bs, bm, hdct, sn, sub, ab, col, dd, k0, k1, k2, k3, k5, l, t⟩, ini, fn⟩, ini := ⟨_, fun_mk fl fc fk⟩, xf := ⟨ga, gn, cl, sg, tk, ob, be, is⟩, st := ⟨sa, ov, hdc, ob⟩, kp := kp, ty := tyC, hh := hh, f1 := f1, f2 := f2, f3 := f3, f4 := f4, f5 := f5, bc := ⟨b1, b2, b3⟩, bi := ⟨g1, g2, g3⟩, hm := hm, i1 := i1, i2 := i2, i3 := i3, i4 := i4, i5 := i5, i6 := i6, i7 := i7, i8 := i8, i9 := i9 }⟩
structure LC (K : PySem.W.Frag) (C fW fH fL fI : Addr) : Prop where
  a : PySem.W.nsIn K mainGlobals "Looker" = some (some (.ref C))
  cls : Cls K C
  mk' : Mk K C fI
  n1 : NoAttr K C "kinds"
  n2 : NoAttr K C "wanted"
  FW : ∃ fd, Fun K "want" "Looker.want" sWant fW fd
  MW : Meth K C "want" fW
  FH : ∃ fd, Fun K "hold" "Looker.hold" sHold fH fd
  MH : Meth K C "hold" fH
  FL : ∃ fd, Fun K "look" "Looker.look" sLook fL fd
  ML : Meth K C "look" fL
  FI : ∃ fd, Fun K "__init__" "Looker.__init__" sLI fI fd
noncomputable def X_Looker (K : PySem.W.Frag) : Prop := ∃ C fW fH fL fI : Addr, LC K C fW fH fL fI
theorem x_Looker {K : PySem.W.Frag} {C fW fH fL fI : Addr} {ofdW anfW : Option Addr} {slfW : Array (Option Value)} {ocfW kVfW dcfW pmfW cdfW ctfW : Value} {ofdH anfH : Option Addr} {slfH : Array (Option Value)} {ocfH kVfH dcfH pmfH cdfH ctfH : Value} {ofdL anfL : Option Addr} {slfL : Array (Option Value)} {ocfL kVfL dcfL pmfL cdfL ctfL : Value} {ofdI anfI : Option Addr} {slfI : Array (Option Value)} {ocfI kVfI dcfI pmfI cdfI ctfI : Value}
    (a : PySem.W.nsIn K mainGlobals "Looker" = some (some (.ref C))) (pg : PySem.W.plainGet K C Str.empty = true) (hd : PySem.W.hasDictIn K C = true) (po : PySem.W.plainOver K C = true) (sa : PySem.W.findIn K (.ref C) "__setattr__" = some (some (.builtin "object.__setattr__"))) (mk : PySem.W.makesIn K C = true) (kp : PySem.W.keepIn K (.ref C) = true) (n1 : PySem.W.findIn K (.ref C) "kinds" = some none) (n2 : PySem.W.findIn K (.ref C) "wanted" = some none) (atW : PySem.W.findIn K (.ref C) "want" = some (some (.ref fW))) (flW : K.lookup fW = some ⟨ocfW, ofdW, .func (PySem.W.fnOf "want" "Looker.want" (defArgs sWant) (defBody sWant) (defScope sWant) .none kVfW dcfW pmfW anfW cdfW ctfW), slfW⟩) (fnW : PySem.W.isFn K (.ref fW) = true) (fcW : PySem.W.codeIn K cdfW "Looker.want" = true) (fkW : PySem.W.keepIn K (.ref fW) = true) (atH : PySem.W.findIn K (.ref C) "hold" = some (some (.ref fH))) (flH : K.lookup fH = some ⟨ocfH, ofdH, .func (PySem.W.fnOf "hold" "Looker.hold" (defArgs sHold) (defBody sHold) (defScope sHold) .none kVfH dcfH pmfH anfH cdfH ctfH), slfH⟩) (fnH : PySem.W.isFn K (.ref fH) = true) (fcH : PySem.W.codeIn K cdfH "Looker.hold" = true) (fkH : PySem.W.keepIn K (.ref fH) = true) (atL : PySem.W.findIn K (.ref C) "look" = some (some (.ref fL))) (flL : K.lookup fL = some ⟨ocfL, ofdL, .func (PySem.W.fnOf "look" "Looker.look" (defArgs sLook) (defBody sLook) (defScope sLook) .none kVfL dcfL pmfL anfL cdfL ctfL), slfL⟩) (fnL : PySem.W.isFn K (.ref fL) = true) (fcL : PySem.W.codeIn K cdfL "Looker.look" = true) (fkL : PySem.W.keepIn K (.ref fL) = true) (atI : PySem.W.findIn K (.ref C) "__init__" = some (some (.ref fI))) (flI : K.lookup fI = some ⟨ocfI, ofdI, .func (PySem.W.fnOf "__init__" "Looker.__init__" (defArgs sLI) (defBody sLI) (defScope sLI) .none kVfI dcfI pmfI anfI cdfI ctfI), slfI⟩) (fnI : PySem.W.isFn K (.ref fI) = true) (fcI : PySem.W.codeIn K cdfI "Looker.__init__" = true) (fkI : PySem.W.keepIn K (.ref fI) = true) : X_Looker K :=
  ⟨C, fW, fH, fL, fI, { a := a, cls := ⟨pg, hd, po, sa⟩, mk' := ⟨mk, atI, fnI, kp⟩, n1 := n1, n2 := n2, FW := ⟨_, fun_mk flW fcW fkW⟩, MW := ⟨atW, fnW, fkW⟩, FH := ⟨_, fun_mk flH fcH fkH⟩, MH := ⟨atH, fnH, fkH⟩, FL := ⟨_, fun_mk flL fcL fkL⟩, ML := ⟨atL, fnL, fkL⟩, FI := ⟨_, fun_mk flI fcI fkI⟩ }⟩
structure Txt (K : PySem.W.Frag) : Prop where
  d_steps : Here K "steps" sSteps
  d_kinds_in : Here K "kinds_in" sKi
  d_depth : Here K "depth" sDepth
  d_parting : Here K "parting" sParting
  d_form : Here K "form" sForm
  d_indexes : Here K "indexes" sIndexes
  d_parts : Here K "parts" sParts
  d_written : Here K "written" sWr
  d_names_bound : Here K "names_bound" sNb
  d_need_bound : Here K "need_bound" sNB
  d_need_names : Here K "need_names" sNN
  d_need_same : Here K "need_same" sSm
  d_need_shallow : Here K "need_shallow" sN0
  d_bound_within : Here K "bound_within" sBW
  d_own_kind : Here K "own_kind" sOw
  d_wanted_kind : Here K "wanted_kind" sWa
  d_looked : Here K "looked" sLkd
  d_kind_of : Here K "kind_of" sKo
  d__law_cell_at : Here K "_law_cell_at" sCell
  d__law_kind_by : Here K "_law_kind_by" sKb
  d__law_steps : Here K "_law_steps" sLS
  d__law_parting : Here K "_law_parting" sLP
  d__law_inner : Here K "_law_inner" sIn
  d__law_refused : Here K "_law_refused" sRf
  d__law_taken : Here K "_law_taken" sTk
  d_law : Here K "law" sLaw
  x_Parted : X_Parted K
  x_Looker : X_Looker K
  t_UNTOLD : T_UNTOLD K
  b_STEPS : B_STEPS K
  b_FORMS : B_FORMS K
  b_SURE_KINDS : B_SURE_KINDS K
  b_TAKEN_OUT : B_TAKEN_OUT K
  i_MOST_DEPTH : I_MOST_DEPTH K
  z_len : PySem.W.nsIn K mainGlobals "len" = some none
  z_isinstance : PySem.W.nsIn K mainGlobals "isinstance" = some none
  z_list : PySem.W.nsIn K mainGlobals "list" = some none
  z_tuple : PySem.W.nsIn K mainGlobals "tuple" = some none
  z_int : PySem.W.nsIn K mainGlobals "int" = some none
  z_bool : PySem.W.nsIn K mainGlobals "bool" = some none
  z_str : PySem.W.nsIn K mainGlobals "str" = some none
  z_range : PySem.W.nsIn K mainGlobals "range" = some none
  z_zip : PySem.W.nsIn K mainGlobals "zip" = some none
  z_max : PySem.W.nsIn K mainGlobals "max" = some none
  z_enumerate : PySem.W.nsIn K mainGlobals "enumerate" = some none
  z_dict : PySem.W.nsIn K mainGlobals "dict" = some none
  z_ValueError : PySem.W.nsIn K mainGlobals "ValueError" = some none
theorem all_mk {l : PySem.W.OpenLaw} {w : World} {K : PySem.W.Frag} {h : Heap} {mg : Str → Option Value} {fa : Addr} (Y : K.In h) (G : h.Ns mainGlobals mg) (hfa : mg "law" = some (.ref fa)) (T : Txt K) :
    ∃ fd : FuncData, (∀ (s : Shared) (v : Value), BindsTo s fd ⟨[v], []⟩ [("_law_script", v)]) ∧ ∀ base : Heap, K.In base → base.Ns mainGlobals mg → FnOk l.prog w K mg base CX0 17 fa fd ["_law_script"] (spLaw K) := by
  have X : Tx mg := ⟨PySem.W.mg_none_of Y G T.z_len, PySem.W.mg_none_of Y G T.z_isinstance, PySem.W.mg_none_of Y G T.z_list, PySem.W.mg_none_of Y G T.z_tuple, PySem.W.mg_none_of Y G T.z_int, PySem.W.mg_none_of Y G T.z_bool, PySem.W.mg_none_of Y G T.z_str, PySem.W.mg_none_of Y G T.z_range, PySem.W.mg_none_of Y G T.z_zip, PySem.W.mg_none_of Y G T.z_max, PySem.W.mg_none_of Y G T.z_enumerate, PySem.W.mg_none_of Y G T.z_dict, PySem.W.mg_none_of Y G T.z_ValueError⟩
  obtain ⟨fL, fdL, FL, aL⟩ := T.d_law
  have e := hfa.symm.trans (PySem.W.mg_of Y G aL)
  cases e
  obtain ⟨C, B, fI, D1, D2, D3, D4, D5, D6, D7, xc⟩ := T.x_Parted
  obtain ⟨fdI, FI⟩ := xc.ini
  obtain ⟨CL, fW, fH, fLk, fLI, lc⟩ := T.x_Looker
  obtain ⟨fdW, FW⟩ := lc.FW
  obtain ⟨fdH, FH⟩ := lc.FH
  obtain ⟨fdLk, FLk⟩ := lc.FL
  obtain ⟨fdLI, FLI⟩ := lc.FI
  have m_Looker := PySem.W.mg_of Y G lc.a
  have m_Parted := PySem.W.mg_of Y G xc.a
  have m_BlameError := PySem.W.mg_of Y G xc.aB
  have m_NoFit := PySem.W.mg_of Y G xc.a1
  have m_NoLook := PySem.W.mg_of Y G xc.a2
  have m_NoPart := PySem.W.mg_of Y G xc.a3
  have m_NoText := PySem.W.mg_of Y G xc.a4
  have m_NoName := PySem.W.mg_of Y G xc.a5
  have m_TooDeep := PySem.W.mg_of Y G xc.a6
  have m_TooMany := PySem.W.mg_of Y G xc.a7
  have b_init : Binds K fdI ["self", "place", "kind", "by", "wanted", "way"] [] := by
    obtain ⟨oc, od, kV, doc, pm, an, cdv, ct, osl, rfl, lk, hc⟩ := FI.ex
    exact FI.binds (ps := ["self", "place", "kind", "by", "wanted", "way"]) fun _ _ _ _ _ _ us hl => match us, hl with | [_, _, _, _, _, _], _ => rfl
  have b_want : Binds K fdW ["self", "node", "kind"] [] := by
    obtain ⟨oc, od, kV, doc, pm, an, cdv, ct, osl, rfl, lk, hc⟩ := FW.ex
    exact FW.binds (ps := ["self", "node", "kind"]) fun _ _ _ _ _ _ us hl => match us, hl with | [_, _, _], _ => rfl
  have b_hold : Binds K fdH ["self", "tree", "node", "found"] [] := by
    obtain ⟨oc, od, kV, doc, pm, an, cdv, ct, osl, rfl, lk, hc⟩ := FH.ex
    exact FH.binds (ps := ["self", "tree", "node", "found"]) fun _ _ _ _ _ _ us hl => match us, hl with | [_, _, _, _], _ => rfl
  have b_look : Binds K fdLk ["self", "tree", "bound"] [] := by
    obtain ⟨oc, od, kV, doc, pm, an, cdv, ct, osl, rfl, lk, hc⟩ := FLk.ex
    exact FLk.binds (ps := ["self", "tree", "bound"]) fun _ _ _ _ _ _ us hl => match us, hl with | [_, _, _], _ => rfl
  have b_LI : Binds K fdLI ["self"] [] := by
    obtain ⟨oc, od, kV, doc, pm, an, cdv, ct, osl, rfl, lk, hc⟩ := FLI.ex
    exact FLI.binds (ps := ["self"]) fun _ _ _ _ _ _ us hl => match us, hl with | [_], _ => rfl
  obtain ⟨u_UNTOLD, aU_UNTOLD, k_UNTOLD⟩ := T.t_UNTOLD
  have m_UNTOLD := PySem.W.mg_of Y G aU_UNTOLD
  obtain ⟨u_STEPS, aU_STEPS, k_STEPS⟩ := T.b_STEPS
  have m_STEPS := PySem.W.mg_of Y G aU_STEPS
  obtain ⟨u_FORMS, aU_FORMS, k_FORMS⟩ := T.b_FORMS
  have m_FORMS := PySem.W.mg_of Y G aU_FORMS
  obtain ⟨u_SURE_KINDS, aU_SURE_KINDS, k_SURE_KINDS⟩ := T.b_SURE_KINDS
  have m_SURE_KINDS := PySem.W.mg_of Y G aU_SURE_KINDS
  obtain ⟨u_TAKEN_OUT, aU_TAKEN_OUT, k_TAKEN_OUT⟩ := T.b_TAKEN_OUT
  have m_TAKEN_OUT := PySem.W.mg_of Y G aU_TAKEN_OUT
  obtain ⟨u_MOST_DEPTH, aU_MOST_DEPTH⟩ := T.i_MOST_DEPTH
  have m_MOST_DEPTH := PySem.W.mg_of Y G aU_MOST_DEPTH
  obtain ⟨f_steps, fd_steps, F_steps, a_steps⟩ := T.d_steps
  have m_steps := PySem.W.mg_of Y G a_steps
  have b_steps : Binds K fd_steps ["kind"] [] := by
    obtain ⟨oc, od, kV, doc, pm, an, cdv, ct, osl, rfl, lk, hc⟩ := F_steps.ex
    exact F_steps.binds (ps := ["kind"]) fun _ _ _ _ _ _ us hl => match us, hl with | [_], _ => rfl
  obtain ⟨f_kinds_in, fd_kinds_in, F_kinds_in, a_kinds_in⟩ := T.d_kinds_in
  have m_kinds_in := PySem.W.mg_of Y G a_kinds_in
  have b_kinds_in : Binds K fd_kinds_in ["kind"] [] := by
    obtain ⟨oc, od, kV, doc, pm, an, cdv, ct, osl, rfl, lk, hc⟩ := F_kinds_in.ex
    exact F_kinds_in.binds (ps := ["kind"]) fun _ _ _ _ _ _ us hl => match us, hl with | [_], _ => rfl
  obtain ⟨f_depth, fd_depth, F_depth, a_depth⟩ := T.d_depth
  have m_depth := PySem.W.mg_of Y G a_depth
  have b_depth : Binds K fd_depth ["kind"] [] := by
    obtain ⟨oc, od, kV, doc, pm, an, cdv, ct, osl, rfl, lk, hc⟩ := F_depth.ex
    exact F_depth.binds (ps := ["kind"]) fun _ _ _ _ _ _ us hl => match us, hl with | [_], _ => rfl
  obtain ⟨f_parting, fd_parting, F_parting, a_parting⟩ := T.d_parting
  have m_parting := PySem.W.mg_of Y G a_parting
  have b_parting : Binds K fd_parting ["kind", "other"] [] := by
    obtain ⟨oc, od, kV, doc, pm, an, cdv, ct, osl, rfl, lk, hc⟩ := F_parting.ex
    exact F_parting.binds (ps := ["kind", "other"]) fun _ _ _ _ _ _ us hl => match us, hl with | [_, _], _ => rfl
  obtain ⟨f_form, fd_form, F_form, a_form⟩ := T.d_form
  have m_form := PySem.W.mg_of Y G a_form
  have b_form : Binds K fd_form ["word"] [] := by
    obtain ⟨oc, od, kV, doc, pm, an, cdv, ct, osl, rfl, lk, hc⟩ := F_form.ex
    exact F_form.binds (ps := ["word"]) fun _ _ _ _ _ _ us hl => match us, hl with | [_], _ => rfl
  obtain ⟨f_indexes, fd_indexes, F_indexes, a_indexes⟩ := T.d_indexes
  have m_indexes := PySem.W.mg_of Y G a_indexes
  have b_indexes : Binds K fd_indexes ["tree", "sort"] [] := by
    obtain ⟨oc, od, kV, doc, pm, an, cdv, ct, osl, rfl, lk, hc⟩ := F_indexes.ex
    exact F_indexes.binds (ps := ["tree", "sort"]) fun _ _ _ _ _ _ us hl => match us, hl with | [_, _], _ => rfl
  obtain ⟨f_parts, fd_parts, F_parts, a_parts⟩ := T.d_parts
  have m_parts := PySem.W.mg_of Y G a_parts
  have b_parts : Binds K fd_parts ["tree"] [] := by
    obtain ⟨oc, od, kV, doc, pm, an, cdv, ct, osl, rfl, lk, hc⟩ := F_parts.ex
    exact F_parts.binds (ps := ["tree"]) fun _ _ _ _ _ _ us hl => match us, hl with | [_], _ => rfl
  obtain ⟨f_written, fd_written, F_written, a_written⟩ := T.d_written
  have m_written := PySem.W.mg_of Y G a_written
  have b_written : Binds K fd_written ["tree"] [] := by
    obtain ⟨oc, od, kV, doc, pm, an, cdv, ct, osl, rfl, lk, hc⟩ := F_written.ex
    exact F_written.binds (ps := ["tree"]) fun _ _ _ _ _ _ us hl => match us, hl with | [_], _ => rfl
  obtain ⟨f_names_bound, fd_names_bound, F_names_bound, a_names_bound⟩ := T.d_names_bound
  have m_names_bound := PySem.W.mg_of Y G a_names_bound
  have b_names_bound : Binds K fd_names_bound ["tree", "number"] [] := by
    obtain ⟨oc, od, kV, doc, pm, an, cdv, ct, osl, rfl, lk, hc⟩ := F_names_bound.ex
    exact F_names_bound.binds (ps := ["tree", "number"]) fun _ _ _ _ _ _ us hl => match us, hl with | [_, _], _ => rfl
  obtain ⟨f_need_bound, fd_need_bound, F_need_bound, a_need_bound⟩ := T.d_need_bound
  have m_need_bound := PySem.W.mg_of Y G a_need_bound
  have b_need_bound : Binds K fd_need_bound ["tree", "bound"] [] := by
    obtain ⟨oc, od, kV, doc, pm, an, cdv, ct, osl, rfl, lk, hc⟩ := F_need_bound.ex
    exact F_need_bound.binds (ps := ["tree", "bound"]) fun _ _ _ _ _ _ us hl => match us, hl with | [_, _], _ => rfl
  obtain ⟨f_need_names, fd_need_names, F_need_names, a_need_names⟩ := T.d_need_names
  have m_need_names := PySem.W.mg_of Y G a_need_names
  have b_need_names : Binds K fd_need_names ["tree"] [] := by
    obtain ⟨oc, od, kV, doc, pm, an, cdv, ct, osl, rfl, lk, hc⟩ := F_need_names.ex
    exact F_need_names.binds (ps := ["tree"]) fun _ _ _ _ _ _ us hl => match us, hl with | [_], _ => rfl
  obtain ⟨f_need_same, fd_need_same, F_need_same, a_need_same⟩ := T.d_need_same
  have m_need_same := PySem.W.mg_of Y G a_need_same
  have b_need_same : Binds K fd_need_same ["node", "kind", "against", "wanted"] [] := by
    obtain ⟨oc, od, kV, doc, pm, an, cdv, ct, osl, rfl, lk, hc⟩ := F_need_same.ex
    exact F_need_same.binds (ps := ["node", "kind", "against", "wanted"]) fun _ _ _ _ _ _ us hl => match us, hl with | [_, _, _, _], _ => rfl
  obtain ⟨f_need_shallow, fd_need_shallow, F_need_shallow, a_need_shallow⟩ := T.d_need_shallow
  have m_need_shallow := PySem.W.mg_of Y G a_need_shallow
  have b_need_shallow : Binds K fd_need_shallow ["tree", "kind"] [] := by
    obtain ⟨oc, od, kV, doc, pm, an, cdv, ct, osl, rfl, lk, hc⟩ := F_need_shallow.ex
    exact F_need_shallow.binds (ps := ["tree", "kind"]) fun _ _ _ _ _ _ us hl => match us, hl with | [_, _], _ => rfl
  obtain ⟨f_bound_within, fd_bound_within, F_bound_within, a_bound_within⟩ := T.d_bound_within
  have m_bound_within := PySem.W.mg_of Y G a_bound_within
  have b_bound_within : Binds K fd_bound_within ["tree", "number", "found", "bound"] [] := by
    obtain ⟨oc, od, kV, doc, pm, an, cdv, ct, osl, rfl, lk, hc⟩ := F_bound_within.ex
    exact F_bound_within.binds (ps := ["tree", "number", "found", "bound"]) fun _ _ _ _ _ _ us hl => match us, hl with | [_, _, _, _], _ => rfl
  obtain ⟨f_own_kind, fd_own_kind, F_own_kind, a_own_kind⟩ := T.d_own_kind
  have m_own_kind := PySem.W.mg_of Y G a_own_kind
  have b_own_kind : Binds K fd_own_kind ["tree", "found", "bound"] [] := by
    obtain ⟨oc, od, kV, doc, pm, an, cdv, ct, osl, rfl, lk, hc⟩ := F_own_kind.ex
    exact F_own_kind.binds (ps := ["tree", "found", "bound"]) fun _ _ _ _ _ _ us hl => match us, hl with | [_, _, _], _ => rfl
  obtain ⟨f_wanted_kind, fd_wanted_kind, F_wanted_kind, a_wanted_kind⟩ := T.d_wanted_kind
  have m_wanted_kind := PySem.W.mg_of Y G a_wanted_kind
  have b_wanted_kind : Binds K fd_wanted_kind ["tree", "found"] [] := by
    obtain ⟨oc, od, kV, doc, pm, an, cdv, ct, osl, rfl, lk, hc⟩ := F_wanted_kind.ex
    exact F_wanted_kind.binds (ps := ["tree", "found"]) fun _ _ _ _ _ _ us hl => match us, hl with | [_, _], _ => rfl
  obtain ⟨f_looked, fd_looked, F_looked, a_looked⟩ := T.d_looked
  have m_looked := PySem.W.mg_of Y G a_looked
  have b_looked : Binds K fd_looked ["tree"] [] := by
    obtain ⟨oc, od, kV, doc, pm, an, cdv, ct, osl, rfl, lk, hc⟩ := F_looked.ex
    exact F_looked.binds (ps := ["tree"]) fun _ _ _ _ _ _ us hl => match us, hl with | [_], _ => rfl
  obtain ⟨f_kind_of, fd_kind_of, F_kind_of, a_kind_of⟩ := T.d_kind_of
  have m_kind_of := PySem.W.mg_of Y G a_kind_of
  have b_kind_of : Binds K fd_kind_of ["tree"] [] := by
    obtain ⟨oc, od, kV, doc, pm, an, cdv, ct, osl, rfl, lk, hc⟩ := F_kind_of.ex
    exact F_kind_of.binds (ps := ["tree"]) fun _ _ _ _ _ _ us hl => match us, hl with | [_], _ => rfl
  obtain ⟨f__law_cell_at, fd__law_cell_at, F__law_cell_at, a__law_cell_at⟩ := T.d__law_cell_at
  have m__law_cell_at := PySem.W.mg_of Y G a__law_cell_at
  have b__law_cell_at : Binds K fd__law_cell_at ["_law_script", "_law_k"] [] := by
    obtain ⟨oc, od, kV, doc, pm, an, cdv, ct, osl, rfl, lk, hc⟩ := F__law_cell_at.ex
    exact F__law_cell_at.binds (ps := ["_law_script", "_law_k"]) fun _ _ _ _ _ _ us hl => match us, hl with | [_, _], _ => rfl
  obtain ⟨f__law_kind_by, fd__law_kind_by, F__law_kind_by, a__law_kind_by⟩ := T.d__law_kind_by
  have m__law_kind_by := PySem.W.mg_of Y G a__law_kind_by
  have b__law_kind_by : Binds K fd__law_kind_by ["_law_cell", "_law_deep"] [] := by
    obtain ⟨oc, od, kV, doc, pm, an, cdv, ct, osl, rfl, lk, hc⟩ := F__law_kind_by.ex
    exact F__law_kind_by.binds (ps := ["_law_cell", "_law_deep"]) fun _ _ _ _ _ _ us hl => match us, hl with | [_, _], _ => rfl
  obtain ⟨f__law_steps, fd__law_steps, F__law_steps, a__law_steps⟩ := T.d__law_steps
  have m__law_steps := PySem.W.mg_of Y G a__law_steps
  have b__law_steps : Binds K fd__law_steps ["_law_head"] [] := by
    obtain ⟨oc, od, kV, doc, pm, an, cdv, ct, osl, rfl, lk, hc⟩ := F__law_steps.ex
    exact F__law_steps.binds (ps := ["_law_head"]) fun _ _ _ _ _ _ us hl => match us, hl with | [_], _ => rfl
  obtain ⟨f__law_parting, fd__law_parting, F__law_parting, a__law_parting⟩ := T.d__law_parting
  have m__law_parting := PySem.W.mg_of Y G a__law_parting
  have b__law_parting : Binds K fd__law_parting ["_law_kind", "_law_other"] [] := by
    obtain ⟨oc, od, kV, doc, pm, an, cdv, ct, osl, rfl, lk, hc⟩ := F__law_parting.ex
    exact F__law_parting.binds (ps := ["_law_kind", "_law_other"]) fun _ _ _ _ _ _ us hl => match us, hl with | [_, _], _ => rfl
  obtain ⟨f__law_inner, fd__law_inner, F__law_inner, a__law_inner⟩ := T.d__law_inner
  have m__law_inner := PySem.W.mg_of Y G a__law_inner
  have b__law_inner : Binds K fd__law_inner ["_law_cell", "_law_place"] [] := by
    obtain ⟨oc, od, kV, doc, pm, an, cdv, ct, osl, rfl, lk, hc⟩ := F__law_inner.ex
    exact F__law_inner.binds (ps := ["_law_cell", "_law_place"]) fun _ _ _ _ _ _ us hl => match us, hl with | [_, _], _ => rfl
  obtain ⟨f__law_refused, fd__law_refused, F__law_refused, a__law_refused⟩ := T.d__law_refused
  have m__law_refused := PySem.W.mg_of Y G a__law_refused
  have b__law_refused : Binds K fd__law_refused ["_law_tree", "_law_due"] [] := by
    obtain ⟨oc, od, kV, doc, pm, an, cdv, ct, osl, rfl, lk, hc⟩ := F__law_refused.ex
    exact F__law_refused.binds (ps := ["_law_tree", "_law_due"]) fun _ _ _ _ _ _ us hl => match us, hl with | [_, _], _ => rfl
  obtain ⟨f__law_taken, fd__law_taken, F__law_taken, a__law_taken⟩ := T.d__law_taken
  have m__law_taken := PySem.W.mg_of Y G a__law_taken
  have b__law_taken : Binds K fd__law_taken ["_law_tree", "_law_kinds", "_law_wants"] [] := by
    obtain ⟨oc, od, kV, doc, pm, an, cdv, ct, osl, rfl, lk, hc⟩ := F__law_taken.ex
    exact F__law_taken.binds (ps := ["_law_tree", "_law_kinds", "_law_wants"]) fun _ _ _ _ _ _ us hl => match us, hl with | [_, _, _], _ => rfl
  refine ⟨fdL, ?_, fun base YB GB => ?_⟩
  · obtain ⟨oc, od, kV, doc, pm, an, cdv, ct, osl, rfl, lk, hc⟩ := FL.ex
    exact fun s v => .of_eq rfl
  have i_init : FnOk l.prog w K mg base CX0 1 fI fdI ["self", "place", "kind", "by", "wanted", "way"] (spInitP C) := ok_initP (n := 0) FI X xc.bi xc.own m_BlameError xc.st xc.f1 xc.f2 xc.f3 xc.f4 xc.f5
  have c_steps : Cal l.prog w K mg base "steps" ["kind"] 1 (spSteps K) := ⟨⟨f_steps, fd_steps, ok_steps F_steps m_STEPS k_STEPS, b_steps, F_steps.kp, m_steps⟩⟩
  have c_kinds_in : Cal l.prog w K mg base "kinds_in" ["kind"] 1 (spKi K) := ⟨⟨f_kinds_in, fd_kinds_in, ok_ki F_kinds_in X, b_kinds_in, F_kinds_in.kp, m_kinds_in⟩⟩
  have c_depth : Cal l.prog w K mg base "depth" ["kind"] 10 (spDepth K 9) := cal_recL (sp := spDepth K) (fun n => n + 1) b_depth F_depth.kp m_depth no_depth (fun n ih => ok_depth F_depth X c_kinds_in ih) 9
  have c_parting : Cal l.prog w K mg base "parting" ["kind", "other"] 9 (spParting K 8) := cal_recL (sp := spParting K) (fun n => n + 1) b_parting F_parting.kp m_parting no_parting (fun n ih => ok_parting F_parting X m_UNTOLD k_UNTOLD c_steps c_kinds_in ih) 8
  have c_form : Cal l.prog w K mg base "form" ["word"] 1 (spForm K) := ⟨⟨f_form, fd_form, ok_form F_form m_FORMS k_FORMS, b_form, F_form.kp, m_form⟩⟩
  have c_indexes : Cal l.prog w K mg base "indexes" ["tree", "sort"] 2 (spIndexes K) := ⟨⟨f_indexes, fd_indexes, ok_indexes F_indexes X c_form, b_indexes, F_indexes.kp, m_indexes⟩⟩
  have c_parts : Cal l.prog w K mg base "parts" ["tree"] 3 (spParts K) := ⟨⟨f_parts, fd_parts, ok_parts F_parts X c_indexes, b_parts, F_parts.kp, m_parts⟩⟩
  have c_written : Cal l.prog w K mg base "written" ["tree"] 3 (spWr K) := ⟨⟨f_written, fd_written, ok_Wr F_written X c_indexes, b_written, F_written.kp, m_written⟩⟩
  have c_names_bound : Cal l.prog w K mg base "names_bound" ["tree", "number"] 1 (spNb K) := ⟨⟨f_names_bound, fd_names_bound, ok_nb F_names_bound X, b_names_bound, F_names_bound.kp, m_names_bound⟩⟩
  have c_need_bound : Cal l.prog w K mg base "need_bound" ["tree", "bound"] 7 (spNB K 3) := cal_recL (sp := spNB K) (fun n => n + 4) b_need_bound F_need_bound.kp m_need_bound no_NB (fun n ih => ok_NB F_need_bound X c_parts c_names_bound ih) 3
  have c_need_names : Cal l.prog w K mg base "need_names" ["tree"] 8 (spNN K 3) := ⟨⟨f_need_names, fd_need_names, ok_NN (m := 3) F_need_names X c_need_bound, b_need_names, F_need_names.kp, m_need_names⟩⟩
  have c_need_same : CalX l.prog w K mg base "need_same" ["node", "kind", "against", "wanted"] 10 (spSm K C) := ⟨⟨f_need_same, fd_need_same, ok_Sm (n := 0) F_need_same X xc.own i_init b_init m_Parted xc.kp xc.xf.be xc.ty c_parting, b_need_same, F_need_same.kp, m_need_same⟩⟩
  have c_need_shallow : Cal l.prog w K mg base "need_shallow" ["tree", "kind"] 11 (spN0 K) := ⟨⟨f_need_shallow, fd_need_shallow, ok_N0 (n := 0) F_need_shallow X m_MOST_DEPTH c_depth, b_need_shallow, F_need_shallow.kp, m_need_shallow⟩⟩
  have c_bound_within : Cal l.prog w K mg base "bound_within" ["tree", "number", "found", "bound"] 1 (spBW K) := ⟨⟨f_bound_within, fd_bound_within, ok_BW F_bound_within X, b_bound_within, F_bound_within.kp, m_bound_within⟩⟩
  have c_own_kind : Cal l.prog w K mg base "own_kind" ["tree", "found", "bound"] 1 (spOw K) := ⟨⟨f_own_kind, fd_own_kind, ok_Ow F_own_kind X m_SURE_KINDS k_SURE_KINDS m_TAKEN_OUT k_TAKEN_OUT, b_own_kind, F_own_kind.kp, m_own_kind⟩⟩
  have c_wanted_kind : Cal l.prog w K mg base "wanted_kind" ["tree", "found"] 1 (spWa K) := ⟨⟨f_wanted_kind, fd_wanted_kind, ok_Wa F_wanted_kind X, b_wanted_kind, F_wanted_kind.kp, m_wanted_kind⟩⟩
  have M_want : CalM l.prog w K mg base CL "want" ["self", "node", "kind"] 1 (spWant K CL) := ⟨⟨fW, fdW, ok_Want (m := 0) FW lc.cls lc.n2, b_want, lc.MW⟩⟩
  have n_Looker : CalN l.prog w K mg base "Looker" CL 1 (spLI CL) := ⟨⟨fLI, fdLI, ok_LI (m := 0) FLI lc.cls lc.n1 lc.n2, b_LI, lc.mk', m_Looker⟩⟩
  have M_hold : CalMX l.prog w K mg base CL "hold" ["self", "tree", "node", "found"] 11 (spHold K CL C) := ⟨⟨fH, fdH, ok_Hold (m := 0) FH X lc.cls M_want c_wanted_kind c_need_same, b_hold, lc.MH⟩⟩
  have M_look : ∀ n, CalMX l.prog w K mg base CL "look" ["self", "tree", "bound"] (n + 11) (spLook K CL C n) := calmx_recL (sp := spLook K CL C) (fun n => n + 11) b_look lc.ML no_Look (fun n ih => ok_Look (m := n) FLk X lc.cls lc.n1 M_hold ih c_written c_need_shallow c_parts c_bound_within c_own_kind)
  have c_looked : CalX l.prog w K mg base "looked" ["tree"] 14 (spLkd K C) := ⟨⟨f_looked, fd_looked, ok_Lkd (m := 0) F_looked X lc.cls lc.n1 lc.n2 n_Looker M_want (M_look 2) c_need_names, b_looked, F_looked.kp, m_looked⟩⟩
  have c_kind_of : CalX l.prog w K mg base "kind_of" ["tree"] 15 (spKo K) := ⟨⟨f_kind_of, fd_kind_of, ok_Ko (m := 0) F_kind_of X c_looked, b_kind_of, F_kind_of.kp, m_kind_of⟩⟩
  have c__law_cell_at : Cal l.prog w K mg base "_law_cell_at" ["_law_script", "_law_k"] 1 (spCell K) := ⟨⟨f__law_cell_at, fd__law_cell_at, ok_cell F__law_cell_at X, b__law_cell_at, F__law_cell_at.kp, m__law_cell_at⟩⟩
  have c__law_kind_by : Cal l.prog w K mg base "_law_kind_by" ["_law_cell", "_law_deep"] 5 (spKb K 4) := cal_recL (sp := spKb K) (fun n => n + 1) b__law_kind_by F__law_kind_by.kp m__law_kind_by no_Kb (fun n ih => ok_Kb F__law_kind_by X  ih) 4
  have c__law_steps : Cal l.prog w K mg base "_law_steps" ["_law_head"] 1 (spLS K) := ⟨⟨f__law_steps, fd__law_steps, ok_LS F__law_steps X, b__law_steps, F__law_steps.kp, m__law_steps⟩⟩
  have c__law_parting : Cal l.prog w K mg base "_law_parting" ["_law_kind", "_law_other"] 9 (spParting K 8) := cal_recL (sp := spParting K) (fun n => n + 1) b__law_parting F__law_parting.kp m__law_parting no_LP (fun n ih => ok_LP F__law_parting X c__law_steps ih) 8
  have c__law_inner : Cal l.prog w K mg base "_law_inner" ["_law_cell", "_law_place"] 6 (spIn K) := ⟨⟨f__law_inner, fd__law_inner, ok_In (m := 0) F__law_inner X c__law_kind_by, b__law_inner, F__law_inner.kp, m__law_inner⟩⟩
  have c__law_refused : Cal l.prog w K mg base "_law_refused" ["_law_tree", "_law_due"] 15 (spRf K) := ⟨⟨f__law_refused, fd__law_refused, ok_Rf (n := 0) F__law_refused X xc.bc m_BlameError xc.hm xc.xf xc.hh xc.f1 xc.f2 xc.f3 xc.f4 xc.f5 m_NoFit m_NoLook m_NoPart m_NoText m_NoName m_TooDeep m_TooMany m_Parted xc.i1 xc.i2 xc.i3 xc.i4 xc.i5 xc.i6 xc.i7 xc.i8 xc.i9 c_looked, b__law_refused, F__law_refused.kp, m__law_refused⟩⟩
  have c__law_taken : Cal l.prog w K mg base "_law_taken" ["_law_tree", "_law_kinds", "_law_wants"] 16 (spTk K) := ⟨⟨f__law_taken, fd__law_taken, ok_Tk (m := 0) F__law_taken X (calm c_looked) (calm c_kind_of), b__law_taken, F__law_taken.kp, m__law_taken⟩⟩
  exact ok_law (m := 0) FL X c__law_cell_at c__law_kind_by c__law_inner c__law_parting c__law_taken c__law_refused
theorem walk {l : PySem.W.OpenLaw} {q : Program} {loose : List Str} {XP : (Str → Option Value) → Heap → Prop} {YP : World → Heap → Prop} {d : DefRec} {K : Params → PySem.W.Frag} (hn : l.most = some 63) (hdf : d.params.defaults = [])
    (hY : ∀ (w : World) (h : Heap), YP w h → (K w.params).In h)
    (F : ∀ (w : World) (mg : Str → Option Value) (fa : Addr) (h : Heap), (K w.params).In h → h.Ns mainGlobals mg → mg d.name = some (.ref fa) →
      ∃ fd : FuncData, (∀ (s : Shared) (u : Value), BindsTo s fd ⟨[u], []⟩ [("_law_script", u)]) ∧ ∀ base : Heap, (K w.params).In base → base.Ns mainGlobals mg → FnOk l.prog w (K w.params) mg base CX0 17 fa fd ["_law_script"] (spLaw (K w.params))) :
    PySem.W.WalkO q loose XP YP l.row.toRowW d [] (fun f vs => PySem.call f vs) :=
  L2.walk_of (n := 63) (k := 17) (x := "_law_script") (CX := fun _ => CX0) (sp := fun w => spLaw (K w.params)) hn (by decide) hdf ⟨rfl, by decide, by decide⟩ hY F (fun _ _ a ns hl _ hS => ⟨a, ns, rfl, hS, hl, fun _ => rfl⟩) fun _ _ _ _ _ z => z
end L2.K31

end
section
set_option Elab.async false
set_option linter.all false
set_option maxRecDepth 100000
open PySem PySem.W PyProof.Rows
noncomputable def PySem.W.Fast.tw8150075641612121930 : Nat := 0
noncomputable def PySem.W.Fast.tw4286722933951493569 : Nat := 0
noncomputable def PySem.W.Fast.tw3944863855930995857 : Nat := 0
noncomputable def PySem.W.Fast.tw9465100050076495795 : Nat := 0
noncomputable def PySem.W.Fast.tw3311048575747023910 : Nat := 0
noncomputable def PySem.W.Fast.tw7687387466251482927 : Nat := 0
noncomputable def PySem.W.Fast.tw3533563126706082968 : Nat := 0
noncomputable def PySem.W.Fast.tw15668770947904503955 : Nat := 0
noncomputable def PySem.W.Fast.tw17001505347098085202 : Nat := 0
noncomputable def PySem.W.Fast.tw16295659468802360791 : Nat := 0
set_option maxRecDepth 100000 in
set_option maxHeartbeats 0 in
theorem PySem.Challenge.cw_blamewise_k31_taken_for_a_kind_holds : PySem.Challenge.rw_blamewise_k31_taken_for_a_kind.Holds := by
  w_on; o_law; k_head; (case hw => w_witness2)
  k_fill
  refine L2.K31.walk (l := PySem.Challenge.rw_blamewise_k31_taken_for_a_kind) rfl rfl (fun w h Y => PySem.W.kIn_of Y) ?F
  case F =>
    intro w mg fa h KX G hmg
    have T : L2.K31.Txt (L2.KOf KX) := by
      dsimp only [L2.KOf]
      refine' L2.K31.Txt.mk  ?_ ?_ ?_ ?_ ?_ ?_ ?_ ?_ ?_ ?_ ?_ ?_ ?_ ?_ ?_ ?_ ?_ ?_ ?_ ?_ ?_ ?_ ?_ ?_ ?_ ?_ ?x_Parted ?x_Looker ?t_UNTOLD ?b_STEPS ?b_FORMS ?b_SURE_KINDS ?b_TAKEN_OUT ?i_MOST_DEPTH ?_ ?_ ?_ ?_ ?_ ?_ ?_ ?_ ?_ ?_ ?_ ?_ ?_
      (case t_UNTOLD => refine' L2.K31.tup_UNTOLD ?a ?l; (case a => k_is); (case l => k_is))
      (case x_Parted => refine' L2.K31.x_Parted ?a ?aB ?a1 ?a2 ?a3 ?a4 ?a5 ?a6 ?a7 ?l ?t ?ini ?fl ?fn ?fc ?fk ?ga ?gn ?cl ?sg ?tk ?ob ?be ?is ?kp ?tyC ?sa ?ov ?hdc ?hh ?f1 ?f2 ?f3 ?f4 ?f5 ?b1 ?b2 ?b3 ?hm ?g1 ?g2 ?g3 ?i1 ?i2 ?i3 ?i4 ?i5 ?i6 ?i7 ?i8 ?i9; (case a => k_is); (case aB => k_is); (case a1 => k_is); (case a2 => k_is); (case a3 => k_is); (case a4 => k_is); (case a5 => k_is); (case a6 => k_is); (case a7 => k_is); (case l => k_is); (case t => kernel_rfl); (case ini => k_is); (case fl => k_is); (case fn => k_is); (case fc => k_is); (case fk => k_is); (case ga => k_is); (case gn => k_is); (case cl => k_is); (case sg => k_is); (case tk => k_is); (case ob => k_is); (case be => k_is); (case is => kernel_rfl); (case kp => k_is); (case tyC => k_is); (case sa => k_is); (case ov => kernel_rfl); (case hdc => kernel_rfl); (case hh => k_is); (case f1 => k_is); (case f2 => k_is); (case f3 => k_is); (case f4 => k_is); (case f5 => k_is); (case b1 => k_is); (case b2 => kernel_rfl); (case b3 => k_is); (case hm => k_is); (case g1 => k_is); (case g2 => kernel_rfl); (case g3 => kernel_rfl); (case i1 => kernel_rfl); (case i2 => kernel_rfl); (case i3 => kernel_rfl); (case i4 => kernel_rfl); (case i5 => kernel_rfl); (case i6 => kernel_rfl); (case i7 => kernel_rfl); (case i8 => kernel_rfl); (case i9 => kernel_rfl))
      (case x_Looker => refine' L2.K31.x_Looker ?a ?pg ?hd ?po ?sa ?mk ?kp ?n1 ?n2 ?atW ?flW ?fnW ?fcW ?fkW ?atH ?flH ?fnH ?fcH ?fkH ?atL ?flL ?fnL ?fcL ?fkL ?atI ?flI ?fnI ?fcI ?fkI; (case a => k_is); (case pg => k_is); (case hd => k_is); (case po => k_is); (case sa => k_is); (case mk => k_is); (case kp => k_is); (case n1 => k_is); (case n2 => k_is); (case atW => k_is); (case flW => k_is); (case fnW => k_is); (case fcW => k_is); (case fkW => k_is); (case atH => k_is); (case flH => k_is); (case fnH => k_is); (case fcH => k_is); (case fkH => k_is); (case atL => k_is); (case flL => k_is); (case fnL => k_is); (case fcL => k_is); (case fkL => k_is); (case atI => k_is); (case flI => k_is); (case fnI => k_is); (case fcI => k_is); (case fkI => k_is))
      (case b_STEPS => refine' L2.K31.tab_STEPS ?a ?t; (case a => k_is); (case t => kernel_rfl))
      (case b_FORMS => refine' L2.K31.tab_FORMS ?a ?t; (case a => k_is); (case t => kernel_rfl))
      (case b_SURE_KINDS => refine' L2.K31.tab_SURE_KINDS ?a ?t; (case a => k_is); (case t => kernel_rfl))
      (case b_TAKEN_OUT => refine' L2.K31.tab_TAKEN_OUT ?a ?t; (case a => k_is); (case t => kernel_rfl))
      (case i_MOST_DEPTH => refine' L2.K31.int_MOST_DEPTH ?a; (case a => k_is))
      all_goals first | (refine' L2.K31.here_mk ?a ?l ?c ?k; (case a => k_is); (case l => k_is); (case c => k_is); (case k => k_is)) | k_is
    exact L2.K31.all_mk KX G hmg T

end
