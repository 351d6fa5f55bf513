import PyProof.Rows.All
import Wide.All
import OpenK.AllK
import Wide.FinOn
import Lean
import PyProof.EqAt
import PyProof.EqKinds
import PyProof.TupleCall
import KE.KTabLook
import KE.LcSums
import PyProof.ListMulRoad
import PySem.Challenge.RW_blamewise_k12_names_bound
-- CHANGE: your row's module here, as the last of these rows
set_option Elab.async false
set_option linter.all false
set_option maxRecDepth 100000
/-! THE HAND LAYER, for ints, bools, texts, own classes, LISTS and tuples (index, slices, in, append, pop ..), calls, loops. Paste it whole ahead of your own text; what your proof does not reach may be deleted. -/
namespace L2
open PySem PySem.Spec PyProof.Rows

/-- a key: an int or a str -/
noncomputable abbrev Key := Sum Int Str
noncomputable def keyIs : Key → Value → Bool
  | .inl k, v => Value.isInt k v
  | .inr x, v => Value.isStrOf x v
noncomputable def keyH (w : World) : Key → Int
  | .inl k => hashInt k
  | .inr x => hashStr w x
theorem keyIs_shape : ∀ {k : Key} {v : Value}, keyIs k v = true → (∃ i t, k = Sum.inl i ∧ v = Value.int i t) ∨ (∃ x t, k = Sum.inr x ∧ v = Value.str x t)
  | .inl i, v, h => by
    obtain ⟨t, e⟩ := Value.isInt_shape (k := i) (v := v) h
    exact .inl ⟨i, t, rfl, e⟩
  | .inr x, v, h => by
    obtain ⟨t, e⟩ := Value.isStrOf_shape (x := x) (v := v) h
    exact .inr ⟨x, t, rfl, e⟩
theorem keyIs_int (i : Int) (t : Tok) : keyIs (.inl i) (.int i t) = true := by simp [keyIs, Value.isInt]
theorem keyIs_str (x : Str) (t : Tok) : keyIs (.inr x) (.str x t) = true := by simp [keyIs, Value.isStrOf]
theorem key_ll (a b : Int) : decide ((Sum.inl a : Key) = Sum.inl b) = (a == b) := by
  by_cases e : a = b
  · subst e; simp
  · have h : ¬ (Sum.inl a : Key) = Sum.inl b := fun q => e (Sum.inl.inj q)
    rw [decide_eq_false h]
    exact (beq_eq_false_iff_ne.mpr e).symm
theorem key_rr (a b : Str) : decide ((Sum.inr a : Key) = Sum.inr b) = decide (a = b) := by
  by_cases e : a = b
  · subst e; simp
  · have h : ¬ (Sum.inr a : Key) = Sum.inr b := fun q => e (Sum.inr.inj q)
    rw [decide_eq_false h, decide_eq_false e]
theorem key_lr (a : Int) (b : Str) : decide ((Sum.inl a : Key) = Sum.inr b) = false := decide_eq_false (fun q => nomatch q)
theorem key_rl (a : Str) (b : Int) : decide ((Sum.inr a : Key) = Sum.inl b) = false := decide_eq_false (fun q => nomatch q)

noncomputable def mixKind (prog : Program) (w : World) : PySem.KeyKind prog w Key where
  is := keyIs
  hash := keyH w
  inj := fun v a b ha hb => by
    rcases keyIs_shape ha with ⟨i, t, rfl, rfl⟩ | ⟨x, t, rfl, rfl⟩
    · rcases keyIs_shape hb with ⟨j, u, rfl, e⟩ | ⟨y, u, rfl, e⟩
      · injection e with e1 _; rw [e1]
      · exact nomatch e
    · rcases keyIs_shape hb with ⟨j, u, rfl, e⟩ | ⟨y, u, rfl, e⟩
      · exact nomatch e
      · injection e with e1 _; rw [e1]
  byValue := fun k v h => by
    rcases keyIs_shape h with ⟨i, t, rfl, rfl⟩ | ⟨x, t, rfl, rfl⟩ <;> rfl
  pyHash := fun hv h => by
    rcases keyIs_shape hv with ⟨i, t, rfl, rfl⟩ | ⟨x, t, rfl, rfl⟩
    · exact wpAny_pyHash_int h
    · exact wpAny_pyHash_str h
  eqBool := fun hu hv h => by
    rcases keyIs_shape hu with ⟨i, t, rfl, rfl⟩ | ⟨x, t, rfl, rfl⟩
    · rcases keyIs_shape hv with ⟨j, u, rfl, rfl⟩ | ⟨y, u, rfl, rfl⟩
      · rw [key_ll] at h; exact wpAny_eqBool_int h
      · rw [key_lr] at h; exact SeqAt.EqAt.int_str i t y u _ _ _ _ h
    · rcases keyIs_shape hv with ⟨j, u, rfl, rfl⟩ | ⟨y, u, rfl, rfl⟩
      · rw [key_rl] at h; exact SeqAt.EqAt.str_int x t j u _ _ _ _ h
      · rw [key_rr] at h; exact wpAny_eqBool_str h
  «strs» := fun k x t v h => by
    rcases keyIs_shape h with ⟨i, u, rfl, e⟩ | ⟨y, u, rfl, e⟩
    · exact nomatch e
    · injection e with e1 _
      subst e1
      cases v <;> rfl

theorem mixKind_int (prog : Program) (w : World) (i : Int) (t : Tok) : (mixKind prog w).is (.inl i) (.int i t) = true := keyIs_int i t
theorem mixKind_str (prog : Program) (w : World) (x : Str) (t : Tok) : (mixKind prog w).is (.inr x) (.str x t) = true := keyIs_str x t
end L2

namespace L2
open PySem PySem.Spec PyProof.Rows

/-- a value, without the heap -/
inductive V where
  | non | bl (b : Bool) | int (i : Int) | str (x : Str) | byt (b : Array UInt8) | flt (b : UInt64) | ref (a : Addr) | ty (n : String)
  deriving DecidableEq

noncomputable def RelV : V → Value → Prop
  | .non, u => u = Value.none
  | .bl b, u => u = Value.bool b
  | .int i, u => ∃ t, u = Value.int i t
  | .str x, u => ∃ t, u = Value.str x t
  | .byt b, u => ∃ t, u = Value.bytes b t
  | .flt b, u => ∃ t, u = Value.float b t
  | .ref a, u => u = Value.ref a
  | .ty n, u => u = Value.type n

noncomputable abbrev Vals : List V → List Value → Prop := Paired RelV
theorem Vals.length {xs : List V} {us : List Value} (r : Vals xs us) : xs.length = us.length := Paired.length r
theorem Vals.get : ∀ {xs : List V} {us : List Value} {i : Nat} {x : V}, Vals xs us → xs[i]? = some x → ∃ u, us[i]? = some u ∧ RelV x u
  | _, _, _, _, .nil, e => by simp at e
  | _, _, 0, _, .cons r _, e => by simp at e; subst e; exact ⟨_, rfl, r⟩
  | _, _, i + 1, x, .cons _ t, e => by
    obtain ⟨u, h1, h2⟩ := Vals.get (i := i) (x := x) t (by simpa using e)
    exact ⟨u, by simpa using h1, h2⟩
theorem Vals.append : ∀ {xs ys : List V} {us ws : List Value}, Vals xs us → Vals ys ws → Vals (xs ++ ys) (us ++ ws)
  | _, _, _, _, .nil, s => s
  | _, _, _, _, .cons r t, s => .cons r (Vals.append t s)
theorem Vals.take : ∀ {xs : List V} {us : List Value} (n : Nat), Vals xs us → Vals (xs.take n) (us.take n)
  | _, _, 0, _ => .nil
  | _, _, _ + 1, .nil => .nil
  | _, _, n + 1, .cons r t => .cons r (Vals.take n t)
theorem Vals.drop : ∀ {xs : List V} {us : List Value} (n : Nat), Vals xs us → Vals (xs.drop n) (us.drop n)
  | _, _, 0, r => r
  | _, _, _ + 1, .nil => .nil
  | _, _, n + 1, .cons _ t => Vals.drop n t
noncomputable def RelO : Option V → Option Value → Prop
  | some v, some u => RelV v u
  | none, none => True
  | _, _ => False
noncomputable def KV {κ : Type} : List (κ × V) → List (κ × Value) → Prop := Paired fun (p : κ × V) (q : κ × Value) => p.1 = q.1 ∧ RelV p.2 q.2

/-- a key of a dict (00_mix): an int or a text -/
noncomputable def kV : Key → V
  | .inl i => .int i
  | .inr x => .str x

/-- what stands at a tracked address -/
inductive HO where
  /-- a list -/
  | lst (xs : List V)
  /-- a tuple (never changes) -/
  | tup (xs : List V)
  /-- a dict whose keys are ints and texts; one whose keys are tuples of ints and texts (the empty one is both) -/
  | dK (kvs : List (Key × V)) | dT (kvs : List (List Key × V))
  /-- a set of ints: its members, its size -/
  | set (S : Int → Bool) (n : Nat)
  /-- an instance of the class at C, its dict at dx, its attributes -/
  | ins (C dx : Addr) (fs : List (Str × V))
  /-- the dict of the instance at x -/
  | own (x : Addr)
  /-- the dict of an exception -/
  | xd (fs : List (Str × V))
  /-- a bound method, f of x -/
  | met (f x : Addr)
  /-- a range object lo, lo + 1, .. below hi -/
  | rng (lo hi : Int)
  /-- a thing that is known to the object (the script; a dict while a loop walks it): read, never written while it is so -/
  | frz (o : Obj) (u : HO)
  /-- a code object's table -/
  | tbl (ps : Array Value)
  /-- any other thing, by what is true of its one object (a def of one's own: SetO a S n := HO.ext fun h => ..) -/
  | ext (φ : Heap → Prop)

noncomputable abbrev Hp := Addr → Option HO
noncomputable def upd (H : Hp) (a : Addr) (o : HO) : Hp := fun b => if b = a then some o else H b
theorem upd_same {H : Hp} {a : Addr} {o : HO} : upd H a o a = some o := by unfold upd; rw [if_pos rfl]
theorem upd_ne {H : Hp} {a b : Addr} {o : HO} (h : b ≠ a) : upd H a o b = H b := by unfold upd; rw [if_neg h]
theorem ne_of_none {H : Hp} {a b : Addr} {o : HO} (h : H a = some o) (h' : H b = none) : a ≠ b := by
  intro e; subst e; rw [h] at h'; cases h'

section
variable (P : Program) (w : World)
noncomputable def ObjOk (H : Hp) (h : Heap) (a : Addr) : HO → Prop
  | .lst xs => xs.length ≤ sizeLine ∧ ∃ (its : List Value) (n : Nat), Vals xs its ∧ h.get? a = some { cls := .type "list", data := .seq its.toArray n }
  | .tup xs => xs.length ≤ sizeLine ∧ ∃ its : List Value, Vals xs its ∧ IsTup h a its.toArray
  | .dK kvs => kvs.length ≤ sizeLine ∧ (a == sysModules) = false ∧ ∃ vs, KV kvs vs ∧ h.DictOf (mixKind P w) a vs
  | .dT kvs => kvs.length ≤ sizeLine ∧ (a == sysModules) = false ∧ ∃ xs : List (List Key × Addr × Value),
      Paired (fun (p : List Key × V) (q : List Key × Addr × Value) => p.1 = q.1 ∧ H q.2.1 = some (.tup (p.1.map kV)) ∧ RelV p.2 q.2.2) kvs xs ∧
      ∃ o es ep, h.get? a = some o ∧ o.ExactDict ∧ o.data = .dict es ep ∧ es.toList = xs.map (entryOfKey (tupleKind (mixKind P w))) ∧ (xs.map (·.1)).Nodup
  | .set S n => h.SetOf (intKind P w) a S n
  | .ins C dx fs => H dx = some (.own a) ∧ fs.length ≤ 1000 ∧ dx ≠ a ∧ h.get? a = some (PySem.W.instObj C dx) ∧
      ∃ mA, h.Ns1 dx mA ∧ (∀ f, RelO (fs.lookup f) (mA f)) ∧ PySem.Within mA (fs.map (·.1))
  | .own _ => ∃ o, h.get? a = some o
  | .xd fs => ∃ mA, h.Ns1 a mA ∧ ∀ f, RelO (fs.lookup f) (mA f)
  | .rng lo hi => ∃ t u v, h.get? a = some { cls := .type "range", data := .fields #[.int lo t, .int hi u, .int 1 v] }
  | .frz o u => h.get? a = some o ∧ ObjOk H h a u
  | .tbl ps => h.get? a = some { cls := .none, data := .fields ps }
  | .met f x => h.get? a = some (PySem.W.methodObj (.ref f) (.ref x))
  | .ext φ => φ h ∧ (∃ o, h.get? a = some o) ∧ ∀ h1 h2 : Heap, φ h1 → (∀ o, h1.get? a = some o → h2.get? a = some o) → φ h2
/-- the abstract heap is held -/
noncomputable def HOk (H : Hp) (h : Heap) : Prop := ∀ a o, H a = some o → ObjOk P w H h a o
end

section
variable {P : Program} {w : World} {H H' : Hp} {h h' : Heap} {a : Addr} {o : HO}
theorem ObjOk.lt (x : ObjOk P w H h a o) : a < h.objs.size := by
  cases o with
  | lst xs => obtain ⟨_, _, _, _, e⟩ := x; exact Heap.lt_size e
  | tup xs => obtain ⟨_, _, _, p⟩ := x; exact p.lt
  | dK kvs => obtain ⟨_, _, _, _, o, _, _, e, _⟩ := x; exact Heap.lt_size e
  | dT kvs => obtain ⟨_, _, _, _, o, _, _, e, _⟩ := x; exact Heap.lt_size e
  | set S n => obtain ⟨o, _, _, _, e, _⟩ := x; exact Heap.lt_size e
  | ins C dx fs => obtain ⟨_, _, _, e, _⟩ := x; exact Heap.lt_size e
  | own y => obtain ⟨_, e⟩ := x; exact Heap.lt_size e
  | xd fs => obtain ⟨_, ⟨_, _, _, e, _⟩, _⟩ := x; exact Heap.lt_size e
  | rng lo hi => obtain ⟨_, _, _, e⟩ := x; exact Heap.lt_size e
  | frz ob u => obtain ⟨e, _⟩ := x; exact Heap.lt_size e
  | tbl ps => exact Heap.lt_size (show h.get? a = some _ from x)
  | met f y => exact Heap.lt_size (show h.get? a = some _ from x)
  | ext φ => obtain ⟨_, ⟨_, e⟩, _⟩ := x; exact Heap.lt_size e
theorem Paired.mapP {α β : Type} {F G : α → β → Prop} : ∀ {l₁ : List α} {l₂ : List β}, Paired F l₁ l₂ → (∀ a b, F a b → G a b) → Paired G l₁ l₂
  | _, _, .nil, _ => .nil
  | _, _, .cons r t, f => .cons (f _ _ r) (Paired.mapP t f)
/-- what an object's description leans on: its own object, its own dict, the tuples -/
theorem ObjOk.stay (x : ObjOk P w H h a o) (k : ∀ b u, (b = a ∨ H b = some (.own a)) → h.get? b = some u → h'.get? b = some u)
    (ho : ∀ b, H b = some (.own a) → H' b = some (.own a)) (ht : ∀ b xs, H b = some (.tup xs) → H' b = some (.tup xs)) : ObjOk P w H' h' a o := by
  induction o with
  | lst xs => obtain ⟨z, its, n, r, e⟩ := x; exact ⟨z, its, n, r, k _ _ (.inl rfl) e⟩
  | tup xs => obtain ⟨z, its, r, ob, e, c⟩ := x; exact ⟨z, its, r, ob, k _ _ (.inl rfl) e, c⟩
  | dK kvs => obtain ⟨z, y, vs, r, ob, es, ep, e, c⟩ := x; exact ⟨z, y, vs, r, ob, es, ep, k _ _ (.inl rfl) e, c⟩
  | dT kvs =>
    obtain ⟨z, y, xs, r, ob, es, ep, e, c⟩ := x
    exact ⟨z, y, xs, Paired.mapP r fun p q z => ⟨z.1, ht _ _ z.2.1, z.2.2⟩, ob, es, ep, k _ _ (.inl rfl) e, c⟩
  | set S n => obtain ⟨ob, es, ep, t, e, c⟩ := x; exact ⟨ob, es, ep, t, k _ _ (.inl rfl) e, c⟩
  | ins C dx fs =>
    obtain ⟨d, z, ne, e, mA, ⟨od, es, ep, e2, c⟩, r⟩ := x
    exact ⟨ho _ d, z, ne, k _ _ (.inl rfl) e, mA, ⟨od, es, ep, k _ _ (.inr d) e2, c⟩, r⟩
  | own y => obtain ⟨ob, e⟩ := x; exact ⟨ob, k _ _ (.inl rfl) e⟩
  | xd fs => obtain ⟨mA, ⟨od, es, ep, e, c⟩, r⟩ := x; exact ⟨mA, ⟨od, es, ep, k _ _ (.inl rfl) e, c⟩, r⟩
  | rng lo hi => obtain ⟨t, u, v, e⟩ := x; exact ⟨t, u, v, k _ _ (.inl rfl) e⟩
  | frz ob u ih => obtain ⟨e, q⟩ := x; exact ⟨k _ _ (.inl rfl) e, ih q⟩
  | tbl ps =>
    have e : h.get? a = some { cls := .none, data := .fields ps } := x
    show h'.get? a = some { cls := .none, data := .fields ps }
    exact k a _ (.inl rfl) e
  | met f y =>
    have e : h.get? a = some (PySem.W.methodObj (.ref f) (.ref y)) := x
    show h'.get? a = some (PySem.W.methodObj (.ref f) (.ref y))
    exact k a _ (.inl rfl) e
  | ext φ => obtain ⟨p, ⟨o, e⟩, st⟩ := x; exact ⟨st _ _ p fun o q => k _ _ (.inl rfl) q, ⟨o, k _ _ (.inl rfl) e⟩, st⟩
theorem HOk.lt (x : HOk P w H h) (e : H a = some o) : a < h.objs.size := (x a o e).lt
theorem HOk.fresh (x : HOk P w H h) (e : h.objs.size ≤ a) : H a = none := by
  cases q : H a with
  | none => rfl
  | some u => exact absurd (Nat.lt_of_lt_of_le (x.lt q) e) (Nat.lt_irrefl _)
/-- every object of the heap is kept -/
theorem HOk.kept (x : HOk P w H h) (k : ∀ b u, h.get? b = some u → h'.get? b = some u) : HOk P w H h' := fun a o e =>
  (x a o e).stay (fun b u _ q => k b u q) (fun _ q => q) fun _ _ q => q
/-- a new object is laid and tracked -/
theorem HOk.laid (x : HOk P w H h) (k : ∀ b u, h.get? b = some u → h'.get? b = some u) (hp : h.objs.size ≤ a) (new : ObjOk P w (upd H a o) h' a o) : HOk P w (upd H a o) h' := fun b u e => by
  have hn := x.fresh hp
  by_cases hb : b = a
  · subst hb; rw [upd_same] at e; cases e; exact new
  · rw [upd_ne hb] at e
    exact (x b u e).stay (fun c v _ q => k c v q) (fun c q => by rw [upd_ne (ne_of_none q hn)]; exact q) fun c xs q => by rw [upd_ne (ne_of_none q hn)]; exact q
end

/-- what may be read as u: it is u, or a known u -/
noncomputable def Rd (H : Hp) (a : Addr) (u : HO) : Prop := H a = some u ∨ ∃ o, H a = some (.frz o u)
theorem Rd.ok {P : Program} {w : World} {H : Hp} {h : Heap} {a : Addr} {u : HO} (r : Rd H a u) (x : HOk P w H h) : ObjOk P w H h a u := by
  rcases r with r | ⟨o, r⟩
  · exact x a u r
  · obtain ⟨_, q⟩ := x a _ r
    exact q
/-- what may be written -/
noncomputable def Mut : Option HO → Prop
  | some (.lst _) => True
  | some (.dK _) => True
  | some (.dT _) => True
  | some (.set _ _) => True
  | some (.ins _ _ _) => True
  | some (.ext _) => True
  | _ => False
section
variable {P : Program} {w : World} {H : Hp} {h h' : Heap} {x e : Addr} {o' : HO}
/-- the object at e is changed: x itself, or the dict of the instance x -/
theorem HOk.write (ok : HOk P w H h) (mu : Mut (H x)) (he : e = x ∨ H e = some (.own x)) (k : ∀ b u, b ≠ e → h.get? b = some u → h'.get? b = some u) (heo : ∃ u, h'.get? e = some u)
    (new : ObjOk P w (upd H x o') h' x o') : HOk P w (upd H x o') h' := fun b u q => by
  have nown : ∀ c y, H c = some (.own y) → c ≠ x := fun c y r z => by subst z; rw [r] at mu; exact mu
  have ntup : ∀ c xs, H c = some (.tup xs) → c ≠ x := fun c xs r z => by subst z; rw [r] at mu; exact mu
  by_cases hb : b = x
  · subst hb; rw [upd_same] at q; cases q; exact new
  · rw [upd_ne hb] at q
    by_cases hbe : b = e
    · have q' : H b = some (.own x) := by
        rcases he with z | z
        · exact absurd (hbe.trans z) hb
        · rw [hbe]; exact z
      rw [q] at q'; cases q'
      obtain ⟨v, hv⟩ := heo
      exact ⟨v, by rw [hbe]; exact hv⟩
    · refine (ok b u q).stay (fun c v hc r => k c v ?_ r) (fun c r => by rw [upd_ne (nown c b r)]; exact r) fun c xs r => by rw [upd_ne (ntup c xs r)]; exact r
      rcases hc with rfl | hc
      · exact hbe
      · rintro rfl
        rcases he with z | z
        · exact nown c b hc z
        · rw [hc] at z; cases z; exact hb rfl
end

/-! ### kept unless tracked; of the frames at fs (the callers') the slots may change (an exception that passes writes there); of the records at ex (iterators) nothing is said -/
structure Un (fs ex : List Addr) (H H' : Hp) (h h' : Heap) : Prop where
  keep : ∀ b o, h.get? b = some o → H b = none → b ∉ fs → b ∉ ex → h'.get? b = some o
  slot : ∀ b o, h.get? b = some o → H b = none → b ∈ fs → b ∉ ex → ∃ sl, h'.get? b = some { o with slots := sl }
  free : ∀ b o, h.get? b = some o → H b = none → b ∉ ex → H' b = none
  there : ∀ b o, h.get? b = some o → b ∉ ex → ∃ o', h'.get? b = some o'
  tups : ∀ b xs, H b = some (.tup xs) → H' b = some (.tup xs)
  frzs : ∀ b o u, H b = some (.frz o u) → H' b = some (.frz o u)
  tbls : ∀ b ps, H b = some (.tbl ps) → ∃ more, H' b = some (.tbl (ps ++ more))
section
variable {fs fs' ex ex' : List Addr} {H H1 H2 : Hp} {h h1 h2 h' : Heap} {a x e : Addr} {o : HO}
theorem Un.any (u : Un fs ex H H1 h h1) {b : Addr} {ob : Obj} (q : h.get? b = some ob) (n : H b = none) (hx : b ∉ ex) : ∃ sl, h1.get? b = some { ob with slots := sl } := by
  by_cases hb : b ∈ fs
  · exact u.slot b ob q n hb hx
  · exact ⟨ob.slots, u.keep b ob q n hb hx⟩
theorem Un.kept (k : ∀ b u, h.get? b = some u → h'.get? b = some u) : Un fs ex H H h h' :=
  ⟨fun b ob q _ _ _ => k b ob q, fun b ob q _ _ _ => ⟨ob.slots, k b ob q⟩, fun _ _ _ n _ => n, fun b ob q _ => ⟨ob, k b ob q⟩, fun _ _ q => q, fun _ _ _ q => q, fun _ ps q => ⟨#[], by rw [q]; simp⟩⟩
theorem Un.refl : Un fs ex H H h h := Un.kept fun _ _ q => q
theorem Un.laid (k : ∀ b u, h.get? b = some u → h'.get? b = some u) (hp : h.objs.size ≤ a) (hn : H a = none) : Un fs ex H (upd H a o) h h' where
  keep := fun b u q _ _ _ => k b u q
  slot := fun b u q _ _ _ => ⟨u.slots, k b u q⟩
  free := fun b u q n _ => by rw [upd_ne (Nat.ne_of_lt (Nat.lt_of_lt_of_le (Heap.lt_size q) hp))]; exact n
  there := fun b u q _ => ⟨u, k b u q⟩
  tups := fun b xs q => by rw [upd_ne (ne_of_none q hn)]; exact q
  frzs := fun b u xs q => by rw [upd_ne (ne_of_none q hn)]; exact q
  tbls := fun b ps q => ⟨#[], by rw [upd_ne (ne_of_none q hn), q]; simp⟩
theorem Un.write (mu : Mut (H x)) (he : e = x ∨ H e = some (.own x)) (k : ∀ b u, b ≠ e → h.get? b = some u → h'.get? b = some u) (heo : ∃ u, h'.get? e = some u) : Un fs ex H (upd H x o) h h' := by
  have hx : ∀ b, H b = none → b ≠ x := fun b n z => by subst z; rw [n] at mu; exact mu
  have hb : ∀ b, H b = none → b ≠ e := fun b n z => by
    subst z
    rcases he with r | r
    · exact hx b n r
    · rw [n] at r; cases r
  have hm : ∀ b u, H b = some u → ¬ Mut (some u) → b ≠ x := fun b u q nm z => by subst z; rw [q] at mu; exact nm mu
  refine ⟨fun b u q n _ _ => k b u (hb b n) q, fun b u q n _ _ => ⟨u.slots, k b u (hb b n) q⟩, fun b u q n _ => by rw [upd_ne (hx b n)]; exact n, fun b u q _ => ?_,
    fun b xs q => by rw [upd_ne (hm b _ q fun z => z)]; exact q, fun b u xs q => by rw [upd_ne (hm b _ q fun z => z)]; exact q, fun b ps q => ⟨#[], by rw [upd_ne (hm b _ q fun z => z), q]; simp⟩⟩
  by_cases hbe : b = e
  · subst hbe; exact heo
  · exact ⟨u, k b u hbe q⟩
end

/-! ### the heap without what is tracked -/
noncomputable def trk (h : Heap) (H : Hp) : List Addr := (List.range h.objs.size).filter fun a => (H a).isSome
noncomputable def hidT (h : Heap) (H : Hp) : Heap := PySem.W.hideAll h (trk h H)
theorem hidT_size (h : Heap) (H : Hp) : (hidT h H).objs.size = h.objs.size := PySem.W.hideAll_size _ _
theorem hidT_get {h : Heap} {H : Hp} {b : Addr} {o : Obj} (e : h.get? b = some o) (n : H b = none) : (hidT h H).get? b = some o :=
  PySem.W.hideAll_get _ e fun hm => by
    have q : (H b).isSome = true := (List.mem_filter.mp hm).2
    rw [n] at q; simp at q
theorem of_hidT {h : Heap} {H : Hp} {b : Addr} {o : Obj} (e : (hidT h H).get? b = some o) : h.get? b = some o ∧ H b = none := by
  have e' : h.get? b = some o := PySem.W.of_hideAll (trk h H) e
  refine ⟨e', ?_⟩
  cases q : H b with
  | none => rfl
  | some x =>
    have hm : b ∈ trk h H := List.mem_filter.mpr ⟨List.mem_range.mpr (Heap.lt_size e'), by simp [q]⟩
    have z : (hidT h H).get? b = none := PySem.W.hideAll_none (trk h H) hm
    rw [z] at e; cases e

/-! ### OpenK's ledger, filled with every new object but one -/
noncomputable def allNews (g h : Heap) (L : Addr) : List (Addr × Obj) := (List.range h.objs.size).filterMap fun a => if a = L ∨ (g.get? a).isSome = true then none else (h.get? a).map fun o => (a, o)
noncomputable def rest (g h : Heap) (L d : Addr) : List (Addr × Obj) := (allNews g h L).filter fun p => decide (p.1 ≠ d)
end L2

namespace L2
open PySem PySem.Spec PyProof.Rows

/-- the module's facts, over the base: the heap at the law's entry without what is tracked there -/
structure Mod (K : PySem.W.Frag) (mg : Str → Option Value) (base : Heap) : Prop where
  kin : K.In base
  glob : base.Ns mainGlobals mg
  blt : ∃ mb, base.Ns builtinsNs mb ∧ ∀ x : Str, x ≠ "__name__" → mb x = bootBuiltins x
  nolimit : base.NoLimit

/-- the context: a def's body (or a comprehension's block) running. base: fixed through the whole law; s₀, H₀: the entry; outer: the frames whose slots others may change (a def's callers); stack: all frames that run;
   ex: iterators that were made ahead of the entry and are walked here (a comprehension's); fn: the names whose cells were made at the entry (a def: all; a comprehension's block: its own); calm: not within an except suite; pn: pins that every state bears; xe: what is wanted of an exception that leaves the code -/
structure Cx where
  prog : Program
  w : World
  K : PySem.W.Frag
  mg : Str → Option Value
  base : Heap
  A : Around
  N : List Str
  s₀ : Shared
  H₀ : Hp
  env : Env
  outer : List Env
  stack : List Env
  ex : List Addr
  fn : Str → Bool
  calm : Bool
  pn : List (Addr × Obj)
  xe : Value → Shared → Prop
/-- the callers' frames -/
noncomputable def frs (l : List Env) : List Addr := l.filterMap (·.frame)
noncomputable abbrev Cx.fs (X : Cx) : List Addr := frs X.outer

noncomputable def Vis (sc : Scope) (x : Str) : Prop := sc.names.lookup x = some .local ∨ sc.names.lookup x = some .cell ∨ sc.names.lookup x = some .free
noncomputable def Loc (sc : Scope) (x : Str) : Prop := sc.names.lookup x = some .local ∨ sc.names.lookup x = some .cell
noncomputable def Look (env : Env) (h : Heap) (m : Str → Option Value) (x : Str) (u : Value) : Prop :=
  (env.kindOf x = some .local ∧ m x = some u) ∨ ((env.kindOf x = some .cell ∨ env.kindOf x = some .free) ∧ ∃ c, env.cells.lookup x = some c ∧ h.IsCell c (some u))

structure Cx.Ok (X : Cx) : Prop where
  mod : Mod X.K X.mg X.base
  kind : X.env.scope.kind = .function
  glob : X.env.globals = mainGlobals
  blt : X.env.builtins = builtinsNs
  above : X.s₀.heap.objs.size ≤ X.env.locals
  inj : ∀ x y c, X.env.cells.lookup x = some c → X.env.cells.lookup y = some c → x = y
  has : ∀ x, (X.env.kindOf x = some .cell ∨ X.env.kindOf x = some .free) → ∃ c, X.env.cells.lookup x = some c
  cab : ∀ x c, X.fn x = true → X.env.cells.lookup x = some c → X.s₀.heap.objs.size ≤ c
  hd : X.calm = true → X.A.handled = none
  frames : X.A.frames = some X.stack
  stk : X.stack = X.outer ∨ (X.stack = X.env :: X.outer ∧ X.env.frame = some X.env.locals)
  exf : ∀ b ∈ X.ex, b ≠ X.env.locals ∧ ∀ x c, X.env.cells.lookup x = some c → c ≠ b
  bs : ∀ b o, X.base.get? b = some o → X.s₀.heap.get? b = some o ∧ X.H₀ b = none
  bsz : X.base.objs.size ≤ X.s₀.heap.objs.size
  noex : ∀ b o, X.base.get? b = some o → b ∉ X.ex
  exfs : ∀ b ∈ X.ex, b ∉ X.fs
  funs : X.s₀.heap.FunFrames X.base X.outer
  frf : ∀ b ∈ X.fs, X.H₀ b = none

structure Inv (X : Cx) (pins : List (Addr × Obj)) (σ : List (Option V)) (H : Hp) (s : Shared) : Prop where
  ok : X.Ok
  os : s.os = X.s₀.os
  bare : AllBare s.gens
  base : Un X.fs X.ex X.H₀ H X.s₀.heap s.heap
  loc : ∃ m, s.heap.Ns X.env.locals m ∧ ∀ (i : Nat) (x : Str) (v : V), X.N[i]? = some x → σ[i]? = some (some v) → Vis X.env.scope x → ∃ u, RelV v u ∧ Look X.env s.heap m x u
  cell : ∀ x c, X.env.cells.lookup x = some c → ∃ v, s.heap.IsCell c v
  free : H X.env.locals = none
  freeC : ∀ x c, X.env.cells.lookup x = some c → H c = none
  pin : ∀ p ∈ X.pn ++ pins, s.heap.get? p.1 = some p.2 ∧ H p.1 = none ∧ p.1 ≠ X.env.locals ∧ p.1 ∉ X.fs ∧ ∀ v, p.2.data ≠ .cell v
  hok : HOk X.prog X.w H s.heap
  len : σ.length = X.N.length

section
variable {X : Cx} {pins : List (Addr × Obj)} {σ : List (Option V)} {H H' : Hp} {s : Shared} {h' : Heap}

theorem Cx.Ok.nofr (ok : X.Ok) {b : Addr} {o : Obj} (e : X.base.get? b = some o) : b ∉ X.fs := fun hb => by
  have := (ok.funs.mem hb).1
  rw [e] at this; cases this
theorem Inv.bs (I : Inv X pins σ H s) : ∀ b o, X.base.get? b = some o → s.heap.get? b = some o ∧ H b = none := fun b o e =>
  ⟨I.base.keep b o (I.ok.bs b o e).1 (I.ok.bs b o e).2 (I.ok.nofr e) (I.ok.noex b o e), I.base.free b o (I.ok.bs b o e).1 (I.ok.bs b o e).2 (I.ok.noex b o e)⟩
theorem Inv.bk (I : Inv X pins σ H s) : ∀ b o, X.base.get? b = some o → s.heap.get? b = some o := fun b o e => (I.bs b o e).1
theorem Inv.mod (I : Inv X pins σ H s) : Mod X.K X.mg X.base := I.ok.mod
theorem Inv.kIn (I : Inv X pins σ H s) : X.K.In s.heap := I.ok.mod.kin.keeps I.bk
theorem Inv.lt (I : Inv X pins σ H s) : X.env.locals < s.heap.objs.size := let ⟨_, hn, _⟩ := I.loc; hn.lt
theorem Inv.sz (I : Inv X pins σ H s) : X.s₀.heap.objs.size ≤ s.heap.objs.size := Nat.le_trans I.ok.above (Nat.le_of_lt I.lt)
theorem Inv.nofs (I : Inv X pins σ H s) {a : Addr} (h : s.heap.objs.size ≤ a) : a ∉ X.fs := fun hb => by
  obtain ⟨_, o, ho, _⟩ := I.ok.funs.mem hb
  exact absurd (Nat.lt_of_lt_of_le (Heap.lt_size ho) (Nat.le_trans I.sz h)) (Nat.lt_irrefl _)
theorem Inv.cne (I : Inv X pins σ H s) : ∀ x c, X.env.cells.lookup x = some c → c ≠ X.env.locals := fun x c e z => by
  obtain ⟨v, o, ho, hd⟩ := I.cell x c e
  obtain ⟨m, ⟨o', es, ep, ho', hd', _⟩, _⟩ := I.loc
  rw [z, ho'] at ho; cases ho; rw [hd'] at hd; cases hd
theorem Inv.funs (I : Inv X pins σ H s) : s.heap.FunFrames X.base X.outer := by
  have all : ∀ (l : List Env), (∀ b ∈ frs l, b ∈ X.fs) → X.s₀.heap.FunFrames X.base l → s.heap.FunFrames X.base l := by
    intro l
    induction l with
    | nil => intro _ _; trivial
    | cons env r ih =>
      intro hs hl
      obtain ⟨hk, ⟨L, o, hf, hn, ho, hd⟩, hr⟩ := hl
      have hL : L ∈ X.fs := hs L (by unfold frs; rw [List.filterMap_cons, hf]; exact List.mem_cons_self)
      obtain ⟨sl, e⟩ := I.base.slot L o ho (I.ok.frf L hL) hL fun z => I.ok.exfs L z hL
      exact ⟨hk, ⟨L, _, hf, hn, e, hd⟩, ih (fun b hb => hs b (by unfold frs; rw [List.filterMap_cons, hf]; exact List.mem_cons_of_mem _ hb)) hr⟩
  exact all X.outer (fun _ hb => hb) I.ok.funs

/-- the frames that run, for a call -/
theorem Inv.stack (I : Inv X pins σ H s) : s.heap.FunFrames X.base X.stack := by
  rcases I.ok.stk with e | ⟨e, hf⟩
  · rw [e]; exact I.funs
  · rw [e]
    obtain ⟨m, hn, _⟩ := I.loc
    refine .cons (by rw [I.ok.kind]; decide) hf hn ?_ I.funs
    exact Heap.get?_none_of_le (Nat.le_trans I.ok.bsz I.ok.above)
theorem Inv.stkSub (I : Inv X pins σ H s) : ∀ b ∈ frs X.stack, b ∈ X.env.locals :: X.fs := fun b hb => by
  rcases I.ok.stk with e | ⟨e, hf⟩
  · rw [e] at hb; exact List.mem_cons_of_mem _ hb
  · rw [e] at hb
    unfold frs at hb
    rw [List.filterMap_cons, hf] at hb
    exact hb
theorem Inv.stkFree (I : Inv X pins σ H s) : ∀ b ∈ frs X.stack, H b = none := fun b hb => by
  rcases List.mem_cons.mp (I.stkSub b hb) with e | hb
  · rw [e]; exact I.free
  · obtain ⟨_, o, ho, _⟩ := I.ok.funs.mem hb
    exact I.base.free b o ho (I.ok.frf b hb) fun z => I.ok.exfs b z hb

/-- THE STEP: the untracked objects but the frame and the records at ch are kept (the callers' frames up to slots), the frame's map is kept, the new abstract heap is held -/
theorem Inv.step {g' : Array GenState} {t' : Nat} {d' : Drawn} {ch : List Addr} (I : Inv X pins σ H s)
    (hch : ∀ b ∈ ch, (b ∈ X.ex ∨ X.s₀.heap.objs.size ≤ b) ∧ b ≠ X.env.locals ∧ (∀ x c, X.env.cells.lookup x = some c → c ≠ b) ∧ ∀ p ∈ X.pn ++ pins, p.1 ≠ b)
    (keep : ∀ b o, b ≠ X.env.locals → b ∉ X.fs → b ∉ ch → s.heap.get? b = some o → H b = none → h'.get? b = some o)
    (slot : ∀ b o, b ≠ X.env.locals → b ∈ X.fs → b ∉ ch → s.heap.get? b = some o → H b = none → ∃ sl, h'.get? b = some { o with slots := sl }) (free : ∀ b o, b ∉ ch → s.heap.get? b = some o → H b = none → H' b = none)
    (there : ∀ b o, b ∉ ch → s.heap.get? b = some o → ∃ o', h'.get? b = some o')
    (tups : ∀ b xs, H b = some (.tup xs) → H' b = some (.tup xs)) (frzs : ∀ b o u, H b = some (.frz o u) → H' b = some (.frz o u)) (tbls : ∀ b ps, H b = some (.tbl ps) → ∃ more, H' b = some (.tbl (ps ++ more)))
    (ns : ∀ m, s.heap.Ns X.env.locals m → h'.Ns X.env.locals m) (hok : HOk X.prog X.w H' h') (hg : AllBare g') :
    Inv X pins σ H' { s with heap := h', gens := g', drawn := d', toks := t' } := by
  have neL : ∀ b o, X.s₀.heap.get? b = some o → b ≠ X.env.locals := fun b o e => Nat.ne_of_lt (Nat.lt_of_lt_of_le (Heap.lt_size e) I.ok.above)
  have neC : ∀ b o, X.s₀.heap.get? b = some o → b ∉ X.ex → b ∉ ch := fun b o e hx hb => by
    rcases (hch b hb).1 with z | z
    · exact hx z
    · exact absurd (Nat.lt_of_lt_of_le (Heap.lt_size e) z) (Nat.lt_irrefl _)
  have cellK : ∀ x c, X.env.cells.lookup x = some c → ∀ v, s.heap.IsCell c v → h'.IsCell c v := fun x c e v ⟨o, ho, hd⟩ => by
    have nch : c ∉ ch := fun z => (hch c z).2.2.1 x c e rfl
    by_cases hc : c ∈ X.fs
    · obtain ⟨sl, q⟩ := slot c o (I.cne x c e) hc nch ho (I.freeC x c e)
      exact ⟨_, q, hd⟩
    · exact ⟨o, keep c o (I.cne x c e) hc nch ho (I.freeC x c e), hd⟩
  refine ⟨I.ok, I.os, hg, ⟨fun b o e n hb hx => ?_, fun b o e n hb hx => ?_, fun b o e n hx => ?_, fun b o e hx => ?_, fun b xs e => tups b xs (I.base.tups b xs e), fun b o xs e => frzs b o xs (I.base.frzs b o xs e), fun b ps e => ?_⟩, ?_, fun x c e => ?_, ?_, fun x c e => ?_, fun p hp => ?_, hok, I.len⟩
  · exact keep b o (neL b o e) hb (neC b o e hx) (I.base.keep b o e n hb hx) (I.base.free b o e n hx)
  · obtain ⟨sl, e1⟩ := I.base.slot b o e n hb hx
    obtain ⟨sl', e2⟩ := slot b _ (neL b o e) hb (neC b o e hx) e1 (I.base.free b o e n hx)
    exact ⟨sl', e2⟩
  · obtain ⟨o', e1⟩ := I.base.there b o e hx
    exact free b o' (neC b o e hx) e1 (I.base.free b o e n hx)
  · obtain ⟨o', e1⟩ := I.base.there b o e hx
    exact there b o' (neC b o e hx) e1
  · obtain ⟨m1, e1⟩ := I.base.tbls b ps e
    obtain ⟨m2, e2⟩ := tbls b _ e1
    exact ⟨m1 ++ m2, by rw [e2, Array.append_assoc]⟩
  · obtain ⟨m, hn, hl⟩ := I.loc
    refine ⟨m, ns m hn, fun i x v e1 e2 e3 => ?_⟩
    obtain ⟨u, r, l⟩ := hl i x v e1 e2 e3
    refine ⟨u, r, ?_⟩
    rcases l with l | ⟨k, c, e, z⟩
    · exact .inl l
    · exact .inr ⟨k, c, e, cellK x c e _ z⟩
  · obtain ⟨v, z⟩ := I.cell x c e
    exact ⟨v, cellK x c e v z⟩
  · obtain ⟨m, ⟨o, _, _, ho, _⟩, _⟩ := I.loc
    exact free _ o (fun z => (hch _ z).2.1 rfl) ho I.free
  · obtain ⟨v, o, ho, hd⟩ := I.cell x c e
    exact free c o (fun z => (hch c z).2.2.1 x c e rfl) ho (I.freeC x c e)
  · obtain ⟨e, n, ne, nf, d⟩ := I.pin p hp
    have nch : p.1 ∉ ch := fun z => (hch p.1 z).2.2.2 p hp rfl
    exact ⟨keep p.1 p.2 ne nf nch e n, free p.1 p.2 nch e n, ne, nf, d⟩
/-- .. where the frame's own object is kept too -/
theorem Inv.un {t' : Nat} (I : Inv X pins σ H s) (u : Un X.fs [] H H' s.heap h') (hok : HOk X.prog X.w H' h') : Inv X pins σ H' { s with heap := h', toks := t' } := by
  obtain ⟨m, ⟨o, es, ep, ho, r⟩, _⟩ := id I.loc
  obtain ⟨sl, hL⟩ := u.any ho I.free (by simp)
  exact I.step (g' := s.gens) (d' := s.drawn) (ch := []) (fun _ z => nomatch z) (fun b o _ hb _ e n => u.keep b o e n hb (by simp)) (fun b o _ hb _ e n => u.slot b o e n hb (by simp)) (fun b o _ e n => u.free b o e n (by simp)) (fun b o _ e => u.there b o e (by simp)) u.tups u.frzs u.tbls (fun m' hm => by
    obtain ⟨o', es', ep', ho', r'⟩ := hm
    rw [ho] at ho'; cases ho'
    exact ⟨_, es', ep', hL, r'⟩) hok I.bare
/-- behind a call (or a comprehension's block): the slots of this frame may have changed too, the records at ch may have turned -/
theorem Inv.call {g' : Array GenState} {t' : Nat} {d' : Drawn} {ch : List Addr} (I : Inv X pins σ H s) (u : Un (frs X.stack) ch H H' s.heap h') (hok : HOk X.prog X.w H' h') (hg : AllBare g')
    (hch : ∀ b ∈ ch, (b ∈ X.ex ∨ X.s₀.heap.objs.size ≤ b) ∧ b ≠ X.env.locals ∧ (∀ x c, X.env.cells.lookup x = some c → c ≠ b) ∧ ∀ p ∈ X.pn ++ pins, p.1 ≠ b) :
    Inv X pins σ H' { s with heap := h', gens := g', drawn := d', toks := t' } := by
  obtain ⟨m, ⟨o, es, ep, ho, r⟩, _⟩ := id I.loc
  obtain ⟨sl, hL⟩ := u.any ho I.free fun z => (hch _ z).2.1 rfl
  exact I.step (ch := ch) hch (fun b o hL hb hc e n => u.keep b o e n (fun z => (List.mem_cons.mp (I.stkSub b z)).elim hL hb) hc) (fun b o _ _ hc e n => u.any e n hc) (fun b o hc e n => u.free b o e n hc) (fun b o hc e => u.there b o e hc) u.tups u.frzs u.tbls (fun m' hm => by
    obtain ⟨o', es', ep', ho', r'⟩ := hm
    rw [ho] at ho'; cases ho'
    exact ⟨_, es', ep', hL, r'⟩) hok hg
/-- an untracked record of ours (an iterator) has turned -/
theorem Inv.turned {t' : Nat} {it : Addr} (I : Inv X pins σ H s) (k : ∀ b o, b ≠ it → s.heap.get? b = some o → h'.get? b = some o) (hn : H it = none) (hL : it ≠ X.env.locals)
    (h1 : it ∈ X.ex ∨ X.s₀.heap.objs.size ≤ it) (h2 : ∀ x c, X.env.cells.lookup x = some c → c ≠ it) (h3 : ∀ p ∈ X.pn ++ pins, p.1 ≠ it) : Inv X pins σ H { s with heap := h', toks := t' } := by
  have nit : ∀ b u, H b = some u → b ≠ it := fun b u e z => by rw [z, hn] at e; cases e
  refine I.step (g' := s.gens) (d' := s.drawn) (ch := [it]) (fun b hb => ?_) (fun b o _ _ hc e _ => k b o (fun z => hc (by simp [z])) e) (fun b o _ _ hc e _ => ⟨o.slots, k b o (fun z => hc (by simp [z])) e⟩) (fun _ _ _ _ n => n)
    (fun b o hc e => ⟨o, k b o (fun z => hc (by simp [z])) e⟩) (fun _ _ e => e) (fun _ _ _ e => e) (fun b ps e => ⟨#[], by rw [e]; simp⟩) (fun m hm => ?_) (fun b u e => ?_) I.bare
  · have e : b = it := by simpa using hb
    subst e
    exact ⟨h1, hL, h2, h3⟩
  · obtain ⟨o, es, ep, ho, r⟩ := hm
    exact ⟨o, es, ep, k _ o (Ne.symm hL) ho, r⟩
  · refine (I.hok b u e).stay (fun c v hc q => k c v ?_ q) (fun _ q => q) fun _ _ q => q
    rcases hc with z | z
    · rw [z]; exact nit b u e
    · exact nit c _ z
theorem Inv.tok (I : Inv X pins σ H s) (t : Nat) : Inv X pins σ H { s with toks := t } := I.un (h' := s.heap) (t' := t) Un.refl I.hok
/-- all objects kept -/
theorem Inv.kept {t' : Nat} (I : Inv X pins σ H s) (k : ∀ b u, s.heap.get? b = some u → h'.get? b = some u) : Inv X pins σ H { s with heap := h', toks := t' } := I.un (Un.kept k) (I.hok.kept k)
/-- a new object laid and tracked -/
theorem Inv.laid {a : Addr} {o : HO} {t' : Nat} (I : Inv X pins σ H s) (k : ∀ b u, s.heap.get? b = some u → h'.get? b = some u) (hp : s.heap.objs.size ≤ a) (new : ObjOk X.prog X.w (upd H a o) h' a o) :
    Inv X pins σ (upd H a o) { s with heap := h', toks := t' } := I.un (Un.laid k hp (I.hok.fresh hp)) (I.hok.laid k hp new)
/-- an object written -/
theorem Inv.write {x e : Addr} {o : HO} {t' : Nat} (I : Inv X pins σ H s) (mu : Mut (H x)) (he : e = x ∨ H e = some (.own x)) (k : ∀ b u, b ≠ e → s.heap.get? b = some u → h'.get? b = some u) (heo : ∃ u, h'.get? e = some u)
    (new : ObjOk X.prog X.w (upd H x o) h' x o) : Inv X pins σ (upd H x o) { s with heap := h', toks := t' } := I.un (Un.write mu he k heo) (I.hok.write mu he k heo new)
theorem Inv.pins_of {pins' : List (Addr × Obj)} (I : Inv X pins σ H s) (h : ∀ p ∈ pins', s.heap.get? p.1 = some p.2 ∧ H p.1 = none ∧ p.1 ≠ X.env.locals ∧ p.1 ∉ X.fs ∧ ∀ v, p.2.data ≠ .cell v) : Inv X pins' σ H s :=
  ⟨I.ok, I.os, I.bare, I.base, I.loc, I.cell, I.free, I.freeC, fun p hp => (List.mem_append.mp hp).elim (fun z => I.pin p (List.mem_append_left _ z)) (h p), I.hok, I.len⟩

theorem nodup_ix {N : List Str} (hN : N.Nodup) {i j : Nat} {x : Str} (a : N[i]? = some x) (b : N[j]? = some x) : i = j := by
  obtain ⟨h1, e1⟩ := List.getElem?_eq_some_iff.mp a
  obtain ⟨h2, e2⟩ := List.getElem?_eq_some_iff.mp b
  exact (List.getElem_inj hN).mp (e1.trans e2.symm)

/-- a name is stored; what changed -/
theorem store_ok2 {M : Model} {A : Around} {E : Value → Shared → Prop} {i : Nat} {x : Str} {v : V} {u : Value} {Q : Unit → Shared → Prop} (I : Inv X pins σ H s) (hN : X.N.Nodup) (hi : X.N[i]? = some x) (hx : Loc X.env.scope x) (r : RelV v u)
    (h : ∀ s', Inv X pins (σ.set i (some v)) H s' → (∃ a, Heap.SameBut a s.heap s'.heap ∧ (a = X.env.locals ∨ X.env.cells.lookup x = some a)) → Q () s') (hf : X.fn x = true ∨ X.env.scope.names.lookup x = some .local := by first | exact .inl rfl | exact .inr rfl | assumption) : wpAny M A (storeName X.env x u) Q E s := by
  obtain ⟨m, hn, hl⟩ := id I.loc
  have hcls : (X.env.scope.kind == .class || (X.env.scope.kind == .module && X.env.locals != X.env.globals)) = false := by rw [I.ok.kind]; rfl
  have hiσ : i < σ.length := by rw [I.len]; exact (List.getElem?_eq_some_iff.mp hi).1
  have cne := I.cne
  have tracked : ∀ {a : Addr} {h' : Heap}, (∃ o, s.heap.get? a = some o ∧ H a = none) → Heap.SameBut a s.heap h' → HOk X.prog X.w H h' := fun {a h'} ha hs b ob e => by
    obtain ⟨_, _, hfree⟩ := ha
    refine (I.hok b ob e).stay (fun c w' hc q => (hs.2 c ?_).trans q) (fun _ q => q) fun _ _ q => q
    rintro rfl
    rcases hc with rfl | hc
    · rw [hfree] at e; cases e
    · rw [hfree] at hc; cases hc
  rcases hx with hk | hk
  · refine wpAny_storeName_local hk hn (fun h' hn' hs => ?_) hcls
    obtain ⟨oL, _, _, hoL, _⟩ := id hn
    refine h _ ⟨I.ok, I.os, I.bare, ⟨fun b o e n hb hx => ?_, fun b o e n hb hx => ?_, I.base.free, fun b o e hx => ?_, I.base.tups, I.base.frzs, I.base.tbls⟩, ⟨_, hn', fun j y v' e1 e2 e3 => ?_⟩, fun y c e => ?_, I.free, I.freeC, fun p hp => ?_, tracked ⟨oL, hoL, I.free⟩ hs, by simpa using I.len⟩ ⟨_, hs, .inl rfl⟩
    · exact (hs.2 b (Nat.ne_of_lt (Nat.lt_of_lt_of_le (Heap.lt_size e) I.ok.above))).trans (I.base.keep b o e n hb hx)
    · obtain ⟨sl, e1⟩ := I.base.slot b o e n hb hx
      exact ⟨sl, (hs.2 b (Nat.ne_of_lt (Nat.lt_of_lt_of_le (Heap.lt_size e) I.ok.above))).trans e1⟩
    · obtain ⟨o', e1⟩ := I.base.there b o e hx
      exact ⟨o', (hs.2 b (Nat.ne_of_lt (Nat.lt_of_lt_of_le (Heap.lt_size e) I.ok.above))).trans e1⟩
    · by_cases hj : j = i
      · subst hj
        rw [hi] at e1; cases e1
        rw [List.getElem?_set_self hiσ] at e2
        cases e2
        exact ⟨u, r, .inl ⟨hk, by simp⟩⟩
      · rw [List.getElem?_set_ne (Ne.symm hj)] at e2
        obtain ⟨u', r', q⟩ := hl j y v' e1 e2 e3
        refine ⟨u', r', ?_⟩
        rcases q with ⟨k, e⟩ | ⟨k, c, e, z⟩
        · refine .inl ⟨k, ?_⟩
          have : y ≠ x := fun e => hj (nodup_ix hN e1 (e ▸ hi))
          simp [this, e]
        · exact .inr ⟨k, c, e, z.sameBut hs (cne y c e)⟩
    · obtain ⟨w', z⟩ := I.cell y c e
      exact ⟨w', z.sameBut hs (cne y c e)⟩
    · obtain ⟨e, n, ne, nf, d⟩ := I.pin p hp
      exact ⟨(hs.2 p.1 ne).trans e, n, ne, nf, d⟩
  · have hfn : X.fn x = true := by
      rcases hf with z | z
      · exact z
      · rw [z] at hk; cases hk
    obtain ⟨c, hc⟩ := I.ok.has x (.inl hk)
    obtain ⟨w', z⟩ := I.cell x c hc
    refine wpAny_storeName_cell I.ok.kind hk hc z (fun h' hc' hs => ?_)
    obtain ⟨oc, hoc, hocd⟩ := id z
    refine h { s with heap := h' } ⟨I.ok, I.os, I.bare, ⟨fun b o e n hb hx => ?_, fun b o e n hb hx => ?_, I.base.free, fun b o e hx => ?_, I.base.tups, I.base.frzs, I.base.tbls⟩, ⟨m, hn.sameBut hs (Ne.symm (cne x c hc)), fun j y v' e1 e2 e3 => ?_⟩, fun y c' e => ?_, I.free, I.freeC, fun p hp => ?_, tracked ⟨oc, hoc, I.freeC x c hc⟩ hs, by simpa using I.len⟩ ⟨c, hs, .inr hc⟩
    · exact (hs.2 b (Nat.ne_of_lt (Nat.lt_of_lt_of_le (Heap.lt_size e) (I.ok.cab x c hfn hc)))).trans (I.base.keep b o e n hb hx)
    · obtain ⟨sl, e1⟩ := I.base.slot b o e n hb hx
      exact ⟨sl, (hs.2 b (Nat.ne_of_lt (Nat.lt_of_lt_of_le (Heap.lt_size e) (I.ok.cab x c hfn hc)))).trans e1⟩
    · obtain ⟨o', e1⟩ := I.base.there b o e hx
      exact ⟨o', (hs.2 b (Nat.ne_of_lt (Nat.lt_of_lt_of_le (Heap.lt_size e) (I.ok.cab x c hfn hc)))).trans e1⟩
    · by_cases hj : j = i
      · subst hj
        rw [hi] at e1; cases e1
        rw [List.getElem?_set_self hiσ] at e2
        cases e2
        exact ⟨u, r, .inr ⟨.inl hk, c, hc, hc'⟩⟩
      · rw [List.getElem?_set_ne (Ne.symm hj)] at e2
        obtain ⟨u', r', q⟩ := hl j y v' e1 e2 e3
        refine ⟨u', r', ?_⟩
        rcases q with q | ⟨k, c', e, z'⟩
        · exact .inl q
        · refine .inr ⟨k, c', e, z'.sameBut hs ?_⟩
          rintro rfl
          exact hj (nodup_ix hN e1 (I.ok.inj _ _ _ e hc ▸ hi))
    · by_cases hcc : c' = c
      · subst hcc; exact ⟨_, hc'⟩
      · obtain ⟨w2, z2⟩ := I.cell y c' e
        exact ⟨w2, z2.sameBut hs hcc⟩
    · obtain ⟨e, n, ne, nf, d⟩ := I.pin p hp
      refine ⟨(hs.2 p.1 ?_).trans e, n, ne, nf, d⟩
      intro q
      rw [q, hoc] at e
      have q' : oc = p.2 := Option.some.inj e
      exact d w' (by rw [← q']; exact hocd)
theorem store_ok {M : Model} {A : Around} {E : Value → Shared → Prop} {i : Nat} {x : Str} {v : V} {u : Value} {Q : Unit → Shared → Prop} (I : Inv X pins σ H s) (hN : X.N.Nodup) (hi : X.N[i]? = some x) (hx : Loc X.env.scope x) (r : RelV v u)
    (h : ∀ s', Inv X pins (σ.set i (some v)) H s' → Q () s') (hf : X.fn x = true ∨ X.env.scope.names.lookup x = some .local := by first | exact .inl rfl | exact .inr rfl | assumption) : wpAny M A (storeName X.env x u) Q E s :=
  store_ok2 I hN hi hx r (fun s' I' _ => h s' I') hf
/-- behind a call or a block, the state as it is -/
theorem Inv.call' {s' : Shared} {ch : List Addr} (I : Inv X pins σ H s) (ho : s'.os = s.os) (u : Un (frs X.stack) ch H H' s.heap s'.heap) (hok : HOk X.prog X.w H' s'.heap) (hg : AllBare s'.gens)
    (hch : ∀ b ∈ ch, (b ∈ X.ex ∨ X.s₀.heap.objs.size ≤ b) ∧ b ≠ X.env.locals ∧ (∀ x c, X.env.cells.lookup x = some c → c ≠ b) ∧ ∀ p ∈ X.pn ++ pins, p.1 ≠ b) : Inv X pins σ H' s' := by
  obtain ⟨h', g', d', t', o'⟩ := s'
  have e : o' = s.os := ho
  subst e
  exact I.call (g' := g') (t' := t') (d' := d') u hok hg hch
end

/-! ### the judgements -/
/-- an exception: its class, its own dict's address (where it has one), the abstract heap behind it -/
noncomputable abbrev XK := Value → Option Addr → Hp → Prop
noncomputable abbrev St := List (Option V)
noncomputable abbrev VK := V → Hp → Prop
/-- an expression's reading; a test's; an argument list's -/
noncomputable abbrev TE := St → Hp → VK → Prop
noncomputable abbrev TT := St → Hp → (Bool → Hp → Prop) → Prop
noncomputable abbrev TA := St → Hp → (List V → Hp → Prop) → Prop
/-- what is wanted behind a statement -/
structure Ends where
  nx : St → Hp → Prop
  rt : VK
  bk : St → Hp → Prop := fun _ _ => False
  ct : St → Hp → Prop := fun _ _ => False
noncomputable abbrev TS := Ends → St → Hp → Prop

noncomputable def EP (X : Cx) (pins : List (Addr × Obj)) (σ : St) (Q : VK) (u : Value) (s' : Shared) : Prop := ∃ v H', Inv X pins σ H' s' ∧ RelV v u ∧ Q v H'
noncomputable def TP (X : Cx) (pins : List (Addr × Obj)) (σ : St) (Q : Bool → Hp → Prop) (b : Bool) (s' : Shared) : Prop := ∃ H', Inv X pins σ H' s' ∧ Q b H'
noncomputable def AP (X : Cx) (pins : List (Addr × Obj)) (σ : St) (Q : List V → Hp → Prop) (us : List Value) (s' : Shared) : Prop := ∃ vs H', Inv X pins σ H' s' ∧ Vals vs us ∧ Q vs H'
noncomputable def SP (X : Cx) (pins : List (Addr × Obj)) (D : Ends) (f : Flow) (s' : Shared) : Prop :=
  match f with
  | .next => ∃ σ' H', Inv X pins σ' H' s' ∧ D.nx σ' H'
  | .brk => ∃ σ' H', Inv X pins σ' H' s' ∧ D.bk σ' H'
  | .cont => ∃ σ' H', Inv X pins σ' H' s' ∧ D.ct σ' H'
  | .ret u => ∃ v σ' H', Inv X pins σ' H' s' ∧ RelV v u ∧ D.rt v H'

noncomputable def PE (X : Cx) (e : Expr) (t : TE) : Prop :=
  ∀ (pins : List (Addr × Obj)) (s : Shared) (σ : St) (H : Hp) (Q : VK), Inv X pins σ H s → t σ H Q → wpAny (model X.prog X.w) X.A (eval e X.env) (EP X pins σ Q) X.xe s
noncomputable def PT (X : Cx) (e : Expr) (t : TT) : Prop :=
  ∀ (pins : List (Addr × Obj)) (s : Shared) (σ : St) (H : Hp) (Q : Bool → Hp → Prop), Inv X pins σ H s → t σ H Q → wpAny (model X.prog X.w) X.A (isTrue e X.env (eval e X.env)) (TP X pins σ Q) X.xe s
/-- a test whatever its 'whole' is (and, or) -/
noncomputable def PW (X : Cx) (e : Expr) (t : TT) : Prop :=
  ∀ (whole : Sem Value) (pins : List (Addr × Obj)) (s : Shared) (σ : St) (H : Hp) (Q : Bool → Hp → Prop), Inv X pins σ H s → t σ H Q → wpAny (model X.prog X.w) X.A (isTrue e X.env whole) (TP X pins σ Q) X.xe s
theorem PW.pt {X : Cx} {e : Expr} {t : TT} (h : PW X e t) : PT X e t := h _
/-- an argument list (no star), from the left -/
noncomputable def PA (X : Cx) (es : List Expr) (t : TA) : Prop :=
  ∀ (pos : Pos) (pins : List (Addr × Obj)) (s : Shared) (σ : St) (H : Hp) (Q : List V → Hp → Prop), Inv X pins σ H s → t σ H Q → wpAny (model X.prog X.w) X.A (spliced (backTo pos (starEach es X.env))) (AP X pins σ Q) X.xe s
noncomputable def PS (X : Cx) (st : Stmt) (t : TS) : Prop :=
  ∀ (pins : List (Addr × Obj)) (s : Shared) (σ : St) (H : Hp) (D : Ends), Inv X pins σ H s → t D σ H → wpAny (model X.prog X.w) X.A (exec st X.env) (SP X pins D) X.xe s
noncomputable def PSs (X : Cx) (st : List Stmt) (t : TS) : Prop :=
  ∀ (pins : List (Addr × Obj)) (s : Shared) (σ : St) (H : Hp) (D : Ends), Inv X pins σ H s → t D σ H → wpAny (model X.prog X.w) X.A (execs st X.env) (SP X pins D) X.xe s
/-- weaken the end -/
theorem thn {α : Type} {t : Sem α} {Q Q' : α → Shared → Prop} {M : Model} {A : Around} {E : Value → Shared → Prop} {s : Shared} (h : wpAny M A t Q E s) (hQ : ∀ a s, Q a s → Q' a s) : wpAny M A t Q' E s := wpAny_mono h hQ fun _ _ x => x
end L2

namespace L2
open PySem PySem.Spec PyProof.Rows
section
variable {X : Cx}

/-! ### names and constants -/
noncomputable def tVar (i : Nat) : TE := fun σ H Q => ∃ v, σ[i]? = some (some v) ∧ Q v H
noncomputable def tC (v : V) : TE := fun _ H Q => Q v H
theorem pe_var {i : Nat} {x : Str} {pos : Pos} (hN : X.N[i]? = some x) (hv : Vis X.env.scope x) (hd : (x == ("__debug__" : Str)) = false := by decide) (hcd : (x == ("__classdict__" : Str)) = false := by decide) : PE X (.Name x pos) (tVar i) := by
  intro pins s σ H Q I h
  obtain ⟨v, e, h⟩ := h
  obtain ⟨m, hn, hl⟩ := I.loc
  obtain ⟨u, r, l⟩ := hl i x v hN e hv
  have fin : EP X pins σ Q u s := ⟨v, H, I, r, h⟩
  rcases l with ⟨hk, hm⟩ | ⟨hk, c, hc, hcell⟩
  · exact wpAny_Name (wpAny_loadName_local I.ok.kind hk hn hm fin) hd
  · rcases hk with hk | hk
    · exact wpAny_Name (wpAny_loadName_cell I.ok.kind hk hc hcell fin) hd
    · exact wpAny_Name (wpAny_loadName_free I.ok.kind hk hc hcell fin hcd) hd
theorem pe_int {i j pos} : PE X (.Constant (.int i) j pos) (tC (.int i)) := fun _ _ _ H _ I h => wpAny_Constant_int ⟨.int i, H, I.tok _, ⟨_, rfl⟩, h⟩
theorem pe_bl {b j pos} : PE X (.Constant (.bool b) j pos) (tC (.bl b)) := fun _ _ _ H _ I h => Constant_bool ⟨.bl b, H, I, rfl, h⟩
theorem pe_non {j pos} : PE X (.Constant .none j pos) (tC .non) := fun _ _ _ H _ I h => Constant_none ⟨.non, H, I, rfl, h⟩
theorem pe_str {x j pos} : PE X (.Constant (.str x) j pos) (tC (.str x)) := fun _ _ _ H _ I h => Calls.Constant_str ⟨.str x, H, I.tok _, ⟨_, rfl⟩, h⟩

/-- a global name of the def -/
noncomputable def Gl (X : Cx) (x : Str) : Prop := X.env.kindOf x = some .globalImplicit
theorem ld_glob {E : Value → Shared → Prop} {pins : List (Addr × Obj)} {s : Shared} {σ : St} {H : Hp} {x : Str} {u : Value} {pos : Pos} {Q : Value → Shared → Prop} (I : Inv X pins σ H s) (hg : Gl X x) (hm : X.mg x = some u) (h : Q u s)
    (hd : (x == ("__debug__" : Str)) = false := by decide) : wpAny (model X.prog X.w) X.A (eval (.Name x pos) X.env) Q E s :=
  Calls.Name_function_global I.ok.kind hg (Calls.loadGlobal_global (by rw [I.ok.glob]; exact I.mod.glob.keeps I.bk) hm h) hd
theorem ld_blt {E : Value → Shared → Prop} {pins : List (Addr × Obj)} {s : Shared} {σ : St} {H : Hp} {x : Str} {u : Value} {pos : Pos} {Q : Value → Shared → Prop} (I : Inv X pins σ H s) (hg : Gl X x) (hm : X.mg x = none) (hv : bootBuiltins x = some u) (h : Q u s)
    (hn : x ≠ "__name__" := by decide) (hd : (x == ("__debug__" : Str)) = false := by decide) : wpAny (model X.prog X.w) X.A (eval (.Name x pos) X.env) Q E s := by
  obtain ⟨mb, h1, h2⟩ := I.mod.blt
  exact Calls.Name_function_global I.ok.kind hg (Calls.loadGlobal_builtin (by rw [I.ok.glob]; exact I.mod.glob.keeps I.bk) hm (by rw [I.ok.blt]; exact h1.keeps I.bk) ((h2 x hn).trans hv) h) hd
/-- a module's constant, a class, a function, as a value -/
theorem pe_glob {x : Str} {v : V} {u : Value} {pos : Pos} (hg : Gl X x) (hm : X.mg x = some u) (r : RelV v u) (hd : (x == ("__debug__" : Str)) = false := by decide) : PE X (.Name x pos) (tC v) :=
  fun _ _ _ H _ I h => ld_glob I hg hm ⟨v, H, I, r, h⟩ hd
theorem pe_bltn {x : Str} {v : V} {u : Value} {pos : Pos} (hg : Gl X x) (hm : X.mg x = none) (hv : bootBuiltins x = some u) (r : RelV v u) (hn : x ≠ "__name__" := by decide) (hd : (x == ("__debug__" : Str)) = false := by decide) : PE X (.Name x pos) (tC v) :=
  fun _ _ _ H _ I h => ld_blt I hg hm hv ⟨v, H, I, r, h⟩ hn hd

/-! ### arithmetic -/
variable {a b : Expr} {ta tb : TE} {pos : Pos}
/-! ### comparisons -/
/-- a comparison as a value, as a test -/
noncomputable def tB (t : TE) : TT := fun σ H Q => t σ H fun x H1 => ∃ c, x = .bl c ∧ Q c H1
/-- an expression whose value is a bool, as a test -/
theorem pt_val {e : Expr} {t : TE} (h : PE X e t) (he : ∀ whole, isTrue e X.env whole = (do let v ← whole; standAt e.pos; holding [v] (truthy v)) := by intro _; rfl) : PT X e (tB t) := by
  intro pins s σ H Q I hw
  refine isTrue_plain (thn (h pins s σ H _ I hw) fun v s1 ⟨x, H1, I1, r1, q1⟩ => ?_) (he _)
  obtain ⟨d, rfl, q⟩ := q1
  cases r1
  exact wpAny_truthy_bool ⟨H1, I1, q⟩

/-! ### and, or, not -/
variable {tA tB' : TT} {rest : List Expr}
noncomputable def tAnd (t u : TT) : TT := fun σ H Q => t σ H fun c H1 => if c = true then u σ H1 Q else Q false H1
noncomputable def tOr (t u : TT) : TT := fun σ H Q => t σ H fun c H1 => if c = true then Q true H1 else u σ H1 Q
noncomputable def tNot (t : TT) : TT := fun σ H Q => t σ H fun c H1 => Q (!c) H1
theorem pw_and1 (ha : PT X a tA) : PW X (.BoolOp .And [a] pos) tA := by
  intro wh pins s σ H Q I h
  refine isTrue_and (thn (ha pins s σ H Q I h) fun c s1 e => ?_)
  cases c with
  | true => exact isTrue_and_nil e
  | false => exact e
theorem pw_or1 (ha : PT X a tA) : PW X (.BoolOp .Or [a] pos) tA := by
  intro wh pins s σ H Q I h
  refine isTrue_or (thn (ha pins s σ H Q I h) fun c s1 e => ?_)
  cases c with
  | false => exact isTrue_or_nil e
  | true => exact e
theorem pw_and (ha : PT X a tA) (hb : PW X (.BoolOp .And (b :: rest) pos) tB') : PW X (.BoolOp .And (a :: b :: rest) pos) (tAnd tA tB') := by
  intro wh pins s σ H Q I h
  refine isTrue_and (thn (ha pins s σ H _ I h) fun c s1 ⟨H1, I1, q1⟩ => ?_)
  cases c with
  | true => exact hb wh pins s1 σ H1 Q I1 q1
  | false => exact ⟨H1, I1, q1⟩
theorem pw_or (ha : PT X a tA) (hb : PW X (.BoolOp .Or (b :: rest) pos) tB') : PW X (.BoolOp .Or (a :: b :: rest) pos) (tOr tA tB') := by
  intro wh pins s σ H Q I h
  refine isTrue_or (thn (ha pins s σ H _ I h) fun c s1 ⟨H1, I1, q1⟩ => ?_)
  cases c with
  | true => exact ⟨H1, I1, q1⟩
  | false => exact hb wh pins s1 σ H1 Q I1 q1
theorem pt_not (ha : PT X a tA) : PT X (.UnaryOp .Not a pos) (tNot tA) := by
  intro pins s σ H Q I h
  exact isTrue_not (ha pins s σ H (fun c H1 => Q (!c) H1) I h)
end
end L2

namespace L2
open PySem PySem.Spec PyProof.Rows

/-! ### a list, a tuple that is read: tracked, frozen, or an object of the module -/
noncomputable def SqL (K : PySem.W.Frag) (H : Hp) (a : Addr) (xs : List V) : Prop :=
  Rd H a (.lst xs) ∨
    ∃ (o : Obj) (its : Array Value) (n : Nat), K.lookup a = some o ∧ o.cls = .type "list" ∧ o.dict = none ∧ o.data = .seq its n ∧ its.size ≤ sizeLine ∧ Vals xs its.toList
noncomputable def SqT (K : PySem.W.Frag) (H : Hp) (a : Addr) (xs : List V) : Prop :=
  Rd H a (.tup xs) ∨
    ∃ (o : Obj) (its : Array Value) (n : Nat), K.lookup a = some o ∧ o.cls = .type "tuple" ∧ o.data = .seq its n ∧ its.size ≤ sizeLine ∧ Vals xs its.toList
noncomputable def absV : Value → Option V
  | .none => some .non
  | .bool b => some (.bl b)
  | .int i _ => some (.int i)
  | .str x _ => some (.str x)
  | .bytes b _ => some (.byt b)
  | .float b _ => some (.flt b)
  | .ref a => some (.ref a)
  | .type n => some (.ty n)
  | _ => none
theorem RelV.abs {x : V} {u : Value} (r : RelV x u) : absV u = some x := by
  cases x with
  | non => cases r; rfl
  | bl _ => cases r; rfl
  | int _ => obtain ⟨t, rfl⟩ := r; rfl
  | str _ => obtain ⟨t, rfl⟩ := r; rfl
  | byt _ => obtain ⟨t, rfl⟩ := r; rfl
  | flt _ => obtain ⟨t, rfl⟩ := r; rfl
  | ref _ => cases r; rfl
  | ty _ => cases r; rfl
theorem RelV.inj {x y : V} {u : Value} (r : RelV x u) (q : RelV y u) : x = y := Option.some.inj (r.abs.symm.trans q.abs)
theorem Vals.inj : ∀ {xs ys : List V} {us : List Value}, Vals xs us → Vals ys us → xs = ys
  | _, _, _, .nil, .nil => rfl
  | _, _, _, .cons r t, .cons r' t' => by rw [r.inj r', Vals.inj t t']
section
variable {X : Cx} {pins : List (Addr × Obj)} {σ : St} {H : Hp} {s : Shared} {a : Addr} {xs ys : List V}
theorem SqL.of {K : PySem.W.Frag} (h : H a = some (.lst xs)) : SqL K H a xs := .inl (.inl h)
theorem SqT.of {K : PySem.W.Frag} (h : H a = some (.tup xs)) : SqT K H a xs := .inl (.inl h)
theorem Inv.list (I : Inv X pins σ H s) (h : SqL X.K H a xs) : ∃ its : List Value, Vals xs its ∧ PlainL s.heap a its.toArray ∧ xs.length ≤ sizeLine := by
  rcases h with h | ⟨o, its, n, hk, hc, hd, hs, hz, r⟩
  · obtain ⟨z, its, n, r, e⟩ := h.ok I.hok
    exact ⟨its, r, ⟨_, n, e, rfl, rfl, rfl⟩, z⟩
  · refine ⟨its.toList, r, ⟨o, n, I.kIn a o hk, hc, hd, by simpa using hs⟩, ?_⟩
    have e := r.length
    simp only [Array.length_toList] at e
    omega
theorem Inv.tuple (I : Inv X pins σ H s) (h : SqT X.K H a xs) : ∃ its : List Value, Vals xs its ∧ IsTup s.heap a its.toArray ∧ xs.length ≤ sizeLine := by
  rcases h with h | ⟨o, its, n, hk, hc, hs, hz, r⟩
  · obtain ⟨z, its, r, p⟩ := h.ok I.hok
    exact ⟨its, r, p, z⟩
  · refine ⟨its.toList, r, ⟨o, I.kIn a o hk, hc, n, by simpa using hs⟩, ?_⟩
    have e := r.length
    simp only [Array.length_toList] at e
    omega
theorem Inv.list_inj (I : Inv X pins σ H s) (h : SqL X.K H a xs) (h' : SqL X.K H a ys) : xs = ys := by
  obtain ⟨its, r, ⟨o, n, e, _, _, d⟩, _⟩ := I.list h
  obtain ⟨its', r', ⟨o', n', e', _, _, d'⟩, _⟩ := I.list h'
  rw [e] at e'; cases e'
  rw [d] at d'
  injection d' with d1 _
  have : its = its' := by simpa using congrArg Array.toList d1
  subst this
  exact r.inj r'
theorem Inv.tuple_inj (I : Inv X pins σ H s) (h : SqT X.K H a xs) (h' : SqT X.K H a ys) : xs = ys := by
  obtain ⟨its, r, ⟨o, e, _, n, d⟩, _⟩ := I.tuple h
  obtain ⟨its', r', ⟨o', e', _, n', d'⟩, _⟩ := I.tuple h'
  rw [e] at e'; cases e'
  rw [d] at d'
  injection d' with d1 _
  have : its = its' := by simpa using congrArg Array.toList d1
  subst this
  exact r.inj r'
end

/-! ### another wish about exceptions -/
noncomputable abbrev Cx.wish (X : Cx) (E : Value → Shared → Prop) : Cx := { X with xe := E }
/-- no exception leaves -/
noncomputable abbrev Cx.nox (X : Cx) : Cx := X.wish fun _ _ => False
theorem Cx.Ok.wish {X : Cx} (ok : X.Ok) (E : Value → Shared → Prop) : (X.wish E).Ok :=
  ⟨ok.mod, ok.kind, ok.glob, ok.blt, ok.above, ok.inj, ok.has, ok.cab, ok.hd, ok.frames, ok.stk, ok.exf, ok.bs, ok.bsz, ok.noex, ok.exfs, ok.funs, ok.frf⟩
theorem Cx.Ok.unwish {X : Cx} {E : Value → Shared → Prop} (ok : (X.wish E).Ok) : X.Ok :=
  ⟨ok.mod, ok.kind, ok.glob, ok.blt, ok.above, ok.inj, ok.has, ok.cab, ok.hd, ok.frames, ok.stk, ok.exf, ok.bs, ok.bsz, ok.noex, ok.exfs, ok.funs, ok.frf⟩
section
variable {X : Cx} {pins : List (Addr × Obj)} {σ : St} {H : Hp} {s : Shared} {E : Value → Shared → Prop}
theorem Inv.wish (I : Inv X pins σ H s) (E : Value → Shared → Prop) : Inv (X.wish E) pins σ H s := ⟨I.ok.wish E, I.os, I.bare, I.base, I.loc, I.cell, I.free, I.freeC, I.pin, I.hok, I.len⟩
theorem Inv.unwish (I : Inv (X.wish E) pins σ H s) : Inv X pins σ H s := ⟨I.ok.unwish, I.os, I.bare, I.base, I.loc, I.cell, I.free, I.freeC, I.pin, I.hok, I.len⟩
theorem SP.unwish {D : Ends} {f : Flow} {s' : Shared} (h : SP (X.wish E) pins D f s') : SP X pins D f s' := by
  cases f with
  | next => obtain ⟨σ', H', I, q⟩ := h; exact ⟨σ', H', I.unwish, q⟩
  | brk => obtain ⟨σ', H', I, q⟩ := h; exact ⟨σ', H', I.unwish, q⟩
  | cont => obtain ⟨σ', H', I, q⟩ := h; exact ⟨σ', H', I.unwish, q⟩
  | ret u => obtain ⟨v, σ', H', I, r, q⟩ := h; exact ⟨v, σ', H', I.unwish, r, q⟩
theorem PSs.nox {st : List Stmt} {t : TS} (h : PSs X.nox st t) : PSs X st t := fun pins s σ H D I hw =>
  wpAny_mono (h pins s σ H D (I.wish _) hw) (fun _ _ q => q.unwish) fun _ _ z => False.elim z
end

/-! ### blocks and small statements -/
section
variable {X : Cx} {st : Stmt} {rest : List Stmt} {t u : TS} {e : Expr} {te : TE} {pos : Pos}
noncomputable def tNext : TS := fun D σ H => D.nx σ H
noncomputable def tSeq (t u : TS) : TS := fun D σ H => t { D with nx := u D } σ H
theorem pss_nil : PSs X [] tNext := fun _ _ σ H _ I h => wpAny_execs_nil ⟨σ, H, I, h⟩
theorem pss_cons (h1 : PS X st t) (h2 : PSs X rest u) : PSs X (st :: rest) (tSeq t u) := by
  intro pins s σ H D I h
  refine wpAny_execs_cons (thn (h1 pins s σ H { D with nx := u D } I h) fun f s1 q => ?_)
  cases f with
  | next =>
    obtain ⟨σ', H', I', q⟩ := q
    exact h2 pins s1 σ' H' D I' q
  | ret v => exact q
  | brk => exact q
  | cont => exact q
theorem pss_one (h1 : PS X st t) : PSs X [st] t := by
  intro pins s σ H D I h
  refine wpAny_execs_cons (thn (h1 pins s σ H D I h) fun f s1 q => ?_)
  cases f with
  | next => exact wpAny_execs_nil q
  | ret v => exact q
  | brk => exact q
  | cont => exact q
/-- in a def's body nothing is shown -/
theorem Inv.quiet {pins : List (Addr × Obj)} {σ : St} {H : Hp} {s : Shared} (I : Inv X pins σ H s) : interactive X.env = false := by simp [interactive, I.ok.kind]
/-- an expression whose value is dropped -/
noncomputable def tDrop (te : TE) : TS := fun D σ H => te σ H fun _ H1 => D.nx σ H1
theorem ps_expr (he : PE X e te) (hs : swapsWith e none pos.line X.env = pure false := by rfl) : PS X (.Expr e pos) (tDrop te) := by
  intro pins s σ H D I h
  exact wpAny_Expr_any (thn (he pins s σ H _ I h) fun v s1 ⟨x, H1, I1, r1, q1⟩ => ⟨σ, H1, I1, q1⟩) I.quiet hs
noncomputable def tRet (te : TE) : TS := fun D σ H => te σ H D.rt
theorem ps_ret (he : PE X e te) : PS X (.Return (some e) pos) (tRet te) := by
  intro pins s σ H D I h
  exact wpAny_Return_some (thn (he pins s σ H _ I h) fun v s1 ⟨x, H1, I1, r1, q1⟩ => ⟨x, σ, H1, I1, r1, q1⟩)
noncomputable def tIfS (c : TT) (t u : TS) : TS := fun D σ H => c σ H fun b H1 => if b = true then t D σ H1 else u D σ H1
theorem ps_if {c : Expr} {a b : List Stmt} {tc : TT} (hc : PT X c tc) (ha : PSs X a t) (hb : PSs X b u) : PS X (.If c a b pos) (tIfS tc t u) := by
  intro pins s σ H D I h
  refine wpAny_If (thn (hc pins s σ H _ I h) fun d s1 ⟨H1, I1, q1⟩ => ?_)
  cases d with
  | true => exact ha pins s1 σ H1 D I1 q1
  | false => exact hb pins s1 σ H1 D I1 q1
end

/-! ### targets -/
noncomputable abbrev TG := V → St → Hp → (St → Hp → Prop) → Prop
noncomputable abbrev TGs := List V → St → Hp → (St → Hp → Prop) → Prop
noncomputable def PG (X : Cx) (target : Expr) (t : TG) : Prop :=
  ∀ (pins : List (Addr × Obj)) (s : Shared) (σ : St) (H : Hp) (v : V) (u : Value) (Q : St → Hp → Prop), Inv X pins σ H s → RelV v u → t v σ H Q →
    wpAny (model X.prog X.w) X.A (assign target X.env u) (fun _ s' => ∃ σ' H', Inv X pins σ' H' s' ∧ Q σ' H') X.xe s
/-- several targets, one after another -/
noncomputable def PGs (X : Cx) (ts : List Expr) (t : TGs) : Prop :=
  ∀ (pins : List (Addr × Obj)) (s : Shared) (σ : St) (H : Hp) (vs : List V) (us : List Value) (Q : St → Hp → Prop), Inv X pins σ H s → Vals vs us → t vs σ H Q →
    wpAny (model X.prog X.w) X.A (assignInOrder ((assignEach ts X.env).map (·.2)) us) (fun _ s' => ∃ σ' H', Inv X pins σ' H' s' ∧ Q σ' H') X.xe s
section
variable {X : Cx} {pos : Pos}
noncomputable def gName (i : Nat) : TG := fun v σ H Q => Q (σ.set i (some v)) H
theorem pg_name {i : Nat} {x : Str} (hN : X.N.Nodup) (hi : X.N[i]? = some x) (hx : Loc X.env.scope x) (hf : X.fn x = true ∨ X.env.scope.names.lookup x = some .local := by first | exact .inl rfl | exact .inr rfl | assumption) : PG X (.Name x pos) (gName i) := by
  intro pins s σ H v u Q I r h
  exact wpAny_assign_Name (store_ok I hN hi hx r (fun s' I' => ⟨_, H, I', h⟩) hf)
noncomputable def gNil : TGs := fun vs σ H Q => vs = [] ∧ Q σ H
noncomputable def gCons (t : TG) (u : TGs) : TGs := fun vs σ H Q => ∃ v r, vs = v :: r ∧ t v σ H fun σ' H' => u r σ' H' Q
theorem pgs_nil : PGs X [] gNil := by
  intro pins s σ H vs us Q I r h
  obtain ⟨e, h⟩ := h
  subst e
  cases r
  exact assignInOrder_nil ⟨σ, H, I, h⟩
theorem pgs_cons {e : Expr} {es : List Expr} {t : TG} {u : TGs} (h1 : PG X e t) (h2 : PGs X es u)
    (hs : (assignEach (e :: es) X.env).map (·.2) = assign e X.env :: (assignEach es X.env).map (·.2) := by rfl) : PGs X (e :: es) (gCons t u) := by
  intro pins s σ H vs us Q I r h
  obtain ⟨v, vr, e1, h⟩ := h
  subst e1
  cases r with
  | cons r rr =>
    rw [hs]
    refine assignInOrder_cons (thn (h1 pins s σ H _ _ _ I r h) fun _ s1 ⟨σ1, H1, I1, q1⟩ => ?_)
    exact h2 pins s1 σ1 H1 _ _ Q I1 rr q1
/-- (a, b, ..) = a tuple of that length -/
noncomputable def gTup (K : PySem.W.Frag) (n : Nat) (t : TGs) : TG := fun v σ H Q => ∃ a xs, v = .ref a ∧ SqT K H a xs ∧ xs.length = n ∧ t xs σ H Q
theorem pg_tup {es : List Expr} {k : Nat} {t : TGs} {n : Nat} (hc : X.calm = true) (h : PGs X es t)
    (hn : (assignEach es X.env).length = n := by rfl) (hst : (assignEach es X.env).findIdx? (·.1) = none := by rfl) : PG X (.Tuple es k pos) (gTup X.K n t) := by
  intro pins s σ H v u Q I r hw
  obtain ⟨a, xs, e1, hq, hl, hw⟩ := hw
  subst e1
  cases r
  obtain ⟨its, rv, ht, hz⟩ := I.tuple hq
  refine assign_Tuple_tuple (I.ok.hd hc) ht (by simp [hn, ← hl, rv.length]) hst fun h' hx => ?_
  have I1 : Inv X pins σ H { s with heap := h' } := I.kept (t' := s.toks) fun b o e => hx b o (Nat.ne_of_lt (Heap.lt_size e)) e
  exact h pins _ σ H xs _ Q I1 (by simpa using rv) hw
/-- target = value -/
noncomputable def tAsg (te : TE) (g : TG) : TS := fun D σ H => te σ H fun x H1 => g x σ H1 D.nx
theorem ps_asg {tg e : Expr} {te : TE} {g : TG} (he : PE X e te) (hg : PG X tg g) (hs : swapsWithSole [tg] e pos.line X.env = pure false := by rfl) (hw : swappedStores [tg] e X.env = pure none := by rfl)
    (h1 : (assignEach [tg] X.env).map (·.2) = [assign tg X.env] := by rfl) : PS X (.Assign [tg] e pos) (tAsg te g) := by
  intro pins s σ H D I h
  refine wpAny_Assign_stores (thn (he pins s σ H _ I h) fun v s1 ⟨x, H1, I1, r1, q1⟩ => ?_) hs hw
  rw [h1]
  exact thn (hg pins s1 σ H1 x v _ I1 r1 q1) fun _ s2 q => q
/-- name = value -/
theorem ps_set {i : Nat} {x : Str} {e : Expr} {te : TE} {pos' : Pos} (hN : X.N.Nodup) (hi : X.N[i]? = some x) (hx : Loc X.env.scope x) (he : PE X e te) (hs : swapsWith e (some (.Name x pos')) pos.line X.env = pure false := by rfl) (hf : X.fn x = true ∨ X.env.scope.names.lookup x = some .local := by first | exact .inl rfl | exact .inr rfl | assumption) :
    PS X (.Assign [.Name x pos'] e pos) (tAsg te (gName i)) := by
  intro pins s σ H D I h
  refine wpAny_Assign_Name (thn (he pins s σ H _ I h) fun v s1 ⟨y, H1, I1, r1, q1⟩ => ?_) hs
  exact store_ok I1 hN hi hx r1 (fun s2 I2 => ⟨_, H1, I2, q1⟩) hf
end

/-! ### while -/
section
variable {X : Cx} {pos : Pos}
end

/-! ### what a loop or a comprehension walks -/
/-- at turn i: it yields x (the heap may grow), or it stops -/
structure It where
  go : Nat → Hp → Prop
  yld : Nat → Hp → V → Hp → Prop
  stop : Nat → Hp → Prop
/-- the iterator's own objects may turn: they are not the frame's, not pinned, younger than the entry (or a comprehension's own) -/
noncomputable def FpOk (X : Cx) (pins : List (Addr × Obj)) (H : Hp) (b : Addr) : Prop :=
  H b = none ∧ b ≠ X.env.locals ∧ b ∉ X.fs ∧ (b ∈ X.ex ∨ X.s₀.heap.objs.size ≤ b) ∧ (∀ x c, X.env.cells.lookup x = some c → c ≠ b) ∧ ∀ p ∈ X.pn ++ pins, p.1 ≠ b
theorem Inv.fpOk {X : Cx} {pins : List (Addr × Obj)} {σ : St} {H H' : Hp} {s : Shared} {b : Addr} (I : Inv X pins σ H s) (hb : s.heap.objs.size ≤ b) (hn : H' b = none) : FpOk X pins H' b := by
  refine ⟨hn, Nat.ne_of_gt (Nat.lt_of_lt_of_le I.lt hb), I.nofs hb, .inr (Nat.le_trans I.sz hb), fun x c e z => ?_, fun p hp z => ?_⟩
  · obtain ⟨v, q⟩ := I.cell x c e
    exact absurd (Nat.lt_of_lt_of_le q.lt (by rw [z]; exact hb)) (Nat.lt_irrefl _)
  · exact absurd (Nat.lt_of_lt_of_le (Heap.lt_size (I.pin p hp).1) (by rw [z]; exact hb)) (Nat.lt_irrefl _)
structure Turn (P : Program) (w : World) (K : PySem.W.Frag) (tg : Expr) (J : It) (fp : List Addr) (it : Addr) (tn : Nat → Heap → Prop) : Prop where
  mem : it ∈ fp
  obj : ∀ i h, tn i h → ∀ b ∈ fp, ∃ o, h.get? b = some o ∧ ∀ v, o.data ≠ .cell v
  keep : ∀ i h h', tn i h → (∀ b ∈ fp, ∀ o, h.get? b = some o → h'.get? b = some o) → tn i h'
  item : ∀ (X : Cx), X.prog = P → X.w = w → X.K = K → X.calm = true → ∀ (i : Nat) (pins : List (Addr × Obj)) (s : Shared) (σ : St) (H : Hp) (E : Value → Shared → Prop), Inv X pins σ H s → (∀ b ∈ fp, FpOk X pins H b) → tn i s.heap → J.go i H →
    wpAny (model P w) X.A (pyNext (.ref it)) (fun r s1 => ∃ u, r = some u ∧
      wpAny (model P w) X.A (letOwnedTupleGo tg (.ref it) u) (fun _ s2 => ∃ x H', Inv X pins σ H' s2 ∧ RelV x u ∧ J.yld i H x H' ∧ tn (i + 1) s2.heap ∧ ∀ b ∈ fp, H' b = none) E s1) E s
  done : ∀ (X : Cx), X.prog = P → X.w = w → X.K = K → X.calm = true → ∀ (i : Nat) (pins : List (Addr × Obj)) (s : Shared) (σ : St) (H : Hp) (E : Value → Shared → Prop), Inv X pins σ H s → (∀ b ∈ fp, FpOk X pins H b) → tn i s.heap → J.stop i H →
    wpAny (model P w) X.A (pyNext (.ref it)) (fun r s1 => r = none ∧ Inv X pins σ H s1) E s
  self : ∀ (A : Around) (i : Nat) (s : Shared) (Q : Value → Shared → Prop) (E : Value → Shared → Prop), tn i s.heap → Q (.ref it) s → wpAny (model P w) A (pyIter (.ref it)) Q E s
noncomputable abbrev TI := St → Hp → (It → Hp → Prop) → Prop
/-- an iterator has come -/
noncomputable def PIE (X : Cx) (pins : List (Addr × Obj)) (σ : St) (tg : Expr) (R : It → Hp → Prop) (itv : Value) (s2 : Shared) : Prop :=
  ∃ (it : Addr) (fp : List Addr) (tn : Nat → Heap → Prop) (J : It) (H' : Hp), itv = .ref it ∧ Inv X pins σ H' s2 ∧ Turn X.prog X.w X.K tg J fp it tn ∧ tn 0 s2.heap ∧ (∀ b ∈ fp, FpOk X pins H' b) ∧ R J H'
noncomputable def PI (X : Cx) (tg iter : Expr) (wi : TI) : Prop :=
  ∀ (pins : List (Addr × Obj)) (s : Shared) (σ : St) (H : Hp) (R : It → Hp → Prop), Inv X pins σ H s → wi σ H R →
    wpAny (model X.prog X.w) X.A (eval iter X.env) (fun v s1 => wpAny (model X.prog X.w) X.A (pyIter v) (PIE X pins σ tg R) X.xe s1) X.xe s

/-- the step ahead of the store is nothing for an iterator that keeps no tuple -/
theorem go_of {M : Model} {A : Around} {E : Value → Shared → Prop} {s : Shared} {tg : Expr} {it : Addr} {u : Value} {o : Obj} {n : String} {vs : Array Value} {Q : Unit → Shared → Prop} (ho : s.heap.get? it = some o) (hc : o.cls = .type n) (hd : o.data = .fields vs)
    (hn : ["enumerate", "zip", "dict_itemiterator", "dict_reverseitemiterator", "odict_iterator", "itertools.zip_longest", "itertools.pairwise"].contains n = false) (hQ : Q () s) : wpAny M A (letOwnedTupleGo tg (.ref it) u) Q E s := by
  unfold letOwnedTupleGo
  cases tg <;> first
    | exact wpAny_pure hQ
    | (cases u <;> first
        | exact wpAny_pure hQ
        | (refine wpAny_bind (wpAny_load ho ?_)
           rw [hc, hd]
           show wpAny M A (if (["enumerate", "zip", "dict_itemiterator", "dict_reverseitemiterator", "odict_iterator", "itertools.zip_longest", "itertools.pairwise"].contains n && vs[0]? == some (rawInt _)) = true then _ else _) Q E s
           rw [if_neg (by intro h; rw [hn, Bool.false_and] at h; cases h)]
           exact wpAny_pure hQ))

/-- the list at a, as it stands at each turn (a loop may append to it) -/
noncomputable def Itl (K : PySem.W.Frag) (a : Addr) : It :=
  ⟨fun i H => ∃ xs x, SqL K H a xs ∧ xs[i]? = some x, fun i H x H' => H' = H ∧ ∀ xs, SqL K H a xs → xs[i]? = some x, fun i H => ∃ xs, SqL K H a xs ∧ xs.length ≤ i⟩
noncomputable def Itt (K : PySem.W.Frag) (a : Addr) : It :=
  ⟨fun i H => ∃ xs x, SqT K H a xs ∧ xs[i]? = some x, fun i H x H' => H' = H ∧ ∀ xs, SqT K H a xs → xs[i]? = some x, fun i H => ∃ xs, SqT K H a xs ∧ xs.length ≤ i⟩
/-- lo, lo + 1, .. (n of them) -/
noncomputable def Itr (lo : Int) (n : Nat) : It := ⟨fun i _ => i < n, fun i H x H' => H' = H ∧ x = .int (lo + i), fun i _ => n ≤ i⟩
theorem turn_list {P : Program} {w : World} {K : PySem.W.Frag} {tg : Expr} (a it : Addr) : Turn P w K tg (Itl K a) [it] it (fun i h => h.IsListIter it a i) where
  mem := by simp
  obj := fun i h st b hb => by
    have e : b = it := by simpa using hb
    subst e
    obtain ⟨o, e, c, d⟩ := st
    exact ⟨o, e, fun v z => by rw [d] at z; cases z⟩
  keep := fun i h h' st k => st.at fun o e => k it (by simp) o e
  item := by
    intro X hP hw hK hc i pins s σ H E I hf st hg
    subst hP hw hK
    obtain ⟨xs, x, hq, hx⟩ := hg
    obtain ⟨its, rv, p, hz⟩ := I.list hq
    obtain ⟨u, hu, ru⟩ := rv.get hx
    obtain ⟨f0, f1, f2, f3, f4, f5⟩ := hf it (by simp)
    refine wpAny_pyNext_list_item st p.isList (x := u) (by simpa using hu) fun h' st' sb => ?_
    have I1 : Inv X pins σ H { s with heap := h' } := I.turned (t' := s.toks) (fun b o hb e => (sb.2 b hb).trans e) f0 f1 f3 f4 f5
    obtain ⟨o, e, c, d⟩ := id st'
    exact ⟨u, rfl, go_of (s := { s with heap := h' }) e c d (by decide) ⟨x, H, I1, ru, ⟨rfl, fun ys hy => by rw [I.list_inj hy hq]; exact hx⟩, st', fun b hb => (hf b hb).1⟩⟩
  done := by
    intro X hP hw hK hc i pins s σ H E I hf st hg
    subst hP hw hK
    obtain ⟨xs, hq, hx⟩ := hg
    obtain ⟨its, rv, p, hz⟩ := I.list hq
    obtain ⟨f0, f1, f2, f3, f4, f5⟩ := hf it (by simp)
    have hl := rv.length
    exact wpAny_pyNext_list_end (I.ok.hd hc) st p.isList (by simp; omega) fun h' eb => ⟨rfl, I.turned (t' := s.toks) (fun b o hb e => eb b o hb e) f0 f1 f3 f4 f5⟩
  self := fun _ _ _ _ _ st h => wpAny_pyIter_listiter st h
theorem turn_tuple {P : Program} {w : World} {K : PySem.W.Frag} {tg : Expr} (a it : Addr) : Turn P w K tg (Itt K a) [it] it (fun i h => h.IsTupleIter it a i) where
  mem := by simp
  obj := fun i h st b hb => by
    have e : b = it := by simpa using hb
    subst e
    obtain ⟨o, e, c, d⟩ := st
    exact ⟨o, e, fun v z => by rw [d] at z; cases z⟩
  keep := fun i h h' st k => st.at fun o e => k it (by simp) o e
  item := by
    intro X hP hw hK hc i pins s σ H E I hf st hg
    subst hP hw hK
    obtain ⟨xs, x, hq, hx⟩ := hg
    obtain ⟨its, rv, p, hz⟩ := I.tuple hq
    obtain ⟨u, hu, ru⟩ := rv.get hx
    obtain ⟨f0, f1, f2, f3, f4, f5⟩ := hf it (by simp)
    refine wpAny_pyNext_tuple_item st (show s.heap.IsTuple a its.toArray from p) (x := u) (by simpa using hu) fun h' st' sb => ?_
    have I1 : Inv X pins σ H { s with heap := h' } := I.turned (t' := s.toks) (fun b o hb e => (sb.2 b hb).trans e) f0 f1 f3 f4 f5
    obtain ⟨o, e, c, d⟩ := id st'
    exact ⟨u, rfl, go_of (s := { s with heap := h' }) e c d (by decide) ⟨x, H, I1, ru, ⟨rfl, fun ys hy => by rw [I.tuple_inj hy hq]; exact hx⟩, st', fun b hb => (hf b hb).1⟩⟩
  done := by
    intro X hP hw hK hc i pins s σ H E I hf st hg
    subst hP hw hK
    obtain ⟨xs, hq, hx⟩ := hg
    obtain ⟨its, rv, p, hz⟩ := I.tuple hq
    obtain ⟨f0, f1, f2, f3, f4, f5⟩ := hf it (by simp)
    have hl := rv.length
    exact wpAny_pyNext_tuple_end (I.ok.hd hc) st (show s.heap.IsTuple a its.toArray from p) (by simp; omega) fun h' eb => ⟨rfl, I.turned (t' := s.toks) (fun b o hb e => eb b o hb e) f0 f1 f3 f4 f5⟩
  self := fun _ _ _ _ _ st h => wpAny_pyIter_tupleiter st h
theorem turn_range {P : Program} {w : World} {K : PySem.W.Frag} {tg : Expr} (it : Addr) (lo : Int) (n : Nat) : Turn P w K tg (Itr lo n) [it] it (fun i h => IsRangeIter h it (lo + (i : Nat) * 1) ((n : Int) - (i : Nat)) 1) where
  mem := by simp
  obj := fun i h st b hb => by
    have e : b = it := by simpa using hb
    subst e
    exact ⟨_, st, fun v z => by
      have z' : Data.fields _ = Data.cell v := z
      cases z'⟩
  keep := fun i h h' st k => k it (by simp) _ st
  item := by
    intro X hP hw hK hc i pins s σ H E I hf st hg
    subst hP hw hK
    obtain ⟨f0, f1, f2, f3, f4, f5⟩ := hf it (by simp)
    have W := Walks.range (prog := X.prog) (w := X.w) (I.ok.hd hc) it lo 1 n
    refine W.item i s _ _ hg st fun v h' tk hv st' kk => ?_
    obtain ⟨t, rfl⟩ := hv
    have I1 : Inv X pins σ H { s with heap := h', toks := tk } := I.turned (fun b o hb e => kk b o (by simpa using hb) e) f0 f1 f3 f4 f5
    refine ⟨_, rfl, go_of (s := { s with heap := h', toks := tk }) (n := "range_iterator") st' rfl rfl (by decide) ⟨.int (lo + i), H, I1, ⟨t, ?_⟩, ⟨rfl, rfl⟩, st', fun b hb => (hf b hb).1⟩⟩
    rw [Int.mul_one]
  done := by
    intro X hP hw hK hc i pins s σ H E I hf st hg
    subst hP hw hK
    obtain ⟨f0, f1, f2, f3, f4, f5⟩ := hf it (by simp)
    exact wpAny_pyNext_range_end (I.ok.hd hc) st (by have : n ≤ i := hg; omega) fun h' eb => ⟨rfl, I.turned (t' := s.toks) (fun b o hb e => eb b o hb e) f0 f1 f3 f4 f5⟩
  self := fun _ _ _ _ _ st h => wpAny_pyIter_rangeiter st h
end L2

namespace L2
open PySem PySem.Spec PyProof.Rows
section
variable {X : Cx} {tg : Expr}
/-- a range object just made, walked -/
theorem range_it {pins : List (Addr × Obj)} {σ : St} {H : Hp} {s : Shared} {R : It → Hp → Prop} {E : Value → Shared → Prop} {lo hi : Int} {t u v : Tok} {tk : Nat} (I : Inv X pins σ H s) (h1 : -(2 ^ 62) ≤ lo) (h2 : lo < 2 ^ 62) (h3 : -(2 ^ 62) ≤ hi) (h4 : hi < 2 ^ 62)
    (q : R (Itr lo (hi - lo).toNat) H) : wpAny (model X.prog X.w) X.A (pyIter (.ref s.heap.objs.size)) (PIE X pins σ tg R) E { s with heap := s.heap.push { cls := .type "range", data := .fields #[.int lo t, .int hi u, .int 1 v] }, toks := tk } := by
  refine wpAny_pyIter_range (IsRange.new ..) (small_one h1 h2 h3 h4) ?_
  have I1 : Inv X pins σ H { s with heap := s.heap.push { cls := .type "range", data := .fields #[.int lo t, .int hi u, .int 1 v] }, toks := tk } := I.kept fun b o e => Heap.get?_push_of_some _ e
  refine ⟨(s.heap.push { cls := .type "range", data := .fields #[.int lo t, .int hi u, .int 1 v] }).objs.size, [(s.heap.push { cls := .type "range", data := .fields #[.int lo t, .int hi u, .int 1 v] }).objs.size], _, _, H, rfl,
    I1.kept (t' := tk) fun b o e => Heap.get?_push_of_some _ e, turn_range _ lo (hi - lo).toNat, ?_, fun b hb => ?_, q⟩
  · have e1 : lo + ((0 : Nat) : Int) * 1 = lo := by simp
    have e2 : (((hi - lo).toNat : Nat) : Int) - ((0 : Nat) : Int) = Builtin.Range.rangeSize lo hi 1 := by rw [rangeSize_one]; split <;> omega
    show IsRangeIter _ _ (lo + ((0 : Nat) : Int) * 1) ((((hi - lo).toNat : Nat) : Int) - ((0 : Nat) : Int)) 1
    rw [e1, e2]
    exact Heap.get?_push_size _ rfl
  · have e : b = (s.heap.push { cls := .type "range", data := .fields #[.int lo t, .int hi u, .int 1 v] }).objs.size := by simpa using hb
    subst e
    exact I1.fpOk (Nat.le_refl _) (I1.hok.fresh (Nat.le_refl _))
noncomputable def iRng1 (ta : TA) : TI := fun σ H R => ta σ H fun vs H1 => ∃ j : Int, vs = [.int j] ∧ -(2 ^ 62) ≤ j ∧ j < 2 ^ 62 ∧ R (Itr 0 j.toNat) H1
theorem pi_range1 {a : Expr} {ta : TA} {p pos : Pos} (hg : Gl X "range") (hm : X.mg "range" = none) (ha : PA X [a] ta) (hs : starEach [a] X.env = [(false, eval a X.env)] := by rfl) : PI X tg (.Call (.Name "range" p) [a] [] pos) (iRng1 ta) := by
  intro pins s σ H R I h
  refine Call_ (ld_blt I hg hm boot_range (PyProof.Rows.callWith_type1 (thn (ha pos pins s σ H _ I h) fun us s1 ⟨vs, H1, I1, r1, q1⟩ => ?_) hs rfl))
  obtain ⟨j, e, q1, q2, q⟩ := q1
  subst e
  cases r1 with
  | cons r rr =>
    cases rr
    obtain ⟨t, rfl⟩ := r
    exact call_range_1 (range_it I1 (by omega) (by omega) q1 q2 (by simpa using q))
/-! ### for -/
/-- W: the invariant by the turn and a measure; N: what the body is to reach -/
noncomputable def tFor (wi : TI) (g : TG) (tb : TS) : TS := fun D σ H => wi σ H fun J H1 => ∃ W : Nat → Nat → St → Hp → Prop, (∃ m, W 0 m σ H1) ∧ ∀ i m σ H, W i m σ H →
  (J.stop i H ∧ D.nx σ H) ∨ (J.go i H ∧ ∃ N : St → Hp → Prop, (∀ σ' H', N σ' H' → ∃ m', m' < m ∧ W (i + 1) m' σ' H') ∧ ∀ x H', J.yld i H x H' → g x σ H' fun σ2 H2 => tb { D with nx := N, ct := N, bk := D.nx } σ2 H2)
/-- the records at fp as they stand -/
noncomputable def pinsAt (fp : List Addr) (h : Heap) : List (Addr × Obj) := fp.filterMap fun b => (h.get? b).map fun o => (b, o)
theorem mem_pinsAt {fp : List Addr} {h : Heap} {b : Addr} {o : Obj} (hb : b ∈ fp) (e : h.get? b = some o) : (b, o) ∈ pinsAt fp h := List.mem_filterMap.mpr ⟨b, hb, by rw [e]; rfl⟩
theorem of_pinsAt {fp : List Addr} {h : Heap} {p : Addr × Obj} (hp : p ∈ pinsAt fp h) : p.1 ∈ fp ∧ h.get? p.1 = some p.2 := by
  obtain ⟨b, hb, e⟩ := List.mem_filterMap.mp hp
  cases q : h.get? b with
  | none => rw [q] at e; cases e
  | some o =>
    rw [q] at e
    have e' : (b, o) = p := Option.some.inj e
    subst e'
    exact ⟨hb, q⟩
theorem Inv.pinned {pins : List (Addr × Obj)} {σ : St} {H : Hp} {s : Shared} {fp : List Addr} (I : Inv X pins σ H s) (hf : ∀ b ∈ fp, FpOk X pins H b) (ho : ∀ b ∈ fp, ∃ o, s.heap.get? b = some o ∧ ∀ v, o.data ≠ .cell v) : Inv X (pins ++ pinsAt fp s.heap) σ H s :=
  I.pins_of fun p hp => (List.mem_append.mp hp).elim (fun z => I.pin p (List.mem_append_right _ z)) fun z => by
    obtain ⟨hb, e⟩ := of_pinsAt z
    obtain ⟨f0, f1, f2, _⟩ := hf p.1 hb
    obtain ⟨o, e', d⟩ := ho p.1 hb
    rw [e] at e'; cases e'
    exact ⟨e, f0, f1, f2, d⟩
theorem Inv.unpinned {pins pl : List (Addr × Obj)} {σ : St} {H : Hp} {s : Shared} (I : Inv X (pins ++ pl) σ H s) : Inv X pins σ H s := I.pins_of fun p hp => I.pin p (List.mem_append_right _ (List.mem_append_left _ hp))
theorem ps_for {iter : Expr} {body : List Stmt} {wi : TI} {g : TG} {tb : TS} {pos : Pos} (hp : PassesOwn (model X.prog X.w) X.A X.env X.xe) (hc : X.calm = true) (hi : PI X tg iter wi) (hg : PG X tg g) (hb : PSs X body tb)
    (hs : ∀ x, foldedSetIterable iter X.env x = pure x := by intro _; rfl) : PS X (.For tg iter body [] pos) (tFor wi g tb) := by
  intro pins s σ H D I h
  refine wpAny_For (thn (hi pins s σ H _ I h) fun v s1 h1 => thn h1 fun itv s2 h2 => ?_) hs
  obtain ⟨it, fp, tn, J, H2, e, I2, T, st2, f2, W, ⟨m0, w0⟩, turn⟩ := h2
  subst e
  -- what stays true of the iterator's objects through the loop
  have stat : ∀ {H' : Hp}, (∀ b ∈ fp, H' b = none) → ∀ b ∈ fp, FpOk X pins H' b := fun hn b hb => ⟨hn b hb, (f2 b hb).2⟩
  refine codeAny_forLoop_any (fun n s' => ∃ i σ' H', Inv X pins σ' H' s' ∧ tn i s'.heap ∧ (∀ b ∈ fp, H' b = none) ∧ W i n σ' H') ?_ m0 ⟨0, σ, H2, I2, st2, fun b hb => (f2 b hb).1, w0⟩
  rintro n s3 ⟨i, σ3, H3, I3, st3, fr3, w3⟩
  rcases turn i n σ3 H3 w3 with ⟨stop, qn⟩ | ⟨go, N, hN, step⟩
  · refine wpAny_passesOwn hp (thn (T.done X rfl rfl rfl hc i pins s3 σ3 H3 X.xe I3 (stat fr3) st3 stop) fun r s4 ⟨hr, I4⟩ => ?_)
    subst hr
    exact wpAny_execs_nil ⟨σ3, H3, I4, qn⟩
  · refine wpAny_passesOwn hp (thn (T.item X rfl rfl rfl hc i pins s3 σ3 H3 X.xe I3 (stat fr3) st3 go) fun r s4 ⟨u, hr, h4⟩ => ?_)
    subst hr
    refine wpAny_passesOwn hp (thn h4 fun _ s5 ⟨x, H5, I5, r5, y5, st5, fr5⟩ => ?_)
    have I5' := I5.pinned (stat fr5) (T.obj _ _ st5)
    refine wpAny_passesOwn hp (thn (hg _ s5 σ3 H5 x u _ I5' r5 (step x H5 y5)) fun _ s6 ⟨σ6, H6, I6, q6⟩ => ?_)
    refine wpAny_passesOwn hp (thn (hb _ s6 σ6 H6 _ I6 q6) fun f s7 q7 => ?_)
    have again : ∀ {σ7 : St} {H7 : Hp}, Inv X (pins ++ pinsAt fp s5.heap) σ7 H7 s7 → N σ7 H7 → ∃ m, m < n ∧ ∃ i σ' H', Inv X pins σ' H' s7 ∧ tn i s7.heap ∧ (∀ b ∈ fp, H' b = none) ∧ W i m σ' H' := fun {σ7 H7} I7 n7 => by
      obtain ⟨m', hm, w7⟩ := hN σ7 H7 n7
      refine ⟨m', hm, i + 1, σ7, H7, I7.unpinned, T.keep _ _ _ st5 fun b hb o e => (I7.pin (b, o) (List.mem_append_right _ (List.mem_append_right _ (mem_pinsAt hb e)))).1, fun b hb => ?_, w7⟩
      obtain ⟨o, e, d⟩ := T.obj _ _ st5 b hb
      exact (I7.pin (b, o) (List.mem_append_right _ (List.mem_append_right _ (mem_pinsAt hb e)))).2.1
    cases f with
    | next => obtain ⟨σ7, H7, I7, n7⟩ := q7; exact again I7 n7
    | cont => obtain ⟨σ7, H7, I7, n7⟩ := q7; exact again I7 n7
    | brk => obtain ⟨σ7, H7, I7, q7⟩ := q7; exact ⟨σ7, H7, I7.unpinned, q7⟩
    | ret v => obtain ⟨x7, σ7, H7, I7, r7, q7⟩ := q7; exact ⟨x7, σ7, H7, I7.unpinned, r7, q7⟩
end

/-! ### the forms one uses -/
theorem for_range {lo : Int} {n : Nat} {g : TG} {tb : TS} {D : Ends} {σ : St} {H : Hp} (Pv : Nat → St → Hp → Prop) (h0 : Pv 0 σ H)
    (hs : ∀ i σ H, i < n → Pv i σ H → g (.int (lo + i)) σ H fun σ2 H2 => tb { D with nx := Pv (i + 1), ct := Pv (i + 1), bk := D.nx } σ2 H2) (hd : ∀ σ H, Pv n σ H → D.nx σ H) :
    ∃ W : Nat → Nat → St → Hp → Prop, (∃ m, W 0 m σ H) ∧ ∀ i m σ H, W i m σ H →
      ((Itr lo n).stop i H ∧ D.nx σ H) ∨ ((Itr lo n).go i H ∧ ∃ N : St → Hp → Prop, (∀ σ' H', N σ' H' → ∃ m', m' < m ∧ W (i + 1) m' σ' H') ∧ ∀ x H', (Itr lo n).yld i H x H' → g x σ H' fun σ2 H2 => tb { D with nx := N, ct := N, bk := D.nx } σ2 H2) := by
  refine ⟨fun i m σ H => m = n - i ∧ i ≤ n ∧ Pv i σ H, ⟨n, by simp, Nat.zero_le _, h0⟩, ?_⟩
  rintro i m σ H ⟨rfl, hi, p⟩
  by_cases hlt : i < n
  · refine .inr ⟨hlt, Pv (i + 1), fun σ' H' p' => ⟨n - (i + 1), by omega, rfl, hlt, p'⟩, fun x H' y => ?_⟩
    obtain ⟨e, y⟩ := y
    subst e y
    exact hs i σ _ hlt p
  · have e : i = n := by omega
    subst e
    exact .inl ⟨Nat.le_refl _, hd σ H p⟩
end L2

namespace L2
open PySem PySem.Spec PyProof.Rows

noncomputable abbrev R2 := V → V → Hp → VK → Prop
/-- a two-place operation on values: f is binaryOp op, inplaceOp op or compareOp op -/
noncomputable def OpR (X : Cx) (f : Value → Value → Sem Value) (r : R2) : Prop :=
  ∀ (pins : List (Addr × Obj)) (s : Shared) (σ : St) (H : Hp) (x y : V) (v u : Value) (Q : VK), Inv X pins σ H s → RelV x v → RelV y u → r x y H Q →
    wpAny (model X.prog X.w) X.A (f v u) (EP X pins σ Q) X.xe s
/-- a call of a value that is known (a builtin, a type) with values -/
noncomputable def CallR (X : Cx) (f : Value) (r : List V → Hp → VK → Prop) : Prop :=
  ∀ (pins : List (Addr × Obj)) (s : Shared) (σ : St) (H : Hp) (xs : List V) (us : List Value) (Q : VK), Inv X pins σ H s → Vals xs us → r xs H Q →
    wpAny (model X.prog X.w) X.A (call f us) (EP X pins σ Q) X.xe s
noncomputable def tOp (r : R2) (ta tb : TE) : TE := fun σ H Q => ta σ H fun x H1 => tb σ H1 fun y H2 => r x y H2 Q
/-- ints in, under C, and a value out -/
noncomputable def rI (C : Int → Int → Prop) (g : Int → Int → V) : R2 := fun x y H Q => ∃ i j, x = .int i ∧ y = .int j ∧ C i j ∧ Q (g i j) H
noncomputable def rI0 (g : Int → Int → V) : R2 := fun x y H Q => ∃ i j, x = .int i ∧ y = .int j ∧ Q (g i j) H
section
variable {X : Cx} {a b c : Expr} {ta tb tc : TE} {pos : Pos}

theorem binT (ha : PE X a ta) (hb : PE X b tb) {pins : List (Addr × Obj)} {s : Shared} {σ : St} {H : Hp} {R : V → V → Hp → Prop} (I : Inv X pins σ H s)
    (h : ta σ H fun x H1 => tb σ H1 fun y H2 => R x y H2) {Q : Value → Shared → Prop} {f : Value → Value → Sem Value}
    (hf : ∀ v u s2 x y H2, Inv X pins σ H2 s2 → RelV x v → RelV y u → R x y H2 → wpAny (model X.prog X.w) X.A (f v u) Q X.xe s2) :
    wpAny (model X.prog X.w) X.A (eval a X.env) (fun v s₁ => wpAny (model X.prog X.w) X.A (eval b X.env) (fun u s₂ => wpAny (model X.prog X.w) X.A (f v u) Q X.xe s₂) X.xe s₁) X.xe s := by
  refine thn (ha pins s σ H _ I h) fun v s1 ⟨x, H1, I1, r1, q1⟩ => ?_
  refine thn (hb pins s1 σ H1 _ I1 q1) fun u s2 ⟨y, H2, I2, r2, q2⟩ => ?_
  exact hf v u s2 x y H2 I2 r1 r2 q2

theorem pe_op {op : Operator} {r : R2} (ho : OpR X (binaryOp op) r) (ha : PE X a ta) (hb : PE X b tb) : PE X (.BinOp a op b pos) (tOp r ta tb) := by
  intro pins s σ H Q I h
  exact wpAny_BinOp (binT ha hb I h fun v u s2 x y H2 I2 rx ry q => ho pins s2 σ H2 x y v u Q I2 rx ry q)
/-! ### ints -/
theorem opI {f : Value → Value → Sem Value} {C : Int → Int → Prop} {g : Int → Int → Int}
    (rule : ∀ (i j : Int) (t u : Tok) (s : Shared) (Q : Value → Shared → Prop) (E : Value → Shared → Prop), C i j → Q (.int (g i j) s.toks) { s with toks := s.toks + 1 } → wpAny (model X.prog X.w) X.A (f (.int i t) (.int j u)) Q E s) :
    OpR X f (rI C fun i j => .int (g i j)) := by
  intro pins s σ H x y v u Q I rx ry h
  obtain ⟨i, j, rfl, rfl, hc, q⟩ := h
  obtain ⟨t, rfl⟩ := rx
  obtain ⟨t', rfl⟩ := ry
  exact rule i j t t' s _ _ hc ⟨.int (g i j), H, I.tok _, ⟨_, rfl⟩, q⟩
theorem opI0 {f : Value → Value → Sem Value} {g : Int → Int → Int}
    (rule : ∀ (i j : Int) (t u : Tok) (s : Shared) (Q : Value → Shared → Prop) (E : Value → Shared → Prop), Q (.int (g i j) s.toks) { s with toks := s.toks + 1 } → wpAny (model X.prog X.w) X.A (f (.int i t) (.int j u)) Q E s) :
    OpR X f (rI0 fun i j => .int (g i j)) := by
  intro pins s σ H x y v u Q I rx ry h
  obtain ⟨i, j, rfl, rfl, q⟩ := h
  obtain ⟨t, rfl⟩ := rx
  obtain ⟨t', rfl⟩ := ry
  exact rule i j t t' s _ _ ⟨.int (g i j), H, I.tok _, ⟨_, rfl⟩, q⟩
theorem opB0 {f : Value → Value → Sem Value} {g : Int → Int → Bool}
    (rule : ∀ (i j : Int) (t u : Tok) (s : Shared) (Q : Value → Shared → Prop) (E : Value → Shared → Prop), Q (.bool (g i j)) s → wpAny (model X.prog X.w) X.A (f (.int i t) (.int j u)) Q E s) :
    OpR X f (rI0 fun i j => .bl (g i j)) := by
  intro pins s σ H x y v u Q I rx ry h
  obtain ⟨i, j, rfl, rfl, q⟩ := h
  obtain ⟨t, rfl⟩ := rx
  obtain ⟨t', rfl⟩ := ry
  exact rule i j t t' s _ _ ⟨.bl (g i j), H, I, rfl, q⟩

noncomputable def CPow (i j : Int) : Prop := 0 ≤ j ∧ j ≤ 1000000 ∧ i.natAbs < 2 ^ 64
noncomputable def CMul (i j : Int) : Prop := (-(2 ^ 64) < i ∧ i < 2 ^ 64) ∨ (-(2 ^ 64) < j ∧ j < 2 ^ 64)
theorem CMul.ok {i j : Int} (h : CMul i j) : IntMulOk i j := by
  rcases h with ⟨h1, h2⟩ | ⟨h1, h2⟩
  · exact .of_left (intBits_le_64 h1 h2)
  · exact .of_right (intBits_le_64 h1 h2)
theorem op_add : OpR X (binaryOp .Add) (rI0 fun i j => .int (i + j)) := opI0 fun _ _ _ _ _ _ _ q => add_int q
theorem op_sub : OpR X (binaryOp .Sub) (rI0 fun i j => .int (i - j)) := opI0 fun _ _ _ _ _ _ _ q => sub_int q
theorem op_mul : OpR X (binaryOp .Mult) (rI CMul fun i j => .int (i * j)) := opI fun _ _ _ _ _ _ _ hc q => mul_int q hc.ok
/-- % by a positive divisor of any size -/
theorem op_mod : OpR X (binaryOp .Mod) (rI (fun _ j => 0 < j) fun i j => .int (i % j)) := opI fun i j _ _ _ _ _ hc q => by
  have h1 : (0 : Int) < j := hc
  exact mod_int' (by omega) (by rw [Int.fmod_eq_emod_of_nonneg i (by omega)]; exact q)
theorem op_pow : OpR X (binaryOp .Pow) (rI CPow fun i j => .int (i ^ j.toNat)) := opI fun _ _ _ _ _ _ _ hc q => pow_int_small hc.1 hc.2.1 hc.2.2 q
/-! ### bools among ints: n += (a < b) -/
end

/-! ### comparisons -/
/-- the scalars that == tells apart as data does -/
noncomputable def scal : V → V → Bool
  | .non, .non => true | .non, .int _ => true | .int _, .non => true | .non, .bl _ => true | .bl _, .non => true | .non, .str _ => true | .str _, .non => true
  | .int _, .int _ => true | .bl _, .bl _ => true | .str _, .str _ => true | .byt _, .byt _ => true
  | .int _, .str _ => true | .str _, .int _ => true | .bl _, .str _ => true | .str _, .bl _ => true
  | _, _ => false
noncomputable def rEq : R2 := fun x y H Q => scal x y = true ∧ Q (.bl (decide (x = y))) H
noncomputable def rNe : R2 := fun x y H Q => scal x y = true ∧ Q (.bl (!decide (x = y))) H

theorem dec_int {i j : Int} : decide (V.int i = V.int j) = (i == j) := by
  rw [Bool.eq_iff_iff]
  simp
theorem dec_bl {i j : Bool} : decide (V.bl i = V.bl j) = (i == j) := by
  rw [Bool.eq_iff_iff]
  simp
theorem dec_str {i j : Str} : decide (V.str i = V.str j) = (i == j) := by
  rw [Bool.eq_iff_iff]
  simp
theorem dec_byt {i j : Array UInt8} : decide (V.byt i = V.byt j) = (i.toList == j.toList) := by
  rw [Bool.eq_iff_iff]
  cases i
  cases j
  simp

section
variable {X : Cx} {a b c : Expr} {ta tb tc : TE} {pos : Pos}
theorem fin_bl {pins : List (Addr × Obj)} {σ : St} {H : Hp} {s : Shared} {Q : VK} {k k' : Bool} (I : Inv X pins σ H s) (q : Q (.bl k) H) (e : k = k') : EP X pins σ Q (.bool k') s := by
  subst e
  exact ⟨.bl k, H, I, rfl, q⟩
theorem op_eq : OpR X (compareOp .Eq) rEq := by
  intro pins s σ H x y v u Q I rx ry h
  obtain ⟨hs, q⟩ := h
  cases x with
  | non =>
    cases rx
    cases y with
    | non => cases ry; exact PySem.EqNone.eq_none_none (fin_bl I q (by simp))
    | bl j => cases ry; exact PySem.EqNone.eq_none_bool (fin_bl I q (by simp))
    | int j => obtain ⟨t', rfl⟩ := ry; exact PySem.EqNone.eq_none_int (fin_bl I q (by simp))
    | str j => obtain ⟨t', rfl⟩ := ry; exact PySem.EqNone.eq_none_str (fin_bl I q (by simp))
    | _ => exact absurd (show false = true from hs) Bool.false_ne_true
  | bl i =>
    cases rx
    cases y with
    | non => cases ry; exact PySem.EqNone.eq_bool_none (fin_bl I q (by simp))
    | bl j => cases ry; exact eq_bool (fin_bl I q dec_bl)
    | str j => obtain ⟨t', rfl⟩ := ry; exact PySem.EqMixed.eq_bool_str (fin_bl I q (by simp))
    | _ => exact absurd (show false = true from hs) Bool.false_ne_true
  | int i =>
    obtain ⟨t, rfl⟩ := rx
    cases y with
    | non => cases ry; exact PySem.EqNone.eq_int_none (fin_bl I q (by simp))
    | int j => obtain ⟨t', rfl⟩ := ry; exact eq_int (fin_bl I q dec_int)
    | str j => obtain ⟨t', rfl⟩ := ry; exact PySem.EqMixed.eq_int_str (fin_bl I q (by simp))
    | _ => exact absurd (show false = true from hs) Bool.false_ne_true
  | str i =>
    obtain ⟨t, rfl⟩ := rx
    cases y with
    | non => cases ry; exact PySem.EqNone.eq_str_none (fin_bl I q (by simp))
    | bl j => cases ry; exact PySem.EqMixed.eq_str_bool (fin_bl I q (by simp))
    | int j => obtain ⟨t', rfl⟩ := ry; exact PySem.EqMixed.eq_str_int (fin_bl I q (by simp))
    | str j => obtain ⟨t', rfl⟩ := ry; exact eq_str (fin_bl I q dec_str)
    | _ => exact absurd (show false = true from hs) Bool.false_ne_true
  | byt i =>
    obtain ⟨t, rfl⟩ := rx
    cases y with
    | byt j => obtain ⟨t', rfl⟩ := ry; exact PySem.W.eq_bytes (fin_bl I q dec_byt)
    | _ => exact absurd (show false = true from hs) Bool.false_ne_true
  | _ => cases y <;> exact absurd (show false = true from hs) Bool.false_ne_true
theorem op_ne : OpR X (compareOp .NotEq) rNe := by
  intro pins s σ H x y v u Q I rx ry h
  obtain ⟨hs, q⟩ := h
  cases x with
  | non =>
    cases rx
    cases y with
    | non => cases ry; exact PySem.EqNone.ne_none_none (fin_bl I q (by simp))
    | bl j => cases ry; exact PySem.EqNone.ne_none_bool (fin_bl I q (by simp))
    | int j => obtain ⟨t', rfl⟩ := ry; exact PySem.EqNone.ne_none_int (fin_bl I q (by simp))
    | str j => obtain ⟨t', rfl⟩ := ry; exact PySem.EqNone.ne_none_str (fin_bl I q (by simp))
    | _ => exact absurd (show false = true from hs) Bool.false_ne_true
  | bl i =>
    cases rx
    cases y with
    | non => cases ry; exact PySem.EqNone.ne_bool_none (fin_bl I q (by simp))
    | bl j => cases ry; exact ne_bool (fin_bl I q (congrArg not dec_bl))
    | str j => obtain ⟨t', rfl⟩ := ry; exact PySem.EqMixed.ne_bool_str (fin_bl I q (by simp))
    | _ => exact absurd (show false = true from hs) Bool.false_ne_true
  | int i =>
    obtain ⟨t, rfl⟩ := rx
    cases y with
    | non => cases ry; exact PySem.EqNone.ne_int_none (fin_bl I q (by simp))
    | int j => obtain ⟨t', rfl⟩ := ry; exact ne_int (fin_bl I q (congrArg not dec_int))
    | str j => obtain ⟨t', rfl⟩ := ry; exact PySem.EqMixed.ne_int_str (fin_bl I q (by simp))
    | _ => exact absurd (show false = true from hs) Bool.false_ne_true
  | str i =>
    obtain ⟨t, rfl⟩ := rx
    cases y with
    | non => cases ry; exact PySem.EqNone.ne_str_none (fin_bl I q (by simp))
    | bl j => cases ry; exact PySem.EqMixed.ne_str_bool (fin_bl I q (by simp))
    | int j => obtain ⟨t', rfl⟩ := ry; exact PySem.EqMixed.ne_str_int (fin_bl I q (by simp))
    | str j => obtain ⟨t', rfl⟩ := ry; exact ne_str (fin_bl I q (congrArg not dec_str))
    | _ => exact absurd (show false = true from hs) Bool.false_ne_true
  | byt i =>
    obtain ⟨t, rfl⟩ := rx
    cases y with
    | byt j => obtain ⟨t', rfl⟩ := ry; exact PySem.W.ne_bytes (fin_bl I q (congrArg not dec_byt))
    | _ => exact absurd (show false = true from hs) Bool.false_ne_true
  | _ => cases y <;> exact absurd (show false = true from hs) Bool.false_ne_true

theorem op_lt : OpR X (compareOp .Lt) (rI0 fun i j => .bl (decide (i < j))) := opB0 fun _ _ _ _ _ _ _ q => lt_int q
theorem op_gt : OpR X (compareOp .Gt) (rI0 fun i j => .bl (decide (j < i))) := opB0 fun _ _ _ _ _ _ _ q => gt_int q
/-- is None, is not None: the right side a value none -/
theorem op_isN : OpR X (compareOp .Is) (fun x y H Q => y = .non ∧ Q (.bl (decide (x = .non))) H) := by
  intro pins s σ H x y v u Q I rx ry h
  obtain ⟨rfl, q⟩ := h
  cases ry
  refine is_none_gen (fin_bl I q ?_)
  cases x <;> first
    | (cases rx; rfl)
    | (obtain ⟨t, rfl⟩ := rx; rfl)
theorem nomark (b : Expr) {op : CmpOp} (h : op ≠ .In := by decide) (h2 : op ≠ .NotIn := by decide) : behindInMarks op b = false := by
  have e1 : (op == CmpOp.In) = false := by cases op <;> first | rfl | exact absurd rfl h
  have e2 : (op == CmpOp.NotIn) = false := by cases op <;> first | rfl | exact absurd rfl h2
  cases b <;> simp [behindInMarks, e1, e2]
/-- a comparison as a value; hm: nomark b, or (for in, not in) by with_unfolding_all rfl -/
theorem pe_cmpR {op : CmpOp} {r : R2} (ho : OpR X (compareOp op) r) (ha : PE X a ta) (hb : PE X b tb) (hm : behindInMarks op b = false) : PE X (.Compare a [op] [b] pos) (tOp r ta tb) := by
  intro pins s σ H Q I h
  exact wpAny_Compare1 (binT ha hb I h fun v u s2 x y H2 I2 rx ry q => ho pins s2 σ H2 x y v u Q I2 rx ry q) hm
/-- a reading of a value as a test -/
noncomputable def tTest (t : TE) : TT := fun σ H Q => t σ H fun x H' => ∃ k, x = .bl k ∧ Q k H'
theorem pt_cmpR {op : CmpOp} {r : R2} (ho : OpR X (compareOp op) r) (ha : PE X a ta) (hb : PE X b tb) (hm : behindInMarks op b = false) : PT X (.Compare a [op] [b] pos) (tTest (tOp r ta tb)) := by
  intro pins s σ H Q I h
  refine wpAny_isTrue_Compare1 (thn (ha pins s σ H _ I h) fun v s1 ⟨x, H1, I1, r1, q1⟩ => thn (hb pins s1 σ H1 _ I1 q1) fun u s2 ⟨y, H2, I2, r2, q2⟩ =>
    thn (ho pins s2 σ H2 x y v u _ I2 r1 r2 q2) fun c s3 ⟨z, H3, I3, r3, k, e, q3⟩ => ?_) hm
  subst e
  cases r3
  exact wpAny_truthy_bool ⟨H3, I3, q3⟩
/-! ### truth -/
theorem line63 : (sizeLine : Nat) < 2 ^ 63 := by rw [sizeLine_eq]; decide
/-! ### strs and bytes -/
theorem op_add_str : OpR X (binaryOp .Add) (fun x y H Q => ∃ i j, x = .str i ∧ y = .str j ∧ i.length + j.length ≤ sizeLine ∧ Q (.str (i ++ j)) H) := by
  intro pins s σ H x y v u Q I rx ry h
  obtain ⟨i, j, rfl, rfl, hz, q⟩ := h
  obtain ⟨t, rfl⟩ := rx
  obtain ⟨t', rfl⟩ := ry
  exact add_str (fun t' tk => ⟨.str (i ++ j), H, I.tok _, ⟨_, rfl⟩, q⟩) hz
/-! ### scalar builtins, by CallR -/
theorem vals1 {x : V} {us : List Value} (r : Vals [x] us) : ∃ u, us = [u] ∧ RelV x u := by
  cases r with
  | cons r1 r2 => cases r2; exact ⟨_, rfl, r1⟩
theorem call_int1 : CallR X (.type "int") (fun xs H Q => (∃ i, xs = [.int i] ∧ Q (.int i) H) ∨ ∃ k, xs = [.bl k] ∧ Q (.int (if k then 1 else 0)) H) := by
  intro pins s σ H xs us Q I r h
  rcases h with ⟨i, rfl, q⟩ | ⟨k, rfl, q⟩
  · obtain ⟨u, rfl, t, rfl⟩ := vals1 r
    exact call_int_int ⟨.int i, H, I, ⟨_, rfl⟩, q⟩
  · obtain ⟨u, rfl, r1⟩ := vals1 r
    cases r1
    exact call_int_bool ⟨.int (if k then 1 else 0), H, I.tok _, ⟨_, rfl⟩, q⟩
theorem call_ord : CallR X (.builtin "ord") (fun xs H Q => ∃ x, xs = [.str x] ∧ x.length = 1 ∧ Q (.int (x.cps.getD 0 0 : Nat)) H) := by
  intro pins s σ H xs us Q I r h
  obtain ⟨x, rfl, hz, q⟩ := h
  obtain ⟨u, rfl, t, rfl⟩ := vals1 r
  exact ord_of_one hz ⟨.int _, H, I.tok _, ⟨_, rfl⟩, q⟩
end
end L2

namespace L2
open PySem PySem.Spec PyProof.Rows

/-! ### an instance, its attributes a map -/
structure ObjM (h : Heap) (x dx C : Addr) (mA : Str → Option Value) : Prop where
  obj : h.get? x = some (PySem.W.instObj C dx)
  ns : h.Ns1 dx mA
  ne : dx ≠ x

theorem lookIn_ns {h : Heap} {dx : Addr} {mA : Str → Option Value} (n : h.Ns1 dx mA) : ∃ od, h.get? dx = some od ∧ ∀ name, PySem.W.lookIn name od = some (mA name) := by
  obtain ⟨o, es, ep, ho, hd, hk, _, hm⟩ := n
  refine ⟨o, ho, fun name => ?_⟩
  have e := hm name
  unfold nsFind findBy at e
  rw [← Array.find?_toList] at e
  unfold PySem.W.lookIn
  rw [hd]
  dsimp only
  split
  · rename_i y q
    rw [q] at e
    exact congrArg some e
  · rename_i q
    rw [q] at e
    have a : es.toList.any (·.refKey) = false := by
      rw [List.any_eq_false]
      intro y hy
      obtain ⟨z, t, hkey⟩ := hk y (Array.mem_toList_iff.mp hy)
      simp [DictEntry.refKey, hkey]
    have a' : ¬ es.toList.any (·.refKey) = true := by rw [a]; exact Bool.false_ne_true
    rw [if_neg a']
    exact congrArg some e

theorem ObjM.look {h : Heap} {x dx C : Addr} {mA : Str → Option Value} (I : ObjM h x dx C mA) : ∃ od, PySem.W.InstAt h x (PySem.W.instObj C dx) C (some od) ∧ ∀ name, PySem.W.lookIn name od = some (mA name) :=
  let ⟨od, ho, hl⟩ := lookIn_ns I.ns
  ⟨od, ⟨I.obj, rfl, rfl, ho⟩, hl⟩

section
variable {prog : Program} {w : World} {A : Around} {E : Value → Shared → Prop} {s : Shared} {K : PySem.W.Frag} {x dx C f : Addr} {mA : Str → Option Value} {name : Str} {v : Value}

end

/-! ### the attributes as a list of pairs -/
noncomputable def putF (f : Str) (v : V) : List (Str × V) → List (Str × V)
  | [] => [(f, v)]
  | (g, x) :: r => if g = f then (g, v) :: r else (g, x) :: putF f v r
theorem lookup_putF (f g : Str) (v : V) : ∀ fs : List (Str × V), (putF f v fs).lookup g = if g = f then some v else fs.lookup g
  | [] => by
    show List.lookup g [(f, v)] = _
    by_cases h : g = f
    · have hb : (g == f) = true := beq_iff_eq.mpr h
      simp only [List.lookup, hb, if_pos h]
    · have hb : (g == f) = false := beq_eq_false_iff_ne.mpr h
      simp only [List.lookup, hb, if_neg h]
  | (k, x) :: r => by
    have ih := lookup_putF f g v r
    rw [show putF f v ((k, x) :: r) = (if k = f then (k, v) :: r else (k, x) :: putF f v r) from rfl]
    by_cases hk : k = f
    · rw [if_pos hk]
      by_cases h : g = k
      · have hb : (g == k) = true := beq_iff_eq.mpr h
        simp only [List.lookup, hb, if_pos (h.trans hk)]
      · have hb : (g == k) = false := beq_eq_false_iff_ne.mpr h
        simp only [List.lookup, hb, if_neg (fun e : g = f => h (e.trans hk.symm))]
    · rw [if_neg hk]
      by_cases h : g = k
      · have hb : (g == k) = true := beq_iff_eq.mpr h
        simp only [List.lookup, hb, if_neg (fun e : g = f => hk (h.symm.trans e))]
      · have hb : (g == k) = false := beq_eq_false_iff_ne.mpr h
        simp only [List.lookup, hb]
        exact ih
theorem keys_putF (f : Str) (v : V) : ∀ fs : List (Str × V), f ∈ (putF f v fs).map (·.1) ∧ ∀ g, g ∈ fs.map (·.1) → g ∈ (putF f v fs).map (·.1)
  | [] => ⟨by simp [putF], fun g h => by simp at h⟩
  | (k, x) :: r => by
    obtain ⟨i1, i2⟩ := keys_putF f v r
    rw [show putF f v ((k, x) :: r) = (if k = f then (k, v) :: r else (k, x) :: putF f v r) from rfl]
    by_cases hk : k = f
    · rw [if_pos hk]
      subst hk
      exact ⟨by simp, fun g h => by simpa using h⟩
    · rw [if_neg hk]
      refine ⟨?_, fun g h => ?_⟩
      · rw [List.map_cons]
        exact List.mem_cons_of_mem _ i1
      · rw [List.map_cons] at h ⊢
        rcases List.mem_cons.mp h with e | e
        · exact List.mem_cons.mpr (.inl e)
        · exact List.mem_cons_of_mem _ (i2 g e)
theorem RelO.some_of {v : V} {o : Option Value} (r : RelO (some v) o) : ∃ u, o = some u ∧ RelV v u := by
  cases o with
  | none => exact (show False from r).elim
  | some u => exact ⟨u, rfl, r⟩
theorem handed_of {v : V} {u : Value} (r : RelV v u) : PySem.W.handedIn u = true := by
  cases v with
  | non => cases (show u = Value.none from r); rfl
  | bl b => cases (show u = Value.bool b from r); rfl
  | int i => obtain ⟨t, e⟩ := (show ∃ t, u = Value.int i t from r); cases e; rfl
  | str x => obtain ⟨t, e⟩ := (show ∃ t, u = Value.str x t from r); cases e; rfl
  | byt b => obtain ⟨t, e⟩ := (show ∃ t, u = Value.bytes b t from r); cases e; rfl
  | flt b => obtain ⟨t, e⟩ := (show ∃ t, u = Value.float b t from r); cases e; rfl
  | ref a => cases (show u = Value.ref a from r); rfl
  | ty n => cases (show u = Value.type n from r); rfl

section
variable {P : Program} {w : World} {H H' : Hp} {h h' : Heap} {a C dx : Addr} {fs fs' : List (Str × V)}
theorem ins_get (hok : HOk P w H h) (e : H a = some (.ins C dx fs)) : ∃ mA, ObjM h a dx C mA ∧ (∀ f, RelO (fs.lookup f) (mA f)) ∧ PySem.Within mA (fs.map (·.1)) ∧ fs.length ≤ 1000 ∧ H dx = some (.own a) := by
  obtain ⟨d, z, ne, ob, mA, n, r, q⟩ := (show ObjOk P w H h a (.ins C dx fs) from hok a _ e)
  exact ⟨mA, ⟨ob, n, ne⟩, r, q, z, d⟩
end

/-! ### what of the text a class must have -/
structure Cls (K : PySem.W.Frag) (C : Addr) : Prop where
  pg : PySem.W.plainGet K C Str.empty = true
  hd : PySem.W.hasDictIn K C = true
  po : PySem.W.plainOver K C = true
  sa : PySem.W.findIn K (.ref C) "__setattr__" = some (some (.builtin "object.__setattr__"))
theorem Cls.get {K : PySem.W.Frag} {C : Addr} (c : Cls K C) (f : Str) : PySem.W.plainGet K C f = true := c.pg
/-- a constant of the class -/
structure Con (K : PySem.W.Frag) (C : Addr) (f : Str) (v : V) (u : Value) : Prop where
  at_ : PySem.W.findIn K (.ref C) f = some (some u)
  rel : RelV v u
  get : PySem.W.specialIn K u "__get__" = some none
  cp : PySem.W.copiedNames.contains f = false
/-- a method: a plain def of the class or of one above it -/
structure Meth (K : PySem.W.Frag) (C : Addr) (m : Str) (f : Addr) : Prop where
  at_ : PySem.W.findIn K (.ref C) m = some (some (.ref f))
  fn : PySem.W.isFn K (.ref f) = true
  kp : PySem.W.keepIn K (.ref f) = true

section
variable {X : Cx} {pins : List (Addr × Obj)} {σ : St} {H : Hp} {s : Shared} {a C dx : Addr} {fs : List (Str × V)} {f : Str} {v : V} {A : Around} {E : Value → Shared → Prop}

/-- e.f where nothing but the object is asked: through attributeBase (super) and the last hold -/
theorem attr_of {prog : Program} {w : World} {env : Env} {e : Expr} {f : Str} {pos : Pos} {s : Shared} {Q : Value → Shared → Prop} (hb : attributeBase e f env (eval e env) = eval e env)
    (h : wpAny (model prog w) A (eval e env) (fun o s₁ => wpAny (model prog w) A (getAttr o f true) Q E s₁) E s) : wpAny (model prog w) A (eval (.Attribute e f pos) env) Q E s :=
  Attribute_any_ h (by rw [arm_eval_Attribute, hb])
end

/-! ### readings and rules -/
section
variable {X : Cx} {o e value : Expr} {f : Str} {pos pos' tpos : Pos} {ta tv : TE}
end

/-! ### isinstance -/
section
variable {X : Cx} {pins : List (Addr × Obj)} {σ : St} {H : Hp} {s : Shared} {A : Around} {E : Value → Shared → Prop} {Q : Value → Shared → Prop} {c : Value} {b : Bool}
/-- the type of a value, as the fragment's deciders take it; for an instance its class -/
inductive TyOf (K : PySem.W.Frag) (H : Hp) : V → Value → Prop where
  | non : TyOf K H .non (.type "NoneType")
  | bl (x : Bool) : TyOf K H (.bl x) (.type "bool")
  | int (i : Int) : TyOf K H (.int i) (.type "int")
  | str (x : Str) : TyOf K H (.str x) (.type "str")
  | flt (x : UInt64) : TyOf K H (.flt x) (.type "float")
  | lst {a : Addr} {xs : List V} (e : H a = some (.lst xs)) : TyOf K H (.ref a) (.type "list")
  | frz {a : Addr} {o : Obj} {xs : List V} (e : H a = some (.frz o (.lst xs))) : TyOf K H (.ref a) (.type "list")
  | tup {a : Addr} {xs : List V} (e : H a = some (.tup xs)) : TyOf K H (.ref a) (.type "tuple")
  | dK {a : Addr} {kvs : List (Key × V)} (e : H a = some (.dK kvs)) : TyOf K H (.ref a) (.type "dict")
  | dT {a : Addr} {kvs : List (List Key × V)} (e : H a = some (.dT kvs)) : TyOf K H (.ref a) (.type "dict")
  | ins {a C dx : Addr} {fs : List (Str × V)} (e : H a = some (.ins C dx fs)) (cl : Cls K C) (ha : PySem.W.findIn K (.ref C) "__class__" = some (some (.builtin "object.__class__")))
      (hn : PySem.W.specialIn K (.builtin "object.__class__") "__get__" = some (some (.builtin "getset_descriptor.__get__"))) (htk : PySem.W.takesIn K (.builtin "object.__class__") = some true)
      (hm : PySem.W.mroIn K C (.type "object") = some true) : TyOf K H (.ref a) (.ref C)
/-- isinstance(x, c) for one class c, a built-in or an own one: kitOne's answer -/
theorem isinst_ok {x : V} {u t : Value} (I : Inv X pins σ H s) (rx : RelV x u) (ty : TyOf X.K H x t) (e : PySem.W.kitOne X.K t c = some b) (h : ∀ tk, Q (.bool b) { s with toks := tk }) :
    wpAny (model X.prog X.w) A (call (.builtin "isinstance") [u, c]) Q E s := by
  cases ty with
  | non => cases (show u = Value.none from rx); exact PySem.W.kia_one PySem.W.kitx_none I.kIn True.intro e (fun z => nomatch z) h
  | bl y => cases (show u = Value.bool y from rx); exact PySem.W.kia_one PySem.W.kitx_bool I.kIn True.intro e (fun z => nomatch z) h
  | int i => obtain ⟨t, q⟩ := (show ∃ t, u = Value.int i t from rx); cases q; exact PySem.W.kia_one PySem.W.kitx_int I.kIn True.intro e (fun z => nomatch z) h
  | str y => obtain ⟨t, q⟩ := (show ∃ t, u = Value.str y t from rx); cases q; exact PySem.W.kia_one PySem.W.kitx_str I.kIn True.intro e (fun z => nomatch z) h
  | flt y => obtain ⟨t, q⟩ := (show ∃ t, u = Value.float y t from rx); cases q; exact PySem.W.kia_one PySem.W.kitx_float I.kIn True.intro e (fun z => nomatch z) h
  | @lst a xs ea =>
    cases (show u = Value.ref a from rx)
    obtain ⟨_, _, n, _, h1⟩ := (show ObjOk X.prog X.w H s.heap a (.lst xs) from I.hok a _ ea)
    exact PySem.W.kia_one PySem.W.kitx_list I.kIn ⟨_, h1, rfl⟩ e (fun z => nomatch z) h
  | @frz a ob xs ea =>
    cases (show u = Value.ref a from rx)
    obtain ⟨_, _, _, n, _, h1⟩ := (show ObjOk X.prog X.w H s.heap a (.frz ob (.lst xs)) from I.hok a _ ea)
    exact PySem.W.kia_one PySem.W.kitx_list I.kIn ⟨_, h1, rfl⟩ e (fun z => nomatch z) h
  | @tup a xs ea =>
    cases (show u = Value.ref a from rx)
    obtain ⟨_, _, _, p⟩ := (show ObjOk X.prog X.w H s.heap a (.tup xs) from I.hok a _ ea)
    obtain ⟨o, h1, h2, _⟩ := p
    exact PySem.W.kia_one PySem.W.kitx_tuple I.kIn ⟨o, h1, h2⟩ e (fun z => nomatch z) h
  | @dK a kvs ea =>
    cases (show u = Value.ref a from rx)
    obtain ⟨_, _, vs, _, p⟩ := (show ObjOk X.prog X.w H s.heap a (.dK kvs) from I.hok a _ ea)
    obtain ⟨o, es, ep, h1, h2, _⟩ := p
    exact PySem.W.kia_one PySem.W.kitx_dict I.kIn ⟨o, h1, h2.1⟩ e (fun z => nomatch z) h
  | @dT a kvs ea =>
    cases (show u = Value.ref a from rx)
    obtain ⟨_, _, xs, _, o, es, ep, h1, h2, _⟩ := (show ObjOk X.prog X.w H s.heap a (.dT kvs) from I.hok a _ ea)
    exact PySem.W.kia_one PySem.W.kitx_dict I.kIn ⟨o, h1, h2.1⟩ e (fun z => nomatch z) h
  | @ins a C dx fs ea cl ha hn htk hm =>
    cases (show u = Value.ref a from rx)
    obtain ⟨mA, O, _⟩ := ins_get I.hok ea
    obtain ⟨od, J, _⟩ := O.look
    exact PySem.W.kia_one (PySem.W.kitx_own (cl.get _) cl.hd ha hn htk hm) I.kIn J e (fun z => nomatch z) h
end
end L2

namespace L2
open PySem PySem.Spec PyProof.Rows

/-! ### room -/
structure Room (k : Nat) (A : Around) : Prop where
  hd : A.handled = none
  dp : A.depth + 3 * k + 5 < recursionLimit
  un : A.units + 16 * k + 200 < cLine
theorem Room.mono {j k : Nat} {A : Around} (r : Room k A) (h : j ≤ k) : Room j A := ⟨r.hd, by have := r.dp; omega, by have := r.un; omega⟩
theorem Room.deeper {k : Nat} {A : Around} (r : Room (k + 1) A) (env : Env) : Room k (A.deeper env) :=
  ⟨r.hd, by have := r.dp; show A.depth + 1 + 3 * k + 5 < _; omega, by have := r.un; show A.units + 3 + 16 * k + 200 < _; omega⟩
theorem make_depth {A : Around} {C : Addr} {us : List Value} {kw : List (Str × Value)} : (A.under (.builtin "type.__call__" ⟨.ref C :: us, kw⟩)).depth = A.depth + 1 := by
  first | rfl | simp [Around.under, Code.weight, Code.isCreation, Code.isGuard, Code.isCaller, Code.frames, Code.isFrame, guardIds]
theorem make_units {A : Around} {C : Addr} {us : List Value} {kw : List (Str × Value)} : (A.under (.builtin "type.__call__" ⟨.ref C :: us, kw⟩)).units = A.units + 1 := by
  first | rfl | simp [Around.under, Code.cUnits, Code.frames, Code.isFrame]
theorem Room.make {k : Nat} {A : Around} (r : Room (k + 1) A) (C : Addr) (us : List Value) (kw : List (Str × Value)) : Room k (A.under (.builtin "type.__call__" ⟨.ref C :: us, kw⟩)) :=
  ⟨r.hd, by have := r.dp; rw [make_depth]; omega, by have := r.un; rw [make_units]; omega⟩
theorem Room.depth {k : Nat} {A : Around} (r : Room k A) : A.depth < recursionLimit := by have := r.dp; omega
theorem Room.units {k : Nat} {A : Around} (r : Room k A) : A.units + 64 < cLine := by have := r.un; omega
/-! ### argument lists and displays -/
noncomputable def tNil : TA := fun _ H Q => Q [] H
noncomputable def tCons (ta : TE) (tr : TA) : TA := fun σ H Q => ta σ H fun x H1 => tr σ H1 fun xs H2 => Q (x :: xs) H2
section
variable {X : Cx} {e : Expr} {es : List Expr} {te : TE} {t : TA} {pos : Pos}
theorem pa_nil : PA X [] tNil := fun _ _ _ _ H Q I h => Calls.spliced_nil ⟨[], H, I, .nil, h⟩
theorem pa_cons (ha : PE X e te) (hr : PA X es t) (hs : starEach (e :: es) X.env = (false, eval e X.env) :: starEach es X.env := by rfl) : PA X (e :: es) (tCons te t) := by
  intro pos pins s σ H Q I h
  rw [hs]
  show wpAny _ _ (spliced ((false, eval e X.env) :: backTo pos (starEach es X.env))) _ _ s
  refine Calls.spliced_cons (thn (ha pins s σ H _ I h) fun u s1 ⟨x, H1, I1, r1, q1⟩ => ?_)
  exact thn (hr pos pins s1 σ H1 _ I1 q1) fun us s2 ⟨xs, H2, I2, r2, q2⟩ => ⟨x :: xs, H2, I2, .cons r1 r2, q2⟩

/-- a tuple, a list of written items -/
noncomputable def tTup (t : TA) : TE := fun σ H Q => t σ H fun xs H1 => xs.length ≤ sizeLine ∧ ∀ p, H1 p = none → Q (.ref p) (upd H1 p (.tup xs))
noncomputable def tLst (t : TA) : TE := fun σ H Q => t σ H fun xs H1 => xs.length ≤ sizeLine ∧ ∀ p, H1 p = none → Q (.ref p) (upd H1 p (.lst xs))
theorem pe_tup {x1} (h : PA X es t) : PE X (.Tuple es x1 pos) (tTup t) := by
  intro pins s σ H Q I hq
  refine wpAny_Tuple_spliced (thn (h pos pins s σ H _ I hq) fun us s1 ⟨xs, H1, I1, r, z, q⟩ => ⟨by rw [← r.length]; exact z, ?_⟩)
  have hf : H1 s1.heap.objs.size = none := I1.hok.fresh (Nat.le_refl _)
  refine ⟨.ref s1.heap.objs.size, upd H1 s1.heap.objs.size (.tup xs), I1.laid (t' := s1.toks) (fun b u e => Heap.get?_push_of_some _ e) (Nat.le_refl _) ?_, rfl, q _ hf⟩
  exact ⟨z, us, r, ⟨_, Heap.get?_push_size _ rfl, rfl, _, rfl⟩⟩
theorem pe_lst (h : PA X es t) : PE X (.List es pos) (tLst t) := by
  intro pins s σ H Q I hq
  refine wpAny_List_spliced (thn (h pos pins s σ H _ I hq) fun us s1 ⟨xs, H1, I1, r, z, q⟩ => ⟨by rw [← r.length]; exact z, ?_⟩)
  have hf : H1 s1.heap.objs.size = none := I1.hok.fresh (Nat.le_refl _)
  refine ⟨.ref s1.heap.objs.size, upd H1 s1.heap.objs.size (.lst xs), I1.laid (t' := s1.toks) (fun b u e => Heap.get?_push_of_some _ e) (Nat.le_refl _) ?_, rfl, q _ hf⟩
  exact ⟨z, us, 0, r, Heap.get?_push_size _ rfl⟩
end

/-! ### what a def promises -/
/-- a def's promise: the bound arguments in the parameters' order, the heap, the wanted end, the wanted exception -/
noncomputable abbrev Sp := List V → Hp → VK → XK → Prop
/-- how an exception lies behind a call (file 08 gives it): the callers' frames, abstract heap and state ahead of the call, the wish, the exception, the state -/
noncomputable abbrev CXT := List Env → Hp → Shared → XK → Value → Shared → Prop

/-- the state at a call -/
structure Env0 (P : Program) (w : World) (K : PySem.W.Frag) (mg : Str → Option Value) (base : Heap) (A : Around) (outer : List Env) (s : Shared) (H : Hp) : Prop where
  frames : A.frames = some outer
  mod : Mod K mg base
  bs : ∀ b o, base.get? b = some o → s.heap.get? b = some o ∧ H b = none
  bsz : base.objs.size ≤ s.heap.objs.size
  funs : s.heap.FunFrames base outer
  frf : ∀ b ∈ frs outer, H b = none
  hok : HOk P w H s.heap
  bare : AllBare s.gens
/-- a call's end -/
noncomputable def CE (outer : List Env) (P : Program) (w : World) (H : Hp) (s : Shared) (Q : VK) (u : Value) (s' : Shared) : Prop :=
  ∃ v H', s'.os = s.os ∧ AllBare s'.gens ∧ Un (frs outer) [] H H' s.heap s'.heap ∧ HOk P w H' s'.heap ∧ RelV v u ∧ Q v H'
noncomputable def CR (CX : CXT) (outer : List Env) (P : Program) (w : World) (H : Hp) (s : Shared) (Q : VK) (E : XK) (r : Result) (s' : Shared) : Prop :=
  match r with
  | .ok (.ret u) => CE outer P w H s Q u s'
  | .ok _ => False
  | .error e => CX outer H s E e s'
structure FnOk (P : Program) (w : World) (K : PySem.W.Frag) (mg : Str → Option Value) (base : Heap) (CX : CXT) (k : Nat) (f : Addr) (fd : FuncData) (ps : List Str) (sp : Sp) : Prop where
  len : ∀ vs H Q E, sp vs H Q E → vs.length = ps.length
  run : ∀ (A : Around) (outer : List Env) (s : Shared) (H : Hp) (args : Args) (us : List Value) (vs : List V) (Q : VK) (E : XK), Room k A → Env0 P w K mg base A outer s H → BindsTo s fd args (ps.zip us) → Vals vs us → sp vs H Q E →
    codeAny (model P w) A (.call (.ref f) args) (CR CX outer P w H s Q E) s
theorem Env0.make {P : Program} {w : World} {K : PySem.W.Frag} {mg : Str → Option Value} {base : Heap} {A : Around} {outer : List Env} {s : Shared} {H : Hp} (e : Env0 P w K mg base A outer s H) (C : Addr) (us : List Value) (kw : List (Str × Value)) :
    Env0 P w K mg base (A.under (.builtin "type.__call__" ⟨.ref C :: us, kw⟩)) outer s H := ⟨by first | exact e.frames | (simpa [Around.under, Code.envs, Code.isFrame, pushEnvs] using e.frames), e.mod, e.bs, e.bsz, e.funs, e.frf, e.hok, e.bare⟩
section
variable {X : Cx} {pins : List (Addr × Obj)} {σ : St} {H : Hp} {s s' : Shared}
/-- from a body: what a callee wants -/
theorem Inv.env0 (I : Inv X pins σ H s) : Env0 X.prog X.w X.K X.mg X.base X.A X.stack s H :=
  ⟨I.ok.frames, I.ok.mod, I.bs, Nat.le_trans I.ok.bsz I.sz, I.stack, I.stkFree, I.hok, I.bare⟩
/-- behind a call -/
theorem Inv.after {Q : VK} {u : Value} (I : Inv X pins σ H s) (h : CE X.stack X.prog X.w H s Q u s') : EP X pins σ Q u s' := by
  obtain ⟨v, H', os, bare, un, hok, r, q⟩ := h
  obtain ⟨hh, g, d, t, os'⟩ := s'
  obtain rfl : os' = s.os := os
  exact ⟨v, H', I.call (h' := hh) (g' := g) (d' := d) (t' := t) (ch := []) un hok bare (fun b z => absurd z (by simp)), r, q⟩
end

/-! ### calls -/
/-- f(..): the written arguments, then the defaults dvs; E: what is wanted of an exception -/
noncomputable def tCall (sp : Sp) (dvs : List V) (E : XK) (t : TA) : TE := fun σ H Q => t σ H fun vs H1 => sp (vs ++ dvs) H1 Q E
/-- how the parameters are bound: us the positional arguments, kw the keywords' values by name, ds the defaults that fill up -/
noncomputable def Binds (K : PySem.W.Frag) (fd : FuncData) (ps : List Str) (ds : List Value) : Prop :=
  ∀ (s : Shared) (us : List Value), K.In s.heap → (us ++ ds).length = ps.length → BindsTo s fd ⟨us, []⟩ (ps.zip (us ++ ds))
/-- every parameter is given -/
theorem Binds.all {K : PySem.W.Frag} {fd : FuncData} {ps : List Str} (h : ∀ us : List Value, us.length = ps.length → bindArgs fd ⟨us, []⟩ = pure (ps.zip us)) : Binds K fd ps [] := fun s us _ hl => by
  rw [List.append_nil] at hl ⊢
  exact .of_eq (h us hl)

/-- an exception of a callee reaches what this body wants of exceptions -/
noncomputable def Passes (CX : CXT) (X : Cx) (E : XK) : Prop := ∀ (pins : List (Addr × Obj)) (σ : St) (H : Hp) (s : Shared) (e : Value) (s' : Shared), Inv X pins σ H s → CX X.stack H s E e s' → X.xe e s'

section
variable {X : Cx} {CX : CXT} {k : Nat} {f C : Addr} {fd : FuncData} {ps : List Str} {sp : Sp} {dvs : List V} {ds : List Value} {E : XK} {x m : Str} {p pos apos : Pos} {e o : Expr} {es : List Expr} {ta : TE} {t : TA}

/-- the callee runs -/
theorem run_fn {pins : List (Addr × Obj)} {σ : St} {H : Hp} {s : Shared} {Q : VK} {us : List Value} {vs : List V} (F : FnOk X.prog X.w X.K X.mg X.base CX k f fd ps sp) (hr : Room k X.A) (hb : Binds X.K fd ps ds) (hd : Vals dvs ds) (hx : Passes CX X E)
    (I : Inv X pins σ H s) (r : Vals vs us) (h : sp (vs ++ dvs) H Q E) : wpAny (model X.prog X.w) X.A (call (.ref f) us) (EP X pins σ Q) X.xe s := by
  have r2 : Vals (vs ++ dvs) (us ++ ds) := r.append hd
  have hl : (us ++ ds).length = ps.length := by rw [← r2.length]; exact F.len _ _ _ _ h
  refine wpAny_call (codeAny_mono (F.run X.A X.stack s H ⟨us, []⟩ (us ++ ds) (vs ++ dvs) Q E hr I.env0 (hb s us I.kIn hl) r2 h) fun r s' hq => ?_)
  cases r with
  | error e => exact hx pins σ H s e s' I hq
  | ok fl =>
    cases fl with
    | ret u => exact I.after hq
    | next => exact False.elim hq
    | brk => exact False.elim hq
    | cont => exact False.elim hq

theorem pe_call (F : FnOk X.prog X.w X.K X.mg X.base CX k f fd ps sp) (hr : Room k X.A) (hg : Gl X x) (hm : X.mg x = some (.ref f)) (hk : PySem.W.keepIn X.K (.ref f) = true) (hb : Binds X.K fd ps ds) (hd : Vals dvs ds) (hx : Passes CX X E)
    (ha : PA X (e :: es) t) (hdb : (x == ("__debug__" : Str)) = false := by decide) (he : starEach (e :: es) X.env = (false, eval e X.env) :: starEach es X.env := by rfl) (hpl : (backTo pos (starEach es X.env)).any (·.1) = false := by rfl) :
    PE X (.Call (.Name x p) (e :: es) [] pos) (tCall sp dvs E t) := by
  intro pins s σ H Q I h
  refine wpAny_Call_Name_kw (ld_glob I hg hm ?_ hdb)
  refine PySem.W.callWith_K (h₀ := X.base) I.ok.mod.kin hk (thn (ha pos pins s σ H _ I h) fun us s1 ⟨vs, H1, I1, r, q⟩ => ⟨I1.kIn, ?_⟩) he hpl
  exact run_fn F hr hb hd hx I1 r q
/-- what a class must have to be made -/
structure Mk (K : PySem.W.Frag) (C f : Addr) : Prop where
  makes : PySem.W.makesIn K C = true
  init : PySem.W.findIn K (.ref C) "__init__" = some (some (.ref f))
  fn : PySem.W.isFn K (.ref f) = true
  kp : PySem.W.keepIn K (.ref C) = true

end

/-! ### keywords -/
/-- the values of the keywords, from the left -/
noncomputable def PK (X : Cx) (kws : List Keyword) (t : TA) : Prop :=
  ∀ (pos : Pos) (pins : List (Addr × Obj)) (s : Shared) (σ : St) (H : Hp) (Q : List V → Hp → Prop), Inv X pins σ H s → t σ H Q → wpAny (model X.prog X.w) X.A (evalAll ((backToKw pos (keywordEach kws X.env)).map (·.2))) (AP X pins σ Q) X.xe s
section
variable {X : Cx} {CX : CXT} {k : Nat} {f C : Addr} {fd : FuncData} {ps ks : List Str} {sp : Sp} {E : XK} {x m : Str} {p pos apos kpos : Pos} {e o : Expr} {es : List Expr} {kws : List Keyword} {te ta : TE} {t tk : TA} {nm : Option Str}
theorem pk_nil : PK X [] tNil := fun _ _ _ _ H Q I h => wpAny_evalAll_nil ⟨[], H, I, .nil, h⟩
theorem pk_cons (ha : PE X e te) (hr : PK X kws t) : PK X (⟨nm, e, kpos⟩ :: kws) (tCons te t) := by
  intro pos pins s σ H Q I h
  show wpAny _ _ (evalAll ((do let v ← eval e X.env; standAt pos; pure v) :: (backToKw pos (keywordEach kws X.env)).map (·.2))) _ _ s
  refine wpAny_evalAll_cons (wpAny_bind (thn (ha pins s σ H _ I h) fun u s1 ⟨x, H1, I1, r1, q1⟩ => wpAny_bind (wpAny_standAt (wpAny_pure ?_))))
  exact thn (hr pos pins s1 σ H1 _ I1 q1) fun us s2 ⟨xs, H2, I2, r2, q2⟩ => ⟨x :: xs, H2, I2, .cons r1 r2, q2⟩

/-- how a call with keywords binds: g puts the positional values us and the keywords' values ws (names ks) in the parameters' order, defaults among them -/
structure KBinds (K : PySem.W.Frag) (fd : FuncData) (ps ks : List Str) (g : List Value → List Value → List Value) (gV : List V → List V → List V) : Prop where
  to : ∀ (s : Shared) (us ws : List Value), K.In s.heap → (g us ws).length = ps.length → BindsTo s fd ⟨us, ks.zip ws⟩ (ps.zip (g us ws))
  rel : ∀ {vs : List V} {us : List Value} {zs : List V} {ws : List Value}, Vals vs us → Vals zs ws → Vals (gV vs zs) (g us ws)
variable {g : List Value → List Value → List Value} {gV : List V → List V → List V}
end

/-! ### a def's body keeps its promise -/
/-- names: the parameters first -/
structure FnScope (N P : List Str) (sc : Scope) : Prop where
  kind : sc.kind = .function
  co : sc.isCoroutine = false
  gen : sc.isGenerator = false
  nd : N.Nodup
  pre : N.take P.length = P
  par : ∀ x ∈ P, sc.names.lookup x = some .local ∨ sc.names.lookup x = some .cell
  nofree : ∀ y ∈ sc.names, y.2 ≠ .free

theorem bindL_out {kindOf : Str → Option NameKind} {x : Str} : ∀ {binds : List (Str × Value)} {m : Str → Option Value}, (∀ v, (x, v) ∉ binds) → bindL kindOf binds m x = m x
  | [], _, _ => rfl
  | (n, v) :: r, m, h => by
    unfold bindL
    rw [bindL_out fun w hw => h w (List.mem_cons_of_mem _ hw)]
    split
    · have : x ≠ n := by rintro rfl; exact h v List.mem_cons_self
      simp [this]
    · rfl
theorem bindC_out {kindOf : Str → Option NameKind} {x : Str} : ∀ {binds : List (Str × Value)} {m : Str → Option Value}, (∀ v, (x, v) ∉ binds) → bindC kindOf binds m x = m x
  | [], _, _ => rfl
  | (n, v) :: r, m, h => by
    unfold bindC
    rw [bindC_out fun w hw => h w (List.mem_cons_of_mem _ hw)]
    split
    · rfl
    · have : x ≠ n := by rintro rfl; exact h v List.mem_cons_self
      simp [this]
theorem bindL_get {kindOf : Str → Option NameKind} {x : Str} {v : Value} : ∀ {P : List Str} {vs : List Value} {i : Nat} {m : Str → Option Value}, P.Nodup → P[i]? = some x → vs[i]? = some v → kindOf x = some .local →
    bindL kindOf (P.zip vs) m x = some v
  | [], _, _, _, _, h, _, _ => by simp at h
  | _ :: _, [], _, _, _, _, h, _ => by simp at h
  | p :: P, w :: vs, 0, m, nd, h1, h2, hk => by
    simp at h1 h2; subst h1; subst h2
    show bindL kindOf ((p, w) :: P.zip vs) m p = _
    unfold bindL
    rw [bindL_out fun v hv => (List.nodup_cons.mp nd).1 (List.of_mem_zip hv).1, if_pos hk]
    simp
  | p :: P, w :: vs, i + 1, m, nd, h1, h2, hk => by
    show bindL kindOf ((p, w) :: P.zip vs) m x = _
    unfold bindL
    exact bindL_get (i := i) (List.nodup_cons.mp nd).2 (by simpa using h1) (by simpa using h2) hk
theorem bindC_get {kindOf : Str → Option NameKind} {x : Str} {v : Value} : ∀ {P : List Str} {vs : List Value} {i : Nat} {m : Str → Option Value}, P.Nodup → P[i]? = some x → vs[i]? = some v → kindOf x ≠ some .local →
    bindC kindOf (P.zip vs) m x = some v
  | [], _, _, _, _, h, _, _ => by simp at h
  | _ :: _, [], _, _, _, _, h, _ => by simp at h
  | p :: P, w :: vs, 0, m, nd, h1, h2, hk => by
    simp at h1 h2; subst h1; subst h2
    show bindC kindOf ((p, w) :: P.zip vs) m p = _
    unfold bindC
    rw [bindC_out fun v hv => (List.nodup_cons.mp nd).1 (List.of_mem_zip hv).1, if_neg hk]
    simp
  | p :: P, w :: vs, i + 1, m, nd, h1, h2, hk => by
    show bindC kindOf ((p, w) :: P.zip vs) m x = _
    unfold bindC
    exact bindC_get (i := i) (List.nodup_cons.mp nd).2 (by simpa using h1) (by simpa using h2) hk

/-- the names' values at the entry -/
noncomputable def start (N : List Str) (vs : List V) : St := vs.map some ++ List.replicate (N.length - vs.length) none

/-- the context of a def's body, at its entry; an exception leaves the frame, then lies as CX says -/
noncomputable def cxOf (CX : CXT) (P : Program) (w : World) (K : PySem.W.Frag) (mg : Str → Option Value) (base : Heap) (N : List Str) (qual : Str) (scope : Scope) (f : Addr) (cd : Value) (A : Around) (outer : List Env) (s : Shared) (H : Hp) (E : XK) : Cx where
  prog := P
  w := w
  K := K
  mg := mg
  base := base
  A := A.deeper (envOfC qual scope s.heap.objs.size f cd)
  N := N
  s₀ := s
  H₀ := H
  env := envOfC qual scope s.heap.objs.size f cd
  outer := outer
  stack := envOfC qual scope s.heap.objs.size f cd :: outer
  ex := []
  calm := true
  fn := fun _ => true
  pn := []
  xe := fun e s' => wpAny (model P w) (A.deeper (envOfC qual scope s.heap.objs.size f cd)) (leaving (envOfC qual scope s.heap.objs.size f cd) e) (fun _ s'' => CX outer H s E e s'') (fun e' s'' => CX outer H s E e' s'') s'

theorem cell_has {sc : Scope} {n : Nat} {x : Str} (h : sc.names.lookup x = some .cell) : ∃ c, (cellsFrom n sc.names []).lookup x = some c := by
  have q := PySem.W.cellsFrom_some sc.names n [] (.inl h)
  exact Option.isSome_iff_exists.mp q

theorem inv_start {CX : CXT} {P : Program} {w : World} {K : PySem.W.Frag} {mg : Str → Option Value} {base : Heap} {N ps : List Str} {qual : Str} {scope : Scope} {f : Addr} {cd : Value} {A : Around} {outer : List Env} {s s1 : Shared} {H : Hp} {E : XK} {us : List Value} {vs : List V}
    (S : FnScope N ps scope) (hd : A.handled = none) (e0 : Env0 P w K mg base A outer s H) (hl : vs.length = ps.length) (r : Vals vs us)
    (x : InCallC s s.heap.objs.size (bindL (envOfC qual scope s.heap.objs.size f cd).kindOf (ps.zip us) fun _ => none) (cellsFrom (s.heap.objs.size + 1) scope.names []) (bindC (envOfC qual scope s.heap.objs.size f cd).kindOf (ps.zip us) fun _ => none) s1) :
    Inv (cxOf CX P w K mg base N qual scope f cd A outer s H E) [] (start N vs) H s1 := by
  have hpl : ps.length ≤ N.length := by have := congrArg List.length S.pre; rw [List.length_take] at this; omega
  obtain ⟨h1, tk, rfl, hk⟩ := x.done
  have noA : ∀ b : Addr, b ∉ (cxOf CX P w K mg base N qual scope f cd A outer s H E).ex := fun b z => absurd (show b ∈ ([] : List Addr) from z) (by simp)
  refine ⟨⟨e0.mod, S.kind, rfl, rfl, Nat.le_refl _, fun y z c h1 h2 => ?_, fun y hy => ?_, fun y c _ h => ?_, fun _ => hd, Around.frames_deeper e0.frames, .inr ⟨rfl, rfl⟩, fun b z => absurd z (noA b), e0.bs, e0.bsz, fun b _ _ => noA b, fun b z => absurd z (noA b), e0.funs, e0.frf⟩,
    rfl, e0.bare, Un.kept hk, ⟨_, x.toInCall.ns, fun i y v h1 h2 h3 => ?_⟩, fun y c h => ⟨_, x.cell y c h⟩, e0.hok.fresh (Nat.le_refl _), fun y c h => ?_, fun p hp => absurd (show p ∈ ([] : List (Addr × Obj)) from hp) (by simp), e0.hok.kept hk, ?_⟩
  · exact name_of_addr x.apart (PySem.mem_of_lookup h1) (PySem.mem_of_lookup h2)
  · have hy : scope.names.lookup y = some .cell ∨ scope.names.lookup y = some .free := hy
    rcases hy with hy | hy
    · exact cell_has hy
    · exact absurd rfl (S.nofree _ (PySem.mem_of_lookup hy))
  · exact Nat.le_of_lt (x.above y c (PySem.mem_of_lookup h))
  · have hi : i < vs.length := by
      unfold start at h2
      by_cases hi : i < vs.length
      · exact hi
      · rw [List.getElem?_append_right (by simpa using hi)] at h2
        rw [List.getElem?_replicate] at h2
        split at h2 <;> cases h2
    have ha : vs[i]? = some v := by
      unfold start at h2
      rw [List.getElem?_append_left (by simpa using hi), List.getElem?_map] at h2
      cases e : vs[i]? with
      | none => rw [e] at h2; cases h2
      | some a => rw [e] at h2; cases h2; rfl
    obtain ⟨u, hu, rv⟩ := r.get ha
    have hp : ps[i]? = some y := by
      rw [← S.pre, List.getElem?_take_of_lt (by omega)]; exact h1
    have ndP : ps.Nodup := by rw [← S.pre]; exact S.nd.sublist (List.take_sublist _ _)
    refine ⟨u, rv, ?_⟩
    rcases S.par y (List.mem_of_getElem? hp) with k | k
    · exact .inl ⟨k, bindL_get ndP hp hu k⟩
    · obtain ⟨c, e⟩ := cell_has (n := s.heap.objs.size + 1) k
      refine .inr ⟨.inl k, c, e, ?_⟩
      have q := x.cell y c e
      rw [bindC_get ndP hp hu (by show scope.names.lookup y ≠ _; rw [k]; decide)] at q
      exact q
  · exact e0.hok.fresh (Nat.le_of_lt (x.above y c (PySem.mem_of_lookup h)))
  · unfold start
    show _ = N.length
    rw [List.length_append, List.length_map, List.length_replicate]
    omega

/-- THE RULE: a def (or a method) of the text, by its body. The body's reading t is chosen for each entry; it is run at the parameters' values -/
theorem fn_of {CX : CXT} {P : Program} {w : World} {K : PySem.W.Frag} {mg : Str → Option Value} {base : Heap} {k : Nat} {f : Addr} {name qual : Str} {params : Arguments} {body : List Stmt} {scope : Scope} {dV kV doc pm cdv ct oc : Value} {an od : Option Addr}
    {osl : Array (Option Value)} {N ps : List Str} {sp : Sp} (lk : K.lookup f = some ⟨oc, od, .func (PySem.W.fnOf name qual params body scope dV kV doc pm an cdv ct), osl⟩) (hcd : PySem.W.codeIn K cdv qual = true) (S : FnScope N ps scope)
    (len : ∀ vs H Q E, sp vs H Q E → vs.length = ps.length)
    (hbody : ∀ (A : Around) (outer : List Env) (s : Shared) (H : Hp) (vs : List V) (Q : VK) (E : XK), Room k (A.deeper (envOfC qual scope s.heap.objs.size f cdv)) → sp vs H Q E →
      ∃ t, PSs (cxOf CX P w K mg base N qual scope f cdv A outer s H E) body t ∧ t { nx := fun _ H' => Q .non H', rt := Q } (start N vs) H) :
    FnOk P w K mg base CX (k + 1) f (PySem.W.fnOf name qual params body scope dV kV doc pm an cdv ct) ps sp := by
  refine ⟨len, fun A outer s H args us vs Q E hr e0 hb r hsp => ?_⟩
  have hl := len _ _ _ _ hsp
  have KX : K.In s.heap := e0.mod.kin.keeps fun b o e => (e0.bs b o e).1
  have lim : s.heap.NoLimit := e0.mod.nolimit.keeps fun b o e => (e0.bs b o e).1
  have hkind : ∀ y ∈ ps.zip us, scope.names.lookup y.1 = some .local ∨ (scope.names.lookup y.1 = some .cell ∧ ((cellsFrom (s.heap.objs.size + 1) scope.names []).lookup y.1).isSome = true) := fun ⟨n, v⟩ hy => by
    rcases S.par n (List.of_mem_zip hy).1 with q | q
    · exact .inl q
    · exact .inr ⟨q, PySem.W.cellsFrom_some _ _ _ (.inl q)⟩
  refine codeAny_call_function hr.depth (KX _ _ lk) rfl S.co S.gen rfl (PySem.W.codeRec_of KX hcd) (hb _ _ _ _ ?_)
  refine wpAny_newFunctionEnv_cells S.kind hkind fun env he s1 x => ?_
  subst he
  refine ⟨lim.keeps x.toInCall.keep, codeAny_func ?_⟩
  obtain ⟨t, ht, hq⟩ := hbody A outer s H vs Q E (hr.deeper _) hsp
  have I : Inv (cxOf CX P w K mg base N qual scope f cdv A outer s H E) [] (start N vs) H s1 := inv_start S hr.hd e0 hl r x
  refine wpAny_mono (ht [] s1 (start N vs) H _ I hq) (fun fl s' hs => ?_) fun e s' hs => hs
  have fin : ∀ {σ' : St} {H' : Hp} {v : V} {u : Value}, Inv (cxOf CX P w K mg base N qual scope f cdv A outer s H E) [] σ' H' s' → RelV v u → Q v H' → CE outer P w H s Q u s' :=
    fun {σ' H' v u} J rv q => ⟨v, H', J.os, J.bare, J.base, J.hok, rv, q⟩
  cases fl with
  | ret u =>
    obtain ⟨v, σ', H', J, rv, q⟩ := hs
    exact fin J rv q
  | next =>
    obtain ⟨σ', H', J, q⟩ := hs
    exact fin (v := V.non) (u := Value.none) J rfl q
  | brk =>
    obtain ⟨_, _, _, q⟩ := hs
    exact False.elim q
  | cont =>
    obtain ⟨_, _, _, q⟩ := hs
    exact False.elim q
end L2

namespace L2
open PySem PySem.Spec PyProof.Rows
section
variable {X : Cx} {x : Str} {p pos : Pos} {e : Expr} {es : List Expr} {t : TA} {id T : String} {r : List V → Hp → VK → Prop}

noncomputable def tCB (r : List V → Hp → VK → Prop) (t : TA) : TE := fun σ H Q => t σ H fun vs H1 => r vs H1 Q
/-- f(e, ..), f a built-in function -/
theorem pe_callB (hc : CallR X (.builtin id) r) (hg : Gl X x) (hm : X.mg x = none) (hv : bootBuiltins x = some (.builtin id)) (ha : PA X (e :: es) t) (hn : x ≠ "__name__" := by decide) (hdb : (x == ("__debug__" : Str)) = false := by decide)
    (he : starEach (e :: es) X.env = (false, eval e X.env) :: starEach es X.env := by rfl) (hpl : (backTo pos (starEach es X.env)).any (·.1) = false := by rfl) : PE X (.Call (.Name x p) (e :: es) [] pos) (tCB r t) := by
  intro pins s σ H Q I h
  refine wpAny_Call_Name_kw (ld_blt I hg hm hv ?_ hn hdb)
  exact PyProof.Rows.callWith_builtin1 (thn (ha pos pins s σ H _ I h) fun us s1 ⟨vs, H1, I1, r1, q1⟩ => hc pins s1 σ H1 vs us Q I1 r1 q1) he hpl
/-- T(e, ..), T a built-in type -/
theorem pe_callTy (hc : CallR X (.type T) r) (hg : Gl X x) (hm : X.mg x = none) (hv : bootBuiltins x = some (.type T)) (ha : PA X (e :: es) t) (hn : x ≠ "__name__" := by decide) (hdb : (x == ("__debug__" : Str)) = false := by decide)
    (he : starEach (e :: es) X.env = (false, eval e X.env) :: starEach es X.env := by rfl) (hpl : (backTo pos (starEach es X.env)).any (·.1) = false := by rfl) : PE X (.Call (.Name x p) (e :: es) [] pos) (tCB r t) := by
  intro pins s σ H Q I h
  refine wpAny_Call_Name_kw (ld_blt I hg hm hv ?_ hn hdb)
  exact PyProof.Rows.callWith_type1 (thn (ha pos pins s σ H _ I h) fun us s1 ⟨vs, H1, I1, r1, q1⟩ => hc pins s1 σ H1 vs us Q I1 r1 q1) he hpl
end
end L2

namespace HT
open PySem PyProof.Rows

section
open PySem.SeqAt
open PySem.AutoSeq1 (wpAny_loadPart')
open PySem.MeetsSeq PySem.MeetsSeq2 PySem.MeetsSeq3

end

section
variable {prog : Program} {w : World} {A : Around} {E : Value → Shared → Prop} {s : Shared}

/-- t + u, t not empty -/
theorem cat_tup {t b : Addr} {vs ws : List Value} {Q : Value → Shared → Prop} (ht : IsTup s.heap t vs.toArray) (hb : IsTup s.heap b ws.toArray) (hv : vs ≠ [])
    (h1 : ws = [] → Q (.ref t) s) (h2 : ws ≠ [] → Q (.ref s.heap.objs.size) { s with heap := s.heap.push { cls := .type "tuple", data := .seq (vs ++ ws).toArray } })
    (hsz : vs.length + ws.length ≤ sizeLine) : wpAny (model prog w) A (binaryOp .Add (.ref t) (.ref b)) Q E s := by
  obtain ⟨⟨cls, dd, data, sl⟩, ho, hc, n, hd⟩ := id ht
  obtain ⟨⟨cls2, dd2, data2, sl2⟩, ho2, hc2, n2, hd2⟩ := id hb
  simp only at hc hd hc2 hd2
  subst hc hd hc2 hd2
  have e : vs.toArray ++ ws.toArray = (vs ++ ws).toArray := by simp
  by_cases hw : ws = []
  · exact concat_meets ⟨_, ho, rfl⟩ ⟨_, ho2, rfl⟩ noFill_tuple_add seq_tuple_add PySem.F.slot_tuple_add PySem.F.entry_tuple_add (PySem.F.args_tuple_add_2 _ _)
      (tuple_addW1 t b vs.toArray ws.toArray n n2 dd dd2 sl sl2 (by simpa using hv) (by simp [hw])) ⟨ho, ho2, h1 hw⟩
  · refine concat_meets ⟨_, ho, rfl⟩ ⟨_, ho2, rfl⟩ noFill_tuple_add seq_tuple_add PySem.F.slot_tuple_add PySem.F.entry_tuple_add (PySem.F.args_tuple_add_2 _ _)
      (tuple_addW2 t b vs.toArray ws.toArray n n2 dd dd2 sl sl2 (by simpa using hv) (by simpa using hw) (by rw [List.size_toArray, List.size_toArray]; exact hsz)) ⟨ho, ho2, ?_⟩
    rw [e]
    exact h2 hw

/-! ### t[a:b], not the whole -/
/-- a slice's bound as a place among n (d where it is left out) -/
noncomputable def sIx (n d : Nat) : Option Int → Nat
  | none => d
  | some v => if v < 0 then (v + (n : Int)).toNat else min v.toNat n
theorem sIx_le (n d : Nat) (hd : d ≤ n) (o : Option Int) : sIx n d o ≤ n := by
  cases o with
  | none => exact hd
  | some v =>
    show (if v < 0 then (v + (n : Int)).toNat else min v.toNat n) ≤ n
    by_cases hv : v < 0
    · rw [if_pos hv]; omega
    · rw [if_neg hv]; exact Nat.min_le_right _ _
theorem clip_eq (v : Int) (n d : Nat) : (if v < 0 then max (v + (n : Int)) 0 else min v (n : Int)) = ((sIx n d (some v) : Nat) : Int) := by
  show (if v < 0 then max (v + (n : Int)) 0 else min v (n : Int)) = (((if v < 0 then (v + (n : Int)).toNat else min v.toNat n) : Nat) : Int)
  by_cases hv : v < 0
  · simp only [if_pos hv]; omega
  · simp only [if_neg hv]; omega
theorem adjust_gen (lo hi : Option Int) (n : Nat) : Builtin.Slice.sliceAdjust lo hi 1 (n : Int) = (((sIx n 0 lo : Nat) : Int), ((sIx n n hi : Nat) : Int)) := by
  have h1 : ¬ ((1 : Int) < 0) := by omega
  unfold Builtin.Slice.sliceAdjust
  simp only [h1, if_false]
  refine Prod.ext ?_ ?_
  · cases lo with
    | none => rfl
    | some v => exact clip_eq v n 0
  · cases hi with
    | none => rfl
    | some v => exact clip_eq v n n
theorem places_gen (i j : Nat) : Builtin.Slice.slicePlaces (i : Int) (j : Int) 1 = j - i := by
  unfold Builtin.Slice.slicePlaces
  have h1 : (1 : Int) > 0 := by omega
  simp only [h1, if_true, Int.ediv_one]
  split <;> omega
theorem slicePart_ {v : Value} {o : Option Int} {Q : Option Int → Shared → Prop} (p : IsPart v o) (h : Q o s) : wpAny (model prog w) A (Builtin.Slice.slicePartIndex v) Q E s := by
  cases p with
  | none => exact slicePart_none h
  | int i t => exact slicePart_int h
theorem sliceApplied_gen {sl : Addr} {vl vu : Value} {lo hi : Option Int} {n : Nat} {Q : Int × Int × Nat → Shared → Prop} (hs : s.heap.IsSliceOf sl vl vu .none) (pl : IsPart vl lo) (pu : IsPart vu hi)
    (h : Q (((sIx n 0 lo : Nat) : Int), 1, sIx n n hi - sIx n 0 lo) s) : wpAny (model prog w) A (Builtin.Slice.sliceApplied (.ref sl) (pure (n : Int))) Q E s := by
  obtain ⟨os, hos, hcs, hds⟩ := id hs
  unfold Builtin.Slice.sliceApplied Builtin.Slice.sliceFields
  refine wpAny_bind (wpAny_bind (wpAny_field hos hds (x := vl) rfl (wpAny_bind (wpAny_field hos hds (x := vu) rfl (wpAny_bind (wpAny_field hos hds (x := .none) rfl (wpAny_pure ?_)))))))
  refine wpAny_bind (slicePart_none ?_)
  show wpAny _ _ (if ((1 : Int) == 0) = true then _ else _) _ _ s
  rw [if_neg (by decide)]
  refine wpAny_bind (slicePart_ pl (wpAny_bind (slicePart_ pu (wpAny_bind (wpAny_pure ?_)))))
  show wpAny _ _ (match Builtin.Slice.sliceAdjust lo hi 1 (n : Int) with | (lo, hi) => pure (lo, (1 : Int), Builtin.Slice.slicePlaces lo hi 1)) _ _ s
  rw [adjust_gen lo hi n]
  show wpAny _ _ (pure (((sIx n 0 lo : Nat) : Int), (1 : Int), Builtin.Slice.slicePlaces ((sIx n 0 lo : Nat) : Int) ((sIx n n hi : Nat) : Int) 1)) _ _ s
  rw [places_gen]
  exact wpAny_pure h
theorem pick_gen (xs : Array Value) (i k : Nat) : ((List.range k).filterMap fun (m : Nat) => xs[((i : Int) + (m : Int) * 1).toNat]?).toArray = ((xs.toList.drop i).take k).toArray := by
  have e : (fun (m : Nat) => xs[((i : Int) + (m : Int) * 1).toNat]?) = fun m => xs[i + m]? := by
    funext m
    have : ((i : Int) + (m : Int) * 1).toNat = i + m := by omega
    rw [this]
  rw [e]
  have := pick_run xs i k
  rw [List.filterMap_map] at this
  have e2 : ((fun x => xs[x]?) ∘ fun x => i + x) = fun m => xs[i + m]? := rfl
  rw [e2] at this
  rw [this]

theorem getItem_tuple_cut {t sl : Addr} {items : Array Value} {vl vu : Value} {lo hi : Option Int} {Q : Value → Shared → Prop} (ht : IsTup s.heap t items) (hs : s.heap.IsSliceOf sl vl vu .none) (pl : IsPart vl lo) (pu : IsPart vu hi)
    (hw : ¬ (sIx items.size 0 lo = 0 ∧ sIx items.size items.size hi = items.size))
    (h : Q (.ref s.heap.objs.size) { s with heap := s.heap.push { cls := .type "tuple", data := .seq ((items.toList.drop (sIx items.size 0 lo)).take (sIx items.size items.size hi - sIx items.size 0 lo)).toArray } })
    (hsz : items.size ≤ sizeLine) : wpAny (model prog w) A (getItem (.ref t) (.ref sl)) Q E s := by
  have htake : sizeOk (.seq ((items.toList.drop (sIx items.size 0 lo)).take (sIx items.size items.size hi - sIx items.size 0 lo)).toArray) := by
    show ((items.toList.drop (sIx items.size 0 lo)).take (sIx items.size items.size hi - sIx items.size 0 lo)).toArray.size ≤ sizeLine
    rw [List.size_toArray, List.length_take, List.length_drop, Array.length_toList]
    omega
  have hj : sIx items.size items.size hi ≤ items.size := sIx_le _ _ (Nat.le_refl _) hi
  obtain ⟨os, hos, hcs, hds⟩ := id hs
  have hTs : s.TypeIs (.ref sl) "slice" := ⟨os, hos, hcs⟩
  unfold getItem
  try with_reducible refine wpAny_holding ?_
  first | refine wpAny_bind (wpAny_pure ?_) | skip
  refine wpAny_bind (wpAny_sequenceKey ht.typeIs (by decide) ?_)
  refine wpAny_bind (wpAny_callSpecial?_slot (name := Str.ofString "__getitem__") ht.typeIs PyProof.Rows.slot_tuple_getitem
    (wpAny_call_entry PyProof.Rows.slot_tuple_getitem ht.typeIs entry_tuple_getitem ?_ (args_tuple_getitem _ _)))
  show wpAny _ _ (Builtin.Tuple.tupleItemsOf (.ref t) >>= _) _ _ s
  refine wpAny_bind (tupleItemsOf_ ht ?_)
  refine wpAny_bind (wpAny_typeOf hTs ?_)
  rw [if_pos (by decide)]
  refine wpAny_bind (sliceApplied_gen hs pl pu ?_)
  have hno : ¬ ((((sIx items.size 0 lo : Nat) : Int) == 0 && (1 : Int) == 1 && (sIx items.size items.size hi - sIx items.size 0 lo) == items.size) = true) := by
    intro q
    rw [Bool.and_eq_true, Bool.and_eq_true] at q
    have q1 : ((sIx items.size 0 lo : Nat) : Int) = 0 := eq_of_beq q.1.1
    have q2 : sIx items.size items.size hi - sIx items.size 0 lo = items.size := eq_of_beq q.2
    exact hw ⟨by omega, by omega⟩
  show wpAny _ _ (if (((sIx items.size 0 lo : Nat) : Int) == 0 && (1 : Int) == 1 && (sIx items.size items.size hi - sIx items.size 0 lo) == items.size) = true then _ else _) _ _ s
  rw [if_neg hno, pick_gen]
  first
    | exact wpAny_bind (m := Builtin.Tuple.tupleExact _) (wpAny_newObj_type (wpAny_pure ⟨_, rfl, wpAny_pure h⟩) htake)
    | exact wpAny_bind (m := Builtin.Tuple.tupleExact _) (wpAny_newObj_type (wpAny_bind (wpAny_pure (wpAny_pure ⟨_, rfl, wpAny_pure h⟩))) htake)
    | exact wpAny_bind (wpAny_bind (m := Builtin.Tuple.tupleExact _) (wpAny_newObj_type (wpAny_pure (wpAny_pure ⟨_, rfl, wpAny_pure h⟩)) htake))
    | exact wpAny_bind (wpAny_bind (m := Builtin.Tuple.tupleExact _) (wpAny_newObj_type (wpAny_pure ⟨_, rfl, wpAny_pure h⟩) htake))
end
end HT

namespace L2
open PySem PySem.Spec PyProof.Rows

/-! ### the parts of a slice -/
noncomputable abbrev TO := St → Hp → (Option Int → Hp → Prop) → Prop
/-- a slice's part (left out, or an int) -/
noncomputable def PO (X : Cx) (e : Option Expr) (t : TO) : Prop :=
  ∀ (pins : List (Addr × Obj)) (s : Shared) (σ : St) (H : Hp) (Q : Option Int → Hp → Prop), Inv X pins σ H s → t σ H Q →
    wpAny (model X.prog X.w) X.A (evalPart e X.env) (fun u s' => ∃ o H', Inv X pins σ H' s' ∧ IsPart u o ∧ Q o H') X.xe s
noncomputable def tNoPart : TO := fun _ H Q => Q none H
noncomputable def tPart (t : TE) : TO := fun σ H Q => t σ H fun x H1 => ∃ i, x = .int i ∧ Q (some i) H1

section
variable {X : Cx} {e : Expr} {te : TE} {lo hi : Option Expr} {tl th : TO} {pos p2 : Pos}

theorem po_none : PO X none tNoPart := by
  intro pins s σ H Q I h
  rw [evalPart_none]
  exact wpAny_pure ⟨none, H, I, .none, h⟩
theorem po_some (h : PE X e te) : PO X (some e) (tPart te) := by
  intro pins s σ H Q I hw
  rw [evalPart_some]
  refine thn (h pins s σ H _ I hw) fun u s1 ⟨x, H1, I1, r1, q1⟩ => ?_
  obtain ⟨i, rfl, q⟩ := q1
  obtain ⟨t, rfl⟩ := r1
  exact ⟨some i, H1, I1, .int i t, q⟩

/-- what a slice of a value is, by values: the slice object stands at sl -/
noncomputable def SlR (X : Cx) (r : V → Option Int → Option Int → Hp → VK → Prop) : Prop :=
  ∀ (pins : List (Addr × Obj)) (s : Shared) (σ : St) (H : Hp) (x : V) (v vl vu : Value) (lo hi : Option Int) (sl : Addr) (Q : VK), Inv X pins σ H s → RelV x v → s.heap.IsSliceOf sl vl vu .none → IsPart vl lo → IsPart vu hi → r x lo hi H Q →
    ∃ T id, typeLookup (.type T) "__getitem__" = pure (some (.builtin id)) ∧ s.TypeIs v T ∧ wpAny (model X.prog X.w) X.A (getItem v (.ref sl)) (EP X pins σ Q) X.xe s
theorem SlR.or {r r' : V → Option Int → Option Int → Hp → VK → Prop} (h : SlR X r) (h' : SlR X r') : SlR X (fun x lo hi H Q => r x lo hi H Q ∨ r' x lo hi H Q) := by
  intro pins s σ H x v vl vu lo hi sl Q I rx hs pl pu q
  rcases q with q | q
  · exact h pins s σ H x v vl vu lo hi sl Q I rx hs pl pu q
  · exact h' pins s σ H x v vl vu lo hi sl Q I rx hs pl pu q
noncomputable def tSl (r : V → Option Int → Option Int → Hp → VK → Prop) (te : TE) (tl th : TO) : TE := fun σ H Q => te σ H fun x H1 => tl σ H1 fun l H2 => th σ H2 fun u H3 => r x l u H3 Q
/-- a[lo:hi], any a -/
theorem pe_slice {r : V → Option Int → Option Int → Hp → VK → Prop} (hr : SlR X r) (he : PE X e te) (hl : PO X lo tl) (hu : PO X hi th) : PE X (.Subscript e (.Slice lo hi none p2) pos) (tSl r te tl th) := by
  intro pins s σ H Q I h
  refine Subscript_ (thn (he pins s σ H _ I h) fun v s1 ⟨x, H1, I1, r1, q1⟩ => ?_)
  refine wpAny_Slice (thn (hl pins s1 σ H1 _ I1 q1) fun vl s2 ⟨l, H2, I2, pl, q2⟩ => thn (hu pins s2 σ H2 _ I2 q2) fun vu s3 ⟨u, H3, I3, pu, q3⟩ => ?_)
  rw [evalPart_none]
  refine wpAny_pure ?_
  have I4 : Inv X pins σ H3 { s3 with heap := s3.heap.push { cls := .type "slice", data := .fields #[vl, vu, .none] } } := I3.kept (t' := s3.toks) fun b ob q => Heap.get?_push_of_some _ q
  obtain ⟨T, id, hT, ht, hg⟩ := hr pins { s3 with heap := s3.heap.push { cls := .type "slice", data := .fields #[vl, vu, .none] } } σ H3 x v vl vu l u s3.heap.objs.size Q I4 r1 (Heap.IsSliceOf.new ..) pl pu q3
  show wpAny (model X.prog X.w) X.A (subscriptTail e (.Slice lo hi none p2) v (.ref s3.heap.objs.size)) (EP X pins σ Q) X.xe { s3 with heap := s3.heap.push { cls := .type "slice", data := .fields #[vl, vu, .none] } }
  exact tail_any (ops := [.ref s3.heap.objs.size, v]) ht hT hg (by with_unfolding_all rfl)

/-- the items of xs[lo:hi] -/
noncomputable def cutV (xs : List V) (lo hi : Option Int) : List V := (xs.drop (HT.sIx xs.length 0 lo)).take (HT.sIx xs.length xs.length hi - HT.sIx xs.length 0 lo)
theorem cutV_length (xs : List V) (lo hi : Option Int) : (cutV xs lo hi).length ≤ xs.length := by
  unfold cutV
  rw [List.length_take, List.length_drop]
  omega
/-- t[lo:hi], not the whole of it (the whole would be t itself) -/
noncomputable def rSlT (K : PySem.W.Frag) : V → Option Int → Option Int → Hp → VK → Prop := fun x lo hi H Q => ∃ a xs, x = .ref a ∧ SqT K H a xs ∧
  ¬ (HT.sIx xs.length 0 lo = 0 ∧ HT.sIx xs.length xs.length hi = xs.length) ∧ ∀ p, H p = none → Q (.ref p) (upd H p (.tup (cutV xs lo hi)))
theorem sl_tup : SlR X (rSlT X.K) := by
  intro pins s σ H x v vl vu lo hi sl Q I rx hs pl pu h
  obtain ⟨a, xs, rfl, hx, hw, q⟩ := h
  cases rx
  obtain ⟨its, r, ht, hz⟩ := I.tuple hx
  have hlen : its.toArray.size = xs.length := by rw [List.size_toArray]; exact r.length.symm
  refine ⟨"tuple", _, PyProof.Rows.slot_tuple_getitem.lookup, ht.typeIs, ?_⟩
  refine HT.getItem_tuple_cut ht hs pl pu (by rw [hlen]; exact hw) ?_ (by rw [hlen]; exact hz)
  rw [hlen]
  refine ⟨.ref s.heap.objs.size, _, I.laid (t' := s.toks) (o := .tup (cutV xs lo hi)) (fun b ob q => Heap.get?_push_of_some _ q) (Nat.le_refl _) ?_, rfl, q _ (I.hok.fresh (Nat.le_refl _))⟩
  exact ⟨Nat.le_trans (cutV_length xs lo hi) hz, _, (r.drop (HT.sIx xs.length 0 lo)).take (HT.sIx xs.length xs.length hi - HT.sIx xs.length 0 lo), IsTup.new _ _⟩

/-! ### t < u, t + u -/
/-- t + u, t not empty: u empty gives t itself -/
noncomputable def rCatT (K : PySem.W.Frag) : R2 := fun x y H Q => ∃ a b xs ys, x = .ref a ∧ y = .ref b ∧ SqT K H a xs ∧ SqT K H b ys ∧ xs ≠ [] ∧ xs.length + ys.length ≤ sizeLine ∧
  (ys = [] → Q (.ref a) H) ∧ (ys ≠ [] → ∀ p, H p = none → Q (.ref p) (upd H p (.tup (xs ++ ys))))
theorem Vals.nil_iff {xs : List V} {us : List Value} (r : Vals xs us) : us = [] ↔ xs = [] := by
  cases r with
  | nil => simp
  | cons _ _ => simp
theorem op_catT : OpR X (binaryOp .Add) (rCatT X.K) := by
  intro pins s σ H x y v u Q I rx ry h
  obtain ⟨a, b, xs, ys, rfl, rfl, ha, hb, hx, hz, q1, q2⟩ := h
  cases rx
  cases ry
  obtain ⟨its, r1, p1, _⟩ := I.tuple ha
  obtain ⟨its2, r2, p2, _⟩ := I.tuple hb
  refine HT.cat_tup p1 p2 (fun z => hx (r1.nil_iff.mp z)) (fun z => ⟨.ref a, H, I, rfl, q1 (r2.nil_iff.mp z)⟩) (fun z => ?_) (by rw [← r1.length, ← r2.length]; exact hz)
  refine ⟨.ref s.heap.objs.size, _, I.laid (t' := s.toks) (o := .tup (xs ++ ys)) (fun b ob q => Heap.get?_push_of_some _ q) (Nat.le_refl _) ?_, rfl, q2 (fun w => z (r2.nil_iff.mpr w)) _ (I.hok.fresh (Nat.le_refl _))⟩
  exact ⟨by rw [List.length_append]; exact hz, _, r1.append r2, IsTup.new _ _⟩
end
end L2

namespace L2
open PySem PySem.Spec PyProof.Rows

/-! ### places -/
/-- the place that an index of any sign means -/
noncomputable def ixN (n : Nat) (i : Int) : Option Nat := if 0 ≤ i then (if i < n then some i.toNat else none) else if -(n : Int) ≤ i then some (i + n).toNat else none
noncomputable def atI {α : Type} (xs : List α) (i : Int) : Option α := (ixN xs.length i).bind fun j => xs[j]?
theorem ixN_seq {n : Nat} {i : Int} {j : Nat} (h : ixN n i = some j) : seqIndex? i n = some j ∧ j < n ∧ -(n : Int) ≤ i ∧ i < n := by
  unfold ixN at h
  by_cases h0 : 0 ≤ i
  · rw [if_pos h0] at h
    by_cases h1 : i < n
    · rw [if_pos h1] at h
      have e : i.toNat = j := Option.some.inj h
      exact ⟨by rw [seqIndex_of h0 h1, e], by omega, by omega, h1⟩
    · rw [if_neg h1] at h; cases h
  · rw [if_neg h0] at h
    by_cases h1 : -(n : Int) ≤ i
    · rw [if_pos h1] at h
      have e : (i + n).toNat = j := Option.some.inj h
      exact ⟨by rw [seqIndex_neg (by omega) h1, e], by omega, h1, by omega⟩
    · rw [if_neg h1] at h; cases h
theorem atI_get {α : Type} {xs : List α} {i : Int} {v : α} (h : atI xs i = some v) : ∃ j, seqIndex? i xs.length = some j ∧ xs[j]? = some v ∧ j < xs.length ∧ -(xs.length : Int) ≤ i ∧ i < xs.length := by
  unfold atI at h
  cases e : ixN xs.length i with
  | none => rw [e] at h; cases h
  | some j =>
    rw [e] at h
    obtain ⟨h1, h2, h3, h4⟩ := ixN_seq e
    exact ⟨j, h1, h, h2, h3, h4⟩
theorem atI_nat {α : Type} {xs : List α} {j : Nat} {v : α} (h : xs[j]? = some v) : atI xs (j : Int) = some v := by
  have hj : j < xs.length := (List.getElem?_eq_some_iff.mp h).1
  have e : ixN xs.length (j : Int) = some j := by
    unfold ixN
    rw [if_pos (by omega), if_pos (by omega)]; simp
  unfold atI; rw [e]; exact h
/-! ### what may be subscripted -/
/-- what stands as an index of a plain subscript -/
noncomputable def PlainIx (b : Expr) : Prop := ∀ o i, subscripted b false o i = operate [o, i] (getItem o i)
/-- a subscript by values -/
noncomputable def IxR (X : Cx) (r : R2) : Prop :=
  ∀ (value slice : Expr) (pins : List (Addr × Obj)) (s : Shared) (σ : St) (H : Hp) (x y : V) (v u : Value) (Q : VK), Inv X pins σ H s → RelV x v → RelV y u → r x y H Q →
    subscripted slice false v u = operate [v, u] (getItem v u) → wpAny (model X.prog X.w) X.A (subscriptTail value slice v u) (EP X pins σ Q) X.xe s
/-- a call of a builtin's method by values: the receiver, the arguments -/
noncomputable def MtR (X : Cx) (id : String) (r : V → List V → Hp → VK → Prop) : Prop :=
  ∀ (pins : List (Addr × Obj)) (s : Shared) (σ : St) (H : Hp) (x : V) (xs : List V) (v : Value) (us : List Value) (Q : VK), Inv X pins σ H s → RelV x v → Vals xs us → r x xs H Q →
    wpAny (model X.prog X.w) X.A (call (.builtin id) (v :: us)) (EP X pins σ Q) X.xe s
section
variable {X : Cx} {a b : Expr} {ta tb : TE} {pos : Pos}
theorem IxR.or {r r' : R2} (h : IxR X r) (h' : IxR X r') : IxR X (fun x y H Q => r x y H Q ∨ r' x y H Q) := by
  intro value slice pins s σ H x y v u Q I rx ry q hs
  rcases q with q | q
  · exact h value slice pins s σ H x y v u Q I rx ry q hs
  · exact h' value slice pins s σ H x y v u Q I rx ry q hs
/-- a[b] -/
theorem pe_ix {r : R2} (hr : IxR X r) (ha : PE X a ta) (hb : PE X b tb) (hs : PlainIx b) : PE X (.Subscript a b pos) (tOp r ta tb) := by
  intro pins s σ H Q I h
  exact Subscript_ (binT ha hb I h fun v u s2 x y H2 I2 rx ry q => hr a b pins s2 σ H2 x y v u Q I2 rx ry q (hs _ _))

noncomputable def rIxL (K : PySem.W.Frag) : R2 := fun x y H Q => ∃ p xs i v, x = .ref p ∧ y = .int i ∧ SqL K H p xs ∧ atI xs i = some v ∧ Q v H
noncomputable def rIxT (K : PySem.W.Frag) : R2 := fun x y H Q => ∃ p xs i v, x = .ref p ∧ y = .int i ∧ SqT K H p xs ∧ atI xs i = some v ∧ Q v H
noncomputable def rIxS : R2 := fun x y H Q => ∃ z i c, x = .str z ∧ y = .int i ∧ z.length ≤ sizeLine ∧ atI z.cps.toList i = some c ∧ Q (.str ⟨#[c]⟩) H
theorem ix_list : IxR X (rIxL X.K) := by
  intro value slice pins s σ H x y v u Q I rx ry h hs
  obtain ⟨p, xs, i, z, rfl, rfl, hq, he, q⟩ := h
  cases rx
  obtain ⟨t, rfl⟩ := ry
  obtain ⟨its, r, pl, hz⟩ := I.list hq
  obtain ⟨j, h1, h2, h3, h4, h5⟩ := atI_get he
  obtain ⟨w, ew, rw'⟩ := r.get h2
  have hl := r.length
  have hn := line63
  have fin : EP X pins σ Q w s := ⟨z, H, I, rw', q⟩
  by_cases h0 : 0 ≤ i
  · have hj : i.toNat = j := by
      rw [seqIndex_of h0 h5] at h1
      exact Option.some.inj h1
    exact item_listR pl.isList h0 (by omega) (by rw [hj]; simpa using ew) fin hs
  · have hj : (i + (its.toArray.size : Int)).toNat = j := by
      rw [seqIndex_neg (by omega) h4] at h1
      rw [List.size_toArray, ← hl]
      exact Option.some.inj h1
    exact subscriptTail_builtinR (x := w) pl.isList.typeIs slot_list_getitem.lookup
      (wpAny_getItem_list_neg (Q := fun r s' => r = w ∧ EP X pins σ Q r s') pl.isList (by omega) (by rw [List.size_toArray] <;> omega) (by omega) (by rw [hj]; simpa using ew) ⟨rfl, fin⟩) hs
theorem ix_tup : IxR X (rIxT X.K) := by
  intro value slice pins s σ H x y v u Q I rx ry h hs
  obtain ⟨p, xs, i, z, rfl, rfl, hq, he, q⟩ := h
  cases rx
  obtain ⟨t, rfl⟩ := ry
  obtain ⟨its, r, pl, hz⟩ := I.tuple hq
  obtain ⟨j, h1, h2, h3, h4, h5⟩ := atI_get he
  obtain ⟨w, ew, rw'⟩ := r.get h2
  have hl := r.length
  have hn := line63
  have fin : EP X pins σ Q w s := ⟨z, H, I, rw', q⟩
  exact subscriptTail_builtinR (x := w) pl.typeIs slot_tuple_getitem.lookup
    (getItem_tuple (j := j) (Q := fun r s' => r = w ∧ EP X pins σ Q r s') pl (by omega) (by omega) (by rw [List.size_toArray, ← hl]; exact h1) (by simpa using ew) ⟨rfl, fin⟩) hs
theorem ix_str : IxR X rIxS := by
  intro value slice pins s σ H x y v u Q I rx ry h hs
  obtain ⟨z, i, c, rfl, rfl, hz, he, q⟩ := h
  obtain ⟨t, rfl⟩ := rx
  obtain ⟨t', rfl⟩ := ry
  obtain ⟨j, h1, h2, h3, h4, h5⟩ := atI_get he
  have hl : z.cps.toList.length = z.length := by simp [Str.length]
  rw [hl] at h1 h4 h5
  have hn := line63
  exact tail_any (typeIs_str s z t) slot_str_getitem.lookup (getItem_str (c := c) (by
    have e1 : decide (i < -(2 ^ 63 : Int)) = false := decide_eq_false (by omega)
    have e2 : decide (i ≥ 2 ^ 63) = false := decide_eq_false (by omega)
    rw [e1, e2, Bool.or_false]) (by rw [h1]; simpa using h2) ⟨.str ⟨#[c]⟩, H, I.tok _, ⟨_, rfl⟩, q⟩) hs
/-- list, tuple or str -/
noncomputable def rIx (K : PySem.W.Frag) : R2 := fun x y H Q => rIxL K x y H Q ∨ rIxT K x y H Q ∨ rIxS x y H Q
theorem ix_seq : IxR X (rIx X.K) := ix_list.or (ix_tup.or ix_str)

/-! ### xs[i] = v, any sign -/
/-! ### slices -/
theorem slice_bounds (lo hi : Option Int) (n : Nat) : (sliceBounds lo hi none n).1 = ((HT.sIx n 0 lo : Nat) : Int) ∧ (sliceBounds lo hi none n).2.1 = ((HT.sIx n n hi : Nat) : Int) ∧ (sliceBounds lo hi none n).2.2 = 1 := by
  refine ⟨?_, ?_, rfl⟩
  · cases lo with
    | none => simp [sliceBounds, HT.sIx]
    | some i =>
      simp only [sliceBounds, HT.sIx, Option.getD_none, show (1 : Int) > 0 by decide, if_true]
      by_cases h : i < 0
      · simp only [h, if_true] <;> omega
      · simp only [h, if_false] <;> omega
  · cases hi with
    | none => simp [sliceBounds, HT.sIx]
    | some i =>
      simp only [sliceBounds, HT.sIx, Option.getD_none, show (1 : Int) > 0 by decide, if_true]
      by_cases h : i < 0
      · simp only [h, if_true] <;> omega
      · simp only [h, if_false] <;> omega
theorem slicePick_cut (its : List Value) (lo hi : Option Int) : slicePick its.toArray lo hi none = ((its.drop (HT.sIx its.length 0 lo)).take (HT.sIx its.length its.length hi - HT.sIx its.length 0 lo)).toArray := by
  obtain ⟨h1, h2, h3⟩ := slice_bounds lo hi its.toArray.size
  unfold slicePick
  rw [h1, h2, h3]
  simp only [sliceRange_one, pick_run, List.size_toArray] <;> rfl
/-- xs[lo:hi] of a list: a new list -/
noncomputable def rSlL (K : PySem.W.Frag) : V → Option Int → Option Int → Hp → VK → Prop := fun x lo hi H Q => ∃ a xs, x = .ref a ∧ SqL K H a xs ∧ ∀ p, H p = none → Q (.ref p) (upd H p (.lst (cutV xs lo hi)))
theorem sl_list : SlR X (rSlL X.K) := by
  intro pins s σ H x v vl vu lo hi sl Q I rx hs pl pu h
  obtain ⟨a, xs, rfl, hx, q⟩ := h
  cases rx
  obtain ⟨its, r, ht, hz⟩ := I.list hx
  have hlen := r.length
  refine ⟨"list", _, slot_list_getitem.lookup, ht.isList.typeIs, ?_⟩
  refine wpAny_getItem_list_slice ht.isList hs pl pu .none (by simp) ?_ (by rw [List.size_toArray] <;> omega)
  rw [slicePick_cut, ← hlen]
  refine ⟨.ref s.heap.objs.size, _, I.laid (t' := s.toks) (o := .lst (cutV xs lo hi)) (fun b ob q => Heap.get?_push_of_some _ q) (Nat.le_refl _) ?_, rfl, q _ (I.hok.fresh (Nat.le_refl _))⟩
  exact ⟨Nat.le_trans (cutV_length xs lo hi) hz, _, 0, (r.drop (HT.sIx xs.length 0 lo)).take (HT.sIx xs.length xs.length hi - HT.sIx xs.length 0 lo), Heap.get?_push_size _ rfl⟩

/-! ### in, not in: flat items -/
noncomputable def flatV : V → Bool
  | .non => true
  | .bl _ => true
  | .int _ => true
  | .str _ => true
  | _ => false
/-- == of flat values -/
noncomputable def eqV : V → V → Bool
  | .non, .non => true
  | .bl a, .bl b => a == b
  | .bl a, .int b => (if a then 1 else 0) == b
  | .int a, .bl b => a == (if b then 1 else 0)
  | .int a, .int b => a == b
  | .str a, .str b => a == b
  | _, _ => false
theorem eqAt_V {A : Around} {s : Shared} {y x : V} {u v : Value} (ry : RelV y u) (rx : RelV x v) (fy : flatV y = true) (fx : flatV x = true) : SeqAt.EqAt A s u v (eqV y x) := by
  cases y with
  | non =>
    cases ry
    cases x with
    | non => cases rx; exact SeqAt.EqAt.same _
    | bl b => cases rx; exact SeqAt.EqAt.none_bool b
    | int b => obtain ⟨t, rfl⟩ := rx; exact SeqAt.EqAt.none_int b t
    | str b => obtain ⟨t, rfl⟩ := rx; exact SeqAt.EqAt.none_str b t
    | _ => exact absurd (show false = true from fx) Bool.false_ne_true
  | bl a =>
    cases ry
    cases x with
    | non => cases rx; exact SeqAt.EqAt.bool_none a
    | bl b => cases rx; exact SeqAt.EqAt.bool_bool a b
    | int b => obtain ⟨t, rfl⟩ := rx; exact SeqAt.EqAt.bool_int a b t
    | str b => obtain ⟨t, rfl⟩ := rx; exact SeqAt.EqAt.bool_str a b t
    | _ => exact absurd (show false = true from fx) Bool.false_ne_true
  | int a =>
    obtain ⟨t', rfl⟩ := ry
    cases x with
    | non => cases rx; exact SeqAt.EqAt.int_none a t'
    | bl b => cases rx; exact SeqAt.EqAt.int_bool a t' b
    | int b => obtain ⟨t, rfl⟩ := rx; exact SeqAt.EqAt.int_int a t' b t
    | str b => obtain ⟨t, rfl⟩ := rx; exact SeqAt.EqAt.int_str a t' b t
    | _ => exact absurd (show false = true from fx) Bool.false_ne_true
  | str a =>
    obtain ⟨t', rfl⟩ := ry
    cases x with
    | non => cases rx; exact SeqAt.EqAt.str_none a t'
    | bl b => cases rx; exact SeqAt.EqAt.str_bool a t' b
    | int b => obtain ⟨t, rfl⟩ := rx; exact SeqAt.EqAt.str_int a t' b t
    | str b => obtain ⟨t, rfl⟩ := rx; exact SeqAt.EqAt.str_str a t' b t
    | _ => exact absurd (show false = true from fx) Bool.false_ne_true
  | _ => exact absurd (show false = true from fy) Bool.false_ne_true
/-- the items' answers, read off the values (a value's own answer does not lean on its token) -/
noncomputable def eqU (x : V) (u : Value) : Bool := match u with
  | .none => eqV .non x
  | .bool b => eqV (.bl b) x
  | .int i _ => eqV (.int i) x
  | .str z _ => eqV (.str z) x
  | _ => false
theorem eqU_of {x y : V} {u : Value} (r : RelV y u) (f : flatV y = true) : eqU x u = eqV y x := by
  cases y with
  | non => cases r; rfl
  | bl b => cases r; rfl
  | int i => obtain ⟨t, rfl⟩ := r; rfl
  | str z => obtain ⟨t, rfl⟩ := r; rfl
  | _ => exact absurd (show false = true from f) Bool.false_ne_true
theorem any_eqU {x : V} : ∀ {xs : List V} {us : List Value}, Vals xs us → xs.all flatV = true → us.any (eqU x) = xs.any fun y => eqV y x
  | _, _, .nil, _ => rfl
  | y :: xs, u :: us, .cons r t, f => by
    rw [List.all_cons, Bool.and_eq_true] at f
    rw [List.any_cons, List.any_cons, eqU_of r f.1, any_eqU t f.2]
theorem mem_eqAt {A : Around} {s : Shared} {x : V} {v : Value} (rx : RelV x v) (fx : flatV x = true) : ∀ {xs : List V} {us : List Value}, Vals xs us → xs.all flatV = true → ∀ u ∈ us, SeqAt.EqAt A s u v (eqU x u)
  | _, _, .nil, _ => fun u hu => by cases hu
  | y :: xs, u :: us, .cons r t, f => fun u' hu => by
    rw [List.all_cons, Bool.and_eq_true] at f
    rcases List.mem_cons.mp hu with rfl | hu
    · rw [eqU_of r f.1]; exact eqAt_V r rx f.1 fx
    · exact mem_eqAt rx fx t f.2 u' hu
noncomputable def inV (x : V) (xs : List V) : Bool := xs.any fun y => eqV y x
/-- x in a list or tuple of flat items -/
noncomputable def rIn (K : PySem.W.Frag) (neg : Bool) : R2 := fun x y H Q => ∃ p xs, y = .ref p ∧ (SqL K H p xs ∨ SqT K H p xs) ∧ flatV x = true ∧ xs.all flatV = true ∧ Q (.bl (if neg then !inV x xs else inV x xs)) H
theorem op_in_seq : OpR X (compareOp .In) (rIn X.K false) := by
  intro pins s σ H x y v u Q I rx ry h
  obtain ⟨p, xs, rfl, hq, fx, fs, q⟩ := h
  cases ry
  rcases hq with hq | hq
  · obtain ⟨its, r, pl, hz⟩ := I.list hq
    refine SeqAt.in_listAt (eqU x) pl.isList (fun w hw => mem_eqAt rx fx r fs w (by simpa using hw)) ⟨.bl _, H, I, rfl, ?_⟩
    rw [show its.toArray.any (eqU x) = its.any (eqU x) by simp, any_eqU r fs]
    exact q
  · obtain ⟨its, r, pl, hz⟩ := I.tuple hq
    refine SeqAt.in_tupleAt (eqU x) pl (fun w hw => mem_eqAt rx fx r fs w (by simpa using hw)) ⟨.bl _, H, I, rfl, ?_⟩
    rw [show its.toArray.any (eqU x) = its.any (eqU x) by simp, any_eqU r fs]
    exact q
theorem op_notIn_seq : OpR X (compareOp .NotIn) (rIn X.K true) := by
  intro pins s σ H x y v u Q I rx ry h
  obtain ⟨p, xs, rfl, hq, fx, fs, q⟩ := h
  cases ry
  rcases hq with hq | hq
  · obtain ⟨its, r, pl, hz⟩ := I.list hq
    refine SeqAt.notIn_listAt (eqU x) pl.isList (fun w hw => mem_eqAt rx fx r fs w (by simpa using hw)) ⟨.bl _, H, I, rfl, ?_⟩
    rw [show its.toArray.any (eqU x) = its.any (eqU x) by simp, any_eqU r fs]
    exact q
  · obtain ⟨its, r, pl, hz⟩ := I.tuple hq
    refine SeqAt.notIn_tupleAt (eqU x) pl (fun w hw => mem_eqAt rx fx r fs w (by simpa using hw)) ⟨.bl _, H, I, rfl, ?_⟩
    rw [show its.toArray.any (eqU x) = its.any (eqU x) by simp, any_eqU r fs]
    exact q
/-! ### len, list(x), tuple(x) of any list or tuple that is read -/
theorem call_len_seq : CallR X (.builtin "len") (fun xs H Q => ∃ p ys, xs = [.ref p] ∧ (SqL X.K H p ys ∨ SqT X.K H p ys) ∧ Q (.int ys.length) H) := by
  intro pins s σ H xs us Q I r h
  obtain ⟨p, ys, rfl, hq, q⟩ := h
  obtain ⟨u, rfl, rx⟩ := vals1 r
  cases rx
  have hn := line63
  rcases hq with hq | hq
  · obtain ⟨its, r', pl, hz⟩ := I.list hq
    have hlen := r'.length
    exact Calls.call_len_list pl.isList (by simp only [List.size_toArray] <;> omega) ⟨.int ys.length, H, I.tok _, ⟨s.toks + 1, by rw [List.size_toArray, hlen]⟩, q⟩
  · obtain ⟨its, r', pl, hz⟩ := I.tuple hq
    have hlen := r'.length
    exact len_tuple pl (by simp only [List.size_toArray] <;> omega) ⟨.int ys.length, H, I.tok _, ⟨s.toks + 1, by rw [List.size_toArray, hlen]⟩, q⟩
theorem call_len_str : CallR X (.builtin "len") (fun xs H Q => ∃ z, xs = [.str z] ∧ z.length ≤ sizeLine ∧ Q (.int z.length) H) := by
  intro pins s σ H xs us Q I r h
  obtain ⟨z, rfl, hz, q⟩ := h
  obtain ⟨u, rfl, t, rfl⟩ := vals1 r
  have hn := line63
  exact len_str (by omega) ⟨.int z.length, H, I.tok _, ⟨_, rfl⟩, q⟩
theorem call_list_of : CallR X (.type "list") (fun xs H Q => ∃ p ys, xs = [.ref p] ∧ (SqL X.K H p ys ∨ SqT X.K H p ys) ∧ ∀ l, H l = none → Q (.ref l) (upd H l (.lst ys))) := by
  intro pins s σ H xs us Q I r h
  obtain ⟨p, ys, rfl, hq, q⟩ := h
  obtain ⟨u, rfl, rx⟩ := vals1 r
  cases rx
  have fin : ∀ (its : List Value), Vals ys its → ys.length ≤ sizeLine → ∀ (h' : Heap) (c' : Nat), (∀ b o', s.heap.get? b = some o' → h'.get? b = some o') →
      h'.get? s.heap.objs.size = some { cls := .type "list", dict := none, data := .seq its.toArray c', slots := #[] } → EP X pins σ Q (.ref s.heap.objs.size) { s with heap := h' } := fun its r' hz h' c' kp e =>
    ⟨.ref s.heap.objs.size, _, I.laid (t' := s.toks) kp (Nat.le_refl _) (show ObjOk X.prog X.w _ h' _ (.lst ys) from ⟨hz, its, c', r', e⟩), rfl, q _ (I.hok.fresh (Nat.le_refl _))⟩
  rcases hq with hq | hq
  · obtain ⟨its, r', pl, hz⟩ := I.list hq
    have hlen := r'.length
    obtain ⟨o, ho, hc, n, hd⟩ := pl.isList
    exact call_list_seq p (.inl rfl) ho hc hd (fun h' c' kp e => fin its r' hz h' c' kp e) (by simp only [List.size_toArray] <;> omega)
  · obtain ⟨its, r', pl, hz⟩ := I.tuple hq
    have hlen := r'.length
    obtain ⟨o, ho, hc, n, hd⟩ := pl
    exact call_list_seq p (.inr rfl) ho hc hd (fun h' c' kp e => fin its r' hz h' c' kp e) (by simp only [List.size_toArray] <;> omega)
theorem call_tuple_of : CallR X (.type "tuple") (fun xs H Q => ∃ p ys, xs = [.ref p] ∧ ((SqL X.K H p ys ∧ ∀ l, H l = none → Q (.ref l) (upd H l (.tup ys))) ∨ (SqT X.K H p ys ∧ Q (.ref p) H))) := by
  intro pins s σ H xs us Q I r h
  obtain ⟨p, ys, rfl, h⟩ := h
  obtain ⟨u, rfl, rx⟩ := vals1 r
  cases rx
  rcases h with ⟨hq, q⟩ | ⟨hq, q⟩
  · obtain ⟨its, r', pl, hz⟩ := I.list hq
    have hlen := r'.length
    refine call_tuple_list pl.isList (fun h' kp => ?_) (by simp only [List.size_toArray] <;> omega)
    have I1 : Inv X pins σ H { s with heap := h' } := I.kept (t' := s.toks) kp
    have I2 : Inv X pins σ (upd H h'.objs.size (.tup ys)) { s with heap := h'.push { cls := .type "tuple", data := .seq its.toArray } } :=
      I1.laid (t' := s.toks) (fun b o e => Heap.get?_push_of_some _ e) (Nat.le_refl _) (show ObjOk X.prog X.w _ _ _ (.tup ys) from ⟨hz, its, r', IsTup.new _ _⟩)
    exact ⟨.ref h'.objs.size, _, I2, rfl, q _ (I1.hok.fresh (Nat.le_refl _))⟩
  · obtain ⟨its, r', pl, hz⟩ := I.tuple hq
    exact call_tuple_same pl ⟨.ref p, H, I, rfl, q⟩

/-! ### the call of a builtin's method: o.m(..) -/
/-- the value is of that builtin type -/
noncomputable def tyV (K : PySem.W.Frag) (T : String) (x : V) (H : Hp) : Prop := match x with
  | .str _ => T = "str"
  | .int _ => T = "int"
  | .ref p => (T = "list" ∧ ∃ xs, SqL K H p xs) ∨ (T = "tuple" ∧ ∃ o, K.lookup p = some o ∧ o.cls = .type "tuple" ∧ o.dict = none) ∨
      (T = "dict" ∧ ((∃ kvs, H p = some (.dK kvs)) ∨ ∃ kvs, H p = some (.dT kvs))) ∨ (T = "set" ∧ ∃ S n, H p = some (.set S n))
  | _ => False
theorem tyV_is {pins : List (Addr × Obj)} {σ : St} {H : Hp} {s : Shared} {T : String} {x : V} {v : Value} (I : Inv X pins σ H s) (r : RelV x v) (ty : tyV X.K T x H) :
    s.TypeIs v T ∧ ∀ a, v = .ref a → ∃ ob, s.heap.get? a = some ob ∧ ob.dict = none := by
  cases x with
  | str z =>
    obtain ⟨t, rfl⟩ := r
    cases (show T = "str" from ty)
    exact ⟨typeIs_str s z t, fun _ e => nomatch e⟩
  | int i =>
    obtain ⟨t, rfl⟩ := r
    cases (show T = "int" from ty)
    exact ⟨typeIs_int s i t, fun _ e => nomatch e⟩
  | ref p =>
    cases r
    rcases ty with ⟨rfl, xs, hq⟩ | ⟨rfl, o, hk, hc, hd⟩ | ⟨rfl, hk⟩ | ⟨rfl, S, n, hk⟩
    · obtain ⟨its, _, pl, _⟩ := I.list hq
      refine ⟨pl.isList.typeIs, fun a e => ?_⟩
      cases e
      obtain ⟨o, n, e, c, hd, _⟩ := pl
      exact ⟨o, e, hd⟩
    · refine ⟨⟨o, I.kIn p o hk, hc⟩, fun a e => ?_⟩
      cases e
      exact ⟨o, I.kIn _ o hk, hd⟩
    · have z : ∃ o, s.heap.get? p = some o ∧ o.ExactDict := by
        rcases hk with ⟨kvs, hk⟩ | ⟨kvs, hk⟩
        · obtain ⟨_, _, _, _, o, _, _, e, ex, _⟩ := I.hok p _ hk
          exact ⟨o, e, ex⟩
        · obtain ⟨_, _, _, _, o, _, _, e, ex, _⟩ := I.hok p _ hk
          exact ⟨o, e, ex⟩
      obtain ⟨o, e, ex⟩ := z
      refine ⟨⟨o, e, ex.1⟩, fun a e2 => ?_⟩
      cases e2
      exact ⟨o, e, ex.2.1⟩
    · obtain ⟨o, _, _, _, e, ex, _⟩ := I.hok p _ hk
      refine ⟨⟨o, e, ex.1⟩, fun a e2 => ?_⟩
      cases e2
      exact ⟨o, e, ex.2.1⟩
  | _ => exact False.elim ty
noncomputable def tBM0 (K : PySem.W.Frag) (T : String) (r : V → List V → Hp → VK → Prop) (to : TE) : TE := fun σ H Q => to σ H fun x H1 => tyV K T x H1 ∧ r x [] H1 Q
noncomputable def tBM (K : PySem.W.Frag) (T : String) (r : V → List V → Hp → VK → Prop) (to : TE) (t : TA) : TE := fun σ H Q => to σ H fun x H1 => tyV K T x H1 ∧ t σ H1 fun xs H2 => r x xs H2 Q
variable {o e : Expr} {es : List Expr} {to : TE} {t : TA} {name : Str} {apos cpos : Pos} {T id : String} {r : V → List V → Hp → VK → Prop}
theorem pe_bm0 (pa : PlainAttrs T) (slot : Slot T name id) (hty : typeOf (.builtin id) = pure (.type "method_descriptor")) (hm : MtR X id r) (ho : PE X o to)
    (hbase : attributeBase o name X.env (eval o X.env) = eval o X.env := by rfl) (hline : (apos.endLine == cpos.line) = true := by rfl) : PE X (.Call (.Attribute o name apos) [] [] cpos) (tBM0 X.K T r to) := by
  intro pins s σ H Q I h
  refine wpAny_Call_method0_late hbase hline (thn (ho pins s σ H _ I h) fun v s1 ⟨x, H1, I1, r1, ty, q1⟩ => ?_)
  obtain ⟨h1, h2⟩ := tyV_is I1 r1 ty
  exact ⟨T, id, pa, slot, hty, h1, h2, Calls.callWith_builtin rfl (PySem.evalArgs_none (hm pins s1 σ H1 x [] v [] Q I1 r1 .nil q1))⟩
theorem pe_bm (pa : PlainAttrs T) (slot : Slot T name id) (hty : typeOf (.builtin id) = pure (.type "method_descriptor")) (hm : MtR X id r) (ho : PE X o to) (ha : PA X (e :: es) t)
    (hbase : attributeBase o name X.env (eval o X.env) = eval o X.env := by rfl)
    (hfew : ((backTo cpos (starEach (e :: es) X.env)).all (fun x => !x.1) && (backToKw cpos (keywordEach [] X.env)).all (fun x => x.1.isSome)
      && decide ((e :: es).length + ([] : List Keyword).length + (if ([] : List Keyword).isEmpty then 0 else 1) < 30)) = true := by rfl)
    (hline : (apos.endLine == cpos.line) = true := by rfl) (hs : starEach (e :: es) X.env = (false, eval e X.env) :: starEach es X.env := by rfl) (hplain : (backTo cpos (starEach es X.env)).any (·.1) = false := by rfl) :
    PE X (.Call (.Attribute o name apos) (e :: es) [] cpos) (tBM X.K T r to t) := by
  intro pins s σ H Q I h
  refine wpAny_Call_method_late hbase hfew hline rfl (thn (ho pins s σ H _ I h) fun v s1 ⟨x, H1, I1, r1, ty, q1⟩ => ?_)
  obtain ⟨h1, h2⟩ := tyV_is I1 r1 ty
  refine ⟨T, id, pa, slot, hty, h1, h2, ?_⟩
  have hA := ha cpos pins s1 σ H1 _ I1 q1
  rw [hs] at hA ⊢
  refine Calls.callWith_builtin (by show (false || (backTo cpos (starEach es X.env)).any (·.1)) = false; rw [hplain] <;> rfl) (Calls.evalArgs_plain ?_)
  exact thn hA fun us s2 ⟨vs, H2, I2, r2, q2⟩ => hm pins s2 σ H2 x vs v us Q I2 r1 r2 q2
/- xs.append(e), list.index on a module's tuple .. are MtR facts of 06m -/
end
end L2

namespace L2
open PySem PySem.Spec PyProof.Rows

noncomputable def MtM (X : Cx) (id : String) (r : V → List V → Hp → VK → Prop) : Prop :=
  ∀ (pins : List (Addr × Obj)) (s : Shared) (σ : St) (H : Hp) (x : V) (xs : List V) (v : Value) (us : List Value) (Q : VK), Inv X pins σ H s → RelV x v → Vals xs us → r x xs H Q →
    wpAny (model X.prog X.w) X.A (call (.builtin id) (v :: us)) (EP X pins σ Q) X.xe s

/-! ### lists of values -/
theorem Vals.one : ∀ {x : V} {us : List Value}, Vals [x] us → ∃ u, us = [u] ∧ RelV x u
  | _, _, .cons r .nil => ⟨_, rfl, r⟩
theorem Vals.two : ∀ {x y : V} {us : List Value}, Vals [x, y] us → ∃ u v, us = [u, v] ∧ RelV x u ∧ RelV y v
  | _, _, _, .cons r (.cons q .nil) => ⟨_, _, rfl, r, q⟩
theorem Vals.zero : ∀ {us : List Value}, Vals [] us → us = []
  | _, .nil => rfl
theorem Vals.dropLast {xs : List V} {us : List Value} (h : Vals xs us) : Vals xs.dropLast us.dropLast := by
  induction h with
  | nil => exact .nil
  | cons r t ih =>
    cases t with
    | nil => exact .nil
    | cons q t' => exact .cons r ih
theorem Vals.reverse {xs : List V} {us : List Value} (h : Vals xs us) : Vals xs.reverse us.reverse := by
  induction h with
  | nil => exact .nil
  | cons r t ih => rw [List.reverse_cons, List.reverse_cons]; exact Vals.append ih (.cons r .nil)
theorem erase_last {α : Type} (l : List α) : l.eraseIdx (l.length - 1) = l.dropLast := by
  induction l with
  | nil => rfl
  | cons a r ih =>
    cases r with
    | nil => rfl
    | cons b r =>
      have e : (a :: b :: r).length - 1 = ((b :: r).length - 1) + 1 := by
        have h1 : (a :: b :: r).length = r.length + 2 := rfl
        have h2 : (b :: r).length = r.length + 1 := rfl
        omega
      rw [e, List.eraseIdx_cons_succ, ih]
      all_goals rfl
section
variable {X : Cx} {pins : List (Addr × Obj)} {σ : St} {H : Hp} {s : Shared} {l b : Addr} {xs ys zs : List V}

/-! ### the two steps: a tracked list is rewritten, a new list is laid -/
theorem Inv.lset {its its' : List Value} {n : Nat} {f : Array Value → Array Value} {t' : Nat} (I : Inv X pins σ H s) (hH : H l = some (.lst xs))
    (e : s.heap.get? l = some { cls := .type "list", data := .seq its.toArray n }) (hf : f its.toArray = its'.toArray) (hv : Vals ys its') (hz : ys.length ≤ sizeLine) :
    Inv X pins σ (upd H l (.lst ys)) { s with heap := s.heap.update l (Obj.mapSeq f), toks := t' } := by
  have q := PySem.IsL.update e f
  rw [hf] at q
  refine I.write (x := l) (e := l) (by rw [hH]; exact trivial) (.inl rfl) (fun b' u hb hu => (Heap.get?_update_other s.heap (Obj.mapSeq f) (Ne.symm hb)).trans hu) ⟨_, q⟩ ?_
  exact ⟨hz, its', _, hv, q⟩
theorem Inv.lnew {its : List Value} {t' : Nat} (I : Inv X pins σ H s) (hv : Vals ys its) (hz : ys.length ≤ sizeLine) :
    Inv X pins σ (upd H s.heap.objs.size (.lst ys)) { s with heap := s.heap.push { cls := .type "list", data := .seq its.toArray }, toks := t' } :=
  I.laid (fun _ _ q => Heap.get?_push_of_some _ q) (Nat.le_refl _) ⟨hz, its, 0, hv, Heap.get?_push_size _ rfl⟩
theorem Inv.fresh (I : Inv X pins σ H s) : H s.heap.objs.size = none := I.hok.fresh (Nat.le_refl _)
theorem Inv.lstM (I : Inv X pins σ H s) (hH : H l = some (.lst xs)) : xs.length ≤ sizeLine ∧ ∃ (its : List Value) (n : Nat), Vals xs its ∧ xs.length = its.length ∧ s.heap.get? l = some { cls := .type "list", data := .seq its.toArray n } := by
  obtain ⟨z, its, n, r, e⟩ := I.hok l _ hH
  exact ⟨z, its, n, r, r.length, e⟩

end

section
variable {X : Cx}

/-! ### methods -/
noncomputable def rAppend : V → List V → Hp → VK → Prop := fun x vs H Q => ∃ l xs y, x = .ref l ∧ vs = [y] ∧ H l = some (.lst xs) ∧ xs.length < sizeLine ∧ Q .non (upd H l (.lst (xs ++ [y])))
theorem mt_append : MtM X "list.append" rAppend := by
  intro pins s σ H x vs v us Q I rx rv h
  obtain ⟨l, xs, y, rfl, rfl, hH, hz, q⟩ := h
  cases rx
  obtain ⟨u, rfl, ru⟩ := rv.one
  obtain ⟨z, its, n, r, hl, e⟩ := I.lstM hH
  refine call_meets F.slot_list_append ⟨_, e, rfl⟩ F.entry_list_append (F.args_list_append_2 _ _) (PySem.list_append l its.toArray n u (by rw [List.size_toArray]; omega)) ⟨e, ?_⟩
  refine ⟨.non, _, I.lset (its' := its ++ [u]) hH e (by simp) (r.append (.cons ru .nil)) ?_, rfl, q⟩
  rw [List.length_append, List.length_singleton]
  omega

noncomputable def rPop : V → List V → Hp → VK → Prop := fun x vs H Q => ∃ l xs y, x = .ref l ∧ vs = [] ∧ H l = some (.lst xs) ∧ xs[xs.length - 1]? = some y ∧ Q y (upd H l (.lst xs.dropLast))
theorem mt_pop : MtM X "list.pop" rPop := by
  intro pins s σ H x vs v us Q I rx rv h
  obtain ⟨l, xs, y, rfl, rfl, hH, hy, q⟩ := h
  cases rx
  have hus := rv.zero
  subst hus
  obtain ⟨z, its, n, r, hl, e⟩ := I.lstM hH
  obtain ⟨u, hu, ru⟩ := r.get hy
  have hy' : its.toArray[its.toArray.size - 1]? = some u := by
    show its.toArray[its.length - 1]? = some u
    rw [← Array.getElem?_toList, ← hl]
    exact hu
  refine call_meets F.slot_list_pop ⟨_, e, rfl⟩ F.entry_list_pop (F.args_list_pop_1 _) (MeetsSeq.list_pop_last l its.toArray n u hy' (by rw [List.size_toArray]; omega)) ⟨e, ?_⟩
  refine ⟨y, _, I.lset (its' := its.dropLast) hH e ?_ r.dropLast ?_, ru, q⟩
  · show its.toArray.eraseIdxIfInBounds (its.toArray.size - 1) = its.dropLast.toArray
    rw [List.size_toArray, List.eraseIdxIfInBounds_toArray, erase_last]
  · rw [List.length_dropLast]
    omega

/-! ### list + list, list += list, list * int -/
noncomputable def rCat : R2 := fun x y H Q => ∃ l b xs zs, x = .ref l ∧ y = .ref b ∧ H l = some (.lst xs) ∧ H b = some (.lst zs) ∧ xs.length + zs.length ≤ sizeLine ∧ ∀ p, H p = none → Q (.ref p) (upd H p (.lst (xs ++ zs)))
theorem op_cat : OpR X (binaryOp .Add) rCat := by
  intro pins s σ H x y v u Q I rx ry h
  obtain ⟨l, b, xs, zs, rfl, rfl, hH, hB, hz, q⟩ := h
  cases rx
  cases ry
  obtain ⟨z, its, n, r, hl, e⟩ := I.lstM hH
  obtain ⟨z2, its2, n2, r2, hl2, e2⟩ := I.lstM hB
  refine PySem.P.add_list e e2 ?_ (by rw [List.size_toArray, List.size_toArray]; omega)
  have ea : its.toArray ++ its2.toArray = (its ++ its2).toArray := by simp
  rw [ea]
  exact ⟨.ref _, _, I.lnew (t' := s.toks) (r.append r2) (by rw [List.length_append]; omega), rfl, q _ I.fresh⟩
/-- a list times an int (a negative one is nothing) -/
noncomputable def rRep : R2 := fun x y H Q => ∃ l k xs, x = .ref l ∧ y = .int k ∧ H l = some (.lst xs) ∧ -(2 ^ 63) ≤ k ∧ k < 2 ^ 63 ∧ xs.length * k.toNat ≤ sizeLine ∧
  ∀ p, H p = none → Q (.ref p) (upd H p (.lst (List.replicate k.toNat xs).flatten))
/-! ### del xs[i] -/
end

/-! ### xs[a:b] = ys -/
section
variable {prog : Program} {w : World} {A : Around} {E : Value → Shared → Prop} {s : Shared}
end

section
variable {X : Cx}
end
end L2

namespace Att
open PySem PySem.W PySem.Calls PyProof.Rows

/-! ### the script -/
theorem ints_of_wellAll {P : Params} {h : Heap} : ∀ (ns : List Int) (vs : List Value), WellAll P h vs (ns.map WData.int) → IntsAre vs ns := by
  intro ns
  induction ns with
  | nil =>
    intro vs w
    rw [List.map_nil] at w
    cases w
    exact .nil
  | cons n ns ih =>
    intro vs w
    rw [List.map_cons] at w
    cases w with
    | cons a b =>
      cases a
      exact .cons _ _ (ih _ b)

theorem script_of {l : OpenLaw} {n : Nat} (hn : l.most = some n) {P : Params} {h : Heap} {args : List WData} {vals : List Value}
    (hpre : l.row.toRowW.claim.pre args = true) (hwl : WellAll P h vals args) :
    ∃ a vs ns, vals = [Value.ref a] ∧ args = [WData.list (ns.map WData.int)] ∧ h.get? a = some { cls := .type "list", data := .seq vs.toArray } ∧ IntsAre vs ns ∧ ns.length ≤ n := by
  have hsh : WShape.hasAll [] args [.list .int] = true := (pre_splitW hpre).1
  have hc : l.pre.holds [] { args := args } = true := (pre_splitW hpre).2
  obtain ⟨d, r, rfl, h1, h2⟩ := hasAllW_cons hsh
  obtain rfl := hasAllW_nil h2
  obtain ⟨xs, rfl, h3⟩ := hasW_list h1
  obtain ⟨ns, rfl⟩ := items_int h3
  have hlen : ns.length ≤ n := by
    unfold OpenLaw.pre at hc
    have h4 : (WTm.not (.lt (.lit (.int (n : Int))) (.len (.arg 0)))).holds [] { args := [.list (ns.map .int)] } = true := by
      have h4 := (holds_andW hc).1
      rw [hn] at h4
      exact h4
    have h5 := condW_of h4 (w_not (w_lt w_lit (w_len_list (w_arg rfl))))
    rw [List.length_map] at h5
    refine Nat.le_of_not_lt fun q => ?_
    have q' : (n : Int) < ((ns.length : Nat) : Int) := by omega
    first
      | (rw [decide_eq_true q'] at h5; exact absurd h5 (by decide))
      | (simp at h5; omega)
  cases hwl with
  | cons w1 w2 =>
    cases w2
    cases w1 with
    | list ho hall => exact ⟨_, _, ns, rfl, rfl, ho, ints_of_wellAll ns _ hall, hlen⟩

theorem post_true (l : OpenLaw) (args : List WData) : l.row.toRowW.claim.post args (.bool true) args = true :=
  postW_of (r := l.row.toRowW) (X := (true == true))
    (show WShape.has [] (.bool true) .bool = true by first | rfl | decide | simp [WShape.has, WShape.arms, WShape.armsAll])
    (show (WTm.eq .res (.lit (.bool true))).value [] { args := args, res := some (.bool true), after := args } = some (.bool (true == true)) from w_eq_bool (w_res rfl) w_lit) rfl

/-! ### the attachment: holds_open's last premise (the goal 'hc' behind k_head) from a wpAny of the law's body -/
/-- the same from a codeAny of the CALL (for a layer whose function contracts speak of calls) -/
theorem attach_call {l : OpenLaw} {n : Nat} {q : Program} {loose : List Str} {XP : (Str → Option Value) → Heap → Prop} {YP : World → Heap → Prop} {d : DefRec}
    (hn : l.most = some n) (hdf : d.params.defaults = [])
    (call : ∀ (w : World) (s₀ s₁ : Shared) (mg mb : Str → Option Value) (fa : Addr) (o : Obj) (pm cd doc : Value) (a : Addr) (vs : List Value) (ns : List Int),
      Ground q loose [] XP w s₀ mg mb s₁.heap → YP w s₁.heap →
      s₁.heap.get? fa = some o → o.data = .func (docDef d.name d.params d.body d.scope pm cd doc) → s₁.heap.CodeRec cd d.name → mg d.name = some (.ref fa) →
      s₁.heap.get? a = some { cls := .type "list", data := .seq vs.toArray } → IntsAre vs ns → ns.length ≤ n → s₁.gens = #[] →
      codeAny (model l.prog w) callerA (.call (.ref fa) ⟨[.ref a], []⟩) (fun r s' => r = .ok (.ret (.bool true)) ∧ OldK s₁.heap s'.heap ∧ s'.os = s₁.os ∧ AllBare s'.gens) s₁) :
    WalkO q loose XP YP l.row.toRowW d [] (fun f vs => PySem.call f vs) := by
  intro w s₀ s₁ mg mb G Y fa o pm cd doc dV kV ho hd hcd hD hmg hg args vals as hpre hlay hrd hwl hlo
  obtain rfl : dV = .none := Dflts.none hD hdf
  obtain rfl : kV = .none := Dflts.noKw hD
  obtain ⟨a, vs, ns, rfl, rfl, hobj, hints, hlen⟩ := script_of hn hpre hwl
  refine enter_call (codeAny_mono (call w s₀ s₁ mg mb fa o pm cd doc a vs ns G Y ho (fd_plain hd) hcd hmg hobj hints hlen hg) fun r s' hq => ?_)
  obtain ⟨rfl, h2, h3, h4⟩ := hq
  exact ⟨.inl ⟨.bool true, .bool true, [], rfl, fun _ => rfl, .bool true, post_true l _, fun _ => ⟨List.Pairwise.nil, fun _ hm => (nomatch hm)⟩⟩, h2, h3, h4⟩

/-! ### rules over ANY heap (no ledger) from facts about the written part K: the library's own take a ledger (News) for what they write -/
section
variable {prog : Program} {w : World} {A : Around} {E : Value → Shared → Prop} {s : Shared} {K : Frag}

/-! the whole heap as the ledger: makes every rule that writes through a ledger a rule over any heap -/
noncomputable def ledger (h : Heap) (L d : Addr) : List (Addr × Obj) := (List.range h.objs.size).filterMap fun a => if a = L ∨ a = d then none else (h.get? a).map fun o => (a, o)
end
end Att

namespace L2
open PySem PySem.Spec PyProof.Rows

theorem vals_ints : ∀ {vs : List Value} {ns : List Int}, IntsAre vs ns → Vals (ns.map V.int) vs
  | _, _, .nil => .nil
  | _, _, .cons n t h => .cons ⟨t, rfl⟩ (vals_ints h)

/-- nothing is tracked but the script, known to the object (or it is an object of the module) -/
noncomputable def Only (H : Hp) : Prop := ∀ b, H b = none ∨ ∃ o xs, H b = some (.frz o (.lst xs))

/-- THE HEAD: the law's promise, at the heap behind the top. F, the promise of the law's def, may use that base is part of the heap (so K.In base, base.Ns mainGlobals mg stand in Mod) -/
theorem law_call {P : Program} {w : World} {K : PySem.W.Frag} {mg mb : Str → Option Value} {CX : CXT} {k : Nat} {fa a : Addr} {fd : FuncData} {x : Str} {sp : Sp} {s₁ : Shared} {vs : List Value} {ns : List Int}
    (KX : K.In s₁.heap) (hns : s₁.heap.Ns mainGlobals mg) (hb : s₁.heap.Ns builtinsNs mb) (hbb : ∀ x : Str, x ≠ "__name__" → mb x = bootBuiltins x) (hlim : s₁.heap.NoLimit) (hg : s₁.gens = #[])
    (ha : s₁.heap.get? a = some { cls := .type "list", data := .seq vs.toArray }) (hi : IntsAre vs ns) (hl : ns.length ≤ sizeLine) (hr : Room k callerA)
    (F : ∀ base : Heap, K.In base → base.Ns mainGlobals mg → FnOk P w K mg base CX k fa fd [x] sp) (hbind : ∀ (s : Shared) (u : Value), BindsTo s fd ⟨[u], []⟩ [(x, u)])
    (hsp : ∀ H : Hp, Only H → SqL K H a (ns.map V.int) → sp [.ref a] H (fun v _ => v = .bl true) fun _ _ _ => False)
    (hCX : ∀ H e s', CX [] H s₁ (fun _ _ _ => False) e s' → False) :
    codeAny (model P w) callerA (.call (.ref fa) ⟨[.ref a], []⟩) (fun r s' => r = .ok (.ret (.bool true)) ∧ OldK s₁.heap s'.heap ∧ s'.os = s₁.os ∧ AllBare s'.gens) s₁ := by
  have rv := vals_ints hi
  have lenV := hi.length
  -- from an abstract heap in which nothing but the script may be tracked
  have core : ∀ H : Hp, Only H → SqL K H a (ns.map V.int) → HOk P w H s₁.heap → (∀ b, H b ≠ none → b = a) → (H a ≠ none → K.lookup a = none) →
      codeAny (model P w) callerA (.call (.ref fa) ⟨[.ref a], []⟩) (fun r s' => r = .ok (.ret (.bool true)) ∧ OldK s₁.heap s'.heap ∧ s'.os = s₁.os ∧ AllBare s'.gens) s₁ := by
    intro H hO hS hok hA hK
    have base_of : ∀ {b : Addr} {o : Obj}, s₁.heap.get? b = some o → H b = none → (hidT s₁.heap H).get? b = some o := fun e n => hidT_get e n
    have noA : ∀ {b : Addr} {o : Obj} {es : Array DictEntry} {ep : Nat}, s₁.heap.get? b = some o → o.data = .dict es ep → H b = none := fun {b o es ep} e d => by
      cases q : H b with
      | none => rfl
      | some u =>
        have e' : b = a := hA b (by rw [q]; simp)
        subst e'
        rw [ha] at e; cases e
        have d' : Data.seq vs.toArray _ = Data.dict es ep := d
        cases d'
    have nsK : ∀ {b : Addr} {m : Str → Option Value}, s₁.heap.Ns b m → (hidT s₁.heap H).Ns b m := fun {b m} ⟨o, es, ep, e, d, r⟩ => ⟨o, es, ep, base_of e (noA e d), d, r⟩
    have hKb : K.In (hidT s₁.heap H) := fun b o e => base_of (KX b o e) (by
      cases q : H b with
      | none => rfl
      | some u =>
        have e' : b = a := hA b (by rw [q]; simp)
        subst e'
        rw [hK (by rw [q]; simp)] at e; cases e)
    have hM : Mod K mg (hidT s₁.heap H) := ⟨hKb, nsK hns, ⟨mb, nsK hb, hbb⟩, let ⟨mc, h1, h2⟩ := hlim; ⟨mc, nsK h1, h2⟩⟩
    have e0 : Env0 P w K mg (hidT s₁.heap H) callerA [] s₁ H := ⟨rfl, hM, fun b o e => of_hidT e, Nat.le_of_eq (hidT_size _ _), trivial, fun b hb => absurd (show b ∈ ([] : List Addr) from hb) (by simp), hok, .of_eq hg⟩
    refine codeAny_mono ((F _ hKb (nsK hns)).run callerA [] s₁ H ⟨[.ref a], []⟩ [.ref a] [.ref a] _ _ hr e0 (hbind s₁ (.ref a)) (.cons rfl .nil) (hsp H hO hS)) fun r s' h => ?_
    cases r with
    | error e => exact (hCX H e s' h).elim
    | ok fl =>
      cases fl with
      | next => exact False.elim h
      | brk => exact False.elim h
      | cont => exact False.elim h
      | ret u =>
        obtain ⟨v, H', os, bare, un, hok', r', q⟩ := h
        have q' : v = .bl true := q
        subst q'
        obtain rfl : u = Value.bool true := r'
        refine ⟨rfl, OldK.of_keep fun b o e => ?_, os, bare⟩
        cases q : H b with
        | none => exact un.keep b o e q (by intro z; exact absurd (show b ∈ ([] : List Addr) from z) (by simp)) (by simp)
        | some u =>
          rcases hO b with z | ⟨ob, xs, z⟩
          · rw [q] at z; cases z
          · have z2 := un.frzs b ob _ z
            obtain ⟨e1, _⟩ := hok b _ z
            obtain ⟨e2, _⟩ := hok' b _ z2
            rw [e] at e1; cases e1
            exact e2
  cases hk : K.lookup a with
  | some o =>
    -- the script is one of the module's own objects
    have e := KX a o hk
    rw [ha] at e
    cases e
    refine core (fun _ => none) (fun _ => .inl rfl) (.inr ⟨_, vs.toArray, _, hk, rfl, rfl, rfl, by rw [List.size_toArray, lenV]; exact hl, by simpa using rv⟩) (fun b u z => by have z' : (none : Option HO) = some u := z; cases z') (fun b z => absurd rfl z) fun z => absurd rfl z
  | none =>
    refine core (fun b => if b = a then some (.frz { cls := .type "list", data := .seq vs.toArray } (.lst (ns.map V.int))) else none) (fun b => ?_) (.inl (.inr ⟨{ cls := .type "list", data := .seq vs.toArray }, if_pos rfl⟩)) (fun b u z => ?_) (fun b z => ?_) fun _ => hk
    · by_cases hb : b = a
      · exact .inr ⟨_, _, if_pos hb⟩
      · exact .inl (if_neg hb)
    · by_cases hb : b = a
      · have z' := (if_pos hb).symm.trans z
        cases z'
        subst hb
        exact ⟨ha, by rw [List.length_map]; exact hl, vs, _, rv, ha⟩
      · have z' := (if_neg hb).symm.trans z
        cases z'
    · by_cases hb : b = a
      · exact hb
      · exact absurd (if_neg hb) z
end L2

namespace L2
open PySem PySem.Spec PyProof.Rows

noncomputable abbrev KOf {K : PySem.W.Frag} {h : Heap} (_ : K.In h) : PySem.W.Frag := K

/-- the goal that k_head leaves (case hc), from the law's promise. F gives the function object fd (K's own) once, then the promise over every base -/
theorem walk_of {l : PySem.W.OpenLaw} {n k : Nat} {q : Program} {loose : List Str} {XP : (Str → Option Value) → Heap → Prop} {YP : World → Heap → Prop} {d : DefRec} {K : Params → PySem.W.Frag} {CX : World → CXT} {sp : World → Sp} {x : Str}
    (hn : l.most = some n) (hn2 : n ≤ sizeLine) (hdf : d.params.defaults = []) (hr : Room k callerA)
    (hY : ∀ (w : World) (h : Heap), YP w h → (K w.params).In h)
    (F : ∀ (w : World) (mg : Str → Option Value) (fa : Addr) (h : Heap), (K w.params).In h → h.Ns mainGlobals mg → mg d.name = some (.ref fa) →
      ∃ fd : FuncData, (∀ (s : Shared) (u : Value), BindsTo s fd ⟨[u], []⟩ [(x, u)]) ∧
        ∀ base : Heap, (K w.params).In base → base.Ns mainGlobals mg → FnOk l.prog w (K w.params) mg base (CX w) k fa fd [x] (sp w))
    (hsp : ∀ (w : World) (H : Hp) (a : Addr) (ns : List Int), ns.length ≤ n → Only H → SqL (K w.params) H a (ns.map V.int) → sp w [.ref a] H (fun v _ => v = .bl true) fun _ _ _ => False)
    (hCX : ∀ (w : World) (H : Hp) (s : Shared) (e : Value) (s' : Shared), CX w [] H s (fun _ _ _ => False) e s' → False) :
    PySem.W.WalkO q loose XP YP l.row.toRowW d [] (fun f vs => PySem.call f vs) := by
  refine Att.attach_call hn hdf fun w s₀ s₁ mg mb fa o pm cd doc a vs ns G Y ho hd hcd hmg hobj hints hlen hg => ?_
  have KX := hY w _ Y
  obtain ⟨fd, hb, hF⟩ := F w mg fa _ KX G.T.g hmg
  exact law_call KX G.T.g G.T.b G.T.builtins G.T.nolimit hg hobj hints (Nat.le_trans hlen hn2) hr hF hb (fun H hO hS => hsp w H a ns hlen hO hS) fun H e s' => hCX w H s₁ e s'
end L2

/- THE LAST THEOREM (shape; LID, My.* are yours):
   My.Adr: a structure of the addresses that your layer names (classes, functions); My.Txt K t: a structure (Prop) of the equations over K;
   My.txt_mk : {K} {implicit addresses ..} (e1 : nsIn K mainGlobals "law" = some (some (.ref f))) (e2 : K.lookup f = some ⟨oc, od, .func (fnOf "law" "law" params body scope dV kV doc pm an cdv ct), sl⟩) (e3 : codeIn K cdv "law" = true) .. : ∃ t, My.Txt K t

set_option maxRecDepth 100000 in
set_option maxHeartbeats 0 in
theorem PySem.Challenge.cw_LID_holds : PySem.Challenge.rw_LID.Holds := by
  w_on; o_law; k_head; (case hw => w_witness2)
  k_fill
  refine L2.walk_of (l := PySem.Challenge.rw_LID) (n := 63) (k := 40) (x := "script") (CX := fun w => ..) (sp := fun _ => My.sp_law) rfl (by decide) rfl ⟨rfl, by decide, by decide⟩ (fun w h Y => PySem.W.kIn_of Y) ?F ?S ?C
  case F =>
    intro w mg fa h KX G hmg
    have T : ∃ t, My.Txt (L2.KOf KX) t := by
      dsimp only [L2.KOf]                          -- K must stand as «<heap const> w.params» for k_is
      refine' My.txt_mk ?e1 ?e2 ?e3 ..
      (case e1 => PySem.W.k_is)                    -- in the order: a name -> its address -> its object -> its parts
      (case e2 => PySem.W.k_is)
      ..
    obtain ⟨t, T⟩ := T
    have e0 := hmg.symm.trans (PySem.W.mg_of KX G T.law)
    cases e0                                       -- fa is the law's own address
    exact ⟨_, fun s u => .of_eq rfl, fun base kb nb => My.law_fn T kb nb⟩     -- if «.of_eq rfl» comes too early: refine' ⟨_, ?b, fun base kb nb => My.law_fn T kb nb⟩; exact fun s u => .of_eq rfl
  case S => exact fun w H a ns hl hO hS => ..
  case C => exact ..
(the tactic k_is has no namespace: write k_is) -/

/-! SHORT WORDS over the layer: a def of the text, its body, what a loop and a test want. -/
namespace L2
open PySem PySem.Spec PyProof.Rows

/-! ### the text by places -/
noncomputable def defArgs (s : Stmt) : Arguments := match s with
  | .FunctionDef _ a _ _ _ _ _ _ _ _ => a
  | _ => { posonlyargs := [], args := [], vararg := none, kwonlyargs := [], kw_defaults := [], kwarg := none, defaults := [] }
noncomputable def defBody (s : Stmt) : List Stmt := match s with
  | .FunctionDef _ _ b _ _ _ _ _ _ _ => b
  | _ => []
noncomputable def defScope (s : Stmt) : Scope := match s with
  | .FunctionDef _ _ _ _ _ _ sc _ _ _ => sc
  | _ => { kind := .function, names := [], isGenerator := false, isCoroutine := false }

/-! ### no exception leaves a def -/
noncomputable abbrev CX0 : CXT := fun _ _ _ _ _ _ => False
noncomputable abbrev E0 : XK := fun _ _ _ => False
theorem pass0 {X : Cx} : Passes CX0 X E0 := fun _ _ _ _ _ _ _ h => h.elim

/-! ### a def (or method) of the text as it stands behind the top -/
structure Fun (K : PySem.W.Frag) (x qual : Str) (st : Stmt) (f : Addr) (fd : FuncData) : Prop where
  ex : ∃ (oc : Value) (od : Option Addr) (kV doc pm : Value) (an : Option Addr) (cdv ct : Value) (osl : Array (Option Value)),
    fd = PySem.W.fnOf x qual (defArgs st) (defBody st) (defScope st) .none kV doc pm an cdv ct ∧ K.lookup f = some ⟨oc, od, .func fd, osl⟩ ∧ PySem.W.codeIn K cdv qual = true
  kp : PySem.W.keepIn K (.ref f) = true
section
variable {P : Program} {w : World} {K : PySem.W.Frag} {mg : Str → Option Value} {base : Heap}
/-- THE RULE for a def: its body as a term of rules, and the reading of that term -/
theorem Fun.ok {x qual : Str} {st : Stmt} {f : Addr} {fd : FuncData} {N ps : List Str} {k : Nat} {sp : Sp} (F : Fun K x qual st f fd) (S : FnScope N ps (defScope st)) (len : ∀ vs H Q E, sp vs H Q E → vs.length = ps.length)
    (hbody : ∀ (cdv : Value) (A : Around) (outer : List Env) (s : Shared) (H : Hp) (vs : List V) (Q : VK) (E : XK), Room k (A.deeper (envOfC qual (defScope st) s.heap.objs.size f cdv)) → sp vs H Q E →
      ∃ t, PSs (cxOf CX0 P w K mg base N qual (defScope st) f cdv A outer s H E).nox (defBody st) t ∧ t { nx := fun _ H' => Q .non H', rt := Q } (start N vs) H) : FnOk P w K mg base CX0 (k + 1) f fd ps sp := by
  obtain ⟨oc, od, kV, doc, pm, an, cdv, ct, osl, rfl, lk, hcd⟩ := F.ex
  refine fn_of lk hcd S len fun A outer s H vs Q E hr hsp => ?_
  obtain ⟨t, h, q⟩ := hbody cdv A outer s H vs Q E hr hsp
  exact ⟨t, h.nox, q⟩
/-- how its arguments bind (no defaults): h is «fun _ _ _ _ _ _ us hl => match us, hl with | [_, _], _ => rfl», one _ a parameter -/
theorem Fun.binds {x qual : Str} {st : Stmt} {f : Addr} {fd : FuncData} {ps : List Str} (F : Fun K x qual st f fd)
    (h : ∀ (kV doc pm : Value) (an : Option Addr) (cdv ct : Value) (us : List Value), us.length = ps.length → bindArgs (PySem.W.fnOf x qual (defArgs st) (defBody st) (defScope st) .none kV doc pm an cdv ct) ⟨us, []⟩ = pure (ps.zip us)) : Binds K fd ps [] := by
  obtain ⟨oc, od, kV, doc, pm, an, cdv, ct, osl, rfl, lk, hcd⟩ := F.ex
  exact .all (h kV doc pm an cdv ct)
theorem fun_mk {x qual : Str} {st : Stmt} {f : Addr} {oc : Value} {od an : Option Addr} {osl : Array (Option Value)} {kV doc pm cdv ct : Value} (l : K.lookup f = some ⟨oc, od, .func (PySem.W.fnOf x qual (defArgs st) (defBody st) (defScope st) .none kV doc pm an cdv ct), osl⟩)
    (c : PySem.W.codeIn K cdv qual = true) (k : PySem.W.keepIn K (.ref f) = true) : Fun K x qual st f (PySem.W.fnOf x qual (defArgs st) (defBody st) (defScope st) .none kV doc pm an cdv ct) := ⟨⟨oc, od, kV, doc, pm, an, cdv, ct, osl, rfl, l, c⟩, k⟩
end
theorem small1000 {n : Nat} (h : n ≤ 1000) : n < sizeLine := Nat.lt_of_le_of_lt h (by decide)

/-! ### expressions in short: the name that stands in the i-th slot -/
section
variable {X : Cx}
theorem pv (i : Nat) {x : Str} {pos : Pos} (hN : X.N[i]? = some x := by rfl) (hv : Vis X.env.scope x := by first | exact Or.inl rfl | exact Or.inr (Or.inl rfl) | exact Or.inr (Or.inr rfl)) (hd : (x == ("__debug__" : Str)) = false := by decide)
    (hcd : (x == ("__classdict__" : Str)) = false := by decide) : PE X (.Name x pos) (tVar i) := pe_var hN hv hd hcd
end

/-! ### tests -/
theorem iteF {A B : Prop} (h : B) : if false = true then A else B := by
  rw [if_neg Bool.false_ne_true]
  exact h
theorem iteT {A B : Prop} (h : A) : if true = true then A else B := by
  rw [if_pos rfl]
  exact h
theorem ite2 {c A B : Prop} [Decidable c] (h1 : c → A) (h2 : ¬ c → B) : if c then A else B := by
  by_cases h : c
  · rw [if_pos h]
    exact h1 h
  · rw [if_neg h]
    exact h2 h
/-! ### heaps -/
/-- all that was tracked is as it was -/
noncomputable def Same (H H' : Hp) : Prop := ∀ b o, H b = some o → H' b = some o
end L2

section
set_option Elab.async false
set_option linter.all false
set_option maxRecDepth 100000
/-! A list comprehension of one clause, in the hand layer. -/
namespace L2.Bw
open PySem PySem.Spec PyProof.Rows

/-! ### the cells that a block is handed -/
noncomputable def clOf (env : Env) : List (Str × NameKind) → List (Str × Addr) → List (Str × Addr)
  | [], cs => cs
  | y :: r, cs => clOf env r (if (y.2 == NameKind.free) = true then (match env.cells.lookup y.1 with | some a => (y.1, a) :: cs | none => cs) else cs)
theorem lookup_of_mem {β : Type} : ∀ {l : List (Str × β)} {p : Str × β}, p ∈ l → ∃ c, l.lookup p.1 = some c
  | [], _, h => nomatch h
  | (a, b) :: r, p, h => by
    cases e : p.1 == a with
    | true => exact ⟨b, by simp only [List.lookup_cons, e]⟩
    | false =>
      rcases List.mem_cons.mp h with q | q
      · subst q; simp at e
      · obtain ⟨c, hc⟩ := lookup_of_mem q
        exact ⟨c, by simp only [List.lookup_cons, e]; exact hc⟩
theorem clOf_sub {env : Env} : ∀ {ns : List (Str × NameKind)} {cs : List (Str × Addr)} {p : Str × Addr}, p ∈ clOf env ns cs → p ∈ cs ∨ env.cells.lookup p.1 = some p.2
  | [], _, _, h => .inl h
  | y :: r, cs, p, h => by
    rcases clOf_sub (ns := r) h with q | q
    · by_cases hk : (y.2 == NameKind.free) = true
      · rw [if_pos hk] at q
        cases e : env.cells.lookup y.1 with
        | none => rw [e] at q; exact .inl q
        | some a =>
          rw [e] at q
          rcases List.mem_cons.mp q with rfl | q
          · exact .inr e
          · exact .inl q
      · rw [if_neg hk] at q; exact .inl q
    · exact .inr q
theorem clOf_keep {env : Env} : ∀ {ns : List (Str × NameKind)} {cs : List (Str × Addr)} {p : Str × Addr}, p ∈ cs → p ∈ clOf env ns cs
  | [], _, _, h => h
  | y :: r, cs, p, h => by
    refine clOf_keep (ns := r) ?_
    by_cases hk : (y.2 == NameKind.free) = true
    · rw [if_pos hk]
      cases e : env.cells.lookup y.1 with
      | none => exact h
      | some a => exact List.mem_cons_of_mem _ h
    · rw [if_neg hk]; exact h
theorem clOf_has {env : Env} : ∀ {ns : List (Str × NameKind)} {cs : List (Str × Addr)} {y : Str × NameKind} {c : Addr}, y ∈ ns → y.2 = .free → env.cells.lookup y.1 = some c → (y.1, c) ∈ clOf env ns cs
  | z :: r, cs, y, c, h, hf, hc => by
    rcases List.mem_cons.mp h with rfl | h
    · refine clOf_keep (ns := r) ?_
      rw [if_pos (by rw [hf]; rfl), hc]
      exact List.mem_cons_self
    · exact clOf_has (ns := r) h hf hc
theorem closure_go {env : Env} {f : (Str × NameKind) → List (Str × Addr) → Sem (ForInStep (List (Str × Addr)))}
    (hf : ∀ y cs, f y cs = if (y.2 == NameKind.free) = true then (do let a ← cellOf env y.1; pure (ForInStep.yield ((y.1, a) :: cs))) else pure (ForInStep.yield cs)) :
    ∀ (ns : List (Str × NameKind)) (cs : List (Str × Addr)), (∀ y ∈ ns, y.2 = .free → ∃ c, env.cells.lookup y.1 = some c) → (forIn ns cs f : Sem _) = pure (clOf env ns cs)
  | [], cs, _ => rfl
  | y :: r, cs, h => by
    rw [List.forIn_cons, hf]
    by_cases hk : (y.2 == NameKind.free) = true
    · obtain ⟨c, hc⟩ := h y List.mem_cons_self (by simpa using hk)
      have e1 : cellOf env y.1 = pure c := by unfold cellOf; rw [hc]
      rw [if_pos hk, e1]
      have ih := closure_go hf r ((y.1, c) :: cs) fun z hz => h z (List.mem_cons_of_mem _ hz)
      show (forIn r ((y.1, c) :: cs) f : Sem _) = pure (clOf env r _)
      rw [ih, if_pos hk, hc]
    · have ih := closure_go hf r cs fun z hz => h z (List.mem_cons_of_mem _ hz)
      rw [if_neg hk]
      show (forIn r cs f : Sem _) = pure (clOf env r _)
      rw [ih, if_neg hk]
theorem closure_eq {env : Env} {sc : Scope} (h : ∀ y ∈ sc.names, y.2 = .free → ∃ c, env.cells.lookup y.1 = some c) : closureFor sc env = pure (clOf env sc.names []) := by
  simp only [closureFor]
  rw [closure_go (env := env) (fun y cs => by obtain ⟨n, kd⟩ := y; by_cases hk : (kd == NameKind.free) = true <;> simp [hk]) sc.names [] h]
  rfl

/-! ### the block's context -/
noncomputable def cxC (X : Cx) (N : List Str) (sc : Scope) (C : Addr) (s : Shared) (H : Hp) (fp : List Addr) : Cx where
  prog := X.prog
  w := X.w
  K := X.K
  mg := X.mg
  base := X.base
  A := X.A
  N := N
  s₀ := s
  H₀ := H
  env := compEnvC sc (clOf X.env sc.names []) C X.env
  outer := X.stack
  stack := X.stack
  ex := fp
  fn := fun _ => false
  calm := X.calm
  pn := []
  xe := fun _ _ => False
noncomputable def oldOk (sc : Scope) (env : Env) (p : Str × Str) : Bool := match (relabel sc env).names.lookup p.1 with
  | some .local => false
  | some .cell => p.1 == p.2
  | some .free => p.1 == p.2
  | _ => true
/-- what the block's names want: k own ones ahead of the def's (those that the block hides renamed) -/
structure Lc (X : Cx) (sc : Scope) (k : Nat) (N : List Str) : Prop where
  nocell : ∀ y ∈ sc.names, y.2 ≠ .cell
  kind : sc.kind = .function
  names : ∀ y ∈ sc.names, y.2 = .local → sc.names.lookup y.1 = some .local
  fr : ∀ y ∈ sc.names, y.2 = .free → X.env.kindOf y.1 = some .cell ∨ X.env.kindOf y.1 = some .free
  len : N.length = k + X.N.length
  old : ((N.drop k).zip X.N).all (oldOk sc X.env) = true
theorem lc_mk {X : Cx} {sc : Scope} {k : Nat} {N : List Str} (h1 : (sc.names.all fun y => y.2 != .cell) = true) (h2 : sc.kind = .function) (h3 : (sc.names.all fun y => y.2 != .local || sc.names.lookup y.1 == some .local) = true)
    (h4 : (sc.names.all fun y => y.2 != .free || (X.env.kindOf y.1 == some .cell || X.env.kindOf y.1 == some .free)) = true) (h5 : N.length = k + X.N.length) (h6 : ((N.drop k).zip X.N).all (oldOk sc X.env) = true) : Lc X sc k N where
  nocell := fun y hy => by have := List.all_eq_true.mp h1 y hy; simpa using this
  kind := h2
  names := fun y hy hl => by have := List.all_eq_true.mp h3 y hy; simpa [hl] using this
  fr := fun y hy hl => by have := List.all_eq_true.mp h4 y hy; simpa [hl] using this
  len := h5
  old := h6
section
variable {X : Cx} {sc : Scope} {k : Nat} {N : List Str} {pins : List (Addr × Obj)} {σ : St} {H : Hp} {s : Shared} {fp : List Addr}
theorem Lc.cells (L : Lc X sc k N) (ok : X.Ok) : ∀ y ∈ sc.names, y.2 = .free → ∃ c, X.env.cells.lookup y.1 = some c := fun y hy hf => ok.has y.1 (L.fr y hy hf)
theorem cl_in {x : Str} {c : Addr} (e : (clOf X.env sc.names []).lookup x = some c) : X.env.cells.lookup x = some c := by
  rcases clOf_sub (PySem.mem_of_lookup e) with q | q
  · exact nomatch q
  · exact q
theorem caught_free (L : Lc X sc k N) {x : Str} {kd : NameKind} (e : (relabel sc X.env).names.lookup x = some kd) (hk : kd = .cell ∨ kd = .free) : (x, NameKind.free) ∈ sc.names := by
  have hm := PySem.mem_of_lookup e
  obtain ⟨⟨n, k'⟩, hy, q⟩ := List.mem_map.mp hm
  dsimp only at q
  by_cases hc : (k' == NameKind.free && X.env.scope.kind == .function && X.env.kindOf n == some .cell) = true
  · rw [if_pos hc] at q
    have e1 : n = x := congrArg Prod.fst q
    have e2 : k' = .free := by simp at hc; exact hc.1.1
    subst e1 e2
    exact hy
  · rw [if_neg hc] at q
    have e1 : n = x := congrArg Prod.fst q
    have e2 : k' = kd := congrArg Prod.snd q
    subst e1 e2
    rcases hk with rfl | rfl
    · exact absurd rfl (L.nocell _ hy)
    · exact hy
theorem caught_at (L : Lc X sc k N) {i : Nat} {x : Str} (hi : N[i]? = some x) (hk : k ≤ i) (v : Vis (relabel sc X.env) x) : X.N[i - k]? = some x ∧ (x, NameKind.free) ∈ sc.names := by
  have hlt : i < N.length := (List.getElem?_eq_some_iff.mp hi).1
  have hl := L.len
  have h2 : i - k < X.N.length := by omega
  have e1 : (N.drop k)[i - k]? = some x := by rw [List.getElem?_drop]; rw [show k + (i - k) = i by omega]; exact hi
  have e2 : X.N[i - k]? = some X.N[i - k] := List.getElem?_eq_getElem h2
  have hz : ((N.drop k).zip X.N)[i - k]? = some (x, X.N[i - k]) := by rw [List.getElem?_zip_eq_some]; exact ⟨e1, e2⟩
  have ho := List.all_eq_true.mp L.old _ (List.mem_of_getElem? hz)
  have v' : (relabel sc X.env).names.lookup x = some .local ∨ (relabel sc X.env).names.lookup x = some .cell ∨ (relabel sc X.env).names.lookup x = some .free := v
  unfold oldOk at ho
  rcases v' with q | q | q
  · simp only [q] at ho; cases ho
  · simp only [q] at ho
    have e3 : x = X.N[i - k] := by simpa using ho
    exact ⟨by rw [e2, ← e3], caught_free L q (.inl rfl)⟩
  · simp only [q] at ho
    have e3 : x = X.N[i - k] := by simpa using ho
    exact ⟨by rw [e2, ← e3], caught_free L q (.inr rfl)⟩
/-- the context is sound -/
theorem lc_ok (L : Lc X sc k N) (I : Inv X pins σ H s) (fo : ∀ b ∈ fp, FpOk X pins H b) (ob : ∀ b ∈ fp, ∃ o, s.heap.get? b = some o) {C : Addr} (hC : s.heap.objs.size ≤ C) : (cxC X N sc C s H fp).Ok where
  mod := I.ok.mod
  kind := L.kind
  glob := I.ok.glob
  blt := I.ok.blt
  above := hC
  inj := fun x y c h1 h2 => I.ok.inj x y c (cl_in h1) (cl_in h2)
  has := fun x hx => by
    have hx' : (relabel sc X.env).names.lookup x = some .cell ∨ (relabel sc X.env).names.lookup x = some .free := hx
    have hm : (x, NameKind.free) ∈ sc.names := by
      rcases hx' with q | q
      · exact caught_free L q (.inl rfl)
      · exact caught_free L q (.inr rfl)
    obtain ⟨c, hc⟩ := L.cells I.ok _ hm rfl
    exact lookup_of_mem (clOf_has hm rfl hc)
  cab := fun x c h _ => nomatch h
  hd := I.ok.hd
  frames := I.ok.frames
  stk := .inl rfl
  exf := fun b hb => by
    obtain ⟨o, e⟩ := ob b hb
    refine ⟨Nat.ne_of_lt (Nat.lt_of_lt_of_le (Heap.lt_size e) hC), fun x c h => (fo b hb).2.2.2.2.1 x c (cl_in h)⟩
  bs := I.bs
  bsz := Nat.le_trans I.ok.bsz I.sz
  noex := fun b o e hb => by
    rcases (fo b hb).2.2.2.1 with q | q
    · exact I.ok.noex b o e q
    · exact absurd (Nat.lt_of_lt_of_le (Heap.lt_size e) (Nat.le_trans I.ok.bsz q)) (Nat.lt_irrefl _)
  exfs := fun b hb hf => by
    rcases List.mem_cons.mp (I.stkSub b hf) with q | q
    · exact (fo b hb).2.1 q
    · exact (fo b hb).2.2.1 q
  funs := I.stack
  frf := I.stkFree
/-- the state at the block's start -/
theorem lc_start (L : Lc X sc k N) (I : Inv X pins σ H s) (fo : ∀ b ∈ fp, FpOk X pins H b) (ob : ∀ b ∈ fp, ∃ o, s.heap.get? b = some o) {C : Addr} {h' : Heap} {tk n : Nat} {m : Str → Option Value} (hC : s.heap.objs.size < C)
    (kp : ∀ b o, s.heap.get? b = some o → h'.get? b = some o) (hd : h'.get? s.heap.objs.size = some { cls := .type "list", data := .seq ([] : List Value).toArray n }) (hn : h'.Ns C m) :
    Inv (cxC X N sc C s H fp) [] (List.replicate k none ++ σ) (upd H s.heap.objs.size (.lst [])) { s with heap := h', toks := tk } := by
  have hD : H s.heap.objs.size = none := I.hok.fresh (Nat.le_refl _)
  have nofr : ∀ b, H b = none → b ≠ s.heap.objs.size → upd H s.heap.objs.size (.lst []) b = none := fun b h1 h2 => by rw [upd_ne h2]; exact h1
  have clt : ∀ x c, X.env.cells.lookup x = some c → c < s.heap.objs.size := fun x c e => by obtain ⟨v, q⟩ := I.cell x c e; exact q.lt
  have ckeep : ∀ {c : Addr} {v : Option Value}, s.heap.IsCell c v → h'.IsCell c v := fun {c v} ⟨o, e, d⟩ => ⟨o, kp c o e, d⟩
  refine ⟨lc_ok L I fo ob (Nat.le_of_lt hC), rfl, I.bare, Un.laid kp (Nat.le_refl _) hD, ⟨m, hn, fun i x v h1 h2 h3 => ?_⟩, fun x c e => ?_, ?_, fun x c e => ?_, fun p hp => absurd (show p ∈ ([] : List (Addr × Obj)) from hp) (by simp), ?_, ?_⟩
  · have hki : k ≤ i := by
      by_cases q : i < k
      · rw [List.getElem?_append_left (by simpa using q), List.getElem?_replicate, if_pos q] at h2
        cases h2
      · omega
    rw [List.getElem?_append_right (by simpa using hki), List.length_replicate] at h2
    obtain ⟨hx, hm⟩ := caught_at L h1 hki h3
    have hkx := L.fr _ hm rfl
    have hvis : Vis X.env.scope x := by
      rcases hkx with q | q
      · exact .inr (.inl q)
      · exact .inr (.inr q)
    obtain ⟨m0, _, hl⟩ := I.loc
    obtain ⟨u, r, l⟩ := hl (i - k) x v hx h2 hvis
    refine ⟨u, r, ?_⟩
    rcases l with ⟨q, _⟩ | ⟨_, c, hc, hcell⟩
    · rcases hkx with z | z
      · rw [show X.env.kindOf x = some .cell from z] at q; cases q
      · rw [show X.env.kindOf x = some .free from z] at q; cases q
    · obtain ⟨c', hc'⟩ := lookup_of_mem (clOf_has hm rfl hc)
      have e := cl_in hc'
      rw [hc] at e; cases e
      refine .inr ⟨?_, c, hc', ckeep hcell⟩
      have v' : (relabel sc X.env).names.lookup x = some .local ∨ (relabel sc X.env).names.lookup x = some .cell ∨ (relabel sc X.env).names.lookup x = some .free := h3
      rcases v' with z | z | z
      · exfalso
        have hlt : i < N.length := (List.getElem?_eq_some_iff.mp h1).1
        have hl' := L.len
        have h2' : i - k < X.N.length := by omega
        have hz : ((N.drop k).zip X.N)[i - k]? = some (x, X.N[i - k]) := by
          rw [List.getElem?_zip_eq_some]
          exact ⟨by rw [List.getElem?_drop, show k + (i - k) = i by omega]; exact h1, List.getElem?_eq_getElem h2'⟩
        have ho := List.all_eq_true.mp L.old _ (List.mem_of_getElem? hz)
        unfold oldOk at ho
        simp only [z] at ho
        cases ho
      · exact .inl z
      · exact .inr z
  · obtain ⟨v, q⟩ := I.cell x c (cl_in e)
    exact ⟨v, ckeep q⟩
  · exact nofr C (I.hok.fresh (Nat.le_of_lt hC)) (Nat.ne_of_gt hC)
  · exact nofr c (I.freeC x c (cl_in e)) (Nat.ne_of_lt (clt x c (cl_in e)))
  · exact I.hok.laid kp (Nat.le_refl _) (show ObjOk X.prog X.w _ h' _ (.lst []) from ⟨Nat.zero_le _, [], n, .nil, hd⟩)
  · show (List.replicate k none ++ σ).length = N.length
    rw [List.length_append, List.length_replicate, L.len, I.len]
/-- behind the block -/
theorem lc_end (I : Inv X pins σ H s) (fo : ∀ b ∈ fp, FpOk X pins H b) {C : Addr} {σ' : St} {H' : Hp} {s' : Shared} (J : Inv (cxC X N sc C s H fp) [] σ' H' s') : Inv X pins σ H' s' :=
  I.call' (ch := fp) J.os J.base J.hok J.bare fun b hb => let ⟨_, h1, _, h3, h4, h5⟩ := fo b hb; ⟨h3, h1, h4, h5⟩
end

/-! ### tests, the loop -/
noncomputable def PTs (Y : Cx) (ifs : List Expr) (t : TT) : Prop :=
  ∀ (pins : List (Addr × Obj)) (s : Shared) (σ : St) (H : Hp) (Q : Bool → Hp → Prop), Inv Y pins σ H s → t σ H Q →
    wpAny (model Y.prog Y.w) Y.A (forIn ifs true fun c r => if r = true then do let ok ← isTrue c Y.env (eval c Y.env); pure (ForInStep.yield ok) else pure (ForInStep.yield r)) (TP Y pins σ Q) Y.xe s
noncomputable def tYes : TT := fun _ H Q => Q true H
theorem pts_nil {Y : Cx} : PTs Y [] tYes := fun _ _ _ H _ I h => wpAny_tests_nil ⟨H, I, h⟩
theorem pts_one {Y : Cx} {c : Expr} {t : TT} (h : PT Y c t) : PTs Y [c] t := fun pins s σ H Q I q => wpAny_tests_one (h pins s σ H Q I q)

/-- one turn's wish: W by the turn, a measure -/
noncomputable def TurnW (J : It) (g : TG) (tt : TT) (te : TE) (D : Addr) (W : Nat → Nat → St → Hp → Prop) (Qe : Hp → Prop) : Prop := ∀ i m σ H, W i m σ H →
  (J.stop i H ∧ Qe H) ∨ (J.go i H ∧ ∀ x H', J.yld i H x H' → g x σ H' fun σ2 H2 => tt σ2 H2 fun b H3 =>
    if b = true then te σ2 H3 fun y H4 => ∃ ys, H4 D = some (.lst ys) ∧ ys.length < sizeLine ∧ ∃ m', m' < m ∧ W (i + 1) m' σ2 (upd H4 D (.lst (ys ++ [y])))
    else ∃ m', m' < m ∧ W (i + 1) m' σ2 H3)
theorem lc_loop {Y : Cx} {elt tg iter : Expr} {ifs : List Expr} {sc : Scope} {pos : Pos} {J : It} {fp : List Addr} {it D : Addr} {tn : Nat → Heap → Prop} {g : TG} {tt : TT} {te : TE} {W : Nat → Nat → St → Hp → Prop} {Qe : Hp → Prop}
    {R : Result → Shared → Prop} (hc : Y.calm = true) (hx : ∀ e s, Y.xe e s → False) (T : Turn Y.prog Y.w Y.K tg J fp it tn) (fo : ∀ H' : Hp, (∀ b ∈ fp, H' b = none) → ∀ b ∈ fp, FpOk Y [] H' b)
    (hg : PG Y tg g) (ht : PTs Y ifs tt) (he : PE Y elt te) (turn : TurnW J g tt te D W Qe) (hR : ∀ σ' H' s', Inv Y [] σ' H' s' → Qe H' → R (.ok .next) s')
    {σ : St} {H : Hp} {s : Shared} {m0 : Nat} (I : Inv Y [] σ H s) (st : tn 0 s.heap) (fr : ∀ b ∈ fp, H b = none) (w0 : W 0 m0 σ H) :
    codeAny (model Y.prog Y.w) Y.A (.compLoop (.ListComp elt [⟨tg, iter, ifs, 0⟩] sc pos) 0 (.ref it) (.ref D) Y.env) R s := by
  refine codeAny_loop rfl (fun n s' => ∃ i σ' H', Inv Y [] σ' H' s' ∧ tn i s'.heap ∧ (∀ b ∈ fp, H' b = none) ∧ W i n σ' H') (fun n s3 hI => ?_) m0 ⟨0, σ, H, I, st, fr, w0⟩
  obtain ⟨i, σ3, H3, I3, st3, fr3, w3⟩ := hI
  show wpAny (model Y.prog Y.w) Y.A ((compTurn (.ListComp elt [⟨tg, iter, ifs, 0⟩] sc pos) 0 (.ref it) (.ref D) Y.env).onRaise (fun x => do noteFrame x Y.env; theTreesLotGoes x)) _ _ s3
  refine wpAny_noted ?_
  rw [compTurn_list]
  refine wpAny_bind (wpAny_standAt (wpAny_bind ?_))
  rcases turn i n σ3 H3 w3 with ⟨stop, qn⟩ | ⟨go, step⟩
  · refine thn (T.done Y rfl rfl rfl hc i [] s3 σ3 H3 _ I3 (fo H3 fr3) st3 stop) fun r s4 q4 => ?_
    obtain ⟨hr, I4⟩ := q4
    subst hr
    exact wpAny_pure (hR σ3 H3 s4 I4 qn)
  · refine thn (T.item Y rfl rfl rfl hc i [] s3 σ3 H3 _ I3 (fo H3 fr3) st3 go) fun r s4 q4 => ?_
    obtain ⟨u, hr, h4⟩ := q4
    subst hr
    refine wpAny_bind (thn h4 fun _ s5 q5 => ?_)
    obtain ⟨x, H5, I5, r5, y5, st5, fr5⟩ := q5
    have I5' := I5.pinned (fo H5 fr5) (T.obj _ _ st5)
    have quit : ∀ {e : Value} {s' : Shared} {Z : Prop}, Y.xe e s' → Z := fun h => (hx _ _ h).elim
    refine wpAny_bind (wpAny_mono (hg _ s5 σ3 H5 x u _ I5' r5 (step x H5 y5)) (fun _ s6 q6 => ?_) fun _ _ e => quit e)
    obtain ⟨σ6, H6, I6, q6⟩ := q6
    have fin : ∀ {σ7 : St} {H7 : Hp} {s7 : Shared}, Inv Y ([] ++ pinsAt fp s5.heap) σ7 H7 s7 → (∃ m', m' < n ∧ W (i + 1) m' σ7 H7) → ∃ m, m < n ∧ ∃ i σ' H', Inv Y [] σ' H' s7 ∧ tn i s7.heap ∧ (∀ b ∈ fp, H' b = none) ∧ W i m σ' H' := fun {σ7 H7 s7} I7 q7 => by
      obtain ⟨m', hm, w7⟩ := q7
      refine ⟨m', hm, i + 1, σ7, H7, I7.unpinned, T.keep _ _ _ st5 fun b hb o e => (I7.pin (b, o) (List.mem_append_right _ (List.mem_append_right _ (mem_pinsAt hb e)))).1, fun b hb => ?_, w7⟩
      obtain ⟨o, e, d⟩ := T.obj _ _ st5 b hb
      exact (I7.pin (b, o) (List.mem_append_right _ (List.mem_append_right _ (mem_pinsAt hb e)))).2.1
    refine wpAny_bind (wpAny_mono (ht _ s6 σ6 H6 _ I6 q6) (fun b s7 q7 => ?_) fun _ _ e => quit e)
    obtain ⟨H7, I7, q7⟩ := q7
    cases b with
    | false =>
      rw [if_neg Bool.false_ne_true] at q7
      exact wpAny_pure ⟨rfl, fin I7 q7⟩
    | true =>
      rw [if_pos rfl] at q7
      refine wpAny_bind (wpAny_bind (wpAny_mono (he _ s7 σ6 H7 _ I7 q7) (fun v s8 q8 => ?_) fun _ _ e => quit e))
      obtain ⟨y, H8, I8, r8, ys, hD, hz, q8⟩ := q8
      refine wpAny_bind (wpAny_mono (mt_append _ s8 σ6 H8 (.ref D) [y] (.ref D) [v] (fun _ H9 => ∃ m', m' < n ∧ W (i + 1) m' σ6 H9) I8 rfl (.cons r8 .nil) ⟨D, ys, y, rfl, rfl, hD, hz, q8⟩) (fun _ s9 q9 => ?_) fun _ _ e => quit e)
      obtain ⟨_, H9, I9, _, q9⟩ := q9
      exact wpAny_pure (wpAny_pure ⟨rfl, fin I9 q9⟩)

/-! ### the rule -/
/-- the block run for a comprehension, whatever is done with its list -/
theorem lc_block {X : Cx} {sc : Scope} {k : Nat} {N : List Str} {elt tg iter : Expr} {ifs : List Expr} {pos : Pos} {g : TG} {tt : TT} {te : TE} (L : Lc X sc k N) (hc : X.calm = true)
    (hg : ∀ C s H fp, PG (cxC X N sc C s H fp) tg g) (ht : ∀ C s H fp, PTs (cxC X N sc C s H fp) ifs tt) (he : ∀ C s H fp, PE (cxC X N sc C s H fp) elt te)
    {pins : List (Addr × Obj)} {σ : St} {H : Hp} {s : Shared} {it : Addr} {fp : List Addr} {tn : Nat → Heap → Prop} {J : It} {Q : V → Hp → Prop} {E : Value → Shared → Prop} {RR : Value → Addr → Result → Shared → Prop}
    (I : Inv X pins σ H s) (T : Turn X.prog X.w X.K tg J fp it tn) (st : tn 0 s.heap) (fo : ∀ b ∈ fp, FpOk X pins H b)
    (hq : ∀ D, H D = none → ∃ W, (∃ m, W 0 m (List.replicate k none ++ σ) (upd H D (.lst []))) ∧ TurnW J g tt te D W (Q (.ref D)))
    (hRR : ∀ C σ' H' s', s.heap.objs.size < C → Inv (cxC X N sc C s H fp) [] σ' H' s' → Q (.ref s.heap.objs.size) H' → RR (.ref s.heap.objs.size) C (.ok .next) s') :
    wpAny (model X.prog X.w) X.A (newList []) (fun acc s3 => wpAny (model X.prog X.w) X.A (newFunctionEnv sc X.env.globals (clOf X.env sc.names []) [] X.env.qual none .none (some X.env)) (fun cenv s4 =>
      codeAny (model X.prog X.w) X.A (.compStart (.ListComp elt [⟨tg, iter, ifs, 0⟩] sc pos) 0 (.ref it) acc { cenv with scope := relabel sc X.env }) (RR acc cenv.locals) s4) E s3) E s := by
  refine wpAny_newObj_type (wpAny_newFunctionEnv L.nocell (by intro y hy; simp at hy) (fun h1 hns hsb => ?_) L.kind)
  dsimp only at hns hsb ⊢
  generalize hG : s.heap.push { cls := .type "list", dict := none, data := .seq ([] : List Value).toArray } = G at hns hsb ⊢
  have hC : G.objs.size = s.heap.objs.size + 1 := by rw [← hG, Heap.size_push]
  have hlt : s.heap.objs.size < G.objs.size := by omega
  have ob : ∀ b ∈ fp, ∃ o, s.heap.get? b = some o := fun b hb => let ⟨o, e, _⟩ := T.obj _ _ st b hb; ⟨o, e⟩
  have up : ∀ b o, G.get? b = some o → h1.get? b = some o := fun b o e => hsb.extBut b o (Nat.ne_of_lt (Heap.lt_size e)) (Heap.get?_push_of_some _ e)
  have kp : ∀ b o, s.heap.get? b = some o → h1.get? b = some o := fun b o e => up b o (hG ▸ Heap.get?_push_of_some _ e)
  have I0 : Inv (cxC X N sc G.objs.size s H fp) [] (List.replicate k none ++ σ) (upd H s.heap.objs.size (.lst [])) { s with heap := h1, toks := s.toks + ([] : List (Str × Value)).length } :=
    lc_start L I fo ob hlt kp (up _ _ (hG ▸ Heap.get?_push_size _ rfl)) hns
  have st1 : tn 0 h1 := T.keep _ _ _ st fun b _ o e => kp b o e
  have hD : H s.heap.objs.size = none := I.hok.fresh (Nat.le_refl _)
  obtain ⟨W, ⟨m0, w0⟩, turn⟩ := hq _ hD
  have foY : ∀ H' : Hp, (∀ b ∈ fp, H' b = none) → ∀ b ∈ fp, FpOk (cxC X N sc G.objs.size s H fp) [] H' b := fun H' hn b hb =>
    ⟨hn b hb, (I0.ok.exf b hb).1, I0.ok.exfs b hb, .inl hb, (I0.ok.exf b hb).2, fun p hp => absurd (show p ∈ ([] : List (Addr × Obj)) from hp) (by simp)⟩
  have fr0 : ∀ b ∈ fp, upd H s.heap.objs.size (.lst []) b = none := fun b hb => by
    obtain ⟨o, e⟩ := ob b hb
    rw [upd_ne (Nat.ne_of_lt (Heap.lt_size e))]
    exact (fo b hb).1
  have loop : codeAny (model X.prog X.w) X.A (.compLoop (.ListComp elt [⟨tg, iter, ifs, 0⟩] sc pos) 0 (.ref it) (.ref s.heap.objs.size) (cxC X N sc G.objs.size s H fp).env) (RR (.ref s.heap.objs.size) G.objs.size) { s with heap := h1, toks := s.toks + ([] : List (Str × Value)).length } :=
    lc_loop (Y := cxC X N sc G.objs.size s H fp) (iter := iter) hc (fun _ _ h => h) T foY (hg _ _ _ _) (ht _ _ _ _) (he _ _ _ _) turn (fun σ' H' s' J' q => hRR _ σ' H' s' hlt J' q) I0 st1 fr0 w0
  exact codeAny_compStart_list loop (T.self _ 0 _ _ _ st1 loop)
noncomputable def tLC (k : Nat) (wi : TI) (g : TG) (tt : TT) (te : TE) : TE := fun σ H Q => wi σ H fun J H1 => ∀ D, H1 D = none →
  ∃ W, (∃ m, W 0 m (List.replicate k none ++ σ) (upd H1 D (.lst []))) ∧ TurnW J g tt te D W (Q (.ref D))
section
variable {X : Cx} {sc : Scope} {k : Nat} {N : List Str} {elt tg iter : Expr} {ifs : List Expr} {pos : Pos} {wi : TI} {g : TG} {tt : TT} {te : TE}
theorem pe_lc (L : Lc X sc k N) (hc : X.calm = true) (hi : PI X tg iter wi) (hg : ∀ C s H fp, PG (cxC X N sc C s H fp) tg g) (ht : ∀ C s H fp, PTs (cxC X N sc C s H fp) ifs tt) (he : ∀ C s H fp, PE (cxC X N sc C s H fp) elt te)
    (hs : ∀ x, foldedSetIterable iter X.env x = pure x := by intro _; rfl) : PE X (.ListComp elt [⟨tg, iter, ifs, 0⟩] sc pos) (tLC k wi g tt te) := by
  intro pins s σ H Q I h
  rw [eval_ListComp]
  refine wpAny_comprehension_free (use := none) rfl hs (closure_eq (L.cells I.ok)) L.kind L.names (thn (hi pins s σ H _ I h) fun v s1 h1 => thn h1 fun itv s2 h2 => ?_)
  obtain ⟨it, fp, tn, J, H2, e, I2, T, st2, f2, q2⟩ := h2
  subst e
  refine lc_block (RR := fun acc C => compPost (model X.prog X.w) X.A X.xe none (EP X pins σ Q) acc C) L hc hg ht he I2 T st2 f2 q2 fun C σ' H' s' hC J' q => ?_
  have I3 := lc_end I2 f2 J'
  obtain ⟨m, hn, _⟩ := J'.loc
  refine ⟨m, hn, fun h' sb => ?_⟩
  obtain ⟨f0, f1, f2', f3, f4, f5⟩ := I2.fpOk (Nat.le_of_lt hC) (show H' C = none from J'.free)
  exact ⟨.ref s2.heap.objs.size, H', I3.turned (t' := s'.toks) (fun b o hb e => (sb.2 b hb).trans e) f0 f1 f3 f4 f5, rfl, q⟩
/-- x = [..], stored while the block's names still stand -/
theorem ps_lc {i : Nat} {x : Str} {pos' spos : Pos} (L : Lc X sc k N) (hc : X.calm = true) (hN : X.N.Nodup) (hx : X.N[i]? = some x) (hl : Loc X.env.scope x) (hi : PI X tg iter wi)
    (hg : ∀ C s H fp, PG (cxC X N sc C s H fp) tg g) (ht : ∀ C s H fp, PTs (cxC X N sc C s H fp) ifs tt) (he : ∀ C s H fp, PE (cxC X N sc C s H fp) elt te)
    (hsw : swapsWith (.ListComp elt [⟨tg, iter, ifs, 0⟩] sc pos) (some (.Name x pos')) spos.line X.env = pure true := by rfl) (hf : X.fn x = true ∨ X.env.scope.names.lookup x = some .local := by first | exact .inl rfl | exact .inr rfl | assumption)
    (hs : ∀ x, foldedSetIterable iter X.env x = pure x := by intro _; rfl) : PS X (.Assign [.Name x pos'] (.ListComp elt [⟨tg, iter, ifs, 0⟩] sc pos) spos) (tAsg (tLC k wi g tt te) (gName i)) := by
  intro pins s σ H D I h
  rw [exec_Assign_Name_used _ _ _ _ hsw]
  refine wpAny_bind (wpAny_standAt (wpAny_bind ?_))
  show wpAny _ X.A (do let _ ← comprehension (.ListComp elt [⟨tg, iter, ifs, 0⟩] sc pos) sc X.env _ (newList []) false (eval iter X.env) (some (assign (.Name x pos') X.env))) _ _ s
  refine wpAny_bind (thn (wpAny_comprehension_free (use := some (assign (.Name x pos') X.env)) (Q := fun _ s' => SP X pins D .next s') rfl hs (closure_eq (L.cells I.ok)) L.kind L.names
    (thn (hi pins s σ H _ I h) fun v s1 h1 => thn h1 fun itv s2 h2 => ?_)) fun _ s' hq => wpAny_pure (wpAny_pure hq))
  obtain ⟨it, fp, tn, J, H2, e, I2, T, st2, f2, q2⟩ := h2
  subst e
  refine lc_block (Q := fun v H1 => gName i v σ H1 D.nx) (RR := fun acc C => compPost (model X.prog X.w) X.A X.xe (some (assign (.Name x pos') X.env)) (fun _ s' => SP X pins D .next s') acc C) L hc hg ht he I2 T st2 f2 q2 fun C σ' H' s' hC J' q => ?_
  have I3 := lc_end I2 f2 J'
  obtain ⟨m, hn, _⟩ := J'.loc
  obtain ⟨f0, f1, f2', f3, f4, f5⟩ := I2.fpOk (Nat.le_of_lt hC) (show H' C = none from J'.free)
  show wpAny _ X.A (assign (.Name x pos') X.env (.ref s2.heap.objs.size)) _ _ _
  refine wpAny_assign_Name (store_ok2 I3 hN hx hl (v := .ref s2.heap.objs.size) rfl (fun s4 I4 hs4 => ?_) hf)
  obtain ⟨a, sb, ha⟩ := hs4
  have hne : C ≠ a := by
    rcases ha with rfl | ha
    · exact f1
    · exact fun e => f4 x a ha e.symm
  refine ⟨m, hn.sameBut sb hne, fun h' sb' => ?_⟩
  exact ⟨_, H', I4.turned (t' := s4.toks) (fun b o hb e => (sb'.2 b hb).trans e) f0 f1 f3 f4 f5, q⟩
end
end L2.Bw

end
section
set_option Elab.async false
set_option linter.all false
set_option maxRecDepth 100000
/-! Data made of ints, bools, texts and tuples, and how the heap bears them. -/
namespace L2.Bw
open PySem PySem.Spec PyProof.Rows

inductive Dt where
  | int (i : Int)
  | bl (b : Bool)
  | str (x : Str)
  | tup (xs : List Dt)
mutual
noncomputable def Rep (H : Hp) : Dt → V → Prop
  | .int i, v => v = .int i
  | .bl b, v => v = .bl b
  | .str x, v => v = .str x
  | .tup ds, v => ∃ a vs, v = .ref a ∧ H a = some (.tup vs) ∧ Reps H ds vs
noncomputable def Reps (H : Hp) : List Dt → List V → Prop
  | [], vs => vs = []
  | d :: ds, vs => ∃ v r, vs = v :: r ∧ Rep H d v ∧ Reps H ds r
end
mutual
noncomputable def Dt.dp : Dt → Nat
  | .tup ds => 1 + dps ds
  | .int _ => 0
  | .bl _ => 0
  | .str _ => 0
noncomputable def dps : List Dt → Nat
  | [] => 0
  | d :: ds => max d.dp (dps ds)
end
mutual
noncomputable def Dt.nar : Dt → Prop
  | .tup ds => ds.length ≤ 1000 ∧ nars ds
  | .int _ => True
  | .bl _ => True
  | .str _ => True
noncomputable def nars : List Dt → Prop
  | [] => True
  | d :: ds => d.nar ∧ nars ds
end
/-- all that stood stays, but for what M says -/
noncomputable def Gr (M : Addr → Prop) (H H' : Hp) : Prop := ∀ b o, H b = some o → ¬ M b → H' b = some o
noncomputable abbrev M0 : Addr → Prop := fun _ => False
noncomputable abbrev M1 (a : Addr) : Addr → Prop := fun b => b = a
/-- the tuples stay -/
noncomputable def Tm (H H' : Hp) : Prop := ∀ a xs, H a = some (.tup xs) → H' a = some (.tup xs)
mutual
theorem Rep.mono {H H' : Hp} (m : Tm H H') : ∀ {d : Dt} {v : V}, Rep H d v → Rep H' d v
  | .int _, _, h => h
  | .bl _, _, h => h
  | .str _, _, h => h
  | .tup _, _, ⟨a, vs, e, h, t⟩ => ⟨a, vs, e, m a vs h, Reps.mono m t⟩
theorem Reps.mono {H H' : Hp} (m : Tm H H') : ∀ {ds : List Dt} {vs : List V}, Reps H ds vs → Reps H' ds vs
  | [], _, h => h
  | _ :: _, _, ⟨v, r, e, h, t⟩ => ⟨v, r, e, Rep.mono m h, Reps.mono m t⟩
end
theorem Gr.trans {M : Addr → Prop} {H H1 H2 : Hp} (a : Gr M H H1) (b : Gr M H1 H2) : Gr M H H2 := fun c o h n => b c o (a c o h n) n
theorem Gr.wide {M M' : Addr → Prop} {H H' : Hp} (a : Gr M H H') (s : ∀ b, M b → M' b) : Gr M' H H' := fun c o h n => a c o h fun q => n (s c q)
theorem Gr.new {M : Addr → Prop} {H : Hp} {p : Addr} {o : HO} (h : H p = none) : Gr M H (upd H p o) := fun b u e _ => by rw [upd_ne (ne_of_none e h)]; exact e
theorem Gr.put {M : Addr → Prop} {H : Hp} {p : Addr} {o : HO} (h : M p) : Gr M H (upd H p o) := fun b u e n => by
  rw [upd_ne (fun q => n (by rw [q]; exact h))]; exact e
theorem Gr.tm {M : Addr → Prop} {H H' : Hp} (g : Gr M H H') (h : ∀ b xs, M b → H b = some (.tup xs) → False) : Tm H H' := fun a xs e => g a _ e fun m => h a xs m e
/-- the changed ones are lists -/
theorem Gr.tm1 {H H' : Hp} {l : Addr} {xs : List V} (g : Gr (M1 l) H H') (h : H l = some (.lst xs)) : Tm H H' := g.tm fun b ys m e => by cases (show b = l from m); rw [h] at e; cases e
theorem Gr.free {H H' : Hp} {M : Addr → Prop} (g : Gr M H H') {l : Addr} (h : H' l = none) (n : ¬ M l) : H l = none := by
  cases q : H l with
  | none => rfl
  | some o => rw [g l o q n] at h; cases h
theorem Gr.seq {K : PySem.W.Frag} {M : Addr → Prop} {H H' : Hp} {a : Addr} {xs : List V} (g : Gr M H H') (n : ¬ M a) (h : SqL K H a xs) : SqL K H' a xs := by
  rcases h with (h | ⟨o, h⟩) | h
  · exact .inl (.inl (g _ _ h n))
  · exact .inl (.inr ⟨o, g _ _ h n⟩)
  · exact .inr h
/-! ### argument lists, whatever their length -/
noncomputable def isStar : Expr → Bool
  | .Starred .. => true
  | _ => false
theorem star_of {e : Expr} {es : List Expr} {env : Env} (h : isStar e = false) : starEach (e :: es) env = (false, eval e env) :: starEach es env := by
  cases e <;> first | rfl | cases h
theorem pa {X : Cx} {e : Expr} {es : List Expr} {te : TE} {t : TA} (ha : PE X e te) (hr : PA X es t) (h : isStar e = false := by rfl) : PA X (e :: es) (tCons te t) := pa_cons ha hr (star_of h)
/-! ### a def of the text, as it is called -/
structure Cal (P : Program) (w : World) (K : PySem.W.Frag) (mg : Str → Option Value) (base : Heap) (x : Str) (ps : List Str) (k : Nat) (sp : Sp) : Prop where
  ex : ∃ f fd, FnOk P w K mg base CX0 k f fd ps sp ∧ Binds K fd ps [] ∧ PySem.W.keepIn K (.ref f) = true ∧ mg x = some (.ref f)
theorem pe_cal {X : Cx} {x : Str} {ps : List Str} {k n : Nat} {sp : Sp} {p pos : Pos} {e : Expr} {es : List Expr} {t : TA} (c : Cal X.prog X.w X.K X.mg X.base x ps k sp) (hr : Room n X.A) (ha : PA X (e :: es) t) (hn : k ≤ n := by omega) (hg : Gl X x := by rfl)
    (hdb : (x == ("__debug__" : Str)) = false := by decide) (he : starEach (e :: es) X.env = (false, eval e X.env) :: starEach es X.env := by rfl)
    (hpl : (backTo pos (starEach es X.env)).any (·.1) = false := by rfl) : PE X (.Call (.Name x p) (e :: es) [] pos) (tCall sp [] E0 t) := by
  obtain ⟨f, fd, F, b, kp, m⟩ := c.ex
  exact pe_call F (hr.mono hn) hg m kp b .nil pass0 ha hdb he hpl
end L2.Bw

end
section
set_option Elab.async false
set_option linter.all false
set_option maxRecDepth 100000
/-! More rules for the hand layer: joined ones, isinstance, == of nested data, count, zip, lists of reversed lists. -/
namespace L2.Bw
open PySem PySem.Spec PyProof.Rows
section
variable {X : Cx}

/-! ### joined rules -/
noncomputable def rAddA (K : PySem.W.Frag) : R2 := fun x y H Q => (∃ i j, x = .int i ∧ y = .int j ∧ Q (.int (i + j)) H) ∨ (∃ i j, x = .str i ∧ y = .str j ∧ i.length + j.length ≤ sizeLine ∧ Q (.str (i ++ j)) H) ∨ rCat x y H Q ∨ rCatT K x y H Q
theorem op_addA : OpR X (binaryOp .Add) (rAddA X.K) := fun pins s σ H x y v u Q I rx ry h => by
  rcases h with h | h | h | h
  · exact op_add pins s σ H x y v u Q I rx ry h
  · exact op_add_str pins s σ H x y v u Q I rx ry h
  · exact op_cat pins s σ H x y v u Q I rx ry h
  · exact op_catT pins s σ H x y v u Q I rx ry h
theorem addI {K : PySem.W.Frag} {i j : Int} {H : Hp} {Q : VK} (q : Q (.int (i + j)) H) : rAddA K (.int i) (.int j) H Q := .inl ⟨i, j, rfl, rfl, q⟩
theorem addS {K : PySem.W.Frag} {i j : Str} {H : Hp} {Q : VK} (h : i.length + j.length ≤ sizeLine) (q : Q (.str (i ++ j)) H) : rAddA K (.str i) (.str j) H Q := .inr (.inl ⟨i, j, rfl, rfl, h, q⟩)
theorem addL {K : PySem.W.Frag} {x y : V} {H : Hp} {Q : VK} (h : rCat x y H Q) : rAddA K x y H Q := .inr (.inr (.inl h))
theorem addT {K : PySem.W.Frag} {x y : V} {H : Hp} {Q : VK} (h : rCatT K x y H Q) : rAddA K x y H Q := .inr (.inr (.inr h))
noncomputable def rLenA (K : PySem.W.Frag) : List V → Hp → VK → Prop := fun xs H Q => (∃ p ys, xs = [.ref p] ∧ (SqL K H p ys ∨ SqT K H p ys) ∧ Q (.int ys.length) H) ∨ ∃ z, xs = [.str z] ∧ z.length ≤ sizeLine ∧ Q (.int z.length) H
theorem call_lenA : CallR X (.builtin "len") (rLenA X.K) := fun pins s σ H xs us Q I r h => by
  rcases h with h | h
  · exact call_len_seq pins s σ H xs us Q I r h
  · exact call_len_str pins s σ H xs us Q I r h
theorem pe_ty {x : Str} {T : String} {pos : Pos} (hg : Gl X x) (hm : X.mg x = none) (hv : bootBuiltins x = some (.type T)) (hn : x ≠ "__name__" := by decide) (hd : (x == ("__debug__" : Str)) = false := by decide) : PE X (.Name x pos) (tC (.ty T)) :=
  pe_bltn hg hm hv (v := .ty T) rfl hn hd
/-- a list or a tuple, walked -/
noncomputable def iSeq (K : PySem.W.Frag) (tl : TE) : TI := fun σ H R => tl σ H fun x H1 => ∃ a, x = .ref a ∧ (((∃ xs, SqL K H1 a xs) ∧ R (Itl K a) H1) ∨ ((∃ xs, SqT K H1 a xs) ∧ R (Itt K a) H1))
theorem pi_seq {tg l : Expr} {tl : TE} (hl : PE X l tl) : PI X tg l (iSeq X.K tl) := by
  intro pins s σ H R I h
  refine thn (hl pins s σ H _ I h) fun v s1 q => ?_
  obtain ⟨x, H1, I1, r1, a, e, q1⟩ := q
  subst e
  cases r1
  have one : ∀ b ∈ [s1.heap.objs.size], FpOk X pins H1 b := fun b hb => by
    cases (show b = s1.heap.objs.size by simpa using hb)
    exact I1.fpOk (Nat.le_refl _) (I1.hok.fresh (Nat.le_refl _))
  rcases q1 with ⟨⟨xs, hq⟩, q⟩ | ⟨⟨xs, hq⟩, q⟩
  · obtain ⟨its, rv, p, hz⟩ := I1.list hq
    exact wpAny_pyIter_list p.isList ⟨s1.heap.objs.size, [s1.heap.objs.size], _, _, H1, rfl, I1.kept (t' := s1.toks) fun b o e => Heap.get?_push_of_some _ e, turn_list a _, ⟨_, Heap.get?_push_size _ rfl, rfl, rfl⟩, one, q⟩
  · obtain ⟨its, rv, p, hz⟩ := I1.tuple hq
    exact wpAny_pyIter_tuple (show s1.heap.IsTuple a its.toArray from p) ⟨s1.heap.objs.size, [s1.heap.objs.size], _, _, H1, rfl, I1.kept (t' := s1.toks) fun b o e => Heap.get?_push_of_some _ e, turn_tuple a _, ⟨_, Heap.get?_push_size _ rfl, rfl, rfl⟩, one, q⟩

/-! ### isinstance -/
noncomputable def IsI (K : PySem.W.Frag) (H : Hp) (x : V) (n : String) (b : Bool) : Prop := ∃ t, TyOf K H x t ∧ PySem.W.kitOne K t (.type n) = some b
theorem call_isi : CallR X (.builtin "isinstance") (fun xs H Q => ∃ x n b, xs = [x, .ty n] ∧ IsI X.K H x n b ∧ Q (.bl b) H) := by
  intro pins s σ H xs us Q I r h
  obtain ⟨x, n, b, e, ⟨t, ty, k⟩, q⟩ := h
  subst e
  obtain ⟨u, w, e, ru, rw'⟩ := Vals.two r
  subst e
  cases rw'
  exact isinst_ok I ru ty k fun tk => ⟨.bl b, H, I.tok tk, rfl, q⟩

/-! ### == of data -/
/-- what == tells of two lists or tuples -/
inductive EqC (K : PySem.W.Frag) (H : Hp) : V → V → Bool → Prop where
  | lists {a c : Addr} {vs ws : List V} {ds : List Dt} (ha : SqL K H a vs) (hc : SqL K H c ws) (ta : Reps H ds vs) (tc : Reps H ds ws) (hd : dps ds ≤ 60) : EqC K H (.ref a) (.ref c) true
  | lens {a c : Addr} {vs ws : List V} (ha : SqL K H a vs) (hc : SqL K H c ws) (hl : vs.length ≠ ws.length) : EqC K H (.ref a) (.ref c) false
  | heads {a c : Addr} {h z : Str} {r : List V} (ha : SqT K H a (.str h :: r)) (hc : SqT K H c [.str z]) : EqC K H (.ref a) (.ref c) (decide (h = z) && r.isEmpty)
/-! ### list.count of texts -/
noncomputable def rCount (K : PySem.W.Frag) : V → List V → Hp → VK → Prop := fun x vs H Q => ∃ (l : Addr) (ys : List Str) (z : Str), x = .ref l ∧ vs = [.str z] ∧ SqL K H l (ys.map V.str) ∧ Q (.int ((ys.countP fun y => decide (y = z) : Nat))) H
theorem strsAre_of : ∀ {ys : List Str} {us : List Value}, Vals (ys.map V.str) us → StrsAre us ys
  | [], _, h => by cases h; exact .nil
  | y :: ys, _, h => by
    cases h with
    | cons r t =>
      obtain ⟨tk, e⟩ := r
      subst e
      exact .cons _ _ (strsAre_of t)
theorem count_eq (z : Str) : ∀ ys : List Str, countIn (.str z) (ys.map PyData.str) = ((ys.countP fun y => decide (y = z) : Nat) : Int)
  | [] => rfl
  | y :: r => by
    show (if same (.str y) (.str z) then (1 : Int) else 0) + countIn (.str z) (r.map PyData.str) = _
    rw [count_eq z r, List.countP_cons]
    by_cases h : y = z
    · subst h; simp [same]; omega
    · simp [same, h]
theorem mt_count : MtR X "list.count" (rCount X.K) := by
  intro pins s σ H x vs v us Q I rx rv h
  obtain ⟨l, ys, z, e, e', hq, q⟩ := h
  subst e e'
  cases rx
  obtain ⟨u, e, tz, eu⟩ := Vals.one rv
  subst e eu
  obtain ⟨its, r, p, hz⟩ := I.list hq
  refine count_list_strs p.isList (strsAre_of r) ⟨.int _, H, I.tok _, ⟨s.toks, ?_⟩, q⟩
  rw [count_eq]
end
end L2.Bw

end
section
set_option Elab.async false
set_option linter.all false
set_option maxRecDepth 100000
/-! zip of two lists, walked by pairs. -/
namespace L2.Bw
open PySem PySem.Spec PyProof.Rows
section
variable {X : Cx} {pins : List (Addr × Obj)} {σ : St} {H : Hp} {s : Shared} {h' : Heap} {ch : List Addr}
/-- untracked records have turned, a new tuple is there -/
theorem turnedT {t' : Nat} {T : Addr} {xs : List V} (I : Inv X pins σ H s) (k : ∀ b o, b ∉ ch → s.heap.get? b = some o → h'.get? b = some o) (fo : ∀ b ∈ ch, FpOk X pins H b) (hT : s.heap.objs.size ≤ T)
    (new : ∃ its : List Value, Vals xs its ∧ IsTup h' T its.toArray) (hz : xs.length ≤ sizeLine) : Inv X pins σ (upd H T (.tup xs)) { s with heap := h', toks := t' } := by
  have hTn : H T = none := I.hok.fresh hT
  have nit : ∀ b u, H b = some u → b ∉ ch := fun b u e z => by rw [(fo b z).1] at e; cases e
  have old : ∀ b u, H b = some u → upd H T (.tup xs) b = some u := fun b u e => by rw [upd_ne (ne_of_none e hTn)]; exact e
  refine I.step (g' := s.gens) (d' := s.drawn) (ch := ch) (fun b hb => ?_) (fun b o _ _ hc e _ => k b o hc e) (fun b o _ _ hc e _ => ⟨o.slots, k b o hc e⟩) (fun b o _ e n => ?_) (fun b o hc e => ⟨o, k b o hc e⟩)
    (fun b ys e => old b _ e) (fun b o u e => old b _ e) (fun b ps e => ⟨#[], by rw [old b _ e]; simp⟩) (fun m hm => ?_) (fun b u e => ?_) I.bare
  · obtain ⟨_, h1, _, h3, h4, h5⟩ := fo b hb
    exact ⟨h3, h1, h4, h5⟩
  · rw [upd_ne (Nat.ne_of_lt (Nat.lt_of_lt_of_le (Heap.lt_size e) hT))]; exact n
  · obtain ⟨o, es, ep, ho, r⟩ := hm
    exact ⟨o, es, ep, k _ o (fun z => (fo _ z).2.1 rfl) ho, r⟩
  · by_cases hb : b = T
    · subst hb
      rw [upd_same] at e; cases e
      obtain ⟨its, r, p⟩ := new
      exact ⟨hz, its, r, p⟩
    · rw [upd_ne hb] at e
      refine (I.hok b u e).stay (fun c v hc q => k c v ?_ q) (fun c q => old c _ q) fun c ys q => old c _ q
      rcases hc with z | z
      · rw [z]; exact nit b u e
      · exact nit c _ z
theorem turnedN {t' : Nat} (I : Inv X pins σ H s) (k : ∀ b o, b ∉ ch → s.heap.get? b = some o → h'.get? b = some o) (fo : ∀ b ∈ ch, FpOk X pins H b) : Inv X pins σ H { s with heap := h', toks := t' } := by
  have nit : ∀ b u, H b = some u → b ∉ ch := fun b u e z => by rw [(fo b z).1] at e; cases e
  refine I.step (g' := s.gens) (d' := s.drawn) (ch := ch) (fun b hb => ?_) (fun b o _ _ hc e _ => k b o hc e) (fun b o _ _ hc e _ => ⟨o.slots, k b o hc e⟩) (fun b o _ e n => n) (fun b o hc e => ⟨o, k b o hc e⟩)
    (fun b ys e => e) (fun b o u e => e) (fun b ps e => ⟨#[], by rw [e]; simp⟩) (fun m hm => ?_) (fun b u e => ?_) I.bare
  · obtain ⟨_, h1, _, h3, h4, h5⟩ := fo b hb
    exact ⟨h3, h1, h4, h5⟩
  · obtain ⟨o, es, ep, ho, r⟩ := hm
    exact ⟨o, es, ep, k _ o (fun z => (fo _ z).2.1 rfl) ho, r⟩
  · refine (I.hok b u e).stay (fun c v hc q => k c v ?_ q) (fun c q => q) fun c ys q => q
    rcases hc with z | z
    · rw [z]; exact nit b u e
    · exact nit c _ z
end
theorem off_of {X : Cx} {pins : List (Addr × Obj)} {σ : St} {H : Hp} {s : Shared} (I : Inv X pins σ H s) {c l : Addr} {us : List V} (f : FpOk X pins H c) (hq : SqL X.K H l us) : l ≠ c := fun e => by
  subst e
  rcases hq with q | q
  · rcases q with q | ⟨o, q⟩
    · rw [f.1] at q; cases q
    · rw [f.1] at q; cases q
  · obtain ⟨o, its, n, q, _⟩ := q
    have bk := I.ok.mod.kin _ _ q
    rcases f.2.2.2.1 with f | f
    · exact I.ok.noex _ _ bk f
    · exact absurd (Nat.lt_of_lt_of_le (Heap.lt_size bk) (Nat.le_trans I.ok.bsz f)) (Nat.lt_irrefl _)
section
variable {X : Cx}
end
end L2.Bw

end
section
set_option Elab.async false
set_option linter.all false
set_option maxRecDepth 100000
/-! A dict of the module whose keys are texts and whose values are tuples of texts. -/
namespace L2.Bw
open PySem PySem.Spec PyProof.Rows
noncomputable def strsLook : List Str → List Value → Bool
  | [], [] => true
  | x :: r, v :: q => (match v with | .str y _ => y == x | _ => false) && strsLook r q
  | _, _ => false
theorem vals_of_look : ∀ {ss : List Str} {us : List Value}, strsLook ss us = true → Vals (ss.map V.str) us
  | [], [], _ => .nil
  | x :: r, v :: q, h => by
    unfold strsLook at h
    have h' := Bool.and_eq_true_iff.mp h
    refine .cons ?_ (vals_of_look h'.2)
    have h1 := h'.1
    cases v with
    | str y t => exact ⟨t, by rw [show y = x by simpa using h1]⟩
    | _ => exact absurd h1 (by simp)
  | [], _ :: _, h => by simp [strsLook] at h
  | _ :: _, [], h => by simp [strsLook] at h
noncomputable def lookT (K : PySem.W.Frag) (ss : List Str) (v : Value) : Bool := match v with
  | .ref b => (match K.lookup b with
    | some o => o.cls == .type "tuple" && (match o.data with | .seq its _ => decide (its.size ≤ 1000) && strsLook ss its.toList | _ => false)
    | none => false)
  | _ => false
noncomputable def IsT (K : PySem.W.Frag) (ss : List Str) (v : Value) : Prop := ∃ b, v = .ref b ∧ ∀ H : Hp, SqT K H b (ss.map V.str)
theorem isT_of {K : PySem.W.Frag} (ss : List Str) (v : Value) (h : lookT K ss v = true) : IsT K ss v := by
  unfold lookT at h
  cases v with
  | ref b =>
    refine ⟨b, rfl, fun H => .inr ?_⟩
    cases e : K.lookup b with
    | none => simp only [e] at h; cases h
    | some o =>
      simp only [e] at h
      rw [Bool.and_eq_true_iff] at h
      cases d : o.data with
      | seq its n =>
        simp only [d] at h
        rw [Bool.and_eq_true_iff] at h
        exact ⟨o, its, n, rfl, by simpa using h.1, d, Nat.le_trans (of_decide_eq_true h.2.1) (Nat.le_of_lt (small1000 (Nat.le_refl _))), vals_of_look h.2.2⟩
      | _ => simp [d] at h
  | _ => simp at h
theorem getTab {prog : Program} {w : World} {A : Around} {E : Value → Shared → Prop} {s : Shared} {δ : Type} {R : δ → Value → Prop} {a : Addr} {D : List (Str × δ)} {z : Str} {tz : Tok} {d : δ} {Q : Option Value → Shared → Prop}
    (T : KTD.TabOf R s.heap a D) (hat : KTD.datumAt z D = some d) (h : ∀ v, R d v → Q (some v) { s with toks := s.toks + 1 }) : wpAny (model prog w) A (dictGet a (.str z tz)) Q E s := by
  obtain ⟨_, o, es, ep, ho, _, hd, hr⟩ := T
  obtain ⟨v, hv, hfl⟩ := hr.find_some hat
  have all : (es.all fun e => isExactStrKey e.key) = true := by
    obtain ⟨l⟩ := es
    simpa using hr.exact
  have hq : Q (findBy (fun k v => v.isStr k) es z) { s with toks := s.toks + 1 } := by
    rw [show findBy (fun k v => v.isStr k) es z = some v by obtain ⟨l⟩ := es; simpa [findBy] using hv]
    exact h v hfl
  rw [findBy_of_findIdx?] at hq
  unfold dictGet
  refine wpAny_holding ?_
  refine wpAny_bind (wpAny_pyHash_str (wpAny_bind (KTD.kt_dictFind_strs (s := { s with toks := s.toks + 1 }) ho hd all ?_)))
  cases hi : es.findIdx? fun e => e.key.isStr z with
  | none =>
    rw [hi] at hq
    exact wpAny_pure hq
  | some i =>
    rw [hi] at hq
    exact wpAny_bind (wpAny_dictEntries (s := { s with toks := s.toks + 1 }) ho hd (wpAny_pure hq))
section
variable {X : Cx}
noncomputable def rTab (K : PySem.W.Frag) (a : Addr) (D : List (Str × List Str)) : R2 := fun x y H Q => x = .ref a ∧ ∃ z ss, y = .str z ∧ KTD.datumAt z D = some ss ∧ ∀ c, SqT K H c (ss.map V.str) → Q (.ref c) H
theorem pe_tab {x : Str} {p pos : Pos} {b : Expr} {tb : TE} {a : Addr} {D : List (Str × List Str)} (hg : Gl X x) (hm : X.mg x = some (.ref a)) (hK : KTD.tabLook (lookT X.K) (fun b => X.K.lookup b) a D = true) (hb : PE X b tb) (hs : PlainIx b)
    (hd : (x == ("__debug__" : Str)) = false := by decide) (hl : ∀ r, letTemporaryGo (.Name x p) (.ref a) r = pure () := by intro _; rfl) : PE X (.Subscript (.Name x p) b pos) (tOp (rTab X.K a D) (tC (.ref a)) tb) := by
  intro pins s σ H Q I h
  refine Subscript_ (binT (pe_glob hg hm (v := .ref a) rfl hd) hb I h fun v u s2 x' y H2 I2 rx ry q => ?_)
  obtain ⟨e, z, ss, e', hat, q⟩ := q
  subst e e'
  cases rx
  obtain ⟨tz, e⟩ := ry
  subst e
  have T : KTD.TabOf (IsT X.K) s2.heap a D := KTD.tab_of_look isT_of (fun b o e => I2.kIn b o e) hK
  have ty : s2.TypeIs (.ref a) "dict" := by obtain ⟨_, o, _, _, ho, hc, _⟩ := T; exact ⟨o, ho, hc.1⟩
  refine subscriptTail_builtin ty slot_dict_getitem.lookup ?_ (hs _ _) hl
  unfold getItem
  refine wpAny_holding ?_
  refine wpAny_bind (wpAny_sequenceKey ty (by decide) ?_)
  refine wpAny_bind (wpAny_callSpecial?_slot (name := Str.ofString "__getitem__") ty slot_dict_getitem (wpAny_call_entry slot_dict_getitem ty entry_dict_getitem ?_ (args_dict_getitem _ _)))
  show wpAny _ _ (dictGet a (.str z tz) >>= _) _ _ s2
  refine wpAny_bind (getTab T hat fun v hv => wpAny_pure ⟨v, rfl, wpAny_pure ?_⟩)
  obtain ⟨c, e, hc⟩ := hv
  subst e
  exact ⟨.ref c, H2, I2.tok _, rfl, q c (hc H2)⟩
end
end L2.Bw

end
section
set_option Elab.async false
set_option linter.all false
set_option maxRecDepth 100000
/-! enumerate(t, start=n) of a tuple, walked by pairs. -/
namespace L2.Bw
open PySem PySem.Spec PyProof.Rows
theorem init_kw {T newId : String} {me : Value} {more : List Value} {kws : List (Str × Value)} (a1 : typeLookup (.type T) "__init__" = pure (some (.builtin "object.__init__"))) (a2 : Bind.madeBy (.type T) = pure (some newId))
    (a3 : (some newId != some "object.__new__") = true) (a4 : more ≠ []) : Meets (Builtin.«object.__init__» ⟨me :: more, kws⟩) (fun _ R s => s.TypeIs me T ∧ R (.ok (.ret .none)) s) := by
  refine Meets.of_wp fun prog w A R s q => ?_
  obtain ⟨ty, q⟩ := q
  cases more with
  | nil => exact absurd rfl a4
  | cons b more =>
    repeat (any_goals (first | assumption | wp_step))
    exact ⟨_, rfl, q⟩
section
variable {prog : Program} {w : World} {A : Around} {E : Value → Shared → Prop} {s : Shared}
theorem callType_kw {T newId : String} {Bn : Builtin} {args : List Value} {kws : List (Str × Value)} {S : PySem.Spec} {Q Q1 : Value → Shared → Prop} (ft : TypeCalled T newId "object.__init__") (ne : (some newId != some "object.__new__") = true) (na : args ≠ [])
    (c1 : checkTypeCall T ⟨args, kws⟩ = pure ()) (c2 : checkBuiltinCall newId ⟨.type T :: args, kws⟩ = pure ()) (e1 : entryFor table newId = some Bn) (g : Meets (Bn ⟨.type T :: args, kws⟩) S) (h : S A.in1 (wants Q1 E) s)
    (hn : ∀ obj s1, Q1 obj s1 → s1.TypeIs obj T ∧ argsOk "object.__init__" ⟨obj :: args, kws⟩ ∧ Q obj s1) : wpAny (model prog w) A (call (.type T) args kws) Q E s := by
  obtain ⟨c, tl, m1⟩ := ft.mro
  have m2 := ft.made
  have m3 := ft.sub
  refine wpAny_call (codeAny_of_tree ?_)
  show wpAny _ _ (callAny (.type T) _) _ _ _
  refine wpAny_pure ⟨Code.quiet_builtin _ (by decide +kernel), codeAny_builtin F.entry_type_call ?_⟩
  rw [Around.under_plain (weight_type_call_type T args kws) (units_type_call_type T args kws)]
  have m4 := ft.notType
  have m5 := ft.canCreate
  repeat (any_goals (first | assumption | wp_step))
  refine codeAny_mono (codeAny_call_builtin ft.plain e1 (wpAny_of_eq c2 (g prog w A.in1 _ s h))) fun r s1 q1 => ?_
  cases r with
  | error e => exact q1
  | ok fl =>
    cases fl with
    | ret obj =>
      obtain ⟨ty, ok, qq⟩ := hn _ _ q1
      have m6 := ft.init.lookup
      have m7 := ft.init.bind obj
      repeat (any_goals (first | assumption | wp_step))
      refine codeAny_mono (codeAny_call_builtin ft.init.plain F.entry_object_init (ft.init.check _ _ _ _ _ _ _ _ ty ok (init_kw m6 m2 ne na prog w A.in1 (wants (fun r s2 => r = .none ∧ Q obj s2) E) s1 ⟨ty, rfl, qq⟩))) fun r2 s2 q2 => ?_
      cases r2 with
      | error e => exact q2
      | ok f2 =>
        cases f2 with
        | ret r =>
          obtain ⟨e, q3⟩ := q2
          subst e
          repeat (any_goals (first | assumption | wp_step))
        | _ => exact q2.elim
    | _ => exact q1.elim
theorem enum_new (t : Addr) (n : Int) (tk : Tok) (hn : Builtin.SmallTypes.fitsIndex n = true) (items : Array Value) :
    Meets (Builtin.«enumerate.__new__» ⟨[.type "enumerate", .ref t], [("start", .int n tk)]⟩) (fun _ R s => s.heap.IsTuple t items ∧
      R (.ok (.ret (.ref (s.heap.push { cls := .type "tuple_iterator", data := .fields #[.ref t, .int 0 0] }).objs.size)))
        { s with heap := (s.heap.push { cls := .type "tuple_iterator", data := .fields #[.ref t, .int 0 0] }).push { cls := .type "enumerate", data := .fields #[.none, .bool false, .ref s.heap.objs.size, rawInt n, .none, .none] } }) :=
  .of_wp fun prog w A R s h => by
    obtain ⟨hp, g, d, tk', os⟩ := s
    obtain ⟨ht, h⟩ := h
    have sub := sub_enumerate
    wp_walk
    refine wpAny_stack_any fun st => wpAny_pure ?_
    split
    · rename_i c _ _ _ _ _
      cases (c == Value.type "enumerate")
      · wp_walk using wpAny_pyIter_tuple ht
        exact ⟨_, rfl, h⟩
      · wp_walk using wpAny_pyIter_tuple ht
        exact ⟨_, rfl, h⟩
    · wp_walk using wpAny_pyIter_tuple ht
      exact ⟨_, rfl, h⟩
/-- the tuple's iterator, asked by enumerate -/
theorem next_tup {it t : Addr} {i : Nat} {xs : Array Value} {x : Value} {Q : Value → Shared → Prop} (g : s.heap.IsTupleIter it t i) (gt : s.heap.IsTuple t xs) (gx : xs[i]? = some x)
    (q : ∀ h1, h1.IsTupleIter it t (i + 1) → Heap.SameBut it s.heap h1 → Q x { s with heap := h1 }) : wpAny (model prog w) A (Builtin.SmallTypes.nextOf (.ref it)) Q E s := by
  obtain ⟨o, eo, co, dd⟩ := id g
  obtain ⟨ot, et, _, nt, dt⟩ := gt
  unfold Builtin.SmallTypes.nextOf
  refine wpAny_bind (wpAny_callSpecial?_slot (name := Str.ofString "__next__") g.typeIs F.slot_tuple_iterator_next (wpAny_call_entry F.slot_tuple_iterator_next g.typeIs F.entry_tuple_iterator_next ?_ (F.args_tuple_iterator_next_1 _)))
  show wpAny _ _ (field (.ref it) 0 >>= fun _ => _) _ _ s
  refine wpAny_bind (wpAny_field eo dd (x := .ref t) rfl ?_)
  show wpAny _ _ (if (Value.ref t == Value.none) = true then _ else _) _ _ s
  have nn : ¬ ((Value.ref t == Value.none) = true) := Bool.false_ne_true
  rw [if_neg nn]
  show wpAny _ _ (field (.ref it) 1 >>= fun _ => _) _ _ s
  refine wpAny_bind (wpAny_field eo dd (x := .int i 0) rfl ?_)
  show wpAny _ _ (seqItems? (.ref t) >>= fun _ => _) _ _ s
  refine wpAny_bind (wpAny_seqItems et dt ?_)
  simp only [Int.toNat_natCast, gx]
  refine wpAny_bind (wpAny_setField eo dd (by simp) (wpAny_pure ⟨x, rfl, wpAny_pure (q _ ⟨_, Heap.get?_update_self _ eo (Obj.isFreed_of_fields (Obj.data_mapFields dd _)), (Obj.cls_mapFields ..).trans co, ?_⟩ (Heap.SameBut.update ..))⟩))
  rw [Obj.data_mapFields dd]
  simp [rawInt]
theorem enum_item {e it t : Addr} {i : Nat} {j : Int} {xs : Array Value} {x old : Value} {Q : Option Value → Shared → Prop} (ge : IsEnum s.heap e it j old) (g : s.heap.IsTupleIter it t i) (gt : s.heap.IsTuple t xs) (gx : xs[i]? = some x) (ne : e ≠ it)
    (q : ∀ h1 tk, IsEnumOut h1 e it (j + 1) x s.heap.objs.size → h1.IsTupleIter it t (i + 1) → h1.get? s.heap.objs.size = some { cls := .type "tuple", data := .seq #[.int j tk, x] } →
      (∀ b o, b ≠ e → b ≠ it → s.heap.get? b = some o → h1.get? b = some o) → Q (some (.ref s.heap.objs.size)) { s with heap := h1, toks := tk + 1 }) : wpAny (model prog w) A (pyNext (.ref e)) Q E s := by
  have ty : s.TypeIs (.ref e) "enumerate" := ⟨_, ge, rfl⟩
  unfold pyNext
  refine wpAny_bind (wpAny_attempt (wpAny_callSpecial?_slot (name := Str.ofString "__next__") ty F.slot_enumerate_next (wpAny_call_entry F.slot_enumerate_next ty F.entry_enumerate_next ?_ (F.args_enumerate_next_1 _))))
  obtain ⟨hp, gs, d, tk0, os⟩ := s
  show wpAny _ _ (field (.ref e) 2 >>= fun _ => _) _ _ _
  refine wpAny_bind (wpAny_field ge rfl (x := .ref it) rfl ?_)
  refine wpAny_bind (next_tup g gt gx fun h1 g1 s1 => ?_)
  replace s1 : Heap.SameBut it hp h1 := s1
  have e1 : IsEnum h1 e it j old := (s1.2 e ne).trans ge
  show wpAny _ _ (field (.ref e) 3 >>= fun _ => _) _ _ ⟨h1, gs, d, tk0, os⟩
  refine wpAny_bind (wpAny_field e1 rfl (x := rawInt j) rfl ?_)
  show wpAny _ _ (field (.ref e) 4 >>= fun _ => _) _ _ ⟨h1, gs, d, tk0, os⟩
  refine wpAny_bind (wpAny_field e1 rfl (x := .none) rfl ?_)
  show wpAny _ _ (mkInt j >>= fun _ => _) _ _ ⟨h1, gs, d, tk0, os⟩
  refine wpAny_bind (wpAny_mkInt ?_)
  show wpAny _ _ (setField (.ref e) 3 (rawInt (j + 1)) >>= fun _ => _) _ _ ⟨h1, gs, d, tk0 + 1, os⟩
  refine wpAny_bind (wpAny_setField_rec e1 (by simp) fun h2 e2 s2 => ?_)
  replace s2 : Heap.SameBut e h1 h2 := s2
  replace e2 : IsEnum h2 e it (j + 1) old := e2
  show wpAny _ _ (setField (.ref e) 4 .none >>= fun _ => _) _ _ ⟨h2, gs, d, tk0 + 1, os⟩
  refine wpAny_bind (wpAny_setField_rec e2 (by simp) fun h3 e3 s3 => ?_)
  replace s3 : Heap.SameBut e h2 h3 := s3
  replace e3 : IsEnum h3 e it (j + 1) old := e3
  show wpAny _ _ (newTuple [.int j tk0, x] >>= fun _ => _) _ _ ⟨h3, gs, d, tk0 + 1, os⟩
  refine wpAny_bind (wpAny_newTuple ?_)
  have e4 : IsEnum (h3.push { cls := .type "tuple", data := .seq #[.int j tk0, x] }) e it (j + 1) old := Heap.get?_push_of_some _ e3
  generalize hh4 : h3.push { cls := .type "tuple", data := .seq #[.int j tk0, x] } = h4 at e4
  have sz : h3.objs.size = hp.objs.size := by rw [s3.1, s2.1, s1.1]
  have lt : e < hp.objs.size := Heap.lt_size ge
  have t4 : h4.get? hp.objs.size = some { cls := .type "tuple", data := .seq #[.int j tk0, x] } := by rw [← hh4, ← sz]; exact Heap.get?_push_size _ rfl
  have k4 : ∀ b o, b ≠ e → b ≠ it → hp.get? b = some o → h4.get? b = some o := fun b o n1 n2 hb => by
    rw [← hh4]; exact Heap.get?_push_of_some _ (s3.extBut b o n1 (s2.extBut b o n1 (s1.extBut b o n2 hb)))
  have g4 : h4.IsTupleIter it t (i + 1) := g1.at fun o y => by
    rw [← hh4]; exact Heap.get?_push_of_some _ (s3.extBut it o (Ne.symm ne) (s2.extBut it o (Ne.symm ne) y))
  show wpAny _ _ (Builtin.SmallTypes.ownedTupleIsFree (.ref e) >>= fun _ => _) _ _ ⟨h4, gs, d, tk0 + 1, os⟩
  rw [sz]
  clear hh4 e3 s3 e2 s2 e1 s1 g1 sz h3 h2 h1
  refine wpAny_bind ?_
  unfold Builtin.SmallTypes.ownedTupleIsFree
  refine wpAny_bind (wpAny_field e4 rfl (x := .none) rfl (wpAny_pure ?_))
  simp only [if_true]
  refine wpAny_bind (wpAny_rule (wpAny_bind (wpAny_field e4 rfl (x := old) rfl ?_)))
  refine wpAny_bind (wpAny_setField_rec e4 (by simp) fun h5 e5 s5 => ?_)
  replace s5 : Heap.SameBut e h4 h5 := s5
  replace e5 : IsEnum h5 e it (j + 1) x := e5
  show wpAny _ _ (Builtin.SmallTypes.ownedTupleHandOut (.ref e) (.ref hp.objs.size) >>= fun _ => _) _ _ ⟨h5, gs, d, tk0 + 1, os⟩
  refine wpAny_bind ?_
  unfold Builtin.SmallTypes.ownedTupleHandOut
  refine wpAny_bind (wpAny_setField_rec e5 (by simp) fun h6 e6 s6 => ?_)
  replace s6 : Heap.SameBut e h5 h6 := s6
  replace e6 : IsEnumOut h6 e it (j + 1) x hp.objs.size := e6
  refine wpAny_setField_rec e6 (by simp) fun h7 e7 s7 => ?_
  replace s7 : Heap.SameBut e h6 h7 := s7
  replace e7 : IsEnumOut h7 e it (j + 1) x hp.objs.size := e7
  have up : ∀ b o, b ≠ e → h4.get? b = some o → h7.get? b = some o := fun b o n1 y => s7.extBut b o n1 (s6.extBut b o n1 (s5.extBut b o n1 y))
  refine wpAny_bind (wpAny_letGo (wpAny_pure ⟨_, rfl, wpAny_pure ?_⟩))
  exact q h7 tk0 e7 (g4.at fun o y => up it o (Ne.symm ne) y) (up _ _ (Nat.ne_of_gt lt) t4) fun b o n1 n2 y => up b o n1 (k4 b o n1 n2 y)
theorem next_tup_end {it t : Addr} {i : Nat} {xs : Array Value} {Q : Value → Shared → Prop} (hh : A.handled = none) (g : s.heap.IsTupleIter it t i) (gt : s.heap.IsTuple t xs) (gx : xs[i]? = none)
    (q : ∀ h1 x, Heap.ExtBut it s.heap h1 → (∃ o, h1.get? x = some o ∧ o.cls = .type "StopIteration") → E (.ref x) { s with heap := h1 }) : wpAny (model prog w) A (Builtin.SmallTypes.nextOf (.ref it)) Q E s := by
  obtain ⟨o, eo, co, dd⟩ := id g
  obtain ⟨ot, et, _, nt, dt⟩ := gt
  unfold Builtin.SmallTypes.nextOf
  refine wpAny_bind (wpAny_callSpecial?_slot (name := Str.ofString "__next__") g.typeIs F.slot_tuple_iterator_next (wpAny_call_entry F.slot_tuple_iterator_next g.typeIs F.entry_tuple_iterator_next ?_ (F.args_tuple_iterator_next_1 _)))
  show wpAny _ _ (field (.ref it) 0 >>= fun _ => _) _ _ s
  refine wpAny_bind (wpAny_field eo dd (x := .ref t) rfl ?_)
  show wpAny _ _ (if (Value.ref t == Value.none) = true then _ else _) _ _ s
  have nn : ¬ ((Value.ref t == Value.none) = true) := Bool.false_ne_true
  rw [if_neg nn]
  show wpAny _ _ (field (.ref it) 1 >>= fun _ => _) _ _ s
  refine wpAny_bind (wpAny_field eo dd (x := .int i 0) rfl ?_)
  show wpAny _ _ (seqItems? (.ref t) >>= fun _ => _) _ _ s
  refine wpAny_bind (wpAny_seqItems et dt ?_)
  simp only [Int.toNat_natCast, gx]
  refine wpAny_bind (wpAny_rule (wpAny_bind (wpAny_setField eo dd (by simp) ?_)))
  show wpAny _ _ (newExc (.type "StopIteration") [] >>= fun _ => _) _ _ _
  refine wpAny_bind ?_
  simp only [newExc, newTuple]
  refine wpAny_bind (wpAny_newObj_type ?_ (by size_fits))
  refine wpAny_bind (m := firstArgMember _ _) (wpAny_of_eq (a := Value.none) (by first | rfl | (simp only [firstArgMember]; rfl)) (wpAny_newObj_type ?_ (by size_fits)))
  simp only [raiseNew]
  refine wpAny_bind (wpAny_handled ?_)
  first | rw [show A.in1.handled = none from hh] | rw [hh]
  exact wpAny_bind (wpAny_pure (wpAny_throw (q _ _ (((Heap.SameBut.update ..).extBut.push _).push _) ⟨_, Heap.get?_push_size _ rfl, rfl⟩)))
theorem enum_end {e it t : Addr} {i : Nat} {j : Int} {xs : Array Value} {old : Value} {Q : Option Value → Shared → Prop} (hh : A.handled = none) (ge : IsEnum s.heap e it j old) (g : s.heap.IsTupleIter it t i) (gt : s.heap.IsTuple t xs) (gx : xs[i]? = none)
    (q : ∀ h1, Heap.ExtBut it s.heap h1 → Q none { s with heap := h1 }) : wpAny (model prog w) A (pyNext (.ref e)) Q E s := by
  have ty : s.TypeIs (.ref e) "enumerate" := ⟨_, ge, rfl⟩
  unfold pyNext
  refine wpAny_bind (wpAny_attempt (wpAny_callSpecial?_slot (name := Str.ofString "__next__") ty F.slot_enumerate_next (wpAny_call_entry F.slot_enumerate_next ty F.entry_enumerate_next ?_ (F.args_enumerate_next_1 _))))
  show wpAny _ _ (field (.ref e) 2 >>= fun _ => _) _ _ _
  refine wpAny_bind (wpAny_field ge rfl (x := .ref it) rfl ?_)
  refine wpAny_bind (next_tup_end hh g gt gx fun h1 x k1 k2 => ?_)
  obtain ⟨o, ho, hc⟩ := k2
  exact wpAny_bind (wpAny_isInstance (T := "StopIteration") (b := true) ⟨o, ho, hc⟩ isSubtype_stop (wpAny_pure (q _ k1)))
end
/-- pairs (lo + i, the tuple's item at i) -/
noncomputable def Ite (K : PySem.W.Frag) (a : Addr) (lo : Int) : It where
  go := fun i H => ∃ xs x, SqT K H a xs ∧ xs[i]? = some x
  yld := fun i H v H' => ∃ T x, v = .ref T ∧ H T = none ∧ H' = upd H T (.tup [.int (lo + i), x]) ∧ ∀ xs, SqT K H a xs → xs[i]? = some x
  stop := fun i H => ∃ xs, SqT K H a xs ∧ xs.length ≤ i
theorem turn_enum {P : Program} {w : World} {K : PySem.W.Frag} {es : List Expr} {k : Nat} {tp : Pos} (a e it : Addr) (lo : Int) (ne : e ≠ it) :
    Turn P w K (.Tuple es k tp) (Ite K a lo) [e, it] e (fun i h => (∃ old, IsEnum h e it (lo + i) old) ∧ h.IsTupleIter it a i) where
  mem := by simp
  obj := fun i h st c hc => by
    obtain ⟨⟨old, h1⟩, ⟨o2, e2, c2, d2⟩⟩ := st
    have hc' : c = e ∨ c = it := by simpa using hc
    rcases hc' with rfl | rfl
    · exact ⟨_, h1, fun v q => by cases (show Data.fields _ = Data.cell v from q)⟩
    · exact ⟨o2, e2, fun v q => by rw [d2] at q; cases q⟩
  keep := fun i h h' st kp => by
    obtain ⟨⟨old, h1⟩, h2⟩ := st
    exact ⟨⟨old, kp e (by simp) _ h1⟩, h2.at fun o q => kp it (by simp) o q⟩
  item := by
    intro X hP hw hK hc i pins s σ H E I hf st hg
    subst hP hw hK
    obtain ⟨xs, x, hq, hx⟩ := hg
    obtain ⟨its, rv, p, hz⟩ := I.tuple hq
    obtain ⟨u, hu, ru⟩ := rv.get hx
    obtain ⟨⟨old, h1⟩, h2⟩ := st
    refine enum_item h1 h2 (show s.heap.IsTuple a its.toArray from p) (x := u) (by simpa using hu) ne fun h' tk ho hi ht kp => ⟨_, rfl, ?_⟩
    refine wpAny_letOwnedTupleGo_enum ho fun h'' he' hs' => ?_
    replace hs' : Heap.SameBut e h' h'' := hs'
    replace he' : IsEnum h'' e it (lo + i + 1) u := he'
    have zT := (hs'.2 s.heap.objs.size (Nat.ne_of_gt (Heap.lt_size h1))).trans ht
    have kp' : ∀ b o, b ∉ [e, it] → s.heap.get? b = some o → h''.get? b = some o := fun b o hb q => (hs'.2 b (fun z => hb (z ▸ List.mem_cons_self))).trans (kp b o (fun z => hb (z ▸ List.mem_cons_self)) (fun z => hb (z ▸ List.mem_cons_of_mem _ List.mem_cons_self)) q)
    have hsz : e < s.heap.objs.size := Heap.lt_size h1
    have hiz : it < s.heap.objs.size := by obtain ⟨o, q, _⟩ := h2; exact Heap.lt_size q
    have htT : IsTup h'' s.heap.objs.size #[.int (lo + i) tk, u] := ⟨_, zT, rfl, 0, rfl⟩
    have hTn : H s.heap.objs.size = none := I.hok.fresh (Nat.le_refl _)
    have I2 : Inv X pins σ (upd H s.heap.objs.size (.tup [.int (lo + i), x])) { s with heap := h'', toks := tk + 1 } :=
      turnedT (ch := [e, it]) I kp' hf (Nat.le_refl _) ⟨[.int (lo + i) tk, u], .cons ⟨tk, rfl⟩ (.cons ru .nil), htT⟩ (by show 2 ≤ sizeLine; decide)
    refine ⟨.ref s.heap.objs.size, _, I2, rfl, ⟨_, x, rfl, hTn, rfl, fun ys hy => by rw [I.tuple_inj hy hq]; exact hx⟩, ⟨⟨u, ?_⟩, hi.at fun o q => (hs'.2 it (Ne.symm ne)).trans q⟩, fun b hb => ?_⟩
    · have z : lo + ((i + 1 : Nat) : Int) = lo + (i : Int) + 1 := by omega
      rw [z]; exact he'
    · have hb' : b = e ∨ b = it := by simpa using hb
      have hne : b ≠ s.heap.objs.size := by
        rcases hb' with z | z
        · rw [z]; exact Nat.ne_of_lt hsz
        · rw [z]; exact Nat.ne_of_lt hiz
      rw [upd_ne hne]
      exact (hf b hb).1
  done := by
    intro X hP hw hK hc i pins s σ H E I hf st hg
    subst hP hw hK
    obtain ⟨xs, hq, hx⟩ := hg
    obtain ⟨its, rv, p, hz⟩ := I.tuple hq
    obtain ⟨⟨old, h1⟩, h2⟩ := st
    have hl := rv.length
    refine enum_end (I.ok.hd hc) h1 h2 (show s.heap.IsTuple a its.toArray from p) (by simp; omega) fun h' kp => ⟨rfl, ?_⟩
    exact turnedN (ch := [e, it]) (t' := s.toks) I (fun b o hb q => kp b o (fun z => hb (z ▸ List.mem_cons_of_mem _ List.mem_cons_self)) q) hf
  self := fun _ _ _ _ _ st h => by
    obtain ⟨⟨old, h1⟩, _⟩ := st
    exact wpAny_pyIter_enum h1 h
section
variable {X : Cx}
noncomputable def iEnum (K : PySem.W.Frag) (ta tk : TA) : TI := fun σ H R => ta σ H fun vs H1 => tk σ H1 fun zs H2 => ∃ a xs n, vs = [.ref a] ∧ zs = [.int n] ∧ Builtin.SmallTypes.fitsIndex n = true ∧ SqT K H2 a xs ∧ R (Ite K a n) H2
theorem callTy_kw {M : Model} {A : Around} {E : Value → Shared → Prop} {s : Shared} {env : Env} {pos : Pos} {T : String} {e : Expr} {rest : List Expr} {kws : List Keyword} {Q : Value → Shared → Prop}
    (h : wpAny M A (spliced (backTo pos (starEach (e :: rest) env))) (fun vs s1 => wpAny M A (evalAll ((backToKw pos (keywordEach kws env)).map (·.2))) (fun ks s2 => wpAny M A (call (.type T) vs (((backToKw pos (keywordEach kws env)).filterMap (·.1)).zip ks)) Q E s2) E s1) E s)
    (he : starEach (e :: rest) env = (false, eval e env) :: starEach rest env) (h1 : (backTo pos (starEach (e :: rest) env)).any (·.1) = false) (h2 : (backToKw pos (keywordEach kws env)).all (·.1.isSome) = true) (h3 : (backToKw pos (keywordEach kws env)).any (·.1.isNone) = false) :
    wpAny M A (callWith pos (.type T) [] (backTo pos (starEach (e :: rest) env)) (backToKw pos (keywordEach kws env))) Q E s := by
  have k : wpAny M A (evalArgs (.type T) true (backTo pos (starEach (e :: rest) env)) (backToKw pos (keywordEach kws env))) (fun a s1 => wpAny M A (call (.type T) ([] ++ a.pos) a.kw) Q E s1) E s := by
    rw [he] at h ⊢
    exact evalArgs_kwB h2 h
  unfold callWith
  refine wpAny_bind (wpAny_holding (thn k fun a s1 q => wpAny_bind (wpAny_standAt ?_)))
  simp only [h1, h3, Bool.or_false]
  exact wpAny_bind (wpAny_pure (wpAny_bind (thn q fun r s2 q2 => wpAny_bind (wpAny_holding (wpAny_point (wpAny_pure q2))))))
theorem enum_call {prog : Program} {w : World} {A : Around} {E : Value → Shared → Prop} {s : Shared} {t : Addr} {xs : Array Value} {n : Int} {tk : Tok} {Q : Value → Shared → Prop} (hn : Builtin.SmallTypes.fitsIndex n = true) (ht : s.heap.IsTuple t xs)
    (h : Q (.ref (s.heap.push { cls := .type "tuple_iterator", data := .fields #[.ref t, .int 0 0] }).objs.size)
      { s with heap := (s.heap.push { cls := .type "tuple_iterator", data := .fields #[.ref t, .int 0 0] }).push { cls := .type "enumerate", data := .fields #[.none, .bool false, .ref s.heap.objs.size, rawInt n, .none, .none] } }) :
    wpAny (model prog w) A (call (.type "enumerate") [.ref t] [("start", .int n tk)]) Q E s := by
  refine callType_kw (Q1 := fun obj s1 => obj = .ref (s.heap.push { cls := .type "tuple_iterator", data := .fields #[.ref t, .int 0 0] }).objs.size ∧ s1 = { s with heap := (s.heap.push { cls := .type "tuple_iterator", data := .fields #[.ref t, .int 0 0] }).push { cls := .type "enumerate", data := .fields #[.none, .bool false, .ref s.heap.objs.size, rawInt n, .none, .none] } })
    F.called_enumerate (by decide) (by simp) (by kernel_rfl) (by kernel_rfl) F.entry_enumerate_new (enum_new t n tk hn xs) ⟨ht, rfl, rfl⟩ fun obj s1 q => ?_
  obtain ⟨e, e'⟩ := q
  subst e e'
  exact ⟨⟨_, Heap.get?_push_size _ rfl, rfl⟩, by first | (simp [argsOk]; done) | (unfold argsOk; kernel_rfl) | (unfold argsOk; decide +kernel) | kernel_rfl, h⟩
theorem pi_enum {es : List Expr} {k : Nat} {tp p pos kp : Pos} {a b : Expr} {ta tk : TA} (hg : Gl X "enumerate") (hm : X.mg "enumerate" = none) (ha : PA X [a] ta) (hk : PK X [⟨some "start", b, kp⟩] tk) (hs : starEach [a] X.env = [(false, eval a X.env)] := by rfl) :
    PI X (.Tuple es k tp) (.Call (.Name "enumerate" p) [a] [⟨some "start", b, kp⟩] pos) (iEnum X.K ta tk) := by
  intro pins s σ H R I h
  refine wpAny_Call_Name_kw (ld_blt I hg hm boot_enumerate ?_)
  refine callTy_kw (thn (ha pos pins s σ H _ I h) fun us s1 q1 => ?_) (by rw [hs]; rfl) (by rw [hs]; rfl) rfl rfl
  obtain ⟨vs, H1, I1, r1, q1⟩ := q1
  refine thn (hk pos pins s1 σ H1 _ I1 q1) fun ws s2 q2 => ?_
  obtain ⟨zs, H2, I2, r2, l, xs, n, e, e', hn, hx, q⟩ := q2
  subst e e'
  obtain ⟨u, e, ru⟩ := Vals.one r1
  obtain ⟨u2, e', ru2⟩ := Vals.one r2
  subst e e'
  cases ru
  obtain ⟨tz, e⟩ := ru2
  subst e
  obtain ⟨its, rv, p1, z1⟩ := I2.tuple hx
  refine enum_call hn (show s2.heap.IsTuple l its.toArray from p1) (wpAny_pyIter_enum (Heap.get?_push_size _ rfl) ?_)
  have hsz : (s2.heap.push { cls := .type "tuple_iterator", data := .fields #[.ref l, .int 0 0] }).objs.size = s2.heap.objs.size + 1 := Heap.size_push ..
  rw [hsz]
  refine ⟨s2.heap.objs.size + 1, [s2.heap.objs.size + 1, s2.heap.objs.size], _, Ite X.K l n, H2, rfl, I2.kept (t' := s2.toks) fun b o e => Heap.get?_push_of_some _ (Heap.get?_push_of_some _ e), turn_enum l _ _ n (Nat.succ_ne_self _), ⟨⟨.none, ?_⟩, ⟨_, Heap.get?_push_of_some _ (Heap.get?_push_size _ rfl), rfl, rfl⟩⟩, fun c hc => ?_, q⟩
  · have z : n + ((0 : Nat) : Int) = n := by omega
    rw [z, ← hsz]
    exact Heap.get?_push_size _ rfl
  · have hc' : s2.heap.objs.size ≤ c := by
      rcases List.mem_cons.mp hc with z | z
      · rw [z]; exact Nat.le_succ _
      · rw [List.mem_singleton.mp z]; exact Nat.le_refl _
    exact I2.fpOk hc' (I2.hok.fresh hc')
end
end L2.Bw

end
section
set_option Elab.async false
set_option linter.all false
set_option maxRecDepth 100000
/-! max(xs, default=d) of a list of ints. -/
namespace L2.Bw
open PySem PySem.Spec PyProof.Rows
section
variable {prog : Program} {w : World} {A : Around} {R : Result → Shared → Prop} {it : Addr} {fp wr : List Addr} {n : Nat} {f : Nat → Int} {Z : Nat → Heap → Prop}
end
section
variable {X : Cx}
end
end L2.Bw

end
section
set_option Elab.async false
set_option linter.all false
set_option maxRecDepth 100000
/-! list(reversed(xs)) of a list. -/
namespace L2.Bw
open PySem PySem.Spec PyProof.Rows
theorem rev_no_len : typeLookup (.type "list_reverseiterator") "__len__" = pure none := by rw [typeLookup_type, builtinLookup_eq_fast]; kernel_rfl
theorem rev_hint : typeLookup (.type "list_reverseiterator") "__length_hint__" = pure (some (.builtin "list_reverseiterator.__length_hint__")) := by rw [typeLookup_type, builtinLookup_eq_fast]; kernel_rfl
section
variable {prog : Program} {w : World} {A : Around} {E : Value → Shared → Prop} {s : Shared}
theorem ext_rev {R : Result → Shared → Prop} {r l S : Addr} {xs : Array Value} {c0 : Nat} {res : Value} (hh : A.handled = none) (hn : xs.size ≤ sizeLine) (g : s.heap.IsRevIter r l ((xs.size : Int) - 1)) (gl : s.heap.IsList l xs) (ne : l ≠ r)
    (hS : s.heap.get? S = some { cls := .type "list", data := .seq #[] c0 }) (n1 : S ≠ r) (n2 : S ≠ l)
    (q : ∀ h1 tk acc c1, (∀ b o, b ≠ S → b ≠ r → s.heap.get? b = some o → h1.get? b = some o) → h1.get? S = some { cls := .type "list", dict := none, data := .seq acc c1, slots := #[] } → ItemsOf (fun i v => xs[xs.size - 1 - i]? = some v) acc xs.size → R (.ok (.ret res)) { s with heap := h1, toks := tk }) :
    wpAny (model prog w) A.in1 (Builtin.List.listExtendWith (.ref S) (.ref r) res)
      (fun fin s1 => match fin with | .done f => R (.ok f) s1 | .again c1 => c1.quiet = true ∧ codeAny (model prog w) A c1 R s1) (fun e s1 => R (.error e) s1) s := by
  have ty := g.typeIs
  unfold Builtin.List.listExtendWith
  refine wpAny_bind (wpAny_typeOf ty ?_)
  have a1 : Builtin.List.listSameRef (.ref S) (.ref r) = false := by simp [Builtin.List.listSameRef, n1]
  have a2 : (Value.type "list_reverseiterator" == Value.type "list") = false := by decide
  have a3 : (Value.type "list_reverseiterator" == Value.type "tuple") = false := by decide
  simp only [a1, a2, a3, Bool.or_false, Bool.false_eq_true, if_false]
  refine wpAny_bind (wpAny_pyIter_revIter g (wpAny_bind (wpAny_holding ?_)))
  unfold Builtin.List.listLengthHint
  refine wpAny_bind (wpAny_specialOf ty rev_no_len ?_)
  show wpAny _ A.in1 (specialOf (Value.ref r) (Str.ofString "__length_hint__") >>= fun _ => _) _ _ _
  refine wpAny_bind (wpAny_specialOf ty rev_hint ?_)
  have W := (Walks.listRev (prog := prog) (w := w) (A := A.in1) hh r l ne xs).toS
  have nS : S ∉ [r, l] := by simp [n1, n2]
  have sp : splitId "list_reverseiterator.__length_hint__" = some ("list_reverseiterator", "__length_hint__") := by decide +kernel
  dsimp only
  simp only [sp]
  refine wpAny_bind (wpAny_isInstance (T := "list_reverseiterator") (b := true) ty (by rw [isSubtype_type]; kernel_rfl) ?_)
  refine wpAny_ite_split (fun z => absurd z (by decide)) fun _ => ?_
  refine wpAny_ite_split (fun _ => ?_) (fun z => absurd (by decide +kernel) z)
  refine wpAny_ite_split (fun z => absurd z (by decide +kernel)) fun _ => wpAny_pure ?_
  refine wpAny_ite_split (fun z => absurd z (by decide +kernel)) fun _ => ?_
  refine wpAny_pure ⟨plainId_quiet F.plain_extend_loop _, codeAny_extend_loopS W hn S nS res xs.size 0 _ _ _ rfl (Nat.zero_le _) ⟨Nat.zero_le _, by simpa using g, gl⟩ hS (ItemsOf.nil _) fun s1 acc c1 hm hS1 hacc => ?_⟩
  rw [Moved.eq_with hm]
  refine q s1.heap s1.toks acc c1 (fun b o z1 z2 e => hm.heap b o (fun z => ?_) e) hS1 hacc
  rcases List.mem_cons.mp z with z | z
  · exact z1 z
  · exact z2 (List.mem_singleton.mp z)
theorem call_list_rv {r l : Addr} {xs : Array Value} {Q : Value → Shared → Prop} (hh : A.handled = none) (hn : xs.size ≤ sizeLine) (g : s.heap.IsRevIter r l ((xs.size : Int) - 1)) (gl : s.heap.IsList l xs) (ne : l ≠ r)
    (q : ∀ h1 tk acc c1, (∀ b o, b ≠ r → s.heap.get? b = some o → h1.get? b = some o) → h1.get? s.heap.objs.size = some { cls := .type "list", dict := none, data := .seq acc c1, slots := #[] } → ItemsOf (fun i v => xs[xs.size - 1 - i]? = some v) acc xs.size →
      Q (.ref s.heap.objs.size) { s with heap := h1, toks := tk }) : wpAny (model prog w) A (call (.type "list") [.ref r]) Q E s := by
  refine callType_codes (Q₁ := fun obj s1 => obj = .ref s.heap.objs.size ∧ s1 = { s with heap := s.heap.push { cls := .type "list", data := .seq #[] } }) F.called_list (F.typeCall_list_1 _) F.entry_list_init (code_list_new _ ⟨rfl, rfl⟩) fun obj s1 z => ?_
  obtain ⟨e, e'⟩ := z
  subst e e'
  have hS : (s.heap.push { cls := .type "list", data := .seq #[] }).get? s.heap.objs.size = some { cls := .type "list", data := .seq #[] } := Heap.get?_push_size _ rfl
  have rlt : r < s.heap.objs.size := by obtain ⟨_, e, _⟩ := g; exact Heap.lt_size e
  have llt : l < s.heap.objs.size := by obtain ⟨_, e, _⟩ := gl; exact Heap.lt_size e
  refine ⟨⟨_, hS, rfl⟩, F.args_list_init_2 _ _, ?_⟩
  show wpAny _ _ (do let old ← Builtin.List.listItems (.ref s.heap.objs.size); Builtin.List.listUpdate (.ref s.heap.objs.size) (fun _ => #[]); letGo old.toList.reverse; Builtin.List.listExtendWith (.ref s.heap.objs.size) (.ref r) .none) _ _ _
  refine wpAny_bind ?_
  unfold Builtin.List.listItems
  refine wpAny_bind (wpAny_seqItems hS rfl (wpAny_pure ?_))
  show wpAny _ _ (updateSeq s.heap.objs.size (fun _ => #[]) >>= fun _ => letGo (#[] : Array Value).toList.reverse >>= fun _ => Builtin.List.listExtendWith (.ref s.heap.objs.size) (.ref r) .none) _ _ _
  refine wpAny_bind (wpAny_updateSeq hS rfl (wpAny_bind (wpAny_letGo ?_)))
  have oth : ∀ b o, s.heap.get? b = some o → ((s.heap.push { cls := .type "list", data := .seq #[] }).update s.heap.objs.size (Obj.mapSeq (fun _ => (#[] : Array Value)))).get? b = some o := fun b o e =>
    (Heap.get?_update_other _ _ (Nat.ne_of_gt (Heap.lt_size e))).trans (Heap.get?_push_of_some _ e)
  refine ext_rev (A := A.in1) hh hn (g.at fun o e => oth r o e) (gl.at fun o e => oth l o e) ne (Heap.get?_update_self (Obj.mapSeq (fun _ => (#[] : Array Value))) hS rfl) (Nat.ne_of_gt rlt) (Nat.ne_of_gt llt) fun h1 tk acc c1 k1 k2 k3 => ⟨rfl, ?_⟩
  exact q h1 tk acc c1 (fun b o n1 e => k1 b o (Nat.ne_of_lt (Heap.lt_size e)) n1 (oth b o e)) k2 k3
end
section
variable {X : Cx}
noncomputable def tRev (K : PySem.W.Frag) (te : TE) : TE := fun σ H Q => te σ H fun x H1 => ∃ a xs, x = .ref a ∧ SqL K H1 a xs ∧ ∀ p, H1 p = none → Q (.ref p) (upd H1 p (.lst xs.reverse))
theorem items_rev {us : List Value} {acc : Array Value} (h : ItemsOf (fun i v => us.toArray[us.toArray.size - 1 - i]? = some v) acc us.toArray.size) : acc.toList = us.reverse := by
  obtain ⟨h1, h2⟩ := h
  refine List.ext_getElem (by simpa using h1) fun i l1 l2 => ?_
  have k := h2 i acc[i] (Array.getElem?_eq_getElem (by simpa using l1))
  have l3 : i < us.length := by simpa using l2
  rw [List.getElem_reverse]
  have k' : us[us.length - 1 - i]? = some acc[i] := by simpa using k
  rw [List.getElem?_eq_getElem (by omega)] at k'
  simpa using (Option.some.inj k').symm
theorem pe_listrev {p1 p2 pos pos2 : Pos} {e : Expr} {te : TE} (hc : X.calm = true) (g1 : Gl X "list") (m1 : X.mg "list" = none) (g2 : Gl X "reversed") (m2 : X.mg "reversed" = none) (he : PE X e te) (hs : starEach [e] X.env = [(false, eval e X.env)] := by rfl)
    (hs2 : starEach [.Call (.Name "reversed" p2) [e] [] pos2] X.env = [(false, eval (.Call (.Name "reversed" p2) [e] [] pos2) X.env)] := by rfl) :
    PE X (.Call (.Name "list" p1) [.Call (.Name "reversed" p2) [e] [] pos2] [] pos) (tRev X.K te) := by
  intro pins s σ H Q I h
  refine wpAny_Call_Name_kw (ld_blt I g1 m1 boot_list ?_)
  refine PyProof.Rows.callWith_type1 ?_ (by rw [hs2]; rfl) rfl
  rw [hs2]
  show wpAny _ _ (spliced ((false, eval (.Call (.Name "reversed" p2) [e] [] pos2) X.env) :: [])) _ _ s
  refine Calls.spliced_cons ?_
  refine wpAny_Call_Name_kw (ld_blt I g2 m2 boot_reversed ?_)
  refine PyProof.Rows.callWith_type1 ?_ (by rw [hs]; rfl) rfl
  have ha : PA X [e] (tCons te tNil) := pa_cons he pa_nil (by rw [hs]; rfl)
  refine thn (ha pos2 pins s σ H (fun vs H1 => match vs with | [x] => ∃ a xs, x = .ref a ∧ SqL X.K H1 a xs ∧ ∀ p, H1 p = none → Q (.ref p) (upd H1 p (.lst xs.reverse)) | _ => False) I h) fun us s1 q1 => ?_
  obtain ⟨vs, H1, I1, r1, q1⟩ := q1
  cases r1 with
  | nil => exact q1.elim
  | cons r rr =>
    cases rr with
    | cons _ _ => exact q1.elim
    | nil =>
      obtain ⟨a, xs, e, hq, q⟩ := q1
      subst e
      cases r
      obtain ⟨its, rv, pl, hz⟩ := I1.list hq
      have hlen := rv.length
      have alt : a < s1.heap.objs.size := by obtain ⟨_, e, _⟩ := pl.isList; exact Heap.lt_size e
      refine call_reversed_list pl.isList ?_
      refine Calls.spliced_nil ?_
      refine call_list_rv (I1.ok.hd hc) (by simp; omega) ⟨_, Heap.get?_push_size _ rfl, rfl, rfl⟩ (pl.isList.at fun o e => Heap.get?_push_of_some _ e) (Nat.ne_of_lt alt) fun h1 tk acc c1 k1 k2 k3 => ?_
      have sz : (s1.heap.push (revObj a ((its.toArray.size : Int) - 1))).objs.size = s1.heap.objs.size + 1 := Heap.size_push ..
      have le : s1.heap.objs.size ≤ (s1.heap.push (revObj a ((its.toArray.size : Int) - 1))).objs.size := by rw [sz]; exact Nat.le_succ _
      refine ⟨.ref _, upd H1 _ (.lst xs.reverse), I1.laid (t' := tk) (fun b o e => k1 b o (Nat.ne_of_lt (Heap.lt_size e)) (Heap.get?_push_of_some _ e)) le ?_, rfl, q _ (I1.hok.fresh le)⟩
      refine ⟨by rw [List.length_reverse]; exact hz, its.reverse, c1, rv.reverse, ?_⟩
      have z := items_rev k3
      rw [k2, ← z]
end
end L2.Bw

end
section
set_option Elab.async false
set_option linter.all false
set_option maxRecDepth 100000
namespace L2.Bw
open PySem PySem.Spec PyProof.Rows
theorem ps_setX {X : Cx} {pos pos' : Pos} {i : Nat} {x : Str} {e : Expr} {te : TE} (hN : X.N.Nodup) (hi : X.N[i]? = some x) (hx : Loc X.env.scope x) (hs : swapsWith e (some (.Name x pos')) pos.line X.env = pure false) (hf : X.fn x = true ∨ X.env.scope.names.lookup x = some .local) (he : PE X e te) :
    PS X (.Assign [.Name x pos'] e pos) (tAsg te (gName i)) := ps_set hN hi hx he hs hf
end L2.Bw
/-! The mathematics of law k11: words, forms, nodes, trees. -/
namespace L2.K11
open PySem PySem.Spec PyProof.Rows L2.Bw

noncomputable def table : List (Str × List Str) := [("whole", ["number"]), ("truth", ["truth"]), ("given", ["given"]), ("name", ["name"]), ("fn", ["name", "kind", "node"]), ("self", ["name", "name", "kind", "kind", "node"]), ("call", ["node", "node"]),
  ("let", ["name", "node", "node"]), ("if", ["node", "node", "node"]), ("do", ["sign", "node", "node"]), ("row", ["kind", "nodes"]), ("at", ["node", "node"]), ("size", ["node"]), ("pair", ["node", "node"]), ("one", ["node"]), ("two", ["node"]),
  ("as", ["kind", "node"]), ("look", ["put in", "put in", "node"])]
noncomputable def words : List Str := table.map (·.1)
noncomputable def cnt (ys : List Str) (z : Str) : Nat := ys.countP fun y => decide (y = z)
noncomputable def nf (x : Str) : Nat := if x = "whole" then 1 else if x = "truth" then 1 else if x = "given" then 1 else if x = "do" then 1 else cnt ["name", "fn", "let", "self", "self"] x
noncomputable def nk (x : Str) : Nat := cnt ["fn", "self", "self", "row", "as", "look", "look"] x
noncomputable def np (x : Str) : Nat := if x = "if" then 3 else if x ∈ (["call", "let", "do", "at", "pair"] : List Str) then 2 else if x ∈ (["whole", "truth", "given", "name"] : List Str) then 0 else 1
noncomputable def ixs (sort : Str) (k : Nat) : List Str → List Int
  | [] => []
  | y :: r => if y = sort then (k : Int) :: ixs sort (k + 1) r else ixs sort (k + 1) r
noncomputable def rng (lo n : Nat) : List Int := (List.range' lo n).map fun (i : Nat) => (i : Int)
noncomputable def form (x : Str) : List Str := (KTD.datumAt x table).getD []
theorem form_of : ∀ x ∈ words, KTD.datumAt x table = some (form x) ∧ (form x).length ≤ 5 ∧ (x ≠ "row" → ixs "node" 2 (form x) = rng (2 + nf x + nk x) (np x)) ∧ (x ≠ "look" → ixs "kind" 2 (form x) = rng (2 + nf x) (nk x)) ∧ (x = "look" → ixs "kind" 2 (form x) = []) := by
  decide +kernel
/-- a node by its things -/
noncomputable def nodeD (x : Str) (p : Int) (fr ks ps : List Dt) : Dt := if x = "row" then .tup [.str x, .int p, ks.headD (.int 0), .tup ps] else .tup (.str x :: .int p :: (fr ++ ks ++ ps))
structure Nd (x : Str) (fr ks ps : List Dt) : Prop where
  w : x ∈ words
  f : fr.length = nf x
  k : ks.length = nk x
  p : x ≠ "row" → ps.length = np x
  few : ps.length ≤ 4
inductive Tr where
  | mk (x : Str) (p : Int) (fr ks : List Dt) (ps : List Tr)
mutual
noncomputable def Tr.d : Tr → Dt
  | .mk x p fr ks ps => nodeD x p fr ks (Tr.ds ps)
noncomputable def Tr.ds : List Tr → List Dt
  | [] => []
  | t :: r => t.d :: Tr.ds r
end
mutual
noncomputable def Tr.ok : Tr → Prop
  | .mk x _ fr ks ps => x ≠ "look" ∧ Nd x fr ks (Tr.ds ps) ∧ dps fr = 0 ∧ dps ks ≤ 4 ∧ nars ks ∧ Tr.oks ps
noncomputable def Tr.oks : List Tr → Prop
  | [] => True
  | t :: r => t.ok ∧ Tr.oks r
end
mutual
noncomputable def Tr.pl : Tr → List Int
  | .mk _ p _ _ ps => p :: Tr.pls ps
noncomputable def Tr.pls : List Tr → List Int
  | [] => []
  | t :: r => t.pl ++ Tr.pls r
end
mutual
noncomputable def Tr.ns : Tr → Nat
  | .mk _ _ _ _ ps => 1 + Tr.nss ps
noncomputable def Tr.nss : List Tr → Nat
  | [] => 0
  | t :: r => max t.ns (Tr.nss r)
end
end L2.K11

end
section
set_option Elab.async false
set_option linter.all false
namespace L2.Bw
open PySem PySem.Spec PyProof.Rows
/-- a fact in a box: what is in it isn't unfolded -/
structure Bx (p : Prop) : Prop where
  out : p
theorem bx1 {A B : Prop} (r : A → B) (a : Bx A) : Bx B := ⟨r a.out⟩
theorem paB {X : Cx} {e : Expr} {es : List Expr} {te : TE} {t : TA} (h : isStar e = false) (ha : PE X e te) (hr : PA X es t) : PA X (e :: es) (tCons te t) := pa ha hr h
theorem bxnil {X : Cx} : Bx (PA X [] tNil) := ⟨pa_nil⟩
theorem bxs {X : Cx} {es : List Expr} {t : TA} {x j pos} (r : Bx (PA X es t)) : Bx (PA X (.Constant (.str x) j pos :: es) (tCons (tC (.str x)) t)) := ⟨pa pe_str r.out rfl⟩
theorem bxlst {X : Cx} {es : List Expr} {t : TA} {pos} (r : Bx (PA X es t)) : Bx (PE X (.List es pos) (tLst t)) := ⟨pe_lst r.out⟩
section
variable {P : Program} {w : World} {K : PySem.W.Frag} {mg : Str → Option Value} {base : Heap}
end
end L2.Bw

end
section
set_option Elab.async false
set_option linter.all false
set_option maxRecDepth 100000
/-! Data as in BwData, with None, and with tuples of the program's top among them. -/
namespace L2.Bk
open PySem PySem.Spec PyProof.Rows L2.Bw PyProof.Rows.LSm
/-- a tuple of the program's top -/
noncomputable def Kt (K : PySem.W.Frag) (a : Addr) (xs : List V) : Prop := ∃ (o : Obj) (its : Array Value) (n : Nat), K.lookup a = some o ∧ o.cls = .type "tuple" ∧ o.data = .seq its n ∧ its.size ≤ sizeLine ∧ Vals xs its.toList
noncomputable def Tp (K : PySem.W.Frag) (H : Hp) (a : Addr) (xs : List V) : Prop := H a = some (.tup xs) ∨ Kt K a xs
theorem Tp.of {K : PySem.W.Frag} {H : Hp} {a : Addr} {xs : List V} (h : H a = some (.tup xs)) : Tp K H a xs := .inl h
theorem Tp.sq {K : PySem.W.Frag} {H : Hp} {a : Addr} {xs : List V} (h : Tp K H a xs) : SqT K H a xs := by
  rcases h with h | h
  · exact SqT.of h
  · exact .inr h
theorem Tp.mono {K : PySem.W.Frag} {H H' : Hp} {a : Addr} {xs : List V} (h : Tp K H a xs) (m : Tm H H') : Tp K H' a xs := by
  rcases h with h | h
  · exact .inl (m _ _ h)
  · exact .inr h
inductive Dk where
  | non
  | int (i : Int)
  | bl (b : Bool)
  | str (x : Str)
  | tup (xs : List Dk)
mutual
noncomputable def RK (K : PySem.W.Frag) (H : Hp) : Dk → V → Prop
  | .non, v => v = .non
  | .int i, v => v = .int i
  | .bl b, v => v = .bl b
  | .str x, v => v = .str x
  | .tup ds, v => ∃ a vs, v = .ref a ∧ Tp K H a vs ∧ RKs K H ds vs
noncomputable def RKs (K : PySem.W.Frag) (H : Hp) : List Dk → List V → Prop
  | [], vs => vs = []
  | d :: ds, vs => ∃ v r, vs = v :: r ∧ RK K H d v ∧ RKs K H ds r
end
mutual
noncomputable def Dk.dq : Dk → Nat
  | .tup ds => 1 + dqs ds
  | .non => 0
  | .int _ => 0
  | .bl _ => 0
  | .str _ => 0
noncomputable def dqs : List Dk → Nat
  | [] => 0
  | d :: ds => max d.dq (dqs ds)
end
theorem dq_non : Dk.non.dq = 0 := by rw [Dk.dq]
theorem dq_str (x : Str) : (Dk.str x).dq = 0 := by rw [Dk.dq]
theorem dq_int (x : Int) : (Dk.int x).dq = 0 := by rw [Dk.dq]
theorem dq_bl (x : Bool) : (Dk.bl x).dq = 0 := by rw [Dk.dq]
theorem RK.n {K : PySem.W.Frag} {H : Hp} : RK K H .non .non := by rw [RK]
theorem RK.s {K : PySem.W.Frag} {H : Hp} (x : Str) : RK K H (.str x) (.str x) := by rw [RK]
theorem RK.i {K : PySem.W.Frag} {H : Hp} (x : Int) : RK K H (.int x) (.int x) := by rw [RK]
theorem RK.b {K : PySem.W.Frag} {H : Hp} (x : Bool) : RK K H (.bl x) (.bl x) := by rw [RK]
theorem RKs.nil {K : PySem.W.Frag} {H : Hp} : RKs K H [] [] := rfl
theorem RKs.cons {K : PySem.W.Frag} {H : Hp} {d : Dk} {ds : List Dk} {v : V} {vs : List V} (h : RK K H d v) (t : RKs K H ds vs) : RKs K H (d :: ds) (v :: vs) := ⟨v, vs, rfl, h, t⟩
theorem RK.tup {K : PySem.W.Frag} {H : Hp} {a : Addr} {ds : List Dk} {vs : List V} (h : Tp K H a vs) (t : RKs K H ds vs) : RK K H (.tup ds) (.ref a) := ⟨a, vs, rfl, h, t⟩
theorem RKs.length {K : PySem.W.Frag} {H : Hp} : ∀ {ds : List Dk} {vs : List V}, RKs K H ds vs → ds.length = vs.length
  | [], vs, h => by cases (show vs = [] from h); rfl
  | d :: ds, vs, ⟨v, r, e, _, t⟩ => by subst e; simp [RKs.length t]
theorem RKs.get {K : PySem.W.Frag} {H : Hp} : ∀ {ds : List Dk} {vs : List V} {i : Nat} {d : Dk}, RKs K H ds vs → ds[i]? = some d → ∃ v, vs[i]? = some v ∧ RK K H d v
  | [], _, _, _, _, e => by simp at e
  | d :: ds, vs, 0, d', ⟨v, r, e, h, _⟩, e' => by subst e; simp at e'; subst e'; exact ⟨v, rfl, h⟩
  | d :: ds, vs, i + 1, d', ⟨v, r, e, _, t⟩, e' => by
    subst e
    obtain ⟨u, h1, h2⟩ := RKs.get (i := i) t (by simpa using e')
    exact ⟨u, by simpa using h1, h2⟩
theorem RKs.getV {K : PySem.W.Frag} {H : Hp} : ∀ {ds : List Dk} {vs : List V} {i : Nat} {v : V}, RKs K H ds vs → vs[i]? = some v → ∃ d, ds[i]? = some d ∧ RK K H d v := fun {ds vs i v} h e => by
  have hl := h.length
  have hi : i < ds.length := by rw [hl]; exact (List.getElem?_eq_some_iff.mp e).1
  obtain ⟨u, h1, h2⟩ := h.get (List.getElem?_eq_getElem hi)
  rw [e] at h1; cases h1
  exact ⟨_, List.getElem?_eq_getElem hi, h2⟩
theorem RKs.append {K : PySem.W.Frag} {H : Hp} : ∀ {ds es : List Dk} {vs us : List V}, RKs K H ds vs → RKs K H es us → RKs K H (ds ++ es) (vs ++ us)
  | [], _, vs, _, h, t => by cases (show vs = [] from h); exact t
  | d :: ds, es, vs, us, ⟨v, r, e, h, t'⟩, t => by subst e; exact .cons h (RKs.append t' t)
theorem RKs.split {K : PySem.W.Frag} {H : Hp} : ∀ {ds es : List Dk} {vs : List V}, RKs K H (ds ++ es) vs → ∃ us ws, vs = us ++ ws ∧ RKs K H ds us ∧ RKs K H es ws
  | [], _, vs, h => ⟨[], vs, rfl, rfl, h⟩
  | d :: ds, es, vs, ⟨v, r, e, h, t⟩ => by
    subst e
    obtain ⟨us, ws, e, h1, h2⟩ := RKs.split t
    subst e
    exact ⟨v :: us, ws, rfl, .cons h h1, h2⟩
mutual
theorem RK.mono {K : PySem.W.Frag} {H H' : Hp} (m : Tm H H') : ∀ {d : Dk} {v : V}, RK K H d v → RK K H' d v
  | .non, _, h => h
  | .int _, _, h => h
  | .bl _, _, h => h
  | .str _, _, h => h
  | .tup _, _, ⟨a, vs, e, h, t⟩ => ⟨a, vs, e, h.mono m, RKs.mono m t⟩
theorem RKs.mono {K : PySem.W.Frag} {H H' : Hp} (m : Tm H H') : ∀ {ds : List Dk} {vs : List V}, RKs K H ds vs → RKs K H' ds vs
  | [], _, h => h
  | _ :: _, _, ⟨v, r, e, h, t⟩ => ⟨v, r, e, RK.mono m h, RKs.mono m t⟩
end
theorem dqs_mem {d : Dk} : ∀ {ds : List Dk}, d ∈ ds → d.dq ≤ dqs ds
  | e :: ds, h => by
    rcases List.mem_cons.mp h with rfl | h
    · exact Nat.le_max_left _ _
    · exact Nat.le_trans (dqs_mem h) (Nat.le_max_right _ _)
theorem _root_.L2.Room.u1 {k : Nat} {A : Around} (r : Room k A) : A.units + 1 < cLine := by have := r.un; omega
section
variable {X : Cx}
noncomputable def IsJ (K : PySem.W.Frag) (H : Hp) (x : V) (n : String) (b : Bool) : Prop := IsI K H x n b ∨ ∃ a xs, x = .ref a ∧ Kt K a xs ∧ PySem.W.kitOne K (.type "tuple") (.type n) = some b
theorem call_isj : CallR X (.builtin "isinstance") (fun xs H Q => ∃ x n b, xs = [x, .ty n] ∧ IsJ X.K H x n b ∧ Q (.bl b) H) := by
  intro pins s σ H xs us Q I r h
  obtain ⟨x, n, b, e, ty, q⟩ := h
  rcases ty with ty | ⟨a, ys, e', ⟨o, its, m, hk, hc, hd, hz, rv⟩, k⟩
  · exact call_isi pins s σ H xs us Q I r ⟨x, n, b, e, ty, q⟩
  · subst e e'
    obtain ⟨u, w, e, ru, rw'⟩ := Vals.two r
    subst e
    cases rw'
    cases (show u = Value.ref a from ru)
    exact PySem.W.kia_one PySem.W.kitx_tuple I.kIn ⟨o, I.kIn a o hk, hc⟩ k (fun z => nomatch z) fun tk => ⟨.bl b, H, I.tok tk, rfl, q⟩
theorem rk_eq {s : Shared} {pins : List (Addr × Obj)} {σ : St} {H : Hp} (I : Inv X pins σ H s) : ∀ (n : Nat) {A : Around} {d : Dk} {x y : V} {u v : Value}, d.dq ≤ n → RK X.K H d x → RK X.K H d y → RelV x u → RelV y v → A.units + n < cLine → SeqAt.EqAt A s u v true := by
  intro n
  induction n with
  | zero =>
    intro A d x y u v hn hx hy ru rv hu
    cases d with
    | non => cases (show x = .non from hx); cases (show y = .non from hy); have k := eqAt_V (A := A) (s := s) ru rv rfl rfl; simpa [eqV] using k
    | int i => cases (show x = .int i from hx); cases (show y = .int i from hy); have k := eqAt_V (A := A) (s := s) ru rv rfl rfl; simpa [eqV] using k
    | bl b => cases (show x = .bl b from hx); cases (show y = .bl b from hy); have k := eqAt_V (A := A) (s := s) ru rv rfl rfl; simpa [eqV] using k
    | str z => cases (show x = .str z from hx); cases (show y = .str z from hy); have k := eqAt_V (A := A) (s := s) ru rv rfl rfl; simpa [eqV] using k
    | tup ds => have k : 1 + dqs ds ≤ 0 := hn; omega
  | succ n ih =>
    intro A d x y u v hn hx hy ru rv hu
    cases d with
    | non => cases (show x = .non from hx); cases (show y = .non from hy); have k := eqAt_V (A := A) (s := s) ru rv rfl rfl; simpa [eqV] using k
    | int i => cases (show x = .int i from hx); cases (show y = .int i from hy); have k := eqAt_V (A := A) (s := s) ru rv rfl rfl; simpa [eqV] using k
    | bl b => cases (show x = .bl b from hx); cases (show y = .bl b from hy); have k := eqAt_V (A := A) (s := s) ru rv rfl rfl; simpa [eqV] using k
    | str z => cases (show x = .str z from hx); cases (show y = .str z from hy); have k := eqAt_V (A := A) (s := s) ru rv rfl rfl; simpa [eqV] using k
    | tup ds =>
      have hn' : 1 + dqs ds ≤ n + 1 := hn
      obtain ⟨a, vs, e, ha, ta⟩ := hx
      obtain ⟨b, ws, e', hb, tb⟩ := hy
      subst e e'
      cases ru; cases rv
      by_cases hab : a = b
      · subst hab; exact SeqAt.EqAt.same _
      · obtain ⟨i1, r1, p1, z1⟩ := I.tuple ha.sq
        obtain ⟨i2, r2, p2, z2⟩ := I.tuple hb.sq
        have l1 := r1.length
        have l2 := r2.length
        have l3 := ta.length
        have l4 := tb.length
        have key := SeqAt.RcAt.tuples (A := A) (s := s) (e := fun _ => true) p1 p2 (by omega) fun j h1 h2 => by
          have hjd : j < ds.length := by simp at h1; omega
          obtain ⟨x1, e1, q1⟩ := ta.get (List.getElem?_eq_getElem hjd)
          obtain ⟨y1, e2, q2⟩ := tb.get (List.getElem?_eq_getElem hjd)
          obtain ⟨u1, f1, w1⟩ := r1.get e1
          obtain ⟨v1, f2, w2⟩ := r2.get e2
          have g1 : i1.toArray[j] = u1 := by
            have h1' : j < i1.length := by simpa using h1
            rw [List.getElem?_eq_getElem h1'] at f1
            simpa using f1
          have g2 : i2.toArray[j] = v1 := by
            have h2' : j < i2.length := by simpa using h2
            rw [List.getElem?_eq_getElem h2'] at f2
            simpa using f2
          rw [g1, g2]
          have k := dqs_mem (List.getElem_mem hjd)
          exact ih (A := A.in1) (by omega) q1 q2 w1 w2 (by show A.units + 1 + n < cLine; omega)
        have val : ((List.range (min i1.toArray.size i2.toArray.size)).all (fun _ => true) && i1.toArray.size == i2.toArray.size) = true := by
          simp; omega
        rw [val] at key
        exact SeqAt.EqAt.of_refs hab key
/-- what == tells of two lists or tuples -/
inductive EqK (K : PySem.W.Frag) (H : Hp) : V → V → Bool → Prop where
  | lists {a c : Addr} {vs ws : List V} {ds : List Dk} (ha : SqL K H a vs) (hc : SqL K H c ws) (ta : RKs K H ds vs) (tc : RKs K H ds ws) (hd : dqs ds ≤ 60) : EqK K H (.ref a) (.ref c) true
  | lens {a c : Addr} {vs ws : List V} (ha : SqL K H a vs) (hc : SqL K H c ws) (hl : vs.length ≠ ws.length) : EqK K H (.ref a) (.ref c) false
  | data {x y : V} {ds : List Dk} (hx : RK K H (.tup ds) x) (hy : RK K H (.tup ds) y) (hd : dqs ds ≤ 60) : EqK K H x y true
  | heads {a c : Addr} {h z : Str} {r : List V} (ha : SqT K H a (.str h :: r)) (hc : SqT K H c [.str z]) : EqK K H (.ref a) (.ref c) (decide (h = z) && r.isEmpty)
theorem item_k {vs : List V} {us : List Value} {j : Nat} {x : V} (r : Vals vs us) (hx : vs[j]? = some x) (h : j < us.toArray.size) : RelV x us.toArray[j] := by
  obtain ⟨u, f, w⟩ := r.get hx
  have h' : j < us.length := by simpa using h
  rw [List.getElem?_eq_getElem h'] at f
  cases f
  simpa using w
theorem eqk_ok {k : Nat} (hr : Room k X.A) {s : Shared} {pins : List (Addr × Obj)} {σ : St} {H : Hp} (I : Inv X pins σ H s) {x y : V} {u v : Value} {b : Bool} (h : EqK X.K H x y b) (rx : RelV x u) (ry : RelV y v) : SeqAt.RcAt X.A s u v b ∧ SeqAt.RcNeAt X.A s u v (!b) := by
  have hu := hr.units
  cases h with
  | @lists a c vs ws ds ha hc ta tc hd =>
    cases rx; cases ry
    obtain ⟨i1, r1, p1, z1⟩ := I.list ha
    obtain ⟨i2, r2, p2, z2⟩ := I.list hc
    have l1 := r1.length
    have l2 := r2.length
    have l3 := ta.length
    have l4 := tc.length
    have it : ∀ j (h1 : j < i1.toArray.size) (h2 : j < i2.toArray.size), SeqAt.EqAt X.A.in1 s i1.toArray[j] i2.toArray[j] ((fun _ => true) j) := fun j h1 h2 => by
      have hjd : j < ds.length := by simp at h1; omega
      obtain ⟨x1, e1, q1⟩ := ta.get (List.getElem?_eq_getElem hjd)
      obtain ⟨y1, e2, q2⟩ := tc.get (List.getElem?_eq_getElem hjd)
      have k := dqs_mem (List.getElem_mem hjd)
      exact rk_eq I 60 (A := X.A.in1) (by omega) q1 q2 (item_k r1 e1 h1) (item_k r2 e2 h2) (by show X.A.units + 1 + 60 < cLine; omega)
    have e : (List.range i1.toArray.size).all (fun _ => true) = true := by simp
    have k1 := SeqAt.RcAt.lists (A := X.A) (s := s) p1.isList p2.isList (by simp; omega) (by omega) it
    have k2 := SeqAt.RcNeAt.lists (A := X.A) (s := s) p1.isList p2.isList (by simp; omega) (by omega) it
    rw [e] at k1 k2
    exact ⟨k1, k2⟩
  | @lens a c vs ws ha hc hl =>
    cases rx; cases ry
    obtain ⟨i1, r1, p1, z1⟩ := I.list ha
    obtain ⟨i2, r2, p2, z2⟩ := I.list hc
    have l1 := r1.length
    have l2 := r2.length
    exact ⟨SeqAt.RcAt.lists_lengths p1.isList p2.isList (by simp; omega) (by omega), SeqAt.RcNeAt.lists_lengths p1.isList p2.isList (by simp; omega) (by omega)⟩
  | @data x y ds hx hy hd =>
    obtain ⟨a, vs, e1, ha, ta⟩ := (show ∃ a vs, x = .ref a ∧ Tp X.K H a vs ∧ RKs X.K H ds vs by rw [RK] at hx; exact hx)
    obtain ⟨c, ws, e2, hc, tc⟩ := (show ∃ a vs, y = .ref a ∧ Tp X.K H a vs ∧ RKs X.K H ds vs by rw [RK] at hy; exact hy)
    subst e1 e2
    cases rx; cases ry
    obtain ⟨i1, r1, p1, z1⟩ := I.tuple ha.sq
    obtain ⟨i2, r2, p2, z2⟩ := I.tuple hc.sq
    have l1 := r1.length
    have l2 := r2.length
    have l3 := ta.length
    have l4 := tc.length
    have it : ∀ j (h1 : j < i1.toArray.size) (h2 : j < i2.toArray.size), SeqAt.EqAt X.A.in1 s i1.toArray[j] i2.toArray[j] ((fun _ => true) j) := fun j h1 h2 => by
      have hjd : j < ds.length := by simp at h1; omega
      obtain ⟨x1, e1, q1⟩ := ta.get (List.getElem?_eq_getElem hjd)
      obtain ⟨y1, e2, q2⟩ := tc.get (List.getElem?_eq_getElem hjd)
      have k := dqs_mem (List.getElem_mem hjd)
      exact rk_eq I 60 (A := X.A.in1) (by omega) q1 q2 (item_k r1 e1 h1) (item_k r2 e2 h2) (by show X.A.units + 1 + 60 < cLine; omega)
    have e : ((List.range (min i1.toArray.size i2.toArray.size)).all (fun _ => true) && i1.toArray.size == i2.toArray.size) = true := by
      simp; omega
    have k1 := SeqAt.RcAt.tuples (A := X.A) (s := s) p1 p2 (by omega) it
    have k2 := SeqAt.RcNeAt.tuples (A := X.A) (s := s) p1 p2 (by omega) it
    rw [e] at k1 k2
    exact ⟨k1, k2⟩
  | @heads a c h z r ha hc =>
    cases rx; cases ry
    obtain ⟨i1, r1, p1, z1⟩ := I.tuple ha
    obtain ⟨i2, r2, p2, z2⟩ := I.tuple hc
    have l1 := r1.length
    have l2 := r2.length
    have it : ∀ j (h1 : j < i1.toArray.size) (h2 : j < i2.toArray.size), SeqAt.EqAt X.A.in1 s i1.toArray[j] i2.toArray[j] ((fun _ => decide (h = z)) j) := fun j h1 h2 => by
      have hj : j = 0 := by simp at h2 l2; omega
      subst hj
      have k := eqAt_V (A := X.A.in1) (s := s) (item_k r1 (x := .str h) rfl h1) (item_k r2 (x := .str z) rfl h2) rfl rfl
      have e : eqV (.str h) (.str z) = decide (h = z) := by show (h == z) = _; by_cases q : h = z <;> simp [q]
      rw [e] at k
      exact k
    have e : ((List.range (min i1.toArray.size i2.toArray.size)).all (fun _ => decide (h = z)) && i1.toArray.size == i2.toArray.size) = (decide (h = z) && r.isEmpty) := by
      have m : min i1.toArray.size i2.toArray.size = 1 := by simp at l1 l2 ⊢; omega
      rw [m]
      simp at l1 l2
      cases r with
      | nil => simp at l1; simp [← l1, ← l2]
      | cons q r => simp at l1; simp [← l1, ← l2]
    have k1 := SeqAt.RcAt.tuples (A := X.A) (s := s) p1 p2 (by omega) it
    have k2 := SeqAt.RcNeAt.tuples (A := X.A) (s := s) p1 p2 (by omega) it
    rw [e] at k1 k2
    exact ⟨k1, k2⟩
noncomputable def rEqK (K : PySem.W.Frag) : R2 := fun x y H Q => (scal x y = true ∧ Q (.bl (decide (x = y))) H) ∨ ∃ b, EqK K H x y b ∧ Q (.bl b) H
noncomputable def rNeK (K : PySem.W.Frag) : R2 := fun x y H Q => (scal x y = true ∧ Q (.bl (!decide (x = y))) H) ∨ ∃ b, EqK K H x y b ∧ Q (.bl (!b)) H
theorem op_eqK {k : Nat} (hr : Room k X.A) : OpR X (compareOp .Eq) (rEqK X.K) := by
  intro pins s σ H x y v u Q I rx ry h
  rcases h with h | ⟨b, h, q⟩
  · exact op_eq pins s σ H x y v u Q I rx ry h
  · exact (eqk_ok hr I h rx ry).1 _ _ _ _ ⟨.bl b, H, I, rfl, q⟩
theorem op_neK {k : Nat} (hr : Room k X.A) : OpR X (compareOp .NotEq) (rNeK X.K) := by
  intro pins s σ H x y v u Q I rx ry h
  rcases h with h | ⟨b, h, q⟩
  · exact op_ne pins s σ H x y v u Q I rx ry h
  · exact (eqk_ok hr I h rx ry).2 _ _ _ _ ⟨.bl (!b), H, I, rfl, q⟩
theorem eqQK {K : PySem.W.Frag} {x y : V} {b : Bool} {H : Hp} {Q : VK} (h : EqK K H x y b) (q : Q (.bl b) H) : rEqK K x y H Q := .inr ⟨b, h, q⟩

end
end L2.Bk

end
section
set_option Elab.async false
set_option linter.all false
set_option maxRecDepth 100000
/-! t[lo:hi] of a tuple, the whole of it too. -/
namespace HT
open PySem PySem.Spec PyProof.Rows
section
variable {prog : Program} {w : World} {A : Around} {E : Value → Shared → Prop} {s : Shared}
theorem getItem_tuple_all {t sl : Addr} {items : Array Value} {vl vu : Value} {lo hi : Option Int} {Q : Value → Shared → Prop} (ht : IsTup s.heap t items) (hs : s.heap.IsSliceOf sl vl vu .none) (pl : IsPart vl lo) (pu : IsPart vu hi)
    (hw : sIx items.size 0 lo = 0 ∧ sIx items.size items.size hi = items.size) (h : Q (.ref t) s) : wpAny (model prog w) A (getItem (.ref t) (.ref sl)) Q E s := by
  obtain ⟨os, hos, hcs, hds⟩ := id hs
  have hTs : s.TypeIs (.ref sl) "slice" := ⟨os, hos, hcs⟩
  unfold getItem
  try with_reducible refine wpAny_holding ?_
  first | refine wpAny_bind (wpAny_pure ?_) | skip
  refine wpAny_bind (wpAny_sequenceKey ht.typeIs (by decide) ?_)
  refine wpAny_bind (wpAny_callSpecial?_slot (name := Str.ofString "__getitem__") ht.typeIs PyProof.Rows.slot_tuple_getitem
    (wpAny_call_entry PyProof.Rows.slot_tuple_getitem ht.typeIs entry_tuple_getitem ?_ (args_tuple_getitem _ _)))
  show wpAny _ _ (Builtin.Tuple.tupleItemsOf (.ref t) >>= _) _ _ s
  refine wpAny_bind (tupleItemsOf_ ht ?_)
  refine wpAny_bind (wpAny_typeOf hTs ?_)
  rw [if_pos (by decide)]
  refine wpAny_bind (sliceApplied_gen hs pl pu ?_)
  have hyes : (((sIx items.size 0 lo : Nat) : Int) == 0 && (1 : Int) == 1 && (sIx items.size items.size hi - sIx items.size 0 lo) == items.size) = true := by
    rw [hw.1, hw.2]
    simp
  show wpAny _ _ (if (((sIx items.size 0 lo : Nat) : Int) == 0 && (1 : Int) == 1 && (sIx items.size items.size hi - sIx items.size 0 lo) == items.size) = true then _ else _) _ _ s
  rw [if_pos hyes]
  show wpAny _ _ (Builtin.Tuple.tupleIsExact (.ref t) >>= _) _ _ s
  refine wpAny_bind ?_
  unfold Builtin.Tuple.tupleIsExact
  refine wpAny_bind (wpAny_typeOf ht.typeIs (wpAny_pure ?_))
  rw [if_pos (by decide)]
  refine wpAny_bind (wpAny_rule ?_)
  first
    | exact wpAny_pure ⟨_, rfl, wpAny_pure h⟩
    | exact wpAny_bind (wpAny_pure (wpAny_pure ⟨_, rfl, wpAny_pure h⟩))
    | exact wpAny_bind (wpAny_bind (wpAny_pure (wpAny_pure ⟨_, rfl, wpAny_pure h⟩)))
end
end HT
namespace L2.Bk
open PySem PySem.Spec PyProof.Rows L2.Bw
section
variable {X : Cx}
/-- t[lo:hi], the whole of it: t itself -/
noncomputable def rSlW (K : PySem.W.Frag) : V → Option Int → Option Int → Hp → VK → Prop := fun x lo hi H Q => ∃ a xs, x = .ref a ∧ SqT K H a xs ∧ (HT.sIx xs.length 0 lo = 0 ∧ HT.sIx xs.length xs.length hi = xs.length) ∧ Q (.ref a) H
theorem sl_tupW : SlR X (rSlW X.K) := by
  intro pins s σ H x v vl vu lo hi sl Q I rx hs pl pu h
  obtain ⟨a, xs, e, hx, hw, q⟩ := h
  subst e
  cases rx
  obtain ⟨its, r, ht, hz⟩ := I.tuple hx
  have hlen : its.toArray.size = xs.length := by rw [List.size_toArray]; exact r.length.symm
  refine ⟨"tuple", _, PyProof.Rows.slot_tuple_getitem.lookup, ht.typeIs, ?_⟩
  exact HT.getItem_tuple_all ht hs pl pu (by rw [hlen]; exact hw) ⟨.ref a, H, I, rfl, q⟩
/-- a slice of a list, of a tuple -/
noncomputable def rSlK (K : PySem.W.Frag) : V → Option Int → Option Int → Hp → VK → Prop := fun x lo hi H Q => rSlL K x lo hi H Q ∨ rSlT K x lo hi H Q ∨ rSlW K x lo hi H Q
theorem sl_k : SlR X (rSlK X.K) := sl_list.or (sl_tup.or sl_tupW)
end
end L2.Bk

end
section
set_option Elab.async false
set_option linter.all false
set_option maxRecDepth 100000
namespace L2.Bw
open PySem PySem.Spec PyProof.Rows
/-- what a turn of a comprehension hands on -/
noncomputable def Nx (n : Nat) (Pv : Nat → St → Hp → Prop) (i : Nat) (σ : St) (H : Hp) : Prop := ∃ m', m' < n - i ∧ (m' = n - (i + 1) ∧ i + 1 ≤ n ∧ Pv (i + 1) σ H)
theorem nx {n i : Nat} {Pv : Nat → St → Hp → Prop} {σ : St} {H : Hp} (h : i < n) (p : Pv (i + 1) σ H) : Nx n Pv i σ H := ⟨n - (i + 1), by omega, rfl, by omega, p⟩
theorem lc_by {J : It} {g : TG} {tt : TT} {te : TE} {D : Addr} {Qe : Hp → Prop} {σ : St} {H : Hp} {n : Nat} (Pv : Nat → St → Hp → Prop) (h0 : Pv 0 σ H) (hgo : ∀ i σ H, i < n → Pv i σ H → J.go i H) (hstop : ∀ σ H, Pv n σ H → J.stop n H)
    (hs : ∀ i σ H, i < n → Pv i σ H → ∀ x H', J.yld i H x H' → g x σ H' fun σ2 H2 => tt σ2 H2 fun b H3 => if b = true then te σ2 H3 fun y H4 => ∃ ys, H4 D = some (.lst ys) ∧ ys.length < sizeLine ∧ Nx n Pv i σ2 (upd H4 D (.lst (ys ++ [y]))) else Nx n Pv i σ2 H3)
    (hd : ∀ σ H, Pv n σ H → Qe H) : ∃ W, (∃ m, W 0 m σ H) ∧ TurnW J g tt te D W Qe := by
  refine ⟨fun i m σ H => m = n - i ∧ i ≤ n ∧ Pv i σ H, ⟨n, by simp, Nat.zero_le _, h0⟩, ?_⟩
  rintro i m σ H ⟨rfl, hi, p⟩
  by_cases hlt : i < n
  · exact .inr ⟨hgo i σ H hlt p, fun x H' y => hs i σ H hlt p x H' y⟩
  · have e : i = n := by omega
    subst e
    exact .inl ⟨hstop σ H p, hd σ H p⟩
theorem lc_by0 {J : It} {g : TG} {te : TE} {D : Addr} {Qe : Hp → Prop} {σ : St} {H : Hp} {n : Nat} (Pv : Nat → St → Hp → Prop) (h0 : Pv 0 σ H) (hgo : ∀ i σ H, i < n → Pv i σ H → J.go i H) (hstop : ∀ σ H, Pv n σ H → J.stop n H)
    (hs : ∀ i σ H, i < n → Pv i σ H → ∀ x H', J.yld i H x H' → g x σ H' fun σ2 H2 => te σ2 H2 fun y H4 => ∃ ys, H4 D = some (.lst ys) ∧ ys.length < sizeLine ∧ Nx n Pv i σ2 (upd H4 D (.lst (ys ++ [y]))))
    (hd : ∀ σ H, Pv n σ H → Qe H) : ∃ W, (∃ m, W 0 m σ H) ∧ TurnW J g tYes te D W Qe := by
  refine lc_by Pv h0 hgo hstop (fun i σ H hi p x H' y => ?_) hd
  exact cast (congrArg (g x σ H') (funext fun a => funext fun b => by unfold tYes; exact (if_pos rfl).symm)) (hs i σ H hi p x H' y)
end L2.Bw
namespace L2.Bk
open PySem PySem.Spec PyProof.Rows L2.Bw
theorem small {n : Nat} (h : n ≤ 1000) : n ≤ sizeLine := Nat.le_of_lt (small1000 h)
theorem smallM {n : Nat} (h : n ≤ 1000000) : n < sizeLine := Nat.lt_of_le_of_lt h (by decide)
theorem atI_in {α : Type} {xs : List α} {i : Int} (h0 : 0 ≤ i) (h1 : i < (xs.length : Int)) : ∃ c, atI xs i = some c ∧ c ∈ xs := by
  have hk : i.toNat < xs.length := by omega
  have z : atI xs ((i.toNat : Nat) : Int) = some xs[i.toNat] := atI_nat (List.getElem?_eq_getElem hk)
  rw [show ((i.toNat : Nat) : Int) = i by omega] at z
  exact ⟨_, z, List.getElem_mem hk⟩
theorem atI_strs {ss : List Str} {i : Int} (h0 : 0 ≤ i) (h1 : i < (ss.length : Int)) : ∃ c, atI (ss.map V.str) i = some (.str c) ∧ c ∈ ss := by
  obtain ⟨c, e, hc⟩ := atI_in (xs := ss.map V.str) h0 (by rw [List.length_map]; exact h1)
  obtain ⟨y, hy, rfl⟩ := List.mem_map.mp hc
  exact ⟨y, e, hy⟩
theorem dec_s {x y : Str} : decide (V.str x = V.str y) = decide (x = y) := by
  by_cases h : x = y
  · subst h; simp
  · have : ¬ V.str x = V.str y := fun q => h (by cases q; rfl)
    simp [h, this]
theorem take_snoc {α : Type} {ps : List α} {i : Nat} (h : i < ps.length) : ps.take (i + 1) = ps.take i ++ [ps[i]] := by
  rw [List.take_add_one, List.getElem?_eq_getElem h]; rfl
theorem for_by {J : It} {g : TG} {tb : TS} {D : Ends} {σ : St} {H : Hp} {n : Nat} (Pv : Nat → St → Hp → Prop) (h0 : Pv 0 σ H) (hgo : ∀ i σ H, i < n → Pv i σ H → J.go i H) (hstop : ∀ σ H, Pv n σ H → J.stop n H)
    (hs : ∀ i σ H, i < n → Pv i σ H → ∀ x H', J.yld i H x H' → g x σ H' fun σ2 H2 => tb { D with nx := Pv (i + 1), ct := Pv (i + 1), bk := D.nx } σ2 H2) (hd : ∀ σ H, Pv n σ H → D.nx σ H) :
    ∃ W : Nat → Nat → St → Hp → Prop, (∃ m, W 0 m σ H) ∧ ∀ i m σ H, W i m σ H →
      (J.stop i H ∧ D.nx σ H) ∨ (J.go i H ∧ ∃ N : St → Hp → Prop, (∀ σ' H', N σ' H' → ∃ m', m' < m ∧ W (i + 1) m' σ' H') ∧ ∀ x H', J.yld i H x H' → g x σ H' fun σ2 H2 => tb { D with nx := N, ct := N, bk := D.nx } σ2 H2) := by
  refine ⟨fun i m σ H => m = n - i ∧ i ≤ n ∧ Pv i σ H, ⟨n, by simp, Nat.zero_le _, h0⟩, ?_⟩
  rintro i m σ H ⟨rfl, hi, p⟩
  by_cases hlt : i < n
  · exact .inr ⟨hgo i σ H hlt p, Pv (i + 1), fun σ' H' p' => ⟨n - (i + 1), by omega, rfl, hlt, p'⟩, fun x H' y => hs i σ H hlt p x H' y⟩
  · have e : i = n := by omega
    subst e
    exact .inl ⟨hstop σ H p, hd σ H p⟩
noncomputable abbrev Old (H H' : Hp) : Prop := ∀ b o, H b = some o → H' b = some o
theorem Old.gr {H H' : Hp} (h : Old H H') : Gr M0 H H' := fun b o e _ => h b o e
theorem Old.tm {H H' : Hp} (h : Old H H') : Tm H H' := fun a xs e => h a _ e
theorem Old.refl (H : Hp) : Old H H := fun _ _ h => h
theorem Old.free {H H' : Hp} (o : Old H H') {a : Addr} (h : H' a = none) : H a = none := by
  cases q : H a with
  | none => rfl
  | some x => rw [o a x q] at h; cases h
theorem Old.trans {H H1 H2 : Hp} (a : Old H H1) (b : Old H1 H2) : Old H H2 := fun c o h => b c o (a c o h)
theorem Old.new {H : Hp} {p : Addr} {o : HO} (h : H p = none) : Old H (upd H p o) := fun b u e => by rw [upd_ne (ne_of_none e h)]; exact e
theorem Old.gm {H H' : Hp} {M : Addr → Prop} (h : Old H H') : Gr M H H' := fun b o e _ => h b o e
theorem RK.get {K : PySem.W.Frag} {H : Hp} {ds : List Dk} {v : V} (h : RK K H (.tup ds) v) : ∃ a vs, v = .ref a ∧ Tp K H a vs ∧ RKs K H ds vs := by rw [RK] at h; exact h
theorem RK.str {K : PySem.W.Frag} {H : Hp} {x : Str} {v : V} (h : RK K H (.str x) v) : v = .str x := by rw [RK] at h; exact h
/-- one more tuple laid behind a tuple -/
theorem cat_k {K : PySem.W.Frag} {H : Hp} {a b : Addr} {xs ys : List V} {ds es : List Dk} {Q : VK} (ha : Tp K H a xs) (hb : Tp K H b ys) (ra : RKs K H ds xs) (rb : RKs K H es ys) (ne : xs ≠ []) (hz : xs.length + ys.length ≤ 1000)
    (q : ∀ (c : Addr) (H' : Hp), Old H H' → RK K H' (.tup (ds ++ es)) (.ref c) → Q (.ref c) H') : rCatT K (.ref a) (.ref b) H Q := by
  refine ⟨a, b, xs, ys, rfl, rfl, ha.sq, hb.sq, ne, small hz, fun e => ?_, fun e p hp => ?_⟩
  · subst e
    cases (show es = [] from List.length_eq_zero_iff.mp rb.length)
    exact q a H (Old.refl _) (by rw [List.append_nil]; exact RK.tup ha ra)
  · have g : Old H (upd H p (.tup (xs ++ ys))) := Old.new hp
    exact q p _ g (RK.tup (.of upd_same) ((ra.append rb).mono g.tm))
theorem pe_gref {X : Cx} {x : Str} {a : Addr} {pos : Pos} (hg : Gl X x) (hm : X.mg x = some (.ref a)) (hd : (x == ("__debug__" : Str)) = false := by decide) : PE X (.Name x pos) (tC (.ref a)) := pe_glob hg hm (show RelV (.ref a) (.ref a) from rfl) hd
/-! ### kinds -/
inductive Kn where
  | mk (h : Str) (ks : List Kn)
mutual
noncomputable def Kn.d : Kn → Dk
  | .mk h ks => .tup (.str h :: Kn.ds ks)
noncomputable def Kn.ds : List Kn → List Dk
  | [] => []
  | t :: r => t.d :: Kn.ds r
end
mutual
noncomputable def Kn.dep : Kn → Nat
  | .mk _ ks => 1 + Kn.deps ks
noncomputable def Kn.deps : List Kn → Nat
  | [] => 0
  | t :: r => max t.dep (Kn.deps r)
end
mutual
noncomputable def Kn.ok : Kn → Prop
  | .mk _ ks => ks.length ≤ 2 ∧ Kn.oks ks
noncomputable def Kn.oks : List Kn → Prop
  | [] => True
  | t :: r => t.ok ∧ Kn.oks r
end
end L2.Bk

end
section
set_option Elab.async false
set_option linter.all false
set_option maxRecDepth 100000
namespace L2.Bk
open PySem PySem.Spec PyProof.Rows L2.Bw
section
variable {K : PySem.W.Frag}
end
end L2.Bk

end
section
set_option Elab.async false
set_option linter.all false
set_option maxRecDepth 100000
namespace L2
open PySem PySem.Spec PyProof.Rows

/-! ### lists of pairs as tables -/
section
variable {κ : Type} [DecidableEq κ]
noncomputable def valV (kvs : List (κ × V)) (k : κ) : Option V := (kvs.find? fun kv => decide (kv.1 = k)).map (·.2)
/-- in its place, or at the end -/
noncomputable def putK (kvs : List (κ × V)) (k : κ) (v : V) : List (κ × V) :=
  if (kvs.any fun kv => decide (kv.1 = k)) = true then kvs.map (fun kv => if kv.1 = k then (kv.1, v) else kv) else kvs ++ [(k, v)]
noncomputable def dropK (kvs : List (κ × V)) (k : κ) : List (κ × V) := kvs.filter fun kv => decide (kv.1 ≠ k)

theorem valV_pos {p : κ × V} {r : List (κ × V)} {k : κ} (e : p.1 = k) : valV (p :: r) k = some p.2 := by simp [valV, List.find?_cons, e]
theorem valV_neg {p : κ × V} {r : List (κ × V)} {k : κ} (e : ¬ p.1 = k) : valV (p :: r) k = valV r k := by simp [valV, List.find?_cons, e]
theorem length_putK (kvs : List (κ × V)) (k : κ) (v : V) : (putK kvs k v).length ≤ kvs.length + 1 := by
  unfold putK
  split
  · rw [List.length_map]; omega
  · rw [List.length_append, List.length_cons, List.length_nil]; omega
theorem RelO.getD {o : Option V} {u : Option Value} {d : V} {d' : Value} (r : RelO o u) (rd : RelV d d') : RelV (o.getD d) (u.getD d') := by
  cases o with
  | none => cases u with
    | none => exact rd
    | some _ => exact (show False from r).elim
  | some _ => cases u with
    | none => exact (show False from r).elim
    | some _ => exact r

/-- raw tables of the same keys -/
theorem KV.val {kvs : List (κ × V)} {vs : List (κ × Value)} (r : KV kvs vs) (k : κ) : RelO (valV kvs k) (valueAt vs k) := by
  unfold KV at r
  induction r with
  | nil => exact True.intro
  | @cons p q ps qs h t ih =>
    obtain ⟨h1, h2⟩ := h
    by_cases e : p.1 = k
    · have e' : q.1 = k := h1.symm.trans e
      have b : valueAt (q :: qs) k = some q.2 := by simp [valueAt, List.find?_cons, e']
      rw [valV_pos e, b]; exact h2
    · have e' : ¬ q.1 = k := fun z => e (h1.trans z)
      have b : valueAt (q :: qs) k = valueAt qs k := by simp [valueAt, List.find?_cons, e']
      rw [valV_neg e, b]; exact ih
theorem KV.any {kvs : List (κ × V)} {vs : List (κ × Value)} (r : KV kvs vs) (k : κ) : (kvs.any fun kv => decide (kv.1 = k)) = vs.any fun kv => decide (kv.1 = k) := by
  unfold KV at r
  induction r with
  | nil => rfl
  | cons h t ih => rw [List.any_cons, List.any_cons, ih, h.1]
theorem KV.repl {kvs : List (κ × V)} {vs : List (κ × Value)} (r : KV kvs vs) (k : κ) {y : V} {u : Value} (ry : RelV y u) :
    KV (kvs.map fun kv => if kv.1 = k then (kv.1, y) else kv) (vs.map fun kv => if kv.1 = k then (kv.1, u) else kv) := by
  unfold KV at r ⊢
  induction r with
  | nil => exact .nil
  | @cons p q ps qs h t ih =>
    rw [List.map_cons, List.map_cons]
    refine .cons ?_ ih
    obtain ⟨h1, h2⟩ := h
    by_cases e : p.1 = k
    · rw [if_pos e, if_pos (h1.symm.trans e)]; exact ⟨h1, ry⟩
    · rw [if_neg e, if_neg (fun z => e (h1.trans z))]; exact ⟨h1, h2⟩
theorem KV.put {kvs : List (κ × V)} {vs : List (κ × Value)} (r : KV kvs vs) (k : κ) {y : V} {u : Value} (ry : RelV y u) : KV (putK kvs k y) (stored vs k u) := by
  unfold putK stored
  rw [r.any k]
  by_cases e : (vs.any fun kv => decide (kv.1 = k)) = true
  · rw [if_pos e, if_pos e]; exact r.repl k ry
  · rw [if_neg e, if_neg e]; exact Paired.snoc r ⟨rfl, ry⟩
end


/-! ### a tracked dict, its keys ints and texts or tuples of these -/
theorem kV_is {P : Program} {w : World} {k : Key} {u : Value} (r : RelV (kV k) u) : (mixKind P w).is k u = true := by
  cases k with
  | inl i => obtain ⟨t, e⟩ := (show ∃ t, u = Value.int i t from r); subst e; exact mixKind_int P w i t
  | inr x => obtain ⟨t, e⟩ := (show ∃ t, u = Value.str x t from r); subst e; exact mixKind_str P w x t
theorem items_are {P : Program} {w : World} : ∀ {ks : List Key} {us : List Value}, Vals (ks.map kV) us → ItemsAre (mixKind P w) ks us
  | [], _, r => by rw [List.map_nil] at r; cases r; exact .nil
  | k :: ks, _, r => by
    rw [List.map_cons] at r
    cases r with
    | cons h t => exact .cons (kV_is h) (items_are t)

/-- raw entries of a dict with tuple keys -/
noncomputable abbrev KT (H : Hp) : List (List Key × V) → List (List Key × Addr × Value) → Prop := Paired fun p q => p.1 = q.1 ∧ H q.2.1 = some (.tup (p.1.map kV)) ∧ RelV p.2 q.2.2
theorem KT.val {H : Hp} {kvs : List (List Key × V)} {xs : List (List Key × Addr × Value)} (r : KT H kvs xs) (k : List Key) : RelO (valV kvs k) ((atKey xs k).map (·.2)) := by
  induction r with
  | nil => exact True.intro
  | @cons p q ps qs h t ih =>
    obtain ⟨h1, _, h2⟩ := h
    by_cases e : p.1 = k
    · have e' : q.1 = k := h1.symm.trans e
      have b : atKey (q :: qs) k = some q.2 := by simp [atKey, List.find?_cons, e']
      rw [valV_pos e, b]; exact h2
    · have e' : ¬ q.1 = k := fun z => e (h1.trans z)
      have b : atKey (q :: qs) k = atKey qs k := by simp [atKey, List.find?_cons, e']
      rw [valV_neg e, b]; exact ih
section
variable {P : Program} {w : World} {H : Hp} {h : Heap} {a : Addr}
theorem rd_of {u : HO} (ok : HOk P w H h) (e : Rd H a u) : ObjOk P w H h a u := e.ok ok
theorem dk_rd {kvs : List (Key × V)} (ok : HOk P w H h) (e : Rd H a (.dK kvs)) : kvs.length ≤ sizeLine ∧ (a == sysModules) = false ∧ ∃ vs, KV kvs vs ∧ h.DictOf (mixKind P w) a vs :=
  show ObjOk P w H h a (.dK kvs) from rd_of ok e
theorem dk_of {kvs : List (Key × V)} (ok : HOk P w H h) (e : H a = some (.dK kvs)) : kvs.length ≤ sizeLine ∧ (a == sysModules) = false ∧ ∃ vs, KV kvs vs ∧ h.DictOf (mixKind P w) a vs := dk_rd ok (.inl e)
/-- a tracked tuple of ints and texts is a key -/
theorem key_of {ks : List Key} (ok : HOk P w H h) (e : H a = some (.tup (ks.map kV))) : (tupleKind (mixKind P w)).is h ks a := by
  obtain ⟨_, its, r, o, h1, h2, n, h3⟩ := (show ObjOk P w H h a (.tup (ks.map kV)) from ok a _ e)
  exact ⟨o, its.toArray, n, h1, h2, h3, by simpa using items_are r⟩
theorem dt_rd {kvs : List (List Key × V)} (ok : HOk P w H h) (e : Rd H a (.dT kvs)) : kvs.length ≤ sizeLine ∧ (a == sysModules) = false ∧
    ∃ xs, KT H kvs xs ∧ h.DictOfH (tupleKind (mixKind P w)) a xs := by
  obtain ⟨z, y, xs, r, o, es, ep, h1, h2, h3, h4, h5⟩ := (show ObjOk P w H h a (.dT kvs) from rd_of ok e)
  refine ⟨z, y, xs, r, o, es, ep, h1, h2, h3, h4, fun x hx => ?_, h5⟩
  have all : ∀ {l : List (List Key × V)} {m : List (List Key × Addr × Value)}, KT H l m → ∀ x ∈ m, (tupleKind (mixKind P w)).is h x.1 x.2.1 := by
    intro l m q
    induction q with
    | nil => intro x hx; exact nomatch hx
    | @cons p q ps qs hq t ih =>
      intro x hx
      rcases List.mem_cons.mp hx with e | hx
      · subst e
        exact key_of ok (by rw [← hq.1]; exact hq.2.1)
      · exact ih x hx
  exact all r x hx
end

/-- what the dict at a holds at the key y -/
noncomputable def DGet (H : Hp) (a : Addr) (y : V) (r : Option V) : Prop :=
  (∃ kvs k, Rd H a (.dK kvs) ∧ y = kV k ∧ r = valV kvs k) ∨ ∃ kvs k b, Rd H a (.dT kvs) ∧ y = .ref b ∧ H b = some (.tup (k.map kV)) ∧ r = valV kvs k
/-- the heap behind a[y] = v -/
noncomputable def DPut (H : Hp) (a : Addr) (y v : V) (H' : Hp) : Prop :=
  (∃ kvs k, H a = some (.dK kvs) ∧ y = kV k ∧ kvs.length < sizeLine ∧ H' = upd H a (.dK (putK kvs k v))) ∨
  ∃ kvs k b, H a = some (.dT kvs) ∧ y = .ref b ∧ H b = some (.tup (k.map kV)) ∧ kvs.length < sizeLine ∧ H' = upd H a (.dT (putK kvs k v))
theorem DGet.k {H : Hp} {a : Addr} {kvs : List (Key × V)} {k : Key} (e : H a = some (.dK kvs)) : DGet H a (kV k) (valV kvs k) := .inl ⟨kvs, k, .inl e, rfl, rfl⟩
section
variable {X : Cx} {pins : List (Addr × Obj)} {σ : St} {H : Hp} {s : Shared} {a : Addr} {y v : V} {u r : Value} {o : Option V} {A : Around} {E : Value → Shared → Prop}

theorem Inv.big (I : Inv X pins σ H s) : sysModules < s.heap.objs.size := by
  have h : mainGlobals < s.heap.objs.size := (I.mod.glob.keeps I.bk).lt
  exact Nat.lt_trans (by decide) h

/-- a dict's object is replaced -/
theorem d_write {h' : Heap} {t' : Nat} {ob : HO} (I : Inv X pins σ H s) (mu : Mut (H a)) (hs : Heap.SameBut a s.heap h') (he : ∃ q, h'.get? a = some q) (new : ObjOk X.prog X.w (upd H a ob) h' a ob) :
    Inv X pins σ (upd H a ob) { s with heap := h', toks := t' } :=
  I.write (x := a) (e := a) mu (.inl rfl) (fun b q hb z => (hs.2 b hb).trans z) he new
theorem dk_new {P : Program} {w : World} {H' : Hp} {h' : Heap} {kvs : List (Key × V)} {vs : List (Key × Value)} (z : kvs.length ≤ sizeLine) (hd : (a == sysModules) = false) (rel : KV kvs vs) (dd : h'.DictOf (mixKind P w) a vs) :
    ObjOk P w H' h' a (.dK kvs) := ⟨z, hd, vs, rel, dd⟩
end

section
variable {X : Cx} {pins : List (Addr × Obj)} {σ : St} {H : Hp} {s : Shared} {a : Addr} {kvs : List (Key × V)} {k : Key} {u : Value} {A : Around} {E : Value → Shared → Prop}
end


/-! ### readings and rules -/
section
variable {X : Cx} {o i e value : Expr} {pos pos' tpos : Pos} {td ty tv : TE}
end


/-! ### displays -/
theorem dk_empty {P : Program} {w : World} {H : Hp} (h : Heap) (hb : sysModules < h.objs.size) : ObjOk P w H (h.push { cls := .type "dict", data := .dict #[] }) h.objs.size (.dK []) :=
  ⟨Nat.zero_le _, beq_eq_false_iff_ne.mpr (Ne.symm (Nat.ne_of_lt hb)), [], .nil, Heap.DictOf.new h⟩
section
variable {X : Cx} {pos : Pos}
end

/-- the pairs of a display, from the left -/
noncomputable def tPairs : List (TE × TE) → St → Hp → (List (V × V) → Hp → Prop) → Prop
  | [], _, H, Q => Q [] H
  | (tk, tv) :: r, σ, H, Q => tk σ H fun x H1 => tv σ H1 fun y H2 => tPairs r σ H2 fun ps H3 => Q ((x, y) :: ps) H3
noncomputable abbrev VV : List (V × V) → List (Value × Value) → Prop := Paired fun p q => RelV p.1 q.1 ∧ RelV p.2 q.2
noncomputable def PPs (X : Cx) (pos : Pos) (keys : List (Option Expr)) (values : List Expr) (trs : List (TE × TE)) : Prop :=
  ∀ (pins : List (Addr × Obj)) (s : Shared) (σ : St) (H : Hp) (Q : List (V × V) → Hp → Prop), Inv X pins σ H s → tPairs trs σ H Q →
    wpAny (model X.prog X.w) X.A (evalPairs (pairTrees keys values X.env pos)) (fun vs s' => ∃ ps H', Inv X pins σ H' s' ∧ VV ps vs ∧ Q ps H') X.xe s
theorem pps_nil {X : Cx} {pos : Pos} : PPs X pos [] [] [] := fun pins s σ H Q I h => pairTrees_nil_walk ⟨[], H, I, .nil, h⟩
theorem pps_cons {X : Cx} {pos : Pos} {k v : Expr} {ks : List (Option Expr)} {vs : List Expr} {tk tv : TE} {trs : List (TE × TE)} (hk : PE X k tk) (hv : PE X v tv) (hr : PPs X pos ks vs trs) :
    PPs X pos (some k :: ks) (v :: vs) ((tk, tv) :: trs) := fun pins s σ H Q I h =>
  pairTrees_cons_walk (thn (hk pins s σ H _ I h) fun u s1 ⟨x, H1, I1, rx, q1⟩ => thn (hv pins s1 σ H1 _ I1 q1) fun w2 s2 ⟨y, H2, I2, ry, q2⟩ =>
    thn (hr pins s2 σ H2 _ I2 q2) fun ws s3 ⟨ps, H3, I3, rel, q3⟩ => ⟨(x, y) :: ps, H3, I3, .cons ⟨rx, ry⟩ rel, q3⟩)

noncomputable def mergeK (kvs more : List (Key × V)) : List (Key × V) := more.foldl (fun acc kv => putK acc kv.1 kv.2) kvs
theorem KV.merge : ∀ {more : List (Key × V)} {rs : List (Key × Value)} {kvs : List (Key × V)} {vs : List (Key × Value)}, KV more rs → KV kvs vs → KV (mergeK kvs more) (merged vs rs) := by
  intro more rs kvs vs r
  unfold KV at r
  induction r generalizing kvs vs with
  | nil => intro q; exact q
  | @cons p q ps qs h t ih =>
    intro r0
    have e : KV (putK kvs p.1 p.2) (stored vs q.1 q.2) := by
      have := r0.put p.1 h.2
      rw [← h.1]; exact this
    exact ih e
theorem length_mergeK : ∀ (more kvs : List (Key × V)), (mergeK kvs more).length ≤ kvs.length + more.length
  | [], kvs => by show kvs.length ≤ kvs.length + 0; omega
  | p :: r, kvs => by
    have h1 := length_mergeK r (putK kvs p.1 p.2)
    have h2 := length_putK kvs p.1 p.2
    show (mergeK (putK kvs p.1 p.2) r).length ≤ _
    rw [List.length_cons]; omega
theorem carries_of {P : Program} {w : World} : ∀ {kvs : List (Key × V)} {ws : List (Value × Value)}, VV (kvs.map fun kv => (kV kv.1, kv.2)) ws → ∃ rs, Carries (mixKind P w) ws rs ∧ KV kvs rs
  | [], _, r => by rw [List.map_nil] at r; cases r; exact ⟨[], True.intro, .nil⟩
  | p :: kvs, _, r => by
    rw [List.map_cons] at r
    cases r with
    | @cons a b as bs h t =>
      obtain ⟨rs, c, q⟩ := carries_of (P := P) (w := w) t
      obtain ⟨b1, b2⟩ := b
      exact ⟨(p.1, b2) :: rs, ⟨kV_is h.1, rfl, c⟩, .cons ⟨rfl, h.2⟩ q⟩
/-- {k: v, ..} with keys ints and texts; the new dict stands empty while the pairs are made -/
noncomputable def tDisp (trs : List (TE × TE)) : TE := fun σ H Q => ∀ p, H p = none → tPairs trs σ (upd H p (.dK [])) fun ps H2 => H2 p = some (.dK []) ∧ ∃ kvs : List (Key × V), ps = kvs.map (fun kv => (kV kv.1, kv.2)) ∧ kvs.length ≤ 15 ∧ Q (.ref p) (upd H2 p (.dK (mergeK [] kvs)))
theorem pe_disp {X : Cx} {pos : Pos} {keys : List (Option Expr)} {values : List Expr} {trs : List (TE × TE)} (h : PPs X pos keys values trs) (hall : keys.all (·.isSome) = true) (hl : keys.length = values.length) (h0 : keys ≠ [])
    (h15 : keys.length ≤ 15) : PE X (.Dict keys values pos) (tDisp trs) := by
  intro pins s σ H Q I q
  have hn := I.hok.fresh (Nat.le_refl s.heap.objs.size)
  have I1 := I.laid (a := s.heap.objs.size) (o := .dK []) (h' := s.heap.push { cls := .type "dict", data := .dict #[] }) (t' := s.toks) (fun _ _ q => Heap.get?_push_of_some _ q) (Nat.le_refl _) (dk_empty s.heap I.big)
  refine wpAny_Dict_walk (knd := mixKind X.prog X.w) hall hl h0 h15 (thn (h pins _ σ _ _ I1 (q _ hn)) fun ws s2 ⟨ps, H2, I2, rel, e, kvs, ep, lk, q2⟩ => ?_)
  subst ep
  obtain ⟨rs, c, rk⟩ := carries_of (P := X.prog) (w := X.w) rel
  obtain ⟨z, hd, vs0, r0, dd⟩ := dk_of I2.hok e
  cases r0
  refine ⟨rs, c, dd, fun h' dd' hs => ⟨.ref s.heap.objs.size, _, ?_, rfl, q2⟩⟩
  have hz : (mergeK [] kvs).length ≤ sizeLine := by
    have h1 := length_mergeK kvs []
    rw [List.length_nil] at h1
    rw [sizeLine_eq]; omega
  have he : ∃ q, h'.get? s.heap.objs.size = some q := let ⟨q, _, _, hq, _⟩ := dd'; ⟨q, hq⟩
  exact d_write I2 (by rw [e]; exact True.intro) hs he (dk_new hz hd (rk.merge .nil) dd')


/-! ### methods -/
/-- a method call o.m(e) of a built-in, with one argument: what must be seen of the text -/
structure DM1 (X : Cx) (o : Expr) (m : Str) (apos : Pos) (e : Expr) (cpos : Pos) : Prop where
  base : attributeBase o m X.env (eval o X.env) = eval o X.env
  few : ((backTo cpos (starEach [e] X.env)).all (fun x => !x.1) && (backToKw cpos (keywordEach [] X.env)).all (fun x => x.1.isSome)
    && decide (([e] : List Expr).length + ([] : List Keyword).length + (if ([] : List Keyword).isEmpty then 0 else 1) < 30)) = true
  line : (apos.endLine == cpos.line) = true
  trees : backTo cpos (starEach [e] X.env) = [(false, eval e X.env)]
structure DM2 (X : Cx) (o : Expr) (m : Str) (apos : Pos) (e f : Expr) (cpos : Pos) : Prop where
  base : attributeBase o m X.env (eval o X.env) = eval o X.env
  few : ((backTo cpos (starEach [e, f] X.env)).all (fun x => !x.1) && (backToKw cpos (keywordEach [] X.env)).all (fun x => x.1.isSome)
    && decide (([e, f] : List Expr).length + ([] : List Keyword).length + (if ([] : List Keyword).isEmpty then 0 else 1) < 30)) = true
  line : (apos.endLine == cpos.line) = true
  trees : backTo cpos (starEach [e, f] X.env) = [(false, eval e X.env), (false, eval f X.env)]

/-- a is a dict, whatever its keys -/
noncomputable def IsD (H : Hp) (a : Addr) : Prop := (∃ kvs, Rd H a (.dK kvs)) ∨ ∃ kvs, Rd H a (.dT kvs)
theorem isD_at {X : Cx} {pins : List (Addr × Obj)} {σ : St} {H : Hp} {s : Shared} {a : Addr} (I : Inv X pins σ H s) (d : IsD H a) :
    s.TypeIs (.ref a) "dict" ∧ (∀ b, Value.ref a = .ref b → ∃ ob, s.heap.get? b = some ob ∧ ob.dict = none) ∧ (a == sysModules) = false := by
  rcases d with ⟨kvs, e⟩ | ⟨kvs, e⟩
  · obtain ⟨_, hd, vs, _, dd⟩ := dk_rd I.hok e
    refine ⟨dd.typeIs, fun b q => ?_, hd⟩
    cases q
    obtain ⟨ob, _, _, h1, h2, _⟩ := dd
    exact ⟨ob, h1, h2.2.1⟩
  · obtain ⟨_, hd, xs, _, dd⟩ := dt_rd I.hok e
    refine ⟨dd.typeIs, fun b q => ?_, hd⟩
    cases q
    obtain ⟨ob, _, _, h1, h2, _⟩ := dd
    exact ⟨ob, h1, h2.2.1⟩

section
variable {X : Cx} {pins : List (Addr × Obj)} {σ : St} {H : Hp} {s : Shared} {a : Addr} {y d : V} {u r : Value} {o : Option V} {A : Around} {E : Value → Shared → Prop}
/-- d.get(y, x) -/
theorem d_get2 {Q : Value → Shared → Prop} (hu : A.units + 1 < cLine) (I : Inv X pins σ H s) (g : DGet H a y o) (ry : RelV y u) (rd : RelV d r) (h : ∀ w' s', Inv X pins σ H s' → RelV (o.getD d) w' → Q w' s') :
    wpAny (model X.prog X.w) A (call (.builtin "dict.get") [.ref a, u, r]) Q E s := by
  rcases g with ⟨kvs, k, e, ey, l⟩ | ⟨kvs, k, b, e, ey, eb, l⟩
  · subst ey
    obtain ⟨z, hd, vs, rel, dd⟩ := dk_rd I.hok e
    refine call_meetsIn PySem.F.slot_dict_get dd.typeIs PySem.F.entry_dict_get (PySem.F.args_dict_get_3 _ _ _) (meets_dict_get_default (mixKind X.prog X.w) a (kV_is ry) hd r) ⟨_, dd.mapOf, h _ _ (I.tok _) ?_⟩
    rw [l]
    exact (rel.val k).getD rd
  · subst ey
    cases (show u = Value.ref b from ry)
    obtain ⟨z, hd, xs, rel, dd⟩ := dt_rd I.hok e
    refine call_meetsIn PySem.F.slot_dict_get dd.typeIs PySem.F.entry_dict_get (PySem.F.args_dict_get_3 _ _ _) (meetsH_dict_get_default (tupleKind (mixKind X.prog X.w)) a b hd r) ⟨tupleKind_room_in1 hu, k, xs, key_of I.hok eb, dd, h _ _ (I.tok _) ?_⟩
    rw [l]
    exact (rel.val k).getD rd
end

noncomputable def tDGet2 (td ty tx : TE) : TE := fun σ H Q => td σ H fun x H1 => ∃ a, x = .ref a ∧ IsD H1 a ∧ ty σ H1 fun y H2 => tx σ H2 fun z H3 => ∃ o, DGet H3 a y o ∧ Q (o.getD z) H3
section
variable {X : Cx} {o e f : Expr} {apos cpos : Pos} {td ty tx : TE}
theorem pe_dget2 (hu : X.A.units + 1 < cLine) (ho : PE X o td) (he : PE X e ty) (hf : PE X f tx) (m : DM2 X o "get" apos e f cpos) : PE X (.Call (.Attribute o "get" apos) [e, f] [] cpos) (tDGet2 td ty tx) := by
  intro pins s σ H Q I h
  refine wpAny_Call_method m.base m.few m.line PySem.F.plainAttrs_dict PySem.F.slot_dict_get PySem.F.type_dict_get (thn (ho pins s σ H _ I h) fun u s1 ⟨x, H1, I1, rx, a, ex, d, q1⟩ => ?_)
  subst ex
  obtain rfl : u = Value.ref a := rx
  obtain ⟨t1, t2, _⟩ := isD_at I1 d
  refine ⟨t1, t2, ?_⟩
  rw [m.trees]
  refine Calls.callWith_builtin rfl (Calls.evalArgs_plain (Calls.spliced_cons (thn (he pins s1 σ H1 _ I1 q1) fun iv s2 ⟨y, H2, I2, ry, q2⟩ =>
    Calls.spliced_cons (thn (hf pins s2 σ H2 _ I2 q2) fun fv s3 ⟨z, H3, I3, rz, ov, g, q3⟩ => Calls.spliced_nil ?_))))
  exact d_get2 hu I3 g ry rz fun w' s4 I4 rw' => ⟨_, H3, I4, rw', q3⟩
end

/-! ### dict(d): a copy -/
section
variable {X : Cx} {pins : List (Addr × Obj)} {σ : St} {H : Hp} {s : Shared} {a : Addr} {kvs : List (Key × V)} {A : Around} {E : Value → Shared → Prop}
end


section
variable {X : Cx} {pins : List (Addr × Obj)} {σ : St} {H : Hp} {s : Shared} {a : Addr} {y : V} {u : Value} {A : Around} {E : Value → Shared → Prop}
end
end L2

end
section
set_option Elab.async false
set_option linter.all false
set_option maxRecDepth 100000
/-! Kinds beside each other: join, paths, heads. -/
namespace L2.Bk
open PySem PySem.Spec PyProof.Rows L2.Bw
noncomputable def Kn.h : Kn → Str
  | .mk h _ => h
noncomputable def Kn.ks : Kn → List Kn
  | .mk _ ks => ks
/-- how many parts a head has -/
noncomputable def arity (h : Str) : Option Nat := if h = "whole" then some 0 else if h = "truth" then some 0 else if h = "?" then some 0 else if h = "row" then some 1 else if h = "to" then some 2 else if h = "pair" then some 2 else none
mutual
noncomputable def Kn.wf : Kn → Prop
  | .mk h ks => arity h = some ks.length ∧ Kn.wfs ks
noncomputable def Kn.wfs : List Kn → Prop
  | [] => True
  | t :: r => t.wf ∧ Kn.wfs r
end
noncomputable def qK : Kn := .mk "?" []
mutual
noncomputable def Kn.join : Kn → Kn → Kn
  | .mk h ks, .mk g ls => if h = g then .mk h (Kn.joins ks ls) else qK
noncomputable def Kn.joins : List Kn → List Kn → List Kn
  | t :: r, u :: q => t.join u :: Kn.joins r q
  | [], _ => []
  | _ :: _, [] => []
end
/-! ### paths and heads -/
mutual
noncomputable def Kn.paths : Kn → List (List Nat)
  | .mk _ ks => [] :: Kn.pathsL 1 ks
noncomputable def Kn.pathsL (n : Nat) : List Kn → List (List Nat)
  | [] => []
  | t :: r => t.paths.map (n :: ·) ++ Kn.pathsL (n + 1) r
end
noncomputable def Kn.headAt : Kn → List Nat → Str
  | t, [] => t.h
  | t, k :: p => if t.h = "?" then "?" else match t.ks[k - 1]? with
    | none => "none"
    | some u => u.headAt p
end L2.Bk

end
section
set_option Elab.async false
set_option linter.all false
namespace L2.Bk
open PySem PySem.Spec PyProof.Rows L2.Bw
theorem bxpnil {X : Cx} {pos : Pos} : Bx (PPs X pos [] [] []) := ⟨pps_nil⟩
theorem bxdisp {X : Cx} {pos : Pos} {keys : List (Option Expr)} {values : List Expr} {trs : List (TE × TE)} (h : Bx (PPs X pos keys values trs)) (hall : keys.all (·.isSome) = true) (hl : keys.length = values.length) (h0 : keys ≠ [])
    (h15 : keys.length ≤ 15) : Bx (PE X (.Dict keys values pos) (tDisp trs)) := ⟨pe_disp h.out hall hl h0 h15⟩
end L2.Bk

end
section
set_option Elab.async false
set_option linter.all false
set_option maxRecDepth 100000
/-! zip of a tuple and two lists, walked by threes. -/
namespace PySem
namespace F
end F
section
variable {prog : Program} {w : World} {A : Around} {E : Value → Shared → Prop} {s : Shared}
structure Z3 (z TI TO i1 i2 i3 t b c : Addr) : Prop where
  TIz : TI ≠ z
  TOz : TO ≠ z
  i1z : i1 ≠ z
  i2z : i2 ≠ z
  i3z : i3 ≠ z
  TITO : TI ≠ TO
  TIi1 : TI ≠ i1
  TIi2 : TI ≠ i2
  TIi3 : TI ≠ i3
  TOi1 : TO ≠ i1
  TOi2 : TO ≠ i2
  TOi3 : TO ≠ i3
  i12 : i1 ≠ i2
  i13 : i1 ≠ i3
  i23 : i2 ≠ i3
  tz : t ≠ z
  tTO : t ≠ TO
  ti1 : t ≠ i1
  ti2 : t ≠ i2
  ti3 : t ≠ i3
  bz : b ≠ z
  bTO : b ≠ TO
  bi1 : b ≠ i1
  bi2 : b ≠ i2
  bi3 : b ≠ i3
  cz : c ≠ z
  cTO : c ≠ TO
  ci1 : c ≠ i1
  ci2 : c ≠ i2
  ci3 : c ≠ i3
end
end PySem

end
section
set_option Elab.async false
set_option linter.all false
set_option maxRecDepth 100000
namespace PySem
section
variable {prog : Program} {w : World} {A : Around} {E : Value → Shared → Prop} {s : Shared}
end
end PySem
namespace L2.Bk
open PySem PySem.Spec PyProof.Rows L2.Bw
section
variable {X : Cx}
end
end L2.Bk

end
section
set_option Elab.async false
set_option linter.all false
set_option maxRecDepth 100000
/-! Where two kinds part. -/
namespace L2.Bk
open PySem PySem.Spec PyProof.Rows L2.Bw
noncomputable def stepTab : List (Str × List Str) := [("whole", []), ("truth", []), ("?", []), ("to", ["arg", "res"]), ("row", ["item"]), ("pair", ["one", "two"])]
noncomputable def stepsOf (h : Str) : List Str := (KTD.datumAt h stepTab).getD []
mutual
noncomputable def Kn.part : Kn → Kn → Option (List Str)
  | .mk h ks, .mk g ls => if h = "?" then none else if g = "?" then none else if h = g then Kn.parts (stepsOf h) ks ls else some []
noncomputable def Kn.parts : List Str → List Kn → List Kn → Option (List Str)
  | s :: ss, t :: r, u :: q => match t.part u with
    | some w => some (s :: w)
    | none => Kn.parts ss r q
  | [], _, _ => none
  | _ :: _, [], _ => none
  | _ :: _, _ :: _, [] => none
end
noncomputable def wd (w : List Str) : Dk := .tup (w.map Dk.str)
noncomputable def od : Option (List Str) → Dk
  | none => .non
  | some w => wd w
end L2.Bk

end
section
set_option Elab.async false
set_option linter.all false
namespace L2.Bk
open PySem PySem.Spec PyProof.Rows L2.Bw
theorem bxpv {X : Cx} {pos : Pos} {x : Str} {v : Expr} {tv : TE} {j1 p1} {ks : List (Option Expr)} {vs : List Expr} {trs : List (TE × TE)} (hv : Bx (PE X v tv)) (r : Bx (PPs X pos ks vs trs)) : Bx (PPs X pos (some (.Constant (.str x) j1 p1) :: ks) (v :: vs) ((tC (.str x), tv) :: trs)) := ⟨pps_cons pe_str hv.out r.out⟩
end L2.Bk

end
section
set_option Elab.async false
set_option linter.all false
set_option maxRecDepth 100000
/-! The meet of two kinds. -/
namespace L2.Bk
open PySem PySem.Spec PyProof.Rows L2.Bw
mutual
noncomputable def Kn.both : Kn → Kn → Kn
  | .mk h ks, .mk g ls => if h = "?" then .mk g ls else if g = "?" then .mk h ks else .mk h (Kn.boths ks ls)
noncomputable def Kn.boths : List Kn → List Kn → List Kn
  | t :: r, u :: q => t.both u :: Kn.boths r q
  | [], _ => []
  | _ :: _, [] => []
end
end L2.Bk

end
section
set_option Elab.async false
set_option linter.all false
set_option maxRecDepth 100000
/-! Looser kinds. -/
namespace L2.Bk
open PySem PySem.Spec PyProof.Rows L2.Bw
mutual
noncomputable def Kn.loose : Kn → Kn → Bool
  | .mk h ks, .mk g ls => if g = "?" then true else if h = g then (Kn.looses ks ls).all id else false
noncomputable def Kn.looses : List Kn → List Kn → List Bool
  | t :: r, u :: q => t.loose u :: Kn.looses r q
  | [], _ => []
  | _ :: _, [] => []
end
/-- what is told there and otherwise here -/
noncomputable def off (a b : Kn) (p : List Nat) : Prop := b.headAt p ≠ "?" ∧ b.headAt p ≠ a.headAt p
end L2.Bk

end
section
set_option Elab.async false
set_option linter.all false
set_option maxRecDepth 100000
/-! == of any nested data; t + u with t empty; t * n; a dict of the module from texts to texts. -/
namespace L2.Bk
open PySem PySem.Spec PyProof.Rows L2.Bw PyProof.Rows.LSm
mutual
noncomputable def Dk.eqb : Dk → Dk → Bool
  | .tup ds, y => match y with | .tup es => eqbs ds es | _ => false
  | .non, y => match y with | .non => true | _ => false
  | .bl a, y => match y with | .bl b => a == b | .int b => (if a then 1 else 0) == b | _ => false
  | .int a, y => match y with | .int b => a == b | .bl b => a == (if b then 1 else 0) | _ => false
  | .str a, y => match y with | .str b => a == b | _ => false
noncomputable def eqbs : List Dk → List Dk → Bool
  | [], y => match y with | [] => true | _ :: _ => false
  | d :: ds, y => match y with | e :: es => d.eqb e && eqbs ds es | [] => false
end
mutual
theorem eqb_refl : ∀ (d : Dk), d.eqb d = true
  | .tup ds => by show eqbs ds ds = true; exact eqbs_refl ds
  | .non => rfl
  | .bl a => by show (a == a) = true; simp
  | .int a => by show (a == a) = true; simp
  | .str a => by show (a == a) = true; simp
theorem eqbs_refl : ∀ (ds : List Dk), eqbs ds ds = true
  | [] => rfl
  | d :: ds => by show (d.eqb d && eqbs ds ds) = true; rw [eqb_refl d, eqbs_refl ds]; rfl
end
theorem eqbs_range : ∀ (ds es : List Dk), eqbs ds es = ((List.range (min ds.length es.length)).all (fun j => (ds[j]?.getD .non).eqb (es[j]?.getD .non)) && ds.length == es.length)
  | [], [] => rfl
  | [], e :: es => by simp [eqbs]
  | d :: ds, [] => by simp [eqbs]
  | d :: ds, e :: es => by
    show (d.eqb e && eqbs ds es) = _
    rw [eqbs_range ds es]
    have m : min (d :: ds).length (e :: es).length = min ds.length es.length + 1 := by simp only [List.length_cons]; omega
    rw [m, List.range_succ_eq_map, List.all_cons, List.all_map]
    have e2 : ((d :: ds).length == (e :: es).length) = (ds.length == es.length) := by simp
    rw [e2, Bool.and_assoc]
    rfl
noncomputable def unV : Value → V
  | .none => .non | .bool b => .bl b | .int i _ => .int i | .str x _ => .str x | .bytes b _ => .byt b | .float b _ => .flt b | .ref a => .ref a | .type n => .ty n | _ => .non
theorem relV_un {x : V} {u : Value} (h : RelV x u) : unV u = x := by
  cases x with
  | non => cases (show u = Value.none from h); rfl
  | bl b => cases (show u = Value.bool b from h); rfl
  | int i => obtain ⟨t, e⟩ := (show ∃ t, u = Value.int i t from h); subst e; rfl
  | str i => obtain ⟨t, e⟩ := (show ∃ t, u = Value.str i t from h); subst e; rfl
  | byt i => obtain ⟨t, e⟩ := (show ∃ t, u = Value.bytes i t from h); subst e; rfl
  | flt i => obtain ⟨t, e⟩ := (show ∃ t, u = Value.float i t from h); subst e; rfl
  | ref a => cases (show u = Value.ref a from h); rfl
  | ty n => cases (show u = Value.type n from h); rfl
theorem relV_inj {x y : V} {u : Value} (hx : RelV x u) (hy : RelV y u) : x = y := (relV_un hx).symm.trans (relV_un hy)
theorem vals_inj : ∀ {xs ys : List V} {us : List Value}, Vals xs us → Vals ys us → xs = ys
  | _, _, _, .nil, h => by cases h; rfl
  | _, _, _, .cons r t, h => by
    cases h with
    | cons r' t' => rw [relV_inj r r', vals_inj t t']
section
variable {X : Cx}
theorem tp_det {s : Shared} {pins : List (Addr × Obj)} {σ : St} {H : Hp} (I : Inv X pins σ H s) {a : Addr} {xs ys : List V} (h1 : Tp X.K H a xs) (h2 : Tp X.K H a ys) : xs = ys := by
  obtain ⟨i1, r1, ⟨o1, e1, c1, n1, d1⟩, z1⟩ := I.tuple h1.sq
  obtain ⟨i2, r2, ⟨o2, e2, c2, n2, d2⟩, z2⟩ := I.tuple h2.sq
  rw [e1] at e2
  cases e2
  rw [d1] at d2
  injection d2 with d2
  have e : i1 = i2 := by simpa using d2
  subst e
  exact vals_inj r1 r2
mutual
theorem rk_det {s : Shared} {pins : List (Addr × Obj)} {σ : St} {H : Hp} (I : Inv X pins σ H s) : ∀ {d e : Dk} {x : V}, RK X.K H d x → RK X.K H e x → d = e
  | .tup ds, e, x, h, h2 => by
    obtain ⟨a, vs, rfl, ha, ta⟩ := RK.get h
    cases e with
    | tup es =>
      obtain ⟨b, ws, e, hb, tb⟩ := RK.get h2
      cases e
      cases tp_det I ha hb
      rw [rks_det I ta tb]
    | non => rw [RK] at h2; cases h2
    | int i => rw [RK] at h2; cases h2
    | bl i => rw [RK] at h2; cases h2
    | str i => rw [RK] at h2; cases h2
  | .non, e, x, h, h2 => by
    rw [RK] at h; subst h
    cases e with
    | tup es => obtain ⟨b, ws, e, hb, tb⟩ := RK.get h2; cases e
    | non => rfl
    | _ => (rw [RK] at h2) <;> cases h2
  | .int _, e, x, h, h2 => by
    rw [RK] at h; subst h
    cases e with
    | tup es => obtain ⟨b, ws, e, hb, tb⟩ := RK.get h2; cases e
    | _ => rw [RK] at h2; cases h2; try rfl
  | .bl _, e, x, h, h2 => by
    rw [RK] at h; subst h
    cases e with
    | tup es => obtain ⟨b, ws, e, hb, tb⟩ := RK.get h2; cases e
    | _ => rw [RK] at h2; cases h2; try rfl
  | .str _, e, x, h, h2 => by
    rw [RK] at h; subst h
    cases e with
    | tup es => obtain ⟨b, ws, e, hb, tb⟩ := RK.get h2; cases e
    | _ => rw [RK] at h2; cases h2; try rfl
theorem rks_det {s : Shared} {pins : List (Addr × Obj)} {σ : St} {H : Hp} (I : Inv X pins σ H s) : ∀ {ds es : List Dk} {xs : List V}, RKs X.K H ds xs → RKs X.K H es xs → ds = es
  | [], es, xs, h, h2 => by
    cases (show xs = [] from h)
    cases es with
    | nil => rfl
    | cons e es => obtain ⟨v, r, e, _⟩ := h2; cases e
  | d :: ds, es, xs, h, h2 => by
    obtain ⟨v, r, rfl, h, t⟩ := h
    cases es with
    | nil => cases (show v :: r = [] from h2)
    | cons e es =>
      obtain ⟨v', r', e, h', t'⟩ := h2
      cases e
      rw [rk_det I h h', rks_det I t t']
end
noncomputable def Dk.flat : Dk → Bool
  | .tup _ => false
  | _ => true
theorem flat_tup {s : Shared} {A : Around} {x : V} {u : Value} {b : Addr} {its : Array Value} (fx : flatV x = true) (ru : RelV x u) (p : s.heap.IsTuple b its) (hu : A.units < cLine) : SeqAt.EqAt A s u (.ref b) false ∧ SeqAt.EqAt A s (.ref b) u false := by
  cases x with
  | non => cases (show u = Value.none from ru); exact ⟨SeqAt.EqAt.none_tuple p hu, SeqAt.EqAt.tuple_none p hu⟩
  | bl k => cases (show u = Value.bool k from ru); exact ⟨SeqAt.EqAt.bool_tuple k p hu, SeqAt.EqAt.tuple_bool k p hu⟩
  | int k => obtain ⟨t, e⟩ := (show ∃ t, u = Value.int k t from ru); subst e; exact ⟨SeqAt.EqAt.int_tuple k t p hu, SeqAt.EqAt.tuple_int k t p hu⟩
  | str k => obtain ⟨t, e⟩ := (show ∃ t, u = Value.str k t from ru); subst e; exact ⟨SeqAt.EqAt.str_tuple k t p hu, SeqAt.EqAt.tuple_str k t p hu⟩
  | byt k => cases fx
  | flt k => cases fx
  | ref k => cases fx
  | ty k => cases fx
theorem flat_get {K : PySem.W.Frag} {H : Hp} {d : Dk} {x : V} (h : RK K H d x) : (∃ ds, d = .tup ds) ∨ (flatV x = true ∧ (∀ es, d.eqb (.tup es) = false ∧ (Dk.tup es).eqb d = false) ∧ d.dq = 0) := by
  cases d with
  | tup ds => exact .inl ⟨ds, rfl⟩
  | non => rw [RK] at h; subst h; exact .inr ⟨rfl, fun es => ⟨rfl, rfl⟩, dq_non⟩
  | int k => rw [RK] at h; subst h; exact .inr ⟨rfl, fun es => ⟨rfl, rfl⟩, dq_int _⟩
  | bl k => rw [RK] at h; subst h; exact .inr ⟨rfl, fun es => ⟨rfl, rfl⟩, dq_bl _⟩
  | str k => rw [RK] at h; subst h; exact .inr ⟨rfl, fun es => ⟨rfl, rfl⟩, dq_str _⟩
theorem flat_eqb {K : PySem.W.Frag} {H : Hp} {d e : Dk} {x y : V} (h : RK K H d x) (h2 : RK K H e y) (fx : flatV x = true) (fy : flatV y = true) : d.eqb e = eqV x y := by
  cases d with
  | tup ds => obtain ⟨a, vs, e, _⟩ := RK.get h; subst e; cases fx
  | _ =>
    rw [RK] at h
    cases e with
    | tup es => obtain ⟨a, vs, e, _⟩ := RK.get h2; subst e; cases fy
    | _ => rw [RK] at h2; subst h h2; rfl
theorem rk_eqb {s : Shared} {pins : List (Addr × Obj)} {σ : St} {H : Hp} (I : Inv X pins σ H s) : ∀ (n : Nat) {A : Around} {d e : Dk} {x y : V} {u v : Value}, d.dq ≤ n → RK X.K H d x → RK X.K H e y → RelV x u → RelV y v → A.units + n < cLine → SeqAt.EqAt A s u v (d.eqb e) := by
  intro n
  induction n with
  | zero =>
    intro A d e x y u v hn hx hy ru rv hu
    rcases flat_get hx with ⟨ds, rfl⟩ | ⟨fx, nx, dx⟩
    · have k : 1 + dqs ds ≤ 0 := hn; omega
    rcases flat_get hy with ⟨es, rfl⟩ | ⟨fy, ny, dy⟩
    · obtain ⟨b, ws, rfl, hb, tb⟩ := RK.get hy
      obtain ⟨i2, r2, p2, z2⟩ := I.tuple hb.sq
      cases rv
      rw [(nx es).1]
      exact (flat_tup fx ru p2 (by omega)).1
    · rw [flat_eqb hx hy fx fy]
      exact eqAt_V ru rv fx fy
  | succ n ih =>
    intro A d e x y u v hn hx hy ru rv hu
    rcases flat_get hx with ⟨ds, rfl⟩ | ⟨fx, nx, dx⟩
    · have hn' : 1 + dqs ds ≤ n + 1 := hn
      obtain ⟨a, vs, rfl, ha, ta⟩ := RK.get hx
      obtain ⟨i1, r1, p1, z1⟩ := I.tuple ha.sq
      rcases flat_get hy with ⟨es, rfl⟩ | ⟨fy, ny, dy⟩
      · obtain ⟨b, ws, rfl, hb, tb⟩ := RK.get hy
        cases ru; cases rv
        by_cases hab : a = b
        · subst hab
          have e1 := tp_det I ha hb
          subst e1
          rw [rks_det I ta tb]
          have e2 : (Dk.tup es).eqb (.tup es) = true := eqb_refl _
          rw [e2]
          exact SeqAt.EqAt.same _
        · obtain ⟨i2, r2, p2, z2⟩ := I.tuple hb.sq
          have l1 := r1.length
          have l2 := r2.length
          have l3 := ta.length
          have l4 := tb.length
          have key := SeqAt.RcAt.tuples (A := A) (s := s) (e := fun j => (ds[j]?.getD .non).eqb (es[j]?.getD .non)) p1 p2 (by omega) fun j h1 h2 => by
            have hjd : j < ds.length := by simp at h1; omega
            have hje : j < es.length := by simp at h2; omega
            obtain ⟨x1, e1, q1⟩ := ta.get (List.getElem?_eq_getElem hjd)
            obtain ⟨y1, e2, q2⟩ := tb.get (List.getElem?_eq_getElem hje)
            have k := dqs_mem (List.getElem_mem hjd)
            simp only [List.getElem?_eq_getElem hjd, List.getElem?_eq_getElem hje, Option.getD_some]
            exact ih (A := A.in1) (by omega) q1 q2 (item_k r1 e1 h1) (item_k r2 e2 h2) (by show A.units + 1 + n < cLine; omega)
          have val : ((List.range (min i1.toArray.size i2.toArray.size)).all (fun j => (ds[j]?.getD .non).eqb (es[j]?.getD .non)) && i1.toArray.size == i2.toArray.size) = eqbs ds es := by
            rw [eqbs_range, List.size_toArray, List.size_toArray, ← l1, ← l2, ← l3, ← l4]
          rw [val] at key
          exact SeqAt.EqAt.of_refs hab key
      · cases ru
        rw [(ny ds).2]
        exact (flat_tup fy rv p1 (by omega)).2
    · rcases flat_get hy with ⟨es, rfl⟩ | ⟨fy, ny, dy⟩
      · obtain ⟨b, ws, rfl, hb, tb⟩ := RK.get hy
        obtain ⟨i2, r2, p2, z2⟩ := I.tuple hb.sq
        cases rv
        rw [(nx es).1]
        exact (flat_tup fx ru p2 (by omega)).1
      · rw [flat_eqb hx hy fx fy]
        exact eqAt_V ru rv fx fy
theorem eqg_ok {k : Nat} (hr : Room k X.A) {s : Shared} {pins : List (Addr × Obj)} {σ : St} {H : Hp} (I : Inv X pins σ H s) {x y : V} {u v : Value} {ds es : List Dk} (hx : RK X.K H (.tup ds) x) (hy : RK X.K H (.tup es) y) (hd : dqs ds ≤ 60) (ru : RelV x u) (rv : RelV y v) : SeqAt.RcAt X.A s u v (eqbs ds es) ∧ SeqAt.RcNeAt X.A s u v (!eqbs ds es) := by
  have hu := hr.units
  obtain ⟨a, vs, rfl, ha, ta⟩ := RK.get hx
  obtain ⟨b, ws, rfl, hb, tb⟩ := RK.get hy
  cases ru; cases rv
  obtain ⟨i1, r1, p1, z1⟩ := I.tuple ha.sq
  obtain ⟨i2, r2, p2, z2⟩ := I.tuple hb.sq
  have l1 := r1.length
  have l2 := r2.length
  have l3 := ta.length
  have l4 := tb.length
  have it : ∀ j (h1 : j < i1.toArray.size) (h2 : j < i2.toArray.size), SeqAt.EqAt X.A.in1 s i1.toArray[j] i2.toArray[j] ((fun j => (ds[j]?.getD .non).eqb (es[j]?.getD .non)) j) := fun j h1 h2 => by
    have hjd : j < ds.length := by simp at h1; omega
    have hje : j < es.length := by simp at h2; omega
    obtain ⟨x1, e1, q1⟩ := ta.get (List.getElem?_eq_getElem hjd)
    obtain ⟨y1, e2, q2⟩ := tb.get (List.getElem?_eq_getElem hje)
    have k := dqs_mem (List.getElem_mem hjd)
    simp only [List.getElem?_eq_getElem hjd, List.getElem?_eq_getElem hje, Option.getD_some]
    exact rk_eqb I 60 (A := X.A.in1) (by omega) q1 q2 (item_k r1 e1 h1) (item_k r2 e2 h2) (by show X.A.units + 1 + 60 < cLine; omega)
  have e : ((List.range (min i1.toArray.size i2.toArray.size)).all (fun j => (ds[j]?.getD .non).eqb (es[j]?.getD .non)) && i1.toArray.size == i2.toArray.size) = eqbs ds es := by
    rw [eqbs_range, List.size_toArray, List.size_toArray, ← l1, ← l2, ← l3, ← l4]
  have k1 := SeqAt.RcAt.tuples (A := X.A) (s := s) p1 p2 (by omega) it
  have k2 := SeqAt.RcNeAt.tuples (A := X.A) (s := s) p1 p2 (by omega) it
  rw [e] at k1 k2
  exact ⟨k1, k2⟩
/-- == of texts and numbers, of lists as before, of any two tuples -/
noncomputable def rEqG (K : PySem.W.Frag) : R2 := fun x y H Q => (∃ ds es, RK K H (.tup ds) x ∧ RK K H (.tup es) y ∧ dqs ds ≤ 60 ∧ Q (.bl (eqbs ds es)) H) ∨ rEqK K x y H Q
noncomputable def rNeG (K : PySem.W.Frag) : R2 := fun x y H Q => (∃ ds es, RK K H (.tup ds) x ∧ RK K H (.tup es) y ∧ dqs ds ≤ 60 ∧ Q (.bl (!eqbs ds es)) H) ∨ rNeK K x y H Q
theorem op_eqG {k : Nat} (hr : Room k X.A) : OpR X (compareOp .Eq) (rEqG X.K) := by
  intro pins s σ H x y v u Q I rx ry h
  rcases h with ⟨ds, es, h1, h2, hd, q⟩ | h
  · exact (eqg_ok hr I h1 h2 hd rx ry).1 _ _ _ _ ⟨.bl _, H, I, rfl, q⟩
  · exact op_eqK hr pins s σ H x y v u Q I rx ry h
theorem op_neG {k : Nat} (hr : Room k X.A) : OpR X (compareOp .NotEq) (rNeG X.K) := by
  intro pins s σ H x y v u Q I rx ry h
  rcases h with ⟨ds, es, h1, h2, hd, q⟩ | h
  · exact (eqg_ok hr I h1 h2 hd rx ry).2 _ _ _ _ ⟨.bl _, H, I, rfl, q⟩
  · exact op_neK hr pins s σ H x y v u Q I rx ry h
/-! ### t + u -/
noncomputable def rCat0 (K : PySem.W.Frag) : R2 := fun x y H Q => ∃ a b ys, x = .ref a ∧ y = .ref b ∧ SqT K H a [] ∧ SqT K H b ys ∧ Q (.ref b) H
theorem op_cat0 : OpR X (binaryOp .Add) (rCat0 X.K) := by
  intro pins s σ H x y v u Q I rx ry h
  obtain ⟨a, b, ys, rfl, rfl, ha, hb, q⟩ := h
  cases rx
  cases ry
  obtain ⟨its, r1, p1, _⟩ := I.tuple ha
  obtain ⟨its2, r2, p2, _⟩ := I.tuple hb
  cases r1
  obtain ⟨⟨cls, dd, data, sl⟩, ho, hc, n, hd⟩ := id p1
  obtain ⟨⟨cls2, dd2, data2, sl2⟩, ho2, hc2, n2, hd2⟩ := id p2
  simp only at hc hd hc2 hd2
  subst hc hd hc2 hd2
  exact concat_meets ⟨_, ho, rfl⟩ ⟨_, ho2, rfl⟩ noFill_tuple_add seq_tuple_add PySem.F.slot_tuple_add PySem.F.entry_tuple_add (PySem.F.args_tuple_add_2 _ _)
      (tuple_addW0 a b #[] its2.toArray n n2 dd dd2 sl sl2 rfl) ⟨ho, ho2, ⟨.ref b, H, I, rfl, q⟩⟩
noncomputable def rAddG (K : PySem.W.Frag) : R2 := fun x y H Q => rCat0 K x y H Q ∨ rAddA K x y H Q
theorem op_addG : OpR X (binaryOp .Add) (rAddG X.K) := by
  intro pins s σ H x y v u Q I rx ry h
  rcases h with h | h
  · exact op_cat0 pins s σ H x y v u Q I rx ry h
  · exact op_addA pins s σ H x y v u Q I rx ry h
theorem add_i {K : PySem.W.Frag} {i j : Int} {H : Hp} {Q : VK} (q : Q (.int (i + j)) H) : rAddG K (.int i) (.int j) H Q := .inr (addI q)
theorem cat_g {K : PySem.W.Frag} {H : Hp} {x y : V} {ds es : List Dk} {Q : VK} (ha : RK K H (.tup ds) x) (hb : RK K H (.tup es) y) (hz : ds.length + es.length ≤ 1000)
    (q : ∀ (v : V) (H' : Hp), Old H H' → RK K H' (.tup (ds ++ es)) v → Q v H') : rAddG K x y H Q := by
  obtain ⟨a, xs, rfl, ta, ra⟩ := RK.get ha
  obtain ⟨b, ys, rfl, tb, rb⟩ := RK.get hb
  have l1 := ra.length
  have l2 := rb.length
  cases xs with
  | nil =>
    cases (show ds = [] from List.length_eq_zero_iff.mp l1)
    exact .inl ⟨a, b, ys, rfl, rfl, ta.sq, tb.sq, q _ H (Old.refl _) (RK.tup tb rb)⟩
  | cons x r => exact .inr (addT (cat_k ta tb ra rb (by simp) (by omega) fun c H' o r => q _ H' o r))
end
end L2.Bk
namespace PySem
open Sem (wp)
theorem noFill_tuple_mul : fillsNumberSlot (.type "tuple") "mul" = pure false :=
  fillsNumberSlot_seq (id := "tuple.__mul__") (r := some (.builtin "tuple.__rmul__")) F.slot_tuple_mul.lookup (by decide +kernel) F.slot_tuple_rmul.lookup (by decide +kernel)
theorem repeat_tuple : seqRepeat? (.type "tuple") = pure (some (.builtin "tuple.__mul__")) := by
  unfold seqRepeat?
  rw [seqSlot_of (T := "tuple") (name := "__mul__") (id := "tuple.__mul__") F.slot_tuple_mul.lookup (by decide +kernel), seqSlot_of (T := "tuple") (name := "__rmul__") (id := "tuple.__rmul__") F.slot_tuple_rmul.lookup (by decide +kernel)]
  rfl
theorem int_rmul_tuple (a : Int) (t : Tok) (l : Addr) (items : Array Value) (n : Nat) (dd : Option Addr) (sl : Array (Option Value)) :
    Meets (Builtin.«int.__rmul__» ⟨[.int a t, .ref l], []⟩) (fun _ R s => s.heap.get? l = some { cls := .type "tuple", dict := dd, data := .seq items n, slots := sl } ∧ R (.ok (.ret Value.notImplemented)) s) :=
  .of_wp fun prog w A R s h => by obtain ⟨hp, g, d, tk, os⟩ := s; obtain ⟨hl, h⟩ := h; wp_walk; exact ⟨_, rfl, h⟩
theorem tuple_mul1 (l : Addr) (v : Value) (n : Nat) (u : Tok) (dd : Option Addr) (sl : Array (Option Value)) :
    Meets (Builtin.«tuple.__mul__» ⟨[.ref l, .int 1 u], []⟩) (fun _ R s => s.heap.get? l = some { cls := .type "tuple", dict := dd, data := .seq #[v] n, slots := sl } ∧ R (.ok (.ret (.ref l))) s) :=
  .of_wp fun prog w A R s h => by obtain ⟨hp, g, d, tk, os⟩ := s; obtain ⟨hl, h⟩ := h; have f1 := AutoSeq1.idx_int; wp_walk using wpAny_loadPart' hl; exact ⟨_, rfl, h⟩
theorem tuple_mul0 (l : Addr) (v : Value) (n : Nat) (u : Tok) (dd : Option Addr) (sl : Array (Option Value)) :
    Meets (Builtin.«tuple.__mul__» ⟨[.ref l, .int 0 u], []⟩) (fun _ R s => s.heap.get? l = some { cls := .type "tuple", dict := dd, data := .seq #[v] n, slots := sl } ∧ R (.ok (.ret (.ref s.heap.objs.size))) { s with heap := s.heap.push { cls := .type "tuple", data := .seq #[] } }) :=
  .of_wp fun prog w A R s h => by obtain ⟨hp, g, d, tk, os⟩ := s; obtain ⟨hl, h⟩ := h; have f1 := AutoSeq1.idx_int; wp_walk using wpAny_loadPart' hl; exact ⟨_, rfl, h⟩
theorem tuple_mul2 (l : Addr) (v : Value) (n : Nat) (u : Tok) (dd : Option Addr) (sl : Array (Option Value)) :
    Meets (Builtin.«tuple.__mul__» ⟨[.ref l, .int 2 u], []⟩) (fun _ R s => s.heap.get? l = some { cls := .type "tuple", dict := dd, data := .seq #[v] n, slots := sl } ∧ R (.ok (.ret (.ref s.heap.objs.size))) { s with heap := s.heap.push { cls := .type "tuple", data := .seq #[v, v] } }) :=
  .of_wp fun prog w A R s h => by obtain ⟨hp, g, d, tk, os⟩ := s; obtain ⟨hl, h⟩ := h; have f1 := AutoSeq1.idx_int; wp_walk using wpAny_loadPart' hl; exact ⟨_, rfl, h⟩
end PySem
namespace L2.Bk
open PySem PySem.Spec PyProof.Rows L2.Bw
section
variable {X : Cx}
/-- (x,) * n, n at most 2 -/
noncomputable def rRep (K : PySem.W.Frag) : R2 := fun x y H Q => ∃ a v i, x = .ref a ∧ y = .int i ∧ SqT K H a [v] ∧ ((i = 1 ∧ Q (.ref a) H) ∨ (i = 0 ∧ ∀ p, H p = none → Q (.ref p) (upd H p (.tup []))) ∨ (i = 2 ∧ ∀ p, H p = none → Q (.ref p) (upd H p (.tup [v, v]))))
theorem op_rep : OpR X (binaryOp .Mult) (rRep X.K) := by
  intro pins s σ H x y v u Q I rx ry h
  obtain ⟨a, v1, i, rfl, rfl, ha, h⟩ := h
  cases rx
  obtain ⟨tk, rfl⟩ := ry
  obtain ⟨its, r1, p1, _⟩ := I.tuple ha
  obtain ⟨u1, e1, ru1⟩ := Vals.one r1
  subst e1
  obtain ⟨⟨cls, dd, data, sl⟩, ho, hc, n, hd⟩ := id p1
  simp only at hc hd
  subst hc hd
  refine wpAny_binaryOp_repeat_ref (T := "tuple") (U := "int") (by decide) ⟨_, ho, rfl⟩ (fun s' => typeIs_int s' i tk) noFill_tuple_mul PySem.F.fills_int_mul PySem.F.slot_int_rmul repeat_tuple PySem.F.slot_int_index.lookup ?_
  refine call_meets PySem.F.slot_int_rmul (typeIs_int s i tk) PySem.F.entry_int_rmul (PySem.F.args_int_rmul_2 _ _) (int_rmul_tuple i tk a #[u1] n dd sl) ⟨ho, rfl, ⟨_, ho, rfl⟩, ?_⟩
  rcases h with ⟨rfl, q⟩ | ⟨rfl, q⟩ | ⟨rfl, q⟩
  · exact call_meets PySem.F.slot_tuple_mul ⟨_, ho, rfl⟩ PySem.F.entry_tuple_mul (PySem.F.args_tuple_mul_2 _ _) (tuple_mul1 a u1 n tk dd sl) ⟨ho, .ref a, H, I, rfl, q⟩
  · refine call_meets PySem.F.slot_tuple_mul ⟨_, ho, rfl⟩ PySem.F.entry_tuple_mul (PySem.F.args_tuple_mul_2 _ _) (tuple_mul0 a u1 n tk dd sl) ⟨ho, ?_⟩
    refine ⟨.ref s.heap.objs.size, _, I.laid (t' := s.toks) (o := .tup []) (fun b ob q => Heap.get?_push_of_some _ q) (Nat.le_refl _) ?_, rfl, q _ (I.hok.fresh (Nat.le_refl _))⟩
    exact ⟨by show 0 ≤ sizeLine; decide, [], .nil, IsTup.new _ _⟩
  · refine call_meets PySem.F.slot_tuple_mul ⟨_, ho, rfl⟩ PySem.F.entry_tuple_mul (PySem.F.args_tuple_mul_2 _ _) (tuple_mul2 a u1 n tk dd sl) ⟨ho, ?_⟩
    refine ⟨.ref s.heap.objs.size, _, I.laid (t' := s.toks) (o := .tup [v1, v1]) (fun b ob q => Heap.get?_push_of_some _ q) (Nat.le_refl _) ?_, rfl, q _ (I.hok.fresh (Nat.le_refl _))⟩
    exact ⟨by show 2 ≤ sizeLine; decide, [u1, u1], .cons ru1 (.cons ru1 .nil), IsTup.new _ _⟩
noncomputable def rMulG (K : PySem.W.Frag) : R2 := fun x y H Q => rRep K x y H Q ∨ (rI CMul fun i j => .int (i * j)) x y H Q
theorem op_mulG : OpR X (binaryOp .Mult) (rMulG X.K) := by
  intro pins s σ H x y v u Q I rx ry h
  rcases h with h | h
  · exact op_rep pins s σ H x y v u Q I rx ry h
  · exact op_mul pins s σ H x y v u Q I rx ry h
/-! ### a dict of the module from texts to texts -/
end
end L2.Bk

end
section
set_option Elab.async false
set_option linter.all false
set_option maxRecDepth 100000
/-! Looks. -/
namespace L2.Bk
open PySem PySem.Spec PyProof.Rows L2.Bw
structure Lb where
  p : Int
  s : Str
  w : List Str
noncomputable def Lb.d (l : Lb) : Dk := .tup [.int l.p, .str l.s, wd l.w]
noncomputable abbrev Gd := Kn × Lb
noncomputable def gdd (g : Gd) : Dk := .tup [g.1.d, g.2.d]
noncomputable def ogd : Option Gd → Dk
  | none => .non
  | some g => gdd g
inductive Lk where
  | mk (a : Option Gd) (h : Str) (ls : List Lk) (t : Option Gd)
  | br (a : Option Gd) (t2 a2 : Gd)
noncomputable def brd (t a : Gd) : Dk := .tup [.str "broken", gdd t, gdd a]
mutual
noncomputable def Lk.d : Lk → Dk
  | .mk a h ls t => .tup [ogd a, .tup (.str h :: Lk.ds ls), ogd t]
  | .br a t2 a2 => .tup [ogd a, brd t2 a2, .non]
noncomputable def Lk.ds : List Lk → List Dk
  | [] => []
  | x :: r => x.d :: Lk.ds r
end
noncomputable def stillL : Lk := .mk none "same" [] none
/-! ### labels -/
noncomputable def other (s : Str) : Str := if s = "in" then "out" else "in"
noncomputable def Lb.on (l : Lb) (s : Str) : Lb := ⟨l.p, if s = "arg" then other l.s else l.s, l.w ++ [s]⟩
noncomputable def sides : List Str := ["in", "out"]
/-! ### the look from a kind to another -/
noncomputable def gr (a : Kn) : Kn := .mk a.h (List.replicate a.ks.length qK)
noncomputable def Lk.still : Lk → Bool
  | .mk none h [] none => decide (h = "same")
  | _ => false
noncomputable def wrapH (h : Str) (ls : List Lk) : Str := if ls.all Lk.still then "same" else h
noncomputable def wrapL (ls : List Lk) : List Lk := if ls.all Lk.still then [] else ls
/-! ### how deep, how wide -/
noncomputable def Lb.ok (l : Lb) (n : Nat) : Prop := l.s ∈ sides ∧ l.w.length ≤ n
noncomputable def Gd.ok (g : Gd) : Prop := g.1.wf ∧ g.1.dep ≤ 20 ∧ g.2.w.length ≤ 1000
end L2.Bk
namespace L2.Bk
open PySem PySem.Spec PyProof.Rows L2.Bw
noncomputable def Gd.oks : Option Gd → Prop
  | none => True
  | some g => Gd.ok g
noncomputable def Lk.ok : Nat → Lk → Prop
  | 0, _ => False
  | n + 1, .mk a h ls t => Gd.oks a ∧ Gd.oks t ∧ ls.length ≤ 2 ∧ (∀ x ∈ ls, Lk.ok n x) ∧ (h = "same" → ls = []) ∧ h ≠ "broken"
  | _ + 1, .br a t k => Gd.oks a ∧ Gd.ok t ∧ Gd.ok k
end L2.Bk

end
section
set_option Elab.async false
set_option linter.all false
set_option maxRecDepth 100000
/-! zip of two tuples, walked by pairs. -/
namespace PySem
section
variable {prog : Program} {w : World} {A : Around} {E : Value → Shared → Prop} {s : Shared}
end
section
variable {prog : Program} {w : World} {A : Around} {E : Value → Shared → Prop} {s : Shared}
end
end PySem
namespace L2.Bk
open PySem PySem.Spec PyProof.Rows L2.Bw
section
variable {X : Cx}
end
end L2.Bk

end
section
set_option Elab.async false
set_option linter.all false
set_option maxRecDepth 100000
/-! Two looks laid together. -/
namespace L2.Bk
open PySem PySem.Spec PyProof.Rows L2.Bw
noncomputable def Lk.ask : Lk → Option Gd
  | .mk a _ _ _ => a
  | .br a _ _ => a
noncomputable def Lk.tag : Lk → Option Gd
  | .mk _ _ _ t => t
  | .br _ _ _ => none
noncomputable def lays (f : Lk → Lk → Lk) : List Str → List Lk → List Lk → List Lk
  | s :: ss, x :: xs, y :: ys => (if s = "arg" then f y x else f x y) :: lays f ss xs ys
  | [], _, _ => []
  | _ :: _, [], _ => []
  | _ :: _, _ :: _, [] => []
noncomputable def bothL (f : Lk → Lk → Lk) (a : Option Gd) (h : Str) (ls : List Lk) : Lk → Lk
  | .br _ t k => .br a t k
  | .mk _ g ms t2 => if h = "same" then .mk a g ms t2 else if g = "same" then .mk a h ls t2 else .mk a (wrapH h (lays f (stepsOf h) ls ms)) (wrapL (lays f (stepsOf h) ls ms)) t2
noncomputable def lay : Nat → Lk → Lk → Lk
  | 0, x, _ => x
  | n + 1, x, y => match x with
    | .br a t k => .br a t k
    | .mk a h ls none => match y.ask with
      | some _ => y
      | none => bothL (lay n) a h ls y
    | .mk a h ls (some t) => match y.ask with
      | none => .mk a h ls (some t)
      | some k => if t.1.d.eqb k.1.d = true then bothL (lay n) a h ls y else .br a t k
end L2.Bk

end
section
set_option Elab.async false
set_option linter.all false
set_option maxRecDepth 100000
namespace L2.Bk
open PySem PySem.Spec PyProof.Rows L2.Bw
end L2.Bk

end
section
set_option Elab.async false
set_option linter.all false
set_option maxRecDepth 100000
/-! sum of a list of numbers, list.count of truths. -/
namespace L2.Bk
open PySem PySem.Spec PyProof.Rows L2.Bw
section
variable {X : Cx}
/-! ### list.count of truths -/
end
end L2.Bk

end
section
set_option Elab.async false
set_option linter.all false
set_option maxRecDepth 100000
/-! A look from a kind to a kind; its height and weight. -/
namespace L2.Bk
open PySem PySem.Spec PyProof.Rows L2.Bw
/-- the told kind at an end of a look -/
noncomputable def endK : Option Gd → Kn → Kn
  | none, a => a
  | some g, _ => g.1
/-- an ask or a tag at an end of a look -/
noncomputable def endOk : Option Gd → Kn → Prop
  | none, _ => True
  | some g, a => a = qK ∧ g.1.wf ∧ g.1.h ≠ "?"
noncomputable def Ty : Nat → Kn → Lk → Kn → Prop
  | 0, _, _, _ => False
  | n + 1, a, .mk k h ls t, b => endOk k a ∧ endOk t b ∧ ((h = "same" ∧ ls = [] ∧ endK k a = endK t b) ∨ (h = (endK k a).h ∧ (endK k a).h = (endK t b).h ∧ arity h = some ls.length ∧ arity h = some (endK k a).ks.length ∧ arity h = some (endK t b).ks.length ∧ h ≠ "?" ∧
      ∀ i (_ : i < (stepsOf h).length) (h1 : i < ls.length) (h2 : i < (endK k a).ks.length) (h3 : i < (endK t b).ks.length), if (stepsOf h)[i] = "arg" then Ty n (endK t b).ks[i] ls[i] (endK k a).ks[i] else Ty n (endK k a).ks[i] ls[i] (endK t b).ks[i]))
  | _ + 1, a, .br k _ _, _ => endOk k a ∧ (k = none → a.h ≠ "?")
/-! ### height and weight -/
end L2.Bk

end
section
set_option Elab.async false
set_option linter.all false
set_option maxRecDepth 100000
/-! A value given to looks one by one, and to what they come to laid together. -/
namespace L2.Bk
open PySem PySem.Spec PyProof.Rows L2.Bw
noncomputable def TyL (n : Nat) : Kn → List Lk → Kn → Prop
  | a, [], b => a = b
  | a, x :: r, c => ∃ b, Ty n a x b ∧ TyL n b r c
noncomputable def Fl (n : Nat) (xs : List Lk) : Lk := xs.foldl (lay n) stillL
/-- no broken body anywhere, and no body that does nothing but the one that says so -/
noncomputable def Lk.pure : Nat → Lk → Prop
  | 0, _ => False
  | n + 1, .mk k h ls t => (Lk.mk k h ls t).ok (n + 1) ∧ (∀ x ∈ ls, Lk.pure n x) ∧ (h ≠ "same" → ls.all Lk.still ≠ true)
  | _ + 1, .br _ _ _ => False
noncomputable abbrev Bd := Str × List Lk
inductive Gv where
  | blame (t : Option Gd) (k : Gd)
  | there (t : Option Gd) (gs : List Bd)
/-- the looks of the i-th part in the bodies -/
noncomputable def colB (i : Nat) (gs : List Bd) : List Lk := gs.map fun g => (g.2[i]?).getD stillL
/-- the bodies that were met, and what they come to laid together -/
structure Cols (n : Nat) (A B : Kn) (h : Str) (ls : List Lk) (gs : List Bd) : Prop where
  head : ∀ g ∈ gs, g.1 = A.h ∧ arity A.h = some g.2.length ∧ g.1 ≠ "same"
  pure : ∀ g ∈ gs, ∀ x ∈ g.2, Lk.pure n x
  none : gs = [] → A = B
  col : ∀ i (h0 : i < (stepsOf A.h).length) (h1 : i < A.ks.length) (h2 : i < B.ks.length), (stepsOf A.h)[i] ≠ "arg" → Fl n (colB i gs) = (if h = "same" then stillL else (ls[i]?).getD stillL) ∧ TyL n A.ks[i] (colB i gs) B.ks[i]
end L2.Bk

end
section
set_option Elab.async false
set_option linter.all false
set_option maxRecDepth 100000
namespace L2.Bk
open PySem PySem.Spec PyProof.Rows L2.Bw
section
variable {X : Cx}
noncomputable def CDivG (i j : Int) : Prop := (0 < j ∧ j < 1073741824) ∨ j = 10 ^ 20
theorem op_fdivG : OpR X (binaryOp .FloorDiv) (rI CDivG fun i j => .int (i / j)) := opI fun i j _ _ _ _ _ hc q => by
  rcases hc with ⟨h1, h2⟩ | h
  · exact floordiv_int (by omega) (by rw [Int.fdiv_eq_ediv_of_nonneg i (by omega)]; exact q) (.inl (PyProof.noPylong_small (by omega)))
  · subst h
    exact floordiv_int (by decide) (by rw [Int.fdiv_eq_ediv_of_nonneg i (by decide)]; exact q) (.inl (PyProof.noPylong_of_log2 (by decide +kernel)))
end
end L2.Bk

end
section
set_option Elab.async false
set_option linter.all false
set_option maxRecDepth 100000
set_option maxHeartbeats 4000000
/-! An exception on its way: what it writes, and how it lies behind a call. -/
namespace L2.Ex
open PySem PySem.Spec PyProof.Rows
/-- what was written: the things at ch, the slots of the frames at S -/
structure Wr (S ch : List Addr) (h h' : Heap) : Prop where
  keep : ∀ b o, h.get? b = some o → b ∉ S → b ∉ ch → h'.get? b = some o
  slot : ∀ b o, h.get? b = some o → b ∉ ch → ∃ sl, h'.get? b = some { o with slots := sl }
  there : ∀ b o, h.get? b = some o → ∃ o', h'.get? b = some o'
section
variable {S ch ch' : List Addr} {h h1 h2 h' : Heap}
theorem Wr.trans (x : Wr S ch h h1) (y : Wr S ch h1 h2) : Wr S ch h h2 :=
  ⟨fun b o e n m => y.keep b o (x.keep b o e n m) n m, fun b o e m => let ⟨_, e1⟩ := x.slot b o e m; let ⟨sl, e2⟩ := y.slot b _ e1 m; ⟨sl, e2⟩, fun b o e => let ⟨_, e1⟩ := x.there b o e; y.there b _ e1⟩
theorem Wr.mono (x : Wr S ch h h') (k : ∀ b ∈ ch, b ∈ ch') : Wr S ch' h h' := ⟨fun b o e n m => x.keep b o e n fun z => m (k b z), fun b o e m => x.slot b o e fun z => m (k b z), x.there⟩
theorem Wr.kept (k : ∀ b o, h.get? b = some o → h'.get? b = some o) : Wr S ch h h' := ⟨fun b o e _ _ => k b o e, fun b o e _ => ⟨o.slots, k b o e⟩, fun b o e => ⟨o, k b o e⟩⟩
theorem Wr.set {a : Addr} {o : Obj} {vs : Array Value} (ho : h.get? a = some o) (hd : o.data = .fields vs) (g : Array Value → Array Value) : Wr S [a] h (h.update a (Obj.mapFields g)) := by
  have ot : ∀ b, b ≠ a → (h.update a (Obj.mapFields g)).get? b = h.get? b := fun b n => Heap.get?_update_other h _ fun z => n z.symm
  have nm : ∀ b, b ∉ [a] → b ≠ a := fun b m z => m (by rw [z]; exact List.mem_cons_self)
  refine ⟨fun b u e _ m => by rw [ot b (nm b m)]; exact e, fun b u e m => ⟨u.slots, by rw [ot b (nm b m)]; exact e⟩, fun b u e => ?_⟩
  by_cases z : b = a
  · subst z
    exact ⟨_, Heap.get?_update_self _ ho (Obj.isFreed_of_fields (Obj.data_mapFields hd g))⟩
  · exact ⟨u, by rw [ot b z]; exact e⟩
theorem Wr.slots (x : Heap.SlotsOnly S h h') : Wr S ch h h' := ⟨fun b o e n _ => (x.2.1 b n).trans e, fun b o e _ => x.2.2 b o e, fun b o e => let ⟨_, q⟩ := x.2.2 b o e; ⟨_, q⟩⟩
end
theorem dict_map (g : Array Value → Array Value) (o : Obj) : (Obj.mapFields g o).dict = o.dict := by
  obtain ⟨c, d, dt, sl⟩ := o
  cases dt <;> rfl
/-- the exception at a, its trace begins at T, in flight at fl -/
noncomputable def Tr (h : Heap) (a : Addr) (cls : Value) (dx : Option Addr) (T : Addr) (fl : Value) : Prop :=
  ∃ oe vs oT ts, h.get? a = some oe ∧ (oe.cls = cls ∧ oe.dict = dx) ∧ oe.data = .fields vs ∧ vs[1]? = some (.ref T) ∧ T ≠ a ∧ h.get? T = some oT ∧ oT.data = .fields ts ∧ ts[3]? = some fl
/-- the exception at a, that has no trace yet -/
noncomputable def Rw (h : Heap) (a : Addr) (cls : Value) (dx : Option Addr) : Prop := ∃ oe vs, h.get? a = some oe ∧ (oe.cls = cls ∧ oe.dict = dx) ∧ oe.data = .fields vs ∧ vs[1]? = some .none
section
variable {M : Model} {A : Around} {E : Value → Shared → Prop} {s : Shared} {a T L : Addr} {cls fl : Value} {dx : Option Addr} {Q : Unit → Shared → Prop} {base : Heap} {env : Env} {outer : List Env} {S : List Addr}
theorem set_flight {fr : Option Addr} (t : Tr s.heap a cls dx T fl) (hQ : ∀ h', Tr h' a cls dx T (fr.elim .none fun f => rawInt f) → Wr S [T] s.heap h' → Q () { s with heap := h' }) : wpAny M A (setFlight (.ref a) fr) Q E s := by
  obtain ⟨oe, vs, oT, ts, he, hc, hd, h1, ne, hT, hdT, h3⟩ := t
  have z3 := (Array.getElem?_eq_some_iff.mp h3).1
  unfold setFlight
  refine wpAny_bind (wpAny_field he hd h1 ?_)
  rw [if_pos (show (Value.ref T != Value.none) = true by simp)]
  refine wpAny_setField hT hdT z3 (hQ _ ?_ (Wr.set hT hdT _))
  have dT := Obj.data_mapFields hdT (·.setIfInBounds 3 (fr.elim Value.none fun f => rawInt f))
  exact ⟨oe, vs, _, _, (Heap.get?_update_other _ _ ne).trans he, hc, hd, h1, ne, Heap.get?_update_self _ hT (Obj.isFreed_of_fields dT), dT, by simp [z3]⟩
/-- a new entry of the trace, for the frame that runs -/
theorem entry {oe : Obj} {vs : Array Value} {head : Value} {hn : Bool} (hfr : A.frames = some (env :: outer)) (hl : s.heap.FunFrames base (env :: outer)) (hf : env.frame = some L) (he : s.heap.get? a = some oe) (hd : oe.data = .fields vs) (hz : 1 < vs.size)
    (hQ : ∀ h' T, s.heap.get? T = none → Tr h' a oe.cls oe.dict T (rawInt L) → Wr (frs (env :: outer)) [a] s.heap h' → Q () { s with heap := h' }) :
    wpAny M A (do let x ← frameOf env; let pl ← entryPlaceOf L hn; let b ← EntryCells.newEntry head x .none (rawInt L) .none pl; setField (.ref a) 1 b) Q E s := by
  have na : a ∉ (env :: outer).filterMap (·.frame) := fun m => by
    obtain ⟨_, o, ho, nf⟩ := hl.mem m
    rw [he] at ho
    cases ho
    exact nf vs hd
  refine wpAny_bind (wpAny_frameOf_fun hfr hl hf fun g hg => wpAny_bind (wpAny_entryPlaceOf fun pl hp => ?_))
  unfold EntryCells.newEntry newFields; refine wpAny_bind (wpAny_newObj_type ?_ (IsPlace.sizeOk5 hp _ _ _ _ _))
  have ea : g.get? a = some oe := (hg.2.1 a na).trans he
  generalize hu : ([head, Value.ref L, Value.none, rawInt L, Value.none] ++ (if pl.isEmpty then List.replicate 6 Value.none else pl)).toArray = us
  have u3 : us[3]? = some (rawInt L) := by rw [← hu]; rfl
  have ea2 := Heap.get?_push_of_some (h := g) { cls := .type "traceback", dict := none, data := .fields us } ea
  have nT : g.objs.size ≠ a := Nat.ne_of_gt (Heap.lt_size ea)
  refine wpAny_setField ea2 hd hz (hQ _ g.objs.size ?_ ?_ ?_)
  · rw [hg.1]; exact Heap.get?_none_of_le (Nat.le_refl _)
  · have da := Obj.data_mapFields hd (·.setIfInBounds 1 (Value.ref g.objs.size))
    exact ⟨_, _, _, us, Heap.get?_update_self _ ea2 (Obj.isFreed_of_fields da), ⟨Obj.cls_mapFields _ _, dict_map _ _⟩, da, by simp [hz], nT, (Heap.get?_update_other _ _ (Ne.symm nT)).trans (Heap.get?_push_size g rfl), rfl, u3⟩
  · exact (Wr.slots (ch := [a]) hg).trans ((Wr.kept fun b o e => Heap.get?_push_of_some _ e).trans (Wr.set ea2 hd _))
theorem note_new (hfr : A.frames = some (env :: outer)) (hl : s.heap.FunFrames base (env :: outer)) (hf : env.frame = some L) (x : Rw s.heap a cls dx)
    (hQ : ∀ h' T, s.heap.get? T = none → Tr h' a cls dx T (rawInt L) → Wr (frs (env :: outer)) [a] s.heap h' → Q () { s with heap := h' }) : wpAny M A (noteFrame (.ref a) env) Q E s := by
  obtain ⟨oe, vs, he, ⟨rfl, rfl⟩, hd, h1⟩ := x
  unfold noteFrame
  simp only [hf]
  refine wpAny_bind (wpAny_field he hd h1 ?_)
  rw [if_neg (by decide)]
  exact entry hfr hl hf he hd (Array.getElem?_eq_some_iff.mp h1).1 hQ
theorem note_next (hfr : A.frames = some (env :: outer)) (hl : s.heap.FunFrames base (env :: outer)) (hf : env.frame = some L) (x : Tr s.heap a cls dx T .none)
    (hQ : ∀ h' T', s.heap.get? T' = none → Tr h' a cls dx T' (rawInt L) → Wr (frs (env :: outer)) [a, T] s.heap h' → Q () { s with heap := h' }) : wpAny M A (noteFrame (.ref a) env) Q E s := by
  obtain ⟨oe, vs, oT, ts, he, ⟨rfl, rfl⟩, hd, h1, ne, hT, hdT, h3⟩ := x
  unfold noteFrame
  simp only [hf]
  refine wpAny_bind (wpAny_field he hd h1 ?_)
  rw [if_pos (show (Value.ref T != Value.none) = true by simp)]
  refine wpAny_bind (wpAny_field hT hdT h3 ?_)
  rw [if_neg (show ¬ ((Value.none == rawInt L) = true) by simp [rawInt])]
  refine wpAny_bind (wpAny_setField hT hdT (Array.getElem?_eq_some_iff.mp h3).1 ?_)
  have w1 : Wr (frs (env :: outer)) [T] s.heap _ := Wr.set hT hdT (·.setIfInBounds 3 Value.none)
  refine entry hfr (hl.of_keeps fun b o e nf => ⟨o, ?_, rfl⟩) hf ((Heap.get?_update_other _ _ ne).trans he) hd (Array.getElem?_eq_some_iff.mp h1).1 fun h' T' n t w => hQ h' T' ?_ t ((w1.mono (by simp)).trans (w.mono (by simp)))
  · refine (Heap.get?_update_other _ _ fun z => ?_).trans e
    subst z
    rw [hT] at e
    cases e
    exact nf ts hdT
  · cases q : s.heap.get? T' with
    | none => rfl
    | some o =>
      obtain ⟨o', e'⟩ := w1.there T' o q
      rw [n] at e'
      cases e'
theorem note_held (hf : env.frame = some L) (x : Tr s.heap a cls dx T (rawInt L)) (hQ : Q () s) : wpAny M A (noteFrame (.ref a) env) Q E s := by
  obtain ⟨oe, vs, oT, ts, he, ⟨rfl, rfl⟩, hd, h1, ne, hT, hdT, h3⟩ := x
  unfold noteFrame
  simp only [hf]
  refine wpAny_bind (wpAny_field he hd h1 ?_)
  rw [if_pos (show (Value.ref T != Value.none) = true by simp)]
  refine wpAny_bind (wpAny_field hT hdT h3 ?_)
  rw [if_pos (show (rawInt L == rawInt L) = true by simp)]
  exact wpAny_pure hQ
end
end L2.Ex

end
section
set_option Elab.async false
set_option linter.all false
set_option maxRecDepth 100000
set_option maxHeartbeats 4000000
namespace L2.Ex
open PySem PySem.Spec PyProof.Rows
/-- how an exception lies behind a call -/
noncomputable def CXF (P : Program) (w : World) : CXT := fun outer H s E e s' => ∃ (a T : Addr) (cls : Value) (dx : Option Addr) (H' : Hp), e = .ref a ∧ Tr s'.heap a cls dx T .none ∧ s.heap.get? a = none ∧ s.heap.get? T = none ∧ H' a = none ∧ H' T = none ∧
  s'.os = s.os ∧ AllBare s'.gens ∧ Un (frs outer) [] H H' s.heap s'.heap ∧ HOk P w H' s'.heap ∧ E cls dx H'
/-- an exception within a def's body -/
structure XB (X : Cx) (E : XK) (a : Addr) (cls : Value) (dx : Option Addr) (H' : Hp) (s' : Shared) : Prop where
  na : X.s₀.heap.get? a = none
  ua : H' a = none
  os : s'.os = X.s₀.os
  bare : AllBare s'.gens
  un : Un (frs X.outer) [] X.H₀ H' X.s₀.heap s'.heap
  hok : HOk X.prog X.w H' s'.heap
  funs : s'.heap.FunFrames X.base (X.env :: X.outer)
  frf : ∀ b ∈ frs (X.env :: X.outer), H' b = none
  nl : X.s₀.heap.get? X.env.locals = none
  fr : X.env.frame = some X.env.locals
  af : X.A.frames = some (X.env :: X.outer)
  e : E cls dx H'
noncomputable def XS (X : Cx) (E : XK) (e : Value) (s' : Shared) : Prop := ∃ a cls dx H', e = .ref a ∧ XB X E a cls dx H' s' ∧
  (Rw s'.heap a cls dx ∨ ∃ T fl, Tr s'.heap a cls dx T fl ∧ (fl = .none ∨ fl = rawInt X.env.locals) ∧ X.s₀.heap.get? T = none ∧ H' T = none)
theorem ho_there {P : Program} {w : World} {H : Hp} {h : Heap} {a : Addr} {o : HO} (x : ObjOk P w H h a o) : ∃ u, h.get? a = some u := by
  cases o with
  | lst xs => obtain ⟨_, _, _, _, e⟩ := x; exact ⟨_, e⟩
  | tup xs => obtain ⟨_, _, _, u, e, _⟩ := x; exact ⟨u, e⟩
  | dK kvs => obtain ⟨_, _, _, _, u, _, _, e, _⟩ := x; exact ⟨u, e⟩
  | dT kvs => obtain ⟨_, _, _, _, u, _, _, e, _⟩ := x; exact ⟨u, e⟩
  | set S n => obtain ⟨u, _, _, _, e, _⟩ := x; exact ⟨u, e⟩
  | ins C dx fs => obtain ⟨_, _, _, e, _⟩ := x; exact ⟨_, e⟩
  | own y => exact x
  | xd fs => obtain ⟨_, ⟨u, _, _, e, _⟩, _⟩ := x; exact ⟨u, e⟩
  | rng lo hi => obtain ⟨_, _, _, e⟩ := x; exact ⟨_, e⟩
  | frz ob u => obtain ⟨e, _⟩ := x; exact ⟨_, e⟩
  | tbl ps => exact ⟨_, (show h.get? a = some _ from x)⟩
  | met f y => exact ⟨_, (show h.get? a = some _ from x)⟩
  | ext φ => obtain ⟨_, e, _⟩ := x; exact e
theorem hok_none {P : Program} {w : World} {H : Hp} {h : Heap} {a : Addr} (x : HOk P w H h) (e : h.get? a = none) : H a = none := by
  cases q : H a with
  | none => rfl
  | some o =>
    obtain ⟨u, hu⟩ := ho_there (x a o q)
    rw [e] at hu
    cases hu
section
variable {P : Program} {w : World} {H H0 : Hp} {h h0 h' : Heap} {S ch fs : List Addr} {L : Addr}
theorem hok_wr (x : HOk P w H h) (y : Wr S ch h h') (hc : ∀ b ∈ ch, H b = none) (hs : ∀ b ∈ S, H b = none) : HOk P w H h' := fun a o e => by
  have nt : ∀ b u, H b = some u → b ∉ S ∧ b ∉ ch := fun b u q => ⟨(fun z => by rw [hs b z] at q; cases q), (fun z => by rw [hc b z] at q; cases q)⟩
  refine (x a o e).stay (fun b u hb q => ?_) (fun _ q => q) fun _ _ q => q
  rcases hb with rfl | hb
  · exact y.keep _ u q (nt _ _ e).1 (nt _ _ e).2
  · exact y.keep _ u q (nt _ _ hb).1 (nt _ _ hb).2
theorem un_wr (x : Un fs [] H0 H h0 h) (y : Wr S ch h h') (hs : ∀ b ∈ S, b ∈ fs ∨ h0.get? b = none) (hc : ∀ b ∈ ch, h0.get? b = none) : Un fs [] H0 H h0 h' := by
  have nc : ∀ b o, h0.get? b = some o → b ∉ ch := fun b o e z => by rw [hc b z] at e; cases e
  have nS : ∀ b o, h0.get? b = some o → b ∉ fs → b ∉ S := fun b o e n z => (hs b z).elim n fun q => by rw [q] at e; cases e
  refine ⟨fun b o e n hb hx => y.keep b o (x.keep b o e n hb hx) (nS b o e hb) (nc b o e), fun b o e n hb hx => ?_, x.free, fun b o e hx => ?_, x.tups, x.frzs, x.tbls⟩
  · obtain ⟨sl, e1⟩ := x.slot b o e n hb hx
    obtain ⟨sl2, e2⟩ := y.slot b _ e1 (nc b o e)
    exact ⟨sl2, e2⟩
  · obtain ⟨o1, e1⟩ := x.there b o e hx
    exact y.there b o1 e1
theorem fun_wr {base : Heap} {l : List Env} (x : h.FunFrames base l) (y : Wr S ch h h') (hc : ∀ b ∈ ch, ∃ o vs, h.get? b = some o ∧ o.data = .fields vs) : h'.FunFrames base l := x.of_keeps fun b o e nf => by
  obtain ⟨sl, e1⟩ := y.slot b o e fun z => by
    obtain ⟨o2, vs, q, d⟩ := hc b z
    rw [e] at q
    cases q
    exact nf vs d
  exact ⟨_, e1, rfl⟩
end
theorem Tr.fa {h : Heap} {a T : Addr} {cls fl : Value} {dx : Option Addr} (t : Tr h a cls dx T fl) : ∃ o vs, h.get? a = some o ∧ o.data = .fields vs := let ⟨oe, vs, _, _, h1, _, h2, _⟩ := t; ⟨oe, vs, h1, h2⟩
theorem Tr.ft {h : Heap} {a T : Addr} {cls fl : Value} {dx : Option Addr} (t : Tr h a cls dx T fl) : ∃ o vs, h.get? T = some o ∧ o.data = .fields vs := let ⟨_, _, oT, ts, _, _, _, _, _, h1, h2, _⟩ := t; ⟨oT, ts, h1, h2⟩
theorem Rw.fa {h : Heap} {a : Addr} {cls : Value} {dx : Option Addr} (t : Rw h a cls dx) : ∃ o vs, h.get? a = some o ∧ o.data = .fields vs := let ⟨oe, vs, h1, _, h2, _⟩ := t; ⟨oe, vs, h1, h2⟩
section
variable {X : Cx} {E : XK} {a : Addr} {cls : Value} {dx : Option Addr} {H' : Hp} {s' : Shared} {M : Model} {Z : Value → Shared → Prop} {Q : Unit → Shared → Prop}
theorem frs_cons (hf : X.env.frame = some X.env.locals) : frs (X.env :: X.outer) = X.env.locals :: frs X.outer := by unfold frs; rw [List.filterMap_cons, hf]
/-- the body's facts, behind a write -/
theorem XB.wr (x : XB X E a cls dx H' s') {ch : List Addr} {h' : Heap} (y : Wr (frs (X.env :: X.outer)) ch s'.heap h') (hc : ∀ b ∈ ch, X.s₀.heap.get? b = none ∧ H' b = none ∧ ∃ o vs, s'.heap.get? b = some o ∧ o.data = .fields vs) : XB X E a cls dx H' { s' with heap := h' } := by
  refine ⟨x.na, x.ua, x.os, x.bare, un_wr x.un y (fun b hb => ?_) (fun b hb => (hc b hb).1), hok_wr x.hok y (fun b hb => (hc b hb).2.1) x.frf, fun_wr x.funs y (fun b hb => (hc b hb).2.2), x.frf, x.nl, x.fr, x.af, x.e⟩
  rw [frs_cons x.fr] at hb
  rcases List.mem_cons.mp hb with z | z
  · rw [z]; exact .inr x.nl
  · exact .inl z
/-- the frame is noted -/
theorem xs_note {e : Value} (x : XS X E e s')
    (hQ : ∀ h' a T cls dx H', e = .ref a → XB X E a cls dx H' { s' with heap := h' } → Tr h' a cls dx T (rawInt X.env.locals) → X.s₀.heap.get? T = none → H' T = none → Q () { s' with heap := h' }) : wpAny M X.A (noteFrame e X.env) Q Z s' := by
  obtain ⟨a, cls, dx, H', rfl, b, t⟩ := x
  have hfr := b.af
  have new : ∀ T, s'.heap.get? T = none → X.s₀.heap.get? T = none := fun T n => by
    cases q : X.s₀.heap.get? T with
    | none => rfl
    | some o =>
      obtain ⟨o', e'⟩ := b.un.there T o q (by simp)
      rw [n] at e'
      cases e'
  rcases t with t | ⟨T, fl, t, hfl, nT, uT⟩
  · refine note_new hfr b.funs b.fr t fun h' T n t' y => hQ h' a T cls dx H' rfl (b.wr y fun c hc => ?_) t' (new T n) (hok_none b.hok n)
    rw [List.mem_singleton.mp hc]
    exact ⟨b.na, b.ua, t.fa⟩
  · rcases hfl with rfl | rfl
    · refine note_next hfr b.funs b.fr t fun h' T' n t' y => hQ h' a T' cls dx H' rfl (b.wr y fun c hc => ?_) t' (new T' n) (hok_none b.hok n)
      rcases List.mem_cons.mp hc with z | z
      · rw [z]; exact ⟨b.na, b.ua, t.fa⟩
      · rw [List.mem_singleton.mp z]; exact ⟨nT, uT, t.ft⟩
    · obtain ⟨hp, g, d, k, o⟩ := s'
      exact note_held b.fr t (hQ hp a T cls dx H' rfl b t nT uT)
theorem xb_flight {T : Addr} {fl : Value} {fr : Option Addr} (b : XB X E a cls dx H' s') (t : Tr s'.heap a cls dx T fl) (nT : X.s₀.heap.get? T = none) (uT : H' T = none)
    (hQ : ∀ h', XB X E a cls dx H' { s' with heap := h' } → Tr h' a cls dx T (fr.elim .none fun f => rawInt f) → Q () { s' with heap := h' }) : wpAny M X.A (setFlight (.ref a) fr) Q Z s' := by
  refine set_flight (S := frs (X.env :: X.outer)) t fun h' t' y => hQ h' (b.wr y fun c hc => ?_) t'
  rw [List.mem_singleton.mp hc]
  exact ⟨nT, uT, t.ft⟩
/-- it leaves the frame -/
theorem xs_leave {e : Value} (x : XS X E e s') : wpAny M X.A (leaving X.env e) (fun _ s'' => CXF X.prog X.w X.outer X.H₀ X.s₀ E e s'') Z s' := by
  unfold leaving
  refine wpAny_bind (xs_note x fun h' a T cls dx H' e1 b t nT uT => ?_)
  subst e1
  refine xb_flight (fr := none) b t nT uT fun h2 b2 t2 => ?_
  exact ⟨a, T, cls, dx, H', rfl, t2, b2.na, nT, b2.ua, uT, b2.os, b2.bare, b2.un, b2.hok, b2.e⟩
/-- it passes a part of the body that runs as an activation of its own (a loop's) -/
theorem xs_own : PassesOwn M X.A X.env (XS X E) := fun e s' x => by
  unfold notedBy
  refine xs_note x fun h' a T cls dx H' e1 b t nT uT => ?_
  subst e1
  unfold cameBackBy
  obtain ⟨oe, vs, oT, ts, he, hc, hd, h1, r⟩ := id t
  refine wpAny_bind (wpAny_field he hd h1 ?_)
  rw [if_neg (show ¬ ((Value.ref T == Value.none) = true) by simp)]
  rw [b.fr]
  refine xb_flight (fr := some X.env.locals) b t nT uT fun h2 b2 t2 => ?_
  exact ⟨a, cls, dx, H', rfl, b2, .inr ⟨T, _, t2, .inr rfl, nT, uT⟩⟩
end
/-- a callee's exception, seen from the body -/
theorem xs_call {X : Cx} {E : XK} {pins : List (Addr × Obj)} {σ : St} {H : Hp} {s s' : Shared} {e : Value} (I : Inv X pins σ H s) (hst : X.stack = X.env :: X.outer) (hf : X.env.frame = some X.env.locals) (hex : X.ex = []) (x : CXF X.prog X.w X.stack H s E e s') : XS X E e s' := by
  obtain ⟨a, T, cls, dx, H', rfl, t, na, nT, ua, uT, os, bare, un, hok, q⟩ := x
  rw [hst] at un
  have fc := frs_cons hf
  have b0 := I.base
  rw [hex] at b0
  have nl : X.s₀.heap.get? X.env.locals = none := Heap.get?_none_of_le I.ok.above
  have back : ∀ b, s.heap.get? b = none → X.s₀.heap.get? b = none := fun b n => by
    cases z : X.s₀.heap.get? b with
    | none => rfl
    | some o =>
      obtain ⟨o', e'⟩ := b0.there b o z (by simp)
      rw [n] at e'
      cases e'
  have neL : ∀ b o, X.s₀.heap.get? b = some o → b ≠ X.env.locals := fun b o z w => by rw [w, nl] at z; cases z
  refine ⟨a, cls, dx, H', rfl, ⟨back a na, ua, os.trans I.os, bare, ⟨fun b o z n hb hx => ?_, fun b o z n hb hx => ?_, fun b o z n hx => ?_, fun b o z hx => ?_, fun b xs z => un.tups b xs (b0.tups b xs z), fun b o u z => un.frzs b o u (b0.frzs b o u z), fun b ps z => ?_⟩, hok, ?_, ?_, nl, hf, (by rw [← hst]; exact I.ok.frames), q⟩, .inr ⟨T, .none, t, .inl rfl, back T nT, uT⟩⟩
  · refine un.keep b o (b0.keep b o z n hb hx) (b0.free b o z n hx) (fun w => ?_) (by simp)
    rw [fc] at w
    rcases List.mem_cons.mp w with w | w
    · exact neL b o z w
    · exact hb w
  · obtain ⟨sl, e1⟩ := b0.slot b o z n hb hx
    obtain ⟨sl2, e2⟩ := un.any e1 (b0.free b o z n hx) (by simp)
    exact ⟨sl2, e2⟩
  · obtain ⟨o', e'⟩ := b0.there b o z hx
    exact un.free b o' e' (b0.free b o z n hx) (by simp)
  · obtain ⟨o', e'⟩ := b0.there b o z hx
    exact un.there b o' e' (by simp)
  · obtain ⟨m1, e1⟩ := b0.tbls b ps z
    obtain ⟨m2, e2⟩ := un.tbls b _ e1
    exact ⟨m1 ++ m2, by rw [e2, Array.append_assoc]⟩
  · have st := I.stack
    rw [hst] at st
    have all : ∀ (l : List Env), (∀ b ∈ frs l, b ∈ frs (X.env :: X.outer)) → s.heap.FunFrames X.base l → s'.heap.FunFrames X.base l := by
      intro l
      induction l with
      | nil => intro _ _; trivial
      | cons v r ih =>
        intro hs hl
        obtain ⟨hk, ⟨L, o, h1, hn, ho, hd⟩, hr⟩ := hl
        have hm : L ∈ frs (v :: r) := by unfold frs; rw [List.filterMap_cons, h1]; exact List.mem_cons_self
        have hL : H L = none := I.stkFree L (by rw [hst]; exact hs L hm)
        obtain ⟨sl, e2⟩ := un.any ho hL (by simp)
        exact ⟨hk, ⟨L, _, h1, hn, e2, hd⟩, ih (fun b hb => hs b (by unfold frs; rw [List.filterMap_cons, h1]; exact List.mem_cons_of_mem _ hb)) hr⟩
    exact all _ (fun _ hb => hb) st
  · intro b hb
    have hb' : b ∈ frs X.stack := by rw [hst]; exact hb
    obtain ⟨_, o, ho, _⟩ := I.stack.mem hb'
    exact un.free b o ho (I.stkFree b hb') (by simp)
/-- from the wish XS to a def's own -/
theorem pss_xs {X : Cx} {E : XK} {st : List Stmt} {t : TS} (h : PSs (X.wish (XS X E)) st t) (hst : X.stack = X.env :: X.outer) (hx : ∀ e s', wpAny (model X.prog X.w) X.A (leaving X.env e) (fun _ s'' => CXF X.prog X.w X.outer X.H₀ X.s₀ E e s'') (fun e' s'' => CXF X.prog X.w X.outer X.H₀ X.s₀ E e' s'') s' → X.xe e s') : PSs X st t := fun pins s σ H D I hw =>
  wpAny_mono (h pins s σ H D (I.wish _) hw) (fun _ _ q => q.unwish) fun e s' z => hx e s' (xs_leave z)
/-- THE RULE for a def that may raise -/
theorem fun_okX {P : Program} {w : World} {K : PySem.W.Frag} {mg : Str → Option Value} {base : Heap} {x qual : Str} {st : Stmt} {f : Addr} {fd : FuncData} {N ps : List Str} {k : Nat} {sp : Sp} (F : Fun K x qual st f fd) (S : FnScope N ps (defScope st)) (len : ∀ vs H Q E, sp vs H Q E → vs.length = ps.length)
    (hbody : ∀ (cdv : Value) (A : Around) (outer : List Env) (s : Shared) (H : Hp) (vs : List V) (Q : VK) (E : XK), Room k (A.deeper (envOfC qual (defScope st) s.heap.objs.size f cdv)) → sp vs H Q E →
      ∃ t, PSs ((cxOf (CXF P w) P w K mg base N qual (defScope st) f cdv A outer s H E).wish (XS (cxOf (CXF P w) P w K mg base N qual (defScope st) f cdv A outer s H E) E)) (defBody st) t ∧ t { nx := fun _ H' => Q .non H', rt := Q } (start N vs) H) : FnOk P w K mg base (CXF P w) (k + 1) f fd ps sp := by
  obtain ⟨oc, od, kV, doc, pm, an, cdv, ct, osl, rfl, lk, hcd⟩ := F.ex
  refine fn_of lk hcd S len fun A outer s H vs Q E hr hsp => ?_
  obtain ⟨t, h, q⟩ := hbody cdv A outer s H vs Q E hr hsp
  exact ⟨t, pss_xs h rfl (fun e s' z => z), q⟩
end L2.Ex

end
section
set_option Elab.async false
set_option linter.all false
set_option maxRecDepth 100000
set_option maxHeartbeats 4000000
namespace L2.Ex
open PySem PySem.Spec PyProof.Rows
/-- a call of a def that may raise -/
structure CalX (P : Program) (w : World) (K : PySem.W.Frag) (mg : Str → Option Value) (base : Heap) (x : Str) (ps : List Str) (k : Nat) (sp : Sp) : Prop where
  ex : ∃ f fd, FnOk P w K mg base (CXF P w) k f fd ps sp ∧ Binds K fd ps [] ∧ PySem.W.keepIn K (.ref f) = true ∧ mg x = some (.ref f)
theorem pe_calX {Y : Cx} {E : XK} {x : Str} {ps : List Str} {k n : Nat} {sp : Sp} {p pos : Pos} {e : Expr} {es : List Expr} {t : TA} (c : CalX Y.prog Y.w Y.K Y.mg Y.base x ps k sp) (hr : Room n Y.A) (ha : PA (Y.wish (XS Y E)) (e :: es) t) (hn : k ≤ n := by omega) (hst : Y.stack = Y.env :: Y.outer := by rfl) (hf : Y.env.frame = some Y.env.locals := by rfl) (hex : Y.ex = [] := by rfl) (hg : Gl Y x := by rfl)
    (hdb : (x == ("__debug__" : Str)) = false := by decide) (he : starEach (e :: es) Y.env = (false, eval e Y.env) :: starEach es Y.env := by rfl) (hpl : (backTo pos (starEach es Y.env)).any (·.1) = false := by rfl) : PE (Y.wish (XS Y E)) (.Call (.Name x p) (e :: es) [] pos) (tCall sp [] E t) := by
  obtain ⟨f, fd, F, b, kp, m⟩ := c.ex
  exact pe_call (X := Y.wish (XS Y E)) (CX := CXF Y.prog Y.w) F (hr.mono hn) hg m kp b .nil (fun pins σ H s e s' I q => xs_call I.unwish hst hf hex q) ha hdb he hpl
end L2.Ex

end
section
set_option Elab.async false
set_option linter.all false
set_option maxRecDepth 100000
set_option maxHeartbeats 4000000
namespace L2.Ex
open PySem PySem.Spec PyProof.Rows PySem.W
/-- what the class at C, below BaseException, finds for its instances -/
structure ExFind (K : Frag) (C : Addr) : Prop where
  ga : findIn K (.ref C) "__getattribute__" = some (some (.builtin "BaseException.__getattribute__"))
  gn : findIn K (.ref C) "__getattr__" = some none
  cl : findIn K (.ref C) "__class__" = some (some (.builtin "object.__class__"))
  sg : specialIn K (.builtin "object.__class__") "__get__" = some (some (.builtin "getset_descriptor.__get__"))
  tk : takesIn K (.builtin "object.__class__") = some true
  ob : mroIn K C (.type "object") = some true
  be : mroIn K C (.type "BaseException") = some true
  is : (clsIn K C).isSome = true
theorem find_obj {K : Frag} {C : Addr} (Y : ExFind K C) (od : Option Obj) : findObj K C od "__class__" = some (.bind (.builtin "getset_descriptor.__get__") (.builtin "object.__class__")) := by
  obtain ⟨cd, hc⟩ := Option.isSome_iff_exists.mp Y.is
  unfold findObj
  rw [hc, Option.bind_some, Y.cl, Option.bind_some]
  simp [Y.sg, Y.tk]
section
variable {prog : Program} {w : World} {A : Around} {E : Value → Shared → Prop} {K : Frag} {C a : Addr} {o : Obj} {od : Option Obj} {h : Heap} {g : Array GenState} {d : Drawn} {t : Nat} {os : OsState}
theorem check_ga {M : Model} {nameV : Value} {Q : Unit → Shared → Prop} (Y : ExFind K C) (X : K.In h) (I : InstAt h a o C od) (hq : Q () ⟨h, g, d, t, os⟩) : wpAny M A (checkBuiltinCall "BaseException.__getattribute__" ⟨[.ref a, nameV], []⟩) Q E ⟨h, g, d, t, os⟩ := by
  have k1 : builtinKind "BaseException.__getattribute__" = some .slot := by decide +kernel
  have k2 : splitId "BaseException.__getattribute__" = some ("BaseException", "__getattribute__") := by decide +kernel
  have L : Looks M h (isInstance (.ref a) (.type "BaseException")) true := (I.type (M := M)).andThen (looks_mroIn X Y.be)
  have ha := F.args_bexc_ga (.ref a) nameV
  simp only [checkBuiltinCall, k1, k2]
  refine wpAny_bind (L.at ?_)
  repeat (any_goals (first | assumption | wp_step))
theorem class_entry {tk : Tok} {Q : Fin → Shared → Prop} (Y : ExFind K C) (X : K.In h) (I : InstAt h a o C od) (hq : Q (.done (.ret (.ref C))) ⟨h, g, d, t, os⟩) :
    wpAny (model prog w) A (Builtin.«object.__getattribute__» ⟨[.ref a, .str "__class__" tk], []⟩) Q E ⟨h, g, d, t, os⟩ := by
  have L0 := I.type (M := model prog w)
  have L1 := looks_find (M := model prog w) X I (find_obj Y od)
  refine wpAny_bind (wpAny_pure (wpAny_bind (wpAny_pure (wpAny_bind (L0.at (wpAny_bind (L1.at ?_)))))))
  show wpAny _ _ (holding [Value.builtin "object.__class__"] (call (Value.builtin "getset_descriptor.__get__") [Value.builtin "object.__class__", Value.ref a, Value.ref C]) >>= ret) _ _ _
  exact wpAny_bind (wpAny_holding (wpAny_call (class_get (s := ⟨h, g, d, t, os⟩) X I Y.ob (wpAny_pure hq))))
theorem class_attr {Q : Option Value → Shared → Prop} (Y : ExFind K C) (X : K.In h) (I : InstAt h a o C od) (hq : Q (some (.ref C)) ⟨h, g, d, t + 1, os⟩) : wpAny (model prog w) A (getAttr? (.ref a) "__class__") Q E ⟨h, g, d, t, os⟩ := by
  have L0 := I.type (M := model prog w)
  have L1 := looks_findIn (M := model prog w) X Y.ga
  have L2 := looks_findIn (M := model prog w) X Y.gn
  have G := PySem.F.attrBase_ValueError.ga
  have b1 := G.bind (.ref a)
  unfold getAttr?; unfold getAttrBy?; unfold getAttrBy
  refine wpAny_bind (wpAny_mkText ?_)
  refine wpAny_bind (wpAny_attempt (wpAny_holding ?_))
  refine wpAny_bind (L0.at ?_)
  refine wpAny_bind (L1.at ?_)
  show wpAny _ _ (getAttrByItsOwn _ _ _ _ _ _) _ _ _
  unfold getAttrByItsOwn
  refine wpAny_bind (L2.at ?_)
  refine wpAny_bind (wpAny_attempt (wpAny_holding ?_))
  show wpAny _ _ (boundAndCalled _ _ _) _ _ _
  unfold boundAndCalled
  rw [b1]
  refine wpAny_bind (wpAny_pure ?_)
  refine wpAny_call (codeAny_call_builtin G.plain F.entry_bexc_ga (check_ga Y X I (class_entry Y X I ?_)))
  exact handed_on rfl (wpAny_pure hq)
end
/-- an exception of the class at C, without attributes of its own, at p -/
noncomputable def XOp (p C : Addr) (h : Heap) : Prop := ∃ o vs, h.get? p = some o ∧ o.cls = .ref C ∧ o.data = .fields vs ∧ o.dict = none
noncomputable def XO (p C : Addr) : HO := .ext (XOp p C)
theorem cls_at {K : Frag} {C : Addr} (e : (clsIn K C).isSome = true) : ∃ c' d' cd' sl', K.lookup C = some ⟨c', d', .cls cd', sl'⟩ := by
  unfold clsIn at e
  split at e
  · rename_i q; exact ⟨_, _, _, _, q⟩
  · cases e
section
variable {X : Cx}
theorem un_new {fs : List Addr} {H : Hp} {h h' : Heap} {a : Addr} {o : HO} (k : ∀ b u, h.get? b = some u → h'.get? b = some u) (ha : h.get? a = none) (hn : H a = none) : Un fs [] H (upd H a o) h h' where
  keep := fun b u q _ _ _ => k b u q
  slot := fun b u q _ _ _ => ⟨u.slots, k b u q⟩
  free := fun b u q n _ => by rw [upd_ne (fun z => by rw [z, ha] at q; cases q)]; exact n
  there := fun b u q _ => ⟨u, k b u q⟩
  tups := fun b xs q => by rw [upd_ne (ne_of_none q hn)]; exact q
  frzs := fun b u xs q => by rw [upd_ne (ne_of_none q hn)]; exact q
  tbls := fun b ps q => ⟨#[], by rw [upd_ne (ne_of_none q hn), q]; simp⟩
theorem hok_new {P : Program} {w : World} {H : Hp} {h h' : Heap} {a : Addr} {o : HO} (x : HOk P w H h) (k : ∀ b u, h.get? b = some u → h'.get? b = some u) (hn : H a = none) (new : ObjOk P w (upd H a o) h' a o) : HOk P w (upd H a o) h' := fun b u e => by
  by_cases hb : b = a
  · subst hb; rw [upd_same] at e; cases e; exact new
  · rw [upd_ne hb] at e
    exact (x b u e).stay (fun c v _ q => k c v q) (fun c q => by rw [upd_ne (ne_of_none q hn)]; exact q) fun c xs q => by rw [upd_ne (ne_of_none q hn)]; exact q
end
end L2.Ex

end
section
set_option Elab.async false
set_option linter.all false
set_option maxRecDepth 100000
set_option maxHeartbeats 4000000
namespace L2.Ex
open PySem PySem.Spec PyProof.Rows PySem.W
section
variable {X : Cx} {pins : List (Addr × Obj)} {σ : St} {H : Hp} {s : Shared}
/-- what a thing new to the state is not -/
structure Strange (X : Cx) (pins : List (Addr × Obj)) (H : Hp) (b : Addr) : Prop where
  s0 : X.s₀.heap.get? b = none
  un : H b = none
  nl : b ≠ X.env.locals
  nc : ∀ x c, X.env.cells.lookup x = some c → c ≠ b
  np : ∀ p ∈ X.pn ++ pins, p.1 ≠ b
theorem Inv.strange (I : Inv X pins σ H s) (hex : X.ex = []) {b : Addr} (n : s.heap.get? b = none) : Strange X pins H b := by
  have b0 := I.base
  rw [hex] at b0
  refine ⟨?_, hok_none I.hok n, fun z => ?_, fun x c e z => ?_, fun p hp z => ?_⟩
  · cases z : X.s₀.heap.get? b with
    | none => rfl
    | some o =>
      obtain ⟨o', e'⟩ := b0.there b o z (by simp)
      rw [n] at e'
      cases e'
  · obtain ⟨m, ⟨o, _, _, ho, _⟩, _⟩ := I.loc
    rw [← z, n] at ho
    cases ho
  · obtain ⟨v, o, ho, _⟩ := I.cell x c e
    rw [z, n] at ho
    cases ho
  · have := (I.pin p hp).1
    rw [z, n] at this
    cases this
/-- the body goes on behind what an exception wrote -/
theorem Inv.wr {ch : List Addr} {h' : Heap} {t' : Nat} (I : Inv X pins σ H s) (hex : X.ex = []) (y : Wr (frs X.stack) ch s.heap h') (hc : ∀ b ∈ ch, Strange X pins H b) : Inv X pins σ H { s with heap := h', toks := t' } := by
  have b0 := I.base
  rw [hex] at b0
  have nS : ∀ b, b ≠ X.env.locals → b ∉ X.fs → b ∉ frs X.stack := fun b n1 n2 z => (List.mem_cons.mp (I.stkSub b z)).elim n1 n2
  have nl0 : X.s₀.heap.get? X.env.locals = none := Heap.get?_none_of_le I.ok.above
  refine ⟨I.ok, I.os, I.bare, ?_, ?_, fun x c e => ?_, I.free, I.freeC, fun p hp => ?_, hok_wr I.hok y (fun b hb => (hc b hb).un) I.stkFree, I.len⟩
  · rw [hex]
    refine un_wr b0 y (fun b hb => ?_) (fun b hb => (hc b hb).s0)
    rcases List.mem_cons.mp (I.stkSub b hb) with z | z
    · rw [z]; exact .inr nl0
    · exact .inl z
  · obtain ⟨m, ⟨o, es, ep, ho, r⟩, hl⟩ := I.loc
    obtain ⟨sl, e1⟩ := y.slot _ o ho fun z => (hc _ z).nl rfl
    refine ⟨m, ⟨_, es, ep, e1, r⟩, fun i x v e2 e3 e4 => ?_⟩
    obtain ⟨u, ru, l⟩ := hl i x v e2 e3 e4
    refine ⟨u, ru, ?_⟩
    rcases l with l | ⟨k, c, e, oc, hoc, hd⟩
    · exact .inl l
    · obtain ⟨sl2, e5⟩ := y.slot c oc hoc fun z => (hc c z).nc x c e rfl
      exact .inr ⟨k, c, e, _, e5, hd⟩
  · obtain ⟨v, oc, hoc, hd⟩ := I.cell x c e
    obtain ⟨sl2, e5⟩ := y.slot c oc hoc fun z => (hc c z).nc x c e rfl
    exact ⟨v, _, e5, hd⟩
  · obtain ⟨e, n, ne, nf, d⟩ := I.pin p hp
    exact ⟨y.keep _ _ e (nS _ ne nf) fun z => (hc _ z).np p hp rfl, n, ne, nf, d⟩
/-- a thing that is there is tracked from now on -/
theorem Inv.track {b : Addr} {o : HO} (I : Inv X pins σ H s) (q : Strange X pins H b) (new : ObjOk X.prog X.w (upd H b o) s.heap b o) : Inv X pins σ (upd H b o) s := by
  have nb : ∀ c u, X.s₀.heap.get? c = some u → c ≠ b := fun c u e z => by rw [z, q.s0] at e; cases e
  refine ⟨I.ok, I.os, I.bare, ⟨I.base.keep, I.base.slot, fun c u e n hx => by rw [upd_ne (nb c u e)]; exact I.base.free c u e n hx, I.base.there, fun c xs e => ?_, fun c u v e => ?_, fun c ps e => ?_⟩, I.loc, I.cell, by rw [upd_ne (Ne.symm q.nl)]; exact I.free, fun x c e => by rw [upd_ne (q.nc x c e)]; exact I.freeC x c e, fun p hp => ?_, hok_new I.hok (fun _ _ e => e) q.un new, I.len⟩
  · have z := I.base.tups c xs e
    rw [upd_ne (ne_of_none z q.un)]; exact z
  · have z := I.base.frzs c u v e
    rw [upd_ne (ne_of_none z q.un)]; exact z
  · obtain ⟨m, z⟩ := I.base.tbls c ps e
    exact ⟨m, by rw [upd_ne (ne_of_none z q.un)]; exact z⟩
  · obtain ⟨e, n, ne, nf, d⟩ := I.pin p hp
    exact ⟨e, by rw [upd_ne (q.np p hp)]; exact n, ne, nf, d⟩
/-- a name goes -/
theorem Inv.gone {i : Nat} {x : Str} {m : Str → Option Value} {v : Option Value} {h' : Heap} {t' : Nat} (I : Inv X pins σ H s) (hi : X.N[i]? = some x) (hl : X.env.kindOf x = some .local) (hn : s.heap.Ns X.env.locals m) (hn' : h'.Ns X.env.locals (fun y => if y = x then v else m y)) (hs : Heap.SameBut X.env.locals s.heap h') (nd : X.N.Nodup) : Inv X pins (σ.set i none) H { s with heap := h', toks := t' } := by
  obtain ⟨oL, es, ep, hoL, r⟩ := id hn
  have neL : ∀ b o, X.s₀.heap.get? b = some o → b ≠ X.env.locals := fun b o e => Nat.ne_of_lt (Nat.lt_of_lt_of_le (Heap.lt_size e) I.ok.above)
  refine ⟨I.ok, I.os, I.bare, ⟨fun b o e n hb hx => (hs.2 b (neL b o e)).trans (I.base.keep b o e n hb hx), fun b o e n hb hx => ?_, I.base.free, fun b o e hx => ?_, I.base.tups, I.base.frzs, I.base.tbls⟩, ⟨_, hn', fun j y w e1 e2 e3 => ?_⟩, fun y c e => ?_, I.free, I.freeC, fun p hp => ?_, fun b ob e => ?_, by rw [List.length_set]; exact I.len⟩
  · obtain ⟨sl, e1⟩ := I.base.slot b o e n hb hx
    exact ⟨sl, (hs.2 b (neL b o e)).trans e1⟩
  · obtain ⟨o', e1⟩ := I.base.there b o e hx
    exact ⟨o', (hs.2 b (neL b o e)).trans e1⟩
  · have ji : j ≠ i := fun z => by
      subst z
      by_cases lt : j < σ.length
      · rw [List.getElem?_set_self lt] at e2; cases e2
      · rw [List.getElem?_eq_none (by rw [List.length_set]; omega)] at e2; cases e2
    rw [List.getElem?_set_ne (Ne.symm ji)] at e2
    obtain ⟨m2, hn2, hl2⟩ := I.loc
    obtain ⟨u, ru, l⟩ := hl2 j y w e1 e2 e3
    refine ⟨u, ru, ?_⟩
    have em : m2 = m := by
      obtain ⟨o2, es2, ep2, ho2, hd2, _, hm2⟩ := hn2
      obtain ⟨o3, es3, ep3, ho3, hd3, _, hm3⟩ := hn
      rw [ho2] at ho3
      cases ho3
      rw [hd2] at hd3
      cases hd3
      funext z
      rw [← hm2 z, ← hm3 z]
    rcases l with ⟨k, e⟩ | ⟨k, c, e, z⟩
    · refine .inl ⟨k, ?_⟩
      have yx : y ≠ x := fun z => ji (nodup_ix nd e1 (z ▸ hi))
      rw [em] at e
      simp [yx, e]
    · exact .inr ⟨k, c, e, z.sameBut hs (I.cne y c e)⟩
  · obtain ⟨w, z⟩ := I.cell y c e
    exact ⟨w, z.sameBut hs (I.cne y c e)⟩
  · obtain ⟨e, n, ne, nf, d⟩ := I.pin p hp
    exact ⟨(hs.2 p.1 ne).trans e, n, ne, nf, d⟩
  · refine (I.hok b ob e).stay (fun c w hc q => (hs.2 c fun z => ?_).trans q) (fun _ q => q) fun _ _ q => q
    rcases hc with hc | hc
    · rw [← hc, z, I.free] at e; cases e
    · rw [z, I.free] at hc; cases hc
end
theorem name_goes {M : Model} {A : Around} {E : Value → Shared → Prop} {s : Shared} {env : Env} {n : Str} {pos : Pos} {m : Str → Option Value} {Q : Unit → Shared → Prop} (hl : env.kindOf n = some .local) (hn : s.heap.Ns env.locals m) (hp : (env.scope.kind == .class || (env.scope.kind == .module && env.locals != env.globals)) = false)
    (h : ∀ h' v, h'.Ns env.locals (fun y => if y = n then v else m y) → Heap.SameBut env.locals s.heap h' → Q () { s with heap := h', toks := s.toks + 1 }) : wpAny M A (do bindName env n .none; unbindBehindTheSuite env n pos) Q E s := by
  refine wpAny_bind (wpAny_bindName (wpAny_storeName_local hl hn (fun h1 n1 s1 => ?_) hp))
  unfold unbindBehindTheSuite unbindName; refine wpAny_onRaise (wpAny_bind (wpAny_point (wpAny_bind ?_)))
  unfold deleteName; simp only [hl, hp]; rw [if_neg (by decide)]
  refine wpAny_bind (wpAny_nsDel_keeps n1 fun h2 v n2 s2 => ?_)
  simp only [if_true, Option.isSome_some, Bool.not_true, Bool.false_eq_true, if_false]
  refine wpAny_pure (wpAny_point (h h2 v ?_ (s1.trans s2)))
  have e : (fun y => if y = n then v else if y = n then some Value.none else m y) = fun y => if y = n then v else m y := by
    funext y
    by_cases z : y = n <;> simp [z]
  rw [e] at n2
  exact n2
end L2.Ex

end
section
set_option Elab.async false
set_option linter.all false
set_option maxRecDepth 100000
set_option maxHeartbeats 4000000
namespace L2.Ex
open PySem PySem.Spec PyProof.Rows PySem.W
/-- within an except suite -/
noncomputable abbrev inSuite (X : Cx) (e : Value) : Cx := { X with A := X.A.mark (some e), calm := false, xe := fun _ _ => False }
theorem inv_suite {X : Cx} {pins : List (Addr × Obj)} {σ : St} {H : Hp} {s : Shared} (e : Value) (I : Inv X pins σ H s) : Inv (inSuite X e) pins σ H s :=
  ⟨⟨I.ok.mod, I.ok.kind, I.ok.glob, I.ok.blt, I.ok.above, I.ok.inj, I.ok.has, I.ok.cab, (fun z => nomatch z), I.ok.frames, I.ok.stk, I.ok.exf, I.ok.bs, I.ok.bsz, I.ok.noex, I.ok.exfs, I.ok.funs, I.ok.frf⟩, I.os, I.bare, I.base, I.loc, I.cell, I.free, I.freeC, I.pin, I.hok, I.len⟩
theorem inv_out {X : Cx} {pins : List (Addr × Obj)} {σ : St} {H : Hp} {s : Shared} {e : Value} (hd : X.A.handled = none) (I : Inv (inSuite X e) pins σ H s) : Inv X pins σ H s :=
  ⟨⟨I.ok.mod, I.ok.kind, I.ok.glob, I.ok.blt, I.ok.above, I.ok.inj, I.ok.has, I.ok.cab, (fun _ => hd), I.ok.frames, I.ok.stk, I.ok.exf, I.ok.bs, I.ok.bsz, I.ok.noex, I.ok.exfs, I.ok.funs, I.ok.frf⟩, I.os, I.bare, I.base, I.loc, I.cell, I.free, I.freeC, I.pin, I.hok, I.len⟩
/-- what an except clause asks of the class it names -/
structure ExCls (K : Frag) (B : Addr) : Prop where
  ty : typeIn K (.ref B) = some (.type "type")
  is : (clsIn K B).isSome = true
  be : mroIn K B (.type "BaseException") = some true
theorem is_type {K : Frag} {M : Model} {h : Heap} {C : Addr} (X : K.In h) (e : (clsIn K C).isSome = true) : Looks M h (isType (.ref C)) true := by
  obtain ⟨c', d', cd', sl', hk⟩ := cls_at e
  intro A' Q' E' s' k q
  unfold isType; unfold loadHead
  exact wpAny_bind (wpAny_loadPart (k _ _ (X _ _ hk)) (wpAny_pure q))
theorem matches_ex {K : Frag} {M : Model} {A : Around} {E : Value → Shared → Prop} {s : Shared} {a B C : Addr} {o : Obj} {Q : Bool → Shared → Prop} (X : K.In s.heap) (Y : ExCls K B) (he : s.heap.get? a = some o) (hc : o.cls = .ref C) (hm : mroIn K C (.ref B) = some true) (hq : Q true s) : wpAny M A (excMatches (.ref a) (.ref B)) Q E s := by
  have L1 : Looks M s.heap (isInstance (.ref B) (.type "tuple")) false := (looks_typeIn X Y.ty).andThen (Looks.of_pure tc_notTuple)
  have L2 := is_type (M := M) X Y.is
  have L3 := looks_mroIn (M := M) X Y.be
  have L4 := looks_mroIn (M := M) X hm
  obtain ⟨h, g, d, t, os⟩ := s
  unfold excMatches isExcClass
  refine wpAny_bind (L1.at ?_)
  dsimp only
  rw [if_neg Bool.false_ne_true]
  refine wpAny_bind (wpAny_pure ?_)
  rw [List.forIn_cons]
  refine wpAny_bind (wpAny_bind (wpAny_bind (wpAny_bind (L2.at ?_))))
  rw [if_pos rfl]
  refine L3.at ?_
  rw [if_neg (show ¬ ((!true) = true) by decide)]
  refine wpAny_pure ?_
  dsimp only
  rw [List.forIn_nil]
  refine wpAny_pure ?_
  have T0 : ∀ {Q' : Value → Shared → Prop}, Q' (.ref C) ⟨h, g, d, t, os⟩ → wpAny M A (typeOf (.ref a)) Q' E ⟨h, g, d, t, os⟩ := fun {Q'} q' => by
    repeat (first | (with_reducible refine wpAny_loadPart_at he ?_; rw [hc]) | wp_step)
    exact q'
  refine wpAny_bind (T0 ?_)
  rw [List.forIn_cons]
  refine wpAny_bind (wpAny_bind (wpAny_bind (L4.at ?_)))
  rw [if_pos rfl]
  exact wpAny_pure (wpAny_pure (wpAny_pure hq))
/-- a call whose exception is caught here -/
theorem eval_cal {X : Cx} {pins : List (Addr × Obj)} {σ : St} {H : Hp} {s : Shared} {x : Str} {ps : List Str} {k n : Nat} {sp : Sp} {p pos : Pos} {e : Expr} {es : List Expr} {t : TA} {Q : VK} {Ec : XK} (c : CalX X.prog X.w X.K X.mg X.base x ps k sp) (hr : Room n X.A) (hn : k ≤ n) (ha : PA X.nox (e :: es) t) (I : Inv X pins σ H s) (h : t σ H fun vs H1 => sp vs H1 Q Ec) (hg : Gl X x)
    (hdb : (x == ("__debug__" : Str)) = false) (he : starEach (e :: es) X.env = (false, eval e X.env) :: starEach es X.env) (hpl : (backTo pos (starEach es X.env)).any (·.1) = false) :
    wpAny (model X.prog X.w) X.A (eval (.Call (.Name x p) (e :: es) [] pos) X.env) (EP X pins σ Q) (fun e' s' => ∃ H1 s1, Inv X pins σ H1 s1 ∧ CXF X.prog X.w X.stack H1 s1 Ec e' s') s := by
  obtain ⟨fa, fd, F, b, kp, m⟩ := c.ex
  refine wpAny_Call_Name_kw (ld_glob I hg m ?_ hdb)
  have hp := ha pos pins s σ H _ (I.wish _) h
  refine callWith_K (h₀ := X.base) I.ok.mod.kin kp (wpAny_mono hp (fun us s1 z => ?_) (fun _ _ z => False.elim z)) he hpl
  obtain ⟨vs, H1, I0, r, q⟩ := z
  have I1 := I0.unwish
  refine ⟨I1.kIn, ?_⟩
  have hl : us.length = ps.length := by rw [← r.length]; exact F.len _ _ _ _ q
  have hb := b s1 us I1.kIn (by rw [List.append_nil]; exact hl)
  rw [List.append_nil] at hb
  refine wpAny_call (codeAny_mono (F.run X.A X.stack s1 H1 ⟨us, []⟩ us vs Q Ec (hr.mono hn) I1.env0 hb r q) fun rr s' hq => ?_)
  cases rr with
  | error e' => exact ⟨H1, s1, I1, hq⟩
  | ok fl =>
    cases fl with
    | ret u => exact I1.after hq
    | next => exact False.elim hq
    | brk => exact False.elim hq
    | cont => exact False.elim hq
/-- what the suite has to do with an exception of the class at C -/
noncomputable def Suite (K : Frag) (B : Addr) (k : Nat) (ts : TS) (D : Ends) (σ : St) : XK := fun cls dx H2 => ∃ C, cls = .ref C ∧ dx = none ∧ mroIn K C (.ref B) = some true ∧
  ∀ a, H2 a = none → ts { nx := fun σ' H' => D.nx (σ'.set k none) H', rt := fun _ _ => False } (σ.set k (some (.ref a))) (upd H2 a (XO a C))
end L2.Ex

end
section
set_option Elab.async false
set_option linter.all false
set_option maxRecDepth 100000
set_option maxHeartbeats 4000000
namespace L2.Ex
open PySem PySem.Spec PyProof.Rows PySem.W
section
variable {X : Cx}
noncomputable abbrev TJ := Str → St → Hp → VK → Prop
noncomputable def PJ (X : Cx) (es : List Expr) (t : TJ) : Prop := ∀ (pins : List (Addr × Obj)) (s : Shared) (σ : St) (H : Hp) (acc : Str) (Q : VK), Inv X pins σ H s → t acc σ H Q →
  Joins (model X.prog X.w) X.A X.xe (evalEach es X.env) acc (fun out s1 => out.length ≤ sizeLine ∧ EP X pins σ Q (.str out s1.toks) { s1 with toks := s1.toks + 1 }) s
noncomputable def tJn : TJ := fun acc σ H Q => acc.length ≤ sizeLine ∧ Q (.str acc) H
noncomputable def tJc (te : TE) (t : TJ) : TJ := fun acc σ H Q => te σ H fun v H1 => ∃ y, v = .str y ∧ (acc ++ y).length ≤ sizeLine ∧ t (acc ++ y) σ H1 Q
theorem pj_nil : PJ X [] tJn := fun pins s σ H acc Q I h => ⟨h.1, .str acc, H, I.tok _, ⟨_, rfl⟩, h.2⟩
theorem pj_cons {e : Expr} {es : List Expr} {te : TE} {t : TJ} (he : PE X e te) (ht : PJ X es t) : PJ X (e :: es) (tJc te t) := by
  intro pins s σ H acc Q I h
  show wpAny _ _ (eval e X.env) _ _ _
  refine thn (he pins s σ H _ I h) fun v s1 z => ?_
  obtain ⟨w, H1, I1, r, y, rfl, hz, q⟩ := z
  obtain ⟨tk, rfl⟩ := r
  exact ⟨y, tk, rfl, hz, ht pins s1 σ H1 _ Q I1 q⟩
/-- f"..", of two parts or more -/
noncomputable def tJoin (t : TJ) : TE := fun σ H Q => t Str.empty σ H Q
theorem pe_join {e1 e2 : Expr} {es : List Expr} {t : TJ} {pos : Pos} (ht : PJ X (e1 :: e2 :: es) t) : PE X (.JoinedStr (e1 :: e2 :: es) pos) (tJoin t) := by
  intro pins s σ H Q I h
  exact wpAny_JoinedStr (ht pins s σ H _ Q I h)
end
end L2.Ex

end
section
set_option Elab.async false
set_option linter.all false
set_option maxRecDepth 100000
set_option maxHeartbeats 4000000
namespace L2.Ex
open PySem PySem.Spec PyProof.Rows PySem.W
theorem strs_flat (ss : List Str) : (ss.map V.str).all flatV = true := by
  rw [List.all_map, List.all_eq_true]
  intro _ _
  rfl
section
variable {X : Cx}
end
end L2.Ex

end
section
set_option Elab.async false
set_option linter.all false
set_option maxRecDepth 100000
set_option maxHeartbeats 4000000
/-! Ways into kinds. -/
namespace L2.Bk
open PySem PySem.Spec PyProof.Rows L2.Bw
noncomputable def five : List Str := ["arg", "res", "item", "one", "two"]
/-- the step that a cell picks -/
noncomputable def pick (k : Kn) (c : Int) : Str := if 0 < c % 4 ∧ stepsOf k.h ≠ [] then ((stepsOf k.h)[(c / 4 % (stepsOf k.h).length).toNat]?).getD "arg" else (five[(c / 4 % 5).toNat]?).getD "arg"
end L2.Bk

end
section
set_option Elab.async false
set_option linter.all false
set_option maxRecDepth 100000
set_option maxHeartbeats 4000000
/-! A module's table of tuples that have no dict. -/
namespace L2.Ex
open PySem PySem.Spec PyProof.Rows
/-- a loop in a def that may raise -/
theorem ps_forX {Y : Cx} {E : XK} {tg iter : Expr} {body : List Stmt} {wi : TI} {g : TG} {tb : TS} {pos : Pos} (hc : Y.calm = true) (hi : PI (Y.wish (XS Y E)) tg iter wi) (hg : PG (Y.wish (XS Y E)) tg g) (hb : PSs (Y.wish (XS Y E)) body tb)
    (hs : ∀ x, foldedSetIterable iter Y.env x = pure x := by intro _; rfl) : PS (Y.wish (XS Y E)) (.For tg iter body [] pos) (tFor wi g tb) :=
  ps_for (X := Y.wish (XS Y E)) (xs_own (X := Y) (E := E)) hc hi hg hb hs
end L2.Ex
namespace L2.Bw
open PySem PySem.Spec PyProof.Rows
section
variable {X : Cx}
end
end L2.Bw

end
section
set_option Elab.async false
set_option linter.all false
set_option maxRecDepth 100000
set_option maxHeartbeats 4000000
/-! Exceptions of classes with an __init__ of their own: made, their attributes. -/
namespace L2.Ex
open PySem PySem.Spec PyProof.Rows PySem.W
/-- own classes, then the base's -/
noncomputable def overB (bmB : List Value) : List Value → Bool
  | [] => false
  | v :: r => (v :: r) == bmB || match v with | .ref _ => overB bmB r | _ => false
theorem refuse_over {self : Value} {bmB : List Value} (hp : refuseLoop self "__setattr__" bmB = pure ()) : ∀ {l : List Value}, overB bmB l = true → refuseLoop self "__setattr__" l = pure ()
  | [], e => by cases e
  | v :: r, e => by
    unfold overB at e
    rcases Bool.or_eq_true_iff.mp e with z | z
    · rw [beq_iff_eq.mp z]; exact hp
    · split at z
      · rw [refuseLoop_ref]; exact refuse_over hp z
      · cases z
noncomputable abbrev veB : List Value := [.type "ValueError", .type "Exception", .type "BaseException", .type "object"]
/-- what an exception class asks for its instances' attributes to be stored -/
structure ExSet (K : Frag) (C : Addr) : Prop where
  sa : findIn K (.ref C) "__setattr__" = some (some (.builtin "object.__setattr__"))
  over : ((clsIn K C).any fun cd => overB veB cd.mro) = true
  hd : ((clsIn K C).any fun cd => cd.hasDict) = true
  ob : mroIn K C (.type "object") = some true
section
variable {prog : Program} {w : World} {A : Around} {E : Value → Shared → Prop} {s : Shared} {K : Frag} {x C : Addr} {o : Obj} {vs : Array Value} {mA : Str → Option Value} {name : Str} {v : Value} {ns : List Str}
theorem into_dict {M : Model} {d : Addr} {tk : Tok} {Q : Fin → Shared → Prop} (hn : s.heap.Ns1 d mA) (hw : Within mA ns) (hz : ns.length < 1000)
    (hq : ∀ h', h'.Ns1 d (fun y => if y = name then some v else mA y) → Heap.SameBut d s.heap h' → Q (.done (.ret .none)) { s with heap := h', toks := s.toks + 1 }) : wpAny M A (Builtin.ObjectAttr.storeInDict d (.str name tk) name v) Q E s := by
  unfold Builtin.ObjectAttr.storeInDict Builtin.ObjectAttr.newKeyGuard
  refine wpAny_bind (wpAny_pure (wpAny_bind (wpAny_nsSet1 hn fun h' n' sb => ?_)))
  obtain ⟨od, es, ep, e1, e2, e3⟩ := n'.count (Within.cons name v hw)
  have few : es.size ≤ sizeLine := Nat.le_trans e3 (by rw [List.length_cons, sizeLine_eq]; omega)
  refine wpAny_bind (wpAny_lookBehind e1 (by rw [e2]; exact pastItsLine_dict (Nat.le_succ_of_le few)) ?_)
  exact wpAny_pure (hq h' n' sb)
theorem exc_store {Q : Unit → Shared → Prop} (X : K.In s.heap) (Z : ExSet K C) (hf : findIn K (.ref C) name = some none) (hx : s.heap.get? x = some o) (hc : o.cls = .ref C) (hd : o.data = .fields vs)
    (hm : (o.dict = none ∧ ∀ n, mA n = none) ∨ ∃ d, o.dict = some d ∧ d ≠ x ∧ s.heap.Ns1 d mA) (hw : Within mA ns) (hz : ns.length < 1000)
    (hq : ∀ h' d t', h'.get? x = some { o with dict := some d } → d ≠ x → h'.Ns1 d (fun y => if y = name then some v else mA y) → (∀ b u, b ≠ x → b ≠ d → s.heap.get? b = some u → h'.get? b = some u) →
      (o.dict = some d ∨ (o.dict = none ∧ s.heap.get? d = none)) → Q () { s with heap := h', toks := t' }) : wpAny (model prog w) A (setAttr (.ref x) name v) Q E s := by
  obtain ⟨od, I⟩ : ∃ od, InstAt s.heap x o C od := by
    rcases hm with ⟨z, _⟩ | ⟨d, z, _, od, _, _, e, _⟩
    · exact ⟨none, hx, hc, by unfold notCls; rw [hd], by rw [z]; trivial⟩
    · exact ⟨some od, hx, hc, by unfold notCls; rw [hd], by rw [z]; exact e⟩
  have SF := PySem.F.store_ValueError
  obtain ⟨cd, hcd, hov⟩ := any_some Z.over
  obtain ⟨cd', hcd', hhd⟩ := any_some Z.hd
  rw [hcd] at hcd'
  cases hcd'
  refine set_plain X I Z.sa ?_
  obtain ⟨h, g, d, t, os⟩ := s
  have sub : Looks (model prog w) h (isInstance (.ref x) (.type "object")) true := I.type.andThen (looks_mroIn X Z.ob)
  refine codeAny_call_builtin SF.slot.plain SF.entry (@check_slot (model prog w) _ _ ⟨h, g, d, t + 1, os⟩ "object.__setattr__" "object" "__setattr__" (.ref x) [.str name t, v] [] _ SF.kind SF.split sub (SF.args (.ref x) (.str name t) v) ?_)
  have lm : Looks (model prog w) h (mroOf (.ref C)) cd.mro := (looks_clsIn X hcd).andThen .now
  rw [osa_eq, refuse_eq]
  have l0 := I.type (M := model prog w)
  have lf := looks_findIn (M := model prog w) X hf
  refine wpAny_bind (wpAny_bind (l0.at (wpAny_bind (lm.at ?_))))
  rw [refuse_over (SF.passes _) hov]
  refine wpAny_pure (wpAny_bind (l0.at (wpAny_bind (lf.at ?_))))
  refine wpAny_bind (wpAny_pure ?_)
  refine wpAny_bind (wpAny_pure ?_)
  have lc := looks_clsIn (M := model prog w) X hcd
  obtain ⟨oc, odi, oda, osl⟩ := o
  dsimp only at hc hd hm hx
  subst hc hd
  refine wpAny_bind (wpAny_bind (wpAny_loadPart hx (wpAny_bind (lc.at ?_))))
  rw [hhd]
  rcases hm with ⟨rfl, hmA⟩ | ⟨dx, rfl, hne, hns⟩
  · obtain rfl : mA = fun _ => none := funext hmA
    have hxs : x ≠ h.objs.size := Nat.ne_of_lt (Heap.lt_size hx)
    have hx1 := Heap.get?_push_of_some { cls := .type "dict", data := .dict #[] } hx
    refine wpAny_bind (wpAny_alloc' (wpAny_bind (wpAny_update' hx1 ?_)))
    have hg : ((h.push { cls := .type "dict", data := .dict #[] }).update x fun o => { cls := o.cls, dict := some h.objs.size, data := o.data, slots := o.slots }).get? h.objs.size = some { cls := .type "dict", data := .dict #[] } :=
      (Heap.get?_update_ne _ _ _ _ (Ne.symm hxs)).trans (Heap.get?_push_at rfl rfl)
    have hn0 : ((h.push { cls := .type "dict", data := .dict #[] }).update x fun o => { cls := o.cls, dict := some h.objs.size, data := o.data, slots := o.slots }).Ns h.objs.size (fun _ => none) :=
      ⟨_, #[], _, hg, rfl, fun e he => absurd he (by simp), fun _ => rfl⟩
    refine wpAny_pure (a := some h.objs.size) ?_
    refine into_dict (Heap.Ns1.of_empty hn0) Within.nil (by decide) fun h' n' sb => ?_
    refine hq h' h.objs.size _ ?_ (Ne.symm hxs) n' (fun b u h1 h2 e => ?_) (.inr ⟨rfl, Heap.get?_none_of_le (Nat.le_refl _)⟩)
    · refine (sb.2 x hxs).trans (Heap.get?_update_self _ hx1 rfl)
    · exact (sb.2 b h2).trans ((Heap.get?_update_ne _ _ _ _ h1).trans (Heap.get?_push_of_some _ e))
  · refine wpAny_pure (a := some dx) ?_
    refine into_dict hns hw hz fun h' n' sb => ?_
    exact hq h' dx _ ((sb.2 x (Ne.symm hne)).trans hx) hne n' (fun b u _ h2 e => (sb.2 b h2).trans e) (.inl rfl)
theorem exc_read {d : Addr} {expr : Bool} {Q : Value → Shared → Prop} (Y : ExFind K C) (hh : hasDictIn K C = true) (X : K.In s.heap) (hf : findIn K (.ref C) name = some none) (hx : s.heap.get? x = some o) (hc : o.cls = .ref C) (hd : o.data = .fields vs) (hdi : o.dict = some d) (hn : s.heap.Ns1 d mA) (hv : mA name = some v) (hv' : handedIn v = true)
    (hq : Q v { s with toks := s.toks + 1 }) : wpAny (model prog w) A (getAttr (.ref x) name expr) Q E s := by
  obtain ⟨od, ho, hl⟩ := lookIn_ns hn
  have I : InstAt s.heap x o C (some od) := ⟨hx, hc, by unfold notCls; rw [hd], by rw [hdi]; exact ho⟩
  have fo : findObj K C (some od) name = some (.value v) := findObj_own hh hf rfl (by rw [hl, hv])
  obtain ⟨h, g, dr, t, os⟩ := s
  have l0 := I.type (M := model prog w)
  have l1 := looks_findIn (M := model prog w) X Y.ga
  have l2 := looks_findIn (M := model prog w) X Y.gn
  have l3 := looks_find (M := model prog w) X I fo
  have G := PySem.F.attrBase_ValueError.ga
  have b1 := G.bind (.ref x)
  unfold getAttr getAttrBy
  refine wpAny_bind (wpAny_mkText (wpAny_holding (wpAny_bind (l0.at (wpAny_bind (l1.at ?_))))))
  show wpAny _ _ (getAttrByItsOwn _ _ _ _ _ _) _ _ _
  unfold getAttrByItsOwn
  refine wpAny_bind (l2.at (wpAny_bind (wpAny_attempt (wpAny_holding ?_))))
  unfold callGetattribute
  rw [show (expr && onTheHeap (Value.builtin "BaseException.__getattribute__")) = false from Bool.and_false _, if_neg Bool.false_ne_true]
  unfold boundAndCalled
  rw [b1]
  refine wpAny_bind (wpAny_pure ?_)
  refine wpAny_call (codeAny_call_builtin G.plain F.entry_bexc_ga (check_ga Y X I ?_))
  refine wpAny_bind (wpAny_pure (wpAny_bind (wpAny_pure (wpAny_bind (l0.at (wpAny_bind (l3.at ?_)))))))
  exact wpAny_pure (handed_on hv' hq)
end
/-- the facts of an exception class with an __init__ of its own -/
structure OwnI (K : Frag) (C fI : Addr) (bmB : List Value) (newId : String) : Prop where
  at_ : ∃ (nm q : Str) (N : Addr) (bs bm : List Value) (hdct : Bool) (sn : List Str) (sub : List Value) (ab : Bool) (col : Option Bool) (dd : Option Addr) (k0 k1 k2 k3 k5 : Option Value),
    K.lookup C = some (excClassObj nm q C N bs bm hdct sn sub ab col dd k0 k1 k2 k3 k5 newId) ∧ tailIn K bmB bm = true
  init : findIn K (.ref C) "__init__" = some (some (.ref fI))
  fn : isFn K (.ref fI) = true
section
variable {prog : Program} {w : World} {A : Around} {E : Value → Shared → Prop} {K : Frag} {C fI : Addr} {rest bmB : List Value} {B newId initId : String} {h : Heap} {g : Array GenState} {d : Drawn} {t : Nat} {os : OsState}
/-- the two things that a call of an exception class lays -/
noncomputable abbrev bareExc (h : Heap) (C : Addr) (rest : List Value) : Heap := (h.push { cls := .type "tuple", data := .seq rest.toArray }).push { cls := .ref C, data := .fields #[.ref h.objs.size, .none, .none, .none, .bool false, .none] }
theorem bare_keeps (b : Addr) (u : Obj) (z : h.get? b = some u) : (bareExc h C rest).get? b = some u := Heap.get?_push_of_some _ (Heap.get?_push_of_some _ z)
theorem bare_made : Heap.MadeExcOf h (bareExc h C rest) (h.objs.size + 1) (.ref C) rest where
  keeps := bare_keeps
  new := Heap.get?_none_of_le (Nat.le_succ _)
  there := ⟨h.objs.size, by heap_get, Heap.get?_none_of_le (Nat.le_refl _), Heap.get?_push_of_some _ (Heap.get?_push_at rfl rfl)⟩
theorem exc_type_call {Q : Fin → Shared → Prop} (F : ExcBaseFacts B newId initId bmB) (X : K.In h) (O : OwnI K C fI bmB newId) (hz : rest.length ≤ sizeLine)
    (hq : ∀ h' e, Heap.MadeExcOf h h' e (.ref C) rest → wpAny (model prog w) A (call (.ref fI) (.ref e :: rest)) (fun r s' => r = .none ∧ Q (.done (.ret (.ref e))) s') E ⟨h', g, d, t, os⟩) :
    wpAny (model prog w) A (Builtin.«type.__call__» ⟨.ref C :: rest, []⟩) Q E ⟨h, g, d, t, os⟩ := by
  obtain ⟨nm, q, N, bs, bm, hdct, sn, sub, ab, col, dd, k0, k1, k2, k3, k5, l, tl⟩ := O.at_
  have c0 := X _ _ l
  have T := tail_of_in X tl
  have X1 : K.In (bareExc h C rest) := fun b u z => bare_keeps b u (X b u z)
  have c1 := X1 _ _ l
  have m1 := (bare_made (h := h) (C := C) (rest := rest))
  obtain ⟨tt, e1, _, _⟩ := id m1.there
  have self : (Value.ref C :: bm).contains (.ref C) = true := by simp
  have l1 := looks_findIn (M := model prog w) X1 O.init
  have l2 := fun self => bind_fn (M := model prog w) X1 self (beq_iff_eq.mp O.fn)
  repeat (first | with_reducible refine wpAny_loadPart_at c0 ?_ | with_reducible refine wpAny_madeBy_exc c0 ?_ | wp_step)
  refine codeAny_call_builtin_code (Code.quiet_builtin _ F.quiet) (wpAny_check_new_subT F T c0 (codeAny_exc_new_subT F T c0 ?_ hz))
  show wpAny _ _ _ _ _ _
  unfold isInstance
  repeat (first | with_reducible refine wpAny_loadPart_at e1 ?_ | (with_reducible refine wpAny_isSubtype_exc c1 ?_; rw [self]) | wp_step)
  refine l1.at (wpAny_holding (wpAny_bind ((l2 _).at ?_)))
  refine wpAny_bind (wpAny_mono (hq _ _ m1) (fun r s' z => ?_) fun _ _ z => z)
  obtain ⟨rfl, z⟩ := z
  wp_walk
  exact z
theorem exc_call {Q : Value → Shared → Prop} (F : ExcBaseFacts B newId initId bmB) (X : K.In h) (O : OwnI K C fI bmB newId) (hz : rest.length ≤ sizeLine)
    (hq : ∀ h' e, Heap.MadeExcOf h h' e (.ref C) rest → wpAny (model prog w) (A.under (.builtin "type.__call__" ⟨.ref C :: rest, []⟩)) (call (.ref fI) (.ref e :: rest)) (fun r s' => r = .none ∧ Q (.ref e) s') E ⟨h', g, d, t, os⟩) :
    wpAny (model prog w) A (call (.ref C) rest) Q E ⟨h, g, d, t, os⟩ := by
  obtain ⟨nm, q, N, bs, bm, hdct, sn, sub, ab, col, dd, k0, k1, k2, k3, k5, l, tl⟩ := O.at_
  have c0 := X _ _ l
  have y1 := tc_lookup
  have y2 := tc_bind (.ref C)
  have y3 : Shared.TypeIs ⟨h, g, d, t, os⟩ (.ref C) "type" := ⟨_, c0, rfl⟩
  refine wpAny_call (codeAny_of_tree ?_)
  show wpAny _ _ (callAny (.ref C) _) _ _ _
  repeat (any_goals (first | assumption | with_reducible refine wpAny_loadPart_at c0 ?_ | wp_step))
  refine ⟨rfl, codeAny_call_builtin_at (Code.quiet_builtin _ (by decide +kernel)) entry_typeCall (wpAny_check_type_call_sub c0 ?_)⟩
  exact exc_type_call F X O hz fun h' e m => hq h' e m
end
end L2.Ex

end
section
set_option Elab.async false
set_option linter.all false
set_option maxRecDepth 100000
set_option maxHeartbeats 4000000
namespace L2.Ex
open PySem PySem.Spec PyProof.Rows PySem.W
/-- an exception of the class at C at p, its dict (if it has one) at dx; fr: it has no trace yet -/
noncomputable def XP (fr : Bool) (p C : Addr) (dx : Option Addr) (h : Heap) : Prop := ∃ o vs, h.get? p = some o ∧ o.cls = .ref C ∧ o.data = .fields vs ∧ (0 < vs.size ∧ (fr = true → vs[1]? = some .none)) ∧ o.dict = dx ∧ ∀ d, dx = some d → d ≠ p
noncomputable def XQ (fr : Bool) (p C : Addr) (dx : Option Addr) : HO := .ext (XP fr p C dx)
/-- the dict of an exception -/
noncomputable def DO (d : Addr) (fs : List (Str × V)) : HO := .ext fun h => ∃ mA, h.Ns1 d mA ∧ (∀ f, RelO (fs.lookup f) (mA f)) ∧ PySem.Within mA (fs.map (·.1))
section
variable {P : Program} {w : World} {H : Hp} {h h' : Heap} {p C d : Addr} {dx : Option Addr} {fs : List (Str × V)} {fr : Bool}
theorem xq_ok (x : XP fr p C dx h) : ObjOk P w H h p (XQ fr p C dx) := by
  obtain ⟨o, vs, e, r⟩ := id x
  exact ⟨x, ⟨o, e⟩, fun h1 h2 ⟨o1, vs1, e1, r1⟩ y => ⟨o1, vs1, y o1 e1, r1⟩⟩
theorem do_ok {mA : Str → Option Value} (n : h.Ns1 d mA) (r : ∀ f, RelO (fs.lookup f) (mA f)) (wi : PySem.Within mA (fs.map (·.1))) : ObjOk P w H h d (DO d fs) := by
  obtain ⟨o, es, ep, e, _⟩ := id n
  exact ⟨⟨mA, n, r, wi⟩, ⟨o, e⟩, fun h1 h2 ⟨m1, n1, r1, w1⟩ y => ⟨m1, n1.at y, r1, w1⟩⟩
theorem rel_put {f : Str} {y : V} {u : Value} {mA : Str → Option Value} (r : ∀ g, RelO (fs.lookup g) (mA g)) (ry : RelV y u) : ∀ g, RelO ((putF f y fs).lookup g) (if g = f then some u else mA g) := fun g => by
  rw [lookup_putF]
  by_cases q : g = f
  · rw [if_pos q, if_pos q]; exact ry
  · rw [if_neg q, if_neg q]; exact r g
theorem within_put {f : Str} {y : V} {u : Value} {mA : Str → Option Value} (wi : PySem.Within mA (fs.map (·.1))) : PySem.Within (fun g => if g = f then some u else mA g) ((putF f y fs).map (·.1)) := fun g hg => by
  by_cases q : g = f
  · rw [q]; exact (keys_putF f y fs).1
  · refine (keys_putF f y fs).2 g (wi g fun z => hg ?_)
    show (if g = f then some u else mA g) = none
    rw [if_neg q]; exact z
end
section
variable {X : Cx}
theorem xq_get {pins : List (Addr × Obj)} {σ : St} {H : Hp} {s : Shared} {p C : Addr} {dx : Option Addr} {fr : Bool} (I : Inv X pins σ H s) (e : H p = some (XQ fr p C dx)) : XP fr p C dx s.heap := (I.hok p _ e).1
theorem do_get {pins : List (Addr × Obj)} {σ : St} {H : Hp} {s : Shared} {d : Addr} {fs : List (Str × V)} (I : Inv X pins σ H s) (e : H d = some (DO d fs)) : ∃ mA, s.heap.Ns1 d mA ∧ (∀ f, RelO (fs.lookup f) (mA f)) ∧ PySem.Within mA (fs.map (·.1)) := (I.hok d _ e).1
/-- self.f = e, self an exception -/
noncomputable def sXF (K : Frag) (ta tv : TE) (f : Str) : TS := fun D σ H => tv σ H fun y H1 => ta σ H1 fun x H2 => ∃ fr p C, x = .ref p ∧ ExSet K C ∧ findIn K (.ref C) f = some none ∧
  ((H2 p = some (XQ fr p C none) ∧ ∀ d, H2 d = none → d ≠ p → D.nx σ (upd (upd H2 p (XQ fr p C (some d))) d (DO d [(f, y)]))) ∨
   ∃ d fs, H2 p = some (XQ fr p C (some d)) ∧ H2 d = some (DO d fs) ∧ fs.length < 900 ∧ D.nx σ (upd H2 d (DO d (putF f y fs))))
theorem ps_xfld {o value : Expr} {ta tv : TE} {f : Str} {pos pos' : Pos} (hex : X.ex = []) (ha : PE X o ta) (hv : PE X value tv) (hs : swapsWith value (some (.Attribute o f pos')) pos.line X.env = pure false) : PS X (.Assign [.Attribute o f pos'] value pos) (sXF X.K ta tv f) := by
  intro pins s σ H D I h
  refine plainObj_wpAny_Assign_Attribute (thn (hv pins s σ H _ I h) fun u s1 ⟨y, H1, I1, ry, q⟩ => thn (ha pins s1 σ H1 _ I1 q) fun ov s2 ⟨x, H2, I2, rx, fr, p, C, ex, Z, hf, q2⟩ => ?_) hs
  subst ex
  obtain rfl : ov = Value.ref p := rx
  rcases q2 with ⟨ep, q2⟩ | ⟨d, fs, ep, ed, lz, q2⟩
  · obtain ⟨ob, vs, e1, e2, e3, e4, e5, e6⟩ := xq_get I2 ep
    refine exc_store (mA := fun _ => none) (ns := []) I2.kIn Z hf e1 e2 e3 (.inl ⟨e5, fun _ => rfl⟩) Within.nil (by decide) fun h' d t' g1 ne n k ds => ?_
    have nd : s2.heap.get? d = none := by
      rcases ds with z | ⟨_, z⟩
      · rw [e5] at z; cases z
      · exact z
    have st := Inv.strange I2 hex nd
    have I3 : Inv X pins σ (upd H2 p (XQ fr p C (some d))) { s2 with heap := h', toks := t' } := I2.write (x := p) (e := p) (by rw [ep]; exact True.intro) (.inl rfl) (fun b u2 hb z => k b u2 hb (fun w => by rw [w, nd] at z; cases z) z) ⟨_, g1⟩
      (xq_ok ⟨_, vs, g1, e2, e3, e4, rfl, fun d' z => by cases z; exact ne⟩)
    have I4 := Inv.track (b := d) (o := DO d [(f, y)]) I3 ⟨st.s0, by rw [upd_ne ne]; exact st.un, st.nl, st.nc, st.np⟩ (do_ok n (fun g => ?_) ?_)
    · exact ⟨σ, _, I4, q2 d st.un ne⟩
    · exact rel_put (fs := []) (fun _ => (show RelO none none from trivial)) ry g
    · exact within_put (fs := []) (f := f) (y := y) Within.nil
  · obtain ⟨ob, vs, e1, e2, e3, e4, e5, e6⟩ := xq_get I2 ep
    obtain ⟨mA, n0, r0, w0⟩ := do_get I2 ed
    have ne0 := e6 d rfl
    refine exc_store (mA := mA) (ns := fs.map (·.1)) I2.kIn Z hf e1 e2 e3 (.inr ⟨d, e5, ne0, n0⟩) w0 (by rw [List.length_map]; omega) fun h' d' t' g1 ne n k ds => ?_
    obtain rfl : d = d' := by
      rcases ds with z | ⟨z, _⟩
      · rw [e5] at z; exact Option.some.inj z
      · rw [e5] at z; cases z
    obtain ⟨od, es, epx, g2, _⟩ := id n
    have eo : ({ ob with dict := some d } : Obj) = ob := by rw [← e5]
    rw [eo] at g1
    refine ⟨σ, _, I2.write (x := d) (e := d) (t' := t') (by rw [ed]; exact True.intro) (.inl rfl) (fun b u2 hb z => ?_) ⟨_, g2⟩ (do_ok n (rel_put r0 ry) (within_put w0)), q2⟩
    by_cases hbp : b = p
    · rw [hbp] at z ⊢
      rw [e1] at z
      cases z
      exact g1
    · exact k b u2 hbp hb z
/-- x.f, x an exception -/
noncomputable def tXF (K : Frag) (ta : TE) (f : Str) : TE := fun σ H Q => ta σ H fun x H1 => ∃ fr p C d fs v, x = .ref p ∧ H1 p = some (XQ fr p C (some d)) ∧ H1 d = some (DO d fs) ∧ ExFind K C ∧ hasDictIn K C = true ∧ findIn K (.ref C) f = some none ∧ fs.lookup f = some v ∧ Q v H1
theorem xget_ok {pins : List (Addr × Obj)} {σ : St} {H : Hp} {s : Shared} {A : Around} {E : Value → Shared → Prop} {p C d : Addr} {fs : List (Str × V)} {f : Str} {v : V} {b fr : Bool} {Q : Value → Shared → Prop} (I : Inv X pins σ H s) (ep : H p = some (XQ fr p C (some d))) (ed : H d = some (DO d fs)) (Y : ExFind X.K C) (hh : hasDictIn X.K C = true) (hf : findIn X.K (.ref C) f = some none) (l : fs.lookup f = some v)
    (h : ∀ u s', Inv X pins σ H s' → RelV v u → Q u s') : wpAny (model X.prog X.w) A (getAttr (.ref p) f b) Q E s := by
  obtain ⟨ob, vs, e1, e2, e3, e4, e5, e6⟩ := xq_get I ep
  obtain ⟨mA, n0, r0, w0⟩ := do_get I ed
  obtain ⟨u, hu, ru⟩ := RelO.some_of (v := v) (o := mA f) (by rw [← l]; exact r0 f)
  exact exc_read Y hh I.kIn hf e1 e2 e3 e5 n0 hu (handed_of ru) (h u _ (I.tok _) ru)
end
end L2.Ex

end
section
set_option Elab.async false
set_option linter.all false
set_option maxRecDepth 100000
set_option maxHeartbeats 4000000
namespace L2.Ex
open PySem PySem.Spec PyProof.Rows PySem.W
section
variable {X : Cx}
theorem pe_xfld {e : Expr} {f : Str} {pos : Pos} {ta : TE} (he : PE X e ta) (hb : attributeBase e f X.env (eval e X.env) = eval e X.env) : PE X (.Attribute e f pos) (tXF X.K ta f) := by
  intro pins s σ H Q I h
  refine attr_of hb (thn (he pins s σ H _ I h) fun u s1 ⟨x, H1, I1, rx, fr, p, C, d, fs, v, ex, ep, ed, Y, hh, hf, l, q⟩ => ?_)
  subst ex
  obtain rfl : u = Value.ref p := rx
  exact xget_ok I1 ep ed Y hh hf l fun u' s2 I2 ru => ⟨v, H1, I2, ru, q⟩
/-- what `B.__init__(self, ..)` asks of the class at B -/
structure BInit (K : Frag) (B : Addr) : Prop where
  ga : specialIn K (.ref B) "__getattribute__" = some (some (.builtin "type.__getattribute__"))
  rd : readsIn K B (.type "type") = true
  at_ : findCls K (.ref B) (.type "type") "__init__" = some (.val (.builtin "ValueError.__init__"))
/-- B.__init__(self, ..), self an exception of the class at C -/
noncomputable def tBI (C : Addr) (t : TA) : TE := fun σ H Q => t σ H fun vs H1 => ∃ fr p dx r, vs = .ref p :: r ∧ H1 p = some (XQ fr p C dx) ∧ r.length ≤ sizeLine ∧ Q .non H1
theorem pe_binit {x : Str} {B C fI : Addr} {np apos pos : Pos} {e : Expr} {es : List Expr} {t : TA} {pl : Sem Bool} (Z : BInit X.K B) (O : OwnI X.K C fI veB "ValueError.__new__") (hm : X.mg x = some (.ref B)) (hg : Gl X x) (ha : PA X (e :: es) t)
    (hdb : (x == ("__debug__" : Str)) = false := by decide) (hst : starEach (e :: es) X.env = (false, eval e X.env) :: starEach es X.env := by rfl) (hpl : (backTo pos (starEach es X.env)).any (·.1) = false := by rfl)
    (ht : eval (.Call (.Attribute (.Name x np) "__init__" apos) (e :: es) [] pos) X.env = (do
      let ov ← eval (.Name x np) X.env
      standAt apos.atName
      let (f, first) ← holding [ov] (getMethod ov "__init__" pl)
      callWith pos f first (backTo pos (starEach (e :: es) X.env)) (backToKw pos (keywordEach [] X.env))) := by rfl) :
    PE X (.Call (.Attribute (.Name x np) "__init__" apos) (e :: es) [] pos) (tBI C t) := by
  intro pins s σ H Q I h
  have F := PySem.F.excBase_ValueError
  refine methodCall_KW (pl := pl) (ld_glob I hg hm ?_ hdb) ht
  refine method_cls I.kIn Z.ga (cls_value I.kIn Z.rd Z.at_ rfl ?_)
  have hA := ha pos pins _ σ H _ (I.tok (s.toks + 1)) h
  rw [hst] at hA ⊢
  refine Calls.callWith_builtin (by show (false || (backTo pos (starEach es X.env)).any (·.1)) = false; rw [hpl] <;> rfl) (Calls.evalArgs_plain (thn hA fun us s2 z => ?_))
  obtain ⟨vs, H2, I2, r2, fr, p, dx, r, rfl, ep, lz, q⟩ := z
  obtain ⟨u0, ur, rfl, ru, rr⟩ : ∃ u0 ur, us = u0 :: ur ∧ RelV (.ref p) u0 ∧ Vals r ur := by
    cases r2 with
    | cons a b => exact ⟨_, _, rfl, a, b⟩
  obtain rfl : u0 = Value.ref p := ru
  obtain ⟨ob, fv, e1, e2, e3, e4, e5, e6⟩ := xq_get I2 ep
  obtain ⟨nm, q', N, bs, bm, hdct, sn, sub, ab, col, dd, k0, k1, k2, k3, k5, l, tl⟩ := O.at_
  have K2 := I2.kIn
  obtain ⟨h2, g2, d2, t2, o2⟩ := s2
  have lz' : ur.length ≤ sizeLine := by rw [← rr.length]; exact lz
  show wpAny _ _ (call (.builtin "ValueError.__init__") (.ref p :: ur)) _ _ _
  refine wpAny_call (codeAny_call_builtin F.init.plain F.initEntry (wpAny_check_init_subT F (tail_of_in K2 tl) (K2 _ _ l) e1 e2 ?_))
  have e1' := Heap.get?_push_of_some (h := h2) { cls := .type "tuple", data := .seq ur.toArray } e1
  obtain ⟨f0, e0⟩ : ∃ f0, fv[0]? = some f0 := ⟨_, Array.getElem?_eq_getElem e4.1⟩
  unfold Builtin.«BaseException.__init__» Builtin.BaseException.bexcPut
  refine wpAny_bind (wpAny_newTuple ?_ lz')
  refine wpAny_bind (wpAny_bind (wpAny_field e1' e3 e0 (wpAny_bind (wpAny_setField e1' e3 e4.1 ?_))))
  have dT := Obj.data_mapFields e3 (·.setIfInBounds 0 (Value.ref h2.objs.size))
  have gs := Heap.get?_update_self (h := h2.push { cls := .type "tuple", data := .seq ur.toArray }) (Obj.mapFields (·.setIfInBounds 0 (Value.ref h2.objs.size))) e1' (Obj.isFreed_of_fields dT)
  have fin : EP X pins σ Q Value.none ⟨(h2.push { cls := .type "tuple", data := .seq ur.toArray }).update p (Obj.mapFields (·.setIfInBounds 0 (Value.ref h2.objs.size))), g2, d2, t2, o2⟩ := by
    have I3 := I2.write (x := p) (e := p) (o := XQ fr p C dx) (t' := t2) (h' := (h2.push { cls := .type "tuple", data := .seq ur.toArray }).update p (Obj.mapFields (·.setIfInBounds 0 (Value.ref h2.objs.size)))) (by rw [ep]; exact True.intro) (.inl rfl)
      (fun b u2 hb z => (Heap.get?_update_other _ _ (Ne.symm hb)).trans (Heap.get?_push_of_some _ z)) ⟨_, gs⟩
      (xq_ok ⟨_, _, gs, by rw [Obj.cls_mapFields]; exact e2, dT, ⟨by simpa using e4.1, fun z => by simpa using e4.2 z⟩, by rw [dict_map]; exact e5, e6⟩)
    have eh : upd H2 p (XQ fr p C dx) = H2 := by
      funext b
      by_cases z : b = p
      · rw [z, upd_same, ep]
      · rw [upd_ne z]
    rw [eh] at I3
    exact ⟨.non, H2, I3, rfl, q⟩
  cases f0 <;> first | exact wpAny_pure (wpAny_pure fin) | exact wpAny_letGo (wpAny_pure fin)
end
end L2.Ex

end
section
set_option Elab.async false
set_option linter.all false
set_option maxRecDepth 100000
set_option maxHeartbeats 4000000
namespace L2.Ex
open PySem PySem.Spec PyProof.Rows PySem.W
/-- what stands at a is tracked no more -/
noncomputable def del (H : Hp) (a : Addr) : Hp := fun b => if b = a then none else H b
theorem del_same {H : Hp} {a : Addr} : del H a a = none := by unfold del; rw [if_pos rfl]
theorem del_ne {H : Hp} {a b : Addr} (n : b ≠ a) : del H a b = H b := by unfold del; rw [if_neg n]
theorem del_none {H : Hp} {a b : Addr} (n : H b = none) : del H a b = none := by unfold del; split <;> first | rfl | exact n
theorem hok_del {P : Program} {w : World} {H : Hp} {h : Heap} {a : Addr} {φ : Heap → Prop} (x : HOk P w H h) (e : H a = some (.ext φ)) : HOk P w (del H a) h := fun b o q => by
  by_cases z : b = a
  · rw [z, del_same] at q; cases q
  rw [del_ne z] at q
  exact (x b o q).stay (fun _ _ _ q => q) (fun c q => by rw [del_ne (fun z => by rw [z, e] at q; cases q)]; exact q) fun c xs q => by rw [del_ne (fun z => by rw [z, e] at q; cases q)]; exact q
theorem un_del {fs ch : List Addr} {H0 H : Hp} {h0 h : Heap} {a : Addr} {φ : Heap → Prop} (u : Un fs ch H0 H h0 h) (e : H a = some (.ext φ)) : Un fs ch H0 (del H a) h0 h where
  keep := u.keep
  slot := u.slot
  free := fun b o q n hx => del_none (u.free b o q n hx)
  there := u.there
  tups := fun b xs q => by
    have z := u.tups b xs q
    rw [del_ne (fun y => by rw [y, e] at z; cases z)]; exact z
  frzs := fun b o xs q => by
    have z := u.frzs b o xs q
    rw [del_ne (fun y => by rw [y, e] at z; cases z)]; exact z
  tbls := fun b ps q => by
    obtain ⟨m, z⟩ := u.tbls b ps q
    exact ⟨m, by rw [del_ne (fun y => by rw [y, e] at z; cases z)]; exact z⟩
section
variable {X : Cx}
/-- C(..) is run: laid, then its own __init__ -/
theorem run_excI {pins : List (Addr × Obj)} {σ : St} {H : Hp} {s : Shared} {Q : Addr → Hp → Prop} {us : List Value} {vs : List V} {k : Nat} {C fI : Addr} {fd : FuncData} {ps : List Str} {sp : Sp} {E : Value → Shared → Prop} (O : OwnI X.K C fI veB "ValueError.__new__") (F : FnOk X.prog X.w X.K X.mg X.base CX0 k fI fd ps sp) (hr : Room (k + 1) X.A) (hb : Binds X.K fd ps [])
    (I : Inv X pins σ H s) (r : Vals vs us) (lz : vs.length ≤ sizeLine) (h : ∀ p, H p = none → sp (.ref p :: vs) (upd H p (XQ true p C none)) (fun v H2 => v = .non ∧ Q p H2) E0) :
    wpAny (model X.prog X.w) X.A (call (.ref C) us) (fun v s' => ∃ p, v = .ref p ∧ s.heap.get? p = none ∧ ∃ H', Inv X pins σ H' s' ∧ Q p H') E s := by
  have lz' : us.length ≤ sizeLine := by rw [← r.length]; exact lz
  obtain ⟨h1, g1, d1, t1, o1⟩ := s
  refine exc_call PySem.F.excBase_ValueError I.kIn O lz' fun h' p m => ?_
  have np : H p = none := hok_none I.hok m.new
  obtain ⟨tt, ht, _, _⟩ := m.there
  have I2 : Inv X pins σ (upd H p (XQ true p C none)) ⟨h', g1, d1, t1, o1⟩ := I.un (h' := h') (t' := t1) (un_new m.keeps m.new np) (hok_new I.hok m.keeps np (xq_ok ⟨_, _, ht, rfl, rfl, ⟨by simp, fun _ => rfl⟩, rfl, fun d z => by cases z⟩))
  have hq := h p np
  have r2 : Vals (V.ref p :: vs) (Value.ref p :: us) := .cons rfl r
  have hl : (Value.ref p :: us ++ []).length = ps.length := by
    rw [List.append_nil, ← r2.length]
    exact F.len _ _ _ _ hq
  have hbb := hb ⟨h', g1, d1, t1, o1⟩ (Value.ref p :: us) I2.kIn hl
  rw [List.append_nil] at hbb
  refine wpAny_call (codeAny_mono (F.run _ X.stack _ _ ⟨Value.ref p :: us, []⟩ (Value.ref p :: us) _ _ E0 (hr.make C us []) (I2.env0.make C us []) hbb r2 hq) fun rr s' hq' => ?_)
  cases rr with
  | error e => exact hq'.elim
  | ok fl =>
    cases fl with
    | ret u =>
      obtain ⟨v, H', I3, rv, ev, q3⟩ := I2.after hq'
      subst ev
      exact ⟨rv, p, rfl, m.new, H', I3, q3⟩
    | next => exact False.elim hq'
    | brk => exact False.elim hq'
    | cont => exact False.elim hq'
/-- an exception made here with its attributes, seen from the body -/
theorem xs_madeI {E : XK} {pins : List (Addr × Obj)} {σ : St} {H H' : Hp} {s s' : Shared} {p C : Addr} {dx : Option Addr} (I0 : Inv X pins σ H s) (n0 : s.heap.get? p = none) (I : Inv X pins σ H' s') (hst : X.stack = X.env :: X.outer) (hf : X.env.frame = some X.env.locals) (hex : X.ex = []) (ep : H' p = some (XQ true p C dx)) (q : E (.ref C) dx (del H' p)) : XS X E (.ref p) s' := by
  have st0 := Inv.strange I0 hex n0
  have b0 := I.base
  rw [hex] at b0
  have st := I.stack
  rw [hst] at st
  obtain ⟨ob, vs, e1, e2, e3, e4, e5, e6⟩ := xq_get I ep
  refine ⟨p, .ref C, dx, del H' p, rfl, ⟨st0.s0, del_same, I.os, I.bare, un_del b0 ep, hok_del I.hok ep, st, (fun b hb => del_none (I.stkFree b (by rw [hst]; exact hb))), Heap.get?_none_of_le I.ok.above, hf, (by rw [← hst]; exact I.ok.frames), q⟩, .inl ⟨ob, vs, e1, ⟨e2, e5⟩, e3, e4.2 rfl⟩⟩
theorem raise_obj {M : Model} {A : Around} {E : Value → Shared → Prop} {s : Shared} {K : Frag} {env : Env} {C : Addr} {x : Sem Value} {Q : Flow → Shared → Prop} (be : mroIn K C (.type "BaseException") = some true) (ty : typeIn K (.ref C) = some (.type "type")) (hh : A.handled = none)
    (h : wpAny M A x (fun v s1 => ∃ p ob vs, v = .ref p ∧ K.In s1.heap ∧ s1.heap.get? p = some ob ∧ ob.cls = .ref C ∧ ob.data = .fields vs ∧ vs[1]? = some .none ∧ E (.ref p) s1) E s) : wpAny M A (raiseStmt env (some x) none) Q E s := by
  unfold raiseStmt
  refine wpAny_bind (wpAny_mono h (fun v s1 z => ?_) fun _ _ z => z)
  obtain ⟨p, ⟨oc, od, oda, osl⟩, vs, rfl, Xk, e1, e2, e3, e4, q⟩ := z
  simp only at e2 e3
  subst e2 e3
  obtain ⟨h1, g1, d1, t1, o1⟩ := s1
  have l0 : Looks M h1 (typeOf (.ref p)) (.ref C) := (Looks.ld e1).andThen .now
  have l1 : Looks M h1 (isInstance (.ref p) (.type "BaseException")) true := l0.andThen (looks_mroIn Xk be)
  have l2 := looks_typeIn (M := M) Xk ty
  have l3 : Looks M h1 (isType (.ref p)) false := (Looks.ld e1).andThen .now
  have l4 : Looks M h1 (isExcClass (.ref p)) false := l3.andThen .now
  refine wpAny_bind (wpAny_pure (wpAny_bind (wpAny_holding ?_)))
  unfold excFromValue raisedInstance setFlight
  refine wpAny_bind (l4.at ?_)
  rw [if_neg Bool.false_ne_true]
  refine wpAny_bind (l1.at ?_)
  rw [if_pos rfl]
  refine wpAny_pure (wpAny_bind (l3.at ?_))
  rw [if_neg Bool.false_ne_true]
  refine wpAny_bind (wpAny_bind (l0.at (wpAny_bind (l2.at ?_))))
  rw [if_pos (show (Value.type "type" == Value.type "type") = true by decide)]
  refine wpAny_pure (wpAny_bind (wpAny_bind (wpAny_field e1 rfl e4 ?_)))
  rw [if_neg (show ¬ ((Value.none != Value.none) = true) by decide)]
  exact wpAny_pure (wpAny_raiseNew_none hh q)
/-- raise C(..), C with an __init__ of its own -/
noncomputable def tRaiseI (C : Addr) (sp : Sp) (E : XK) (t : TA) : TS := fun _ σ H => t σ H fun vs H1 => vs.length ≤ sizeLine ∧ ∀ p, H1 p = none → sp (.ref p :: vs) (upd H1 p (XQ true p C none)) (fun v H2 => v = .non ∧ ∃ dx, H2 p = some (XQ true p C dx) ∧ E (.ref C) dx (del H2 p)) E0
theorem ps_raiseI {Y : Cx} {E : XK} {x : Str} {C fI : Addr} {k n : Nat} {fd : FuncData} {ps : List Str} {sp : Sp} {np cpos pos : Pos} {e : Expr} {es : List Expr} {t : TA} (O : OwnI Y.K C fI veB "ValueError.__new__") (F : FnOk Y.prog Y.w Y.K Y.mg Y.base CX0 k fI fd ps sp) (hr : Room n Y.A) (hb : Binds Y.K fd ps []) (hm : Y.mg x = some (.ref C)) (kp : keepIn Y.K (.ref C) = true) (be : mroIn Y.K C (.type "BaseException") = some true) (ty : typeIn Y.K (.ref C) = some (.type "type"))
    (ha : PA (Y.wish (XS Y E)) (e :: es) t) (hn : k + 1 ≤ n := by omega) (hst : Y.stack = Y.env :: Y.outer := by rfl) (hf : Y.env.frame = some Y.env.locals := by rfl) (hex : Y.ex = [] := by rfl) (hc : Y.calm = true := by rfl) (hg : Gl Y x := by rfl) (hdb : (x == ("__debug__" : Str)) = false := by decide)
    (he : starEach (e :: es) Y.env = (false, eval e Y.env) :: starEach es Y.env := by rfl) (hpl : (backTo cpos (starEach es Y.env)).any (·.1) = false := by rfl) :
    PS (Y.wish (XS Y E)) (.Raise (some (.Call (.Name x np) (e :: es) [] cpos)) none pos) (tRaiseI C sp E t) := by
  intro pins s σ H D I h
  have hh := I.ok.hd hc
  rw [arm_exec_Raise]
  refine wpAny_bind (wpAny_standAt (raise_obj (K := Y.K) (C := C) be ty hh (wpAny_bind ?_)))
  refine wpAny_Call_Name_kw (ld_glob I hg hm ?_ hdb)
  refine callWith_K (h₀ := Y.base) I.ok.mod.kin kp (thn (ha cpos pins s σ H _ I h) fun us s1 z => ?_) he hpl
  obtain ⟨vs, H1, I1, r, lz, qE⟩ := z
  refine ⟨I1.kIn, ?_⟩
  refine wpAny_mono (run_excI (X := Y) (Q := fun p H2 => ∃ dx, H2 p = some (XQ true p C dx) ∧ E (.ref C) dx (del H2 p)) (E := XS Y E) O F (hr.mono hn) hb I1.unwish r lz fun p np => ?_) (fun v s' z => ?_) fun _ _ z => z
  · exact qE p np
  · obtain ⟨p, rfl, n0, H', I3, dx, ep, q⟩ := z
    obtain ⟨ob, vs', e1, e2, e3, e4, e5, e6⟩ := xq_get I3 ep
    refine wpAny_bind (wpAny_standAt (wpAny_pure ⟨p, ob, vs', rfl, I3.kIn, e1, e2, e3, e4.2 rfl, xs_madeI I1.unwish n0 I3 hst hf hex ep q⟩))
end
end L2.Ex

end
section
set_option Elab.async false
set_option linter.all false
set_option maxRecDepth 100000
set_option maxHeartbeats 4000000
namespace L2.Ex
open PySem PySem.Spec PyProof.Rows PySem.W
/-- what the suite has to do with an exception, whatever its class and its dict -/
noncomputable def Suite2 (K : Frag) (B : Addr) (k : Nat) (ts : TS) (D : Ends) (σ : St) : XK := fun cls dx H2 => ∃ C, cls = .ref C ∧ mroIn K C (.ref B) = some true ∧ (∀ d, dx = some d → ∃ o, H2 d = some o) ∧
  ∀ a, H2 a = none → ts { nx := fun σ' H' => D.nx (σ'.set k none) H', rt := fun _ _ => False } (σ.set k (some (.ref a))) (upd H2 a (XQ false a C dx))
theorem caught2 {X : Cx} {pins : List (Addr × Obj)} {σ : St} {H1 : Hp} {s1 s' : Shared} {e : Value} {B : Addr} {Bn n : Str} {np hpos : Pos} {k : Nat} {b₀ : Stmt} {suite : List Stmt} {rest : List ExceptHandler} {ts : TS} {D : Ends}
    (I : Inv X pins σ H1 s1) (x : CXF X.prog X.w X.stack H1 s1 (Suite2 X.K B k ts D σ) e s') (Y : ExCls X.K B) (hm : X.mg Bn = some (.ref B)) (hN : X.N.Nodup) (hk : X.N[k]? = some n) (hl : X.env.scope.names.lookup n = some .local) (hS : ∀ a, PSs (inSuite X (.ref a)) (b₀ :: suite) ts)
    (hst : X.stack = X.env :: X.outer) (hf : X.env.frame = some X.env.locals) (hex : X.ex = []) (hc : X.calm = true) (hg : Gl X Bn) (hdb : (Bn == ("__debug__" : Str)) = false) :
    wpAny (model X.prog X.w) X.A (noteFrame e X.env) (fun _ s₂ => wpAny (model X.prog X.w) X.A (setFlight e none) (fun _ s₃ => wpAny (model X.prog X.w) X.A (handleBy e X.env (.ExceptHandler (some (.Name Bn np)) (some n) (b₀ :: suite) hpos :: rest)) (SP X pins D) X.xe s₃) X.xe s₂) X.xe s' := by
  obtain ⟨a, T, cls, dx, H', rfl, t, na, nT, ua, uT, os, bare, un, hok, C, rfl, hsub, there, q⟩ := x
  have I' : Inv X pins σ H' s' := I.call' os un hok bare (fun _ z => nomatch z)
  have qa0 := Inv.strange I hex na
  have qT0 := Inv.strange I hex nT
  have qa : Strange X pins H' a := ⟨qa0.s0, ua, qa0.nl, qa0.nc, qa0.np⟩
  have qT : Strange X pins H' T := ⟨qT0.s0, uT, qT0.nl, qT0.nc, qT0.np⟩
  have hfr : X.A.frames = some (X.env :: X.outer) := by rw [← hst]; exact I.ok.frames
  have hd := I.ok.hd hc
  have st' := I'.stack
  rw [hst] at st'
  refine note_next hfr st' hf t fun h2 T2 n2 t2 y2 => ?_
  have qT2 := Inv.strange I' hex n2
  rw [← hst] at y2
  have I2 := Inv.wr (t' := s'.toks) I' hex y2 (fun b hb => by
    rcases List.mem_cons.mp hb with z | z
    · rw [z]; exact qa
    · rw [List.mem_singleton.mp z]; exact qT)
  refine set_flight (S := frs X.stack) (fr := none) t2 fun h3 t3 y3 => ?_
  have I3 := Inv.wr (t' := s'.toks) I2 hex y3 (fun b hb => by rw [List.mem_singleton.mp hb]; exact qT2)
  refine wpAny_handleBy_cons ?_ (fun z => nomatch z)
  refine codeAny_handlers_test ?_
  have J3 := inv_suite (.ref a) I3
  refine ld_glob (X := inSuite X (.ref a)) J3 hg hm ?_ hdb
  obtain ⟨oe, vs, oT, tt, he, ⟨hcl, hdi⟩, hda, h1, ne, hT, hdT, h3'⟩ := id t3
  refine matches_ex I3.kIn Y he hcl hsub ?_
  show codeAny _ _ _ _ _
  refine codeAny_handlers_suite_as ?_
  refine set_flight (S := frs X.stack) (fr := none) t3 fun h4 t4 y4 => ?_
  have I4 := Inv.wr (t' := s'.toks) I3 hex y4 (fun b hb => by rw [List.mem_singleton.mp hb]; exact qT2)
  obtain ⟨oe4, vs4, oT4, tt4, he4, ⟨hcl4, hdi4⟩, hda4, h14, _⟩ := id t4
  have neD : ∀ d, dx = some d → d ≠ a := fun d z w => by
    obtain ⟨o, e⟩ := there d z
    rw [w, ua] at e
    cases e
  have I5 := Inv.track I4 qa (xq_ok ⟨oe4, vs4, he4, hcl4, hda4, ⟨Nat.lt_of_lt_of_le Nat.zero_lt_one (Nat.le_of_lt (Array.getElem?_eq_some_iff.mp h14).1), fun z => nomatch z⟩, hdi4, fun d z => neD d z⟩ : ObjOk X.prog X.w (upd H' a (XQ false a C dx)) h4 a (XQ false a C dx))
  have J5 := inv_suite (.ref a) I5
  refine store_ok (X := inSuite X (.ref a)) (i := k) (v := .ref a) J5 hN hk (Or.inl hl) rfl (fun s6 J6 => ?_) (.inr hl)
  refine wpAny_mono (hS a pins s6 _ _ _ J6 (q a ua)) (fun f s7 z => ?_) (fun _ _ z => False.elim z)
  cases f with
  | next =>
    obtain ⟨σ', H'', J7, dn⟩ := z
    have I7 := inv_out hd J7
    obtain ⟨m, hn, _⟩ := I7.loc
    refine name_goes hl hn (by rw [I.ok.kind]; rfl) fun h8 v n8 s8 => ?_
    exact ⟨σ'.set k none, H'', Inv.gone I7 hk hl hn n8 s8 hN, dn⟩
  | ret u => obtain ⟨_, _, _, _, _, z⟩ := z; exact z.elim
  | brk => obtain ⟨_, _, _, z⟩ := z; exact z.elim
  | cont => obtain ⟨_, _, _, z⟩ := z; exact z.elim
/-- try: x = f(..) / except B as n: .., with the exception's attributes -/
noncomputable def tTryB (K : Frag) (B : Addr) (i k : Nat) (sp : Sp) (t : TA) (ts : TS) : TS := fun D σ H => t σ H fun vs H1 => sp vs H1 (fun v H2 => D.nx (σ.set i (some v)) H2) (Suite2 K B k ts D σ)
theorem ps_tryB {X : Cx} {x f : Str} {ps : List Str} {lv lw : Nat} {sp : Sp} {p cpos px apos np hpos pos : Pos} {e : Expr} {es : List Expr} {t : TA} {B : Addr} {Bn n : Str} {i k : Nat} {b₀ : Stmt} {suite : List Stmt} {ts : TS}
    (c : CalX X.prog X.w X.K X.mg X.base f ps lv sp) (hr : Room lw X.A) (ha : PA X.nox (e :: es) t) (Y : ExCls X.K B) (hm : X.mg Bn = some (.ref B)) (hN : X.N.Nodup) (hi : X.N[i]? = some x) (hx : X.env.scope.names.lookup x = some .local) (hk : X.N[k]? = some n) (hl : X.env.scope.names.lookup n = some .local) (hS : ∀ a, PSs (inSuite X (.ref a)) (b₀ :: suite) ts)
    (hn : lv ≤ lw := by omega) (hst : X.stack = X.env :: X.outer := by rfl) (hf : X.env.frame = some X.env.locals := by rfl) (hex : X.ex = [] := by rfl) (hc : X.calm = true := by rfl) (hgf : Gl X f := by rfl) (hgB : Gl X Bn := by rfl) (hdf : (f == ("__debug__" : Str)) = false := by decide) (hdB : (Bn == ("__debug__" : Str)) = false := by decide)
    (he : starEach (e :: es) X.env = (false, eval e X.env) :: starEach es X.env := by rfl) (hpl : (backTo cpos (starEach es X.env)).any (·.1) = false := by rfl) (hsw : swapsWith (.Call (.Name f p) (e :: es) [] cpos) (some (.Name x px)) apos.line X.env = pure false := by rfl) :
    PS X (.Try [.Assign [.Name x px] (.Call (.Name f p) (e :: es) [] cpos) apos] [.ExceptHandler (some (.Name Bn np)) (some n) (b₀ :: suite) hpos] [] [] pos) (tTryB X.K B i k sp t ts) := by
  intro pins s σ H D I h
  refine wpAny_Try_except ?_
  have body : wpAny (model X.prog X.w) X.A (exec (.Assign [.Name x px] (.Call (.Name f p) (e :: es) [] cpos) apos) X.env) (SP X pins { D with bk := fun _ _ => False, ct := fun _ _ => False, rt := fun _ _ => False }) (fun e' s' => ∃ H1 s1, Inv X pins σ H1 s1 ∧ CXF X.prog X.w X.stack H1 s1 (Suite2 X.K B k ts D σ) e' s') s := by
    refine wpAny_Assign_Name (thn (eval_cal c hr hn ha I h hgf hdf he hpl) fun v s1 z => ?_) hsw
    obtain ⟨y, H1, I1, r1, q1⟩ := z
    exact store_ok I1 hN hi (Or.inl hx) r1 (fun s2 I2 => ⟨_, H1, I2, q1⟩) (.inr hx)
  refine wpAny_execs_cons (wpAny_mono body (fun fl s1 z => ?_) fun e' s1 z => ?_)
  · cases fl with
    | next => exact wpAny_execs_nil (wpAny_execs_nil z)
    | ret u => obtain ⟨_, _, _, _, _, z⟩ := z; exact z.elim
    | brk => obtain ⟨_, _, _, z⟩ := z; exact z.elim
    | cont => obtain ⟨_, _, _, z⟩ := z; exact z.elim
  · obtain ⟨H1, s2, I2, xx⟩ := z
    exact caught2 I2 xx Y hm hN hk hl hS hst hf hex hc hgB hdB

section
variable {X : Cx}
theorem kitx_inst {K : Frag} {p C : Addr} (Y : ExFind K C) : KitX K (.ref p) (.ref C) (fun h => ∃ o od, InstAt h p o C od) where
  ty := fun M h _ z => let ⟨_, _, I⟩ := z; I.type
  it := fun M h X _ => is_type X Y.is
  ne := fun h tp dd its n sl X e => by
    obtain ⟨c', d', cd', sl', hk⟩ := cls_at Y.is
    refine beq_eq_false_iff_ne.mpr fun z => ?_
    cases z
    rw [X _ _ hk] at e
    cases e
  ca := fun {prog w A E Q s} X z hq => by
    obtain ⟨_, _, I⟩ := z
    obtain ⟨h, g, d, t, os⟩ := s
    exact class_attr Y X I hq
/-- isinstance(x, D), x an exception with or without attributes -/
noncomputable def rIsX (K : Frag) : List V → Hp → VK → Prop := fun xs H Q => ∃ (fr : Bool) (p C : Addr) (dx : Option Addr) (c : V) (cv : Value) (b : Bool), xs = [.ref p, c] ∧ RelV c cv ∧ (∀ u, RelV c u → u = cv) ∧ H p = some (XQ fr p C dx) ∧ (∀ d, dx = some d → ∃ fs, H d = some (DO d fs)) ∧ ExFind K C ∧ kitOne K (.ref C) cv = some b ∧ Q (.bl b) H
theorem call_isX2 : CallR X (.builtin "isinstance") (rIsX X.K) := by
  intro pins s σ H xs us Q I r h
  obtain ⟨fr, p, C, dx, c, cv, b, rfl, rc, un, hp, hd, Y, k, q⟩ := h
  obtain ⟨u, v, e, ru, rv⟩ := Vals.two r
  subst e
  cases (show u = Value.ref p from ru)
  rw [un v rv]
  have J : ∃ o od, InstAt s.heap p o C od := by
    obtain ⟨ob, vs, e1, e2, e3, e4, e5, e6⟩ := xq_get I hp
    cases dx with
    | none => exact ⟨ob, none, e1, e2, by unfold notCls; rw [e3], by rw [e5]; trivial⟩
    | some d =>
      obtain ⟨fs, ed⟩ := hd d rfl
      obtain ⟨mA, ⟨od, es, ep, e7, _⟩, _⟩ := do_get I ed
      exact ⟨ob, some od, e1, e2, by unfold notCls; rw [e3], by rw [e5]; exact e7⟩
  exact kia_one (kitx_inst Y) I.kIn J k (fun z => nomatch z) fun tk => ⟨.bl b, H, I.tok tk, rfl, q⟩
end
end L2.Ex

end
section
set_option Elab.async false
set_option linter.all false
set_option maxRecDepth 100000
set_option maxHeartbeats 4000000
namespace L2.Bw
open PySem PySem.Spec PyProof.Rows
/-- pairs (i, the list's item at i) -/
noncomputable def ItL (K : PySem.W.Frag) (a : Addr) : It where
  go := fun i H => ∃ xs, SqL K H a xs ∧ i < xs.length
  yld := fun i H v H' => ∃ T x, v = .ref T ∧ H T = none ∧ H' = upd H T (.tup [.int (i : Nat), x]) ∧ ∀ xs, SqL K H a xs → xs[i]? = some x
  stop := fun i H => ∃ xs, SqL K H a xs ∧ xs.length = i
theorem turn_enumL {P : Program} {w : World} {K : PySem.W.Frag} {es : List Expr} {k : Nat} {tp : Pos} (a e it : Addr) (ne : e ≠ it) :
    Turn P w K (.Tuple es k tp) (ItL K a) [e, it] e (fun i h => (∃ old, IsEnum h e it (i : Nat) old) ∧ h.IsListIter it a i) where
  mem := by simp
  obj := fun i h st c hc => by
    obtain ⟨⟨old, h1⟩, ⟨o2, e2, c2, d2⟩⟩ := st
    have hc' : c = e ∨ c = it := by simpa using hc
    rcases hc' with rfl | rfl
    · exact ⟨_, h1, fun v q => by cases (show Data.fields _ = Data.cell v from q)⟩
    · exact ⟨o2, e2, fun v q => by rw [d2] at q; cases q⟩
  keep := fun i h h' st kp => by
    obtain ⟨⟨old, h1⟩, h2⟩ := st
    exact ⟨⟨old, kp e (by simp) _ h1⟩, h2.at fun o q => kp it (by simp) o q⟩
  item := by
    intro X hP hw hK hc i pins s σ H E I hf st hg
    subst hP hw hK
    obtain ⟨xs, hx, l1⟩ := hg
    obtain ⟨its, r1, p1, z1⟩ := I.list hx
    have len := r1.length
    have W := WalksT.enumerate (prog := X.prog) (w := X.w) (A := X.A) (I.ok.hd hc) e it a ne (off_of I (hf e (by simp)) hx) (off_of I (hf it (by simp)) hx) its.toArray
    refine W.item i s _ _ (by simp; omega) ⟨st.1, st.2, p1.isList⟩ fun T vals h' tk hv hT ht hm kp => ?_
    obtain ⟨t, x, ex, rfl⟩ := hv
    have Tw : T ∉ [e, it] := W.apart _ _ _ hm
    refine ⟨_, rfl, W.go es k tp i T _ _ _ hm fun h2' st2 kp2 => ?_⟩
    obtain ⟨g1, g2, _⟩ := st2
    obtain ⟨xv, ev, rx⟩ : ∃ xv, xs[i]? = some xv ∧ RelV xv x := by
      have hi : xs[i]? = some xs[i] := List.getElem?_eq_getElem l1
      obtain ⟨u, hu, ru⟩ := r1.get hi
      have e2 : its[i]? = some x := by simpa using ex
      rw [e2] at hu; cases hu
      exact ⟨_, hi, ru⟩
    have ht2 : IsTup h2' T #[.int i t, x] := by
      obtain ⟨o, eo, r⟩ := ht
      exact ⟨o, kp2 T o Tw eo, r⟩
    have I2 : Inv X pins σ (upd H T (.tup [.int (i : Nat), xv])) { s with heap := h2', toks := tk } :=
      turnedT (ch := [e, it]) I (fun b o hb q => kp2 b o hb (kp b o hb q)) hf hT ⟨[.int i t, x], .cons ⟨t, rfl⟩ (.cons rx .nil), ht2⟩ (by show 2 ≤ sizeLine; decide)
    refine ⟨.ref T, _, I2, rfl, ⟨T, xv, rfl, I.hok.fresh hT, rfl, fun us hu => by rw [I.list_inj hu hx]; exact ev⟩, ⟨g1, g2⟩, fun b hb => ?_⟩
    have hbT : b ≠ T := fun z => Tw (z ▸ hb)
    rw [upd_ne hbT]
    exact (hf b hb).1
  done := by
    intro X hP hw hK hc i pins s σ H E I hf st hg
    subst hP hw hK
    obtain ⟨xs, hx, hi⟩ := hg
    obtain ⟨its, r1, p1, z1⟩ := I.list hx
    have len := r1.length
    have W := WalksT.enumerate (prog := X.prog) (w := X.w) (A := X.A) (I.ok.hd hc) e it a ne (off_of I (hf e (by simp)) hx) (off_of I (hf it (by simp)) hx) its.toArray
    have hn : i = its.toArray.size := by simp; omega
    refine W.done s _ _ (by rw [← hn]; exact ⟨st.1, st.2, p1.isList⟩) fun h' tk kp => ⟨rfl, ?_⟩
    exact turnedN (ch := [e, it]) I kp hf
  self := fun _ _ _ _ _ st h => let ⟨⟨_, z⟩, _⟩ := st; wpAny_pyIter_enum z h
section
variable {X : Cx}
noncomputable def iEnumL (K : PySem.W.Frag) (ta : TA) : TI := fun σ H R => ta σ H fun vs H1 => ∃ a xs, vs = [.ref a] ∧ H1 a = some (.lst xs) ∧ R (ItL K a) H1
theorem pi_enumerate {es : List Expr} {k : Nat} {tp p pos : Pos} {a : Expr} {ta : TA} (hg : Gl X "enumerate") (hm : X.mg "enumerate" = none) (ha : PA X [a] ta) (hs : starEach [a] X.env = [(false, eval a X.env)] := by rfl) :
    PI X (.Tuple es k tp) (.Call (.Name "enumerate" p) [a] [] pos) (iEnumL X.K ta) := by
  intro pins s σ H R I h
  refine Call_ (ld_blt I hg hm boot_enumerate (PyProof.Rows.callWith_type1 (thn (ha pos pins s σ H _ I h) fun us s1 q1 => ?_) (by rw [hs]; rfl) rfl))
  obtain ⟨vs, H1, I1, r1, l, xs, e, hx, q⟩ := q1
  subst e
  obtain ⟨u, e, ru⟩ := Vals.one r1
  subst e
  cases ru
  obtain ⟨lz, its, n, v1, _, ho⟩ := I1.lstM hx
  refine call_enumerate_1 ho fun h' g1 g2 hsz kp => wpAny_pyIter_enum g1 ?_
  have I2 : Inv X pins σ H1 { s1 with heap := h' } := I1.kept (t' := s1.toks) kp
  refine ⟨s1.heap.objs.size + 1, [s1.heap.objs.size + 1, s1.heap.objs.size], _, ItL X.K l, H1, rfl, I2, turn_enumL l _ _ (Nat.succ_ne_self _), ⟨⟨_, g1⟩, g2⟩, fun c hc => ?_, q⟩
  have hc' : s1.heap.objs.size ≤ c := by
    rcases List.mem_cons.mp hc with z | z
    · rw [z]; exact Nat.le_succ _
    · rw [List.mem_singleton.mp z]; exact Nat.le_refl _
  exact I1.fpOk hc' (I1.hok.fresh hc')
end
end L2.Bw

end
section
set_option Elab.async false
set_option linter.all false
set_option maxRecDepth 100000
set_option maxHeartbeats 4000000
/-! Slices of texts, numbers in texts. -/
namespace L2.Bk
open PySem PySem.Spec PyProof.Rows L2.Bw L2.Ex
section
variable {X : Cx}
/-- s[lo:hi] of a text -/
noncomputable def rSlS : V → Option Int → Option Int → Hp → VK → Prop := fun x lo hi H Q => ∃ z : Str, x = .str z ∧ z.length ≤ sizeLine ∧ Q (.str (Txt.slice z lo hi)) H
theorem sl_str : SlR X rSlS := by
  intro pins s σ H x v vl vu lo hi sl Q I rx hs pl pu h
  obtain ⟨z, rfl, hz, q⟩ := h
  obtain ⟨tk, rfl⟩ := rx
  have fin : Nat.le (Txt.slice z lo hi).length sizeLine ∧ ∀ t' k, EP X pins σ Q (.str (Txt.slice z lo hi) t') { s with toks := k } := ⟨Nat.le_trans (Txt.slice_le z _ _) hz, fun t' k => ⟨.str _, H, I.tok k, ⟨t', rfl⟩, q⟩⟩
  refine ⟨"str", _, PySem.F.slot_str_getitem.lookup, typeIs_str _ _ _, ?_⟩
  cases pl <;> cases pu
  · exact wpAny_getItem_str_slice (l := none) (u := none) (st := none) hs rfl (post_val_or_str fin)
  · exact wpAny_getItem_str_slice (l := none) (u := some (_, _)) (st := none) hs rfl (post_val_or_str fin)
  · exact wpAny_getItem_str_slice (l := some (_, _)) (u := none) (st := none) hs rfl (post_val_or_str fin)
  · exact wpAny_getItem_str_slice (l := some (_, _)) (u := some (_, _)) (st := none) hs rfl (post_val_or_str fin)
/-- a slice of a list, of a tuple, of a text -/
noncomputable def rSlA (K : PySem.W.Frag) : V → Option Int → Option Int → Hp → VK → Prop := fun x lo hi H Q => rSlK K x lo hi H Q ∨ rSlS x lo hi H Q
theorem sl_a : SlR X (rSlA X.K) := sl_k.or sl_str
/-- f"{i}" of a number -/
noncomputable def tFmt (te : TE) : TE := fun σ H Q => te σ H fun v H1 => ∃ i : Int, v = .int i ∧ i.natAbs.log2 < 1920 ∧ Q (.str (Str.ofString (toString i))) H1
theorem pe_fmt {e : Expr} {te : TE} {pos : Pos} (he : PE X e te) : PE X (.FormattedValue e (-1) none pos) (tFmt te) := by
  intro pins s σ H Q I h
  refine FormattedValue_plain (thn (he pins s σ H _ I h) fun v s1 z => ?_)
  obtain ⟨y, H1, I1, r, i, rfl, hi, q⟩ := z
  obtain ⟨tk, rfl⟩ := r
  exact wpAny_formatField_int hi ⟨.str _, H1, I1.tok _, ⟨_, rfl⟩, q⟩
end
end L2.Bk

end
section
set_option Elab.async false
set_option linter.all false
set_option maxRecDepth 100000
set_option maxHeartbeats 4000000
/-! Programs as trees of data, their names. -/
namespace L2.Bk
open PySem PySem.Spec PyProof.Rows L2.Bw L2.Ex
/-- a node: its word, its place, what stands ahead of its kinds, its kinds, its parts -/
inductive Tn where
  | mk (w : Str) (p : Int) (fr mid : List Dk) (ps : List Tn)
mutual
noncomputable def Tn.d : Tn → Dk
  | .mk w p fr mid ps => .tup (.str w :: .int p :: (fr ++ mid ++ (if w = "row" then [.tup (Tn.ds ps)] else Tn.ds ps)))
noncomputable def Tn.ds : List Tn → List Dk
  | [] => []
  | t :: r => t.d :: Tn.ds r
end
noncomputable def Tn.w : Tn → Str | .mk w _ _ _ _ => w
noncomputable def Tn.p : Tn → Int | .mk _ p _ _ _ => p
noncomputable def Tn.fr : Tn → List Dk | .mk _ _ fr _ _ => fr
noncomputable def Tn.ps : Tn → List Tn | .mk _ _ _ _ ps => ps
mutual
noncomputable def Tn.dep : Tn → Nat
  | .mk _ _ _ _ ps => 1 + Tn.deps ps
noncomputable def Tn.deps : List Tn → Nat
  | [] => 0
  | t :: r => max t.dep (Tn.deps r)
end
/-- words whose things ahead are names -/
noncomputable def named : List Str := ["name", "fn", "let", "self"]
mutual
noncomputable def Tn.wf : Tn → Prop
  | .mk w p fr mid ps => (w ∈ K11.words ∧ fr.length = K11.nf w ∧ mid.length = K11.nk w ∧ (w ≠ "row" → ps.length = K11.np w) ∧ ps.length ≤ 5 ∧ (w ∈ named → ∃ ns : List Str, fr = ns.map Dk.str) ∧ 0 ≤ p ∧ p < 100000) ∧ Tn.wfs ps
noncomputable def Tn.wfs : List Tn → Prop
  | [] => True
  | t :: r => t.wf ∧ Tn.wfs r
end
theorem tds_length : ∀ (ks : List Tn), (Tn.ds ks).length = ks.length
  | [] => rfl
  | _ :: r => by show (Tn.ds r).length + 1 = r.length + 1; rw [tds_length r]
theorem tds_get : ∀ {ks : List Tn} {i : Nat} (h : i < ks.length), (Tn.ds ks)[i]? = some ks[i].d
  | _ :: _, 0, _ => rfl
  | _ :: r, i + 1, h => by
    show (Tn.ds r)[i]? = _
    exact tds_get (ks := r) (by simpa using h)
theorem tds_append : ∀ (ks ls : List Tn), Tn.ds (ks ++ ls) = Tn.ds ks ++ Tn.ds ls
  | [], _ => rfl
  | t :: r, ls => by show t.d :: Tn.ds (r ++ ls) = t.d :: (Tn.ds r ++ Tn.ds ls); rw [tds_append r ls]
theorem tdeps_get : ∀ {ks : List Tn} {i : Nat} (h : i < ks.length), ks[i].dep ≤ Tn.deps ks
  | t :: r, 0, _ => Nat.le_max_left _ _
  | t :: r, i + 1, h => Nat.le_trans (tdeps_get (ks := r) (by simpa using h)) (Nat.le_max_right _ _)
theorem twfs_get : ∀ {ks : List Tn} {i : Nat} (h : i < ks.length), Tn.wfs ks → ks[i].wf
  | t :: r, 0, _, z => z.1
  | t :: r, i + 1, h, z => twfs_get (ks := r) (by simpa using h) z.2
/-- the texts among things -/
noncomputable def txs : List Dk → List Str
  | [] => []
  | .str s :: r => s :: txs r
  | _ :: r => txs r
theorem txs_map : ∀ ns : List Str, txs (ns.map Dk.str) = ns
  | [] => rfl
  | _ :: r => by show _ :: txs (r.map Dk.str) = _; rw [txs_map r]
/-- the names that a node binds in its part i -/
noncomputable def bnd (w : Str) (ns : List Str) (i : Nat) : List Str := if w = "fn" ∨ w = "self" ∨ (w = "let" ∧ i = 1) then ns else []
mutual
/-- the free names, in order, with their places -/
noncomputable def Tn.frees : Tn → List Str → List (Int × Str)
  | .mk w p fr _ ps, bs => (if w = "name" ∧ (txs fr).headD "" ∉ bs then [(p, (txs fr).headD "")] else []) ++ Tn.freess w (txs fr) 0 ps bs
noncomputable def Tn.freess : Str → List Str → Nat → List Tn → List Str → List (Int × Str)
  | _, _, _, [], _ => []
  | w, ns, i, t :: r, bs => t.frees (bs ++ bnd w ns i) ++ Tn.freess w ns (i + 1) r bs
end
theorem freess_append : ∀ (ks ls : List Tn) (w : Str) (ns : List Str) (i : Nat) (bs : List Str), Tn.freess w ns i (ks ++ ls) bs = Tn.freess w ns i ks bs ++ Tn.freess w ns (i + ks.length) ls bs
  | [], ls, w, ns, i, bs => rfl
  | t :: r, ls, w, ns, i, bs => by
    show t.frees _ ++ Tn.freess w ns (i + 1) (r ++ ls) bs = t.frees _ ++ Tn.freess w ns (i + 1) r bs ++ _
    rw [freess_append r ls, List.append_assoc]
    have e : i + 1 + r.length = i + (t :: r).length := by simp; omega
    rw [e]
theorem freess_snoc (ks : List Tn) (t : Tn) (w : Str) (ns : List Str) (bs : List Str) : Tn.freess w ns 0 (ks ++ [t]) bs = Tn.freess w ns 0 ks bs ++ t.frees (bs ++ bnd w ns ks.length) := by
  rw [freess_append, Nat.zero_add]
  show _ ++ (t.frees _ ++ []) = _
  rw [List.append_nil]
mutual
/-- a name more that is bound around -/
theorem frees_more (x : Str) : ∀ (t : Tn) (bs cs : List Str), (∀ y, y ∈ cs ↔ y ∈ bs ∨ y = x) → t.frees cs = (t.frees bs).filter fun q => decide (q.2 ≠ x)
  | .mk w p fr mid ps, bs, cs, h => by
    show (if w = "name" ∧ (txs fr).headD "" ∉ cs then [(p, (txs fr).headD "")] else []) ++ Tn.freess w (txs fr) 0 ps cs = List.filter _ ((if w = "name" ∧ (txs fr).headD "" ∉ bs then [(p, (txs fr).headD "")] else []) ++ Tn.freess w (txs fr) 0 ps bs)
    rw [List.filter_append, freess_more x ps w (txs fr) 0 bs cs h]
    congr 1
    generalize (txs fr).headD "" = n
    have hn := h n
    by_cases z1 : w = "name"
    · by_cases z2 : n ∈ bs
      · rw [if_neg (fun z => z.2 (hn.mpr (.inl z2))), if_neg (fun z => z.2 z2)]; rfl
      · rw [if_pos (show w = "name" ∧ n ∉ bs from ⟨z1, z2⟩)]
        by_cases z3 : n = x
        · rw [if_neg (fun z => z.2 (hn.mpr (.inr z3)))]
          simp [z3]
        · rw [if_pos (show w = "name" ∧ n ∉ cs from ⟨z1, fun z => (hn.mp z).elim z2 z3⟩)]
          simp [z3]
    · rw [if_neg (fun z => z1 z.1), if_neg (fun z => z1 z.1)]; rfl
theorem freess_more (x : Str) : ∀ (ks : List Tn) (w : Str) (ns : List Str) (i : Nat) (bs cs : List Str), (∀ y, y ∈ cs ↔ y ∈ bs ∨ y = x) → Tn.freess w ns i ks cs = (Tn.freess w ns i ks bs).filter fun q => decide (q.2 ≠ x)
  | [], _, _, _, _, _, _ => rfl
  | t :: r, w, ns, i, bs, cs, h => by
    show t.frees _ ++ Tn.freess w ns (i + 1) r cs = List.filter _ (t.frees _ ++ Tn.freess w ns (i + 1) r bs)
    rw [List.filter_append, freess_more x r w ns (i + 1) bs cs h, frees_more x t (bs ++ bnd w ns i) (cs ++ bnd w ns i) (fun y => ?_)]
    rw [List.mem_append, List.mem_append, h y]
    constructor
    · rintro ((z | z) | z)
      · exact .inl (.inl z)
      · exact .inr z
      · exact .inl (.inr z)
    · rintro ((z | z) | z)
      · exact .inl (.inl z)
      · exact .inr z
      · exact .inl (.inr z)
end
theorem RKs.txs {K : PySem.W.Frag} {H : Hp} : ∀ {ns : List Str} {vs : List V}, RKs K H (ns.map Dk.str) vs → vs = ns.map V.str
  | [], vs, r => r
  | n :: ns, vs, r => by
    obtain ⟨v, vs', rfl, h1, h2⟩ := r
    rw [RK.str h1, RKs.txs h2]
    rfl
theorem RKs.of_txs {K : PySem.W.Frag} {H : Hp} : ∀ ns : List Str, RKs K H (ns.map Dk.str) (ns.map V.str)
  | [] => .nil
  | n :: ns => .cons (.s _) (RKs.of_txs ns)
/-- a node's tuple, by its things -/
theorem RK.node {K : PySem.W.Frag} {H : Hp} {w : Str} {p : Int} {fr mid : List Dk} {ps : List Tn} {v : V} (r : RK K H (Tn.mk w p fr mid ps).d v) : ∃ (a : Addr) (uf um up : List V), v = .ref a ∧ Tp K H a (.str w :: .int p :: (uf ++ um ++ up)) ∧ RKs K H fr uf ∧ RKs K H mid um ∧ RKs K H (if w = "row" then [.tup (Tn.ds ps)] else Tn.ds ps) up := by
  obtain ⟨a, us, rfl, ha, ru⟩ := RK.get (show RK K H (.tup (.str w :: .int p :: (fr ++ mid ++ (if w = "row" then [.tup (Tn.ds ps)] else Tn.ds ps)))) v from r)
  obtain ⟨v1, r1, rfl, h1, v2, r2, rfl, h2, ru⟩ := ru
  obtain ⟨x1, up, rfl, x2, hup⟩ := ru.split
  obtain ⟨uf, um, rfl, hf, hm⟩ := x2.split
  rw [RK.str h1, show v2 = .int p by rw [RK] at h2; exact h2] at ha
  exact ⟨a, uf, um, up, rfl, ha, hf, hm, hup⟩
end L2.Bk

end
section
set_option Elab.async false
set_option linter.all false
namespace L2.Bw
open PySem PySem.Spec PyProof.Rows
theorem bxtup {X : Cx} {es : List Expr} {t : TA} {k pos} (r : Bx (PA X es t)) : Bx (PE X (.Tuple es k pos) (tTup t)) := ⟨pe_tup r.out⟩
theorem bxcons {X : Cx} {e : Expr} {es : List Expr} {te : TE} {t : TA} (h : isStar e = false) (a : Bx (PE X e te)) (r : Bx (PA X es t)) : Bx (PA X (e :: es) (tCons te t)) := ⟨paB h a.out r.out⟩
theorem bxint {X : Cx} {n j pos} : Bx (PE X (.Constant (.int n) j pos) (tC (.int n))) := ⟨pe_int⟩
end L2.Bw

end
section
set_option Elab.async false
set_option linter.all false
set_option maxRecDepth 100000
set_option maxHeartbeats 8000000
namespace L2.K12
open PySem PySem.Spec PyProof.Rows L2.Bw L2.Bk L2.Ex
noncomputable def top (i : Nat) : Stmt := PySem.Challenge.pw_blamewise_k12_names_bound.main.body.getD i (.Pass ⟨0, 0, 0, 0⟩)
/-- a def of a class -/
noncomputable def inCls (s : Stmt) (j : Nat) : Stmt := match s with
  | .ClassDef _ _ _ body _ _ _ _ _ _ _ => body.getD j (.Pass ⟨0, 0, 0, 0⟩)
  | _ => .Pass ⟨0, 0, 0, 0⟩
structure Tx (mg : Str → Option Value) : Prop where
  len : mg "len" = none
  isinstance : mg "isinstance" = none
  list : mg "list" = none
  tuple : mg "tuple" = none
  int : mg "int" = none
  bool : mg "bool" = none
  str : mg "str" = none
  range : mg "range" = none
  reversed : mg "reversed" = none
  enumerate : mg "enumerate" = none
  ord : mg "ord" = none
  ValueError : mg "ValueError" = none
section
variable {P : Program} {w : World} {K : PySem.W.Frag} {mg : Str → Option Value} {base : Heap} {f : Addr} {fd : FuncData}
/-! ### cell_at -/
noncomputable abbrev sCell : Stmt := top 19
noncomputable def spCell (K : PySem.W.Frag) : Sp := fun vs H Q _ => ∃ (a : Addr) (ns : List Int) (k : Int), vs = [.ref a, .int k] ∧ SqL K H a (ns.map V.int) ∧ 0 ≤ k ∧ ∀ i : Int, Q (.int i) H
theorem scCell : FnScope ["_law_script", "_law_k"] ["_law_script", "_law_k"] (defScope sCell) := ⟨rfl, rfl, rfl, by decide +kernel, rfl, by decide +kernel, by decide +kernel⟩
theorem ok_cell {n : Nat} (F : Fun K "_law_cell_at" "_law_cell_at" sCell f fd) (T : Tx mg) : FnOk P w K mg base CX0 (n + 1) f fd ["_law_script", "_law_k"] (spCell K) := by
  refine F.ok scCell (fun vs H Q E h => ?_) (fun cdv A outer s H vs Q E hr h => ?_)
  · obtain ⟨a, ns, k, rfl, _⟩ := h
    rfl
  obtain ⟨a, ns, k, rfl, hS, h0, q⟩ := h
  refine' ⟨_, ?n0, ?Z⟩
  case' n0 => refine' pss_cons ?n1 ?n2
  case' n1 => refine' ps_if ?n3 ?n4 ?n5
  case' n3 => refine' pt_cmpR op_lt ?n6 ?n7 (nomark _)
  case n6 => exact pv 1
  case' n7 => refine' pe_callB (call_lenA) rfl T.len boot_len ?n8
  case' n8 => refine' pa ?n9 ?n10
  case n9 => exact pv 0
  case n10 => exact pa_nil
  case' n4 => refine' pss_one ?n11
  case' n11 => refine' ps_ret ?n12
  case' n12 => refine' pe_ix ix_seq ?n13 ?n14 (fun _ _ => rfl)
  case n13 => exact pv 0
  case n14 => exact pv 1
  case n5 => exact pss_nil
  case' n2 => refine' pss_one ?n15
  case' n15 => refine' ps_ret ?n16
  case n16 => exact pe_int
  refine ⟨_, rfl, _, rfl, .inl ⟨a, _, rfl, .inl hS, _, _, rfl, rfl, _, rfl, ?_⟩⟩
  refine ite2 (fun c => ?_) (fun c => ?_)
  · have c' : k < (((ns.map V.int).length : Nat) : Int) := of_decide_eq_true c
    rw [List.length_map] at c'
    have hk : k.toNat < ns.length := by omega
    have e : atI (ns.map V.int) k = some (.int ns[k.toNat]) := by
      have z : atI (ns.map V.int) ((k.toNat : Nat) : Int) = some (.int ns[k.toNat]) := atI_nat (by rw [List.getElem?_map, List.getElem?_eq_getElem hk]; rfl)
      rwa [show ((k.toNat : Nat) : Int) = k by omega] at z
    exact ⟨_, rfl, _, rfl, .inl ⟨a, _, k, _, rfl, rfl, hS, e, q _⟩⟩
  · exact q 0
/-! ### next -/
noncomputable abbrev sNext : Stmt := top 20
noncomputable def spNext (K : PySem.W.Frag) : Sp := fun vs H Q _ => ∃ (l : Addr) (ns : List Int) (m : Int), vs = [.ref l, .int m] ∧ H l = some (.lst (ns.map V.int)) ∧ 0 < m ∧
  ∀ (r : Int) (ns' : List Int) (H' : Hp), 0 ≤ r → r < m → Gr (M1 l) H H' → H' l = some (.lst (ns'.map V.int)) → Q (.int r) H'
theorem scNext : FnScope ["_law_xs", "_law_many_here"] ["_law_xs", "_law_many_here"] (defScope sNext) := ⟨rfl, rfl, rfl, by decide +kernel, rfl, by decide +kernel, by decide +kernel⟩
theorem map_dropLast (ns : List Int) : (ns.map V.int).dropLast = ns.dropLast.map V.int := List.map_dropLast.symm
theorem ok_next {n : Nat} (F : Fun K "_law_next" "_law_next" sNext f fd) (T : Tx mg) : FnOk P w K mg base CX0 (n + 1) f fd ["_law_xs", "_law_many_here"] (spNext K) := by
  refine F.ok scNext (fun vs H Q E h => ?_) (fun cdv A outer s H vs Q E hr h => ?_)
  · obtain ⟨l, ns, m, rfl, _⟩ := h
    rfl
  obtain ⟨l, ns, m, rfl, hl, hm, q⟩ := h
  refine' ⟨_, ?n0, ?Z⟩
  case' n0 => refine' pss_cons ?n1 ?n2
  case' n1 => refine' ps_if ?n3 ?n4 ?n5
  case' n3 => refine' pt_cmpR (op_eqG hr) ?n6 ?n7 (nomark _)
  case n6 => exact pv 0
  case' n7 => refine' pe_lst ?n8
  case n8 => exact pa_nil
  case' n4 => refine' pss_one ?n9
  case' n9 => refine' ps_ret ?n10
  case n10 => exact pe_int
  case n5 => exact pss_nil
  case' n2 => refine' pss_one ?n11
  case' n11 => refine' ps_ret ?n12
  case' n12 => refine' pe_op op_mod ?n13 ?n14
  case' n13 => refine' pe_bm0 PySem.F.plainAttrs_list PySem.F.slot_list_pop PySem.F.type_list_pop mt_pop ?n15
  case n15 => exact pv 0
  case n14 => exact pv 1
  refine ⟨_, rfl, (by show 0 ≤ sizeLine; decide), fun p hp => ?_⟩
  have g1 : Gr (M1 l) H (upd H p (.lst [])) := Gr.new hp
  have nlp : l ≠ p := ne_of_none hl hp
  have hl1 : upd H p (.lst []) l = some (.lst (ns.map V.int)) := by rw [upd_ne nlp]; exact hl
  cases hns : ns with
  | nil =>
    subst hns
    refine .inr (eqQK (.lists (ds := []) (SqL.of hl1) (SqL.of upd_same) rfl rfl (Nat.zero_le _)) ⟨_, rfl, iteT ?_⟩)
    exact q 0 [] _ (Int.le_refl _) hm g1 hl1
  | cons y r =>
    have hlen : (ns.map V.int).length ≠ ([] : List V).length := by rw [hns]; simp
    refine .inr (eqQK (.lens (SqL.of hl1) (SqL.of upd_same) hlen) ⟨_, rfl, iteF ?_⟩)
    have hlast : (ns.map V.int)[(ns.map V.int).length - 1]? = some (.int (ns.getLast (by rw [hns]; simp))) := by
      rw [List.getElem?_map, List.length_map, ← List.getLast?_eq_getElem?, List.getLast?_eq_some_getLast (by rw [hns]; simp)]
      rfl
    refine ⟨_, rfl, .inl ⟨rfl, _, SqL.of hl1⟩, l, _, _, rfl, rfl, hl1, hlast, _, rfl, _, _, rfl, rfl, hm, ?_⟩
    exact q _ ns.dropLast _ (Int.emod_nonneg _ (by omega)) (Int.emod_lt_of_pos _ hm) (g1.trans (Gr.put rfl)) (by rw [upd_same, map_dropLast])
/-! ### NoName -/
noncomputable abbrev sInit : Stmt := inCls (top 5) 0
noncomputable def spInit (C : Addr) : Sp := fun vs H Q _ => ∃ (p : Addr) (i : Int), vs = [.ref p, .int i] ∧ H p = some (XQ true p C none) ∧ 0 ≤ i ∧ i < 100000 ∧ ∀ d, H d = none → d ≠ p → Q .non (upd (upd H p (XQ true p C (some d))) d (DO d [("place", .int i)]))
theorem scInit : FnScope ["self", "place"] ["self", "place"] (defScope sInit) := ⟨rfl, rfl, rfl, by decide +kernel, rfl, by decide +kernel, by decide +kernel⟩
theorem ok_init {n : Nat} {B C fI : Addr} (F : Fun K "__init__" "NoName.__init__" sInit f fd) (T : Tx mg) (Z_BlameError : BInit K B) (O_NoName : OwnI K C fI veB "ValueError.__new__") (m_BlameError : mg "BlameError" = some (.ref B)) (S : ExSet K C) (hf : PySem.W.findIn K (.ref C) "place" = some none) : FnOk P w K mg base CX0 (n + 1) f fd ["self", "place"] (spInit C) := by
  refine F.ok scInit (fun vs H Q E h => ?_) (fun cdv A outer s H vs Q E hr h => ?_)
  · obtain ⟨p, i, rfl, _⟩ := h
    rfl
  obtain ⟨p, i, rfl, hp, h0, h1, q⟩ := h
  refine' ⟨_, ?n0, ?Z⟩
  case' n0 => refine' pss_cons ?n1 ?n2
  case' n1 => refine' ps_expr ?n3
  case' n3 => refine' pe_binit Z_BlameError O_NoName m_BlameError rfl ?n4
  case' n4 => refine' pa ?n5 ?n6
  case n5 => exact pv 0
  case' n6 => refine' pa ?n7 ?n8
  case' n7 => refine' pe_join ?n9
  case' n9 => refine' pj_cons ?n10 ?n11
  case n10 => exact pe_str
  case' n11 => refine' pj_cons ?n12 ?n13
  case' n12 => refine' pe_fmt ?n14
  case n14 => exact pv 1
  case n13 => exact pj_nil
  case n8 => exact pa_nil
  case' n2 => refine' pss_one ?n15
  case' n15 => refine' ps_xfld rfl ?n16 ?n17 rfl
  case n16 => exact pv 0
  case n17 => exact pv 1
  have lg : i.natAbs.log2 < 1920 := by
    have a1 : i.natAbs < 2 ^ 17 := by omega
    by_cases z : i.natAbs = 0
    · rw [z]; decide
    · exact Nat.lt_of_lt_of_le ((Nat.log2_lt z).mpr a1) (by decide)
  have tl : (toString i).length ≤ 8 := int_text_length_le10 (k := 7) (by decide) (by omega)
  have tl2 : (Str.ofString (toString i)).length ≤ 8 := by rw [PySem.ofString_length]; exact tl
  have sz : ∀ m : Nat, m ≤ 1000 → m ≤ sizeLine := fun m h => Nat.le_trans h (by decide)
  have l0 : Str.empty.length = 0 := rfl
  have l1 : (Str.ofString "nothing binds the name at place ").length = 32 := by decide +kernel
  refine ⟨_, rfl, _, rfl, ?_, _, rfl, i, rfl, lg, _, rfl, ?_, ?_, true, p, none, _, rfl, hp, by show 1 ≤ sizeLine; decide, ?_⟩
  · refine sz _ ?_
    rw [strLen_append, l0, l1]
    omega
  · refine sz _ ?_
    rw [strLen_append, strLen_append, l0, l1]
    omega
  · refine sz _ ?_
    rw [strLen_append, strLen_append, l0, l1]
    omega
  exact ⟨_, rfl, _, rfl, true, p, C, rfl, S, hf, .inl ⟨hp, fun d hd ne => q d hd ne⟩⟩
end
end L2.K12

end
section
set_option Elab.async false
set_option linter.all false
set_option maxRecDepth 100000
set_option maxHeartbeats 8000000
namespace L2.K12
open PySem PySem.Spec PyProof.Rows L2.Bw L2.Bk L2.Ex
theorem at0 {v : V} {us : List V} : atI (v :: us) 0 = some v := atI_nat (j := 0) rfl
theorem at1 {u v : V} {us : List V} : atI (u :: v :: us) 1 = some v := atI_nat (j := 1) rfl
theorem at2 {a b v : V} {us : List V} : atI (a :: b :: v :: us) 2 = some v := atI_nat (j := 2) rfl
theorem at3 {a b c v : V} {us : List V} : atI (a :: b :: c :: v :: us) 3 = some v := atI_nat (j := 3) rfl
section
variable {P : Program} {w : World} {K : PySem.W.Frag} {mg : Str → Option Value} {base : Heap} {f : Addr} {fd : FuncData}
/-! ### form -/
noncomputable abbrev sForm : Stmt := top 12
noncomputable def spForm (K : PySem.W.Frag) : Sp := fun vs H Q _ => ∃ (x : Str), vs = [.str x] ∧ x ∈ K11.words ∧ ∀ c, SqT K H c ((K11.form x).map V.str) → Q (.ref c) H
theorem scForm : FnScope ["word"] ["word"] (defScope sForm) := ⟨rfl, rfl, rfl, by decide +kernel, rfl, by decide +kernel, by decide +kernel⟩
theorem ok_form {m : Nat} {fa : Addr} (F : Fun K "form" "form" sForm f fd) (m_FORMS : mg "FORMS" = some (.ref fa)) (k_FORMS : KTD.tabLook (lookT K) (fun b => K.lookup b) fa K11.table = true) : FnOk P w K mg base CX0 (m + 1) f fd ["word"] (spForm K) := by
  refine F.ok scForm (fun vs H Q E h => ?_) (fun cdv A outer s H vs Q E hr h => ?_)
  · obtain ⟨x, rfl, _⟩ := h
    rfl
  obtain ⟨x, rfl, hx, q⟩ := h
  refine' ⟨_, ?n0, ?Z⟩
  case' n0 => refine' pss_one ?n1
  case' n1 => refine' ps_ret ?n2
  case' n2 => refine' pe_tab rfl m_FORMS k_FORMS ?n3 (fun _ _ => rfl)
  case n3 => exact pv 0
  exact ⟨_, rfl, rfl, x, K11.form x, rfl, (K11.form_of x hx).1, q⟩
/-! ### indexes -/
noncomputable abbrev sIndexes : Stmt := top 13
noncomputable def spIndexes (K : PySem.W.Frag) : Sp := fun vs H Q _ => ∃ (a : Addr) (x : Str) (us : List V) (so : Str), vs = [.ref a, .str so] ∧ Tp K H a (.str x :: us) ∧ x ∈ K11.words ∧
  ∀ (r : Addr) (H' : Hp), Old H H' → H r = none → H' r = some (.lst ((K11.ixs so 2 (K11.form x)).map V.int)) → Q (.ref r) H'
theorem scIndexes : FnScope ["tree", "sort"] ["tree", "sort"] (defScope sIndexes) := ⟨rfl, rfl, rfl, by decide +kernel, rfl, by decide +kernel, by decide +kernel⟩
theorem ixs_snoc (so : Str) : ∀ (ss : List Str) (k : Nat) (y : Str), K11.ixs so k (ss ++ [y]) = K11.ixs so k ss ++ (if y = so then [((k + ss.length : Nat) : Int)] else [])
  | [], k, y => by show (if y = so then _ else _) = _; split <;> rfl
  | z :: r, k, y => by
    show (if z = so then (k : Int) :: K11.ixs so (k + 1) (r ++ [y]) else K11.ixs so (k + 1) (r ++ [y])) = (if z = so then (k : Int) :: K11.ixs so (k + 1) r else K11.ixs so (k + 1) r) ++ _
    rw [ixs_snoc so r (k + 1) y]
    have e : k + 1 + r.length = k + (z :: r).length := by simp; omega
    rw [e]
    split <;> rfl
theorem ixs_len (so : Str) : ∀ (ss : List Str) (k : Nat), (K11.ixs so k ss).length ≤ ss.length
  | [], _ => Nat.le_refl _
  | z :: r, k => by
    have := ixs_len so r (k + 1)
    show (if z = so then (k : Int) :: K11.ixs so (k + 1) r else K11.ixs so (k + 1) r).length ≤ r.length + 1
    split
    · simp; omega
    · omega
theorem ok_indexes {m : Nat} (F : Fun K "indexes" "indexes" sIndexes f fd) (T : Tx mg) (c_form : Cal P w K mg base "form" ["word"] 1 (spForm K)) : FnOk P w K mg base CX0 (m + 2) f fd ["tree", "sort"] (spIndexes K) := by
  refine F.ok scIndexes (fun vs H Q E h => ?_) (fun cdv A outer s H vs Q E hr h => ?_)
  · obtain ⟨a, x, us, so, rfl, _⟩ := h
    rfl
  obtain ⟨a, x, us, so, rfl, ha, hx, q⟩ := h
  have nd := scIndexes.nd
  obtain ⟨f1, f2, _⟩ := K11.form_of x hx
  refine' ⟨_, ?n0, ?Z⟩
  case' n0 => refine' pss_one ?n1
  case' n1 => refine' ps_ret ?n2
  case' n2 => refine' pe_lc (g := gTup K 2 (gCons (gName 0) (gCons (gName 1) gNil))) (tt := tTest (tOp (rEqG K) (tVar 1) (tVar 3))) (te := tVar 0) (k := 2) (N := ["index", "found", "tree", "sort"]) (lc_mk rfl rfl rfl rfl rfl rfl) rfl ?n3 (fun _ _ _ _ => ?n4) (fun _ _ _ _ => ?n5) (fun _ _ _ _ => ?n6)
  case' n3 => refine' pi_enum rfl T.enumerate ?n7 ?n8
  case' n7 => refine' pa ?n9 ?n10
  case' n9 => refine' pe_cal c_form hr ?n11
  case' n11 => refine' pa ?n12 ?n13
  case' n12 => refine' pe_ix ix_seq ?n14 ?n15 (fun _ _ => rfl)
  case n14 => exact pv 0
  case n15 => exact pe_int
  case n13 => exact pa_nil
  case n10 => exact pa_nil
  case' n8 => refine' pk_cons ?n16 ?n17
  case n16 => exact pe_int
  case n17 => exact pk_nil
  case n4 =>
    refine' pg_tup rfl ?n18
    case' n18 => refine' pgs_cons ?n19 ?n20
    case n19 => exact pg_name (i := 0) (by show List.Nodup (["index", "found", "tree", "sort"] : List Str); decide +kernel) rfl (Or.inl rfl)
    case' n20 => refine' pgs_cons ?n21 ?n22
    case n21 => exact pg_name (i := 1) (by show List.Nodup (["index", "found", "tree", "sort"] : List Str); decide +kernel) rfl (Or.inl rfl)
    case n22 => exact pgs_nil
  case n5 =>
    refine' pts_one ?n23
    case' n23 => refine' pt_cmpR (op_eqG hr) ?n24 ?n25 (nomark _)
    case n24 => exact pv 1
    case n25 => exact pv 3
  case n6 => exact pv 0
  refine ⟨_, rfl, .inr (.inl ⟨a, _, 0, .str x, rfl, rfl, ha.sq, at0, x, rfl, hx, fun c hc => ⟨c, _, 2, rfl, rfl, by decide +kernel, hc, fun D hD => ?_⟩⟩)⟩
  have same2 : ∀ {H' : Hp}, Old H H' → SqT K H' c ((K11.form x).map V.str) := fun {H'} g => by
    rcases hc with (h | ⟨o, h⟩) | h
    · exact .inl (.inl (g _ _ h))
    · exact .inl (.inr ⟨o, g _ _ h⟩)
    · exact .inr h
  have lenf : ((K11.form x).map V.str).length = (K11.form x).length := List.length_map _
  have neD : ∀ b o, H b = some o → b ≠ D := fun b o e => ne_of_none e hD
  refine lc_by (n := (K11.form x).length) (fun i σ H2 => ∃ (k1 k2 : Option V), σ = [k1, k2, some (.ref a), some (.str so)] ∧ Old H H2 ∧ H2 D = some (.lst ((K11.ixs so 2 ((K11.form x).take i)).map V.int))) ⟨none, none, rfl, fun b o e => by rw [upd_ne (neD b o e)]; exact e, upd_same⟩ ?_ ?_ ?_ ?_
  · intro i σ H2 hi hv
    obtain ⟨k1, k2, rfl, g, hD2⟩ := hv
    exact ⟨_, .str (K11.form x)[i], same2 g, by rw [List.getElem?_map, List.getElem?_eq_getElem hi]; rfl⟩
  · intro σ H2 hv
    obtain ⟨k1, k2, rfl, g, hD2⟩ := hv
    exact ⟨_, same2 g, by rw [lenf]; exact Nat.le_refl _⟩
  · intro i σ H2 hi hv v H3 hy
    obtain ⟨k1, k2, rfl, g, hD2⟩ := hv
    obtain ⟨t, y, rfl, ht, rfl, hyx⟩ := hy
    have ey : y = .str (K11.form x)[i] := by
      have := hyx _ (same2 g)
      rw [List.getElem?_map, List.getElem?_eq_getElem hi] at this
      exact (Option.some.inj this).symm
    subst ey
    have ntD : D ≠ t := ne_of_none hD2 ht
    refine ⟨t, _, rfl, SqT.of upd_same, rfl, _, _, rfl, _, _, rfl, rfl, ?_⟩
    refine ⟨_, rfl, _, rfl, .inr (.inl ⟨rfl, _, rfl, ?_⟩)⟩
    rw [dec_s]
    have g3 : ∀ b o, H b = some o → upd H2 t (.tup [.int (2 + (i : Int)), .str (K11.form x)[i]]) b = some o := fun b o e => by rw [upd_ne (ne_of_none (g b o e) ht)]; exact g b o e
    have hD3 : upd H2 t (.tup [.int (2 + (i : Int)), .str (K11.form x)[i]]) D = some (.lst ((K11.ixs so 2 ((K11.form x).take i)).map V.int)) := by rw [upd_ne ntD]; exact hD2
    have tk : (K11.form x).take (i + 1) = (K11.form x).take i ++ [(K11.form x)[i]] := take_snoc hi
    have lt : ((K11.form x).take i).length = i := by rw [List.length_take]; omega
    refine ite2 (fun cc => ?_) (fun cc => ?_)
    · have c' : (K11.form x)[i] = so := of_decide_eq_true cc
      refine ⟨_, rfl, _, hD3, ?_, nx hi ⟨_, _, rfl, fun b o e => by rw [upd_ne (neD b o e)]; exact g3 b o e, ?_⟩⟩
      · have := ixs_len so ((K11.form x).take i) 2
        rw [List.length_map]
        exact smallM (by rw [List.length_take] at this; omega)
      · rw [upd_same, tk, ixs_snoc, if_pos c', List.map_append, lt]
        have e2 : (2 : Int) + (i : Int) = ((2 + i : Nat) : Int) := by omega
        rw [e2]
        rfl
    · have c' : ¬ (K11.form x)[i] = so := of_decide_eq_false (Bool.eq_false_iff.mpr cc)
      refine nx hi ⟨_, _, rfl, g3, ?_⟩
      rw [hD3, tk, ixs_snoc, if_neg c', List.append_nil]
  · intro σ H2 hv
    obtain ⟨k1, k2, rfl, g, hD2⟩ := hv
    rw [List.take_length] at hD2
    exact q D H2 g hD hD2
/-! ### parts -/
noncomputable abbrev sParts : Stmt := top 14
noncomputable def spParts (K : PySem.W.Frag) : Sp := fun vs H Q _ => ∃ (v : V) (t : Tn), vs = [v] ∧ RK K H t.d v ∧ t.wf ∧
  ∀ (r : Addr) (us : List V) (H' : Hp), Old H H' → H r = none → H' r = some (.lst us) → RKs K H' (Tn.ds t.ps) us → Q (.ref r) H'
theorem scParts : FnScope ["tree"] ["tree"] (defScope sParts) := ⟨rfl, rfl, rfl, by decide +kernel, rfl, by decide +kernel, by decide +kernel⟩
theorem rng_get {lo n i : Nat} (h : i < n) : (K11.rng lo n)[i]? = some ((lo + i : Nat) : Int) := by
  unfold K11.rng
  rw [List.getElem?_map, List.getElem?_range' h]
  simp
theorem rng_len (lo n : Nat) : (K11.rng lo n).length = n := by unfold K11.rng; simp
theorem nf_row : K11.nf "row" = 0 := by decide +kernel
theorem nk_row : K11.nk "row" = 1 := by decide +kernel
theorem ok_parts {m : Nat} (F : Fun K "parts" "parts" sParts f fd) (T : Tx mg) (c_indexes : Cal P w K mg base "indexes" ["tree", "sort"] 2 (spIndexes K)) : FnOk P w K mg base CX0 (m + 3) f fd ["tree"] (spParts K) := by
  refine F.ok scParts (fun vs H Q E h => ?_) (fun cdv A outer s H vs Q E hr h => ?_)
  · obtain ⟨v, t, rfl, _⟩ := h
    rfl
  obtain ⟨v, t, rfl, rv, wt, q⟩ := h
  have nd := scParts.nd
  obtain ⟨x, p, fr, mid, ps⟩ := t
  obtain ⟨⟨hx, lf, lm, lp, few, _⟩, _⟩ := wt
  obtain ⟨a, uf, um, up, rfl, ha, rf, rm, rp⟩ := RK.node rv
  have l1 := rf.length
  have l2 := rm.length
  refine' ⟨_, ?n0, ?Z⟩
  case' n0 => refine' pss_cons ?n1 ?n2
  case' n1 => refine' ps_if ?n3 ?n4 ?n5
  case' n3 => refine' pt_cmpR (op_eqG hr) ?n6 ?n7 (nomark _)
  case' n6 => refine' pe_ix ix_seq ?n8 ?n9 (fun _ _ => rfl)
  case n8 => exact pv 0
  case n9 => exact pe_int
  case n7 => exact pe_str
  case' n4 => refine' pss_one ?n10
  case' n10 => refine' ps_ret ?n11
  case' n11 => refine' pe_callTy (call_list_of) rfl T.list boot_list ?n12
  case' n12 => refine' pa ?n13 ?n14
  case' n13 => refine' pe_ix ix_seq ?n15 ?n16 (fun _ _ => rfl)
  case n15 => exact pv 0
  case n16 => exact pe_int
  case n14 => exact pa_nil
  case n5 => exact pss_nil
  case' n2 => refine' pss_one ?n17
  case' n17 => refine' ps_ret ?n18
  case' n18 => refine' pe_lc (te := tOp (rIx K) (tVar 1) (tVar 0)) (k := 1) (N := ["index", "tree"]) (lc_mk rfl rfl rfl rfl rfl rfl) rfl ?n19 (fun _ _ _ _ => ?n20) (fun _ _ _ _ => ?n21) (fun _ _ _ _ => ?n22)
  case' n19 => refine' pi_seq ?n23
  case' n23 => refine' pe_cal c_indexes hr ?n24
  case' n24 => refine' pa ?n25 ?n26
  case n25 => exact pv 0
  case' n26 => refine' pa ?n27 ?n28
  case n27 => exact pe_str
  case n28 => exact pa_nil
  case n20 => exact pg_name (i := 0) (by show List.Nodup (["index", "tree"] : List Str); decide +kernel) rfl (Or.inl rfl)
  case n21 => exact pts_nil
  case n22 =>
    refine' pe_ix ix_seq ?n29 ?n30 (fun _ _ => rfl)
    case n29 => exact pv 1
    case n30 => exact pv 0
  refine ⟨_, rfl, .inr (.inl ⟨a, _, 0, .str x, rfl, rfl, ha.sq, at0, .inr (.inl ⟨rfl, _, rfl, ?_⟩)⟩)⟩
  rw [dec_s]
  by_cases cr : x = "row"
  · rw [decide_eq_true cr]
    refine iteT ?_
    rw [if_pos cr] at rp
    rw [cr, nf_row] at lf
    rw [cr, nk_row] at lm
    obtain ⟨pv, e0, rfl, rpv, e1⟩ := rp
    have e1' : e0 = [] := e1
    subst e1'
    obtain rfl : uf = [] := List.length_eq_zero_iff.mp (l1.symm.trans lf)
    obtain ⟨k0, rfl⟩ : ∃ k0, um = [k0] := List.length_eq_one_iff.mp (l2.symm.trans lm)
    obtain ⟨b, us, rfl, hb, rus⟩ := RK.get rpv
    refine ⟨_, rfl, .inr (.inl ⟨a, _, 3, .ref b, rfl, rfl, ha.sq, at3, b, us, rfl, .inr hb.sq, fun l hl => ?_⟩)⟩
    have o : Old H (upd H l (.lst us)) := Old.new hl
    exact q l us _ o hl upd_same (rus.mono o.tm)
  · rw [decide_eq_false cr]
    refine iteF ?_
    rw [if_neg cr] at rp
    have l3 := rp.length
    rw [tds_length] at l3
    have lp' := lp cr
    refine ⟨_, rfl, a, x, _, "node", rfl, ha, hx, fun r H1 o1 hr0 hr1 => ⟨r, rfl, .inl ⟨⟨_, SqL.of hr1⟩, fun D hD => ?_⟩⟩⟩
    rw [(K11.form_of x hx).2.2.1 cr] at hr1
    have lo0 : ([V.str x, V.int p] ++ uf ++ um).length = 2 + K11.nf x + K11.nk x := by
      rw [List.length_append, List.length_append, ← l1, ← l2, lf, lm]
      rfl
    have ln : up.length = K11.np x := by rw [← l3]; exact lp'
    have e1 : V.str x :: V.int p :: (uf ++ um ++ up) = ([V.str x, V.int p] ++ uf ++ um) ++ up := by simp
    have lu5 : up.length ≤ 5 := by rw [← l3]; exact few
    clear lp' l3 lf lm l1 l2 lp
    generalize 2 + K11.nf x + K11.nk x = lo at hr1 lo0
    generalize K11.np x = n at hr1 ln
    rw [e1] at ha
    generalize [V.str x, V.int p] ++ uf ++ um = pre at ha lo0
    have neD : ∀ b o, H1 b = some o → b ≠ D := fun b o e => ne_of_none e hD
    have lr : ((K11.rng lo n).map V.int).length = n := by rw [List.length_map, rng_len]
    refine lc_by0 (n := n) (fun i σ H2 => ∃ (k1 : Option V), σ = [k1, some (.ref a)] ∧ Old H1 H2 ∧ H2 D = some (.lst (up.take i))) ⟨none, rfl, Old.new hD, upd_same⟩ ?_ ?_ ?_ ?_
    · intro i σ H2 hi hv
      obtain ⟨k1, rfl, o2, hD2⟩ := hv
      exact ⟨_, _, SqL.of (o2 _ _ hr1), by rw [List.getElem?_map, rng_get hi]; rfl⟩
    · intro σ H2 hv
      obtain ⟨k1, rfl, o2, hD2⟩ := hv
      exact ⟨_, SqL.of (o2 _ _ hr1), by rw [lr]; exact Nat.le_refl _⟩
    · intro i σ H2 hi hv y H3 hy
      obtain ⟨k1, rfl, o2, hD2⟩ := hv
      obtain ⟨e1, hyx⟩ := hy
      subst e1
      have ey := hyx _ (SqL.of (o2 _ _ hr1))
      rw [List.getElem?_map, rng_get hi] at ey
      cases ey
      have iu : i < up.length := by omega
      have eu : (pre ++ up)[lo + i]? = some up[i] := by
        rw [List.getElem?_append_right (by omega), lo0, show lo + i - lo = i by omega, List.getElem?_eq_getElem iu]
      have ha3 := (ha.mono (o1.trans o2).tm).sq
      refine ⟨_, rfl, _, rfl, .inr (.inl ⟨a, _, _, up[i], rfl, rfl, ha3, atI_nat eu, ?_⟩)⟩
      refine ⟨_, hD2, smallM (by rw [List.length_take]; omega), nx hi ⟨_, rfl, fun b o e => by rw [upd_ne (neD b o e)]; exact o2 b o e, ?_⟩⟩
      rw [upd_same, take_snoc iu]
    · intro σ H2 hv
      obtain ⟨k1, rfl, o2, hD2⟩ := hv
      rw [List.take_of_length_le (by omega)] at hD2
      exact q D up H2 (o1.trans o2) (o1.free hD) hD2 (rp.mono (o1.trans o2).tm)
end
end L2.K12

end
section
set_option Elab.async false
set_option linter.all false
set_option maxRecDepth 100000
set_option maxHeartbeats 8000000
namespace L2.K12
open PySem PySem.Spec PyProof.Rows L2.Bw L2.Bk L2.Ex
theorem nf_of : K11.nf "name" = 1 ∧ K11.nf "fn" = 1 ∧ K11.nf "let" = 1 ∧ K11.nf "self" = 2 ∧ K11.np "name" = 0 := by decide +kernel
theorem in_strs (z : Str) (ss : List Str) : inV (.str z) (ss.map V.str) = decide (z ∈ ss) := by
  unfold inV
  rw [List.any_map, Bool.eq_iff_iff, List.any_eq_true, decide_eq_true_iff]
  constructor
  · rintro ⟨y, hy, e⟩
    have : y = z := beq_iff_eq.mp e
    rw [← this]; exact hy
  · intro hz
    exact ⟨z, hz, beq_self_eq_true z⟩
theorem bnd_len {w : Str} {ns : List Str} (i : Nat) (h : w ∈ named → ns.length = K11.nf w) : (bnd w ns i).length ≤ 2 := by
  obtain ⟨n1, n2, n3, n4, _⟩ := nf_of
  unfold bnd
  split
  · rename_i z
    rcases z with z | z | ⟨z, _⟩
    · subst z; rw [h (by decide +kernel), n2]; decide
    · subst z; rw [h (by decide +kernel), n4]; decide
    · subst z; rw [h (by decide +kernel), n3]; decide
  · exact Nat.zero_le _
section
variable {P : Program} {w : World} {K : PySem.W.Frag} {mg : Str → Option Value} {base : Heap} {f : Addr} {fd : FuncData}
/-! ### names_bound -/
noncomputable abbrev sNb : Stmt := top 17
noncomputable def spNb (K : PySem.W.Frag) : Sp := fun vs H Q _ => ∃ (v : V) (t : Tn) (i : Nat), vs = [v, .int i] ∧ RK K H t.d v ∧ t.wf ∧ ∀ (v' : V) (H' : Hp), Old H H' → RK K H' (.tup ((bnd t.w (txs t.fr) i).map Dk.str)) v' → Q v' H'
theorem scNb : FnScope ["tree", "number", "word"] ["tree", "number"] (defScope sNb) := ⟨rfl, rfl, rfl, by decide +kernel, rfl, by decide +kernel, by decide +kernel⟩
theorem ok_nb {n : Nat} (F : Fun K "names_bound" "names_bound" sNb f fd) (T : Tx mg) : FnOk P w K mg base CX0 (n + 1) f fd ["tree", "number"] (spNb K) := by
  refine F.ok scNb (fun vs H Q E h => ?_) (fun cdv A outer s H vs Q E hr h => ?_)
  · obtain ⟨v, t, i, rfl, _⟩ := h
    rfl
  obtain ⟨v, t, i, rfl, rv, wt, q⟩ := h
  have nd := scNb.nd
  obtain ⟨x, p, fr, mid, ps⟩ := t
  obtain ⟨⟨hx, lf, lm, lp, few, hn, _⟩, _⟩ := wt
  obtain ⟨a, uf, um, up, rfl, ha, rf, rm, rp⟩ := RK.node rv
  obtain ⟨n1, n2, n3, n4, n5⟩ := nf_of
  have one : ∀ y, x = y → y ∈ named → K11.nf y = 1 → ∃ z : Str, fr = [.str z] ∧ uf = [.str z] := fun y e hy e1 => by
    subst e
    obtain ⟨ns, rfl⟩ := hn hy
    rw [List.length_map, e1] at lf
    obtain ⟨z, rfl⟩ := List.length_eq_one_iff.mp lf
    exact ⟨z, rfl, RKs.txs rf⟩
  have two : x = "self" → ∃ z y : Str, fr = [.str z, .str y] ∧ uf = [.str z, .str y] := fun e => by
    subst e
    obtain ⟨ns, rfl⟩ := hn (by decide +kernel)
    rw [List.length_map, n4] at lf
    match ns, lf, rf with
    | [z, y], _, rf => exact ⟨z, y, rfl, RKs.txs rf⟩
  refine' ⟨_, ?n0, ?Z⟩
  case' n0 => refine' pss_cons ?n1 ?n2
  case' n1 => refine' ps_setX (i := 2) nd rfl (Or.inl rfl) rfl (by first | exact .inl rfl | exact .inr rfl) ?n3
  case' n3 => refine' pe_ix ix_seq ?n4 ?n5 (fun _ _ => rfl)
  case n4 => exact pv 0
  case n5 => exact pe_int
  case' n2 => refine' pss_cons ?n6 ?n7
  case' n6 => refine' ps_if ?n8 ?n9 ?n10
  case' n8 => refine' pt_cmpR (op_eqG hr) ?n11 ?n12 (nomark _)
  case n11 => exact pv 2
  case n12 => exact pe_str
  case' n9 => refine' pss_one ?n13
  case' n13 => refine' ps_ret ?n14
  case' n14 => refine' pe_tup ?n15
  case' n15 => refine' pa ?n16 ?n17
  case' n16 => refine' pe_ix ix_seq ?n18 ?n19 (fun _ _ => rfl)
  case n18 => exact pv 0
  case n19 => exact pe_int
  case n17 => exact pa_nil
  case n10 => exact pss_nil
  case' n7 => refine' pss_cons ?n20 ?n21
  case' n20 => refine' ps_if ?n22 ?n23 ?n24
  case' n22 => refine' pt_cmpR (op_eqG hr) ?n25 ?n26 (nomark _)
  case n25 => exact pv 2
  case n26 => exact pe_str
  case' n23 => refine' pss_one ?n27
  case' n27 => refine' ps_ret ?n28
  case' n28 => refine' pe_tup ?n29
  case' n29 => refine' pa ?n30 ?n31
  case' n30 => refine' pe_ix ix_seq ?n32 ?n33 (fun _ _ => rfl)
  case n32 => exact pv 0
  case n33 => exact pe_int
  case' n31 => refine' pa ?n34 ?n35
  case' n34 => refine' pe_ix ix_seq ?n36 ?n37 (fun _ _ => rfl)
  case n36 => exact pv 0
  case n37 => exact pe_int
  case n35 => exact pa_nil
  case n24 => exact pss_nil
  case' n21 => refine' pss_cons ?n38 ?n39
  case' n38 => refine' ps_if ?n40 ?n41 ?n42
  case' n40 => refine' PW.pt ?n43
  case' n43 => refine' pw_and ?n44 ?n45
  case' n44 => refine' pt_cmpR (op_eqG hr) ?n46 ?n47 (nomark _)
  case n46 => exact pv 2
  case n47 => exact pe_str
  case' n45 => refine' pw_and1 ?n48
  case' n48 => refine' pt_cmpR (op_eqG hr) ?n49 ?n50 (nomark _)
  case n49 => exact pv 1
  case n50 => exact pe_int
  case' n41 => refine' pss_one ?n51
  case' n51 => refine' ps_ret ?n52
  case' n52 => refine' pe_tup ?n53
  case' n53 => refine' pa ?n54 ?n55
  case' n54 => refine' pe_ix ix_seq ?n56 ?n57 (fun _ _ => rfl)
  case n56 => exact pv 0
  case n57 => exact pe_int
  case n55 => exact pa_nil
  case n42 => exact pss_nil
  case' n39 => refine' pss_one ?n58
  case' n58 => refine' ps_ret ?n59
  case' n59 => refine' pe_tup ?n60
  case n60 => exact pa_nil
  refine ⟨_, rfl, .inr (.inl ⟨a, _, 0, .str x, rfl, rfl, ha.sq, at0, ?_⟩)⟩
  refine ⟨_, rfl, .inr (.inl ⟨rfl, _, rfl, ?_⟩)⟩
  rw [dec_s]
  by_cases c1 : x = "fn"
  · rw [decide_eq_true c1]
    refine iteT ?_
    obtain ⟨z, rfl, rfl⟩ := one "fn" c1 (by decide +kernel) n2
    refine ⟨_, rfl, .inr (.inl ⟨a, _, 2, .str z, rfl, rfl, ha.sq, at2, by show 1 ≤ sizeLine; decide, fun b hb => ?_⟩)⟩
    have o : Old H (upd H b (.tup [.str z])) := Old.new hb
    refine q (.ref b) _ o ?_
    have e : bnd x (txs [.str z]) i = [z] := if_pos (.inl c1)
    show RK K _ (.tup ((bnd x (txs [.str z]) i).map Dk.str)) _
    rw [e]
    exact RK.tup (.of upd_same) (.cons (.s _) .nil)
  rw [decide_eq_false c1]
  refine iteF ?_
  refine ⟨_, rfl, .inr (.inl ⟨rfl, _, rfl, ?_⟩)⟩
  rw [dec_s]
  by_cases c2 : x = "self"
  · rw [decide_eq_true c2]
    refine iteT ?_
    obtain ⟨z, y, rfl, rfl⟩ := two c2
    refine ⟨_, rfl, .inr (.inl ⟨a, _, 2, .str z, rfl, rfl, ha.sq, at2, _, rfl, .inr (.inl ⟨a, _, 3, .str y, rfl, rfl, ha.sq, at3, by show 2 ≤ sizeLine; decide, fun b hb => ?_⟩)⟩)⟩
    have o : Old H (upd H b (.tup [.str z, .str y])) := Old.new hb
    refine q (.ref b) _ o ?_
    have e : bnd x (txs [.str z, .str y]) i = [z, y] := if_pos (.inr (.inl c2))
    show RK K _ (.tup ((bnd x (txs [.str z, .str y]) i).map Dk.str)) _
    rw [e]
    exact RK.tup (.of upd_same) (.cons (.s _) (.cons (.s _) .nil))
  rw [decide_eq_false c2]
  refine iteF ?_
  refine ⟨_, rfl, .inr (.inl ⟨rfl, _, rfl, ?_⟩)⟩
  rw [dec_s]
  have rest : (¬ (x = "let" ∧ i = 1)) → ∀ b, H b = none → Q (.ref b) (upd H b (.tup [])) := fun h b hb => by
    refine q (.ref b) _ (Old.new hb) ?_
    have e : bnd x (txs fr) i = [] := if_neg (fun z => z.elim c1 fun z => z.elim c2 h)
    show RK K _ (.tup ((bnd x (txs fr) i).map Dk.str)) _
    rw [e]
    exact RK.tup (.of upd_same) .nil
  by_cases c3 : x = "let"
  · rw [decide_eq_true c3]
    refine iteT ?_
    refine ⟨_, rfl, .inr (.inl ⟨rfl, _, rfl, ?_⟩)⟩
    rw [dec_int, show ((i : Int) == 1) = decide ((i : Int) = 1) from rfl]
    by_cases c4 : i = 1
    · rw [show decide ((i : Int) = 1) = true from decide_eq_true (by omega)]
      refine iteT ?_
      obtain ⟨z, rfl, rfl⟩ := one "let" c3 (by decide +kernel) n3
      refine ⟨_, rfl, .inr (.inl ⟨a, _, 2, .str z, rfl, rfl, ha.sq, at2, by show 1 ≤ sizeLine; decide, fun b hb => ?_⟩)⟩
      have o : Old H (upd H b (.tup [.str z])) := Old.new hb
      refine q (.ref b) _ o ?_
      have e : bnd x (txs [.str z]) i = [z] := if_pos (.inr (.inr ⟨c3, c4⟩))
      show RK K _ (.tup ((bnd x (txs [.str z]) i).map Dk.str)) _
      rw [e]
      exact RK.tup (.of upd_same) (.cons (.s _) .nil)
    · rw [show decide ((i : Int) = 1) = false from decide_eq_false (by omega)]
      refine iteF ?_
      exact ⟨by show 0 ≤ sizeLine; decide, rest (fun z => c4 z.2)⟩
  · rw [decide_eq_false c3]
    refine iteF ?_
    exact ⟨by show 0 ≤ sizeLine; decide, rest (fun z => c3 z.1)⟩
end
end L2.K12

end
section
set_option Elab.async false
set_option linter.all false
set_option maxRecDepth 100000
set_option maxHeartbeats 8000000
namespace L2.K12
open PySem PySem.Spec PyProof.Rows L2.Bw L2.Bk L2.Ex
theorem seq_by {tt : TT} {ta tb u : TS} {D : Ends} {σ : St} {H : Hp} (P : St → Hp → Prop) (h1 : ∀ R : St → Hp → Prop, (∀ σ H, P σ H → R σ H) → tIfS tt ta tb { D with nx := R } σ H) (h2 : ∀ σ H, P σ H → u D σ H) : tSeq (tIfS tt ta tb) u D σ H := h1 (u D) h2
section
variable {P : Program} {w : World} {K : PySem.W.Frag} {mg : Str → Option Value} {base : Heap} {f : Addr} {fd : FuncData}
/-! ### need_bound -/
noncomputable abbrev sNB : Stmt := top 16
noncomputable def spNB (K : PySem.W.Frag) (C : Addr) (m : Nat) : Sp := fun vs H Q E => ∃ (v y : V) (t : Tn) (bs : List Str), vs = [v, y] ∧ RK K H t.d v ∧ t.wf ∧ RK K H (.tup (bs.map Dk.str)) y ∧ t.dep < m ∧ bs.length + 2 * t.dep ≤ 900 ∧
  (t.frees bs = [] → ∀ H', Old H H' → Q .non H') ∧ (∀ p n r, t.frees bs = (p, n) :: r → ∀ d H', Old H H' → H' d = some (DO d [("place", .int p)]) → E (.ref C) (some d) H')
theorem scNB : FnScope ["tree", "bound", "number", "part"] ["tree", "bound"] (defScope sNB) := ⟨rfl, rfl, rfl, by decide +kernel, rfl, by decide +kernel, by decide +kernel⟩
theorem ok_NB {m : Nat} {C fI : Addr} {fdI : FuncData} (F : Fun K "need_bound" "need_bound" sNB f fd) (T : Tx mg) (O_NoName : OwnI K C fI veB "ValueError.__new__") (i_NoName : FnOk P w K mg base CX0 1 fI fdI ["self", "place"] (spInit C)) (b_NoName : Binds K fdI ["self", "place"] []) (m_NoName : mg "NoName" = some (.ref C)) (k_NoName : PySem.W.keepIn K (.ref C) = true) (be_NoName : PySem.W.mroIn K C (.type "BaseException") = some true) (ty_NoName : PySem.W.typeIn K (.ref C) = some (.type "type"))
    (c_parts : Cal P w K mg base "parts" ["tree"] 3 (spParts K)) (c_names_bound : Cal P w K mg base "names_bound" ["tree", "number"] 1 (spNb K)) (c_need_bound : CalX P w K mg base "need_bound" ["tree", "bound"] (m + 4) (spNB K C m)) : FnOk P w K mg base (CXF P w) (m + 5) f fd ["tree", "bound"] (spNB K C (m + 1)) := by
  refine fun_okX F scNB (fun vs H Q E h => ?_) (fun cdv A outer s H vs Q E hr h => ?_)
  · obtain ⟨v, y, t, bs, rfl, _⟩ := h
    rfl
  obtain ⟨v, y, t, bs, rfl, rv, wt, ry, hd, hz, qn, qe⟩ := h
  have nd := scNB.nd
  obtain ⟨x, p, fr, mid, ps⟩ := t
  obtain ⟨⟨hx, lf, lm, lp, few, hn, h0, h1⟩, wps⟩ := id wt
  obtain ⟨a, uf, um, up, rfl, ha, rf, rm, rp⟩ := RK.node rv
  obtain ⟨b, us, rfl, hb, rb⟩ := RK.get ry
  cases RKs.txs rb
  obtain ⟨n1, n2, n3, n4, n5⟩ := nf_of
  have ef : (Tn.mk x p fr mid ps).frees bs = (if x = "name" ∧ (txs fr).headD "" ∉ bs then [(p, (txs fr).headD "")] else []) ++ Tn.freess x (txs fr) 0 ps bs := rfl
  have hdd : 1 + Tn.deps ps < m + 1 := hd
  have hzz : bs.length + 2 * (1 + Tn.deps ps) ≤ 900 := hz
  have lns : x ∈ named → (txs fr).length = K11.nf x := fun h => by
    obtain ⟨ns, rfl⟩ := hn h
    rw [txs_map, ← lf, List.length_map]
  refine' ⟨_, ?n0, ?Z⟩
  case' n0 => refine' pss_cons ?n1 ?n2
  case' n1 => refine' ps_if ?n3 ?n4 ?n5
  case' n3 => refine' PW.pt ?n6
  case' n6 => refine' pw_and ?n7 ?n8
  case' n7 => refine' pt_cmpR (op_eqG hr) ?n9 ?n10 (nomark _)
  case' n9 => refine' pe_ix ix_seq ?n11 ?n12 (fun _ _ => rfl)
  case n11 => exact pv 0
  case n12 => exact pe_int
  case n10 => exact pe_str
  case' n8 => refine' pw_and1 ?n13
  case' n13 => refine' pt_cmpR op_notIn_seq ?n14 ?n15 rfl
  case' n14 => refine' pe_ix ix_seq ?n16 ?n17 (fun _ _ => rfl)
  case n16 => exact pv 0
  case n17 => exact pe_int
  case n15 => exact pv 1
  case' n4 => refine' pss_one ?n18
  case' n18 => refine' ps_raiseI O_NoName i_NoName hr b_NoName m_NoName k_NoName be_NoName ty_NoName ?n19
  case' n19 => refine' pa ?n20 ?n21
  case' n20 => refine' pe_ix ix_seq ?n22 ?n23 (fun _ _ => rfl)
  case n22 => exact pv 0
  case n23 => exact pe_int
  case n21 => exact pa_nil
  case n5 => exact pss_nil
  case' n2 => refine' pss_one ?n24
  case' n24 => refine' ps_forX rfl ?n25 ?n26 ?n27
  case' n25 => refine' pi_enumerate rfl T.enumerate ?n28
  case' n28 => refine' pa ?n29 ?n30
  case' n29 => refine' pe_cal c_parts hr ?n31
  case' n31 => refine' pa ?n32 ?n33
  case n32 => exact pv 0
  case n33 => exact pa_nil
  case n30 => exact pa_nil
  case' n26 => refine' pg_tup rfl ?n34
  case' n34 => refine' pgs_cons ?n35 ?n36
  case n35 => exact pg_name (i := 2) nd rfl (Or.inl rfl)
  case' n36 => refine' pgs_cons ?n37 ?n38
  case n37 => exact pg_name (i := 3) nd rfl (Or.inl rfl)
  case n38 => exact pgs_nil
  case' n27 => refine' pss_one ?n39
  case' n39 => refine' ps_expr ?n40
  case' n40 => refine' pe_calX c_need_bound hr ?n41
  case' n41 => refine' pa ?n42 ?n43
  case n42 => exact pv 3
  case' n43 => refine' pa ?n44 ?n45
  case' n44 => refine' pe_op op_addG ?n46 ?n47
  case n46 => exact pv 1
  case' n47 => refine' pe_cal c_names_bound hr ?n48
  case' n48 => refine' pa ?n49 ?n50
  case n49 => exact pv 0
  case' n50 => refine' pa ?n51 ?n52
  case n51 => exact pv 2
  case n52 => exact pa_nil
  case n45 => exact pa_nil
  refine seq_by (fun σ H1 => σ = [some (.ref a), some (.ref b), none, none] ∧ H1 = H ∧ ¬ (x = "name" ∧ (txs fr).headD "" ∉ bs)) (fun R hR => ?_) (fun σ H1 hP => ?_)
  · refine ⟨_, rfl, .inr (.inl ⟨a, _, 0, .str x, rfl, rfl, ha.sq, at0, .inr (.inl ⟨rfl, _, rfl, ?_⟩)⟩)⟩
    rw [dec_s]
    by_cases c1 : x = "name"
    · rw [decide_eq_true c1]
      refine iteT ?_
      obtain ⟨ns, rfl⟩ := hn (by rw [c1]; decide +kernel)
      rw [List.length_map, c1, n1] at lf
      obtain ⟨z, rfl⟩ := List.length_eq_one_iff.mp lf
      obtain rfl := RKs.txs rf
      refine ⟨_, rfl, .inr (.inl ⟨a, _, 2, .str z, rfl, rfl, ha.sq, at2, _, rfl, b, _, rfl, .inr hb.sq, rfl, strs_flat _, _, rfl, ?_⟩)⟩
      rw [if_pos rfl, in_strs]
      by_cases c2 : z ∈ bs
      · rw [decide_eq_true c2]
        exact iteF (hR _ _ ⟨rfl, rfl, fun h => h.2 c2⟩)
      · rw [decide_eq_false c2]
        refine iteT ?_
        have e1 : (Tn.mk x p (List.map Dk.str [z]) mid ps).frees bs = (p, z) :: Tn.freess x (txs (List.map Dk.str [z])) 0 ps bs := by
          rw [ef, if_pos ⟨c1, c2⟩]
          rfl
        refine ⟨_, rfl, .inr (.inl ⟨a, _, 1, .int p, rfl, rfl, ha.sq, at1, by show 1 ≤ sizeLine; decide, fun pe hpe => ⟨pe, p, rfl, upd_same, h0, h1, fun d hd ne => ⟨rfl, some d, ?_, ?_⟩⟩⟩)⟩
        · rw [upd_ne (Ne.symm ne), upd_same]
        · have hd' : H d = none := by rw [upd_ne ne] at hd; exact hd
          refine qe p z _ e1 d _ (fun c o e => ?_) ?_
          · rw [del_ne (ne_of_none e hpe), upd_ne (ne_of_none e hd'), upd_ne (ne_of_none e hpe), upd_ne (ne_of_none e hpe)]
            exact e
          · rw [del_ne ne, upd_same]
    · rw [decide_eq_false c1]
      exact iteF (iteF (hR _ _ ⟨rfl, rfl, fun h => c1 h.1⟩))
  obtain ⟨rfl, rfl, nf0⟩ := hP
  rw [if_neg nf0, List.nil_append] at ef
  refine ⟨_, rfl, _, Tn.mk x p fr mid ps, rfl, rv, wt, fun r us H2 o2 hr0 hr2 rus => ⟨r, us, rfl, hr2, ?_⟩⟩
  have lus := rus.length
  rw [tds_length] at lus
  have lus' : ps.length = us.length := lus
  refine for_by (n := us.length) (fun i σ H3 => ∃ (k1 k2 : Option V), σ = [some (.ref a), some (.ref b), k1, k2] ∧ Old H2 H3 ∧ Tn.freess x (txs fr) 0 (ps.take i) bs = [])
    ⟨none, none, rfl, Old.refl _, rfl⟩ ?_ ?_ ?_ ?_
  · intro i σ H3 hi hv
    obtain ⟨k1, k2, rfl, o3, e3⟩ := hv
    exact ⟨_, SqL.of (o3 _ _ hr2), hi⟩
  · intro σ H3 hv
    obtain ⟨k1, k2, rfl, o3, e3⟩ := hv
    exact ⟨_, SqL.of (o3 _ _ hr2), rfl⟩
  · intro i σ H3 hi hv z H4 hy
    obtain ⟨k1, k2, rfl, o3, e3⟩ := hv
    obtain ⟨T4, uv, rfl, hT4, rfl, hyx⟩ := hy
    have eu : us[i]? = some uv := hyx _ (SqL.of (o3 _ _ hr2))
    have ip : i < ps.length := by omega
    obtain ⟨d, ed, rd⟩ := rus.getV eu
    rw [show (Tn.ds (Tn.mk x p fr mid ps).ps)[i]? = some ps[i].d from tds_get ip] at ed
    cases ed
    have o4 : Old H3 (upd H3 T4 (.tup [.int (i : Nat), uv])) := Old.new hT4
    have oA := (o2.trans o3).trans o4
    have bl := bnd_len i lns
    have dg := tdeps_get ip
    have snoc : Tn.freess x (txs fr) 0 (ps.take (i + 1)) bs = ps[i].frees (bs ++ bnd x (txs fr) i) := by
      rw [take_snoc ip, freess_snoc, e3, List.nil_append, List.length_take, Nat.min_eq_left (by omega)]
    refine ⟨T4, _, rfl, SqT.of upd_same, rfl, _, _, rfl, _, _, rfl, rfl, ?_⟩
    refine ⟨_, rfl, _, rfl, _, rfl, _, rfl, _, Tn.mk x p fr mid ps, i, rfl, rv.mono oA.tm, wt, fun nv H5 o5 rn => ?_⟩
    refine cat_g (ry.mono (oA.trans o5).tm) rn (by rw [List.length_map, List.length_map]; show bs.length + (bnd x (txs fr) i).length ≤ 1000; omega) fun bv H6 o6 rb6 => ?_
    rw [← List.map_append] at rb6
    refine ⟨uv, bv, ps[i], bs ++ bnd x (txs fr) i, rfl, rd.mono ((o3.trans o4).trans (o5.trans o6)).tm, twfs_get ip wps, rb6, by omega, by rw [List.length_append]; omega, fun e H7 o7 => ?_, fun pp nn rr e d H7 o7 h7 => ?_⟩
    · exact ⟨_, _, rfl, ((o3.trans o4).trans (o5.trans o6)).trans o7, by rw [snoc]; exact e⟩
    · refine qe pp nn (rr ++ Tn.freess x (txs fr) (0 + (ps.take (i + 1)).length) (ps.drop (i + 1)) bs) ?_ d H7 (oA.trans ((o5.trans o6).trans o7)) h7
      rw [ef]
      have ez := freess_append (ps.take (i + 1)) (ps.drop (i + 1)) x (txs fr) 0 bs
      rw [List.take_append_drop] at ez
      rw [ez, snoc, e]
      rfl
  · intro σ H3 hv
    obtain ⟨k1, k2, rfl, o3, e3⟩ := hv
    rw [← lus', List.take_length] at e3
    exact qn (by rw [ef]; exact e3) _ (o2.trans o3)
/-! ### need_names -/
noncomputable abbrev sNN : Stmt := top 15
noncomputable def spNN (K : PySem.W.Frag) (C : Addr) (m : Nat) : Sp := fun vs H Q E => ∃ (v : V) (t : Tn), vs = [v] ∧ RK K H t.d v ∧ t.wf ∧ t.dep < m ∧ 2 * t.dep ≤ 900 ∧
  (t.frees [] = [] → ∀ H', Old H H' → Q .non H') ∧ (∀ p n r, t.frees [] = (p, n) :: r → ∀ d H', Old H H' → H' d = some (DO d [("place", .int p)]) → E (.ref C) (some d) H')
theorem scNN : FnScope ["tree"] ["tree"] (defScope sNN) := ⟨rfl, rfl, rfl, by decide +kernel, rfl, by decide +kernel, by decide +kernel⟩
theorem ok_NN {m : Nat} {C : Addr} (F : Fun K "need_names" "need_names" sNN f fd) (T : Tx mg) (c_need_bound : CalX P w K mg base "need_bound" ["tree", "bound"] (m + 4) (spNB K C m)) : FnOk P w K mg base (CXF P w) (m + 5) f fd ["tree"] (spNN K C m) := by
  refine fun_okX F scNN (fun vs H Q E h => ?_) (fun cdv A outer s H vs Q E hr h => ?_)
  · obtain ⟨v, t, rfl, _⟩ := h
    rfl
  obtain ⟨v, t, rfl, rv, wt, hd, hz, qn, qe⟩ := h
  refine' ⟨_, ?n0, ?Z⟩
  case' n0 => refine' pss_one ?n1
  case' n1 => refine' ps_expr ?n2
  case' n2 => refine' pe_calX c_need_bound hr ?n3
  case' n3 => refine' pa ?n4 ?n5
  case n4 => exact pv 0
  case' n5 => refine' pa ?n6 ?n7
  case' n6 => refine' pe_tup ?n8
  case n8 => exact pa_nil
  case n7 => exact pa_nil
  refine ⟨_, rfl, by show 0 ≤ sizeLine; decide, fun e he => ?_⟩
  have o1 : Old H (upd H e (.tup [])) := Old.new he
  exact ⟨v, .ref e, t, [], rfl, rv.mono o1.tm, wt, RK.tup (.of upd_same) .nil, hd, by simpa using hz, fun z H' o' => qn z _ (o1.trans o'), fun p n r z d H' o' h' => qe p n r z d H' (o1.trans o') h'⟩
end
end L2.K12

end
section
set_option Elab.async false
set_option linter.all false
set_option maxRecDepth 100000
set_option maxHeartbeats 8000000
namespace L2.K12
open PySem PySem.Spec PyProof.Rows L2.Bw L2.Bk L2.Ex
section
variable {P : Program} {w : World} {K : PySem.W.Frag} {mg : Str → Option Value} {base : Heap} {f : Addr} {fd : FuncData}
theorem sz1000 (m : Nat) (h : m ≤ 1000) : m ≤ sizeLine := Nat.le_trans h (by decide)
/-! ### name -/
noncomputable abbrev sName : Stmt := top 21
noncomputable def spName (K : PySem.W.Frag) : Sp := fun vs H Q _ => ∃ (l : Addr) (ns : List Int), vs = [.ref l] ∧ H l = some (.lst (ns.map V.int)) ∧
  ∀ (x : Str) (ns' : List Int) (H' : Hp), 1 ≤ x.length → x.length ≤ 9 → Gr (M1 l) H H' → H' l = some (.lst (ns'.map V.int)) → Q (.str x) H'
theorem scName : FnScope ["_law_xs", "_law_number", "_law_size", "_law_word", "_law_k"] ["_law_xs"] (defScope sName) := ⟨rfl, rfl, rfl, by decide +kernel, rfl, by decide +kernel, by decide +kernel⟩
theorem ok_name {n : Nat} (F : Fun K "_law_name" "_law_name" sName f fd) (T : Tx mg) (c_next : Cal P w K mg base "_law_next" ["_law_xs", "_law_many_here"] 1 (spNext K)) : FnOk P w K mg base CX0 (n + 2) f fd ["_law_xs"] (spName K) := by
  refine F.ok scName (fun vs H Q E h => ?_) (fun cdv A outer s H vs Q E hr h => ?_)
  · obtain ⟨l, ns, rfl, _⟩ := h
    rfl
  obtain ⟨l, ns, rfl, hl, q⟩ := h
  have nd := scName.nd
  refine' ⟨_, ?n0, ?Z⟩
  case' n0 => refine' pss_cons ?n1 ?n2
  case' n1 => refine' ps_setX (i := 1) nd rfl (Or.inl rfl) rfl (by first | exact .inl rfl | exact .inr rfl) ?n3
  case' n3 => refine' pe_op op_mulG ?n4 ?n5
  case' n4 => refine' pe_cal c_next hr ?n6
  case' n6 => refine' pa ?n7 ?n8
  case n7 => exact pv 0
  case' n8 => refine' pa ?n9 ?n10
  case' n9 => refine' pe_op op_mulG ?n11 ?n12
  case n11 => exact pe_int
  case' n12 => refine' pe_op op_pow ?n13 ?n14
  case n13 => exact pe_int
  case n14 => exact pe_int
  case n10 => exact pa_nil
  case n5 => exact pe_int
  case' n2 => refine' pss_cons ?n15 ?n16
  case' n15 => refine' ps_setX (i := 2) nd rfl (Or.inl rfl) rfl (by first | exact .inl rfl | exact .inr rfl) ?n17
  case' n17 => refine' pe_op op_addG ?n18 ?n19
  case n18 => exact pe_int
  case' n19 => refine' pe_op op_mod ?n20 ?n21
  case n20 => exact pv 1
  case n21 => exact pe_int
  case' n16 => refine' pss_cons ?n22 ?n23
  case' n22 => refine' ps_setX (i := 1) nd rfl (Or.inl rfl) rfl (by first | exact .inl rfl | exact .inr rfl) ?n24
  case' n24 => refine' pe_op op_fdivG ?n25 ?n26
  case n25 => exact pv 1
  case n26 => exact pe_int
  case' n23 => refine' pss_cons ?n27 ?n28
  case' n27 => refine' ps_setX (i := 3) nd rfl (Or.inl rfl) rfl (by first | exact .inl rfl | exact .inr rfl) ?n29
  case n29 => exact pe_str
  case' n28 => refine' pss_cons ?n30 ?n31
  case' n30 => refine' ps_for PassesOwn.never rfl ?n32 ?n33 ?n34
  case' n32 => refine' pi_range1 rfl T.range ?n35
  case' n35 => refine' pa ?n36 ?n37
  case n36 => exact pv 2
  case n37 => exact pa_nil
  case n33 => exact pg_name (i := 4) nd rfl (Or.inl rfl)
  case' n34 => refine' pss_cons ?n38 ?n39
  case' n38 => refine' ps_setX (i := 3) nd rfl (Or.inl rfl) rfl (by first | exact .inl rfl | exact .inr rfl) ?n40
  case' n40 => refine' pe_op op_addG ?n41 ?n42
  case n41 => exact pv 3
  case' n42 => refine' pe_ix ix_seq ?n43 ?n44 (fun _ _ => rfl)
  case n43 => exact pe_str
  case' n44 => refine' pe_op op_mod ?n45 ?n46
  case n45 => exact pv 1
  case n46 => exact pe_int
  case' n39 => refine' pss_one ?n47
  case' n47 => refine' ps_setX (i := 1) nd rfl (Or.inl rfl) rfl (by first | exact .inl rfl | exact .inr rfl) ?n48
  case' n48 => refine' pe_op op_fdivG ?n49 ?n50
  case n49 => exact pv 1
  case n50 => exact pe_int
  case' n31 => refine' pss_cons ?n51 ?n52
  case' n51 => refine' ps_if ?n53 ?n54 ?n55
  case' n53 => refine' PW.pt ?n56
  case' n56 => refine' pw_or ?n57 ?n58
  case' n57 => refine' pt_cmpR (op_eqG hr) ?n59 ?n60 (nomark _)
  case n59 => exact pv 3
  case n60 => exact pe_str
  case' n58 => refine' pw_or1 ?n61
  case' n61 => refine' pt_cmpR (op_eqG hr) ?n62 ?n63 (nomark _)
  case n62 => exact pv 3
  case n63 => exact pe_str
  case' n54 => refine' pss_one ?n64
  case' n64 => refine' ps_setX (i := 3) nd rfl (Or.inl rfl) rfl (by first | exact .inl rfl | exact .inr rfl) ?n65
  case' n65 => refine' pe_op op_addG ?n66 ?n67
  case n66 => exact pv 3
  case n67 => exact pe_str
  case n55 => exact pss_nil
  case' n52 => refine' pss_one ?n68
  case' n68 => refine' ps_ret ?n69
  case n69 => exact pv 3
  refine ⟨_, rfl, _, _, rfl, rfl, ⟨by decide, by decide, by decide⟩, .inr ⟨_, _, rfl, rfl, .inl ⟨by decide, by decide⟩, l, ns, _, rfl, hl, by decide, fun r ns' H' r0 r1 g hl' => ?_⟩⟩
  refine .inr ⟨_, _, rfl, rfl, .inr ⟨by decide, by decide⟩, ?_⟩
  refine ⟨_, rfl, _, _, rfl, rfl, (by show (0 : Int) < 8; decide), add_i ?_⟩
  refine ⟨_, rfl, _, _, rfl, rfl, .inl ⟨by decide, by decide⟩, ?_⟩
  have m0 : 0 ≤ r * 48271 % 8 := Int.emod_nonneg _ (by decide)
  have m1 : r * 48271 % 8 < 8 := Int.emod_lt_of_pos _ (by decide)
  generalize r * 48271 % 8 = sz at m0 m1 ⊢
  refine ⟨_, rfl, _, rfl, by omega, by omega, for_range (n := (1 + sz).toNat) (fun i σ H2 => ∃ (num : Int) (word : Str) (kk : Option V), σ = [some (.ref l), some (.int num), some (.int (1 + sz)), some (.str word), kk] ∧ H2 = H' ∧ word.length = i) ⟨_, "", none, rfl, rfl, rfl⟩ ?_ ?_⟩
  · intro i σ H2 hi hv
    obtain ⟨num, word, kk, rfl, rfl, hw⟩ := hv
    have a0 : 0 ≤ num % 26 := Int.emod_nonneg _ (by decide)
    have a1 : num % 26 < 26 := Int.emod_lt_of_pos _ (by decide)
    obtain ⟨c, ec, _⟩ := atI_in (xs := (("abcdefghijklmnopqrstuvwxyz" : Str)).cps.toList) a0 (by exact a1)
    refine ⟨_, rfl, _, rfl, _, _, rfl, rfl, (by show (0 : Int) < 26; decide), .inr (.inr ⟨_, _, c, rfl, rfl, by decide, ec, .inr (addS (sz1000 _ (by show word.length + 1 ≤ 1000; omega)) ?_)⟩)⟩
    refine ⟨_, rfl, _, _, rfl, rfl, .inl ⟨by decide, by decide⟩, ?_⟩
    refine ⟨_, _, _, rfl, rfl, ?_⟩
    rw [strLen_append, hw]
    rfl
  · intro σ H2 hv
    obtain ⟨num, word, kk, rfl, rfl, hw⟩ := hv
    have lx : ("x" : Str).length = 1 := by decide +kernel
    have l1 : 1 ≤ word.length := by omega
    have l2 : word.length ≤ 8 := by omega
    have fin : ∀ x : Str, 1 ≤ x.length → x.length ≤ 9 → Q (.str x) H2 := fun x h1 h2 => q x ns' H2 h1 h2 g hl'
    refine ⟨_, rfl, .inr (.inl ⟨rfl, _, rfl, ?_⟩)⟩
    refine ite2 (fun c => ?_) (fun c => ?_)
    · refine iteT ⟨_, rfl, .inr (.inr (.inl ⟨_, _, rfl, rfl, sz1000 _ (by rw [lx]; omega), _, rfl, fin _ (by rw [strLen_append]; omega) (by rw [strLen_append, lx]; omega)⟩))⟩
    · refine ⟨_, rfl, .inr (.inl ⟨rfl, _, rfl, ?_⟩)⟩
      refine ite2 (fun c => ?_) (fun c => ?_)
      · exact ⟨_, rfl, .inr (.inr (.inl ⟨_, _, rfl, rfl, sz1000 _ (by rw [lx]; omega), _, rfl, fin _ (by rw [strLen_append]; omega) (by rw [strLen_append, lx]; omega)⟩))⟩
      · exact ⟨_, rfl, fin _ l1 (by omega)⟩
/-! ### fair -/
noncomputable abbrev sFair : Stmt := top 22
noncomputable def spFair : Sp := fun vs H Q _ => ∃ (x : Str), vs = [.str x] ∧ x.length ≤ 100 ∧ ∀ y : Str, y.length ≤ 101 → Q (.str y) H
theorem scFair : FnScope ["_law_word"] ["_law_word"] (defScope sFair) := ⟨rfl, rfl, rfl, by decide +kernel, rfl, by decide +kernel, by decide +kernel⟩
theorem ok_fair {n : Nat} (F : Fun K "_law_fair" "_law_fair" sFair f fd) (T : Tx mg) : FnOk P w K mg base CX0 (n + 1) f fd ["_law_word"] spFair := by
  refine F.ok scFair (fun vs H Q E h => ?_) (fun cdv A outer s H vs Q E hr h => ?_)
  · obtain ⟨x, rfl, _⟩ := h
    rfl
  obtain ⟨x, rfl, hx, q⟩ := h
  refine' ⟨_, ?n0, ?Z⟩
  case' n0 => refine' pss_cons ?n1 ?n2
  case' n1 => refine' ps_if ?n3 ?n4 ?n5
  case' n3 => refine' PW.pt ?n6
  case' n6 => refine' pw_or ?n7 ?n8
  case' n7 => refine' pt_cmpR (op_eqG hr) ?n9 ?n10 (nomark _)
  case n9 => exact pv 0
  case n10 => exact pe_str
  case' n8 => refine' pw_or ?n11 ?n12
  case' n11 => refine' pt_cmpR (op_eqG hr) ?n13 ?n14 (nomark _)
  case n13 => exact pv 0
  case n14 => exact pe_str
  case' n12 => refine' pw_or1 ?n15
  case' n15 => refine' pt_cmpR (op_eqG hr) ?n16 ?n17 (nomark _)
  case n16 => exact pv 0
  case n17 => exact pe_str
  case' n4 => refine' pss_one ?n18
  case' n18 => refine' ps_ret ?n19
  case' n19 => refine' pe_op op_addG ?n20 ?n21
  case n20 => exact pv 0
  case n21 => exact pe_str
  case n5 => exact pss_nil
  case' n2 => refine' pss_one ?n22
  case' n22 => refine' ps_ret ?n23
  case n23 => exact pv 0
  have lz : ("z" : Str).length = 1 := by decide +kernel
  have big : ∀ {R : VK}, (∀ y : Str, y.length ≤ 101 → R (.str y) H) → rAddG K (.str x) (.str "z") H R := fun h => .inr (.inr (.inl ⟨_, _, rfl, rfl, sz1000 _ (by rw [lz]; omega), h _ (by rw [strLen_append, lz]; omega)⟩))
  refine ⟨_, rfl, .inr (.inl ⟨rfl, _, rfl, ?_⟩)⟩
  refine ite2 (fun c => ?_) (fun c => ?_)
  · exact iteT ⟨_, rfl, big q⟩
  refine ⟨_, rfl, .inr (.inl ⟨rfl, _, rfl, ?_⟩)⟩
  refine ite2 (fun c => ?_) (fun c => ?_)
  · exact iteT ⟨_, rfl, big q⟩
  refine ⟨_, rfl, .inr (.inl ⟨rfl, _, rfl, ?_⟩)⟩
  refine ite2 (fun c => ?_) (fun c => ?_)
  · exact ⟨_, rfl, big q⟩
  exact ⟨_, rfl, q _ (by omega)⟩
end
end L2.K12

end
section
set_option Elab.async false
set_option linter.all false
set_option maxRecDepth 100000
set_option maxHeartbeats 8000000
namespace L2.K12
open PySem PySem.Spec PyProof.Rows L2.Bw L2.Bk L2.Ex
section
variable {P : Program} {w : World} {K : PySem.W.Frag} {mg : Str → Option Value} {base : Heap} {f : Addr} {fd : FuncData}
/-! ### names -/
noncomputable abbrev sNames : Stmt := top 23
noncomputable def spNames (K : PySem.W.Frag) : Sp := fun vs H Q _ => ∃ (c : Int), vs = [.int c] ∧ ∀ (r : Addr) (z1 z2 z3 : Str) (H' : Hp), Old H H' → H r = none → H' r = some (.lst [.str z1, .str z2, .str z3]) → Q (.ref r) H'
theorem scNames : FnScope ["_law_cell", "_law_one", "_law_at", "_law_other", "_law_two"] ["_law_cell"] (defScope sNames) := ⟨rfl, rfl, rfl, by decide +kernel, rfl, by decide +kernel, by decide +kernel⟩
theorem ok_names {n : Nat} (F : Fun K "_law_names" "_law_names" sNames f fd) (T : Tx mg) (c_name : Cal P w K mg base "_law_name" ["_law_xs"] 2 (spName K)) (c_fair : Cal P w K mg base "_law_fair" ["_law_word"] 1 spFair) : FnOk P w K mg base CX0 (n + 3) f fd ["_law_cell"] (spNames K) := by
  refine F.ok scNames (fun vs H Q E h => ?_) (fun cdv A outer s H vs Q E hr h => ?_)
  · obtain ⟨c, rfl, _⟩ := h
    rfl
  obtain ⟨c, rfl, q⟩ := h
  have nd := scNames.nd
  refine' ⟨_, ?n0, ?Z⟩
  case' n0 => refine' pss_cons ?n1 ?n2
  case' n1 => refine' ps_setX (i := 1) nd rfl (Or.inl rfl) rfl (by first | exact .inl rfl | exact .inr rfl) ?n3
  case' n3 => refine' pe_cal c_name hr ?n4
  case' n4 => refine' pa ?n5 ?n6
  case' n5 => refine' pe_lst ?n7
  case' n7 => refine' pa ?n8 ?n9
  case' n8 => refine' pe_op op_fdivG ?n10 ?n11
  case n10 => exact pv 0
  case n11 => exact pe_int
  case n9 => exact pa_nil
  case n6 => exact pa_nil
  case' n2 => refine' pss_cons ?n12 ?n13
  case' n12 => refine' ps_setX (i := 2) nd rfl (Or.inl rfl) rfl (by first | exact .inl rfl | exact .inr rfl) ?n14
  case' n14 => refine' pe_op op_mod ?n15 ?n16
  case' n15 => refine' pe_op op_fdivG ?n17 ?n18
  case n17 => exact pv 0
  case n18 => exact pe_int
  case' n16 => refine' pe_callB (call_lenA) rfl T.len boot_len ?n19
  case' n19 => refine' pa ?n20 ?n21
  case n20 => exact pv 1
  case n21 => exact pa_nil
  case' n13 => refine' pss_cons ?n22 ?n23
  case' n22 => refine' ps_setX (i := 3) nd rfl (Or.inl rfl) rfl (by first | exact .inl rfl | exact .inr rfl) ?n24
  case' n24 => refine' pe_ix ix_seq ?n25 ?n26 (fun _ _ => rfl)
  case n25 => exact pe_str
  case' n26 => refine' pe_op op_mod ?n27 ?n28
  case' n27 => refine' pe_op op_addG ?n29 ?n30
  case' n29 => refine' pe_op op_sub ?n31 ?n32
  case' n31 => refine' pe_callB (call_ord) rfl T.ord boot_ord ?n33
  case' n33 => refine' pa ?n34 ?n35
  case' n34 => refine' pe_ix ix_seq ?n36 ?n37 (fun _ _ => rfl)
  case n36 => exact pv 1
  case n37 => exact pv 2
  case n35 => exact pa_nil
  case n32 => exact pe_int
  case' n30 => refine' pe_op op_mod ?n38 ?n39
  case' n38 => refine' pe_op op_fdivG ?n40 ?n41
  case n40 => exact pv 0
  case n41 => exact pe_int
  case n39 => exact pe_int
  case n28 => exact pe_int
  case' n23 => refine' pss_cons ?n42 ?n43
  case' n42 => refine' ps_setX (i := 4) nd rfl (Or.inl rfl) rfl (by first | exact .inl rfl | exact .inr rfl) ?n44
  case' n44 => refine' pe_cal c_fair hr ?n45
  case' n45 => refine' pa ?n46 ?n47
  case' n46 => refine' pe_op op_addG ?n48 ?n49
  case' n48 => refine' pe_op op_addG ?n50 ?n51
  case' n50 => refine' pe_slice sl_a ?n52 po_none ?n53
  case n52 => exact pv 1
  case' n53 => refine' po_some ?n54
  case n54 => exact pv 2
  case n51 => exact pv 3
  case' n49 => refine' pe_slice sl_a ?n55 ?n56 po_none
  case n55 => exact pv 1
  case' n56 => refine' po_some ?n57
  case' n57 => refine' pe_op op_addG ?n58 ?n59
  case n58 => exact pv 2
  case n59 => exact pe_int
  case n47 => exact pa_nil
  case' n43 => refine' pss_cons ?n60 ?n61
  case' n60 => refine' ps_if ?n62 ?n63 ?n64
  case' n62 => refine' pt_cmpR (op_eqG hr) ?n65 ?n66 (nomark _)
  case' n65 => refine' pe_op op_mod ?n67 ?n68
  case n67 => exact pv 0
  case n68 => exact pe_int
  case n66 => exact pe_int
  case' n63 => refine' pss_one ?n69
  case' n69 => refine' ps_ret ?n70
  case' n70 => refine' pe_lst ?n71
  case' n71 => refine' pa ?n72 ?n73
  case n72 => exact pv 1
  case' n73 => refine' pa ?n74 ?n75
  case n74 => exact pv 4
  case' n75 => refine' pa ?n76 ?n77
  case' n76 => refine' pe_cal c_fair hr ?n78
  case' n78 => refine' pa ?n79 ?n80
  case' n79 => refine' pe_op op_addG ?n81 ?n82
  case' n81 => refine' pe_slice sl_a ?n83 po_none ?n84
  case n83 => exact pv 1
  case' n84 => refine' po_some ?n85
  case n85 => exact pv 2
  case' n82 => refine' pe_slice sl_a ?n86 ?n87 po_none
  case n86 => exact pv 1
  case' n87 => refine' po_some ?n88
  case' n88 => refine' pe_op op_addG ?n89 ?n90
  case n89 => exact pv 2
  case n90 => exact pe_int
  case n80 => exact pa_nil
  case n77 => exact pa_nil
  case n64 => exact pss_nil
  case' n61 => refine' pss_one ?n91
  case' n91 => refine' ps_ret ?n92
  case' n92 => refine' pe_lst ?n93
  case' n93 => refine' pa ?n94 ?n95
  case n94 => exact pv 1
  case' n95 => refine' pa ?n96 ?n97
  case n96 => exact pv 4
  case' n97 => refine' pa ?n98 ?n99
  case' n98 => refine' pe_cal c_fair hr ?n100
  case' n100 => refine' pa ?n101 ?n102
  case' n101 => refine' pe_op op_addG ?n103 ?n104
  case' n103 => refine' pe_slice sl_a ?n105 ?n106 po_none
  case n105 => exact pv 1
  case' n106 => refine' po_some ?n107
  case n107 => exact pv 2
  case' n104 => refine' pe_slice sl_a ?n108 po_none ?n109
  case n108 => exact pv 1
  case' n109 => refine' po_some ?n110
  case n110 => exact pv 2
  case n102 => exact pa_nil
  case n99 => exact pa_nil
  refine ⟨_, rfl, _, _, rfl, rfl, .inl ⟨by decide, by decide⟩, by show 1 ≤ sizeLine; decide, fun l hl => ⟨l, [c / 16], rfl, upd_same, fun one ns' H1 l1 l9 g hl' => ?_⟩⟩
  have o1 : Old H H1 := fun b o e => g b o (by rw [upd_ne (ne_of_none e hl)]; exact e) (ne_of_none e hl)
  have z1 : one.length ≤ sizeLine := sz1000 _ (by omega)
  refine ⟨_, rfl, _, _, rfl, rfl, .inl ⟨by decide, by decide⟩, _, rfl, .inr ⟨one, rfl, z1, _, _, rfl, rfl, by omega, ?_⟩⟩
  have a0 : 0 ≤ c / 2 % (one.length : Int) := Int.emod_nonneg _ (by omega)
  have a1 : c / 2 % (one.length : Int) < one.length := Int.emod_lt_of_pos _ (by omega)
  dsimp only [gName]
  generalize c / 2 % (one.length : Int) = at' at a0 a1 ⊢
  obtain ⟨ch, ec, _⟩ := atI_in (xs := one.cps.toList) a0 (by exact a1)
  refine ⟨_, rfl, _, rfl, .inr (.inr ⟨one, at', ch, rfl, rfl, z1, ec, _, rfl, rfl, _, _, rfl, rfl, _, rfl, _, _, rfl, rfl, .inl ⟨by decide, by decide⟩, _, _, rfl, rfl, (by show (0 : Int) < 25; decide), add_i ⟨_, _, rfl, rfl, (by show (0 : Int) < 26; decide), ?_⟩⟩)⟩
  have b0 : ∀ i : Int, 0 ≤ i % 26 := fun i => Int.emod_nonneg _ (by decide)
  have b1 : ∀ i : Int, i % 26 < 26 := fun i => Int.emod_lt_of_pos _ (by decide)
  have letter : ∀ i : Int, ∃ cc, atI (("abcdefghijklmnopqrstuvwxyz" : Str)).cps.toList (i % 26) = some cc := fun i => let ⟨cc, e, _⟩ := atI_in (xs := (("abcdefghijklmnopqrstuvwxyz" : Str)).cps.toList) (b0 i) (by exact b1 i); ⟨cc, e⟩
  refine .inr (.inr ⟨_, _, (letter _).choose, rfl, rfl, by decide, (letter _).choose_spec, ?_⟩)
  have ls : ∀ lo hi, (Txt.slice one lo hi).length ≤ 9 := fun lo hi => Nat.le_trans (Txt.slice_le one lo hi) l9
  have l11 : ∀ cc, (⟨#[cc]⟩ : Str).length = 1 := fun _ => rfl
  have cat : ∀ {x y : Str} {R : VK}, x.length ≤ 40 → y.length ≤ 40 → (∀ z : Str, z.length ≤ x.length + y.length → R (.str z) H1) → rAddG K (.str x) (.str y) H1 R := fun h1 h2 h => .inr (.inr (.inl ⟨_, _, rfl, rfl, sz1000 _ (by omega), h _ (by rw [strLen_append]; exact Nat.le_refl _)⟩))
  have ls1 := ls none (some at')
  have ls2 := ls (some (at' + 1)) none
  have ls3 := ls (some at') none
  refine ⟨_, rfl, _, rfl, _, rfl, .inr ⟨one, rfl, z1, _, rfl, cat (by omega) (by rw [l11]; omega) fun z hz => ⟨_, rfl, _, rfl, add_i ⟨_, rfl, .inr ⟨one, rfl, z1, cat (by rw [l11] at hz; omega) (by omega) fun z' hz' => ⟨z', rfl, by rw [l11] at hz; omega, fun two h2 => ?_⟩⟩⟩⟩⟩⟩
  refine ⟨_, rfl, _, _, rfl, rfl, (by show (0 : Int) < 2; decide), .inr (.inl ⟨rfl, _, rfl, ?_⟩)⟩
  refine ite2 (fun _ => ?_) (fun _ => ?_)
  · refine ⟨_, rfl, _, rfl, _, rfl, _, rfl, _, rfl, .inr ⟨one, rfl, z1, _, rfl, _, rfl, add_i ⟨_, rfl, .inr ⟨one, rfl, z1, cat (by omega) (by omega) fun z3 hz3 => ⟨z3, rfl, by omega, fun th h3 => ⟨by show 3 ≤ sizeLine; decide, fun r hr => ?_⟩⟩⟩⟩⟩⟩
    exact q r one two th _ (o1.trans (Old.new hr)) (o1.free hr) upd_same
  · refine ⟨_, rfl, _, rfl, _, rfl, _, rfl, _, rfl, .inr ⟨one, rfl, z1, _, rfl, _, rfl, _, rfl, .inr ⟨one, rfl, z1, cat (by omega) (by omega) fun z3 hz3 => ⟨z3, rfl, by omega, fun th h3 => ⟨by show 3 ≤ sizeLine; decide, fun r hr => ?_⟩⟩⟩⟩⟩
    exact q r one two th _ (o1.trans (Old.new hr)) (o1.free hr) upd_same
end
end L2.K12

end
section
set_option Elab.async false
set_option linter.all false
set_option maxRecDepth 100000
set_option maxHeartbeats 8000000
namespace L2.K12
open PySem PySem.Spec PyProof.Rows L2.Bw L2.Bk L2.Ex
section
variable {P : Program} {w : World} {K : PySem.W.Frag} {mg : Str → Option Value} {base : Heap} {f : Addr} {fd : FuncData}
/-! ### pick -/
noncomputable abbrev sPick : Stmt := top 24
noncomputable def spPick (K : PySem.W.Frag) : Sp := fun vs H Q _ => ∃ (l nl : Addr) (ns : List Int) (z1 z2 z3 : Str), vs = [.ref l, .ref nl] ∧ H l = some (.lst (ns.map V.int)) ∧ H nl = some (.lst [.str z1, .str z2, .str z3]) ∧ nl ≠ l ∧
  ∀ (x : Str) (ns' : List Int) (H' : Hp), Gr (M1 l) H H' → H' l = some (.lst (ns'.map V.int)) → Q (.str x) H'
theorem scPick : FnScope ["_law_xs", "_law_names_here", "_law_way"] ["_law_xs", "_law_names_here"] (defScope sPick) := ⟨rfl, rfl, rfl, by decide +kernel, rfl, by decide +kernel, by decide +kernel⟩
theorem ok_pick {n : Nat} (F : Fun K "_law_pick" "_law_pick" sPick f fd) (T : Tx mg) (c_next : Cal P w K mg base "_law_next" ["_law_xs", "_law_many_here"] 1 (spNext K)) (c_name : Cal P w K mg base "_law_name" ["_law_xs"] 2 (spName K)) : FnOk P w K mg base CX0 (n + 3) f fd ["_law_xs", "_law_names_here"] (spPick K) := by
  refine F.ok scPick (fun vs H Q E h => ?_) (fun cdv A outer s H vs Q E hr h => ?_)
  · obtain ⟨l, nl, ns, z1, z2, z3, rfl, _⟩ := h
    rfl
  obtain ⟨l, nl, ns, z1, z2, z3, rfl, hl, hnl, ne, q⟩ := h
  have nd := scPick.nd
  refine' ⟨_, ?n0, ?Z⟩
  case' n0 => refine' pss_cons ?n1 ?n2
  case' n1 => refine' ps_setX (i := 2) nd rfl (Or.inl rfl) rfl (by first | exact .inl rfl | exact .inr rfl) ?n3
  case' n3 => refine' pe_cal c_next hr ?n4
  case' n4 => refine' pa ?n5 ?n6
  case n5 => exact pv 0
  case' n6 => refine' pa ?n7 ?n8
  case n7 => exact pe_int
  case n8 => exact pa_nil
  case' n2 => refine' pss_cons ?n9 ?n10
  case' n9 => refine' ps_if ?n11 ?n12 ?n13
  case' n11 => refine' pt_cmpR (op_eqG hr) ?n14 ?n15 (nomark _)
  case n14 => exact pv 2
  case n15 => exact pe_int
  case' n12 => refine' pss_one ?n16
  case' n16 => refine' ps_ret ?n17
  case' n17 => refine' pe_cal c_name hr ?n18
  case' n18 => refine' pa ?n19 ?n20
  case n19 => exact pv 0
  case n20 => exact pa_nil
  case n13 => exact pss_nil
  case' n10 => refine' pss_one ?n21
  case' n21 => refine' ps_ret ?n22
  case' n22 => refine' pe_ix ix_seq ?n23 ?n24 (fun _ _ => rfl)
  case n23 => exact pv 1
  case n24 => exact pv 2
  refine ⟨_, rfl, l, ns, _, rfl, hl, by decide, fun way ns1 H1 w0 w1 g1 hl1 => ?_⟩
  refine ⟨_, rfl, .inr (.inl ⟨rfl, _, rfl, ?_⟩)⟩
  rw [dec_int, show (way == 3) = decide (way = 3) from rfl]
  by_cases c : way = 3
  · rw [decide_eq_true c]
    refine iteT ?_
    exact ⟨_, rfl, l, ns1, rfl, hl1, fun x ns2 H2 _ _ g2 hl2 => q x ns2 H2 (g1.trans g2) hl2⟩
  · rw [decide_eq_false c]
    refine iteF ?_
    have hn1 := g1 _ _ hnl ne
    obtain ⟨x, ex, hm⟩ := atI_strs (ss := [z1, z2, z3]) w0 (by show way < 3; omega)
    exact ⟨_, rfl, _, rfl, .inl ⟨nl, _, way, .str x, rfl, rfl, SqL.of hn1, ex, q x ns1 H1 g1 hl1⟩⟩
/-! ### place -/
noncomputable abbrev sPlace : Stmt := top 25
noncomputable def spPlace (K : PySem.W.Frag) : Sp := fun vs H Q _ => ∃ (u : Addr) (us : List Int) (bv : V) (a b c : Int), vs = [.ref u, bv] ∧ H u = some (.lst (us.map V.int)) ∧ us.length ≤ 500000 ∧ RK K H (.tup [.int a, .int b, .int c]) bv ∧ 0 ≤ c ∧ c < 1000 ∧
  ∀ i : Int, 0 ≤ i → i < 100000 → Q (.int i) (upd H u (.lst ((us ++ [i]).map V.int)))
theorem scPlace : FnScope ["_law_used", "_law_base", "_law_place_here"] ["_law_used", "_law_base"] (defScope sPlace) := ⟨rfl, rfl, rfl, by decide +kernel, rfl, by decide +kernel, by decide +kernel⟩
theorem ok_place {n : Nat} (F : Fun K "_law_place" "_law_place" sPlace f fd) (T : Tx mg) : FnOk P w K mg base CX0 (n + 1) f fd ["_law_used", "_law_base"] (spPlace K) := by
  refine F.ok scPlace (fun vs H Q E h => ?_) (fun cdv A outer s H vs Q E hr h => ?_)
  · obtain ⟨u, us, bv, a, b, c, rfl, _⟩ := h
    rfl
  obtain ⟨u, us, bv, a, b, c, rfl, hu, lu, rb, c0, c1, q⟩ := h
  have nd := scPlace.nd
  obtain ⟨ba, bs, rfl, hb, rbs⟩ := RK.get rb
  obtain ⟨v1, _, rfl, h1, v2, _, rfl, h2, v3, _, rfl, h3, e⟩ := rbs
  cases (show _ = [] from e)
  cases (show v1 = .int a by rw [RK] at h1; exact h1)
  cases (show v2 = .int b by rw [RK] at h2; exact h2)
  cases (show v3 = .int c by rw [RK] at h3; exact h3)
  refine' ⟨_, ?n0, ?Z⟩
  case' n0 => refine' pss_cons ?n1 ?n2
  case' n1 => refine' ps_setX (i := 2) nd rfl (Or.inl rfl) rfl (by first | exact .inl rfl | exact .inr rfl) ?n3
  case' n3 => refine' pe_op op_addG ?n4 ?n5
  case' n4 => refine' pe_op op_mod ?n6 ?n7
  case' n6 => refine' pe_op op_addG ?n8 ?n9
  case' n8 => refine' pe_ix ix_seq ?n10 ?n11 (fun _ _ => rfl)
  case n10 => exact pv 1
  case n11 => exact pe_int
  case' n9 => refine' pe_op op_mulG ?n12 ?n13
  case' n12 => refine' pe_ix ix_seq ?n14 ?n15 (fun _ _ => rfl)
  case n14 => exact pv 1
  case n15 => exact pe_int
  case' n13 => refine' pe_callB (call_lenA) rfl T.len boot_len ?n16
  case' n16 => refine' pa ?n17 ?n18
  case n17 => exact pv 0
  case n18 => exact pa_nil
  case n7 => exact pe_int
  case' n5 => refine' pe_ix ix_seq ?n19 ?n20 (fun _ _ => rfl)
  case n19 => exact pv 1
  case n20 => exact pe_int
  case' n2 => refine' pss_cons ?n21 ?n22
  case' n21 => refine' ps_expr ?n23
  case' n23 => refine' pe_bm PySem.F.plainAttrs_list PySem.F.slot_list_append PySem.F.type_list_append mt_append ?n24 ?n25
  case n24 => exact pv 0
  case' n25 => refine' pa ?n26 ?n27
  case n26 => exact pv 2
  case n27 => exact pa_nil
  case' n22 => refine' pss_one ?n28
  case' n28 => refine' ps_ret ?n29
  case n29 => exact pv 2
  have m0 : 0 ≤ (a + b * ((us.map V.int).length : Nat)) % 9973 := Int.emod_nonneg _ (by decide)
  have m1 : (a + b * ((us.map V.int).length : Nat)) % 9973 < 9973 := Int.emod_lt_of_pos _ (by decide)
  refine ⟨_, rfl, .inr (.inl ⟨ba, _, 0, .int a, rfl, rfl, hb.sq, at0, _, rfl, .inr (.inl ⟨ba, _, 1, .int b, rfl, rfl, hb.sq, at1, _, rfl, .inl ⟨u, _, rfl, .inl (SqL.of hu), .inr ⟨_, _, rfl, rfl, .inr ⟨by omega, by rw [List.length_map]; omega⟩, add_i ⟨_, _, rfl, rfl, (by show (0 : Int) < 9973; decide), _, rfl, .inr (.inl ⟨ba, _, 2, .int c, rfl, rfl, hb.sq, at2, add_i ?_⟩)⟩⟩⟩⟩)⟩)⟩
  refine ⟨_, rfl, .inl ⟨rfl, _, SqL.of hu⟩, _, rfl, u, _, _, rfl, rfl, hu, smallM (by rw [List.length_map]; omega), ?_⟩
  have e2 : us.map V.int ++ [V.int ((a + b * ((us.map V.int).length : Nat)) % 9973 + c)] = (us ++ [(a + b * ((us.map V.int).length : Nat)) % 9973 + c]).map V.int := by rw [List.map_append]; rfl
  rw [e2]
  exact ⟨_, rfl, q _ (by omega) (by omega)⟩
/-! ### words -/
noncomputable abbrev sWords : Stmt := top 26
noncomputable def wl : List Str := ["name", "fn", "self", "let", "name", "let", "name", "call", "if", "do", "row", "pair", "at", "size", "one", "two", "as", "whole"]
noncomputable def spWords : Sp := fun vs H Q _ => ∃ (i : Int), vs = [.int i] ∧ 0 ≤ i ∧ i < 18 ∧ ∀ (x : Str) (H' : Hp), x ∈ wl → Old H H' → Q (.str x) H'
theorem scWords : FnScope ["_law_word", "_law_some"] ["_law_word"] (defScope sWords) := ⟨rfl, rfl, rfl, by decide +kernel, rfl, by decide +kernel, by decide +kernel⟩
theorem ok_words {n : Nat} (F : Fun K "_law_words" "_law_words" sWords f fd) (T : Tx mg) : FnOk P w K mg base CX0 (n + 1) f fd ["_law_word"] spWords := by
  refine F.ok scWords (fun vs H Q E h => ?_) (fun cdv A outer s H vs Q E hr h => ?_)
  · obtain ⟨i, rfl, _⟩ := h
    rfl
  obtain ⟨i, rfl, i0, i1, q⟩ := h
  have nd := scWords.nd
  refine' ⟨_, ?n0, ?Z⟩
  case' n0 => refine' pss_cons ?n1 ?n2
  case' n1 => refine' Bx.out ?n3x
  case' n1 => refine' bx1 (ps_setX (i := 1) ?n3xa ?n3xb ?n3xc ?n3xd ?n3xe) ?n3xf
  case n3xa => exact nd
  case n3xb => exact rfl
  case n3xc => exact (Or.inl rfl)
  case n3xd => exact rfl
  case n3xe => first | exact .inl rfl | exact .inr rfl
  case n3xf => exact (bxlst (bxs (bxs (bxs (bxs (bxs (bxs (bxs (bxs (bxs (bxs (bxs (bxs (bxs (bxs (bxs bxnil))))))))))))))))
  case' n2 => refine' pss_one ?n4
  case' n4 => refine' ps_ret ?n5
  case' n5 => refine' pe_ix ix_seq ?n6 ?n7 (fun _ _ => rfl)
  case' n6 => refine' pe_op op_addG ?n8 ?n9
  case n8 => exact pv 1
  case' n9 => refine' pe_lst ?n10
  case' n10 => refine' pa ?n11 ?n12
  case n11 => exact pe_str
  case' n12 => refine' pa ?n13 ?n14
  case n13 => exact pe_str
  case' n14 => refine' pa ?n15 ?n16
  case n15 => exact pe_str
  case n16 => exact pa_nil
  case n7 => exact pv 0
  obtain ⟨x, ex, hm⟩ := atI_strs (ss := wl) i0 (by exact i1)
  refine ⟨by show 15 ≤ sizeLine; decide, fun p1 hp1 => ⟨_, rfl, by show 3 ≤ sizeLine; decide, fun p2 hp2 => ?_⟩⟩
  have n12 : p1 ≠ p2 := fun e => by rw [← e, upd_same] at hp2; cases hp2
  refine .inr (addL ⟨p1, p2, _, _, rfl, rfl, (upd_ne n12).trans upd_same, upd_same, by show 18 ≤ sizeLine; decide, fun p3 hp3 => ?_⟩)
  exact ⟨_, rfl, .inl ⟨p3, _, i, .str x, rfl, rfl, SqL.of upd_same, ex, q x _ hm ((Old.new hp1).trans ((Old.new hp2).trans (Old.new hp3)))⟩⟩
/-! ### many -/
noncomputable abbrev sMany : Stmt := top 27
noncomputable def spMany (K : PySem.W.Frag) : Sp := fun vs H Q _ => ∃ (l : Addr) (ns : List Int) (x : Str), vs = [.ref l, .str x] ∧ H l = some (.lst (ns.map V.int)) ∧ x ∈ wl ∧
  ∀ (k : Nat) (ns' : List Int) (H' : Hp), (x ≠ "row" → k = K11.np x) → k ≤ 4 → Gr (M1 l) H H' → H' l = some (.lst (ns'.map V.int)) → Q (.int k) H'
theorem scMany : FnScope ["_law_xs", "_law_word"] ["_law_xs", "_law_word"] (defScope sMany) := ⟨rfl, rfl, rfl, by decide +kernel, rfl, by decide +kernel, by decide +kernel⟩
theorem np_wl : ∀ x ∈ wl, x ≠ "row" → K11.np x = (if x = "if" then 3 else if x ∈ (["call", "let", "do", "at", "pair"] : List Str) then 2 else if x ∈ (["whole", "name"] : List Str) then 0 else 1) := by decide +kernel
theorem ok_many {n : Nat} (F : Fun K "_law_many" "_law_many" sMany f fd) (T : Tx mg) (c_next : Cal P w K mg base "_law_next" ["_law_xs", "_law_many_here"] 1 (spNext K)) : FnOk P w K mg base CX0 (n + 2) f fd ["_law_xs", "_law_word"] (spMany K) := by
  refine F.ok scMany (fun vs H Q E h => ?_) (fun cdv A outer s H vs Q E hr h => ?_)
  · obtain ⟨l, ns, x, rfl, _⟩ := h
    rfl
  obtain ⟨l, ns, x, rfl, hl, hx, q⟩ := h
  refine' ⟨_, ?n0, ?Z⟩
  case' n0 => refine' pss_cons ?n1 ?n2
  case' n1 => refine' ps_if ?n3 ?n4 ?n5
  case' n3 => refine' pt_cmpR (op_eqG hr) ?n6 ?n7 (nomark _)
  case n6 => exact pv 1
  case n7 => exact pe_str
  case' n4 => refine' pss_one ?n8
  case' n8 => refine' ps_ret ?n9
  case' n9 => refine' pe_cal c_next hr ?n10
  case' n10 => refine' pa ?n11 ?n12
  case n11 => exact pv 0
  case' n12 => refine' pa ?n13 ?n14
  case n13 => exact pe_int
  case n14 => exact pa_nil
  case n5 => exact pss_nil
  case' n2 => refine' pss_cons ?n15 ?n16
  case' n15 => refine' ps_if ?n17 ?n18 ?n19
  case' n17 => refine' pt_cmpR (op_eqG hr) ?n20 ?n21 (nomark _)
  case n20 => exact pv 1
  case n21 => exact pe_str
  case' n18 => refine' pss_one ?n22
  case' n22 => refine' ps_ret ?n23
  case n23 => exact pe_int
  case n19 => exact pss_nil
  case' n16 => refine' pss_cons ?n24 ?n25
  case' n24 => refine' ps_if ?n26 ?n27 ?n28
  case' n26 => refine' pt_cmpR op_in_seq ?n29 ?n30 rfl
  case n29 => exact pv 1
  case' n30 => refine' pe_tup ?n31
  case' n31 => refine' pa ?n32 ?n33
  case n32 => exact pe_str
  case' n33 => refine' pa ?n34 ?n35
  case n34 => exact pe_str
  case' n35 => refine' pa ?n36 ?n37
  case n36 => exact pe_str
  case' n37 => refine' pa ?n38 ?n39
  case n38 => exact pe_str
  case' n39 => refine' pa ?n40 ?n41
  case n40 => exact pe_str
  case n41 => exact pa_nil
  case' n27 => refine' pss_one ?n42
  case' n42 => refine' ps_ret ?n43
  case n43 => exact pe_int
  case n28 => exact pss_nil
  case' n25 => refine' pss_one ?n44
  case' n44 => refine' ps_ret ?n45
  case' n45 => refine' pe_callTy (call_int1) rfl T.int boot_int ?n46
  case' n46 => refine' pa ?n47 ?n48
  case' n47 => refine' pe_cmpR op_notIn_seq ?n49 ?n50 rfl
  case n49 => exact pv 1
  case' n50 => refine' pe_tup ?n51
  case' n51 => refine' pa ?n52 ?n53
  case n52 => exact pe_str
  case' n53 => refine' pa ?n54 ?n55
  case n54 => exact pe_str
  case n55 => exact pa_nil
  case n48 => exact pa_nil
  refine ⟨_, rfl, .inr (.inl ⟨rfl, _, rfl, ?_⟩)⟩
  rw [dec_s]
  by_cases c1 : x = "row"
  · rw [decide_eq_true c1]
    refine iteT ?_
    refine ⟨_, rfl, l, ns, _, rfl, hl, by decide, fun r ns1 H1 r0 r1 g1 hl1 => ?_⟩
    obtain ⟨k, rfl⟩ := Int.eq_ofNat_of_zero_le r0
    exact q k ns1 H1 (fun h => absurd c1 h) (by omega) g1 hl1
  rw [decide_eq_false c1]
  refine iteF ?_
  have en := np_wl x hx c1
  refine ⟨_, rfl, .inr (.inl ⟨rfl, _, rfl, ?_⟩)⟩
  rw [dec_s]
  by_cases c2 : x = "if"
  · rw [decide_eq_true c2]
    refine iteT ?_
    exact q 3 ns H (fun _ => by rw [en, if_pos c2]) (by decide) (Old.refl H).gm hl
  rw [decide_eq_false c2]
  rw [if_neg c2] at en
  refine iteF ?_
  refine ⟨_, rfl, by show 5 ≤ sizeLine; decide, fun t1 ht1 => ?_⟩
  have o1 : Old H _ := Old.new (o := .tup ((["call", "let", "do", "at", "pair"] : List Str).map V.str)) ht1
  refine ⟨t1, _, rfl, .inr (SqT.of upd_same), rfl, rfl, _, rfl, ?_⟩
  rw [if_neg Bool.false_ne_true]
  have e1 : inV (.str x) [.str "call", .str "let", .str "do", .str "at", .str "pair"] = decide (x ∈ (["call", "let", "do", "at", "pair"] : List Str)) := in_strs x ["call", "let", "do", "at", "pair"]
  rw [e1]
  by_cases c3 : x ∈ (["call", "let", "do", "at", "pair"] : List Str)
  · rw [decide_eq_true c3]
    refine iteT ?_
    exact q 2 ns _ (fun _ => by rw [en, if_pos c3]) (by decide) o1.gm (o1 _ _ hl)
  rw [decide_eq_false c3]
  rw [if_neg c3] at en
  refine iteF ?_
  refine ⟨_, rfl, by show 2 ≤ sizeLine; decide, fun t2 ht2 => ?_⟩
  have o2 : Old _ _ := Old.new (o := .tup ((["whole", "name"] : List Str).map V.str)) ht2
  refine ⟨t2, _, rfl, .inr (SqT.of upd_same), rfl, rfl, .inr ⟨_, rfl, ?_⟩⟩
  rw [if_pos rfl]
  have e2 : inV (.str x) [.str "whole", .str "name"] = decide (x ∈ (["whole", "name"] : List Str)) := in_strs x ["whole", "name"]
  rw [e2]
  have oA := o1.trans o2
  by_cases c4 : x ∈ (["whole", "name"] : List Str)
  · rw [decide_eq_true c4]
    exact q 0 ns _ (fun _ => by rw [en, if_pos c4]) (by decide) oA.gm (oA _ _ hl)
  · rw [decide_eq_false c4]
    exact q 1 ns _ (fun _ => by rw [en, if_neg c4]) (by decide) oA.gm (oA _ _ hl)
end
end L2.K12

end
section
set_option Elab.async false
set_option linter.all false
set_option maxRecDepth 100000
set_option maxHeartbeats 8000000
namespace L2.K12
open PySem PySem.Spec PyProof.Rows L2.Bw L2.Bk L2.Ex
/-- the kinds of a node that the law puts in -/
noncomputable def kd (x : Str) : List Dk := if x = "fn" then [.tup [.str "truth"]] else if x = "self" then [.tup [.str "?"], .tup [.str "row", .tup [.str "whole"]]] else if x = "as" then [.tup [.str "whole"]] else if x = "whole" then [.int 7] else []
noncomputable def frO (x : Str) (front : List Str) : List Dk := if x = "whole" then [.int 7] else front.map Dk.str
noncomputable def midO (x : Str) : List Dk := if x = "row" then [.tup [.str "?"]] else if x = "whole" then [] else kd x
noncomputable def tabP (p2 p6 p8 p9 : Addr) : List (Key × V) := [(.inr "fn", .ref p2), (.inr "self", .ref p6), (.inr "as", .ref p8), (.inr "whole", .ref p9)]
theorem tabP_at (p2 p6 p8 p9 : Addr) : ∀ x ∈ wl, valV (mergeK [] (tabP p2 p6 p8 p9)) (.inr x) = (if x = "fn" then some (.ref p2) else if x = "self" then some (.ref p6) else if x = "as" then some (.ref p8) else if x = "whole" then some (.ref p9) else none) := by
  have e : mergeK [] (tabP p2 p6 p8 p9) = tabP p2 p6 p8 p9 := rfl
  rw [e]
  intro x hx
  simp only [wl, List.mem_cons, List.not_mem_nil, or_false] at hx
  rcases hx with rfl | rfl | rfl | rfl | rfl | rfl | rfl | rfl | rfl | rfl | rfl | rfl | rfl | rfl | rfl | rfl | rfl | rfl <;> rfl
theorem get_kd {K : PySem.W.Frag} {H : Hp} {dd p2 p6 p8 p9 pz : Addr} {x : Str} (hx : x ∈ wl) (hd : H dd = some (.dK (mergeK [] (tabP p2 p6 p8 p9)))) (r2 : RK K H (.tup [.tup [.str "truth"]]) (.ref p2)) (r6 : RK K H (.tup [.tup [.str "?"], .tup [.str "row", .tup [.str "whole"]]]) (.ref p6)) (r8 : RK K H (.tup [.tup [.str "whole"]]) (.ref p8)) (r9 : RK K H (.tup [.int 7]) (.ref p9)) (rz : RK K H (.tup []) (.ref pz)) :
    ∃ o, DGet H dd (.str x) o ∧ RK K H (.tup (kd x)) (o.getD (.ref pz)) := by
  have dg := DGet.k (k := (.inr x : Key)) hd
  rw [tabP_at p2 p6 p8 p9 x hx] at dg
  refine ⟨_, dg, ?_⟩
  unfold kd
  by_cases c1 : x = "fn"
  · rw [if_pos c1, if_pos c1]; exact r2
  rw [if_neg c1, if_neg c1]
  by_cases c2 : x = "self"
  · rw [if_pos c2, if_pos c2]; exact r6
  rw [if_neg c2, if_neg c2]
  by_cases c3 : x = "as"
  · rw [if_pos c3, if_pos c3]; exact r8
  rw [if_neg c3, if_neg c3]
  by_cases c4 : x = "whole"
  · rw [if_pos c4, if_pos c4]; exact r9
  rw [if_neg c4, if_neg c4]; exact rz
section
variable {P : Program} {w : World} {K : PySem.W.Frag} {mg : Str → Option Value} {base : Heap} {f : Addr} {fd : FuncData}
/-! ### put -/
noncomputable abbrev sPut : Stmt := top 28
noncomputable def spPut (K : PySem.W.Frag) : Sp := fun vs H Q _ => ∃ (x : Str) (p : Int) (fa sa : Addr) (front : List Str) (ps : List Tn) (qv : List V), vs = [.str x, .int p, .ref fa, .ref sa] ∧ H fa = some (.lst (front.map V.str)) ∧ H sa = some (.lst qv) ∧ RKs K H (Tn.ds ps) qv ∧ x ∈ wl ∧ front.length ≤ 10 ∧ ps.length ≤ 10 ∧ (x = "row" → front = []) ∧ (x = "whole" → front = []) ∧
  ∀ (v : V) (H' : Hp), Old H H' → RK K H' (Tn.mk x p (frO x front) (midO x) ps).d v → Q v H'
theorem scPut : FnScope ["_law_word", "_law_place_here", "_law_front", "_law_some", "_law_kinds"] ["_law_word", "_law_place_here", "_law_front", "_law_some"] (defScope sPut) := ⟨rfl, rfl, rfl, by decide +kernel, rfl, by decide +kernel, by decide +kernel⟩
theorem ok_put {n : Nat} (F : Fun K "_law_put" "_law_put" sPut f fd) (T : Tx mg) : FnOk P w K mg base CX0 (n + 1) f fd ["_law_word", "_law_place_here", "_law_front", "_law_some"] (spPut K) := by
  refine F.ok scPut (fun vs H Q E h => ?_) (fun cdv A outer s H vs Q E hr h => ?_)
  · obtain ⟨x, p, fa, sa, front, ps, qv, rfl, _⟩ := h
    rfl
  obtain ⟨x, p, fa, sa, front, ps, qv, rfl, hfa, hsa, rps, hx, lf, lp, hrow, hwh, q⟩ := h
  have nd := scPut.nd
  have lqv := rps.length
  rw [tds_length] at lqv
  refine' ⟨_, ?n0, ?Z⟩
  case' n0 => refine' pss_cons ?n1 ?n2
  case' n1 => refine' ps_if ?n3 ?n4 ?n5
  case' n3 => refine' pt_cmpR (op_eqG hr) ?n6 ?n7 (nomark _)
  case n6 => exact pv 0
  case n7 => exact pe_str
  case' n4 => refine' pss_one ?n8
  case' n8 => refine' ps_ret ?n9
  case' n9 => refine' pe_tup ?n10
  case' n10 => refine' pa ?n11 ?n12
  case n11 => exact pv 0
  case' n12 => refine' pa ?n13 ?n14
  case n13 => exact pv 1
  case' n14 => refine' pa ?n15 ?n16
  case' n15 => refine' pe_tup ?n17
  case' n17 => refine' pa ?n18 ?n19
  case n18 => exact pe_str
  case n19 => exact pa_nil
  case' n16 => refine' pa ?n20 ?n21
  case' n20 => refine' pe_callTy (call_tuple_of) rfl T.tuple boot_tuple ?n22
  case' n22 => refine' pa ?n23 ?n24
  case n23 => exact pv 3
  case n24 => exact pa_nil
  case n21 => exact pa_nil
  case n5 => exact pss_nil
  case' n2 => refine' pss_cons ?n25 ?n26
  case' n25 => refine' Bx.out ?n27x
  case' n25 => refine' bx1 (ps_setX (i := 4) ?n27xa ?n27xb ?n27xc ?n27xd ?n27xe) ?n27xf
  case n27xa => exact nd
  case n27xb => exact rfl
  case n27xc => exact (Or.inl rfl)
  case n27xd => exact rfl
  case n27xe => first | exact .inl rfl | exact .inr rfl
  case n27xf => exact bxdisp (bxpv (bxtup (bxcons rfl (bxtup (bxs bxnil)) bxnil)) (bxpv (bxtup (bxcons rfl (bxtup (bxs bxnil)) (bxcons rfl (bxtup (bxs (bxcons rfl (bxtup (bxs bxnil)) bxnil))) bxnil))) (bxpv (bxtup (bxcons rfl (bxtup (bxs bxnil)) bxnil)) (bxpv (bxtup (bxcons rfl bxint bxnil)) bxpnil)))) rfl rfl (fun z => nomatch z) (by decide)
  case' n26 => refine' pss_one ?n28
  case' n28 => refine' ps_ret ?n29
  case' n29 => refine' pe_op op_addG ?n30 ?n31
  case' n30 => refine' pe_op op_addG ?n32 ?n33
  case' n32 => refine' pe_op op_addG ?n34 ?n35
  case' n34 => refine' pe_tup ?n36
  case' n36 => refine' pa ?n37 ?n38
  case n37 => exact pv 0
  case' n38 => refine' pa ?n39 ?n40
  case n39 => exact pv 1
  case n40 => exact pa_nil
  case' n35 => refine' pe_callTy (call_tuple_of) rfl T.tuple boot_tuple ?n41
  case' n41 => refine' pa ?n42 ?n43
  case n42 => exact pv 2
  case n43 => exact pa_nil
  case' n33 => refine' pe_dget2 hr.u1 ?n44 ?n45 ?n46 ⟨rfl, rfl, rfl, rfl⟩
  case n44 => exact pv 4
  case n45 => exact pv 0
  case' n46 => refine' pe_tup ?n47
  case n47 => exact pa_nil
  case' n31 => refine' pe_callTy (call_tuple_of) rfl T.tuple boot_tuple ?n48
  case' n48 => refine' pa ?n49 ?n50
  case n49 => exact pv 3
  case n50 => exact pa_nil
  refine ⟨_, rfl, .inr (.inl ⟨rfl, _, rfl, ?_⟩)⟩
  rw [dec_s]
  by_cases c1 : x = "row"
  · rw [decide_eq_true c1]
    refine iteT ?_
    refine ⟨_, rfl, _, rfl, by show 1 ≤ sizeLine; decide, fun a1 h1 => ?_⟩
    have o1 : Old H (upd H a1 (.tup [.str "?"])) := Old.new h1
    refine ⟨_, rfl, sa, _, rfl, .inl ⟨SqL.of (o1 _ _ hsa), fun a2 h2 => ?_⟩⟩
    have o2 : Old _ (upd (upd H a1 (.tup [.str "?"])) a2 (.tup qv)) := Old.new h2
    refine ⟨by show 4 ≤ sizeLine; decide, fun a3 h3 => ?_⟩
    have o3 : Old _ (upd (upd (upd H a1 (.tup [.str "?"])) a2 (.tup qv)) a3 (.tup [.str x, .int p, .ref a1, .ref a2])) := Old.new h3
    refine q (.ref a3) _ (o1.trans (o2.trans o3)) ?_
    have ed : (Tn.mk x p (frO x front) (midO x) ps).d = .tup [.str x, .int p, .tup [.str "?"], .tup (Tn.ds ps)] := by
      show Dk.tup (.str x :: .int p :: (frO x front ++ midO x ++ (if x = "row" then [.tup (Tn.ds ps)] else Tn.ds ps))) = _
      rw [if_pos c1, hrow c1]
      unfold frO midO
      rw [if_neg (by rw [c1]; decide), if_pos c1]
      rfl
    rw [ed]
    have ra1 : RK K (upd H a1 (.tup [.str "?"])) (.tup [.str "?"]) (.ref a1) := RK.tup (.of upd_same) (.cons (.s _) .nil)
    have ra2 : RK K (upd (upd H a1 (.tup [.str "?"])) a2 (.tup qv)) (.tup (Tn.ds ps)) (.ref a2) := RK.tup (.of upd_same) (rps.mono (o1.trans o2).tm)
    exact RK.tup (.of upd_same) (.cons (.s _) (.cons (.i _) (.cons (ra1.mono (o2.trans o3).tm) (.cons (ra2.mono o3.tm) .nil))))
  rw [decide_eq_false c1]
  refine iteF ?_
  dsimp only [tNext]
  refine fun dd hdd => ⟨by show 1 ≤ sizeLine; decide, fun p1 hp1 => ⟨by show 1 ≤ sizeLine; decide, fun p2 hp2 => ?_⟩⟩
  have o0 : Old H (upd H dd (.dK [])) := Old.new hdd
  have hd0 : upd H dd (.dK []) dd = some (.dK []) := upd_same
  generalize upd H dd (.dK []) = H0 at o0 hd0 hp1 hp2 ⊢
  have o1 : Old H0 (upd H0 p1 (.tup [.str "truth"])) := Old.new hp1
  have r1 : RK K (upd H0 p1 (.tup [.str "truth"])) (.tup [.str "truth"]) (.ref p1) := RK.tup (.of upd_same) (.cons (.s _) .nil)
  generalize upd H0 p1 (.tup [.str "truth"]) = H1 at o1 r1 hp2 ⊢
  have o2 : Old H1 (upd H1 p2 (.tup [.ref p1])) := Old.new hp2
  have r2 : RK K (upd H1 p2 (.tup [.ref p1])) (.tup [.tup [.str "truth"]]) (.ref p2) := RK.tup (.of upd_same) (.cons (r1.mono o2.tm) .nil)
  generalize upd H1 p2 (.tup [.ref p1]) = H2 at o2 r2 ⊢
  refine ⟨by show 1 ≤ sizeLine; decide, fun p3 hp3 => ⟨by show 1 ≤ sizeLine; decide, fun p4 hp4 => ⟨by show 2 ≤ sizeLine; decide, fun p5 hp5 => ⟨by show 2 ≤ sizeLine; decide, fun p6 hp6 => ?_⟩⟩⟩⟩
  have o3 : Old H2 (upd H2 p3 (.tup [.str "?"])) := Old.new hp3
  have r3 : RK K (upd H2 p3 (.tup [.str "?"])) (.tup [.str "?"]) (.ref p3) := RK.tup (.of upd_same) (.cons (.s _) .nil)
  generalize upd H2 p3 (.tup [.str "?"]) = H3 at o3 r3 hp4 hp5 hp6 ⊢
  have o4 : Old H3 (upd H3 p4 (.tup [.str "whole"])) := Old.new hp4
  have r4 : RK K (upd H3 p4 (.tup [.str "whole"])) (.tup [.str "whole"]) (.ref p4) := RK.tup (.of upd_same) (.cons (.s _) .nil)
  generalize upd H3 p4 (.tup [.str "whole"]) = H4 at o4 r4 hp5 hp6 ⊢
  have o5 : Old H4 (upd H4 p5 (.tup [.str "row", .ref p4])) := Old.new hp5
  have r5 : RK K (upd H4 p5 (.tup [.str "row", .ref p4])) (.tup [.str "row", .tup [.str "whole"]]) (.ref p5) := RK.tup (.of upd_same) (.cons (.s _) (.cons (r4.mono o5.tm) .nil))
  generalize upd H4 p5 (.tup [.str "row", .ref p4]) = H5 at o5 r5 hp6 ⊢
  have o6 : Old H5 (upd H5 p6 (.tup [.ref p3, .ref p5])) := Old.new hp6
  have r6 : RK K (upd H5 p6 (.tup [.ref p3, .ref p5])) (.tup [.tup [.str "?"], .tup [.str "row", .tup [.str "whole"]]]) (.ref p6) := RK.tup (.of upd_same) (.cons (r3.mono (o4.trans (o5.trans o6)).tm) (.cons (r5.mono o6.tm) .nil))
  generalize upd H5 p6 (.tup [.ref p3, .ref p5]) = H6 at o6 r6 ⊢
  refine ⟨by show 1 ≤ sizeLine; decide, fun p7 hp7 => ⟨by show 1 ≤ sizeLine; decide, fun p8 hp8 => ⟨by show 1 ≤ sizeLine; decide, fun p9 hp9 => ?_⟩⟩⟩
  have o7 : Old H6 (upd H6 p7 (.tup [.str "whole"])) := Old.new hp7
  have r7 : RK K (upd H6 p7 (.tup [.str "whole"])) (.tup [.str "whole"]) (.ref p7) := RK.tup (.of upd_same) (.cons (.s _) .nil)
  generalize upd H6 p7 (.tup [.str "whole"]) = H7 at o7 r7 hp8 hp9 ⊢
  have o8 : Old H7 (upd H7 p8 (.tup [.ref p7])) := Old.new hp8
  have r8 : RK K (upd H7 p8 (.tup [.ref p7])) (.tup [.tup [.str "whole"]]) (.ref p8) := RK.tup (.of upd_same) (.cons (r7.mono o8.tm) .nil)
  generalize upd H7 p8 (.tup [.ref p7]) = H8 at o8 r8 hp9 ⊢
  have o9 : Old H8 (upd H8 p9 (.tup [.int 7])) := Old.new hp9
  have r9 : RK K (upd H8 p9 (.tup [.int 7])) (.tup [.int 7]) (.ref p9) := RK.tup (.of upd_same) (.cons (.i _) .nil)
  generalize upd H8 p9 (.tup [.int 7]) = H9 at o9 r9 ⊢
  have o29 := o3.trans (o4.trans (o5.trans (o6.trans (o7.trans (o8.trans o9)))))
  have o09 := o1.trans (o2.trans o29)
  have hd9 := o09 _ _ hd0
  have r2' := r2.mono o29.tm
  have r6' := r6.mono (o7.trans (o8.trans o9)).tm
  have r8' := r8.mono o9.tm
  refine ⟨hd9, tabP p2 p6 p8 p9, rfl, by show 4 ≤ 15; decide, ?_⟩
  have tmE : Tm H9 (upd H9 dd (.dK (mergeK [] (tabP p2 p6 p8 p9)))) := fun b xs e => by
    rw [upd_ne]
    · exact e
    · intro z
      rw [z, hd9] at e
      cases e
  have oE : Old H (upd H9 dd (.dK (mergeK [] (tabP p2 p6 p8 p9)))) := fun b o e => by
    rw [upd_ne (ne_of_none e hdd)]
    exact o09 _ _ (o0 _ _ e)
  have hdE : upd H9 dd (.dK (mergeK [] (tabP p2 p6 p8 p9))) dd = some (.dK (mergeK [] (tabP p2 p6 p8 p9))) := upd_same
  have r2E := r2'.mono tmE
  have r6E := r6'.mono tmE
  have r8E := r8'.mono tmE
  have r9E := r9.mono tmE
  generalize upd H9 dd (.dK (mergeK [] (tabP p2 p6 p8 p9))) = He at oE hdE r2E r6E r8E r9E ⊢
  clear r1 r2 r3 r4 r5 r6 r7 r8 r9 r2' r6' r8' tmE hd9 o09 o29 o0 o1 o2 o3 o4 o5 o6 o7 o8 o9
  refine ⟨_, rfl, _, rfl, by show 2 ≤ sizeLine; decide, fun t1 ht1 => ⟨_, rfl, fa, front.map V.str, rfl, .inl ⟨SqL.of (Old.new ht1 _ _ (oE _ _ hfa)), fun t2 ht2 => ?_⟩⟩⟩
  have q1 : Old He (upd He t1 (.tup [.str x, .int p])) := Old.new ht1
  have s1 : RK K (upd He t1 (.tup [.str x, .int p])) (.tup [.str x, .int p]) (.ref t1) := RK.tup (.of upd_same) (.cons (.s _) (.cons (.i _) .nil))
  generalize upd He t1 (.tup [.str x, .int p]) = G1 at q1 s1 ht2 ⊢
  have q2 : Old G1 (upd G1 t2 (.tup (front.map V.str))) := Old.new ht2
  have s2 : RK K (upd G1 t2 (.tup (front.map V.str))) (.tup (front.map Dk.str)) (.ref t2) := RK.tup (.of upd_same) (RKs.of_txs front)
  generalize upd G1 t2 (.tup (front.map V.str)) = G2 at q2 s2 ⊢
  refine cat_g (s1.mono q2.tm) s2 (by rw [List.length_map]; show 2 + _ ≤ 1000; omega) fun v1 G3 q3 s3 => ?_
  have qA := q1.trans (q2.trans q3)
  refine ⟨_, rfl, dd, rfl, .inl ⟨_, .inl (qA _ _ hdE)⟩, _, rfl, by show 0 ≤ sizeLine; decide, fun pz hpz => ?_⟩
  have q4 : Old G3 (upd G3 pz (.tup [])) := Old.new hpz
  have s4 : RK K (upd G3 pz (.tup [])) (.tup []) (.ref pz) := RK.tup (.of upd_same) .nil
  generalize upd G3 pz (.tup []) = G4 at q4 s4 ⊢
  have qB := qA.trans q4
  obtain ⟨o, hg, rk⟩ := get_kd (K := K) hx (qB _ _ hdE) (r2E.mono qB.tm) (r6E.mono qB.tm) (r8E.mono qB.tm) (r9E.mono qB.tm) s4
  refine ⟨o, hg, ?_⟩
  have lk : (kd x).length ≤ 2 := by
    unfold kd
    split
    · decide
    split
    · decide
    split
    · decide
    split
    · decide
    · decide
  refine cat_g (s3.mono q4.tm) rk (by rw [List.length_append, List.length_map]; show 2 + _ + _ ≤ 1000; omega) fun v2 G5 q5 s5 => ?_
  have qC := oE.trans (qB.trans q5)
  refine ⟨_, rfl, sa, _, rfl, .inl ⟨SqL.of (qC _ _ hsa), fun t3 ht3 => ?_⟩⟩
  have q6 : Old G5 (upd G5 t3 (.tup qv)) := Old.new ht3
  have s6 : RK K (upd G5 t3 (.tup qv)) (.tup (Tn.ds ps)) (.ref t3) := RK.tup (.of upd_same) (rps.mono (qC.trans q6).tm)
  refine cat_g (s5.mono q6.tm) s6 (by rw [List.length_append, List.length_append, List.length_map, tds_length]; show 2 + _ + _ + _ ≤ 1000; omega) fun v3 G6 q7 s7 => q v3 G6 (qC.trans (q6.trans q7)) ?_
  have ed : (Tn.mk x p (frO x front) (midO x) ps).d = .tup ([.str x, .int p] ++ front.map Dk.str ++ kd x ++ Tn.ds ps) := by
    show Dk.tup (.str x :: .int p :: (frO x front ++ midO x ++ (if x = "row" then [.tup (Tn.ds ps)] else Tn.ds ps))) = _
    rw [if_neg c1]
    unfold frO midO
    rw [if_neg c1]
    by_cases c2 : x = "whole"
    · rw [if_pos c2, if_pos c2, hwh c2]
      subst c2
      rfl
    · rw [if_neg c2, if_neg c2]
      simp
  rw [ed]
  exact s7
end
end L2.K12

end
section
set_option Elab.async false
set_option linter.all false
set_option maxRecDepth 100000
set_option maxHeartbeats 8000000
namespace L2.K12
open PySem PySem.Spec PyProof.Rows L2.Bw L2.Bk L2.Ex
/-- the lists that the law's maker writes to -/
noncomputable def M3 (l u fl : Addr) : Addr → Prop := fun b => b = l ∨ b = u ∨ b = fl
/-- how many nodes there may be -/
noncomputable def nn : Nat → Nat
  | 0 => 0
  | r + 1 => 1 + 4 * nn r
/-- the free names as data -/
noncomputable def pds (q : List (Int × Str)) : List Dk := q.map fun z => .tup [.int z.1, .str z.2]
theorem pds_append (a b : List (Int × Str)) : pds (a ++ b) = pds a ++ pds b := List.map_append
theorem wl_facts : ∀ x ∈ wl, x ∈ K11.words ∧ (midO x).length = K11.nk x ∧ (x ≠ "whole" → K11.nf x = if x = "do" then 1 else K11.cnt ["name", "fn", "let", "self", "self"] x) ∧ (x = "whole" → K11.nf x = 1) ∧ (x ∈ named → x ≠ "whole") ∧ (x ≠ "row" → K11.np x ≤ 4) := by decide +kernel
theorem twfs_append : ∀ {a b : List Tn}, Tn.wfs a → Tn.wfs b → Tn.wfs (a ++ b)
  | [], _, _, h => h
  | _ :: r, _, h, h' => ⟨h.1, twfs_append h.2 h'⟩
theorem tdeps_append : ∀ (a b : List Tn), Tn.deps (a ++ b) = max (Tn.deps a) (Tn.deps b)
  | [], b => by show Tn.deps b = max 0 (Tn.deps b); omega
  | t :: r, b => by show max t.dep (Tn.deps (r ++ b)) = max (max t.dep (Tn.deps r)) (Tn.deps b); rw [tdeps_append r b]; omega
/-- the name of a node itself, where it is free -/
noncomputable def own (x : Str) (p : Int) (fr : List Dk) (bs : List Str) : List (Int × Str) := if x = "name" ∧ (txs fr).headD "" ∉ bs then [(p, (txs fr).headD "")] else []
theorem own_frees (x : Str) (p : Int) (fr mid : List Dk) (ps : List Tn) (bs : List Str) : (Tn.mk x p fr mid ps).frees bs = own x p fr bs ++ Tn.freess x (txs fr) 0 ps bs := rfl
theorem cnt_facts : K11.cnt ["name", "fn", "let", "self", "self"] "do" = 0 ∧ K11.cnt ["name", "fn", "let", "self", "self"] "name" = 1 ∧ K11.np "name" = 0 := by decide +kernel
theorem row_wh : ∀ x ∈ wl, (x = "row" ∨ x = "whole") → K11.cnt ["name", "fn", "let", "self", "self"] x = 0 ∧ x ≠ "do" := by decide +kernel
section
variable {P : Program} {w : World} {K : PySem.W.Frag} {mg : Str → Option Value} {base : Heap} {f : Addr} {fd : FuncData}
/-! ### tree -/
noncomputable abbrev sTree : Stmt := top 29
structure Wo (K : PySem.W.Frag) (H : Hp) (wa l u nl fl ol : Addr) (bv : V) (ns us : List Int) (fv : List V) (bs : List Str) : Prop where
  hwa : H wa = some (.tup [.ref l, .ref u, bv, .ref nl, .ref fl])
  hl : H l = some (.lst (ns.map V.int))
  hu : H u = some (.lst (us.map V.int))
  hbv : ∃ a b c, RK K H (.tup [.int a, .int b, .int c]) bv ∧ 0 ≤ c ∧ c < 1000
  hnl : ∃ z1 z2 z3, H nl = some (.lst [.str z1, .str z2, .str z3])
  hfl : H fl = some (.lst fv)
  hol : H ol = some (.lst (bs.map V.str))
  ne : l ≠ u ∧ l ≠ fl ∧ u ≠ fl ∧ nl ≠ l ∧ nl ≠ u ∧ nl ≠ fl ∧ ol ≠ l ∧ ol ≠ u ∧ ol ≠ fl
noncomputable def spTree (K : PySem.W.Frag) (m : Nat) : Sp := fun vs H Q _ => ∃ (wa l u nl fl ol : Addr) (bv : V) (ns us : List Int) (fv : List V) (bs : List Str) (room : Nat), vs = [.ref wa, .int room, .ref ol] ∧ Wo K H wa l u nl fl ol bv ns us fv bs ∧ 1 ≤ room ∧ room < m ∧ us.length + nn room ≤ 400000 ∧ fv.length + nn room ≤ 400000 ∧ bs.length + 2 * room ≤ 500 ∧
  ∀ (t : Tn) (v : V) (ns' us' : List Int) (fv' : List V) (H' : Hp), Gr (M3 l u fl) H H' → RK K H' t.d v → t.wf → t.dep ≤ room → H' l = some (.lst (ns'.map V.int)) → H' u = some (.lst (us'.map V.int)) → us'.length ≤ us.length + nn room → H' fl = some (.lst (fv ++ fv')) → RKs K H' (pds (t.frees bs)) fv' → fv'.length ≤ nn room → Q v H'
theorem scTree : FnScope ["_law_world", "_law_room", "_law_outer", "_law_xs", "_law_used", "_law_base", "_law_names_here", "_law_free", "_law_place_here", "_law_word", "_law_front", "_law_k", "_law_some", "_law_within"] ["_law_world", "_law_room", "_law_outer"] (defScope sTree) := ⟨rfl, rfl, rfl, by decide +kernel, rfl, by decide +kernel, by decide +kernel⟩
/-- where the maker stands -/
structure Cu (H H' : Hp) (l u fl : Addr) (ns us : List Int) (fw : List V) : Prop where
  g : Gr (M3 l u fl) H H'
  hl : H' l = some (.lst (ns.map V.int))
  hu : H' u = some (.lst (us.map V.int))
  hfl : H' fl = some (.lst fw)
theorem tm3 {H H' : Hp} {l u fl : Addr} {a b c : List V} (g : Gr (M3 l u fl) H H') (hl : H l = some (.lst a)) (hu : H u = some (.lst b)) (hf : H fl = some (.lst c)) : Tm H H' := g.tm fun d xs m e => by
  rcases m with rfl | rfl | rfl
  · rw [hl] at e; cases e
  · rw [hu] at e; cases e
  · rw [hf] at e; cases e
theorem Cu.old {H H' H'' : Hp} {l u fl : Addr} {ns us : List Int} {fw : List V} (c : Cu H H' l u fl ns us fw) (o : Old H' H'') : Cu H H'' l u fl ns us fw := ⟨c.g.trans o.gm, o _ _ c.hl, o _ _ c.hu, o _ _ c.hfl⟩
theorem Cu.tm {H H' H'' : Hp} {l u fl : Addr} {ns us : List Int} {fw : List V} (c : Cu H H' l u fl ns us fw) (g : Gr (M3 l u fl) H' H'') : Tm H' H'' := tm3 g c.hl c.hu c.hfl
theorem Cu.nx {H H' H'' : Hp} {l u fl : Addr} {ns us ns' : List Int} {fw : List V} (c : Cu H H' l u fl ns us fw) (n1 : l ≠ u) (n2 : l ≠ fl) (g : Gr (M1 l) H' H'') (h : H'' l = some (.lst (ns'.map V.int))) : Cu H H'' l u fl ns' us fw := ⟨c.g.trans (g.wide fun _ z => .inl z), h, g _ _ c.hu (Ne.symm n1), g _ _ c.hfl (Ne.symm n2)⟩
theorem Cu.keep {H H' : Hp} {l u fl b : Addr} {ns us : List Int} {fw : List V} {o : HO} (c : Cu H H' l u fl ns us fw) (e : H b = some o) (n1 : b ≠ l) (n2 : b ≠ u) (n3 : b ≠ fl) : H' b = some o := c.g b o e fun z => z.elim n1 fun z => z.elim n2 n3
theorem Cu.apart {H H' : Hp} {l u fl b : Addr} {ns us : List Int} {fw : List V} (c : Cu H H' l u fl ns us fw) (e : H' b = none) : b ≠ l ∧ b ≠ u ∧ b ≠ fl := by
  refine ⟨fun z => ?_, fun z => ?_, fun z => ?_⟩
  · rw [z, c.hl] at e; cases e
  · rw [z, c.hu] at e; cases e
  · rw [z, c.hfl] at e; cases e
theorem Cu.free {H H' : Hp} {l u fl b : Addr} {ns us : List Int} {fw : List V} (c : Cu H H' l u fl ns us fw) (e : H' b = none) : H b = none := c.g.free e fun z => z.elim (c.apart e).1 fun z => z.elim (c.apart e).2.1 (c.apart e).2.2
theorem ok_tree {m : Nat} (F : Fun K "_law_tree" "_law_tree" sTree f fd) (T : Tx mg) (c_place : Cal P w K mg base "_law_place" ["_law_used", "_law_base"] 1 (spPlace K)) (c_words : Cal P w K mg base "_law_words" ["_law_word"] 1 spWords) (c_next : Cal P w K mg base "_law_next" ["_law_xs", "_law_many_here"] 1 (spNext K)) (c_pick : Cal P w K mg base "_law_pick" ["_law_xs", "_law_names_here"] 3 (spPick K)) (c_many : Cal P w K mg base "_law_many" ["_law_xs", "_law_word"] 2 (spMany K)) (c_put : Cal P w K mg base "_law_put" ["_law_word", "_law_place_here", "_law_front", "_law_some"] 1 (spPut K))
    (c_tree : Cal P w K mg base "_law_tree" ["_law_world", "_law_room", "_law_outer"] (m + 3) (spTree K m)) : FnOk P w K mg base CX0 (m + 4) f fd ["_law_world", "_law_room", "_law_outer"] (spTree K (m + 1)) := by
  refine F.ok scTree (fun vs H Q E h => ?_) (fun cdv A outer s H vs Q E hr h => ?_)
  · obtain ⟨wa, l, u, nl, fl, ol, bv, ns, us, fv, bs, room, rfl, _⟩ := h
    rfl
  obtain ⟨wa, l, u, nl, fl, ol, bv, ns, us, fv, bs, room, rfl, W, r1, rm, zu, zf, zb, q⟩ := h
  have nd := scTree.nd
  refine' ⟨_, ?n0, ?Z⟩
  case' n0 => refine' pss_cons ?n1 ?n2
  case' n1 => refine' ps_asg ?n3 ?n4
  case n3 => exact pv 0
  case' n4 => refine' pg_tup rfl ?n5
  case' n5 => refine' pgs_cons ?n6 ?n7
  case n6 => exact pg_name (i := 3) nd rfl (Or.inl rfl)
  case' n7 => refine' pgs_cons ?n8 ?n9
  case n8 => exact pg_name (i := 4) nd rfl (Or.inl rfl)
  case' n9 => refine' pgs_cons ?n10 ?n11
  case n10 => exact pg_name (i := 5) nd rfl (Or.inl rfl)
  case' n11 => refine' pgs_cons ?n12 ?n13
  case n12 => exact pg_name (i := 6) nd rfl (Or.inl rfl)
  case' n13 => refine' pgs_cons ?n14 ?n15
  case n14 => exact pg_name (i := 7) nd rfl (Or.inl rfl)
  case n15 => exact pgs_nil
  case' n2 => refine' pss_cons ?n16 ?n17
  case' n16 => refine' ps_setX (i := 8) nd rfl (Or.inl rfl) rfl (by first | exact .inl rfl | exact .inr rfl) ?n18
  case' n18 => refine' pe_cal c_place hr ?n19
  case' n19 => refine' pa ?n20 ?n21
  case n20 => exact pv 4
  case' n21 => refine' pa ?n22 ?n23
  case n22 => exact pv 5
  case n23 => exact pa_nil
  case' n17 => refine' pss_cons ?n24 ?n25
  case' n24 => refine' ps_setX (i := 9) nd rfl (Or.inl rfl) rfl (by first | exact .inl rfl | exact .inr rfl) ?n26
  case' n26 => refine' pe_cal c_words hr ?n27
  case' n27 => refine' pa ?n28 ?n29
  case' n28 => refine' pe_cal c_next hr ?n30
  case' n30 => refine' pa ?n31 ?n32
  case n31 => exact pv 3
  case' n32 => refine' pa ?n33 ?n34
  case n33 => exact pe_int
  case n34 => exact pa_nil
  case n29 => exact pa_nil
  case' n25 => refine' pss_cons ?n35 ?n36
  case' n35 => refine' ps_if ?n37 ?n38 ?n39
  case' n37 => refine' PW.pt ?n40
  case' n40 => refine' pw_or ?n41 ?n42
  case' n41 => refine' pt_cmpR (op_eqG hr) ?n43 ?n44 (nomark _)
  case n43 => exact pv 1
  case n44 => exact pe_int
  case' n42 => refine' pw_or1 ?n45
  case' n45 => refine' pt_cmpR op_gt ?n46 ?n47 (nomark _)
  case' n46 => refine' pe_callB (call_lenA) rfl T.len boot_len ?n48
  case' n48 => refine' pa ?n49 ?n50
  case n49 => exact pv 4
  case n50 => exact pa_nil
  case n47 => exact pe_int
  case' n38 => refine' pss_one ?n51
  case' n51 => refine' ps_setX (i := 9) nd rfl (Or.inl rfl) rfl (by first | exact .inl rfl | exact .inr rfl) ?n52
  case n52 => exact pe_str
  case n39 => exact pss_nil
  case' n36 => refine' pss_cons ?n53 ?n54
  case' n53 => refine' ps_setX (i := 10) nd rfl (Or.inl rfl) rfl (by first | exact .inl rfl | exact .inr rfl) ?n55
  case' n55 => refine' pe_lst ?n56
  case n56 => exact pa_nil
  case' n54 => refine' pss_cons ?n57 ?n58
  case' n57 => refine' ps_if ?n59 ?n60 ?n61
  case' n59 => refine' pt_cmpR (op_eqG hr) ?n62 ?n63 (nomark _)
  case n62 => exact pv 9
  case n63 => exact pe_str
  case' n60 => refine' pss_one ?n64
  case' n64 => refine' ps_setX (i := 10) nd rfl (Or.inl rfl) rfl (by first | exact .inl rfl | exact .inr rfl) ?n65
  case' n65 => refine' pe_lst ?n66
  case' n66 => refine' pa ?n67 ?n68
  case' n67 => refine' pe_ix ix_seq ?n69 ?n70 (fun _ _ => rfl)
  case n69 => exact pe_str
  case' n70 => refine' pe_cal c_next hr ?n71
  case' n71 => refine' pa ?n72 ?n73
  case n72 => exact pv 3
  case' n73 => refine' pa ?n74 ?n75
  case n74 => exact pe_int
  case n75 => exact pa_nil
  case n68 => exact pa_nil
  case n61 => exact pss_nil
  case' n58 => refine' pss_cons ?n76 ?n77
  case' n76 => refine' ps_for PassesOwn.never rfl ?n78 ?n79 ?n80
  case' n78 => refine' pi_range1 rfl T.range ?n81
  case' n81 => refine' pa ?n82 ?n83
  case' n82 => refine' pe_bm PySem.F.plainAttrs_list PySem.F.slot_list_count PySem.F.type_list_count mt_count ?n84 ?n85
  case' n84 => refine' pe_lst ?n86
  case' n86 => refine' pa ?n87 ?n88
  case n87 => exact pe_str
  case' n88 => refine' pa ?n89 ?n90
  case n89 => exact pe_str
  case' n90 => refine' pa ?n91 ?n92
  case n91 => exact pe_str
  case' n92 => refine' pa ?n93 ?n94
  case n93 => exact pe_str
  case' n94 => refine' pa ?n95 ?n96
  case n95 => exact pe_str
  case n96 => exact pa_nil
  case' n85 => refine' pa ?n97 ?n98
  case n97 => exact pv 9
  case n98 => exact pa_nil
  case n83 => exact pa_nil
  case n79 => exact pg_name (i := 11) nd rfl (Or.inl rfl)
  case' n80 => refine' pss_one ?n99
  case' n99 => refine' ps_expr ?n100
  case' n100 => refine' pe_bm PySem.F.plainAttrs_list PySem.F.slot_list_append PySem.F.type_list_append mt_append ?n101 ?n102
  case n101 => exact pv 10
  case' n102 => refine' pa ?n103 ?n104
  case' n103 => refine' pe_cal c_pick hr ?n105
  case' n105 => refine' pa ?n106 ?n107
  case n106 => exact pv 3
  case' n107 => refine' pa ?n108 ?n109
  case n108 => exact pv 6
  case n109 => exact pa_nil
  case n104 => exact pa_nil
  case' n77 => refine' pss_cons ?n110 ?n111
  case' n110 => refine' ps_if ?n112 ?n113 ?n114
  case' n112 => refine' PW.pt ?n115
  case' n115 => refine' pw_and ?n116 ?n117
  case' n116 => refine' pt_cmpR (op_eqG hr) ?n118 ?n119 (nomark _)
  case n118 => exact pv 9
  case n119 => exact pe_str
  case' n117 => refine' pw_and1 ?n120
  case' n120 => refine' pt_cmpR op_notIn_seq ?n121 ?n122 rfl
  case' n121 => refine' pe_ix ix_seq ?n123 ?n124 (fun _ _ => rfl)
  case n123 => exact pv 10
  case n124 => exact pe_int
  case n122 => exact pv 2
  case' n113 => refine' pss_one ?n125
  case' n125 => refine' ps_expr ?n126
  case' n126 => refine' pe_bm PySem.F.plainAttrs_list PySem.F.slot_list_append PySem.F.type_list_append mt_append ?n127 ?n128
  case n127 => exact pv 7
  case' n128 => refine' pa ?n129 ?n130
  case' n129 => refine' pe_tup ?n131
  case' n131 => refine' pa ?n132 ?n133
  case n132 => exact pv 8
  case' n133 => refine' pa ?n134 ?n135
  case' n134 => refine' pe_ix ix_seq ?n136 ?n137 (fun _ _ => rfl)
  case n136 => exact pv 10
  case n137 => exact pe_int
  case n135 => exact pa_nil
  case n130 => exact pa_nil
  case n114 => exact pss_nil
  case' n111 => refine' pss_cons ?n138 ?n139
  case' n138 => refine' ps_setX (i := 12) nd rfl (Or.inl rfl) rfl (by first | exact .inl rfl | exact .inr rfl) ?n140
  case' n140 => refine' pe_lst ?n141
  case n141 => exact pa_nil
  case' n139 => refine' pss_cons ?n142 ?n143
  case' n142 => refine' ps_for PassesOwn.never rfl ?n144 ?n145 ?n146
  case' n144 => refine' pi_range1 rfl T.range ?n147
  case' n147 => refine' pa ?n148 ?n149
  case' n148 => refine' pe_cal c_many hr ?n150
  case' n150 => refine' pa ?n151 ?n152
  case n151 => exact pv 3
  case' n152 => refine' pa ?n153 ?n154
  case n153 => exact pv 9
  case n154 => exact pa_nil
  case n149 => exact pa_nil
  case n145 => exact pg_name (i := 11) nd rfl (Or.inl rfl)
  case' n146 => refine' pss_cons ?n155 ?n156
  case' n155 => refine' ps_setX (i := 13) nd rfl (Or.inl rfl) rfl (by first | exact .inl rfl | exact .inr rfl) ?n157
  case n157 => exact pv 2
  case' n156 => refine' pss_cons ?n158 ?n159
  case' n158 => refine' ps_if ?n160 ?n161 ?n162
  case' n160 => refine' PW.pt ?n163
  case' n163 => refine' pw_or ?n164 ?n165
  case' n164 => refine' pt_cmpR (op_eqG hr) ?n166 ?n167 (nomark _)
  case n166 => exact pv 9
  case n167 => exact pe_str
  case' n165 => refine' pw_or ?n168 ?n169
  case' n168 => refine' pt_cmpR (op_eqG hr) ?n170 ?n171 (nomark _)
  case n170 => exact pv 9
  case n171 => exact pe_str
  case' n169 => refine' pw_or1 ?n172
  case' n172 => refine' PW.pt ?n173
  case' n173 => refine' pw_and ?n174 ?n175
  case' n174 => refine' pt_cmpR (op_eqG hr) ?n176 ?n177 (nomark _)
  case n176 => exact pv 9
  case n177 => exact pe_str
  case' n175 => refine' pw_and1 ?n178
  case' n178 => refine' pt_cmpR (op_eqG hr) ?n179 ?n180 (nomark _)
  case n179 => exact pv 11
  case n180 => exact pe_int
  case' n161 => refine' pss_one ?n181
  case' n181 => refine' ps_setX (i := 13) nd rfl (Or.inl rfl) rfl (by first | exact .inl rfl | exact .inr rfl) ?n182
  case' n182 => refine' pe_op op_addG ?n183 ?n184
  case n183 => exact pv 2
  case n184 => exact pv 10
  case n162 => exact pss_nil
  case' n159 => refine' pss_one ?n185
  case' n185 => refine' ps_expr ?n186
  case' n186 => refine' pe_bm PySem.F.plainAttrs_list PySem.F.slot_list_append PySem.F.type_list_append mt_append ?n187 ?n188
  case n187 => exact pv 12
  case' n188 => refine' pa ?n189 ?n190
  case' n189 => refine' pe_cal c_tree hr ?n191
  case' n191 => refine' pa ?n192 ?n193
  case n192 => exact pv 0
  case' n193 => refine' pa ?n194 ?n195
  case' n194 => refine' pe_op op_sub ?n196 ?n197
  case n196 => exact pv 1
  case n197 => exact pe_int
  case' n195 => refine' pa ?n198 ?n199
  case n198 => exact pv 13
  case n199 => exact pa_nil
  case n190 => exact pa_nil
  case' n143 => refine' pss_one ?n200
  case' n200 => refine' ps_ret ?n201
  case' n201 => refine' pe_cal c_put hr ?n202
  case' n202 => refine' pa ?n203 ?n204
  case n203 => exact pv 9
  case' n204 => refine' pa ?n205 ?n206
  case n205 => exact pv 8
  case' n206 => refine' pa ?n207 ?n208
  case n207 => exact pv 10
  case' n208 => refine' pa ?n209 ?n210
  case n209 => exact pv 12
  case n210 => exact pa_nil
  refine ⟨_, rfl, wa, _, rfl, SqT.of W.hwa, rfl, _, _, rfl, _, _, rfl, _, _, rfl, _, _, rfl, _, _, rfl, rfl, ?_⟩
  obtain ⟨ba, bb, bc, rb, c0, c1⟩ := W.hbv
  refine ⟨_, rfl, _, rfl, u, us, bv, ba, bb, bc, rfl, W.hu, by omega, rb, c0, c1, fun p p0 p1 => ?_⟩
  obtain ⟨nlu, nlf, nuf, nnl, nnu, nnf, nol, nou, nof⟩ := W.ne
  have cu1 : Cu H (upd H u (.lst ((us ++ [p]).map V.int))) l u fl ns (us ++ [p]) fv := ⟨Gr.put (.inr (.inl rfl)), by rw [upd_ne nlu]; exact W.hl, upd_same, by rw [upd_ne (Ne.symm nuf)]; exact W.hfl⟩
  generalize upd H u (.lst ((us ++ [p]).map V.int)) = H1 at cu1 ⊢
  refine ⟨_, rfl, l, ns, 18, rfl, cu1.hl, by decide, fun r ns1 H2 w0 w1 g2 hl2 => ⟨r, rfl, w0, w1, fun x0 H3 hx0 o3 => ?_⟩⟩
  have cu3 := (cu1.nx nlu nlf g2 hl2).old o3
  clear cu1 g2 hl2 o3
  dsimp only [gName]
  refine seq_by (fun σ H' => H' = H3 ∧ ∃ x : Str, x ∈ wl ∧ (room = 1 → x = "name") ∧ σ = [some (.ref wa), some (.int room), some (.ref ol), some (.ref l), some (.ref u), some bv, some (.ref nl), some (.ref fl), some (.int p), some (.str x), none, none, none, none]) (fun R hR => ?_) (fun σ H' hP => ?_)
  · have nm : ("name" : Str) ∈ wl := by decide +kernel
    refine ⟨_, rfl, .inr (.inl ⟨rfl, _, rfl, ?_⟩)⟩
    rw [dec_int, show ((room : Int) == 1) = decide ((room : Int) = 1) from rfl]
    refine ite2 (fun _ => iteT ?_) (fun c => ?_)
    · exact hR _ _ ⟨rfl, "name", nm, fun _ => rfl, rfl⟩
    · have c' : ¬ room = 1 := fun z => c (decide_eq_true (by omega))
      refine ⟨_, rfl, .inl ⟨u, _, rfl, .inl (SqL.of cu3.hu), _, _, rfl, rfl, _, rfl, ?_⟩⟩
      refine ite2 (fun _ => ?_) (fun _ => ?_)
      · exact hR _ _ ⟨rfl, "name", nm, fun _ => rfl, rfl⟩
      · exact hR _ _ ⟨rfl, x0, hx0, fun z => absurd z c', rfl⟩
  obtain ⟨rfl, x, hx, hroom, rfl⟩ := hP
  clear hx0
  refine ⟨by show 0 ≤ sizeLine; decide, fun f0 hf0 => ?_⟩
  have cu4 := cu3.old (Old.new (o := .lst []) hf0)
  have nf0 := cu3.apart hf0
  have hf0H := cu3.free hf0
  have hf4 : upd H' f0 (.lst []) f0 = some (.lst []) := upd_same
  generalize upd H' f0 (.lst []) = H4 at cu4 hf4 ⊢
  dsimp only [gName]
  refine seq_by (fun σ H' => ∃ (fa : Addr) (front : List Str) (ns' : List Int), Cu H H' l u fl ns' (us ++ [p]) fv ∧ H fa = none ∧ (fa ≠ l ∧ fa ≠ u ∧ fa ≠ fl) ∧ H' fa = some (.lst (front.map V.str)) ∧ front.length = (if x = "do" then 1 else 0) ∧ σ = [some (.ref wa), some (.int room), some (.ref ol), some (.ref l), some (.ref u), some bv, some (.ref nl), some (.ref fl), some (.int p), some (.str x), some (.ref fa), none, none, none]) (fun R hR => ?_) (fun σ H5 hP => ?_)
  · refine ⟨_, rfl, .inr (.inl ⟨rfl, _, rfl, ?_⟩)⟩
    rw [dec_s]
    by_cases c : x = "do"
    · rw [decide_eq_true c]
      refine iteT ?_
      refine ⟨_, rfl, l, ns1, 5, rfl, cu4.hl, by decide, fun r5 ns5 H5 v0 v1 g5 hl5 => ?_⟩
      obtain ⟨ch, ec, _⟩ := atI_in (xs := (("+-*<=" : Str)).cps.toList) v0 (by exact v1)
      refine .inr (.inr ⟨_, _, ch, rfl, rfl, by decide, ec, by show 1 ≤ sizeLine; decide, fun fa hfa => ?_⟩)
      have cu5 := cu4.nx nlu nlf g5 hl5
      refine hR _ _ ⟨fa, [⟨#[ch]⟩], ns5, cu5.old (Old.new hfa), cu5.free hfa, cu5.apart hfa, upd_same, by rw [if_pos c]; rfl, rfl⟩
    · rw [decide_eq_false c]
      exact iteF (hR _ _ ⟨f0, [], ns1, cu4, hf0H, nf0, hf4, by rw [if_neg c]; rfl, rfl⟩)
  clear cu4 hf4 hf0H nf0 hf0 cu3
  obtain ⟨fa, front0, ns5, cu5, hfaH, nfa, hfa5, lfr0, rfl⟩ := hP
  refine ⟨by show 5 ≤ sizeLine; decide, fun ca hca => ?_⟩
  have cu6 := cu5.old (Old.new (o := .lst ((["name", "fn", "let", "self", "self"] : List Str).map V.str)) hca)
  have hfa6 := (Old.new (o := .lst ((["name", "fn", "let", "self", "self"] : List Str).map V.str)) hca) _ _ hfa5
  have hca6 : upd H5 ca (.lst ((["name", "fn", "let", "self", "self"] : List Str).map V.str)) ca = _ := upd_same
  refine ⟨.inl ⟨rfl, _, SqL.of hca6⟩, _, rfl, ca, ["name", "fn", "let", "self", "self"], x, rfl, rfl, SqL.of hca6, ?_⟩
  have hnl0 := W.hnl
  obtain ⟨z1, z2, z3, hnl⟩ := hnl0
  have nfaO : ∀ b o, H b = some o → b ≠ fa := fun b o e => ne_of_none e hfaH
  refine ⟨_, rfl, by omega, ?_, for_range (n := K11.cnt ["name", "fn", "let", "self", "self"] x) (fun i σ H' => ∃ (kk : Option V) (front : List Str) (ns' : List Int), Cu H H' l u fl ns' (us ++ [p]) fv ∧ H' fa = some (.lst (front.map V.str)) ∧ front.length = front0.length + i ∧ σ = [some (.ref wa), some (.int room), some (.ref ol), some (.ref l), some (.ref u), some bv, some (.ref nl), some (.ref fl), some (.int p), some (.str x), some (.ref fa), kk, none, none]) ⟨none, front0, ns5, cu6, hfa6, rfl, rfl⟩ ?_ ?_⟩
  · have := List.countP_le_length (p := fun y => decide (y = x)) (l := ["name", "fn", "let", "self", "self"])
    have e5 : (["name", "fn", "let", "self", "self"] : List Str).length = 5 := rfl
    omega
  · intro i σ H7 hi hv
    obtain ⟨kk, front, ns7, cu7, hfa7, lfr, rfl⟩ := hv
    have cl : K11.cnt ["name", "fn", "let", "self", "self"] x ≤ 5 := List.countP_le_length
    have l01 : front0.length ≤ 1 := by rw [lfr0]; split <;> omega
    refine ⟨_, rfl, .inl ⟨rfl, _, SqL.of hfa7⟩, _, rfl, _, rfl, l, nl, ns7, z1, z2, z3, rfl, cu7.hl, cu7.keep hnl nnl nnu nnf, nnl, fun z ns8 H8 g8 hl8 => ?_⟩
    have cu8 := cu7.nx nlu nlf g8 hl8
    have hfa8 : H8 fa = some (.lst (front.map V.str)) := g8 _ _ hfa7 nfa.1
    refine ⟨fa, _, _, rfl, rfl, hfa8, smallM (by rw [List.length_map]; omega), ?_⟩
    refine ⟨_, front ++ [z], ns8, ⟨fun b o e n => ?_, ?_, ?_, ?_⟩, ?_, ?_, rfl⟩
    · rw [upd_ne (nfaO b o e)]; exact cu8.g b o e n
    · rw [upd_ne (Ne.symm nfa.1)]; exact cu8.hl
    · rw [upd_ne (Ne.symm nfa.2.1)]; exact cu8.hu
    · rw [upd_ne (Ne.symm nfa.2.2)]; exact cu8.hfl
    · rw [upd_same, List.map_append]; rfl
    · rw [List.length_append, lfr]; rfl
  intro σ H7 hv
  obtain ⟨kk, front, ns7, cu7, hfa7, lfr, rfl⟩ := hv
  clear cu6 hfa6 hca6 cu5 hfa5
  obtain ⟨cn1, cn2, cn3⟩ := cnt_facts
  have cl5 : K11.cnt ["name", "fn", "let", "self", "self"] x ≤ 5 := List.countP_le_length
  have l01 : front0.length ≤ 1 := by rw [lfr0]; split <;> omega
  have ftx : x ≠ "whole" → txs (frO x front) = front := fun h => by unfold frO; rw [if_neg h, txs_map]
  dsimp only [gName]
  refine seq_by (fun σ H' => ∃ (fw : List V), Cu H H' l u fl ns7 (us ++ [p]) (fv ++ fw) ∧ RKs K H' (pds (own x p (frO x front) bs)) fw ∧ fw.length ≤ 1 ∧ H' fa = some (.lst (front.map V.str)) ∧ σ = [some (.ref wa), some (.int room), some (.ref ol), some (.ref l), some (.ref u), some bv, some (.ref nl), some (.ref fl), some (.int p), some (.str x), some (.ref fa), kk, none, none]) (fun R hR => ?_) (fun σ H8 hP => ?_)
  · have none_own : own x p (frO x front) bs = [] → R [some (.ref wa), some (.int room), some (.ref ol), some (.ref l), some (.ref u), some bv, some (.ref nl), some (.ref fl), some (.int p), some (.str x), some (.ref fa), kk, none, none] H7 := fun e => hR _ _ ⟨[], by rw [List.append_nil]; exact cu7, by rw [e]; exact .nil, by decide, hfa7, rfl⟩
    refine ⟨_, rfl, .inr (.inl ⟨rfl, _, rfl, ?_⟩)⟩
    rw [dec_s]
    by_cases c : x = "name"
    · rw [decide_eq_true c]
      refine iteT ?_
      have lf1 : front.length = 1 := by rw [lfr, lfr0, c, cn2, if_neg (by decide)]
      obtain ⟨z, rfl⟩ := List.length_eq_one_iff.mp lf1
      have etx := ftx (by rw [c]; decide)
      refine ⟨_, rfl, .inl ⟨fa, _, 0, .str z, rfl, rfl, SqL.of hfa7, at0, _, rfl, ol, _, rfl, .inl (SqL.of (cu7.keep W.hol nol nou nof)), rfl, strs_flat _, _, rfl, ?_⟩⟩
      rw [if_pos rfl, in_strs]
      by_cases c2 : z ∈ bs
      · rw [decide_eq_true c2]
        refine iteF (none_own ?_)
        unfold own
        rw [etx]
        exact if_neg fun h => h.2 c2
      · rw [decide_eq_false c2]
        refine iteT ?_
        have eown : own x p (frO x [z]) bs = [(p, z)] := by
          unfold own
          rw [etx]
          exact if_pos ⟨c, c2⟩
        refine ⟨_, rfl, .inl ⟨rfl, _, SqL.of cu7.hfl⟩, _, rfl, _, rfl, .inl ⟨fa, _, 0, .str z, rfl, rfl, SqL.of hfa7, at0, by show 2 ≤ sizeLine; decide, fun ta hta => ?_⟩⟩
        have cu8 := cu7.old (Old.new (o := .tup [.int p, .str z]) hta)
        have hfa8 := (Old.new (o := .tup [.int p, .str z]) hta) _ _ hfa7
        have rta : RK K (upd H7 ta (.tup [.int p, .str z])) (.tup [.int p, .str z]) (.ref ta) := RK.tup (.of upd_same) (.cons (.i _) (.cons (.s _) .nil))
        generalize upd H7 ta (.tup [.int p, .str z]) = H8 at cu8 hfa8 rta ⊢
        refine ⟨fl, _, _, rfl, rfl, cu8.hfl, smallM (by omega), ?_⟩
        have tmF : Tm H8 (upd H8 fl (.lst (fv ++ [.ref ta]))) := cu8.tm (Gr.put (.inr (.inr rfl)))
        refine hR _ _ ⟨[.ref ta], ⟨cu8.g.trans (Gr.put (.inr (.inr rfl))), by rw [upd_ne nlf]; exact cu8.hl, by rw [upd_ne nuf]; exact cu8.hu, upd_same⟩, ?_, Nat.le_refl 1, by rw [upd_ne nfa.2.2]; exact hfa8, rfl⟩
        rw [eown]
        exact .cons (rta.mono tmF) .nil
    · rw [decide_eq_false c]
      exact iteF (iteF (none_own (if_neg fun h => c h.1)))
  obtain ⟨fw0, cu8, rfw0, lfw0, hfa8, rfl⟩ := hP
  clear cu7 hfa7
  refine ⟨by show 0 ≤ sizeLine; decide, fun sa hsa => ?_⟩
  have nsa := cu8.apart hsa
  have hsaH := cu8.free hsa
  have nfs : fa ≠ sa := ne_of_none hfa8 hsa
  have o9 : Old H8 (upd H8 sa (.lst [])) := Old.new hsa
  have cu9 := cu8.old o9
  have hfa9 := o9 _ _ hfa8
  have rfw9 := rfw0.mono o9.tm
  have hsa9 : upd H8 sa (.lst []) sa = some (.lst []) := upd_same
  generalize upd H8 sa (.lst []) = H9 at cu9 hfa9 rfw9 hsa9 ⊢
  clear cu8 hfa8 rfw0 o9 hsa
  refine ⟨_, rfl, _, rfl, l, ns7, x, rfl, cu9.hl, hx, fun kc nsA HA hk k4 gA hlA => ?_⟩
  have cuA := cu9.nx nlu nlf gA hlA
  have hfaA := gA _ _ hfa9 nfa.1
  have hsaA := gA _ _ hsa9 nsa.1
  have rfwA := rfw9.mono (gA.tm1 cu9.hl)
  clear cu9 hfa9 hsa9 rfw9 gA hlA
  obtain ⟨r0, rfl⟩ : ∃ r0, room = r0 + 1 := ⟨room - 1, by omega⟩
  have enn : nn (r0 + 1) = 1 + 4 * nn r0 := rfl
  refine ⟨_, rfl, by omega, by omega, for_range (n := kc) (fun i σ H' => ∃ (kk wi : Option V) (ts : List Tn) (tv : List V) (ns' us' : List Int) (fw : List V), Cu H H' l u fl ns' us' (fv ++ fw) ∧ H' fa = some (.lst (front.map V.str)) ∧ H' sa = some (.lst tv) ∧ RKs K H' (Tn.ds ts) tv ∧ Tn.wfs ts ∧ ts.length = i ∧ Tn.deps ts ≤ r0 ∧ us'.length ≤ us.length + 1 + i * nn r0 ∧ RKs K H' (pds (own x p (frO x front) bs ++ Tn.freess x (txs (frO x front)) 0 ts bs)) fw ∧ fw.length ≤ 1 + i * nn r0 ∧ σ = [some (.ref wa), some (.int (r0 + 1 : Nat)), some (.ref ol), some (.ref l), some (.ref u), some bv, some (.ref nl), some (.ref fl), some (.int p), some (.str x), some (.ref fa), kk, some (.ref sa), wi])
    ⟨kk, none, [], [], nsA, us ++ [p], fw0, cuA, hfaA, hsaA, .nil, trivial, rfl, Nat.zero_le _, by rw [List.length_append]; simp, by show RKs K HA (pds (own x p (frO x front) bs ++ [])) fw0; rw [List.append_nil]; exact rfwA, by omega, rfl⟩ ?_ ?_⟩
  · intro i σ HB hi hv
    obtain ⟨kk2, wi, ts, tv, nsB, usB, fw, cuB, hfaB, hsaB, rts, wts, lts, dts, lus, rfw, lfw, rfl⟩ := hv
    have r02 : 1 ≤ r0 := by
      rcases Nat.eq_zero_or_pos r0 with z | z
      · exfalso
        have e1 := hroom (by omega)
        have e2 := hk (by rw [e1]; decide)
        rw [e1, cn3] at e2
        omega
      · exact z
    have holB := cuB.keep W.hol nol nou nof
    refine ⟨_, rfl, ?_⟩
    dsimp only [gName]
    refine seq_by (fun σ H' => ∃ wb : Addr, Old HB H' ∧ H' wb = some (.lst ((bs ++ bnd x (txs (frO x front)) i).map V.str)) ∧ (wb ≠ l ∧ wb ≠ u ∧ wb ≠ fl) ∧ σ = [some (.ref wa), some (.int (r0 + 1 : Nat)), some (.ref ol), some (.ref l), some (.ref u), some bv, some (.ref nl), some (.ref fl), some (.int p), some (.str x), some (.ref fa), some (.int (0 + (i : Int))), some (.ref sa), some (.ref wb)]) (fun R hR => ?_) (fun σ HC hP => ?_)
    · have yes : (x = "fn" ∨ x = "self" ∨ (x = "let" ∧ i = 1)) → ∀ D : Ends, tAsg (tOp (rAddG K) (tVar 2) (tVar 10)) (gName 13) { D with nx := R } [some (.ref wa), some (.int (r0 + 1 : Nat)), some (.ref ol), some (.ref l), some (.ref u), some bv, some (.ref nl), some (.ref fl), some (.int p), some (.str x), some (.ref fa), some (.int (0 + (i : Int))), some (.ref sa), some (.ref ol)] HB := fun h D => by
        have xw : x ≠ "whole" := fun z => by
          rcases h with h | h | ⟨h, _⟩ <;> rw [z] at h <;> exact absurd h (by decide)
        refine ⟨_, rfl, _, rfl, .inr (addL ⟨ol, fa, _, _, rfl, rfl, holB, hfaB, sz1000 _ (by rw [List.length_map, List.length_map]; omega), fun wb hwb => ?_⟩)⟩
        refine hR _ _ ⟨wb, Old.new hwb, ?_, cuB.apart hwb, rfl⟩
        have e : bnd x (txs (frO x front)) i = front := by rw [ftx xw]; exact if_pos h
        rw [upd_same, e, List.map_append]
      have no : ¬ (x = "fn" ∨ x = "self" ∨ (x = "let" ∧ i = 1)) → R [some (.ref wa), some (.int (r0 + 1 : Nat)), some (.ref ol), some (.ref l), some (.ref u), some bv, some (.ref nl), some (.ref fl), some (.int p), some (.str x), some (.ref fa), some (.int (0 + (i : Int))), some (.ref sa), some (.ref ol)] HB := fun h => by
        refine hR _ _ ⟨ol, Old.refl _, ?_, ⟨nol, nou, nof⟩, rfl⟩
        have e : bnd x (txs (frO x front)) i = [] := if_neg h
        rw [e, List.append_nil]
        exact holB
      refine ⟨_, rfl, .inr (.inl ⟨rfl, _, rfl, ?_⟩)⟩
      rw [dec_s]
      by_cases c1 : x = "fn"
      · rw [decide_eq_true c1]
        exact iteT (iteT (yes (.inl c1) _))
      rw [decide_eq_false c1]
      refine iteF ?_
      refine ⟨_, rfl, .inr (.inl ⟨rfl, _, rfl, ?_⟩)⟩
      rw [dec_s]
      by_cases c2 : x = "self"
      · rw [decide_eq_true c2]
        exact iteT (iteT (yes (.inr (.inl c2)) _))
      rw [decide_eq_false c2]
      refine iteF ?_
      refine ⟨_, rfl, .inr (.inl ⟨rfl, _, rfl, ?_⟩)⟩
      rw [dec_s]
      by_cases c3 : x = "let"
      · rw [decide_eq_true c3]
        refine iteT ?_
        refine ⟨_, rfl, .inr (.inl ⟨rfl, _, rfl, ?_⟩)⟩
        rw [dec_int, show ((0 + (i : Int)) == 1) = decide ((0 + (i : Int)) = 1) from rfl]
        by_cases c4 : i = 1
        · rw [decide_eq_true (show (0 + (i : Int)) = 1 by omega)]
          exact iteT (yes (.inr (.inr ⟨c3, c4⟩)) _)
        · rw [decide_eq_false (show ¬ (0 + (i : Int)) = 1 by omega)]
          exact iteF (no fun h => h.elim c1 fun h => h.elim c2 fun h => c4 h.2)
      · rw [decide_eq_false c3]
        exact iteF (iteF (no fun h => h.elim c1 fun h => h.elim c2 fun h => c3 h.1))
    obtain ⟨wb, oC, hwb, nwb, rfl⟩ := hP
    have cuC := cuB.old oC
    have hfaC := oC _ _ hfaB
    have hsaC := oC _ _ hsaB
    have rtsC := rts.mono oC.tm
    have rfwC := rfw.mono oC.tm
    have bl : (bnd x (txs (frO x front)) i).length ≤ 2 := bnd_len i fun h => by
      have xw := (wl_facts x hx).2.2.2.2.1 h
      rw [ftx xw, lfr, lfr0, (wl_facts x hx).2.2.1 xw]
      by_cases c2 : x = "do"
      · rw [if_pos c2, if_pos c2, c2, cn1]
      · rw [if_neg c2, if_neg c2, Nat.zero_add]
    have ik : i * nn r0 + nn r0 ≤ 4 * nn r0 := by
      have : (i + 1) * nn r0 ≤ 4 * nn r0 := Nat.mul_le_mul_right _ (by omega)
      rwa [Nat.add_mul, Nat.one_mul] at this
    have em : ((i + 1) * nn r0) = i * nn r0 + nn r0 := by rw [Nat.add_mul, Nat.one_mul]
    have bvC : ∃ a b c, RK K HC (.tup [.int a, .int b, .int c]) bv ∧ 0 ≤ c ∧ c < 1000 := ⟨ba, bb, bc, rb.mono (tm3 cuC.g W.hl W.hu W.hfl), c0, c1⟩
    have waC : HC wa = some (.tup [.ref l, .ref u, bv, .ref nl, .ref fl]) := tm3 cuC.g W.hl W.hu W.hfl _ _ W.hwa
    refine ⟨_, rfl, .inl ⟨rfl, _, SqL.of hsaC⟩, _, rfl, _, rfl, _, _, rfl, rfl, _, rfl, wa, l, u, nl, fl, wb, bv, nsB, usB, fv ++ fw, bs ++ bnd x (txs (frO x front)) i, r0, ?_, ⟨waC, cuC.hl, cuC.hu, bvC, ⟨z1, z2, z3, cuC.keep hnl nnl nnu nnf⟩, cuC.hfl, hwb, ⟨nlu, nlf, nuf, nnl, nnu, nnf, nwb.1, nwb.2.1, nwb.2.2⟩⟩, r02, by omega, by rw [enn] at zu; omega, by rw [List.length_append]; rw [enn] at zf; omega, by rw [List.length_append]; omega, fun t v nsD usD fvD HD gD rtD wtD dtD hlD huD luD hflD rfD lfD => ?_⟩
    · show [V.ref wa, V.int (((r0 + 1 : Nat) : Int) - 1), V.ref wb] = _
      rw [show ((r0 + 1 : Nat) : Int) - 1 = (r0 : Int) by omega]
    have tmD := cuC.tm gD
    have hsaD := gD _ _ hsaC fun z => z.elim nsa.1 fun z => z.elim nsa.2.1 nsa.2.2
    have hfaD := gD _ _ hfaC fun z => z.elim nfa.1 fun z => z.elim nfa.2.1 nfa.2.2
    have ltv := rts.length
    rw [tds_length] at ltv
    refine ⟨sa, _, _, rfl, rfl, hsaD, smallM (by omega), ?_⟩
    have tmE : Tm HD (upd HD sa (.lst (tv ++ [v]))) := fun b xs e => by
      rw [upd_ne]
      · exact e
      · intro z
        rw [z, hsaD] at e
        cases e
    have rE1 : RKs K (upd HD sa (.lst (tv ++ [v]))) (Tn.ds ts ++ Tn.ds [t]) (tv ++ [v]) := ((rtsC.mono tmD).mono tmE).append (.cons (rtD.mono tmE) .nil)
    rw [← tds_append] at rE1
    have rE2 := ((rfwC.mono tmD).mono tmE).append (rfD.mono tmE)
    refine ⟨_, _, ts ++ [t], tv ++ [v], nsD, usD, fw ++ fvD, ⟨fun b o e n => ?_, ?_, ?_, ?_⟩, ?_, upd_same, rE1, twfs_append wts ⟨wtD, trivial⟩, by rw [List.length_append, lts]; rfl, ?_, by rw [em]; omega, ?_, by rw [List.length_append, em]; omega, rfl⟩
    · rw [upd_ne (ne_of_none e hsaH)]; exact gD _ _ (cuC.g b o e n) n
    · rw [upd_ne (Ne.symm nsa.1)]; exact hlD
    · rw [upd_ne (Ne.symm nsa.2.1)]; exact huD
    · rw [upd_ne (Ne.symm nsa.2.2), ← List.append_assoc]; exact hflD
    · rw [upd_ne nfs]; exact hfaD
    · rw [tdeps_append]
      show max (Tn.deps ts) (max t.dep 0) ≤ r0
      omega
    · rw [freess_snoc, lts, ← List.append_assoc, pds_append]
      exact rE2
  intro σ HB hv
  obtain ⟨kk2, wi, ts, tv, nsB, usB, fw, cuB, hfaB, hsaB, rts, wts, lts, dts, lus, rfw, lfw, rfl⟩ := hv
  have kn : kc * nn r0 ≤ 4 * nn r0 := Nat.mul_le_mul_right _ k4
  obtain ⟨w1', w2', w3', w4', w5', w6'⟩ := wl_facts x hx
  refine ⟨_, rfl, _, rfl, _, rfl, _, rfl, x, p, fa, sa, front, ts, tv, rfl, hfaB, hsaB, rts, hx, by omega, by omega, fun z => ?_, fun z => ?_, fun v HC oC rv => ?_⟩
  · have := row_wh x hx (.inl z)
    exact List.length_eq_zero_iff.mp (by rw [lfr, lfr0, this.1, if_neg this.2])
  · have := row_wh x hx (.inr z)
    exact List.length_eq_zero_iff.mp (by rw [lfr, lfr0, this.1, if_neg this.2])
  have cuC := cuB.old oC
  refine q (Tn.mk x p (frO x front) (midO x) ts) v nsB usB fw HC cuC.g rv ⟨⟨w1', ?_, w2', fun z => by rw [lts]; exact hk z, by omega, fun z => ⟨front, by unfold frO; rw [if_neg (w5' z)]⟩, p0, p1⟩, wts⟩ (by show 1 + Tn.deps ts ≤ r0 + 1; omega) cuC.hl cuC.hu (by rw [enn]; omega) cuC.hfl ?_ (by rw [enn]; omega)
  · by_cases c : x = "whole"
    · unfold frO
      rw [if_pos c, w4' c]
      rfl
    · unfold frO
      rw [if_neg c, List.length_map, lfr, lfr0, w3' c]
      by_cases c2 : x = "do"
      · rw [if_pos c2, if_pos c2, c2, cn1]
      · rw [if_neg c2, if_neg c2, Nat.zero_add]
  · rw [own_frees]
    exact rfw.mono oC.tm
end
end L2.K12

end
section
set_option Elab.async false
set_option linter.all false
set_option maxRecDepth 100000
set_option maxHeartbeats 8000000
namespace L2.K12
open PySem PySem.Spec PyProof.Rows L2.Bw L2.Bk L2.Ex
/-- what is told of the free names -/
noncomputable def dueD : List (Int × Str) → Dk
  | [] => .tup [.str "none", .non]
  | (p, _) :: _ => .tup [.str "free", .int p, .bl false]
theorem boot_VE : bootBuiltins "ValueError" = some (.type "ValueError") := by decide +kernel
section
variable {P : Program} {w : World} {K : PySem.W.Frag} {mg : Str → Option Value} {base : Heap} {f : Addr} {fd : FuncData}
theorem i_ib {H : Hp} (b : Int) : IsJ K H (.int b) "bool" false := .inl ⟨_, .int b, show PySem.W.kitOne K (.type "int") (.type "bool") = some false from (by decide +kernel : PySem.W.kitOne [] (.type "int") (.type "bool") = some false)⟩
/-! ### due -/
noncomputable abbrev sDue : Stmt := top 31
noncomputable def spDue (K : PySem.W.Frag) : Sp := fun vs H Q _ => ∃ (fl : Addr) (fv : List V) (qs : List (Int × Str)), vs = [.ref fl] ∧ H fl = some (.lst fv) ∧ RKs K H (pds qs) fv ∧ ∀ (v : V) (H' : Hp), Old H H' → RK K H' (dueD qs) v → Q v H'
theorem scDue : FnScope ["_law_free", "_law_place_here", "_law_name_here"] ["_law_free"] (defScope sDue) := ⟨rfl, rfl, rfl, by decide +kernel, rfl, by decide +kernel, by decide +kernel⟩
theorem ok_due {n : Nat} (F : Fun K "_law_due" "_law_due" sDue f fd) (T : Tx mg) : FnOk P w K mg base CX0 (n + 1) f fd ["_law_free"] (spDue K) := by
  refine F.ok scDue (fun vs H Q E h => ?_) (fun cdv A outer s H vs Q E hr h => ?_)
  · obtain ⟨fl, fv, qs, rfl, _⟩ := h
    rfl
  obtain ⟨fl, fv, qs, rfl, hfl, rf, q⟩ := h
  have nd := scDue.nd
  refine' ⟨_, ?n0, ?Z⟩
  case' n0 => refine' pss_cons ?n1 ?n2
  case' n1 => refine' ps_for PassesOwn.never rfl ?n3 ?n4 ?n5
  case' n3 => refine' pi_seq ?n6
  case n6 => exact pv 0
  case' n4 => refine' pg_tup rfl ?n7
  case' n7 => refine' pgs_cons ?n8 ?n9
  case n8 => exact pg_name (i := 1) nd rfl (Or.inl rfl)
  case' n9 => refine' pgs_cons ?n10 ?n11
  case n10 => exact pg_name (i := 2) nd rfl (Or.inl rfl)
  case n11 => exact pgs_nil
  case' n5 => refine' pss_one ?n12
  case' n12 => refine' ps_ret ?n13
  case' n13 => refine' pe_tup ?n14
  case' n14 => refine' pa ?n15 ?n16
  case n15 => exact pe_str
  case' n16 => refine' pa ?n17 ?n18
  case n17 => exact pv 1
  case' n18 => refine' pa ?n19 ?n20
  case n19 => exact pe_bl
  case n20 => exact pa_nil
  case' n2 => refine' pss_one ?n21
  case' n21 => refine' ps_ret ?n22
  case' n22 => refine' pe_tup ?n23
  case' n23 => refine' pa ?n24 ?n25
  case n24 => exact pe_str
  case' n25 => refine' pa ?n26 ?n27
  case n26 => exact pe_non
  case n27 => exact pa_nil
  refine ⟨_, rfl, fl, rfl, .inl ⟨⟨_, SqL.of hfl⟩, ?_⟩⟩
  refine for_by (n := fv.length) (fun i σ H' => i = 0 ∧ H' = H ∧ σ = [some (.ref fl), none, none]) ⟨rfl, rfl, rfl⟩ ?_ ?_ ?_ ?_
  · rintro i σ H1 hi ⟨rfl, rfl, rfl⟩
    exact ⟨_, _, SqL.of hfl, List.getElem?_eq_getElem hi⟩
  · rintro σ H1 ⟨e, rfl, rfl⟩
    exact ⟨_, SqL.of hfl, Nat.le_refl _⟩
  · rintro i σ H1 hi ⟨rfl, rfl, rfl⟩ y H2 hy
    obtain ⟨e1, hyx⟩ := hy
    subst e1
    have ey := hyx _ (SqL.of hfl)
    match qs, fv, rf, ey with
    | (p, z) :: r, y' :: fr, rf, ey =>
    cases ey
    obtain ⟨_, _, e, h1, _⟩ := rf
    cases e
    obtain ⟨ta, us, rfl, hta, rus⟩ := RK.get h1
    obtain ⟨v1, _, rfl, k1, v2, _, rfl, k2, e⟩ := rus
    cases (show _ = [] from e)
    cases (show v1 = .int p by rw [RK] at k1; exact k1)
    refine ⟨ta, _, rfl, hta.sq, rfl, _, _, rfl, _, _, rfl, rfl, ?_⟩
    refine ⟨_, rfl, by show 3 ≤ sizeLine; decide, fun b hb => ?_⟩
    exact q (.ref b) _ (Old.new hb) (RK.tup (.of upd_same) (.cons (.s _) (.cons (.i _) (.cons (.b _) .nil))))
  · rintro σ H1 ⟨e, rfl, rfl⟩
    have e0 : fv = [] := List.length_eq_zero_iff.mp e
    subst e0
    have lq := rf.length
    have e1 : qs = [] := List.length_eq_zero_iff.mp (by rw [← List.length_map (f := fun z : Int × Str => Dk.tup [.int z.1, .str z.2])]; exact lq)
    subst e1
    refine ⟨by show 2 ≤ sizeLine; decide, fun b hb => ?_⟩
    exact q (.ref b) _ (Old.new hb) (RK.tup (.of upd_same) (.cons (.s _) (.cons .n .nil)))
/-! ### told -/
noncomputable abbrev sTold : Stmt := top 30
noncomputable def spTold (K : PySem.W.Frag) : Sp := fun vs H Q _ => ∃ (v : V) (t : Tn), vs = [v] ∧ RK K H t.d v ∧ t.wf ∧ t.dep < 12 ∧ ∀ (v' : V) (H' : Hp), Old H H' → RK K H' (dueD (t.frees [])) v' → Q v' H'
theorem scTold : FnScope ["_law_tree_here", "_law_caught", "_law_found", "e", "_law_others"] ["_law_tree_here"] (defScope sTold) := ⟨rfl, rfl, rfl, by decide +kernel, rfl, by decide +kernel, by decide +kernel⟩
theorem ok_told {n : Nat} {B C D1 D2 D3 D4 D5 D6 D7 : Addr} (F : Fun K "_law_told" "_law_told" sTold f fd) (T : Tx mg) (Y_BlameError : ExCls K B) (m_BlameError : mg "BlameError" = some (.ref B)) (hm : PySem.W.mroIn K C (.ref B) = some true) (X : ExFind K C) (hh : PySem.W.hasDictIn K C = true) (hf : PySem.W.findIn K (.ref C) "place" = some none)
    (m_NoFit : mg "NoFit" = some (.ref D1)) (m_NoLook : mg "NoLook" = some (.ref D2)) (m_NoPart : mg "NoPart" = some (.ref D3)) (m_NoText : mg "NoText" = some (.ref D4)) (m_Parted : mg "Parted" = some (.ref D5)) (m_TooDeep : mg "TooDeep" = some (.ref D6)) (m_TooMany : mg "TooMany" = some (.ref D7)) (m_NoName : mg "NoName" = some (.ref C))
    (i1 : PySem.W.kitOne K (.ref C) (.ref D1) = some false) (i2 : PySem.W.kitOne K (.ref C) (.ref D2) = some false) (i3 : PySem.W.kitOne K (.ref C) (.ref D3) = some false) (i4 : PySem.W.kitOne K (.ref C) (.ref D4) = some false) (i5 : PySem.W.kitOne K (.ref C) (.ref D5) = some false) (i6 : PySem.W.kitOne K (.ref C) (.ref D6) = some false) (i7 : PySem.W.kitOne K (.ref C) (.ref D7) = some false)
    (i8 : PySem.W.kitOne K (.ref C) (.type "ValueError") = some true) (i9 : PySem.W.kitOne K (.ref C) (.ref C) = some true) (c_need_names : CalX P w K mg base "need_names" ["tree"] 17 (spNN K C 12)) : FnOk P w K mg base CX0 (n + 18) f fd ["_law_tree_here"] (spTold K) := by
  refine F.ok scTold (fun vs H Q E h => ?_) (fun cdv A outer s H vs Q E hr h => ?_)
  · obtain ⟨v, t, rfl, _⟩ := h
    rfl
  obtain ⟨v, t, rfl, rv, wt, dt, q⟩ := h
  have nd := scTold.nd
  refine' ⟨_, ?n0, ?Z⟩
  case' n0 => refine' pss_cons ?n1 ?n2
  case' n1 => refine' ps_setX (i := 1) nd rfl (Or.inl rfl) rfl (by first | exact .inl rfl | exact .inr rfl) ?n3
  case n3 => exact pe_non
  case' n2 => refine' pss_cons ?n4 ?n5
  case' n4 => refine' ps_setX (i := 2) nd rfl (Or.inl rfl) rfl (by first | exact .inl rfl | exact .inr rfl) ?n6
  case n6 => exact pe_non
  case' n5 => refine' pss_cons ?n7 ?n8
  case' n7 => refine' ps_tryB (i := 2) (k := 3) c_need_names hr ?n9 Y_BlameError m_BlameError nd rfl rfl rfl rfl (fun _ => ?n10)
  case' n9 => refine' pa ?n11 ?n12
  case n11 => exact pv 0
  case n12 => exact pa_nil
  case n10 =>
    refine' pss_one ?n13
    case' n13 => refine' ps_setX (i := 1) nd rfl (Or.inl rfl) rfl (by first | exact .inl rfl | exact .inr rfl) ?n14
    first | case n14 => exact pv 3 | case n13 => exact pv 3
  case' n8 => refine' pss_cons ?n15 ?n16
  case' n15 => refine' ps_if ?n17 ?n18 ?n19
  case' n17 => refine' pt_cmpR op_isN ?n20 ?n21 (nomark _)
  case n20 => exact pv 1
  case n21 => exact pe_non
  case' n18 => refine' pss_one ?n22
  case' n22 => refine' ps_ret ?n23
  case' n23 => refine' pe_tup ?n24
  case' n24 => refine' pa ?n25 ?n26
  case n25 => exact pe_str
  case' n26 => refine' pa ?n27 ?n28
  case n27 => exact pv 2
  case n28 => exact pa_nil
  case n19 => exact pss_nil
  case' n16 => refine' pss_cons ?n29 ?n30
  case' n29 => refine' ps_setX (i := 4) nd rfl (Or.inl rfl) rfl (by first | exact .inl rfl | exact .inr rfl) ?n31
  case' n31 => refine' pe_lst ?n32
  case' n32 => refine' pa ?n33 ?n34
  case' n33 => refine' pe_callB call_isX2 rfl T.isinstance boot_isinstance ?n35
  case' n35 => refine' pa ?n36 ?n37
  case n36 => exact pv 1
  case' n37 => refine' pa ?n38 ?n39
  case n38 => exact pe_gref rfl m_NoFit
  case n39 => exact pa_nil
  case' n34 => refine' pa ?n40 ?n41
  case' n40 => refine' pe_callB call_isX2 rfl T.isinstance boot_isinstance ?n42
  case' n42 => refine' pa ?n43 ?n44
  case n43 => exact pv 1
  case' n44 => refine' pa ?n45 ?n46
  case n45 => exact pe_gref rfl m_NoLook
  case n46 => exact pa_nil
  case' n41 => refine' pa ?n47 ?n48
  case' n47 => refine' pe_callB call_isX2 rfl T.isinstance boot_isinstance ?n49
  case' n49 => refine' pa ?n50 ?n51
  case n50 => exact pv 1
  case' n51 => refine' pa ?n52 ?n53
  case n52 => exact pe_gref rfl m_NoPart
  case n53 => exact pa_nil
  case n48 => exact pa_nil
  case' n30 => refine' pss_cons ?n54 ?n55
  case' n54 => refine' ps_setX (i := 4) nd rfl (Or.inl rfl) rfl (by first | exact .inl rfl | exact .inr rfl) ?n56
  case' n56 => refine' pe_op op_addG ?n57 ?n58
  case n57 => exact pv 4
  case' n58 => refine' pe_lst ?n59
  case' n59 => refine' pa ?n60 ?n61
  case' n60 => refine' pe_callB call_isX2 rfl T.isinstance boot_isinstance ?n62
  case' n62 => refine' pa ?n63 ?n64
  case n63 => exact pv 1
  case' n64 => refine' pa ?n65 ?n66
  case n65 => exact pe_gref rfl m_NoText
  case n66 => exact pa_nil
  case' n61 => refine' pa ?n67 ?n68
  case' n67 => refine' pe_callB call_isX2 rfl T.isinstance boot_isinstance ?n69
  case' n69 => refine' pa ?n70 ?n71
  case n70 => exact pv 1
  case' n71 => refine' pa ?n72 ?n73
  case n72 => exact pe_gref rfl m_Parted
  case n73 => exact pa_nil
  case' n68 => refine' pa ?n74 ?n75
  case' n74 => refine' pe_callB call_isX2 rfl T.isinstance boot_isinstance ?n76
  case' n76 => refine' pa ?n77 ?n78
  case n77 => exact pv 1
  case' n78 => refine' pa ?n79 ?n80
  case n79 => exact pe_gref rfl m_TooDeep
  case n80 => exact pa_nil
  case n75 => exact pa_nil
  case' n55 => refine' pss_cons ?n81 ?n82
  case' n81 => refine' ps_if ?n83 ?n84 ?n85
  case' n83 => refine' PW.pt ?n86
  case' n86 => refine' pw_or ?n87 ?n88
  case' n87 => refine' pt_cmpR op_in_seq ?n89 ?n90 rfl
  case n89 => exact pe_bl
  case n90 => exact pv 4
  case' n88 => refine' pw_or ?n91 ?n92
  case' n91 => refine' pt_val ?n93
  case' n93 => refine' pe_callB call_isX2 rfl T.isinstance boot_isinstance ?n94
  case' n94 => refine' pa ?n95 ?n96
  case n95 => exact pv 1
  case' n96 => refine' pa ?n97 ?n98
  case n97 => exact pe_gref rfl m_TooMany
  case n98 => exact pa_nil
  case' n92 => refine' pw_or1 ?n99
  case' n99 => refine' pt_not ?n100
  case' n100 => refine' pt_val ?n101
  case' n101 => refine' pe_callB call_isX2 rfl T.isinstance boot_isinstance ?n102
  case' n102 => refine' pa ?n103 ?n104
  case n103 => exact pv 1
  case' n104 => refine' pa ?n105 ?n106
  case n105 => exact pe_ty rfl T.ValueError boot_VE
  case n106 => exact pa_nil
  case' n84 => refine' pss_one ?n107
  case' n107 => refine' ps_ret ?n108
  case' n108 => refine' pe_tup ?n109
  case' n109 => refine' pa ?n110 ?n111
  case n110 => exact pe_str
  case' n111 => refine' pa ?n112 ?n113
  case n112 => exact pe_non
  case n113 => exact pa_nil
  case n85 => exact pss_nil
  case' n82 => refine' pss_cons ?n114 ?n115
  case' n114 => refine' ps_if ?n116 ?n117 ?n118
  case' n116 => refine' pt_not ?n119
  case' n119 => refine' pt_val ?n120
  case' n120 => refine' pe_callB call_isX2 rfl T.isinstance boot_isinstance ?n121
  case' n121 => refine' pa ?n122 ?n123
  case n122 => exact pv 1
  case' n123 => refine' pa ?n124 ?n125
  case n124 => exact pe_gref rfl m_NoName
  case n125 => exact pa_nil
  case' n117 => refine' pss_one ?n126
  case' n126 => refine' ps_ret ?n127
  case' n127 => refine' pe_tup ?n128
  case' n128 => refine' pa ?n129 ?n130
  case n129 => exact pe_str
  case' n130 => refine' pa ?n131 ?n132
  case n131 => exact pe_non
  case n132 => exact pa_nil
  case n118 => exact pss_nil
  case' n115 => refine' pss_one ?n133
  case' n133 => refine' ps_ret ?n134
  case' n134 => refine' pe_tup ?n135
  case' n135 => refine' pa ?n136 ?n137
  case n136 => exact pe_str
  case' n137 => refine' pa ?n138 ?n139
  case' n138 => refine' pe_xfld ?n140 rfl
  case n140 => exact pv 1
  case' n139 => refine' pa ?n141 ?n142
  case' n141 => refine' pe_callB (call_isj) rfl T.isinstance boot_isinstance ?n143
  case' n143 => refine' pa ?n144 ?n145
  case' n144 => refine' pe_xfld ?n146 rfl
  case n146 => exact pv 1
  case' n145 => refine' pa ?n147 ?n148
  case n147 => exact pe_ty rfl T.bool boot_bool
  case n148 => exact pa_nil
  case n142 => exact pa_nil
  refine ⟨_, rfl, v, t, rfl, rv, wt, dt, by omega, fun ef H1 o1 => ?_, fun p z r ef d H1 o1 hd => ⟨C, rfl, hm, fun d' e => ⟨_, by cases e; exact hd⟩, fun a ha => ?_⟩⟩
  · refine ⟨_, rfl, rfl, _, rfl, iteT ?_⟩
    refine ⟨_, rfl, by show 2 ≤ sizeLine; decide, fun b hb => ?_⟩
    refine q (.ref b) _ (o1.trans (Old.new hb)) ?_
    rw [ef]
    exact RK.tup (.of upd_same) (.cons (.s _) (.cons .n .nil))
  · have o2 : Old H1 (upd H1 a (XQ false a C (some d))) := Old.new ha
    have hpa : upd H1 a (XQ false a C (some d)) a = some (XQ false a C (some d)) := upd_same
    have hda := o2 _ _ hd
    generalize upd H1 a (XQ false a C (some d)) = H2 at o2 hpa hda ⊢
    have hdx : ∀ {H' : Hp}, Old H2 H' → ∀ d', some d = some d' → ∃ fs, H' d' = some (DO d' fs) := fun o d' e => ⟨_, by cases e; exact o _ _ hda⟩
    refine ⟨_, rfl, ?_⟩
    refine ⟨_, rfl, rfl, _, rfl, iteF ?_⟩
    refine ⟨_, rfl, false, a, C, some d, _, _, _, rfl, rfl, fun _ e => e, hpa, hdx (Old.refl _), X, i1, _, rfl, false, a, C, some d, _, _, _, rfl, rfl, fun _ e => e, hpa, hdx (Old.refl _), X, i2, _, rfl, false, a, C, some d, _, _, _, rfl, rfl, fun _ e => e, hpa, hdx (Old.refl _), X, i3, by show 3 ≤ sizeLine; decide, fun l1 hl1 => ?_⟩
    have o3 : Old H2 (upd H2 l1 (.lst [.bl false, .bl false, .bl false])) := Old.new hl1
    have e3 : upd H2 l1 (.lst [.bl false, .bl false, .bl false]) l1 = _ := upd_same
    generalize upd H2 l1 (.lst [.bl false, .bl false, .bl false]) = H3 at o3 e3 ⊢
    have hp3 := o3 _ _ hpa
    refine ⟨_, rfl, _, rfl, false, a, C, some d, _, _, _, rfl, rfl, fun _ e => e, hp3, hdx o3, X, i4, _, rfl, false, a, C, some d, _, _, _, rfl, rfl, fun _ e => e, hp3, hdx o3, X, i5, _, rfl, false, a, C, some d, _, _, _, rfl, rfl, fun _ e => e, hp3, hdx o3, X, i6, by show 3 ≤ sizeLine; decide, fun l2 hl2 => ?_⟩
    have o4 : Old H3 (upd H3 l2 (.lst [.bl false, .bl false, .bl false])) := Old.new hl2
    have e4 : upd H3 l2 (.lst [.bl false, .bl false, .bl false]) l2 = _ := upd_same
    generalize upd H3 l2 (.lst [.bl false, .bl false, .bl false]) = H4 at o4 e4 ⊢
    refine .inr (addL ⟨l1, l2, _, _, rfl, rfl, o4 _ _ e3, e4, by show 6 ≤ sizeLine; decide, fun l3 hl3 => ?_⟩)
    have o5 : Old H4 (upd H4 l3 (.lst ([.bl false, .bl false, .bl false] ++ [.bl false, .bl false, .bl false]))) := Old.new hl3
    have e5 : upd H4 l3 (.lst ([.bl false, .bl false, .bl false] ++ [.bl false, .bl false, .bl false])) l3 = some (.lst [.bl false, .bl false, .bl false, .bl false, .bl false, .bl false]) := upd_same
    generalize upd H4 l3 (.lst ([.bl false, .bl false, .bl false] ++ [.bl false, .bl false, .bl false])) = H5 at o5 e5 ⊢
    have oA := o3.trans (o4.trans o5)
    have hpA := oA _ _ hpa
    refine ⟨_, rfl, l3, _, rfl, .inl (SqL.of e5), rfl, rfl, _, rfl, iteF ?_⟩
    refine ⟨_, rfl, false, a, C, some d, _, _, _, rfl, rfl, fun _ e => e, hpA, hdx oA, X, i7, _, rfl, iteF ?_⟩
    refine ⟨_, rfl, false, a, C, some d, _, _, _, rfl, rfl, fun _ e => e, hpA, hdx oA, X, i8, _, rfl, iteF ?_⟩
    refine ⟨_, rfl, false, a, C, some d, _, _, _, rfl, rfl, fun _ e => e, hpA, hdx oA, X, i9, _, rfl, iteF ?_⟩
    refine ⟨_, rfl, false, a, C, d, _, .int p, rfl, hpA, oA _ _ hda, X, hh, hf, rfl, _, rfl, false, a, C, d, _, .int p, rfl, hpA, oA _ _ hda, X, hh, hf, rfl, _, _, _, rfl, i_ib _, by show 3 ≤ sizeLine; decide, fun b hb => ?_⟩
    refine q (.ref b) _ (o1.trans (o2.trans (oA.trans (Old.new hb)))) ?_
    rw [ef]
    exact RK.tup (.of upd_same) (.cons (.s _) (.cons (.i _) (.cons (.b _) .nil)))
end
end L2.K12

end
section
set_option Elab.async false
set_option linter.all false
set_option maxRecDepth 100000
set_option maxHeartbeats 8000000
namespace L2.K12
open PySem PySem.Spec PyProof.Rows L2.Bw L2.Bk L2.Ex
theorem Old.seq {K : PySem.W.Frag} {H H' : Hp} {a : Addr} {xs : List V} (o : Old H H') (h : SqL K H a xs) : SqL K H' a xs := o.gr.seq (fun z => z) h
theorem cut_rev (ns : List Int) (lo hi : Option Int) : ∃ ms : List Int, (cutV (ns.map V.int) lo hi).reverse = ms.map V.int := by
  refine ⟨((ns.drop (HT.sIx ns.length 0 lo)).take (HT.sIx ns.length ns.length hi - HT.sIx ns.length 0 lo)).reverse, ?_⟩
  unfold cutV
  rw [List.length_map, List.map_reverse, List.map_take, List.map_drop]
theorem dq_due : ∀ q : List (Int × Str), ∃ ds, dueD q = .tup ds ∧ dqs ds ≤ 60
  | [] => ⟨_, rfl, by decide⟩
  | (p, z) :: r => ⟨_, rfl, by show dqs [.str "free", .int p, .bl false] ≤ 60; simp [dqs, Dk.dq]⟩
noncomputable def arnd (a1 a2 : Int) (zz : Str) (t : Tn) : Tn := .mk "let" a1 [.str zz] [] [.mk "whole" a2 [.int 3] [] [], t]
theorem arnd_d (a1 a2 : Int) (zz : Str) (t : Tn) : (arnd a1 a2 zz t).d = .tup [.str "let", .int a1, .str zz, .tup [.str "whole", .int a2, .int 3], t.d] := by
  have e : (Tn.mk "whole" a2 [.int 3] [] []).d = .tup [.str "whole", .int a2, .int 3] := by
    show Dk.tup (.str "whole" :: .int a2 :: ([.int 3] ++ [] ++ (if ("whole" : Str) = "row" then [.tup (Tn.ds [])] else Tn.ds []))) = _
    rw [if_neg (by decide)]
    rfl
  show Dk.tup (.str "let" :: .int a1 :: ([.str zz] ++ [] ++ (if ("let" : Str) = "row" then [.tup (Tn.ds [.mk "whole" a2 [.int 3] [] [], t])] else [(Tn.mk "whole" a2 [.int 3] [] []).d, t.d]))) = _
  rw [if_neg (by decide), e]
  rfl
theorem arnd_facts : ("let" : Str) ∈ K11.words ∧ ("whole" : Str) ∈ K11.words ∧ K11.nf "let" = 1 ∧ K11.nk "let" = 0 ∧ K11.np "let" = 2 ∧ K11.nf "whole" = 1 ∧ K11.nk "whole" = 0 ∧ K11.np "whole" = 0 ∧ ¬ ("whole" : Str) ∈ named := by decide +kernel
theorem arnd_wf {a1 a2 : Int} {zz : Str} {t : Tn} (wt : t.wf) (h1 : 0 ≤ a1) (h2 : a1 < 100000) (h3 : 0 ≤ a2) (h4 : a2 < 100000) : (arnd a1 a2 zz t).wf := by
  obtain ⟨f1, f2, f3, f4, f5, f6, f7, f8, f9⟩ := arnd_facts
  exact ⟨⟨f1, f3.symm, f4.symm, fun _ => f5.symm, by show 2 ≤ 5; decide, fun _ => ⟨[zz], rfl⟩, h1, h2⟩, ⟨⟨f2, f6.symm, f7.symm, fun _ => f8.symm, by show 0 ≤ 5; decide, fun h => absurd h f9, h3, h4⟩, trivial⟩, wt, trivial⟩
theorem arnd_frees (a1 a2 : Int) (zz : Str) (t : Tn) : (arnd a1 a2 zz t).frees [] = (t.frees []).filter fun q => decide (q.2 ≠ zz) := by
  have e : (arnd a1 a2 zz t).frees [] = t.frees [zz] := by
    show (if ("let" : Str) = "name" ∧ _ then [_] else []) ++ (((if ("whole" : Str) = "name" ∧ _ then [_] else []) ++ []) ++ (t.frees ([] ++ bnd "let" [zz] 1) ++ [])) = _
    rw [if_neg (fun h => absurd h.1 (by decide)), if_neg (fun h => absurd h.1 (by decide)), List.append_nil]
    have e2 : bnd "let" [zz] 1 = [zz] := if_pos (.inr (.inr ⟨rfl, rfl⟩))
    rw [e2]
    simp
  rw [e]
  exact frees_more zz t [] [zz] fun y => by simp
section
variable {P : Program} {w : World} {K : PySem.W.Frag} {mg : Str → Option Value} {base : Heap} {f : Addr} {fd : FuncData}
theorem ne_due {H : Hp} {q : List (Int × Str)} {x y : V} {Q : VK} (hx : RK K H (dueD q) x) (hy : RK K H (dueD q) y) (k : Q (.bl false) H) : rNeG K x y H Q := by
  obtain ⟨ds, e, hd⟩ := dq_due q
  rw [e] at hx hy
  refine .inl ⟨ds, ds, hx, hy, hd, ?_⟩
  rw [eqbs_refl]
  exact k
theorem eq_due {H : Hp} {q : List (Int × Str)} {x y : V} {Q : VK} (hx : RK K H (dueD q) x) (hy : RK K H (dueD q) y) (k : Q (.bl true) H) : rEqG K x y H Q := by
  obtain ⟨ds, e, hd⟩ := dq_due q
  rw [e] at hx hy
  refine .inl ⟨ds, ds, hx, hy, hd, ?_⟩
  rw [eqbs_refl]
  exact k
/-! ### law -/
noncomputable abbrev sLaw : Stmt := top 32
noncomputable def spLaw (K : PySem.W.Frag) : Sp := fun vs H Q _ => ∃ (a : Addr) (ns : List Int), vs = [.ref a] ∧ SqL K H a (ns.map V.int) ∧ ns.length ≤ 63 ∧ ∀ H', Q (.bl true) H'
theorem scLaw : FnScope ["_law_script", "_law_xs", "_law_cell", "_law_step", "_law_base", "_law_names_here", "_law_used", "_law_free", "_law_tree_here", "_law_first", "_law_around", "_law_left"] ["_law_script"] (defScope sLaw) := ⟨rfl, rfl, rfl, by decide +kernel, rfl, by decide +kernel, by decide +kernel⟩
theorem ok_law {m : Nat} (F : Fun K "law" "law" sLaw f fd) (T : Tx mg) (c_cell_at : Cal P w K mg base "_law_cell_at" ["_law_script", "_law_k"] 1 (spCell K)) (c_names : Cal P w K mg base "_law_names" ["_law_cell"] 3 (spNames K)) (c_place : Cal P w K mg base "_law_place" ["_law_used", "_law_base"] 1 (spPlace K)) (c_tree : Cal P w K mg base "_law_tree" ["_law_world", "_law_room", "_law_outer"] 11 (spTree K 8)) (c_told : Cal P w K mg base "_law_told" ["_law_tree_here"] 18 (spTold K)) (c_due : Cal P w K mg base "_law_due" ["_law_free"] 1 (spDue K)) :
    FnOk P w K mg base CX0 (m + 19) f fd ["_law_script"] (spLaw K) := by
  refine F.ok scLaw (fun vs H Q E h => ?_) (fun cdv A outer s H vs Q E hr h => ?_)
  · obtain ⟨a, ns, rfl, _⟩ := h
    rfl
  obtain ⟨a, ns, rfl, hS, h63, q⟩ := h
  have nd := scLaw.nd
  refine' ⟨_, ?n0, ?Z⟩
  case' n0 => refine' pss_cons ?n1 ?n2
  case' n1 => refine' ps_setX (i := 1) nd rfl (Or.inl rfl) rfl (by first | exact .inl rfl | exact .inr rfl) ?n3
  case' n3 => refine' pe_listrev rfl rfl T.list rfl T.reversed ?n4
  case' n4 => refine' pe_slice sl_a ?n5 ?n6 ?n7
  case n5 => exact pv 0
  case' n6 => refine' po_some ?n8
  case n8 => exact pe_int
  case' n7 => refine' po_some ?n9
  case n9 => exact pe_int
  case' n2 => refine' pss_cons ?n10 ?n11
  case' n10 => refine' ps_setX (i := 2) nd rfl (Or.inl rfl) rfl (by first | exact .inl rfl | exact .inr rfl) ?n12
  case' n12 => refine' pe_cal c_cell_at hr ?n13
  case' n13 => refine' pa ?n14 ?n15
  case n14 => exact pv 0
  case' n15 => refine' pa ?n16 ?n17
  case n16 => exact pe_int
  case n17 => exact pa_nil
  case' n11 => refine' pss_cons ?n18 ?n19
  case' n18 => refine' ps_setX (i := 3) nd rfl (Or.inl rfl) rfl (by first | exact .inl rfl | exact .inr rfl) ?n20
  case' n20 => refine' pe_op op_addG ?n21 ?n22
  case n21 => exact pe_int
  case' n22 => refine' pe_op op_mod ?n23 ?n24
  case' n23 => refine' pe_op op_mulG ?n25 ?n26
  case n25 => exact pv 2
  case n26 => exact pe_int
  case n24 => exact pe_int
  case' n19 => refine' pss_cons ?n27 ?n28
  case' n27 => refine' ps_setX (i := 4) nd rfl (Or.inl rfl) rfl (by first | exact .inl rfl | exact .inr rfl) ?n29
  case' n29 => refine' pe_tup ?n30
  case' n30 => refine' pa ?n31 ?n32
  case' n31 => refine' pe_op op_mod ?n33 ?n34
  case n33 => exact pv 2
  case n34 => exact pe_int
  case' n32 => refine' pa ?n35 ?n36
  case n35 => exact pv 3
  case' n36 => refine' pa ?n37 ?n38
  case' n37 => refine' pe_op op_mod ?n39 ?n40
  case' n39 => refine' pe_cal c_cell_at hr ?n41
  case' n41 => refine' pa ?n42 ?n43
  case n42 => exact pv 0
  case' n43 => refine' pa ?n44 ?n45
  case n44 => exact pe_int
  case n45 => exact pa_nil
  case n40 => exact pe_int
  case n38 => exact pa_nil
  case' n28 => refine' pss_cons ?n46 ?n47
  case' n46 => refine' ps_if ?n48 ?n49 ?n50
  case' n48 => refine' pt_cmpR (op_eqG hr) ?n51 ?n52 (nomark _)
  case' n51 => refine' pe_op op_mod ?n53 ?n54
  case n53 => exact pv 2
  case n54 => exact pe_int
  case n52 => exact pe_int
  case' n49 => refine' pss_one ?n55
  case' n55 => refine' ps_setX (i := 4) nd rfl (Or.inl rfl) rfl (by first | exact .inl rfl | exact .inr rfl) ?n56
  case' n56 => refine' pe_tup ?n57
  case' n57 => refine' pa ?n58 ?n59
  case' n58 => refine' pe_op op_sub ?n60 ?n61
  case n60 => exact pe_int
  case' n61 => refine' pe_op op_mulG ?n62 ?n63
  case n62 => exact pv 3
  case' n63 => refine' pe_op op_mod ?n64 ?n65
  case' n64 => refine' pe_op op_fdivG ?n66 ?n67
  case n66 => exact pv 2
  case n67 => exact pe_int
  case n65 => exact pe_int
  case' n59 => refine' pa ?n68 ?n69
  case n68 => exact pv 3
  case' n69 => refine' pa ?n70 ?n71
  case n70 => exact pe_int
  case n71 => exact pa_nil
  case n50 => exact pss_nil
  case' n47 => refine' pss_cons ?n72 ?n73
  case' n72 => refine' ps_setX (i := 5) nd rfl (Or.inl rfl) rfl (by first | exact .inl rfl | exact .inr rfl) ?n74
  case' n74 => refine' pe_cal c_names hr ?n75
  case' n75 => refine' pa ?n76 ?n77
  case' n76 => refine' pe_op op_fdivG ?n78 ?n79
  case' n78 => refine' pe_cal c_cell_at hr ?n80
  case' n80 => refine' pa ?n81 ?n82
  case n81 => exact pv 0
  case' n82 => refine' pa ?n83 ?n84
  case n83 => exact pe_int
  case n84 => exact pa_nil
  case n79 => exact pe_int
  case n77 => exact pa_nil
  case' n73 => refine' pss_cons ?n85 ?n86
  case' n85 => refine' ps_setX (i := 6) nd rfl (Or.inl rfl) rfl (by first | exact .inl rfl | exact .inr rfl) ?n87
  case' n87 => refine' pe_lst ?n88
  case n88 => exact pa_nil
  case' n86 => refine' pss_cons ?n89 ?n90
  case' n89 => refine' ps_setX (i := 7) nd rfl (Or.inl rfl) rfl (by first | exact .inl rfl | exact .inr rfl) ?n91
  case' n91 => refine' pe_lst ?n92
  case n92 => exact pa_nil
  case' n90 => refine' pss_cons ?n93 ?n94
  case' n93 => refine' ps_setX (i := 8) nd rfl (Or.inl rfl) rfl (by first | exact .inl rfl | exact .inr rfl) ?n95
  case' n95 => refine' pe_cal c_tree hr ?n96
  case' n96 => refine' pa ?n97 ?n98
  case' n97 => refine' pe_tup ?n99
  case' n99 => refine' pa ?n100 ?n101
  case n100 => exact pv 1
  case' n101 => refine' pa ?n102 ?n103
  case n102 => exact pv 6
  case' n103 => refine' pa ?n104 ?n105
  case n104 => exact pv 4
  case' n105 => refine' pa ?n106 ?n107
  case n106 => exact pv 5
  case' n107 => refine' pa ?n108 ?n109
  case n108 => exact pv 7
  case n109 => exact pa_nil
  case' n98 => refine' pa ?n110 ?n111
  case n110 => exact pe_int
  case' n111 => refine' pa ?n112 ?n113
  case' n112 => refine' pe_lst ?n114
  case n114 => exact pa_nil
  case n113 => exact pa_nil
  case' n94 => refine' pss_cons ?n115 ?n116
  case' n115 => refine' ps_if ?n117 ?n118 ?n119
  case' n117 => refine' pt_cmpR (op_neG hr) ?n120 ?n121 (nomark _)
  case' n120 => refine' pe_cal c_told hr ?n122
  case' n122 => refine' pa ?n123 ?n124
  case n123 => exact pv 8
  case n124 => exact pa_nil
  case' n121 => refine' pe_cal c_due hr ?n125
  case' n125 => refine' pa ?n126 ?n127
  case n126 => exact pv 7
  case n127 => exact pa_nil
  case' n118 => refine' pss_one ?n128
  case' n128 => refine' ps_ret ?n129
  case n129 => exact pe_bl
  case n119 => exact pss_nil
  case' n116 => refine' pss_cons ?n130 ?n131
  case' n130 => refine' ps_if ?n132 ?n133 ?n134
  case' n132 => refine' pt_cmpR (op_eqG hr) ?n135 ?n136 (nomark _)
  case n135 => exact pv 7
  case' n136 => refine' pe_lst ?n137
  case n137 => exact pa_nil
  case' n133 => refine' pss_one ?n138
  case' n138 => refine' ps_ret ?n139
  case n139 => exact pe_bl
  case n134 => exact pss_nil
  case' n131 => refine' pss_cons ?n140 ?n141
  case' n140 => refine' ps_setX (i := 9) nd rfl (Or.inr rfl) rfl (by first | exact .inl rfl | exact .inr rfl) ?n142
  case' n142 => refine' pe_ix ix_seq ?n143 ?n144 (fun _ _ => rfl)
  case' n143 => refine' pe_ix ix_seq ?n145 ?n146 (fun _ _ => rfl)
  case n145 => exact pv 7
  case n146 => exact pe_int
  case n144 => exact pe_int
  case' n141 => refine' pss_cons ?n147 ?n148
  case' n147 => refine' ps_setX (i := 10) nd rfl (Or.inl rfl) rfl (by first | exact .inl rfl | exact .inr rfl) ?n149
  case' n149 => refine' pe_tup ?n150
  case' n150 => refine' pa ?n151 ?n152
  case n151 => exact pe_str
  case' n152 => refine' pa ?n153 ?n154
  case' n153 => refine' pe_cal c_place hr ?n155
  case' n155 => refine' pa ?n156 ?n157
  case n156 => exact pv 6
  case' n157 => refine' pa ?n158 ?n159
  case n158 => exact pv 4
  case n159 => exact pa_nil
  case' n154 => refine' pa ?n160 ?n161
  case n160 => exact pv 9
  case' n161 => refine' pa ?n162 ?n163
  case' n162 => refine' pe_tup ?n164
  case' n164 => refine' pa ?n165 ?n166
  case n165 => exact pe_str
  case' n166 => refine' pa ?n167 ?n168
  case' n167 => refine' pe_cal c_place hr ?n169
  case' n169 => refine' pa ?n170 ?n171
  case n170 => exact pv 6
  case' n171 => refine' pa ?n172 ?n173
  case n172 => exact pv 4
  case n173 => exact pa_nil
  case' n168 => refine' pa ?n174 ?n175
  case n174 => exact pe_int
  case n175 => exact pa_nil
  case' n163 => refine' pa ?n176 ?n177
  case n176 => exact pv 8
  case n177 => exact pa_nil
  case' n148 => refine' pss_cons ?n178 ?n179
  case' n178 => refine' ps_lc (tt := tTest (tOp (rNeG K) (tOp (rIx K) (tVar 0) (tC (.int 1))) (tVar 10))) (te := tVar 0) (i := 11) (k := 1) (N := ["_law_one", "_law_script", "_law_xs", "_law_cell", "_law_step", "_law_base", "_law_names_here", "_law_used", "_law_free", "_law_tree_here", "_law_first", "_law_around", "_law_left"]) (lc_mk rfl rfl rfl rfl rfl rfl) rfl nd rfl (Or.inl rfl) ?n180 (fun _ _ _ _ => ?n181) (fun _ _ _ _ => ?n182) (fun _ _ _ _ => ?n183)
  case' n180 => refine' pi_seq ?n184
  case n184 => exact pv 7
  case n181 => exact pg_name (i := 0) (by show List.Nodup (["_law_one", "_law_script", "_law_xs", "_law_cell", "_law_step", "_law_base", "_law_names_here", "_law_used", "_law_free", "_law_tree_here", "_law_first", "_law_around", "_law_left"] : List Str); decide +kernel) rfl (Or.inl rfl)
  case n182 =>
    refine' pts_one ?n185
    case' n185 => refine' pt_cmpR (op_neG hr) ?n186 ?n187 (nomark _)
    case' n186 => refine' pe_ix ix_seq ?n188 ?n189 (fun _ _ => rfl)
    case n188 => exact pv 0
    case n189 => exact pe_int
    case n187 => exact pv 10
  case n183 => exact pv 0
  case' n179 => refine' pss_cons ?n190 ?n191
  case' n190 => refine' ps_if ?n192 ?n193 ?n194
  case' n192 => refine' pt_cmpR (op_neG hr) ?n195 ?n196 (nomark _)
  case' n195 => refine' pe_cal c_told hr ?n197
  case' n197 => refine' pa ?n198 ?n199
  case n198 => exact pv 10
  case n199 => exact pa_nil
  case' n196 => refine' pe_cal c_due hr ?n200
  case' n200 => refine' pa ?n201 ?n202
  case n201 => exact pv 11
  case n202 => exact pa_nil
  case' n193 => refine' pss_one ?n203
  case' n203 => refine' ps_ret ?n204
  case n204 => exact pe_bl
  case n194 => exact pss_nil
  case' n191 => refine' pss_one ?n205
  case' n205 => refine' ps_ret ?n206
  case' n206 => refine' pe_cmpR (op_eqG hr) ?n207 ?n208 (nomark _)
  case' n207 => refine' pe_cal c_told hr ?n209
  case' n209 => refine' pa ?n210 ?n211
  case n210 => exact pv 8
  case n211 => exact pa_nil
  case' n208 => refine' pe_cal c_due hr ?n212
  case' n212 => refine' pa ?n213 ?n214
  case n213 => exact pv 7
  case n214 => exact pa_nil
  refine ⟨_, rfl, _, rfl, _, rfl, .inl (.inl ⟨a, _, rfl, hS, fun p1 hp1 => ⟨p1, _, rfl, SqL.of upd_same, fun l hl => ?_⟩⟩)⟩
  obtain ⟨ms, hms⟩ := cut_rev ns (some 2) (some 120)
  have o1 : Old H (upd (upd H p1 (.lst (cutV (ns.map V.int) (some 2) (some 120)))) l (.lst (cutV (ns.map V.int) (some 2) (some 120)).reverse)) := (Old.new hp1).trans (Old.new hl)
  have hl1 : upd (upd H p1 (.lst (cutV (ns.map V.int) (some 2) (some 120)))) l (.lst (cutV (ns.map V.int) (some 2) (some 120)).reverse) l = some (.lst (ms.map V.int)) := by rw [upd_same, hms]
  generalize upd (upd H p1 (.lst (cutV (ns.map V.int) (some 2) (some 120)))) l (.lst (cutV (ns.map V.int) (some 2) (some 120)).reverse) = H1 at o1 hl1 ⊢
  clear hl hp1 hms
  refine ⟨_, rfl, a, ns, 1, rfl, Old.seq o1 hS, by decide, fun c => ?_⟩
  refine ⟨_, rfl, .inr ⟨_, _, rfl, rfl, .inr ⟨by decide, by decide⟩, _, _, rfl, rfl, (by show (0 : Int) < 9972; decide), add_i ?_⟩⟩
  have s0 : 0 ≤ c * 7919 % 9972 := Int.emod_nonneg _ (by decide)
  have s1 : c * 7919 % 9972 < 9972 := Int.emod_lt_of_pos _ (by decide)
  dsimp only [gName]
  generalize c * 7919 % 9972 = st at s0 s1 ⊢
  refine ⟨_, rfl, _, _, rfl, rfl, (by show (0 : Int) < 9973; decide), _, rfl, _, rfl, a, ns, 0, rfl, Old.seq o1 hS, by decide, fun c0 => ⟨_, _, rfl, rfl, (by show (0 : Int) < 28; decide), by show 3 ≤ sizeLine; decide, fun b0 hb0 => ?_⟩⟩
  have z0 : 0 ≤ c0 % 28 := Int.emod_nonneg _ (by decide)
  have z1' : c0 % 28 < 28 := Int.emod_lt_of_pos _ (by decide)
  dsimp only [gName]
  refine seq_by (fun σ H' => ∃ (ba : Addr) (x y z : Int), Old H1 H' ∧ H' ba = some (.tup [.int x, .int y, .int z]) ∧ 0 ≤ z ∧ z < 1000 ∧ σ = [some (.ref a), some (.ref l), some (.int c), some (.int (1 + st)), some (.ref ba), none, none, none, none, none, none, none]) (fun R hR => ?_) (fun σ H2 hP => ?_)
  · refine ⟨_, rfl, _, _, rfl, rfl, (by show (0 : Int) < 3; decide), .inr (.inl ⟨rfl, _, rfl, ?_⟩)⟩
    refine ite2 (fun _ => ?_) (fun _ => ?_)
    · refine ⟨_, rfl, _, rfl, _, _, rfl, rfl, .inl ⟨by decide, by decide⟩, _, _, rfl, rfl, (by show (0 : Int) < 8; decide), .inr ⟨_, _, rfl, rfl, .inl ⟨by omega, by omega⟩, _, _, rfl, rfl, _, rfl, by show 3 ≤ sizeLine; decide, fun b1 hb1 => ?_⟩⟩
      exact hR _ _ ⟨b1, _, _, 0, (Old.new hb0).trans (Old.new hb1), upd_same, by decide, by decide, rfl⟩
    · exact hR _ _ ⟨b0, _, _, _, Old.new hb0, upd_same, z0, by omega, rfl⟩
  clear hb0 b0
  obtain ⟨ba, bx, bY, bz, o2', hba2, y0, y1, rfl⟩ := hP
  have hl2 := o2' _ _ hl1
  have o2 := o1.trans o2'
  clear o2' hl1 o1
  refine ⟨_, rfl, a, ns, 0, rfl, Old.seq o2 hS, by decide, fun c1 => ⟨_, _, rfl, rfl, .inl ⟨by decide, by decide⟩, _, rfl, fun nl z1 z2 z3 H3 o3' hnl0 hnl => ?_⟩⟩
  have o3 := o2.trans o3'
  have hl3 := o3' _ _ hl2
  have hba3 := o3' _ _ hba2
  have nnl : nl ≠ l := fun z => by rw [z, hl2] at hnl0; cases hnl0
  clear o3' hl2 hba2 hnl0 o2
  refine ⟨by show 0 ≤ sizeLine; decide, fun u hu => ?_⟩
  have o4 : Old H3 (upd H3 u (.lst [])) := Old.new hu
  have hu4 : upd H3 u (.lst []) u = some (.lst []) := upd_same
  have n1 : l ≠ u := ne_of_none hl3 hu
  have n2 : nl ≠ u := ne_of_none hnl hu
  generalize upd H3 u (.lst []) = H4 at o4 hu4 ⊢
  refine ⟨by show 0 ≤ sizeLine; decide, fun fl hfl => ?_⟩
  have o5 : Old H4 (upd H4 fl (.lst [])) := Old.new hfl
  have hf5 : upd H4 fl (.lst []) fl = some (.lst []) := upd_same
  have n3 : l ≠ fl := ne_of_none (o4 _ _ hl3) hfl
  have n4 : nl ≠ fl := ne_of_none (o4 _ _ hnl) hfl
  have n5 : u ≠ fl := ne_of_none hu4 hfl
  generalize upd H4 fl (.lst []) = H5 at o5 hf5 ⊢
  refine ⟨_, rfl, _, rfl, _, rfl, _, rfl, _, rfl, by show 5 ≤ sizeLine; decide, fun wa hwa => ?_⟩
  have o6 : Old H5 (upd H5 wa (.tup [.ref l, .ref u, .ref ba, .ref nl, .ref fl])) := Old.new hwa
  have hw6 : upd H5 wa (.tup [.ref l, .ref u, .ref ba, .ref nl, .ref fl]) wa = _ := upd_same
  generalize upd H5 wa (.tup [.ref l, .ref u, .ref ba, .ref nl, .ref fl]) = H6 at o6 hw6 ⊢
  refine ⟨by show 0 ≤ sizeLine; decide, fun ol hol => ?_⟩
  have o7 : Old H6 (upd H6 ol (.lst [])) := Old.new hol
  have ho7 : upd H6 ol (.lst []) ol = some (.lst []) := upd_same
  have hl6 := o6 _ _ (o5 _ _ (o4 _ _ hl3))
  have hu6 := o6 _ _ (o5 _ _ hu4)
  have hf6 := o6 _ _ hf5
  have n6 : ol ≠ l := Ne.symm (ne_of_none hl6 hol)
  have n7 : ol ≠ u := Ne.symm (ne_of_none hu6 hol)
  have n8 : ol ≠ fl := Ne.symm (ne_of_none hf6 hol)
  generalize upd H6 ol (.lst []) = H7 at o7 ho7 ⊢
  have o37 := o4.trans (o5.trans (o6.trans o7))
  have rb3 : RK K H3 (.tup [.int bx, .int bY, .int bz]) (.ref ba) := RK.tup (.of hba3) (.cons (.i _) (.cons (.i _) (.cons (.i _) .nil)))
  have W : Wo K H7 wa l u nl fl ol (.ref ba) ms [] [] [] := ⟨o7 _ _ hw6, o7 _ _ hl6, o7 _ _ hu6, ⟨bx, bY, bz, rb3.mono o37.tm, y0, y1⟩, ⟨z1, z2, z3, o37 _ _ hnl⟩, o7 _ _ hf6, ho7, ⟨n1, n3, n5, nnl, n2, n4, n6, n7, n8⟩⟩
  refine ⟨wa, l, u, nl, fl, ol, .ref ba, ms, [], [], [], 7, rfl, W, by decide, by decide, by decide, by decide, by decide, fun t v ns8 us8 fv8 H8 g8 rt8 wt dt hl8 hu8 lus hf8 rf8 lfv => ?_⟩
  have hf8' : H8 fl = some (.lst fv8) := hf8
  have rb8 := (rb3.mono o37.tm).mono (tm3 g8 W.hl W.hu W.hfl)
  have n7k : nn 7 = 5461 := by decide +kernel
  rw [n7k] at lus lfv
  have lus' : us8.length ≤ 5461 := by simpa using lus
  clear hf8 W o37 o7 o6 o5 o4 ho7 hw6 hl6 hu6 hf6 hol hwa hfl hu hf5 hu4 rb3 hba3 hnl hl3 o3 g8
  refine ⟨_, rfl, v, t, rfl, rt8, wt, by omega, fun tv H9 o9 rtv => ⟨_, rfl, fl, fv8, t.frees [], rfl, o9 _ _ hf8', rf8.mono o9.tm, fun dv H10 o10 rdv => ne_due (rtv.mono o10.tm) rdv ⟨_, rfl, iteF ?_⟩⟩⟩
  have oX := o9.trans o10
  have hfX := oX _ _ hf8'
  have huX := oX _ _ hu8
  have rtX := rt8.mono oX.tm
  have rfX := rf8.mono oX.tm
  have rbX := rb8.mono oX.tm
  clear o9 o10 oX rtv rdv rf8 rt8 rb8 hf8' hu8 hl8
  dsimp only [tNext]
  refine ⟨_, rfl, by show 0 ≤ sizeLine; decide, fun e0 he0 => ?_⟩
  have o11 : Old H10 (upd H10 e0 (.lst [])) := Old.new he0
  have hn11 : upd H10 e0 (.lst []) e0 = some (.lst []) := upd_same
  generalize upd H10 e0 (.lst []) = H11 at o11 hn11 ⊢
  have hfE := o11 _ _ hfX
  have lq := rfX.length
  have lq' : (t.frees []).length = fv8.length := by
    rw [← lq]
    exact (List.length_map _).symm
  cases eq : t.frees [] with
  | nil =>
    rw [eq] at lq'
    have e1 : fv8 = [] := List.length_eq_zero_iff.mp lq'.symm
    subst e1
    exact .inr (eqQK (.lists (ds := []) (SqL.of hfE) (SqL.of hn11) rfl rfl (Nat.zero_le _)) ⟨_, rfl, iteT (q _)⟩)
  | cons q0 qr =>
  obtain ⟨pp, zz⟩ := q0
  rw [eq] at rfX lq'
  match fv8, rfX, lq', hfX, hfE, lfv with
  | [], _, lq', _, _, _ => simp at lq'
  | v0 :: fvr, rfX, lq', hfX, hfE, lfv =>
  refine .inr (eqQK (.lens (SqL.of hfE) (SqL.of hn11) (by simp)) ⟨_, rfl, iteF ?_⟩)
  have huE := o11 _ _ huX
  have rtE := rtX.mono o11.tm
  have rfE := rfX.mono o11.tm
  have rbE := rbX.mono o11.tm
  clear hfX huX rtX rfX rbX o11 hn11 he0
  obtain ⟨_, _, ev, r0, _⟩ := id rfE
  cases ev
  obtain ⟨ta, tus, rfl, hta, rus⟩ := RK.get r0
  obtain ⟨v1, _, rfl, k1, v2, _, rfl, k2, e⟩ := rus
  cases (show _ = [] from e)
  cases RK.str k2
  refine ⟨_, rfl, .inl ⟨fl, _, 0, .ref ta, rfl, rfl, SqL.of hfE, at0, .inr (.inl ⟨ta, _, 1, .str zz, rfl, rfl, hta.sq, at1, ?_⟩)⟩⟩
  refine ⟨_, rfl, _, rfl, u, us8, .ref ba, bx, bY, bz, rfl, huE, by omega, rbE, y0, y1, fun a1 a10 a11 => ?_⟩
  have tm12 : Tm H11 (upd H11 u (.lst ((us8 ++ [a1]).map V.int))) := fun b xs e => by
    rw [upd_ne]
    · exact e
    · intro z
      rw [z, huE] at e
      cases e
  have hu12 : upd H11 u (.lst ((us8 ++ [a1]).map V.int)) u = some (.lst ((us8 ++ [a1]).map V.int)) := upd_same
  have hf12 : upd H11 u (.lst ((us8 ++ [a1]).map V.int)) fl = _ := (upd_ne (Ne.symm n5)).trans hfE
  generalize upd H11 u (.lst ((us8 ++ [a1]).map V.int)) = H12 at tm12 hu12 hf12 ⊢
  refine ⟨_, rfl, _, rfl, _, rfl, u, us8 ++ [a1], .ref ba, bx, bY, bz, rfl, hu12, by rw [List.length_append]; show _ + 1 ≤ 500000; omega, rbE.mono tm12, y0, y1, fun a2 a20 a21 => ?_⟩
  have tm13 : Tm H12 (upd H12 u (.lst ((us8 ++ [a1] ++ [a2]).map V.int))) := fun b xs e => by
    rw [upd_ne]
    · exact e
    · intro z
      rw [z, hu12] at e
      cases e
  have hf13 : upd H12 u (.lst ((us8 ++ [a1] ++ [a2]).map V.int)) fl = _ := (upd_ne (Ne.symm n5)).trans hf12
  generalize upd H12 u (.lst ((us8 ++ [a1] ++ [a2]).map V.int)) = H13 at tm13 hf13 ⊢
  refine ⟨by show 3 ≤ sizeLine; decide, fun wb hwb => ?_⟩
  have o14 : Old H13 (upd H13 wb (.tup [.str "whole", .int a2, .int 3])) := Old.new hwb
  have r14 : RK K (upd H13 wb (.tup [.str "whole", .int a2, .int 3])) (.tup [.str "whole", .int a2, .int 3]) (.ref wb) := RK.tup (.of upd_same) (.cons (.s _) (.cons (.i _) (.cons (.i _) .nil)))
  generalize upd H13 wb (.tup [.str "whole", .int a2, .int 3]) = H14 at o14 r14 ⊢
  refine ⟨_, rfl, by show 5 ≤ sizeLine; decide, fun ra hra => ?_⟩
  have o15 : Old H14 (upd H14 ra (.tup [.str "let", .int a1, .str zz, .ref wb, v])) := Old.new hra
  have rt15 := (((rtE.mono tm12).mono tm13).mono o14.tm).mono o15.tm
  have rar : RK K (upd H14 ra (.tup [.str "let", .int a1, .str zz, .ref wb, v])) (arnd a1 a2 zz t).d (.ref ra) := by
    rw [arnd_d]
    exact RK.tup (.of upd_same) (.cons (.s _) (.cons (.i _) (.cons (.s _) (.cons (r14.mono o15.tm) (.cons rt15 .nil)))))
  have rf15 := (((rfE.mono tm12).mono tm13).mono o14.tm).mono o15.tm
  have hf15 := o15 _ _ (o14 _ _ hf13)
  generalize upd H14 ra (.tup [.str "let", .int a1, .str zz, .ref wb, v]) = H15 at o15 rt15 rar rf15 hf15 ⊢
  clear rtE rfE rbE huE hfE tm12 tm13 hu12 hf12 hf13 o14 r14 o15 hwb hra hta r0 k1 k2
  refine ⟨_, rfl, fl, rfl, .inl ⟨⟨_, SqL.of hf15⟩, fun D hD => ?_⟩⟩
  have neD : ∀ b o, H15 b = some o → b ≠ D := fun b o e => ne_of_none e hD
  generalize efv : V.ref ta :: fvr = fvA at hf15 rf15 lq' lfv
  generalize eqs : (pp, zz) :: qr = qs at rf15 lq' eq
  refine lc_by (n := fvA.length) (fun i σ H' => ∃ (k1 : Option V) (lv : List V), σ = [k1, some (.ref a), some (.ref l), some (.int c), some (.int (1 + st)), some (.ref ba), some (.ref nl), some (.ref u), some (.ref fl), some v, some (.str zz), some (.ref ra), none] ∧ Old H15 H' ∧ H' D = some (.lst lv) ∧ RKs K H' (pds ((qs.take i).filter fun q => decide (q.2 ≠ zz))) lv ∧ lv.length ≤ i)
    ⟨none, [], rfl, Old.new hD, upd_same, .nil, Nat.le_refl _⟩ ?_ ?_ ?_ ?_
  · intro i σ H' hi hv
    obtain ⟨k1, lv, rfl, oi, hDi, rlv, llv⟩ := hv
    exact ⟨_, _, SqL.of (oi _ _ hf15), List.getElem?_eq_getElem hi⟩
  · intro σ H' hv
    obtain ⟨k1, lv, rfl, oi, hDi, rlv, llv⟩ := hv
    exact ⟨_, SqL.of (oi _ _ hf15), Nat.le_refl _⟩
  · intro i σ H' hi hv y H'' hy
    obtain ⟨k1, lv, rfl, oi, hDi, rlv, llv⟩ := hv
    obtain ⟨e1, hyx⟩ := hy
    subst e1
    have ey := hyx _ (SqL.of (oi _ _ hf15))
    have iq : i < qs.length := by omega
    obtain ⟨dd, ed, rd⟩ := (rf15.mono oi.tm).getV ey
    rw [show (pds qs)[i]? = some (.tup [.int qs[i].1, .str qs[i].2]) by unfold pds; rw [List.getElem?_map, List.getElem?_eq_getElem iq]; rfl] at ed
    cases ed
    obtain ⟨tb, tbs, rfl, htb, rbs⟩ := RK.get (id rd)
    obtain ⟨v1, _, rfl, k1', v2, _, rfl, k2', e⟩ := rbs
    cases (show _ = [] from e)
    cases RK.str k2'
    have fs : (qs.take (i + 1)).filter (fun q => decide (q.2 ≠ zz)) = (qs.take i).filter (fun q => decide (q.2 ≠ zz)) ++ (if decide (qs[i].2 ≠ zz) = true then [qs[i]] else []) := by
      rw [take_snoc iq, List.filter_append]
      congr 1
      rw [List.filter_cons]
      rfl
    refine ⟨_, rfl, .inr (.inl ⟨tb, _, 1, .str qs[i].2, rfl, rfl, htb.sq, at1, _, rfl, .inr (.inl ⟨rfl, _, rfl, ?_⟩)⟩)⟩
    rw [dec_s]
    by_cases cz : qs[i].2 = zz
    · rw [decide_eq_true cz]
      refine iteF (nx hi ⟨_, lv, rfl, oi, hDi, ?_, by omega⟩)
      rw [fs, if_neg (by simp [cz]), List.append_nil]
      exact rlv
    · rw [decide_eq_false cz]
      refine iteT ⟨_, rfl, lv, hDi, smallM (by omega), nx hi ⟨_, lv ++ [.ref tb], rfl, fun b o e => by rw [upd_ne (neD b o e)]; exact oi b o e, upd_same, ?_, by rw [List.length_append]; show _ + 1 ≤ _; omega⟩⟩
      rw [fs, if_pos (by simp [cz]), pds_append]
      have tmD : Tm H'' (upd H'' D (.lst (lv ++ [.ref tb]))) := fun b xs e => by
        rw [upd_ne]
        · exact e
        · intro z
          rw [z, hDi] at e
          cases e
      exact (rlv.mono tmD).append (.cons (rd.mono tmD) .nil)
  intro σ H16 hv
  obtain ⟨k1, lv, rfl, o16, hD16, rlv, llv⟩ := hv
  rw [← lq', List.take_length] at rlv
  refine ⟨_, rfl, .ref ra, arnd a1 a2 zz t, rfl, rar.mono o16.tm, arnd_wf wt a10 a11 a20 a21, by show 1 + max 1 (max t.dep 0) < 12; omega, fun tv2 H17 o17 rtv2 => ⟨_, rfl, D, lv, _, rfl, o17 _ _ hD16, rlv.mono o17.tm, fun dv2 H18 o18 rdv2 => ne_due (q := qs.filter fun q => decide (q.2 ≠ zz)) (by rw [arnd_frees, eq] at rtv2; exact rtv2.mono o18.tm) rdv2 ⟨_, rfl, iteF ?_⟩⟩⟩
  have oZ := o16.trans (o17.trans o18)
  refine ⟨_, rfl, v, t, rfl, rt15.mono oZ.tm, wt, by omega, fun tv3 H19 o19 rtv3 => ⟨_, rfl, fl, fvA, qs, rfl, o19 _ _ (oZ _ _ hf15), rf15.mono (oZ.trans o19).tm, fun dv3 H20 o20 rdv3 => eq_due (q := qs) (by rw [eq] at rtv3; exact rtv3.mono o20.tm) rdv3 (q _)⟩⟩
end
end L2.K12

end
section
set_option Elab.async false
set_option linter.all false
set_option maxRecDepth 100000
set_option maxHeartbeats 4000000
namespace L2.K12
open PySem PySem.Spec PyProof.Rows L2.Bw L2.Bk L2.Ex
section
variable {P : Program} {w : World} {K : PySem.W.Frag} {mg : Str → Option Value} {base : Heap} {f : Addr} {fd : FuncData}
theorem none_of {k : Nat} {ps : List Str} {sp : Sp} (no : ∀ vs H Q E, ¬ sp vs H Q E) : FnOk P w K mg base CX0 k f fd ps sp := ⟨fun vs H Q E h => absurd h (no vs H Q E), fun A outer s H args us vs Q E _ _ _ _ h => absurd h (no vs H Q E)⟩
theorem no_tree : ∀ vs H Q E, ¬ spTree K 0 vs H Q E := fun vs H Q E h => by
  obtain ⟨wa, l, u, nl, fl, ol, bv, ns, us, fv, bs, room, _, _, _, h2, _⟩ := h
  omega
theorem no_NB {C : Addr} : ∀ vs H Q E, ¬ spNB K C 0 vs H Q E := fun vs H Q E h => by
  obtain ⟨v, y, t, bs, _, _, _, _, h1, _⟩ := h
  omega
/-- a def that calls itself, by the number of calls -/
theorem cal_recL {x : Str} {ps : List Str} {sp : Nat → Sp} (lv : Nat → Nat) (b : Binds K fd ps []) (kp : PySem.W.keepIn K (.ref f) = true) (m : mg x = some (.ref f)) (no : ∀ vs H Q E, ¬ sp 0 vs H Q E)
    (step : ∀ n, Cal P w K mg base x ps (lv n) (sp n) → FnOk P w K mg base CX0 (lv (n + 1)) f fd ps (sp (n + 1))) : ∀ n, Cal P w K mg base x ps (lv n) (sp n)
  | 0 => ⟨⟨f, fd, none_of no, b, kp, m⟩⟩
  | n + 1 => ⟨⟨f, fd, step n (cal_recL lv b kp m no step n), b, kp, m⟩⟩
end
/-- a def stands at the program's top -/
noncomputable def Here (K : PySem.W.Frag) (x : Str) (st : Stmt) : Prop := ∃ f fd, Fun K x x st f fd ∧ PySem.W.nsIn K mainGlobals x = some (some (.ref f))
theorem here_mk {K : PySem.W.Frag} {x : Str} {st : Stmt} {f : Addr} {od an : Option Addr} {sl : Array (Option Value)} {oc kV dc pm cd ct : Value} (a : PySem.W.nsIn K mainGlobals x = some (some (.ref f)))
    (l : K.lookup f = some ⟨oc, od, .func (PySem.W.fnOf x x (defArgs st) (defBody st) (defScope st) .none kV dc pm an cd ct), sl⟩) (c : PySem.W.codeIn K cd x = true) (k : PySem.W.keepIn K (.ref f) = true) : Here K x st := ⟨f, _, fun_mk l c k, a⟩
noncomputable def B_FORMS (K : PySem.W.Frag) : Prop := ∃ fa, PySem.W.nsIn K mainGlobals "FORMS" = some (some (.ref fa)) ∧ KTD.tabLook (lookT K) (fun b => K.lookup b) fa K11.table = true
theorem tab_FORMS {K : PySem.W.Frag} {fa : Addr} (a : PySem.W.nsIn K mainGlobals "FORMS" = some (some (.ref fa))) (h : KTD.tabLook (lookT K) (fun b => K.lookup b) fa K11.table = true) : B_FORMS K := ⟨fa, a, h⟩
theorem noneX {P : Program} {w : World} {K : PySem.W.Frag} {mg : Str → Option Value} {base : Heap} {f : Addr} {fd : FuncData} {k : Nat} {ps : List Str} {sp : Sp} (no : ∀ vs H Q E, ¬ sp vs H Q E) : FnOk P w K mg base (CXF P w) k f fd ps sp := ⟨fun vs H Q E h => absurd h (no vs H Q E), fun A outer s H args us vs Q E _ _ _ _ h => absurd h (no vs H Q E)⟩
/-- a def that calls itself and may raise, by the number of calls -/
theorem calx_recL {P : Program} {w : World} {K : PySem.W.Frag} {mg : Str → Option Value} {base : Heap} {f : Addr} {fd : FuncData} {x : Str} {ps : List Str} {sp : Nat → Sp} (lv : Nat → Nat) (b : Binds K fd ps []) (kp : PySem.W.keepIn K (.ref f) = true) (m : mg x = some (.ref f)) (no : ∀ vs H Q E, ¬ sp 0 vs H Q E)
    (step : ∀ n, CalX P w K mg base x ps (lv n) (sp n) → FnOk P w K mg base (CXF P w) (lv (n + 1)) f fd ps (sp (n + 1))) : ∀ n, CalX P w K mg base x ps (lv n) (sp n)
  | 0 => ⟨⟨f, fd, noneX no, b, kp, m⟩⟩
  | n + 1 => ⟨⟨f, fd, step n (calx_recL lv b kp m no step n), b, kp, m⟩⟩
structure XC (K : PySem.W.Frag) (C B fI D1 D2 D3 D4 D5 D6 D7 : Addr) : Prop where
  a : PySem.W.nsIn K mainGlobals "NoName" = some (some (.ref C))
  aB : PySem.W.nsIn K mainGlobals "BlameError" = some (some (.ref B))
  a1 : PySem.W.nsIn K mainGlobals "NoFit" = some (some (.ref D1))
  a2 : PySem.W.nsIn K mainGlobals "NoLook" = some (some (.ref D2))
  a3 : PySem.W.nsIn K mainGlobals "NoPart" = some (some (.ref D3))
  a4 : PySem.W.nsIn K mainGlobals "NoText" = some (some (.ref D4))
  a5 : PySem.W.nsIn K mainGlobals "Parted" = some (some (.ref D5))
  a6 : PySem.W.nsIn K mainGlobals "TooDeep" = some (some (.ref D6))
  a7 : PySem.W.nsIn K mainGlobals "TooMany" = some (some (.ref D7))
  own : OwnI K C fI veB "ValueError.__new__"
  ini : ∃ fd, Fun K "__init__" "NoName.__init__" sInit fI fd
  xf : ExFind K C
  st : ExSet K C
  kp : PySem.W.keepIn K (.ref C) = true
  ty : PySem.W.typeIn K (.ref C) = some (.type "type")
  hh : PySem.W.hasDictIn K C = true
  pl : PySem.W.findIn K (.ref C) "place" = some none
  bc : ExCls K B
  bi : BInit K B
  hm : PySem.W.mroIn K C (.ref B) = some true
  i1 : PySem.W.kitOne K (.ref C) (.ref D1) = some false
  i2 : PySem.W.kitOne K (.ref C) (.ref D2) = some false
  i3 : PySem.W.kitOne K (.ref C) (.ref D3) = some false
  i4 : PySem.W.kitOne K (.ref C) (.ref D4) = some false
  i5 : PySem.W.kitOne K (.ref C) (.ref D5) = some false
  i6 : PySem.W.kitOne K (.ref C) (.ref D6) = some false
  i7 : PySem.W.kitOne K (.ref C) (.ref D7) = some false
  i8 : PySem.W.kitOne K (.ref C) (.type "ValueError") = some true
  i9 : PySem.W.kitOne K (.ref C) (.ref C) = some true
noncomputable def X_NoName (K : PySem.W.Frag) : Prop := ∃ C B fI D1 D2 D3 D4 D5 D6 D7 : Addr, XC K C B fI D1 D2 D3 D4 D5 D6 D7
theorem x_NoName {K : PySem.W.Frag} {C B fI D1 D2 D3 D4 D5 D6 D7 : Addr} {nm q : Str} {N : Addr} {bs bm : List Value} {hdct : Bool} {sn : List Str} {sub : List Value} {ab : Bool} {col : Option Bool} {dd : Option Addr} {k0 k1 k2 k3 k5 : Option Value} {ofd anf : Option Addr} {slf : Array (Option Value)} {ocf kVf dcf pmf cdf ctf : Value}
    (a : PySem.W.nsIn K mainGlobals "NoName" = some (some (.ref C))) (aB : PySem.W.nsIn K mainGlobals "BlameError" = some (some (.ref B))) (a1 : PySem.W.nsIn K mainGlobals "NoFit" = some (some (.ref D1))) (a2 : PySem.W.nsIn K mainGlobals "NoLook" = some (some (.ref D2))) (a3 : PySem.W.nsIn K mainGlobals "NoPart" = some (some (.ref D3))) (a4 : PySem.W.nsIn K mainGlobals "NoText" = some (some (.ref D4))) (a5 : PySem.W.nsIn K mainGlobals "Parted" = some (some (.ref D5))) (a6 : PySem.W.nsIn K mainGlobals "TooDeep" = some (some (.ref D6))) (a7 : PySem.W.nsIn K mainGlobals "TooMany" = some (some (.ref D7))) (l : K.lookup C = some (excClassObj nm q C N bs bm hdct sn sub ab col dd k0 k1 k2 k3 k5 "ValueError.__new__"))
    (t : PySem.W.tailIn K [.type "ValueError", .type "Exception", .type "BaseException", .type "object"] bm = true) (ini : PySem.W.findIn K (.ref C) "__init__" = some (some (.ref fI))) (fl : K.lookup fI = some ⟨ocf, ofd, .func (PySem.W.fnOf "__init__" "NoName.__init__" (defArgs sInit) (defBody sInit) (defScope sInit) .none kVf dcf pmf anf cdf ctf), slf⟩) (fn : PySem.W.isFn K (.ref fI) = true) (fc : PySem.W.codeIn K cdf "NoName.__init__" = true) (fk : PySem.W.keepIn K (.ref fI) = true) (ga : PySem.W.findIn K (.ref C) "__getattribute__" = some (some (.builtin "BaseException.__getattribute__"))) (gn : PySem.W.findIn K (.ref C) "__getattr__" = some none) (cl : PySem.W.findIn K (.ref C) "__class__" = some (some (.builtin "object.__class__"))) (sg : PySem.W.specialIn K (.builtin "object.__class__") "__get__" = some (some (.builtin "getset_descriptor.__get__"))) (tk : PySem.W.takesIn K (.builtin "object.__class__") = some true) (ob : PySem.W.mroIn K C (.type "object") = some true) (be : PySem.W.mroIn K C (.type "BaseException") = some true) (is : (PySem.W.clsIn K C).isSome = true) (kp : PySem.W.keepIn K (.ref C) = true) (tyC : PySem.W.typeIn K (.ref C) = some (.type "type")) (sa : PySem.W.findIn K (.ref C) "__setattr__" = some (some (.builtin "object.__setattr__"))) (ov : ((PySem.W.clsIn K C).any fun cd => overB veB cd.mro) = true) (hdc : ((PySem.W.clsIn K C).any fun cd => cd.hasDict) = true) (hh : PySem.W.hasDictIn K C = true) (pl : PySem.W.findIn K (.ref C) "place" = some none) (b1 : PySem.W.typeIn K (.ref B) = some (.type "type")) (b2 : (PySem.W.clsIn K B).isSome = true) (b3 : PySem.W.mroIn K B (.type "BaseException") = some true) (hm : PySem.W.mroIn K C (.ref B) = some true) (g1 : PySem.W.specialIn K (.ref B) "__getattribute__" = some (some (.builtin "type.__getattribute__"))) (g2 : PySem.W.readsIn K B (.type "type") = true) (g3 : PySem.W.findCls K (.ref B) (.type "type") "__init__" = some (.val (.builtin "ValueError.__init__"))) (i1 : PySem.W.kitOne K (.ref C) (.ref D1) = some false) (i2 : PySem.W.kitOne K (.ref C) (.ref D2) = some false) (i3 : PySem.W.kitOne K (.ref C) (.ref D3) = some false) (i4 : PySem.W.kitOne K (.ref C) (.ref D4) = some false) (i5 : PySem.W.kitOne K (.ref C) (.ref D5) = some false) (i6 : PySem.W.kitOne K (.ref C) (.ref D6) = some false) (i7 : PySem.W.kitOne K (.ref C) (.ref D7) = some false) (i8 : PySem.W.kitOne K (.ref C) (.type "ValueError") = some true) (i9 : PySem.W.kitOne K (.ref C) (.ref C) = some true) : X_NoName K :=
  ⟨C, B, fI, D1, D2, D3, D4, D5, D6, D7, { a := a, aB := aB, a1 := a1, a2 := a2, a3 := a3, a4 := a4, a5 := a5, a6 := a6, a7 := a7, own := ⟨⟨nm, q, N, bs, bm, hdct, sn, sub, ab, col, dd, k0, k1, k2, k3, k5, l, t⟩, ini, fn⟩, ini := ⟨_, fun_mk fl fc fk⟩, xf := ⟨ga, gn, cl, sg, tk, ob, be, is⟩, st := ⟨sa, ov, hdc, ob⟩, kp := kp, ty := tyC, hh := hh, pl := pl, bc := ⟨b1, b2, b3⟩, bi := ⟨g1, g2, g3⟩, hm := hm, i1 := i1, i2 := i2, i3 := i3, i4 := i4, i5 := i5, i6 := i6, i7 := i7, i8 := i8, i9 := i9 }⟩
structure Txt (K : PySem.W.Frag) : Prop where
  d_form : Here K "form" sForm
  d_indexes : Here K "indexes" sIndexes
  d_parts : Here K "parts" sParts
  d_names_bound : Here K "names_bound" sNb
  d_need_bound : Here K "need_bound" sNB
  d_need_names : Here K "need_names" sNN
  d__law_cell_at : Here K "_law_cell_at" sCell
  d__law_next : Here K "_law_next" sNext
  d__law_name : Here K "_law_name" sName
  d__law_fair : Here K "_law_fair" sFair
  d__law_names : Here K "_law_names" sNames
  d__law_pick : Here K "_law_pick" sPick
  d__law_place : Here K "_law_place" sPlace
  d__law_words : Here K "_law_words" sWords
  d__law_many : Here K "_law_many" sMany
  d__law_put : Here K "_law_put" sPut
  d__law_tree : Here K "_law_tree" sTree
  d__law_due : Here K "_law_due" sDue
  d__law_told : Here K "_law_told" sTold
  d_law : Here K "law" sLaw
  x_NoName : X_NoName K
  b_FORMS : B_FORMS K
  z_len : PySem.W.nsIn K mainGlobals "len" = some none
  z_isinstance : PySem.W.nsIn K mainGlobals "isinstance" = some none
  z_list : PySem.W.nsIn K mainGlobals "list" = some none
  z_tuple : PySem.W.nsIn K mainGlobals "tuple" = some none
  z_int : PySem.W.nsIn K mainGlobals "int" = some none
  z_bool : PySem.W.nsIn K mainGlobals "bool" = some none
  z_str : PySem.W.nsIn K mainGlobals "str" = some none
  z_range : PySem.W.nsIn K mainGlobals "range" = some none
  z_reversed : PySem.W.nsIn K mainGlobals "reversed" = some none
  z_enumerate : PySem.W.nsIn K mainGlobals "enumerate" = some none
  z_ord : PySem.W.nsIn K mainGlobals "ord" = some none
  z_ValueError : PySem.W.nsIn K mainGlobals "ValueError" = some none
theorem all_mk {l : PySem.W.OpenLaw} {w : World} {K : PySem.W.Frag} {h : Heap} {mg : Str → Option Value} {fa : Addr} (Y : K.In h) (G : h.Ns mainGlobals mg) (hfa : mg "law" = some (.ref fa)) (T : Txt K) :
    ∃ fd : FuncData, (∀ (s : Shared) (v : Value), BindsTo s fd ⟨[v], []⟩ [("_law_script", v)]) ∧ ∀ base : Heap, K.In base → base.Ns mainGlobals mg → FnOk l.prog w K mg base CX0 19 fa fd ["_law_script"] (spLaw K) := by
  have X : Tx mg := ⟨PySem.W.mg_none_of Y G T.z_len, PySem.W.mg_none_of Y G T.z_isinstance, PySem.W.mg_none_of Y G T.z_list, PySem.W.mg_none_of Y G T.z_tuple, PySem.W.mg_none_of Y G T.z_int, PySem.W.mg_none_of Y G T.z_bool, PySem.W.mg_none_of Y G T.z_str, PySem.W.mg_none_of Y G T.z_range, PySem.W.mg_none_of Y G T.z_reversed, PySem.W.mg_none_of Y G T.z_enumerate, PySem.W.mg_none_of Y G T.z_ord, PySem.W.mg_none_of Y G T.z_ValueError⟩
  obtain ⟨fL, fdL, FL, aL⟩ := T.d_law
  have e := hfa.symm.trans (PySem.W.mg_of Y G aL)
  cases e
  obtain ⟨C, B, fI, D1, D2, D3, D4, D5, D6, D7, xc⟩ := T.x_NoName
  obtain ⟨fdI, FI⟩ := xc.ini
  have m_NoName := PySem.W.mg_of Y G xc.a
  have m_BlameError := PySem.W.mg_of Y G xc.aB
  have m_NoFit := PySem.W.mg_of Y G xc.a1
  have m_NoLook := PySem.W.mg_of Y G xc.a2
  have m_NoPart := PySem.W.mg_of Y G xc.a3
  have m_NoText := PySem.W.mg_of Y G xc.a4
  have m_Parted := PySem.W.mg_of Y G xc.a5
  have m_TooDeep := PySem.W.mg_of Y G xc.a6
  have m_TooMany := PySem.W.mg_of Y G xc.a7
  have b_init : Binds K fdI ["self", "place"] [] := by
    obtain ⟨oc, od, kV, doc, pm, an, cdv, ct, osl, rfl, lk, hc⟩ := FI.ex
    exact FI.binds (ps := ["self", "place"]) fun _ _ _ _ _ _ us hl => match us, hl with | [_, _], _ => rfl
  obtain ⟨u_FORMS, aU_FORMS, k_FORMS⟩ := T.b_FORMS
  have m_FORMS := PySem.W.mg_of Y G aU_FORMS
  obtain ⟨f_form, fd_form, F_form, a_form⟩ := T.d_form
  have m_form := PySem.W.mg_of Y G a_form
  have b_form : Binds K fd_form ["word"] [] := by
    obtain ⟨oc, od, kV, doc, pm, an, cdv, ct, osl, rfl, lk, hc⟩ := F_form.ex
    exact F_form.binds (ps := ["word"]) fun _ _ _ _ _ _ us hl => match us, hl with | [_], _ => rfl
  obtain ⟨f_indexes, fd_indexes, F_indexes, a_indexes⟩ := T.d_indexes
  have m_indexes := PySem.W.mg_of Y G a_indexes
  have b_indexes : Binds K fd_indexes ["tree", "sort"] [] := by
    obtain ⟨oc, od, kV, doc, pm, an, cdv, ct, osl, rfl, lk, hc⟩ := F_indexes.ex
    exact F_indexes.binds (ps := ["tree", "sort"]) fun _ _ _ _ _ _ us hl => match us, hl with | [_, _], _ => rfl
  obtain ⟨f_parts, fd_parts, F_parts, a_parts⟩ := T.d_parts
  have m_parts := PySem.W.mg_of Y G a_parts
  have b_parts : Binds K fd_parts ["tree"] [] := by
    obtain ⟨oc, od, kV, doc, pm, an, cdv, ct, osl, rfl, lk, hc⟩ := F_parts.ex
    exact F_parts.binds (ps := ["tree"]) fun _ _ _ _ _ _ us hl => match us, hl with | [_], _ => rfl
  obtain ⟨f_names_bound, fd_names_bound, F_names_bound, a_names_bound⟩ := T.d_names_bound
  have m_names_bound := PySem.W.mg_of Y G a_names_bound
  have b_names_bound : Binds K fd_names_bound ["tree", "number"] [] := by
    obtain ⟨oc, od, kV, doc, pm, an, cdv, ct, osl, rfl, lk, hc⟩ := F_names_bound.ex
    exact F_names_bound.binds (ps := ["tree", "number"]) fun _ _ _ _ _ _ us hl => match us, hl with | [_, _], _ => rfl
  obtain ⟨f_need_bound, fd_need_bound, F_need_bound, a_need_bound⟩ := T.d_need_bound
  have m_need_bound := PySem.W.mg_of Y G a_need_bound
  have b_need_bound : Binds K fd_need_bound ["tree", "bound"] [] := by
    obtain ⟨oc, od, kV, doc, pm, an, cdv, ct, osl, rfl, lk, hc⟩ := F_need_bound.ex
    exact F_need_bound.binds (ps := ["tree", "bound"]) fun _ _ _ _ _ _ us hl => match us, hl with | [_, _], _ => rfl
  obtain ⟨f_need_names, fd_need_names, F_need_names, a_need_names⟩ := T.d_need_names
  have m_need_names := PySem.W.mg_of Y G a_need_names
  have b_need_names : Binds K fd_need_names ["tree"] [] := by
    obtain ⟨oc, od, kV, doc, pm, an, cdv, ct, osl, rfl, lk, hc⟩ := F_need_names.ex
    exact F_need_names.binds (ps := ["tree"]) fun _ _ _ _ _ _ us hl => match us, hl with | [_], _ => rfl
  obtain ⟨f__law_cell_at, fd__law_cell_at, F__law_cell_at, a__law_cell_at⟩ := T.d__law_cell_at
  have m__law_cell_at := PySem.W.mg_of Y G a__law_cell_at
  have b__law_cell_at : Binds K fd__law_cell_at ["_law_script", "_law_k"] [] := by
    obtain ⟨oc, od, kV, doc, pm, an, cdv, ct, osl, rfl, lk, hc⟩ := F__law_cell_at.ex
    exact F__law_cell_at.binds (ps := ["_law_script", "_law_k"]) fun _ _ _ _ _ _ us hl => match us, hl with | [_, _], _ => rfl
  obtain ⟨f__law_next, fd__law_next, F__law_next, a__law_next⟩ := T.d__law_next
  have m__law_next := PySem.W.mg_of Y G a__law_next
  have b__law_next : Binds K fd__law_next ["_law_xs", "_law_many_here"] [] := by
    obtain ⟨oc, od, kV, doc, pm, an, cdv, ct, osl, rfl, lk, hc⟩ := F__law_next.ex
    exact F__law_next.binds (ps := ["_law_xs", "_law_many_here"]) fun _ _ _ _ _ _ us hl => match us, hl with | [_, _], _ => rfl
  obtain ⟨f__law_name, fd__law_name, F__law_name, a__law_name⟩ := T.d__law_name
  have m__law_name := PySem.W.mg_of Y G a__law_name
  have b__law_name : Binds K fd__law_name ["_law_xs"] [] := by
    obtain ⟨oc, od, kV, doc, pm, an, cdv, ct, osl, rfl, lk, hc⟩ := F__law_name.ex
    exact F__law_name.binds (ps := ["_law_xs"]) fun _ _ _ _ _ _ us hl => match us, hl with | [_], _ => rfl
  obtain ⟨f__law_fair, fd__law_fair, F__law_fair, a__law_fair⟩ := T.d__law_fair
  have m__law_fair := PySem.W.mg_of Y G a__law_fair
  have b__law_fair : Binds K fd__law_fair ["_law_word"] [] := by
    obtain ⟨oc, od, kV, doc, pm, an, cdv, ct, osl, rfl, lk, hc⟩ := F__law_fair.ex
    exact F__law_fair.binds (ps := ["_law_word"]) fun _ _ _ _ _ _ us hl => match us, hl with | [_], _ => rfl
  obtain ⟨f__law_names, fd__law_names, F__law_names, a__law_names⟩ := T.d__law_names
  have m__law_names := PySem.W.mg_of Y G a__law_names
  have b__law_names : Binds K fd__law_names ["_law_cell"] [] := by
    obtain ⟨oc, od, kV, doc, pm, an, cdv, ct, osl, rfl, lk, hc⟩ := F__law_names.ex
    exact F__law_names.binds (ps := ["_law_cell"]) fun _ _ _ _ _ _ us hl => match us, hl with | [_], _ => rfl
  obtain ⟨f__law_pick, fd__law_pick, F__law_pick, a__law_pick⟩ := T.d__law_pick
  have m__law_pick := PySem.W.mg_of Y G a__law_pick
  have b__law_pick : Binds K fd__law_pick ["_law_xs", "_law_names_here"] [] := by
    obtain ⟨oc, od, kV, doc, pm, an, cdv, ct, osl, rfl, lk, hc⟩ := F__law_pick.ex
    exact F__law_pick.binds (ps := ["_law_xs", "_law_names_here"]) fun _ _ _ _ _ _ us hl => match us, hl with | [_, _], _ => rfl
  obtain ⟨f__law_place, fd__law_place, F__law_place, a__law_place⟩ := T.d__law_place
  have m__law_place := PySem.W.mg_of Y G a__law_place
  have b__law_place : Binds K fd__law_place ["_law_used", "_law_base"] [] := by
    obtain ⟨oc, od, kV, doc, pm, an, cdv, ct, osl, rfl, lk, hc⟩ := F__law_place.ex
    exact F__law_place.binds (ps := ["_law_used", "_law_base"]) fun _ _ _ _ _ _ us hl => match us, hl with | [_, _], _ => rfl
  obtain ⟨f__law_words, fd__law_words, F__law_words, a__law_words⟩ := T.d__law_words
  have m__law_words := PySem.W.mg_of Y G a__law_words
  have b__law_words : Binds K fd__law_words ["_law_word"] [] := by
    obtain ⟨oc, od, kV, doc, pm, an, cdv, ct, osl, rfl, lk, hc⟩ := F__law_words.ex
    exact F__law_words.binds (ps := ["_law_word"]) fun _ _ _ _ _ _ us hl => match us, hl with | [_], _ => rfl
  obtain ⟨f__law_many, fd__law_many, F__law_many, a__law_many⟩ := T.d__law_many
  have m__law_many := PySem.W.mg_of Y G a__law_many
  have b__law_many : Binds K fd__law_many ["_law_xs", "_law_word"] [] := by
    obtain ⟨oc, od, kV, doc, pm, an, cdv, ct, osl, rfl, lk, hc⟩ := F__law_many.ex
    exact F__law_many.binds (ps := ["_law_xs", "_law_word"]) fun _ _ _ _ _ _ us hl => match us, hl with | [_, _], _ => rfl
  obtain ⟨f__law_put, fd__law_put, F__law_put, a__law_put⟩ := T.d__law_put
  have m__law_put := PySem.W.mg_of Y G a__law_put
  have b__law_put : Binds K fd__law_put ["_law_word", "_law_place_here", "_law_front", "_law_some"] [] := by
    obtain ⟨oc, od, kV, doc, pm, an, cdv, ct, osl, rfl, lk, hc⟩ := F__law_put.ex
    exact F__law_put.binds (ps := ["_law_word", "_law_place_here", "_law_front", "_law_some"]) fun _ _ _ _ _ _ us hl => match us, hl with | [_, _, _, _], _ => rfl
  obtain ⟨f__law_tree, fd__law_tree, F__law_tree, a__law_tree⟩ := T.d__law_tree
  have m__law_tree := PySem.W.mg_of Y G a__law_tree
  have b__law_tree : Binds K fd__law_tree ["_law_world", "_law_room", "_law_outer"] [] := by
    obtain ⟨oc, od, kV, doc, pm, an, cdv, ct, osl, rfl, lk, hc⟩ := F__law_tree.ex
    exact F__law_tree.binds (ps := ["_law_world", "_law_room", "_law_outer"]) fun _ _ _ _ _ _ us hl => match us, hl with | [_, _, _], _ => rfl
  obtain ⟨f__law_due, fd__law_due, F__law_due, a__law_due⟩ := T.d__law_due
  have m__law_due := PySem.W.mg_of Y G a__law_due
  have b__law_due : Binds K fd__law_due ["_law_free"] [] := by
    obtain ⟨oc, od, kV, doc, pm, an, cdv, ct, osl, rfl, lk, hc⟩ := F__law_due.ex
    exact F__law_due.binds (ps := ["_law_free"]) fun _ _ _ _ _ _ us hl => match us, hl with | [_], _ => rfl
  obtain ⟨f__law_told, fd__law_told, F__law_told, a__law_told⟩ := T.d__law_told
  have m__law_told := PySem.W.mg_of Y G a__law_told
  have b__law_told : Binds K fd__law_told ["_law_tree_here"] [] := by
    obtain ⟨oc, od, kV, doc, pm, an, cdv, ct, osl, rfl, lk, hc⟩ := F__law_told.ex
    exact F__law_told.binds (ps := ["_law_tree_here"]) fun _ _ _ _ _ _ us hl => match us, hl with | [_], _ => rfl
  refine ⟨fdL, ?_, fun base YB GB => ?_⟩
  · obtain ⟨oc, od, kV, doc, pm, an, cdv, ct, osl, rfl, lk, hc⟩ := FL.ex
    exact fun s v => .of_eq rfl
  have i_init : FnOk l.prog w K mg base CX0 1 fI fdI ["self", "place"] (spInit C) := ok_init (n := 0) FI X xc.bi xc.own m_BlameError xc.st xc.pl
  have c_form : Cal l.prog w K mg base "form" ["word"] 1 (spForm K) := ⟨⟨f_form, fd_form, ok_form F_form m_FORMS k_FORMS, b_form, F_form.kp, m_form⟩⟩
  have c_indexes : Cal l.prog w K mg base "indexes" ["tree", "sort"] 2 (spIndexes K) := ⟨⟨f_indexes, fd_indexes, ok_indexes F_indexes X c_form, b_indexes, F_indexes.kp, m_indexes⟩⟩
  have c_parts : Cal l.prog w K mg base "parts" ["tree"] 3 (spParts K) := ⟨⟨f_parts, fd_parts, ok_parts F_parts X c_indexes, b_parts, F_parts.kp, m_parts⟩⟩
  have c_names_bound : Cal l.prog w K mg base "names_bound" ["tree", "number"] 1 (spNb K) := ⟨⟨f_names_bound, fd_names_bound, ok_nb F_names_bound X, b_names_bound, F_names_bound.kp, m_names_bound⟩⟩
  have c_NB : ∀ n, CalX l.prog w K mg base "need_bound" ["tree", "bound"] (n + 4) (spNB K C n) := calx_recL (sp := spNB K C) (fun n => n + 4) b_need_bound F_need_bound.kp m_need_bound no_NB (fun n ih => ok_NB (m := n) F_need_bound X xc.own i_init b_init m_NoName xc.kp xc.xf.be xc.ty c_parts c_names_bound ih)
  have c_need_names : CalX l.prog w K mg base "need_names" ["tree"] 17 (spNN K C 12) := ⟨⟨f_need_names, fd_need_names, ok_NN (m := 12) F_need_names X (c_NB 12), b_need_names, F_need_names.kp, m_need_names⟩⟩
  have c__law_cell_at : Cal l.prog w K mg base "_law_cell_at" ["_law_script", "_law_k"] 1 (spCell K) := ⟨⟨f__law_cell_at, fd__law_cell_at, ok_cell F__law_cell_at X, b__law_cell_at, F__law_cell_at.kp, m__law_cell_at⟩⟩
  have c__law_next : Cal l.prog w K mg base "_law_next" ["_law_xs", "_law_many_here"] 1 (spNext K) := ⟨⟨f__law_next, fd__law_next, ok_next F__law_next X, b__law_next, F__law_next.kp, m__law_next⟩⟩
  have c__law_name : Cal l.prog w K mg base "_law_name" ["_law_xs"] 2 (spName K) := ⟨⟨f__law_name, fd__law_name, ok_name F__law_name X c__law_next, b__law_name, F__law_name.kp, m__law_name⟩⟩
  have c__law_fair : Cal l.prog w K mg base "_law_fair" ["_law_word"] 1 (spFair) := ⟨⟨f__law_fair, fd__law_fair, ok_fair F__law_fair X, b__law_fair, F__law_fair.kp, m__law_fair⟩⟩
  have c__law_names : Cal l.prog w K mg base "_law_names" ["_law_cell"] 3 (spNames K) := ⟨⟨f__law_names, fd__law_names, ok_names F__law_names X c__law_name c__law_fair, b__law_names, F__law_names.kp, m__law_names⟩⟩
  have c__law_pick : Cal l.prog w K mg base "_law_pick" ["_law_xs", "_law_names_here"] 3 (spPick K) := ⟨⟨f__law_pick, fd__law_pick, ok_pick F__law_pick X c__law_next c__law_name, b__law_pick, F__law_pick.kp, m__law_pick⟩⟩
  have c__law_place : Cal l.prog w K mg base "_law_place" ["_law_used", "_law_base"] 1 (spPlace K) := ⟨⟨f__law_place, fd__law_place, ok_place F__law_place X, b__law_place, F__law_place.kp, m__law_place⟩⟩
  have c__law_words : Cal l.prog w K mg base "_law_words" ["_law_word"] 1 (spWords) := ⟨⟨f__law_words, fd__law_words, ok_words F__law_words X, b__law_words, F__law_words.kp, m__law_words⟩⟩
  have c__law_many : Cal l.prog w K mg base "_law_many" ["_law_xs", "_law_word"] 2 (spMany K) := ⟨⟨f__law_many, fd__law_many, ok_many F__law_many X c__law_next, b__law_many, F__law_many.kp, m__law_many⟩⟩
  have c__law_put : Cal l.prog w K mg base "_law_put" ["_law_word", "_law_place_here", "_law_front", "_law_some"] 1 (spPut K) := ⟨⟨f__law_put, fd__law_put, ok_put F__law_put X, b__law_put, F__law_put.kp, m__law_put⟩⟩
  have c__law_tree : Cal l.prog w K mg base "_law_tree" ["_law_world", "_law_room", "_law_outer"] 11 (spTree K 8) := cal_recL (sp := spTree K) (fun n => n + 3) b__law_tree F__law_tree.kp m__law_tree no_tree (fun n ih => ok_tree F__law_tree X c__law_place c__law_words c__law_next c__law_pick c__law_many c__law_put ih) 8
  have c__law_due : Cal l.prog w K mg base "_law_due" ["_law_free"] 1 (spDue K) := ⟨⟨f__law_due, fd__law_due, ok_due F__law_due X, b__law_due, F__law_due.kp, m__law_due⟩⟩
  have c__law_told : Cal l.prog w K mg base "_law_told" ["_law_tree_here"] 18 (spTold K) := ⟨⟨f__law_told, fd__law_told, ok_told F__law_told X xc.bc m_BlameError xc.hm xc.xf xc.hh xc.pl m_NoFit m_NoLook m_NoPart m_NoText m_Parted m_TooDeep m_TooMany m_NoName xc.i1 xc.i2 xc.i3 xc.i4 xc.i5 xc.i6 xc.i7 xc.i8 xc.i9 c_need_names, b__law_told, F__law_told.kp, m__law_told⟩⟩
  exact ok_law (m := 0) FL X c__law_cell_at c__law_names c__law_place c__law_tree c__law_told c__law_due
theorem walk {l : PySem.W.OpenLaw} {q : Program} {loose : List Str} {XP : (Str → Option Value) → Heap → Prop} {YP : World → Heap → Prop} {d : DefRec} {K : Params → PySem.W.Frag} (hn : l.most = some 63) (hdf : d.params.defaults = [])
    (hY : ∀ (w : World) (h : Heap), YP w h → (K w.params).In h)
    (F : ∀ (w : World) (mg : Str → Option Value) (fa : Addr) (h : Heap), (K w.params).In h → h.Ns mainGlobals mg → mg d.name = some (.ref fa) →
      ∃ fd : FuncData, (∀ (s : Shared) (u : Value), BindsTo s fd ⟨[u], []⟩ [("_law_script", u)]) ∧ ∀ base : Heap, (K w.params).In base → base.Ns mainGlobals mg → FnOk l.prog w (K w.params) mg base CX0 19 fa fd ["_law_script"] (spLaw (K w.params))) :
    PySem.W.WalkO q loose XP YP l.row.toRowW d [] (fun f vs => PySem.call f vs) :=
  L2.walk_of (n := 63) (k := 19) (x := "_law_script") (CX := fun _ => CX0) (sp := fun w => spLaw (K w.params)) hn (by decide) hdf ⟨rfl, by decide, by decide⟩ hY F (fun _ _ a ns hl _ hS => ⟨a, ns, rfl, hS, hl, fun _ => rfl⟩) fun _ _ _ _ _ z => z
end L2.K12

end
section
set_option Elab.async false
set_option linter.all false
set_option maxRecDepth 100000
open PySem PySem.W PyProof.Rows
set_option maxRecDepth 100000 in
set_option maxHeartbeats 0 in
theorem PySem.Challenge.cw_blamewise_k12_names_bound_holds : PySem.Challenge.rw_blamewise_k12_names_bound.Holds := by
  w_on; o_law; k_head; (case hw => w_witness2)
  k_fill
  refine L2.K12.walk (l := PySem.Challenge.rw_blamewise_k12_names_bound) rfl rfl (fun w h Y => PySem.W.kIn_of Y) ?F
  case F =>
    intro w mg fa h KX G hmg
    have T : L2.K12.Txt (L2.KOf KX) := by
      dsimp only [L2.KOf]
      refine' L2.K12.Txt.mk  ?_ ?_ ?_ ?_ ?_ ?_ ?_ ?_ ?_ ?_ ?_ ?_ ?_ ?_ ?_ ?_ ?_ ?_ ?_ ?_ ?x_NoName ?b_FORMS ?_ ?_ ?_ ?_ ?_ ?_ ?_ ?_ ?_ ?_ ?_ ?_
      (case x_NoName => refine' L2.K12.x_NoName ?a ?aB ?a1 ?a2 ?a3 ?a4 ?a5 ?a6 ?a7 ?l ?t ?ini ?fl ?fn ?fc ?fk ?ga ?gn ?cl ?sg ?tk ?ob ?be ?is ?kp ?tyC ?sa ?ov ?hdc ?hh ?pl ?b1 ?b2 ?b3 ?hm ?g1 ?g2 ?g3 ?i1 ?i2 ?i3 ?i4 ?i5 ?i6 ?i7 ?i8 ?i9; (case a => k_is); (case aB => k_is); (case a1 => k_is); (case a2 => k_is); (case a3 => k_is); (case a4 => k_is); (case a5 => k_is); (case a6 => k_is); (case a7 => k_is); (case l => k_is); (case t => kernel_rfl); (case ini => k_is); (case fl => k_is); (case fn => k_is); (case fc => k_is); (case fk => k_is); (case ga => k_is); (case gn => k_is); (case cl => k_is); (case sg => k_is); (case tk => k_is); (case ob => k_is); (case be => k_is); (case is => kernel_rfl); (case kp => k_is); (case tyC => k_is); (case sa => k_is); (case ov => kernel_rfl); (case hdc => kernel_rfl); (case hh => k_is); (case pl => k_is); (case b1 => k_is); (case b2 => kernel_rfl); (case b3 => k_is); (case hm => k_is); (case g1 => k_is); (case g2 => kernel_rfl); (case g3 => kernel_rfl); (case i1 => kernel_rfl); (case i2 => kernel_rfl); (case i3 => kernel_rfl); (case i4 => kernel_rfl); (case i5 => kernel_rfl); (case i6 => kernel_rfl); (case i7 => kernel_rfl); (case i8 => kernel_rfl); (case i9 => kernel_rfl))
      (case b_FORMS => refine' L2.K12.tab_FORMS ?a ?t; (case a => k_is); (case t => kernel_rfl))
      all_goals first | (refine' L2.K12.here_mk ?a ?l ?c ?k; (case a => k_is); (case l => k_is); (case c => k_is); (case k => k_is)) | k_is
    exact L2.K12.all_mk KX G hmg T

end
